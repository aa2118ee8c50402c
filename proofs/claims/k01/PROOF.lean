import PyProof.Rows.All
import Wide.All
import OpenK.AllK
import Wide.FinOn
import PyProof.EqAt
import PyProof.EqKinds
import PyProof.TupleCall
import KE.KIsAll
import KE.KTryMore
import KE.KStateDown
import HandS.ForMost
import HandS.Exc
import HandS.ExcOwn
import HandS.ExcInit
import HandS.ExcIs
import HandS.Defaults
import HandS.HeadHook1
import HandS.ExcValue
import HandS.Wide
import HandS.Head0
import HandS.Head1
import HandS.Head2
import HandS.HeadEnd
import HandS.HeadHook2
import HandS.Steps
import KE.KOpsOwn
import PyProof.ListMulAny
import HandS.ExcCtx
import HandS.HotCalls
import HandS.Gcd
import HandS.SlotsOwn
import HandS.IsInst
import HandS.Head3
import HandS.Flow
import HandS.Dict
import PySem.Challenge.RW_anymethod_k01_ratio_arithmetic
set_option Elab.async false
set_option linter.all false
set_option maxRecDepth 100000
set_option maxHeartbeats 0
set_option exponentiation.threshold 300
namespace My
open PySem PySem.Spec PyProof.Rows L2 PySem.Calls

/-! ### exceptions of own classes as tracked objects -/
/-- what the written part says of an exception class of the program, at C -/
structure XCls (K : PySem.W.Frag) (C : Addr) : Prop where
  ox : OexC K C
  ga : PySem.W.findIn K (.ref C) "__getattribute__" = some (some (.builtin "BaseException.__getattribute__"))
  gt : PySem.W.findIn K (.ref C) "__getattr__" = some none
  hd : PySem.W.hasDictIn K C = true
  ca : PySem.W.findIn K (.ref C) "__class__" = some (some (.builtin "object.__class__"))
  cn : PySem.W.specialIn K (.builtin "object.__class__") "__get__" = some (some (.builtin "getset_descriptor.__get__"))
  ct : PySem.W.takesIn K (.builtin "object.__class__") = some true
  cm : PySem.W.mroIn K C (.type "object") = some true

def xobjB (K : PySem.W.Frag) (C : Addr) : Bool := match K.lookup C with
  | some ⟨.type c, _, .cls cd, sl⟩ => decide (c = "type") && (match cd.mro, sl.toList with
    | .ref D :: bm, [_, _, _, _, some (.builtin n), _] => decide (D = C) && (decide (n = "ValueError.__new__") && (!cd.hasDel && (cd.hasDict && PySem.HandSPX.refsVE bm)))
    | _, _ => false)
  | _ => false
theorem xobjB_ok {K : PySem.W.Frag} {C : Addr} (h : xobjB K C = true) :
    ∃ nm q N bs bm sn sub ab col dd k0 k1 k2 k3 k5, K.lookup C = some (excClassObj nm q C N bs bm true sn sub ab col dd k0 k1 k2 k3 k5 "ValueError.__new__") ∧ PySem.HandSPX.refsVE bm = true := by
  unfold xobjB at h
  split at h
  · rename_i c dd cd sl ho
    obtain ⟨hc, h⟩ := Bool.and_eq_true_iff.mp h
    split at h
    · rename_i D bm k0 k1 k2 k3 n k5 hm hs
      simp only [Bool.and_eq_true, decide_eq_true_eq, Bool.not_eq_true'] at h
      obtain ⟨rfl, rfl, hdel, hdi, hv⟩ := h
      have hc := of_decide_eq_true hc
      subst hc
      obtain ⟨nm, bs, mro, ns, qn, hd, sn, sub, ab, col, del⟩ := cd
      dsimp only at hm hdel hdi
      subst hm hdel hdi
      obtain ⟨l⟩ := sl
      simp only at hs
      subst hs
      exact ⟨nm, qn, ns, bs, bm, sn, sub, ab, col, dd, k0, k1, k2, k3, k5, ho, hv⟩
    · cases h
  · cases h
def xclsB (K : PySem.W.Frag) (C : Addr) : Bool :=
  xobjB K C && (decide (PySem.W.findIn K (.ref C) "__setattr__" = some (some (.builtin "object.__setattr__"))) && (decide (PySem.W.subIn K (.ref C) (.type "BaseException") = some true) &&
  (decide (PySem.W.typeIn K (.ref C) = some (.type "type")) && (PySem.W.keepIn K (.ref C) && (decide (PySem.W.findIn K (.ref C) "__getattribute__" = some (some (.builtin "BaseException.__getattribute__"))) &&
  (decide (PySem.W.findIn K (.ref C) "__getattr__" = some none) && (PySem.W.hasDictIn K C && (decide (PySem.W.findIn K (.ref C) "__class__" = some (some (.builtin "object.__class__"))) &&
  (decide (PySem.W.specialIn K (.builtin "object.__class__") "__get__" = some (some (.builtin "getset_descriptor.__get__"))) && (decide (PySem.W.takesIn K (.builtin "object.__class__") = some true) &&
  decide (PySem.W.mroIn K C (.type "object") = some true)))))))))))
theorem xclsB_ok {K : PySem.W.Frag} {C : Addr} (h : xclsB K C = true) : XCls K C := by
  unfold xclsB at h
  simp only [Bool.and_eq_true, decide_eq_true_eq] at h
  obtain ⟨h1, h2, h3, h4, h5, h6, h7, h8, h9, h10, h11, h12⟩ := h
  exact ⟨⟨xobjB_ok h1, h2, h3, h4, h5⟩, h6, h7, h8, h9, h10, h11, h12⟩

/-- an exception stands at e: its class at C, its dict (if there is one) and its fields -/
inductive XAt (H : Hp) (e C : Addr) : List (Str × V) → Prop
  | no (h : H e = some (exo e C none)) : XAt H e C []
  | at {d : Addr} {fs : List (Str × V)} (h : H e = some (exo e C (some d))) (hd : H d = some (exd d fs)) : XAt H e C fs
theorem XAt.same {H H' : Hp} {e C : Addr} {fs : List (Str × V)} (x : XAt H e C fs) (s : ∀ b o, H b = some o → H' b = some o) : XAt H' e C fs := by
  cases x with
  | no h => exact .no (s _ _ h)
  | «at» h hd => exact .at (s _ _ h) (s _ _ hd)

section
variable {X : Cx} {pins : List (Addr × Obj)} {σ : L2.St} {H : Hp} {s : Shared} {e C : Addr} {fs : List (Str × V)}
theorem XAt.inst (I : Inv X pins σ H s) (x : XAt H e C fs) : ∃ ox od, PySem.W.InstAt s.heap e ox C od ∧ ∀ f : Str, (fs.lookup f = none → PySem.W.shadowIn od f = some false) ∧ ∀ v, fs.lookup f = some v → ∃ o u, od = some o ∧ PySem.W.lookIn f o = some (some u) ∧ RelV v u := by
  cases x with
  | no h =>
    obtain ⟨t1, ho⟩ := exo_at I.hok h
    exact ⟨_, none, ⟨ho, rfl, rfl, trivial⟩, fun f => ⟨fun _ => rfl, fun v z => by cases z⟩⟩
  | @«at» d fs h hd =>
    obtain ⟨t1, ho⟩ := exo_at I.hok h
    obtain ⟨mA, hns, rel⟩ := exd_at I.hok hd
    obtain ⟨od, hod, hl⟩ := lookIn_ns hns
    refine ⟨_, some od, ⟨ho, rfl, rfl, hod⟩, fun f => ⟨fun z => ?_, fun v z => ?_⟩⟩
    · have hn : mA f = none := RelO.none_of (by rw [← z]; exact rel f)
      show (PySem.W.lookIn f od).map (·.isSome) = some false
      rw [hl, hn] <;> rfl
    · obtain ⟨u, hu, ru⟩ := RelO.some_of (v := v) (o := mA f) (by rw [← z]; exact rel f)
      exact ⟨od, u, rfl, by rw [hl, hu], ru⟩
/-- e.f -/
theorem x_get {f : Str} {b : Bool} {v : V} {Q : VK} (I : Inv X pins σ H s) (x : XAt H e C fs) (T : XCls X.K C) (hno : PySem.W.findIn X.K (.ref C) f = some none) (hl : fs.lookup f = some v) (q : Q v H) :
    wpAny (model X.prog X.w) X.A (getAttr (.ref e) f b) (EP X pins σ Q) X.xe s := by
  obtain ⟨ox, od, J, hf⟩ := x.inst I
  obtain ⟨o, u, rfl, lk, ru⟩ := (hf f).2 v hl
  exact HandSPX.exc_get I.kIn J T.ga T.gt T.ox.exC (PySem.W.findObj_own T.hd hno rfl lk) (handed_of ru) ⟨v, H, I.tok _, ru, q⟩
/-- e.m, to be called -/
theorem x_meth {K : PySem.W.Frag} {prog : Program} {w : World} {A : Around} {E : Value → Shared → Prop} {x : Addr} {ox : Obj} {od : Option Obj} {f : Addr} {name : Str} {pl : Sem Bool} {Q : Value × List Value → Shared → Prop} (Y : K.In s.heap) (I : PySem.W.InstAt s.heap x ox C od)
    (hga : PySem.W.findIn K (.ref C) "__getattribute__" = some (some (.builtin "BaseException.__getattribute__"))) (hk : PySem.W.findIn K (.ref C) "__getattr__" = some none) (hf : PySem.W.findIn K (.ref C) name = some (some (.ref f))) (ht : PySem.W.typeIn K (.ref f) = some (.type "function"))
    (hs : PySem.W.shadowIn od name = some false) (h : Q (.ref f, [.ref x]) s) : wpAny (model prog w) A (getMethod (.ref x) name pl) Q E s := by
  have c0 : (Manifest.canonical "BaseException.__getattribute__" != "object.__getattribute__") = false := by decide +kernel
  have hd := I.dict
  unfold getMethod specialOf
  refine wpAny_bind (wpAny_bind (I.type.here ((PySem.W.looks_findIn Y hga).here ?_))); dsimp only; rw [c0, if_neg (by decide)]
  refine wpAny_bind (wpAny_bind (I.type.here ((PySem.W.looks_findIn Y hk).here ?_))); refine wpAny_bind (wpAny_bind (I.type.here ((PySem.W.looks_findIn Y hf).here (wpAny_bind ((PySem.W.looks_typeIn Y ht).here ?_))))); rw [if_neg (by decide +kernel)]
  refine wpAny_bind (wpAny_loadPart I.at_ ?_)
  cases q : ox.dict with
  | none => exact wpAny_bind (wpAny_rule (wpAny_pure h))
  | some dx =>
    cases od with
    | none => rw [q] at hd; exact hd.elim
    | some o =>
      rw [q] at hd
      obtain ⟨r, a, b⟩ := Option.map_eq_some_iff.mp hs
      refine wpAny_bind (wpAny_bind (wpAny_loadPart hd ?_)); rw [PySem.W.nsLook_of a]; refine wpAny_pure ?_; rw [b]
      exact wpAny_bind (wpAny_rule (wpAny_pure h))
end
end My

namespace My
open PySem PySem.Spec PyProof.Rows L2 PySem.Calls
section
variable {X : Cx} {pins : List (Addr × Obj)} {σ : L2.St} {H : Hp} {s : Shared} {e C : Addr} {fs : List (Str × V)} {K : PySem.W.Frag}
theorem find_dataX {od : Option Obj} {name : Str} {a g : Value} (hc : (PySem.W.clsIn K C).isSome = true) (ha : PySem.W.findIn K (.ref C) name = some (some a)) (hg : PySem.W.specialIn K a "__get__" = some (some g)) (ht : PySem.W.takesIn K a = some true) :
    PySem.W.findObj K C od name = some (.bind g a) := by
  obtain ⟨cd, hc⟩ := Option.isSome_iff_exists.mp hc
  unfold PySem.W.findObj
  rw [hc, Option.bind_some, ha, Option.bind_some]; simp [hg, ht]
theorem XCls.isCls (T : XCls K C) : (PySem.W.clsIn K C).isSome = true := by
  obtain ⟨cd, hc, _⟩ := PySem.W.any_some T.hd
  rw [hc]; rfl
theorem x_class {prog : Program} {w : World} {A : Around} {E : Value → Shared → Prop} {x : Addr} {ox : Obj} {od : Option Obj} {Q : Option Value → Shared → Prop} (T : XCls K C) (Y : K.In s.heap) (I : PySem.W.InstAt s.heap x ox C od)
    (h : Q (some (.ref C)) { s with toks := s.toks + 1 }) : wpAny (model prog w) A (getAttr? (.ref x) "__class__") Q E s := by
  have hf : PySem.W.findObj K C od "__class__" = some (.bind (.builtin "getset_descriptor.__get__") (.builtin "object.__class__")) := find_dataX T.isCls T.ca T.cn T.ct
  obtain ⟨hp, g, d, t, os⟩ := s
  have L0 := I.type (M := model prog w); have L1 := PySem.W.looks_findIn (M := model prog w) Y T.ga; have L2 := PySem.W.looks_findIn (M := model prog w) Y T.gt; have L3 := PySem.W.looks_find (M := model prog w) Y I hf
  have sub : PySem.W.Looks (model prog w) hp (isInstance (.ref x) (.type "BaseException")) true := L0.andThen (PySem.W.looks_subIn Y T.ox.exC)
  have n2 : (Value.builtin "BaseException.__getattribute__" == Value.builtin "object.__getattribute__") = false := by decide +kernel
  have n1 : (onTheHeap (Value.ref C) && Value.builtin "BaseException.__getattribute__" == Value.builtin "object.__getattribute__") = false := by rw [n2]; rfl
  unfold getAttr? getAttrBy? getAttrBy; refine wpAny_bind (wpAny_mkText (wpAny_bind (wpAny_attempt (wpAny_holding (wpAny_bind (L0.at (wpAny_bind (L1.at ?_))))))))
  change wpAny _ _ (if (onTheHeap (Value.ref C) && Value.builtin "BaseException.__getattribute__" == Value.builtin "object.__getattribute__") = true then _ else _) _ _ _
  rw [n1, if_neg Bool.false_ne_true]; unfold getAttrByItsOwn hookBefore; refine wpAny_bind ?_; rw [if_pos (show onTheHeap (Value.ref C) = true from rfl)]; refine L2.at ?_; refine wpAny_bind (wpAny_attempt (wpAny_holding ?_))
  unfold callGetattribute; rw [show (false && onTheHeap (Value.builtin "BaseException.__getattribute__")) = false from rfl, if_neg Bool.false_ne_true]; unfold boundAndCalled; rw [PySem.F.excAttr_ValueError.ga.bind (.ref x)]; refine wpAny_bind (wpAny_pure ?_)
  change wpAny _ _ (call (.builtin "BaseException.__getattribute__") [.ref x, .str "__class__" t]) _ _ _
  refine wpAny_call (codeAny_call_builtin PySem.F.excAttr_ValueError.ga.plain PySem.F.entry_bexc_ga (@PySem.W.check_slot (model prog w) _ _ ⟨hp, g, d, t + 1, os⟩ "BaseException.__getattribute__" "BaseException" "__getattribute__" (.ref x) [.str "__class__" t] [] _ (by decide +kernel) (by decide +kernel) sub (PySem.F.args_bexc_ga (.ref x) (.str "__class__" t)) ?_))
  unfold Builtin.«object.__getattribute__»; refine wpAny_bind (wpAny_of_eq (a := ((Value.ref x : Value), [Value.str "__class__" t])) (by first | rfl | (simp only [slotArgs]; rfl)) ?_); refine wpAny_bind (wpAny_pure (wpAny_bind (L0.at (wpAny_bind (L3.at ?_)))))
  change wpAny _ _ (holding [Value.builtin "object.__class__"] (call (.builtin "getset_descriptor.__get__") [.builtin "object.__class__", .ref x, .ref C]) >>= ret) _ _ _
  refine wpAny_bind (wpAny_holding (wpAny_call (PySem.W.class_get (s := ⟨hp, g, d, t + 1, os⟩) (ox := ox) (od := od) Y I T.cm (wpAny_pure ?_))))
  change wpAny _ _ (handedOut (.ref C)) _ _ _; rw [PySem.W.handedOut_of (v := .ref C) rfl]
  first
    | exact wpAny_pure (wpAny_pure h)
    | exact wpAny_pure h
    | exact wpAny_pure (wpAny_bind (wpAny_pure (wpAny_pure h)))
theorem x_kit {x : Addr} {ox : Obj} {od : Option Obj} (T : XCls K C) : PySem.W.KitX K (.ref x) (.ref C) (fun h => PySem.W.InstAt h x ox C od) where
  ty := fun _ _ _ I => I.type
  it := fun _ _ Y _ => by
    obtain ⟨cd, hc⟩ := Option.isSome_iff_exists.mp T.isCls
    unfold PySem.W.clsIn at hc; split at hc
    · rename_i ho
      intro A' Q' E' s' k q; unfold isType loadHead
      exact wpAny_bind (wpAny_loadPart (k _ _ (Y _ _ ho)) (wpAny_pure q))
    · cases hc
  ne := fun h tp dd its n sl Y htp => Bool.eq_false_iff.mpr fun q => by
    obtain ⟨cd, hc⟩ := Option.isSome_iff_exists.mp T.isCls
    have z : C = tp := Value.ref.inj (beq_iff_eq.mp q)
    subst z
    unfold PySem.W.clsIn at hc; split at hc
    · rename_i ho
      have z := (Y _ _ ho).symm.trans htp; cases z
    · cases hc
  ca := fun Y I k => x_class T Y I k

/-! ### rules -/
/-- e.f of a tracked exception -/
def tXf (K : PySem.W.Frag) (f : Str) (te : TE) : TE := fun σ H Q => te σ H fun x H1 => ∃ (e C : Addr) (fs : List (Str × V)) (v : V), x = .ref e ∧ XAt H1 e C fs ∧ XCls K C ∧ PySem.W.findIn K (.ref C) f = some none ∧ fs.lookup f = some v ∧ Q v H1
theorem pe_xfld {o : Expr} {te : TE} {f : Str} {pos : Pos} (he : PE X o te) (hb : attributeBase o f X.env (eval o X.env) = eval o X.env := by rfl) : PE X (.Attribute o f pos) (tXf X.K f te) := by
  refine ⟨fun pins s σ H Q I h => attr_of hb (thn (he.run pins s σ H _ I h) fun u s1 ⟨x, H1, I1, rx, e, C, fs, v, ex, hx, T, hno, hl, q⟩ => ?_)⟩
  subst ex
  obtain rfl : u = Value.ref e := rx
  exact x_get I1 hx T hno hl q
/-- e.m() of a tracked exception -/
def tXm (m : Str) (C : Addr) (sp : Sp) (E : XK) (te : TE) : TE := fun σ H Q => te σ H fun x H1 => ∃ (e : Addr) (fs : List (Str × V)), x = .ref e ∧ XAt H1 e C fs ∧ fs.lookup m = none ∧ sp [x] H1 Q E
theorem pe_xmeth {CX : CXT} {k : Nat} {f : Addr} {fd : FuncData} {ps : List Str} {sp : Sp} {E : XK} {o : Expr} {te : TE} {m : Str} {apos pos : Pos} {pl : Sem Bool} (T : XCls X.K C) (he : PE X o te) (hf : PySem.W.findIn X.K (.ref C) m = some (some (.ref f))) (ht : PySem.W.typeIn X.K (.ref f) = some (.type "function")) (hk : PySem.W.keepIn X.K (.ref f) = true)
    (F : FnOk X.prog X.w X.K X.mg X.base CX k f fd ps sp) (hr : Room k X.A) (hb : Binds X.K fd ps []) (hx : Passes CX X E)
    (hq : eval (.Call (.Attribute o m apos) [] [] pos) X.env = (do
      let ov ← eval o X.env
      standAt apos.atName
      let (f, first) ← holding [ov] (getMethod ov m pl)
      callWith pos f first (backTo pos (starEach [] X.env)) (backToKw pos (keywordEach [] X.env))) := by rfl) : PE X (.Call (.Attribute o m apos) [] [] pos) (tXm m C sp E te) := by
  refine ⟨fun pins s σ H Q I h => PySem.W.methodCall_KW (pl := pl) (thn (he.run pins s σ H _ I h) fun u s1 ⟨x, H1, I1, rx, e, fs, ex, ha, hl, q⟩ => ?_) hq⟩
  subst ex
  obtain rfl : u = Value.ref e := rx
  obtain ⟨ox, od, J, hf2⟩ := ha.inst I1
  refine x_meth I1.kIn J T.ga T.gt hf ht ((hf2 m).1 hl) (PySem.W.callWith_K0 (first := [.ref e]) I1.kIn hk ?_)
  exact run_fn (us := [.ref e]) (vs := [.ref e]) F hr hb .nil hx I1 (.cons rfl .nil) (by rw [List.append_nil]; exact q)
/-- isinstance(e, c), c one class -/
def rIsX (K : PySem.W.Frag) : List V → Hp → VK → Prop := fun xs H Q => ∃ (e C : Addr) (fs : List (Str × V)) (c : V) (cv : Value) (b : Bool), xs = [.ref e, c] ∧ XAt H e C fs ∧ XCls K C ∧ (∀ u, RelV c u → u = cv) ∧ PySem.W.kitOne K (.ref C) cv = some b ∧ Q (.bl b) H
theorem call_isX : CallR X (.builtin "isinstance") (rIsX X.K) := by
  intro pins s σ H xs us Q I r h
  obtain ⟨e, C, fs, c, cv, b, rfl, hx, T, hcv, hk, q⟩ := h
  obtain ⟨u1, u2, rfl, r1, r2⟩ := r.two
  cases (show u1 = Value.ref e from r1)
  have ec := hcv _ r2
  subst ec
  obtain ⟨ox, od, J, _⟩ := hx.inst I
  exact PySem.W.kia_one (x_kit T) I.kIn J hk (fun z => nomatch z) fun tk => ⟨.bl b, H, I.tok _, rfl, q⟩
/-- isinstance(e, (c, d, ..)) -/
def rIsXT (K : PySem.W.Frag) : List V → Hp → VK → Prop := fun xs H Q => ∃ (e C t : Addr) (fs : List (Str × V)) (cs : List V) (cv : List Value) (b : Bool), xs = [.ref e, .ref t] ∧ XAt H e C fs ∧ XCls K C ∧ H t = some (.tup cs) ∧ (∀ us, Vals cs us → us = cv) ∧ PySem.W.kitAny K (.ref C) cv = some b ∧ Q (.bl b) H
theorem call_isXT : CallR X (.builtin "isinstance") (rIsXT X.K) := by
  intro pins s σ H xs us Q I r h
  obtain ⟨e, C, t, fs, cs, cv, b, rfl, hx, T, ht, hcv, hk, q⟩ := h
  obtain ⟨u1, u2, rfl, r1, r2⟩ := r.two
  cases (show u1 = Value.ref e from r1)
  cases (show u2 = Value.ref t from r2)
  obtain ⟨ox, od, J, _⟩ := hx.inst I
  obtain ⟨its, hv, htp, _⟩ := I.tuple (SqT.of ht)
  have ec := hcv _ hv
  subst ec
  obtain ⟨o, ho, hc, n, hd⟩ := htp
  obtain ⟨oc, dd, dat, sl⟩ := o
  dsimp only at hc hd
  subst hc hd
  exact PySem.W.kia_tup (x_kit T) I.kIn J ho hk (fun z => nomatch z) fun tk => ⟨.bl b, H, I.tok _, rfl, q⟩

/-! ### making one -/
/-- C(e, ..), C's own __init__ keeping sp; the exception is held -/
def tMkI (C : Addr) (sp : Sp) (ta : TA) : TE := fun σ H Q => ta σ H fun vs H1 => vs.length ≤ 1000 ∧ ∀ a, H1 a = none → sp (.ref a :: vs) (upd H1 a (exo a C none)) (fun v H2 => v = .non ∧ Q (.ref a) H2) (fun _ _ _ => False)
theorem pe_excI {CX : CXT} {x : Str} {fI : Addr} {k : Nat} {fd : FuncData} {ps : List Str} {sp : Sp} {e : Expr} {es : List Expr} {ta : TA} {p pos : Pos} (T : OexC X.K C) (iC : PySem.W.findIn X.K (.ref C) "__init__" = some (some (.ref fI))) (tI : PySem.W.typeIn X.K (.ref fI) = some (.type "function"))
    (F1 : FnOk X.prog X.w X.K X.mg X.base CX k fI fd ps sp) (hr : Room (k + 1) X.A) (hb : Binds X.K fd ps []) (hx : Passes CX X (fun _ _ _ => False)) (hm : X.mg x = some (.ref C)) (ha : PA X (e :: es) ta) (hg : Gl X x := by rfl)
    (hdb : (x == ("__debug__" : Str)) = false := by decide) (he : starEach (e :: es) X.env = (false, eval e X.env) :: starEach es X.env := by rfl) (hpl : (backTo pos (starEach es X.env)).any (·.1) = false := by rfl) :
    PE X (.Call (.Name x p) (e :: es) [] pos) (tMkI C sp ta) := by
  refine ⟨fun pins s σ H Q I h => ?_⟩
  obtain ⟨nm, q, N, bs, bm, sn, sub, ab, col, dd, k0, k1, k2, k3, k5, hC, hbm⟩ := T.cls
  refine wpAny_Call_Name_kw (ld_glob I hg hm (PySem.W.callWith_K (h₀ := X.base) I.ok.mod.kin T.kC (thn (ha.run pos pins s σ H _ I h) fun us s1 ⟨vs, H1, I1, r1, hz, q1⟩ => ⟨I1.kIn, ?_⟩) he hpl) hdb)
  change wpAny _ _ (call (.ref C) us) _ _ _
  obtain ⟨hp, g, dw, tk, os⟩ := s1
  have hsz : hp.objs.size ≤ hp.objs.size + 1 := Nat.le_succ _
  have hn : H1 (hp.objs.size + 1) = none := I1.hok.fresh hsz
  have hq := q1 (hp.objs.size + 1) hn
  have kk : ∀ b o, hp.get? b = some o → ((hp.push (PySem.W.kdv_tup us)).push (PySem.HandSPX.excO C hp.objs.size)).get? b = some o := fun b o z => Heap.get?_push_of_some _ (Heap.get?_push_of_some _ z)
  have hget : ((hp.push (PySem.W.kdv_tup us)).push (PySem.HandSPX.excO C hp.objs.size)).get? (hp.objs.size + 1) = some (PySem.HandSPX.excO C hp.objs.size) := by heap_get
  have I2 := I1.laid (t' := tk) (a := hp.objs.size + 1) (o := exo (hp.objs.size + 1) C none) (h' := (hp.push (PySem.W.kdv_tup us)).push (PySem.HandSPX.excO C hp.objs.size)) kk hsz (exo_ok hget)
  have r2 : Vals (V.ref (hp.objs.size + 1) :: vs) (Value.ref (hp.objs.size + 1) :: us) := .cons rfl r1
  have hl : (Value.ref (hp.objs.size + 1) :: us).length = ps.length := by rw [← F1.len _ _ _ _ hq]; exact r2.length.symm
  have hus : us.length ≤ sizeLine := by rw [← Paired.length r1, sizeLine_eq]; omega
  refine wpAny_call (PySem.HandSPX.call_own F.excBase_ValueError (fun Y => PySem.HandSPX.refsVE_contains Y bm hbm) (I1.kIn _ _ hC) (PySem.W.looks_findIn I1.kIn iC) (fun self => PySem.W.bind_fn I1.kIn self tI) hus (codeAny_mono (F1.run _ X.stack _ _ ⟨Value.ref (hp.objs.size + 1) :: us, []⟩ (Value.ref (hp.objs.size + 1) :: us) _ _ (fun _ _ _ => False) (hr.make C us []) (I2.env0.make C us []) (by have z := hb _ (Value.ref (hp.objs.size + 1) :: us) I2.kIn (by rw [List.append_nil]; exact hl); rw [List.append_nil] at z; exact z) r2 hq) fun r s' hq' => ?_))
  cases r with
  | error er => exact hx pins σ _ _ er s' I2 hq'
  | ok fl =>
    cases fl with
    | ret u =>
      obtain ⟨v, H2, os2, bare2, un2, hok2, rv, ev, q2⟩ := hq'
      subst ev
      refine ⟨rv, .ref (hp.objs.size + 1), H2, ?_, rfl, q2⟩
      exact I2.call' (ch := []) os2 un2 hok2 bare2 (fun b z => absurd z (by simp))
    | next => exact False.elim hq'
    | brk => exact False.elim hq'
    | cont => exact False.elim hq'
/-- C(), an own exception class without own __init__ -/
def tMk0 (C : Addr) : TE := fun _ H Q => ∀ a, H a = none → Q (.ref a) (upd H a (exo a C none))
theorem pe_exc0 {x : Str} {p pos : Pos} (q : PySem.W.excIn X.K C He.veBase "ValueError.__new__" = true) (kC : PySem.W.keepIn X.K (.ref C) = true) (gC : X.mg x = some (.ref C)) (hg : Gl X x := by rfl) (hdb : (x == ("__debug__" : Str)) = false := by decide) : PE X (.Call (.Name x p) [] [] pos) (tMk0 C) := by
  refine ⟨fun pins s σ H Q I h => wpAny_Call_Name_kw (ld_glob I hg gC (PySem.W.callWith_K0 (first := []) I.kIn kC ?_) hdb)⟩
  obtain ⟨bm, N, nm, qn, bs, hdct, sn, sub, ab, col, dd, k0, k1, k2, k3, k5, mN, hC, hN, hni, T⟩ := exc_obj I.kIn q
  refine wpAny_call_exc_subT F.excBase_ValueError T hC hN hni (fun h' a hm => ?_) (by show 0 ≤ sizeLine; omega)
  have hn : H a = none := I.hok.gone hm.new
  obtain ⟨t, ht, _, _⟩ := hm.there
  exact ⟨.ref a, _, I.laidN hm.keeps hm.new hn (exo_ok ht), rfl, h a hn⟩
end
end My

namespace My
open PySem PySem.Spec PyProof.Rows L2 PySem.Calls

/-! ### a hook of facts with one more Bool -/
def obsM (fa : List He.Fa) (fn : List He.DefD) (ex : PySem.W.Frag → Bool) (K : PySem.W.Frag) : He.AlD := (ex K && (He.obsD fa fn K).1, (He.obsD fa fn K).2)
def obsMG (n : Nat) (fa : List He.Fa) (fn : List He.DefD) (ex : PySem.W.Frag → Bool) (g : Addr → Option Obj) : He.AlD := obsM fa fn ex (He.frG g (He.asD g n))
def hookM (n : Nat) (fa : List He.Fa) (fn : List He.DefD) (ex : PySem.W.Frag → Bool) : PySem.W.Hook where
  α := He.AlD
  obs := fun s => obsMG n fa fn ex s.heap.get?
  val := fun _ => He.valD fn
  says := fun _ h => ∃ K : PySem.W.Frag, K.In h ∧ obsM fa fn ex K = He.valD fn
  of := fun _ _ z => ⟨_, He.frG_in, z⟩
  keeps := fun _ _ _ ⟨K, kin, z⟩ k => ⟨K, kin.keeps k, z⟩
theorem obsMG_eq {n : Nat} {fa : List He.Fa} {fn : List He.DefD} {ex : PySem.W.Frag → Bool} {g : Addr → Option Obj} {s : Shared} (h : ∀ a, g a = s.heap.get? a) : obsMG n fa fn ex g = (hookM n fa fn ex).obs s := by
  rw [show g = s.heap.get? from funext h]; rfl
/-- what the walks lean on -/
structure Ctx (fa : List He.Fa) (fn : List He.DefD) (ex : PySem.W.Frag → Bool) (K : PySem.W.Frag) (mg : Str → Option Value) : Prop where
  h : ∃ h : Heap, K.In h ∧ h.Ns mainGlobals mg
  d : He.SaysD fa fn K
  e : ex K = true
theorem ctx_of {fa : List He.Fa} {fn : List He.DefD} {ex : PySem.W.Frag → Bool} {K : PySem.W.Frag} {mg : Str → Option Value} {h : Heap} (X : K.In h) (G : h.Ns mainGlobals mg) (z : obsM fa fn ex K = He.valD fn) : Ctx fa fn ex K mg := by
  have z1 : (ex K && (He.obsD fa fn K).1) = true := congrArg (fun y : He.AlD => y.1) z
  have z2 : (He.obsD fa fn K).2 = fn.map He.DefD.val := congrArg (fun y : He.AlD => y.2) z
  obtain ⟨e1, e2⟩ := Bool.and_eq_true_iff.mp z1
  exact ⟨⟨h, X, G⟩, Prod.ext e2 z2, e1⟩
section
variable {fa : List He.Fa} {fn : List He.DefD} {ex : PySem.W.Frag → Bool} {K : PySem.W.Frag} {mg : Str → Option Value}
theorem Ctx.glo (Z : Ctx fa fn ex K mg) {x : Str} (i : Nat) (h : fa[i]? = some (.glo x) := by rfl) : mg x = some (.ref (He.ga K x)) := let ⟨_, X, G⟩ := Z.h; He.glo_ok X G (Z.d.fact i h)
theorem Ctx.free (Z : Ctx fa fn ex K mg) {x : Str} (i : Nat) (h : fa[i]? = some (.free x) := by rfl) : mg x = none := let ⟨_, X, G⟩ := Z.h; He.free_ok X G (Z.d.fact i h)
end

/-! ### a def of the module, by its promise -/
structure GoodF (CX : CXT) (P : Program) (w : World) (K : PySem.W.Frag) (mg : Str → Option Value) (base : Heap) (k : Nat) (x : Str) (ps : List Str) (sp : Sp) : Prop where
  g : mg x = some (.ref (He.ga K x))
  fn : ∃ fd, FnOk P w K mg base CX k (He.ga K x) fd ps sp ∧ Binds K fd ps []
  kp : PySem.W.keepIn K (.ref (He.ga K x)) = true
theorem gcall {X : Cx} {CX : CXT} {E : XK} {k k' : Nat} {x : Str} {ps : List Str} {sp : Sp} {e : Expr} {es : List Expr} {t : TA} {p pos : Pos} (G : GoodF CX X.prog X.w X.K X.mg X.base k x ps sp) (hr : Room k' X.A) (ha : PA X (e :: es) t) (hx : Passes CX X E) (hk : k ≤ k' := by decide) (hg : Gl X x := by rfl)
    (hdb : (x == ("__debug__" : Str)) = false := by decide) (he : starEach (e :: es) X.env = (false, eval e X.env) :: starEach es X.env := by rfl) (hpl : (backTo pos (starEach es X.env)).any (·.1) = false := by rfl) :
    PE X (.Call (.Name x p) (e :: es) [] pos) (tCall sp [] E t) :=
  let ⟨_, F, B⟩ := G.fn
  pe_call F (hr.mono hk) hg G.g G.kp B .nil hx ha hdb he hpl
theorem Ctx.good {fa : List He.Fa} {fn : List He.DefD} {ex : PySem.W.Frag → Bool} {K : PySem.W.Frag} {mg : Str → Option Value} {CX : CXT} {P : Program} {w : World} {base : Heap} {k : Nat} {x : Str} {ps : List Str} {sp : Sp} (Z : Ctx fa fn ex K mg) (i j : Nat) (d : He.DefD)
    (hb : ∀ (kV doc pm : Value) (an : Option Addr) (cdv ct : Value) (us : List Value), us.length = ps.length → bindArgs (PySem.W.fnOf d.name d.qual d.params d.body d.scope .none kV doc pm an cdv ct) ⟨us, []⟩ = pure (ps.zip us))
    (ok : ∀ fd, FunD K d.name d.qual d.params d.body d.scope [] [] (He.ga K x) fd → FnOk P w K mg base CX k (He.ga K x) fd ps sp)
    (hd : fn[i]? = some d := by rfl) (hj : fa[j]? = some (.glo x) := by rfl) (hx : d.at_ = (x, none) := by rfl) (hdf : d.dfl = [] := by rfl) (hkw : d.kwd = [] := by rfl) : GoodF CX P w K mg base k x ps sp := by
  obtain ⟨fd, F⟩ := Z.d.def_ i hd
  have e1 : d.dvs K = [] := by unfold He.DefD.dvs; rw [hdf]; rfl
  have e2 : d.kws K = [] := by unfold He.DefD.kws; rw [hkw]; rfl
  have e3 : He.fAd K d.at_ = He.ga K x := by rw [hx]; rfl
  rw [e1, e2, e3] at F
  exact ⟨Z.glo j hj, ⟨fd, ok fd F, F.bindsN hb⟩, F.kp⟩

/-! ### told, __init__ of an exception class -/
section
variable {P : Program} {w : World} {K : PySem.W.Frag} {mg : Str → Option Value} {base : Heap} {f : Addr} {fd : FuncData} {qual nm : Str} {pa : Arguments} {sc : Scope}
def spTold (z : Str) : Sp := fun vs H Q _ => ∃ a, vs = [.ref a] ∧ Q (.str z) H
theorem ok_told {z : Str} {j : Nat} {p p2 : Pos} {body : List Stmt} (F : FunD K nm qual pa body sc [] [] f fd) (S : FnScope ["self"] ["self"] sc) (hb : body = [.Return (some (.Constant (.str z) j p)) p2] := by rfl) : FnOk P w K mg base CX0 1 f fd ["self"] (spTold z) := by
  subst hb
  refine F.ok S (fun vs H Q E h => ?_) (fun cdv A outer s H vs Q E hr h => ⟨_, pss_one (ps_ret pe_str), ?_⟩)
  · obtain ⟨a, rfl, _⟩ := h
    rfl
  · obtain ⟨a, rfl, q⟩ := h
    exact q
/-- __init__(self, g): self.g = g -/
def spIni1 (K : PySem.W.Frag) (C : Addr) (g : Str) : Sp := fun vs H Q _ => ∃ a v, vs = [.ref a, v] ∧ H a = some (exo a C none) ∧ ∀ d, H d = none → d ≠ a → Q .non (upd (upd H d (exd d [(g, v)])) a (exo a C (some d)))
theorem ok_ini1 {C : Addr} {g y : Str} {p1 p2 p3 p4 : Pos} {body : List Stmt} (F : FunD K nm qual pa body sc [] [] f fd) (T : XCls K C) (S : FnScope ["self", y] ["self", y] sc) (no : PySem.W.findIn K (.ref C) g = some none)
    (v0 : Vis sc "self" := by first | exact Or.inl rfl | exact Or.inr (Or.inl rfl)) (v1 : Vis sc y := by first | exact Or.inl rfl | exact Or.inr (Or.inl rfl)) (hy : (y == ("__debug__" : Str)) = false := by decide) (hy2 : (y == ("__classdict__" : Str)) = false := by decide)
    (hb : body = [.Assign [.Attribute (.Name "self" p1) g p2] (.Name y p3) p4] := by rfl) : FnOk P w K mg base CX0 1 f fd ["self", y] (spIni1 K C g) := by
  subst hb
  refine F.ok S (fun vs H Q E h => ?_) (fun cdv A outer s H vs Q E hr h => ⟨_, pss_one (ps_ost (pe_var (i := 0) rfl v0) (pe_var (i := 1) rfl v1 hy hy2)), ?_⟩)
  · obtain ⟨a, v, rfl, _⟩ := h
    rfl
  · obtain ⟨a, v, rfl, ha, q⟩ := h
    exact ⟨v, rfl, _, rfl, a, C, rfl, T.ox, no, .inl ⟨ha, fun dx n ne => q dx n ne⟩⟩
/-- __init__(self, g, h): self.g = g; self.h = h -/
def spIni2 (K : PySem.W.Frag) (C : Addr) (g h : Str) : Sp := fun vs H Q _ => ∃ a v u, vs = [.ref a, v, u] ∧ H a = some (exo a C none) ∧ ∀ d, H d = none → d ≠ a → Q .non (upd (upd (upd H d (exd d [(g, v)])) a (exo a C (some d))) d (exd d [(h, u), (g, v)]))
theorem ok_ini2 {C : Addr} {g h y z : Str} {p1 p2 p3 p4 p5 p6 p7 p8 : Pos} {body : List Stmt} (F : FunD K nm qual pa body sc [] [] f fd) (T : XCls K C) (S : FnScope ["self", y, z] ["self", y, z] sc) (no : PySem.W.findIn K (.ref C) g = some none) (no2 : PySem.W.findIn K (.ref C) h = some none)
    (v0 : Vis sc "self" := by first | exact Or.inl rfl | exact Or.inr (Or.inl rfl)) (v1 : Vis sc y := by first | exact Or.inl rfl | exact Or.inr (Or.inl rfl)) (v2 : Vis sc z := by first | exact Or.inl rfl | exact Or.inr (Or.inl rfl))
    (hy : (y == ("__debug__" : Str)) = false := by decide) (hy2 : (y == ("__classdict__" : Str)) = false := by decide) (hz : (z == ("__debug__" : Str)) = false := by decide) (hz2 : (z == ("__classdict__" : Str)) = false := by decide)
    (hb : body = [.Assign [.Attribute (.Name "self" p1) g p2] (.Name y p3) p4, .Assign [.Attribute (.Name "self" p5) h p6] (.Name z p7) p8] := by rfl) : FnOk P w K mg base CX0 1 f fd ["self", y, z] (spIni2 K C g h) := by
  subst hb
  refine F.ok S (fun vs H Q E h => ?_) (fun cdv A outer s H vs Q E hr h => ⟨_, pss_cons (ps_ost (pe_var (i := 0) rfl v0) (pe_var (i := 1) rfl v1 hy hy2)) (pss_one (ps_ost (pe_var (i := 0) rfl v0) (pe_var (i := 2) rfl v2 hz hz2))), ?_⟩)
  · obtain ⟨a, v, u, rfl, _⟩ := h
    rfl
  · obtain ⟨a, v, u, rfl, ha, q⟩ := h
    refine ⟨v, rfl, _, rfl, a, C, rfl, T.ox, no, .inl ⟨ha, fun dx n ne => ?_⟩⟩
    refine ⟨u, rfl, _, rfl, a, C, rfl, T.ox, no2, .inr ⟨dx, _, upd_same, ?_, (by show 1 ≤ 900; decide), q dx n ne⟩⟩
    rw [upd_ne ne, upd_same]
end
end My

namespace My
open PySem PySem.Spec PyProof.Rows L2 PySem.Calls

theorem rel_ref (a : Addr) : RelV (.ref a) (Value.ref a) := rfl
theorem rel_ty (n : String) : RelV (.ty n) (Value.type n) := rfl
theorem boot_isinstance : bootBuiltins "isinstance" = some (.builtin "isinstance") := by decide +kernel
theorem boot_abs : bootBuiltins "abs" = some (.builtin "abs") := by decide +kernel
theorem boot_all : bootBuiltins "all" = some (.builtin "all") := by decide +kernel
theorem boot_int : bootBuiltins "int" = some (.type "int") := by decide +kernel
theorem boot_bool : bootBuiltins "bool" = some (.type "bool") := by decide +kernel
theorem boot_str : bootBuiltins "str" = some (.type "str") := by decide +kernel

/-! ### a method of an exception class whose class is not written -/
structure XMeth (P : Program) (w : World) (K : PySem.W.Frag) (mg : Str → Option Value) (base : Heap) (C : Addr) (m : Str) (f : Addr) (z : Str) : Prop where
  c : XCls K C
  at_ : PySem.W.findIn K (.ref C) m = some (some (.ref f))
  ty : PySem.W.typeIn K (.ref f) = some (.type "function")
  kp : PySem.W.keepIn K (.ref f) = true
  fn : ∃ fd, FnOk P w K mg base CX0 1 f fd ["self"] (spTold z) ∧ Binds K fd ["self"] []
def tXmV (X : Cx) (m : Str) (te : TE) : TE := fun σ H Q => te σ H fun x H1 => ∃ (e C f : Addr) (fs : List (Str × V)) (z : Str), x = .ref e ∧ XAt H1 e C fs ∧ fs.lookup m = none ∧ XMeth X.prog X.w X.K X.mg X.base C m f z ∧ Q (.str z) H1
theorem pe_xmethV {X : Cx} {k : Nat} {o : Expr} {te : TE} {m : Str} {apos pos : Pos} {pl : Sem Bool} (hr : Room k X.A) (he : PE X o te) (hk : 1 ≤ k := by decide)
    (hq : eval (.Call (.Attribute o m apos) [] [] pos) X.env = (do
      let ov ← eval o X.env
      standAt apos.atName
      let (f, first) ← holding [ov] (getMethod ov m pl)
      callWith pos f first (backTo pos (starEach [] X.env)) (backToKw pos (keywordEach [] X.env))) := by rfl) : PE X (.Call (.Attribute o m apos) [] [] pos) (tXmV X m te) := by
  refine ⟨fun pins s σ H Q I h => PySem.W.methodCall_KW (pl := pl) (thn (he.run pins s σ H _ I h) fun u s1 ⟨x, H1, I1, rx, e, C, f, fs, z, ex, ha, hl, M, q⟩ => ?_) hq⟩
  subst ex
  obtain rfl : u = Value.ref e := rx
  obtain ⟨ox, od, J, hf2⟩ := ha.inst I1
  obtain ⟨fd, F, B⟩ := M.fn
  refine x_meth I1.kIn J M.c.ga M.c.gt M.at_ M.ty ((hf2 m).1 hl) (PySem.W.callWith_K0 (first := [.ref e]) I1.kIn M.kp ?_)
  exact run_fn (us := [.ref e]) (vs := [.ref e]) F (hr.mono hk) B .nil pass0 I1 (.cons rfl .nil) ⟨e, rfl, q⟩

theorem isFn_ty {K : PySem.W.Frag} {f : Addr} (h : PySem.W.isFn K (.ref f) = true) : PySem.W.typeIn K (.ref f) = some (.type "function") := beq_iff_eq.mp h
theorem told_of {P : Program} {w : World} {K : PySem.W.Frag} {mg : Str → Option Value} {base : Heap} {C f : Addr} {q z : Str} {pa : Arguments} {body : List Stmt} {sc : Scope} {j : Nat} {p p2 : Pos} (T : XCls K C) (me : Meth K C "told" f) (F : ∃ fd, FunD K "told" q pa body sc [] [] f fd)
    (S : FnScope ["self"] ["self"] sc) (hb : body = [.Return (some (.Constant (.str z) j p)) p2]) (bind : ∀ (kV doc pm : Value) (an : Option Addr) (cdv ct : Value) (us : List Value), us.length = 1 → bindArgs (PySem.W.fnOf "told" q pa body sc .none kV doc pm an cdv ct) ⟨us, []⟩ = pure ((["self"] : List Str).zip us)) : XMeth P w K mg base C "told" f z :=
  let ⟨fd, F⟩ := F
  ⟨T, me.at_, isFn_ty me.fn, me.kp, fd, ok_told F S hb, F.bindsN bind⟩
section
variable {X : Cx} {x g h y z q : Str} {pa : Arguments} {sc : Scope} {body : List Stmt} {p1 p2 p3 p4 p5 p6 p7 p8 p pos : Pos} {f : Addr} {e : Expr} {es : List Expr} {t : TA} {k : Nat}
theorem mk_ini1 (T : XCls X.K (He.ga X.K x)) (no : PySem.W.findIn X.K (.ref (He.ga X.K x)) g = some none) (gl : X.mg x = some (.ref (He.ga X.K x))) (me : Meth X.K (He.ga X.K x) "__init__" f) (F : ∃ fd, FunD X.K "__init__" q pa body sc [] [] f fd) (S : FnScope ["self", y] ["self", y] sc)
    (hb : body = [.Assign [.Attribute (.Name "self" p1) g p2] (.Name y p3) p4]) (v0 : Vis sc "self") (v1 : Vis sc y) (hy : (y == ("__debug__" : Str)) = false) (hy2 : (y == ("__classdict__" : Str)) = false)
    (bind : ∀ (kV doc pm : Value) (an : Option Addr) (cdv ct : Value) (us : List Value), us.length = 2 → bindArgs (PySem.W.fnOf "__init__" q pa body sc .none kV doc pm an cdv ct) ⟨us, []⟩ = pure ((["self", y] : List Str).zip us)) (hdb : (x == ("__debug__" : Str)) = false)
    (hr : Room k X.A) (ha : PA X (e :: es) t) (hk : 2 ≤ k := by decide) (hg : Gl X x := by rfl) (he : starEach (e :: es) X.env = (false, eval e X.env) :: starEach es X.env := by rfl) (hpl : (backTo pos (starEach es X.env)).any (·.1) = false := by rfl) :
    PE X (.Call (.Name x p) (e :: es) [] pos) (tMkI (He.ga X.K x) (spIni1 X.K (He.ga X.K x) g) t) := by
  obtain ⟨fd, F⟩ := F
  exact pe_excI T.ox me.at_ (isFn_ty me.fn) (ok_ini1 F T S no v0 v1 hy hy2 hb) (hr.mono hk) (F.bindsN bind) pass0 gl ha hg hdb he hpl
theorem mk_ini2 (T : XCls X.K (He.ga X.K x)) (no : PySem.W.findIn X.K (.ref (He.ga X.K x)) g = some none) (no2 : PySem.W.findIn X.K (.ref (He.ga X.K x)) h = some none) (gl : X.mg x = some (.ref (He.ga X.K x))) (me : Meth X.K (He.ga X.K x) "__init__" f) (F : ∃ fd, FunD X.K "__init__" q pa body sc [] [] f fd) (S : FnScope ["self", y, z] ["self", y, z] sc)
    (hb : body = [.Assign [.Attribute (.Name "self" p1) g p2] (.Name y p3) p4, .Assign [.Attribute (.Name "self" p5) h p6] (.Name z p7) p8]) (v0 : Vis sc "self") (v1 : Vis sc y) (v2 : Vis sc z) (hy : (y == ("__debug__" : Str)) = false) (hy2 : (y == ("__classdict__" : Str)) = false) (hz : (z == ("__debug__" : Str)) = false) (hz2 : (z == ("__classdict__" : Str)) = false)
    (bind : ∀ (kV doc pm : Value) (an : Option Addr) (cdv ct : Value) (us : List Value), us.length = 3 → bindArgs (PySem.W.fnOf "__init__" q pa body sc .none kV doc pm an cdv ct) ⟨us, []⟩ = pure ((["self", y, z] : List Str).zip us)) (hdb : (x == ("__debug__" : Str)) = false)
    (hr : Room k X.A) (ha : PA X (e :: es) t) (hk : 2 ≤ k := by decide) (hg : Gl X x := by rfl) (he : starEach (e :: es) X.env = (false, eval e X.env) :: starEach es X.env := by rfl) (hpl : (backTo pos (starEach es X.env)).any (·.1) = false := by rfl) :
    PE X (.Call (.Name x p) (e :: es) [] pos) (tMkI (He.ga X.K x) (spIni2 X.K (He.ga X.K x) g h) t) := by
  obtain ⟨fd, F⟩ := F
  exact pe_excI T.ox me.at_ (isFn_ty me.fn) (ok_ini2 F T S no no2 v0 v1 v2 hy hy2 hz hz2 hb) (hr.mono hk) (F.bindsN bind) pass0 gl ha hg hdb he hpl
end

/-! ### rules that ask one thing -/
section
variable {X : Cx}
def rLenL (K : PySem.W.Frag) : List V → Hp → VK → Prop := fun xs H Q => ∃ p ys, xs = [.ref p] ∧ SqL K H p ys ∧ Q (.int ys.length) H
def rLenT (K : PySem.W.Frag) : List V → Hp → VK → Prop := fun xs H Q => ∃ p ys, xs = [.ref p] ∧ SqT K H p ys ∧ Q (.int ys.length) H
theorem call_lenL : CallR X (.builtin "len") (rLenL X.K) := fun pins s σ H xs us Q I r ⟨p, ys, e, h, q⟩ => call_len_seq pins s σ H xs us Q I r ⟨p, ys, e, .inl h, q⟩
theorem call_lenT : CallR X (.builtin "len") (rLenT X.K) := fun pins s σ H xs us Q I r ⟨p, ys, e, h, q⟩ => call_len_seq pins s σ H xs us Q I r ⟨p, ys, e, .inr h, q⟩
def rIntI : List V → Hp → VK → Prop := fun xs H Q => ∃ i : Int, xs = [.int i] ∧ Q (.int i) H
def rIntB : List V → Hp → VK → Prop := fun xs H Q => ∃ k : Bool, xs = [.bl k] ∧ Q (.int (if k then 1 else 0)) H
theorem call_intI : CallR X (.type "int") rIntI := fun pins s σ H xs us Q I r h => call_int1 pins s σ H xs us Q I r (.inl h)
theorem call_intB : CallR X (.type "int") rIntB := fun pins s σ H xs us Q I r h => call_int1 pins s σ H xs us Q I r (.inr h)
end

/-! ### heaps -/
theorem same_new {H : Hp} {p : Addr} {o : HO} (h : H p = none) : Same H (upd H p o) := fun b u z => by rw [upd_ne (ne_of_none z h)]; exact z
theorem at_new {H : Hp} {p : Addr} {o : HO} : upd H p o p = some o := upd_same
/-- a new object: what follows is asked of any heap that holds it -/
theorem newly {H : Hp} {o : HO} {R : Addr → Hp → Prop} (h : ∀ p H', Same H H' → H' p = some o → H p = none → R p H') : ∀ p, H p = none → R p (upd H p o) := fun p hp => h p _ (same_new hp) upd_same hp
end My

namespace My
open PySem PySem.Spec PyProof.Rows L2 PySem.Calls
section
variable {X : Cx}
/-! ### readings with a wish that is easier to say -/
theorem pe_imp {e : Expr} {t u : TE} (h : PE X e t) (i : ∀ σ H Q, u σ H Q → t σ H Q) : PE X e u := ⟨fun pins s σ H Q I q => h.run pins s σ H Q I (i σ H Q q)⟩
def wkE (t : TE) : TE := fun σ H Q => ∃ R : VK, t σ H R ∧ ∀ v H1, R v H1 → Q v H1
def wkA (t : TA) : TA := fun σ H Q => ∃ R : List V → Hp → Prop, t σ H R ∧ ∀ v H1, R v H1 → Q v H1
theorem wk_e {e : Expr} {t : TE} (h : PE X e t) : PE X e (wkE t) := ⟨fun pins s σ H Q I ⟨R, q, m⟩ => thn (h.run pins s σ H R I q) fun u s' ⟨v, H', I', r, z⟩ => ⟨v, H', I', r, m v H' z⟩⟩
theorem wk_a {es : List Expr} {t : TA} (h : PA X es t) : PA X es (wkA t) := ⟨fun pos pins s σ H Q I ⟨R, q, m⟩ => thn (h.run pos pins s σ H R I q) fun u s' ⟨v, H', I', r, z⟩ => ⟨v, H', I', r, m v H' z⟩⟩
/-- short lists: a length that the eye sees -/
abbrev Few (xs : List V) : Prop := Nat.ble xs.length 1000 = true
theorem few {xs : List V} (h : Few xs) : xs.length ≤ sizeLine := Nat.le_of_lt (small1000 (Nat.le_of_ble_eq_true h))
theorem few1 {xs : List V} (h : Few xs) : xs.length ≤ 1000 := Nat.le_of_ble_eq_true h
/-- what is wanted of a new object -/
def NewT (H : Hp) (xs : List V) (Q : VK) : Prop := ∀ p H', Same H H' → H' p = some (.tup xs) → H p = none → Q (.ref p) H'
def NewL (H : Hp) (xs : List V) (Q : VK) : Prop := ∀ p H', Same H H' → H' p = some (.lst xs) → H p = none → Q (.ref p) H'
def NewX (H : Hp) (C : Addr) (fs : List (Str × V)) (Q : VK) : Prop := ∀ p H', Same H H' → XAt H' p C fs → H p = none → Q (.ref p) H'
def tNewT (t : TA) : TE := fun σ H Q => t σ H fun xs H1 => Few xs ∧ NewT H1 xs Q
def tNewL (t : TA) : TE := fun σ H Q => t σ H fun xs H1 => Few xs ∧ NewL H1 xs Q
theorem pe_tupN {es : List Expr} {t : TA} {x1 pos} (h : PA X es t) : PE X (.Tuple es x1 pos) (tNewT t) :=
  pe_imp (pe_tup (wk_a h)) fun σ H Q q => ⟨_, q, fun xs H1 z => ⟨few z.1, newly fun p H' hs ho hn => z.2 p H' hs ho hn⟩⟩
theorem pe_lstN {es : List Expr} {t : TA} {pos} (h : PA X es t) : PE X (.List es pos) (tNewL t) :=
  pe_imp (pe_lst (wk_a h)) fun σ H Q q => ⟨_, q, fun xs H1 z => ⟨few z.1, newly fun p H' hs ho hn => z.2 p H' hs ho hn⟩⟩
/-- xs + ys, both short -/
def rCatN : R2 := fun x y H Q => ∃ l b xs zs, x = .ref l ∧ y = .ref b ∧ H l = some (.lst xs) ∧ H b = some (.lst zs) ∧ Few (xs ++ zs) ∧ NewL H (xs ++ zs) Q
theorem op_catN : OpR X (binaryOp .Add) rCatN := fun pins s σ H x y v u Q I rx ry ⟨l, b, xs, zs, e1, e2, h1, h2, hf, q⟩ =>
  op_cat pins s σ H x y v u Q I rx ry ⟨l, b, xs, zs, e1, e2, h1, h2, by have z := few hf; rw [List.length_append] at z; exact z, newly fun p H' hs ho hn => q p H' hs ho hn⟩
/-- exceptions made -/
def tX0 (C : Addr) : TE := fun _ H Q => NewX H C [] Q
def tX1 (C : Addr) (g : Str) (t : TA) : TE := fun σ H Q => t σ H fun vs H1 => ∃ v, vs = [v] ∧ NewX H1 C [(g, v)] Q
def tX2 (C : Addr) (g h : Str) (t : TA) : TE := fun σ H Q => t σ H fun vs H1 => ∃ v u, vs = [v, u] ∧ NewX H1 C [(h, u), (g, v)] Q
theorem x0_of {e : Expr} {C : Addr} (h : PE X e (tMk0 C)) : PE X e (tX0 C) := pe_imp h fun σ H Q q a ha => q a _ (same_new ha) (.no upd_same) ha
theorem x1_of {K : PySem.W.Frag} {e : Expr} {C : Addr} {g : Str} {t : TA} (h : PE X e (tMkI C (spIni1 K C g) (wkA t))) : PE X e (tX1 C g t) :=
  pe_imp h fun σ H Q q => ⟨_, q, fun vs H1 ⟨v, e, z⟩ => by
    subst e
    refine ⟨by show 1 ≤ 1000; decide, fun a ha => ⟨a, v, rfl, upd_same, fun d hd hne => ⟨rfl, z a _ (fun b o y => ?_) (.at upd_same (by rw [upd_ne hne, upd_same])) ha⟩⟩⟩
    have hd1 : H1 d = none := by rw [upd_ne hne] at hd; exact hd
    rw [upd_ne (ne_of_none y ha), upd_ne (ne_of_none y hd1), upd_ne (ne_of_none y ha)]; exact y⟩
theorem x2_of {K : PySem.W.Frag} {e : Expr} {C : Addr} {g k : Str} {t : TA} (h : PE X e (tMkI C (spIni2 K C g k) (wkA t))) : PE X e (tX2 C g k t) :=
  pe_imp h fun σ H Q q => ⟨_, q, fun vs H1 ⟨v, u, e, z⟩ => by
    subst e
    refine ⟨by show 2 ≤ 1000; decide, fun a ha => ⟨a, v, u, rfl, upd_same, fun d hd hne => ⟨rfl, z a _ (fun b o y => ?_) (.at (d := d) (by rw [upd_ne (Ne.symm hne), upd_same]) upd_same) ha⟩⟩⟩
    have hd1 : H1 d = none := by rw [upd_ne hne] at hd; exact hd
    rw [upd_ne (ne_of_none y hd1), upd_ne (ne_of_none y ha), upd_ne (ne_of_none y hd1), upd_ne (ne_of_none y ha)]; exact y⟩
theorem sm_step {G H : Hp} {b : Addr} {o : HO} (s : Same G H) (h : G b = some o) : H b = some o := s _ _ h
theorem ss_step {F G H : Hp} (s : Same G H) (h : Same F G) : Same F H := h.trans s
theorem xs_step {G H : Hp} {e C : Addr} {fs : List (Str × V)} (s : Same G H) (h : XAt G e C fs) : XAt H e C fs := h.same s
theorem sq_step {K : PySem.W.Frag} {G H : Hp} {a : Addr} {xs : List V} (s : Same G H) (h : SqL K G a xs) : SqL K H a xs := s.seq h
theorem lk1 {g : Str} {v : V} {r : List (Str × V)} : List.lookup g ((g, v) :: r) = some v := by simp [List.lookup]
theorem lk2 {g h : Str} {v : V} {r : List (Str × V)} (n : decide (g = h) = false) : List.lookup g ((h, v) :: r) = List.lookup g r := by
  have e : (g == h) = false := beq_eq_false_iff_ne.mpr (of_decide_eq_false n)
  simp [List.lookup, e]
end
end My

namespace My
open PySem PySem.Spec PyProof.Rows L2 PySem.Calls
section
variable (a : Int) (t : Tok) (l C dx : Addr)
theorem ni_add : Meets (Builtin.«int.__add__» ⟨[.int a t, .ref l], []⟩) (fun _ R s => s.heap.get? l = some (PySem.W.instObj C dx) ∧ R (.ok (.ret Value.notImplemented)) s) :=
  .of_wp fun prog w A R s h => by obtain ⟨hp, g, d, tk, os⟩ := s; obtain ⟨hl, h⟩ := h; unfold PySem.W.instObj at hl; wp_walk; exact ⟨_, rfl, h⟩
theorem ni_sub : Meets (Builtin.«int.__sub__» ⟨[.int a t, .ref l], []⟩) (fun _ R s => s.heap.get? l = some (PySem.W.instObj C dx) ∧ R (.ok (.ret Value.notImplemented)) s) :=
  .of_wp fun prog w A R s h => by obtain ⟨hp, g, d, tk, os⟩ := s; obtain ⟨hl, h⟩ := h; unfold PySem.W.instObj at hl; wp_walk; exact ⟨_, rfl, h⟩
theorem ni_mul : Meets (Builtin.«int.__mul__» ⟨[.int a t, .ref l], []⟩) (fun _ R s => s.heap.get? l = some (PySem.W.instObj C dx) ∧ R (.ok (.ret Value.notImplemented)) s) :=
  .of_wp fun prog w A R s h => by obtain ⟨hp, g, d, tk, os⟩ := s; obtain ⟨hl, h⟩ := h; unfold PySem.W.instObj at hl; wp_walk; exact ⟨_, rfl, h⟩
theorem ni_floordiv : Meets (Builtin.«int.__floordiv__» ⟨[.int a t, .ref l], []⟩) (fun _ R s => s.heap.get? l = some (PySem.W.instObj C dx) ∧ R (.ok (.ret Value.notImplemented)) s) :=
  .of_wp fun prog w A R s h => by obtain ⟨hp, g, d, tk, os⟩ := s; obtain ⟨hl, h⟩ := h; unfold PySem.W.instObj at hl; wp_walk; exact ⟨_, rfl, h⟩
theorem ni_mod : Meets (Builtin.«int.__mod__» ⟨[.int a t, .ref l], []⟩) (fun _ R s => s.heap.get? l = some (PySem.W.instObj C dx) ∧ R (.ok (.ret Value.notImplemented)) s) :=
  .of_wp fun prog w A R s h => by obtain ⟨hp, g, d, tk, os⟩ := s; obtain ⟨hl, h⟩ := h; unfold PySem.W.instObj at hl; wp_walk; exact ⟨_, rfl, h⟩
end
/-- what is known of int's own slot of an operator -/
structure IntSlot (op : Operator) (id : String) (B : Builtin) : Prop where
  fills : fillsNumberSlot (.type "int") op.info.2 = pure true
  slot : Slot "int" (PySem.dunder op.info.2) id
  entry : entryFor table id = some B
  args : ∀ a b : Value, argsOk id ⟨[a, b], []⟩
  ni : ∀ (a : Int) (t : Tok) (l C dx : Addr), Meets (B ⟨[.int a t, .ref l], []⟩) (fun _ R s => s.heap.get? l = some (PySem.W.instObj C dx) ∧ R (.ok (.ret Value.notImplemented)) s)
theorem is_add : IntSlot .Add "int.__add__" Builtin.«int.__add__» := ⟨F.fills_int_add, F.slot_int_add, F.entry_int_add, F.args_int_add_2, ni_add⟩
theorem is_sub : IntSlot .Sub "int.__sub__" Builtin.«int.__sub__» := ⟨F.fills_int_sub, F.slot_int_sub, F.entry_int_sub, F.args_int_sub_2, ni_sub⟩
theorem is_mul : IntSlot .Mult "int.__mul__" Builtin.«int.__mul__» := ⟨F.fills_int_mul, F.slot_int_mul, F.entry_int_mul, F.args_int_mul_2, ni_mul⟩
theorem is_floordiv : IntSlot .FloorDiv "int.__floordiv__" Builtin.«int.__floordiv__» := ⟨F.fills_int_floordiv, F.slot_int_floordiv, F.entry_int_floordiv, F.args_int_floordiv_2, ni_floordiv⟩
theorem is_mod : IntSlot .Mod "int.__mod__" Builtin.«int.__mod__» := ⟨F.fills_int_mod, F.slot_int_mod, F.entry_int_mod, F.args_int_mod_2, ni_mod⟩
section
variable {prog : Program} {w : World} {A : Around} {E : Value → Shared → Prop} {s : Shared} {K : PySem.W.Frag} {x C dx f g : Addr} {od : Option Obj} {i : Int} {t : Tok} {op : Operator} {id : String} {B : Builtin}
theorem try_int {Q : Option Value → Shared → Prop} (S : IntSlot op id B) (ho : s.heap.get? x = some (PySem.W.instObj C dx)) (h : Q none s) : wpAny (model prog w) A (tryMethod (.int i t) (PySem.dunder op.info.2) (.ref x)) Q E s := by
  unfold tryMethod
  refine wpAny_bind (wpAny_callSpecial?_slot (typeIs_int s i t) S.slot (call_meets S.slot (typeIs_int s i t) S.entry (S.args _ _) (S.ni i t x C dx) ⟨ho, ?_⟩))
  exact wpAny_pure h
/-- i op x, x an instance: the reflected def of its class is called -/
theorem bin_refl {Q : Value → Shared → Prop} (S : IntSlot op id B) (X : K.In s.heap) (I : PySem.W.InstAt s.heap x (PySem.W.instObj C dx) C od) (hc : PySem.W.selfFirst K C = true) (hl : PySem.W.findIn K (.ref C) (PySem.dunder op.info.2) = some (some (.ref f)))
    (hr : PySem.W.findIn K (.ref C) (dunderR op.info.2) = some (some (.ref g))) (hf : PySem.W.isFn K (.ref g) = true) (hsub : PySem.W.subIn K (.ref C) (.type "int") = some false)
    (h : wpAny (model prog w) A (call (.ref g) [.ref x, .int i t]) (PySem.W.CmpBack Q) E s) : wpAny (model prog w) A (binaryOp op (.int i t) (.ref x)) Q E s := by
  obtain ⟨cd, rest, hcd, hm⟩ := PySem.W.ksp_first hc
  have one := PySem.W.ksp_try X I hr hf h
  have zero : ∀ {Q : Option Value → Shared → Prop}, Q none s → wpAny (model prog w) A (tryMethod (.int i t) (PySem.dunder op.info.2) (.ref x)) Q E s := fun q => try_int S I.at_ q
  obtain ⟨hh, g', d, tt, os⟩ := s
  have L1 : PySem.W.Looks (model prog w) hh (typeOf (.int i t)) (.type "int") := PySem.W.Looks.of_pure rfl
  have L2 : PySem.W.Looks (model prog w) hh (typeOf (.ref x)) (.ref C) := I.type
  have L3 : PySem.W.Looks (model prog w) hh (fillsNumberSlot (.type "int") op.info.2) true := PySem.W.Looks.of_pure S.fills
  have L4 : PySem.W.Looks (model prog w) hh (fillsNumberSlot (.ref C) op.info.2) true := PySem.W.fills_K X hcd hm hl
  have L5 : PySem.W.Looks (model prog w) hh (isSubtype (.ref C) (.type "int")) false := PySem.W.looks_subIn X hsub
  have L6 : PySem.W.Looks (model prog w) hh (numberSlotInPython (.type "int") op.info.2) false := PySem.W.Looks.of_pure rfl
  have hne : (Value.type "int" == Value.ref C) = false := Bool.eq_false_iff.mpr fun q => by cases beq_iff_eq.mp q
  rcases hi : op.info with ⟨sym, nm'⟩
  rw [hi] at one zero L3 L4 L6
  dsimp only at one zero L3 L4 L6
  simp only [binaryOp, hi]
  refine wpAny_holding (wpAny_bind ?_)
  unfold binaryOp1
  refine wpAny_bind (L1.at (wpAny_bind (L2.at (wpAny_bind (L3.at ?_)))))
  simp only [hne, Bool.false_eq_true, if_false]
  ksp_lk
  refine zero ?_
  ksp_lk
  refine wpAny_mono one (fun r s' hr' => ?_) fun _ _ e => e
  obtain ⟨v, rfl, hq⟩ := hr'
  ksp_lk
  exact hq
end
end My

namespace My
open PySem PySem.Spec PyProof.Rows L2 PySem.Calls
/-! ### errors raised where nothing is handled -/
section
variable {X : Cx} {C : Addr}
/-- C(e, ..) to be raised: its own __init__ keeps sp -/
def tRzO (C : Addr) (sp : Sp) (ta : TA) : L2.St → Hp → XK → Prop := fun σ H Q => ta σ H fun vs H1 => vs.length ≤ 1000 ∧ ∀ a, H1 a = none → sp (.ref a :: vs) (upd H1 a (exo a C none))
  (fun v H2 => v = .non ∧ ∃ (d : Addr) (fs : List (Str × V)), H2 a = some (exo a C (some d)) ∧ H2 d = some (exd d fs) ∧ H1 d = none ∧ Q (.ref C) (some d) (upd (del H2 a) d (.xd fs))) (fun _ _ _ => False)
theorem pmkN_oex {CX : CXT} {x : Str} {fI : Addr} {k : Nat} {fd : FuncData} {ps : List Str} {sp : Sp} {e : Expr} {es : List Expr} {ta : TA} {p pos : Pos} (T : OexC X.K C) (iC : PySem.W.findIn X.K (.ref C) "__init__" = some (some (.ref fI))) (tI : PySem.W.typeIn X.K (.ref fI) = some (.type "function"))
    (F1 : FnOk X.prog X.w X.K X.mg X.base CX k fI fd ps sp) (hr : Room (k + 1) X.A) (hb : Binds X.K fd ps []) (hx : Passes CX X (fun _ _ _ => False)) (hm : X.mg x = some (.ref C)) (ha : PA X (e :: es) ta) (hg : Gl X x := by rfl)
    (hdb : (x == ("__debug__" : Str)) = false := by decide) (he : starEach (e :: es) X.env = (false, eval e X.env) :: starEach es X.env := by rfl) (hpl : (backTo pos (starEach es X.env)).any (·.1) = false := by rfl) :
    L2N.PMk X (.Call (.Name x p) (e :: es) [] pos) (tRzO C sp ta) := by
  intro pins s σ H Q I h
  obtain ⟨nm, q, N, bs, bm, sn, sub, ab, col, dd, k0, k1, k2, k3, k5, hC, hbm⟩ := T.cls
  refine wpAny_Call_Name_kw (ld_glob I hg hm (PySem.W.callWith_K (h₀ := X.base) I.ok.mod.kin T.kC (thn (ha.run pos pins s σ H _ I h) fun us s1 ⟨vs, H1, I1, r1, hz, q1⟩ => ⟨I1.kIn, ?_⟩) he hpl) hdb)
  change wpAny _ _ (call (.ref C) us) _ _ _
  obtain ⟨hp, g, dw, tk, os⟩ := s1
  have hsz : hp.objs.size ≤ hp.objs.size + 1 := Nat.le_succ _
  have hn : H1 (hp.objs.size + 1) = none := I1.hok.fresh hsz
  have hq := q1 (hp.objs.size + 1) hn
  have kk : ∀ b o, hp.get? b = some o → ((hp.push (PySem.W.kdv_tup us)).push (PySem.HandSPX.excO C hp.objs.size)).get? b = some o := fun b o z => Heap.get?_push_of_some _ (Heap.get?_push_of_some _ z)
  have hget : ((hp.push (PySem.W.kdv_tup us)).push (PySem.HandSPX.excO C hp.objs.size)).get? (hp.objs.size + 1) = some (PySem.HandSPX.excO C hp.objs.size) := by heap_get
  have I2 := I1.laid (t' := tk) (a := hp.objs.size + 1) (o := exo (hp.objs.size + 1) C none) (h' := (hp.push (PySem.W.kdv_tup us)).push (PySem.HandSPX.excO C hp.objs.size)) kk hsz (exo_ok hget)
  have r2 : Vals (V.ref (hp.objs.size + 1) :: vs) (Value.ref (hp.objs.size + 1) :: us) := .cons rfl r1
  have hl : (Value.ref (hp.objs.size + 1) :: us).length = ps.length := by rw [← F1.len _ _ _ _ hq]; exact r2.length.symm
  have hus : us.length ≤ sizeLine := by rw [← Paired.length r1, sizeLine_eq]; omega
  refine wpAny_call (PySem.HandSPX.call_own F.excBase_ValueError (fun Y => PySem.HandSPX.refsVE_contains Y bm hbm) (I1.kIn _ _ hC) (PySem.W.looks_findIn I1.kIn iC) (fun self => PySem.W.bind_fn I1.kIn self tI) hus (codeAny_mono (F1.run _ X.stack _ _ ⟨Value.ref (hp.objs.size + 1) :: us, []⟩ (Value.ref (hp.objs.size + 1) :: us) _ _ (fun _ _ _ => False) (hr.make C us []) (I2.env0.make C us []) (by have z := hb _ (Value.ref (hp.objs.size + 1) :: us) I2.kIn (by rw [List.append_nil]; exact hl); rw [List.append_nil] at z; exact z) r2 hq) fun r s' hq' => ?_))
  cases r with
  | error er => exact hx pins σ _ _ er s' I2 hq'
  | ok fl =>
    cases fl with
    | ret u =>
      obtain ⟨v, H2, os2, bare2, un2, hok2, rv, ev, d, fs, ea, ed, hd1, q2⟩ := hq'
      subst ev
      obtain ⟨h2, g2, d2, t2, os'⟩ := s'
      obtain ⟨t0, G, J, kG, ge, hoe, na⟩ := mk_end0 (d2 := d2) (t2 := t2) I1 hsz kk un2 hok2 os2 bare2 ea ed hd1
      exact ⟨rv, ⟨_, _, _, ⟨G, g2, d2, t2, os'⟩, _, .ref C, some d, rfl, J, kG, ge, hoe, ⟨rfl, rfl, fun vs z => by cases z; rfl⟩, rfl, rfl, na, rfl, bare2, raises_own T.exC T.tyC, q2⟩⟩
    | next => exact False.elim hq'
    | brk => exact False.elim hq'
    | cont => exact False.elim hq'
/-- C(v) to be raised, C's __init__ storing v as g -/
def tRz (C : Addr) (g : Str) (t : TA) : L2.St → Hp → XK → Prop := fun σ H Q => t σ H fun vs H1 => ∃ v, vs = [v] ∧ ∀ d H', Same H1 H' → H' d = some (.xd [(g, v)]) → Q (.ref C) (some d) H'
theorem pmkN_ini1 {x g y q : Str} {pa : Arguments} {sc : Scope} {body : List Stmt} {p1 p2 p3 p4 p pos : Pos} {f : Addr} {e : Expr} {es : List Expr} {t : TA} {k : Nat} (T : XCls X.K (He.ga X.K x)) (no : PySem.W.findIn X.K (.ref (He.ga X.K x)) g = some none) (gl : X.mg x = some (.ref (He.ga X.K x))) (me : Meth X.K (He.ga X.K x) "__init__" f)
    (F : ∃ fd, FunD X.K "__init__" q pa body sc [] [] f fd) (S : FnScope ["self", y] ["self", y] sc)
    (hb : body = [.Assign [.Attribute (.Name "self" p1) g p2] (.Name y p3) p4]) (v0 : Vis sc "self") (v1 : Vis sc y) (hy : (y == ("__debug__" : Str)) = false) (hy2 : (y == ("__classdict__" : Str)) = false)
    (bind : ∀ (kV doc pm : Value) (an : Option Addr) (cdv ct : Value) (us : List Value), us.length = 2 → bindArgs (PySem.W.fnOf "__init__" q pa body sc .none kV doc pm an cdv ct) ⟨us, []⟩ = pure ((["self", y] : List Str).zip us)) (hdb : (x == ("__debug__" : Str)) = false)
    (hr : Room k X.A) (ha : PA X (e :: es) t) (hk : 2 ≤ k := by decide) (hg : Gl X x := by rfl) (he : starEach (e :: es) X.env = (false, eval e X.env) :: starEach es X.env := by rfl) (hpl : (backTo pos (starEach es X.env)).any (·.1) = false := by rfl) :
    L2N.PMk X (.Call (.Name x p) (e :: es) [] pos) (tRz (He.ga X.K x) g t) := by
  obtain ⟨fd, F⟩ := F
  intro pins s σ H Q I h
  refine pmkN_oex T.ox me.at_ (isFn_ty me.fn) (ok_ini1 F T S no v0 v1 hy hy2 hb) (hr.mono hk) (F.bindsN bind) pass0 gl (wk_a ha) hg hdb he hpl pins s σ H Q I ⟨_, h, fun vs H1 ⟨v, ev, z⟩ => ?_⟩
  subst ev
  refine ⟨by show 1 ≤ 1000; decide, fun a hn => ⟨a, v, rfl, upd_same, fun d hd hne => ⟨rfl, d, _, upd_same, by rw [upd_ne hne, upd_same], ?_, z d _ (fun b o y => ?_) upd_same⟩⟩⟩
  · rw [upd_ne hne] at hd; exact hd
  · have hd1 : H1 d = none := by rw [upd_ne hne] at hd; exact hd
    have nb : b ≠ a := ne_of_none y hn
    rw [upd_ne (ne_of_none y hd1), del_ne nb, upd_ne nb, upd_ne (ne_of_none y hd1), upd_ne nb]; exact y
end
/-! ### in the suite: e.f, e.m(), isinstance(e, c) -/
section
variable {X : Cx} {a C : Addr} {oe : Obj} {cls : Value} {d : Option Addr} {pn : List (Addr × Obj)} {pins : List (Addr × Obj)} {σ : L2.St} {H : Hp} {s : Shared}
theorem n_inst {fs : List (Str × V)} {dd : Addr} (I : Inv (X.suite a ((a, oe) :: pn)) pins σ H s) (hz : L2N.Zn (.ref C) (some dd) oe) (hf : ∃ vs, oe.data = .fields vs) (hd : H dd = some (.xd fs)) : ∃ od, PySem.W.InstAt s.heap a oe C (some od) ∧ ∀ f : Str, (fs.lookup f = none → PySem.W.shadowIn (some od) f = some false) ∧ ∀ v, fs.lookup f = some v → ∃ u, PySem.W.lookIn f od = some (some u) ∧ RelV v u := by
  obtain ⟨ha, _⟩ := I.pin (a, oe) (List.mem_append_left _ List.mem_cons_self)
  obtain ⟨vs, hv⟩ := hf
  obtain ⟨mA, hns, hr⟩ := (show ObjOk X.prog X.w H s.heap dd (.xd fs) from I.hok dd _ hd)
  obtain ⟨od, ho, hl⟩ := lookIn_ns hns
  refine ⟨od, ⟨ha, hz.1, by unfold PySem.W.notCls; rw [hv] <;> rfl, by rw [hz.2.1]; exact ho⟩, fun f => ⟨fun z => ?_, fun v z => ?_⟩⟩
  · have hn : mA f = none := RelO.none_of (by rw [← z]; exact hr f)
    show (PySem.W.lookIn f od).map (·.isSome) = some false
    rw [hl, hn] <;> rfl
  · obtain ⟨u, hu, ru⟩ := RelO.some_of (v := v) (o := mA f) (by rw [← z]; exact hr f)
    exact ⟨u, by rw [hl, hu], ru⟩
/-- what the suite knows: its exception is of the class at C, its fields are fs -/
structure Caught (K : PySem.W.Frag) (cls : Value) (d : Option Addr) (H : Hp) (C : Addr) (fs : List (Str × V)) : Prop where
  c : cls = .ref C
  t : XCls K C
  d : ∃ dd, d = some dd ∧ H dd = some (.xd fs)
def tXs (K : PySem.W.Frag) (a : Addr) (cls : Value) (d : Option Addr) (f : Str) (te : TE) : TE := fun σ H Q => te σ H fun x H1 => ∃ (C : Addr) (fs : List (Str × V)) (v : V), x = .ref a ∧ Caught K cls d H1 C fs ∧ PySem.W.findIn K (.ref C) f = some none ∧ fs.lookup f = some v ∧ Q v H1
theorem pe_xs {e : Expr} {te : TE} {f : Str} {pos : Pos} (hz : L2N.Zn cls d oe) (hf : ∃ vs, oe.data = .fields vs) (he : PE (X.suite a ((a, oe) :: pn)) e te) (hb : attributeBase e f X.env (eval e X.env) = eval e X.env := by rfl) : PE (X.suite a ((a, oe) :: pn)) (.Attribute e f pos) (tXs X.K a cls d f te) := by
  refine ⟨fun pins s σ H Q I h => attr_of hb (thn (he.run pins s σ H _ I h) fun u s1 ⟨x, H1, I1, rx, C, fs, v, ex, ⟨ec, T, dd, ed, hd⟩, hno, hl, q⟩ => ?_)⟩
  subst ex
  obtain rfl : u = Value.ref a := rx
  subst ec ed
  obtain ⟨od, J, g⟩ := n_inst I1 hz hf hd
  obtain ⟨w, lk, rw'⟩ := (g f).2 v hl
  exact HandSPX.exc_get I1.kIn J T.ga T.gt T.ox.exC (PySem.W.findObj_own T.hd hno rfl lk) (handed_of rw') ⟨v, H1, I1.tok _, rw', q⟩
structure XMethH (P : Program) (w : World) (K : PySem.W.Frag) (mg : Str → Option Value) (base : Heap) (C : Addr) (m : Str) (f : Addr) (z : Str) : Prop where
  at_ : PySem.W.findIn K (.ref C) m = some (some (.ref f))
  ty : PySem.W.typeIn K (.ref f) = some (.type "function")
  kp : PySem.W.keepIn K (.ref f) = true
  fn : ∃ fd, L2H.FnH P w K mg base CX0 1 f fd ["self"] (spTold z) ∧ Binds K fd ["self"] []
def tXsM (X : Cx) (a : Addr) (cls : Value) (d : Option Addr) (m : Str) (te : TE) : TE := fun σ H Q => te σ H fun x H1 => ∃ (C f : Addr) (fs : List (Str × V)) (z : Str), x = .ref a ∧ Caught X.K cls d H1 C fs ∧ fs.lookup m = none ∧ XMethH X.prog X.w X.K X.mg X.base C m f z ∧ Q (.str z) H1
theorem pe_xsM {k : Nat} {o : Expr} {te : TE} {m : Str} {apos pos : Pos} {pl : Sem Bool} (hz : L2N.Zn cls d oe) (hf : ∃ vs, oe.data = .fields vs) (hr : Room k X.A) (he : PE (X.suite a ((a, oe) :: pn)) o te) (hk : 1 ≤ k := by decide)
    (hq : eval (.Call (.Attribute o m apos) [] [] pos) X.env = (do
      let ov ← eval o X.env
      standAt apos.atName
      let (f, first) ← holding [ov] (getMethod ov m pl)
      callWith pos f first (backTo pos (starEach [] X.env)) (backToKw pos (keywordEach [] X.env))) := by rfl) : PE (X.suite a ((a, oe) :: pn)) (.Call (.Attribute o m apos) [] [] pos) (tXsM X a cls d m te) := by
  refine ⟨fun pins s σ H Q I h => PySem.W.methodCall_KW (pl := pl) (thn (he.run pins s σ H _ I h) fun u s1 ⟨x, H1, I1, rx, C, f, fs, z, ex, ⟨ec, T, dd, ed, hd⟩, hl, M, q⟩ => ?_) hq⟩
  subst ex
  obtain rfl : u = Value.ref a := rx
  subst ec ed
  obtain ⟨od, J, g⟩ := n_inst I1 hz hf hd
  obtain ⟨fd, F, B⟩ := M.fn
  refine x_meth I1.kIn J T.ga T.gt M.at_ M.ty ((g m).1 hl) (PySem.W.callWith_K0 (first := [.ref a]) I1.kIn M.kp ?_)
  obtain ⟨vs, hv⟩ := hf
  have hot : L2H.HotC (X.suite a ((a, oe) :: pn)) := ⟨(a, oe), ⟨rfl, vs, hv, hz.2.2 vs hv⟩, List.mem_cons_self⟩
  exact L2H.run_fnH (X := X.suite a ((a, oe) :: pn)) (E := fun _ => E0) (us := [.ref a]) (vs := [.ref a]) F ⟨(hr.mono hk).dp, (hr.mono hk).un⟩ hot B (fun _ _ _ _ _ _ z => z.elim) I1 (.cons rfl .nil) ⟨a, rfl, q⟩
def rIsS (K : PySem.W.Frag) (a : Addr) (cls : Value) (d : Option Addr) : List V → Hp → VK → Prop := fun xs H Q => ∃ (C : Addr) (fs : List (Str × V)) (c : V) (cv : Value) (b : Bool), xs = [.ref a, c] ∧ Caught K cls d H C fs ∧ (∀ u, RelV c u → u = cv) ∧ PySem.W.kitOne K (.ref C) cv = some b ∧ Q (.bl b) H
theorem call_isS (hz : L2N.Zn cls d oe) (hf : ∃ vs, oe.data = .fields vs) : CallR (X.suite a ((a, oe) :: pn)) (.builtin "isinstance") (rIsS X.K a cls d) := by
  intro pins s σ H xs us Q I r h
  obtain ⟨C, fs, c, cv, b, rfl, ⟨ec, T, dd, ed, hd⟩, hcv, hk, q⟩ := h
  obtain ⟨u1, u2, rfl, r1, r2⟩ := r.two
  cases (show u1 = Value.ref a from r1)
  have e2 := hcv _ r2
  subst e2 ec ed
  obtain ⟨od, J, _⟩ := n_inst I hz hf hd
  exact PySem.W.kia_one (x_kit T) I.kIn J hk (fun z => nomatch z) fun tk => ⟨.bl b, H, I.tok _, rfl, q⟩
end
theorem toldH_of {P : Program} {w : World} {K : PySem.W.Frag} {mg : Str → Option Value} {base : Heap} {C f : Addr} {q z : Str} {pa : Arguments} {body : List Stmt} {sc : Scope} {j : Nat} {p p2 : Pos} (me : Meth K C "told" f) (F : ∃ fd, FunD K "told" q pa body sc [] [] f fd)
    (S : FnScope ["self"] ["self"] sc) (hb : body = [.Return (some (.Constant (.str z) j p)) p2]) (bind : ∀ (kV doc pm : Value) (an : Option Addr) (cdv ct : Value) (us : List Value), us.length = 1 → bindArgs (PySem.W.fnOf "told" q pa body sc .none kV doc pm an cdv ct) ⟨us, []⟩ = pure ((["self"] : List Str).zip us)) : XMethH P w K mg base C "told" f z := by
  obtain ⟨fd, F⟩ := F
  refine ⟨me.at_, isFn_ty me.fn, me.kp, fd, ?_, F.bindsN bind⟩
  subst hb
  obtain ⟨oc, od, dV, kV, doc, pm, an, cdv, ct, osl, rfl, lk, hcd, _, _⟩ := F.ex
  refine L2H.fn_ofH lk hcd S (fun vs H Q E h => ?_) fun A outer s H vs Q E p hot hr h => ⟨_, pss_one (ps_ret pe_str), ?_⟩
  · obtain ⟨a, rfl, _⟩ := h
    rfl
  · obtain ⟨a, rfl, q⟩ := h
    exact q
end My

namespace My
open PySem PySem.Spec PyProof.Rows L2 PySem.Calls
/-! ### fractions in lowest terms -/
/-- what Ratio(t, b) holds -/
def nrm (t b : Int) : Int × Int :=
  let g : Int := (Nat.gcd t.natAbs b.natAbs : Nat)
  if b < 0 then (t.fdiv (-g), b.fdiv (-g)) else (t.fdiv g, b.fdiv g)
def Can (q : Int × Int) : Prop := 1 ≤ q.2 ∧ Nat.gcd q.1.natAbs q.2.natAbs = 1
theorem nrm_spec {t b : Int} (hb : b ≠ 0) : ∃ g : Int, g ≠ 0 ∧ t = g * (nrm t b).1 ∧ b = g * (nrm t b).2 ∧ Can (nrm t b) := by
  have hg : 0 < Nat.gcd t.natAbs b.natAbs := Nat.gcd_pos_of_pos_right _ (Int.natAbs_pos.mpr hb)
  obtain ⟨t', ht⟩ := Nat.gcd_dvd_left t.natAbs b.natAbs
  obtain ⟨b', hb'⟩ := Nat.gcd_dvd_right t.natAbs b.natAbs
  generalize hG : Nat.gcd t.natAbs b.natAbs = g at *
  have hcop : Nat.gcd t' b' = 1 := by
    have e : g * Nat.gcd t' b' = g * 1 := by
      rw [Nat.mul_one, ← Nat.gcd_mul_left, ← ht, ← hb', hG]
    exact Nat.eq_of_mul_eq_mul_left hg e
  have hb0 : 0 < b' := Nat.pos_of_ne_zero fun z => by rw [z, Nat.mul_zero] at hb'; exact hb (Int.natAbs_eq_zero.mp hb')
  have fd : ∀ (x : Int) (y : Nat), x.natAbs = g * y → x.fdiv (g : Int) = (if x < 0 then -(y : Int) else (y : Int)) ∧ x.fdiv (-(g : Int)) = (if x < 0 then (y : Int) else -(y : Int)) := fun x y e => by
    have gz : (g : Int) ≠ 0 := by omega
    by_cases hx : x < 0
    · have ex : x = (g : Int) * (-(y : Int)) := by
        have : (x.natAbs : Int) = (g : Int) * (y : Int) := by rw [e]; exact Int.natCast_mul g y
        rw [Int.mul_neg]; omega
      have ex2 : x = -(g : Int) * (y : Int) := by rw [ex, Int.mul_neg, Int.neg_mul]
      rw [if_pos hx, if_pos hx]
      refine ⟨?_, ?_⟩
      · rw [ex, Int.mul_fdiv_cancel_left _ gz]
      · rw [ex2, Int.mul_fdiv_cancel_left _ (by omega)]
    · have ex : x = (g : Int) * (y : Int) := by
        have : (x.natAbs : Int) = (g : Int) * (y : Int) := by rw [e]; exact Int.natCast_mul g y
        omega
      have ex2 : x = -(g : Int) * (-(y : Int)) := by rw [ex, Int.neg_mul_neg]
      rw [if_neg hx, if_neg hx]
      refine ⟨?_, ?_⟩
      · rw [ex, Int.mul_fdiv_cancel_left _ gz]
      · rw [ex2, Int.mul_fdiv_cancel_left _ (by omega)]
  obtain ⟨f1, f2⟩ := fd t t' ht
  obtain ⟨f3, f4⟩ := fd b b' hb'
  have ct : (t.natAbs : Int) = (g : Int) * (t' : Int) := by rw [ht]; exact Int.natCast_mul g t'
  have cb : (b.natAbs : Int) = (g : Int) * (b' : Int) := by rw [hb']; exact Int.natCast_mul g b'
  by_cases hn : b < 0
  · have e : nrm t b = (t.fdiv (-(g : Int)), b.fdiv (-(g : Int))) := by unfold nrm; simp only [hG]; rw [if_pos hn]
    rw [e, f2, f4, if_pos hn]
    refine ⟨-(g : Int), by omega, ?_, ?_, ?_⟩
    · show t = -(g : Int) * (if t < 0 then (t' : Int) else -(t' : Int))
      split
      · rw [Int.neg_mul]; omega
      · rw [Int.neg_mul_neg]; omega
    · show b = -(g : Int) * (b' : Int)
      rw [Int.neg_mul]; omega
    · refine ⟨by show 1 ≤ (b' : Int); omega, ?_⟩
      show Nat.gcd (Int.natAbs (if t < 0 then (t' : Int) else -(t' : Int))) (Int.natAbs (b' : Int)) = 1
      split <;> simpa using hcop
  · have e : nrm t b = (t.fdiv (g : Int), b.fdiv (g : Int)) := by unfold nrm; simp only [hG]; rw [if_neg hn]
    rw [e, f1, f3, if_neg hn]
    refine ⟨(g : Int), by omega, ?_, ?_, ?_⟩
    · show t = (g : Int) * (if t < 0 then -(t' : Int) else (t' : Int))
      split
      · rw [Int.mul_neg]; omega
      · omega
    · show b = (g : Int) * (b' : Int)
      omega
    · refine ⟨by show 1 ≤ (b' : Int); omega, ?_⟩
      show Nat.gcd (Int.natAbs (if t < 0 then -(t' : Int) else (t' : Int))) (Int.natAbs (b' : Int)) = 1
      split <;> simpa using hcop
theorem nrm_can {t b : Int} (hb : b ≠ 0) : Can (nrm t b) := let ⟨_, _, _, _, h⟩ := nrm_spec (t := t) hb; h
/-- the value is the same -/
theorem nrm_eq {t b : Int} (hb : b ≠ 0) : (nrm t b).1 * b = t * (nrm t b).2 := by
  obtain ⟨g, _, e1, e2, _⟩ := nrm_spec (t := t) hb
  generalize nrm t b = q at *
  rw [e1, e2, Int.mul_left_comm, Int.mul_comm g q.1, Int.mul_assoc, Int.mul_left_comm]
theorem nrm_le {t b : Int} (hb : b ≠ 0) : (nrm t b).1.natAbs ≤ t.natAbs ∧ (nrm t b).2.natAbs ≤ b.natAbs := by
  obtain ⟨g, hg, e1, e2, _⟩ := nrm_spec (t := t) hb
  generalize nrm t b = q at *
  have g1 : 1 ≤ g.natAbs := Int.natAbs_pos.mpr hg
  rw [e1, e2, Int.natAbs_mul, Int.natAbs_mul]
  exact ⟨Nat.le_mul_of_pos_left _ g1, Nat.le_mul_of_pos_left _ g1⟩
end My

namespace My
open PySem PySem.Spec PyProof.Rows L2
def top (i : Nat) : Stmt := PySem.Challenge.pw_anymethod_k01_ratio_arithmetic.main.body.getD i (.Pass ⟨0, 0, 0, 0⟩)
abbrev s_MethodError_told : Stmt := inClass (top 2) 0
def d_MethodError_told : He.DefD := ⟨("MethodError", some "told"), "told", "MethodError.told", defArgs s_MethodError_told, defBody s_MethodError_told, defScope s_MethodError_told, [], []⟩
abbrev s_NoRatio_init : Stmt := inClass (top 3) 0
def d_NoRatio_init : He.DefD := ⟨("NoRatio", some "__init__"), "__init__", "NoRatio.__init__", defArgs s_NoRatio_init, defBody s_NoRatio_init, defScope s_NoRatio_init, [], []⟩
abbrev s_NoRatio_told : Stmt := inClass (top 3) 1
def d_NoRatio_told : He.DefD := ⟨("NoRatio", some "told"), "told", "NoRatio.told", defArgs s_NoRatio_told, defBody s_NoRatio_told, defScope s_NoRatio_told, [], []⟩
abbrev s_is_integer : Stmt := top 6
def d_is_integer : He.DefD := ⟨("is_integer", none), "is_integer", "is_integer", defArgs s_is_integer, defBody s_is_integer, defScope s_is_integer, [], []⟩
abbrev s_Ratio_init : Stmt := inClass (top 10) 0
def d_Ratio_init : He.DefD := ⟨("Ratio", some "__init__"), "__init__", "Ratio.__init__", defArgs s_Ratio_init, defBody s_Ratio_init, defScope s_Ratio_init, [.int 1], []⟩
abbrev s_Ratio_eq : Stmt := inClass (top 10) 1
def d_Ratio_eq : He.DefD := ⟨("Ratio", some "__eq__"), "__eq__", "Ratio.__eq__", defArgs s_Ratio_eq, defBody s_Ratio_eq, defScope s_Ratio_eq, [], []⟩
abbrev s_Ratio_lt : Stmt := inClass (top 10) 2
def d_Ratio_lt : He.DefD := ⟨("Ratio", some "__lt__"), "__lt__", "Ratio.__lt__", defArgs s_Ratio_lt, defBody s_Ratio_lt, defScope s_Ratio_lt, [], []⟩
abbrev s_Ratio_le : Stmt := inClass (top 10) 3
def d_Ratio_le : He.DefD := ⟨("Ratio", some "__le__"), "__le__", "Ratio.__le__", defArgs s_Ratio_le, defBody s_Ratio_le, defScope s_Ratio_le, [], []⟩
abbrev s_Ratio_gt : Stmt := inClass (top 10) 4
def d_Ratio_gt : He.DefD := ⟨("Ratio", some "__gt__"), "__gt__", "Ratio.__gt__", defArgs s_Ratio_gt, defBody s_Ratio_gt, defScope s_Ratio_gt, [], []⟩
abbrev s_Ratio_ge : Stmt := inClass (top 10) 5
def d_Ratio_ge : He.DefD := ⟨("Ratio", some "__ge__"), "__ge__", "Ratio.__ge__", defArgs s_Ratio_ge, defBody s_Ratio_ge, defScope s_Ratio_ge, [], []⟩
abbrev s_Ratio_neg : Stmt := inClass (top 10) 6
def d_Ratio_neg : He.DefD := ⟨("Ratio", some "__neg__"), "__neg__", "Ratio.__neg__", defArgs s_Ratio_neg, defBody s_Ratio_neg, defScope s_Ratio_neg, [], []⟩
abbrev s_Ratio_pos : Stmt := inClass (top 10) 7
def d_Ratio_pos : He.DefD := ⟨("Ratio", some "__pos__"), "__pos__", "Ratio.__pos__", defArgs s_Ratio_pos, defBody s_Ratio_pos, defScope s_Ratio_pos, [], []⟩
abbrev s_Ratio_abs : Stmt := inClass (top 10) 8
def d_Ratio_abs : He.DefD := ⟨("Ratio", some "__abs__"), "__abs__", "Ratio.__abs__", defArgs s_Ratio_abs, defBody s_Ratio_abs, defScope s_Ratio_abs, [], []⟩
abbrev s_Ratio_add : Stmt := inClass (top 10) 9
def d_Ratio_add : He.DefD := ⟨("Ratio", some "__add__"), "__add__", "Ratio.__add__", defArgs s_Ratio_add, defBody s_Ratio_add, defScope s_Ratio_add, [], []⟩
abbrev s_Ratio_radd : Stmt := inClass (top 10) 10
def d_Ratio_radd : He.DefD := ⟨("Ratio", some "__radd__"), "__radd__", "Ratio.__radd__", defArgs s_Ratio_radd, defBody s_Ratio_radd, defScope s_Ratio_radd, [], []⟩
abbrev s_Ratio_sub : Stmt := inClass (top 10) 11
def d_Ratio_sub : He.DefD := ⟨("Ratio", some "__sub__"), "__sub__", "Ratio.__sub__", defArgs s_Ratio_sub, defBody s_Ratio_sub, defScope s_Ratio_sub, [], []⟩
abbrev s_Ratio_rsub : Stmt := inClass (top 10) 12
def d_Ratio_rsub : He.DefD := ⟨("Ratio", some "__rsub__"), "__rsub__", "Ratio.__rsub__", defArgs s_Ratio_rsub, defBody s_Ratio_rsub, defScope s_Ratio_rsub, [], []⟩
abbrev s_Ratio_mul : Stmt := inClass (top 10) 13
def d_Ratio_mul : He.DefD := ⟨("Ratio", some "__mul__"), "__mul__", "Ratio.__mul__", defArgs s_Ratio_mul, defBody s_Ratio_mul, defScope s_Ratio_mul, [], []⟩
abbrev s_Ratio_rmul : Stmt := inClass (top 10) 14
def d_Ratio_rmul : He.DefD := ⟨("Ratio", some "__rmul__"), "__rmul__", "Ratio.__rmul__", defArgs s_Ratio_rmul, defBody s_Ratio_rmul, defScope s_Ratio_rmul, [], []⟩
abbrev s_Ratio_floordiv : Stmt := inClass (top 10) 15
def d_Ratio_floordiv : He.DefD := ⟨("Ratio", some "__floordiv__"), "__floordiv__", "Ratio.__floordiv__", defArgs s_Ratio_floordiv, defBody s_Ratio_floordiv, defScope s_Ratio_floordiv, [], []⟩
abbrev s_Ratio_rfloordiv : Stmt := inClass (top 10) 16
def d_Ratio_rfloordiv : He.DefD := ⟨("Ratio", some "__rfloordiv__"), "__rfloordiv__", "Ratio.__rfloordiv__", defArgs s_Ratio_rfloordiv, defBody s_Ratio_rfloordiv, defScope s_Ratio_rfloordiv, [], []⟩
abbrev s_Ratio_mod : Stmt := inClass (top 10) 17
def d_Ratio_mod : He.DefD := ⟨("Ratio", some "__mod__"), "__mod__", "Ratio.__mod__", defArgs s_Ratio_mod, defBody s_Ratio_mod, defScope s_Ratio_mod, [], []⟩
abbrev s_Ratio_rmod : Stmt := inClass (top 10) 18
def d_Ratio_rmod : He.DefD := ⟨("Ratio", some "__rmod__"), "__rmod__", "Ratio.__rmod__", defArgs s_Ratio_rmod, defBody s_Ratio_rmod, defScope s_Ratio_rmod, [], []⟩
abbrev s_Ratio_pow : Stmt := inClass (top 10) 19
def d_Ratio_pow : He.DefD := ⟨("Ratio", some "__pow__"), "__pow__", "Ratio.__pow__", defArgs s_Ratio_pow, defBody s_Ratio_pow, defScope s_Ratio_pow, [], []⟩
abbrev s_Ratio_over : Stmt := inClass (top 10) 20
def d_Ratio_over : He.DefD := ⟨("Ratio", some "over"), "over", "Ratio.over", defArgs s_Ratio_over, defBody s_Ratio_over, defScope s_Ratio_over, [], []⟩
abbrev s_Ratio_power : Stmt := inClass (top 10) 21
def d_Ratio_power : He.DefD := ⟨("Ratio", some "power"), "power", "Ratio.power", defArgs s_Ratio_power, defBody s_Ratio_power, defScope s_Ratio_power, [], []⟩
abbrev s_Ratio_text : Stmt := inClass (top 10) 22
def d_Ratio_text : He.DefD := ⟨("Ratio", some "text"), "text", "Ratio.text", defArgs s_Ratio_text, defBody s_Ratio_text, defScope s_Ratio_text, [], []⟩
abbrev s_whole_number : Stmt := top 11
def d_whole_number : He.DefD := ⟨("whole_number", none), "whole_number", "whole_number", defArgs s_whole_number, defBody s_whole_number, defScope s_whole_number, [], []⟩
abbrev s_is_number : Stmt := top 12
def d_is_number : He.DefD := ⟨("is_number", none), "is_number", "is_number", defArgs s_is_number, defBody s_is_number, defScope s_is_number, [], []⟩
abbrev s_as_ratio : Stmt := top 13
def d_as_ratio : He.DefD := ⟨("as_ratio", none), "as_ratio", "as_ratio", defArgs s_as_ratio, defBody s_as_ratio, defScope s_as_ratio, [], []⟩
abbrev s_cell : Stmt := top 15
def d_cell : He.DefD := ⟨("_law_cell", none), "_law_cell", "_law_cell", defArgs s_cell, defBody s_cell, defScope s_cell, [], []⟩
abbrev s_pouch : Stmt := top 16
def d_pouch : He.DefD := ⟨("_law_pouch", none), "_law_pouch", "_law_pouch", defArgs s_pouch, defBody s_pouch, defScope s_pouch, [], []⟩
abbrev s_draw : Stmt := top 17
def d_draw : He.DefD := ⟨("_law_draw", none), "_law_draw", "_law_draw", defArgs s_draw, defBody s_draw, defScope s_draw, [], []⟩
abbrev s_number : Stmt := top 18
def d_number : He.DefD := ⟨("_law_number", none), "_law_number", "_law_number", defArgs s_number, defBody s_number, defScope s_number, [], []⟩
abbrev s_make : Stmt := top 19
def d_make : He.DefD := ⟨("_law_make", none), "_law_make", "_law_make", defArgs s_make, defBody s_make, defScope s_make, [], []⟩
abbrev s_Lis_integer : Stmt := top 20
def d_Lis_integer : He.DefD := ⟨("_law_is_integer", none), "_law_is_integer", "_law_is_integer", defArgs s_Lis_integer, defBody s_Lis_integer, defScope s_Lis_integer, [], []⟩
abbrev s_is_ratio : Stmt := top 21
def d_is_ratio : He.DefD := ⟨("_law_is_ratio", none), "_law_is_ratio", "_law_is_ratio", defArgs s_is_ratio, defBody s_is_ratio, defScope s_is_ratio, [], []⟩
abbrev s_pair : Stmt := top 22
def d_pair : He.DefD := ⟨("_law_pair", none), "_law_pair", "_law_pair", defArgs s_pair, defBody s_pair, defScope s_pair, [], []⟩
abbrev s_sum : Stmt := top 23
def d_sum : He.DefD := ⟨("_law_sum", none), "_law_sum", "_law_sum", defArgs s_sum, defBody s_sum, defScope s_sum, [], []⟩
abbrev s_dot : Stmt := top 24
def d_dot : He.DefD := ⟨("_law_dot", none), "_law_dot", "_law_dot", defArgs s_dot, defBody s_dot, defScope s_dot, [], []⟩
abbrev s_below : Stmt := top 25
def d_below : He.DefD := ⟨("_law_below", none), "_law_below", "_law_below", defArgs s_below, defBody s_below, defScope s_below, [], []⟩
abbrev s_same : Stmt := top 26
def d_same : He.DefD := ⟨("_law_same", none), "_law_same", "_law_same", defArgs s_same, defBody s_same, defScope s_same, [], []⟩
abbrev s_abs : Stmt := top 27
def d_abs : He.DefD := ⟨("_law_abs", none), "_law_abs", "_law_abs", defArgs s_abs, defBody s_abs, defScope s_abs, [], []⟩
abbrev s_divisor : Stmt := top 28
def d_divisor : He.DefD := ⟨("_law_divisor", none), "_law_divisor", "_law_divisor", defArgs s_divisor, defBody s_divisor, defScope s_divisor, [], []⟩
abbrev s_right : Stmt := top 29
def d_right : He.DefD := ⟨("_law_right", none), "_law_right", "_law_right", defArgs s_right, defBody s_right, defScope s_right, [], []⟩
abbrev s_plain : Stmt := top 30
def d_plain : He.DefD := ⟨("_law_plain", none), "_law_plain", "_law_plain", defArgs s_plain, defBody s_plain, defScope s_plain, [], []⟩
abbrev s_divided : Stmt := top 31
def d_divided : He.DefD := ⟨("_law_divided", none), "_law_divided", "_law_divided", defArgs s_divided, defBody s_divided, defScope s_divided, [], []⟩
abbrev s_reflected : Stmt := top 32
def d_reflected : He.DefD := ⟨("_law_reflected", none), "_law_reflected", "_law_reflected", defArgs s_reflected, defBody s_reflected, defScope s_reflected, [], []⟩
abbrev s_zero : Stmt := top 33
def d_zero : He.DefD := ⟨("_law_zero", none), "_law_zero", "_law_zero", defArgs s_zero, defBody s_zero, defScope s_zero, [], []⟩
abbrev s_Lpower : Stmt := top 34
def d_Lpower : He.DefD := ⟨("_law_power", none), "_law_power", "_law_power", defArgs s_Lpower, defBody s_Lpower, defScope s_Lpower, [], []⟩
abbrev s_exponent : Stmt := top 35
def d_exponent : He.DefD := ⟨("_law_exponent", none), "_law_exponent", "_law_exponent", defArgs s_exponent, defBody s_exponent, defScope s_exponent, [], []⟩
abbrev s_word : Stmt := top 36
def d_word : He.DefD := ⟨("_law_word", none), "_law_word", "_law_word", defArgs s_word, defBody s_word, defScope s_word, [], []⟩
abbrev s_words : Stmt := top 37
def d_words : He.DefD := ⟨("_law_words", none), "_law_words", "_law_words", defArgs s_words, defBody s_words, defScope s_words, [], []⟩
abbrev s_law : Stmt := top 38
def d_law : He.DefD := ⟨("law", none), "law", "law", defArgs s_law, defBody s_law, defScope s_law, [], []⟩
def fn0 : List He.DefD := [d_MethodError_told, d_NoRatio_init, d_NoRatio_told, d_is_integer, d_Ratio_init, d_Ratio_eq, d_Ratio_lt, d_Ratio_le, d_Ratio_gt, d_Ratio_ge, d_Ratio_neg, d_Ratio_pos, d_Ratio_abs, d_Ratio_add, d_Ratio_radd, d_Ratio_sub, d_Ratio_rsub, d_Ratio_mul, d_Ratio_rmul, d_Ratio_floordiv, d_Ratio_rfloordiv, d_Ratio_mod, d_Ratio_rmod, d_Ratio_pow, d_Ratio_over]
def fn1 : List He.DefD := [d_Ratio_power, d_Ratio_text, d_whole_number, d_is_number, d_as_ratio, d_cell, d_pouch, d_draw, d_number, d_make, d_Lis_integer, d_is_ratio, d_pair, d_sum, d_dot, d_below, d_same, d_abs, d_divisor, d_right, d_plain, d_divided, d_reflected, d_zero, d_Lpower]
def fn2 : List He.DefD := [d_exponent, d_word, d_words, d_law]
def fn : List He.DefD := fn0 ++ (fn1 ++ (fn2))
def fa0 : List He.Fa := [.glo "MethodError", .glo "NoRatio", .glo "is_integer", .glo "Ratio", .glo "whole_number", .glo "is_number", .glo "as_ratio", .glo "_law_cell", .glo "_law_pouch", .glo "_law_draw", .glo "_law_number", .glo "_law_make", .glo "_law_is_integer", .glo "_law_is_ratio", .glo "_law_pair", .glo "_law_sum", .glo "_law_dot", .glo "_law_below", .glo "_law_same", .glo "_law_abs", .glo "_law_divisor", .glo "_law_right", .glo "_law_plain", .glo "_law_divided", .glo "_law_reflected"]
def fa1 : List He.Fa := [.glo "_law_zero", .glo "_law_power", .glo "_law_exponent", .glo "_law_word", .glo "_law_words", .glo "law", .meth "MethodError" "told", .exc "MethodError", .meth "NoRatio" "__init__", .meth "NoRatio" "told", .noat "NoRatio" "word", .cls "Ratio", .mkr "Ratio", .meth "Ratio" "__init__", .meth "Ratio" "__eq__", .meth "Ratio" "__lt__", .meth "Ratio" "__le__", .meth "Ratio" "__gt__", .meth "Ratio" "__ge__", .meth "Ratio" "__neg__", .meth "Ratio" "__pos__", .meth "Ratio" "__abs__", .meth "Ratio" "__add__", .meth "Ratio" "__radd__", .meth "Ratio" "__sub__"]
def fa2 : List He.Fa := [.meth "Ratio" "__rsub__", .meth "Ratio" "__mul__", .meth "Ratio" "__rmul__", .meth "Ratio" "__floordiv__", .meth "Ratio" "__rfloordiv__", .meth "Ratio" "__mod__", .meth "Ratio" "__rmod__", .meth "Ratio" "__pow__", .meth "Ratio" "over", .meth "Ratio" "power", .meth "Ratio" "text", .noat "Ratio" "top", .noat "Ratio" "bottom", .noat "Ratio" "__iadd__", .noat "Ratio" "__rpow__", .free "abs", .free "all", .free "bool", .free "int", .free "isinstance", .free "len", .free "range", .int "MOST_POWER" 20]
def fa : List He.Fa := fa0 ++ (fa1 ++ (fa2))
def rf (K : PySem.W.Frag) (x : Str) : Value := .ref (He.ga K x)
def exX (K : PySem.W.Frag) (x : Str) : Bool := xclsB K (He.ga K x) && (decide (PySem.W.kitOne K (rf K x) (rf K "MethodError") = some true) && decide (PySem.W.exmOne K (rf K x) (rf K x) = some true))
def exR (K : PySem.W.Frag) (x : Str) : Bool := PySem.W.selfFirst K (He.ga K x) && (decide (PySem.W.subIn K (rf K x) (.type "int") = some false) && (decide (PySem.W.subIn K (.type "int") (rf K x) = some false) && (decide (PySem.W.findIn K (rf K x) "__class__" = some (some (.builtin "object.__class__"))) &&
  (decide (PySem.W.specialIn K (.builtin "object.__class__") "__get__" = some (some (.builtin "getset_descriptor.__get__"))) && (decide (PySem.W.takesIn K (.builtin "object.__class__") = some true) && (decide (PySem.W.mroIn K (He.ga K x) (.type "object") = some true) &&
  (decide (PySem.W.kitOne K (rf K x) (rf K x) = some true) && (decide (PySem.W.kitOne K (rf K x) (.type "int") = some false) && (decide (PySem.W.kitOne K (rf K x) (.type "bool") = some false) && ["int", "bool", "NoneType", "str", "tuple", "list", "dict"].all fun ty => decide (PySem.W.kitOne K (.type ty) (rf K x) = some false))))))))))
def exI (K : PySem.W.Frag) : Bool := ["add", "sub", "mul", "floordiv", "mod", "pow"].all fun n => (PySem.W.findIn K (.type "int") (PySem.dunder n)).isSome && (PySem.W.findIn K (.type "int") (PySem.dunderR n)).isSome
def exM (K : PySem.W.Frag) : Bool := (match PySem.W.clsIn K (He.ga K "Ratio") with
  | some cd => decide (cd.mro = [.ref (He.ga K "Ratio"), .type "object"])
  | none => false) && decide (PySem.W.findIn K (.type "object") "__iadd__" = some none)
def exG (K : PySem.W.Frag) : Bool := exM K && decide (PySem.W.nsIn K mainGlobals "gcd" = some (some (.builtin "math.gcd")))
def ex (K : PySem.W.Frag) : Bool := exX K "NoRatio" && (exR K "Ratio" && (exI K && exG K))
def nm0 : List PySem.Str := ["MethodError", "NoRatio", "DIGITS", "is_integer", "MOST_DIGITS", "MOST_POWER", "Ratio", "whole_number", "is_number", "as_ratio", "_law_cell", "_law_pouch", "_law_draw", "_law_number", "_law_make", "_law_is_integer", "_law_is_ratio", "_law_pair", "_law_sum", "_law_dot", "_law_below", "_law_same", "_law_abs", "_law_divisor", "_law_right"]
def nm1 : List PySem.Str := ["_law_plain", "_law_divided", "_law_reflected", "_law_zero", "_law_power", "_law_exponent", "_law_word", "_law_words"]
def loose : List PySem.Str := nm0 ++ (nm1)
abbrev R : PySem.W.OpenRow := PySem.W.OpenLaw.row PySem.Challenge.rw_anymethod_k01_ratio_arithmetic
abbrev hk : PySem.W.Hook := hookM 5 fa fn ex
def ob (s : PySem.W.SharedT) : He.AlD := obsMG 5 fa fn ex (HandSHeadRun.getT s)
theorem ob_eq (s : PySem.W.SharedT) : ob s = hk.obs s.abs := obsMG_eq (HandSHeadRun.getT_eq s)
abbrev CT (K : PySem.W.Frag) (mg : Str → Option Value) : Prop := Ctx fa fn ex K mg
section
variable {K : PySem.W.Frag} {mg : Str → Option Value}
theorem glo_MethodError (Z : CT K mg) : mg "MethodError" = some (.ref (He.ga K "MethodError")) := Z.glo 0
theorem glo_NoRatio (Z : CT K mg) : mg "NoRatio" = some (.ref (He.ga K "NoRatio")) := Z.glo 1
theorem glo_Ratio (Z : CT K mg) : mg "Ratio" = some (.ref (He.ga K "Ratio")) := Z.glo 3
theorem me_MethodError_told (Z : CT K mg) : Meth K (He.ga K "MethodError") "told" (He.ma K (He.ga K "MethodError") "told") := He.meth_ok (Z.d.fact 31)
theorem xc0_MethodError (Z : CT K mg) : PySem.W.excIn K (He.ga K "MethodError") He.veBase "ValueError.__new__" = true := (He.exc_ok (Z.d.fact 32)).1
theorem me_NoRatio_init (Z : CT K mg) : Meth K (He.ga K "NoRatio") "__init__" (He.ma K (He.ga K "NoRatio") "__init__") := He.meth_ok (Z.d.fact 33)
theorem me_NoRatio_told (Z : CT K mg) : Meth K (He.ga K "NoRatio") "told" (He.ma K (He.ga K "NoRatio") "told") := He.meth_ok (Z.d.fact 34)
theorem no_NoRatio_word (Z : CT K mg) : PySem.W.findIn K (.ref (He.ga K "NoRatio")) "word" = some none := He.noat_ok (Z.d.fact 35)
theorem cl_Ratio (Z : CT K mg) : Cls K (He.ga K "Ratio") := He.cls_ok (Z.d.fact 36)
theorem mk_Ratio (Z : CT K mg) : Mk K (He.ga K "Ratio") (He.ma K (He.ga K "Ratio") "__init__") := He.mkr_ok (Z.d.fact 37)
theorem me_Ratio_init (Z : CT K mg) : Meth K (He.ga K "Ratio") "__init__" (He.ma K (He.ga K "Ratio") "__init__") := He.meth_ok (Z.d.fact 38)
theorem me_Ratio_eq (Z : CT K mg) : Meth K (He.ga K "Ratio") "__eq__" (He.ma K (He.ga K "Ratio") "__eq__") := He.meth_ok (Z.d.fact 39)
theorem me_Ratio_lt (Z : CT K mg) : Meth K (He.ga K "Ratio") "__lt__" (He.ma K (He.ga K "Ratio") "__lt__") := He.meth_ok (Z.d.fact 40)
theorem me_Ratio_le (Z : CT K mg) : Meth K (He.ga K "Ratio") "__le__" (He.ma K (He.ga K "Ratio") "__le__") := He.meth_ok (Z.d.fact 41)
theorem me_Ratio_gt (Z : CT K mg) : Meth K (He.ga K "Ratio") "__gt__" (He.ma K (He.ga K "Ratio") "__gt__") := He.meth_ok (Z.d.fact 42)
theorem me_Ratio_ge (Z : CT K mg) : Meth K (He.ga K "Ratio") "__ge__" (He.ma K (He.ga K "Ratio") "__ge__") := He.meth_ok (Z.d.fact 43)
theorem me_Ratio_neg (Z : CT K mg) : Meth K (He.ga K "Ratio") "__neg__" (He.ma K (He.ga K "Ratio") "__neg__") := He.meth_ok (Z.d.fact 44)
theorem me_Ratio_pos (Z : CT K mg) : Meth K (He.ga K "Ratio") "__pos__" (He.ma K (He.ga K "Ratio") "__pos__") := He.meth_ok (Z.d.fact 45)
theorem me_Ratio_abs (Z : CT K mg) : Meth K (He.ga K "Ratio") "__abs__" (He.ma K (He.ga K "Ratio") "__abs__") := He.meth_ok (Z.d.fact 46)
theorem me_Ratio_add (Z : CT K mg) : Meth K (He.ga K "Ratio") "__add__" (He.ma K (He.ga K "Ratio") "__add__") := He.meth_ok (Z.d.fact 47)
theorem me_Ratio_radd (Z : CT K mg) : Meth K (He.ga K "Ratio") "__radd__" (He.ma K (He.ga K "Ratio") "__radd__") := He.meth_ok (Z.d.fact 48)
theorem me_Ratio_sub (Z : CT K mg) : Meth K (He.ga K "Ratio") "__sub__" (He.ma K (He.ga K "Ratio") "__sub__") := He.meth_ok (Z.d.fact 49)
theorem me_Ratio_rsub (Z : CT K mg) : Meth K (He.ga K "Ratio") "__rsub__" (He.ma K (He.ga K "Ratio") "__rsub__") := He.meth_ok (Z.d.fact 50)
theorem me_Ratio_mul (Z : CT K mg) : Meth K (He.ga K "Ratio") "__mul__" (He.ma K (He.ga K "Ratio") "__mul__") := He.meth_ok (Z.d.fact 51)
theorem me_Ratio_rmul (Z : CT K mg) : Meth K (He.ga K "Ratio") "__rmul__" (He.ma K (He.ga K "Ratio") "__rmul__") := He.meth_ok (Z.d.fact 52)
theorem me_Ratio_floordiv (Z : CT K mg) : Meth K (He.ga K "Ratio") "__floordiv__" (He.ma K (He.ga K "Ratio") "__floordiv__") := He.meth_ok (Z.d.fact 53)
theorem me_Ratio_rfloordiv (Z : CT K mg) : Meth K (He.ga K "Ratio") "__rfloordiv__" (He.ma K (He.ga K "Ratio") "__rfloordiv__") := He.meth_ok (Z.d.fact 54)
theorem me_Ratio_mod (Z : CT K mg) : Meth K (He.ga K "Ratio") "__mod__" (He.ma K (He.ga K "Ratio") "__mod__") := He.meth_ok (Z.d.fact 55)
theorem me_Ratio_rmod (Z : CT K mg) : Meth K (He.ga K "Ratio") "__rmod__" (He.ma K (He.ga K "Ratio") "__rmod__") := He.meth_ok (Z.d.fact 56)
theorem me_Ratio_pow (Z : CT K mg) : Meth K (He.ga K "Ratio") "__pow__" (He.ma K (He.ga K "Ratio") "__pow__") := He.meth_ok (Z.d.fact 57)
theorem me_Ratio_over (Z : CT K mg) : Meth K (He.ga K "Ratio") "over" (He.ma K (He.ga K "Ratio") "over") := He.meth_ok (Z.d.fact 58)
theorem me_Ratio_power (Z : CT K mg) : Meth K (He.ga K "Ratio") "power" (He.ma K (He.ga K "Ratio") "power") := He.meth_ok (Z.d.fact 59)
theorem me_Ratio_text (Z : CT K mg) : Meth K (He.ga K "Ratio") "text" (He.ma K (He.ga K "Ratio") "text") := He.meth_ok (Z.d.fact 60)
theorem no_Ratio_top (Z : CT K mg) : PySem.W.findIn K (.ref (He.ga K "Ratio")) "top" = some none := He.noat_ok (Z.d.fact 61)
theorem no_Ratio_bottom (Z : CT K mg) : PySem.W.findIn K (.ref (He.ga K "Ratio")) "bottom" = some none := He.noat_ok (Z.d.fact 62)
theorem no_Ratio___iadd__ (Z : CT K mg) : PySem.W.findIn K (.ref (He.ga K "Ratio")) "__iadd__" = some none := He.noat_ok (Z.d.fact 63)
theorem no_Ratio___rpow__ (Z : CT K mg) : PySem.W.findIn K (.ref (He.ga K "Ratio")) "__rpow__" = some none := He.noat_ok (Z.d.fact 64)
theorem m_abs (Z : CT K mg) : mg "abs" = none := Z.free 65
theorem m_all (Z : CT K mg) : mg "all" = none := Z.free 66
theorem m_bool (Z : CT K mg) : mg "bool" = none := Z.free 67
theorem m_int (Z : CT K mg) : mg "int" = none := Z.free 68
theorem m_isinstance (Z : CT K mg) : mg "isinstance" = none := Z.free 69
theorem m_len (Z : CT K mg) : mg "len" = none := Z.free 70
theorem m_range (Z : CT K mg) : mg "range" = none := Z.free 71
theorem con_MOST_POWER {X : Cx} {pos : Pos} (Z : CT X.K X.mg) (hg : Gl X "MOST_POWER" := by rfl) : PE X (.Name "MOST_POWER" pos) (tC (.int 20)) := by
  obtain ⟨_, Y, G⟩ := Z.h
  obtain ⟨u, e⟩ := He.int_ok Y G (Z.d.fact 72)
  exact pe_glob hg e ⟨u, rfl⟩
end
theorem sc_MethodError_told : FnScope ["self"] ["self"] (defScope s_MethodError_told) := ⟨rfl, rfl, rfl, by decide +kernel, rfl, by decide +kernel, by decide +kernel⟩
theorem sc_NoRatio_init : FnScope ["self", "word"] ["self", "word"] (defScope s_NoRatio_init) := ⟨rfl, rfl, rfl, by decide +kernel, rfl, by decide +kernel, by decide +kernel⟩
theorem sc_NoRatio_told : FnScope ["self"] ["self"] (defScope s_NoRatio_told) := ⟨rfl, rfl, rfl, by decide +kernel, rfl, by decide +kernel, by decide +kernel⟩
theorem sc_is_integer : FnScope ["value"] ["value"] (defScope s_is_integer) := ⟨rfl, rfl, rfl, by decide +kernel, rfl, by decide +kernel, by decide +kernel⟩
theorem sc_Ratio_init : FnScope ["self", "top", "bottom", "common"] ["self", "top", "bottom"] (defScope s_Ratio_init) := ⟨rfl, rfl, rfl, by decide +kernel, rfl, by decide +kernel, by decide +kernel⟩
theorem sc_Ratio_eq : FnScope ["self", "other"] ["self", "other"] (defScope s_Ratio_eq) := ⟨rfl, rfl, rfl, by decide +kernel, rfl, by decide +kernel, by decide +kernel⟩
theorem sc_Ratio_lt : FnScope ["self", "other", "right"] ["self", "other"] (defScope s_Ratio_lt) := ⟨rfl, rfl, rfl, by decide +kernel, rfl, by decide +kernel, by decide +kernel⟩
theorem sc_Ratio_le : FnScope ["self", "other", "right"] ["self", "other"] (defScope s_Ratio_le) := ⟨rfl, rfl, rfl, by decide +kernel, rfl, by decide +kernel, by decide +kernel⟩
theorem sc_Ratio_gt : FnScope ["self", "other", "right"] ["self", "other"] (defScope s_Ratio_gt) := ⟨rfl, rfl, rfl, by decide +kernel, rfl, by decide +kernel, by decide +kernel⟩
theorem sc_Ratio_ge : FnScope ["self", "other", "right"] ["self", "other"] (defScope s_Ratio_ge) := ⟨rfl, rfl, rfl, by decide +kernel, rfl, by decide +kernel, by decide +kernel⟩
theorem sc_Ratio_neg : FnScope ["self"] ["self"] (defScope s_Ratio_neg) := ⟨rfl, rfl, rfl, by decide +kernel, rfl, by decide +kernel, by decide +kernel⟩
theorem sc_Ratio_pos : FnScope ["self"] ["self"] (defScope s_Ratio_pos) := ⟨rfl, rfl, rfl, by decide +kernel, rfl, by decide +kernel, by decide +kernel⟩
theorem sc_Ratio_abs : FnScope ["self"] ["self"] (defScope s_Ratio_abs) := ⟨rfl, rfl, rfl, by decide +kernel, rfl, by decide +kernel, by decide +kernel⟩
theorem sc_Ratio_add : FnScope ["self", "other", "right"] ["self", "other"] (defScope s_Ratio_add) := ⟨rfl, rfl, rfl, by decide +kernel, rfl, by decide +kernel, by decide +kernel⟩
theorem sc_Ratio_radd : FnScope ["self", "other"] ["self", "other"] (defScope s_Ratio_radd) := ⟨rfl, rfl, rfl, by decide +kernel, rfl, by decide +kernel, by decide +kernel⟩
theorem sc_Ratio_sub : FnScope ["self", "other", "right"] ["self", "other"] (defScope s_Ratio_sub) := ⟨rfl, rfl, rfl, by decide +kernel, rfl, by decide +kernel, by decide +kernel⟩
theorem sc_Ratio_rsub : FnScope ["self", "other"] ["self", "other"] (defScope s_Ratio_rsub) := ⟨rfl, rfl, rfl, by decide +kernel, rfl, by decide +kernel, by decide +kernel⟩
theorem sc_Ratio_mul : FnScope ["self", "other", "right"] ["self", "other"] (defScope s_Ratio_mul) := ⟨rfl, rfl, rfl, by decide +kernel, rfl, by decide +kernel, by decide +kernel⟩
theorem sc_Ratio_rmul : FnScope ["self", "other"] ["self", "other"] (defScope s_Ratio_rmul) := ⟨rfl, rfl, rfl, by decide +kernel, rfl, by decide +kernel, by decide +kernel⟩
theorem sc_Ratio_floordiv : FnScope ["self", "other", "quotient"] ["self", "other"] (defScope s_Ratio_floordiv) := ⟨rfl, rfl, rfl, by decide +kernel, rfl, by decide +kernel, by decide +kernel⟩
theorem sc_Ratio_rfloordiv : FnScope ["self", "other"] ["self", "other"] (defScope s_Ratio_rfloordiv) := ⟨rfl, rfl, rfl, by decide +kernel, rfl, by decide +kernel, by decide +kernel⟩
theorem sc_Ratio_mod : FnScope ["self", "other"] ["self", "other"] (defScope s_Ratio_mod) := ⟨rfl, rfl, rfl, by decide +kernel, rfl, by decide +kernel, by decide +kernel⟩
theorem sc_Ratio_rmod : FnScope ["self", "other", "left"] ["self", "other"] (defScope s_Ratio_rmod) := ⟨rfl, rfl, rfl, by decide +kernel, rfl, by decide +kernel, by decide +kernel⟩
theorem sc_Ratio_pow : FnScope ["self", "other"] ["self", "other"] (defScope s_Ratio_pow) := ⟨rfl, rfl, rfl, by decide +kernel, rfl, by decide +kernel, by decide +kernel⟩
theorem sc_Ratio_over : FnScope ["self", "number", "right"] ["self", "number"] (defScope s_Ratio_over) := ⟨rfl, rfl, rfl, by decide +kernel, rfl, by decide +kernel, by decide +kernel⟩
theorem sc_Ratio_power : FnScope ["self", "k", "top", "bottom", "power_top", "power_bottom", "_"] ["self", "k"] (defScope s_Ratio_power) := ⟨rfl, rfl, rfl, by decide +kernel, rfl, by decide +kernel, by decide +kernel⟩
theorem sc_Ratio_text : FnScope ["self"] ["self"] (defScope s_Ratio_text) := ⟨rfl, rfl, rfl, by decide +kernel, rfl, by decide +kernel, by decide +kernel⟩
theorem sc_whole_number : FnScope ["digits"] ["digits"] (defScope s_whole_number) := ⟨rfl, rfl, rfl, by decide +kernel, rfl, by decide +kernel, by decide +kernel⟩
theorem sc_is_number : FnScope ["value"] ["value"] (defScope s_is_number) := ⟨rfl, rfl, rfl, by decide +kernel, rfl, by decide +kernel, by decide +kernel⟩
theorem sc_as_ratio : FnScope ["number"] ["number"] (defScope s_as_ratio) := ⟨rfl, rfl, rfl, by decide +kernel, rfl, by decide +kernel, by decide +kernel⟩
theorem sc_cell : FnScope ["_law_script", "_law_k"] ["_law_script", "_law_k"] (defScope s_cell) := ⟨rfl, rfl, rfl, by decide +kernel, rfl, by decide +kernel, by decide +kernel⟩
theorem sc_pouch : FnScope ["_law_script", "_law_k", "_law_number_here"] ["_law_script", "_law_k"] (defScope s_pouch) := ⟨rfl, rfl, rfl, by decide +kernel, rfl, by decide +kernel, by decide +kernel⟩
theorem sc_draw : FnScope ["_law_pouch_here", "_law_many", "_law_number_here", "_law_k", "_law_mixed"] ["_law_pouch_here", "_law_many"] (defScope s_draw) := ⟨rfl, rfl, rfl, by decide +kernel, rfl, by decide +kernel, by decide +kernel⟩
theorem sc_number : FnScope ["_law_pouch_here", "_law_kind", "_law_sign"] ["_law_pouch_here"] (defScope s_number) := ⟨rfl, rfl, rfl, by decide +kernel, rfl, by decide +kernel, by decide +kernel⟩
theorem sc_make : FnScope ["_law_pair_here"] ["_law_pair_here"] (defScope s_make) := ⟨rfl, rfl, rfl, by decide +kernel, rfl, by decide +kernel, by decide +kernel⟩
theorem sc_Lis_integer : FnScope ["_law_thing"] ["_law_thing"] (defScope s_Lis_integer) := ⟨rfl, rfl, rfl, by decide +kernel, rfl, by decide +kernel, by decide +kernel⟩
theorem sc_is_ratio : FnScope ["_law_thing"] ["_law_thing"] (defScope s_is_ratio) := ⟨rfl, rfl, rfl, by decide +kernel, rfl, by decide +kernel, by decide +kernel⟩
theorem sc_pair : FnScope ["_law_number_here"] ["_law_number_here"] (defScope s_pair) := ⟨rfl, rfl, rfl, by decide +kernel, rfl, by decide +kernel, by decide +kernel⟩
theorem sc_sum : FnScope ["_law_pairs", "_law_top", "_law_bottom", "_law_pair_here"] ["_law_pairs"] (defScope s_sum) := ⟨rfl, rfl, rfl, by decide +kernel, rfl, by decide +kernel, by decide +kernel⟩
theorem sc_dot : FnScope ["_law_ones", "_law_others"] ["_law_ones", "_law_others"] (defScope s_dot) := ⟨rfl, rfl, rfl, by decide +kernel, rfl, by decide +kernel, by decide +kernel⟩
theorem sc_below : FnScope ["_law_one", "_law_other"] ["_law_one", "_law_other"] (defScope s_below) := ⟨rfl, rfl, rfl, by decide +kernel, rfl, by decide +kernel, by decide +kernel⟩
theorem sc_same : FnScope ["_law_one", "_law_other"] ["_law_one", "_law_other"] (defScope s_same) := ⟨rfl, rfl, rfl, by decide +kernel, rfl, by decide +kernel, by decide +kernel⟩
theorem sc_abs : FnScope ["_law_pair_here"] ["_law_pair_here"] (defScope s_abs) := ⟨rfl, rfl, rfl, by decide +kernel, rfl, by decide +kernel, by decide +kernel⟩
theorem sc_divisor : FnScope ["_law_one", "_law_other", "_law_rest"] ["_law_one", "_law_other"] (defScope s_divisor) := ⟨rfl, rfl, rfl, by decide +kernel, rfl, by decide +kernel, by decide +kernel⟩
theorem sc_right : FnScope ["_law_found", "_law_due"] ["_law_found", "_law_due"] (defScope s_right) := ⟨rfl, rfl, rfl, by decide +kernel, rfl, by decide +kernel, by decide +kernel⟩
theorem sc_plain : FnScope ["_law_one", "_law_other", "_law_a", "_law_b", "_law_plus", "_law_minus", "_law_back", "_law_times", "_law_found", "_law_kept"] ["_law_one", "_law_other", "_law_a", "_law_b"] (defScope s_plain) := ⟨rfl, rfl, rfl, by decide +kernel, rfl, by decide +kernel, by decide +kernel⟩
theorem sc_divided : FnScope ["_law_one", "_law_other", "_law_a", "_law_b", "_law_top", "_law_bottom", "_law_floor", "_law_rest"] ["_law_one", "_law_other", "_law_a", "_law_b"] (defScope s_divided) := ⟨rfl, rfl, rfl, by decide +kernel, rfl, by decide +kernel, by decide +kernel⟩
theorem sc_reflected : FnScope ["_law_one", "_law_other", "_law_a", "_law_b", "_law_top", "_law_bottom", "_law_floor", "_law_rest"] ["_law_one", "_law_other", "_law_a", "_law_b"] (defScope s_reflected) := ⟨rfl, rfl, rfl, by decide +kernel, rfl, by decide +kernel, by decide +kernel⟩
theorem sc_zero : FnScope ["_law_one", "_law_way", "_law_word_here", "_law_made", "e"] ["_law_one", "_law_way"] (defScope s_zero) := ⟨rfl, rfl, rfl, by decide +kernel, rfl, by decide +kernel, by decide +kernel⟩
theorem sc_Lpower : FnScope ["_law_one", "_law_a", "_law_k", "_law_word_here", "_law_made", "e", "_law_top", "_law_bottom", "_law_turn"] ["_law_one", "_law_a", "_law_k"] (defScope s_Lpower) := ⟨rfl, rfl, rfl, by decide +kernel, rfl, by decide +kernel, by decide +kernel⟩
theorem sc_exponent : FnScope ["_law_one", "_law_way", "_law_word_here", "_law_made", "e"] ["_law_one", "_law_way"] (defScope s_exponent) := ⟨rfl, rfl, rfl, by decide +kernel, rfl, by decide +kernel, by decide +kernel⟩
theorem sc_word : FnScope ["_law_top", "_law_bottom", "_law_word_here", "_law_made", "e"] ["_law_top", "_law_bottom"] (defScope s_word) := ⟨rfl, rfl, rfl, by decide +kernel, rfl, by decide +kernel, by decide +kernel⟩
theorem sc_words : FnScope ["_law_pouch_here", "_law_bad", "_law_number_here"] ["_law_pouch_here"] (defScope s_words) := ⟨rfl, rfl, rfl, by decide +kernel, rfl, by decide +kernel, by decide +kernel⟩
theorem sc_law : FnScope ["_law_script", "_law_pouch_here", "_law_a", "_law_b", "_law_k", "_law_flip", "_law_one", "_law_other"] ["_law_script"] (defScope s_law) := ⟨rfl, rfl, rfl, by decide +kernel, rfl, by decide +kernel, by decide +kernel⟩
end My

namespace My
open PySem PySem.Spec PyProof.Rows L2
theorem run (w : World) : HandSHeadRun.RunEqI R (PySem.W.view R.prog [0, 38]) hk ob 20000 loose w := by
  unfold HandSHeadRun.RunEqI; kernel_rfl
end My

-- the steps of a reading: sm, sq, ss, xs (a fact carried along the heaps), go (what goes without saying)
local macro_rules | `(tactic| walk_at "my sm") => `(tactic| first | assumption | (apply My.sm_step; (· assumption); walk_at "my sm"))
local macro_rules | `(tactic| walk_at "my sq") => `(tactic| first | assumption | (apply L2.SqL.of; walk_at "my sm") | (apply L2.SqT.of; walk_at "my sm") | (apply My.sq_step; (· assumption); walk_at "my sq"))
local macro_rules | `(tactic| walk_at "my ss") => `(tactic| first | assumption | exact L2.Same.refl _ | (apply My.ss_step; (· assumption); walk_at "my ss"))
local macro_rules | `(tactic| walk_at "my xs") => `(tactic| first | assumption | (apply My.xs_step; (· assumption); walk_at "my xs"))
local macro_rules | `(tactic| walk_at "my st") => `(tactic| first | ((with_reducible show @Eq (Option L2.HO) _ _); walk_at "my sm") | ((with_reducible show My.XAt _ _ _ _); walk_at "my xs") | ((with_reducible show L2.SqL _ _ _ _); walk_at "my sq") | ((with_reducible show L2.SqT _ _ _ _); walk_at "my sq") | with_reducible exact My.lk1 | walk_at "my more" | exact rfl | (refine L2.iteT ?_) | (refine L2.iteF ?_) | apply Exists.intro | apply And.intro | (intro h; skip))
local macro_rules | `(tactic| walk_at "my go") => `(tactic| repeat walk_at "my st")
namespace My
open PySem PySem.Spec PyProof.Rows L2 PySem.Calls

section
variable {P : Program} {w : World} {K : PySem.W.Frag} {mg : Str → Option Value} {base : Heap} {fd : FuncData} {f : Addr}
theorem at_ints {ns : List Int} {k : Int} (h0 : 0 ≤ k) (h1 : k < (ns.length : Int)) : ∃ v, atI (ns.map V.int) k = some (.int v) := by
  obtain ⟨n, rfl⟩ : ∃ n : Nat, k = (n : Int) := ⟨k.toNat, by omega⟩
  have h2 : n < ns.length := by omega
  exact ⟨ns[n], by rw [atI_nat (v := .int ns[n]) (by rw [List.getElem?_map, List.getElem?_eq_getElem h2]; rfl)]⟩
/-- a cell of the script -/
def spCellX (K : PySem.W.Frag) : Sp := fun vs H Q _ => ∃ (a : Addr) (ns : List Int) (k : Int), vs = [.ref a, .int k] ∧ SqL K H a (ns.map V.int) ∧ 0 ≤ k ∧ k < 1000 ∧ ∀ v : Int, Q (.int v) H
theorem ok_cell (Z : CT K mg) (F : FunD K d_cell.name d_cell.qual d_cell.params d_cell.body d_cell.scope [] [] f fd) : FnOk P w K mg base CX0 1 f fd ["_law_script", "_law_k"] (spCellX K) := by
  refine F.ok sc_cell (fun vs H Q E h => ?_) (fun cdv A outer s H vs Q E hr h => ?_)
  · obtain ⟨a, ns, k, rfl, _⟩ := h
    rfl
  · obtain ⟨a, ns, k, rfl, hS, h0, h1, q⟩ := h
    refine ⟨_, (pss_cons (ps_if (pt_cmpR op_lt (pv 1) (pe_callB call_lenL (by rfl) (m_len Z) PySem.boot_len (pa_cons (pv 0) pa_nil)) (nomark _)) (pss_one (ps_ret (pe_callTy call_intI (by rfl) (m_int Z) boot_int (pa_cons (pe_ix ix_list (pv 0) (pv 1) (fun _ _ => rfl)) pa_nil)))) pss_nil)
      (pss_cons (ps_if (pt_cmpR op_eq (pe_callB call_lenL (by rfl) (m_len Z) PySem.boot_len (pa_cons (pv 0) pa_nil)) (pe_int) (nomark _)) (pss_one (ps_ret (pe_mul (pe_int) (pv 1)))) pss_nil)
      (pss_one (ps_ret (pe_op op_add (pe_op op_mod (pe_callTy call_intI (by rfl) (m_int Z) boot_int (pa_cons (pe_ix ix_list (pv 0) (pe_op op_mod (pv 1) (pe_callB call_lenL (by rfl) (m_len Z) PySem.boot_len (pa_cons (pv 0) pa_nil))) (fun _ _ => rfl)) pa_nil)) (pe_op op_pow (pe_int) (pe_int))) (pe_mul (pe_int) (pe_op op_add (pv 1) (pe_int)))))))), ?_⟩
    walk_at "my go"
    refine ite2 (fun h => ?_) (fun h => ?_)
    · have h := of_decide_eq_true h
      rw [List.length_map] at h
      obtain ⟨v, hv⟩ := at_ints h0 h
      refine ⟨_, rfl, _, rfl, _, _, _, _, rfl, rfl, hS, hv, _, rfl, q v⟩
    · refine ⟨_, rfl, _, _, rfl, hS, rfl, _, rfl, ?_⟩
      refine ite2 (fun h2 => ?_) (fun h2 => ?_)
      · refine ⟨_, rfl, _, _, rfl, rfl, ⟨by decide, by decide⟩, q _⟩
      · have hp : (0 : Int) < ((ns.map V.int).length : Int) := by
          have h3 : ¬ (V.int ((ns.map V.int).length : Int) = V.int 0) := fun z => h2 (decide_eq_true z)
          have h4 : ((ns.map V.int).length : Int) ≠ 0 := fun z => h3 (by rw [z])
          omega
        have hm : 0 ≤ k % ((ns.map V.int).length : Int) ∧ k % ((ns.map V.int).length : Int) < (ns.length : Int) := by
          have e : ((ns.map V.int).length : Int) = (ns.length : Int) := by rw [List.length_map]
          rw [e] at hp ⊢
          exact ⟨Int.emod_nonneg _ (by omega), Int.emod_lt_of_pos _ hp⟩
        obtain ⟨v, hv⟩ := at_ints hm.1 hm.2
        refine ⟨_, rfl, _, rfl, _, rfl, _, _, rfl, hS, _, _, rfl, rfl, hp, _, _, _, _, rfl, rfl, hS, hv, _, rfl, ?_⟩
        refine ⟨_, _, rfl, rfl, ⟨by decide, by decide, by decide⟩, _, _, rfl, rfl, (show (0 : Int) < 10 ^ (15 : Int).toNat by decide), ?_⟩
        refine ⟨_, rfl, _, _, rfl, rfl, _, _, rfl, rfl, ⟨by decide, by decide⟩, _, _, rfl, rfl, q _⟩
theorem good_cell (Z : CT K mg) : GoodF CX0 P w K mg base 1 "_law_cell" ["_law_script", "_law_k"] (spCellX K) := Z.good 30 7 d_cell (fun _ _ _ _ _ _ us hl => match us, hl with | [_, _], _ => rfl) fun _ F => ok_cell Z F
/-- a pouch: a new list of two numbers -/
def spPouch (K : PySem.W.Frag) : Sp := fun vs H Q _ => ∃ (a : Addr) (ns : List Int) (k : Int), vs = [.ref a, .int k] ∧ SqL K H a (ns.map V.int) ∧ 0 ≤ k ∧ k < 1000 ∧ ∀ (p : Addr) (x y : Int) (H' : Hp), 0 ≤ x → 0 ≤ y → y ≤ 2001 → H p = none → Same H H' → H' p = some (.lst [.int x, .int y]) → Q (.ref p) H'
theorem ok_pouch (Z : CT K mg) (F : FunD K d_pouch.name d_pouch.qual d_pouch.params d_pouch.body d_pouch.scope [] [] f fd) : FnOk P w K mg base CX0 2 f fd ["_law_script", "_law_k"] (spPouch K) := by
  refine F.ok sc_pouch (fun vs H Q E h => ?_) (fun cdv A outer s H vs Q E hr h => ?_)
  · obtain ⟨a, ns, k, rfl, _⟩ := h
    rfl
  · obtain ⟨a, ns, k, rfl, hS, h0, h1, q⟩ := h
    refine ⟨_, (pss_cons (ps_set (i := 2) sc_pouch.nd rfl (Or.inl rfl) (gcall (good_cell Z) hr (pa_cons (pv 0) (pa_cons (pv 1) pa_nil)) pass0))
      (pss_one (ps_ret (pe_lstN (pa_cons (pe_callB call_abs (by rfl) (m_abs Z) boot_abs (pa_cons (pv 2) pa_nil)) (pa_cons (pe_op op_add (pe_mul (pe_int) (pv 1)) (pe_callTy call_intB (by rfl) (m_int Z) boot_int (pa_cons (pe_cmpR op_lt (pv 2) (pe_int) (nomark _)) pa_nil))) pa_nil)))))), ?_⟩
    refine ⟨_, rfl, _, rfl, a, ns, k, rfl, hS, h0, h1, fun v => ?_⟩
    refine ⟨_, rfl, _, rfl, _, rfl, _, _, rfl, rfl, ⟨by decide, by decide⟩, _, rfl, _, _, rfl, rfl, _, rfl, _, _, rfl, rfl, rfl, fun p H' hs ho hn => ?_⟩
    refine q p _ _ H' ?_ ?_ ?_ hn hs ho
    · split <;> omega
    · split <;> omega
    · split <;> omega
theorem good_pouch (Z : CT K mg) : GoodF CX0 P w K mg base 2 "_law_pouch" ["_law_script", "_law_k"] (spPouch K) := Z.good 31 8 d_pouch (fun _ _ _ _ _ _ us hl => match us, hl with | [_, _], _ => rfl) fun _ F => ok_pouch Z F
/-- a draw: a number below m; the pouch goes on -/
def spDraw : Sp := fun vs H Q _ => ∃ (p : Addr) (x y m : Int), vs = [.ref p, .int m] ∧ H p = some (.lst [.int x, .int y]) ∧ 0 ≤ x ∧ 0 ≤ y ∧ y < 1000000 ∧ 0 < m ∧ m < 2 ^ 100 ∧
  ∀ (r x' y' : Int) (H' : Hp), 0 ≤ r → r < m → 0 ≤ x' → y ≤ y' → y' ≤ y + 128 → (∀ b, b ≠ p → H' b = H b) → H' p = some (.lst [.int x', .int y']) → Q (.int r) H'
theorem ok_draw (Z : CT K mg) (F : FunD K d_draw.name d_draw.qual d_draw.params d_draw.body d_draw.scope [] [] f fd) : FnOk P w K mg base CX0 1 f fd ["_law_pouch_here", "_law_many"] spDraw := by
  refine F.ok sc_draw (fun vs H Q E h => ?_) (fun cdv A outer s H vs Q E hr h => ?_)
  · obtain ⟨p, x, y, m, rfl, _⟩ := h
    rfl
  · obtain ⟨p, x, y, m, rfl, hp, hx, hy, hy2, hm, hm2, q⟩ := h
    have hS : SqL K H p [.int x, .int y] := SqL.of hp
    have hdv : CDivW x m := wide_div (b := 101) hm (by omega) (by decide) (by decide)
    refine ⟨_, (pss_cons (ps_set (i := 2) sc_draw.nd rfl (Or.inl rfl) (pe_ix ix_list (pv 0) pe_int (fun _ _ => rfl)))
      (pss_cons (ps_if (pt_cmpR op_ge (pv 2) (pe_op op_pow (pe_int) (pe_int)) (nomark _)) (pss_cons (ps_asg (pe_op op_fdivW (pv 2) (pv 1)) (pg_sub (pv 0) pe_int set_list))
      (pss_one (ps_ret (pe_op op_mod (pe_callTy call_intI (by rfl) (m_int Z) boot_int (pa_cons (pv 2) pa_nil)) (pv 1))))) pss_nil)
      (pss_cons (ps_asg (pe_op op_add (pe_ix ix_list (pv 0) pe_int (fun _ _ => rfl)) (pe_int)) (pg_sub (pv 0) pe_int set_list))
      (pss_cons (ps_set (i := 3) sc_draw.nd rfl (Or.inl rfl) (pe_ix ix_list (pv 0) pe_int (fun _ _ => rfl)))
      (pss_cons (ps_set (i := 4) sc_draw.nd rfl (Or.inl rfl) (pe_op op_mod (pe_mul (pe_op op_add (pe_op op_mod (pe_callTy call_intI (by rfl) (m_int Z) boot_int (pa_cons (pv 2) pa_nil)) (pe_int)) (pe_mul (pe_int) (pv 3))) (pe_op op_add (pe_int) (pe_mul (pe_int) (pv 3)))) (pe_int)))
      (pss_cons (ps_set (i := 4) sc_draw.nd rfl (Or.inl rfl) (pe_op op_mod (pe_mul (pv 4) (pe_op op_add (pe_op op_fdivW (pv 4) (pe_int)) (pe_int))) (pe_int)))
      (pss_cons (ps_set (i := 4) sc_draw.nd rfl (Or.inl rfl) (pe_op op_mod (pe_mul (pv 4) (pe_op op_add (pe_op op_fdivW (pv 4) (pe_int)) (pe_int))) (pe_int)))
      (pss_one (ps_ret (pe_op op_mod (pv 4) (pv 1))))))))))), ?_⟩
    refine ⟨_, rfl, _, _, _, _, rfl, rfl, hS, rfl, _, rfl, _, _, rfl, rfl, ⟨by decide, by decide, by decide⟩, _, _, rfl, rfl, _, rfl, ?_⟩
    refine ite2 (fun h => ?_) (fun h => ?_)
    · refine ⟨_, rfl, _, rfl, _, _, rfl, rfl, hdv, _, rfl, _, _, _, _, rfl, rfl, hp, rfl, ?_⟩
      refine ⟨_, rfl, _, rfl, _, rfl, _, _, rfl, rfl, hm, ?_⟩
      exact q _ _ _ _ (Int.emod_nonneg _ (by omega)) (Int.emod_lt_of_pos _ hm) (Int.ediv_nonneg hx (by omega)) (Int.le_refl _) (by omega) (fun b hb => upd_ne hb) upd_same
    · refine ⟨_, rfl, _, _, _, _, rfl, rfl, hS, rfl, _, _, rfl, rfl, _, rfl, _, _, _, _, rfl, rfl, hp, rfl, ?_⟩
      refine ⟨_, rfl, _, _, _, _, rfl, rfl, SqL.of upd_same, rfl, ?_⟩
      refine ⟨_, rfl, _, rfl, _, _, rfl, rfl, (show (0 : Int) < 2147483629 by decide), _, rfl, _, _, rfl, rfl, ⟨by decide, by decide⟩, _, _, rfl, rfl, _, rfl, _, _, rfl, rfl, ⟨by decide, by decide⟩, _, _, rfl, rfl, _, _, rfl, rfl, ⟨by omega, by omega⟩, _, _, rfl, rfl, (show (0 : Int) < 2147483647 by decide), ?_⟩
      generalize hz : (x % 2147483629 + 7919 * (y + 128)) * (48271 + 2 * (y + 128)) % 2147483647 = z1
      have b1 : 0 ≤ z1 ∧ z1 < 2147483647 := by rw [← hz]; exact ⟨Int.emod_nonneg _ (by decide), Int.emod_lt_of_pos _ (by decide)⟩
      refine ⟨_, rfl, _, rfl, _, _, rfl, rfl, wide_div (b := 11) (by decide) (by decide) (by decide) (by decide), _, _, rfl, rfl, _, _, rfl, rfl, ⟨by omega, by omega⟩, _, _, rfl, rfl, (show (0 : Int) < 2147483647 by decide), ?_⟩
      generalize hz2 : z1 * (z1 / 1009 + 69621) % 2147483647 = z2
      have b2 : 0 ≤ z2 ∧ z2 < 2147483647 := by rw [← hz2]; exact ⟨Int.emod_nonneg _ (by decide), Int.emod_lt_of_pos _ (by decide)⟩
      refine ⟨_, rfl, _, rfl, _, _, rfl, rfl, wide_div (b := 12) (by decide) (by decide) (by decide) (by decide), _, _, rfl, rfl, _, _, rfl, rfl, ⟨by omega, by omega⟩, _, _, rfl, rfl, (show (0 : Int) < 2147483399 by decide), ?_⟩
      refine ⟨_, rfl, _, rfl, _, _, rfl, rfl, hm, ?_⟩
      exact q _ x (y + 128) _ (Int.emod_nonneg _ (by omega)) (Int.emod_lt_of_pos _ hm) hx (by omega) (Int.le_refl _) (fun b hb => upd_ne hb) upd_same
theorem good_draw (Z : CT K mg) : GoodF CX0 P w K mg base 1 "_law_draw" ["_law_pouch_here", "_law_many"] spDraw := Z.good 32 9 d_draw (fun _ _ _ _ _ _ us hl => match us, hl with | [_, _], _ => rfl) fun _ F => ok_draw Z F
end

theorem passN {X : Cx} : Passes (L2N.CX X.prog X.w) X E0 := fun _ _ _ _ _ _ _ h => by
  obtain ⟨_, _, _, _, _, _, _, _, _, _, _, _, z⟩ := h
  exact z.elim
theorem op_fdivZ {X : Cx} : OpR X (binaryOp .FloorDiv) (rI (fun _ j => j ≠ 0 ∧ j.natAbs.log2 < 9000) fun i j => .int (i.fdiv j)) := opI fun i j _ _ _ _ _ hc q => floordiv_int hc.1 q (.inl (PyProof.noPylong_of_log2 hc.2))
/-! ### facts -/
section
variable {K : PySem.W.Frag} {mg : Str → Option Value}
theorem exx (Z : CT K mg) : exX K "NoRatio" = true := (Bool.and_eq_true_iff.mp Z.e).1
theorem exr (Z : CT K mg) : exR K "Ratio" = true := (Bool.and_eq_true_iff.mp (Bool.and_eq_true_iff.mp Z.e).2).1
theorem exi (Z : CT K mg) : exI K = true := (Bool.and_eq_true_iff.mp (Bool.and_eq_true_iff.mp (Bool.and_eq_true_iff.mp Z.e).2).2).1
theorem exg (Z : CT K mg) : exG K = true := (Bool.and_eq_true_iff.mp (Bool.and_eq_true_iff.mp (Bool.and_eq_true_iff.mp Z.e).2).2).2
theorem m_gcd (Z : CT K mg) : mg "gcd" = some (.builtin "math.gcd") :=
  let ⟨_, X, G⟩ := Z.h; PySem.W.mg_of X G (of_decide_eq_true (Bool.and_eq_true_iff.mp (exg Z)).2)
theorem mro_Ratio (Z : CT K mg) : ∃ cd, PySem.W.clsIn K (He.ga K "Ratio") = some cd ∧ cd.mro = [.ref (He.ga K "Ratio"), .type "object"] := by
  have h := (Bool.and_eq_true_iff.mp (Bool.and_eq_true_iff.mp (exg Z)).1).1
  cases e : PySem.W.clsIn K (He.ga K "Ratio") with
  | none => rw [e] at h; cases h
  | some cd => rw [e] at h; exact ⟨cd, rfl, of_decide_eq_true h⟩
theorem obj_iadd (Z : CT K mg) : PySem.W.findIn K (.type "object") "__iadd__" = some none := of_decide_eq_true (Bool.and_eq_true_iff.mp (Bool.and_eq_true_iff.mp (exg Z)).1).2
theorem xN (Z : CT K mg) : XCls K (He.ga K "NoRatio") := xclsB_ok (Bool.and_eq_true_iff.mp (exx Z)).1
theorem xN_me (Z : CT K mg) : PySem.W.kitOne K (rf K "NoRatio") (rf K "MethodError") = some true := of_decide_eq_true (Bool.and_eq_true_iff.mp (Bool.and_eq_true_iff.mp (exx Z)).2).1
theorem xN_exm (Z : CT K mg) : PySem.W.exmOne K (rf K "NoRatio") (rf K "NoRatio") = some true := of_decide_eq_true (Bool.and_eq_true_iff.mp (Bool.and_eq_true_iff.mp (exx Z)).2).2
/-- what is known of the class Ratio -/
structure RC (K : PySem.W.Frag) : Prop where
  self : PySem.W.selfFirst K (He.ga K "Ratio") = true
  ri : PySem.W.subIn K (rf K "Ratio") (.type "int") = some false
  ir : PySem.W.subIn K (.type "int") (rf K "Ratio") = some false
  ca : PySem.W.findIn K (rf K "Ratio") "__class__" = some (some (.builtin "object.__class__"))
  cn : PySem.W.specialIn K (.builtin "object.__class__") "__get__" = some (some (.builtin "getset_descriptor.__get__"))
  ct : PySem.W.takesIn K (.builtin "object.__class__") = some true
  cm : PySem.W.mroIn K (He.ga K "Ratio") (.type "object") = some true
  rr : PySem.W.kitOne K (rf K "Ratio") (rf K "Ratio") = some true
  rI : PySem.W.kitOne K (rf K "Ratio") (.type "int") = some false
  rB : PySem.W.kitOne K (rf K "Ratio") (.type "bool") = some false
  tR : (["int", "bool", "NoneType", "str", "tuple", "list", "dict"] : List String).all (fun ty => decide (PySem.W.kitOne K (.type ty) (rf K "Ratio") = some false)) = true
  cl : Cls K (He.ga K "Ratio")
  nT : NoAttr K (He.ga K "Ratio") "top"
  nB : NoAttr K (He.ga K "Ratio") "bottom"
theorem rc (Z : CT K mg) : RC K := by
  have h := exr Z
  unfold exR at h
  simp only [Bool.and_eq_true, decide_eq_true_eq] at h
  obtain ⟨h1, h2, h3, h4, h5, h6, h7, h8, h9, h10, h11⟩ := h
  exact ⟨h1, h2, h3, h4, h5, h6, h7, h8, h9, h10, h11, cl_Ratio Z, no_Ratio_top Z, no_Ratio_bottom Z⟩
end
/-! ### a Ratio in the heap -/
theorem tb : ¬ (("top" : Str) = "bottom") := by decide +kernel
def rfs (t b : Int) : List (Str × V) := putF "bottom" (.int b) (putF "top" (.int t) [])
theorem rfs_top (t b : Int) : (rfs t b).lookup ("top" : Str) = some (.int t) := by unfold rfs; rw [lookup_putF, if_neg tb, lookup_putF, if_pos rfl]
theorem rfs_bot (t b : Int) : (rfs t b).lookup ("bottom" : Str) = some (.int b) := by unfold rfs; rw [lookup_putF, if_pos rfl]
theorem rfs_no (t b : Int) {m : Str} (h1 : ¬ m = "bottom") (h2 : ¬ m = "top") : (rfs t b).lookup m = none := by
  unfold rfs; rw [lookup_putF, if_neg h1, lookup_putF, if_neg h2]; rfl
def RAt (K : PySem.W.Frag) (H : Hp) (a : Addr) (q : Int × Int) : Prop := ∃ dx, H a = some (.ins (He.ga K "Ratio") dx (rfs q.1 q.2))
theorem RAt.same {K : PySem.W.Frag} {H H' : Hp} {a : Addr} {q : Int × Int} (h : RAt K H a q) (s : Same H H') : RAt K H' a q := let ⟨dx, e⟩ := h; ⟨dx, s _ _ e⟩
/-- a number: an integer or a Ratio; its value -/
inductive Num (K : PySem.W.Frag) (H : Hp) : V → Int × Int → Prop
  | int (n : Int) : Num K H (.int n) (n, 1)
  | rat {a : Addr} {q : Int × Int} (h : RAt K H a q) : Num K H (.ref a) q
theorem Num.same {K : PySem.W.Frag} {H H' : Hp} {x : V} {q : Int × Int} (h : Num K H x q) (s : Same H H') : Num K H' x q := by
  cases h with
  | int n => exact .int n
  | rat h => exact .rat (h.same s)
/-- whether a thing is an integer -/
inductive Kind (K : PySem.W.Frag) (H : Hp) : V → Bool → Prop
  | int (n : Int) : Kind K H (.int n) true
  | bl (b : Bool) : Kind K H (.bl b) false
  | non : Kind K H .non false
  | str (z : Str) : Kind K H (.str z) false
  | lst {a : Addr} {xs : List V} (h : H a = some (.lst xs)) : Kind K H (.ref a) false
  | tup {a : Addr} {xs : List V} (h : H a = some (.tup xs)) : Kind K H (.ref a) false
  | dic {a : Addr} {xs : List (Key × V)} (h : H a = some (.dK xs)) : Kind K H (.ref a) false
  | rat {a : Addr} {q : Int × Int} (h : RAt K H a q) : Kind K H (.ref a) false
theorem Kind.same {K : PySem.W.Frag} {H H' : Hp} {x : V} {b : Bool} (h : Kind K H x b) (s : Same H H') : Kind K H' x b := by
  cases h with
  | int n => exact .int n
  | bl b => exact .bl b
  | non => exact .non
  | str z => exact .str z
  | lst h => exact .lst (s _ _ h)
  | tup h => exact .tup (s _ _ h)
  | dic h => exact .dic (s _ _ h)
  | rat h => exact .rat (h.same s)
theorem Kind.int_of {K : PySem.W.Frag} {H : Hp} {x : V} (h : Kind K H x true) : ∃ n, x = .int n := by
  cases h with
  | int n => exact ⟨n, rfl⟩
theorem Num.kind {K : PySem.W.Frag} {H : Hp} {x : V} {q : Int × Int} (h : Num K H x q) : ∃ b, Kind K H x b := by
  cases h with
  | int n => exact ⟨_, .int n⟩
  | rat h => exact ⟨_, .rat h⟩
theorem RC.ty {K : PySem.W.Frag} (R : RC K) {H : Hp} {a : Addr} {q : Int × Int} (h : RAt K H a q) : TyX K H (.ref a) (rf K "Ratio") := let ⟨_, e⟩ := h; .base (.ins e R.cl R.ca R.cn R.ct R.cm)
theorem Kind.ask {K : PySem.W.Frag} (R : RC K) {H : Hp} {x : V} {b : Bool} (h : Kind K H x b) : ∃ t b1 b2, TyX K H x t ∧ PySem.W.kitOne K t (.type "int") = some b1 ∧ PySem.W.kitOne K t (.type "bool") = some b2 ∧ b = (b1 && !b2) := by
  cases h with
  | int n => exact ⟨_, true, false, .base (.int n), kit_ty (by decide +kernel), kit_ty (by decide +kernel), rfl⟩
  | bl c => exact ⟨_, true, true, .base (.bl c), kit_ty (by decide +kernel), kit_ty (by decide +kernel), rfl⟩
  | non => exact ⟨_, false, false, .base .non, kit_ty (by decide +kernel), kit_ty (by decide +kernel), rfl⟩
  | str z => exact ⟨_, false, false, .base (.str z), kit_ty (by decide +kernel), kit_ty (by decide +kernel), rfl⟩
  | lst h => exact ⟨_, false, false, .base (.lst h), kit_ty (by decide +kernel), kit_ty (by decide +kernel), rfl⟩
  | tup h => exact ⟨_, false, false, .base (.tup h), kit_ty (by decide +kernel), kit_ty (by decide +kernel), rfl⟩
  | dic h => exact ⟨_, false, false, .base (.dK h), kit_ty (by decide +kernel), kit_ty (by decide +kernel), rfl⟩
  | rat h => exact ⟨_, false, false, R.ty h, R.rI, R.rB, rfl⟩
section
variable {P : Program} {w : World} {K : PySem.W.Frag} {mg : Str → Option Value} {base : Heap} {fd : FuncData} {f : Addr}
def spIsInteger (K : PySem.W.Frag) : Sp := fun vs H Q _ => ∃ x b, vs = [x] ∧ Kind K H x b ∧ Q (.bl b) H
theorem ok_is_integer (Z : CT K mg) (F : FunD K d_is_integer.name d_is_integer.qual d_is_integer.params d_is_integer.body d_is_integer.scope [] [] f fd) : FnOk P w K mg base CX0 1 f fd ["value"] (spIsInteger K) := by
  refine F.ok sc_is_integer (fun vs H Q E h => ?_) (fun cdv A outer s H vs Q E hr h => ?_)
  · obtain ⟨x, b, rfl, _⟩ := h
    rfl
  · obtain ⟨x, b, rfl, hk, q⟩ := h
    obtain ⟨t, b1, b2, ty, k1, k2, rfl⟩ := hk.ask (rc Z)
    refine ⟨_, (pss_one (ps_ret ((pe_and (pe_callB call_isi (by rfl) (m_isinstance Z) boot_isinstance (pa_cons (pv 0) (pa_cons (pe_bltn (by rfl) (m_int Z) boot_int (rel_ty _)) pa_nil))) (pe_one (pe_not (pe_callB call_isi (by rfl) (m_isinstance Z) boot_isinstance (pa_cons (pv 0) (pa_cons (pe_bltn (by rfl) (m_bool Z) boot_bool (rel_ty _)) pa_nil))))))))), ?_⟩
    refine ⟨_, rfl, x, _, t, _, b1, rfl, .ty _, ty, k1, b1, rfl, ?_⟩
    cases b1 with
    | true => exact ⟨_, rfl, x, _, t, _, b2, rfl, .ty _, ty, k2, b2, rfl, q⟩
    | false => exact q
theorem good_is_integer (Z : CT K mg) : GoodF CX0 P w K mg base 1 "is_integer" ["value"] (spIsInteger K) := Z.good 3 2 d_is_integer (fun _ _ _ _ _ _ us hl => match us, hl with | [_], _ => rfl) fun _ F => ok_is_integer Z F
theorem rz_NoRatio {X : Cx} {e : Expr} {es : List Expr} {ta : TA} {p pos : Pos} {k : Nat} (Z : CT X.K X.mg) (hr : Room k X.A) (ha : PA X (e :: es) ta) (hk : 2 ≤ k := by decide) (hg : Gl X "NoRatio" := by rfl) (he : starEach (e :: es) X.env = (false, eval e X.env) :: starEach es X.env := by rfl)
    (hpl : (backTo pos (starEach es X.env)).any (·.1) = false := by rfl) : L2N.PMk X (.Call (.Name "NoRatio" p) (e :: es) [] pos) (tRz (He.ga X.K "NoRatio") "word" ta) :=
  pmkN_ini1 (xN Z) (no_NoRatio_word Z) (glo_NoRatio Z) (me_NoRatio_init Z) (Z.d.def_ 1 (d := d_NoRatio_init) rfl) sc_NoRatio_init rfl (Or.inl rfl) (Or.inl rfl) (by decide) (by decide) (fun _ _ _ _ _ _ us hl => match us, hl with | [_, _], _ => rfl) (by decide) hr ha hk hg he hpl
/-- NoRatio(z) is what is wished -/
def RzW (K : PySem.W.Frag) (z : Str) (H : Hp) (E : XK) : Prop := ∀ d H', Same H H' → H' d = some (.xd [("word", .str z)]) → E (.ref (He.ga K "NoRatio")) (some d) H'
/-- numbers that a division by them takes at once -/
def Sml (n : Int) : Prop := n.natAbs < 2 ^ 8000
theorem sml_gcd {t b : Int} (hb : b ≠ 0) (h : Sml b) : ((Nat.gcd t.natAbs b.natAbs : Nat) : Int) ≠ 0 ∧ ((Nat.gcd t.natAbs b.natAbs : Nat) : Int).natAbs.log2 < 9000 := by
  have h1 : 0 < Nat.gcd t.natAbs b.natAbs := Nat.gcd_pos_of_pos_right _ (Int.natAbs_pos.mpr hb)
  have h2 : Nat.gcd t.natAbs b.natAbs ≤ b.natAbs := Nat.gcd_le_right _ (Int.natAbs_pos.mpr hb)
  refine ⟨by omega, Nat.lt_of_lt_of_le (PySem.Flt.log2_lt_of (k := 8000) (by decide) ?_) (by decide)⟩
  show (((Nat.gcd t.natAbs b.natAbs : Nat) : Int)).natAbs < 2 ^ 8000
  rw [Int.natAbs_natCast]
  exact Nat.lt_of_le_of_lt h2 h
/-- Ratio.__init__ -/
def spRInit (K : PySem.W.Frag) : Sp := fun vs H Q E => ∃ (a dx : Addr) (x y : V) (bx bY : Bool), vs = [.ref a, x, y] ∧ H a = some (.ins (He.ga K "Ratio") dx []) ∧ Kind K H x bx ∧ Kind K H y bY ∧ (bx = false → RzW K "top" H E) ∧ (bx = true → bY = false → RzW K "bottom" H E) ∧
  ∀ t b, x = .int t → y = .int b → (b = 0 → RzW K "zero" H E) ∧ (b ≠ 0 → Sml b ∧ ∀ H', (∀ c, c ≠ a → H' c = H c) → H' a = some (.ins (He.ga K "Ratio") dx (rfs (nrm t b).1 (nrm t b).2)) → Q .non H')
theorem ok_Ratio_init (Z : CT K mg) (F : FunD K d_Ratio_init.name d_Ratio_init.qual d_Ratio_init.params d_Ratio_init.body d_Ratio_init.scope [.int 1] [] f fd) : FnOk P w K mg base (L2N.CX P w) 3 f fd ["self", "top", "bottom"] (spRInit K) := by
  refine F.ok sc_Ratio_init (fun vs H Q E h => ?_) (fun cdv A outer s H vs Q E hr h => ?_)
  · obtain ⟨a, dx, x, y, bx, bY, rfl, _⟩ := h
    rfl
  · obtain ⟨a, dx, x, y, bx, bY, rfl, ha, kx, ky, r1, r2, r3⟩ := h
    refine ⟨_, (pss_cons (ps_if (pt_not (pt_val (gcall (good_is_integer Z) hr (pa_cons (pv 1) pa_nil) pass0) (fun _ => rfl))) (pss_one (L2N.ps_raise rfl (L2N.takes_of rfl rfl rfl rfl) (rz_NoRatio Z hr (pa_cons pe_str pa_nil)))) pss_nil)
      (pss_cons (ps_if (pt_not (pt_val (gcall (good_is_integer Z) hr (pa_cons (pv 2) pa_nil) pass0) (fun _ => rfl))) (pss_one (L2N.ps_raise rfl (L2N.takes_of rfl rfl rfl rfl) (rz_NoRatio Z hr (pa_cons pe_str pa_nil)))) pss_nil)
      (pss_cons (ps_if (pt_cmpR op_eq (pv 2) (pe_int) (nomark _)) (pss_one (L2N.ps_raise rfl (L2N.takes_of rfl rfl rfl rfl) (rz_NoRatio Z hr (pa_cons pe_str pa_nil)))) pss_nil)
      (pss_cons (ps_set (i := 3) sc_Ratio_init.nd rfl (Or.inl rfl) (pe_callBfun cr_gcd (by rfl) (m_gcd Z) (pa_cons (pv 1) (pa_cons (pv 2) pa_nil))))
      (pss_cons (ps_if (pt_cmpR op_lt (pv 2) (pe_int) (nomark _)) (pss_one (ps_set (i := 3) sc_Ratio_init.nd rfl (Or.inl rfl) (pe_un un_neg (pv 3)))) pss_nil)
      (pss_cons (ps_fld (pv 0) (pe_op op_fdivZ (pv 1) (pv 3)) rfl)
      (pss_one (ps_fld (pv 0) (pe_op op_fdivZ (pv 2) (pv 3)) rfl)))))))), ?_⟩
    refine ⟨_, rfl, x, bx, rfl, kx, bx, rfl, ?_⟩
    cases bx with
    | false => exact iteT ⟨_, rfl, fun d H' s' hd => r1 rfl d H' s' hd⟩
    | true =>
      refine iteF ?_
      refine ⟨_, rfl, y, bY, rfl, ky, bY, rfl, ?_⟩
      cases bY with
      | false => exact iteT ⟨_, rfl, fun d H' s' hd => r2 rfl rfl d H' s' hd⟩
      | true =>
        refine iteF ?_
        obtain ⟨t, rfl⟩ := kx.int_of
        obtain ⟨b, rfl⟩ := ky.int_of
        obtain ⟨z1, z2⟩ := r3 t b rfl rfl
        refine ⟨_, rfl, rfl, _, rfl, ite2 (fun h0 => ?_) (fun h0 => ?_)⟩
        · have h0 := of_decide_eq_true h0
          injection h0 with h0
          exact ⟨_, rfl, fun d H' s' hd => z1 h0 d H' s' hd⟩
        · have hb : b ≠ 0 := fun e => h0 (by rw [e]; rfl)
          obtain ⟨hs, q⟩ := z2 hb
          obtain ⟨g0, g1⟩ := sml_gcd (t := t) hb hs
          refine ⟨_, rfl, _, rfl, t, b, rfl, ?_⟩
          refine ⟨_, rfl, _, _, rfl, rfl, _, rfl, ite2 (fun hn => ?_) (fun hn => ?_)⟩
          · have hn := of_decide_eq_true hn
            have e : nrm t b = (t.fdiv (-((Nat.gcd t.natAbs b.natAbs : Nat) : Int)), b.fdiv (-((Nat.gcd t.natAbs b.natAbs : Nat) : Int))) := by unfold nrm; rw [if_pos hn]
            have g2 : -((Nat.gcd t.natAbs b.natAbs : Nat) : Int) ≠ 0 ∧ (-((Nat.gcd t.natAbs b.natAbs : Nat) : Int)).natAbs.log2 < 9000 := ⟨by omega, by rw [Int.natAbs_neg]; exact g1⟩
            refine ⟨_, rfl, _, rfl, ?_⟩
            refine ⟨_, rfl, _, rfl, _, _, rfl, rfl, g2, _, rfl, a, _, dx, [], rfl, ha, (rc Z).cl, (rc Z).nT, (by decide), ?_⟩
            refine ⟨_, rfl, _, rfl, _, _, rfl, rfl, g2, _, rfl, a, _, dx, _, rfl, upd_same, (rc Z).cl, (rc Z).nB, (by show 1 < 1000; decide), ?_⟩
            refine q _ (fun c hc => by rw [upd_ne hc, upd_ne hc]) ?_
            rw [upd_same, e]; rfl
          · have hn : ¬ b < 0 := fun z => hn (decide_eq_true z)
            have e : nrm t b = (t.fdiv ((Nat.gcd t.natAbs b.natAbs : Nat) : Int), b.fdiv ((Nat.gcd t.natAbs b.natAbs : Nat) : Int)) := by unfold nrm; rw [if_neg hn]
            refine ⟨_, rfl, _, rfl, _, _, rfl, rfl, ⟨g0, g1⟩, _, rfl, a, _, dx, [], rfl, ha, (rc Z).cl, (rc Z).nT, (by decide), ?_⟩
            refine ⟨_, rfl, _, rfl, _, _, rfl, rfl, ⟨g0, g1⟩, _, rfl, a, _, dx, _, rfl, upd_same, (rc Z).cl, (rc Z).nB, (by show 1 < 1000; decide), ?_⟩
            refine q _ (fun c hc => by rw [upd_ne hc, upd_ne hc]) ?_
            rw [upd_same, e]; rfl
end
end My

namespace My
open PySem PySem.Spec PyProof.Rows L2 PySem.Calls

section
variable {K : PySem.W.Frag} {mg : Str → Option Value}
def NewR (K : PySem.W.Frag) (H : Hp) (q : Int × Int) (Q : VK) : Prop := ∀ p H', Same H H' → RAt K H' p q → Q (.ref p) H'
theorem RzW.same {z : Str} {H H' : Hp} {E : XK} (h : RzW K z H E) (s : Same H H') : RzW K z H' E := fun d H2 s2 hd => h d H2 (s.trans s2) hd
/-- Ratio(x, y) -/
def AskR (K : PySem.W.Frag) (x y : V) (H : Hp) (Q : VK) (E : XK) : Prop := ∃ bx bY, Kind K H x bx ∧ Kind K H y bY ∧ (bx = false → RzW K "top" H E) ∧ (bx = true → bY = false → RzW K "bottom" H E) ∧
  ∀ t b, x = .int t → y = .int b → (b = 0 → RzW K "zero" H E) ∧ (b ≠ 0 → Sml b ∧ NewR K H (nrm t b) Q)
def tR2 (K : PySem.W.Frag) (E : XK) (t : TA) : TE := fun σ H Q => t σ H fun vs H1 => ∃ x y, vs = [x, y] ∧ AskR K x y H1 Q E
def tR1 (K : PySem.W.Frag) (E : XK) (t : TA) : TE := fun σ H Q => t σ H fun vs H1 => ∃ x, vs = [x] ∧ AskR K x (.int 1) H1 Q E
theorem askR_go {x y : V} {H : Hp} {Q : VK} {E : XK} (h : AskR K x y H Q E) (a dx : Addr) (na : H a = none) (nd : H dx = none) (hne : dx ≠ a) :
    spRInit K [.ref a, x, y] (upd (upd H dx (.own a)) a (.ins (He.ga K "Ratio") dx [])) (fun v H2 => v = .non ∧ Q (.ref a) H2) E := by
  obtain ⟨bx, bY, kx, ky, r1, r2, r3⟩ := h
  have s0 : Same H (upd (upd H dx (.own a)) a (.ins (He.ga K "Ratio") dx [])) := fun b o z => by rw [upd_ne (ne_of_none z na), upd_ne (ne_of_none z nd)]; exact z
  refine ⟨a, dx, x, y, bx, bY, rfl, upd_same, kx.same s0, ky.same s0, fun e => (r1 e).same s0, fun e1 e2 => (r2 e1 e2).same s0, fun t b ex ey => ⟨fun e => ((r3 t b ex ey).1 e).same s0, fun e => ⟨((r3 t b ex ey).2 e).1, fun H' k1 k2 => ⟨rfl, ((r3 t b ex ey).2 e).2 a H' (fun c o z => ?_) ⟨dx, k2⟩⟩⟩⟩⟩
  rw [k1 c (ne_of_none z na)]; exact s0 c o z
end
section
variable {X : Cx} {e : Expr} {es : List Expr} {ta : TA} {p pos : Pos} {k : Nat} {E : XK}
theorem mkR2 (Z : CT X.K X.mg) (hr : Room k X.A) (ha : PA X (e :: es) ta) (hx : Passes (L2N.CX X.prog X.w) X E) (hk : 4 ≤ k := by decide) (hg : Gl X "Ratio" := by rfl) (he : starEach (e :: es) X.env = (false, eval e X.env) :: starEach es X.env := by rfl)
    (hpl : (backTo pos (starEach es X.env)).any (·.1) = false := by rfl) : PE X (.Call (.Name "Ratio" p) (e :: es) [] pos) (tR2 X.K E ta) := by
  obtain ⟨fd, F⟩ := Z.d.def_ 4 (d := d_Ratio_init) rfl
  obtain ⟨ds, r, B⟩ := F.binds1 (ps := ["self", "top", "bottom"]) 3 1 (by intro z; cases z) rfl (fun _ _ _ _ _ _ _ us its h1 h2 => match us, its, h1, h2 with | [_, _, _], [_], _, _ => ⟨_, rfl, rfl⟩)
  cases r
  refine pe_imp (pe_make (mk_Ratio Z) (ok_Ratio_init Z F) (hr.mono hk) hg (glo_Ratio Z) B .nil hx (wk_a ha) (by decide) he hpl) fun σ H Q q => ⟨_, q, fun vs H1 ⟨x, y, ev, h⟩ a dx na nd hne => ?_⟩
  subst ev
  exact askR_go h a dx na nd hne
theorem mkR1 (Z : CT X.K X.mg) (hr : Room k X.A) (ha : PA X (e :: es) ta) (hx : Passes (L2N.CX X.prog X.w) X E) (hk : 4 ≤ k := by decide) (hg : Gl X "Ratio" := by rfl) (he : starEach (e :: es) X.env = (false, eval e X.env) :: starEach es X.env := by rfl)
    (hpl : (backTo pos (starEach es X.env)).any (·.1) = false := by rfl) : PE X (.Call (.Name "Ratio" p) (e :: es) [] pos) (tR1 X.K E ta) := by
  obtain ⟨fd, F⟩ := Z.d.def_ 4 (d := d_Ratio_init) rfl
  obtain ⟨ds, r, B⟩ := F.binds1 (ps := ["self", "top", "bottom"]) 2 0 (by intro z; cases z) rfl (fun _ _ _ _ _ _ _ us its h1 h2 => match us, its, h1, h2 with | [_, _], [_], _, _ => ⟨_, rfl, rfl⟩)
  refine pe_imp (pe_make (dvs := [.int 1]) (mk_Ratio Z) (ok_Ratio_init Z F) (hr.mono hk) hg (glo_Ratio Z) B r hx (wk_a ha) (by decide) he hpl) fun σ H Q q => ⟨_, q, fun vs H1 ⟨x, ev, h⟩ a dx na nd hne => ?_⟩
  subst ev
  exact askR_go h a dx na nd hne
end
theorem nrm_one (n : Int) : nrm n 1 = (n, 1) := by
  unfold nrm
  rw [if_neg (by decide), show Nat.gcd n.natAbs (Int.natAbs 1) = 1 from Nat.gcd_one_right _]
  rw [show ((1 : Nat) : Int) = 1 from rfl, Int.fdiv_one]; rfl
section
variable {P : Program} {w : World} {K : PySem.W.Frag} {mg : Str → Option Value} {base : Heap} {fd : FuncData} {f : Addr}
theorem Num.ask (R : RC K) {H : Hp} {x : V} {q : Int × Int} (h : Num K H x q) : ∃ t b, TyX K H x t ∧ PySem.W.kitOne K t (rf K "Ratio") = some b ∧ (b = false → ∃ n, x = .int n ∧ q = (n, 1)) ∧ (b = true → ∃ a, x = .ref a ∧ RAt K H a q) := by
  cases h with
  | int n => exact ⟨_, false, .base (.int n), of_decide_eq_true (List.all_eq_true.mp R.tR "int" (by decide)), fun _ => ⟨n, rfl, rfl⟩, fun z => nomatch z⟩
  | rat h => exact ⟨_, true, R.ty h, R.rr, fun z => (nomatch z), fun _ => ⟨_, rfl, h⟩⟩
def spIsNumber (K : PySem.W.Frag) : Sp := fun vs H Q _ => ∃ x q, vs = [x] ∧ Num K H x q ∧ Q (.bl true) H
theorem ok_is_number (Z : CT K mg) (F : FunD K d_is_number.name d_is_number.qual d_is_number.params d_is_number.body d_is_number.scope [] [] f fd) : FnOk P w K mg base CX0 2 f fd ["value"] (spIsNumber K) := by
  refine F.ok sc_is_number (fun vs H Q E h => ?_) (fun cdv A outer s H vs Q E hr h => ?_)
  · obtain ⟨x, q, rfl, _⟩ := h
    rfl
  · obtain ⟨x, q, rfl, hn, k⟩ := h
    obtain ⟨t, b, ty, kt, h0, h1⟩ := hn.ask (rc Z)
    refine ⟨_, (pss_one (ps_ret ((pe_or (pe_callB call_isi (by rfl) (m_isinstance Z) boot_isinstance (pa_cons (pv 0) (pa_cons (pe_glob (by rfl) (glo_Ratio Z) (rel_ref _)) pa_nil))) (pe_one (gcall (good_is_integer Z) hr (pa_cons (pv 0) pa_nil) pass0)))))), ?_⟩
    refine ⟨_, rfl, x, _, t, _, b, rfl, .own _, ty, kt, b, rfl, ?_⟩
    cases b with
    | true => exact k
    | false =>
      obtain ⟨n, rfl, _⟩ := h0 rfl
      exact ⟨_, rfl, _, true, rfl, .int n, k⟩
theorem good_is_number (Z : CT K mg) : GoodF CX0 P w K mg base 2 "is_number" ["value"] (spIsNumber K) := Z.good 28 5 d_is_number (fun _ _ _ _ _ _ us hl => match us, hl with | [_], _ => rfl) fun _ F => ok_is_number Z F
def spAsRatio (K : PySem.W.Frag) : Sp := fun vs H Q _ => ∃ x q, vs = [x] ∧ Num K H x q ∧ NewR K H q Q
theorem ok_as_ratio (Z : CT K mg) (F : FunD K d_as_ratio.name d_as_ratio.qual d_as_ratio.params d_as_ratio.body d_as_ratio.scope [] [] f fd) : FnOk P w K mg base CX0 5 f fd ["number"] (spAsRatio K) := by
  refine F.ok sc_as_ratio (fun vs H Q E h => ?_) (fun cdv A outer s H vs Q E hr h => ?_)
  · obtain ⟨x, q, rfl, _⟩ := h
    rfl
  · obtain ⟨x, q, rfl, hn, k⟩ := h
    obtain ⟨t, b, ty, kt, h0, h1⟩ := hn.ask (rc Z)
    refine ⟨_, (pss_cons (ps_if (pt_val (pe_callB call_isi (by rfl) (m_isinstance Z) boot_isinstance (pa_cons (pv 0) (pa_cons (pe_glob (by rfl) (glo_Ratio Z) (rel_ref _)) pa_nil))) (fun _ => rfl)) (pss_one (ps_ret (pv 0))) pss_nil)
      (pss_one (ps_ret (mkR1 Z hr (pa_cons (pv 0) pa_nil) passN)))), ?_⟩
    refine ⟨_, rfl, x, _, t, _, b, rfl, .own _, ty, kt, b, rfl, ?_⟩
    cases b with
    | true =>
      obtain ⟨a, rfl, h⟩ := h1 rfl
      exact iteT ⟨_, rfl, k a H (Same.refl H) h⟩
    | false =>
      obtain ⟨n, rfl, rfl⟩ := h0 rfl
      refine iteF ⟨_, rfl, _, rfl, true, true, .int n, .int 1, fun z => (nomatch z), fun _ z => (nomatch z), fun t b e1 e2 => ?_⟩
      injection e1 with e1
      injection e2 with e2
      subst e1 e2
      exact ⟨fun z => absurd z (by decide), fun _ => ⟨by show (1 : Nat) < 2 ^ 8000; exact Nat.one_lt_two_pow (by decide), by rw [nrm_one]; exact k⟩⟩
theorem good_as_ratio (Z : CT K mg) : GoodF CX0 P w K mg base 5 "as_ratio" ["number"] (spAsRatio K) := Z.good 29 6 d_as_ratio (fun _ _ _ _ _ _ us hl => match us, hl with | [_], _ => rfl) fun _ F => ok_as_ratio Z F
end
/-! ### the operators of numbers -/
section
variable {X : Cx} {CX : CXT} {pins : List (Addr × Obj)} {σ : L2.St} {H : Hp} {s : Shared} {a C dx f g : Addr} {fs : List (Str × V)} {k k' : Nat} {fd gd : FuncData} {sp sr : Sp} {E : XK}
theorem ins_inst (I : Inv X pins σ H s) (e : H a = some (.ins C dx fs)) : ∃ od, PySem.W.InstAt s.heap a (PySem.W.instObj C dx) C (some od) := by
  obtain ⟨mA, O, _⟩ := ins_get I.hok e
  obtain ⟨od, J, _⟩ := O.look
  exact ⟨od, J⟩
theorem slots_int {K : PySem.W.Frag} {mg : Str → Option Value} (Z : CT K mg) {nm : String} (h : nm ∈ ["add", "sub", "mul", "floordiv", "mod", "pow"]) : ∃ fo ro, PySem.W.findIn K (.type "int") (PySem.dunder nm) = some fo ∧ PySem.W.findIn K (.type "int") (PySem.dunderR nm) = some ro := by
  obtain ⟨h1, h2⟩ := Bool.and_eq_true_iff.mp (List.all_eq_true.mp (exi Z) nm h)
  obtain ⟨fo, e1⟩ := Option.isSome_iff_exists.mp h1
  obtain ⟨ro, e2⟩ := Option.isSome_iff_exists.mp h2
  exact ⟨fo, ro, e1, e2⟩
/-- a Ratio on the left -/
def rRatL (K : PySem.W.Frag) (sp : Sp) (E : XK) : R2 := fun x y H Q => ∃ a q r, x = .ref a ∧ RAt K H a q ∧ Num K H y r ∧ sp [x, y] H Q E
theorem op_ratL {op : Operator} {mth : Str} (Z : CT X.K X.mg) (hop : op.info.2 ∈ ["add", "sub", "mul", "floordiv", "mod", "pow"]) (hm : PySem.dunder op.info.2 = mth) (me : Meth X.K (He.ga X.K "Ratio") mth f) (mr : ∃ g, Meth X.K (He.ga X.K "Ratio") (dunderR op.info.2) g)
    (F : FnOk X.prog X.w X.K X.mg X.base CX k f fd ["self", "other"] sp) (B : Binds X.K fd ["self", "other"] []) (hr : Room k' X.A) (hx : Passes CX X E) (hk : k ≤ k' := by decide) : OpR X (binaryOp op) (rRatL X.K sp E) := by
  intro pins s σ H x y v u Q I rx ry ⟨a, q, r, ex, ⟨dx, hd⟩, hn, h⟩
  subst ex
  cases (show v = Value.ref a from rx)
  obtain ⟨od, J⟩ := ins_inst I hd
  obtain ⟨m, hF⟩ := I.fr
  have at_ := me.at_
  rw [← hm] at at_
  have back : ∀ {z : V} {w : Value} {s' : Shared}, EP X pins σ Q w s' → PySem.W.CmpBack (EP X pins σ Q) w s' := fun z => by
    obtain ⟨z', H', I', rz, qz⟩ := z
    exact SlX.cmpback rz ⟨z', H', I', rz, qz⟩
  have run : wpAny (model X.prog X.w) X.A (call (.ref f) [.ref a, u]) (PySem.W.CmpBack (EP X pins σ Q)) X.xe s :=
    wpAny_mono (run_fn (us := [.ref a, u]) (vs := [.ref a, y]) F (hr.mono hk) B .nil hx I (.cons rfl (.cons ry .nil)) h) (fun w s' z => back (z := y) z) fun _ _ e => e
  cases hn with
  | int n =>
    obtain ⟨t, e⟩ := (show ∃ t, u = Value.int n t from ry)
    subst e
    obtain ⟨fo, ro, h1, h2⟩ := slots_int Z hop
    obtain ⟨g, mg'⟩ := mr
    exact PySem.W.ksp_binT hF I.ok.mod.kin J rfl (rc Z).self at_ me.fn mg'.at_ (.inr ⟨g, rfl⟩) h1 h2 (rc Z).ir run
  | @rat b q hb =>
    cases (show u = Value.ref b from ry)
    obtain ⟨dy, hb⟩ := hb
    obtain ⟨od', J'⟩ := ins_inst I hb
    exact PySem.W.binop_K hF I.ok.mod.kin J J'.type (rc Z).self at_ me.fn run
/-- an integer on the left, a Ratio on the right -/
def rRatR (K : PySem.W.Frag) (sr : Sp) (E : XK) : R2 := fun x y H Q => ∃ i b q, x = .int i ∧ y = .ref b ∧ RAt K H b q ∧ sr [y, x] H Q E
theorem op_ratR {op : Operator} {mth rmth : Str} {id : String} {Bi : Builtin} (Z : CT X.K X.mg) (S : IntSlot op id Bi) (hm : PySem.dunder op.info.2 = mth) (hm2 : dunderR op.info.2 = rmth) (me : Meth X.K (He.ga X.K "Ratio") mth f) (mr : Meth X.K (He.ga X.K "Ratio") rmth g)
    (F : FnOk X.prog X.w X.K X.mg X.base CX k g gd ["self", "other"] sr) (B : Binds X.K gd ["self", "other"] []) (hr : Room k' X.A) (hx : Passes CX X E) (hk : k ≤ k' := by decide) : OpR X (binaryOp op) (rRatR X.K sr E) := by
  intro pins s σ H x y v u Q I rx ry ⟨i, b, q, ex, ey, ⟨dy, hb⟩, h⟩
  subst ex ey
  cases (show u = Value.ref b from ry)
  obtain ⟨t, e⟩ := (show ∃ t, v = Value.int i t from rx)
  subst e
  obtain ⟨od, J⟩ := ins_inst I hb
  have at_ := me.at_
  rw [← hm] at at_
  have ar := mr.at_
  rw [← hm2] at ar
  refine bin_refl S I.kIn J (rc Z).self at_ ar mr.fn (rc Z).ri (wpAny_mono (run_fn (us := [.ref b, .int i t]) (vs := [.ref b, .int i]) F (hr.mono hk) B .nil hx I (.cons rfl (.cons ⟨t, rfl⟩ .nil)) h) (fun w s' z => ?_) fun _ _ e => e)
  obtain ⟨z', H', I', rz, qz⟩ := z
  exact SlX.cmpback rz ⟨z', H', I', rz, qz⟩
theorem opR_or {f : Value → Value → Sem Value} {r r' : R2} (h : OpR X f r) (h' : OpR X f r') : OpR X f (fun x y H Q => r x y H Q ∨ r' x y H Q) := fun pins s σ H x y v u Q I rx ry z => z.elim (fun z => h pins s σ H x y v u Q I rx ry z) fun z => h' pins s σ H x y v u Q I rx ry z
end
end My

namespace My
open PySem PySem.Spec PyProof.Rows L2 PySem.Calls

/-! ### methods by their promises -/
structure GoodMd (CX : CXT) (P : Program) (w : World) (K : PySem.W.Frag) (mg : Str → Option Value) (base : Heap) (k : Nat) (m : Str) (ps : List Str) (sp : Sp) : Prop where
  me : Meth K (He.ga K "Ratio") m (He.ma K (He.ga K "Ratio") m)
  fn : ∃ fd, FnOk P w K mg base CX k (He.ma K (He.ga K "Ratio") m) fd ps sp ∧ Binds K fd ps []
theorem goodMd {K : PySem.W.Frag} {mg : Str → Option Value} {CX : CXT} {P : Program} {w : World} {base : Heap} {k : Nat} {m : Str} {ps : List Str} {sp : Sp} (Z : CT K mg) (i : Nat) (d : He.DefD) (me : Meth K (He.ga K "Ratio") m (He.ma K (He.ga K "Ratio") m))
    (hb : ∀ (kV doc pm : Value) (an : Option Addr) (cdv ct : Value) (us : List Value), us.length = ps.length → bindArgs (PySem.W.fnOf d.name d.qual d.params d.body d.scope .none kV doc pm an cdv ct) ⟨us, []⟩ = pure (ps.zip us))
    (ok : ∀ fd, FunD K d.name d.qual d.params d.body d.scope [] [] (He.ma K (He.ga K "Ratio") m) fd → FnOk P w K mg base CX k (He.ma K (He.ga K "Ratio") m) fd ps sp)
    (hd : fn[i]? = some d := by rfl) (hx : d.at_ = (("Ratio" : Str), some m) := by rfl) (hdf : d.dfl = [] := by rfl) (hkw : d.kwd = [] := by rfl) : GoodMd CX P w K mg base k m ps sp := by
  obtain ⟨fd, F⟩ := Z.d.def_ i hd
  have e1 : d.dvs K = [] := by unfold He.DefD.dvs; rw [hdf]; rfl
  have e2 : d.kws K = [] := by unfold He.DefD.kws; rw [hkw]; rfl
  have e3 : He.fAd K d.at_ = He.ma K (He.ga K "Ratio") m := by rw [hx]; rfl
  rw [e1, e2, e3] at F
  exact ⟨me, fd, ok fd F, F.bindsN hb⟩
/-! ### values and their bounds -/
def Okq (B : Nat) (p : Int × Int) : Prop := p.1.natAbs < 2 ^ B ∧ p.2.natAbs < 2 ^ B ∧ p.2 ≠ 0
theorem bnd_mul {i j : Int} {a b c : Nat} (ha : i.natAbs < 2 ^ a) (hb : j.natAbs < 2 ^ b) (h : a + b ≤ c) : (i * j).natAbs < 2 ^ c := Nat.lt_of_lt_of_le (wide_lt ha hb) (Nat.pow_le_pow_right (by decide) h)
theorem bnd_add {i j : Int} {c : Nat} (ha : i.natAbs < 2 ^ c) (hb : j.natAbs < 2 ^ c) : (i + j).natAbs < 2 ^ (c + 1) := by rw [Nat.pow_succ]; omega
theorem bnd_sub {i j : Int} {c : Nat} (ha : i.natAbs < 2 ^ c) (hb : j.natAbs < 2 ^ c) : (i - j).natAbs < 2 ^ (c + 1) := by rw [Nat.pow_succ]; omega
theorem bnd_le {i : Int} {a c : Nat} (ha : i.natAbs < 2 ^ a) (h : a ≤ c) : i.natAbs < 2 ^ c := Nat.lt_of_lt_of_le ha (Nat.pow_le_pow_right (by decide) h)
theorem mulW {i j : Int} {B : Nat} (ha : i.natAbs < 2 ^ B) (hb : j.natAbs < 2 ^ B) (h0 : 0 < B) (h1 : B ≤ 4000) : CMulW i j := wide_mul ha hb h0 h0 (by omega)
theorem ne_mul {i j : Int} (hi : i ≠ 0) (hj : j ≠ 0) : i * j ≠ 0 := Int.mul_ne_zero hi hj
def addQ (p q : Int × Int) : Int × Int := nrm (p.1 * q.2 + q.1 * p.2) (p.2 * q.2)
def subQ (p q : Int × Int) : Int × Int := nrm (p.1 * q.2 - q.1 * p.2) (p.2 * q.2)
def mulQ (p q : Int × Int) : Int × Int := nrm (p.1 * q.1) (p.2 * q.2)
def overQ (p q : Int × Int) : Int × Int := nrm (p.1 * q.2) (p.2 * q.1)
def fdQ (p q : Int × Int) : Int := (overQ p q).1.fdiv (overQ p q).2
section
variable {K : PySem.W.Frag} {H : Hp}
theorem askR_ok {t b : Int} {Q : VK} {E : XK} (hb : b ≠ 0) (hs : b.natAbs < 2 ^ 8000) (h : NewR K H (nrm t b) Q) : AskR K (.int t) (.int b) H Q E :=
  ⟨true, true, .int t, .int b, fun z => (nomatch z), fun _ z => (nomatch z), fun t' b' e1 e2 => by injection e1 with e1; injection e2 with e2; subst e1 e2; exact ⟨fun z => absurd z hb, fun _ => ⟨hs, h⟩⟩⟩
theorem NewR.same {q : Int × Int} {Q : VK} {H' : Hp} (h : NewR K H q Q) (s : Same H H') : NewR K H' q Q := fun p H2 s2 r => h p H2 (s.trans s2) r
/-- a op b, a a Ratio, b a number: the promise of a method -/
def spBin (K : PySem.W.Frag) (f : Int × Int → Int × Int → Int × Int) : Sp := fun vs H Q _ => ∃ a p y q, vs = [.ref a, y] ∧ RAt K H a p ∧ Num K H y q ∧ Okq 3900 p ∧ Okq 3900 q ∧ NewR K H (f p q) Q
def rBinL (K : PySem.W.Frag) (f : Int × Int → Int × Int → Int × Int) : R2 := fun x y H Q => ∃ a p q, x = .ref a ∧ RAt K H a p ∧ Num K H y q ∧ Okq 3900 p ∧ Okq 3900 q ∧ NewR K H (f p q) Q
/-- both are numbers, one of them a Ratio -/
def rBin (K : PySem.W.Frag) (f : Int × Int → Int × Int → Int × Int) : R2 := fun x y H Q => ∃ p q, Num K H x p ∧ Num K H y q ∧ ((∃ a, x = .ref a) ∨ ∃ b, y = .ref b) ∧ Okq 3900 p ∧ Okq 3900 q ∧ NewR K H (f p q) Q
end
theorem op_imp {X : Cx} {f : Value → Value → Sem Value} {r r' : R2} (h : OpR X f r) (i : ∀ x y H Q, r' x y H Q → r x y H Q) : OpR X f r' := fun pins s σ H x y v u Q I rx ry z => h pins s σ H x y v u Q I rx ry (i x y H Q z)
theorem binL {X : Cx} {k k' : Nat} {op : Operator} {mth : Str} {f : Int × Int → Int × Int → Int × Int} (Z : CT X.K X.mg) (G : GoodMd CX0 X.prog X.w X.K X.mg X.base k mth ["self", "other"] (spBin X.K f)) (mr : ∃ g, Meth X.K (He.ga X.K "Ratio") (dunderR op.info.2) g) (hr : Room k' X.A) (hk : k ≤ k')
    (hop : op.info.2 ∈ ["add", "sub", "mul", "floordiv", "mod", "pow"]) (hm : PySem.dunder op.info.2 = mth) : OpR X (binaryOp op) (rBinL X.K f) := by
  obtain ⟨fd, F, B⟩ := G.fn
  exact op_imp (op_ratL Z hop hm G.me mr F B hr pass0 hk) fun x y H Q ⟨a, p, q, e, h1, h2, h3, h4, h5⟩ => ⟨a, p, q, e, h1, h2, a, p, y, q, by rw [e], h1, h2, h3, h4, h5⟩
theorem binA {X : Cx} {k k2 k' : Nat} {op : Operator} {mth rmth : Str} {id : String} {Bi : Builtin} {f fr : Int × Int → Int × Int → Int × Int} (Z : CT X.K X.mg) (G : GoodMd CX0 X.prog X.w X.K X.mg X.base k mth ["self", "other"] (spBin X.K f)) (G2 : GoodMd CX0 X.prog X.w X.K X.mg X.base k2 rmth ["self", "other"] (spBin X.K fr))
    (hf : ∀ p q, fr p q = f q p) (S : IntSlot op id Bi) (hr : Room k' X.A) (hk : k ≤ k') (hk2 : k2 ≤ k') (hop : op.info.2 ∈ ["add", "sub", "mul", "floordiv", "mod", "pow"]) (hm : PySem.dunder op.info.2 = mth) (hm2 : dunderR op.info.2 = rmth) : OpR X (binaryOp op) (rBin X.K f) := by
  obtain ⟨fd2, F2, B2⟩ := G2.fn
  refine op_imp (opR_or (binL Z G ⟨_, by rw [hm2]; exact G2.me⟩ hr hk hop hm) (op_ratR Z S hm hm2 G.me G2.me F2 B2 hr pass0 hk2)) fun x y H Q ⟨p, q, n1, n2, ho, o1, o2, h⟩ => ?_
  cases n1 with
  | rat h1 => exact .inl ⟨_, p, q, rfl, h1, n2, o1, o2, h⟩
  | int i =>
    rcases ho with ⟨a, e⟩ | ⟨b, e⟩
    · cases e
    · subst e
      cases n2 with
      | rat h2 => exact .inr ⟨i, b, q, rfl, rfl, h2, b, q, _, _, rfl, h2, .int i, o2, o1, by rw [hf]; exact h⟩
section
variable {P : Program} {w : World} {K : PySem.W.Frag} {mg : Str → Option Value} {base : Heap} {fd : FuncData} {f : Addr}
theorem ok_Ratio_add (Z : CT K mg) (F : FunD K d_Ratio_add.name d_Ratio_add.qual d_Ratio_add.params d_Ratio_add.body d_Ratio_add.scope [] [] f fd) : FnOk P w K mg base (CX0) 6 f fd ["self", "other"] (spBin K addQ) := by
  refine F.ok sc_Ratio_add (fun vs H Q E h => ?_) (fun cdv A outer s H vs Q E hr h => ?_)
  · obtain ⟨a, p, y, q, rfl, _⟩ := h
    rfl
  · obtain ⟨a, p, y, q, rfl, ha, hn, o1, o2, h⟩ := h
    refine ⟨_, (pss_cons (ps_if (pt_not (pt_val (gcall (good_is_number Z) hr (pa_cons (pv 1) pa_nil) pass0) (fun _ => rfl))) (pss_one ps_never) pss_nil)
      (pss_cons (ps_set (i := 2) sc_Ratio_add.nd rfl (Or.inl rfl) (gcall (good_as_ratio Z) hr (pa_cons (pv 1) pa_nil) pass0))
      (pss_one (ps_ret (mkR2 Z hr (pa_cons (pe_op op_add (pe_op op_mulW (pe_fld (pv 0) rfl) (pe_fld (pv 2) rfl)) (pe_op op_mulW (pe_fld (pv 2) rfl) (pe_fld (pv 0) rfl))) (pa_cons (pe_op op_mulW (pe_fld (pv 0) rfl) (pe_fld (pv 2) rfl)) pa_nil)) passN))))), ?_⟩
    refine ⟨_, rfl, y, q, rfl, hn, true, rfl, iteF ?_⟩
    refine ⟨_, rfl, y, q, rfl, hn, fun r H1 s1 hr1 => ?_⟩
    obtain ⟨dx, hd⟩ := ha.same s1
    obtain ⟨dy, he⟩ := hr1
    refine ⟨_, rfl, a, _, dx, _, _, rfl, hd, (rc Z).cl, (rc Z).nT, rfs_top _ _, _, rfl, r, _, dy, _, _, rfl, he, (rc Z).cl, (rc Z).nB, rfs_bot _ _, _, _, rfl, rfl, mulW o1.1 o2.2.1 (by decide) (by decide), _, rfl, r, _, dy, _, _, rfl, he, (rc Z).cl, (rc Z).nT, rfs_top _ _, _, rfl, a, _, dx, _, _, rfl, hd, (rc Z).cl, (rc Z).nB, rfs_bot _ _, _, _, rfl, rfl, mulW o2.1 o1.2.1 (by decide) (by decide), _, _, rfl, rfl, _, rfl, a, _, dx, _, _, rfl, hd, (rc Z).cl, (rc Z).nB, rfs_bot _ _, _, rfl, r, _, dy, _, _, rfl, he, (rc Z).cl, (rc Z).nB, rfs_bot _ _, _, _, rfl, rfl, mulW o1.2.1 o2.2.1 (by decide) (by decide), _, _, rfl, ?_⟩
    exact askR_ok (ne_mul o1.2.2 o2.2.2) (bnd_mul o1.2.1 o2.2.1 (by decide)) (h.same s1)

theorem good_Ratio_add (Z : CT K mg) : GoodMd (CX0) P w K mg base 6 "__add__" ["self", "other"] (spBin K addQ) := goodMd Z 13 d_Ratio_add (me_Ratio_add Z) (fun _ _ _ _ _ _ us hl => match us, hl with | [_, _], _ => rfl) fun _ F => ok_Ratio_add Z F
theorem ok_Ratio_sub (Z : CT K mg) (F : FunD K d_Ratio_sub.name d_Ratio_sub.qual d_Ratio_sub.params d_Ratio_sub.body d_Ratio_sub.scope [] [] f fd) : FnOk P w K mg base (CX0) 6 f fd ["self", "other"] (spBin K subQ) := by
  refine F.ok sc_Ratio_sub (fun vs H Q E h => ?_) (fun cdv A outer s H vs Q E hr h => ?_)
  · obtain ⟨a, p, y, q, rfl, _⟩ := h
    rfl
  · obtain ⟨a, p, y, q, rfl, ha, hn, o1, o2, h⟩ := h
    refine ⟨_, (pss_cons (ps_if (pt_not (pt_val (gcall (good_is_number Z) hr (pa_cons (pv 1) pa_nil) pass0) (fun _ => rfl))) (pss_one ps_never) pss_nil)
      (pss_cons (ps_set (i := 2) sc_Ratio_sub.nd rfl (Or.inl rfl) (gcall (good_as_ratio Z) hr (pa_cons (pv 1) pa_nil) pass0))
      (pss_one (ps_ret (mkR2 Z hr (pa_cons (pe_op op_sub (pe_op op_mulW (pe_fld (pv 0) rfl) (pe_fld (pv 2) rfl)) (pe_op op_mulW (pe_fld (pv 2) rfl) (pe_fld (pv 0) rfl))) (pa_cons (pe_op op_mulW (pe_fld (pv 0) rfl) (pe_fld (pv 2) rfl)) pa_nil)) passN))))), ?_⟩
    refine ⟨_, rfl, y, q, rfl, hn, true, rfl, iteF ?_⟩
    refine ⟨_, rfl, y, q, rfl, hn, fun r H1 s1 hr1 => ?_⟩
    obtain ⟨dx, hd⟩ := ha.same s1
    obtain ⟨dy, he⟩ := hr1
    refine ⟨_, rfl, a, _, dx, _, _, rfl, hd, (rc Z).cl, (rc Z).nT, rfs_top _ _, _, rfl, r, _, dy, _, _, rfl, he, (rc Z).cl, (rc Z).nB, rfs_bot _ _, _, _, rfl, rfl, mulW o1.1 o2.2.1 (by decide) (by decide), _, rfl, r, _, dy, _, _, rfl, he, (rc Z).cl, (rc Z).nT, rfs_top _ _, _, rfl, a, _, dx, _, _, rfl, hd, (rc Z).cl, (rc Z).nB, rfs_bot _ _, _, _, rfl, rfl, mulW o2.1 o1.2.1 (by decide) (by decide), _, _, rfl, rfl, _, rfl, a, _, dx, _, _, rfl, hd, (rc Z).cl, (rc Z).nB, rfs_bot _ _, _, rfl, r, _, dy, _, _, rfl, he, (rc Z).cl, (rc Z).nB, rfs_bot _ _, _, _, rfl, rfl, mulW o1.2.1 o2.2.1 (by decide) (by decide), _, _, rfl, ?_⟩
    exact askR_ok (ne_mul o1.2.2 o2.2.2) (bnd_mul o1.2.1 o2.2.1 (by decide)) (h.same s1)

theorem good_Ratio_sub (Z : CT K mg) : GoodMd (CX0) P w K mg base 6 "__sub__" ["self", "other"] (spBin K subQ) := goodMd Z 15 d_Ratio_sub (me_Ratio_sub Z) (fun _ _ _ _ _ _ us hl => match us, hl with | [_, _], _ => rfl) fun _ F => ok_Ratio_sub Z F
theorem ok_Ratio_mul (Z : CT K mg) (F : FunD K d_Ratio_mul.name d_Ratio_mul.qual d_Ratio_mul.params d_Ratio_mul.body d_Ratio_mul.scope [] [] f fd) : FnOk P w K mg base (CX0) 6 f fd ["self", "other"] (spBin K mulQ) := by
  refine F.ok sc_Ratio_mul (fun vs H Q E h => ?_) (fun cdv A outer s H vs Q E hr h => ?_)
  · obtain ⟨a, p, y, q, rfl, _⟩ := h
    rfl
  · obtain ⟨a, p, y, q, rfl, ha, hn, o1, o2, h⟩ := h
    refine ⟨_, (pss_cons (ps_if (pt_not (pt_val (gcall (good_is_number Z) hr (pa_cons (pv 1) pa_nil) pass0) (fun _ => rfl))) (pss_one ps_never) pss_nil)
      (pss_cons (ps_set (i := 2) sc_Ratio_mul.nd rfl (Or.inl rfl) (gcall (good_as_ratio Z) hr (pa_cons (pv 1) pa_nil) pass0))
      (pss_one (ps_ret (mkR2 Z hr (pa_cons (pe_op op_mulW (pe_fld (pv 0) rfl) (pe_fld (pv 2) rfl)) (pa_cons (pe_op op_mulW (pe_fld (pv 0) rfl) (pe_fld (pv 2) rfl)) pa_nil)) passN))))), ?_⟩
    refine ⟨_, rfl, y, q, rfl, hn, true, rfl, iteF ?_⟩
    refine ⟨_, rfl, y, q, rfl, hn, fun r H1 s1 hr1 => ?_⟩
    obtain ⟨dx, hd⟩ := ha.same s1
    obtain ⟨dy, he⟩ := hr1
    refine ⟨_, rfl, a, _, dx, _, _, rfl, hd, (rc Z).cl, (rc Z).nT, rfs_top _ _, _, rfl, r, _, dy, _, _, rfl, he, (rc Z).cl, (rc Z).nT, rfs_top _ _, _, _, rfl, rfl, mulW o1.1 o2.1 (by decide) (by decide), _, rfl, a, _, dx, _, _, rfl, hd, (rc Z).cl, (rc Z).nB, rfs_bot _ _, _, rfl, r, _, dy, _, _, rfl, he, (rc Z).cl, (rc Z).nB, rfs_bot _ _, _, _, rfl, rfl, mulW o1.2.1 o2.2.1 (by decide) (by decide), _, _, rfl, ?_⟩
    exact askR_ok (ne_mul o1.2.2 o2.2.2) (bnd_mul o1.2.1 o2.2.1 (by decide)) (h.same s1)

theorem good_Ratio_mul (Z : CT K mg) : GoodMd (CX0) P w K mg base 6 "__mul__" ["self", "other"] (spBin K mulQ) := goodMd Z 17 d_Ratio_mul (me_Ratio_mul Z) (fun _ _ _ _ _ _ us hl => match us, hl with | [_, _], _ => rfl) fun _ F => ok_Ratio_mul Z F
end
theorem opAddL {X : Cx} {k : Nat} (Z : CT X.K X.mg) (hr : Room k X.A) (hk : 6 ≤ k := by decide) : OpR X (binaryOp .Add) (rBinL X.K addQ) := binL Z (good_Ratio_add Z) ⟨_, me_Ratio_radd Z⟩ hr hk (by decide) (by decide +kernel)
theorem opSubL {X : Cx} {k : Nat} (Z : CT X.K X.mg) (hr : Room k X.A) (hk : 6 ≤ k := by decide) : OpR X (binaryOp .Sub) (rBinL X.K subQ) := binL Z (good_Ratio_sub Z) ⟨_, me_Ratio_rsub Z⟩ hr hk (by decide) (by decide +kernel)
theorem opMulL {X : Cx} {k : Nat} (Z : CT X.K X.mg) (hr : Room k X.A) (hk : 6 ≤ k := by decide) : OpR X (binaryOp .Mult) (rBinL X.K mulQ) := binL Z (good_Ratio_mul Z) ⟨_, me_Ratio_rmul Z⟩ hr hk (by decide) (by decide +kernel)
section
variable {P : Program} {w : World} {K : PySem.W.Frag} {mg : Str → Option Value} {base : Heap} {fd : FuncData} {f : Addr}
theorem ok_Ratio_radd (Z : CT K mg) (F : FunD K d_Ratio_radd.name d_Ratio_radd.qual d_Ratio_radd.params d_Ratio_radd.body d_Ratio_radd.scope [] [] f fd) : FnOk P w K mg base (CX0) 7 f fd ["self", "other"] (spBin K addQ) := by
  refine F.ok sc_Ratio_radd (fun vs H Q E h => ?_) (fun cdv A outer s H vs Q E hr h => ?_)
  · obtain ⟨a, p, y, q, rfl, _⟩ := h
    rfl
  · obtain ⟨a, p, y, q, rfl, ha, hn, o1, o2, h⟩ := h
    refine ⟨_, (pss_one (ps_ret (pe_op (opAddL Z hr ) (pv 0) (pv 1)))), ?_⟩
    exact ⟨_, rfl, _, rfl, a, p, q, rfl, ha, hn, o1, o2, h⟩

theorem good_Ratio_radd (Z : CT K mg) : GoodMd (CX0) P w K mg base 7 "__radd__" ["self", "other"] (spBin K addQ) := goodMd Z 14 d_Ratio_radd (me_Ratio_radd Z) (fun _ _ _ _ _ _ us hl => match us, hl with | [_, _], _ => rfl) fun _ F => ok_Ratio_radd Z F
theorem ok_Ratio_rmul (Z : CT K mg) (F : FunD K d_Ratio_rmul.name d_Ratio_rmul.qual d_Ratio_rmul.params d_Ratio_rmul.body d_Ratio_rmul.scope [] [] f fd) : FnOk P w K mg base (CX0) 7 f fd ["self", "other"] (spBin K mulQ) := by
  refine F.ok sc_Ratio_rmul (fun vs H Q E h => ?_) (fun cdv A outer s H vs Q E hr h => ?_)
  · obtain ⟨a, p, y, q, rfl, _⟩ := h
    rfl
  · obtain ⟨a, p, y, q, rfl, ha, hn, o1, o2, h⟩ := h
    refine ⟨_, (pss_one (ps_ret (pe_op (opMulL Z hr ) (pv 0) (pv 1)))), ?_⟩
    exact ⟨_, rfl, _, rfl, a, p, q, rfl, ha, hn, o1, o2, h⟩

theorem good_Ratio_rmul (Z : CT K mg) : GoodMd (CX0) P w K mg base 7 "__rmul__" ["self", "other"] (spBin K mulQ) := goodMd Z 18 d_Ratio_rmul (me_Ratio_rmul Z) (fun _ _ _ _ _ _ us hl => match us, hl with | [_, _], _ => rfl) fun _ F => ok_Ratio_rmul Z F
theorem ok_Ratio_rsub (Z : CT K mg) (F : FunD K d_Ratio_rsub.name d_Ratio_rsub.qual d_Ratio_rsub.params d_Ratio_rsub.body d_Ratio_rsub.scope [] [] f fd) : FnOk P w K mg base (CX0) 7 f fd ["self", "other"] (spBin K (fun p q => subQ q p)) := by
  refine F.ok sc_Ratio_rsub (fun vs H Q E h => ?_) (fun cdv A outer s H vs Q E hr h => ?_)
  · obtain ⟨a, p, y, q, rfl, _⟩ := h
    rfl
  · obtain ⟨a, p, y, q, rfl, ha, hn, o1, o2, h⟩ := h
    refine ⟨_, (pss_cons (ps_if (pt_not (pt_val (gcall (good_is_number Z) hr (pa_cons (pv 1) pa_nil) pass0) (fun _ => rfl))) (pss_one ps_never) pss_nil)
      (pss_one (ps_ret (pe_op (opSubL Z hr ) (gcall (good_as_ratio Z) hr (pa_cons (pv 1) pa_nil) pass0) (pv 0))))), ?_⟩
    refine ⟨_, rfl, y, q, rfl, hn, true, rfl, iteF ?_⟩
    exact ⟨_, rfl, y, q, rfl, hn, fun r H1 s1 hr1 => ⟨_, rfl, r, q, p, rfl, hr1, .rat (ha.same s1), o2, o1, h.same s1⟩⟩

theorem good_Ratio_rsub (Z : CT K mg) : GoodMd (CX0) P w K mg base 7 "__rsub__" ["self", "other"] (spBin K (fun p q => subQ q p)) := goodMd Z 16 d_Ratio_rsub (me_Ratio_rsub Z) (fun _ _ _ _ _ _ us hl => match us, hl with | [_, _], _ => rfl) fun _ F => ok_Ratio_rsub Z F
end
theorem addQ_comm (p q : Int × Int) : addQ p q = addQ q p := by unfold addQ; rw [Int.add_comm, Int.mul_comm p.2]
theorem mulQ_comm (p q : Int × Int) : mulQ p q = mulQ q p := by unfold mulQ; rw [Int.mul_comm p.1, Int.mul_comm p.2]
theorem opAdd {X : Cx} {k : Nat} (Z : CT X.K X.mg) (hr : Room k X.A) (hk : 7 ≤ k := by decide) : OpR X (binaryOp .Add) (rBin X.K addQ) := binA Z (good_Ratio_add Z) (good_Ratio_radd Z) (addQ_comm) is_add hr (Nat.le_trans (by decide) hk) hk (by decide) (by decide +kernel) (by decide +kernel)
theorem opSub {X : Cx} {k : Nat} (Z : CT X.K X.mg) (hr : Room k X.A) (hk : 7 ≤ k := by decide) : OpR X (binaryOp .Sub) (rBin X.K subQ) := binA Z (good_Ratio_sub Z) (good_Ratio_rsub Z) (fun _ _ => rfl) is_sub hr (Nat.le_trans (by decide) hk) hk (by decide) (by decide +kernel) (by decide +kernel)
theorem opMul {X : Cx} {k : Nat} (Z : CT X.K X.mg) (hr : Room k X.A) (hk : 7 ≤ k := by decide) : OpR X (binaryOp .Mult) (rBin X.K mulQ) := binA Z (good_Ratio_mul Z) (good_Ratio_rmul Z) (mulQ_comm) is_mul hr (Nat.le_trans (by decide) hk) hk (by decide) (by decide +kernel) (by decide +kernel)
end My

namespace My
open PySem PySem.Spec PyProof.Rows L2 PySem.Calls

/-! ### unary operators, abs -/
section
variable {prog : Program} {w : World} {A : Around} {E : Value → Shared → Prop} {s : Shared} {K : PySem.W.Frag} {x C f : Addr} {ox : Obj} {od : Option Obj}
theorem abs_own {Q : Value → Shared → Prop} (X : K.In s.heap) (I : PySem.W.InstAt s.heap x ox C od) (hs : PySem.W.findIn K (.ref C) "__abs__" = some (some (.ref f))) (hf : PySem.W.isFn K (.ref f) = true) (h : wpAny (model prog w) A.in1 (call (.ref f) [.ref x]) Q E s) :
    wpAny (model prog w) A (call (.builtin "abs") [.ref x]) Q E s := by
  refine call_function_entry kind_abs plain_abs entry_abs (args_abs _) ?_
  unfold Builtin.«abs»
  refine wpAny_bind (m := oneArg "abs" _) (wpAny_pure (wpAny_bind (m := callSpecial? (.ref x) (Str.ofString "__abs__")) (PySem.W.special_fn X I hs (beq_iff_eq.mp hf) (wpAny_mono h (fun v s' z => ?_) fun _ _ e => e))))
  exact wpAny_pure ⟨v, rfl, z⟩
end
section
variable {X : Cx} {k k' : Nat} {g : Int × Int → Int × Int}
/-- one number in, a new one out -/
def spUn (K : PySem.W.Frag) (g : Int × Int → Int × Int) : Sp := fun vs H Q _ => ∃ a p, vs = [.ref a] ∧ RAt K H a p ∧ Okq 3900 p ∧ NewR K H (g p) Q
def rUn (K : PySem.W.Frag) (g : Int × Int → Int × Int) : V → Hp → VK → Prop := fun x H Q => ∃ a p, x = .ref a ∧ RAt K H a p ∧ Okq 3900 p ∧ NewR K H (g p) Q
theorem un_negR (Z : CT X.K X.mg) (G : GoodMd CX0 X.prog X.w X.K X.mg X.base k "__neg__" ["self"] (spUn X.K g)) (hr : Room k' X.A) (hk : k ≤ k' := by decide) : UnR X (unaryOp .USub) (rUn X.K g) := by
  intro pins s σ H x v Q I rx ⟨a, p, e, ⟨dx, hd⟩, o, h⟩
  subst e
  cases (show v = Value.ref a from rx)
  obtain ⟨od, J⟩ := ins_inst I hd
  obtain ⟨m, hF⟩ := I.fr
  obtain ⟨fd, F, B⟩ := G.fn
  exact PySem.W.ksp_neg hF I.ok.mod.kin J G.me.at_ G.me.fn (run_fn (us := [.ref a]) (vs := [.ref a]) F (hr.mono hk) B .nil pass0 I (.cons rfl .nil) ⟨a, p, rfl, ⟨dx, hd⟩, o, h⟩)
theorem un_posR (Z : CT X.K X.mg) (G : GoodMd CX0 X.prog X.w X.K X.mg X.base k "__pos__" ["self"] (spUn X.K g)) (hr : Room k' X.A) (hk : k ≤ k' := by decide) : UnR X (unaryOp .UAdd) (rUn X.K g) := by
  intro pins s σ H x v Q I rx ⟨a, p, e, ⟨dx, hd⟩, o, h⟩
  subst e
  cases (show v = Value.ref a from rx)
  obtain ⟨od, J⟩ := ins_inst I hd
  obtain ⟨m, hF⟩ := I.fr
  obtain ⟨fd, F, B⟩ := G.fn
  exact PySem.W.ksp_pos hF I.ok.mod.kin J G.me.at_ G.me.fn (run_fn (us := [.ref a]) (vs := [.ref a]) F (hr.mono hk) B .nil pass0 I (.cons rfl .nil) ⟨a, p, rfl, ⟨dx, hd⟩, o, h⟩)
def rAbsR (K : PySem.W.Frag) (g : Int × Int → Int × Int) : List V → Hp → VK → Prop := fun xs H Q => ∃ a p, xs = [.ref a] ∧ RAt K H a p ∧ Okq 3900 p ∧ NewR K H (g p) Q
theorem call_absR (Z : CT X.K X.mg) (G : GoodMd CX0 X.prog X.w X.K X.mg X.base k "__abs__" ["self"] (spUn X.K g)) (hr : Room k' X.A) (hk : k + 1 ≤ k' := by decide) : CallR X (.builtin "abs") (rAbsR X.K g) := by
  intro pins s σ H xs us Q I r ⟨a, p, e, ⟨dx, hd⟩, o, h⟩
  subst e
  obtain ⟨u, rfl, ru⟩ := r.one
  cases (show u = Value.ref a from ru)
  obtain ⟨od, J⟩ := ins_inst I hd
  obtain ⟨fd, F, B⟩ := G.fn
  exact abs_own I.kIn J G.me.at_ G.me.fn (wpAny_call (SlX.run_at (us := [.ref a]) (ws := [.ref a]) (F.raw B .nil) (hr.mono hk).in1 I.env0.in1 pass0 I (.cons rfl .nil) ⟨a, p, rfl, ⟨dx, hd⟩, o, h⟩))
end
def negQ (p : Int × Int) : Int × Int := nrm (-p.1) p.2
def posQ (p : Int × Int) : Int × Int := nrm p.1 p.2
def absQ (p : Int × Int) : Int × Int := nrm (if p.1 < 0 then -p.1 else p.1) p.2
section
variable {P : Program} {w : World} {K : PySem.W.Frag} {mg : Str → Option Value} {base : Heap} {fd : FuncData} {f : Addr}
theorem ok_Ratio_neg (Z : CT K mg) (F : FunD K d_Ratio_neg.name d_Ratio_neg.qual d_Ratio_neg.params d_Ratio_neg.body d_Ratio_neg.scope [] [] f fd) : FnOk P w K mg base (CX0) 5 f fd ["self"] (spUn K negQ) := by
  refine F.ok sc_Ratio_neg (fun vs H Q E h => ?_) (fun cdv A outer s H vs Q E hr h => ?_)
  · obtain ⟨a, p, rfl, _⟩ := h
    rfl
  · obtain ⟨a, p, rfl, ⟨dx, hd⟩, o1, h⟩ := h
    refine ⟨_, (pss_one (ps_ret (mkR2 Z hr (pa_cons (pe_un un_neg (pe_fld (pv 0) rfl)) (pa_cons (pe_fld (pv 0) rfl) pa_nil)) passN))), ?_⟩
    exact ⟨_, rfl, a, _, dx, _, _, rfl, hd, (rc Z).cl, (rc Z).nT, rfs_top _ _, _, rfl, _, rfl, a, _, dx, _, _, rfl, hd, (rc Z).cl, (rc Z).nB, rfs_bot _ _, _, _, rfl, askR_ok o1.2.2 (bnd_le o1.2.1 (by decide)) h⟩

theorem good_Ratio_neg (Z : CT K mg) : GoodMd (CX0) P w K mg base 5 "__neg__" ["self"] (spUn K negQ) := goodMd Z 10 d_Ratio_neg (me_Ratio_neg Z) (fun _ _ _ _ _ _ us hl => match us, hl with | [_], _ => rfl) fun _ F => ok_Ratio_neg Z F
theorem ok_Ratio_pos (Z : CT K mg) (F : FunD K d_Ratio_pos.name d_Ratio_pos.qual d_Ratio_pos.params d_Ratio_pos.body d_Ratio_pos.scope [] [] f fd) : FnOk P w K mg base (CX0) 5 f fd ["self"] (spUn K posQ) := by
  refine F.ok sc_Ratio_pos (fun vs H Q E h => ?_) (fun cdv A outer s H vs Q E hr h => ?_)
  · obtain ⟨a, p, rfl, _⟩ := h
    rfl
  · obtain ⟨a, p, rfl, ⟨dx, hd⟩, o1, h⟩ := h
    refine ⟨_, (pss_one (ps_ret (mkR2 Z hr (pa_cons (pe_fld (pv 0) rfl) (pa_cons (pe_fld (pv 0) rfl) pa_nil)) passN))), ?_⟩
    exact ⟨_, rfl, a, _, dx, _, _, rfl, hd, (rc Z).cl, (rc Z).nT, rfs_top _ _, _, rfl, a, _, dx, _, _, rfl, hd, (rc Z).cl, (rc Z).nB, rfs_bot _ _, _, _, rfl, askR_ok o1.2.2 (bnd_le o1.2.1 (by decide)) h⟩

theorem good_Ratio_pos (Z : CT K mg) : GoodMd (CX0) P w K mg base 5 "__pos__" ["self"] (spUn K posQ) := goodMd Z 11 d_Ratio_pos (me_Ratio_pos Z) (fun _ _ _ _ _ _ us hl => match us, hl with | [_], _ => rfl) fun _ F => ok_Ratio_pos Z F
theorem ok_Ratio_abs (Z : CT K mg) (F : FunD K d_Ratio_abs.name d_Ratio_abs.qual d_Ratio_abs.params d_Ratio_abs.body d_Ratio_abs.scope [] [] f fd) : FnOk P w K mg base (CX0) 5 f fd ["self"] (spUn K absQ) := by
  refine F.ok sc_Ratio_abs (fun vs H Q E h => ?_) (fun cdv A outer s H vs Q E hr h => ?_)
  · obtain ⟨a, p, rfl, _⟩ := h
    rfl
  · obtain ⟨a, p, rfl, ⟨dx, hd⟩, o1, h⟩ := h
    refine ⟨_, (pss_one (ps_ret (mkR2 Z hr (pa_cons (pe_callB call_abs (by rfl) (m_abs Z) boot_abs (pa_cons (pe_fld (pv 0) rfl) pa_nil)) (pa_cons (pe_fld (pv 0) rfl) pa_nil)) passN))), ?_⟩
    exact ⟨_, rfl, a, _, dx, _, _, rfl, hd, (rc Z).cl, (rc Z).nT, rfs_top _ _, _, rfl, _, rfl, a, _, dx, _, _, rfl, hd, (rc Z).cl, (rc Z).nB, rfs_bot _ _, _, _, rfl, askR_ok o1.2.2 (bnd_le o1.2.1 (by decide)) h⟩

theorem good_Ratio_abs (Z : CT K mg) : GoodMd (CX0) P w K mg base 5 "__abs__" ["self"] (spUn K absQ) := goodMd Z 12 d_Ratio_abs (me_Ratio_abs Z) (fun _ _ _ _ _ _ us hl => match us, hl with | [_], _ => rfl) fun _ F => ok_Ratio_abs Z F
/-- a.over(b) -/
def spOver (K : PySem.W.Frag) : Sp := fun vs H Q E => ∃ a p y q, vs = [.ref a, y] ∧ RAt K H a p ∧ Num K H y q ∧ Okq 1000 p ∧ Okq 1000 q ∧ (q.1 = 0 → RzW K "zero" H E) ∧ (q.1 ≠ 0 → NewR K H (overQ p q) Q)
theorem ok_Ratio_over (Z : CT K mg) (F : FunD K d_Ratio_over.name d_Ratio_over.qual d_Ratio_over.params d_Ratio_over.body d_Ratio_over.scope [] [] f fd) : FnOk P w K mg base (L2N.CX P w) 6 f fd ["self", "number"] (spOver K) := by
  refine F.ok sc_Ratio_over (fun vs H Q E h => ?_) (fun cdv A outer s H vs Q E hr h => ?_)
  · obtain ⟨a, p, y, q, rfl, _⟩ := h
    rfl
  · obtain ⟨a, p, y, q, rfl, ha, hn, o1, o2, h0, h⟩ := h
    refine ⟨_, (pss_cons (ps_set (i := 2) sc_Ratio_over.nd rfl (Or.inl rfl) (gcall (good_as_ratio Z) hr (pa_cons (pv 1) pa_nil) pass0))
      (pss_one (ps_ret (mkR2 Z hr (pa_cons (pe_op op_mulW (pe_fld (pv 0) rfl) (pe_fld (pv 2) rfl)) (pa_cons (pe_op op_mulW (pe_fld (pv 0) rfl) (pe_fld (pv 2) rfl)) pa_nil)) (L2N.passes_call (L2N.takes_of rfl rfl rfl rfl) (fun _ _ _ _ h => h)))))), ?_⟩
    refine ⟨_, rfl, y, q, rfl, hn, fun r H1 s1 hr1 => ?_⟩
    obtain ⟨dx, hd⟩ := ha.same s1
    obtain ⟨dy, he⟩ := hr1
    refine ⟨_, rfl, a, _, dx, _, _, rfl, hd, (rc Z).cl, (rc Z).nT, rfs_top _ _, _, rfl, r, _, dy, _, _, rfl, he, (rc Z).cl, (rc Z).nB, rfs_bot _ _, _, _, rfl, rfl, mulW (B := 1000) o1.1 o2.2.1 (by decide) (by decide), _, rfl, a, _, dx, _, _, rfl, hd, (rc Z).cl, (rc Z).nB, rfs_bot _ _, _, rfl, r, _, dy, _, _, rfl, he, (rc Z).cl, (rc Z).nT, rfs_top _ _, _, _, rfl, rfl, mulW (B := 1000) o1.2.1 o2.1 (by decide) (by decide), _, _, rfl, true, true, .int _, .int _, fun z => (nomatch z), fun _ z => (nomatch z), fun t b e1 e2 => ?_⟩
    injection e1 with e1
    injection e2 with e2
    subst e1 e2
    by_cases hq : q.1 = 0
    · exact ⟨fun _ => (h0 hq).same s1, fun z => absurd (by rw [hq, Int.mul_zero]) z⟩
    · exact ⟨fun z => absurd z (ne_mul o1.2.2 hq), fun _ => ⟨bnd_mul o1.2.1 o2.1 (by decide), (h hq).same s1⟩⟩

theorem good_Ratio_over (Z : CT K mg) : GoodMd (L2N.CX P w) P w K mg base 6 "over" ["self", "number"] (spOver K) := goodMd Z 24 d_Ratio_over (me_Ratio_over Z) (fun _ _ _ _ _ _ us hl => match us, hl with | [_, _], _ => rfl) fun _ F => ok_Ratio_over Z F
end
section
variable {X : Cx} {e o : Expr} {ta : TE} {t : TA} {apos pos : Pos} {k : Nat} {E : XK}
def tOverM (K : PySem.W.Frag) (E : XK) (ta : TE) (t : TA) : TE := fun σ H Q => ta σ H fun x H1 => ∃ a p, x = .ref a ∧ RAt K H1 a p ∧ t σ H1 fun vs H2 => spOver K (x :: vs) H2 Q E
theorem overM (Z : CT X.K X.mg) (hr : Room k X.A) (he : PE X o ta) (ha : PA X [e] t) (hx : Passes (L2N.CX X.prog X.w) X E) (hk : 6 ≤ k := by decide) (hst : starEach [e] X.env = (false, eval e X.env) :: starEach [] X.env := by rfl) (hpl : (backTo pos (starEach [] X.env)).any (·.1) = false := by rfl)
    {pl : Sem Bool} (ht : eval (.Call (.Attribute o "over" apos) [e] [] pos) X.env = (do
      let ov ← eval o X.env
      standAt apos.atName
      let (f, first) ← holding [ov] (getMethod ov "over" pl)
      callWith pos f first (backTo pos (starEach [e] X.env)) (backToKw pos (keywordEach [] X.env))) := by rfl) : PE X (.Call (.Attribute o "over" apos) [e] [] pos) (tOverM X.K E ta t) := by
  obtain ⟨fd, F, B⟩ := (good_Ratio_over (P := X.prog) (w := X.w) (base := X.base) Z).fn
  refine pe_imp (pe_meth (wk_e he) (rc Z).cl (me_Ratio_over Z) F (hr.mono hk) B .nil hx (wk_a ha) hst hpl ht) fun σ H Q q => ⟨_, q, fun x H1 ⟨a, p, ex, ⟨dx, hd⟩, q2⟩ => ⟨a, dx, _, ex, hd, rfs_no _ _ (by decide +kernel) (by decide +kernel), _, q2, fun vs H2 z => by show spOver X.K (x :: (vs ++ [])) H2 _ _; rw [List.append_nil]; exact z⟩⟩
end
section
variable {P : Program} {w : World} {K : PySem.W.Frag} {mg : Str → Option Value} {base : Heap} {fd : FuncData} {f : Addr}
theorem fd_log {p q : Int × Int} (o1 : Okq 1000 p) (o2 : Okq 1000 q) (hq : q.1 ≠ 0) : (overQ p q).2 ≠ 0 ∧ (overQ p q).2.natAbs.log2 < 9000 := by
  have hb : p.2 * q.1 ≠ 0 := ne_mul o1.2.2 hq
  have c := (nrm_can (t := p.1 * q.2) hb).1
  refine ⟨by show (nrm (p.1 * q.2) (p.2 * q.1)).2 ≠ 0; omega, ?_⟩
  have l := (nrm_le (t := p.1 * q.2) hb).2
  have l2 : (p.2 * q.1).natAbs < 2 ^ 2000 := bnd_mul o1.2.1 o2.1 (by decide)
  exact Nat.lt_of_lt_of_le (PySem.Flt.log2_lt_of (k := 2000) (by decide) (Nat.lt_of_le_of_lt l l2)) (by decide)
/-- a // b -/
def spFd (K : PySem.W.Frag) : Sp := fun vs H Q E => ∃ a p y q, vs = [.ref a, y] ∧ RAt K H a p ∧ Num K H y q ∧ Okq 1000 p ∧ Okq 1000 q ∧ (q.1 = 0 → RzW K "zero" H E) ∧ (q.1 ≠ 0 → ∀ H', Same H H' → Q (.int (fdQ p q)) H')
theorem ok_Ratio_floordiv (Z : CT K mg) (F : FunD K d_Ratio_floordiv.name d_Ratio_floordiv.qual d_Ratio_floordiv.params d_Ratio_floordiv.body d_Ratio_floordiv.scope [] [] f fd) : FnOk P w K mg base (L2N.CX P w) 7 f fd ["self", "other"] (spFd K) := by
  refine F.ok sc_Ratio_floordiv (fun vs H Q E h => ?_) (fun cdv A outer s H vs Q E hr h => ?_)
  · obtain ⟨a, p, y, q, rfl, _⟩ := h
    rfl
  · obtain ⟨a, p, y, q, rfl, ha, hn, o1, o2, h0, h⟩ := h
    refine ⟨_, (pss_cons (ps_if (pt_not (pt_val (gcall (good_is_number Z) hr (pa_cons (pv 1) pa_nil) pass0) (fun _ => rfl))) (pss_one ps_never) pss_nil)
      (pss_cons (ps_set (i := 2) sc_Ratio_floordiv.nd rfl (Or.inl rfl) (overM Z hr (pv 0) (pa_cons (pv 1) pa_nil) (L2N.passes_call (L2N.takes_of rfl rfl rfl rfl) (fun _ _ _ _ h => h))))
      (pss_one (ps_ret (pe_op op_fdivZ (pe_fld (pv 2) rfl) (pe_fld (pv 2) rfl)))))), ?_⟩
    refine ⟨_, rfl, y, q, rfl, hn, true, rfl, iteF ?_⟩
    refine ⟨_, rfl, a, p, rfl, ha, _, rfl, a, p, y, q, rfl, ha, hn, o1, o2, h0, fun hq r H1 s1 hr1 => ?_⟩
    obtain ⟨dy, he⟩ := hr1
    obtain ⟨z1, z2⟩ := fd_log o1 o2 hq
    exact ⟨_, rfl, r, _, dy, _, _, rfl, he, (rc Z).cl, (rc Z).nT, rfs_top _ _, _, rfl, r, _, dy, _, _, rfl, he, (rc Z).cl, (rc Z).nB, rfs_bot _ _, _, _, rfl, rfl, ⟨z1, z2⟩, h hq H1 s1⟩

theorem good_Ratio_floordiv (Z : CT K mg) : GoodMd (L2N.CX P w) P w K mg base 7 "__floordiv__" ["self", "other"] (spFd K) := goodMd Z 19 d_Ratio_floordiv (me_Ratio_floordiv Z) (fun _ _ _ _ _ _ us hl => match us, hl with | [_, _], _ => rfl) fun _ F => ok_Ratio_floordiv Z F
end
section
variable {X : Cx} {k : Nat} {E : XK}
def rFdL (K : PySem.W.Frag) (E : XK) : R2 := fun x y H Q => ∃ a p q, x = .ref a ∧ RAt K H a p ∧ Num K H y q ∧ Okq 1000 p ∧ Okq 1000 q ∧ (q.1 = 0 → RzW K "zero" H E) ∧ (q.1 ≠ 0 → ∀ H', Same H H' → Q (.int (fdQ p q)) H')
theorem opFdL (Z : CT X.K X.mg) (hr : Room k X.A) (hx : Passes (L2N.CX X.prog X.w) X E) (hk : 7 ≤ k := by decide) : OpR X (binaryOp .FloorDiv) (rFdL X.K E) := by
  obtain ⟨fd, F, B⟩ := (good_Ratio_floordiv (P := X.prog) (w := X.w) (base := X.base) Z).fn
  exact op_imp (op_ratL Z (by decide) (by decide +kernel) (me_Ratio_floordiv Z) ⟨_, me_Ratio_rfloordiv Z⟩ F B hr hx hk) fun x y H Q ⟨a, p, q, e, h1, h2, h3, h4, h5, h6⟩ => ⟨a, p, q, e, h1, h2, a, p, y, q, by rw [e], h1, h2, h3, h4, h5, h6⟩
/-- a number times an integer -/
def rMulN (K : PySem.W.Frag) : R2 := fun x y H Q => ∃ p n, y = .int n ∧ Num K H x p ∧ Okq 3900 p ∧ Okq 3900 (n, 1) ∧ ∀ z H', Same H H' → Num K H' z (mulQ p (n, 1)) → Q z H'
theorem opMulN (Z : CT X.K X.mg) (hr : Room k X.A) (hk : 7 ≤ k := by decide) : OpR X (binaryOp .Mult) (rMulN X.K) := by
  refine op_imp (opR_or (op_mulW (X := X)) (opMulL Z hr (Nat.le_trans (by decide) hk))) fun x y H Q ⟨p, n, ey, hn, o1, o2, h⟩ => ?_
  cases hn with
  | int i =>
    refine .inl ⟨i, n, rfl, ey, mulW (B := 3900) o1.1 o2.1 (by decide) (by decide), h _ H (Same.refl H) ?_⟩
    have e : mulQ (i, 1) (n, 1) = (i * n, 1) := by show nrm (i * n) (1 * 1) = _; rw [Int.mul_one, nrm_one]
    rw [e]; exact .int _
  | rat hr1 => exact .inr ⟨_, p, (n, 1), rfl, hr1, by rw [ey]; exact .int n, o1, o2, fun r H' s1 h1 => h _ H' s1 (.rat h1)⟩
end
def modQ (p q : Int × Int) : Int × Int := subQ p (mulQ q (fdQ p q, 1))
theorem fd_bnd {p q : Int × Int} (o1 : Okq 1000 p) (o2 : Okq 1000 q) (hq : q.1 ≠ 0) : (fdQ p q).natAbs < 2 ^ 2001 := by
  have hb : p.2 * q.1 ≠ 0 := ne_mul o1.2.2 hq
  have l := (nrm_le (t := p.1 * q.2) hb).1
  have l2 : (p.1 * q.2).natAbs < 2 ^ 2000 := bnd_mul o1.1 o2.2.1 (by decide)
  have c := (nrm_can (t := p.1 * q.2) hb).1
  show ((nrm (p.1 * q.2) (p.2 * q.1)).1.fdiv (nrm (p.1 * q.2) (p.2 * q.1)).2).natAbs < 2 ^ 2001
  generalize nrm (p.1 * q.2) (p.2 * q.1) = r at *
  rw [Int.fdiv_eq_ediv_of_nonneg _ (by omega)]
  have h1 : r.1.natAbs < 2 ^ 2000 := Nat.lt_of_le_of_lt l l2
  have h2 : (r.1 / r.2).natAbs ≤ r.1.natAbs := by
    have := Int.natAbs_ediv_le_natAbs r.1 r.2
    omega
  rw [Nat.pow_succ]; omega
theorem ok_int {n : Int} {B : Nat} (h : n.natAbs < 2 ^ B) (hB : 0 < B) : Okq B (n, 1) := ⟨h, by show (1 : Nat) < 2 ^ B; exact Nat.one_lt_two_pow (by omega), by show (1 : Int) ≠ 0; decide⟩
theorem Okq.le {p : Int × Int} {B C : Nat} (h : Okq B p) (hc : B ≤ C) : Okq C p := ⟨bnd_le h.1 hc, bnd_le h.2.1 hc, h.2.2⟩
theorem ok_nrm {t b : Int} {B : Nat} (ht : t.natAbs < 2 ^ B) (hb : b.natAbs < 2 ^ B) (h0 : b ≠ 0) : Okq B (nrm t b) :=
  ⟨Nat.lt_of_le_of_lt (nrm_le h0).1 ht, Nat.lt_of_le_of_lt (nrm_le h0).2 hb, by have := (nrm_can (t := t) h0).1; omega⟩
theorem ok_mul {p : Int × Int} {n : Int} (o : Okq 1000 p) (h : n.natAbs < 2 ^ 2001) : Okq 3900 (mulQ p (n, 1)) :=
  ok_nrm (bnd_mul o.1 h (by decide)) (bnd_le (show (p.2 * 1).natAbs < 2 ^ 1000 by rw [Int.mul_one]; exact o.2.1) (by decide)) (by show p.2 * 1 ≠ 0; rw [Int.mul_one]; exact o.2.2)
section
variable {P : Program} {w : World} {K : PySem.W.Frag} {mg : Str → Option Value} {base : Heap} {fd : FuncData} {f : Addr}
/-- a % b -/
def spMod (K : PySem.W.Frag) : Sp := fun vs H Q E => ∃ a p y q, vs = [.ref a, y] ∧ RAt K H a p ∧ Num K H y q ∧ Okq 1000 p ∧ Okq 1000 q ∧ (q.1 = 0 → RzW K "zero" H E) ∧ (q.1 ≠ 0 → NewR K H (modQ p q) Q)
/-- b // a, b % a -/
def spFdR (K : PySem.W.Frag) : Sp := fun vs H Q E => ∃ a p y q, vs = [.ref a, y] ∧ RAt K H a p ∧ Num K H y q ∧ Okq 1000 p ∧ Okq 1000 q ∧ (p.1 = 0 → RzW K "zero" H E) ∧ (p.1 ≠ 0 → ∀ H', Same H H' → Q (.int (fdQ q p)) H')
def spModR (K : PySem.W.Frag) : Sp := fun vs H Q E => ∃ a p y q, vs = [.ref a, y] ∧ RAt K H a p ∧ Num K H y q ∧ Okq 1000 p ∧ Okq 1000 q ∧ (p.1 = 0 → RzW K "zero" H E) ∧ (p.1 ≠ 0 → NewR K H (modQ q p) Q)
theorem ok_Ratio_rfloordiv (Z : CT K mg) (F : FunD K d_Ratio_rfloordiv.name d_Ratio_rfloordiv.qual d_Ratio_rfloordiv.params d_Ratio_rfloordiv.body d_Ratio_rfloordiv.scope [] [] f fd) : FnOk P w K mg base (L2N.CX P w) 8 f fd ["self", "other"] (spFdR K) := by
  refine F.ok sc_Ratio_rfloordiv (fun vs H Q E h => ?_) (fun cdv A outer s H vs Q E hr h => ?_)
  · obtain ⟨a, p, y, q, rfl, _⟩ := h
    rfl
  · obtain ⟨a, p, y, q, rfl, ha, hn, o1, o2, h0, h⟩ := h
    refine ⟨_, (pss_cons (ps_if (pt_not (pt_val (gcall (good_is_number Z) hr (pa_cons (pv 1) pa_nil) pass0) (fun _ => rfl))) (pss_one ps_never) pss_nil)
      (pss_one (ps_ret (pe_op (opFdL Z hr (L2N.passes_call (L2N.takes_of rfl rfl rfl rfl) (fun _ _ _ _ h => h))) (gcall (good_as_ratio Z) hr (pa_cons (pv 1) pa_nil) pass0) (pv 0))))), ?_⟩
    refine ⟨_, rfl, y, q, rfl, hn, true, rfl, iteF ?_⟩
    exact ⟨_, rfl, y, q, rfl, hn, fun r H1 s1 hr1 => ⟨_, rfl, r, q, p, rfl, hr1, .rat (ha.same s1), o2, o1, fun z => (h0 z).same s1, fun z H2 s2 => h z H2 (s1.trans s2)⟩⟩

theorem good_Ratio_rfloordiv (Z : CT K mg) : GoodMd (L2N.CX P w) P w K mg base 8 "__rfloordiv__" ["self", "other"] (spFdR K) := goodMd Z 20 d_Ratio_rfloordiv (me_Ratio_rfloordiv Z) (fun _ _ _ _ _ _ us hl => match us, hl with | [_, _], _ => rfl) fun _ F => ok_Ratio_rfloordiv Z F
theorem ok_Ratio_mod (Z : CT K mg) (F : FunD K d_Ratio_mod.name d_Ratio_mod.qual d_Ratio_mod.params d_Ratio_mod.body d_Ratio_mod.scope [] [] f fd) : FnOk P w K mg base (L2N.CX P w) 8 f fd ["self", "other"] (spMod K) := by
  refine F.ok sc_Ratio_mod (fun vs H Q E h => ?_) (fun cdv A outer s H vs Q E hr h => ?_)
  · obtain ⟨a, p, y, q, rfl, _⟩ := h
    rfl
  · obtain ⟨a, p, y, q, rfl, ha, hn, o1, o2, h0, h⟩ := h
    refine ⟨_, (pss_cons (ps_if (pt_not (pt_val (gcall (good_is_number Z) hr (pa_cons (pv 1) pa_nil) pass0) (fun _ => rfl))) (pss_one ps_never) pss_nil)
      (pss_one (ps_ret (pe_op (opSubL Z hr ) (pv 0) (pe_op (opMulN Z hr) (pv 1) (pe_op (opFdL Z hr (L2N.passes_call (L2N.takes_of rfl rfl rfl rfl) (fun _ _ _ _ h => h))) (pv 0) (pv 1))))))), ?_⟩
    refine ⟨_, rfl, y, q, rfl, hn, true, rfl, iteF ?_⟩
    refine ⟨_, rfl, _, rfl, _, rfl, _, rfl, a, p, q, rfl, ha, hn, o1, o2, h0, fun hq H1 s1 => ?_⟩
    have fb := fd_bnd o1 o2 hq
    refine ⟨q, fdQ p q, rfl, hn.same s1, o2.le (by decide), ok_int (bnd_le fb (by decide)) (by decide), fun z H2 s2 hz => ?_⟩
    exact ⟨a, p, _, rfl, (ha.same s1).same s2, hz, o1.le (by decide), ok_mul o2 fb, ((h hq).same s1).same s2⟩

theorem good_Ratio_mod (Z : CT K mg) : GoodMd (L2N.CX P w) P w K mg base 8 "__mod__" ["self", "other"] (spMod K) := goodMd Z 21 d_Ratio_mod (me_Ratio_mod Z) (fun _ _ _ _ _ _ us hl => match us, hl with | [_, _], _ => rfl) fun _ F => ok_Ratio_mod Z F
theorem ok_Ratio_rmod (Z : CT K mg) (F : FunD K d_Ratio_rmod.name d_Ratio_rmod.qual d_Ratio_rmod.params d_Ratio_rmod.body d_Ratio_rmod.scope [] [] f fd) : FnOk P w K mg base (L2N.CX P w) 8 f fd ["self", "other"] (spModR K) := by
  refine F.ok sc_Ratio_rmod (fun vs H Q E h => ?_) (fun cdv A outer s H vs Q E hr h => ?_)
  · obtain ⟨a, p, y, q, rfl, _⟩ := h
    rfl
  · obtain ⟨a, p, y, q, rfl, ha, hn, o1, o2, h0, h⟩ := h
    refine ⟨_, (pss_cons (ps_if (pt_not (pt_val (gcall (good_is_number Z) hr (pa_cons (pv 1) pa_nil) pass0) (fun _ => rfl))) (pss_one ps_never) pss_nil)
      (pss_cons (ps_set (i := 2) sc_Ratio_rmod.nd rfl (Or.inl rfl) (gcall (good_as_ratio Z) hr (pa_cons (pv 1) pa_nil) pass0))
      (pss_one (ps_ret (pe_op (opSubL Z hr ) (pv 2) (pe_op (opMulN Z hr) (pv 0) (pe_op (opFdL Z hr (L2N.passes_call (L2N.takes_of rfl rfl rfl rfl) (fun _ _ _ _ h => h))) (pv 2) (pv 0)))))))), ?_⟩
    refine ⟨_, rfl, y, q, rfl, hn, true, rfl, iteF ?_⟩
    refine ⟨_, rfl, y, q, rfl, hn, fun r H0 s0 hr0 => ?_⟩
    refine ⟨_, rfl, _, rfl, _, rfl, _, rfl, r, q, p, rfl, hr0, .rat (ha.same s0), o2, o1, fun z => (h0 z).same s0, fun hq H1 s1 => ?_⟩
    have fb := fd_bnd o2 o1 hq
    refine ⟨p, fdQ q p, rfl, .rat ((ha.same s0).same s1), o1.le (by decide), ok_int (bnd_le fb (by decide)) (by decide), fun z H2 s2 hz => ?_⟩
    exact ⟨r, q, _, rfl, (hr0.same s1).same s2, hz, o2.le (by decide), ok_mul o1 fb, (((h hq).same s0).same s1).same s2⟩

theorem good_Ratio_rmod (Z : CT K mg) : GoodMd (L2N.CX P w) P w K mg base 8 "__rmod__" ["self", "other"] (spModR K) := goodMd Z 22 d_Ratio_rmod (me_Ratio_rmod Z) (fun _ _ _ _ _ _ us hl => match us, hl with | [_, _], _ => rfl) fun _ F => ok_Ratio_rmod Z F
end
section
variable {X : Cx} {k : Nat} {E : XK}
/-- a // b, a % b of numbers, one of them a Ratio -/
def rFd (K : PySem.W.Frag) (E : XK) : R2 := fun x y H Q => ∃ p q, Num K H x p ∧ Num K H y q ∧ ((∃ a, x = .ref a) ∨ ∃ b, y = .ref b) ∧ Okq 1000 p ∧ Okq 1000 q ∧ (q.1 = 0 → RzW K "zero" H E) ∧ (q.1 ≠ 0 → ∀ H', Same H H' → Q (.int (fdQ p q)) H')
def rMod (K : PySem.W.Frag) (E : XK) : R2 := fun x y H Q => ∃ p q, Num K H x p ∧ Num K H y q ∧ ((∃ a, x = .ref a) ∨ ∃ b, y = .ref b) ∧ Okq 1000 p ∧ Okq 1000 q ∧ (q.1 = 0 → RzW K "zero" H E) ∧ (q.1 ≠ 0 → NewR K H (modQ p q) Q)
theorem opFd (Z : CT X.K X.mg) (hr : Room k X.A) (hx : Passes (L2N.CX X.prog X.w) X E) (hk : 8 ≤ k := by decide) : OpR X (binaryOp .FloorDiv) (rFd X.K E) := by
  obtain ⟨fd2, F2, B2⟩ := (good_Ratio_rfloordiv (P := X.prog) (w := X.w) (base := X.base) Z).fn
  refine op_imp (opR_or (opFdL Z hr hx (Nat.le_trans (by decide) hk)) (op_ratR Z is_floordiv (by decide +kernel) (by decide +kernel) (me_Ratio_floordiv Z) (me_Ratio_rfloordiv Z) F2 B2 hr hx hk)) fun x y H Q ⟨p, q, n1, n2, ho, o1, o2, h0, h⟩ => ?_
  cases n1 with
  | rat h1 => exact .inl ⟨_, p, q, rfl, h1, n2, o1, o2, h0, h⟩
  | int i =>
    rcases ho with ⟨a, e⟩ | ⟨b, e⟩
    · cases e
    · subst e
      cases n2 with
      | rat h2 => exact .inr ⟨i, b, q, rfl, rfl, h2, b, q, _, _, rfl, h2, .int i, o2, o1, h0, h⟩
theorem opMod (Z : CT X.K X.mg) (hr : Room k X.A) (hx : Passes (L2N.CX X.prog X.w) X E) (hk : 8 ≤ k := by decide) : OpR X (binaryOp .Mod) (rMod X.K E) := by
  obtain ⟨fd1, F1, B1⟩ := (good_Ratio_mod (P := X.prog) (w := X.w) (base := X.base) Z).fn
  obtain ⟨fd2, F2, B2⟩ := (good_Ratio_rmod (P := X.prog) (w := X.w) (base := X.base) Z).fn
  refine op_imp (opR_or (op_ratL Z (by decide) (by decide +kernel) (me_Ratio_mod Z) ⟨_, me_Ratio_rmod Z⟩ F1 B1 hr hx hk) (op_ratR Z is_mod (by decide +kernel) (by decide +kernel) (me_Ratio_mod Z) (me_Ratio_rmod Z) F2 B2 hr hx hk)) fun x y H Q ⟨p, q, n1, n2, ho, o1, o2, h0, h⟩ => ?_
  cases n1 with
  | @rat a q' h1 => exact .inl ⟨a, p, q, rfl, h1, n2, a, p, y, q, rfl, h1, n2, o1, o2, h0, h⟩
  | int i =>
    rcases ho with ⟨a, e⟩ | ⟨b, e⟩
    · cases e
    · subst e
      cases n2 with
      | rat h2 => exact .inr ⟨i, b, q, rfl, rfl, h2, b, q, _, _, rfl, h2, .int i, o2, o1, h0, h⟩
end
end My

namespace My
open PySem PySem.Spec PyProof.Rows L2 PySem.Calls

section
variable {prog : Program} {w : World} {A : Around} {E : Value → Shared → Prop} {s : Shared} {K : PySem.W.Frag} {x C f : Addr} {ox : Obj} {od : Option Obj} {b : Value} {cd : ClassData}
theorem fills_no {M : Model} {h : Heap} (X : K.In h) (hc : PySem.W.clsIn K C = some cd) (hm : cd.mro = [.ref C, .type "object"]) (h1 : PySem.W.findIn K (.ref C) (dunderI "add") = some none) (h2 : PySem.W.findIn K (.type "object") (dunderI "add") = some none) : PySem.W.Looks M h (fillsInplaceSlot (.ref C) "add" true) false := by
  intro A Q E s k q
  have Lm : PySem.W.Looks M h (mroOf (.ref C)) cd.mro := (PySem.W.looks_clsIn X hc).andThen (f := fun cd => pure cd.mro) .now
  have Lm' := Lm.keeps k
  obtain ⟨hh, g, d, tt, os⟩ := s
  have X' : K.In hh := X.keeps k
  have L1 : PySem.W.Looks M hh (typeLookup (.ref C) (dunderI "add")) none := PySem.W.looks_findIn X' h1
  have L2 : PySem.W.Looks M hh (typeLookup (.type "object") (dunderI "add")) none := PySem.W.looks_findIn X' h2
  unfold fillsInplaceSlot
  refine wpAny_bind (Lm'.at ?_)
  rw [hm, List.anyM_cons]
  refine wpAny_bind ?_
  repeat lk
  exact q
theorem bin1_T {Q : Value → Shared → Prop} {T nm : String} {fo ro rc : Option Value} (X : K.In s.heap) (I : PySem.W.InstAt s.heap x ox C od) (hb : typeOf b = pure (.type T)) {rest : List Value} (hcd : PySem.W.clsIn K C = some cd) (hm : cd.mro = .ref C :: rest)
    (hs : PySem.W.findIn K (.ref C) (PySem.dunder nm) = some (some (.ref f))) (hf : PySem.W.isFn K (.ref f) = true) (hr : PySem.W.findIn K (.ref C) (dunderR nm) = some rc) (hp : rc = none ∨ ∃ g : Addr, rc = some (.ref g))
    (h1 : PySem.W.findIn K (.type T) (PySem.dunder nm) = some fo) (h2 : PySem.W.findIn K (.type T) (dunderR nm) = some ro) (hsub : PySem.W.subIn K (.type T) (.ref C) = some false)
    (h : wpAny (model prog w) A (call (.ref f) [.ref x, b]) (PySem.W.CmpBack Q) E s) : wpAny (model prog w) A (binaryOp1 nm (.ref x) b) (fun r s' => ∃ v, r = some v ∧ Q v s') E s := by
  have one := PySem.W.ksp_try X I hs hf h
  obtain ⟨hh, g, d, tt, os⟩ := s
  have L1 : PySem.W.Looks (model prog w) hh (typeOf (.ref x)) (.ref C) := I.type
  have L2 : PySem.W.Looks (model prog w) hh (typeOf b) (.type T) := PySem.W.Looks.of_pure hb
  have L3 : PySem.W.Looks (model prog w) hh (fillsNumberSlot (.ref C) nm) true := PySem.W.fills_K X hcd hm hs
  have L4 : PySem.W.Looks (model prog w) hh (fillsNumberSlot (.type T) nm) ((fo.isSome && !isSeqSlot fo) || (ro.isSome && !isSeqSlot ro)) := PySem.W.ksp_fillsT X h1 h2
  have L5 : PySem.W.Looks (model prog w) hh (isSubtype (.type T) (.ref C)) false := PySem.W.looks_subIn X hsub
  have L6 : PySem.W.Looks (model prog w) hh (numberSlotInPython (.ref C) nm) true := PySem.W.ksp_inPy X hs hr hp
  have L7 : PySem.W.Looks (model prog w) hh (numberSlotInPython (.type T) nm) false := PySem.W.Looks.of_pure rfl
  have L8 : PySem.W.Looks (model prog w) hh (typeLookup (.type T) (dunderR nm)) ro := PySem.W.looks_findIn X h2
  generalize ((fo.isSome && !isSeqSlot fo) || (ro.isSome && !isSeqSlot ro)) = right at L4
  have hne : (Value.ref C == Value.type T) = false := Bool.eq_false_iff.mpr fun q => by cases beq_iff_eq.mp q
  unfold binaryOp1
  refine wpAny_bind (L1.at (wpAny_bind (L2.at (wpAny_bind (L3.at ?_)))))
  simp only [hne, Bool.false_eq_true, if_false]
  have fin : ∀ {r : Option Value} {s' : Shared}, (∃ v, r = some v ∧ Q v s') → ∃ v, r = some v ∧ Q v s' := fun z => z
  cases right with
  | false =>
    ksp_lk
    refine wpAny_mono one (fun r s' hr' => ?_) fun _ _ e => e
    obtain ⟨v, rfl, hq⟩ := hr'
    ksp_lk
    exact ⟨_, rfl, hq⟩
  | true =>
    ksp_lk
    refine wpAny_mono one (fun r s' hr' => ?_) fun _ _ e => e
    obtain ⟨v, rfl, hq⟩ := hr'
    ksp_lk
    exact ⟨_, rfl, hq⟩
theorem bin1_K {Q : Value → Shared → Prop} {nm : String} (X : K.In s.heap) (I : PySem.W.InstAt s.heap x ox C od) (hb : PySem.W.Looks (model prog w) s.heap (typeOf b) (.ref C)) {rest : List Value} (hcd : PySem.W.clsIn K C = some cd) (hm : cd.mro = .ref C :: rest)
    (hs : PySem.W.findIn K (.ref C) (PySem.dunder nm) = some (some (.ref f))) (hf : PySem.W.isFn K (.ref f) = true)
    (h : wpAny (model prog w) A (call (.ref f) [.ref x, b]) (PySem.W.CmpBack Q) E s) : wpAny (model prog w) A (binaryOp1 nm (.ref x) b) (fun r s' => ∃ v, r = some v ∧ Q v s') E s := by
  have one := PySem.W.ksp_try X I hs hf h
  obtain ⟨hh, g, d, tt, os⟩ := s
  have L1 : PySem.W.Looks (model prog w) hh (typeOf (.ref x)) (.ref C) := I.type
  have L2 : PySem.W.Looks (model prog w) hh (typeOf b) (.ref C) := hb
  have L3 : PySem.W.Looks (model prog w) hh (fillsNumberSlot (.ref C) nm) true := PySem.W.fills_K X hcd hm hs
  unfold binaryOp1
  refine wpAny_bind (L1.at (wpAny_bind (L2.at (wpAny_bind (L3.at ?_)))))
  simp only [beq_self_eq_true, if_true]
  ksp_lk
  refine wpAny_mono one (fun r s' hr' => ?_) fun _ _ e => e
  obtain ⟨v, rfl, hq⟩ := hr'
  ksp_lk
  exact ⟨_, rfl, hq⟩
/-- a += b where the class has no __iadd__: its __add__ -/
theorem iadd_of {Q : Value → Shared → Prop} (X : K.In s.heap) (I : PySem.W.InstAt s.heap x ox C od) (hcd : PySem.W.clsIn K C = some cd) (hm : cd.mro = [.ref C, .type "object"]) (hi1 : PySem.W.findIn K (.ref C) (dunderI "add") = some none)
    (hi2 : PySem.W.findIn K (.type "object") (dunderI "add") = some none) (h : wpAny (model prog w) A (binaryOp1 "add" (.ref x) b) (fun r s' => ∃ v, r = some v ∧ Q v s') E s) : wpAny (model prog w) A (inplaceOp .Add (.ref x) b) Q E s := by
  obtain ⟨hh, g, d, tt, os⟩ := s
  have L0 : PySem.W.Looks (model prog w) hh (fillsInplaceSlot (.ref C) "add" true) false := fills_no X hcd hm hi1 hi2
  have L1 : PySem.W.Looks (model prog w) hh (typeOf (.ref x)) (.ref C) := I.type
  unfold inplaceOp
  refine wpAny_holding (wpAny_bind (L1.at (wpAny_bind (m := fillsInplaceSlot (.ref C) "add" true) (L0.at ?_))))
  simp only [Bool.false_eq_true, if_false]
  refine wpAny_bind (wpAny_mono h (fun r s' z => ?_) fun _ _ e => e)
  obtain ⟨v, rfl, q⟩ := z
  exact wpAny_pure q
end
section
variable {X : Cx} {k : Nat} {E : XK}
/-- a += b, a a Ratio -/
theorem iop_addR (Z : CT X.K X.mg) (hr : Room k X.A) (hk : 6 ≤ k := by decide) : OpR X (inplaceOp .Add) (rBinL X.K addQ) := by
  obtain ⟨fd, F, B⟩ := (good_Ratio_add (P := X.prog) (w := X.w) (base := X.base) Z).fn
  obtain ⟨cd, hcd, hm⟩ := mro_Ratio Z
  have me := me_Ratio_add Z
  intro pins s σ H x y v u Q I rx ry ⟨a, p, q, ex, ⟨dx, hd⟩, hn, o1, o2, h⟩
  subst ex
  cases (show v = Value.ref a from rx)
  obtain ⟨od, J⟩ := ins_inst I hd
  have run : wpAny (model X.prog X.w) X.A (call (.ref (He.ma X.K (He.ga X.K "Ratio") "__add__")) [.ref a, u]) (PySem.W.CmpBack (EP X pins σ Q)) X.xe s :=
    wpAny_mono (run_fn (us := [.ref a, u]) (vs := [.ref a, y]) F (hr.mono hk) B .nil pass0 I (.cons rfl (.cons ry .nil)) ⟨a, p, y, q, rfl, ⟨dx, hd⟩, hn, o1, o2, h⟩) (fun w s' z => by
      obtain ⟨z', H', I', rz, qz⟩ := z
      exact SlX.cmpback rz ⟨z', H', I', rz, qz⟩) fun _ _ e => e
  cases hn with
  | int n =>
    obtain ⟨t, e⟩ := (show ∃ t, u = Value.int n t from ry)
    subst e
    obtain ⟨fo, ro, h1, h2⟩ := slots_int (nm := "add") Z (by decide)
    exact iadd_of I.kIn J hcd hm (no_Ratio___iadd__ Z) (obj_iadd Z) (bin1_T I.kIn J rfl hcd hm me.at_ me.fn (me_Ratio_radd Z).at_ (.inr ⟨_, rfl⟩) h1 h2 (rc Z).ir run)
  | @rat b q hb =>
    cases (show u = Value.ref b from ry)
    obtain ⟨dy, hb⟩ := hb
    obtain ⟨od', J'⟩ := ins_inst I hb
    exact iadd_of I.kIn J hcd hm (no_Ratio___iadd__ Z) (obj_iadd Z) (bin1_K I.kIn J J'.type hcd hm me.at_ me.fn run)
end
/-! ### powers -/
def powQ (p : Int × Int) (k : Int) : Int × Int := if k < 0 then nrm (p.2 ^ k.natAbs) (p.1 ^ k.natAbs) else nrm (p.1 ^ k.natAbs) (p.2 ^ k.natAbs)
theorem bnd_pow {i : Int} {B : Nat} (h : i.natAbs < 2 ^ B) : ∀ n : Nat, (i ^ n).natAbs < 2 ^ (B * n + 1)
  | 0 => by rw [Int.pow_zero, Nat.mul_zero]; decide
  | n + 1 => by
    rw [Int.pow_succ]
    have := bnd_pow h n
    exact bnd_mul this h (by rw [Nat.mul_succ]; omega)
theorem pow_ne {i : Int} (h : i ≠ 0) (n : Nat) : i ^ n ≠ 0 := fun z => h (by
  induction n with
  | zero => rw [Int.pow_zero] at z; cases z
  | succ n ih =>
    rw [Int.pow_succ] at z
    rcases Int.mul_eq_zero.mp z with z | z
    · exact ih z
    · exact z)
/-- what the power of p with the exponent k answers -/
def PowW (K : PySem.W.Frag) (p : Int × Int) (k : Int) (H : Hp) (Q : VK) (E : XK) : Prop := (20 < k.natAbs → RzW K "power" H E) ∧ (k.natAbs ≤ 20 → k < 0 → p.1 = 0 → RzW K "zero" H E) ∧ (k.natAbs ≤ 20 → ¬ (k < 0 ∧ p.1 = 0) → NewR K H (powQ p k) Q)
/-- a.power(k) -/
def spPow (K : PySem.W.Frag) : Sp := fun vs H Q E => ∃ a p y b, vs = [.ref a, y] ∧ RAt K H a p ∧ Okq 150 p ∧ Kind K H y b ∧ (b = false → RzW K "power" H E) ∧ ∀ k, y = .int k → PowW K p k H Q E
section
variable {P : Program} {w : World} {K : PySem.W.Frag} {mg : Str → Option Value} {base : Heap} {fd : FuncData} {f : Addr}
theorem ok_Ratio_power (Z : CT K mg) (F : FunD K d_Ratio_power.name d_Ratio_power.qual d_Ratio_power.params d_Ratio_power.body d_Ratio_power.scope [] [] f fd) : FnOk P w K mg base (L2N.CX P w) 5 f fd ["self", "k"] (spPow K) := by
  refine F.ok sc_Ratio_power (fun vs H Q E h => ?_) (fun cdv A outer s H vs Q E hr h => ?_)
  · obtain ⟨a, p, y, b, rfl, _⟩ := h
    rfl
  · obtain ⟨a, p, y, b, rfl, ha, o1, ky, z1, z2⟩ := h
    refine ⟨_, (pss_cons (ps_if (PW.pt (pw_or (pt_not (pt_val (gcall (good_is_integer Z) hr (pa_cons (pv 1) pa_nil) pass0) (fun _ => rfl))) (pw_or1 (pt_cmpR op_gt (pe_callB call_abs (by rfl) (m_abs Z) boot_abs (pa_cons (pv 1) pa_nil)) (con_MOST_POWER Z) (nomark _))))) (pss_one (L2N.ps_raise rfl (L2N.takes_of rfl rfl rfl rfl) (rz_NoRatio Z hr (pa_cons pe_str pa_nil)))) pss_nil)
      (pss_cons (ps_par (i := 2) (j := 3) rfl sc_Ratio_power.nd rfl rfl (by decide) (by first | rfl | decide +kernel) (by first | rfl | decide +kernel) (pa_cons (pe_fld (pv 0) rfl) (pa_cons (pe_fld (pv 0) rfl) pa_nil)) (by rfl))
      (pss_cons (ps_if (pt_cmpR op_lt (pv 1) (pe_int) (nomark _)) (pss_one (ps_par (i := 2) (j := 3) rfl sc_Ratio_power.nd rfl rfl (by decide) (by first | rfl | decide +kernel) (by first | rfl | decide +kernel) (pa_cons (pv 3) (pa_cons (pv 2) pa_nil)) (by rfl))) pss_nil)
      (pss_cons (ps_asg2 (pe_int) (pg_name (i := 4) sc_Ratio_power.nd rfl (Or.inl rfl)) (pg_name (i := 5) sc_Ratio_power.nd rfl (Or.inl rfl)))
      (pss_cons (ps_for (passes_of rfl) rfl (pi_range1 rfl (m_range Z) (pa_cons (pe_callB call_abs (by rfl) (m_abs Z) boot_abs (pa_cons (pv 1) pa_nil)) pa_nil)) (pg_name (i := 6) sc_Ratio_power.nd rfl (Or.inl rfl)) (pss_cons (ps_set (i := 4) sc_Ratio_power.nd rfl (Or.inl rfl) (pe_op op_mulW (pv 4) (pv 2)))
      (pss_one (ps_set (i := 5) sc_Ratio_power.nd rfl (Or.inl rfl) (pe_op op_mulW (pv 5) (pv 3))))))
      (pss_one (ps_ret (mkR2 Z hr (pa_cons (pv 4) (pa_cons (pv 5) pa_nil)) (L2N.passes_call (L2N.takes_of rfl rfl rfl rfl) (fun _ _ _ _ h => h)))))))))), ?_⟩
    refine ⟨_, rfl, y, b, rfl, ky, b, rfl, ?_⟩
    cases b with
    | false => exact ⟨_, rfl, fun d H' s' hd => z1 rfl d H' s' hd⟩
    | true =>
      obtain ⟨k, rfl⟩ := ky.int_of
      obtain ⟨w1, w2, w3⟩ := z2 k rfl
      have ab : (if k < 0 then -k else k) = (k.natAbs : Int) := by split <;> omega
      obtain ⟨dx, hd⟩ := ha
      refine ⟨_, rfl, _, rfl, _, _, rfl, rfl, _, rfl, ite2 (fun hb => ?_) (fun hb => ?_)⟩
      · have hb := of_decide_eq_true hb
        exact ⟨_, rfl, fun d H' s' hd => w1 (by omega) d H' s' hd⟩
      have hk20 : k.natAbs ≤ 20 := by
        have hb : ¬ (20 < if k < 0 then -k else k) := fun z => hb (decide_eq_true z)
        omega
      refine ⟨_, rfl, a, _, dx, _, _, rfl, hd, (rc Z).cl, (rc Z).nT, rfs_top _ _, _, rfl, a, _, dx, _, _, rfl, hd, (rc Z).cl, (rc Z).nB, rfs_bot _ _, _, _, rfl, ?_⟩
      refine ⟨_, rfl, _, _, rfl, rfl, _, rfl, ite2 (fun hn => ?_) (fun hn => ?_)⟩
      · have hn := of_decide_eq_true hn
        refine ⟨_, rfl, _, rfl, _, _, rfl, ?_⟩
        refine ⟨_, rfl, _, rfl, (k.natAbs : Int), by rw [← ab], by omega, by omega, ?_⟩
        refine for_range (lo := 0) (n := k.natAbs) (fun i σ H3 => H3 = H ∧ ∃ u : Option V, σ = [some (.ref a), some (.int k), some (.int p.2), some (.int p.1), some (.int (p.2 ^ i)), some (.int (p.1 ^ i)), u]) ⟨rfl, _, by rw [Int.pow_zero, Int.pow_zero]; rfl⟩ ?_ ?_
        · rintro i σ H3 hi ⟨rfl, u, rfl⟩
          have bi : ∀ z : Int, z.natAbs < 2 ^ 150 → CMulW (z ^ i) z := fun z hz => wide_mul (bnd_pow hz i) hz (by omega) (by decide) (by omega)
          exact ⟨_, rfl, _, rfl, _, _, rfl, rfl, bi _ o1.2.1, _, rfl, _, rfl, _, _, rfl, rfl, bi _ o1.1, rfl, _, by rw [Int.pow_succ, Int.pow_succ]; rfl⟩
        rintro σ H3 ⟨rfl, u, rfl⟩
        refine ⟨_, rfl, _, rfl, _, _, rfl, true, true, .int _, .int _, fun z => (nomatch z), fun _ z => (nomatch z), fun t b e1 e2 => ?_⟩
        injection e1 with e1
        injection e2 with e2
        subst e1 e2
        refine ⟨fun z => ?_, fun z => ?_⟩
        · by_cases hp : p.1 = 0
          · exact w2 hk20 hn hp
          · exact absurd z (pow_ne hp _)
        · have hp : p.1 ≠ 0 := fun e => z (by rw [e]; exact Int.zero_pow (by omega))
          refine ⟨Nat.lt_of_lt_of_le (bnd_pow o1.1 _) (Nat.pow_le_pow_right (by decide) (by omega)), ?_⟩
          have w := w3 hk20 (fun y => hp y.2)
          unfold powQ at w
          rw [if_pos hn] at w
          exact w
      · have hn : ¬ k < 0 := fun z => hn (decide_eq_true z)
        refine ⟨_, rfl, _, rfl, (k.natAbs : Int), by rw [← ab], by omega, by omega, ?_⟩
        refine for_range (lo := 0) (n := k.natAbs) (fun i σ H3 => H3 = H ∧ ∃ u : Option V, σ = [some (.ref a), some (.int k), some (.int p.1), some (.int p.2), some (.int (p.1 ^ i)), some (.int (p.2 ^ i)), u]) ⟨rfl, _, by rw [Int.pow_zero, Int.pow_zero]; rfl⟩ ?_ ?_
        · rintro i σ H3 hi ⟨rfl, u, rfl⟩
          have bi : ∀ z : Int, z.natAbs < 2 ^ 150 → CMulW (z ^ i) z := fun z hz => wide_mul (bnd_pow hz i) hz (by omega) (by decide) (by omega)
          exact ⟨_, rfl, _, rfl, _, _, rfl, rfl, bi _ o1.1, _, rfl, _, rfl, _, _, rfl, rfl, bi _ o1.2.1, rfl, _, by rw [Int.pow_succ, Int.pow_succ]; rfl⟩
        rintro σ H3 ⟨rfl, u, rfl⟩
        refine ⟨_, rfl, _, rfl, _, _, rfl, true, true, .int _, .int _, fun z => (nomatch z), fun _ z => (nomatch z), fun t b e1 e2 => ?_⟩
        injection e1 with e1
        injection e2 with e2
        subst e1 e2
        refine ⟨fun z => absurd z (pow_ne o1.2.2 _), fun z => ?_⟩
        refine ⟨Nat.lt_of_lt_of_le (bnd_pow o1.2.1 _) (Nat.pow_le_pow_right (by decide) (by omega)), ?_⟩
        have w := w3 hk20 (fun y => hn y.1)
        unfold powQ at w
        rw [if_neg hn] at w
        exact w

theorem good_Ratio_power (Z : CT K mg) : GoodMd (L2N.CX P w) P w K mg base 5 "power" ["self", "k"] (spPow K) := goodMd Z 25 d_Ratio_power (me_Ratio_power Z) (fun _ _ _ _ _ _ us hl => match us, hl with | [_, _], _ => rfl) fun _ F => ok_Ratio_power Z F
end
end My

namespace My
open PySem PySem.Spec PyProof.Rows L2 PySem.Calls

section
variable {X : Cx} {e o : Expr} {ta : TE} {t : TA} {apos pos : Pos} {k : Nat} {E : XK}
def tPowM (K : PySem.W.Frag) (E : XK) (ta : TE) (t : TA) : TE := fun σ H Q => ta σ H fun x H1 => ∃ a p, x = .ref a ∧ RAt K H1 a p ∧ t σ H1 fun vs H2 => spPow K (x :: vs) H2 Q E
theorem powerM (Z : CT X.K X.mg) (hr : Room k X.A) (he : PE X o ta) (ha : PA X [e] t) (hx : Passes (L2N.CX X.prog X.w) X E) (hk : 5 ≤ k := by decide) (hst : starEach [e] X.env = (false, eval e X.env) :: starEach [] X.env := by rfl) (hpl : (backTo pos (starEach [] X.env)).any (·.1) = false := by rfl)
    {pl : Sem Bool} (ht : eval (.Call (.Attribute o "power" apos) [e] [] pos) X.env = (do
      let ov ← eval o X.env
      standAt apos.atName
      let (f, first) ← holding [ov] (getMethod ov "power" pl)
      callWith pos f first (backTo pos (starEach [e] X.env)) (backToKw pos (keywordEach [] X.env))) := by rfl) : PE X (.Call (.Attribute o "power" apos) [e] [] pos) (tPowM X.K E ta t) := by
  obtain ⟨fd, F, B⟩ := (good_Ratio_power (P := X.prog) (w := X.w) (base := X.base) Z).fn
  refine pe_imp (pe_meth (wk_e he) (rc Z).cl (me_Ratio_power Z) F (hr.mono hk) B .nil hx (wk_a ha) hst hpl ht) fun σ H Q q => ⟨_, q, fun x H1 ⟨a, p, ex, ⟨dx, hd⟩, q2⟩ => ⟨a, dx, _, ex, hd, rfs_no _ _ (by decide +kernel) (by decide +kernel), _, q2, fun vs H2 z => by show spPow X.K (x :: (vs ++ [])) H2 _ _; rw [List.append_nil]; exact z⟩⟩
end
section
variable {P : Program} {w : World} {K : PySem.W.Frag} {mg : Str → Option Value} {base : Heap} {fd : FuncData} {f : Addr}
theorem ok_Ratio_pow (Z : CT K mg) (F : FunD K d_Ratio_pow.name d_Ratio_pow.qual d_Ratio_pow.params d_Ratio_pow.body d_Ratio_pow.scope [] [] f fd) : FnOk P w K mg base (L2N.CX P w) 6 f fd ["self", "other"] (spPow K) := by
  refine F.ok sc_Ratio_pow (fun vs H Q E h => ?_) (fun cdv A outer s H vs Q E hr h => ?_)
  · obtain ⟨a, p, y, b, rfl, _⟩ := h
    rfl
  · obtain ⟨a, p, y, b, rfl, h⟩ := h
    refine ⟨_, (pss_one (ps_ret (powerM Z hr (pv 0) (pa_cons (pv 1) pa_nil) (L2N.passes_call (L2N.takes_of rfl rfl rfl rfl) (fun _ _ _ _ h => h))))), ?_⟩
    exact ⟨_, rfl, a, p, rfl, h.1, _, rfl, a, p, y, b, rfl, h⟩

theorem good_Ratio_pow (Z : CT K mg) : GoodMd (L2N.CX P w) P w K mg base 6 "__pow__" ["self", "other"] (spPow K) := goodMd Z 23 d_Ratio_pow (me_Ratio_pow Z) (fun _ _ _ _ _ _ us hl => match us, hl with | [_, _], _ => rfl) fun _ F => ok_Ratio_pow Z F
end
section
variable {X : Cx} {k : Nat} {E : XK}
def rPow (K : PySem.W.Frag) (E : XK) : R2 := fun x y H Q => ∃ a p n, x = .ref a ∧ y = .int n ∧ RAt K H a p ∧ Okq 150 p ∧ PowW K p n H Q E
theorem opPow (Z : CT X.K X.mg) (hr : Room k X.A) (hx : Passes (L2N.CX X.prog X.w) X E) (hk : 6 ≤ k := by decide) : OpR X (binaryOp .Pow) (rPow X.K E) := by
  obtain ⟨fd, F, B⟩ := (good_Ratio_pow (P := X.prog) (w := X.w) (base := X.base) Z).fn
  have me := me_Ratio_pow Z
  intro pins s σ H x y v u Q I rx ry ⟨a, p, n, ex, ey, ⟨dx, hd⟩, o1, h⟩
  subst ex ey
  cases (show v = Value.ref a from rx)
  obtain ⟨od, J⟩ := ins_inst I hd
  obtain ⟨m, hF⟩ := I.fr
  have run : wpAny (model X.prog X.w) X.A (call (.ref (He.ma X.K (He.ga X.K "Ratio") "__pow__")) [.ref a, u]) (PySem.W.CmpBack (EP X pins σ Q)) X.xe s :=
    wpAny_mono (run_fn (us := [.ref a, u]) (vs := [.ref a, .int n]) F (hr.mono hk) B .nil hx I (.cons rfl (.cons ry .nil)) ⟨a, p, .int n, true, rfl, ⟨dx, hd⟩, o1, .int n, fun z => (nomatch z), fun k e => by injection e with e; subst e; exact h⟩) (fun w s' z => by
      obtain ⟨z', H', I', rz, qz⟩ := z
      exact SlX.cmpback rz ⟨z', H', I', rz, qz⟩) fun _ _ e => e
  obtain ⟨t, e⟩ := (show ∃ t, u = Value.int n t from ry)
  subst e
  obtain ⟨fo, ro, h1, h2⟩ := slots_int (nm := "pow") Z (by decide)
  exact PySem.W.ksp_binT hF I.ok.mod.kin J rfl (rc Z).self me.at_ me.fn (no_Ratio___rpow__ Z) (.inl rfl) h1 h2 (rc Z).ir run
theorem ip_of {op : Operator} {r : R2} (h : OpR X (inplaceOp op) r) : PIp X op r := fun pins s σ H x y v u Q I r1 r2 z => h pins s σ H x y v u Q I r1 r2 z
end
/-! ### the law's helpers -/
section
variable {P : Program} {w : World} {K : PySem.W.Frag} {mg : Str → Option Value} {base : Heap} {fd : FuncData} {f : Addr}
/-- a drawn number, as a pair -/
def spNumber : Sp := fun vs H Q _ => ∃ (p : Addr) (x y : Int), vs = [.ref p] ∧ H p = some (.lst [.int x, .int y]) ∧ 0 ≤ x ∧ 0 ≤ y ∧ y < 999000 ∧
  ∀ (c : Addr) (t b x' y' : Int) (H' : Hp), t.natAbs < 2 ^ 70 → 1 ≤ b → b ≤ 1000000 → 0 ≤ x' → y ≤ y' → y' ≤ y + 640 → (∀ d, d ≠ p → ∀ o, H d = some o → H' d = some o) → H' p = some (.lst [.int x', .int y']) → H' c = some (.tup [.int t, .int b]) → Q (.ref c) H'
theorem ok_number (Z : CT K mg) (F : FunD K d_number.name d_number.qual d_number.params d_number.body d_number.scope [] [] f fd) : FnOk P w K mg base (CX0) 2 f fd ["_law_pouch_here"] (spNumber) := by
  refine F.ok sc_number (fun vs H Q E h => ?_) (fun cdv A outer s H vs Q E hr h => ?_)
  · obtain ⟨p, x, y, rfl, _⟩ := h
    rfl
  · obtain ⟨p, x0, y0, rfl, hp0, hx0, hy0, hm, q⟩ := h
    refine ⟨_, (pss_cons (ps_set (i := 1) sc_number.nd rfl (Or.inl rfl) (gcall (good_draw Z) hr (pa_cons (pv 0) (pa_cons pe_int pa_nil)) pass0))
      (pss_cons (ps_if (pt_cmpR op_eq (pv 1) (pe_int) (nomark _)) (pss_one (ps_ret (pe_tupN (pa_cons pe_int (pa_cons pe_int pa_nil))))) pss_nil)
      (pss_cons (ps_if (pt_cmpR op_le (pv 1) (pe_int) (nomark _)) (pss_one (ps_ret (pe_tupN (pa_cons (pe_op op_sub (gcall (good_draw Z) hr (pa_cons (pv 0) (pa_cons pe_int pa_nil)) pass0) (pe_int)) (pa_cons pe_int pa_nil))))) pss_nil)
      (pss_cons (ps_if (pt_cmpR op_le (pv 1) (pe_int) (nomark _)) (pss_one (ps_ret (pe_tupN (pa_cons (pe_op op_sub (gcall (good_draw Z) hr (pa_cons (pv 0) (pa_cons pe_int pa_nil)) pass0) (pe_int)) (pa_cons (pe_op op_add (gcall (good_draw Z) hr (pa_cons (pv 0) (pa_cons pe_int pa_nil)) pass0) (pe_int)) pa_nil))))) pss_nil)
      (pss_cons (ps_set (i := 2) sc_number.nd rfl (Or.inl rfl) (pe_op op_sub (pe_int) (pe_op op_mulW (pe_int) (gcall (good_draw Z) hr (pa_cons (pv 0) (pa_cons pe_int pa_nil)) pass0))))
      (pss_one (ps_ret (pe_tupN (pa_cons (pe_op op_mulW (pv 2) (gcall (good_draw Z) hr (pa_cons (pv 0) (pa_cons (pe_op op_pow (pe_int) (pe_int)) pa_nil)) pass0)) (pa_cons (pe_op op_add (gcall (good_draw Z) hr (pa_cons (pv 0) (pa_cons (pe_op op_pow (pe_int) (pe_int)) pa_nil)) pass0) (pe_int)) pa_nil)))))))))), ?_⟩
    refine ⟨_, rfl, p, x0, y0, 8, rfl, hp0, hx0, by omega, by omega, by decide, by decide, fun r1 x1 y1 H1 ra1 rb1 hx1 hy1 hz1 k1 hp1 => ?_⟩
    refine ⟨_, rfl, rfl, _, rfl, ite2 (fun h1 => ?_) (fun h1 => ?_)⟩
    · refine ⟨rfl, fun c H' hs hc hn => ?_⟩
      exact q c 0 1 x1 y1 H' (by decide) (by decide) (by decide) hx1 (by omega) (by omega) (fun d hd o z => hs _ _ (by rw [k1 d hd]; exact z)) (hs _ _ hp1) hc
    refine ⟨_, rfl, _, _, rfl, rfl, _, rfl, ite2 (fun h2 => ?_) (fun h2 => ?_)⟩
    · refine ⟨_, rfl, p, x1, y1, 7, rfl, hp1, hx1, by omega, by omega, by decide, by decide, fun r2 x2 y2 H2 ra2 rb2 hx2 hy2 hz2 k2 hp2 => ?_⟩
      refine ⟨_, _, rfl, rfl, rfl, fun c H' hs hc hn => ?_⟩
      exact q c _ 1 x2 y2 H' (by omega) (by decide) (by decide) hx2 (by omega) (by omega) (fun d hd o z => hs _ _ (by rw [k2 d hd]; rw [k1 d hd]; exact z)) (hs _ _ hp2) hc
    refine ⟨_, rfl, _, _, rfl, rfl, _, rfl, ite2 (fun h3 => ?_) (fun h3 => ?_)⟩
    · refine ⟨_, rfl, p, x1, y1, 19, rfl, hp1, hx1, by omega, by omega, by decide, by decide, fun r2 x2 y2 H2 ra2 rb2 hx2 hy2 hz2 k2 hp2 => ?_⟩
      refine ⟨_, _, rfl, rfl, _, rfl, p, x2, y2, 5, rfl, hp2, hx2, by omega, by omega, by decide, by decide, fun r3 x3 y3 H3 ra3 rb3 hx3 hy3 hz3 k3 hp3 => ?_⟩
      refine ⟨_, _, rfl, rfl, rfl, fun c H' hs hc hn => ?_⟩
      exact q c _ _ x3 y3 H' (by omega) (by omega) (by omega) hx3 (by omega) (by omega) (fun d hd o z => hs _ _ (by rw [k3 d hd]; rw [k2 d hd]; rw [k1 d hd]; exact z)) (hs _ _ hp3) hc
    refine ⟨_, rfl, p, x1, y1, 2, rfl, hp1, hx1, by omega, by omega, by decide, by decide, fun r2 x2 y2 H2 ra2 rb2 hx2 hy2 hz2 k2 hp2 => ?_⟩
    refine ⟨_, _, rfl, rfl, mulW (B := 100) (by decide) (by omega) (by decide) (by decide), _, _, rfl, rfl, ?_⟩
    refine ⟨_, rfl, _, rfl, _, _, rfl, rfl, ⟨by decide, by decide, by decide⟩, p, x2, y2, _, rfl, hp2, hx2, by omega, by omega, by decide, by decide, fun r3 x3 y3 H3 ra3 rb3 hx3 hy3 hz3 k3 hp3 => ?_⟩
    have rb3 : r3 < 10 ^ 20 := rb3
    refine ⟨_, _, rfl, rfl, ?_, _, rfl, _, _, rfl, rfl, ⟨by decide, by decide, by decide⟩, p, x3, y3, _, rfl, hp3, hx3, by omega, by omega, by decide, by decide, fun r4 x4 y4 H4 ra4 rb4 hx4 hy4 hz4 k4 hp4 => ?_⟩
    · have hr3 : r3.natAbs < 2 ^ 100 := by
        have : (10 : Int) ^ 20 = 100000000000000000000 := by decide
        omega
      exact mulW (B := 100) (by omega) hr3 (by decide) (by decide)
    have rb4 : r4 < 10 ^ 6 := rb4
    refine ⟨_, _, rfl, rfl, rfl, fun c H' hs hc hn => ?_⟩
    refine q c _ _ x4 y4 H' ?_ (by omega) (by omega) hx4 (by omega) (by omega) (fun d hd o z => hs _ _ (by rw [k4 d hd]; rw [k3 d hd]; rw [k2 d hd]; rw [k1 d hd]; exact z)) (hs _ _ hp4) hc
    rcases (by omega : r2 = 0 ∨ r2 = 1) with rfl | rfl
    · show ((1 - 2 * 0) * r3).natAbs < _
      omega
    · show ((1 - 2 * 1) * r3).natAbs < _
      omega

theorem good_number (Z : CT K mg) : GoodF (CX0) P w K mg base 2 "_law_number" ["_law_pouch_here"] (spNumber) := Z.good 33 10 d_number (fun _ _ _ _ _ _ us hl => match us, hl with | [_], _ => rfl) fun _ F => ok_number Z F
/-- a pair as a number: an integer where its bottom is 1 -/
def spMake (K : PySem.W.Frag) : Sp := fun vs H Q _ => ∃ (c : Addr) (t b : Int), vs = [.ref c] ∧ H c = some (.tup [.int t, .int b]) ∧ 1 ≤ b ∧ b ≤ 1000000 ∧ ∀ v H', Same H H' → Num K H' v (nrm t b) → Q v H'
theorem ok_make (Z : CT K mg) (F : FunD K d_make.name d_make.qual d_make.params d_make.body d_make.scope [] [] f fd) : FnOk P w K mg base (CX0) 5 f fd ["_law_pair_here"] (spMake K) := by
  refine F.ok sc_make (fun vs H Q E h => ?_) (fun cdv A outer s H vs Q E hr h => ?_)
  · obtain ⟨c, t, b, rfl, _⟩ := h
    rfl
  · obtain ⟨c, t, b, rfl, hc, h0, h1, q⟩ := h
    refine ⟨_, (pss_cons (ps_if (pt_cmpR op_eq (pe_ix ix_tup (pv 0) pe_int (fun _ _ => rfl)) (pe_int) (nomark _)) (pss_one (ps_ret (pe_ix ix_tup (pv 0) pe_int (fun _ _ => rfl)))) pss_nil)
      (pss_one (ps_ret (mkR2 Z hr (pa_cons (pe_ix ix_tup (pv 0) pe_int (fun _ _ => rfl)) (pa_cons (pe_ix ix_tup (pv 0) pe_int (fun _ _ => rfl)) pa_nil)) passN)))), ?_⟩
    refine ⟨_, rfl, c, _, 1, _, rfl, rfl, SqT.of hc, rfl, rfl, _, rfl, ite2 (fun h2 => ?_) (fun h2 => ?_)⟩
    · have h2 := of_decide_eq_true h2
      injection h2 with h2
      subst h2
      refine ⟨_, rfl, c, _, 0, _, rfl, rfl, SqT.of hc, rfl, q _ H (Same.refl H) ?_⟩
      rw [nrm_one]; exact .int t
    · refine ⟨_, rfl, c, _, 0, _, rfl, rfl, SqT.of hc, rfl, _, rfl, c, _, 1, _, rfl, rfl, SqT.of hc, rfl, _, _, rfl, ?_⟩
      exact askR_ok (by omega) (Nat.lt_of_lt_of_le (show b.natAbs < 2 ^ 20 by omega) (Nat.pow_le_pow_right (by decide) (by decide))) fun r H' s1 hr1 => q _ H' s1 (.rat hr1)

theorem good_make (Z : CT K mg) : GoodF (CX0) P w K mg base 5 "_law_make" ["_law_pair_here"] (spMake K) := Z.good 34 11 d_make (fun _ _ _ _ _ _ us hl => match us, hl with | [_], _ => rfl) fun _ F => ok_make Z F
theorem ok_Lis_integer (Z : CT K mg) (F : FunD K d_Lis_integer.name d_Lis_integer.qual d_Lis_integer.params d_Lis_integer.body d_Lis_integer.scope [] [] f fd) : FnOk P w K mg base (CX0) 1 f fd ["_law_thing"] (spIsInteger K) := by
  refine F.ok sc_Lis_integer (fun vs H Q E h => ?_) (fun cdv A outer s H vs Q E hr h => ?_)
  · obtain ⟨x, b, rfl, _⟩ := h
    rfl
  · obtain ⟨x, b, rfl, hk, q⟩ := h
    obtain ⟨t, b1, b2, ty, k1, k2, rfl⟩ := hk.ask (rc Z)
    refine ⟨_, (pss_one (ps_ret ((pe_and (pe_callB call_isi (by rfl) (m_isinstance Z) boot_isinstance (pa_cons (pv 0) (pa_cons (pe_bltn (by rfl) (m_int Z) boot_int (rel_ty _)) pa_nil))) (pe_one (pe_not (pe_callB call_isi (by rfl) (m_isinstance Z) boot_isinstance (pa_cons (pv 0) (pa_cons (pe_bltn (by rfl) (m_bool Z) boot_bool (rel_ty _)) pa_nil))))))))), ?_⟩
    refine ⟨_, rfl, x, _, t, _, b1, rfl, .ty _, ty, k1, b1, rfl, ?_⟩
    cases b1 with
    | true => exact ⟨_, rfl, x, _, t, _, b2, rfl, .ty _, ty, k2, b2, rfl, q⟩
    | false => exact q

theorem good_Lis_integer (Z : CT K mg) : GoodF (CX0) P w K mg base 1 "_law_is_integer" ["_law_thing"] (spIsInteger K) := Z.good 35 12 d_Lis_integer (fun _ _ _ _ _ _ us hl => match us, hl with | [_], _ => rfl) fun _ F => ok_Lis_integer Z F
/-- a Ratio is one -/
def spIsRatio (K : PySem.W.Frag) : Sp := fun vs H Q _ => ∃ (a : Addr) (p : Int × Int), vs = [.ref a] ∧ RAt K H a p ∧ 1 ≤ p.2 ∧ Q (.bl true) H
theorem ok_is_ratio (Z : CT K mg) (F : FunD K d_is_ratio.name d_is_ratio.qual d_is_ratio.params d_is_ratio.body d_is_ratio.scope [] [] f fd) : FnOk P w K mg base (CX0) 2 f fd ["_law_thing"] (spIsRatio K) := by
  refine F.ok sc_is_ratio (fun vs H Q E h => ?_) (fun cdv A outer s H vs Q E hr h => ?_)
  · obtain ⟨a, p, rfl, _⟩ := h
    rfl
  · obtain ⟨a, p, rfl, ha, h1, q⟩ := h
    refine ⟨_, (pss_cons (ps_if (pt_not (pt_val (pe_callB call_isi (by rfl) (m_isinstance Z) boot_isinstance (pa_cons (pv 0) (pa_cons (pe_glob (by rfl) (glo_Ratio Z) (rel_ref _)) pa_nil))) (fun _ => rfl))) (pss_one (ps_ret pe_bl)) pss_nil)
      (pss_one (ps_ret ((pe_and (gcall (good_Lis_integer Z) hr (pa_cons (pe_fld (pv 0) rfl) pa_nil) pass0) (pe_and (gcall (good_Lis_integer Z) hr (pa_cons (pe_fld (pv 0) rfl) pa_nil) pass0) (pe_one (pe_cmpR op_ge (pe_fld (pv 0) rfl) (pe_int) (nomark _))))))))), ?_⟩
    refine ⟨_, rfl, _, _, _, _, true, rfl, .own _, (rc Z).ty ha, (rc Z).rr, true, rfl, iteF ?_⟩
    obtain ⟨dx, hd⟩ := ha
    refine ⟨_, rfl, a, _, dx, _, _, rfl, hd, (rc Z).cl, (rc Z).nT, rfs_top _ _, _, true, rfl, .int _, true, rfl, ?_⟩
    refine ⟨_, rfl, a, _, dx, _, _, rfl, hd, (rc Z).cl, (rc Z).nB, rfs_bot _ _, _, true, rfl, .int _, true, rfl, ?_⟩
    refine ⟨_, rfl, a, _, dx, _, _, rfl, hd, (rc Z).cl, (rc Z).nB, rfs_bot _ _, _, _, rfl, rfl, ?_⟩
    show Q (.bl (decide (1 ≤ p.2))) H
    rw [decide_eq_true h1]
    exact q

theorem good_is_ratio (Z : CT K mg) : GoodF (CX0) P w K mg base 2 "_law_is_ratio" ["_law_thing"] (spIsRatio K) := Z.good 36 13 d_is_ratio (fun _ _ _ _ _ _ us hl => match us, hl with | [_], _ => rfl) fun _ F => ok_is_ratio Z F
def spPair (K : PySem.W.Frag) : Sp := fun vs H Q _ => ∃ (a : Addr) (p : Int × Int), vs = [.ref a] ∧ RAt K H a p ∧ NewT H [.int p.1, .int p.2] Q
theorem ok_pair (Z : CT K mg) (F : FunD K d_pair.name d_pair.qual d_pair.params d_pair.body d_pair.scope [] [] f fd) : FnOk P w K mg base (CX0) 1 f fd ["_law_number_here"] (spPair K) := by
  refine F.ok sc_pair (fun vs H Q E h => ?_) (fun cdv A outer s H vs Q E hr h => ?_)
  · obtain ⟨a, p, rfl, _⟩ := h
    rfl
  · obtain ⟨a, p, rfl, ha, q⟩ := h
    refine ⟨_, (pss_cons (ps_if (pt_val (pe_callB call_isi (by rfl) (m_isinstance Z) boot_isinstance (pa_cons (pv 0) (pa_cons (pe_glob (by rfl) (glo_Ratio Z) (rel_ref _)) pa_nil))) (fun _ => rfl)) (pss_one (ps_ret (pe_tupN (pa_cons (pe_fld (pv 0) rfl) (pa_cons (pe_fld (pv 0) rfl) pa_nil))))) pss_nil)
      (pss_one (ps_ret (pe_tupN (pa_cons (pv 0) (pa_cons pe_int pa_nil)))))), ?_⟩
    refine ⟨_, rfl, _, _, _, _, true, rfl, .own _, (rc Z).ty ha, (rc Z).rr, true, rfl, iteT ?_⟩
    obtain ⟨dx, hd⟩ := ha
    exact ⟨_, rfl, a, _, dx, _, _, rfl, hd, (rc Z).cl, (rc Z).nT, rfs_top _ _, _, rfl, a, _, dx, _, _, rfl, hd, (rc Z).cl, (rc Z).nB, rfs_bot _ _, rfl, q⟩

theorem good_pair (Z : CT K mg) : GoodF (CX0) P w K mg base 1 "_law_pair" ["_law_number_here"] (spPair K) := Z.good 37 14 d_pair (fun _ _ _ _ _ _ us hl => match us, hl with | [_], _ => rfl) fun _ F => ok_pair Z F
/-- the sum of two pairs -/
def spSum (K : PySem.W.Frag) : Sp := fun vs H Q _ => ∃ (l a b : Addr) (a1 a2 b1 b2 : Int), vs = [.ref l] ∧ H l = some (.lst [.ref a, .ref b]) ∧ H a = some (.tup [.int a1, .int a2]) ∧ H b = some (.tup [.int b1, .int b2]) ∧ a1.natAbs < 2 ^ 1000 ∧ a2.natAbs < 2 ^ 1000 ∧ b1.natAbs < 2 ^ 1000 ∧ b2.natAbs < 2 ^ 1000 ∧ NewT H [.int (a1 * b2 + b1 * a2), .int (a2 * b2)] Q
theorem ok_sum (Z : CT K mg) (F : FunD K d_sum.name d_sum.qual d_sum.params d_sum.body d_sum.scope [] [] f fd) : FnOk P w K mg base (CX0) 1 f fd ["_law_pairs"] (spSum K) := by
  refine F.ok sc_sum (fun vs H Q E h => ?_) (fun cdv A outer s H vs Q E hr h => ?_)
  · obtain ⟨l, a, b, a1, a2, b1, b2, rfl, _⟩ := h
    rfl
  · obtain ⟨l, a, b, a1, a2, b1, b2, rfl, hl, ha, hb, u1, u2, u3, u4, q⟩ := h
    refine ⟨_, PSs.nox (pss_cons (ps_set (i := 1) sc_sum.nd rfl (Or.inl rfl) (pe_int))
      (pss_cons (ps_set (i := 2) sc_sum.nd rfl (Or.inl rfl) (pe_int))
      (pss_cons (ps_for PassesOwn.never rfl (pi_list (pv 0)) (pg_name (i := 3) sc_sum.nd rfl (Or.inl rfl)) (pss_cons (ps_set (i := 1) sc_sum.nd rfl (Or.inl rfl) (pe_op op_add (pe_op op_mulW (pv 1) (pe_ix ix_tup (pv 3) pe_int (fun _ _ => rfl))) (pe_op op_mulW (pe_ix ix_tup (pv 3) pe_int (fun _ _ => rfl)) (pv 2))))
      (pss_one (ps_set (i := 2) sc_sum.nd rfl (Or.inl rfl) (pe_op op_mulW (pv 2) (pe_ix ix_tup (pv 3) pe_int (fun _ _ => rfl)))))))
      (pss_one (ps_ret (pe_tupN (pa_cons (pv 1) (pa_cons (pv 2) pa_nil)))))))), ?_⟩
    refine ⟨_, rfl, l, rfl, ⟨_, SqL.of hl⟩, ?_⟩
    have e0 : ([V.ref a, V.ref b] : List V)[0]? = some (.ref a) := rfl
    refine for_list (K := K) (a := l) (xs := [.ref a, .ref b]) (fun i σ H2 => H2 = H ∧ ∃ u : Option V, σ = [some (.ref l), some (.int (if i = 0 then 0 else if i = 1 then a1 else a1 * b2 + b1 * a2)), some (.int (if i = 0 then 1 else if i = 1 then a2 else a2 * b2)), u]) ⟨rfl, _, rfl⟩ (fun i σ H2 _ z => by rw [z.1]; exact SqL.of hl) ?_ ?_
    · rintro i y σ H2 hi ⟨rfl, u, rfl⟩
      rcases i with _ | _ | i
      · cases hi
        refine ⟨_, rfl, _, rfl, a, _, 1, _, rfl, rfl, SqT.of ha, rfl, _, _, rfl, rfl, mulW (B := 1000) (show (0 : Int).natAbs < 2 ^ 1000 by decide) u2 (by decide) (by decide), _, rfl, a, _, 0, _, rfl, rfl, SqT.of ha, rfl, _, rfl, _, _, rfl, rfl, mulW (B := 1000) u1 (show (1 : Int).natAbs < 2 ^ 1000 by decide) (by decide) (by decide), _, _, rfl, rfl, ?_⟩
        refine ⟨_, rfl, _, rfl, a, _, 1, _, rfl, rfl, SqT.of ha, rfl, _, _, rfl, rfl, mulW (B := 1000) (show (1 : Int).natAbs < 2 ^ 1000 by decide) u2 (by decide) (by decide), rfl, some (.ref a), ?_⟩
        show [_, some (V.int (0 * a2 + a1 * 1)), some (V.int (1 * a2)), _] = [_, some (V.int a1), some (V.int a2), _]
        rw [Int.zero_mul, Int.zero_add, Int.mul_one, Int.one_mul]
      · cases hi
        refine ⟨_, rfl, _, rfl, b, _, 1, _, rfl, rfl, SqT.of hb, rfl, _, _, rfl, rfl, mulW (B := 1000) u1 u4 (by decide) (by decide), _, rfl, b, _, 0, _, rfl, rfl, SqT.of hb, rfl, _, rfl, _, _, rfl, rfl, mulW (B := 1000) u3 u2 (by decide) (by decide), _, _, rfl, rfl, ?_⟩
        exact ⟨_, rfl, _, rfl, b, _, 1, _, rfl, rfl, SqT.of hb, rfl, _, _, rfl, rfl, mulW (B := 1000) u2 u4 (by decide) (by decide), rfl, some (.ref b), rfl⟩
      · cases hi
    · rintro σ H2 ⟨rfl, u, rfl⟩
      exact ⟨_, rfl, _, rfl, rfl, q⟩

theorem good_sum (Z : CT K mg) : GoodF (CX0) P w K mg base 1 "_law_sum" ["_law_pairs"] (spSum K) := Z.good 38 15 d_sum (fun _ _ _ _ _ _ us hl => match us, hl with | [_], _ => rfl) fun _ F => ok_sum Z F
def spSame (K : PySem.W.Frag) : Sp := fun vs H Q _ => ∃ (a b : Addr) (a1 a2 b1 b2 : Int), vs = [.ref a, .ref b] ∧ H a = some (.tup [.int a1, .int a2]) ∧ H b = some (.tup [.int b1, .int b2]) ∧ a1.natAbs < 2 ^ 3900 ∧ a2.natAbs < 2 ^ 3900 ∧ b1.natAbs < 2 ^ 3900 ∧ b2.natAbs < 2 ^ 3900 ∧ a1 * b2 = b1 * a2 ∧ Q (.bl true) H
theorem ok_same (Z : CT K mg) (F : FunD K d_same.name d_same.qual d_same.params d_same.body d_same.scope [] [] f fd) : FnOk P w K mg base (CX0) 1 f fd ["_law_one", "_law_other"] (spSame K) := by
  refine F.ok sc_same (fun vs H Q E h => ?_) (fun cdv A outer s H vs Q E hr h => ?_)
  · obtain ⟨a, b, a1, a2, b1, b2, rfl, _⟩ := h
    rfl
  · obtain ⟨a, b, a1, a2, b1, b2, rfl, ha, hb, u1, u2, u3, u4, e, q⟩ := h
    refine ⟨_, (pss_one (ps_ret (pe_cmpR op_eq (pe_op op_mulW (pe_ix ix_tup (pv 0) pe_int (fun _ _ => rfl)) (pe_ix ix_tup (pv 1) pe_int (fun _ _ => rfl))) (pe_op op_mulW (pe_ix ix_tup (pv 1) pe_int (fun _ _ => rfl)) (pe_ix ix_tup (pv 0) pe_int (fun _ _ => rfl))) (nomark _)))), ?_⟩
    refine ⟨_, rfl, a, _, 0, _, rfl, rfl, SqT.of ha, rfl, _, rfl, b, _, 1, _, rfl, rfl, SqT.of hb, rfl, _, _, rfl, rfl, mulW u1 u4 (by decide) (by decide), _, rfl, b, _, 0, _, rfl, rfl, SqT.of hb, rfl, _, rfl, a, _, 1, _, rfl, rfl, SqT.of ha, rfl, _, _, rfl, rfl, mulW u3 u2 (by decide) (by decide), rfl, ?_⟩
    show Q (.bl (decide (V.int (a1 * b2) = V.int (b1 * a2)))) H
    rw [decide_eq_true (congrArg V.int e)]
    exact q

theorem good_same (Z : CT K mg) : GoodF (CX0) P w K mg base 1 "_law_same" ["_law_one", "_law_other"] (spSame K) := Z.good 41 18 d_same (fun _ _ _ _ _ _ us hl => match us, hl with | [_, _], _ => rfl) fun _ F => ok_same Z F
def spAbs (K : PySem.W.Frag) : Sp := fun vs H Q _ => ∃ (a : Addr) (a1 a2 : Int), vs = [.ref a] ∧ H a = some (.tup [.int a1, .int a2]) ∧ NewT H [.int (if a1 < 0 then -a1 else a1), .int a2] Q
theorem ok_abs (Z : CT K mg) (F : FunD K d_abs.name d_abs.qual d_abs.params d_abs.body d_abs.scope [] [] f fd) : FnOk P w K mg base (CX0) 1 f fd ["_law_pair_here"] (spAbs K) := by
  refine F.ok sc_abs (fun vs H Q E h => ?_) (fun cdv A outer s H vs Q E hr h => ?_)
  · obtain ⟨a, a1, a2, rfl, _⟩ := h
    rfl
  · obtain ⟨a, a1, a2, rfl, ha, q⟩ := h
    refine ⟨_, (pss_one (ps_ret (pe_tupN (pa_cons (pe_callB call_abs (by rfl) (m_abs Z) boot_abs (pa_cons (pe_ix ix_tup (pv 0) pe_int (fun _ _ => rfl)) pa_nil)) (pa_cons (pe_ix ix_tup (pv 0) pe_int (fun _ _ => rfl)) pa_nil))))), ?_⟩
    exact ⟨_, rfl, a, _, 0, _, rfl, rfl, SqT.of ha, rfl, _, rfl, _, rfl, a, _, 1, _, rfl, rfl, SqT.of ha, rfl, rfl, q⟩

theorem good_abs (Z : CT K mg) : GoodF (CX0) P w K mg base 1 "_law_abs" ["_law_pair_here"] (spAbs K) := Z.good 42 19 d_abs (fun _ _ _ _ _ _ us hl => match us, hl with | [_], _ => rfl) fun _ F => ok_abs Z F
def spDivisor : Sp := fun vs H Q _ => ∃ (x y : Nat), vs = [.int x, .int y] ∧ Q (.int (Nat.gcd x y : Nat)) H
theorem ok_divisor (Z : CT K mg) (F : FunD K d_divisor.name d_divisor.qual d_divisor.params d_divisor.body d_divisor.scope [] [] f fd) : FnOk P w K mg base (CX0) 1 f fd ["_law_one", "_law_other"] (spDivisor) := by
  refine F.ok sc_divisor (fun vs H Q E h => ?_) (fun cdv A outer s H vs Q E hr h => ?_)
  · obtain ⟨x, y, rfl, _⟩ := h
    rfl
  · obtain ⟨x, y, rfl, q⟩ := h
    refine ⟨_, PSs.nox (pss_cons (ps_while PassesOwn.never (pt_cmpR op_gt (pv 1) (pe_int) (nomark _)) (pss_cons (ps_set (i := 2) sc_divisor.nd rfl (Or.inl rfl) (pe_op op_mod (pv 0) (pv 1)))
      (pss_cons (ps_set (i := 0) sc_divisor.nd rfl (Or.inl rfl) (pv 1))
      (pss_one (ps_set (i := 1) sc_divisor.nd rfl (Or.inl rfl) (pv 2))))))
      (pss_one (ps_ret (pv 0)))), ?_⟩
    refine ⟨fun m σ H2 => H2 = H ∧ ∃ (a b : Nat) (u : Option V), σ = [some (.int a), some (.int b), u] ∧ m = b ∧ Nat.gcd a b = Nat.gcd x y, ⟨y, rfl, x, y, _, rfl, rfl, rfl⟩, ?_⟩
    rintro m σ H2 ⟨rfl, a, b, u, rfl, rfl, hg⟩
    refine ⟨_, rfl, _, _, rfl, rfl, _, rfl, ite2 (fun h => ?_) (fun h => ?_)⟩
    · have h : (0 : Int) < (m : Int) := of_decide_eq_true h
      refine ⟨fun σ H3 => H3 = H2 ∧ ∃ (a' b' : Nat) (u : Option V), σ = [some (.int a'), some (.int b'), u] ∧ b' < m ∧ Nat.gcd a' b' = Nat.gcd x y, fun σ H3 ⟨e, a', b', u, e1, e2, e3⟩ => ⟨b', e2, e, a', b', u, e1, rfl, e3⟩, ?_⟩
      refine ⟨_, rfl, _, rfl, _, _, rfl, rfl, h, _, rfl, _, rfl, rfl, m, a % m, _, rfl, Nat.mod_lt _ (by omega), ?_⟩
      rw [Nat.gcd_comm, ← Nat.gcd_rec, Nat.gcd_comm, hg]
    · have h : ¬ (0 : Int) < (m : Int) := fun z => h (decide_eq_true z)
      have hm : m = 0 := by omega
      subst hm
      refine ⟨_, rfl, ?_⟩
      rw [Nat.gcd_zero_right] at hg
      rw [hg]; exact q

theorem good_divisor (Z : CT K mg) : GoodF (CX0) P w K mg base 1 "_law_divisor" ["_law_one", "_law_other"] (spDivisor) := Z.good 43 20 d_divisor (fun _ _ _ _ _ _ us hl => match us, hl with | [_, _], _ => rfl) fun _ F => ok_divisor Z F
/-- the value is due, in lowest terms -/
def spRight (K : PySem.W.Frag) : Sp := fun vs H Q _ => ∃ (a d : Addr) (p : Int × Int) (t b : Int), vs = [.ref a, .ref d] ∧ RAt K H a p ∧ Can p ∧ Okq 3900 p ∧ H d = some (.tup [.int t, .int b]) ∧ t.natAbs < 2 ^ 3900 ∧ b.natAbs < 2 ^ 3900 ∧ p.1 * b = t * p.2 ∧ ∀ H', Same H H' → Q (.bl true) H'
theorem ok_right (Z : CT K mg) (F : FunD K d_right.name d_right.qual d_right.params d_right.body d_right.scope [] [] f fd) : FnOk P w K mg base (CX0) 3 f fd ["_law_found", "_law_due"] (spRight K) := by
  refine F.ok sc_right (fun vs H Q E h => ?_) (fun cdv A outer s H vs Q E hr h => ?_)
  · obtain ⟨a, d, p, t, b, rfl, _⟩ := h
    rfl
  · obtain ⟨a, d, p, t, b, rfl, ha, hc, o1, hd, u1, u2, e, q⟩ := h
    refine ⟨_, (pss_cons (ps_if (PW.pt (pw_or (pt_not (pt_val (gcall (good_is_ratio Z) hr (pa_cons (pv 0) pa_nil) pass0) (fun _ => rfl))) (pw_or1 (pt_not (pt_val (gcall (good_same Z) hr (pa_cons (gcall (good_pair Z) hr (pa_cons (pv 0) pa_nil) pass0) (pa_cons (pv 1) pa_nil)) pass0) (fun _ => rfl)))))) (pss_one (ps_ret pe_bl)) pss_nil)
      (pss_one (ps_ret (pe_cmpR op_eq (gcall (good_divisor Z) hr (pa_cons (pe_callB call_abs (by rfl) (m_abs Z) boot_abs (pa_cons (pe_fld (pv 0) rfl) pa_nil)) (pa_cons (pe_fld (pv 0) rfl) pa_nil)) pass0) (pe_int) (nomark _))))), ?_⟩
    refine ⟨_, rfl, a, p, rfl, ha, hc.1, true, rfl, ?_⟩
    refine ⟨_, rfl, a, p, rfl, ha, fun c H1 s1 h1 n1 => ⟨_, rfl, c, d, p.1, p.2, t, b, rfl, h1, s1 _ _ hd, o1.1, o1.2.1, u1, u2, e, true, rfl, iteF ?_⟩⟩
    obtain ⟨dx, hx⟩ := ha.same s1
    refine ⟨_, rfl, a, _, dx, _, _, rfl, hx, (rc Z).cl, (rc Z).nT, rfs_top _ _, _, rfl, _, rfl, a, _, dx, _, _, rfl, hx, (rc Z).cl, (rc Z).nB, rfs_bot _ _, p.1.natAbs, p.2.natAbs, ?_, rfl, ?_⟩
    · have h1 := hc.1
      show [V.int _, V.int _] = _
      rw [show (if p.1 < 0 then -p.1 else p.1) = (p.1.natAbs : Int) by split <;> omega, show p.2 = (p.2.natAbs : Int) by omega]
      simp
    · show Q (.bl (decide (V.int _ = V.int 1))) H1
      rw [hc.2]
      exact q _ s1

theorem good_right (Z : CT K mg) : GoodF (CX0) P w K mg base 3 "_law_right" ["_law_found", "_law_due"] (spRight K) := Z.good 44 21 d_right (fun _ _ _ _ _ _ us hl => match us, hl with | [_, _], _ => rfl) fun _ F => ok_right Z F
end
end My

namespace My
open PySem PySem.Spec PyProof.Rows L2 PySem.Calls

/-! ### values as fractions -/
theorem cancel {x y z : Int} (hz : z ≠ 0) (h : x * z = y * z) : x = y := Int.eq_of_mul_eq_mul_right hz h
section
variable {p q : Int × Int} {a1 a2 b1 b2 : Int}
theorem e_add (hp : p.2 ≠ 0) (hq : q.2 ≠ 0) (e1 : p.1 * a2 = a1 * p.2) (e2 : q.1 * b2 = b1 * q.2) : (addQ p q).1 * (a2 * b2) = (a1 * b2 + b1 * a2) * (addQ p q).2 := by
  have hne : p.2 * q.2 ≠ 0 := ne_mul hp hq
  have n := nrm_eq (t := p.1 * q.2 + q.1 * p.2) hne
  unfold addQ
  generalize nrm (p.1 * q.2 + q.1 * p.2) (p.2 * q.2) = r at *
  apply cancel hne
  grind
theorem e_sub (hp : p.2 ≠ 0) (hq : q.2 ≠ 0) (e1 : p.1 * a2 = a1 * p.2) (e2 : q.1 * b2 = b1 * q.2) : (subQ p q).1 * (a2 * b2) = (a1 * b2 + -b1 * a2) * (subQ p q).2 := by
  have hne : p.2 * q.2 ≠ 0 := ne_mul hp hq
  have n := nrm_eq (t := p.1 * q.2 - q.1 * p.2) hne
  unfold subQ
  generalize nrm (p.1 * q.2 - q.1 * p.2) (p.2 * q.2) = r at *
  apply cancel hne
  grind
theorem e_mul (hp : p.2 ≠ 0) (hq : q.2 ≠ 0) (e1 : p.1 * a2 = a1 * p.2) (e2 : q.1 * b2 = b1 * q.2) : (mulQ p q).1 * (a2 * b2) = (a1 * b1) * (mulQ p q).2 := by
  have hne : p.2 * q.2 ≠ 0 := ne_mul hp hq
  have n := nrm_eq (t := p.1 * q.1) hne
  unfold mulQ
  generalize nrm (p.1 * q.1) (p.2 * q.2) = r at *
  apply cancel hne
  grind
theorem e_over (hp : p.2 ≠ 0) (hq : q.1 ≠ 0) (e1 : p.1 * a2 = a1 * p.2) (e2 : q.1 * b2 = b1 * q.2) (hq2 : q.2 ≠ 0) : (overQ p q).1 * (a2 * b1) = (a1 * b2) * (overQ p q).2 := by
  have hne : p.2 * q.1 ≠ 0 := ne_mul hp hq
  have n := nrm_eq (t := p.1 * q.2) hne
  unfold overQ
  generalize nrm (p.1 * q.2) (p.2 * q.1) = r at *
  apply cancel (ne_mul hne hq2)
  grind
theorem e_pos (hp : p.2 ≠ 0) (e1 : p.1 * a2 = a1 * p.2) : (posQ p).1 * a2 = a1 * (posQ p).2 := by
  have n := nrm_eq (t := p.1) hp
  unfold posQ
  generalize nrm p.1 p.2 = r at *
  apply cancel hp
  grind
theorem e_neg (hp : p.2 ≠ 0) (e1 : p.1 * a2 = a1 * p.2) : (negQ p).1 * a2 = -a1 * (negQ p).2 := by
  have n := nrm_eq (t := -p.1) hp
  unfold negQ
  generalize nrm (-p.1) p.2 = r at *
  apply cancel hp
  grind
theorem sgn (hp : 1 ≤ p.2) (ha : 1 ≤ a2) (e1 : p.1 * a2 = a1 * p.2) : p.1 < 0 ↔ a1 < 0 := by
  constructor
  · intro h
    rcases Int.lt_or_le a1 0 with z | z
    · exact z
    · have h1 : p.1 * a2 < 0 := Int.mul_neg_of_neg_of_pos h (by omega)
      have h2 : 0 ≤ a1 * p.2 := Int.mul_nonneg z (by omega)
      omega
  · intro h
    rcases Int.lt_or_le p.1 0 with z | z
    · exact z
    · have h1 : a1 * p.2 < 0 := Int.mul_neg_of_neg_of_pos h (by omega)
      have h2 : 0 ≤ p.1 * a2 := Int.mul_nonneg z (by omega)
      omega
theorem e_abs (hp : 1 ≤ p.2) (ha : 1 ≤ a2) (e1 : p.1 * a2 = a1 * p.2) : (absQ p).1 * a2 = (if a1 < 0 then -a1 else a1) * (absQ p).2 := by
  have s := sgn hp ha e1
  have hp : p.2 ≠ 0 := by omega
  by_cases h : p.1 < 0
  · rw [if_pos (s.mp h)]
    have n := nrm_eq (t := -p.1) hp
    unfold absQ
    rw [if_pos h]
    generalize nrm (-p.1) p.2 = r at *
    apply cancel hp
    grind
  · rw [if_neg (fun z => h (s.mpr z))]
    have n := nrm_eq (t := p.1) hp
    unfold absQ
    rw [if_neg h]
    generalize nrm p.1 p.2 = r at *
    apply cancel hp
    grind
theorem e_fd {r : Int × Int} {T B : Int} (hr : 1 ≤ r.2) (hB : 0 < B) (e : r.1 * B = T * r.2) : r.1.fdiv r.2 = T / B := by
  rw [Int.fdiv_eq_ediv_of_nonneg _ (by omega)]
  rw [← Int.mul_ediv_mul_of_pos_left r.1 r.2 hB, e, Int.mul_comm r.2 B, Int.mul_ediv_mul_of_pos_left T B (by omega)]
end
theorem can_add {p q : Int × Int} (hp : p.2 ≠ 0) (hq : q.2 ≠ 0) : Can (addQ p q) := nrm_can (ne_mul hp hq)
theorem can_sub {p q : Int × Int} (hp : p.2 ≠ 0) (hq : q.2 ≠ 0) : Can (subQ p q) := nrm_can (ne_mul hp hq)
theorem can_mul {p q : Int × Int} (hp : p.2 ≠ 0) (hq : q.2 ≠ 0) : Can (mulQ p q) := nrm_can (ne_mul hp hq)
section
variable {p q : Int × Int} {B : Nat}
theorem okq_add (o1 : Okq B p) (o2 : Okq B q) : Okq (B + B + 1) (addQ p q) := ok_nrm (bnd_add (bnd_mul o1.1 o2.2.1 (by omega)) (bnd_mul o2.1 o1.2.1 (by omega))) (bnd_mul o1.2.1 o2.2.1 (by omega)) (ne_mul o1.2.2 o2.2.2)
theorem okq_sub (o1 : Okq B p) (o2 : Okq B q) : Okq (B + B + 1) (subQ p q) := ok_nrm (bnd_sub (bnd_mul o1.1 o2.2.1 (by omega)) (bnd_mul o2.1 o1.2.1 (by omega))) (bnd_mul o1.2.1 o2.2.1 (by omega)) (ne_mul o1.2.2 o2.2.2)
theorem okq_mul (o1 : Okq B p) (o2 : Okq B q) : Okq (B + B + 1) (mulQ p q) := ok_nrm (bnd_mul o1.1 o2.1 (by omega)) (bnd_mul o1.2.1 o2.2.1 (by omega)) (ne_mul o1.2.2 o2.2.2)
theorem okq_over (o1 : Okq B p) (o2 : Okq B q) (h : q.1 ≠ 0) : Okq (B + B + 1) (overQ p q) := ok_nrm (bnd_mul o1.1 o2.2.1 (by omega)) (bnd_mul o1.2.1 o2.1 (by omega)) (ne_mul o1.2.2 h)
theorem okq_neg (o1 : Okq B p) : Okq B (negQ p) := ok_nrm (by rw [Int.natAbs_neg]; exact o1.1) o1.2.1 o1.2.2
theorem okq_pos (o1 : Okq B p) : Okq B (posQ p) := ok_nrm o1.1 o1.2.1 o1.2.2
theorem okq_abs (o1 : Okq B p) : Okq B (absQ p) := ok_nrm (by have := o1.1; split <;> omega) o1.2.1 o1.2.2
end
section
variable {P : Program} {w : World} {K : PySem.W.Frag} {mg : Str → Option Value} {base : Heap} {fd : FuncData} {f : Addr}
theorem none_of {H G : Hp} {l : Addr} (s : Same H G) (n : G l = none) : H l = none := by
  cases e : H l with
  | none => rfl
  | some o => rw [s _ _ e] at n; cases n
/-- a Ratio and a number, and their values as pairs -/
structure Two (K : PySem.W.Frag) (H : Hp) (x : Addr) (y : V) (a b : Addr) (p q : Int × Int) (a1 a2 b1 b2 : Int) : Prop where
  hx : RAt K H x p
  hy : Num K H y q
  ha : H a = some (.tup [.int a1, .int a2])
  hb : H b = some (.tup [.int b1, .int b2])
  o1 : Okq 150 p
  o2 : Okq 150 q
  c1 : Can p
  c2 : Can q
  e1 : p.1 * a2 = a1 * p.2
  e2 : q.1 * b2 = b1 * q.2
  u1 : a1.natAbs < 2 ^ 150
  u2 : a2.natAbs < 2 ^ 150
  u3 : b1.natAbs < 2 ^ 150
  u4 : b2.natAbs < 2 ^ 150
  g1 : 1 ≤ a2
  g2 : 1 ≤ b2
theorem Two.same {H H' : Hp} {x : Addr} {y : V} {a b : Addr} {p q : Int × Int} {a1 a2 b1 b2 : Int} (T : Two K H x y a b p q a1 a2 b1 b2) (s : Same H H') : Two K H' x y a b p q a1 a2 b1 b2 := ⟨T.hx.same s, T.hy.same s, s _ _ T.ha, s _ _ T.hb, T.o1, T.o2, T.c1, T.c2, T.e1, T.e2, T.u1, T.u2, T.u3, T.u4, T.g1, T.g2⟩
theorem RAt.updl {H : Hp} {x l : Addr} {p : Int × Int} {xs : List V} {o : HO} (h : RAt K H x p) (hl : H l = some (.lst xs)) : RAt K (upd H l o) x p := let ⟨dx, e⟩ := h; ⟨dx, by rw [upd_ne (ne_of e hl (by intro z; cases z))]; exact e⟩
theorem tup_updl {H : Hp} {x l : Addr} {ts xs : List V} {o : HO} (h : H x = some (.tup ts)) (hl : H l = some (.lst xs)) : upd H l o x = some (.tup ts) := by rw [upd_ne (ne_of h hl (by intro z; cases z))]; exact h
theorem Num.updl {H : Hp} {l : Addr} {y : V} {q : Int × Int} {xs : List V} {o : HO} (h : Num K H y q) (hl : H l = some (.lst xs)) : Num K (upd H l o) y q := by
  cases h with
  | int n => exact .int n
  | rat h => exact .rat (h.updl hl)
theorem Two.updl {H : Hp} {l : Addr} {xs : List V} {o : HO} {x : Addr} {y : V} {a b : Addr} {p q : Int × Int} {a1 a2 b1 b2 : Int} (T : Two K H x y a b p q a1 a2 b1 b2) (hl : H l = some (.lst xs)) : Two K (upd H l o) x y a b p q a1 a2 b1 b2 := ⟨T.hx.updl hl, T.hy.updl hl, tup_updl T.ha hl, tup_updl T.hb hl, T.o1, T.o2, T.c1, T.c2, T.e1, T.e2, T.u1, T.u2, T.u3, T.u4, T.g1, T.g2⟩
def spTwo (K : PySem.W.Frag) : Sp := fun vs H Q _ => ∃ (x : Addr) (y : V) (a b : Addr) (p q : Int × Int) (a1 a2 b1 b2 : Int), vs = [.ref x, y, .ref a, .ref b] ∧ Two K H x y a b p q a1 a2 b1 b2 ∧ ∀ H', Same H H' → Q (.bl true) H'
theorem ok_plain (Z : CT K mg) (F : FunD K d_plain.name d_plain.qual d_plain.params d_plain.body d_plain.scope [] [] f fd) : FnOk P w K mg base (CX0) 8 f fd ["_law_one", "_law_other", "_law_a", "_law_b"] (spTwo K) := by
  refine F.ok sc_plain (fun vs H Q E h => ?_) (fun cdv A outer s H vs Q E hr h => ?_)
  · obtain ⟨x, y, a, b, p, q, a1, a2, b1, b2, rfl, _⟩ := h
    rfl
  · obtain ⟨x, y, a, b, p, q, a1, a2, b1, b2, rfl, T, q0⟩ := h
    refine ⟨_, (pss_cons (ps_set (i := 4) sc_plain.nd rfl (Or.inl rfl) (gcall (good_sum Z) hr (pa_cons (pe_lstN (pa_cons (pv 2) (pa_cons (pv 3) pa_nil))) pa_nil) pass0))
      (pss_cons (ps_set (i := 5) sc_plain.nd rfl (Or.inl rfl) (gcall (good_sum Z) hr (pa_cons (pe_lstN (pa_cons (pv 2) (pa_cons (pe_tupN (pa_cons (pe_un un_neg (pe_ix ix_tup (pv 3) pe_int (fun _ _ => rfl))) (pa_cons (pe_ix ix_tup (pv 3) pe_int (fun _ _ => rfl)) pa_nil))) pa_nil))) pa_nil) pass0))
      (pss_cons (ps_set (i := 6) sc_plain.nd rfl (Or.inl rfl) (pe_tupN (pa_cons (pe_un un_neg (pe_ix ix_tup (pv 5) pe_int (fun _ _ => rfl))) (pa_cons (pe_ix ix_tup (pv 5) pe_int (fun _ _ => rfl)) pa_nil))))
      (pss_cons (ps_set (i := 7) sc_plain.nd rfl (Or.inl rfl) (pe_tupN (pa_cons (pe_op op_mulW (pe_ix ix_tup (pv 2) pe_int (fun _ _ => rfl)) (pe_ix ix_tup (pv 3) pe_int (fun _ _ => rfl))) (pa_cons (pe_op op_mulW (pe_ix ix_tup (pv 2) pe_int (fun _ _ => rfl)) (pe_ix ix_tup (pv 3) pe_int (fun _ _ => rfl))) pa_nil))))
      (pss_cons (ps_set (i := 8) sc_plain.nd rfl (Or.inl rfl) (pe_lstN (pa_cons (gcall (good_right Z) hr (pa_cons (pe_op (opAdd Z hr ) (pv 0) (pv 1)) (pa_cons (pv 4) pa_nil)) pass0) (pa_cons (gcall (good_right Z) hr (pa_cons (pe_op (opAdd Z hr ) (pv 1) (pv 0)) (pa_cons (pv 4) pa_nil)) pass0) pa_nil))))
      (pss_cons (ps_set (i := 8) sc_plain.nd rfl (Or.inl rfl) (pe_op op_catN (pv 8) (pe_lstN (pa_cons (gcall (good_right Z) hr (pa_cons (pe_op (opSub Z hr ) (pv 0) (pv 1)) (pa_cons (pv 5) pa_nil)) pass0) (pa_cons (gcall (good_right Z) hr (pa_cons (pe_op (opSub Z hr ) (pv 1) (pv 0)) (pa_cons (pv 6) pa_nil)) pass0) pa_nil)))))
      (pss_cons (ps_set (i := 8) sc_plain.nd rfl (Or.inl rfl) (pe_op op_catN (pv 8) (pe_lstN (pa_cons (gcall (good_right Z) hr (pa_cons (pe_op (opMul Z hr ) (pv 0) (pv 1)) (pa_cons (pv 7) pa_nil)) pass0) (pa_cons (gcall (good_right Z) hr (pa_cons (pe_op (opMul Z hr ) (pv 1) (pv 0)) (pa_cons (pv 7) pa_nil)) pass0) pa_nil)))))
      (pss_cons (ps_set (i := 8) sc_plain.nd rfl (Or.inl rfl) (pe_op op_catN (pv 8) (pe_lstN (pa_cons (gcall (good_right Z) hr (pa_cons (pe_un (un_negR Z (good_Ratio_neg Z) hr) (pv 0)) (pa_cons (pe_tupN (pa_cons (pe_un un_neg (pe_ix ix_tup (pv 2) pe_int (fun _ _ => rfl))) (pa_cons (pe_ix ix_tup (pv 2) pe_int (fun _ _ => rfl)) pa_nil))) pa_nil)) pass0) (pa_cons (gcall (good_right Z) hr (pa_cons (pe_un (un_posR Z (good_Ratio_pos Z) hr) (pv 0)) (pa_cons (pv 2) pa_nil)) pass0) (pa_cons (gcall (good_right Z) hr (pa_cons (pe_callB (call_absR Z (good_Ratio_abs Z) hr) (by rfl) (m_abs Z) boot_abs (pa_cons (pv 0) pa_nil)) (pa_cons (gcall (good_abs Z) hr (pa_cons (pv 2) pa_nil) pass0) pa_nil)) pass0) pa_nil))))))
      (pss_cons (ps_set (i := 9) sc_plain.nd rfl (Or.inl rfl) (pv 0))
      (pss_cons (ps_aug (i := 0) sc_plain.nd rfl (Or.inl rfl) (pv 1) (ip_of (iop_addR Z hr)))
      (pss_cons (ps_expr (pe_bm PySem.F.plainAttrs_list PySem.F.slot_list_append PySem.F.type_list_append mt_append (pv 8) (pa_cons (gcall (good_right Z) hr (pa_cons (pv 0) (pa_cons (pv 4) pa_nil)) pass0) pa_nil)))
      (pss_cons (ps_expr (pe_bm PySem.F.plainAttrs_list PySem.F.slot_list_append PySem.F.type_list_append mt_append (pv 8) (pa_cons (gcall (good_right Z) hr (pa_cons (pv 9) (pa_cons (pv 2) pa_nil)) pass0) pa_nil)))
      (pss_one (ps_ret (pe_callB (cr_all rfl) (by rfl) (m_all Z) boot_all (pa_cons (pv 8) pa_nil)))))))))))))))), ?_⟩
    -- the sums
    refine ⟨_, rfl, _, rfl, rfl, fun l1 G1 s1 hl1 n1 => ⟨l1, a, b, a1, a2, b1, b2, rfl, hl1, s1 _ _ T.ha, s1 _ _ T.hb, bnd_le T.u1 (by decide), bnd_le T.u2 (by decide), bnd_le T.u3 (by decide), bnd_le T.u4 (by decide), fun c4 G2 s2 h4 n2 => ?_⟩⟩
    have z2 := s1.trans s2
    have T := T.same z2
    refine ⟨_, rfl, _, rfl, b, _, 0, _, rfl, rfl, SqT.of T.hb, rfl, _, rfl, _, rfl, b, _, 1, _, rfl, rfl, SqT.of T.hb, rfl, rfl, fun t3 G3 s3 ht3 n3 => ⟨rfl, fun l4 G4 s4 hl4 n4 => ?_⟩⟩
    refine ⟨l4, a, t3, a1, a2, -b1, b2, rfl, hl4, s4 _ _ (s3 _ _ T.ha), s4 _ _ ht3, bnd_le T.u1 (by decide), bnd_le T.u2 (by decide), by rw [Int.natAbs_neg]; exact bnd_le T.u3 (by decide), bnd_le T.u4 (by decide), fun c5 G5 s5 h5 n5 => ?_⟩
    have z5 := (s3.trans s4).trans s5
    have T := T.same z5
    have h4 := z5 _ _ h4
    refine ⟨_, rfl, c5, _, 0, _, rfl, rfl, SqT.of h5, rfl, _, rfl, _, rfl, c5, _, 1, _, rfl, rfl, SqT.of h5, rfl, rfl, fun c6 G6 s6 h6 n6 => ?_⟩
    have T := T.same s6
    have h4 := s6 _ _ h4
    have h5 := s6 _ _ h5
    refine ⟨_, rfl, a, _, 0, _, rfl, rfl, SqT.of T.ha, rfl, _, rfl, b, _, 0, _, rfl, rfl, SqT.of T.hb, rfl, _, _, rfl, rfl, mulW T.u1 T.u3 (by decide) (by decide), _, rfl, a, _, 1, _, rfl, rfl, SqT.of T.ha, rfl, _, rfl, b, _, 1, _, rfl, rfl, SqT.of T.hb, rfl, _, _, rfl, rfl, mulW T.u2 T.u4 (by decide) (by decide), rfl, fun c7 G7 s7 h7 n7 => ?_⟩
    have T := T.same s7
    have h4 := s7 _ _ h4
    have h5 := s7 _ _ h5
    have h6 := s7 _ _ h6
    have zz := (((z2.trans z5).trans s6).trans s7)
    have np : p.2 ≠ 0 := T.o1.2.2
    have nq : q.2 ≠ 0 := T.o2.2.2
    have m1 : (a1 * b2 + b1 * a2).natAbs < 2 ^ 3900 := bnd_le (bnd_add (bnd_mul T.u1 T.u4 (Nat.le_refl _)) (bnd_mul T.u3 T.u2 (Nat.le_refl _))) (by decide)
    have m2 : (a2 * b2).natAbs < 2 ^ 3900 := bnd_mul T.u2 T.u4 (by decide)
    have m3 : (a1 * b2 + -b1 * a2).natAbs < 2 ^ 3900 := bnd_le (bnd_add (bnd_mul T.u1 T.u4 (Nat.le_refl _)) (bnd_mul (by rw [Int.natAbs_neg]; exact T.u3) T.u2 (Nat.le_refl _))) (by decide)
    have m4 : (-(a1 * b2 + -b1 * a2)).natAbs < 2 ^ 3900 := by rw [Int.natAbs_neg]; exact m3
    have m5 : (a1 * b1).natAbs < 2 ^ 3900 := bnd_mul T.u1 T.u3 (by decide)
    have k1 : Okq 3900 p := T.o1.le (by decide)
    have k2 : Okq 3900 q := T.o2.le (by decide)
    have v1 := e_add np nq T.e1 T.e2
    have v2 := e_sub np nq T.e1 T.e2
    have v3 : (addQ q p).1 * (a2 * b2) = (a1 * b2 + b1 * a2) * (addQ q p).2 := by rw [addQ_comm]; exact v1
    have v4 : (subQ q p).1 * (a2 * b2) = -(a1 * b2 + -b1 * a2) * (subQ q p).2 := by have := e_sub nq np T.e2 T.e1; grind
    have v5 := e_mul np nq T.e1 T.e2
    have v6 : (mulQ q p).1 * (a2 * b2) = (a1 * b1) * (mulQ q p).2 := by rw [mulQ_comm]; exact v5
    refine ⟨_, rfl, _, rfl, p, q, .rat T.hx, T.hy, .inl ⟨_, rfl⟩, k1, k2, fun r11 G11 s11 w11 => ?_⟩
    have T := T.same s11
    have h4 := s11 _ _ h4
    have h5 := s11 _ _ h5
    have h6 := s11 _ _ h6
    have h7 := s11 _ _ h7
    have zz := zz.trans s11
    refine ⟨_, rfl, r11, c4, addQ p q, _, _, rfl, w11, can_add np nq, (okq_add T.o1 T.o2).le (by decide), h4, m1, m2, v1, fun G12 s12 => ?_⟩
    have T := T.same s12
    have h4 := s12 _ _ h4
    have h5 := s12 _ _ h5
    have h6 := s12 _ _ h6
    have h7 := s12 _ _ h7
    have zz := zz.trans s12
    refine ⟨_, rfl, _, rfl, q, p, T.hy, .rat T.hx, .inr ⟨_, rfl⟩, k2, k1, fun r13 G13 s13 w13 => ?_⟩
    have T := T.same s13
    have h4 := s13 _ _ h4
    have h5 := s13 _ _ h5
    have h6 := s13 _ _ h6
    have h7 := s13 _ _ h7
    have zz := zz.trans s13
    refine ⟨_, rfl, r13, c4, addQ q p, _, _, rfl, w13, can_add nq np, (okq_add T.o2 T.o1).le (by decide), h4, m1, m2, v3, fun G14 s14 => ?_⟩
    have T := T.same s14
    have h4 := s14 _ _ h4
    have h5 := s14 _ _ h5
    have h6 := s14 _ _ h6
    have h7 := s14 _ _ h7
    have zz := zz.trans s14
    refine ⟨rfl, fun l G15 s15 hl n15 => ?_⟩
    have T := T.same s15
    have h4 := s15 _ _ h4
    have h5 := s15 _ _ h5
    have h6 := s15 _ _ h6
    have h7 := s15 _ _ h7
    have zz := zz.trans s15
    refine ⟨_, rfl, ?_⟩
    refine ⟨_, rfl, _, rfl, p, q, .rat T.hx, T.hy, .inl ⟨_, rfl⟩, k1, k2, fun r16 G16 s16 w16 => ?_⟩
    have T := T.same s16
    have h4 := s16 _ _ h4
    have h5 := s16 _ _ h5
    have h6 := s16 _ _ h6
    have h7 := s16 _ _ h7
    have zz := zz.trans s16
    have hl := s16 _ _ hl
    refine ⟨_, rfl, r16, c5, subQ p q, _, _, rfl, w16, can_sub np nq, (okq_sub T.o1 T.o2).le (by decide), h5, m3, m2, v2, fun G17 s17 => ?_⟩
    have T := T.same s17
    have h4 := s17 _ _ h4
    have h5 := s17 _ _ h5
    have h6 := s17 _ _ h6
    have h7 := s17 _ _ h7
    have zz := zz.trans s17
    have hl := s17 _ _ hl
    refine ⟨_, rfl, _, rfl, q, p, T.hy, .rat T.hx, .inr ⟨_, rfl⟩, k2, k1, fun r18 G18 s18 w18 => ?_⟩
    have T := T.same s18
    have h4 := s18 _ _ h4
    have h5 := s18 _ _ h5
    have h6 := s18 _ _ h6
    have h7 := s18 _ _ h7
    have zz := zz.trans s18
    have hl := s18 _ _ hl
    refine ⟨_, rfl, r18, c6, subQ q p, _, _, rfl, w18, can_sub nq np, (okq_sub T.o2 T.o1).le (by decide), h6, m4, m2, v4, fun G19 s19 => ?_⟩
    have T := T.same s19
    have h4 := s19 _ _ h4
    have h5 := s19 _ _ h5
    have h6 := s19 _ _ h6
    have h7 := s19 _ _ h7
    have zz := zz.trans s19
    have hl := s19 _ _ hl
    refine ⟨rfl, fun l20 G20 s20 hm20 n20 => ⟨l, l20, _, _, rfl, rfl, s20 _ _ hl, hm20, rfl, fun l G21 s21 hl n21 => ?_⟩⟩
    have T := T.same s20
    have h4 := s20 _ _ h4
    have h5 := s20 _ _ h5
    have h6 := s20 _ _ h6
    have h7 := s20 _ _ h7
    have zz := zz.trans s20
    have zl := zz
    have T := T.same s21
    have h4 := s21 _ _ h4
    have h5 := s21 _ _ h5
    have h6 := s21 _ _ h6
    have h7 := s21 _ _ h7
    have zz := zz.trans s21
    refine ⟨_, rfl, ?_⟩
    refine ⟨_, rfl, _, rfl, p, q, .rat T.hx, T.hy, .inl ⟨_, rfl⟩, k1, k2, fun r22 G22 s22 w22 => ?_⟩
    have T := T.same s22
    have h4 := s22 _ _ h4
    have h5 := s22 _ _ h5
    have h6 := s22 _ _ h6
    have h7 := s22 _ _ h7
    have zz := zz.trans s22
    have hl := s22 _ _ hl
    refine ⟨_, rfl, r22, c7, mulQ p q, _, _, rfl, w22, can_mul np nq, (okq_mul T.o1 T.o2).le (by decide), h7, m5, m2, v5, fun G23 s23 => ?_⟩
    have T := T.same s23
    have h4 := s23 _ _ h4
    have h5 := s23 _ _ h5
    have h6 := s23 _ _ h6
    have h7 := s23 _ _ h7
    have zz := zz.trans s23
    have hl := s23 _ _ hl
    refine ⟨_, rfl, _, rfl, q, p, T.hy, .rat T.hx, .inr ⟨_, rfl⟩, k2, k1, fun r24 G24 s24 w24 => ?_⟩
    have T := T.same s24
    have h4 := s24 _ _ h4
    have h5 := s24 _ _ h5
    have h6 := s24 _ _ h6
    have h7 := s24 _ _ h7
    have zz := zz.trans s24
    have hl := s24 _ _ hl
    refine ⟨_, rfl, r24, c7, mulQ q p, _, _, rfl, w24, can_mul nq np, (okq_mul T.o2 T.o1).le (by decide), h7, m5, m2, v6, fun G25 s25 => ?_⟩
    have T := T.same s25
    have h4 := s25 _ _ h4
    have h5 := s25 _ _ h5
    have h6 := s25 _ _ h6
    have h7 := s25 _ _ h7
    have zz := zz.trans s25
    have hl := s25 _ _ hl
    refine ⟨rfl, fun l26 G26 s26 hm26 n26 => ⟨l, l26, _, _, rfl, rfl, s26 _ _ hl, hm26, rfl, fun l G27 s27 hl n27 => ?_⟩⟩
    have T := T.same s26
    have h4 := s26 _ _ h4
    have h5 := s26 _ _ h5
    have h6 := s26 _ _ h6
    have h7 := s26 _ _ h7
    have zz := zz.trans s26
    have zl := zz
    have T := T.same s27
    have h4 := s27 _ _ h4
    have h5 := s27 _ _ h5
    have h6 := s27 _ _ h6
    have h7 := s27 _ _ h7
    have zz := zz.trans s27
    refine ⟨_, rfl, ?_⟩
    have d1 : a1.natAbs < 2 ^ 3900 := bnd_le T.u1 (by decide)
    have d2 : a2.natAbs < 2 ^ 3900 := bnd_le T.u2 (by decide)
    refine ⟨_, rfl, x, p, rfl, T.hx, k1, fun r28 G28 s28 w28 => ?_⟩
    have T := T.same s28
    have h4 := s28 _ _ h4
    have h5 := s28 _ _ h5
    have h6 := s28 _ _ h6
    have h7 := s28 _ _ h7
    have zz := zz.trans s28
    have hl := s28 _ _ hl
    refine ⟨_, rfl, a, _, 0, _, rfl, rfl, SqT.of T.ha, rfl, _, rfl, _, rfl, a, _, 1, _, rfl, rfl, SqT.of T.ha, rfl, rfl, fun t29 G29 s29 q29 n29 => ?_⟩
    have T := T.same s29
    have h4 := s29 _ _ h4
    have h5 := s29 _ _ h5
    have h6 := s29 _ _ h6
    have h7 := s29 _ _ h7
    have zz := zz.trans s29
    have hl := s29 _ _ hl
    refine ⟨r28, t29, negQ p, _, _, rfl, w28.same s29, nrm_can np, (okq_neg T.o1).le (by decide), q29, by rw [Int.natAbs_neg]; exact d1, d2, e_neg np T.e1, fun G30 s30 => ?_⟩
    have T := T.same s30
    have h4 := s30 _ _ h4
    have h5 := s30 _ _ h5
    have h6 := s30 _ _ h6
    have h7 := s30 _ _ h7
    have zz := zz.trans s30
    have hl := s30 _ _ hl
    refine ⟨_, rfl, x, p, rfl, T.hx, k1, fun r31 G31 s31 w31 => ?_⟩
    have T := T.same s31
    have h4 := s31 _ _ h4
    have h5 := s31 _ _ h5
    have h6 := s31 _ _ h6
    have h7 := s31 _ _ h7
    have zz := zz.trans s31
    have hl := s31 _ _ hl
    refine ⟨_, rfl, r31, a, posQ p, _, _, rfl, w31, nrm_can np, (okq_pos T.o1).le (by decide), T.ha, d1, d2, e_pos np T.e1, fun G32 s32 => ?_⟩
    have T := T.same s32
    have h4 := s32 _ _ h4
    have h5 := s32 _ _ h5
    have h6 := s32 _ _ h6
    have h7 := s32 _ _ h7
    have zz := zz.trans s32
    have hl := s32 _ _ hl
    refine ⟨_, rfl, x, p, rfl, T.hx, k1, fun r33 G33 s33 w33 => ?_⟩
    have T := T.same s33
    have h4 := s33 _ _ h4
    have h5 := s33 _ _ h5
    have h6 := s33 _ _ h6
    have h7 := s33 _ _ h7
    have zz := zz.trans s33
    have hl := s33 _ _ hl
    refine ⟨_, rfl, a, a1, a2, rfl, T.ha, fun t34 G34 s34 q34 n34 => ?_⟩
    have T := T.same s34
    have h4 := s34 _ _ h4
    have h5 := s34 _ _ h5
    have h6 := s34 _ _ h6
    have h7 := s34 _ _ h7
    have zz := zz.trans s34
    have hl := s34 _ _ hl
    refine ⟨r33, t34, absQ p, _, _, rfl, w33.same s34, nrm_can np, (okq_abs T.o1).le (by decide), q34, by split <;> omega, d2, e_abs T.c1.1 T.g1 T.e1, fun G35 s35 => ?_⟩
    have T := T.same s35
    have h4 := s35 _ _ h4
    have h5 := s35 _ _ h5
    have h6 := s35 _ _ h6
    have h7 := s35 _ _ h7
    have zz := zz.trans s35
    have hl := s35 _ _ hl
    refine ⟨rfl, fun l36 G36 s36 hm36 n36 => ⟨l, l36, _, _, rfl, rfl, s36 _ _ hl, hm36, rfl, fun l G37 s37 hl n37 => ?_⟩⟩
    have T := T.same s36
    have h4 := s36 _ _ h4
    have h5 := s36 _ _ h5
    have h6 := s36 _ _ h6
    have h7 := s36 _ _ h7
    have zz := zz.trans s36
    have zl := zz
    have T := T.same s37
    have h4 := s37 _ _ h4
    have h5 := s37 _ _ h5
    have h6 := s37 _ _ h6
    have h7 := s37 _ _ h7
    have zz := zz.trans s37
    have hln : H l = none := none_of zl n37
    refine ⟨_, rfl, ?_⟩
    refine ⟨_, rfl, _, rfl, x, p, q, rfl, T.hx, T.hy, k1, k2, fun r38 G38 s38 w38 => ?_⟩
    have T := T.same s38
    have h4 := s38 _ _ h4
    have h5 := s38 _ _ h5
    have h6 := s38 _ _ h6
    have h7 := s38 _ _ h7
    have zz := zz.trans s38
    have hl := s38 _ _ hl
    have wr := w38
    refine ⟨_, rfl, .inl ⟨rfl, _, SqL.of hl⟩, _, rfl, _, rfl, r38, c4, addQ p q, _, _, rfl, wr, can_add np nq, (okq_add T.o1 T.o2).le (by decide), h4, m1, m2, v1, fun G39 s39 => ?_⟩
    have T := T.same s39
    have h4 := s39 _ _ h4
    have h5 := s39 _ _ h5
    have h6 := s39 _ _ h6
    have h7 := s39 _ _ h7
    have zz := zz.trans s39
    have hl := s39 _ _ hl
    have wr := wr.same s39
    refine ⟨l, _, _, rfl, rfl, hl, by decide, ?_⟩
    have T2 : ∀ o, Two K (upd G39 l o) x y a b p q a1 a2 b1 b2 := fun o => T.updl hl
    refine ⟨_, rfl, .inl ⟨rfl, _, SqL.of upd_same⟩, _, rfl, _, rfl, x, a, p, _, _, rfl, (T2 _).hx, T.c1, k1, (T2 _).ha, d1, d2, T.e1, fun G40 s40 => ?_⟩
    refine ⟨l, _, _, rfl, rfl, s40 _ _ upd_same, by decide, ?_⟩
    refine ⟨_, rfl, l, [true, true, true, true, true, true, true, true, true, true, true], rfl, SqL.of upd_same, ?_⟩
    exact q0 _ fun b o z => by rw [upd_ne (ne_of_none z hln)]; exact s40 _ _ (by rw [upd_ne (ne_of_none z hln)]; exact zz _ _ z)

theorem good_plain (Z : CT K mg) : GoodF (CX0) P w K mg base 8 "_law_plain" ["_law_one", "_law_other", "_law_a", "_law_b"] (spTwo K) := Z.good 45 22 d_plain (fun _ _ _ _ _ _ us hl => match us, hl with | [_, _, _, _], _ => rfl) fun _ F => ok_plain Z F
end
end My

namespace My
open PySem PySem.Spec PyProof.Rows L2 PySem.Calls
section
variable {p q : Int × Int} {a1 a2 b1 b2 k : Int}
theorem mod_e (hp : p.2 ≠ 0) (hq : q.2 ≠ 0) (e1 : p.1 * a2 = a1 * p.2) (e2 : q.1 * b2 = b1 * q.2) : (subQ p (mulQ q (k, 1))).1 * (a2 * b2) = (a1 * b2 + -b1 * k * a2) * (subQ p (mulQ q (k, 1))).2 := by
  have m := e_mul (q := (k, 1)) (b1 := k) (b2 := 1) hq (by show (1 : Int) ≠ 0; decide) e2 rfl
  rw [Int.mul_one] at m
  have nm : (mulQ q (k, 1)).2 ≠ 0 := by
    have := (can_mul (q := (k, 1)) hq (by show (1 : Int) ≠ 0; decide)).1
    omega
  have r := e_sub hp nm e1 m
  rw [← Int.neg_mul] at r
  exact r
theorem mod_can (hp : p.2 ≠ 0) (hq : q.2 ≠ 0) : Can (subQ p (mulQ q (k, 1))) := can_sub hp (by
    have := (can_mul (q := (k, 1)) hq (by show (1 : Int) ≠ 0; decide)).1
    omega)
theorem mod_ok (o1 : Okq 150 p) (o2 : Okq 150 q) (hk : k.natAbs < 2 ^ 300) : Okq 3900 (subQ p (mulQ q (k, 1))) :=
  (okq_sub (B := 601) (o1.le (by decide)) (okq_mul (B := 300) (o2.le (by decide)) (ok_int hk (by decide)))).le (by decide)
theorem div_le {T B : Int} (hB : 0 < B) (h : T.natAbs < 2 ^ 300) : (T / B).natAbs < 2 ^ 300 := Nat.lt_of_le_of_lt (Int.natAbs_ediv_le_natAbs T B) h
theorem val_ne (hb : b1 ≠ 0) (hq : q.2 ≠ 0) (e2 : q.1 * b2 = b1 * q.2) : q.1 ≠ 0 := fun z => by
  rw [z, Int.zero_mul] at e2
  rcases Int.mul_eq_zero.mp e2.symm with h | h
  · exact hb h
  · exact hq h
end
section
variable {P : Program} {w : World} {K : PySem.W.Frag} {mg : Str → Option Value} {base : Heap} {fd : FuncData} {f : Addr}
theorem ok_divided (Z : CT K mg) (F : FunD K d_divided.name d_divided.qual d_divided.params d_divided.body d_divided.scope [] [] f fd) : FnOk P w K mg base (CX0) 9 f fd ["_law_one", "_law_other", "_law_a", "_law_b"] (spTwo K) := by
  refine F.ok sc_divided (fun vs H Q E h => ?_) (fun cdv A outer s H vs Q E hr h => ?_)
  · obtain ⟨x, y, a, b, p, q, a1, a2, b1, b2, rfl, _⟩ := h
    rfl
  · obtain ⟨x, y, a, b, p, q, a1, a2, b1, b2, rfl, T, q0⟩ := h
    refine ⟨_, (pss_cons (ps_if (pt_cmpR op_eq (pe_ix ix_tup (pv 3) pe_int (fun _ _ => rfl)) (pe_int) (nomark _)) (pss_one (ps_ret pe_bl)) pss_nil)
      (pss_cons (ps_set (i := 4) sc_divided.nd rfl (Or.inl rfl) (pe_op op_mulW (pe_ix ix_tup (pv 2) pe_int (fun _ _ => rfl)) (pe_ix ix_tup (pv 3) pe_int (fun _ _ => rfl))))
      (pss_cons (ps_set (i := 5) sc_divided.nd rfl (Or.inl rfl) (pe_op op_mulW (pe_ix ix_tup (pv 2) pe_int (fun _ _ => rfl)) (pe_ix ix_tup (pv 3) pe_int (fun _ _ => rfl))))
      (pss_cons (ps_if (pt_cmpR op_lt (pv 5) (pe_int) (nomark _)) (pss_cons (ps_set (i := 4) sc_divided.nd rfl (Or.inl rfl) (pe_un un_neg (pv 4)))
      (pss_one (ps_set (i := 5) sc_divided.nd rfl (Or.inl rfl) (pe_un un_neg (pv 5))))) pss_nil)
      (pss_cons (ps_set (i := 6) sc_divided.nd rfl (Or.inl rfl) (pe_op (opFd Z hr passN) (pv 0) (pv 1)))
      (pss_cons (ps_set (i := 7) sc_divided.nd rfl (Or.inl rfl) (gcall (good_sum Z) hr (pa_cons (pe_lstN (pa_cons (pv 2) (pa_cons (pe_tupN (pa_cons (pe_op op_mulW (pe_un un_neg (pe_ix ix_tup (pv 3) pe_int (fun _ _ => rfl))) (pe_op op_fdivW (pv 4) (pv 5))) (pa_cons (pe_ix ix_tup (pv 3) pe_int (fun _ _ => rfl)) pa_nil))) pa_nil))) pa_nil) pass0))
      (pss_cons (ps_if (PW.pt (pw_or (pt_not (pt_val (gcall (good_Lis_integer Z) hr (pa_cons (pv 6) pa_nil) pass0) (fun _ => rfl))) (pw_or1 (pt_cmpR op_ne (pv 6) (pe_op op_fdivW (pv 4) (pv 5)) (nomark _))))) (pss_one (ps_ret pe_bl)) pss_nil)
      (pss_one (ps_ret ((pe_and (gcall (good_right Z) hr (pa_cons (pe_op (opMod Z hr passN) (pv 0) (pv 1)) (pa_cons (pv 7) pa_nil)) pass0) (pe_one (gcall (good_right Z) hr (pa_cons (overM Z hr (pv 0) (pa_cons (pv 1) pa_nil) passN) (pa_cons (pe_tupN (pa_cons (pv 4) (pa_cons (pv 5) pa_nil))) pa_nil)) pass0))))))))))))), ?_⟩
    refine ⟨_, rfl, b, _, 0, _, rfl, rfl, SqT.of T.hb, rfl, rfl, _, rfl, ite2 (fun h0 => q0 _ (Same.refl H)) (fun h0 => ?_)⟩
    have h0 : b1 ≠ 0 := fun z => h0 (by rw [z]; rfl)
    have np : p.2 ≠ 0 := T.o1.2.2
    have nq : q.2 ≠ 0 := T.o2.2.2
    have hq : q.1 ≠ 0 := val_ne h0 nq T.e2
    have ho := e_over np hq T.e1 T.e2 nq
    have co : Can (overQ p q) := nrm_can (ne_mul np hq)
    have h2 : a2 * b1 ≠ 0 := ne_mul (by have := T.g1; omega) h0
    have t1 : (a1 * b2).natAbs < 2 ^ 300 := bnd_mul T.u1 T.u4 (by decide)
    have t2 : (a2 * b1).natAbs < 2 ^ 300 := bnd_mul T.u2 T.u3 (by decide)
    refine ⟨_, rfl, a, _, 0, _, rfl, rfl, SqT.of T.ha, rfl, _, rfl, b, _, 1, _, rfl, rfl, SqT.of T.hb, rfl, _, _, rfl, rfl, mulW T.u1 T.u4 (by decide) (by decide), _, rfl, a, _, 1, _, rfl, rfl, SqT.of T.ha, rfl, _, rfl, b, _, 0, _, rfl, rfl, SqT.of T.hb, rfl, _, _, rfl, rfl, mulW T.u2 T.u3 (by decide) (by decide), ?_⟩
    refine ⟨_, rfl, _, _, rfl, rfl, _, rfl, ite2 (fun hn => ?_) (fun hn => ?_)⟩
    · have hn : a2 * b1 < 0 := of_decide_eq_true hn
      refine ⟨_, rfl, _, rfl, _, rfl, _, rfl, ?_⟩
      have hB : 0 < -(a2 * b1) := by omega
      have e3 : (overQ p q).1 * (-(a2 * b1)) = -(a1 * b2) * (overQ p q).2 := by rw [Int.mul_neg, ho, Int.neg_mul]
      have t1 : (-(a1 * b2)).natAbs < 2 ^ 300 := by rw [Int.natAbs_neg]; exact t1
      have t2 : (-(a2 * b1)).natAbs < 2 ^ 300 := by rw [Int.natAbs_neg]; exact t2
      have ek : fdQ p q = (-(a1 * b2)) / (-(a2 * b1)) := e_fd co.1 hB e3
      have lk : ((-(a1 * b2)) / (-(a2 * b1))).natAbs < 2 ^ 300 := div_le hB t1
      have cd : CDivW (-(a1 * b2)) (-(a2 * b1)) := ⟨hB, Nat.lt_of_lt_of_le (PySem.Flt.log2_lt_of (k := 300) (by decide) t2) (by decide)⟩
      refine ⟨_, rfl, _, rfl, p, q, .rat T.hx, T.hy, .inl ⟨_, rfl⟩, T.o1.le (by decide), T.o2.le (by decide), fun z => absurd z hq, fun _ G1 s1 => ?_⟩
      have T := T.same s1
      refine ⟨_, rfl, _, rfl, b, _, 0, _, rfl, rfl, SqT.of T.hb, rfl, _, rfl, _, rfl, _, rfl, _, _, rfl, rfl, cd, _, _, rfl, rfl, mulW (B := 1000) (by rw [Int.natAbs_neg]; exact bnd_le T.u3 (by decide)) (bnd_le lk (by decide)) (by decide) (by decide), _, rfl, b, _, 1, _, rfl, rfl, SqT.of T.hb, rfl, rfl, fun t G2 s2 ht n2 => ⟨rfl, fun l G3 s3 hl n3 => ?_⟩⟩
      have mk : (-b1 * ((-(a1 * b2)) / (-(a2 * b1)))).natAbs < 2 ^ 1000 := bnd_mul (a := 150) (b := 300) (by rw [Int.natAbs_neg]; exact T.u3) lk (by decide)
      refine ⟨l, a, t, a1, a2, -b1 * ((-(a1 * b2)) / (-(a2 * b1))), b2, rfl, hl, s3 _ _ (s2 _ _ T.ha), s3 _ _ ht, bnd_le T.u1 (by decide), bnd_le T.u2 (by decide), mk, bnd_le T.u4 (by decide), fun c G4 s4 hc n4 => ?_⟩
      have z4 := (s2.trans s3).trans s4
      have T := T.same z4
      have m1 : (a1 * b2 + -b1 * ((-(a1 * b2)) / (-(a2 * b1))) * a2).natAbs < 2 ^ 3900 := bnd_le (bnd_add (c := 1150) (bnd_mul T.u1 T.u4 (by decide)) (bnd_mul mk T.u2 (by decide))) (by decide)
      have m2 : (a2 * b2).natAbs < 2 ^ 3900 := bnd_mul T.u2 T.u4 (by decide)
      have em := mod_e (k := (-(a1 * b2)) / (-(a2 * b1))) np nq T.e1 T.e2
      have om : Okq 3900 (modQ p q) := by unfold modQ; rw [ek]; exact mod_ok T.o1 T.o2 lk
      have cm : Can (modQ p q) := by unfold modQ; rw [ek]; exact mod_can np nq
      have em : (modQ p q).1 * (a2 * b2) = (a1 * b2 + -b1 * ((-(a1 * b2)) / (-(a2 * b1))) * a2) * (modQ p q).2 := by unfold modQ; rw [ek]; exact em
      refine ⟨_, rfl, _, true, rfl, .int _, true, rfl, ?_⟩
      refine ⟨_, rfl, _, rfl, _, rfl, _, _, rfl, rfl, cd, rfl, _, rfl, ?_⟩
      rw [show (!decide (V.int (fdQ p q) = V.int ((-(a1 * b2)) / (-(a2 * b1))))) = false by rw [ek]; simp]
      refine iteF ?_
      refine ⟨_, rfl, _, rfl, p, q, .rat T.hx, T.hy, .inl ⟨_, rfl⟩, T.o1.le (by decide), T.o2.le (by decide), fun z => absurd z hq, fun _ r G5 s5 hr5 => ?_⟩
      refine ⟨_, rfl, r, c, modQ p q, _, _, rfl, hr5, cm, om, s5 _ _ hc, m1, m2, em, fun G6 s6 => ?_⟩
      have z6 := s5.trans s6
      have T := T.same z6
      refine ⟨true, rfl, ?_⟩
      refine ⟨_, rfl, x, p, rfl, T.hx, _, rfl, x, p, y, q, rfl, T.hx, T.hy, T.o1.le (by decide), T.o2.le (by decide), fun z => absurd z hq, fun _ r7 G7 s7 hr7 => ?_⟩
      refine ⟨_, rfl, _, rfl, rfl, fun t8 G8 s8 ht8 n8 => ?_⟩
      refine ⟨r7, t8, overQ p q, _, _, rfl, hr7.same s8, co, (okq_over T.o1 T.o2 hq).le (by decide), ht8, bnd_le t1 (by decide), bnd_le t2 (by decide), e3, fun G9 s9 => ?_⟩
      exact q0 _ (((((s1.trans z4).trans z6).trans s7).trans s8).trans s9)
    · have hn : ¬ a2 * b1 < 0 := fun z => hn (decide_eq_true z)
      have hB : 0 < (a2 * b1) := by omega
      have e3 : (overQ p q).1 * ((a2 * b1)) = (a1 * b2) * (overQ p q).2 := ho
      have ek : fdQ p q = ((a1 * b2)) / ((a2 * b1)) := e_fd co.1 hB e3
      have lk : (((a1 * b2)) / ((a2 * b1))).natAbs < 2 ^ 300 := div_le hB t1
      have cd : CDivW ((a1 * b2)) ((a2 * b1)) := ⟨hB, Nat.lt_of_lt_of_le (PySem.Flt.log2_lt_of (k := 300) (by decide) t2) (by decide)⟩
      refine ⟨_, rfl, _, rfl, p, q, .rat T.hx, T.hy, .inl ⟨_, rfl⟩, T.o1.le (by decide), T.o2.le (by decide), fun z => absurd z hq, fun _ G1 s1 => ?_⟩
      have T := T.same s1
      refine ⟨_, rfl, _, rfl, b, _, 0, _, rfl, rfl, SqT.of T.hb, rfl, _, rfl, _, rfl, _, rfl, _, _, rfl, rfl, cd, _, _, rfl, rfl, mulW (B := 1000) (by rw [Int.natAbs_neg]; exact bnd_le T.u3 (by decide)) (bnd_le lk (by decide)) (by decide) (by decide), _, rfl, b, _, 1, _, rfl, rfl, SqT.of T.hb, rfl, rfl, fun t G2 s2 ht n2 => ⟨rfl, fun l G3 s3 hl n3 => ?_⟩⟩
      have mk : (-b1 * (((a1 * b2)) / ((a2 * b1)))).natAbs < 2 ^ 1000 := bnd_mul (a := 150) (b := 300) (by rw [Int.natAbs_neg]; exact T.u3) lk (by decide)
      refine ⟨l, a, t, a1, a2, -b1 * (((a1 * b2)) / ((a2 * b1))), b2, rfl, hl, s3 _ _ (s2 _ _ T.ha), s3 _ _ ht, bnd_le T.u1 (by decide), bnd_le T.u2 (by decide), mk, bnd_le T.u4 (by decide), fun c G4 s4 hc n4 => ?_⟩
      have z4 := (s2.trans s3).trans s4
      have T := T.same z4
      have m1 : (a1 * b2 + -b1 * (((a1 * b2)) / ((a2 * b1))) * a2).natAbs < 2 ^ 3900 := bnd_le (bnd_add (c := 1150) (bnd_mul T.u1 T.u4 (by decide)) (bnd_mul mk T.u2 (by decide))) (by decide)
      have m2 : (a2 * b2).natAbs < 2 ^ 3900 := bnd_mul T.u2 T.u4 (by decide)
      have em := mod_e (k := ((a1 * b2)) / ((a2 * b1))) np nq T.e1 T.e2
      have om : Okq 3900 (modQ p q) := by unfold modQ; rw [ek]; exact mod_ok T.o1 T.o2 lk
      have cm : Can (modQ p q) := by unfold modQ; rw [ek]; exact mod_can np nq
      have em : (modQ p q).1 * (a2 * b2) = (a1 * b2 + -b1 * (((a1 * b2)) / ((a2 * b1))) * a2) * (modQ p q).2 := by unfold modQ; rw [ek]; exact em
      refine ⟨_, rfl, _, true, rfl, .int _, true, rfl, ?_⟩
      refine ⟨_, rfl, _, rfl, _, rfl, _, _, rfl, rfl, cd, rfl, _, rfl, ?_⟩
      rw [show (!decide (V.int (fdQ p q) = V.int (((a1 * b2)) / ((a2 * b1))))) = false by rw [ek]; simp]
      refine iteF ?_
      refine ⟨_, rfl, _, rfl, p, q, .rat T.hx, T.hy, .inl ⟨_, rfl⟩, T.o1.le (by decide), T.o2.le (by decide), fun z => absurd z hq, fun _ r G5 s5 hr5 => ?_⟩
      refine ⟨_, rfl, r, c, modQ p q, _, _, rfl, hr5, cm, om, s5 _ _ hc, m1, m2, em, fun G6 s6 => ?_⟩
      have z6 := s5.trans s6
      have T := T.same z6
      refine ⟨true, rfl, ?_⟩
      refine ⟨_, rfl, x, p, rfl, T.hx, _, rfl, x, p, y, q, rfl, T.hx, T.hy, T.o1.le (by decide), T.o2.le (by decide), fun z => absurd z hq, fun _ r7 G7 s7 hr7 => ?_⟩
      refine ⟨_, rfl, _, rfl, rfl, fun t8 G8 s8 ht8 n8 => ?_⟩
      refine ⟨r7, t8, overQ p q, _, _, rfl, hr7.same s8, co, (okq_over T.o1 T.o2 hq).le (by decide), ht8, bnd_le t1 (by decide), bnd_le t2 (by decide), e3, fun G9 s9 => ?_⟩
      exact q0 _ (((((s1.trans z4).trans z6).trans s7).trans s8).trans s9)

theorem good_divided (Z : CT K mg) : GoodF (CX0) P w K mg base 9 "_law_divided" ["_law_one", "_law_other", "_law_a", "_law_b"] (spTwo K) := Z.good 46 23 d_divided (fun _ _ _ _ _ _ us hl => match us, hl with | [_, _, _, _], _ => rfl) fun _ F => ok_divided Z F
theorem ok_reflected (Z : CT K mg) (F : FunD K d_reflected.name d_reflected.qual d_reflected.params d_reflected.body d_reflected.scope [] [] f fd) : FnOk P w K mg base (CX0) 9 f fd ["_law_one", "_law_other", "_law_a", "_law_b"] (spTwo K) := by
  refine F.ok sc_reflected (fun vs H Q E h => ?_) (fun cdv A outer s H vs Q E hr h => ?_)
  · obtain ⟨x, y, a, b, p, q, a1, a2, b1, b2, rfl, _⟩ := h
    rfl
  · obtain ⟨x, y, a, b, p, q, a1, a2, b1, b2, rfl, T, q0⟩ := h
    refine ⟨_, (pss_cons (ps_if (pt_cmpR op_eq (pe_ix ix_tup (pv 2) pe_int (fun _ _ => rfl)) (pe_int) (nomark _)) (pss_one (ps_ret pe_bl)) pss_nil)
      (pss_cons (ps_set (i := 4) sc_reflected.nd rfl (Or.inl rfl) (pe_op op_mulW (pe_ix ix_tup (pv 3) pe_int (fun _ _ => rfl)) (pe_ix ix_tup (pv 2) pe_int (fun _ _ => rfl))))
      (pss_cons (ps_set (i := 5) sc_reflected.nd rfl (Or.inl rfl) (pe_op op_mulW (pe_ix ix_tup (pv 3) pe_int (fun _ _ => rfl)) (pe_ix ix_tup (pv 2) pe_int (fun _ _ => rfl))))
      (pss_cons (ps_if (pt_cmpR op_lt (pv 5) (pe_int) (nomark _)) (pss_cons (ps_set (i := 4) sc_reflected.nd rfl (Or.inl rfl) (pe_un un_neg (pv 4)))
      (pss_one (ps_set (i := 5) sc_reflected.nd rfl (Or.inl rfl) (pe_un un_neg (pv 5))))) pss_nil)
      (pss_cons (ps_set (i := 6) sc_reflected.nd rfl (Or.inl rfl) (pe_op (opFd Z hr passN) (pv 1) (pv 0)))
      (pss_cons (ps_set (i := 7) sc_reflected.nd rfl (Or.inl rfl) (gcall (good_sum Z) hr (pa_cons (pe_lstN (pa_cons (pv 3) (pa_cons (pe_tupN (pa_cons (pe_op op_mulW (pe_un un_neg (pe_ix ix_tup (pv 2) pe_int (fun _ _ => rfl))) (pe_op op_fdivW (pv 4) (pv 5))) (pa_cons (pe_ix ix_tup (pv 2) pe_int (fun _ _ => rfl)) pa_nil))) pa_nil))) pa_nil) pass0))
      (pss_one (ps_ret ((pe_and (gcall (good_Lis_integer Z) hr (pa_cons (pv 6) pa_nil) pass0) (pe_and (pe_cmpR op_eq (pv 6) (pe_op op_fdivW (pv 4) (pv 5)) (nomark _)) (pe_one (gcall (good_right Z) hr (pa_cons (pe_op (opMod Z hr passN) (pv 1) (pv 0)) (pa_cons (pv 7) pa_nil)) pass0))))))))))))), ?_⟩
    refine ⟨_, rfl, a, _, 0, _, rfl, rfl, SqT.of T.ha, rfl, rfl, _, rfl, ite2 (fun h0 => q0 _ (Same.refl H)) (fun h0 => ?_)⟩
    have h0 : a1 ≠ 0 := fun z => h0 (by rw [z]; rfl)
    have np : q.2 ≠ 0 := T.o2.2.2
    have nq : p.2 ≠ 0 := T.o1.2.2
    have hq : p.1 ≠ 0 := val_ne h0 nq T.e1
    have ho := e_over np hq T.e2 T.e1 nq
    have co : Can (overQ q p) := nrm_can (ne_mul np hq)
    have h2 : b2 * a1 ≠ 0 := ne_mul (by have := T.g2; omega) h0
    have t1 : (b1 * a2).natAbs < 2 ^ 300 := bnd_mul T.u3 T.u2 (by decide)
    have t2 : (b2 * a1).natAbs < 2 ^ 300 := bnd_mul T.u4 T.u1 (by decide)
    refine ⟨_, rfl, b, _, 0, _, rfl, rfl, SqT.of T.hb, rfl, _, rfl, a, _, 1, _, rfl, rfl, SqT.of T.ha, rfl, _, _, rfl, rfl, mulW T.u3 T.u2 (by decide) (by decide), _, rfl, b, _, 1, _, rfl, rfl, SqT.of T.hb, rfl, _, rfl, a, _, 0, _, rfl, rfl, SqT.of T.ha, rfl, _, _, rfl, rfl, mulW T.u4 T.u1 (by decide) (by decide), ?_⟩
    refine ⟨_, rfl, _, _, rfl, rfl, _, rfl, ite2 (fun hn => ?_) (fun hn => ?_)⟩
    · have hn : b2 * a1 < 0 := of_decide_eq_true hn
      refine ⟨_, rfl, _, rfl, _, rfl, _, rfl, ?_⟩
      have hB : 0 < -(b2 * a1) := by omega
      have e3 : (overQ q p).1 * (-(b2 * a1)) = -(b1 * a2) * (overQ q p).2 := by rw [Int.mul_neg, ho, Int.neg_mul]
      have t1 : (-(b1 * a2)).natAbs < 2 ^ 300 := by rw [Int.natAbs_neg]; exact t1
      have t2 : (-(b2 * a1)).natAbs < 2 ^ 300 := by rw [Int.natAbs_neg]; exact t2
      have ek : fdQ q p = (-(b1 * a2)) / (-(b2 * a1)) := e_fd co.1 hB e3
      have lk : ((-(b1 * a2)) / (-(b2 * a1))).natAbs < 2 ^ 300 := div_le hB t1
      have cd : CDivW (-(b1 * a2)) (-(b2 * a1)) := ⟨hB, Nat.lt_of_lt_of_le (PySem.Flt.log2_lt_of (k := 300) (by decide) t2) (by decide)⟩
      refine ⟨_, rfl, _, rfl, q, p, T.hy, .rat T.hx, .inr ⟨_, rfl⟩, T.o2.le (by decide), T.o1.le (by decide), fun z => absurd z hq, fun _ G1 s1 => ?_⟩
      have T := T.same s1
      refine ⟨_, rfl, _, rfl, a, _, 0, _, rfl, rfl, SqT.of T.ha, rfl, _, rfl, _, rfl, _, rfl, _, _, rfl, rfl, cd, _, _, rfl, rfl, mulW (B := 1000) (by rw [Int.natAbs_neg]; exact bnd_le T.u1 (by decide)) (bnd_le lk (by decide)) (by decide) (by decide), _, rfl, a, _, 1, _, rfl, rfl, SqT.of T.ha, rfl, rfl, fun t G2 s2 ht n2 => ⟨rfl, fun l G3 s3 hl n3 => ?_⟩⟩
      have mk : (-a1 * ((-(b1 * a2)) / (-(b2 * a1)))).natAbs < 2 ^ 1000 := bnd_mul (a := 150) (b := 300) (by rw [Int.natAbs_neg]; exact T.u1) lk (by decide)
      refine ⟨l, b, t, b1, b2, -a1 * ((-(b1 * a2)) / (-(b2 * a1))), a2, rfl, hl, s3 _ _ (s2 _ _ T.hb), s3 _ _ ht, bnd_le T.u3 (by decide), bnd_le T.u4 (by decide), mk, bnd_le T.u2 (by decide), fun c G4 s4 hc n4 => ?_⟩
      have z4 := (s2.trans s3).trans s4
      have T := T.same z4
      have m1 : (b1 * a2 + -a1 * ((-(b1 * a2)) / (-(b2 * a1))) * b2).natAbs < 2 ^ 3900 := bnd_le (bnd_add (c := 1150) (bnd_mul T.u3 T.u2 (by decide)) (bnd_mul mk T.u4 (by decide))) (by decide)
      have m2 : (b2 * a2).natAbs < 2 ^ 3900 := bnd_mul T.u4 T.u2 (by decide)
      have em := mod_e (k := (-(b1 * a2)) / (-(b2 * a1))) np nq T.e2 T.e1
      have om : Okq 3900 (modQ q p) := by unfold modQ; rw [ek]; exact mod_ok T.o2 T.o1 lk
      have cm : Can (modQ q p) := by unfold modQ; rw [ek]; exact mod_can np nq
      have em : (modQ q p).1 * (b2 * a2) = (b1 * a2 + -a1 * ((-(b1 * a2)) / (-(b2 * a1))) * b2) * (modQ q p).2 := by unfold modQ; rw [ek]; exact em
      refine ⟨_, rfl, _, true, rfl, .int _, true, rfl, ?_⟩
      refine ⟨_, rfl, _, rfl, _, rfl, _, _, rfl, rfl, cd, rfl, true, ?_, ?_⟩
      · rw [ek]; simp
      refine ⟨_, rfl, _, rfl, q, p, T.hy, .rat T.hx, .inr ⟨_, rfl⟩, T.o2.le (by decide), T.o1.le (by decide), fun z => absurd z hq, fun _ r G5 s5 hr5 => ?_⟩
      exact ⟨_, rfl, r, c, modQ q p, _, _, rfl, hr5, cm, om, s5 _ _ hc, m1, m2, em, fun G6 s6 => q0 _ (((s1.trans z4).trans s5).trans s6)⟩
    · have hn : ¬ b2 * a1 < 0 := fun z => hn (decide_eq_true z)
      have hB : 0 < (b2 * a1) := by omega
      have e3 : (overQ q p).1 * ((b2 * a1)) = (b1 * a2) * (overQ q p).2 := ho
      have ek : fdQ q p = ((b1 * a2)) / ((b2 * a1)) := e_fd co.1 hB e3
      have lk : (((b1 * a2)) / ((b2 * a1))).natAbs < 2 ^ 300 := div_le hB t1
      have cd : CDivW ((b1 * a2)) ((b2 * a1)) := ⟨hB, Nat.lt_of_lt_of_le (PySem.Flt.log2_lt_of (k := 300) (by decide) t2) (by decide)⟩
      refine ⟨_, rfl, _, rfl, q, p, T.hy, .rat T.hx, .inr ⟨_, rfl⟩, T.o2.le (by decide), T.o1.le (by decide), fun z => absurd z hq, fun _ G1 s1 => ?_⟩
      have T := T.same s1
      refine ⟨_, rfl, _, rfl, a, _, 0, _, rfl, rfl, SqT.of T.ha, rfl, _, rfl, _, rfl, _, rfl, _, _, rfl, rfl, cd, _, _, rfl, rfl, mulW (B := 1000) (by rw [Int.natAbs_neg]; exact bnd_le T.u1 (by decide)) (bnd_le lk (by decide)) (by decide) (by decide), _, rfl, a, _, 1, _, rfl, rfl, SqT.of T.ha, rfl, rfl, fun t G2 s2 ht n2 => ⟨rfl, fun l G3 s3 hl n3 => ?_⟩⟩
      have mk : (-a1 * (((b1 * a2)) / ((b2 * a1)))).natAbs < 2 ^ 1000 := bnd_mul (a := 150) (b := 300) (by rw [Int.natAbs_neg]; exact T.u1) lk (by decide)
      refine ⟨l, b, t, b1, b2, -a1 * (((b1 * a2)) / ((b2 * a1))), a2, rfl, hl, s3 _ _ (s2 _ _ T.hb), s3 _ _ ht, bnd_le T.u3 (by decide), bnd_le T.u4 (by decide), mk, bnd_le T.u2 (by decide), fun c G4 s4 hc n4 => ?_⟩
      have z4 := (s2.trans s3).trans s4
      have T := T.same z4
      have m1 : (b1 * a2 + -a1 * (((b1 * a2)) / ((b2 * a1))) * b2).natAbs < 2 ^ 3900 := bnd_le (bnd_add (c := 1150) (bnd_mul T.u3 T.u2 (by decide)) (bnd_mul mk T.u4 (by decide))) (by decide)
      have m2 : (b2 * a2).natAbs < 2 ^ 3900 := bnd_mul T.u4 T.u2 (by decide)
      have em := mod_e (k := ((b1 * a2)) / ((b2 * a1))) np nq T.e2 T.e1
      have om : Okq 3900 (modQ q p) := by unfold modQ; rw [ek]; exact mod_ok T.o2 T.o1 lk
      have cm : Can (modQ q p) := by unfold modQ; rw [ek]; exact mod_can np nq
      have em : (modQ q p).1 * (b2 * a2) = (b1 * a2 + -a1 * (((b1 * a2)) / ((b2 * a1))) * b2) * (modQ q p).2 := by unfold modQ; rw [ek]; exact em
      refine ⟨_, rfl, _, true, rfl, .int _, true, rfl, ?_⟩
      refine ⟨_, rfl, _, rfl, _, rfl, _, _, rfl, rfl, cd, rfl, true, ?_, ?_⟩
      · rw [ek]; simp
      refine ⟨_, rfl, _, rfl, q, p, T.hy, .rat T.hx, .inr ⟨_, rfl⟩, T.o2.le (by decide), T.o1.le (by decide), fun z => absurd z hq, fun _ r G5 s5 hr5 => ?_⟩
      exact ⟨_, rfl, r, c, modQ q p, _, _, rfl, hr5, cm, om, s5 _ _ hc, m1, m2, em, fun G6 s6 => q0 _ (((s1.trans z4).trans s5).trans s6)⟩

theorem good_reflected (Z : CT K mg) : GoodF (CX0) P w K mg base 9 "_law_reflected" ["_law_one", "_law_other", "_law_a", "_law_b"] (spTwo K) := Z.good 47 24 d_reflected (fun _ _ _ _ _ _ us hl => match us, hl with | [_, _, _, _], _ => rfl) fun _ F => ok_reflected Z F
end
end My

namespace My
open PySem PySem.Spec PyProof.Rows L2 PySem.Calls

/-- what a call in the body of a try may let out, whatever the slots are -/
abbrev WL (n : Nat) (W : L2.WX) : XK := fun cls d H => ∀ σ : L2.St, σ.length = n → W cls d σ H
theorem passL {X : Cx} {W : L2.WX} {n : Nat} (tk : L2N.Takes X W) (hn : X.N.length = n := by rfl) : Passes (L2N.CX X.prog X.w) X (WL n W) := fun _ σ _ _ e s' I c => tk e s' (L2N.XE.of_call I (fun _ _ _ h => h σ (I.len.trans hn)) c)
section
variable {P : Program} {w : World} {K : PySem.W.Frag} {mg : Str → Option Value} {base : Heap} {fd : FuncData} {f : Addr}
theorem caught {H : Hp} {d : Addr} {fs : List (Str × V)} (Z : CT K mg) (h : H d = some (.xd fs)) : Caught K (.ref (He.ga K "NoRatio")) (some d) H (He.ga K "NoRatio") fs := ⟨rfl, xN Z, d, rfl, h⟩
/-- the word of Ratio(x, y) -/
def spWord (K : PySem.W.Frag) : Sp := fun vs H Q _ => ∃ (x y : V) (bx bY : Bool), vs = [x, y] ∧ Kind K H x bx ∧ Kind K H y bY ∧ (bx = false → ∀ H', Same H H' → Q (.str "top") H') ∧ (bx = true → bY = false → ∀ H', Same H H' → Q (.str "bottom") H') ∧
  ∀ t b, x = .int t → y = .int b → (b = 0 → ∀ H', Same H H' → Q (.str "zero") H') ∧ (b ≠ 0 → Sml b ∧ ∀ H', Same H H' → Q .non H')
theorem ok_word (Z : CT K mg) (F : FunD K d_word.name d_word.qual d_word.params d_word.body d_word.scope [] [] f fd) : FnOk P w K mg base (L2N.CX P w) 5 f fd ["_law_top", "_law_bottom"] (spWord K) := by
  refine F.ok sc_word (fun vs H Q E h => ?_) (fun cdv A outer s H vs Q E hr h => ?_)
  · obtain ⟨x, y, bx, bY, rfl, _⟩ := h
    rfl
  · obtain ⟨x, y, bx, bY, rfl, kx, ky, z1, z2, z3⟩ := h
    refine ⟨_, (pss_cons (ps_set (i := 2) sc_word.nd rfl (Or.inl rfl) (pe_non))
      (pss_cons (L2N.ps_try_as (i := 4) (tb := fun W => tAsg (tR2 K (WL 5 W) (tCons (tVar 0) (tCons (tVar 1) tNil))) (gName 3)) rfl rfl sc_word.nd rfl rfl ⟨by rfl, by decide, .inl (glo_NoRatio Z)⟩ (L2N.takes_of rfl rfl rfl rfl) (fun W pn xe tk hp => (pss_one (ps_set (i := 3) sc_word.nd rfl (Or.inl rfl) (mkR2 Z hr (pa_cons (pv 0) (pa_cons (pv 1) pa_nil)) (passL tk))))) (fun a oe cls d pn hz hf => (pss_one (ps_set (i := 2) sc_word.nd rfl (Or.inl rfl) (pe_xs hz hf (pv 4))))))
      (pss_one (ps_ret (pv 2))))), ?_⟩
    refine ⟨_, rfl, _, rfl, _, _, rfl, bx, bY, kx, ky, fun e => ?_, fun e1 e2 => ?_, fun t b e1 e2 => ⟨fun e => ?_, fun e => ⟨((z3 t b e1 e2).2 e).1, fun r H' s' hr' => ?_⟩⟩⟩
    · intro d H' s' hd σ hl
      match σ, hl with
      | [_, _, _, _, _], _ => exact ⟨true, xN_exm Z, fun _ a ha => ⟨_, rfl, _, _, _, rfl, caught Z hd, no_NoRatio_word Z, rfl, _, rfl, z1 e _ s'⟩, fun z => (nomatch z)⟩
    · intro d H' s' hd σ hl
      match σ, hl with
      | [_, _, _, _, _], _ => exact ⟨true, xN_exm Z, fun _ a ha => ⟨_, rfl, _, _, _, rfl, caught Z hd, no_NoRatio_word Z, rfl, _, rfl, z2 e1 e2 _ s'⟩, fun z => (nomatch z)⟩
    · intro d H' s' hd σ hl
      match σ, hl with
      | [_, _, _, _, _], _ => exact ⟨true, xN_exm Z, fun _ a ha => ⟨_, rfl, _, _, _, rfl, caught Z hd, no_NoRatio_word Z, rfl, _, rfl, (z3 t b e1 e2).1 e _ s'⟩, fun z => (nomatch z)⟩
    · exact ⟨_, rfl, ((z3 t b e1 e2).2 e).2 _ s'⟩

theorem good_word (Z : CT K mg) : GoodF (L2N.CX P w) P w K mg base 5 "_law_word" ["_law_top", "_law_bottom"] (spWord K) := Z.good 51 28 d_word (fun _ _ _ _ _ _ us hl => match us, hl with | [_, _], _ => rfl) fun _ F => ok_word Z F
end
end My

namespace My
open PySem PySem.Spec PyProof.Rows L2 PySem.Calls

section
variable {X : Cx} {e o : Expr} {ta : TE} {t : TA} {apos pos : Pos} {k : Nat} {W : L2.WX}
/-- a.power(k) where what it raises is taken with the slots -/
def tPowS (K : PySem.W.Frag) (W : L2.WX) (ta : TE) (t : TA) : TE := fun σ H Q => ta σ H fun x H1 => ∃ a p, x = .ref a ∧ RAt K H1 a p ∧ t σ H1 fun vs H2 => spPow K (x :: vs) H2 Q fun cls d H => W cls d σ H
theorem powerMS (Z : CT X.K X.mg) (hr : Room k X.A) (he : PE X o ta) (ha : PA X [e] t) (tk : L2N.Takes X W) (hk : 5 ≤ k := by decide) (hst : starEach [e] X.env = (false, eval e X.env) :: starEach [] X.env := by rfl) (hpl : (backTo pos (starEach [] X.env)).any (·.1) = false := by rfl)
    {pl : Sem Bool} (ht : eval (.Call (.Attribute o "power" apos) [e] [] pos) X.env = (do
      let ov ← eval o X.env
      standAt apos.atName
      let (f, first) ← holding [ov] (getMethod ov "power" pl)
      callWith pos f first (backTo pos (starEach [e] X.env)) (backToKw pos (keywordEach [] X.env))) := by rfl) : PE X (.Call (.Attribute o "power" apos) [e] [] pos) (tPowS X.K W ta t) := by
  obtain ⟨fd, F, B⟩ := (good_Ratio_power (P := X.prog) (w := X.w) (base := X.base) Z).fn
  have me := me_Ratio_power Z
  refine ⟨fun pins s σ H Q I h => PySem.W.methodCall_KW (pl := pl) (thn (he.run pins s σ H _ I h) fun u s1 ⟨x, H1, I1, rx, a, p, ex, ⟨dx, hd⟩, q⟩ => ?_) ht⟩
  subst ex
  cases (show u = Value.ref a from rx)
  refine getmeth_ok I1 hd (rc Z).cl me (rfs_no _ _ (by decide +kernel) (by decide +kernel)) (PySem.W.callWith_K (first := [.ref a]) (h₀ := X.base) I.ok.mod.kin me.kp (thn (ha.run pos pins s1 σ H1 _ I1 q) fun us s2 ⟨vs, H2, I2, r, q2⟩ => ⟨I2.kIn, ?_⟩) hst hpl)
  exact run_fnS (E := fun σ cls d H => W cls d σ H) (us := .ref a :: us) (vs := .ref a :: vs) F (hr.mono hk) B (L2N.passAt tk σ) I2 (.cons rfl r) q2
end
theorem e_pow {p : Int × Int} {a1 a2 : Int} (n : Nat) (e1 : p.1 * a2 = a1 * p.2) : p.1 ^ n * a2 ^ n = a1 ^ n * p.2 ^ n := by rw [← Int.mul_pow, e1, Int.mul_pow]
theorem e_pw {p : Int × Int} {a1 a2 : Int} (n : Nat) (hp : p.2 ≠ 0) (e1 : p.1 * a2 = a1 * p.2) : (nrm (p.1 ^ n) (p.2 ^ n)).1 * a2 ^ n = a1 ^ n * (nrm (p.1 ^ n) (p.2 ^ n)).2 := by
  have hn := pow_ne hp n
  have m := nrm_eq (t := p.1 ^ n) hn
  have e := e_pow n e1
  generalize nrm (p.1 ^ n) (p.2 ^ n) = r at *
  generalize p.1 ^ n = A at *
  generalize p.2 ^ n = B at *
  generalize a1 ^ n = C at *
  generalize a2 ^ n = D at *
  apply cancel hn
  grind
theorem e_pn {p : Int × Int} {a1 a2 : Int} (n : Nat) (hp : p.1 ≠ 0) (e1 : p.1 * a2 = a1 * p.2) : (nrm (p.2 ^ n) (p.1 ^ n)).1 * a1 ^ n = a2 ^ n * (nrm (p.2 ^ n) (p.1 ^ n)).2 := by
  have hn := pow_ne hp n
  have m := nrm_eq (t := p.2 ^ n) hn
  have e := e_pow n e1
  generalize nrm (p.2 ^ n) (p.1 ^ n) = r at *
  generalize p.1 ^ n = A at *
  generalize p.2 ^ n = B at *
  generalize a1 ^ n = C at *
  generalize a2 ^ n = D at *
  apply cancel hn
  grind
section
variable {P : Program} {w : World} {K : PySem.W.Frag} {mg : Str → Option Value} {base : Heap} {fd : FuncData} {f : Addr}
/-- one.power(k) against the pair -/
def spLPow (K : PySem.W.Frag) : Sp := fun vs H Q _ => ∃ (x a : Addr) (p : Int × Int) (a1 a2 k : Int), vs = [.ref x, .ref a, .int k] ∧ RAt K H x p ∧ H a = some (.tup [.int a1, .int a2]) ∧ Okq 150 p ∧ Can p ∧ p.1 * a2 = a1 * p.2 ∧ a1.natAbs < 2 ^ 150 ∧ a2.natAbs < 2 ^ 150 ∧ 1 ≤ a2 ∧ k.natAbs ≤ 100 ∧ ∀ H', Same H H' → Q (.bl true) H'
theorem ok_Lpower (Z : CT K mg) (F : FunD K d_Lpower.name d_Lpower.qual d_Lpower.params d_Lpower.body d_Lpower.scope [] [] f fd) : FnOk P w K mg base (L2N.CX P w) 8 f fd ["_law_one", "_law_a", "_law_k"] (spLPow K) := by
  refine F.ok sc_Lpower (fun vs H Q E h => ?_) (fun cdv A outer s H vs Q E hr h => ?_)
  · obtain ⟨x, a, p, a1, a2, k, rfl, _⟩ := h
    rfl
  · obtain ⟨x, a, p, a1, a2, k, rfl, hx, ha, o1, c1, e1, u1, u2, g1, hk, q⟩ := h
    refine ⟨_, (pss_cons (ps_set (i := 3) sc_Lpower.nd rfl (Or.inl rfl) (pe_non))
      (pss_cons (ps_set (i := 4) sc_Lpower.nd rfl (Or.inl rfl) (pe_non))
      (pss_cons (L2N.ps_try_as (i := 5) (tb := fun W => tAsg (tPowS K W (tVar 0) (tCons (tVar 2) tNil)) (gName 4)) rfl rfl sc_Lpower.nd rfl rfl ⟨by rfl, by decide, .inl (glo_NoRatio Z)⟩ (L2N.takes_of rfl rfl rfl rfl) (fun W pn xe tk hp => (pss_one (ps_set (i := 4) sc_Lpower.nd rfl (Or.inl rfl) (powerMS Z hr (pv 0) (pa_cons (pv 2) pa_nil) tk)))) (fun a oe cls d pn hz hf => (pss_one (ps_set (i := 3) sc_Lpower.nd rfl (Or.inl rfl) (pe_xs hz hf (pv 5))))))
      (pss_cons (ps_if (pt_cmpR op_gt (pe_callB call_abs (by rfl) (m_abs Z) boot_abs (pa_cons (pv 2) pa_nil)) (pe_int) (nomark _)) (pss_one (ps_ret (pe_cmpR op_eq (pv 3) (pe_str) (nomark _)))) pss_nil)
      (pss_cons (ps_if (PW.pt (pw_and (pt_cmpR op_eq (pe_ix ix_tup (pv 1) pe_int (fun _ _ => rfl)) (pe_int) (nomark _)) (pw_and1 (pt_cmpR op_lt (pv 2) (pe_int) (nomark _))))) (pss_one (ps_ret (pe_cmpR op_eq (pv 3) (pe_str) (nomark _)))) pss_nil)
      (pss_cons (ps_set (i := 6) sc_Lpower.nd rfl (Or.inl rfl) (pe_int))
      (pss_cons (ps_set (i := 7) sc_Lpower.nd rfl (Or.inl rfl) (pe_int))
      (pss_cons (ps_for (passes_of rfl) rfl (pi_range1 rfl (m_range Z) (pa_cons (pe_callB call_abs (by rfl) (m_abs Z) boot_abs (pa_cons (pv 2) pa_nil)) pa_nil)) (pg_name (i := 8) sc_Lpower.nd rfl (Or.inl rfl)) (pss_cons (ps_set (i := 6) sc_Lpower.nd rfl (Or.inl rfl) (pe_op op_mulW (pv 6) (pe_ix ix_tup (pv 1) pe_int (fun _ _ => rfl))))
      (pss_one (ps_set (i := 7) sc_Lpower.nd rfl (Or.inl rfl) (pe_op op_mulW (pv 7) (pe_ix ix_tup (pv 1) pe_int (fun _ _ => rfl)))))))
      (pss_cons (ps_if (PW.pt (pw_or (pt_cmpR op_notN1 (pv 3) (pe_non) (nomark _)) (pw_or1 (pt_not (pt_val (gcall (good_right Z) hr (pa_cons (pe_op (opPow Z hr (L2N.passes_call (L2N.takes_of rfl rfl rfl rfl) (fun _ _ _ _ h => h))) (pv 0) (pe_int)) (pa_cons (pe_tupN (pa_cons (pe_op op_mulW (pe_op op_mulW (pe_ix ix_tup (pv 1) pe_int (fun _ _ => rfl)) (pe_ix ix_tup (pv 1) pe_int (fun _ _ => rfl))) (pe_ix ix_tup (pv 1) pe_int (fun _ _ => rfl))) (pa_cons (pe_op op_mulW (pe_op op_mulW (pe_ix ix_tup (pv 1) pe_int (fun _ _ => rfl)) (pe_ix ix_tup (pv 1) pe_int (fun _ _ => rfl))) (pe_ix ix_tup (pv 1) pe_int (fun _ _ => rfl))) pa_nil))) pa_nil)) pass0) (fun _ => rfl)))))) (pss_one (ps_ret pe_bl)) pss_nil)
      (pss_cons (ps_if (PW.pt (pw_and (pt_cmpR op_lt (pv 2) (pe_int) (nomark _)) (pw_and1 (pt_cmpR op_lt (pv 6) (pe_int) (nomark _))))) (pss_one (ps_ret (gcall (good_right Z) hr (pa_cons (pv 4) (pa_cons (pe_tupN (pa_cons (pe_un un_neg (pv 7)) (pa_cons (pe_un un_neg (pv 6)) pa_nil))) pa_nil)) pass0))) pss_nil)
      (pss_cons (ps_if (pt_cmpR op_lt (pv 2) (pe_int) (nomark _)) (pss_one (ps_ret (gcall (good_right Z) hr (pa_cons (pv 4) (pa_cons (pe_tupN (pa_cons (pv 7) (pa_cons (pv 6) pa_nil))) pa_nil)) pass0))) pss_nil)
      (pss_one (ps_ret ((pe_and (gcall (good_right Z) hr (pa_cons (pv 4) (pa_cons (pe_tupN (pa_cons (pv 6) (pa_cons (pv 7) pa_nil))) pa_nil)) pass0) (pe_one (gcall (good_right Z) hr (pa_cons (pe_op (opPow Z hr (L2N.passes_call (L2N.takes_of rfl rfl rfl rfl) (fun _ _ _ _ h => h))) (pv 0) (pe_int)) (pa_cons (pe_tupN (pa_cons pe_int (pa_cons pe_int pa_nil))) pa_nil)) pass0))))))))))))))))), ?_⟩
    have ab : (if k < 0 then -k else k) = (k.natAbs : Int) := by split <;> omega
    refine ⟨_, rfl, x, p, rfl, hx, _, rfl, x, p, _, true, rfl, hx, o1, .int k, fun z => (nomatch z), fun k' ek => ?_⟩
    injection ek with ek
    subst ek
    refine ⟨fun h20 => ?_, fun h20 hn hp => ?_, fun h20 hn => ?_⟩
    · intro d H' s' hd
      refine ⟨true, xN_exm Z, fun _ b hb => ⟨_, rfl, _, _, _, rfl, caught Z hd, no_NoRatio_word Z, rfl, ?_⟩, fun z => (nomatch z)⟩
      refine ⟨_, rfl, _, rfl, _, _, rfl, rfl, _, rfl, ite2 (fun _ => ?_) (fun n => absurd (decide_eq_true (by omega)) n)⟩
      exact ⟨_, rfl, rfl, q _ s'⟩
    · intro d H' s' hd
      have ha0 : a1 = 0 := by
        rw [hp, Int.zero_mul] at e1
        rcases Int.mul_eq_zero.mp e1.symm with z | z
        · exact z
        · exact absurd z o1.2.2
      subst ha0
      refine ⟨true, xN_exm Z, fun _ b hb => ⟨_, rfl, _, _, _, rfl, caught Z hd, no_NoRatio_word Z, rfl, ?_⟩, fun z => (nomatch z)⟩
      refine ⟨_, rfl, _, rfl, _, _, rfl, rfl, _, rfl, ite2 (fun z => absurd (of_decide_eq_true z) (by omega)) (fun _ => ?_)⟩
      refine ⟨_, rfl, a, _, 0, _, rfl, rfl, SqT.of (s' _ _ ha), rfl, rfl, _, rfl, ?_⟩
      refine ite2 (fun _ => ?_) (fun n => absurd (decide_eq_true rfl) n)
      refine ⟨_, rfl, _, _, rfl, rfl, _, rfl, ite2 (fun _ => ?_) (fun n => absurd (decide_eq_true hn) n)⟩
      exact ⟨_, rfl, rfl, q _ s'⟩
    · intro r H' s' hr'
      have hA := s' _ _ ha
      have hX := hx.same s'
      refine ⟨_, rfl, _, rfl, _, _, rfl, rfl, _, rfl, ite2 (fun z => absurd (of_decide_eq_true z) (by omega)) (fun _ => ?_)⟩
      refine ⟨_, rfl, a, _, 0, _, rfl, rfl, SqT.of hA, rfl, rfl, _, rfl, ite2 (fun z => ?_) (fun z => iteF ?_)⟩
      · have z := of_decide_eq_true z
        injection z with z
        have hp : p.1 = 0 := by
          rw [z, Int.zero_mul] at e1
          rcases Int.mul_eq_zero.mp e1 with y | y
          · exact y
          · omega
        refine ⟨_, rfl, _, _, rfl, rfl, _, rfl, ite2 (fun z2 => absurd ⟨of_decide_eq_true z2, hp⟩ hn) (fun _ => ?_)⟩
        refine ⟨_, rfl, _, rfl, (k.natAbs : Int), by rw [← ab], by omega, by omega, ?_⟩
        refine for_range (lo := 0) (n := k.natAbs) (fun i σ H3 => H3 = H' ∧ ∃ u : Option V, σ = [some (.ref x), some (.ref a), some (.int k), some .non, some (.ref r), none, some (.int (a1 ^ i)), some (.int (a2 ^ i)), u]) ⟨rfl, _, by rw [Int.pow_zero, Int.pow_zero]; rfl⟩ ?_ ?_
        · rintro i σ H3 hi ⟨rfl, u, rfl⟩
          have bi : ∀ z : Int, z.natAbs < 2 ^ 150 → CMulW (z ^ i) z := fun z hz => wide_mul (bnd_pow hz i) hz (by omega) (by decide) (by omega)
          exact ⟨_, rfl, _, rfl, a, _, 0, _, rfl, rfl, SqT.of hA, rfl, _, _, rfl, rfl, bi _ u1, _, rfl, _, rfl, a, _, 1, _, rfl, rfl, SqT.of hA, rfl, _, _, rfl, rfl, bi _ u2, rfl, _, by rw [Int.pow_succ, Int.pow_succ]; rfl⟩
        rintro σ H3 ⟨rfl, u, rfl⟩
        refine ⟨_, rfl, rfl, _, rfl, iteF ?_⟩
        refine ⟨_, rfl, x, p, 3, rfl, rfl, hX, o1, fun z => absurd z (by decide), fun _ z => absurd z (by decide), fun _ _ r3 G3 s3 w3 => ?_⟩
        have hA3 := s3 _ _ hA
        have b1 : (a1 * a1).natAbs < 2 ^ 300 := bnd_mul u1 u1 (by decide)
        have b2 : (a2 * a2).natAbs < 2 ^ 300 := bnd_mul u2 u2 (by decide)
        refine ⟨_, rfl, a, _, 0, _, rfl, rfl, SqT.of hA3, rfl, _, rfl, a, _, 0, _, rfl, rfl, SqT.of hA3, rfl, _, _, rfl, rfl, mulW u1 u1 (by decide) (by decide), _, rfl, a, _, 0, _, rfl, rfl, SqT.of hA3, rfl, _, _, rfl, rfl, mulW (B := 300) b1 (bnd_le u1 (by decide)) (by decide) (by decide), _, rfl, a, _, 1, _, rfl, rfl, SqT.of hA3, rfl, _, rfl, a, _, 1, _, rfl, rfl, SqT.of hA3, rfl, _, _, rfl, rfl, mulW u2 u2 (by decide) (by decide), _, rfl, a, _, 1, _, rfl, rfl, SqT.of hA3, rfl, _, _, rfl, rfl, mulW (B := 300) b2 (bnd_le u2 (by decide)) (by decide) (by decide), rfl, fun t4 G4 s4 ht4 n4 => ?_⟩
        have e3 : (powQ p 3).1 * (a2 * a2 * a2) = (a1 * a1 * a1) * (powQ p 3).2 := by
          have e := e_pw 3 o1.2.2 e1
          rw [show a1 ^ 3 = a1 * a1 * a1 by grind, show a2 ^ 3 = a2 * a2 * a2 by grind] at e
          exact e
        refine ⟨r3, t4, powQ p 3, _, _, rfl, w3.same s4, nrm_can (pow_ne o1.2.2 _), ok_nrm (bnd_le (bnd_pow o1.1 3) (by decide)) (bnd_le (bnd_pow o1.2.1 3) (by decide)) (pow_ne o1.2.2 _), ht4, bnd_le (bnd_mul b1 u1 (Nat.le_refl _)) (by decide), bnd_le (bnd_mul b2 u2 (Nat.le_refl _)) (by decide), e3, fun G5 s5 => ⟨true, rfl, iteF ?_⟩⟩
        have z5 := (s3.trans s4).trans s5
        have hR := hr'.same z5
        have bb : ∀ z : Int, z.natAbs < 2 ^ 150 → (z ^ k.natAbs).natAbs < 2 ^ 3900 := fun z hz => bnd_le (bnd_pow hz _) (by omega)
        by_cases hk0 : k < 0
        · have hp : p.1 ≠ 0 := fun z => hn ⟨hk0, z⟩
          have eq : powQ p k = nrm (p.2 ^ k.natAbs) (p.1 ^ k.natAbs) := if_pos hk0
          have cq : Can (powQ p k) := by rw [eq]; exact nrm_can (pow_ne hp _)
          have oq : Okq 3900 (powQ p k) := by rw [eq]; exact ok_nrm (bb _ o1.2.1) (bb _ o1.1) (pow_ne hp _)
          have ee : (powQ p k).1 * a1 ^ k.natAbs = a2 ^ k.natAbs * (powQ p k).2 := by rw [eq]; exact e_pn k.natAbs hp e1
          refine ⟨_, rfl, _, _, rfl, rfl, _, rfl, ite2 (fun _ => ?_) (fun n => absurd (decide_eq_true hk0) n)⟩
          refine ⟨_, rfl, _, _, rfl, rfl, _, rfl, ite2 (fun _ => ?_) (fun _ => ?_)⟩
          · refine ⟨_, rfl, _, rfl, _, rfl, _, rfl, _, rfl, rfl, fun t6 G6 s6 ht6 n6 => ?_⟩
            exact ⟨r, t6, powQ p k, _, _, rfl, hR.same s6, cq, oq, ht6, by rw [Int.natAbs_neg]; exact bb _ u2, by rw [Int.natAbs_neg]; exact bb _ u1, by rw [Int.mul_neg, ee, Int.neg_mul], fun G7 s7 => q _ (((s'.trans z5).trans s6).trans s7)⟩
          · refine ⟨_, rfl, _, _, rfl, rfl, _, rfl, ite2 (fun _ => ?_) (fun n => absurd (decide_eq_true hk0) n)⟩
            refine ⟨_, rfl, _, rfl, _, rfl, rfl, fun t6 G6 s6 ht6 n6 => ?_⟩
            exact ⟨r, t6, powQ p k, _, _, rfl, hR.same s6, cq, oq, ht6, bb _ u2, bb _ u1, ee, fun G7 s7 => q _ (((s'.trans z5).trans s6).trans s7)⟩
        · have eq : powQ p k = nrm (p.1 ^ k.natAbs) (p.2 ^ k.natAbs) := if_neg hk0
          have hp := o1.2.2
          have cq : Can (powQ p k) := by rw [eq]; exact nrm_can (pow_ne hp _)
          have oq : Okq 3900 (powQ p k) := by rw [eq]; exact ok_nrm (bb _ o1.1) (bb _ o1.2.1) (pow_ne hp _)
          have ee : (powQ p k).1 * a2 ^ k.natAbs = a1 ^ k.natAbs * (powQ p k).2 := by rw [eq]; exact e_pw k.natAbs hp e1
          refine ⟨_, rfl, _, _, rfl, rfl, _, rfl, ite2 (fun z => absurd (of_decide_eq_true z) hk0) (fun _ => ?_)⟩
          refine iteF ?_
          refine ⟨_, rfl, _, _, rfl, rfl, _, rfl, ite2 (fun z => absurd (of_decide_eq_true z) hk0) (fun _ => ?_)⟩
          refine ⟨_, rfl, _, rfl, _, rfl, rfl, fun t6 G6 s6 ht6 n6 => ?_⟩
          refine ⟨r, t6, powQ p k, _, _, rfl, hR.same s6, cq, oq, ht6, bb _ u1, bb _ u2, ee, fun G7 s7 => ⟨true, rfl, ?_⟩⟩
          refine ⟨_, rfl, x, p, 0, rfl, rfl, ((hX.same z5).same s6).same s7, o1, fun z => absurd z (by decide), fun _ z => absurd z (by decide), fun _ _ r8 G8 s8 w8 => ?_⟩
          refine ⟨rfl, fun t9 G9 s9 ht9 n9 => ⟨r8, t9, powQ p 0, _, _, rfl, w8.same s9, nrm_can (pow_ne o1.2.2 _), ok_nrm (bnd_le (bnd_pow o1.1 0) (by decide)) (bnd_le (bnd_pow o1.2.1 0) (by decide)) (pow_ne o1.2.2 _), ht9, by decide, by decide, ?_, fun G10 s10 => q _ (((((s'.trans z5).trans s6).trans s7).trans s8).trans (s9.trans s10))⟩⟩
          have e := e_pw 0 o1.2.2 e1
          rw [Int.pow_zero a1, Int.pow_zero a2] at e
          exact e
      · skip
        refine ⟨_, rfl, _, rfl, (k.natAbs : Int), by rw [← ab], by omega, by omega, ?_⟩
        refine for_range (lo := 0) (n := k.natAbs) (fun i σ H3 => H3 = H' ∧ ∃ u : Option V, σ = [some (.ref x), some (.ref a), some (.int k), some .non, some (.ref r), none, some (.int (a1 ^ i)), some (.int (a2 ^ i)), u]) ⟨rfl, _, by rw [Int.pow_zero, Int.pow_zero]; rfl⟩ ?_ ?_
        · rintro i σ H3 hi ⟨rfl, u, rfl⟩
          have bi : ∀ z : Int, z.natAbs < 2 ^ 150 → CMulW (z ^ i) z := fun z hz => wide_mul (bnd_pow hz i) hz (by omega) (by decide) (by omega)
          exact ⟨_, rfl, _, rfl, a, _, 0, _, rfl, rfl, SqT.of hA, rfl, _, _, rfl, rfl, bi _ u1, _, rfl, _, rfl, a, _, 1, _, rfl, rfl, SqT.of hA, rfl, _, _, rfl, rfl, bi _ u2, rfl, _, by rw [Int.pow_succ, Int.pow_succ]; rfl⟩
        rintro σ H3 ⟨rfl, u, rfl⟩
        refine ⟨_, rfl, rfl, _, rfl, iteF ?_⟩
        refine ⟨_, rfl, x, p, 3, rfl, rfl, hX, o1, fun z => absurd z (by decide), fun _ z => absurd z (by decide), fun _ _ r3 G3 s3 w3 => ?_⟩
        have hA3 := s3 _ _ hA
        have b1 : (a1 * a1).natAbs < 2 ^ 300 := bnd_mul u1 u1 (by decide)
        have b2 : (a2 * a2).natAbs < 2 ^ 300 := bnd_mul u2 u2 (by decide)
        refine ⟨_, rfl, a, _, 0, _, rfl, rfl, SqT.of hA3, rfl, _, rfl, a, _, 0, _, rfl, rfl, SqT.of hA3, rfl, _, _, rfl, rfl, mulW u1 u1 (by decide) (by decide), _, rfl, a, _, 0, _, rfl, rfl, SqT.of hA3, rfl, _, _, rfl, rfl, mulW (B := 300) b1 (bnd_le u1 (by decide)) (by decide) (by decide), _, rfl, a, _, 1, _, rfl, rfl, SqT.of hA3, rfl, _, rfl, a, _, 1, _, rfl, rfl, SqT.of hA3, rfl, _, _, rfl, rfl, mulW u2 u2 (by decide) (by decide), _, rfl, a, _, 1, _, rfl, rfl, SqT.of hA3, rfl, _, _, rfl, rfl, mulW (B := 300) b2 (bnd_le u2 (by decide)) (by decide) (by decide), rfl, fun t4 G4 s4 ht4 n4 => ?_⟩
        have e3 : (powQ p 3).1 * (a2 * a2 * a2) = (a1 * a1 * a1) * (powQ p 3).2 := by
          have e := e_pw 3 o1.2.2 e1
          rw [show a1 ^ 3 = a1 * a1 * a1 by grind, show a2 ^ 3 = a2 * a2 * a2 by grind] at e
          exact e
        refine ⟨r3, t4, powQ p 3, _, _, rfl, w3.same s4, nrm_can (pow_ne o1.2.2 _), ok_nrm (bnd_le (bnd_pow o1.1 3) (by decide)) (bnd_le (bnd_pow o1.2.1 3) (by decide)) (pow_ne o1.2.2 _), ht4, bnd_le (bnd_mul b1 u1 (Nat.le_refl _)) (by decide), bnd_le (bnd_mul b2 u2 (Nat.le_refl _)) (by decide), e3, fun G5 s5 => ⟨true, rfl, iteF ?_⟩⟩
        have z5 := (s3.trans s4).trans s5
        have hR := hr'.same z5
        have bb : ∀ z : Int, z.natAbs < 2 ^ 150 → (z ^ k.natAbs).natAbs < 2 ^ 3900 := fun z hz => bnd_le (bnd_pow hz _) (by omega)
        by_cases hk0 : k < 0
        · have hp : p.1 ≠ 0 := fun z => hn ⟨hk0, z⟩
          have eq : powQ p k = nrm (p.2 ^ k.natAbs) (p.1 ^ k.natAbs) := if_pos hk0
          have cq : Can (powQ p k) := by rw [eq]; exact nrm_can (pow_ne hp _)
          have oq : Okq 3900 (powQ p k) := by rw [eq]; exact ok_nrm (bb _ o1.2.1) (bb _ o1.1) (pow_ne hp _)
          have ee : (powQ p k).1 * a1 ^ k.natAbs = a2 ^ k.natAbs * (powQ p k).2 := by rw [eq]; exact e_pn k.natAbs hp e1
          refine ⟨_, rfl, _, _, rfl, rfl, _, rfl, ite2 (fun _ => ?_) (fun n => absurd (decide_eq_true hk0) n)⟩
          refine ⟨_, rfl, _, _, rfl, rfl, _, rfl, ite2 (fun _ => ?_) (fun _ => ?_)⟩
          · refine ⟨_, rfl, _, rfl, _, rfl, _, rfl, _, rfl, rfl, fun t6 G6 s6 ht6 n6 => ?_⟩
            exact ⟨r, t6, powQ p k, _, _, rfl, hR.same s6, cq, oq, ht6, by rw [Int.natAbs_neg]; exact bb _ u2, by rw [Int.natAbs_neg]; exact bb _ u1, by rw [Int.mul_neg, ee, Int.neg_mul], fun G7 s7 => q _ (((s'.trans z5).trans s6).trans s7)⟩
          · refine ⟨_, rfl, _, _, rfl, rfl, _, rfl, ite2 (fun _ => ?_) (fun n => absurd (decide_eq_true hk0) n)⟩
            refine ⟨_, rfl, _, rfl, _, rfl, rfl, fun t6 G6 s6 ht6 n6 => ?_⟩
            exact ⟨r, t6, powQ p k, _, _, rfl, hR.same s6, cq, oq, ht6, bb _ u2, bb _ u1, ee, fun G7 s7 => q _ (((s'.trans z5).trans s6).trans s7)⟩
        · have eq : powQ p k = nrm (p.1 ^ k.natAbs) (p.2 ^ k.natAbs) := if_neg hk0
          have hp := o1.2.2
          have cq : Can (powQ p k) := by rw [eq]; exact nrm_can (pow_ne hp _)
          have oq : Okq 3900 (powQ p k) := by rw [eq]; exact ok_nrm (bb _ o1.1) (bb _ o1.2.1) (pow_ne hp _)
          have ee : (powQ p k).1 * a2 ^ k.natAbs = a1 ^ k.natAbs * (powQ p k).2 := by rw [eq]; exact e_pw k.natAbs hp e1
          refine ⟨_, rfl, _, _, rfl, rfl, _, rfl, ite2 (fun z => absurd (of_decide_eq_true z) hk0) (fun _ => ?_)⟩
          refine iteF ?_
          refine ⟨_, rfl, _, _, rfl, rfl, _, rfl, ite2 (fun z => absurd (of_decide_eq_true z) hk0) (fun _ => ?_)⟩
          refine ⟨_, rfl, _, rfl, _, rfl, rfl, fun t6 G6 s6 ht6 n6 => ?_⟩
          refine ⟨r, t6, powQ p k, _, _, rfl, hR.same s6, cq, oq, ht6, bb _ u1, bb _ u2, ee, fun G7 s7 => ⟨true, rfl, ?_⟩⟩
          refine ⟨_, rfl, x, p, 0, rfl, rfl, ((hX.same z5).same s6).same s7, o1, fun z => absurd z (by decide), fun _ z => absurd z (by decide), fun _ _ r8 G8 s8 w8 => ?_⟩
          refine ⟨rfl, fun t9 G9 s9 ht9 n9 => ⟨r8, t9, powQ p 0, _, _, rfl, w8.same s9, nrm_can (pow_ne o1.2.2 _), ok_nrm (bnd_le (bnd_pow o1.1 0) (by decide)) (bnd_le (bnd_pow o1.2.1 0) (by decide)) (pow_ne o1.2.2 _), ht9, by decide, by decide, ?_, fun G10 s10 => q _ (((((s'.trans z5).trans s6).trans s7).trans s8).trans (s9.trans s10))⟩⟩
          have e := e_pw 0 o1.2.2 e1
          rw [Int.pow_zero a1, Int.pow_zero a2] at e
          exact e

theorem good_Lpower (Z : CT K mg) : GoodF (L2N.CX P w) P w K mg base 8 "_law_power" ["_law_one", "_law_a", "_law_k"] (spLPow K) := Z.good 49 26 d_Lpower (fun _ _ _ _ _ _ us hl => match us, hl with | [_, _, _], _ => rfl) fun _ F => ok_Lpower Z F
end
end My

namespace My
open PySem PySem.Spec PyProof.Rows L2 PySem.Calls

section
variable {P : Program} {w : World} {K : PySem.W.Frag} {mg : Str → Option Value} {base : Heap} {fd : FuncData} {f : Addr}
theorem told_NoRatio (Z : CT K mg) : XMethH P w K mg base (He.ga K "NoRatio") "told" (He.ma K (He.ga K "NoRatio") "told") "refused noratio" :=
  toldH_of (me_NoRatio_told Z) (Z.d.def_ 2 (d := d_NoRatio_told) rfl) sc_NoRatio_told rfl (fun _ _ _ _ _ _ us hl => match us, hl with | [_], _ => rfl)
theorem sub_self (p : Int × Int) : (subQ p p).1 = 0 := by
  unfold subQ
  rw [Int.sub_self]
  generalize p.2 * p.2 = b
  by_cases h : b < 0
  · unfold nrm
    rw [if_pos h]
    exact Int.zero_fdiv (-((Nat.gcd (Int.natAbs 0) b.natAbs : Nat) : Int))
  · unfold nrm
    rw [if_neg h]
    exact Int.zero_fdiv ((Nat.gcd (Int.natAbs 0) b.natAbs : Nat) : Int)
/-- division by 0 -/
def spZero (K : PySem.W.Frag) : Sp := fun vs H Q _ => ∃ (x : Addr) (p : Int × Int) (i : Int), vs = [.ref x, .int i] ∧ RAt K H x p ∧ Okq 150 p ∧ ∀ H', Same H H' → Q (.bl true) H'
theorem ok_zero (Z : CT K mg) (F : FunD K d_zero.name d_zero.qual d_zero.params d_zero.body d_zero.scope [] [] f fd) : FnOk P w K mg base (L2N.CX P w) 9 f fd ["_law_one", "_law_way"] (spZero K) := by
  refine F.ok sc_zero (fun vs H Q E h => ?_) (fun cdv A outer s H vs Q E hr h => ?_)
  · obtain ⟨x, p, i, rfl, _⟩ := h
    rfl
  · obtain ⟨x, p, i, rfl, hx, o1, q⟩ := h
    refine ⟨_, (pss_cons (ps_set (i := 2) sc_zero.nd rfl (Or.inl rfl) (pe_non))
      (pss_cons (L2N.ps_try_as (i := 4) (tb := fun W => tIfS (tTest (tOp rEq (tVar 1) (tC (.int 0)))) (tAsg (tOp (rFd K (WL 5 W)) (tVar 0) (tC (.int 0))) (gName 3)) (tIfS (tTest (tOp rEq (tVar 1) (tC (.int 1)))) (tAsg (tOp (rMod K (WL 5 W)) (tVar 0) (tR2 K (WL 5 W) (tCons (tC (.int 0)) (tCons (tC (.int 3)) tNil)))) (gName 3)) (tIfS (tTest (tOp rEq (tVar 1) (tC (.int 2)))) (tAsg (tOverM K (WL 5 W) (tVar 0) (tCons (tC (.int 0)) tNil)) (gName 3)) (tAsg (tOp (rFd K (WL 5 W)) (tC (.int 5)) (tOp (rBin K subQ) (tVar 0) (tVar 0))) (gName 3))))) rfl rfl sc_zero.nd rfl rfl ⟨by rfl, by decide, .inl (glo_NoRatio Z)⟩ (L2N.takes_of rfl rfl rfl rfl) (fun W pn xe tk hp => (pss_one (ps_if (pt_cmpR op_eq (pv 1) (pe_int) (nomark _)) (pss_one (ps_set (i := 3) sc_zero.nd rfl (Or.inl rfl) (pe_op (opFd Z hr (passL tk)) (pv 0) (pe_int)))) (pss_one (ps_if (pt_cmpR op_eq (pv 1) (pe_int) (nomark _)) (pss_one (ps_set (i := 3) sc_zero.nd rfl (Or.inl rfl) (pe_op (opMod Z hr (passL tk)) (pv 0) (mkR2 Z hr (pa_cons pe_int (pa_cons pe_int pa_nil)) (passL tk))))) (pss_one (ps_if (pt_cmpR op_eq (pv 1) (pe_int) (nomark _)) (pss_one (ps_set (i := 3) sc_zero.nd rfl (Or.inl rfl) (overM Z hr (pv 0) (pa_cons pe_int pa_nil) (passL tk)))) (pss_one (ps_set (i := 3) sc_zero.nd rfl (Or.inl rfl) (pe_op (opFd Z hr (passL tk)) (pe_int) (pe_op (opSub Z hr ) (pv 0) (pv 0)))))))))))) (fun a oe cls d pn hz hf => (pss_one (ps_set (i := 2) sc_zero.nd rfl (Or.inl rfl) (pe_tupN (pa_cons (pe_xs hz hf (pv 4)) (pa_cons (pe_xsM hz hf hr (pv 4)) (pa_cons (pe_callB (call_isS hz hf) (by rfl) (m_isinstance Z) boot_isinstance (pa_cons (pv 4) (pa_cons (pe_glob (by rfl) (glo_MethodError Z) (rel_ref _)) pa_nil))) pa_nil))))))))
      (pss_one (ps_ret (pe_cmpR (op_eqD hr.units) (pv 2) (pe_tupN (pa_cons pe_str (pa_cons pe_str (pa_cons pe_bl pa_nil)))) (nomark _)))))), ?_⟩
    have oz : Okq 1000 ((0 : Int), (1 : Int)) := ⟨by decide, by decide, by decide⟩
    have o5 : Okq 1000 ((5 : Int), (1 : Int)) := ⟨by decide, by decide, by decide⟩
    refine ⟨_, rfl, rfl, _, rfl, ite2 (fun _ => ?_) (fun _ => ⟨_, rfl, rfl, _, rfl, ite2 (fun _ => ?_) (fun _ => ⟨_, rfl, rfl, _, rfl, ite2 (fun _ => ?_) (fun _ => ?_)⟩)⟩)⟩
    · refine ⟨_, rfl, p, (0, 1), .rat hx, .int 0, .inl ⟨_, rfl⟩, o1.le (by decide), oz, fun _ => ?_, fun z => absurd rfl z⟩
      intro d H' s' hd σ hl
      match σ, hl with
      | [_, _, _, _, _], _ =>
        refine ⟨true, xN_exm Z, fun _ a ha => ⟨_, rfl, _, _, _, rfl, caught Z hd, no_NoRatio_word Z, rfl, _, rfl, _, _, _, _, rfl, caught Z hd, rfl, told_NoRatio Z, _, rfl, _, _, _, _, true, rfl, caught Z hd, fun u r => r, xN_me Z, rfl, fun t5 G5 s5 h5 n5 => ?_⟩, fun z => (nomatch z)⟩
        refine ⟨_, rfl, rfl, fun t6 G6 s6 h6 n6 => ⟨.tuple [.str "zero", .str "refused noratio", .bool true], _, .tup (SqT.of (s6 _ _ h5)) (.cons (.str _) (.cons (.str _) (.cons (.bl _) .nil))), .tup (SqT.of h6) (.cons (.str _) (.cons (.str _) (.cons (.bl _) .nil))), by decide +kernel, by decide +kernel, ?_⟩⟩
        rw [show PyData.eqv (.tuple [.str "zero", .str "refused noratio", .bool true]) (.tuple [.str "zero", .str "refused noratio", .bool true]) = true by decide +kernel]
        exact q _ ((s'.trans s5).trans s6)
    · refine ⟨_, rfl, _, _, rfl, askR_ok (by decide) (by decide) fun r G1 s1 w1 => ⟨p, nrm 0 3, .rat (hx.same s1), .rat w1, .inl ⟨_, rfl⟩, o1.le (by decide), ok_nrm (by decide) (by decide) (by decide), fun _ => ?_, fun z => absurd (by decide) z⟩⟩
      intro d H' s' hd σ hl
      match σ, hl with
      | [_, _, _, _, _], _ =>
        refine ⟨true, xN_exm Z, fun _ a ha => ⟨_, rfl, _, _, _, rfl, caught Z hd, no_NoRatio_word Z, rfl, _, rfl, _, _, _, _, rfl, caught Z hd, rfl, told_NoRatio Z, _, rfl, _, _, _, _, true, rfl, caught Z hd, fun u r => r, xN_me Z, rfl, fun t5 G5 s5 h5 n5 => ?_⟩, fun z => (nomatch z)⟩
        refine ⟨_, rfl, rfl, fun t6 G6 s6 h6 n6 => ⟨.tuple [.str "zero", .str "refused noratio", .bool true], _, .tup (SqT.of (s6 _ _ h5)) (.cons (.str _) (.cons (.str _) (.cons (.bl _) .nil))), .tup (SqT.of h6) (.cons (.str _) (.cons (.str _) (.cons (.bl _) .nil))), by decide +kernel, by decide +kernel, ?_⟩⟩
        rw [show PyData.eqv (.tuple [.str "zero", .str "refused noratio", .bool true]) (.tuple [.str "zero", .str "refused noratio", .bool true]) = true by decide +kernel]
        exact q _ (((s1.trans s').trans s5).trans s6)
    · refine ⟨_, rfl, x, p, rfl, hx, x, p, _, (0, 1), rfl, hx, .int 0, o1.le (by decide), oz, fun _ => ?_, fun z => absurd rfl z⟩
      intro d H' s' hd σ hl
      match σ, hl with
      | [_, _, _, _, _], _ =>
        refine ⟨true, xN_exm Z, fun _ a ha => ⟨_, rfl, _, _, _, rfl, caught Z hd, no_NoRatio_word Z, rfl, _, rfl, _, _, _, _, rfl, caught Z hd, rfl, told_NoRatio Z, _, rfl, _, _, _, _, true, rfl, caught Z hd, fun u r => r, xN_me Z, rfl, fun t5 G5 s5 h5 n5 => ?_⟩, fun z => (nomatch z)⟩
        refine ⟨_, rfl, rfl, fun t6 G6 s6 h6 n6 => ⟨.tuple [.str "zero", .str "refused noratio", .bool true], _, .tup (SqT.of (s6 _ _ h5)) (.cons (.str _) (.cons (.str _) (.cons (.bl _) .nil))), .tup (SqT.of h6) (.cons (.str _) (.cons (.str _) (.cons (.bl _) .nil))), by decide +kernel, by decide +kernel, ?_⟩⟩
        rw [show PyData.eqv (.tuple [.str "zero", .str "refused noratio", .bool true]) (.tuple [.str "zero", .str "refused noratio", .bool true]) = true by decide +kernel]
        exact q _ ((s'.trans s5).trans s6)
    · refine ⟨_, rfl, _, rfl, p, p, .rat hx, .rat hx, .inl ⟨_, rfl⟩, o1.le (by decide), o1.le (by decide), fun r G1 s1 w1 => ⟨(5, 1), subQ p p, .int 5, .rat w1, .inr ⟨_, rfl⟩, o5, (okq_sub o1 o1).le (by decide), fun _ => ?_, fun z => absurd (sub_self p) z⟩⟩
      intro d H' s' hd σ hl
      match σ, hl with
      | [_, _, _, _, _], _ =>
        refine ⟨true, xN_exm Z, fun _ a ha => ⟨_, rfl, _, _, _, rfl, caught Z hd, no_NoRatio_word Z, rfl, _, rfl, _, _, _, _, rfl, caught Z hd, rfl, told_NoRatio Z, _, rfl, _, _, _, _, true, rfl, caught Z hd, fun u r => r, xN_me Z, rfl, fun t5 G5 s5 h5 n5 => ?_⟩, fun z => (nomatch z)⟩
        refine ⟨_, rfl, rfl, fun t6 G6 s6 h6 n6 => ⟨.tuple [.str "zero", .str "refused noratio", .bool true], _, .tup (SqT.of (s6 _ _ h5)) (.cons (.str _) (.cons (.str _) (.cons (.bl _) .nil))), .tup (SqT.of h6) (.cons (.str _) (.cons (.str _) (.cons (.bl _) .nil))), by decide +kernel, by decide +kernel, ?_⟩⟩
        rw [show PyData.eqv (.tuple [.str "zero", .str "refused noratio", .bool true]) (.tuple [.str "zero", .str "refused noratio", .bool true]) = true by decide +kernel]
        exact q _ (((s1.trans s').trans s5).trans s6)

theorem good_zero (Z : CT K mg) : GoodF (L2N.CX P w) P w K mg base 9 "_law_zero" ["_law_one", "_law_way"] (spZero K) := Z.good 48 25 d_zero (fun _ _ _ _ _ _ us hl => match us, hl with | [_, _], _ => rfl) fun _ F => ok_zero Z F
end
end My

namespace My
open PySem PySem.Spec PyProof.Rows L2 PySem.Calls

section
variable {P : Program} {w : World} {K : PySem.W.Frag} {mg : Str → Option Value} {base : Heap} {fd : FuncData} {f : Addr}
/-- an exponent that is not allowed -/
def spExponent (K : PySem.W.Frag) : Sp := fun vs H Q _ => ∃ (x : Addr) (p : Int × Int) (i : Int), vs = [.ref x, .int i] ∧ RAt K H x p ∧ Okq 150 p ∧ 0 ≤ i ∧ i ≤ 8 ∧ ∀ H', Same H H' → Q (.bl true) H'
theorem updn {H G : Hp} {p : Addr} {o : HO} (s : Same H G) (n : G p = none) : Same H (upd G p o) := fun b o z => by rw [upd_ne (ne_of_none (s _ _ z) n)]; exact s _ _ z
theorem ok_exponent (Z : CT K mg) (F : FunD K d_exponent.name d_exponent.qual d_exponent.params d_exponent.body d_exponent.scope [] [] f fd) : FnOk P w K mg base (L2N.CX P w) 9 f fd ["_law_one", "_law_way"] (spExponent K) := by
  refine F.ok sc_exponent (fun vs H Q E h => ?_) (fun cdv A outer s H vs Q E hr h => ?_)
  · obtain ⟨x, p, i, rfl, _⟩ := h
    rfl
  · obtain ⟨x, p, i, rfl, hx, o1, i0, i8, q⟩ := h
    refine ⟨_, (pss_cons (ps_set (i := 2) sc_exponent.nd rfl (Or.inl rfl) (pe_non))
      (pss_cons (L2N.ps_try_as (i := 4) (tb := fun W => tIfS (tTest (tOp rEq (tVar 1) (tC (.int 0)))) (tAsg (tOp (rPow K (WL 5 W)) (tVar 0) (tC (.int 21))) (gName 3)) (tAsg (tPowS K W (tVar 0) (tCons (tOp (rIxL K) (tNewL (tCons (tC (.bl true)) (tCons (tC .non) (tCons (tC (.str "2")) (tCons (tNewT (tCons (tC (.int 1)) tNil)) (tCons (tR1 K (WL 5 W) (tCons (tC (.int 2)) tNil)) (tCons tDNewK (tCons (tUn (rU fun i => .int (-i)) (tC (.int 21))) (tCons (tC (.int 21)) tNil))))))))) (tOp (rI0 fun i j => .int (i - j)) (tVar 1) (tC (.int 1)))) tNil)) (gName 3))) rfl rfl sc_exponent.nd rfl rfl ⟨by rfl, by decide, .inl (glo_NoRatio Z)⟩ (L2N.takes_of rfl rfl rfl rfl) (fun W pn xe tk hp => (pss_one (ps_if (pt_cmpR op_eq (pv 1) (pe_int) (nomark _)) (pss_one (ps_set (i := 3) sc_exponent.nd rfl (Or.inl rfl) (pe_op (opPow Z hr (passL tk)) (pv 0) (pe_int)))) (pss_one (ps_set (i := 3) sc_exponent.nd rfl (Or.inl rfl) (powerMS Z hr (pv 0) (pa_cons (pe_ix ix_list (pe_lstN (pa_cons pe_bl (pa_cons pe_non (pa_cons pe_str (pa_cons (pe_tupN (pa_cons pe_int pa_nil)) (pa_cons (mkR1 Z hr (pa_cons pe_int pa_nil) (passL tk)) (pa_cons pe_dnewK (pa_cons (pe_un un_neg (pe_int)) (pa_cons pe_int pa_nil))))))))) (pe_op op_sub (pv 1) (pe_int)) (fun _ _ => rfl)) pa_nil) tk)))))) (fun a oe cls d pn hz hf => (pss_one (ps_set (i := 2) sc_exponent.nd rfl (Or.inl rfl) (pe_tupN (pa_cons (pe_xs hz hf (pv 4)) (pa_cons (pe_xsM hz hf hr (pv 4)) pa_nil)))))))
      (pss_one (ps_ret (pe_cmpR (op_eqD hr.units) (pv 2) (pe_tupN (pa_cons pe_str (pa_cons pe_str pa_nil))) (nomark _)))))), ?_⟩
    refine ⟨_, rfl, rfl, _, rfl, ite2 (fun _ => ?_) (fun h0 => ?_)⟩
    · refine ⟨_, rfl, x, p, 21, rfl, rfl, hx, o1, fun _ => ?_, fun z => absurd z (by decide), fun z => absurd z (by decide)⟩
      intro d H' s' hd σ hl
      match σ, hl with
      | [_, _, _, _, _], _ =>
        refine ⟨true, xN_exm Z, fun _ a ha => ⟨_, rfl, _, _, _, rfl, caught Z hd, no_NoRatio_word Z, rfl, _, rfl, _, _, _, _, rfl, caught Z hd, rfl, told_NoRatio Z, rfl, fun t5 G5 s5 h5 n5 => ?_⟩, fun z => (nomatch z)⟩
        refine ⟨_, rfl, rfl, fun t6 G6 s6 h6 n6 => ⟨.tuple [.str "power", .str "refused noratio"], _, .tup (SqT.of (s6 _ _ h5)) (.cons (.str _) (.cons (.str _) .nil)), .tup (SqT.of h6) (.cons (.str _) (.cons (.str _) .nil)), by decide +kernel, by decide +kernel, ?_⟩⟩
        rw [show PyData.eqv (.tuple [.str "power", .str "refused noratio"]) (.tuple [.str "power", .str "refused noratio"]) = true by decide +kernel]
        exact q _ ((s'.trans s5).trans s6)

    · have h0 : i ≠ 0 := fun z => h0 (by rw [z]; rfl)
      refine ⟨_, rfl, x, p, rfl, hx, rfl, fun t1 G1 s1 h1 n1 => ⟨_, rfl, askR_ok (by decide) (by decide) fun r G2 s2 w2 => fun c n3 => ⟨_, rfl, rfl, fun l G4 s4 hl n4 => ?_⟩⟩⟩
      have z3 : Same H (upd G2 c (.dK [])) := updn (s1.trans s2) n3
      have z4 := z3.trans s4
      have sd : Same G2 (upd G2 c (.dK [])) := updn (Same.refl G2) n3
      have sc : Same G2 G4 := sd.trans s4
      obtain ⟨v, b, hv, hk, hi⟩ : ∃ v b, atI [V.bl true, V.non, V.str "2", V.ref t1, V.ref r, V.ref c, V.int (-21), V.int 21] (i - 1) = some v ∧ Kind K G4 v b ∧ ∀ k, v = .int k → 20 < k.natAbs := by
        rcases (by omega : i = 1 ∨ i = 2 ∨ i = 3 ∨ i = 4 ∨ i = 5 ∨ i = 6 ∨ i = 7 ∨ i = 8) with rfl | rfl | rfl | rfl | rfl | rfl | rfl | rfl
        · exact ⟨_, _, rfl, .bl _, fun k e => nomatch e⟩
        · exact ⟨_, _, rfl, .non, fun k e => nomatch e⟩
        · exact ⟨_, _, rfl, .str _, fun k e => nomatch e⟩
        · exact ⟨_, _, rfl, .tup (sc _ _ (s2 _ _ h1)), fun k e => nomatch e⟩
        · exact ⟨_, _, rfl, .rat (w2.same sc), fun k e => nomatch e⟩
        · exact ⟨_, _, rfl, .dic (s4 _ _ upd_same), fun k e => nomatch e⟩
        · exact ⟨_, _, rfl, .int _, fun k e => by injection e with e; omega⟩
        · exact ⟨_, _, rfl, .int _, fun k e => by injection e with e; omega⟩
      refine ⟨_, rfl, _, _, rfl, rfl, l, _, _, v, rfl, rfl, SqL.of hl, hv, ?_⟩
      refine ⟨x, p, v, b, rfl, hx.same z4, o1, hk, fun _ => ?_, fun k e => ⟨fun _ => ?_, fun z => absurd (hi k e) (by omega), fun z => absurd (hi k e) (by omega)⟩⟩
      · intro d H' s' hd
        refine ⟨true, xN_exm Z, fun _ a ha => ⟨_, rfl, _, _, _, rfl, caught Z hd, no_NoRatio_word Z, rfl, _, rfl, _, _, _, _, rfl, caught Z hd, rfl, told_NoRatio Z, rfl, fun t5 G5 s5 h5 n5 => ?_⟩, fun z => (nomatch z)⟩
        refine ⟨_, rfl, rfl, fun t6 G6 s6 h6 n6 => ⟨.tuple [.str "power", .str "refused noratio"], _, .tup (SqT.of (s6 _ _ h5)) (.cons (.str _) (.cons (.str _) .nil)), .tup (SqT.of h6) (.cons (.str _) (.cons (.str _) .nil)), by decide +kernel, by decide +kernel, ?_⟩⟩
        rw [show PyData.eqv (.tuple [.str "power", .str "refused noratio"]) (.tuple [.str "power", .str "refused noratio"]) = true by decide +kernel]
        exact q _ (((z4.trans s').trans s5).trans s6)

      · intro d H' s' hd
        refine ⟨true, xN_exm Z, fun _ a ha => ⟨_, rfl, _, _, _, rfl, caught Z hd, no_NoRatio_word Z, rfl, _, rfl, _, _, _, _, rfl, caught Z hd, rfl, told_NoRatio Z, rfl, fun t5 G5 s5 h5 n5 => ?_⟩, fun z => (nomatch z)⟩
        refine ⟨_, rfl, rfl, fun t6 G6 s6 h6 n6 => ⟨.tuple [.str "power", .str "refused noratio"], _, .tup (SqT.of (s6 _ _ h5)) (.cons (.str _) (.cons (.str _) .nil)), .tup (SqT.of h6) (.cons (.str _) (.cons (.str _) .nil)), by decide +kernel, by decide +kernel, ?_⟩⟩
        rw [show PyData.eqv (.tuple [.str "power", .str "refused noratio"]) (.tuple [.str "power", .str "refused noratio"]) = true by decide +kernel]
        exact q _ (((z4.trans s').trans s5).trans s6)


theorem good_exponent (Z : CT K mg) : GoodF (L2N.CX P w) P w K mg base 9 "_law_exponent" ["_law_one", "_law_way"] (spExponent K) := Z.good 50 27 d_exponent (fun _ _ _ _ _ _ us hl => match us, hl with | [_, _], _ => rfl) fun _ F => ok_exponent Z F
end
end My

namespace My
open PySem PySem.Spec PyProof.Rows L2 PySem.Calls

section
variable {P : Program} {w : World} {K : PySem.W.Frag} {mg : Str → Option Value} {base : Heap} {fd : FuncData} {f : Addr}
theorem kind_no {H : Hp} {x : V} {t : Int} (h : Kind K H x false) (e : x = .int t) : False := by
  subst e
  cases h
def spWords (K : PySem.W.Frag) : Sp := fun vs H Q _ => ∃ (p : Addr) (x y : Int), vs = [.ref p] ∧ H p = some (.lst [.int x, .int y]) ∧ 0 ≤ x ∧ 0 ≤ y ∧ y < 999000 ∧ ∀ H', (∀ d, d ≠ p → ∀ o, H d = some o → H' d = some o) → Q (.bl true) H'
theorem ok_words (Z : CT K mg) (F : FunD K d_words.name d_words.qual d_words.params d_words.body d_words.scope [] [] f fd) : FnOk P w K mg base (CX0) 6 f fd ["_law_pouch_here"] (spWords K) := by
  refine F.ok sc_words (fun vs H Q E h => ?_) (fun cdv A outer s H vs Q E hr h => ?_)
  · obtain ⟨p, x, y, rfl, _⟩ := h
    rfl
  · obtain ⟨p, x0, y0, rfl, hp0, hx0, hy0, hm, q⟩ := h
    refine ⟨_, (pss_cons (ps_set (i := 1) sc_words.nd rfl (Or.inl rfl) (pe_ix ix_list (pe_lstN (pa_cons pe_non (pa_cons pe_bl (pa_cons pe_str (pa_cons (pe_tupN (pa_cons pe_int pa_nil)) (pa_cons (pe_lstN (pa_cons pe_int pa_nil)) (pa_cons pe_dnewK pa_nil))))))) (gcall (good_draw Z) hr (pa_cons (pv 0) (pa_cons pe_int pa_nil)) pass0) (fun _ _ => rfl)))
      (pss_cons (ps_set (i := 2) sc_words.nd rfl (Or.inl rfl) (pe_op op_sub (gcall (good_draw Z) hr (pa_cons (pv 0) (pa_cons pe_int pa_nil)) pass0) (pe_int)))
      (pss_cons (ps_if (PW.pt (pw_or (pt_cmpR op_ne (gcall (good_word Z) hr (pa_cons (pv 1) (pa_cons pe_int pa_nil)) passN) (pe_str) (nomark _)) (pw_or (pt_cmpR op_ne (gcall (good_word Z) hr (pa_cons (pv 1) (pa_cons (pv 1) pa_nil)) passN) (pe_str) (nomark _)) (pw_or1 (pt_cmpR op_ne (gcall (good_word Z) hr (pa_cons (pv 2) (pa_cons (pv 1) pa_nil)) passN) (pe_str) (nomark _)))))) (pss_one (ps_ret pe_bl)) pss_nil)
      (pss_one (ps_ret ((pe_and (pe_cmpR op_eq (gcall (good_word Z) hr (pa_cons (pv 2) (pa_cons pe_int pa_nil)) passN) (pe_str) (nomark _)) (pe_and (pe_cmpR op_isN1 (gcall (good_word Z) hr (pa_cons (pv 2) (pa_cons pe_int pa_nil)) passN) (pe_non) (nomark _)) (pe_one (pe_cmpR op_isN1 (gcall (good_word Z) hr (pa_cons (pv 2) (pa_cons (pe_un un_neg (pe_int)) pa_nil)) passN) (pe_non) (nomark _))))))))))), ?_⟩
    refine ⟨rfl, fun t1 G1 s1 h1 n1 => ⟨rfl, fun l2 G2 s2 h2 n2 => fun c n3 => ⟨rfl, fun l G4 s4 hl n4 => ?_⟩⟩⟩
    have sd : Same G2 (upd G2 c (.dK [])) := updn (Same.refl G2) n3
    have z4 : Same H G4 := (((s1.trans s2).trans sd).trans s4)
    refine ⟨_, rfl, p, x0, y0, 6, rfl, z4 _ _ hp0, hx0, by omega, by omega, by decide, by decide, fun r1 x1 y1 H1 ra1 rb1 hx1 hy1 hz1 k1 hp1 => ?_⟩
    have lp : l ≠ p := Ne.symm (ne_of_none (((s1.trans s2).trans sd) _ _ hp0) n4)
    have tp : t1 ≠ p := Ne.symm (ne_of_none hp0 n1)
    have l2p : l2 ≠ p := Ne.symm (ne_of_none (s1 _ _ hp0) n2)
    have cp : c ≠ p := Ne.symm (ne_of_none ((s1.trans s2) _ _ hp0) n3)
    obtain ⟨v, hv, hk⟩ : ∃ v, atI [V.non, V.bl true, V.str "3", V.ref t1, V.ref l2, V.ref c] r1 = some v ∧ ∀ H2, (∀ d, d ≠ p → H2 d = H1 d) → Kind K H2 v false := by
      rcases (by omega : r1 = 0 ∨ r1 = 1 ∨ r1 = 2 ∨ r1 = 3 ∨ r1 = 4 ∨ r1 = 5) with rfl | rfl | rfl | rfl | rfl | rfl
      · exact ⟨_, rfl, fun H2 k => .non⟩
      · exact ⟨_, rfl, fun H2 k => .bl _⟩
      · exact ⟨_, rfl, fun H2 k => .str _⟩
      · exact ⟨_, rfl, fun H2 k => .tup (by rw [k _ tp, k1 _ tp]; exact s4 _ _ (sd _ _ (s2 _ _ h1)))⟩
      · exact ⟨_, rfl, fun H2 k => .lst (by rw [k _ l2p, k1 _ l2p]; exact s4 _ _ (sd _ _ h2))⟩
      · exact ⟨_, rfl, fun H2 k => .dic (by rw [k _ cp, k1 _ cp]; exact s4 _ _ upd_same)⟩
    refine ⟨_, _, _, v, rfl, rfl, SqL.of (by rw [k1 _ lp]; exact hl), hv, ?_⟩
    refine ⟨_, rfl, p, x1, y1, 9, rfl, hp1, hx1, by omega, by omega, by decide, by decide, fun r2 x2 y2 H2 ra2 rb2 hx2 hy2 hz2 k2 hp2 => ?_⟩
    have kv : Kind K H2 v false := hk H2 k2
    refine ⟨_, _, rfl, rfl, ?_⟩
    refine ⟨_, rfl, _, _, false, true, rfl, kv, .int 0, fun _ H3 s3 => ?_, fun z => (nomatch z), fun t b e => (kind_no kv e).elim⟩
    refine ⟨rfl, _, rfl, iteF ?_⟩
    have kv := kv.same s3
    refine ⟨_, rfl, _, rfl, _, _, false, false, rfl, kv, kv, fun _ H4 s5 => ?_, fun z => (nomatch z), fun t b e => (kind_no kv e).elim⟩
    refine ⟨rfl, _, rfl, iteF ?_⟩
    have kv := kv.same s5
    refine ⟨_, rfl, _, rfl, _, _, true, false, rfl, .int _, kv, fun z => (nomatch z), fun _ _ H5 s6 => ?_, fun t b e e2 => (kind_no kv e2).elim⟩
    refine ⟨rfl, _, rfl, iteF ?_⟩
    refine ⟨_, rfl, _, _, true, true, rfl, .int _, .int 0, fun z => (nomatch z), fun _ z => (nomatch z), fun t b e e2 => ?_⟩
    injection e with e
    injection e2 with e2
    subst e e2
    refine ⟨fun _ H6 s7 => ?_, fun z => absurd rfl z⟩
    refine ⟨rfl, true, rfl, ?_⟩
    refine ⟨_, rfl, _, _, true, true, rfl, .int _, .int 1, fun z => (nomatch z), fun _ z => (nomatch z), fun t b e e2 => ?_⟩
    injection e with e
    injection e2 with e2
    subst e e2
    refine ⟨fun z => absurd z (by decide), fun _ => ⟨by show (1 : Int).natAbs < 2 ^ 8000; decide, fun H7 s8 => ?_⟩⟩
    refine ⟨rfl, true, rfl, ?_⟩
    refine ⟨_, rfl, _, rfl, _, _, true, true, rfl, .int _, .int (-2), fun z => (nomatch z), fun _ z => (nomatch z), fun t b e e2 => ?_⟩
    injection e with e
    injection e2 with e2
    subst e e2
    refine ⟨fun z => absurd z (by decide), fun _ => ⟨by show (-2 : Int).natAbs < 2 ^ 8000; decide, fun H8 s9 => ?_⟩⟩
    refine ⟨rfl, q _ fun d hd o z => ?_⟩
    have zz := ((((s3.trans s5).trans s6).trans s7).trans s8).trans s9
    exact zz _ _ (by rw [k2 d hd, k1 d hd]; exact z4 _ _ z)

theorem good_words (Z : CT K mg) : GoodF (CX0) P w K mg base 6 "_law_words" ["_law_pouch_here"] (spWords K) := Z.good 52 29 d_words (fun _ _ _ _ _ _ us hl => match us, hl with | [_], _ => rfl) fun _ F => ok_words Z F
end
end My

namespace My
open PySem PySem.Spec PyProof.Rows L2 PySem.Calls

section
variable {P : Program} {w : World} {K : PySem.W.Frag} {mg : Str → Option Value} {base : Heap} {fd : FuncData} {f : Addr}
/-- all but the list at p stays -/
def Kp (p : Addr) (H H' : Hp) : Prop := ∀ d, d ≠ p → ∀ o, H d = some o → H' d = some o
theorem kp_of {p : Addr} {H H' : Hp} (h : ∀ b, b ≠ p → H' b = H b) : Kp p H H' := fun d hd o z => by rw [h d hd]; exact z
section
variable {p : Addr} {H H' : Hp} {zs : List V}
theorem kp_rat {x : Addr} {q : Int × Int} (h : RAt K H x q) (hp : H p = some (.lst zs)) (k : Kp p H H') : RAt K H' x q := let ⟨dx, e⟩ := h; ⟨dx, k _ (ne_of e hp (by intro z; cases z)) _ e⟩
theorem kp_tup {x : Addr} {ts : List V} (h : H x = some (.tup ts)) (hp : H p = some (.lst zs)) (k : Kp p H H') : H' x = some (.tup ts) := k _ (ne_of h hp (by intro z; cases z)) _ h
theorem kp_num {y : V} {q : Int × Int} (h : Num K H y q) (hp : H p = some (.lst zs)) (k : Kp p H H') : Num K H' y q := by
  cases h with
  | int n => exact .int n
  | rat h => exact .rat (kp_rat h hp k)
theorem kp_two {x : Addr} {y : V} {a b : Addr} {p' q : Int × Int} {a1 a2 b1 b2 : Int} (T : Two K H x y a b p' q a1 a2 b1 b2) (hp : H p = some (.lst zs)) (k : Kp p H H') : Two K H' x y a b p' q a1 a2 b1 b2 := ⟨kp_rat T.hx hp k, kp_num T.hy hp k, kp_tup T.ha hp k, kp_tup T.hb hp k, T.o1, T.o2, T.c1, T.c2, T.e1, T.e2, T.u1, T.u2, T.u3, T.u4, T.g1, T.g2⟩
theorem kp_same {H0 : Hp} (s : Same H0 H) (n : H0 p = none) (k : Kp p H H') : Same H0 H' := fun d o z => k d (ne_of_none z n) o (s d o z)
end
def spLaw (K : PySem.W.Frag) : Sp := fun vs H Q _ => ∃ (a : Addr) (ns : List Int), vs = [.ref a] ∧ SqL K H a (ns.map V.int) ∧ ∀ H', Q (.bl true) H'
theorem ok_law (Z : CT K mg) (F : FunD K d_law.name d_law.qual d_law.params d_law.body d_law.scope [] [] f fd) : FnOk P w K mg base (CX0) 10 f fd ["_law_script"] (spLaw K) := by
  refine F.ok sc_law (fun vs H Q E h => ?_) (fun cdv A outer s H vs Q E hr h => ?_)
  · obtain ⟨a, ns, rfl, _⟩ := h
    rfl
  · obtain ⟨s0, ns, rfl, hS, q⟩ := h
    refine ⟨_, (pss_cons (ps_set (i := 1) sc_law.nd rfl (Or.inl rfl) (gcall (good_pouch Z) hr (pa_cons (pv 0) (pa_cons pe_int pa_nil)) pass0))
      (pss_cons (ps_set (i := 2) sc_law.nd rfl (Or.inl rfl) (gcall (good_number Z) hr (pa_cons (pv 1) pa_nil) pass0))
      (pss_cons (ps_set (i := 3) sc_law.nd rfl (Or.inl rfl) (gcall (good_number Z) hr (pa_cons (gcall (good_pouch Z) hr (pa_cons (pv 0) (pa_cons pe_int pa_nil)) pass0) pa_nil) pass0))
      (pss_cons (ps_set (i := 4) sc_law.nd rfl (Or.inl rfl) (pe_op op_sub (gcall (good_draw Z) hr (pa_cons (pv 1) (pa_cons pe_int pa_nil)) pass0) (pe_int)))
      (pss_cons (ps_set (i := 5) sc_law.nd rfl (Or.inl rfl) (pe_op op_sub (pe_int) (pe_op op_mulW (pe_int) (gcall (good_draw Z) hr (pa_cons (pv 1) (pa_cons pe_int pa_nil)) pass0))))
      (pss_cons (ps_set (i := 6) sc_law.nd rfl (Or.inl rfl) (mkR2 Z hr (pa_cons (pe_op op_mulW (pv 5) (pe_ix ix_tup (pv 2) pe_int (fun _ _ => rfl))) (pa_cons (pe_op op_mulW (pv 5) (pe_ix ix_tup (pv 2) pe_int (fun _ _ => rfl))) pa_nil)) passN))
      (pss_cons (ps_set (i := 7) sc_law.nd rfl (Or.inl rfl) (gcall (good_make Z) hr (pa_cons (pv 3) pa_nil) pass0))
      (pss_cons (ps_if (PW.pt (pw_or (pt_not (pt_val (gcall (good_right Z) hr (pa_cons (pv 6) (pa_cons (pv 2) pa_nil)) pass0) (fun _ => rfl))) (pw_or1 (pt_not (pt_val (gcall (good_right Z) hr (pa_cons (mkR1 Z hr (pa_cons (pe_ix ix_tup (pv 2) pe_int (fun _ _ => rfl)) pa_nil) passN) (pa_cons (pe_tupN (pa_cons (pe_ix ix_tup (pv 2) pe_int (fun _ _ => rfl)) (pa_cons pe_int pa_nil))) pa_nil)) pass0) (fun _ => rfl)))))) (pss_one (ps_ret pe_bl)) pss_nil)
      (pss_cons (ps_if (PW.pt (pw_or (pt_not (pt_val (gcall (good_plain Z) hr (pa_cons (pv 6) (pa_cons (pv 7) (pa_cons (pv 2) (pa_cons (pv 3) pa_nil)))) pass0) (fun _ => rfl))) (pw_or1 (pt_not (pt_val (gcall (good_plain Z) hr (pa_cons (pv 6) (pa_cons (mkR2 Z hr (pa_cons (pe_ix ix_tup (pv 3) pe_int (fun _ _ => rfl)) (pa_cons (pe_ix ix_tup (pv 3) pe_int (fun _ _ => rfl)) pa_nil)) passN) (pa_cons (pv 2) (pa_cons (pv 3) pa_nil)))) pass0) (fun _ => rfl)))))) (pss_one (ps_ret pe_bl)) pss_nil)
      (pss_cons (ps_if (PW.pt (pw_or (pt_not (pt_val (gcall (good_divided Z) hr (pa_cons (pv 6) (pa_cons (pv 7) (pa_cons (pv 2) (pa_cons (pv 3) pa_nil)))) pass0) (fun _ => rfl))) (pw_or1 (pt_not (pt_val (gcall (good_reflected Z) hr (pa_cons (pv 6) (pa_cons (pv 7) (pa_cons (pv 2) (pa_cons (pv 3) pa_nil)))) pass0) (fun _ => rfl)))))) (pss_one (ps_ret pe_bl)) pss_nil)
      (pss_cons (ps_if (PW.pt (pw_or (pt_not (pt_val (gcall (good_zero Z) hr (pa_cons (pv 6) (pa_cons (gcall (good_draw Z) hr (pa_cons (pv 1) (pa_cons pe_int pa_nil)) pass0) pa_nil)) passN) (fun _ => rfl))) (pw_or1 (pt_not (pt_val (gcall (good_Lpower Z) hr (pa_cons (pv 6) (pa_cons (pv 2) (pa_cons (pv 4) pa_nil))) passN) (fun _ => rfl)))))) (pss_one (ps_ret pe_bl)) pss_nil)
      (pss_cons (ps_if (PW.pt (pw_or (pt_not (pt_val (gcall (good_exponent Z) hr (pa_cons (pv 6) (pa_cons pe_int pa_nil)) passN) (fun _ => rfl))) (pw_or1 (pt_not (pt_val (gcall (good_exponent Z) hr (pa_cons (pv 6) (pa_cons (pe_op op_add (pe_int) (gcall (good_draw Z) hr (pa_cons (pv 1) (pa_cons pe_int pa_nil)) pass0)) pa_nil)) passN) (fun _ => rfl)))))) (pss_one (ps_ret pe_bl)) pss_nil)
      (pss_one (ps_ret ((pe_and (gcall (good_words Z) hr (pa_cons (gcall (good_pouch Z) hr (pa_cons (pv 0) (pa_cons pe_int pa_nil)) pass0) pa_nil) pass0) (pe_one (gcall (good_right Z) hr (pa_cons (pv 6) (pa_cons (pv 2) pa_nil)) pass0)))))))))))))))))), ?_⟩
    refine ⟨_, rfl, s0, ns, 0, rfl, hS, by decide, by decide, fun p x y H1 hx hy hy2 hn hs hp => ?_⟩
    refine ⟨_, rfl, p, x, y, rfl, hp, hx, hy, by omega, fun ca a1 a2 x1 y1 H2 ua ga ga2 hx1 hy1 hz1 kp2 hp1 hca => ?_⟩
    have S2 : Same H H2 := kp_same hs hn kp2
    refine ⟨_, rfl, s0, ns, 1, rfl, S2.seq hS, by decide, by decide, fun p2 xx yy H3 hxx hyy hyy2 hn3 hs3 hp3 => ?_⟩
    refine ⟨p2, xx, yy, rfl, hp3, hxx, hyy, by omega, fun cb b1 b2 x2 y2 H4 ub gb gb2 hx2 hy2' hz2 kp4 _ hcb => ?_⟩
    have S23 : Same H2 H4 := kp_same hs3 hn3 kp4
    have S4 := S2.trans S23
    have hca := S23 _ _ hca
    have hp1 := S23 _ _ hp1
    refine ⟨_, rfl, p, x1, y1, 45, rfl, hp1, hx1, by omega, by omega, by decide, by decide, fun r1 x3 y3 H5 ra1 rb1 hx3 hy3 hz3 k5 hp5 => ⟨_, _, rfl, rfl, ?_⟩⟩
    have hca := kp_tup hca hp1 (kp_of k5)
    have hcb := kp_tup hcb hp1 (kp_of k5)
    have S5 := kp_same S4 hn (kp_of k5)
    refine ⟨_, rfl, p, x3, y3, 2, rfl, hp5, hx3, by omega, by omega, by decide, by decide, fun r2 x4 y4 H6 ra2 rb2 hx4 hy4 hz4 k6 hp6 => ⟨_, _, rfl, rfl, mulW (B := 100) (by decide) (by omega) (by decide) (by decide), _, _, rfl, rfl, ?_⟩⟩
    have hca := kp_tup hca hp5 (kp_of k6)
    have hcb := kp_tup hcb hp5 (kp_of k6)
    have S6 := kp_same S5 hn (kp_of k6)
    have f1 : r2 = 0 ∨ r2 = 1 := by omega
    have fu : (1 - 2 * r2).natAbs < 2 ^ 100 := by omega
    have v1 : ((1 - 2 * r2) * a1).natAbs < 2 ^ 70 := by rcases f1 with rfl | rfl <;> omega
    have v2 : ((1 - 2 * r2) * a2).natAbs < 2 ^ 70 := by rcases f1 with rfl | rfl <;> omega
    have v3 : (1 - 2 * r2) * a2 ≠ 0 := by rcases f1 with rfl | rfl <;> omega
    have w1 : a1.natAbs < 2 ^ 100 := by omega
    have w2 : a2.natAbs < 2 ^ 100 := by omega
    have w3 : b1.natAbs < 2 ^ 100 := by omega
    have w4 : b2.natAbs < 2 ^ 100 := by omega
    refine ⟨_, rfl, _, rfl, ca, _, 0, _, rfl, rfl, SqT.of hca, rfl, _, _, rfl, rfl, mulW fu w1 (by decide) (by decide), _, rfl, _, rfl, ca, _, 1, _, rfl, rfl, SqT.of hca, rfl, _, _, rfl, rfl, mulW fu w2 (by decide) (by decide), _, _, rfl, askR_ok v3 (bnd_le v2 (by decide)) fun x1' H7 s7 w7 => ?_⟩
    have S7 := S6.trans s7
    have e1 : (nrm ((1 - 2 * r2) * a1) ((1 - 2 * r2) * a2)).1 * a2 = a1 * (nrm ((1 - 2 * r2) * a1) ((1 - 2 * r2) * a2)).2 := by
      have n := nrm_eq (t := (1 - 2 * r2) * a1) v3
      generalize nrm ((1 - 2 * r2) * a1) ((1 - 2 * r2) * a2) = r at n ⊢
      rcases f1 with rfl | rfl
      · grind
      · grind
    have e2 : (nrm b1 b2).1 * b2 = b1 * (nrm b1 b2).2 := nrm_eq (by omega)
    have o1 : Okq 150 (nrm ((1 - 2 * r2) * a1) ((1 - 2 * r2) * a2)) := ok_nrm (bnd_le v1 (by decide)) (bnd_le v2 (by decide)) v3
    have c1 : Can (nrm ((1 - 2 * r2) * a1) ((1 - 2 * r2) * a2)) := nrm_can v3
    have o2 : Okq 150 (nrm b1 b2) := ok_nrm (bnd_le w3 (by decide)) (bnd_le w4 (by decide)) (by omega)
    have c2 : Can (nrm b1 b2) := nrm_can (by omega)
    refine ⟨_, rfl, cb, b1, b2, rfl, s7 _ _ hcb, gb, gb2, fun v H8 s8 hv => ?_⟩
    have S8 := S7.trans s8
    have hp8 := s8 _ _ (s7 _ _ hp6)
    have T : Two K H8 x1' v ca cb _ _ a1 a2 b1 b2 := ⟨w7.same s8, hv, s8 _ _ (s7 _ _ hca), s8 _ _ (s7 _ _ hcb), o1, o2, c1, c2, e1, e2, bnd_le w1 (by decide), bnd_le w2 (by decide), bnd_le w3 (by decide), bnd_le w4 (by decide), ga, gb⟩
    generalize nrm ((1 - 2 * r2) * a1) ((1 - 2 * r2) * a2) = P1 at *
    -- what was made
    refine ⟨_, rfl, _, rfl, x1', ca, P1, a1, a2, rfl, T.hx, c1, o1.le (by decide), T.ha, bnd_le w1 (by decide), bnd_le w2 (by decide), e1, fun H9 s9 => ⟨true, rfl, ?_⟩⟩
    have T := T.same s9
    have m1 : Okq 3900 (nrm a1 1) := ok_nrm (bnd_le w1 (by decide)) (by decide) (by decide)
    refine ⟨_, rfl, ca, _, 0, _, rfl, rfl, SqT.of T.ha, rfl, _, rfl, askR_ok (by decide) (by decide) fun r10 H10 s10 w10 => ?_⟩
    have T := T.same s10
    refine ⟨_, rfl, ca, _, 0, _, rfl, rfl, SqT.of T.ha, rfl, rfl, fun t11 H11 s11 ht11 n11 => ?_⟩
    refine ⟨r10, t11, nrm a1 1, a1, 1, rfl, w10.same s11, nrm_can (by decide), m1, ht11, bnd_le w1 (by decide), by decide, nrm_eq (by decide), fun H12 s12 => ⟨true, rfl, iteF ?_⟩⟩
    have T := (T.same s11).same s12
    -- plain
    refine ⟨_, rfl, _, rfl, _, rfl, _, rfl, x1', v, ca, cb, P1, _, a1, a2, b1, b2, rfl, T, fun H13 s13 => ⟨true, rfl, ?_⟩⟩
    have T := T.same s13
    refine ⟨_, rfl, _, rfl, cb, _, 0, _, rfl, rfl, SqT.of T.hb, rfl, _, rfl, cb, _, 1, _, rfl, rfl, SqT.of T.hb, rfl, _, _, rfl, askR_ok (by omega) (bnd_le w4 (by decide)) fun r14 H14 s14 w14 => ?_⟩
    have T := T.same s14
    have T2 : Two K H14 x1' (.ref r14) ca cb _ _ a1 a2 b1 b2 := ⟨T.hx, .rat w14, T.ha, T.hb, T.o1, T.o2, T.c1, T.c2, T.e1, T.e2, T.u1, T.u2, T.u3, T.u4, T.g1, T.g2⟩
    refine ⟨_, rfl, _, rfl, x1', .ref r14, ca, cb, P1, _, a1, a2, b1, b2, rfl, T2, fun H15 s15 => ⟨true, rfl, iteF ?_⟩⟩
    have T := T.same s15
    -- divided, reflected
    refine ⟨_, rfl, _, rfl, _, rfl, _, rfl, x1', v, ca, cb, P1, _, a1, a2, b1, b2, rfl, T, fun H16 s16 => ⟨true, rfl, ?_⟩⟩
    have T := T.same s16
    refine ⟨_, rfl, _, rfl, _, rfl, _, rfl, x1', v, ca, cb, P1, _, a1, a2, b1, b2, rfl, T, fun H17 s17 => ⟨true, rfl, iteF ?_⟩⟩
    have T := T.same s17
    have Z17 := ((((((((s9.trans s10).trans s11).trans s12).trans s13).trans s14).trans s15).trans s16).trans s17)
    have hp17 := Z17 _ _ hp8
    have S17 := S8.trans Z17
    -- by zero, powers
    refine ⟨_, rfl, _, rfl, p, x4, y4, 4, rfl, hp17, hx4, by omega, by omega, by decide, by decide, fun r5 x5 y5 H18 ra5 rb5 hx5 hy5 hz5 k18 hp18 => ?_⟩
    have T := kp_two T hp17 (kp_of k18)
    have S18 := kp_same S17 hn (kp_of k18)
    refine ⟨x1', P1, r5, rfl, T.hx, o1, fun H19 s19 => ⟨true, rfl, ?_⟩⟩
    have T := T.same s19
    refine ⟨_, rfl, _, rfl, _, rfl, x1', ca, P1, a1, a2, _, rfl, T.hx, T.ha, o1, c1, e1, bnd_le w1 (by decide), bnd_le w2 (by decide), ga, by omega, fun H20 s20 => ⟨true, rfl, iteF ?_⟩⟩
    have T := T.same s20
    -- exponents
    refine ⟨_, rfl, x1', P1, 0, rfl, T.hx, o1, by decide, by decide, fun H21 s21 => ⟨true, rfl, ?_⟩⟩
    have T := T.same s21
    have Z21 := (s19.trans s20).trans s21
    have hp21 := Z21 _ _ hp18
    refine ⟨_, rfl, _, rfl, p, x5, y5, 8, rfl, hp21, hx5, by omega, by omega, by decide, by decide, fun r6 x6 y6 H22 ra6 rb6 hx6 hy6 hz6 k22 hp22 => ?_⟩
    have T := kp_two T hp21 (kp_of k22)
    have S22 := kp_same (S18.trans Z21) hn (kp_of k22)
    refine ⟨_, _, rfl, rfl, x1', P1, _, rfl, T.hx, o1, by omega, by omega, fun H23 s23 => ⟨true, rfl, iteF ?_⟩⟩
    have T := T.same s23
    have S23 := S22.trans s23
    -- words
    refine ⟨_, rfl, s0, ns, 2, rfl, S23.seq hS, by decide, by decide, fun p3 x7 y7 H24 hx7 hy7 hy72 hn24 hs24 hp24 => ?_⟩
    have T := T.same hs24
    refine ⟨p3, x7, y7, rfl, hp24, hx7, hy7, by omega, fun H25 k25 => ⟨true, rfl, ?_⟩⟩
    have T := kp_two T hp24 k25
    exact ⟨_, rfl, _, rfl, x1', ca, P1, a1, a2, rfl, T.hx, c1, o1.le (by decide), T.ha, bnd_le w1 (by decide), bnd_le w2 (by decide), e1, fun H26 s26 => q H26⟩

theorem good_law (Z : CT K mg) : GoodF (CX0) P w K mg base 10 "law" ["_law_script"] (spLaw K) := Z.good 53 30 d_law (fun _ _ _ _ _ _ us hl => match us, hl with | [_], _ => rfl) fun _ F => ok_law Z F
end
end My

open PySem PySem.W PySem.Calls PyProof.Rows
set_option maxRecDepth 100000 in
set_option maxHeartbeats 0 in
theorem PySem.Challenge.cw_anymethod_k01_ratio_arithmetic_holds : PySem.Challenge.rw_anymethod_k01_ratio_arithmetic.Holds := by
  w_on; o_law
  refine HandSHeadRun.head_imp (r := OpenLaw.row PySem.Challenge.rw_anymethod_k01_ratio_arithmetic) (q := view (OpenLaw.row PySem.Challenge.rw_anymethod_k01_ratio_arithmetic).prog [0, 38]) (H := My.hk) (ob := My.ob) (M := 20000) (loose := My.loose) (d := HandSHeadRun.topDef (OpenLaw.row PySem.Challenge.rw_anymethod_k01_ratio_arithmetic).prog 38) (kwd := []) My.ob_eq My.run (by kernel_rfl) (by kernel_rfl) (by kernel_rfl) (by rfl) (by first | assumption | decide +kernel) (by decide +kernel) ⟨rfl, rfl, rfl, rfl, rfl, by decide +kernel⟩ ?hw ?hc
  case hw => w_witness2
  case hc =>
    refine L2.walk_ofE (l := PySem.Challenge.rw_anymethod_k01_ratio_arithmetic) (n := 63) (k := 10) (x := "_law_script") (CX := L2.CX0) rfl (by decide) (by kernel_rfl) ⟨rfl, by decide, by decide⟩ ?F (fun _ _ _ _ z => z)
    intro w mg fa h Y G hmg0
    obtain ⟨K, KX, c⟩ := Y
    have Z : My.CT K mg := My.ctx_of KX G c
    have hmg : mg ("law" : PySem.Str) = some (.ref fa) := by
      rw [show ("law" : PySem.Str) = (HandSHeadRun.topDef (OpenLaw.row PySem.Challenge.rw_anymethod_k01_ratio_arithmetic).prog 38).name by kernel_rfl]; exact hmg0
    obtain ⟨fd, F⟩ := Z.d.def_ 53 (d := My.d_law) rfl
    have e := hmg.symm.trans (Z.glo 30 rfl)
    cases e
    exact ⟨K, fd, My.spLaw K, KX, fun s u => L2.FunD.bindsA (ps := ["_law_script"]) F (fun _ _ _ _ _ _ us hl => match us, hl with | [_], _ => rfl) s [u] rfl, fun H a ns hl _ hS => ⟨a, ns, rfl, hS, fun _ => rfl⟩, fun base _ _ => My.ok_law Z F⟩

