import PyProof.Rows.All
import Wide.All
import OpenK.AllK
import Wide.FinOn
import PyProof.EqAt
import PyProof.EqKinds
import PyProof.TupleCall
import KE.KIsAll
import KE.KTryMore
import KE.KStateDown
import HandS.ForMost
import HandS.Exc
import HandS.ExcOwn
import HandS.ExcInit
import HandS.ExcIs
import HandS.Defaults
import HandS.HeadHook1
import HandS.ExcValue
import HandS.Wide
import HandS.Head0
import HandS.Head1
import HandS.Head2
import HandS.HeadEnd
import HandS.HeadHook2
import HandS.Steps
import PySem.Challenge.RW_anymethod_k12_every_error
set_option Elab.async false
set_option linter.all false
set_option maxRecDepth 100000
set_option maxHeartbeats 0
namespace My
open PySem PySem.Spec PyProof.Rows L2 PySem.Calls

/-! ### exceptions of own classes as tracked objects -/
/-- what the written part says of an exception class of the program, at C -/
structure XCls (K : PySem.W.Frag) (C : Addr) : Prop where
  ox : OexC K C
  ga : PySem.W.findIn K (.ref C) "__getattribute__" = some (some (.builtin "BaseException.__getattribute__"))
  gt : PySem.W.findIn K (.ref C) "__getattr__" = some none
  hd : PySem.W.hasDictIn K C = true
  ca : PySem.W.findIn K (.ref C) "__class__" = some (some (.builtin "object.__class__"))
  cn : PySem.W.specialIn K (.builtin "object.__class__") "__get__" = some (some (.builtin "getset_descriptor.__get__"))
  ct : PySem.W.takesIn K (.builtin "object.__class__") = some true
  cm : PySem.W.mroIn K C (.type "object") = some true

def xobjB (K : PySem.W.Frag) (C : Addr) : Bool := match K.lookup C with
  | some ⟨.type c, _, .cls cd, sl⟩ => decide (c = "type") && (match cd.mro, sl.toList with
    | .ref D :: bm, [_, _, _, _, some (.builtin n), _] => decide (D = C) && (decide (n = "ValueError.__new__") && (!cd.hasDel && (cd.hasDict && PySem.HandSPX.refsVE bm)))
    | _, _ => false)
  | _ => false
theorem xobjB_ok {K : PySem.W.Frag} {C : Addr} (h : xobjB K C = true) :
    ∃ nm q N bs bm sn sub ab col dd k0 k1 k2 k3 k5, K.lookup C = some (excClassObj nm q C N bs bm true sn sub ab col dd k0 k1 k2 k3 k5 "ValueError.__new__") ∧ PySem.HandSPX.refsVE bm = true := by
  unfold xobjB at h
  split at h
  · rename_i c dd cd sl ho
    obtain ⟨hc, h⟩ := Bool.and_eq_true_iff.mp h
    split at h
    · rename_i D bm k0 k1 k2 k3 n k5 hm hs
      simp only [Bool.and_eq_true, decide_eq_true_eq, Bool.not_eq_true'] at h
      obtain ⟨rfl, rfl, hdel, hdi, hv⟩ := h
      have hc := of_decide_eq_true hc
      subst hc
      obtain ⟨nm, bs, mro, ns, qn, hd, sn, sub, ab, col, del⟩ := cd
      dsimp only at hm hdel hdi
      subst hm hdel hdi
      obtain ⟨l⟩ := sl
      simp only at hs
      subst hs
      exact ⟨nm, qn, ns, bs, bm, sn, sub, ab, col, dd, k0, k1, k2, k3, k5, ho, hv⟩
    · cases h
  · cases h
def xclsB (K : PySem.W.Frag) (C : Addr) : Bool :=
  xobjB K C && (decide (PySem.W.findIn K (.ref C) "__setattr__" = some (some (.builtin "object.__setattr__"))) && (decide (PySem.W.subIn K (.ref C) (.type "BaseException") = some true) &&
  (decide (PySem.W.typeIn K (.ref C) = some (.type "type")) && (PySem.W.keepIn K (.ref C) && (decide (PySem.W.findIn K (.ref C) "__getattribute__" = some (some (.builtin "BaseException.__getattribute__"))) &&
  (decide (PySem.W.findIn K (.ref C) "__getattr__" = some none) && (PySem.W.hasDictIn K C && (decide (PySem.W.findIn K (.ref C) "__class__" = some (some (.builtin "object.__class__"))) &&
  (decide (PySem.W.specialIn K (.builtin "object.__class__") "__get__" = some (some (.builtin "getset_descriptor.__get__"))) && (decide (PySem.W.takesIn K (.builtin "object.__class__") = some true) &&
  decide (PySem.W.mroIn K C (.type "object") = some true)))))))))))
theorem xclsB_ok {K : PySem.W.Frag} {C : Addr} (h : xclsB K C = true) : XCls K C := by
  unfold xclsB at h
  simp only [Bool.and_eq_true, decide_eq_true_eq] at h
  obtain ⟨h1, h2, h3, h4, h5, h6, h7, h8, h9, h10, h11, h12⟩ := h
  exact ⟨⟨xobjB_ok h1, h2, h3, h4, h5⟩, h6, h7, h8, h9, h10, h11, h12⟩

/-- an exception stands at e: its class at C, its dict (if there is one) and its fields -/
inductive XAt (H : Hp) (e C : Addr) : List (Str × V) → Prop
  | no (h : H e = some (exo e C none)) : XAt H e C []
  | at {d : Addr} {fs : List (Str × V)} (h : H e = some (exo e C (some d))) (hd : H d = some (exd d fs)) : XAt H e C fs
theorem XAt.same {H H' : Hp} {e C : Addr} {fs : List (Str × V)} (x : XAt H e C fs) (s : ∀ b o, H b = some o → H' b = some o) : XAt H' e C fs := by
  cases x with
  | no h => exact .no (s _ _ h)
  | «at» h hd => exact .at (s _ _ h) (s _ _ hd)

section
variable {X : Cx} {pins : List (Addr × Obj)} {σ : L2.St} {H : Hp} {s : Shared} {e C : Addr} {fs : List (Str × V)}
theorem XAt.inst (I : Inv X pins σ H s) (x : XAt H e C fs) : ∃ ox od, PySem.W.InstAt s.heap e ox C od ∧ ∀ f : Str, (fs.lookup f = none → PySem.W.shadowIn od f = some false) ∧ ∀ v, fs.lookup f = some v → ∃ o u, od = some o ∧ PySem.W.lookIn f o = some (some u) ∧ RelV v u := by
  cases x with
  | no h =>
    obtain ⟨t1, ho⟩ := exo_at I.hok h
    exact ⟨_, none, ⟨ho, rfl, rfl, trivial⟩, fun f => ⟨fun _ => rfl, fun v z => by cases z⟩⟩
  | @«at» d fs h hd =>
    obtain ⟨t1, ho⟩ := exo_at I.hok h
    obtain ⟨mA, hns, rel⟩ := exd_at I.hok hd
    obtain ⟨od, hod, hl⟩ := lookIn_ns hns
    refine ⟨_, some od, ⟨ho, rfl, rfl, hod⟩, fun f => ⟨fun z => ?_, fun v z => ?_⟩⟩
    · have hn : mA f = none := RelO.none_of (by rw [← z]; exact rel f)
      show (PySem.W.lookIn f od).map (·.isSome) = some false
      rw [hl, hn] <;> rfl
    · obtain ⟨u, hu, ru⟩ := RelO.some_of (v := v) (o := mA f) (by rw [← z]; exact rel f)
      exact ⟨od, u, rfl, by rw [hl, hu], ru⟩
/-- e.f -/
theorem x_get {f : Str} {b : Bool} {v : V} {Q : VK} (I : Inv X pins σ H s) (x : XAt H e C fs) (T : XCls X.K C) (hno : PySem.W.findIn X.K (.ref C) f = some none) (hl : fs.lookup f = some v) (q : Q v H) :
    wpAny (model X.prog X.w) X.A (getAttr (.ref e) f b) (EP X pins σ Q) X.xe s := by
  obtain ⟨ox, od, J, hf⟩ := x.inst I
  obtain ⟨o, u, rfl, lk, ru⟩ := (hf f).2 v hl
  exact HandSPX.exc_get I.kIn J T.ga T.gt T.ox.exC (PySem.W.findObj_own T.hd hno rfl lk) (handed_of ru) ⟨v, H, I.tok _, ru, q⟩
/-- e.m, to be called -/
theorem x_meth {K : PySem.W.Frag} {prog : Program} {w : World} {A : Around} {E : Value → Shared → Prop} {x : Addr} {ox : Obj} {od : Option Obj} {f : Addr} {name : Str} {pl : Sem Bool} {Q : Value × List Value → Shared → Prop} (Y : K.In s.heap) (I : PySem.W.InstAt s.heap x ox C od)
    (hga : PySem.W.findIn K (.ref C) "__getattribute__" = some (some (.builtin "BaseException.__getattribute__"))) (hk : PySem.W.findIn K (.ref C) "__getattr__" = some none) (hf : PySem.W.findIn K (.ref C) name = some (some (.ref f))) (ht : PySem.W.typeIn K (.ref f) = some (.type "function"))
    (hs : PySem.W.shadowIn od name = some false) (h : Q (.ref f, [.ref x]) s) : wpAny (model prog w) A (getMethod (.ref x) name pl) Q E s := by
  have c0 : (Manifest.canonical "BaseException.__getattribute__" != "object.__getattribute__") = false := by decide +kernel
  have hd := I.dict
  unfold getMethod specialOf
  refine wpAny_bind (wpAny_bind (I.type.here ((PySem.W.looks_findIn Y hga).here ?_))); dsimp only; rw [c0, if_neg (by decide)]
  refine wpAny_bind (wpAny_bind (I.type.here ((PySem.W.looks_findIn Y hk).here ?_))); refine wpAny_bind (wpAny_bind (I.type.here ((PySem.W.looks_findIn Y hf).here (wpAny_bind ((PySem.W.looks_typeIn Y ht).here ?_))))); rw [if_neg (by decide +kernel)]
  refine wpAny_bind (wpAny_loadPart I.at_ ?_)
  cases q : ox.dict with
  | none => exact wpAny_bind (wpAny_rule (wpAny_pure h))
  | some dx =>
    cases od with
    | none => rw [q] at hd; exact hd.elim
    | some o =>
      rw [q] at hd
      obtain ⟨r, a, b⟩ := Option.map_eq_some_iff.mp hs
      refine wpAny_bind (wpAny_bind (wpAny_loadPart hd ?_)); rw [PySem.W.nsLook_of a]; refine wpAny_pure ?_; rw [b]
      exact wpAny_bind (wpAny_rule (wpAny_pure h))
end
end My

namespace My
open PySem PySem.Spec PyProof.Rows L2 PySem.Calls
section
variable {X : Cx} {pins : List (Addr × Obj)} {σ : L2.St} {H : Hp} {s : Shared} {e C : Addr} {fs : List (Str × V)} {K : PySem.W.Frag}
theorem find_dataX {od : Option Obj} {name : Str} {a g : Value} (hc : (PySem.W.clsIn K C).isSome = true) (ha : PySem.W.findIn K (.ref C) name = some (some a)) (hg : PySem.W.specialIn K a "__get__" = some (some g)) (ht : PySem.W.takesIn K a = some true) :
    PySem.W.findObj K C od name = some (.bind g a) := by
  obtain ⟨cd, hc⟩ := Option.isSome_iff_exists.mp hc
  unfold PySem.W.findObj
  rw [hc, Option.bind_some, ha, Option.bind_some]; simp [hg, ht]
theorem XCls.isCls (T : XCls K C) : (PySem.W.clsIn K C).isSome = true := by
  obtain ⟨cd, hc, _⟩ := PySem.W.any_some T.hd
  rw [hc]; rfl
theorem x_class {prog : Program} {w : World} {A : Around} {E : Value → Shared → Prop} {x : Addr} {ox : Obj} {od : Option Obj} {Q : Option Value → Shared → Prop} (T : XCls K C) (Y : K.In s.heap) (I : PySem.W.InstAt s.heap x ox C od)
    (h : Q (some (.ref C)) { s with toks := s.toks + 1 }) : wpAny (model prog w) A (getAttr? (.ref x) "__class__") Q E s := by
  have hf : PySem.W.findObj K C od "__class__" = some (.bind (.builtin "getset_descriptor.__get__") (.builtin "object.__class__")) := find_dataX T.isCls T.ca T.cn T.ct
  obtain ⟨hp, g, d, t, os⟩ := s
  have L0 := I.type (M := model prog w); have L1 := PySem.W.looks_findIn (M := model prog w) Y T.ga; have L2 := PySem.W.looks_findIn (M := model prog w) Y T.gt; have L3 := PySem.W.looks_find (M := model prog w) Y I hf
  have sub : PySem.W.Looks (model prog w) hp (isInstance (.ref x) (.type "BaseException")) true := L0.andThen (PySem.W.looks_subIn Y T.ox.exC)
  have n2 : (Value.builtin "BaseException.__getattribute__" == Value.builtin "object.__getattribute__") = false := by decide +kernel
  have n1 : (onTheHeap (Value.ref C) && Value.builtin "BaseException.__getattribute__" == Value.builtin "object.__getattribute__") = false := by rw [n2]; rfl
  unfold getAttr? getAttrBy? getAttrBy; refine wpAny_bind (wpAny_mkText (wpAny_bind (wpAny_attempt (wpAny_holding (wpAny_bind (L0.at (wpAny_bind (L1.at ?_))))))))
  change wpAny _ _ (if (onTheHeap (Value.ref C) && Value.builtin "BaseException.__getattribute__" == Value.builtin "object.__getattribute__") = true then _ else _) _ _ _
  rw [n1, if_neg Bool.false_ne_true]; unfold getAttrByItsOwn hookBefore; refine wpAny_bind ?_; rw [if_pos (show onTheHeap (Value.ref C) = true from rfl)]; refine L2.at ?_; refine wpAny_bind (wpAny_attempt (wpAny_holding ?_))
  unfold callGetattribute; rw [show (false && onTheHeap (Value.builtin "BaseException.__getattribute__")) = false from rfl, if_neg Bool.false_ne_true]; unfold boundAndCalled; rw [PySem.F.excAttr_ValueError.ga.bind (.ref x)]; refine wpAny_bind (wpAny_pure ?_)
  change wpAny _ _ (call (.builtin "BaseException.__getattribute__") [.ref x, .str "__class__" t]) _ _ _
  refine wpAny_call (codeAny_call_builtin PySem.F.excAttr_ValueError.ga.plain PySem.F.entry_bexc_ga (@PySem.W.check_slot (model prog w) _ _ ⟨hp, g, d, t + 1, os⟩ "BaseException.__getattribute__" "BaseException" "__getattribute__" (.ref x) [.str "__class__" t] [] _ (by decide +kernel) (by decide +kernel) sub (PySem.F.args_bexc_ga (.ref x) (.str "__class__" t)) ?_))
  unfold Builtin.«object.__getattribute__»; refine wpAny_bind (wpAny_of_eq (a := ((Value.ref x : Value), [Value.str "__class__" t])) (by first | rfl | (simp only [slotArgs]; rfl)) ?_); refine wpAny_bind (wpAny_pure (wpAny_bind (L0.at (wpAny_bind (L3.at ?_)))))
  change wpAny _ _ (holding [Value.builtin "object.__class__"] (call (.builtin "getset_descriptor.__get__") [.builtin "object.__class__", .ref x, .ref C]) >>= ret) _ _ _
  refine wpAny_bind (wpAny_holding (wpAny_call (PySem.W.class_get (s := ⟨hp, g, d, t + 1, os⟩) (ox := ox) (od := od) Y I T.cm (wpAny_pure ?_))))
  change wpAny _ _ (handedOut (.ref C)) _ _ _; rw [PySem.W.handedOut_of (v := .ref C) rfl]
  first
    | exact wpAny_pure (wpAny_pure h)
    | exact wpAny_pure h
    | exact wpAny_pure (wpAny_bind (wpAny_pure (wpAny_pure h)))
theorem x_kit {x : Addr} {ox : Obj} {od : Option Obj} (T : XCls K C) : PySem.W.KitX K (.ref x) (.ref C) (fun h => PySem.W.InstAt h x ox C od) where
  ty := fun _ _ _ I => I.type
  it := fun _ _ Y _ => by
    obtain ⟨cd, hc⟩ := Option.isSome_iff_exists.mp T.isCls
    unfold PySem.W.clsIn at hc; split at hc
    · rename_i ho
      intro A' Q' E' s' k q; unfold isType loadHead
      exact wpAny_bind (wpAny_loadPart (k _ _ (Y _ _ ho)) (wpAny_pure q))
    · cases hc
  ne := fun h tp dd its n sl Y htp => Bool.eq_false_iff.mpr fun q => by
    obtain ⟨cd, hc⟩ := Option.isSome_iff_exists.mp T.isCls
    have z : C = tp := Value.ref.inj (beq_iff_eq.mp q)
    subst z
    unfold PySem.W.clsIn at hc; split at hc
    · rename_i ho
      have z := (Y _ _ ho).symm.trans htp; cases z
    · cases hc
  ca := fun Y I k => x_class T Y I k

/-! ### rules -/
/-- e.f of a tracked exception -/
def tXf (K : PySem.W.Frag) (f : Str) (te : TE) : TE := fun σ H Q => te σ H fun x H1 => ∃ (e C : Addr) (fs : List (Str × V)) (v : V), x = .ref e ∧ XAt H1 e C fs ∧ XCls K C ∧ PySem.W.findIn K (.ref C) f = some none ∧ fs.lookup f = some v ∧ Q v H1
theorem pe_xfld {o : Expr} {te : TE} {f : Str} {pos : Pos} (he : PE X o te) (hb : attributeBase o f X.env (eval o X.env) = eval o X.env := by rfl) : PE X (.Attribute o f pos) (tXf X.K f te) := by
  refine ⟨fun pins s σ H Q I h => attr_of hb (thn (he.run pins s σ H _ I h) fun u s1 ⟨x, H1, I1, rx, e, C, fs, v, ex, hx, T, hno, hl, q⟩ => ?_)⟩
  subst ex
  obtain rfl : u = Value.ref e := rx
  exact x_get I1 hx T hno hl q
/-- e.m() of a tracked exception -/
def tXm (m : Str) (C : Addr) (sp : Sp) (E : XK) (te : TE) : TE := fun σ H Q => te σ H fun x H1 => ∃ (e : Addr) (fs : List (Str × V)), x = .ref e ∧ XAt H1 e C fs ∧ fs.lookup m = none ∧ sp [x] H1 Q E
theorem pe_xmeth {CX : CXT} {k : Nat} {f : Addr} {fd : FuncData} {ps : List Str} {sp : Sp} {E : XK} {o : Expr} {te : TE} {m : Str} {apos pos : Pos} {pl : Sem Bool} (T : XCls X.K C) (he : PE X o te) (hf : PySem.W.findIn X.K (.ref C) m = some (some (.ref f))) (ht : PySem.W.typeIn X.K (.ref f) = some (.type "function")) (hk : PySem.W.keepIn X.K (.ref f) = true)
    (F : FnOk X.prog X.w X.K X.mg X.base CX k f fd ps sp) (hr : Room k X.A) (hb : Binds X.K fd ps []) (hx : Passes CX X E)
    (hq : eval (.Call (.Attribute o m apos) [] [] pos) X.env = (do
      let ov ← eval o X.env
      standAt apos.atName
      let (f, first) ← holding [ov] (getMethod ov m pl)
      callWith pos f first (backTo pos (starEach [] X.env)) (backToKw pos (keywordEach [] X.env))) := by rfl) : PE X (.Call (.Attribute o m apos) [] [] pos) (tXm m C sp E te) := by
  refine ⟨fun pins s σ H Q I h => PySem.W.methodCall_KW (pl := pl) (thn (he.run pins s σ H _ I h) fun u s1 ⟨x, H1, I1, rx, e, fs, ex, ha, hl, q⟩ => ?_) hq⟩
  subst ex
  obtain rfl : u = Value.ref e := rx
  obtain ⟨ox, od, J, hf2⟩ := ha.inst I1
  refine x_meth I1.kIn J T.ga T.gt hf ht ((hf2 m).1 hl) (PySem.W.callWith_K0 (first := [.ref e]) I1.kIn hk ?_)
  exact run_fn (us := [.ref e]) (vs := [.ref e]) F hr hb .nil hx I1 (.cons rfl .nil) (by rw [List.append_nil]; exact q)
/-- isinstance(e, c), c one class -/
def rIsX (K : PySem.W.Frag) : List V → Hp → VK → Prop := fun xs H Q => ∃ (e C : Addr) (fs : List (Str × V)) (c : V) (cv : Value) (b : Bool), xs = [.ref e, c] ∧ XAt H e C fs ∧ XCls K C ∧ (∀ u, RelV c u → u = cv) ∧ PySem.W.kitOne K (.ref C) cv = some b ∧ Q (.bl b) H
theorem call_isX : CallR X (.builtin "isinstance") (rIsX X.K) := by
  intro pins s σ H xs us Q I r h
  obtain ⟨e, C, fs, c, cv, b, rfl, hx, T, hcv, hk, q⟩ := h
  obtain ⟨u1, u2, rfl, r1, r2⟩ := r.two
  cases (show u1 = Value.ref e from r1)
  have ec := hcv _ r2
  subst ec
  obtain ⟨ox, od, J, _⟩ := hx.inst I
  exact PySem.W.kia_one (x_kit T) I.kIn J hk (fun z => nomatch z) fun tk => ⟨.bl b, H, I.tok _, rfl, q⟩
/-- isinstance(e, (c, d, ..)) -/
def rIsXT (K : PySem.W.Frag) : List V → Hp → VK → Prop := fun xs H Q => ∃ (e C t : Addr) (fs : List (Str × V)) (cs : List V) (cv : List Value) (b : Bool), xs = [.ref e, .ref t] ∧ XAt H e C fs ∧ XCls K C ∧ H t = some (.tup cs) ∧ (∀ us, Vals cs us → us = cv) ∧ PySem.W.kitAny K (.ref C) cv = some b ∧ Q (.bl b) H
theorem call_isXT : CallR X (.builtin "isinstance") (rIsXT X.K) := by
  intro pins s σ H xs us Q I r h
  obtain ⟨e, C, t, fs, cs, cv, b, rfl, hx, T, ht, hcv, hk, q⟩ := h
  obtain ⟨u1, u2, rfl, r1, r2⟩ := r.two
  cases (show u1 = Value.ref e from r1)
  cases (show u2 = Value.ref t from r2)
  obtain ⟨ox, od, J, _⟩ := hx.inst I
  obtain ⟨its, hv, htp, _⟩ := I.tuple (SqT.of ht)
  have ec := hcv _ hv
  subst ec
  obtain ⟨o, ho, hc, n, hd⟩ := htp
  obtain ⟨oc, dd, dat, sl⟩ := o
  dsimp only at hc hd
  subst hc hd
  exact PySem.W.kia_tup (x_kit T) I.kIn J ho hk (fun z => nomatch z) fun tk => ⟨.bl b, H, I.tok _, rfl, q⟩

/-! ### making one -/
/-- C(e, ..), C's own __init__ keeping sp; the exception is held -/
def tMkI (C : Addr) (sp : Sp) (ta : TA) : TE := fun σ H Q => ta σ H fun vs H1 => vs.length ≤ 1000 ∧ ∀ a, H1 a = none → sp (.ref a :: vs) (upd H1 a (exo a C none)) (fun v H2 => v = .non ∧ Q (.ref a) H2) (fun _ _ _ => False)
theorem pe_excI {CX : CXT} {x : Str} {fI : Addr} {k : Nat} {fd : FuncData} {ps : List Str} {sp : Sp} {e : Expr} {es : List Expr} {ta : TA} {p pos : Pos} (T : OexC X.K C) (iC : PySem.W.findIn X.K (.ref C) "__init__" = some (some (.ref fI))) (tI : PySem.W.typeIn X.K (.ref fI) = some (.type "function"))
    (F1 : FnOk X.prog X.w X.K X.mg X.base CX k fI fd ps sp) (hr : Room (k + 1) X.A) (hb : Binds X.K fd ps []) (hx : Passes CX X (fun _ _ _ => False)) (hm : X.mg x = some (.ref C)) (ha : PA X (e :: es) ta) (hg : Gl X x := by rfl)
    (hdb : (x == ("__debug__" : Str)) = false := by decide) (he : starEach (e :: es) X.env = (false, eval e X.env) :: starEach es X.env := by rfl) (hpl : (backTo pos (starEach es X.env)).any (·.1) = false := by rfl) :
    PE X (.Call (.Name x p) (e :: es) [] pos) (tMkI C sp ta) := by
  refine ⟨fun pins s σ H Q I h => ?_⟩
  obtain ⟨nm, q, N, bs, bm, sn, sub, ab, col, dd, k0, k1, k2, k3, k5, hC, hbm⟩ := T.cls
  refine wpAny_Call_Name_kw (ld_glob I hg hm (PySem.W.callWith_K (h₀ := X.base) I.ok.mod.kin T.kC (thn (ha.run pos pins s σ H _ I h) fun us s1 ⟨vs, H1, I1, r1, hz, q1⟩ => ⟨I1.kIn, ?_⟩) he hpl) hdb)
  change wpAny _ _ (call (.ref C) us) _ _ _
  obtain ⟨hp, g, dw, tk, os⟩ := s1
  have hsz : hp.objs.size ≤ hp.objs.size + 1 := Nat.le_succ _
  have hn : H1 (hp.objs.size + 1) = none := I1.hok.fresh hsz
  have hq := q1 (hp.objs.size + 1) hn
  have kk : ∀ b o, hp.get? b = some o → ((hp.push (PySem.W.kdv_tup us)).push (PySem.HandSPX.excO C hp.objs.size)).get? b = some o := fun b o z => Heap.get?_push_of_some _ (Heap.get?_push_of_some _ z)
  have hget : ((hp.push (PySem.W.kdv_tup us)).push (PySem.HandSPX.excO C hp.objs.size)).get? (hp.objs.size + 1) = some (PySem.HandSPX.excO C hp.objs.size) := by heap_get
  have I2 := I1.laid (t' := tk) (a := hp.objs.size + 1) (o := exo (hp.objs.size + 1) C none) (h' := (hp.push (PySem.W.kdv_tup us)).push (PySem.HandSPX.excO C hp.objs.size)) kk hsz (exo_ok hget)
  have r2 : Vals (V.ref (hp.objs.size + 1) :: vs) (Value.ref (hp.objs.size + 1) :: us) := .cons rfl r1
  have hl : (Value.ref (hp.objs.size + 1) :: us).length = ps.length := by rw [← F1.len _ _ _ _ hq]; exact r2.length.symm
  have hus : us.length ≤ sizeLine := by rw [← Paired.length r1, sizeLine_eq]; omega
  refine wpAny_call (PySem.HandSPX.call_own F.excBase_ValueError (fun Y => PySem.HandSPX.refsVE_contains Y bm hbm) (I1.kIn _ _ hC) (PySem.W.looks_findIn I1.kIn iC) (fun self => PySem.W.bind_fn I1.kIn self tI) hus (codeAny_mono (F1.run _ X.stack _ _ ⟨Value.ref (hp.objs.size + 1) :: us, []⟩ (Value.ref (hp.objs.size + 1) :: us) _ _ (fun _ _ _ => False) (hr.make C us []) (I2.env0.make C us []) (by have z := hb _ (Value.ref (hp.objs.size + 1) :: us) I2.kIn (by rw [List.append_nil]; exact hl); rw [List.append_nil] at z; exact z) r2 hq) fun r s' hq' => ?_))
  cases r with
  | error er => exact hx pins σ _ _ er s' I2 hq'
  | ok fl =>
    cases fl with
    | ret u =>
      obtain ⟨v, H2, os2, bare2, un2, hok2, rv, ev, q2⟩ := hq'
      subst ev
      refine ⟨rv, .ref (hp.objs.size + 1), H2, ?_, rfl, q2⟩
      exact I2.call' (ch := []) os2 un2 hok2 bare2 (fun b z => absurd z (by simp))
    | next => exact False.elim hq'
    | brk => exact False.elim hq'
    | cont => exact False.elim hq'
/-- C(), an own exception class without own __init__ -/
def tMk0 (C : Addr) : TE := fun _ H Q => ∀ a, H a = none → Q (.ref a) (upd H a (exo a C none))
theorem pe_exc0 {x : Str} {p pos : Pos} (q : PySem.W.excIn X.K C He.veBase "ValueError.__new__" = true) (kC : PySem.W.keepIn X.K (.ref C) = true) (gC : X.mg x = some (.ref C)) (hg : Gl X x := by rfl) (hdb : (x == ("__debug__" : Str)) = false := by decide) : PE X (.Call (.Name x p) [] [] pos) (tMk0 C) := by
  refine ⟨fun pins s σ H Q I h => wpAny_Call_Name_kw (ld_glob I hg gC (PySem.W.callWith_K0 (first := []) I.kIn kC ?_) hdb)⟩
  obtain ⟨bm, N, nm, qn, bs, hdct, sn, sub, ab, col, dd, k0, k1, k2, k3, k5, mN, hC, hN, hni, T⟩ := exc_obj I.kIn q
  refine wpAny_call_exc_subT F.excBase_ValueError T hC hN hni (fun h' a hm => ?_) (by show 0 ≤ sizeLine; omega)
  have hn : H a = none := I.hok.gone hm.new
  obtain ⟨t, ht, _, _⟩ := hm.there
  exact ⟨.ref a, _, I.laidN hm.keeps hm.new hn (exo_ok ht), rfl, h a hn⟩
end
end My

namespace My
open PySem PySem.Spec PyProof.Rows L2 PySem.Calls

/-! ### a hook of facts with one more Bool -/
def obsM (fa : List He.Fa) (fn : List He.DefD) (ex : PySem.W.Frag → Bool) (K : PySem.W.Frag) : He.AlD := (ex K && (He.obsD fa fn K).1, (He.obsD fa fn K).2)
def obsMG (n : Nat) (fa : List He.Fa) (fn : List He.DefD) (ex : PySem.W.Frag → Bool) (g : Addr → Option Obj) : He.AlD := obsM fa fn ex (He.frG g (He.asD g n))
def hookM (n : Nat) (fa : List He.Fa) (fn : List He.DefD) (ex : PySem.W.Frag → Bool) : PySem.W.Hook where
  α := He.AlD
  obs := fun s => obsMG n fa fn ex s.heap.get?
  val := fun _ => He.valD fn
  says := fun _ h => ∃ K : PySem.W.Frag, K.In h ∧ obsM fa fn ex K = He.valD fn
  of := fun _ _ z => ⟨_, He.frG_in, z⟩
  keeps := fun _ _ _ ⟨K, kin, z⟩ k => ⟨K, kin.keeps k, z⟩
theorem obsMG_eq {n : Nat} {fa : List He.Fa} {fn : List He.DefD} {ex : PySem.W.Frag → Bool} {g : Addr → Option Obj} {s : Shared} (h : ∀ a, g a = s.heap.get? a) : obsMG n fa fn ex g = (hookM n fa fn ex).obs s := by
  rw [show g = s.heap.get? from funext h]; rfl
/-- what the walks lean on -/
structure Ctx (fa : List He.Fa) (fn : List He.DefD) (ex : PySem.W.Frag → Bool) (K : PySem.W.Frag) (mg : Str → Option Value) : Prop where
  h : ∃ h : Heap, K.In h ∧ h.Ns mainGlobals mg
  d : He.SaysD fa fn K
  e : ex K = true
theorem ctx_of {fa : List He.Fa} {fn : List He.DefD} {ex : PySem.W.Frag → Bool} {K : PySem.W.Frag} {mg : Str → Option Value} {h : Heap} (X : K.In h) (G : h.Ns mainGlobals mg) (z : obsM fa fn ex K = He.valD fn) : Ctx fa fn ex K mg := by
  have z1 : (ex K && (He.obsD fa fn K).1) = true := congrArg (fun y : He.AlD => y.1) z
  have z2 : (He.obsD fa fn K).2 = fn.map He.DefD.val := congrArg (fun y : He.AlD => y.2) z
  obtain ⟨e1, e2⟩ := Bool.and_eq_true_iff.mp z1
  exact ⟨⟨h, X, G⟩, Prod.ext e2 z2, e1⟩
section
variable {fa : List He.Fa} {fn : List He.DefD} {ex : PySem.W.Frag → Bool} {K : PySem.W.Frag} {mg : Str → Option Value}
theorem Ctx.glo (Z : Ctx fa fn ex K mg) {x : Str} (i : Nat) (h : fa[i]? = some (.glo x) := by rfl) : mg x = some (.ref (He.ga K x)) := let ⟨_, X, G⟩ := Z.h; He.glo_ok X G (Z.d.fact i h)
theorem Ctx.free (Z : Ctx fa fn ex K mg) {x : Str} (i : Nat) (h : fa[i]? = some (.free x) := by rfl) : mg x = none := let ⟨_, X, G⟩ := Z.h; He.free_ok X G (Z.d.fact i h)
end

/-! ### a def of the module, by its promise -/
structure GoodF (CX : CXT) (P : Program) (w : World) (K : PySem.W.Frag) (mg : Str → Option Value) (base : Heap) (k : Nat) (x : Str) (ps : List Str) (sp : Sp) : Prop where
  g : mg x = some (.ref (He.ga K x))
  fn : ∃ fd, FnOk P w K mg base CX k (He.ga K x) fd ps sp ∧ Binds K fd ps []
  kp : PySem.W.keepIn K (.ref (He.ga K x)) = true
theorem gcall {X : Cx} {CX : CXT} {E : XK} {k k' : Nat} {x : Str} {ps : List Str} {sp : Sp} {e : Expr} {es : List Expr} {t : TA} {p pos : Pos} (G : GoodF CX X.prog X.w X.K X.mg X.base k x ps sp) (hr : Room k' X.A) (ha : PA X (e :: es) t) (hx : Passes CX X E) (hk : k ≤ k' := by decide) (hg : Gl X x := by rfl)
    (hdb : (x == ("__debug__" : Str)) = false := by decide) (he : starEach (e :: es) X.env = (false, eval e X.env) :: starEach es X.env := by rfl) (hpl : (backTo pos (starEach es X.env)).any (·.1) = false := by rfl) :
    PE X (.Call (.Name x p) (e :: es) [] pos) (tCall sp [] E t) :=
  let ⟨_, F, B⟩ := G.fn
  pe_call F (hr.mono hk) hg G.g G.kp B .nil hx ha hdb he hpl
theorem Ctx.good {fa : List He.Fa} {fn : List He.DefD} {ex : PySem.W.Frag → Bool} {K : PySem.W.Frag} {mg : Str → Option Value} {CX : CXT} {P : Program} {w : World} {base : Heap} {k : Nat} {x : Str} {ps : List Str} {sp : Sp} (Z : Ctx fa fn ex K mg) (i j : Nat) (d : He.DefD)
    (hb : ∀ (kV doc pm : Value) (an : Option Addr) (cdv ct : Value) (us : List Value), us.length = ps.length → bindArgs (PySem.W.fnOf d.name d.qual d.params d.body d.scope .none kV doc pm an cdv ct) ⟨us, []⟩ = pure (ps.zip us))
    (ok : ∀ fd, FunD K d.name d.qual d.params d.body d.scope [] [] (He.ga K x) fd → FnOk P w K mg base CX k (He.ga K x) fd ps sp)
    (hd : fn[i]? = some d := by rfl) (hj : fa[j]? = some (.glo x) := by rfl) (hx : d.at_ = (x, none) := by rfl) (hdf : d.dfl = [] := by rfl) (hkw : d.kwd = [] := by rfl) : GoodF CX P w K mg base k x ps sp := by
  obtain ⟨fd, F⟩ := Z.d.def_ i hd
  have e1 : d.dvs K = [] := by unfold He.DefD.dvs; rw [hdf]; rfl
  have e2 : d.kws K = [] := by unfold He.DefD.kws; rw [hkw]; rfl
  have e3 : He.fAd K d.at_ = He.ga K x := by rw [hx]; rfl
  rw [e1, e2, e3] at F
  exact ⟨Z.glo j hj, ⟨fd, ok fd F, F.bindsN hb⟩, F.kp⟩

/-! ### told, __init__ of an exception class -/
section
variable {P : Program} {w : World} {K : PySem.W.Frag} {mg : Str → Option Value} {base : Heap} {f : Addr} {fd : FuncData} {qual nm : Str} {pa : Arguments} {sc : Scope}
def spTold (z : Str) : Sp := fun vs H Q _ => ∃ a, vs = [.ref a] ∧ Q (.str z) H
theorem ok_told {z : Str} {j : Nat} {p p2 : Pos} {body : List Stmt} (F : FunD K nm qual pa body sc [] [] f fd) (S : FnScope ["self"] ["self"] sc) (hb : body = [.Return (some (.Constant (.str z) j p)) p2] := by rfl) : FnOk P w K mg base CX0 1 f fd ["self"] (spTold z) := by
  subst hb
  refine F.ok S (fun vs H Q E h => ?_) (fun cdv A outer s H vs Q E hr h => ⟨_, pss_one (ps_ret pe_str), ?_⟩)
  · obtain ⟨a, rfl, _⟩ := h
    rfl
  · obtain ⟨a, rfl, q⟩ := h
    exact q
/-- __init__(self, g): self.g = g -/
def spIni1 (K : PySem.W.Frag) (C : Addr) (g : Str) : Sp := fun vs H Q _ => ∃ a v, vs = [.ref a, v] ∧ H a = some (exo a C none) ∧ ∀ d, H d = none → d ≠ a → Q .non (upd (upd H d (exd d [(g, v)])) a (exo a C (some d)))
theorem ok_ini1 {C : Addr} {g y : Str} {p1 p2 p3 p4 : Pos} {body : List Stmt} (F : FunD K nm qual pa body sc [] [] f fd) (T : XCls K C) (S : FnScope ["self", y] ["self", y] sc) (no : PySem.W.findIn K (.ref C) g = some none)
    (v0 : Vis sc "self" := by first | exact Or.inl rfl | exact Or.inr (Or.inl rfl)) (v1 : Vis sc y := by first | exact Or.inl rfl | exact Or.inr (Or.inl rfl)) (hy : (y == ("__debug__" : Str)) = false := by decide) (hy2 : (y == ("__classdict__" : Str)) = false := by decide)
    (hb : body = [.Assign [.Attribute (.Name "self" p1) g p2] (.Name y p3) p4] := by rfl) : FnOk P w K mg base CX0 1 f fd ["self", y] (spIni1 K C g) := by
  subst hb
  refine F.ok S (fun vs H Q E h => ?_) (fun cdv A outer s H vs Q E hr h => ⟨_, pss_one (ps_ost (pe_var (i := 0) rfl v0) (pe_var (i := 1) rfl v1 hy hy2)), ?_⟩)
  · obtain ⟨a, v, rfl, _⟩ := h
    rfl
  · obtain ⟨a, v, rfl, ha, q⟩ := h
    exact ⟨v, rfl, _, rfl, a, C, rfl, T.ox, no, .inl ⟨ha, fun dx n ne => q dx n ne⟩⟩
/-- __init__(self, g, h): self.g = g; self.h = h -/
def spIni2 (K : PySem.W.Frag) (C : Addr) (g h : Str) : Sp := fun vs H Q _ => ∃ a v u, vs = [.ref a, v, u] ∧ H a = some (exo a C none) ∧ ∀ d, H d = none → d ≠ a → Q .non (upd (upd (upd H d (exd d [(g, v)])) a (exo a C (some d))) d (exd d [(h, u), (g, v)]))
theorem ok_ini2 {C : Addr} {g h y z : Str} {p1 p2 p3 p4 p5 p6 p7 p8 : Pos} {body : List Stmt} (F : FunD K nm qual pa body sc [] [] f fd) (T : XCls K C) (S : FnScope ["self", y, z] ["self", y, z] sc) (no : PySem.W.findIn K (.ref C) g = some none) (no2 : PySem.W.findIn K (.ref C) h = some none)
    (v0 : Vis sc "self" := by first | exact Or.inl rfl | exact Or.inr (Or.inl rfl)) (v1 : Vis sc y := by first | exact Or.inl rfl | exact Or.inr (Or.inl rfl)) (v2 : Vis sc z := by first | exact Or.inl rfl | exact Or.inr (Or.inl rfl))
    (hy : (y == ("__debug__" : Str)) = false := by decide) (hy2 : (y == ("__classdict__" : Str)) = false := by decide) (hz : (z == ("__debug__" : Str)) = false := by decide) (hz2 : (z == ("__classdict__" : Str)) = false := by decide)
    (hb : body = [.Assign [.Attribute (.Name "self" p1) g p2] (.Name y p3) p4, .Assign [.Attribute (.Name "self" p5) h p6] (.Name z p7) p8] := by rfl) : FnOk P w K mg base CX0 1 f fd ["self", y, z] (spIni2 K C g h) := by
  subst hb
  refine F.ok S (fun vs H Q E h => ?_) (fun cdv A outer s H vs Q E hr h => ⟨_, pss_cons (ps_ost (pe_var (i := 0) rfl v0) (pe_var (i := 1) rfl v1 hy hy2)) (pss_one (ps_ost (pe_var (i := 0) rfl v0) (pe_var (i := 2) rfl v2 hz hz2))), ?_⟩)
  · obtain ⟨a, v, u, rfl, _⟩ := h
    rfl
  · obtain ⟨a, v, u, rfl, ha, q⟩ := h
    refine ⟨v, rfl, _, rfl, a, C, rfl, T.ox, no, .inl ⟨ha, fun dx n ne => ?_⟩⟩
    refine ⟨u, rfl, _, rfl, a, C, rfl, T.ox, no2, .inr ⟨dx, _, upd_same, ?_, (by show 1 ≤ 900; decide), q dx n ne⟩⟩
    rw [upd_ne ne, upd_same]
end
end My

namespace My
open PySem PySem.Spec PyProof.Rows L2 PySem.Calls

theorem rel_ref (a : Addr) : RelV (.ref a) (Value.ref a) := rfl
theorem rel_ty (n : String) : RelV (.ty n) (Value.type n) := rfl
theorem boot_isinstance : bootBuiltins "isinstance" = some (.builtin "isinstance") := by decide +kernel
theorem boot_abs : bootBuiltins "abs" = some (.builtin "abs") := by decide +kernel
theorem boot_all : bootBuiltins "all" = some (.builtin "all") := by decide +kernel
theorem boot_int : bootBuiltins "int" = some (.type "int") := by decide +kernel
theorem boot_bool : bootBuiltins "bool" = some (.type "bool") := by decide +kernel
theorem boot_str : bootBuiltins "str" = some (.type "str") := by decide +kernel

/-! ### a method of an exception class whose class is not written -/
structure XMeth (P : Program) (w : World) (K : PySem.W.Frag) (mg : Str → Option Value) (base : Heap) (C : Addr) (m : Str) (f : Addr) (z : Str) : Prop where
  c : XCls K C
  at_ : PySem.W.findIn K (.ref C) m = some (some (.ref f))
  ty : PySem.W.typeIn K (.ref f) = some (.type "function")
  kp : PySem.W.keepIn K (.ref f) = true
  fn : ∃ fd, FnOk P w K mg base CX0 1 f fd ["self"] (spTold z) ∧ Binds K fd ["self"] []
def tXmV (X : Cx) (m : Str) (te : TE) : TE := fun σ H Q => te σ H fun x H1 => ∃ (e C f : Addr) (fs : List (Str × V)) (z : Str), x = .ref e ∧ XAt H1 e C fs ∧ fs.lookup m = none ∧ XMeth X.prog X.w X.K X.mg X.base C m f z ∧ Q (.str z) H1
theorem pe_xmethV {X : Cx} {k : Nat} {o : Expr} {te : TE} {m : Str} {apos pos : Pos} {pl : Sem Bool} (hr : Room k X.A) (he : PE X o te) (hk : 1 ≤ k := by decide)
    (hq : eval (.Call (.Attribute o m apos) [] [] pos) X.env = (do
      let ov ← eval o X.env
      standAt apos.atName
      let (f, first) ← holding [ov] (getMethod ov m pl)
      callWith pos f first (backTo pos (starEach [] X.env)) (backToKw pos (keywordEach [] X.env))) := by rfl) : PE X (.Call (.Attribute o m apos) [] [] pos) (tXmV X m te) := by
  refine ⟨fun pins s σ H Q I h => PySem.W.methodCall_KW (pl := pl) (thn (he.run pins s σ H _ I h) fun u s1 ⟨x, H1, I1, rx, e, C, f, fs, z, ex, ha, hl, M, q⟩ => ?_) hq⟩
  subst ex
  obtain rfl : u = Value.ref e := rx
  obtain ⟨ox, od, J, hf2⟩ := ha.inst I1
  obtain ⟨fd, F, B⟩ := M.fn
  refine x_meth I1.kIn J M.c.ga M.c.gt M.at_ M.ty ((hf2 m).1 hl) (PySem.W.callWith_K0 (first := [.ref e]) I1.kIn M.kp ?_)
  exact run_fn (us := [.ref e]) (vs := [.ref e]) F (hr.mono hk) B .nil pass0 I1 (.cons rfl .nil) ⟨e, rfl, q⟩

theorem isFn_ty {K : PySem.W.Frag} {f : Addr} (h : PySem.W.isFn K (.ref f) = true) : PySem.W.typeIn K (.ref f) = some (.type "function") := beq_iff_eq.mp h
theorem told_of {P : Program} {w : World} {K : PySem.W.Frag} {mg : Str → Option Value} {base : Heap} {C f : Addr} {q z : Str} {pa : Arguments} {body : List Stmt} {sc : Scope} {j : Nat} {p p2 : Pos} (T : XCls K C) (me : Meth K C "told" f) (F : ∃ fd, FunD K "told" q pa body sc [] [] f fd)
    (S : FnScope ["self"] ["self"] sc) (hb : body = [.Return (some (.Constant (.str z) j p)) p2]) (bind : ∀ (kV doc pm : Value) (an : Option Addr) (cdv ct : Value) (us : List Value), us.length = 1 → bindArgs (PySem.W.fnOf "told" q pa body sc .none kV doc pm an cdv ct) ⟨us, []⟩ = pure ((["self"] : List Str).zip us)) : XMeth P w K mg base C "told" f z :=
  let ⟨fd, F⟩ := F
  ⟨T, me.at_, isFn_ty me.fn, me.kp, fd, ok_told F S hb, F.bindsN bind⟩
section
variable {X : Cx} {x g h y z q : Str} {pa : Arguments} {sc : Scope} {body : List Stmt} {p1 p2 p3 p4 p5 p6 p7 p8 p pos : Pos} {f : Addr} {e : Expr} {es : List Expr} {t : TA} {k : Nat}
theorem mk_ini1 (T : XCls X.K (He.ga X.K x)) (no : PySem.W.findIn X.K (.ref (He.ga X.K x)) g = some none) (gl : X.mg x = some (.ref (He.ga X.K x))) (me : Meth X.K (He.ga X.K x) "__init__" f) (F : ∃ fd, FunD X.K "__init__" q pa body sc [] [] f fd) (S : FnScope ["self", y] ["self", y] sc)
    (hb : body = [.Assign [.Attribute (.Name "self" p1) g p2] (.Name y p3) p4]) (v0 : Vis sc "self") (v1 : Vis sc y) (hy : (y == ("__debug__" : Str)) = false) (hy2 : (y == ("__classdict__" : Str)) = false)
    (bind : ∀ (kV doc pm : Value) (an : Option Addr) (cdv ct : Value) (us : List Value), us.length = 2 → bindArgs (PySem.W.fnOf "__init__" q pa body sc .none kV doc pm an cdv ct) ⟨us, []⟩ = pure ((["self", y] : List Str).zip us)) (hdb : (x == ("__debug__" : Str)) = false)
    (hr : Room k X.A) (ha : PA X (e :: es) t) (hk : 2 ≤ k := by decide) (hg : Gl X x := by rfl) (he : starEach (e :: es) X.env = (false, eval e X.env) :: starEach es X.env := by rfl) (hpl : (backTo pos (starEach es X.env)).any (·.1) = false := by rfl) :
    PE X (.Call (.Name x p) (e :: es) [] pos) (tMkI (He.ga X.K x) (spIni1 X.K (He.ga X.K x) g) t) := by
  obtain ⟨fd, F⟩ := F
  exact pe_excI T.ox me.at_ (isFn_ty me.fn) (ok_ini1 F T S no v0 v1 hy hy2 hb) (hr.mono hk) (F.bindsN bind) pass0 gl ha hg hdb he hpl
theorem mk_ini2 (T : XCls X.K (He.ga X.K x)) (no : PySem.W.findIn X.K (.ref (He.ga X.K x)) g = some none) (no2 : PySem.W.findIn X.K (.ref (He.ga X.K x)) h = some none) (gl : X.mg x = some (.ref (He.ga X.K x))) (me : Meth X.K (He.ga X.K x) "__init__" f) (F : ∃ fd, FunD X.K "__init__" q pa body sc [] [] f fd) (S : FnScope ["self", y, z] ["self", y, z] sc)
    (hb : body = [.Assign [.Attribute (.Name "self" p1) g p2] (.Name y p3) p4, .Assign [.Attribute (.Name "self" p5) h p6] (.Name z p7) p8]) (v0 : Vis sc "self") (v1 : Vis sc y) (v2 : Vis sc z) (hy : (y == ("__debug__" : Str)) = false) (hy2 : (y == ("__classdict__" : Str)) = false) (hz : (z == ("__debug__" : Str)) = false) (hz2 : (z == ("__classdict__" : Str)) = false)
    (bind : ∀ (kV doc pm : Value) (an : Option Addr) (cdv ct : Value) (us : List Value), us.length = 3 → bindArgs (PySem.W.fnOf "__init__" q pa body sc .none kV doc pm an cdv ct) ⟨us, []⟩ = pure ((["self", y, z] : List Str).zip us)) (hdb : (x == ("__debug__" : Str)) = false)
    (hr : Room k X.A) (ha : PA X (e :: es) t) (hk : 2 ≤ k := by decide) (hg : Gl X x := by rfl) (he : starEach (e :: es) X.env = (false, eval e X.env) :: starEach es X.env := by rfl) (hpl : (backTo pos (starEach es X.env)).any (·.1) = false := by rfl) :
    PE X (.Call (.Name x p) (e :: es) [] pos) (tMkI (He.ga X.K x) (spIni2 X.K (He.ga X.K x) g h) t) := by
  obtain ⟨fd, F⟩ := F
  exact pe_excI T.ox me.at_ (isFn_ty me.fn) (ok_ini2 F T S no no2 v0 v1 v2 hy hy2 hz hz2 hb) (hr.mono hk) (F.bindsN bind) pass0 gl ha hg hdb he hpl
end

/-! ### rules that ask one thing -/
section
variable {X : Cx}
def rLenL (K : PySem.W.Frag) : List V → Hp → VK → Prop := fun xs H Q => ∃ p ys, xs = [.ref p] ∧ SqL K H p ys ∧ Q (.int ys.length) H
def rLenT (K : PySem.W.Frag) : List V → Hp → VK → Prop := fun xs H Q => ∃ p ys, xs = [.ref p] ∧ SqT K H p ys ∧ Q (.int ys.length) H
theorem call_lenL : CallR X (.builtin "len") (rLenL X.K) := fun pins s σ H xs us Q I r ⟨p, ys, e, h, q⟩ => call_len_seq pins s σ H xs us Q I r ⟨p, ys, e, .inl h, q⟩
theorem call_lenT : CallR X (.builtin "len") (rLenT X.K) := fun pins s σ H xs us Q I r ⟨p, ys, e, h, q⟩ => call_len_seq pins s σ H xs us Q I r ⟨p, ys, e, .inr h, q⟩
def rIntI : List V → Hp → VK → Prop := fun xs H Q => ∃ i : Int, xs = [.int i] ∧ Q (.int i) H
def rIntB : List V → Hp → VK → Prop := fun xs H Q => ∃ k : Bool, xs = [.bl k] ∧ Q (.int (if k then 1 else 0)) H
theorem call_intI : CallR X (.type "int") rIntI := fun pins s σ H xs us Q I r h => call_int1 pins s σ H xs us Q I r (.inl h)
theorem call_intB : CallR X (.type "int") rIntB := fun pins s σ H xs us Q I r h => call_int1 pins s σ H xs us Q I r (.inr h)
end

/-! ### heaps -/
theorem same_new {H : Hp} {p : Addr} {o : HO} (h : H p = none) : Same H (upd H p o) := fun b u z => by rw [upd_ne (ne_of_none z h)]; exact z
theorem at_new {H : Hp} {p : Addr} {o : HO} : upd H p o p = some o := upd_same
/-- a new object: what follows is asked of any heap that holds it -/
theorem newly {H : Hp} {o : HO} {R : Addr → Hp → Prop} (h : ∀ p H', Same H H' → H' p = some o → H p = none → R p H') : ∀ p, H p = none → R p (upd H p o) := fun p hp => h p _ (same_new hp) upd_same hp
end My

namespace My
open PySem PySem.Spec PyProof.Rows L2 PySem.Calls
section
variable {X : Cx}
/-! ### readings with a wish that is easier to say -/
theorem pe_imp {e : Expr} {t u : TE} (h : PE X e t) (i : ∀ σ H Q, u σ H Q → t σ H Q) : PE X e u := ⟨fun pins s σ H Q I q => h.run pins s σ H Q I (i σ H Q q)⟩
def wkE (t : TE) : TE := fun σ H Q => ∃ R : VK, t σ H R ∧ ∀ v H1, R v H1 → Q v H1
def wkA (t : TA) : TA := fun σ H Q => ∃ R : List V → Hp → Prop, t σ H R ∧ ∀ v H1, R v H1 → Q v H1
theorem wk_e {e : Expr} {t : TE} (h : PE X e t) : PE X e (wkE t) := ⟨fun pins s σ H Q I ⟨R, q, m⟩ => thn (h.run pins s σ H R I q) fun u s' ⟨v, H', I', r, z⟩ => ⟨v, H', I', r, m v H' z⟩⟩
theorem wk_a {es : List Expr} {t : TA} (h : PA X es t) : PA X es (wkA t) := ⟨fun pos pins s σ H Q I ⟨R, q, m⟩ => thn (h.run pos pins s σ H R I q) fun u s' ⟨v, H', I', r, z⟩ => ⟨v, H', I', r, m v H' z⟩⟩
/-- short lists: a length that the eye sees -/
abbrev Few (xs : List V) : Prop := Nat.ble xs.length 1000 = true
theorem few {xs : List V} (h : Few xs) : xs.length ≤ sizeLine := Nat.le_of_lt (small1000 (Nat.le_of_ble_eq_true h))
theorem few1 {xs : List V} (h : Few xs) : xs.length ≤ 1000 := Nat.le_of_ble_eq_true h
/-- what is wanted of a new object -/
def NewT (H : Hp) (xs : List V) (Q : VK) : Prop := ∀ p H', Same H H' → H' p = some (.tup xs) → H p = none → Q (.ref p) H'
def NewL (H : Hp) (xs : List V) (Q : VK) : Prop := ∀ p H', Same H H' → H' p = some (.lst xs) → H p = none → Q (.ref p) H'
def NewX (H : Hp) (C : Addr) (fs : List (Str × V)) (Q : VK) : Prop := ∀ p H', Same H H' → XAt H' p C fs → H p = none → Q (.ref p) H'
def tNewT (t : TA) : TE := fun σ H Q => t σ H fun xs H1 => Few xs ∧ NewT H1 xs Q
def tNewL (t : TA) : TE := fun σ H Q => t σ H fun xs H1 => Few xs ∧ NewL H1 xs Q
theorem pe_tupN {es : List Expr} {t : TA} {x1 pos} (h : PA X es t) : PE X (.Tuple es x1 pos) (tNewT t) :=
  pe_imp (pe_tup (wk_a h)) fun σ H Q q => ⟨_, q, fun xs H1 z => ⟨few z.1, newly fun p H' hs ho hn => z.2 p H' hs ho hn⟩⟩
theorem pe_lstN {es : List Expr} {t : TA} {pos} (h : PA X es t) : PE X (.List es pos) (tNewL t) :=
  pe_imp (pe_lst (wk_a h)) fun σ H Q q => ⟨_, q, fun xs H1 z => ⟨few z.1, newly fun p H' hs ho hn => z.2 p H' hs ho hn⟩⟩
/-- xs + ys, both short -/
def rCatN : R2 := fun x y H Q => ∃ l b xs zs, x = .ref l ∧ y = .ref b ∧ H l = some (.lst xs) ∧ H b = some (.lst zs) ∧ Few (xs ++ zs) ∧ NewL H (xs ++ zs) Q
theorem op_catN : OpR X (binaryOp .Add) rCatN := fun pins s σ H x y v u Q I rx ry ⟨l, b, xs, zs, e1, e2, h1, h2, hf, q⟩ =>
  op_cat pins s σ H x y v u Q I rx ry ⟨l, b, xs, zs, e1, e2, h1, h2, by have z := few hf; rw [List.length_append] at z; exact z, newly fun p H' hs ho hn => q p H' hs ho hn⟩
/-- exceptions made -/
def tX0 (C : Addr) : TE := fun _ H Q => NewX H C [] Q
def tX1 (C : Addr) (g : Str) (t : TA) : TE := fun σ H Q => t σ H fun vs H1 => ∃ v, vs = [v] ∧ NewX H1 C [(g, v)] Q
def tX2 (C : Addr) (g h : Str) (t : TA) : TE := fun σ H Q => t σ H fun vs H1 => ∃ v u, vs = [v, u] ∧ NewX H1 C [(h, u), (g, v)] Q
theorem x0_of {e : Expr} {C : Addr} (h : PE X e (tMk0 C)) : PE X e (tX0 C) := pe_imp h fun σ H Q q a ha => q a _ (same_new ha) (.no upd_same) ha
theorem x1_of {K : PySem.W.Frag} {e : Expr} {C : Addr} {g : Str} {t : TA} (h : PE X e (tMkI C (spIni1 K C g) (wkA t))) : PE X e (tX1 C g t) :=
  pe_imp h fun σ H Q q => ⟨_, q, fun vs H1 ⟨v, e, z⟩ => by
    subst e
    refine ⟨by show 1 ≤ 1000; decide, fun a ha => ⟨a, v, rfl, upd_same, fun d hd hne => ⟨rfl, z a _ (fun b o y => ?_) (.at upd_same (by rw [upd_ne hne, upd_same])) ha⟩⟩⟩
    have hd1 : H1 d = none := by rw [upd_ne hne] at hd; exact hd
    rw [upd_ne (ne_of_none y ha), upd_ne (ne_of_none y hd1), upd_ne (ne_of_none y ha)]; exact y⟩
theorem x2_of {K : PySem.W.Frag} {e : Expr} {C : Addr} {g k : Str} {t : TA} (h : PE X e (tMkI C (spIni2 K C g k) (wkA t))) : PE X e (tX2 C g k t) :=
  pe_imp h fun σ H Q q => ⟨_, q, fun vs H1 ⟨v, u, e, z⟩ => by
    subst e
    refine ⟨by show 2 ≤ 1000; decide, fun a ha => ⟨a, v, u, rfl, upd_same, fun d hd hne => ⟨rfl, z a _ (fun b o y => ?_) (.at (d := d) (by rw [upd_ne (Ne.symm hne), upd_same]) upd_same) ha⟩⟩⟩
    have hd1 : H1 d = none := by rw [upd_ne hne] at hd; exact hd
    rw [upd_ne (ne_of_none y hd1), upd_ne (ne_of_none y ha), upd_ne (ne_of_none y hd1), upd_ne (ne_of_none y ha)]; exact y⟩
theorem sm_step {G H : Hp} {b : Addr} {o : HO} (s : Same G H) (h : G b = some o) : H b = some o := s _ _ h
theorem ss_step {F G H : Hp} (s : Same G H) (h : Same F G) : Same F H := h.trans s
theorem xs_step {G H : Hp} {e C : Addr} {fs : List (Str × V)} (s : Same G H) (h : XAt G e C fs) : XAt H e C fs := h.same s
theorem sq_step {K : PySem.W.Frag} {G H : Hp} {a : Addr} {xs : List V} (s : Same G H) (h : SqL K G a xs) : SqL K H a xs := s.seq h
theorem lk1 {g : Str} {v : V} {r : List (Str × V)} : List.lookup g ((g, v) :: r) = some v := by simp [List.lookup]
theorem lk2 {g h : Str} {v : V} {r : List (Str × V)} (n : decide (g = h) = false) : List.lookup g ((h, v) :: r) = List.lookup g r := by
  have e : (g == h) = false := beq_eq_false_iff_ne.mpr (of_decide_eq_false n)
  simp [List.lookup, e]
end
end My

namespace My
open PySem PySem.Spec PyProof.Rows L2
def top (i : Nat) : Stmt := PySem.Challenge.pw_anymethod_k12_every_error.main.body.getD i (.Pass ⟨0, 0, 0, 0⟩)
abbrev s_MethodError_told : Stmt := inClass (top 1) 0
def d_MethodError_told : He.DefD := ⟨("MethodError", some "told"), "told", "MethodError.told", defArgs s_MethodError_told, defBody s_MethodError_told, defScope s_MethodError_told, [], []⟩
abbrev s_NoRatio_init : Stmt := inClass (top 2) 0
def d_NoRatio_init : He.DefD := ⟨("NoRatio", some "__init__"), "__init__", "NoRatio.__init__", defArgs s_NoRatio_init, defBody s_NoRatio_init, defScope s_NoRatio_init, [], []⟩
abbrev s_NoRatio_told : Stmt := inClass (top 2) 1
def d_NoRatio_told : He.DefD := ⟨("NoRatio", some "told"), "told", "NoRatio.told", defArgs s_NoRatio_told, defBody s_NoRatio_told, defScope s_NoRatio_told, [], []⟩
abbrev s_NoQuestion_init : Stmt := inClass (top 3) 0
def d_NoQuestion_init : He.DefD := ⟨("NoQuestion", some "__init__"), "__init__", "NoQuestion.__init__", defArgs s_NoQuestion_init, defBody s_NoQuestion_init, defScope s_NoQuestion_init, [], []⟩
abbrev s_NoQuestion_told : Stmt := inClass (top 3) 1
def d_NoQuestion_told : He.DefD := ⟨("NoQuestion", some "told"), "told", "NoQuestion.told", defArgs s_NoQuestion_told, defBody s_NoQuestion_told, defScope s_NoQuestion_told, [], []⟩
abbrev s_OtherEffects_told : Stmt := inClass (top 4) 0
def d_OtherEffects_told : He.DefD := ⟨("OtherEffects", some "told"), "told", "OtherEffects.told", defArgs s_OtherEffects_told, defBody s_OtherEffects_told, defScope s_OtherEffects_told, [], []⟩
abbrev s_NoWorld_told : Stmt := inClass (top 5) 0
def d_NoWorld_told : He.DefD := ⟨("NoWorld", some "told"), "told", "NoWorld.told", defArgs s_NoWorld_told, defBody s_NoWorld_told, defScope s_NoWorld_told, [], []⟩
abbrev s_NoSuch_init : Stmt := inClass (top 6) 0
def d_NoSuch_init : He.DefD := ⟨("NoSuch", some "__init__"), "__init__", "NoSuch.__init__", defArgs s_NoSuch_init, defBody s_NoSuch_init, defScope s_NoSuch_init, [], []⟩
abbrev s_NoSuch_told : Stmt := inClass (top 6) 1
def d_NoSuch_told : He.DefD := ⟨("NoSuch", some "told"), "told", "NoSuch.told", defArgs s_NoSuch_told, defBody s_NoSuch_told, defScope s_NoSuch_told, [], []⟩
abbrev s_NoRun_init : Stmt := inClass (top 7) 0
def d_NoRun_init : He.DefD := ⟨("NoRun", some "__init__"), "__init__", "NoRun.__init__", defArgs s_NoRun_init, defBody s_NoRun_init, defScope s_NoRun_init, [], []⟩
abbrev s_NoRun_told : Stmt := inClass (top 7) 1
def d_NoRun_told : He.DefD := ⟨("NoRun", some "told"), "told", "NoRun.told", defArgs s_NoRun_told, defBody s_NoRun_told, defScope s_NoRun_told, [], []⟩
abbrev s_NoName_init : Stmt := inClass (top 8) 0
def d_NoName_init : He.DefD := ⟨("NoName", some "__init__"), "__init__", "NoName.__init__", defArgs s_NoName_init, defBody s_NoName_init, defScope s_NoName_init, [], []⟩
abbrev s_NoName_told : Stmt := inClass (top 8) 1
def d_NoName_told : He.DefD := ⟨("NoName", some "told"), "told", "NoName.told", defArgs s_NoName_told, defBody s_NoName_told, defScope s_NoName_told, [], []⟩
abbrev s_Full_init : Stmt := inClass (top 9) 0
def d_Full_init : He.DefD := ⟨("Full", some "__init__"), "__init__", "Full.__init__", defArgs s_Full_init, defBody s_Full_init, defScope s_Full_init, [], []⟩
abbrev s_Full_told : Stmt := inClass (top 9) 1
def d_Full_told : He.DefD := ⟨("Full", some "told"), "told", "Full.told", defArgs s_Full_told, defBody s_Full_told, defScope s_Full_told, [], []⟩
abbrev s_Twice_init : Stmt := inClass (top 10) 0
def d_Twice_init : He.DefD := ⟨("Twice", some "__init__"), "__init__", "Twice.__init__", defArgs s_Twice_init, defBody s_Twice_init, defScope s_Twice_init, [], []⟩
abbrev s_Twice_told : Stmt := inClass (top 10) 1
def d_Twice_told : He.DefD := ⟨("Twice", some "told"), "told", "Twice.told", defArgs s_Twice_told, defBody s_Twice_told, defScope s_Twice_told, [], []⟩
abbrev s_NoStep_init : Stmt := inClass (top 11) 0
def d_NoStep_init : He.DefD := ⟨("NoStep", some "__init__"), "__init__", "NoStep.__init__", defArgs s_NoStep_init, defBody s_NoStep_init, defScope s_NoStep_init, [], []⟩
abbrev s_NoStep_told : Stmt := inClass (top 11) 1
def d_NoStep_told : He.DefD := ⟨("NoStep", some "told"), "told", "NoStep.told", defArgs s_NoStep_told, defBody s_NoStep_told, defScope s_NoStep_told, [], []⟩
abbrev s_NoWild_told : Stmt := inClass (top 12) 0
def d_NoWild_told : He.DefD := ⟨("NoWild", some "told"), "told", "NoWild.told", defArgs s_NoWild_told, defBody s_NoWild_told, defScope s_NoWild_told, [], []⟩
abbrev s_NoMethod_told : Stmt := inClass (top 13) 0
def d_NoMethod_told : He.DefD := ⟨("NoMethod", some "told"), "told", "NoMethod.told", defArgs s_NoMethod_told, defBody s_NoMethod_told, defScope s_NoMethod_told, [], []⟩
abbrev s_NoWeights_init : Stmt := inClass (top 14) 0
def d_NoWeights_init : He.DefD := ⟨("NoWeights", some "__init__"), "__init__", "NoWeights.__init__", defArgs s_NoWeights_init, defBody s_NoWeights_init, defScope s_NoWeights_init, [], []⟩
abbrev s_NoWeights_told : Stmt := inClass (top 14) 1
def d_NoWeights_told : He.DefD := ⟨("NoWeights", some "told"), "told", "NoWeights.told", defArgs s_NoWeights_told, defBody s_NoWeights_told, defScope s_NoWeights_told, [], []⟩
abbrev s_NoReadings_init : Stmt := inClass (top 15) 0
def d_NoReadings_init : He.DefD := ⟨("NoReadings", some "__init__"), "__init__", "NoReadings.__init__", defArgs s_NoReadings_init, defBody s_NoReadings_init, defScope s_NoReadings_init, [], []⟩
abbrev s_NoReadings_told : Stmt := inClass (top 15) 1
def d_NoReadings_told : He.DefD := ⟨("NoReadings", some "told"), "told", "NoReadings.told", defArgs s_NoReadings_told, defBody s_NoReadings_told, defScope s_NoReadings_told, [], []⟩
abbrev s_Clash_told : Stmt := inClass (top 16) 0
def d_Clash_told : He.DefD := ⟨("Clash", some "told"), "told", "Clash.told", defArgs s_Clash_told, defBody s_Clash_told, defScope s_Clash_told, [], []⟩
abbrev s_Unbounded_told : Stmt := inClass (top 17) 0
def d_Unbounded_told : He.DefD := ⟨("Unbounded", some "told"), "told", "Unbounded.told", defArgs s_Unbounded_told, defBody s_Unbounded_told, defScope s_Unbounded_told, [], []⟩
abbrev s_NoOffer_init : Stmt := inClass (top 18) 0
def d_NoOffer_init : He.DefD := ⟨("NoOffer", some "__init__"), "__init__", "NoOffer.__init__", defArgs s_NoOffer_init, defBody s_NoOffer_init, defScope s_NoOffer_init, [], []⟩
abbrev s_NoOffer_told : Stmt := inClass (top 18) 1
def d_NoOffer_told : He.DefD := ⟨("NoOffer", some "told"), "told", "NoOffer.told", defArgs s_NoOffer_told, defBody s_NoOffer_told, defScope s_NoOffer_told, [], []⟩
abbrev s_NoGoal_init : Stmt := inClass (top 19) 0
def d_NoGoal_init : He.DefD := ⟨("NoGoal", some "__init__"), "__init__", "NoGoal.__init__", defArgs s_NoGoal_init, defBody s_NoGoal_init, defScope s_NoGoal_init, [], []⟩
abbrev s_NoGoal_told : Stmt := inClass (top 19) 1
def d_NoGoal_told : He.DefD := ⟨("NoGoal", some "told"), "told", "NoGoal.told", defArgs s_NoGoal_told, defBody s_NoGoal_told, defScope s_NoGoal_told, [], []⟩
abbrev s_NoGoals_init : Stmt := inClass (top 20) 0
def d_NoGoals_init : He.DefD := ⟨("NoGoals", some "__init__"), "__init__", "NoGoals.__init__", defArgs s_NoGoals_init, defBody s_NoGoals_init, defScope s_NoGoals_init, [], []⟩
abbrev s_NoGoals_told : Stmt := inClass (top 20) 1
def d_NoGoals_told : He.DefD := ⟨("NoGoals", some "told"), "told", "NoGoals.told", defArgs s_NoGoals_told, defBody s_NoGoals_told, defScope s_NoGoals_told, [], []⟩
abbrev s_NoFactor_init : Stmt := inClass (top 21) 0
def d_NoFactor_init : He.DefD := ⟨("NoFactor", some "__init__"), "__init__", "NoFactor.__init__", defArgs s_NoFactor_init, defBody s_NoFactor_init, defScope s_NoFactor_init, [], []⟩
abbrev s_NoFactor_told : Stmt := inClass (top 21) 1
def d_NoFactor_told : He.DefD := ⟨("NoFactor", some "told"), "told", "NoFactor.told", defArgs s_NoFactor_told, defBody s_NoFactor_told, defScope s_NoFactor_told, [], []⟩
abbrev s_NoTable_init : Stmt := inClass (top 22) 0
def d_NoTable_init : He.DefD := ⟨("NoTable", some "__init__"), "__init__", "NoTable.__init__", defArgs s_NoTable_init, defBody s_NoTable_init, defScope s_NoTable_init, [], []⟩
abbrev s_NoTable_told : Stmt := inClass (top 22) 1
def d_NoTable_told : He.DefD := ⟨("NoTable", some "told"), "told", "NoTable.told", defArgs s_NoTable_told, defBody s_NoTable_told, defScope s_NoTable_told, [], []⟩
abbrev s_NoOrder_told : Stmt := inClass (top 23) 0
def d_NoOrder_told : He.DefD := ⟨("NoOrder", some "told"), "told", "NoOrder.told", defArgs s_NoOrder_told, defBody s_NoOrder_told, defScope s_NoOrder_told, [], []⟩
abbrev s_BadText_init : Stmt := inClass (top 24) 0
def d_BadText_init : He.DefD := ⟨("BadText", some "__init__"), "__init__", "BadText.__init__", defArgs s_BadText_init, defBody s_BadText_init, defScope s_BadText_init, [], []⟩
abbrev s_BadText_told : Stmt := inClass (top 24) 1
def d_BadText_told : He.DefD := ⟨("BadText", some "told"), "told", "BadText.told", defArgs s_BadText_told, defBody s_BadText_told, defScope s_BadText_told, [], []⟩
abbrev s_BadLine_init : Stmt := inClass (top 25) 0
def d_BadLine_init : He.DefD := ⟨("BadLine", some "__init__"), "__init__", "BadLine.__init__", defArgs s_BadLine_init, defBody s_BadLine_init, defScope s_BadLine_init, [], []⟩
abbrev s_BadLine_told : Stmt := inClass (top 25) 1
def d_BadLine_told : He.DefD := ⟨("BadLine", some "told"), "told", "BadLine.told", defArgs s_BadLine_told, defBody s_BadLine_told, defScope s_BadLine_told, [], []⟩
abbrev s_NoCommand_init : Stmt := inClass (top 26) 0
def d_NoCommand_init : He.DefD := ⟨("NoCommand", some "__init__"), "__init__", "NoCommand.__init__", defArgs s_NoCommand_init, defBody s_NoCommand_init, defScope s_NoCommand_init, [], []⟩
abbrev s_NoCommand_told : Stmt := inClass (top 26) 1
def d_NoCommand_told : He.DefD := ⟨("NoCommand", some "told"), "told", "NoCommand.told", defArgs s_NoCommand_told, defBody s_NoCommand_told, defScope s_NoCommand_told, [], []⟩
abbrev s_NoUndo_told : Stmt := inClass (top 27) 0
def d_NoUndo_told : He.DefD := ⟨("NoUndo", some "told"), "told", "NoUndo.told", defArgs s_NoUndo_told, defBody s_NoUndo_told, defScope s_NoUndo_told, [], []⟩
abbrev s_NoRedo_told : Stmt := inClass (top 28) 0
def d_NoRedo_told : He.DefD := ⟨("NoRedo", some "told"), "told", "NoRedo.told", defArgs s_NoRedo_told, defBody s_NoRedo_told, defScope s_NoRedo_told, [], []⟩
abbrev s_cell : Stmt := top 30
def d_cell : He.DefD := ⟨("_law_cell", none), "_law_cell", "_law_cell", defArgs s_cell, defBody s_cell, defScope s_cell, [], []⟩
abbrev s_pouch : Stmt := top 31
def d_pouch : He.DefD := ⟨("_law_pouch", none), "_law_pouch", "_law_pouch", defArgs s_pouch, defBody s_pouch, defScope s_pouch, [], []⟩
abbrev s_draw : Stmt := top 32
def d_draw : He.DefD := ⟨("_law_draw", none), "_law_draw", "_law_draw", defArgs s_draw, defBody s_draw, defScope s_draw, [], []⟩
abbrev s_is : Stmt := top 33
def d_is : He.DefD := ⟨("_law_is", none), "_law_is", "_law_is", defArgs s_is, defBody s_is, defScope s_is, [], []⟩
abbrev s_first : Stmt := top 34
def d_first : He.DefD := ⟨("_law_first", none), "_law_first", "_law_first", defArgs s_first, defBody s_first, defScope s_first, [], []⟩
abbrev s_second : Stmt := top 35
def d_second : He.DefD := ⟨("_law_second", none), "_law_second", "_law_second", defArgs s_second, defBody s_second, defScope s_second, [], []⟩
abbrev s_third : Stmt := top 36
def d_third : He.DefD := ⟨("_law_third", none), "_law_third", "_law_third", defArgs s_third, defBody s_third, defScope s_third, [], []⟩
abbrev s_fourth : Stmt := top 37
def d_fourth : He.DefD := ⟨("_law_fourth", none), "_law_fourth", "_law_fourth", defArgs s_fourth, defBody s_fourth, defScope s_fourth, [], []⟩
abbrev s_right : Stmt := top 38
def d_right : He.DefD := ⟨("_law_right", none), "_law_right", "_law_right", defArgs s_right, defBody s_right, defScope s_right, [], []⟩
abbrev s_parted : Stmt := top 39
def d_parted : He.DefD := ⟨("_law_parted", none), "_law_parted", "_law_parted", defArgs s_parted, defBody s_parted, defScope s_parted, [], []⟩
abbrev s_law : Stmt := top 40
def d_law : He.DefD := ⟨("law", none), "law", "law", defArgs s_law, defBody s_law, defScope s_law, [], []⟩
def fn0 : List He.DefD := [d_MethodError_told, d_NoRatio_init, d_NoRatio_told, d_NoQuestion_init, d_NoQuestion_told, d_OtherEffects_told, d_NoWorld_told, d_NoSuch_init, d_NoSuch_told, d_NoRun_init, d_NoRun_told, d_NoName_init, d_NoName_told, d_Full_init, d_Full_told, d_Twice_init, d_Twice_told, d_NoStep_init, d_NoStep_told, d_NoWild_told, d_NoMethod_told, d_NoWeights_init, d_NoWeights_told, d_NoReadings_init, d_NoReadings_told]
def fn1 : List He.DefD := [d_Clash_told, d_Unbounded_told, d_NoOffer_init, d_NoOffer_told, d_NoGoal_init, d_NoGoal_told, d_NoGoals_init, d_NoGoals_told, d_NoFactor_init, d_NoFactor_told, d_NoTable_init, d_NoTable_told, d_NoOrder_told, d_BadText_init, d_BadText_told, d_BadLine_init, d_BadLine_told, d_NoCommand_init, d_NoCommand_told, d_NoUndo_told, d_NoRedo_told, d_cell, d_pouch, d_draw, d_is]
def fn2 : List He.DefD := [d_first, d_second, d_third, d_fourth, d_right, d_parted, d_law]
def fn : List He.DefD := fn0 ++ (fn1 ++ (fn2))
def fa0 : List He.Fa := [.glo "MethodError", .glo "NoRatio", .glo "NoQuestion", .glo "OtherEffects", .glo "NoWorld", .glo "NoSuch", .glo "NoRun", .glo "NoName", .glo "Full", .glo "Twice", .glo "NoStep", .glo "NoWild", .glo "NoMethod", .glo "NoWeights", .glo "NoReadings", .glo "Clash", .glo "Unbounded", .glo "NoOffer", .glo "NoGoal", .glo "NoGoals", .glo "NoFactor", .glo "NoTable", .glo "NoOrder", .glo "BadText", .glo "BadLine"]
def fa1 : List He.Fa := [.glo "NoCommand", .glo "NoUndo", .glo "NoRedo", .glo "_law_cell", .glo "_law_pouch", .glo "_law_draw", .glo "_law_is", .glo "_law_first", .glo "_law_second", .glo "_law_third", .glo "_law_fourth", .glo "_law_right", .glo "_law_parted", .glo "law", .meth "MethodError" "told", .exc "MethodError", .meth "NoRatio" "__init__", .meth "NoRatio" "told", .noat "NoRatio" "word", .meth "NoQuestion" "__init__", .meth "NoQuestion" "told", .noat "NoQuestion" "word", .meth "OtherEffects" "told", .exc "OtherEffects", .meth "NoWorld" "told"]
def fa2 : List He.Fa := [.exc "NoWorld", .meth "NoSuch" "__init__", .meth "NoSuch" "told", .noat "NoSuch" "name", .meth "NoRun" "__init__", .meth "NoRun" "told", .noat "NoRun" "word", .meth "NoName" "__init__", .meth "NoName" "told", .noat "NoName" "name", .meth "Full" "__init__", .meth "Full" "told", .noat "Full" "number", .meth "Twice" "__init__", .meth "Twice" "told", .noat "Twice" "name", .meth "NoStep" "__init__", .meth "NoStep" "told", .noat "NoStep" "place", .meth "NoWild" "told", .exc "NoWild", .meth "NoMethod" "told", .exc "NoMethod", .meth "NoWeights" "__init__", .meth "NoWeights" "told"]
def fa3 : List He.Fa := [.noat "NoWeights" "word", .meth "NoReadings" "__init__", .meth "NoReadings" "told", .noat "NoReadings" "name", .meth "Clash" "told", .exc "Clash", .meth "Unbounded" "told", .exc "Unbounded", .meth "NoOffer" "__init__", .meth "NoOffer" "told", .noat "NoOffer" "place", .noat "NoOffer" "word", .meth "NoGoal" "__init__", .meth "NoGoal" "told", .noat "NoGoal" "word", .meth "NoGoals" "__init__", .meth "NoGoals" "told", .noat "NoGoals" "place", .meth "NoFactor" "__init__", .meth "NoFactor" "told", .noat "NoFactor" "effect", .meth "NoTable" "__init__", .meth "NoTable" "told", .noat "NoTable" "effect", .meth "NoOrder" "told"]
def fa4 : List He.Fa := [.exc "NoOrder", .meth "BadText" "__init__", .meth "BadText" "told", .noat "BadText" "place", .meth "BadLine" "__init__", .meth "BadLine" "told", .noat "BadLine" "line", .noat "BadLine" "word", .meth "NoCommand" "__init__", .meth "NoCommand" "told", .noat "NoCommand" "place", .meth "NoUndo" "told", .exc "NoUndo", .meth "NoRedo" "told", .exc "NoRedo", .free "ValueError", .free "abs", .free "int", .free "isinstance", .free "len", .free "range", .free "str"]
def fa : List He.Fa := fa0 ++ (fa1 ++ (fa2 ++ (fa3 ++ (fa4))))
def xnames : List Str := ["MethodError", "NoRatio", "NoQuestion", "OtherEffects", "NoWorld", "NoSuch", "NoRun", "NoName", "Full", "Twice", "NoStep", "NoWild", "NoMethod", "NoWeights", "NoReadings", "Clash", "Unbounded", "NoOffer", "NoGoal", "NoGoals", "NoFactor", "NoTable", "NoOrder", "BadText", "BadLine", "NoCommand", "NoUndo", "NoRedo"]
def grps : List (List Str) := [["NoRatio", "NoQuestion", "OtherEffects", "NoWorld", "NoSuch", "NoRun", "NoName"], ["Full", "Twice", "NoStep", "NoWild", "NoMethod", "NoWeights", "NoReadings"], ["Clash", "Unbounded", "NoOffer", "NoGoal", "NoGoals", "NoFactor", "NoTable"], ["NoOrder", "BadText", "BadLine", "NoCommand", "NoUndo", "NoRedo"]]
def rf (K : PySem.W.Frag) (x : Str) : Value := .ref (He.ga K x)
def ex1 (K : PySem.W.Frag) : Bool := xnames.all fun x => xclsB K (He.ga K x) && (decide (PySem.W.kitOne K (rf K x) (rf K "MethodError") = some true) && decide (PySem.W.kitOne K (rf K x) (.type "ValueError") = some true))
def ex2 (K : PySem.W.Frag) : Bool := [0, 1, 2, 3].all fun i => (grps.getD i []).all fun x => [0, 1, 2, 3].all fun j => decide (PySem.W.kitAny K (rf K x) ((grps.getD j []).map (rf K)) = some (i == j))
def ex3 (K : PySem.W.Frag) : Bool := grps.flatten.all fun x => grps.flatten.all fun y => decide (PySem.W.kitOne K (rf K x) (rf K y) = some (x == y))
def noats : List (Str × Str) := [("NoRatio", "word"), ("NoQuestion", "word"), ("NoSuch", "name"), ("NoRun", "word"), ("NoName", "name"), ("Full", "number"), ("Twice", "name"), ("NoStep", "place"), ("NoWeights", "word"), ("NoReadings", "name"), ("NoOffer", "place"), ("NoOffer", "word"), ("NoGoal", "word"), ("NoGoals", "place"), ("NoFactor", "effect"), ("NoTable", "effect"), ("BadText", "place"), ("BadLine", "line"), ("BadLine", "word"), ("NoCommand", "place")]
def ex4 (K : PySem.W.Frag) : Bool := noats.all fun p => decide (PySem.W.findIn K (.ref (He.ga K p.1)) p.2 = some none)
def ex (K : PySem.W.Frag) : Bool := ex4 K && (ex1 K && (ex2 K && (ex3 K && decide (PySem.W.kitOne K (rf K "MethodError") (rf K "NoRatio") = some false))))
def nm0 : List PySem.Str := ["MethodError", "NoRatio", "NoQuestion", "OtherEffects", "NoWorld", "NoSuch", "NoRun", "NoName", "Full", "Twice", "NoStep", "NoWild", "NoMethod", "NoWeights", "NoReadings", "Clash", "Unbounded", "NoOffer", "NoGoal", "NoGoals", "NoFactor", "NoTable", "NoOrder", "BadText", "BadLine"]
def nm1 : List PySem.Str := ["NoCommand", "NoUndo", "NoRedo", "_law_cell", "_law_pouch", "_law_draw", "_law_is", "_law_first", "_law_second", "_law_third", "_law_fourth", "_law_right", "_law_parted"]
def loose : List PySem.Str := nm0 ++ (nm1)
abbrev R : PySem.W.OpenRow := PySem.W.OpenLaw.row PySem.Challenge.rw_anymethod_k12_every_error
abbrev hk : PySem.W.Hook := hookM 5 fa fn ex
def ob (s : PySem.W.SharedT) : He.AlD := obsMG 5 fa fn ex (HandSHeadRun.getT s)
theorem ob_eq (s : PySem.W.SharedT) : ob s = hk.obs s.abs := obsMG_eq (HandSHeadRun.getT_eq s)
abbrev CT (K : PySem.W.Frag) (mg : Str → Option Value) : Prop := Ctx fa fn ex K mg
section
variable {K : PySem.W.Frag} {mg : Str → Option Value}
theorem glo_MethodError (Z : CT K mg) : mg "MethodError" = some (.ref (He.ga K "MethodError")) := Z.glo 0
theorem glo_NoRatio (Z : CT K mg) : mg "NoRatio" = some (.ref (He.ga K "NoRatio")) := Z.glo 1
theorem glo_NoQuestion (Z : CT K mg) : mg "NoQuestion" = some (.ref (He.ga K "NoQuestion")) := Z.glo 2
theorem glo_OtherEffects (Z : CT K mg) : mg "OtherEffects" = some (.ref (He.ga K "OtherEffects")) := Z.glo 3
theorem glo_NoWorld (Z : CT K mg) : mg "NoWorld" = some (.ref (He.ga K "NoWorld")) := Z.glo 4
theorem glo_NoSuch (Z : CT K mg) : mg "NoSuch" = some (.ref (He.ga K "NoSuch")) := Z.glo 5
theorem glo_NoRun (Z : CT K mg) : mg "NoRun" = some (.ref (He.ga K "NoRun")) := Z.glo 6
theorem glo_NoName (Z : CT K mg) : mg "NoName" = some (.ref (He.ga K "NoName")) := Z.glo 7
theorem glo_Full (Z : CT K mg) : mg "Full" = some (.ref (He.ga K "Full")) := Z.glo 8
theorem glo_Twice (Z : CT K mg) : mg "Twice" = some (.ref (He.ga K "Twice")) := Z.glo 9
theorem glo_NoStep (Z : CT K mg) : mg "NoStep" = some (.ref (He.ga K "NoStep")) := Z.glo 10
theorem glo_NoWild (Z : CT K mg) : mg "NoWild" = some (.ref (He.ga K "NoWild")) := Z.glo 11
theorem glo_NoMethod (Z : CT K mg) : mg "NoMethod" = some (.ref (He.ga K "NoMethod")) := Z.glo 12
theorem glo_NoWeights (Z : CT K mg) : mg "NoWeights" = some (.ref (He.ga K "NoWeights")) := Z.glo 13
theorem glo_NoReadings (Z : CT K mg) : mg "NoReadings" = some (.ref (He.ga K "NoReadings")) := Z.glo 14
theorem glo_Clash (Z : CT K mg) : mg "Clash" = some (.ref (He.ga K "Clash")) := Z.glo 15
theorem glo_Unbounded (Z : CT K mg) : mg "Unbounded" = some (.ref (He.ga K "Unbounded")) := Z.glo 16
theorem glo_NoOffer (Z : CT K mg) : mg "NoOffer" = some (.ref (He.ga K "NoOffer")) := Z.glo 17
theorem glo_NoGoal (Z : CT K mg) : mg "NoGoal" = some (.ref (He.ga K "NoGoal")) := Z.glo 18
theorem glo_NoGoals (Z : CT K mg) : mg "NoGoals" = some (.ref (He.ga K "NoGoals")) := Z.glo 19
theorem glo_NoFactor (Z : CT K mg) : mg "NoFactor" = some (.ref (He.ga K "NoFactor")) := Z.glo 20
theorem glo_NoTable (Z : CT K mg) : mg "NoTable" = some (.ref (He.ga K "NoTable")) := Z.glo 21
theorem glo_NoOrder (Z : CT K mg) : mg "NoOrder" = some (.ref (He.ga K "NoOrder")) := Z.glo 22
theorem glo_BadText (Z : CT K mg) : mg "BadText" = some (.ref (He.ga K "BadText")) := Z.glo 23
theorem glo_BadLine (Z : CT K mg) : mg "BadLine" = some (.ref (He.ga K "BadLine")) := Z.glo 24
theorem glo_NoCommand (Z : CT K mg) : mg "NoCommand" = some (.ref (He.ga K "NoCommand")) := Z.glo 25
theorem glo_NoUndo (Z : CT K mg) : mg "NoUndo" = some (.ref (He.ga K "NoUndo")) := Z.glo 26
theorem glo_NoRedo (Z : CT K mg) : mg "NoRedo" = some (.ref (He.ga K "NoRedo")) := Z.glo 27
theorem me_MethodError_told (Z : CT K mg) : Meth K (He.ga K "MethodError") "told" (He.ma K (He.ga K "MethodError") "told") := He.meth_ok (Z.d.fact 39)
theorem xc0_MethodError (Z : CT K mg) : PySem.W.excIn K (He.ga K "MethodError") He.veBase "ValueError.__new__" = true := (He.exc_ok (Z.d.fact 40)).1
theorem me_NoRatio_init (Z : CT K mg) : Meth K (He.ga K "NoRatio") "__init__" (He.ma K (He.ga K "NoRatio") "__init__") := He.meth_ok (Z.d.fact 41)
theorem me_NoRatio_told (Z : CT K mg) : Meth K (He.ga K "NoRatio") "told" (He.ma K (He.ga K "NoRatio") "told") := He.meth_ok (Z.d.fact 42)
theorem no_NoRatio_word (Z : CT K mg) : PySem.W.findIn K (.ref (He.ga K "NoRatio")) "word" = some none := He.noat_ok (Z.d.fact 43)
theorem me_NoQuestion_init (Z : CT K mg) : Meth K (He.ga K "NoQuestion") "__init__" (He.ma K (He.ga K "NoQuestion") "__init__") := He.meth_ok (Z.d.fact 44)
theorem me_NoQuestion_told (Z : CT K mg) : Meth K (He.ga K "NoQuestion") "told" (He.ma K (He.ga K "NoQuestion") "told") := He.meth_ok (Z.d.fact 45)
theorem no_NoQuestion_word (Z : CT K mg) : PySem.W.findIn K (.ref (He.ga K "NoQuestion")) "word" = some none := He.noat_ok (Z.d.fact 46)
theorem me_OtherEffects_told (Z : CT K mg) : Meth K (He.ga K "OtherEffects") "told" (He.ma K (He.ga K "OtherEffects") "told") := He.meth_ok (Z.d.fact 47)
theorem xc0_OtherEffects (Z : CT K mg) : PySem.W.excIn K (He.ga K "OtherEffects") He.veBase "ValueError.__new__" = true := (He.exc_ok (Z.d.fact 48)).1
theorem me_NoWorld_told (Z : CT K mg) : Meth K (He.ga K "NoWorld") "told" (He.ma K (He.ga K "NoWorld") "told") := He.meth_ok (Z.d.fact 49)
theorem xc0_NoWorld (Z : CT K mg) : PySem.W.excIn K (He.ga K "NoWorld") He.veBase "ValueError.__new__" = true := (He.exc_ok (Z.d.fact 50)).1
theorem me_NoSuch_init (Z : CT K mg) : Meth K (He.ga K "NoSuch") "__init__" (He.ma K (He.ga K "NoSuch") "__init__") := He.meth_ok (Z.d.fact 51)
theorem me_NoSuch_told (Z : CT K mg) : Meth K (He.ga K "NoSuch") "told" (He.ma K (He.ga K "NoSuch") "told") := He.meth_ok (Z.d.fact 52)
theorem no_NoSuch_name (Z : CT K mg) : PySem.W.findIn K (.ref (He.ga K "NoSuch")) "name" = some none := He.noat_ok (Z.d.fact 53)
theorem me_NoRun_init (Z : CT K mg) : Meth K (He.ga K "NoRun") "__init__" (He.ma K (He.ga K "NoRun") "__init__") := He.meth_ok (Z.d.fact 54)
theorem me_NoRun_told (Z : CT K mg) : Meth K (He.ga K "NoRun") "told" (He.ma K (He.ga K "NoRun") "told") := He.meth_ok (Z.d.fact 55)
theorem no_NoRun_word (Z : CT K mg) : PySem.W.findIn K (.ref (He.ga K "NoRun")) "word" = some none := He.noat_ok (Z.d.fact 56)
theorem me_NoName_init (Z : CT K mg) : Meth K (He.ga K "NoName") "__init__" (He.ma K (He.ga K "NoName") "__init__") := He.meth_ok (Z.d.fact 57)
theorem me_NoName_told (Z : CT K mg) : Meth K (He.ga K "NoName") "told" (He.ma K (He.ga K "NoName") "told") := He.meth_ok (Z.d.fact 58)
theorem no_NoName_name (Z : CT K mg) : PySem.W.findIn K (.ref (He.ga K "NoName")) "name" = some none := He.noat_ok (Z.d.fact 59)
theorem me_Full_init (Z : CT K mg) : Meth K (He.ga K "Full") "__init__" (He.ma K (He.ga K "Full") "__init__") := He.meth_ok (Z.d.fact 60)
theorem me_Full_told (Z : CT K mg) : Meth K (He.ga K "Full") "told" (He.ma K (He.ga K "Full") "told") := He.meth_ok (Z.d.fact 61)
theorem no_Full_number (Z : CT K mg) : PySem.W.findIn K (.ref (He.ga K "Full")) "number" = some none := He.noat_ok (Z.d.fact 62)
theorem me_Twice_init (Z : CT K mg) : Meth K (He.ga K "Twice") "__init__" (He.ma K (He.ga K "Twice") "__init__") := He.meth_ok (Z.d.fact 63)
theorem me_Twice_told (Z : CT K mg) : Meth K (He.ga K "Twice") "told" (He.ma K (He.ga K "Twice") "told") := He.meth_ok (Z.d.fact 64)
theorem no_Twice_name (Z : CT K mg) : PySem.W.findIn K (.ref (He.ga K "Twice")) "name" = some none := He.noat_ok (Z.d.fact 65)
theorem me_NoStep_init (Z : CT K mg) : Meth K (He.ga K "NoStep") "__init__" (He.ma K (He.ga K "NoStep") "__init__") := He.meth_ok (Z.d.fact 66)
theorem me_NoStep_told (Z : CT K mg) : Meth K (He.ga K "NoStep") "told" (He.ma K (He.ga K "NoStep") "told") := He.meth_ok (Z.d.fact 67)
theorem no_NoStep_place (Z : CT K mg) : PySem.W.findIn K (.ref (He.ga K "NoStep")) "place" = some none := He.noat_ok (Z.d.fact 68)
theorem me_NoWild_told (Z : CT K mg) : Meth K (He.ga K "NoWild") "told" (He.ma K (He.ga K "NoWild") "told") := He.meth_ok (Z.d.fact 69)
theorem xc0_NoWild (Z : CT K mg) : PySem.W.excIn K (He.ga K "NoWild") He.veBase "ValueError.__new__" = true := (He.exc_ok (Z.d.fact 70)).1
theorem me_NoMethod_told (Z : CT K mg) : Meth K (He.ga K "NoMethod") "told" (He.ma K (He.ga K "NoMethod") "told") := He.meth_ok (Z.d.fact 71)
theorem xc0_NoMethod (Z : CT K mg) : PySem.W.excIn K (He.ga K "NoMethod") He.veBase "ValueError.__new__" = true := (He.exc_ok (Z.d.fact 72)).1
theorem me_NoWeights_init (Z : CT K mg) : Meth K (He.ga K "NoWeights") "__init__" (He.ma K (He.ga K "NoWeights") "__init__") := He.meth_ok (Z.d.fact 73)
theorem me_NoWeights_told (Z : CT K mg) : Meth K (He.ga K "NoWeights") "told" (He.ma K (He.ga K "NoWeights") "told") := He.meth_ok (Z.d.fact 74)
theorem no_NoWeights_word (Z : CT K mg) : PySem.W.findIn K (.ref (He.ga K "NoWeights")) "word" = some none := He.noat_ok (Z.d.fact 75)
theorem me_NoReadings_init (Z : CT K mg) : Meth K (He.ga K "NoReadings") "__init__" (He.ma K (He.ga K "NoReadings") "__init__") := He.meth_ok (Z.d.fact 76)
theorem me_NoReadings_told (Z : CT K mg) : Meth K (He.ga K "NoReadings") "told" (He.ma K (He.ga K "NoReadings") "told") := He.meth_ok (Z.d.fact 77)
theorem no_NoReadings_name (Z : CT K mg) : PySem.W.findIn K (.ref (He.ga K "NoReadings")) "name" = some none := He.noat_ok (Z.d.fact 78)
theorem me_Clash_told (Z : CT K mg) : Meth K (He.ga K "Clash") "told" (He.ma K (He.ga K "Clash") "told") := He.meth_ok (Z.d.fact 79)
theorem xc0_Clash (Z : CT K mg) : PySem.W.excIn K (He.ga K "Clash") He.veBase "ValueError.__new__" = true := (He.exc_ok (Z.d.fact 80)).1
theorem me_Unbounded_told (Z : CT K mg) : Meth K (He.ga K "Unbounded") "told" (He.ma K (He.ga K "Unbounded") "told") := He.meth_ok (Z.d.fact 81)
theorem xc0_Unbounded (Z : CT K mg) : PySem.W.excIn K (He.ga K "Unbounded") He.veBase "ValueError.__new__" = true := (He.exc_ok (Z.d.fact 82)).1
theorem me_NoOffer_init (Z : CT K mg) : Meth K (He.ga K "NoOffer") "__init__" (He.ma K (He.ga K "NoOffer") "__init__") := He.meth_ok (Z.d.fact 83)
theorem me_NoOffer_told (Z : CT K mg) : Meth K (He.ga K "NoOffer") "told" (He.ma K (He.ga K "NoOffer") "told") := He.meth_ok (Z.d.fact 84)
theorem no_NoOffer_place (Z : CT K mg) : PySem.W.findIn K (.ref (He.ga K "NoOffer")) "place" = some none := He.noat_ok (Z.d.fact 85)
theorem no_NoOffer_word (Z : CT K mg) : PySem.W.findIn K (.ref (He.ga K "NoOffer")) "word" = some none := He.noat_ok (Z.d.fact 86)
theorem me_NoGoal_init (Z : CT K mg) : Meth K (He.ga K "NoGoal") "__init__" (He.ma K (He.ga K "NoGoal") "__init__") := He.meth_ok (Z.d.fact 87)
theorem me_NoGoal_told (Z : CT K mg) : Meth K (He.ga K "NoGoal") "told" (He.ma K (He.ga K "NoGoal") "told") := He.meth_ok (Z.d.fact 88)
theorem no_NoGoal_word (Z : CT K mg) : PySem.W.findIn K (.ref (He.ga K "NoGoal")) "word" = some none := He.noat_ok (Z.d.fact 89)
theorem me_NoGoals_init (Z : CT K mg) : Meth K (He.ga K "NoGoals") "__init__" (He.ma K (He.ga K "NoGoals") "__init__") := He.meth_ok (Z.d.fact 90)
theorem me_NoGoals_told (Z : CT K mg) : Meth K (He.ga K "NoGoals") "told" (He.ma K (He.ga K "NoGoals") "told") := He.meth_ok (Z.d.fact 91)
theorem no_NoGoals_place (Z : CT K mg) : PySem.W.findIn K (.ref (He.ga K "NoGoals")) "place" = some none := He.noat_ok (Z.d.fact 92)
theorem me_NoFactor_init (Z : CT K mg) : Meth K (He.ga K "NoFactor") "__init__" (He.ma K (He.ga K "NoFactor") "__init__") := He.meth_ok (Z.d.fact 93)
theorem me_NoFactor_told (Z : CT K mg) : Meth K (He.ga K "NoFactor") "told" (He.ma K (He.ga K "NoFactor") "told") := He.meth_ok (Z.d.fact 94)
theorem no_NoFactor_effect (Z : CT K mg) : PySem.W.findIn K (.ref (He.ga K "NoFactor")) "effect" = some none := He.noat_ok (Z.d.fact 95)
theorem me_NoTable_init (Z : CT K mg) : Meth K (He.ga K "NoTable") "__init__" (He.ma K (He.ga K "NoTable") "__init__") := He.meth_ok (Z.d.fact 96)
theorem me_NoTable_told (Z : CT K mg) : Meth K (He.ga K "NoTable") "told" (He.ma K (He.ga K "NoTable") "told") := He.meth_ok (Z.d.fact 97)
theorem no_NoTable_effect (Z : CT K mg) : PySem.W.findIn K (.ref (He.ga K "NoTable")) "effect" = some none := He.noat_ok (Z.d.fact 98)
theorem me_NoOrder_told (Z : CT K mg) : Meth K (He.ga K "NoOrder") "told" (He.ma K (He.ga K "NoOrder") "told") := He.meth_ok (Z.d.fact 99)
theorem xc0_NoOrder (Z : CT K mg) : PySem.W.excIn K (He.ga K "NoOrder") He.veBase "ValueError.__new__" = true := (He.exc_ok (Z.d.fact 100)).1
theorem me_BadText_init (Z : CT K mg) : Meth K (He.ga K "BadText") "__init__" (He.ma K (He.ga K "BadText") "__init__") := He.meth_ok (Z.d.fact 101)
theorem me_BadText_told (Z : CT K mg) : Meth K (He.ga K "BadText") "told" (He.ma K (He.ga K "BadText") "told") := He.meth_ok (Z.d.fact 102)
theorem no_BadText_place (Z : CT K mg) : PySem.W.findIn K (.ref (He.ga K "BadText")) "place" = some none := He.noat_ok (Z.d.fact 103)
theorem me_BadLine_init (Z : CT K mg) : Meth K (He.ga K "BadLine") "__init__" (He.ma K (He.ga K "BadLine") "__init__") := He.meth_ok (Z.d.fact 104)
theorem me_BadLine_told (Z : CT K mg) : Meth K (He.ga K "BadLine") "told" (He.ma K (He.ga K "BadLine") "told") := He.meth_ok (Z.d.fact 105)
theorem no_BadLine_line (Z : CT K mg) : PySem.W.findIn K (.ref (He.ga K "BadLine")) "line" = some none := He.noat_ok (Z.d.fact 106)
theorem no_BadLine_word (Z : CT K mg) : PySem.W.findIn K (.ref (He.ga K "BadLine")) "word" = some none := He.noat_ok (Z.d.fact 107)
theorem me_NoCommand_init (Z : CT K mg) : Meth K (He.ga K "NoCommand") "__init__" (He.ma K (He.ga K "NoCommand") "__init__") := He.meth_ok (Z.d.fact 108)
theorem me_NoCommand_told (Z : CT K mg) : Meth K (He.ga K "NoCommand") "told" (He.ma K (He.ga K "NoCommand") "told") := He.meth_ok (Z.d.fact 109)
theorem no_NoCommand_place (Z : CT K mg) : PySem.W.findIn K (.ref (He.ga K "NoCommand")) "place" = some none := He.noat_ok (Z.d.fact 110)
theorem me_NoUndo_told (Z : CT K mg) : Meth K (He.ga K "NoUndo") "told" (He.ma K (He.ga K "NoUndo") "told") := He.meth_ok (Z.d.fact 111)
theorem xc0_NoUndo (Z : CT K mg) : PySem.W.excIn K (He.ga K "NoUndo") He.veBase "ValueError.__new__" = true := (He.exc_ok (Z.d.fact 112)).1
theorem me_NoRedo_told (Z : CT K mg) : Meth K (He.ga K "NoRedo") "told" (He.ma K (He.ga K "NoRedo") "told") := He.meth_ok (Z.d.fact 113)
theorem xc0_NoRedo (Z : CT K mg) : PySem.W.excIn K (He.ga K "NoRedo") He.veBase "ValueError.__new__" = true := (He.exc_ok (Z.d.fact 114)).1
theorem m_ValueError (Z : CT K mg) : mg "ValueError" = none := Z.free 115
theorem m_abs (Z : CT K mg) : mg "abs" = none := Z.free 116
theorem m_int (Z : CT K mg) : mg "int" = none := Z.free 117
theorem m_isinstance (Z : CT K mg) : mg "isinstance" = none := Z.free 118
theorem m_len (Z : CT K mg) : mg "len" = none := Z.free 119
theorem m_range (Z : CT K mg) : mg "range" = none := Z.free 120
theorem m_str (Z : CT K mg) : mg "str" = none := Z.free 121
end
theorem sc_MethodError_told : FnScope ["self"] ["self"] (defScope s_MethodError_told) := ⟨rfl, rfl, rfl, by decide +kernel, rfl, by decide +kernel, by decide +kernel⟩
theorem sc_NoRatio_init : FnScope ["self", "word"] ["self", "word"] (defScope s_NoRatio_init) := ⟨rfl, rfl, rfl, by decide +kernel, rfl, by decide +kernel, by decide +kernel⟩
theorem sc_NoRatio_told : FnScope ["self"] ["self"] (defScope s_NoRatio_told) := ⟨rfl, rfl, rfl, by decide +kernel, rfl, by decide +kernel, by decide +kernel⟩
theorem sc_NoQuestion_init : FnScope ["self", "word"] ["self", "word"] (defScope s_NoQuestion_init) := ⟨rfl, rfl, rfl, by decide +kernel, rfl, by decide +kernel, by decide +kernel⟩
theorem sc_NoQuestion_told : FnScope ["self"] ["self"] (defScope s_NoQuestion_told) := ⟨rfl, rfl, rfl, by decide +kernel, rfl, by decide +kernel, by decide +kernel⟩
theorem sc_OtherEffects_told : FnScope ["self"] ["self"] (defScope s_OtherEffects_told) := ⟨rfl, rfl, rfl, by decide +kernel, rfl, by decide +kernel, by decide +kernel⟩
theorem sc_NoWorld_told : FnScope ["self"] ["self"] (defScope s_NoWorld_told) := ⟨rfl, rfl, rfl, by decide +kernel, rfl, by decide +kernel, by decide +kernel⟩
theorem sc_NoSuch_init : FnScope ["self", "name"] ["self", "name"] (defScope s_NoSuch_init) := ⟨rfl, rfl, rfl, by decide +kernel, rfl, by decide +kernel, by decide +kernel⟩
theorem sc_NoSuch_told : FnScope ["self"] ["self"] (defScope s_NoSuch_told) := ⟨rfl, rfl, rfl, by decide +kernel, rfl, by decide +kernel, by decide +kernel⟩
theorem sc_NoRun_init : FnScope ["self", "word"] ["self", "word"] (defScope s_NoRun_init) := ⟨rfl, rfl, rfl, by decide +kernel, rfl, by decide +kernel, by decide +kernel⟩
theorem sc_NoRun_told : FnScope ["self"] ["self"] (defScope s_NoRun_told) := ⟨rfl, rfl, rfl, by decide +kernel, rfl, by decide +kernel, by decide +kernel⟩
theorem sc_NoName_init : FnScope ["self", "name"] ["self", "name"] (defScope s_NoName_init) := ⟨rfl, rfl, rfl, by decide +kernel, rfl, by decide +kernel, by decide +kernel⟩
theorem sc_NoName_told : FnScope ["self"] ["self"] (defScope s_NoName_told) := ⟨rfl, rfl, rfl, by decide +kernel, rfl, by decide +kernel, by decide +kernel⟩
theorem sc_Full_init : FnScope ["self", "number"] ["self", "number"] (defScope s_Full_init) := ⟨rfl, rfl, rfl, by decide +kernel, rfl, by decide +kernel, by decide +kernel⟩
theorem sc_Full_told : FnScope ["self"] ["self"] (defScope s_Full_told) := ⟨rfl, rfl, rfl, by decide +kernel, rfl, by decide +kernel, by decide +kernel⟩
theorem sc_Twice_init : FnScope ["self", "name"] ["self", "name"] (defScope s_Twice_init) := ⟨rfl, rfl, rfl, by decide +kernel, rfl, by decide +kernel, by decide +kernel⟩
theorem sc_Twice_told : FnScope ["self"] ["self"] (defScope s_Twice_told) := ⟨rfl, rfl, rfl, by decide +kernel, rfl, by decide +kernel, by decide +kernel⟩
theorem sc_NoStep_init : FnScope ["self", "place"] ["self", "place"] (defScope s_NoStep_init) := ⟨rfl, rfl, rfl, by decide +kernel, rfl, by decide +kernel, by decide +kernel⟩
theorem sc_NoStep_told : FnScope ["self"] ["self"] (defScope s_NoStep_told) := ⟨rfl, rfl, rfl, by decide +kernel, rfl, by decide +kernel, by decide +kernel⟩
theorem sc_NoWild_told : FnScope ["self"] ["self"] (defScope s_NoWild_told) := ⟨rfl, rfl, rfl, by decide +kernel, rfl, by decide +kernel, by decide +kernel⟩
theorem sc_NoMethod_told : FnScope ["self"] ["self"] (defScope s_NoMethod_told) := ⟨rfl, rfl, rfl, by decide +kernel, rfl, by decide +kernel, by decide +kernel⟩
theorem sc_NoWeights_init : FnScope ["self", "word"] ["self", "word"] (defScope s_NoWeights_init) := ⟨rfl, rfl, rfl, by decide +kernel, rfl, by decide +kernel, by decide +kernel⟩
theorem sc_NoWeights_told : FnScope ["self"] ["self"] (defScope s_NoWeights_told) := ⟨rfl, rfl, rfl, by decide +kernel, rfl, by decide +kernel, by decide +kernel⟩
theorem sc_NoReadings_init : FnScope ["self", "name"] ["self", "name"] (defScope s_NoReadings_init) := ⟨rfl, rfl, rfl, by decide +kernel, rfl, by decide +kernel, by decide +kernel⟩
theorem sc_NoReadings_told : FnScope ["self"] ["self"] (defScope s_NoReadings_told) := ⟨rfl, rfl, rfl, by decide +kernel, rfl, by decide +kernel, by decide +kernel⟩
theorem sc_Clash_told : FnScope ["self"] ["self"] (defScope s_Clash_told) := ⟨rfl, rfl, rfl, by decide +kernel, rfl, by decide +kernel, by decide +kernel⟩
theorem sc_Unbounded_told : FnScope ["self"] ["self"] (defScope s_Unbounded_told) := ⟨rfl, rfl, rfl, by decide +kernel, rfl, by decide +kernel, by decide +kernel⟩
theorem sc_NoOffer_init : FnScope ["self", "place", "word"] ["self", "place", "word"] (defScope s_NoOffer_init) := ⟨rfl, rfl, rfl, by decide +kernel, rfl, by decide +kernel, by decide +kernel⟩
theorem sc_NoOffer_told : FnScope ["self"] ["self"] (defScope s_NoOffer_told) := ⟨rfl, rfl, rfl, by decide +kernel, rfl, by decide +kernel, by decide +kernel⟩
theorem sc_NoGoal_init : FnScope ["self", "word"] ["self", "word"] (defScope s_NoGoal_init) := ⟨rfl, rfl, rfl, by decide +kernel, rfl, by decide +kernel, by decide +kernel⟩
theorem sc_NoGoal_told : FnScope ["self"] ["self"] (defScope s_NoGoal_told) := ⟨rfl, rfl, rfl, by decide +kernel, rfl, by decide +kernel, by decide +kernel⟩
theorem sc_NoGoals_init : FnScope ["self", "place"] ["self", "place"] (defScope s_NoGoals_init) := ⟨rfl, rfl, rfl, by decide +kernel, rfl, by decide +kernel, by decide +kernel⟩
theorem sc_NoGoals_told : FnScope ["self"] ["self"] (defScope s_NoGoals_told) := ⟨rfl, rfl, rfl, by decide +kernel, rfl, by decide +kernel, by decide +kernel⟩
theorem sc_NoFactor_init : FnScope ["self", "effect"] ["self", "effect"] (defScope s_NoFactor_init) := ⟨rfl, rfl, rfl, by decide +kernel, rfl, by decide +kernel, by decide +kernel⟩
theorem sc_NoFactor_told : FnScope ["self"] ["self"] (defScope s_NoFactor_told) := ⟨rfl, rfl, rfl, by decide +kernel, rfl, by decide +kernel, by decide +kernel⟩
theorem sc_NoTable_init : FnScope ["self", "effect"] ["self", "effect"] (defScope s_NoTable_init) := ⟨rfl, rfl, rfl, by decide +kernel, rfl, by decide +kernel, by decide +kernel⟩
theorem sc_NoTable_told : FnScope ["self"] ["self"] (defScope s_NoTable_told) := ⟨rfl, rfl, rfl, by decide +kernel, rfl, by decide +kernel, by decide +kernel⟩
theorem sc_NoOrder_told : FnScope ["self"] ["self"] (defScope s_NoOrder_told) := ⟨rfl, rfl, rfl, by decide +kernel, rfl, by decide +kernel, by decide +kernel⟩
theorem sc_BadText_init : FnScope ["self", "place"] ["self", "place"] (defScope s_BadText_init) := ⟨rfl, rfl, rfl, by decide +kernel, rfl, by decide +kernel, by decide +kernel⟩
theorem sc_BadText_told : FnScope ["self"] ["self"] (defScope s_BadText_told) := ⟨rfl, rfl, rfl, by decide +kernel, rfl, by decide +kernel, by decide +kernel⟩
theorem sc_BadLine_init : FnScope ["self", "line", "word"] ["self", "line", "word"] (defScope s_BadLine_init) := ⟨rfl, rfl, rfl, by decide +kernel, rfl, by decide +kernel, by decide +kernel⟩
theorem sc_BadLine_told : FnScope ["self"] ["self"] (defScope s_BadLine_told) := ⟨rfl, rfl, rfl, by decide +kernel, rfl, by decide +kernel, by decide +kernel⟩
theorem sc_NoCommand_init : FnScope ["self", "place"] ["self", "place"] (defScope s_NoCommand_init) := ⟨rfl, rfl, rfl, by decide +kernel, rfl, by decide +kernel, by decide +kernel⟩
theorem sc_NoCommand_told : FnScope ["self"] ["self"] (defScope s_NoCommand_told) := ⟨rfl, rfl, rfl, by decide +kernel, rfl, by decide +kernel, by decide +kernel⟩
theorem sc_NoUndo_told : FnScope ["self"] ["self"] (defScope s_NoUndo_told) := ⟨rfl, rfl, rfl, by decide +kernel, rfl, by decide +kernel, by decide +kernel⟩
theorem sc_NoRedo_told : FnScope ["self"] ["self"] (defScope s_NoRedo_told) := ⟨rfl, rfl, rfl, by decide +kernel, rfl, by decide +kernel, by decide +kernel⟩
theorem sc_cell : FnScope ["_law_script", "_law_k"] ["_law_script", "_law_k"] (defScope s_cell) := ⟨rfl, rfl, rfl, by decide +kernel, rfl, by decide +kernel, by decide +kernel⟩
theorem sc_pouch : FnScope ["_law_script", "_law_k", "_law_number"] ["_law_script", "_law_k"] (defScope s_pouch) := ⟨rfl, rfl, rfl, by decide +kernel, rfl, by decide +kernel, by decide +kernel⟩
theorem sc_draw : FnScope ["_law_pouch_here", "_law_many", "_law_number", "_law_k", "_law_mixed"] ["_law_pouch_here", "_law_many"] (defScope s_draw) := ⟨rfl, rfl, rfl, by decide +kernel, rfl, by decide +kernel, by decide +kernel⟩
theorem sc_is : FnScope ["_law_e", "_law_kind"] ["_law_e", "_law_kind"] (defScope s_is) := ⟨rfl, rfl, rfl, by decide +kernel, rfl, by decide +kernel, by decide +kernel⟩
theorem sc_first : FnScope ["_law_x", "_law_made", "_law_kept"] ["_law_x"] (defScope s_first) := ⟨rfl, rfl, rfl, by decide +kernel, rfl, by decide +kernel, by decide +kernel⟩
theorem sc_second : FnScope ["_law_x", "_law_made", "_law_kept"] ["_law_x"] (defScope s_second) := ⟨rfl, rfl, rfl, by decide +kernel, rfl, by decide +kernel, by decide +kernel⟩
theorem sc_third : FnScope ["_law_x", "_law_made", "_law_kept"] ["_law_x"] (defScope s_third) := ⟨rfl, rfl, rfl, by decide +kernel, rfl, by decide +kernel, by decide +kernel⟩
theorem sc_fourth : FnScope ["_law_x", "_law_made"] ["_law_x"] (defScope s_fourth) := ⟨rfl, rfl, rfl, by decide +kernel, rfl, by decide +kernel, by decide +kernel⟩
theorem sc_right : FnScope ["_law_group", "_law_kind", "_law_x", "_law_pair", "_law_other", "_law_field"] ["_law_group", "_law_kind", "_law_x"] (defScope s_right) := ⟨rfl, rfl, rfl, by decide +kernel, rfl, by decide +kernel, by decide +kernel⟩
theorem sc_parted : FnScope ["_law_x", "_law_y", "_law_one", "_law_two"] ["_law_x", "_law_y"] (defScope s_parted) := ⟨rfl, rfl, rfl, by decide +kernel, rfl, by decide +kernel, by decide +kernel⟩
theorem sc_law : FnScope ["_law_script", "_law_pouch_here", "_law_x", "_law_base"] ["_law_script"] (defScope s_law) := ⟨rfl, rfl, rfl, by decide +kernel, rfl, by decide +kernel, by decide +kernel⟩
end My

namespace My
open PySem PySem.Spec PyProof.Rows L2
theorem run (w : World) : HandSHeadRun.RunEq R (PySem.W.view R.prog [40]) hk ob 9000 loose w := by
  intro os
  kernel_rfl
end My

-- the steps of a reading: sm, sq, ss, xs (a fact carried along the heaps), go (what goes without saying)
local macro_rules | `(tactic| walk_at "my sm") => `(tactic| first | assumption | (apply My.sm_step; (· assumption); walk_at "my sm"))
local macro_rules | `(tactic| walk_at "my sq") => `(tactic| first | assumption | (apply L2.SqL.of; walk_at "my sm") | (apply L2.SqT.of; walk_at "my sm") | (apply My.sq_step; (· assumption); walk_at "my sq"))
local macro_rules | `(tactic| walk_at "my ss") => `(tactic| first | assumption | exact L2.Same.refl _ | (apply My.ss_step; (· assumption); walk_at "my ss"))
local macro_rules | `(tactic| walk_at "my xs") => `(tactic| first | assumption | (apply My.xs_step; (· assumption); walk_at "my xs"))
local macro_rules | `(tactic| walk_at "my st") => `(tactic| first | ((with_reducible show @Eq (Option L2.HO) _ _); walk_at "my sm") | ((with_reducible show My.XAt _ _ _ _); walk_at "my xs") | ((with_reducible show L2.SqL _ _ _ _); walk_at "my sq") | ((with_reducible show L2.SqT _ _ _ _); walk_at "my sq") | with_reducible exact My.lk1 | walk_at "my more" | exact rfl | (refine L2.iteT ?_) | (refine L2.iteF ?_) | apply Exists.intro | apply And.intro | (intro h; skip))
local macro_rules | `(tactic| walk_at "my go") => `(tactic| repeat walk_at "my st")
namespace My
open PySem PySem.Spec PyProof.Rows L2 PySem.Calls

section
variable {P : Program} {w : World} {K : PySem.W.Frag} {mg : Str → Option Value} {base : Heap} {fd : FuncData} {f : Addr}
theorem at_ints {ns : List Int} {k : Int} (h0 : 0 ≤ k) (h1 : k < (ns.length : Int)) : ∃ v, atI (ns.map V.int) k = some (.int v) := by
  obtain ⟨n, rfl⟩ : ∃ n : Nat, k = (n : Int) := ⟨k.toNat, by omega⟩
  have h2 : n < ns.length := by omega
  exact ⟨ns[n], by rw [atI_nat (v := .int ns[n]) (by rw [List.getElem?_map, List.getElem?_eq_getElem h2]; rfl)]⟩
/-- a cell of the script -/
def spCellX (K : PySem.W.Frag) : Sp := fun vs H Q _ => ∃ (a : Addr) (ns : List Int) (k : Int), vs = [.ref a, .int k] ∧ SqL K H a (ns.map V.int) ∧ 0 ≤ k ∧ k < 1000 ∧ ∀ v : Int, Q (.int v) H
theorem ok_cell (Z : CT K mg) (F : FunD K d_cell.name d_cell.qual d_cell.params d_cell.body d_cell.scope [] [] f fd) : FnOk P w K mg base CX0 1 f fd ["_law_script", "_law_k"] (spCellX K) := by
  refine F.ok sc_cell (fun vs H Q E h => ?_) (fun cdv A outer s H vs Q E hr h => ?_)
  · obtain ⟨a, ns, k, rfl, _⟩ := h
    rfl
  · obtain ⟨a, ns, k, rfl, hS, h0, h1, q⟩ := h
    refine ⟨_, (pss_cons (ps_if (pt_cmpR op_lt (pv 1) (pe_callB call_lenL (by rfl) (m_len Z) PySem.boot_len (pa_cons (pv 0) pa_nil)) (nomark _)) (pss_one (ps_ret (pe_callTy call_intI (by rfl) (m_int Z) boot_int (pa_cons (pe_ix ix_list (pv 0) (pv 1) (fun _ _ => rfl)) pa_nil)))) pss_nil)
      (pss_cons (ps_if (pt_cmpR op_eq (pe_callB call_lenL (by rfl) (m_len Z) PySem.boot_len (pa_cons (pv 0) pa_nil)) (pe_int) (nomark _)) (pss_one (ps_ret (pe_mul (pe_int) (pv 1)))) pss_nil)
      (pss_one (ps_ret (pe_op op_add (pe_op op_mod (pe_callTy call_intI (by rfl) (m_int Z) boot_int (pa_cons (pe_ix ix_list (pv 0) (pe_op op_mod (pv 1) (pe_callB call_lenL (by rfl) (m_len Z) PySem.boot_len (pa_cons (pv 0) pa_nil))) (fun _ _ => rfl)) pa_nil)) (pe_op op_pow (pe_int) (pe_int))) (pe_mul (pe_int) (pe_op op_add (pv 1) (pe_int)))))))), ?_⟩
    walk_at "my go"
    refine ite2 (fun h => ?_) (fun h => ?_)
    · have h := of_decide_eq_true h
      rw [List.length_map] at h
      obtain ⟨v, hv⟩ := at_ints h0 h
      refine ⟨_, rfl, _, rfl, _, _, _, _, rfl, rfl, hS, hv, _, rfl, q v⟩
    · refine ⟨_, rfl, _, _, rfl, hS, rfl, _, rfl, ?_⟩
      refine ite2 (fun h2 => ?_) (fun h2 => ?_)
      · refine ⟨_, rfl, _, _, rfl, rfl, ⟨by decide, by decide⟩, q _⟩
      · have hp : (0 : Int) < ((ns.map V.int).length : Int) := by
          have h3 : ¬ (V.int ((ns.map V.int).length : Int) = V.int 0) := fun z => h2 (decide_eq_true z)
          have h4 : ((ns.map V.int).length : Int) ≠ 0 := fun z => h3 (by rw [z])
          omega
        have hm : 0 ≤ k % ((ns.map V.int).length : Int) ∧ k % ((ns.map V.int).length : Int) < (ns.length : Int) := by
          have e : ((ns.map V.int).length : Int) = (ns.length : Int) := by rw [List.length_map]
          rw [e] at hp ⊢
          exact ⟨Int.emod_nonneg _ (by omega), Int.emod_lt_of_pos _ hp⟩
        obtain ⟨v, hv⟩ := at_ints hm.1 hm.2
        refine ⟨_, rfl, _, rfl, _, rfl, _, _, rfl, hS, _, _, rfl, rfl, hp, _, _, _, _, rfl, rfl, hS, hv, _, rfl, ?_⟩
        refine ⟨_, _, rfl, rfl, ⟨by decide, by decide, by decide⟩, _, _, rfl, rfl, (show (0 : Int) < 10 ^ (15 : Int).toNat by decide), ?_⟩
        refine ⟨_, rfl, _, _, rfl, rfl, _, _, rfl, rfl, ⟨by decide, by decide⟩, _, _, rfl, rfl, q _⟩
theorem good_cell (Z : CT K mg) : GoodF CX0 P w K mg base 1 "_law_cell" ["_law_script", "_law_k"] (spCellX K) := Z.good 46 28 d_cell (fun _ _ _ _ _ _ us hl => match us, hl with | [_, _], _ => rfl) fun _ F => ok_cell Z F
/-- a pouch: a new list of two numbers -/
def spPouch (K : PySem.W.Frag) : Sp := fun vs H Q _ => ∃ (a : Addr) (ns : List Int) (k : Int), vs = [.ref a, .int k] ∧ SqL K H a (ns.map V.int) ∧ 0 ≤ k ∧ k < 1000 ∧ ∀ (p : Addr) (x y : Int) (H' : Hp), 0 ≤ x → 0 ≤ y → y ≤ 2001 → H p = none → Same H H' → H' p = some (.lst [.int x, .int y]) → Q (.ref p) H'
theorem ok_pouch (Z : CT K mg) (F : FunD K d_pouch.name d_pouch.qual d_pouch.params d_pouch.body d_pouch.scope [] [] f fd) : FnOk P w K mg base CX0 2 f fd ["_law_script", "_law_k"] (spPouch K) := by
  refine F.ok sc_pouch (fun vs H Q E h => ?_) (fun cdv A outer s H vs Q E hr h => ?_)
  · obtain ⟨a, ns, k, rfl, _⟩ := h
    rfl
  · obtain ⟨a, ns, k, rfl, hS, h0, h1, q⟩ := h
    refine ⟨_, (pss_cons (ps_set (i := 2) sc_pouch.nd rfl (Or.inl rfl) (gcall (good_cell Z) hr (pa_cons (pv 0) (pa_cons (pv 1) pa_nil)) pass0))
      (pss_one (ps_ret (pe_lstN (pa_cons (pe_callB call_abs (by rfl) (m_abs Z) boot_abs (pa_cons (pv 2) pa_nil)) (pa_cons (pe_op op_add (pe_mul (pe_int) (pv 1)) (pe_callTy call_intB (by rfl) (m_int Z) boot_int (pa_cons (pe_cmpR op_lt (pv 2) (pe_int) (nomark _)) pa_nil))) pa_nil)))))), ?_⟩
    refine ⟨_, rfl, _, rfl, a, ns, k, rfl, hS, h0, h1, fun v => ?_⟩
    refine ⟨_, rfl, _, rfl, _, rfl, _, _, rfl, rfl, ⟨by decide, by decide⟩, _, rfl, _, _, rfl, rfl, _, rfl, _, _, rfl, rfl, rfl, fun p H' hs ho hn => ?_⟩
    refine q p _ _ H' ?_ ?_ ?_ hn hs ho
    · split <;> omega
    · split <;> omega
    · split <;> omega
theorem good_pouch (Z : CT K mg) : GoodF CX0 P w K mg base 2 "_law_pouch" ["_law_script", "_law_k"] (spPouch K) := Z.good 47 29 d_pouch (fun _ _ _ _ _ _ us hl => match us, hl with | [_, _], _ => rfl) fun _ F => ok_pouch Z F
/-- a draw: a number below m; the pouch goes on -/
def spDraw : Sp := fun vs H Q _ => ∃ (p : Addr) (x y m : Int), vs = [.ref p, .int m] ∧ H p = some (.lst [.int x, .int y]) ∧ 0 ≤ x ∧ 0 ≤ y ∧ y < 1000000 ∧ 0 < m ∧ m < 2 ^ 100 ∧
  ∀ (r x' y' : Int) (H' : Hp), 0 ≤ r → r < m → 0 ≤ x' → y ≤ y' → y' ≤ y + 128 → (∀ b, b ≠ p → H' b = H b) → H' p = some (.lst [.int x', .int y']) → Q (.int r) H'
theorem ok_draw (Z : CT K mg) (F : FunD K d_draw.name d_draw.qual d_draw.params d_draw.body d_draw.scope [] [] f fd) : FnOk P w K mg base CX0 1 f fd ["_law_pouch_here", "_law_many"] spDraw := by
  refine F.ok sc_draw (fun vs H Q E h => ?_) (fun cdv A outer s H vs Q E hr h => ?_)
  · obtain ⟨p, x, y, m, rfl, _⟩ := h
    rfl
  · obtain ⟨p, x, y, m, rfl, hp, hx, hy, hy2, hm, hm2, q⟩ := h
    have hS : SqL K H p [.int x, .int y] := SqL.of hp
    have hdv : CDivW x m := wide_div (b := 101) hm (by omega) (by decide) (by decide)
    refine ⟨_, (pss_cons (ps_set (i := 2) sc_draw.nd rfl (Or.inl rfl) (pe_ix ix_list (pv 0) pe_int (fun _ _ => rfl)))
      (pss_cons (ps_if (pt_cmpR op_ge (pv 2) (pe_op op_pow (pe_int) (pe_int)) (nomark _)) (pss_cons (ps_asg (pe_op op_fdivW (pv 2) (pv 1)) (pg_sub (pv 0) pe_int set_list))
      (pss_one (ps_ret (pe_op op_mod (pe_callTy call_intI (by rfl) (m_int Z) boot_int (pa_cons (pv 2) pa_nil)) (pv 1))))) pss_nil)
      (pss_cons (ps_asg (pe_op op_add (pe_ix ix_list (pv 0) pe_int (fun _ _ => rfl)) (pe_int)) (pg_sub (pv 0) pe_int set_list))
      (pss_cons (ps_set (i := 3) sc_draw.nd rfl (Or.inl rfl) (pe_ix ix_list (pv 0) pe_int (fun _ _ => rfl)))
      (pss_cons (ps_set (i := 4) sc_draw.nd rfl (Or.inl rfl) (pe_op op_mod (pe_mul (pe_op op_add (pe_op op_mod (pe_callTy call_intI (by rfl) (m_int Z) boot_int (pa_cons (pv 2) pa_nil)) (pe_int)) (pe_mul (pe_int) (pv 3))) (pe_op op_add (pe_int) (pe_mul (pe_int) (pv 3)))) (pe_int)))
      (pss_cons (ps_set (i := 4) sc_draw.nd rfl (Or.inl rfl) (pe_op op_mod (pe_mul (pv 4) (pe_op op_add (pe_op op_fdivW (pv 4) (pe_int)) (pe_int))) (pe_int)))
      (pss_cons (ps_set (i := 4) sc_draw.nd rfl (Or.inl rfl) (pe_op op_mod (pe_mul (pv 4) (pe_op op_add (pe_op op_fdivW (pv 4) (pe_int)) (pe_int))) (pe_int)))
      (pss_one (ps_ret (pe_op op_mod (pv 4) (pv 1))))))))))), ?_⟩
    refine ⟨_, rfl, _, _, _, _, rfl, rfl, hS, rfl, _, rfl, _, _, rfl, rfl, ⟨by decide, by decide, by decide⟩, _, _, rfl, rfl, _, rfl, ?_⟩
    refine ite2 (fun h => ?_) (fun h => ?_)
    · refine ⟨_, rfl, _, rfl, _, _, rfl, rfl, hdv, _, rfl, _, _, _, _, rfl, rfl, hp, rfl, ?_⟩
      refine ⟨_, rfl, _, rfl, _, rfl, _, _, rfl, rfl, hm, ?_⟩
      exact q _ _ _ _ (Int.emod_nonneg _ (by omega)) (Int.emod_lt_of_pos _ hm) (Int.ediv_nonneg hx (by omega)) (Int.le_refl _) (by omega) (fun b hb => upd_ne hb) upd_same
    · refine ⟨_, rfl, _, _, _, _, rfl, rfl, hS, rfl, _, _, rfl, rfl, _, rfl, _, _, _, _, rfl, rfl, hp, rfl, ?_⟩
      refine ⟨_, rfl, _, _, _, _, rfl, rfl, SqL.of upd_same, rfl, ?_⟩
      refine ⟨_, rfl, _, rfl, _, _, rfl, rfl, (show (0 : Int) < 2147483629 by decide), _, rfl, _, _, rfl, rfl, ⟨by decide, by decide⟩, _, _, rfl, rfl, _, rfl, _, _, rfl, rfl, ⟨by decide, by decide⟩, _, _, rfl, rfl, _, _, rfl, rfl, ⟨by omega, by omega⟩, _, _, rfl, rfl, (show (0 : Int) < 2147483647 by decide), ?_⟩
      generalize hz : (x % 2147483629 + 7919 * (y + 128)) * (48271 + 2 * (y + 128)) % 2147483647 = z1
      have b1 : 0 ≤ z1 ∧ z1 < 2147483647 := by rw [← hz]; exact ⟨Int.emod_nonneg _ (by decide), Int.emod_lt_of_pos _ (by decide)⟩
      refine ⟨_, rfl, _, rfl, _, _, rfl, rfl, wide_div (b := 11) (by decide) (by decide) (by decide) (by decide), _, _, rfl, rfl, _, _, rfl, rfl, ⟨by omega, by omega⟩, _, _, rfl, rfl, (show (0 : Int) < 2147483647 by decide), ?_⟩
      generalize hz2 : z1 * (z1 / 1009 + 69621) % 2147483647 = z2
      have b2 : 0 ≤ z2 ∧ z2 < 2147483647 := by rw [← hz2]; exact ⟨Int.emod_nonneg _ (by decide), Int.emod_lt_of_pos _ (by decide)⟩
      refine ⟨_, rfl, _, rfl, _, _, rfl, rfl, wide_div (b := 12) (by decide) (by decide) (by decide) (by decide), _, _, rfl, rfl, _, _, rfl, rfl, ⟨by omega, by omega⟩, _, _, rfl, rfl, (show (0 : Int) < 2147483399 by decide), ?_⟩
      refine ⟨_, rfl, _, rfl, _, _, rfl, rfl, hm, ?_⟩
      exact q _ x (y + 128) _ (Int.emod_nonneg _ (by omega)) (Int.emod_lt_of_pos _ hm) hx (by omega) (Int.le_refl _) (fun b hb => upd_ne hb) upd_same
theorem good_draw (Z : CT K mg) : GoodF CX0 P w K mg base 1 "_law_draw" ["_law_pouch_here", "_law_many"] spDraw := Z.good 48 30 d_draw (fun _ _ _ _ _ _ us hl => match us, hl with | [_, _], _ => rfl) fun _ F => ok_draw Z F
end
end My

namespace My
open PySem PySem.Spec PyProof.Rows L2 PySem.Calls
section
variable {K : PySem.W.Frag} {mg : Str → Option Value}
theorem ex_1 (Z : CT K mg) : ex1 K = true := (Bool.and_eq_true_iff.mp (Bool.and_eq_true_iff.mp Z.e).2).1
theorem ex_2 (Z : CT K mg) : ex2 K = true := (Bool.and_eq_true_iff.mp (Bool.and_eq_true_iff.mp (Bool.and_eq_true_iff.mp Z.e).2).2).1
theorem ex_3 (Z : CT K mg) : ex3 K = true := (Bool.and_eq_true_iff.mp (Bool.and_eq_true_iff.mp (Bool.and_eq_true_iff.mp (Bool.and_eq_true_iff.mp Z.e).2).2).2).1
theorem ex_4 (Z : CT K mg) : ex4 K = true := (Bool.and_eq_true_iff.mp Z.e).1
theorem ex_5 (Z : CT K mg) : PySem.W.kitOne K (rf K "MethodError") (rf K "NoRatio") = some false := of_decide_eq_true (Bool.and_eq_true_iff.mp (Bool.and_eq_true_iff.mp (Bool.and_eq_true_iff.mp (Bool.and_eq_true_iff.mp Z.e).2).2).2).2
theorem x_all (Z : CT K mg) {x : Str} (h : x ∈ xnames) : XCls K (He.ga K x) := xclsB_ok (Bool.and_eq_true_iff.mp (List.all_eq_true.mp (ex_1 Z) x h)).1
theorem x_me (Z : CT K mg) {x : Str} (h : x ∈ xnames) : PySem.W.kitOne K (rf K x) (rf K "MethodError") = some true := of_decide_eq_true (Bool.and_eq_true_iff.mp (Bool.and_eq_true_iff.mp (List.all_eq_true.mp (ex_1 Z) x h)).2).1
theorem x_ve (Z : CT K mg) {x : Str} (h : x ∈ xnames) : PySem.W.kitOne K (rf K x) (.type "ValueError") = some true := of_decide_eq_true (Bool.and_eq_true_iff.mp (Bool.and_eq_true_iff.mp (List.all_eq_true.mp (ex_1 Z) x h)).2).2
theorem x_grp (Z : CT K mg) {i j : Nat} {x : Str} (hi : i ∈ [0, 1, 2, 3]) (h : x ∈ grps.getD i []) (hj : j ∈ [0, 1, 2, 3]) : PySem.W.kitAny K (rf K x) ((grps.getD j []).map (rf K)) = some (i == j) :=
  of_decide_eq_true (List.all_eq_true.mp (List.all_eq_true.mp (List.all_eq_true.mp (ex_2 Z) i hi) x h) j hj)
theorem x_one (Z : CT K mg) {x y : Str} (h : x ∈ grps.flatten) (h2 : y ∈ grps.flatten) : PySem.W.kitOne K (rf K x) (rf K y) = some (x == y) := of_decide_eq_true (List.all_eq_true.mp (List.all_eq_true.mp (ex_3 Z) x h) y h2)
theorem x_no (Z : CT K mg) {x f : Str} (h : (x, f) ∈ noats) : PySem.W.findIn K (.ref (He.ga K x)) f = some none := of_decide_eq_true (List.all_eq_true.mp (ex_4 Z) (x, f) h)
end
section
variable {P : Program} {w : World} {K : PySem.W.Frag} {mg : Str → Option Value} {base : Heap}
theorem told_MethodError (Z : CT K mg) : XMeth P w K mg base (He.ga K "MethodError") "told" (He.ma K (He.ga K "MethodError") "told") "refused methoderror" := told_of (x_all Z (by decide +kernel)) (me_MethodError_told Z) (Z.d.def_ 0 (d := d_MethodError_told) rfl) sc_MethodError_told rfl (fun _ _ _ _ _ _ us hl => match us, hl with | [_], _ => rfl)
theorem told_NoRatio (Z : CT K mg) : XMeth P w K mg base (He.ga K "NoRatio") "told" (He.ma K (He.ga K "NoRatio") "told") "refused noratio" := told_of (x_all Z (by decide +kernel)) (me_NoRatio_told Z) (Z.d.def_ 2 (d := d_NoRatio_told) rfl) sc_NoRatio_told rfl (fun _ _ _ _ _ _ us hl => match us, hl with | [_], _ => rfl)
theorem told_NoQuestion (Z : CT K mg) : XMeth P w K mg base (He.ga K "NoQuestion") "told" (He.ma K (He.ga K "NoQuestion") "told") "refused noquestion" := told_of (x_all Z (by decide +kernel)) (me_NoQuestion_told Z) (Z.d.def_ 4 (d := d_NoQuestion_told) rfl) sc_NoQuestion_told rfl (fun _ _ _ _ _ _ us hl => match us, hl with | [_], _ => rfl)
theorem told_OtherEffects (Z : CT K mg) : XMeth P w K mg base (He.ga K "OtherEffects") "told" (He.ma K (He.ga K "OtherEffects") "told") "refused othereffects" := told_of (x_all Z (by decide +kernel)) (me_OtherEffects_told Z) (Z.d.def_ 5 (d := d_OtherEffects_told) rfl) sc_OtherEffects_told rfl (fun _ _ _ _ _ _ us hl => match us, hl with | [_], _ => rfl)
theorem told_NoWorld (Z : CT K mg) : XMeth P w K mg base (He.ga K "NoWorld") "told" (He.ma K (He.ga K "NoWorld") "told") "refused noworld" := told_of (x_all Z (by decide +kernel)) (me_NoWorld_told Z) (Z.d.def_ 6 (d := d_NoWorld_told) rfl) sc_NoWorld_told rfl (fun _ _ _ _ _ _ us hl => match us, hl with | [_], _ => rfl)
theorem told_NoSuch (Z : CT K mg) : XMeth P w K mg base (He.ga K "NoSuch") "told" (He.ma K (He.ga K "NoSuch") "told") "refused nosuch" := told_of (x_all Z (by decide +kernel)) (me_NoSuch_told Z) (Z.d.def_ 8 (d := d_NoSuch_told) rfl) sc_NoSuch_told rfl (fun _ _ _ _ _ _ us hl => match us, hl with | [_], _ => rfl)
theorem told_NoRun (Z : CT K mg) : XMeth P w K mg base (He.ga K "NoRun") "told" (He.ma K (He.ga K "NoRun") "told") "refused norun" := told_of (x_all Z (by decide +kernel)) (me_NoRun_told Z) (Z.d.def_ 10 (d := d_NoRun_told) rfl) sc_NoRun_told rfl (fun _ _ _ _ _ _ us hl => match us, hl with | [_], _ => rfl)
theorem told_NoName (Z : CT K mg) : XMeth P w K mg base (He.ga K "NoName") "told" (He.ma K (He.ga K "NoName") "told") "refused noname" := told_of (x_all Z (by decide +kernel)) (me_NoName_told Z) (Z.d.def_ 12 (d := d_NoName_told) rfl) sc_NoName_told rfl (fun _ _ _ _ _ _ us hl => match us, hl with | [_], _ => rfl)
theorem told_Full (Z : CT K mg) : XMeth P w K mg base (He.ga K "Full") "told" (He.ma K (He.ga K "Full") "told") "refused full" := told_of (x_all Z (by decide +kernel)) (me_Full_told Z) (Z.d.def_ 14 (d := d_Full_told) rfl) sc_Full_told rfl (fun _ _ _ _ _ _ us hl => match us, hl with | [_], _ => rfl)
theorem told_Twice (Z : CT K mg) : XMeth P w K mg base (He.ga K "Twice") "told" (He.ma K (He.ga K "Twice") "told") "refused twice" := told_of (x_all Z (by decide +kernel)) (me_Twice_told Z) (Z.d.def_ 16 (d := d_Twice_told) rfl) sc_Twice_told rfl (fun _ _ _ _ _ _ us hl => match us, hl with | [_], _ => rfl)
theorem told_NoStep (Z : CT K mg) : XMeth P w K mg base (He.ga K "NoStep") "told" (He.ma K (He.ga K "NoStep") "told") "refused nostep" := told_of (x_all Z (by decide +kernel)) (me_NoStep_told Z) (Z.d.def_ 18 (d := d_NoStep_told) rfl) sc_NoStep_told rfl (fun _ _ _ _ _ _ us hl => match us, hl with | [_], _ => rfl)
theorem told_NoWild (Z : CT K mg) : XMeth P w K mg base (He.ga K "NoWild") "told" (He.ma K (He.ga K "NoWild") "told") "refused nowild" := told_of (x_all Z (by decide +kernel)) (me_NoWild_told Z) (Z.d.def_ 19 (d := d_NoWild_told) rfl) sc_NoWild_told rfl (fun _ _ _ _ _ _ us hl => match us, hl with | [_], _ => rfl)
theorem told_NoMethod (Z : CT K mg) : XMeth P w K mg base (He.ga K "NoMethod") "told" (He.ma K (He.ga K "NoMethod") "told") "refused nomethod" := told_of (x_all Z (by decide +kernel)) (me_NoMethod_told Z) (Z.d.def_ 20 (d := d_NoMethod_told) rfl) sc_NoMethod_told rfl (fun _ _ _ _ _ _ us hl => match us, hl with | [_], _ => rfl)
theorem told_NoWeights (Z : CT K mg) : XMeth P w K mg base (He.ga K "NoWeights") "told" (He.ma K (He.ga K "NoWeights") "told") "refused noweights" := told_of (x_all Z (by decide +kernel)) (me_NoWeights_told Z) (Z.d.def_ 22 (d := d_NoWeights_told) rfl) sc_NoWeights_told rfl (fun _ _ _ _ _ _ us hl => match us, hl with | [_], _ => rfl)
theorem told_NoReadings (Z : CT K mg) : XMeth P w K mg base (He.ga K "NoReadings") "told" (He.ma K (He.ga K "NoReadings") "told") "refused noreadings" := told_of (x_all Z (by decide +kernel)) (me_NoReadings_told Z) (Z.d.def_ 24 (d := d_NoReadings_told) rfl) sc_NoReadings_told rfl (fun _ _ _ _ _ _ us hl => match us, hl with | [_], _ => rfl)
theorem told_Clash (Z : CT K mg) : XMeth P w K mg base (He.ga K "Clash") "told" (He.ma K (He.ga K "Clash") "told") "refused clash" := told_of (x_all Z (by decide +kernel)) (me_Clash_told Z) (Z.d.def_ 25 (d := d_Clash_told) rfl) sc_Clash_told rfl (fun _ _ _ _ _ _ us hl => match us, hl with | [_], _ => rfl)
theorem told_Unbounded (Z : CT K mg) : XMeth P w K mg base (He.ga K "Unbounded") "told" (He.ma K (He.ga K "Unbounded") "told") "refused unbounded" := told_of (x_all Z (by decide +kernel)) (me_Unbounded_told Z) (Z.d.def_ 26 (d := d_Unbounded_told) rfl) sc_Unbounded_told rfl (fun _ _ _ _ _ _ us hl => match us, hl with | [_], _ => rfl)
theorem told_NoOffer (Z : CT K mg) : XMeth P w K mg base (He.ga K "NoOffer") "told" (He.ma K (He.ga K "NoOffer") "told") "refused nooffer" := told_of (x_all Z (by decide +kernel)) (me_NoOffer_told Z) (Z.d.def_ 28 (d := d_NoOffer_told) rfl) sc_NoOffer_told rfl (fun _ _ _ _ _ _ us hl => match us, hl with | [_], _ => rfl)
theorem told_NoGoal (Z : CT K mg) : XMeth P w K mg base (He.ga K "NoGoal") "told" (He.ma K (He.ga K "NoGoal") "told") "refused nogoal" := told_of (x_all Z (by decide +kernel)) (me_NoGoal_told Z) (Z.d.def_ 30 (d := d_NoGoal_told) rfl) sc_NoGoal_told rfl (fun _ _ _ _ _ _ us hl => match us, hl with | [_], _ => rfl)
theorem told_NoGoals (Z : CT K mg) : XMeth P w K mg base (He.ga K "NoGoals") "told" (He.ma K (He.ga K "NoGoals") "told") "refused nogoals" := told_of (x_all Z (by decide +kernel)) (me_NoGoals_told Z) (Z.d.def_ 32 (d := d_NoGoals_told) rfl) sc_NoGoals_told rfl (fun _ _ _ _ _ _ us hl => match us, hl with | [_], _ => rfl)
theorem told_NoFactor (Z : CT K mg) : XMeth P w K mg base (He.ga K "NoFactor") "told" (He.ma K (He.ga K "NoFactor") "told") "refused nofactor" := told_of (x_all Z (by decide +kernel)) (me_NoFactor_told Z) (Z.d.def_ 34 (d := d_NoFactor_told) rfl) sc_NoFactor_told rfl (fun _ _ _ _ _ _ us hl => match us, hl with | [_], _ => rfl)
theorem told_NoTable (Z : CT K mg) : XMeth P w K mg base (He.ga K "NoTable") "told" (He.ma K (He.ga K "NoTable") "told") "refused notable" := told_of (x_all Z (by decide +kernel)) (me_NoTable_told Z) (Z.d.def_ 36 (d := d_NoTable_told) rfl) sc_NoTable_told rfl (fun _ _ _ _ _ _ us hl => match us, hl with | [_], _ => rfl)
theorem told_NoOrder (Z : CT K mg) : XMeth P w K mg base (He.ga K "NoOrder") "told" (He.ma K (He.ga K "NoOrder") "told") "refused noorder" := told_of (x_all Z (by decide +kernel)) (me_NoOrder_told Z) (Z.d.def_ 37 (d := d_NoOrder_told) rfl) sc_NoOrder_told rfl (fun _ _ _ _ _ _ us hl => match us, hl with | [_], _ => rfl)
theorem told_BadText (Z : CT K mg) : XMeth P w K mg base (He.ga K "BadText") "told" (He.ma K (He.ga K "BadText") "told") "refused badtext" := told_of (x_all Z (by decide +kernel)) (me_BadText_told Z) (Z.d.def_ 39 (d := d_BadText_told) rfl) sc_BadText_told rfl (fun _ _ _ _ _ _ us hl => match us, hl with | [_], _ => rfl)
theorem told_BadLine (Z : CT K mg) : XMeth P w K mg base (He.ga K "BadLine") "told" (He.ma K (He.ga K "BadLine") "told") "refused badline" := told_of (x_all Z (by decide +kernel)) (me_BadLine_told Z) (Z.d.def_ 41 (d := d_BadLine_told) rfl) sc_BadLine_told rfl (fun _ _ _ _ _ _ us hl => match us, hl with | [_], _ => rfl)
theorem told_NoCommand (Z : CT K mg) : XMeth P w K mg base (He.ga K "NoCommand") "told" (He.ma K (He.ga K "NoCommand") "told") "refused nocommand" := told_of (x_all Z (by decide +kernel)) (me_NoCommand_told Z) (Z.d.def_ 43 (d := d_NoCommand_told) rfl) sc_NoCommand_told rfl (fun _ _ _ _ _ _ us hl => match us, hl with | [_], _ => rfl)
theorem told_NoUndo (Z : CT K mg) : XMeth P w K mg base (He.ga K "NoUndo") "told" (He.ma K (He.ga K "NoUndo") "told") "refused noundo" := told_of (x_all Z (by decide +kernel)) (me_NoUndo_told Z) (Z.d.def_ 44 (d := d_NoUndo_told) rfl) sc_NoUndo_told rfl (fun _ _ _ _ _ _ us hl => match us, hl with | [_], _ => rfl)
theorem told_NoRedo (Z : CT K mg) : XMeth P w K mg base (He.ga K "NoRedo") "told" (He.ma K (He.ga K "NoRedo") "told") "refused noredo" := told_of (x_all Z (by decide +kernel)) (me_NoRedo_told Z) (Z.d.def_ 45 (d := d_NoRedo_told) rfl) sc_NoRedo_told rfl (fun _ _ _ _ _ _ us hl => match us, hl with | [_], _ => rfl)
end
section
variable {X : Cx} {e : Expr} {es : List Expr} {ta : TA} {p pos : Pos} {k : Nat}
theorem mk0_MethodError (Z : CT X.K X.mg) (hg : Gl X "MethodError" := by rfl) : PE X (.Call (.Name "MethodError" p) [] [] pos) (tX0 (He.ga X.K "MethodError")) := x0_of (pe_exc0 (xc0_MethodError Z) (x_all Z (x := "MethodError") (by decide +kernel)).ox.kC (glo_MethodError Z) hg)
theorem mkI_NoRatio (Z : CT X.K X.mg) (hr : Room k X.A) (ha : PA X (e :: es) ta) (hk : 2 ≤ k := by decide) (hg : Gl X "NoRatio" := by rfl) (he : starEach (e :: es) X.env = (false, eval e X.env) :: starEach es X.env := by rfl) (hpl : (backTo pos (starEach es X.env)).any (·.1) = false := by rfl) : PE X (.Call (.Name "NoRatio" p) (e :: es) [] pos) (tX1 (He.ga X.K "NoRatio") "word" ta) := x1_of (K := X.K) (mk_ini1 (x_all Z (by decide +kernel)) (x_no Z (by decide +kernel)) (glo_NoRatio Z) (me_NoRatio_init Z) (Z.d.def_ 1 (d := d_NoRatio_init) rfl) sc_NoRatio_init rfl (Or.inl rfl) (Or.inl rfl) (by decide) (by decide) (fun _ _ _ _ _ _ us hl => match us, hl with | [_, _], _ => rfl) (by decide) hr (wk_a ha) hk hg he hpl)
theorem mkI_NoQuestion (Z : CT X.K X.mg) (hr : Room k X.A) (ha : PA X (e :: es) ta) (hk : 2 ≤ k := by decide) (hg : Gl X "NoQuestion" := by rfl) (he : starEach (e :: es) X.env = (false, eval e X.env) :: starEach es X.env := by rfl) (hpl : (backTo pos (starEach es X.env)).any (·.1) = false := by rfl) : PE X (.Call (.Name "NoQuestion" p) (e :: es) [] pos) (tX1 (He.ga X.K "NoQuestion") "word" ta) := x1_of (K := X.K) (mk_ini1 (x_all Z (by decide +kernel)) (x_no Z (by decide +kernel)) (glo_NoQuestion Z) (me_NoQuestion_init Z) (Z.d.def_ 3 (d := d_NoQuestion_init) rfl) sc_NoQuestion_init rfl (Or.inl rfl) (Or.inl rfl) (by decide) (by decide) (fun _ _ _ _ _ _ us hl => match us, hl with | [_, _], _ => rfl) (by decide) hr (wk_a ha) hk hg he hpl)
theorem mk0_OtherEffects (Z : CT X.K X.mg) (hg : Gl X "OtherEffects" := by rfl) : PE X (.Call (.Name "OtherEffects" p) [] [] pos) (tX0 (He.ga X.K "OtherEffects")) := x0_of (pe_exc0 (xc0_OtherEffects Z) (x_all Z (x := "OtherEffects") (by decide +kernel)).ox.kC (glo_OtherEffects Z) hg)
theorem mk0_NoWorld (Z : CT X.K X.mg) (hg : Gl X "NoWorld" := by rfl) : PE X (.Call (.Name "NoWorld" p) [] [] pos) (tX0 (He.ga X.K "NoWorld")) := x0_of (pe_exc0 (xc0_NoWorld Z) (x_all Z (x := "NoWorld") (by decide +kernel)).ox.kC (glo_NoWorld Z) hg)
theorem mkI_NoSuch (Z : CT X.K X.mg) (hr : Room k X.A) (ha : PA X (e :: es) ta) (hk : 2 ≤ k := by decide) (hg : Gl X "NoSuch" := by rfl) (he : starEach (e :: es) X.env = (false, eval e X.env) :: starEach es X.env := by rfl) (hpl : (backTo pos (starEach es X.env)).any (·.1) = false := by rfl) : PE X (.Call (.Name "NoSuch" p) (e :: es) [] pos) (tX1 (He.ga X.K "NoSuch") "name" ta) := x1_of (K := X.K) (mk_ini1 (x_all Z (by decide +kernel)) (x_no Z (by decide +kernel)) (glo_NoSuch Z) (me_NoSuch_init Z) (Z.d.def_ 7 (d := d_NoSuch_init) rfl) sc_NoSuch_init rfl (Or.inl rfl) (Or.inl rfl) (by decide) (by decide) (fun _ _ _ _ _ _ us hl => match us, hl with | [_, _], _ => rfl) (by decide) hr (wk_a ha) hk hg he hpl)
theorem mkI_NoRun (Z : CT X.K X.mg) (hr : Room k X.A) (ha : PA X (e :: es) ta) (hk : 2 ≤ k := by decide) (hg : Gl X "NoRun" := by rfl) (he : starEach (e :: es) X.env = (false, eval e X.env) :: starEach es X.env := by rfl) (hpl : (backTo pos (starEach es X.env)).any (·.1) = false := by rfl) : PE X (.Call (.Name "NoRun" p) (e :: es) [] pos) (tX1 (He.ga X.K "NoRun") "word" ta) := x1_of (K := X.K) (mk_ini1 (x_all Z (by decide +kernel)) (x_no Z (by decide +kernel)) (glo_NoRun Z) (me_NoRun_init Z) (Z.d.def_ 9 (d := d_NoRun_init) rfl) sc_NoRun_init rfl (Or.inl rfl) (Or.inl rfl) (by decide) (by decide) (fun _ _ _ _ _ _ us hl => match us, hl with | [_, _], _ => rfl) (by decide) hr (wk_a ha) hk hg he hpl)
theorem mkI_NoName (Z : CT X.K X.mg) (hr : Room k X.A) (ha : PA X (e :: es) ta) (hk : 2 ≤ k := by decide) (hg : Gl X "NoName" := by rfl) (he : starEach (e :: es) X.env = (false, eval e X.env) :: starEach es X.env := by rfl) (hpl : (backTo pos (starEach es X.env)).any (·.1) = false := by rfl) : PE X (.Call (.Name "NoName" p) (e :: es) [] pos) (tX1 (He.ga X.K "NoName") "name" ta) := x1_of (K := X.K) (mk_ini1 (x_all Z (by decide +kernel)) (x_no Z (by decide +kernel)) (glo_NoName Z) (me_NoName_init Z) (Z.d.def_ 11 (d := d_NoName_init) rfl) sc_NoName_init rfl (Or.inl rfl) (Or.inl rfl) (by decide) (by decide) (fun _ _ _ _ _ _ us hl => match us, hl with | [_, _], _ => rfl) (by decide) hr (wk_a ha) hk hg he hpl)
theorem mkI_Full (Z : CT X.K X.mg) (hr : Room k X.A) (ha : PA X (e :: es) ta) (hk : 2 ≤ k := by decide) (hg : Gl X "Full" := by rfl) (he : starEach (e :: es) X.env = (false, eval e X.env) :: starEach es X.env := by rfl) (hpl : (backTo pos (starEach es X.env)).any (·.1) = false := by rfl) : PE X (.Call (.Name "Full" p) (e :: es) [] pos) (tX1 (He.ga X.K "Full") "number" ta) := x1_of (K := X.K) (mk_ini1 (x_all Z (by decide +kernel)) (x_no Z (by decide +kernel)) (glo_Full Z) (me_Full_init Z) (Z.d.def_ 13 (d := d_Full_init) rfl) sc_Full_init rfl (Or.inl rfl) (Or.inl rfl) (by decide) (by decide) (fun _ _ _ _ _ _ us hl => match us, hl with | [_, _], _ => rfl) (by decide) hr (wk_a ha) hk hg he hpl)
theorem mkI_Twice (Z : CT X.K X.mg) (hr : Room k X.A) (ha : PA X (e :: es) ta) (hk : 2 ≤ k := by decide) (hg : Gl X "Twice" := by rfl) (he : starEach (e :: es) X.env = (false, eval e X.env) :: starEach es X.env := by rfl) (hpl : (backTo pos (starEach es X.env)).any (·.1) = false := by rfl) : PE X (.Call (.Name "Twice" p) (e :: es) [] pos) (tX1 (He.ga X.K "Twice") "name" ta) := x1_of (K := X.K) (mk_ini1 (x_all Z (by decide +kernel)) (x_no Z (by decide +kernel)) (glo_Twice Z) (me_Twice_init Z) (Z.d.def_ 15 (d := d_Twice_init) rfl) sc_Twice_init rfl (Or.inl rfl) (Or.inl rfl) (by decide) (by decide) (fun _ _ _ _ _ _ us hl => match us, hl with | [_, _], _ => rfl) (by decide) hr (wk_a ha) hk hg he hpl)
theorem mkI_NoStep (Z : CT X.K X.mg) (hr : Room k X.A) (ha : PA X (e :: es) ta) (hk : 2 ≤ k := by decide) (hg : Gl X "NoStep" := by rfl) (he : starEach (e :: es) X.env = (false, eval e X.env) :: starEach es X.env := by rfl) (hpl : (backTo pos (starEach es X.env)).any (·.1) = false := by rfl) : PE X (.Call (.Name "NoStep" p) (e :: es) [] pos) (tX1 (He.ga X.K "NoStep") "place" ta) := x1_of (K := X.K) (mk_ini1 (x_all Z (by decide +kernel)) (x_no Z (by decide +kernel)) (glo_NoStep Z) (me_NoStep_init Z) (Z.d.def_ 17 (d := d_NoStep_init) rfl) sc_NoStep_init rfl (Or.inl rfl) (Or.inl rfl) (by decide) (by decide) (fun _ _ _ _ _ _ us hl => match us, hl with | [_, _], _ => rfl) (by decide) hr (wk_a ha) hk hg he hpl)
theorem mk0_NoWild (Z : CT X.K X.mg) (hg : Gl X "NoWild" := by rfl) : PE X (.Call (.Name "NoWild" p) [] [] pos) (tX0 (He.ga X.K "NoWild")) := x0_of (pe_exc0 (xc0_NoWild Z) (x_all Z (x := "NoWild") (by decide +kernel)).ox.kC (glo_NoWild Z) hg)
theorem mk0_NoMethod (Z : CT X.K X.mg) (hg : Gl X "NoMethod" := by rfl) : PE X (.Call (.Name "NoMethod" p) [] [] pos) (tX0 (He.ga X.K "NoMethod")) := x0_of (pe_exc0 (xc0_NoMethod Z) (x_all Z (x := "NoMethod") (by decide +kernel)).ox.kC (glo_NoMethod Z) hg)
theorem mkI_NoWeights (Z : CT X.K X.mg) (hr : Room k X.A) (ha : PA X (e :: es) ta) (hk : 2 ≤ k := by decide) (hg : Gl X "NoWeights" := by rfl) (he : starEach (e :: es) X.env = (false, eval e X.env) :: starEach es X.env := by rfl) (hpl : (backTo pos (starEach es X.env)).any (·.1) = false := by rfl) : PE X (.Call (.Name "NoWeights" p) (e :: es) [] pos) (tX1 (He.ga X.K "NoWeights") "word" ta) := x1_of (K := X.K) (mk_ini1 (x_all Z (by decide +kernel)) (x_no Z (by decide +kernel)) (glo_NoWeights Z) (me_NoWeights_init Z) (Z.d.def_ 21 (d := d_NoWeights_init) rfl) sc_NoWeights_init rfl (Or.inl rfl) (Or.inl rfl) (by decide) (by decide) (fun _ _ _ _ _ _ us hl => match us, hl with | [_, _], _ => rfl) (by decide) hr (wk_a ha) hk hg he hpl)
theorem mkI_NoReadings (Z : CT X.K X.mg) (hr : Room k X.A) (ha : PA X (e :: es) ta) (hk : 2 ≤ k := by decide) (hg : Gl X "NoReadings" := by rfl) (he : starEach (e :: es) X.env = (false, eval e X.env) :: starEach es X.env := by rfl) (hpl : (backTo pos (starEach es X.env)).any (·.1) = false := by rfl) : PE X (.Call (.Name "NoReadings" p) (e :: es) [] pos) (tX1 (He.ga X.K "NoReadings") "name" ta) := x1_of (K := X.K) (mk_ini1 (x_all Z (by decide +kernel)) (x_no Z (by decide +kernel)) (glo_NoReadings Z) (me_NoReadings_init Z) (Z.d.def_ 23 (d := d_NoReadings_init) rfl) sc_NoReadings_init rfl (Or.inl rfl) (Or.inl rfl) (by decide) (by decide) (fun _ _ _ _ _ _ us hl => match us, hl with | [_, _], _ => rfl) (by decide) hr (wk_a ha) hk hg he hpl)
theorem mk0_Clash (Z : CT X.K X.mg) (hg : Gl X "Clash" := by rfl) : PE X (.Call (.Name "Clash" p) [] [] pos) (tX0 (He.ga X.K "Clash")) := x0_of (pe_exc0 (xc0_Clash Z) (x_all Z (x := "Clash") (by decide +kernel)).ox.kC (glo_Clash Z) hg)
theorem mk0_Unbounded (Z : CT X.K X.mg) (hg : Gl X "Unbounded" := by rfl) : PE X (.Call (.Name "Unbounded" p) [] [] pos) (tX0 (He.ga X.K "Unbounded")) := x0_of (pe_exc0 (xc0_Unbounded Z) (x_all Z (x := "Unbounded") (by decide +kernel)).ox.kC (glo_Unbounded Z) hg)
theorem mkI_NoOffer (Z : CT X.K X.mg) (hr : Room k X.A) (ha : PA X (e :: es) ta) (hk : 2 ≤ k := by decide) (hg : Gl X "NoOffer" := by rfl) (he : starEach (e :: es) X.env = (false, eval e X.env) :: starEach es X.env := by rfl) (hpl : (backTo pos (starEach es X.env)).any (·.1) = false := by rfl) : PE X (.Call (.Name "NoOffer" p) (e :: es) [] pos) (tX2 (He.ga X.K "NoOffer") "place" "word" ta) := x2_of (K := X.K) (mk_ini2 (x_all Z (by decide +kernel)) (x_no Z (by decide +kernel)) (x_no Z (by decide +kernel)) (glo_NoOffer Z) (me_NoOffer_init Z) (Z.d.def_ 27 (d := d_NoOffer_init) rfl) sc_NoOffer_init rfl (Or.inl rfl) (Or.inl rfl) (Or.inl rfl) (by decide) (by decide) (by decide) (by decide) (fun _ _ _ _ _ _ us hl => match us, hl with | [_, _, _], _ => rfl) (by decide) hr (wk_a ha) hk hg he hpl)
theorem mkI_NoGoal (Z : CT X.K X.mg) (hr : Room k X.A) (ha : PA X (e :: es) ta) (hk : 2 ≤ k := by decide) (hg : Gl X "NoGoal" := by rfl) (he : starEach (e :: es) X.env = (false, eval e X.env) :: starEach es X.env := by rfl) (hpl : (backTo pos (starEach es X.env)).any (·.1) = false := by rfl) : PE X (.Call (.Name "NoGoal" p) (e :: es) [] pos) (tX1 (He.ga X.K "NoGoal") "word" ta) := x1_of (K := X.K) (mk_ini1 (x_all Z (by decide +kernel)) (x_no Z (by decide +kernel)) (glo_NoGoal Z) (me_NoGoal_init Z) (Z.d.def_ 29 (d := d_NoGoal_init) rfl) sc_NoGoal_init rfl (Or.inl rfl) (Or.inl rfl) (by decide) (by decide) (fun _ _ _ _ _ _ us hl => match us, hl with | [_, _], _ => rfl) (by decide) hr (wk_a ha) hk hg he hpl)
theorem mkI_NoGoals (Z : CT X.K X.mg) (hr : Room k X.A) (ha : PA X (e :: es) ta) (hk : 2 ≤ k := by decide) (hg : Gl X "NoGoals" := by rfl) (he : starEach (e :: es) X.env = (false, eval e X.env) :: starEach es X.env := by rfl) (hpl : (backTo pos (starEach es X.env)).any (·.1) = false := by rfl) : PE X (.Call (.Name "NoGoals" p) (e :: es) [] pos) (tX1 (He.ga X.K "NoGoals") "place" ta) := x1_of (K := X.K) (mk_ini1 (x_all Z (by decide +kernel)) (x_no Z (by decide +kernel)) (glo_NoGoals Z) (me_NoGoals_init Z) (Z.d.def_ 31 (d := d_NoGoals_init) rfl) sc_NoGoals_init rfl (Or.inl rfl) (Or.inl rfl) (by decide) (by decide) (fun _ _ _ _ _ _ us hl => match us, hl with | [_, _], _ => rfl) (by decide) hr (wk_a ha) hk hg he hpl)
theorem mkI_NoFactor (Z : CT X.K X.mg) (hr : Room k X.A) (ha : PA X (e :: es) ta) (hk : 2 ≤ k := by decide) (hg : Gl X "NoFactor" := by rfl) (he : starEach (e :: es) X.env = (false, eval e X.env) :: starEach es X.env := by rfl) (hpl : (backTo pos (starEach es X.env)).any (·.1) = false := by rfl) : PE X (.Call (.Name "NoFactor" p) (e :: es) [] pos) (tX1 (He.ga X.K "NoFactor") "effect" ta) := x1_of (K := X.K) (mk_ini1 (x_all Z (by decide +kernel)) (x_no Z (by decide +kernel)) (glo_NoFactor Z) (me_NoFactor_init Z) (Z.d.def_ 33 (d := d_NoFactor_init) rfl) sc_NoFactor_init rfl (Or.inl rfl) (Or.inl rfl) (by decide) (by decide) (fun _ _ _ _ _ _ us hl => match us, hl with | [_, _], _ => rfl) (by decide) hr (wk_a ha) hk hg he hpl)
theorem mkI_NoTable (Z : CT X.K X.mg) (hr : Room k X.A) (ha : PA X (e :: es) ta) (hk : 2 ≤ k := by decide) (hg : Gl X "NoTable" := by rfl) (he : starEach (e :: es) X.env = (false, eval e X.env) :: starEach es X.env := by rfl) (hpl : (backTo pos (starEach es X.env)).any (·.1) = false := by rfl) : PE X (.Call (.Name "NoTable" p) (e :: es) [] pos) (tX1 (He.ga X.K "NoTable") "effect" ta) := x1_of (K := X.K) (mk_ini1 (x_all Z (by decide +kernel)) (x_no Z (by decide +kernel)) (glo_NoTable Z) (me_NoTable_init Z) (Z.d.def_ 35 (d := d_NoTable_init) rfl) sc_NoTable_init rfl (Or.inl rfl) (Or.inl rfl) (by decide) (by decide) (fun _ _ _ _ _ _ us hl => match us, hl with | [_, _], _ => rfl) (by decide) hr (wk_a ha) hk hg he hpl)
theorem mk0_NoOrder (Z : CT X.K X.mg) (hg : Gl X "NoOrder" := by rfl) : PE X (.Call (.Name "NoOrder" p) [] [] pos) (tX0 (He.ga X.K "NoOrder")) := x0_of (pe_exc0 (xc0_NoOrder Z) (x_all Z (x := "NoOrder") (by decide +kernel)).ox.kC (glo_NoOrder Z) hg)
theorem mkI_BadText (Z : CT X.K X.mg) (hr : Room k X.A) (ha : PA X (e :: es) ta) (hk : 2 ≤ k := by decide) (hg : Gl X "BadText" := by rfl) (he : starEach (e :: es) X.env = (false, eval e X.env) :: starEach es X.env := by rfl) (hpl : (backTo pos (starEach es X.env)).any (·.1) = false := by rfl) : PE X (.Call (.Name "BadText" p) (e :: es) [] pos) (tX1 (He.ga X.K "BadText") "place" ta) := x1_of (K := X.K) (mk_ini1 (x_all Z (by decide +kernel)) (x_no Z (by decide +kernel)) (glo_BadText Z) (me_BadText_init Z) (Z.d.def_ 38 (d := d_BadText_init) rfl) sc_BadText_init rfl (Or.inl rfl) (Or.inl rfl) (by decide) (by decide) (fun _ _ _ _ _ _ us hl => match us, hl with | [_, _], _ => rfl) (by decide) hr (wk_a ha) hk hg he hpl)
theorem mkI_BadLine (Z : CT X.K X.mg) (hr : Room k X.A) (ha : PA X (e :: es) ta) (hk : 2 ≤ k := by decide) (hg : Gl X "BadLine" := by rfl) (he : starEach (e :: es) X.env = (false, eval e X.env) :: starEach es X.env := by rfl) (hpl : (backTo pos (starEach es X.env)).any (·.1) = false := by rfl) : PE X (.Call (.Name "BadLine" p) (e :: es) [] pos) (tX2 (He.ga X.K "BadLine") "line" "word" ta) := x2_of (K := X.K) (mk_ini2 (x_all Z (by decide +kernel)) (x_no Z (by decide +kernel)) (x_no Z (by decide +kernel)) (glo_BadLine Z) (me_BadLine_init Z) (Z.d.def_ 40 (d := d_BadLine_init) rfl) sc_BadLine_init rfl (Or.inl rfl) (Or.inl rfl) (Or.inl rfl) (by decide) (by decide) (by decide) (by decide) (fun _ _ _ _ _ _ us hl => match us, hl with | [_, _, _], _ => rfl) (by decide) hr (wk_a ha) hk hg he hpl)
theorem mkI_NoCommand (Z : CT X.K X.mg) (hr : Room k X.A) (ha : PA X (e :: es) ta) (hk : 2 ≤ k := by decide) (hg : Gl X "NoCommand" := by rfl) (he : starEach (e :: es) X.env = (false, eval e X.env) :: starEach es X.env := by rfl) (hpl : (backTo pos (starEach es X.env)).any (·.1) = false := by rfl) : PE X (.Call (.Name "NoCommand" p) (e :: es) [] pos) (tX1 (He.ga X.K "NoCommand") "place" ta) := x1_of (K := X.K) (mk_ini1 (x_all Z (by decide +kernel)) (x_no Z (by decide +kernel)) (glo_NoCommand Z) (me_NoCommand_init Z) (Z.d.def_ 42 (d := d_NoCommand_init) rfl) sc_NoCommand_init rfl (Or.inl rfl) (Or.inl rfl) (by decide) (by decide) (fun _ _ _ _ _ _ us hl => match us, hl with | [_, _], _ => rfl) (by decide) hr (wk_a ha) hk hg he hpl)
theorem mk0_NoUndo (Z : CT X.K X.mg) (hg : Gl X "NoUndo" := by rfl) : PE X (.Call (.Name "NoUndo" p) [] [] pos) (tX0 (He.ga X.K "NoUndo")) := x0_of (pe_exc0 (xc0_NoUndo Z) (x_all Z (x := "NoUndo") (by decide +kernel)).ox.kC (glo_NoUndo Z) hg)
theorem mk0_NoRedo (Z : CT X.K X.mg) (hg : Gl X "NoRedo" := by rfl) : PE X (.Call (.Name "NoRedo" p) [] [] pos) (tX0 (He.ga X.K "NoRedo")) := x0_of (pe_exc0 (xc0_NoRedo Z) (x_all Z (x := "NoRedo") (by decide +kernel)).ox.kC (glo_NoRedo Z) hg)
end
end My


local macro_rules | `(tactic| walk_at "my more") => `(tactic| first | ((with_reducible show PySem.W.findIn _ _ _ = _); exact My.x_no ‹_› (by decide +kernel)) | ((with_reducible show My.XCls _ _); exact My.x_all ‹_› (by decide +kernel)) | (rw [My.lk2 (by decide +kernel)]; exact My.lk1))
namespace My
open PySem PySem.Spec PyProof.Rows L2 PySem.Calls
section
variable {P : Program} {w : World} {K : PySem.W.Frag} {mg : Str → Option Value} {base : Heap} {fd : FuncData} {f : Addr}
/-- a pair (error, its word): the error of the i-th lot -/
def Item (P : Program) (w : World) (K : PySem.W.Frag) (mg : Str → Option Value) (base : Heap) (H : Hp) (i : Nat) (v : V) : Prop := ∃ (t e C f : Addr) (z z0 : Str) (fs : List (Str × V)), v = .ref t ∧ H t = some (.tup [.ref e, .str z]) ∧ XAt H e C fs ∧ fs.lookup ("told" : Str) = none ∧
  XMeth P w K mg base C "told" f z0 ∧ Str.ofString "refused " ++ z = z0 ∧ z.length ≤ 100 ∧ PySem.W.kitOne K (.ref C) (rf K "MethodError") = some true ∧ PySem.W.kitOne K (.ref C) (.type "ValueError") = some true ∧ ∀ j ∈ [0, 1, 2, 3], PySem.W.kitAny K (.ref C) ((grps.getD j []).map (rf K)) = some (i == j)
theorem item_of (Z : CT K mg) {H : Hp} {x z z0 : Str} {i : Nat} {t e g : Addr} {fs : List (Str × V)} (M : XMeth P w K mg base (He.ga K x) "told" g z0) (ht : H t = some (.tup [.ref e, .str z])) (he : XAt H e (He.ga K x) fs) (h1 : x ∈ xnames) (h2 : x ∈ grps.getD i []) (hi : i ∈ [0, 1, 2, 3])
    (hl : fs.lookup ("told" : Str) = none) (hz : Str.ofString "refused " ++ z = z0) (hn : z.length ≤ 100) : Item P w K mg base H i (.ref t) :=
  ⟨t, e, _, g, z, z0, fs, rfl, ht, he, hl, M, hz, hn, x_me Z h1, x_ve Z h1, fun j hj => x_grp Z hi h2 hj⟩
def spGroup (P : Program) (w : World) (K : PySem.W.Frag) (mg : Str → Option Value) (base : Heap) (i : Nat) : Sp := fun vs H Q _ => ∃ x, vs = [x] ∧ ∀ (p a b : Addr) (xs ys : List V) (H' : Hp), Same H H' → H' p = some (.tup [.ref a, .ref b]) → H' a = some (.lst xs) → H' b = some (.lst ys) → (∀ v ∈ xs, Item P w K mg base H' i v) → (∀ v ∈ ys, v = x) → Q (.ref p) H'
theorem nolk1 {g : Str} {v : V} (n : decide (("told" : Str) = g) = false) : List.lookup ("told" : Str) [(g, v)] = none := by rw [lk2 n]; rfl
theorem nolk2 {g h : Str} {v u : V} (n : decide (("told" : Str) = g) = false) (n2 : decide (("told" : Str) = h) = false) : List.lookup ("told" : Str) [(g, v), (h, u)] = none := by rw [lk2 n, lk2 n2]; rfl
theorem ok_first (Z : CT K mg) (F : FunD K d_first.name d_first.qual d_first.params d_first.body d_first.scope [] [] f fd) : FnOk P w K mg base CX0 3 f fd ["_law_x"] (spGroup P w K mg base 0) := by
  refine F.ok sc_first (fun vs H Q E h => ?_) (fun cdv A outer s H vs Q E hr h => ?_)
  · obtain ⟨x, rfl, _⟩ := h
    rfl
  · obtain ⟨x, rfl, q⟩ := h
    refine ⟨_, (pss_cons (ps_set (i := 1) sc_first.nd rfl (Or.inl rfl) (pe_lstN (pa_cons (pe_tupN (pa_cons (mkI_NoRatio Z hr (pa_cons (pv 0) pa_nil)) (pa_cons pe_str pa_nil))) (pa_cons (pe_tupN (pa_cons (mkI_NoQuestion Z hr (pa_cons (pv 0) pa_nil)) (pa_cons pe_str pa_nil))) (pa_cons (pe_tupN (pa_cons (mk0_OtherEffects Z) (pa_cons pe_str pa_nil))) pa_nil)))))
      (pss_cons (ps_set (i := 1) sc_first.nd rfl (Or.inl rfl) (pe_op op_catN (pv 1) (pe_lstN (pa_cons (pe_tupN (pa_cons (mk0_NoWorld Z) (pa_cons pe_str pa_nil))) (pa_cons (pe_tupN (pa_cons (mkI_NoSuch Z hr (pa_cons (pv 0) pa_nil)) (pa_cons pe_str pa_nil))) (pa_cons (pe_tupN (pa_cons (mkI_NoRun Z hr (pa_cons (pv 0) pa_nil)) (pa_cons pe_str pa_nil))) (pa_cons (pe_tupN (pa_cons (mkI_NoName Z hr (pa_cons (pv 0) pa_nil)) (pa_cons pe_str pa_nil))) pa_nil)))))))
      (pss_cons (ps_set (i := 2) sc_first.nd rfl (Or.inl rfl) (pe_lstN (pa_cons (pe_xfld (pe_ix ix_tup (pe_ix ix_list (pv 1) pe_int (fun _ _ => rfl)) pe_int (fun _ _ => rfl))) (pa_cons (pe_xfld (pe_ix ix_tup (pe_ix ix_list (pv 1) pe_int (fun _ _ => rfl)) pe_int (fun _ _ => rfl))) (pa_cons (pe_xfld (pe_ix ix_tup (pe_ix ix_list (pv 1) pe_int (fun _ _ => rfl)) pe_int (fun _ _ => rfl))) (pa_cons (pe_xfld (pe_ix ix_tup (pe_ix ix_list (pv 1) pe_int (fun _ _ => rfl)) pe_int (fun _ _ => rfl))) (pa_cons (pe_xfld (pe_ix ix_tup (pe_ix ix_list (pv 1) pe_int (fun _ _ => rfl)) pe_int (fun _ _ => rfl))) pa_nil)))))))
      (pss_one (ps_ret (pe_tupN (pa_cons (pv 1) (pa_cons (pv 2) pa_nil)))))))), ?_⟩
    walk_at "my go"
    refine q _ _ _ _ _ _ (by walk_at "my ss") (by walk_at "my sm") (by walk_at "my sm") (by walk_at "my sm") ?_ (by simp)
    intro v hv
    simp only [List.mem_append, List.mem_cons, List.not_mem_nil, or_false] at hv
    rcases hv with (rfl | rfl | rfl) | (rfl | rfl | rfl | rfl)
    · exact item_of Z (told_NoRatio Z) (by walk_at "my sm") (by walk_at "my xs") (by decide +kernel) (by decide +kernel) (by decide) (nolk1 (by decide +kernel)) (by decide +kernel) (by decide +kernel)
    · exact item_of Z (told_NoQuestion Z) (by walk_at "my sm") (by walk_at "my xs") (by decide +kernel) (by decide +kernel) (by decide) (nolk1 (by decide +kernel)) (by decide +kernel) (by decide +kernel)
    · exact item_of Z (told_OtherEffects Z) (by walk_at "my sm") (by walk_at "my xs") (by decide +kernel) (by decide +kernel) (by decide) (rfl) (by decide +kernel) (by decide +kernel)
    · exact item_of Z (told_NoWorld Z) (by walk_at "my sm") (by walk_at "my xs") (by decide +kernel) (by decide +kernel) (by decide) (rfl) (by decide +kernel) (by decide +kernel)
    · exact item_of Z (told_NoSuch Z) (by walk_at "my sm") (by walk_at "my xs") (by decide +kernel) (by decide +kernel) (by decide) (nolk1 (by decide +kernel)) (by decide +kernel) (by decide +kernel)
    · exact item_of Z (told_NoRun Z) (by walk_at "my sm") (by walk_at "my xs") (by decide +kernel) (by decide +kernel) (by decide) (nolk1 (by decide +kernel)) (by decide +kernel) (by decide +kernel)
    · exact item_of Z (told_NoName Z) (by walk_at "my sm") (by walk_at "my xs") (by decide +kernel) (by decide +kernel) (by decide) (nolk1 (by decide +kernel)) (by decide +kernel) (by decide +kernel)
theorem good_first (Z : CT K mg) : GoodF CX0 P w K mg base 3 "_law_first" ["_law_x"] (spGroup P w K mg base 0) := Z.good 50 32 d_first (fun _ _ _ _ _ _ us hl => match us, hl with | [_], _ => rfl) fun _ F => ok_first Z F
theorem ok_second (Z : CT K mg) (F : FunD K d_second.name d_second.qual d_second.params d_second.body d_second.scope [] [] f fd) : FnOk P w K mg base CX0 3 f fd ["_law_x"] (spGroup P w K mg base 1) := by
  refine F.ok sc_second (fun vs H Q E h => ?_) (fun cdv A outer s H vs Q E hr h => ?_)
  · obtain ⟨x, rfl, _⟩ := h
    rfl
  · obtain ⟨x, rfl, q⟩ := h
    refine ⟨_, (pss_cons (ps_set (i := 1) sc_second.nd rfl (Or.inl rfl) (pe_lstN (pa_cons (pe_tupN (pa_cons (mkI_Full Z hr (pa_cons (pv 0) pa_nil)) (pa_cons pe_str pa_nil))) (pa_cons (pe_tupN (pa_cons (mkI_Twice Z hr (pa_cons (pv 0) pa_nil)) (pa_cons pe_str pa_nil))) (pa_cons (pe_tupN (pa_cons (mkI_NoStep Z hr (pa_cons (pv 0) pa_nil)) (pa_cons pe_str pa_nil))) (pa_cons (pe_tupN (pa_cons (mk0_NoWild Z) (pa_cons pe_str pa_nil))) pa_nil))))))
      (pss_cons (ps_set (i := 1) sc_second.nd rfl (Or.inl rfl) (pe_op op_catN (pv 1) (pe_lstN (pa_cons (pe_tupN (pa_cons (mk0_NoMethod Z) (pa_cons pe_str pa_nil))) (pa_cons (pe_tupN (pa_cons (mkI_NoWeights Z hr (pa_cons (pv 0) pa_nil)) (pa_cons pe_str pa_nil))) (pa_cons (pe_tupN (pa_cons (mkI_NoReadings Z hr (pa_cons (pv 0) pa_nil)) (pa_cons pe_str pa_nil))) pa_nil))))))
      (pss_cons (ps_set (i := 2) sc_second.nd rfl (Or.inl rfl) (pe_lstN (pa_cons (pe_xfld (pe_ix ix_tup (pe_ix ix_list (pv 1) pe_int (fun _ _ => rfl)) pe_int (fun _ _ => rfl))) (pa_cons (pe_xfld (pe_ix ix_tup (pe_ix ix_list (pv 1) pe_int (fun _ _ => rfl)) pe_int (fun _ _ => rfl))) (pa_cons (pe_xfld (pe_ix ix_tup (pe_ix ix_list (pv 1) pe_int (fun _ _ => rfl)) pe_int (fun _ _ => rfl))) (pa_cons (pe_xfld (pe_ix ix_tup (pe_ix ix_list (pv 1) pe_int (fun _ _ => rfl)) pe_int (fun _ _ => rfl))) (pa_cons (pe_xfld (pe_ix ix_tup (pe_ix ix_list (pv 1) pe_int (fun _ _ => rfl)) pe_int (fun _ _ => rfl))) pa_nil)))))))
      (pss_one (ps_ret (pe_tupN (pa_cons (pv 1) (pa_cons (pv 2) pa_nil)))))))), ?_⟩
    walk_at "my go"
    refine q _ _ _ _ _ _ (by walk_at "my ss") (by walk_at "my sm") (by walk_at "my sm") (by walk_at "my sm") ?_ (by simp)
    intro v hv
    simp only [List.mem_append, List.mem_cons, List.not_mem_nil, or_false] at hv
    rcases hv with (rfl | rfl | rfl | rfl) | (rfl | rfl | rfl)
    · exact item_of Z (told_Full Z) (by walk_at "my sm") (by walk_at "my xs") (by decide +kernel) (by decide +kernel) (by decide) (nolk1 (by decide +kernel)) (by decide +kernel) (by decide +kernel)
    · exact item_of Z (told_Twice Z) (by walk_at "my sm") (by walk_at "my xs") (by decide +kernel) (by decide +kernel) (by decide) (nolk1 (by decide +kernel)) (by decide +kernel) (by decide +kernel)
    · exact item_of Z (told_NoStep Z) (by walk_at "my sm") (by walk_at "my xs") (by decide +kernel) (by decide +kernel) (by decide) (nolk1 (by decide +kernel)) (by decide +kernel) (by decide +kernel)
    · exact item_of Z (told_NoWild Z) (by walk_at "my sm") (by walk_at "my xs") (by decide +kernel) (by decide +kernel) (by decide) (rfl) (by decide +kernel) (by decide +kernel)
    · exact item_of Z (told_NoMethod Z) (by walk_at "my sm") (by walk_at "my xs") (by decide +kernel) (by decide +kernel) (by decide) (rfl) (by decide +kernel) (by decide +kernel)
    · exact item_of Z (told_NoWeights Z) (by walk_at "my sm") (by walk_at "my xs") (by decide +kernel) (by decide +kernel) (by decide) (nolk1 (by decide +kernel)) (by decide +kernel) (by decide +kernel)
    · exact item_of Z (told_NoReadings Z) (by walk_at "my sm") (by walk_at "my xs") (by decide +kernel) (by decide +kernel) (by decide) (nolk1 (by decide +kernel)) (by decide +kernel) (by decide +kernel)
theorem good_second (Z : CT K mg) : GoodF CX0 P w K mg base 3 "_law_second" ["_law_x"] (spGroup P w K mg base 1) := Z.good 51 33 d_second (fun _ _ _ _ _ _ us hl => match us, hl with | [_], _ => rfl) fun _ F => ok_second Z F
theorem ok_third (Z : CT K mg) (F : FunD K d_third.name d_third.qual d_third.params d_third.body d_third.scope [] [] f fd) : FnOk P w K mg base CX0 3 f fd ["_law_x"] (spGroup P w K mg base 2) := by
  refine F.ok sc_third (fun vs H Q E h => ?_) (fun cdv A outer s H vs Q E hr h => ?_)
  · obtain ⟨x, rfl, _⟩ := h
    rfl
  · obtain ⟨x, rfl, q⟩ := h
    refine ⟨_, (pss_cons (ps_set (i := 1) sc_third.nd rfl (Or.inl rfl) (pe_lstN (pa_cons (pe_tupN (pa_cons (mk0_Clash Z) (pa_cons pe_str pa_nil))) (pa_cons (pe_tupN (pa_cons (mk0_Unbounded Z) (pa_cons pe_str pa_nil))) (pa_cons (pe_tupN (pa_cons (mkI_NoOffer Z hr (pa_cons (pv 0) (pa_cons (pv 0) pa_nil))) (pa_cons pe_str pa_nil))) (pa_cons (pe_tupN (pa_cons (mkI_NoGoal Z hr (pa_cons (pv 0) pa_nil)) (pa_cons pe_str pa_nil))) pa_nil))))))
      (pss_cons (ps_set (i := 1) sc_third.nd rfl (Or.inl rfl) (pe_op op_catN (pv 1) (pe_lstN (pa_cons (pe_tupN (pa_cons (mkI_NoGoals Z hr (pa_cons (pv 0) pa_nil)) (pa_cons pe_str pa_nil))) (pa_cons (pe_tupN (pa_cons (mkI_NoFactor Z hr (pa_cons (pv 0) pa_nil)) (pa_cons pe_str pa_nil))) (pa_cons (pe_tupN (pa_cons (mkI_NoTable Z hr (pa_cons (pv 0) pa_nil)) (pa_cons pe_str pa_nil))) pa_nil))))))
      (pss_cons (ps_set (i := 2) sc_third.nd rfl (Or.inl rfl) (pe_lstN (pa_cons (pe_xfld (pe_ix ix_tup (pe_ix ix_list (pv 1) pe_int (fun _ _ => rfl)) pe_int (fun _ _ => rfl))) (pa_cons (pe_xfld (pe_ix ix_tup (pe_ix ix_list (pv 1) pe_int (fun _ _ => rfl)) pe_int (fun _ _ => rfl))) (pa_cons (pe_xfld (pe_ix ix_tup (pe_ix ix_list (pv 1) pe_int (fun _ _ => rfl)) pe_int (fun _ _ => rfl))) (pa_cons (pe_xfld (pe_ix ix_tup (pe_ix ix_list (pv 1) pe_int (fun _ _ => rfl)) pe_int (fun _ _ => rfl))) (pa_cons (pe_xfld (pe_ix ix_tup (pe_ix ix_list (pv 1) pe_int (fun _ _ => rfl)) pe_int (fun _ _ => rfl))) pa_nil)))))))
      (pss_one (ps_ret (pe_tupN (pa_cons (pv 1) (pa_cons (pe_op op_catN (pv 2) (pe_lstN (pa_cons (pe_xfld (pe_ix ix_tup (pe_ix ix_list (pv 1) pe_int (fun _ _ => rfl)) pe_int (fun _ _ => rfl))) pa_nil))) pa_nil)))))))), ?_⟩
    walk_at "my go"
    refine q _ _ _ _ _ _ (by walk_at "my ss") (by walk_at "my sm") (by walk_at "my sm") (by walk_at "my sm") ?_ (by simp)
    intro v hv
    simp only [List.mem_append, List.mem_cons, List.not_mem_nil, or_false] at hv
    rcases hv with (rfl | rfl | rfl | rfl) | (rfl | rfl | rfl)
    · exact item_of Z (told_Clash Z) (by walk_at "my sm") (by walk_at "my xs") (by decide +kernel) (by decide +kernel) (by decide) (rfl) (by decide +kernel) (by decide +kernel)
    · exact item_of Z (told_Unbounded Z) (by walk_at "my sm") (by walk_at "my xs") (by decide +kernel) (by decide +kernel) (by decide) (rfl) (by decide +kernel) (by decide +kernel)
    · exact item_of Z (told_NoOffer Z) (by walk_at "my sm") (by walk_at "my xs") (by decide +kernel) (by decide +kernel) (by decide) (nolk2 (by decide +kernel) (by decide +kernel)) (by decide +kernel) (by decide +kernel)
    · exact item_of Z (told_NoGoal Z) (by walk_at "my sm") (by walk_at "my xs") (by decide +kernel) (by decide +kernel) (by decide) (nolk1 (by decide +kernel)) (by decide +kernel) (by decide +kernel)
    · exact item_of Z (told_NoGoals Z) (by walk_at "my sm") (by walk_at "my xs") (by decide +kernel) (by decide +kernel) (by decide) (nolk1 (by decide +kernel)) (by decide +kernel) (by decide +kernel)
    · exact item_of Z (told_NoFactor Z) (by walk_at "my sm") (by walk_at "my xs") (by decide +kernel) (by decide +kernel) (by decide) (nolk1 (by decide +kernel)) (by decide +kernel) (by decide +kernel)
    · exact item_of Z (told_NoTable Z) (by walk_at "my sm") (by walk_at "my xs") (by decide +kernel) (by decide +kernel) (by decide) (nolk1 (by decide +kernel)) (by decide +kernel) (by decide +kernel)
theorem good_third (Z : CT K mg) : GoodF CX0 P w K mg base 3 "_law_third" ["_law_x"] (spGroup P w K mg base 2) := Z.good 52 34 d_third (fun _ _ _ _ _ _ us hl => match us, hl with | [_], _ => rfl) fun _ F => ok_third Z F
theorem ok_fourth (Z : CT K mg) (F : FunD K d_fourth.name d_fourth.qual d_fourth.params d_fourth.body d_fourth.scope [] [] f fd) : FnOk P w K mg base CX0 3 f fd ["_law_x"] (spGroup P w K mg base 3) := by
  refine F.ok sc_fourth (fun vs H Q E h => ?_) (fun cdv A outer s H vs Q E hr h => ?_)
  · obtain ⟨x, rfl, _⟩ := h
    rfl
  · obtain ⟨x, rfl, q⟩ := h
    refine ⟨_, (pss_cons (ps_set (i := 1) sc_fourth.nd rfl (Or.inl rfl) (pe_lstN (pa_cons (pe_tupN (pa_cons (mk0_NoOrder Z) (pa_cons pe_str pa_nil))) (pa_cons (pe_tupN (pa_cons (mkI_BadText Z hr (pa_cons (pv 0) pa_nil)) (pa_cons pe_str pa_nil))) (pa_cons (pe_tupN (pa_cons (mkI_BadLine Z hr (pa_cons (pv 0) (pa_cons (pv 0) pa_nil))) (pa_cons pe_str pa_nil))) pa_nil)))))
      (pss_cons (ps_set (i := 1) sc_fourth.nd rfl (Or.inl rfl) (pe_op op_catN (pv 1) (pe_lstN (pa_cons (pe_tupN (pa_cons (mkI_NoCommand Z hr (pa_cons (pv 0) pa_nil)) (pa_cons pe_str pa_nil))) (pa_cons (pe_tupN (pa_cons (mk0_NoUndo Z) (pa_cons pe_str pa_nil))) (pa_cons (pe_tupN (pa_cons (mk0_NoRedo Z) (pa_cons pe_str pa_nil))) pa_nil))))))
      (pss_one (ps_ret (pe_tupN (pa_cons (pv 1) (pa_cons (pe_lstN (pa_cons (pe_xfld (pe_ix ix_tup (pe_ix ix_list (pv 1) pe_int (fun _ _ => rfl)) pe_int (fun _ _ => rfl))) (pa_cons (pe_xfld (pe_ix ix_tup (pe_ix ix_list (pv 1) pe_int (fun _ _ => rfl)) pe_int (fun _ _ => rfl))) (pa_cons (pe_xfld (pe_ix ix_tup (pe_ix ix_list (pv 1) pe_int (fun _ _ => rfl)) pe_int (fun _ _ => rfl))) (pa_cons (pe_xfld (pe_ix ix_tup (pe_ix ix_list (pv 1) pe_int (fun _ _ => rfl)) pe_int (fun _ _ => rfl))) pa_nil))))) pa_nil))))))), ?_⟩
    walk_at "my go"
    refine q _ _ _ _ _ _ (by walk_at "my ss") (by walk_at "my sm") (by walk_at "my sm") (by walk_at "my sm") ?_ (by simp)
    intro v hv
    simp only [List.mem_append, List.mem_cons, List.not_mem_nil, or_false] at hv
    rcases hv with (rfl | rfl | rfl) | (rfl | rfl | rfl)
    · exact item_of Z (told_NoOrder Z) (by walk_at "my sm") (by walk_at "my xs") (by decide +kernel) (by decide +kernel) (by decide) (rfl) (by decide +kernel) (by decide +kernel)
    · exact item_of Z (told_BadText Z) (by walk_at "my sm") (by walk_at "my xs") (by decide +kernel) (by decide +kernel) (by decide) (nolk1 (by decide +kernel)) (by decide +kernel) (by decide +kernel)
    · exact item_of Z (told_BadLine Z) (by walk_at "my sm") (by walk_at "my xs") (by decide +kernel) (by decide +kernel) (by decide) (nolk2 (by decide +kernel) (by decide +kernel)) (by decide +kernel) (by decide +kernel)
    · exact item_of Z (told_NoCommand Z) (by walk_at "my sm") (by walk_at "my xs") (by decide +kernel) (by decide +kernel) (by decide) (nolk1 (by decide +kernel)) (by decide +kernel) (by decide +kernel)
    · exact item_of Z (told_NoUndo Z) (by walk_at "my sm") (by walk_at "my xs") (by decide +kernel) (by decide +kernel) (by decide) (rfl) (by decide +kernel) (by decide +kernel)
    · exact item_of Z (told_NoRedo Z) (by walk_at "my sm") (by walk_at "my xs") (by decide +kernel) (by decide +kernel) (by decide) (rfl) (by decide +kernel) (by decide +kernel)
theorem good_fourth (Z : CT K mg) : GoodF CX0 P w K mg base 3 "_law_fourth" ["_law_x"] (spGroup P w K mg base 3) := Z.good 53 35 d_fourth (fun _ _ _ _ _ _ us hl => match us, hl with | [_], _ => rfl) fun _ F => ok_fourth Z F
end
end My


namespace My
open PySem PySem.Spec PyProof.Rows L2 PySem.Calls
theorem boot_ValueError : bootBuiltins "ValueError" = some (.type "ValueError") := by decide +kernel
section
variable {P : Program} {w : World} {K : PySem.W.Frag} {mg : Str → Option Value} {base : Heap} {fd : FuncData} {f : Addr}
theorem vals_refs : ∀ (as : List Addr) (us : List Value), Vals (as.map V.ref) us → us = as.map Value.ref
  | [], _, .nil => rfl
  | a :: as, _, .cons r t => by rw [show _ = Value.ref a from r, vals_refs as _ t]; rfl
/-- isinstance of one of the lots -/
def spIs (K : PySem.W.Frag) : Sp := fun vs H Q _ => ∃ (e C : Addr) (fs : List (Str × V)) (j : Nat) (b : Bool), vs = [.ref e, .int (j : Int)] ∧ XAt H e C fs ∧ XCls K C ∧ j ∈ [0, 1, 2, 3] ∧ PySem.W.kitAny K (.ref C) ((grps.getD j []).map (rf K)) = some b ∧ ∀ H', Same H H' → Q (.bl b) H'

theorem ok_is (Z : CT K mg) (F : FunD K d_is.name d_is.qual d_is.params d_is.body d_is.scope [] [] f fd) : FnOk P w K mg base CX0 1 f fd ["_law_e", "_law_kind"] (spIs K) := by
  refine F.ok sc_is (fun vs H Q E h => ?_) (fun cdv A outer s H vs Q E hr h => ?_)
  · obtain ⟨e, C, fs, j, b, rfl, _⟩ := h
    rfl
  · obtain ⟨e, C, fs, j, b, rfl, hx, T, hj, hb, q⟩ := h
    refine ⟨_, (pss_cons (ps_if (pt_cmpR op_eq (pv 1) (pe_int) (nomark _)) (pss_one (ps_ret (pe_callB call_isXT (by rfl) (m_isinstance Z) boot_isinstance (pa_cons (pv 0) (pa_cons (pe_tupN (pa_cons (pe_glob (by rfl) (glo_NoRatio Z) (rel_ref _)) (pa_cons (pe_glob (by rfl) (glo_NoQuestion Z) (rel_ref _)) (pa_cons (pe_glob (by rfl) (glo_OtherEffects Z) (rel_ref _)) (pa_cons (pe_glob (by rfl) (glo_NoWorld Z) (rel_ref _)) (pa_cons (pe_glob (by rfl) (glo_NoSuch Z) (rel_ref _)) (pa_cons (pe_glob (by rfl) (glo_NoRun Z) (rel_ref _)) (pa_cons (pe_glob (by rfl) (glo_NoName Z) (rel_ref _)) pa_nil)))))))) pa_nil))))) pss_nil)
      (pss_cons (ps_if (pt_cmpR op_eq (pv 1) (pe_int) (nomark _)) (pss_one (ps_ret (pe_callB call_isXT (by rfl) (m_isinstance Z) boot_isinstance (pa_cons (pv 0) (pa_cons (pe_tupN (pa_cons (pe_glob (by rfl) (glo_Full Z) (rel_ref _)) (pa_cons (pe_glob (by rfl) (glo_Twice Z) (rel_ref _)) (pa_cons (pe_glob (by rfl) (glo_NoStep Z) (rel_ref _)) (pa_cons (pe_glob (by rfl) (glo_NoWild Z) (rel_ref _)) (pa_cons (pe_glob (by rfl) (glo_NoMethod Z) (rel_ref _)) (pa_cons (pe_glob (by rfl) (glo_NoWeights Z) (rel_ref _)) (pa_cons (pe_glob (by rfl) (glo_NoReadings Z) (rel_ref _)) pa_nil)))))))) pa_nil))))) pss_nil)
      (pss_cons (ps_if (pt_cmpR op_eq (pv 1) (pe_int) (nomark _)) (pss_one (ps_ret (pe_callB call_isXT (by rfl) (m_isinstance Z) boot_isinstance (pa_cons (pv 0) (pa_cons (pe_tupN (pa_cons (pe_glob (by rfl) (glo_Clash Z) (rel_ref _)) (pa_cons (pe_glob (by rfl) (glo_Unbounded Z) (rel_ref _)) (pa_cons (pe_glob (by rfl) (glo_NoOffer Z) (rel_ref _)) (pa_cons (pe_glob (by rfl) (glo_NoGoal Z) (rel_ref _)) (pa_cons (pe_glob (by rfl) (glo_NoGoals Z) (rel_ref _)) (pa_cons (pe_glob (by rfl) (glo_NoFactor Z) (rel_ref _)) (pa_cons (pe_glob (by rfl) (glo_NoTable Z) (rel_ref _)) pa_nil)))))))) pa_nil))))) pss_nil)
      (pss_one (ps_ret (pe_callB call_isXT (by rfl) (m_isinstance Z) boot_isinstance (pa_cons (pv 0) (pa_cons (pe_tupN (pa_cons (pe_glob (by rfl) (glo_NoOrder Z) (rel_ref _)) (pa_cons (pe_glob (by rfl) (glo_BadText Z) (rel_ref _)) (pa_cons (pe_glob (by rfl) (glo_BadLine Z) (rel_ref _)) (pa_cons (pe_glob (by rfl) (glo_NoCommand Z) (rel_ref _)) (pa_cons (pe_glob (by rfl) (glo_NoUndo Z) (rel_ref _)) (pa_cons (pe_glob (by rfl) (glo_NoRedo Z) (rel_ref _)) pa_nil))))))) pa_nil)))))))), ?_⟩
    simp only [List.mem_cons, List.not_mem_nil, or_false] at hj
    rcases hj with rfl | rfl | rfl | rfl
    · refine ⟨_, rfl, rfl, _, rfl, ite2 (fun _ => ?_) (fun n => absurd (by decide) n)⟩
      exact ⟨_, rfl, rfl, fun t H' hs ht hn => ⟨e, C, t, fs, _, _, b, rfl, hx.same hs, T, ht, vals_refs ((grps.getD 0 []).map fun x => He.ga K x), hb, q _ hs⟩⟩
    · refine ⟨_, rfl, rfl, _, rfl, ite2 (fun n => absurd n (by decide)) (fun _ => ?_)⟩
      refine ⟨_, rfl, rfl, _, rfl, ite2 (fun _ => ?_) (fun n => absurd (by decide) n)⟩
      exact ⟨_, rfl, rfl, fun t H' hs ht hn => ⟨e, C, t, fs, _, _, b, rfl, hx.same hs, T, ht, vals_refs ((grps.getD 1 []).map fun x => He.ga K x), hb, q _ hs⟩⟩
    · refine ⟨_, rfl, rfl, _, rfl, ite2 (fun n => absurd n (by decide)) (fun _ => ?_)⟩
      refine ⟨_, rfl, rfl, _, rfl, ite2 (fun n => absurd n (by decide)) (fun _ => ?_)⟩
      refine ⟨_, rfl, rfl, _, rfl, ite2 (fun _ => ?_) (fun n => absurd (by decide) n)⟩
      exact ⟨_, rfl, rfl, fun t H' hs ht hn => ⟨e, C, t, fs, _, _, b, rfl, hx.same hs, T, ht, vals_refs ((grps.getD 2 []).map fun x => He.ga K x), hb, q _ hs⟩⟩
    · refine ⟨_, rfl, rfl, _, rfl, ite2 (fun n => absurd n (by decide)) (fun _ => ?_)⟩
      refine ⟨_, rfl, rfl, _, rfl, ite2 (fun n => absurd n (by decide)) (fun _ => ?_)⟩
      refine ⟨_, rfl, rfl, _, rfl, ite2 (fun n => absurd n (by decide)) (fun _ => ?_)⟩
      exact ⟨_, rfl, rfl, fun t H' hs ht hn => ⟨e, C, t, fs, _, _, b, rfl, hx.same hs, T, ht, vals_refs ((grps.getD 3 []).map fun x => He.ga K x), hb, q _ hs⟩⟩
theorem good_is (Z : CT K mg) : GoodF CX0 P w K mg base 1 "_law_is" ["_law_e", "_law_kind"] (spIs K) := Z.good 49 31 d_is (fun _ _ _ _ _ _ us hl => match us, hl with | [_, _], _ => rfl) fun _ F => ok_is Z F
/-- the things that the law hands to the errors -/
inductive XV (H : Hp) : V → PyData → Prop
  | int (n : Int) : XV H (.int n) (.int n)
  | str (z : Str) (h : SeqAt.shaped (.str z) = true) : XV H (.str z) (.str z)
  | non : XV H .non .none
  | tup (t : Addr) (h : H t = some (.tup [.str "a", .int 1])) : XV H (.ref t) (.tuple [.str "a", .int 1])
theorem XV.same {H H' : Hp} {x : V} {d : PyData} (h : XV H x d) (s : Same H H') : XV H' x d := by
  cases h with
  | int n => exact .int n
  | str z h => exact .str z h
  | non => exact .non
  | tup t h => exact .tup t (s _ _ h)
theorem XV.dp {H : Hp} {x : V} {d : PyData} (h : XV H x d) : Dp K H x d := by
  cases h with
  | int n => exact .int n
  | str z h => exact .str z
  | non => exact .non
  | tup t h => exact .tup (SqT.of h) (.cons (.str _) (.cons (.int _) .nil))
theorem XV.sh {H : Hp} {x : V} {d : PyData} (h : XV H x d) : SeqAt.shaped d = true := by
  cases h with
  | int n => rfl
  | str z h => exact h
  | non => rfl
  | tup t h => decide +kernel
theorem XV.eq {H : Hp} {x : V} {d : PyData} (h : XV H x d) : PyData.eqv d d = true := by
  cases h with
  | int n => exact beq_self_eq_true n
  | str z h => exact beq_self_eq_true z
  | non => rfl
  | tup t h => decide +kernel
theorem vstr_ne {x y : Str} (h : x = y) : (!decide (V.str x = V.str y)) = false := by rw [h]; simp
/-- each error of a lot is as it must be -/
def spRight (P : Program) (w : World) (K : PySem.W.Frag) (mg : Str → Option Value) (base : Heap) : Sp := fun vs H Q _ => ∃ (p a b : Addr) (xs ys : List V) (j : Nat) (x : V) (d : PyData), vs = [.ref p, .int (j : Int), x] ∧ H p = some (.tup [.ref a, .ref b]) ∧ H a = some (.lst xs) ∧ H b = some (.lst ys) ∧ j ∈ [0, 1, 2, 3] ∧
  (∀ v ∈ xs, Item P w K mg base H j v) ∧ (∀ v ∈ ys, v = x) ∧ XV H x d ∧ ∀ H', Same H H' → Q (.bl true) H'
theorem ok_right (Z : CT K mg) (F : FunD K d_right.name d_right.qual d_right.params d_right.body d_right.scope [] [] f fd) : FnOk P w K mg base CX0 3 f fd ["_law_group", "_law_kind", "_law_x"] (spRight P w K mg base) := by
  refine F.ok sc_right (fun vs H Q E h => ?_) (fun cdv A outer s H vs Q E hr h => ?_)
  · obtain ⟨p, a, b, xs, ys, j, x, d, rfl, _⟩ := h
    rfl
  · obtain ⟨p, a, b, xs, ys, j, x, d, rfl, hp, ha, hb, hj, hI, hY, hx, q⟩ := h
    refine ⟨_, PSs.nox (pss_cons (ps_for PassesOwn.never rfl (pi_list (pe_ix ix_tup (pv 0) pe_int (fun _ _ => rfl))) (pg_name (i := 3) sc_right.nd rfl (Or.inl rfl)) (pss_cons (ps_if (PW.pt (pw_or (pt_cmpR op_ne (pe_xmethV hr (pe_ix ix_tup (pv 3) pe_int (fun _ _ => rfl))) (pe_op op_add_str (pe_str) (pe_ix ix_tup (pv 3) pe_int (fun _ _ => rfl))) (nomark _)) (pw_or1 (pt_not (pt_val (pe_callB call_isX (by rfl) (m_isinstance Z) boot_isinstance (pa_cons (pe_ix ix_tup (pv 3) pe_int (fun _ _ => rfl)) (pa_cons (pe_glob (by rfl) (glo_MethodError Z) (rel_ref _)) pa_nil))) (fun _ => rfl)))))) (pss_one (ps_ret pe_bl)) pss_nil)
      (pss_cons (ps_if (pt_not (pt_val (pe_callB call_isX (by rfl) (m_isinstance Z) boot_isinstance (pa_cons (pe_ix ix_tup (pv 3) pe_int (fun _ _ => rfl)) (pa_cons (pe_bltn (by rfl) (m_ValueError Z) boot_ValueError (rel_ty _)) pa_nil))) (fun _ => rfl))) (pss_one (ps_ret pe_bl)) pss_nil)
      (pss_one (ps_for PassesOwn.never rfl (pi_range1 rfl (m_range Z) (pa_cons pe_int pa_nil)) (pg_name (i := 4) sc_right.nd rfl (Or.inl rfl)) (pss_one (ps_if (pt_cmpR op_ne (gcall (good_is Z) hr (pa_cons (pe_ix ix_tup (pv 3) pe_int (fun _ _ => rfl)) (pa_cons (pv 4) pa_nil)) pass0) (pe_cmpR op_eq (pv 4) (pv 1) (nomark _)) (nomark _)) (pss_one (ps_ret pe_bl)) pss_nil)))))))
      (pss_cons (ps_for PassesOwn.never rfl (pi_list (pe_ix ix_tup (pv 0) pe_int (fun _ _ => rfl))) (pg_name (i := 5) sc_right.nd rfl (Or.inl rfl)) (pss_one (ps_if (pt_cmpR (op_neD hr.units) (pv 5) (pv 2) (nomark _)) (pss_one (ps_ret pe_bl)) pss_nil)))
      (pss_one (ps_ret pe_bl)))), ?_⟩
    refine ⟨_, rfl, p, _, 0, _, rfl, rfl, SqT.of hp, rfl, a, rfl, ⟨_, SqL.of ha⟩, ?_⟩
    refine for_list (K := K) (a := a) (xs := xs) (fun i σ H2 => Same H H2 ∧ ∃ u1 u2 u3 : Option V, σ = [some (.ref p), some (.int (j : Int)), some x, u1, u2, u3]) ⟨Same.refl H, _, _, _, rfl⟩ (fun i σ H2 _ z => z.1.seq (SqL.of ha)) ?_ ?_
    · rintro i y σ H2 hi ⟨s2, u1, u2, u3, rfl⟩
      obtain ⟨t, e, C, g, z, z0, fs, rfl, ht, he, hl, M, hz, hn, k1, k2, k3⟩ := hI y (List.mem_of_getElem? hi)
      have ht2 := s2 _ _ ht
      have he2 := he.same s2
      refine ⟨_, rfl, t, _, 0, _, rfl, rfl, SqT.of ht2, rfl, e, C, g, fs, z0, rfl, he2, hl, M, ?_⟩
      refine ⟨_, rfl, t, _, 1, _, rfl, rfl, SqT.of ht2, rfl, _, _, rfl, rfl, ?_, rfl, _, rfl, ?_⟩
      · have e1 : (Str.ofString "refused ").length ≤ 100 := by decide +kernel
        exact Nat.le_trans (Nat.add_le_add e1 hn) (by decide)
      rw [vstr_ne (show z0 = Str.ofString "refused " ++ z from hz.symm)]
      refine iteF ?_
      refine ⟨_, rfl, t, _, 0, _, rfl, rfl, SqT.of ht2, rfl, e, C, fs, _, _, true, rfl, he2, M.c, fun u r => r, k1, true, rfl, ?_⟩
      refine iteF ?_
      refine ⟨_, rfl, t, _, 0, _, rfl, rfl, SqT.of ht2, rfl, e, C, fs, _, _, true, rfl, he2, M.c, fun u r => r, k2, true, rfl, ?_⟩
      refine iteF ?_
      refine ⟨4, rfl, by decide, by decide, ?_⟩
      refine for_range (lo := 0) (n := 4) (fun i σ H3 => Same H H3 ∧ ∃ u2 u3 : Option V, σ = [some (.ref p), some (.int (j : Int)), some x, some (.ref t), u2, u3]) ⟨s2, _, _, rfl⟩ ?_ ?_
      · rintro i2 σ H3 hi2 ⟨s3, v2, v3, rfl⟩
        refine ⟨_, rfl, t, _, 0, _, rfl, rfl, SqT.of (s3 _ _ ht), rfl, _, rfl, e, C, fs, i2, (j == i2), ?_, he.same s3, M.c, ?_, k3 i2 ?_, fun H4 s4 => ?_⟩
        · exact congrArg (fun n : Int => [V.ref e, V.int n]) (by omega)
        · simp only [List.mem_cons, List.not_mem_nil, or_false]; omega
        · simp only [List.mem_cons, List.not_mem_nil, or_false]; omega
        refine ⟨_, rfl, _, rfl, rfl, rfl, _, rfl, ?_⟩
        have e2 : (!decide (V.bl (j == i2) = V.bl (decide (V.int (0 + (i2 : Int)) = V.int (j : Int))))) = false := by
          by_cases h : j = i2
          · subst h
            simp
          · have h2 : (j == i2) = false := beq_eq_false_iff_ne.mpr h
            have h3 : ¬ (V.int (0 + (i2 : Int)) = V.int (j : Int)) := fun y => h (by injection y with y; omega)
            rw [h2, decide_eq_false h3]
            rfl
        rw [e2]
        exact iteF ⟨s3.trans s4, _, _, rfl⟩
      · rintro σ H3 ⟨s3, v2, v3, rfl⟩
        exact ⟨s3, _, _, _, rfl⟩
    · rintro σ H2 ⟨s2, u1, u2, u3, rfl⟩
      refine ⟨_, rfl, p, _, 1, _, rfl, rfl, SqT.of (s2 _ _ hp), rfl, b, rfl, ⟨_, SqL.of (s2 _ _ hb)⟩, ?_⟩
      refine for_list (K := K) (a := b) (xs := ys) (fun i σ H3 => Same H H3 ∧ ∃ u1 u2 u3 : Option V, σ = [some (.ref p), some (.int (j : Int)), some x, u1, u2, u3]) ⟨s2, _, _, _, rfl⟩ (fun i σ H3 _ z => z.1.seq (SqL.of hb)) ?_ ?_
      · rintro i y σ H3 hi ⟨s3, v1, v2, v3, rfl⟩
        obtain rfl := hY y (List.mem_of_getElem? hi)
        have hx3 := hx.same s3
        refine ⟨_, rfl, _, rfl, d, d, hx3.dp, hx3.dp, hx3.sh, hx3.sh, _, rfl, ?_⟩
        rw [hx3.eq]
        exact iteF ⟨s3, _, _, _, rfl⟩
      · rintro σ H3 ⟨s3, v1, v2, v3, rfl⟩
        exact q _ s3
theorem good_right (Z : CT K mg) : GoodF CX0 P w K mg base 3 "_law_right" ["_law_group", "_law_kind", "_law_x"] (spRight P w K mg base) := Z.good 54 36 d_right (fun _ _ _ _ _ _ us hl => match us, hl with | [_, _, _], _ => rfl) fun _ F => ok_right Z F
end
end My

namespace My
open PySem PySem.Spec PyProof.Rows L2 PySem.Calls
theorem x_ne {K : PySem.W.Frag} {mg : Str → Option Value} (Z : CT K mg) {x y : Str} (h : x ∈ grps.flatten) (h2 : y ∈ grps.flatten) (n : (x == y) = false) : PySem.W.kitOne K (rf K x) (rf K y) = some false := by rw [x_one Z h h2, n]
theorem rel_one {c : Addr} : ∀ u, RelV (.ref c) u → u = Value.ref c := fun _ r => r
theorem if_eqv {H : Hp} {x : V} {d : PyData} {A B : Prop} (h : XV H x d) (q : A) : if PyData.eqv d d = true then A else B := by rw [h.eq]; exact iteT q
end My

local macro_rules | `(tactic| walk_at "my more") => `(tactic| first | ((with_reducible show PySem.W.kitOne _ _ _ = _); exact My.x_ne ‹_› (by decide +kernel) (by decide +kernel) (by decide +kernel)) | ((with_reducible show L2.Dp _ _ _ _); exact (My.XV.same (by assumption) (by walk_at "my ss")).dp) | ((with_reducible show PySem.SeqAt.shaped _ = _); exact My.XV.sh (by assumption)) | (refine My.if_eqv (by assumption) ?_) | exact My.rel_one)
namespace My
open PySem PySem.Spec PyProof.Rows L2 PySem.Calls
section
variable {P : Program} {w : World} {K : PySem.W.Frag} {mg : Str → Option Value} {base : Heap} {fd : FuncData} {f : Addr}
def spParted : Sp := fun vs H Q _ => ∃ (x y : V) (d e : PyData), vs = [x, y] ∧ XV H x d ∧ XV H y e ∧ ∀ H', Q (.bl true) H'
theorem ok_parted (Z : CT K mg) (F : FunD K d_parted.name d_parted.qual d_parted.params d_parted.body d_parted.scope [] [] f fd) : FnOk P w K mg base CX0 3 f fd ["_law_x", "_law_y"] spParted := by
  refine F.ok sc_parted (fun vs H Q E h => ?_) (fun cdv A outer s H vs Q E hr h => ?_)
  · obtain ⟨x, y, d, e, rfl, _⟩ := h
    rfl
  · obtain ⟨x, y, d, e, rfl, hx, hy, q⟩ := h
    refine ⟨_, (pss_cons (ps_if (PW.pt (pw_or (pt_val (pe_callB call_isX (by rfl) (m_isinstance Z) boot_isinstance (pa_cons (mkI_NoRatio Z hr (pa_cons (pv 0) pa_nil)) (pa_cons (pe_glob (by rfl) (glo_NoQuestion Z) (rel_ref _)) pa_nil))) (fun _ => rfl)) (pw_or (pt_val (pe_callB call_isX (by rfl) (m_isinstance Z) boot_isinstance (pa_cons (mkI_NoQuestion Z hr (pa_cons (pv 0) pa_nil)) (pa_cons (pe_glob (by rfl) (glo_NoRatio Z) (rel_ref _)) pa_nil))) (fun _ => rfl)) (pw_or1 (pt_val (pe_callB call_isX (by rfl) (m_isinstance Z) boot_isinstance (pa_cons (mkI_NoSuch Z hr (pa_cons (pv 0) pa_nil)) (pa_cons (pe_glob (by rfl) (glo_NoName Z) (rel_ref _)) pa_nil))) (fun _ => rfl)))))) (pss_one (ps_ret pe_bl)) pss_nil)
      (pss_cons (ps_if (PW.pt (pw_or (pt_val (pe_callB call_isX (by rfl) (m_isinstance Z) boot_isinstance (pa_cons (mkI_NoName Z hr (pa_cons (pv 0) pa_nil)) (pa_cons (pe_glob (by rfl) (glo_NoSuch Z) (rel_ref _)) pa_nil))) (fun _ => rfl)) (pw_or (pt_val (pe_callB call_isX (by rfl) (m_isinstance Z) boot_isinstance (pa_cons (mkI_NoRun Z hr (pa_cons (pv 0) pa_nil)) (pa_cons (pe_glob (by rfl) (glo_NoWorld Z) (rel_ref _)) pa_nil))) (fun _ => rfl)) (pw_or1 (pt_val (pe_callB call_isX (by rfl) (m_isinstance Z) boot_isinstance (pa_cons (mkI_Full Z hr (pa_cons (pv 0) pa_nil)) (pa_cons (pe_glob (by rfl) (glo_Twice Z) (rel_ref _)) pa_nil))) (fun _ => rfl)))))) (pss_one (ps_ret pe_bl)) pss_nil)
      (pss_cons (ps_if (PW.pt (pw_or (pt_val (pe_callB call_isX (by rfl) (m_isinstance Z) boot_isinstance (pa_cons (mkI_NoStep Z hr (pa_cons (pv 0) pa_nil)) (pa_cons (pe_glob (by rfl) (glo_NoWeights Z) (rel_ref _)) pa_nil))) (fun _ => rfl)) (pw_or (pt_val (pe_callB call_isX (by rfl) (m_isinstance Z) boot_isinstance (pa_cons (mkI_NoWeights Z hr (pa_cons (pv 0) pa_nil)) (pa_cons (pe_glob (by rfl) (glo_NoReadings Z) (rel_ref _)) pa_nil))) (fun _ => rfl)) (pw_or1 (pt_val (pe_callB call_isX (by rfl) (m_isinstance Z) boot_isinstance (pa_cons (mkI_NoReadings Z hr (pa_cons (pv 0) pa_nil)) (pa_cons (pe_glob (by rfl) (glo_NoStep Z) (rel_ref _)) pa_nil))) (fun _ => rfl)))))) (pss_one (ps_ret pe_bl)) pss_nil)
      (pss_cons (ps_if (PW.pt (pw_or (pt_val (pe_callB call_isX (by rfl) (m_isinstance Z) boot_isinstance (pa_cons (mkI_NoGoal Z hr (pa_cons (pv 0) pa_nil)) (pa_cons (pe_glob (by rfl) (glo_NoGoals Z) (rel_ref _)) pa_nil))) (fun _ => rfl)) (pw_or (pt_val (pe_callB call_isX (by rfl) (m_isinstance Z) boot_isinstance (pa_cons (mkI_NoGoals Z hr (pa_cons (pv 0) pa_nil)) (pa_cons (pe_glob (by rfl) (glo_NoGoal Z) (rel_ref _)) pa_nil))) (fun _ => rfl)) (pw_or1 (pt_val (pe_callB call_isX (by rfl) (m_isinstance Z) boot_isinstance (pa_cons (mkI_NoFactor Z hr (pa_cons (pv 0) pa_nil)) (pa_cons (pe_glob (by rfl) (glo_NoTable Z) (rel_ref _)) pa_nil))) (fun _ => rfl)))))) (pss_one (ps_ret pe_bl)) pss_nil)
      (pss_cons (ps_if (PW.pt (pw_or (pt_val (pe_callB call_isX (by rfl) (m_isinstance Z) boot_isinstance (pa_cons (mkI_BadText Z hr (pa_cons (pv 0) pa_nil)) (pa_cons (pe_glob (by rfl) (glo_NoCommand Z) (rel_ref _)) pa_nil))) (fun _ => rfl)) (pw_or (pt_val (pe_callB call_isX (by rfl) (m_isinstance Z) boot_isinstance (pa_cons (mkI_BadLine Z hr (pa_cons (pv 0) (pa_cons (pv 1) pa_nil))) (pa_cons (pe_glob (by rfl) (glo_BadText Z) (rel_ref _)) pa_nil))) (fun _ => rfl)) (pw_or1 (pt_val (pe_callB call_isX (by rfl) (m_isinstance Z) boot_isinstance (pa_cons (mkI_NoCommand Z hr (pa_cons (pv 0) pa_nil)) (pa_cons (pe_glob (by rfl) (glo_BadText Z) (rel_ref _)) pa_nil))) (fun _ => rfl)))))) (pss_one (ps_ret pe_bl)) pss_nil)
      (pss_cons (ps_if (PW.pt (pw_or (pt_val (pe_callB call_isX (by rfl) (m_isinstance Z) boot_isinstance (pa_cons (mk0_NoUndo Z) (pa_cons (pe_glob (by rfl) (glo_NoRedo Z) (rel_ref _)) pa_nil))) (fun _ => rfl)) (pw_or (pt_val (pe_callB call_isX (by rfl) (m_isinstance Z) boot_isinstance (pa_cons (mk0_NoRedo Z) (pa_cons (pe_glob (by rfl) (glo_NoUndo Z) (rel_ref _)) pa_nil))) (fun _ => rfl)) (pw_or1 (pt_val (pe_callB call_isX (by rfl) (m_isinstance Z) boot_isinstance (pa_cons (mk0_Clash Z) (pa_cons (pe_glob (by rfl) (glo_Unbounded Z) (rel_ref _)) pa_nil))) (fun _ => rfl)))))) (pss_one (ps_ret pe_bl)) pss_nil)
      (pss_cons (ps_if (PW.pt (pw_or (pt_val (pe_callB call_isX (by rfl) (m_isinstance Z) boot_isinstance (pa_cons (mk0_Unbounded Z) (pa_cons (pe_glob (by rfl) (glo_Clash Z) (rel_ref _)) pa_nil))) (fun _ => rfl)) (pw_or (pt_val (pe_callB call_isX (by rfl) (m_isinstance Z) boot_isinstance (pa_cons (mkI_NoOffer Z hr (pa_cons (pv 0) (pa_cons (pv 1) pa_nil))) (pa_cons (pe_glob (by rfl) (glo_NoGoal Z) (rel_ref _)) pa_nil))) (fun _ => rfl)) (pw_or1 (pt_val (pe_callB call_isX (by rfl) (m_isinstance Z) boot_isinstance (pa_cons (mkI_NoGoal Z hr (pa_cons (pv 0) pa_nil)) (pa_cons (pe_glob (by rfl) (glo_NoOffer Z) (rel_ref _)) pa_nil))) (fun _ => rfl)))))) (pss_one (ps_ret pe_bl)) pss_nil)
      (pss_cons (ps_if (PW.pt (pw_or (pt_val (pe_callB call_isX (by rfl) (m_isinstance Z) boot_isinstance (pa_cons (mkI_Full Z hr (pa_cons (pv 0) pa_nil)) (pa_cons (pe_glob (by rfl) (glo_NoStep Z) (rel_ref _)) pa_nil))) (fun _ => rfl)) (pw_or (pt_val (pe_callB call_isX (by rfl) (m_isinstance Z) boot_isinstance (pa_cons (mkI_NoStep Z hr (pa_cons (pv 0) pa_nil)) (pa_cons (pe_glob (by rfl) (glo_Full Z) (rel_ref _)) pa_nil))) (fun _ => rfl)) (pw_or1 (pt_val (pe_callB call_isX (by rfl) (m_isinstance Z) boot_isinstance (pa_cons (mk0_NoMethod Z) (pa_cons (pe_glob (by rfl) (glo_NoWild Z) (rel_ref _)) pa_nil))) (fun _ => rfl)))))) (pss_one (ps_ret pe_bl)) pss_nil)
      (pss_cons (ps_if (PW.pt (pw_or (pt_val (pe_callB call_isX (by rfl) (m_isinstance Z) boot_isinstance (pa_cons (mk0_NoWild Z) (pa_cons (pe_glob (by rfl) (glo_NoMethod Z) (rel_ref _)) pa_nil))) (fun _ => rfl)) (pw_or (pt_val (pe_callB call_isX (by rfl) (m_isinstance Z) boot_isinstance (pa_cons (mk0_NoOrder Z) (pa_cons (pe_glob (by rfl) (glo_BadText Z) (rel_ref _)) pa_nil))) (fun _ => rfl)) (pw_or1 (pt_val (pe_callB call_isX (by rfl) (m_isinstance Z) boot_isinstance (pa_cons (mkI_NoTable Z hr (pa_cons (pv 0) pa_nil)) (pa_cons (pe_glob (by rfl) (glo_NoFactor Z) (rel_ref _)) pa_nil))) (fun _ => rfl)))))) (pss_one (ps_ret pe_bl)) pss_nil)
      (pss_cons (ps_set (i := 2) sc_parted.nd rfl (Or.inl rfl) (mkI_BadLine Z hr (pa_cons (pv 0) (pa_cons (pv 1) pa_nil))))
      (pss_cons (ps_set (i := 3) sc_parted.nd rfl (Or.inl rfl) (mkI_NoOffer Z hr (pa_cons (pv 1) (pa_cons (pv 0) pa_nil))))
      (pss_one (ps_ret ((pe_and (pe_cmpR (op_eqD hr.units) (pe_xfld (pv 2)) (pv 0) (nomark _)) (pe_and (pe_cmpR (op_eqD hr.units) (pe_xfld (pv 2)) (pv 1) (nomark _)) (pe_and (pe_cmpR (op_eqD hr.units) (pe_xfld (pv 3)) (pv 1) (nomark _)) (pe_one (pe_cmpR (op_eqD hr.units) (pe_xfld (pv 3)) (pv 0) (nomark _)))))))))))))))))))), ?_⟩
    walk_at "my go"
    show Q (.bl (PyData.eqv d d)) _
    rw [hx.eq]
    exact q _
theorem good_parted (Z : CT K mg) : GoodF CX0 P w K mg base 3 "_law_parted" ["_law_x", "_law_y"] spParted := Z.good 55 37 d_parted (fun _ _ _ _ _ _ us hl => match us, hl with | [_, _], _ => rfl) fun _ F => ok_parted Z F
end
end My

namespace My
open PySem PySem.Spec PyProof.Rows L2 PySem.Calls
section
variable {P : Program} {w : World} {K : PySem.W.Frag} {mg : Str → Option Value} {base : Heap} {fd : FuncData} {f : Addr}
theorem sh_all (c : Str) (hc : (List.range 100).all (fun n => SeqAt.shaped (.str (c ++ Str.ofString (toString (n : Int))))) = true) {r : Int} (h0 : 0 ≤ r) (h1 : r < 100) : SeqAt.shaped (.str (c ++ Str.ofString (toString r))) = true := by
  obtain ⟨n, rfl⟩ : ∃ n : Nat, r = (n : Int) := ⟨r.toNat, by omega⟩
  exact List.all_eq_true.mp hc n (List.mem_range.mpr (by omega))
theorem ln_all (c : Str) (hc : (List.range 100).all (fun n => decide (c.length + (Str.ofString (toString (n : Int))).length ≤ sizeLine)) = true) {r : Int} (h0 : 0 ≤ r) (h1 : r < 100) : c.length + (Str.ofString (toString r)).length ≤ sizeLine := by
  obtain ⟨n, rfl⟩ : ∃ n : Nat, r = (n : Int) := ⟨r.toNat, by omega⟩
  exact of_decide_eq_true (List.all_eq_true.mp hc n (List.mem_range.mpr (by omega)))
theorem log_100 {r : Int} (h0 : 0 ≤ r) (h1 : r < 100) : r.natAbs.log2 < 1920 := Nat.lt_of_lt_of_le (PySem.Flt.log2_lt_of (by decide : 0 < 7) (by omega)) (by decide)
theorem XV.keep {H H' : Hp} {p : Addr} {zs : List V} {x : V} {d : PyData} (h : XV H x d) (hp : H p = some (.lst zs)) (k : ∀ b, b ≠ p → H' b = H b) : XV H' x d := by
  cases h with
  | int n => exact .int n
  | str z h => exact .str z h
  | non => exact .non
  | tup t h => exact .tup t (by rw [k t (ne_of h hp (by intro z; cases z))]; exact h)
def spLaw (K : PySem.W.Frag) : Sp := fun vs H Q _ => ∃ (a : Addr) (ns : List Int), vs = [.ref a] ∧ SqL K H a (ns.map V.int) ∧ ∀ H', Q (.bl true) H'
theorem ok_law (Z : CT K mg) (F : FunD K d_law.name d_law.qual d_law.params d_law.body d_law.scope [] [] f fd) : FnOk P w K mg base CX0 4 f fd ["_law_script"] (spLaw K) := by
  refine F.ok sc_law (fun vs H Q E h => ?_) (fun cdv A outer s H vs Q E hr h => ?_)
  · obtain ⟨a, ns, rfl, _⟩ := h
    rfl
  · obtain ⟨a, ns, rfl, hS, q⟩ := h
    refine ⟨_, (pss_cons (ps_set (i := 1) sc_law.nd rfl (Or.inl rfl) (gcall (good_pouch Z) hr (pa_cons (pv 0) (pa_cons pe_int pa_nil)) pass0))
      (pss_cons (ps_set (i := 2) sc_law.nd rfl (Or.inl rfl) (pe_ix ix_list (pe_lstN (pa_cons (gcall (good_draw Z) hr (pa_cons (pv 1) (pa_cons (pe_op op_pow (pe_int) (pe_int)) pa_nil)) pass0) (pa_cons (pe_op op_add_str (pe_str) (pe_callTy call_str_int (by rfl) (m_str Z) boot_str (pa_cons (gcall (good_draw Z) hr (pa_cons (pv 1) (pa_cons pe_int pa_nil)) pass0) pa_nil))) (pa_cons pe_non (pa_cons (pe_tupN (pa_cons pe_str (pa_cons pe_int pa_nil))) pa_nil))))) (gcall (good_draw Z) hr (pa_cons (pv 1) (pa_cons pe_int pa_nil)) pass0) (fun _ _ => rfl)))
      (pss_cons (ps_if (PW.pt (pw_or (pt_not (pt_val (gcall (good_right Z) hr (pa_cons (gcall (good_first Z) hr (pa_cons (pv 2) pa_nil) pass0) (pa_cons pe_int (pa_cons (pv 2) pa_nil))) pass0) (fun _ => rfl))) (pw_or1 (pt_not (pt_val (gcall (good_right Z) hr (pa_cons (gcall (good_second Z) hr (pa_cons (pv 2) pa_nil) pass0) (pa_cons pe_int (pa_cons (pv 2) pa_nil))) pass0) (fun _ => rfl)))))) (pss_one (ps_ret pe_bl)) pss_nil)
      (pss_cons (ps_if (PW.pt (pw_or (pt_not (pt_val (gcall (good_right Z) hr (pa_cons (gcall (good_third Z) hr (pa_cons (pv 2) pa_nil) pass0) (pa_cons pe_int (pa_cons (pv 2) pa_nil))) pass0) (fun _ => rfl))) (pw_or1 (pt_not (pt_val (gcall (good_right Z) hr (pa_cons (gcall (good_fourth Z) hr (pa_cons (pv 2) pa_nil) pass0) (pa_cons pe_int (pa_cons (pv 2) pa_nil))) pass0) (fun _ => rfl)))))) (pss_one (ps_ret pe_bl)) pss_nil)
      (pss_cons (ps_set (i := 3) sc_law.nd rfl (Or.inl rfl) (mk0_MethodError Z))
      (pss_cons (ps_if (PW.pt (pw_or (pt_cmpR op_ne (pe_xmethV hr (pv 3)) (pe_str) (nomark _)) (pw_or (pt_not (pt_val (pe_callB call_isX (by rfl) (m_isinstance Z) boot_isinstance (pa_cons (pv 3) (pa_cons (pe_bltn (by rfl) (m_ValueError Z) boot_ValueError (rel_ty _)) pa_nil))) (fun _ => rfl))) (pw_or1 (pt_val (pe_callB call_isX (by rfl) (m_isinstance Z) boot_isinstance (pa_cons (pv 3) (pa_cons (pe_glob (by rfl) (glo_NoRatio Z) (rel_ref _)) pa_nil))) (fun _ => rfl)))))) (pss_one (ps_ret pe_bl)) pss_nil)
      (pss_one (ps_ret (gcall (good_parted Z) hr (pa_cons (pv 2) (pa_cons (pe_op op_add_str (pe_str) (pe_callTy call_str_int (by rfl) (m_str Z) boot_str (pa_cons (gcall (good_draw Z) hr (pa_cons (pv 1) (pa_cons pe_int pa_nil)) pass0) pa_nil))) pa_nil)) pass0))))))))), ?_⟩
    -- the pouch, the draws
    refine ⟨_, rfl, a, ns, 0, rfl, hS, by decide, by decide, fun p x y H1 hx hy hy2 hn hs hp => ?_⟩
    refine ⟨_, rfl, _, _, rfl, rfl, ⟨by decide, by decide, by decide⟩, p, x, y, _, rfl, hp, hx, hy, by omega, by decide, by decide, fun r1 x1 y1 H2 ra rb hx1 hy1 hz1 k2 hp2 => ?_⟩
    refine ⟨_, rfl, p, x1, y1, 100, rfl, hp2, hx1, by omega, by omega, by decide, by decide, fun r2 x2 y2 H3 rc rd hx2 hy2 hz2 k3 hp3 => ?_⟩
    refine ⟨r2, rfl, log_100 rc rd, _, _, rfl, rfl, ln_all _ (by decide +kernel) rc rd, rfl, fun t H4 hs4 ht hn4 => ⟨rfl, fun l H5 hs5 hl hn5 => ?_⟩⟩
    have hp5 := hs5 _ _ (hs4 _ _ hp3)
    refine ⟨_, rfl, p, x2, y2, 4, rfl, hp5, hx2, by omega, by omega, by decide, by decide, fun r3 x3 y3 H6 re rf' hx3 hy3 hz3 k6 hp6 => ?_⟩
    have hlp : l ≠ p := Ne.symm (ne_of_none (hs4 _ _ hp3) hn5)
    have htp : t ≠ p := Ne.symm (ne_of_none hp3 hn4)
    obtain ⟨v, d, hv, hX⟩ : ∃ v d, atI [V.int r1, V.str (Str.ofString "w" ++ Str.ofString (toString r2)), V.non, V.ref t] r3 = some v ∧ XV H6 v d := by
      rcases (by omega : r3 = 0 ∨ r3 = 1 ∨ r3 = 2 ∨ r3 = 3) with rfl | rfl | rfl | rfl
      · exact ⟨_, _, rfl, .int _⟩
      · exact ⟨_, _, rfl, .str _ (sh_all _ (by decide +kernel) rc rd)⟩
      · exact ⟨_, _, rfl, .non⟩
      · exact ⟨_, _, rfl, .tup t (by rw [k6 t htp]; exact hs5 _ _ ht)⟩
    refine ⟨_, _, _, v, rfl, rfl, SqL.of (by rw [k6 l hlp]; exact hl), hv, ?_⟩
    -- the four lots
    refine ⟨_, rfl, v, rfl, fun p1 a1 b1 xs1 ys1 G1 s1 g1 g2 g3 hI1 hY1 => ⟨_, rfl, p1, a1, b1, xs1, ys1, 0, v, d, rfl, g1, g2, g3, by decide, hI1, hY1, hX.same s1, fun G2 s2 => ⟨true, rfl, iteF ?_⟩⟩⟩
    refine ⟨_, rfl, v, rfl, fun p2 a2 b2 xs2 ys2 G3 s3 g4 g5 g6 hI2 hY2 => ⟨_, rfl, p2, a2, b2, xs2, ys2, 1, v, d, rfl, g4, g5, g6, by decide, hI2, hY2, ((hX.same s1).same s2).same s3, fun G4 s4 => ⟨true, rfl, iteF ?_⟩⟩⟩
    have hX2 := (((hX.same s1).same s2).same s3).same s4
    have hp7 := s4 _ _ (s3 _ _ (s2 _ _ (s1 _ _ hp6)))
    clear s1 g1 g2 g3 hI1 hY1 s2 s3 g4 g5 g6 hI2 hY2 s4
    refine ⟨_, rfl, v, rfl, fun p1 a1 b1 xs1 ys1 G1 s1 g1 g2 g3 hI1 hY1 => ⟨_, rfl, p1, a1, b1, xs1, ys1, 2, v, d, rfl, g1, g2, g3, by decide, hI1, hY1, hX2.same s1, fun G2 s2 => ⟨true, rfl, iteF ?_⟩⟩⟩
    refine ⟨_, rfl, v, rfl, fun p2 a2 b2 xs2 ys2 G3 s3 g4 g5 g6 hI2 hY2 => ⟨_, rfl, p2, a2, b2, xs2, ys2, 3, v, d, rfl, g4, g5, g6, by decide, hI2, hY2, ((hX2.same s1).same s2).same s3, fun G4 s4 => ⟨true, rfl, iteF ?_⟩⟩⟩
    have hX3 := (((hX2.same s1).same s2).same s3).same s4
    have hp8 := s4 _ _ (s3 _ _ (s2 _ _ (s1 _ _ hp7)))
    clear s1 g1 g2 g3 hI1 hY1 s2 s3 g4 g5 g6 hI2 hY2 s4
    -- MethodError itself
    intro e H7 s7 he hn7
    refine ⟨_, rfl, e, _, _, _, _, rfl, he, rfl, told_MethodError Z, rfl, _, rfl, ?_⟩
    rw [vstr_ne rfl]
    refine iteF ?_
    refine ⟨_, rfl, e, _, _, _, _, true, rfl, he, x_all Z (by decide +kernel), fun u r => r, x_ve Z (by decide +kernel), true, rfl, iteF ?_⟩
    refine ⟨_, rfl, e, _, _, _, _, false, rfl, he, x_all Z (by decide +kernel), fun u r => r, ex_5 Z, false, rfl, iteF ?_⟩
    -- the last
    refine ⟨_, rfl, _, rfl, p, x3, y3, 100, rfl, s7 _ _ hp8, hx3, by omega, by omega, by decide, by decide, fun r4 x4 y4 H8 rg rh hx4 hy4 hz4 k8 hp9 => ?_⟩
    exact ⟨r4, rfl, log_100 rg rh, _, _, rfl, rfl, ln_all _ (by decide +kernel) rg rh, v, _, d, _, rfl, (hX3.same s7).keep (s7 _ _ hp8) k8, .str _ (sh_all _ (by decide +kernel) rg rh), fun H' => q H'⟩
theorem good_law (Z : CT K mg) : GoodF CX0 P w K mg base 4 "law" ["_law_script"] (spLaw K) := Z.good 56 38 d_law (fun _ _ _ _ _ _ us hl => match us, hl with | [_], _ => rfl) fun _ F => ok_law Z F
end
end My

open PySem PySem.W PySem.Calls PyProof.Rows
set_option maxRecDepth 100000 in
set_option maxHeartbeats 0 in
theorem PySem.Challenge.cw_anymethod_k12_every_error_holds : PySem.Challenge.rw_anymethod_k12_every_error.Holds := by
  w_on; o_law
  refine HandSHeadRun.head_any (r := OpenLaw.row PySem.Challenge.rw_anymethod_k12_every_error) (q := view (OpenLaw.row PySem.Challenge.rw_anymethod_k12_every_error).prog [40]) (H := My.hk) (ob := My.ob) (M := 9000) (loose := My.loose) (d := HandSHeadRun.topDef (OpenLaw.row PySem.Challenge.rw_anymethod_k12_every_error).prog 40) (kwd := []) My.ob_eq (by kernel_rfl) (fun s => by kernel_rfl) My.run (by kernel_rfl) (by kernel_rfl) (by kernel_rfl) (by rfl) (by first | assumption | decide +kernel) (by decide +kernel) ⟨rfl, rfl, rfl, rfl, rfl, by decide +kernel⟩ ?hw ?hc
  case hw => w_witness2
  case hc =>
    refine L2.walk_ofE (l := PySem.Challenge.rw_anymethod_k12_every_error) (n := 63) (k := 4) (x := "_law_script") (CX := L2.CX0) rfl (by decide) (by kernel_rfl) ⟨rfl, by decide, by decide⟩ ?F (fun _ _ _ _ z => z)
    intro w mg fa h Y G hmg0
    obtain ⟨K, KX, c⟩ := Y
    have Z : My.CT K mg := My.ctx_of KX G c
    have hmg : mg ("law" : PySem.Str) = some (.ref fa) := by
      rw [show ("law" : PySem.Str) = (HandSHeadRun.topDef (OpenLaw.row PySem.Challenge.rw_anymethod_k12_every_error).prog 40).name by kernel_rfl]; exact hmg0
    obtain ⟨fd, F⟩ := Z.d.def_ 56 (d := My.d_law) rfl
    have e := hmg.symm.trans (Z.glo 38 rfl)
    cases e
    exact ⟨K, fd, My.spLaw K, KX, fun s u => L2.FunD.bindsA (ps := ["_law_script"]) F (fun _ _ _ _ _ _ us hl => match us, hl with | [_], _ => rfl) s [u] rfl, fun H a ns hl _ hS => ⟨a, ns, rfl, hS, fun _ => rfl⟩, fun base _ _ => My.ok_law Z F⟩

