import PyProof.Rows.All
import Wide.All
import OpenK.AllK
import Wide.FinOn
import HandS.ForExc
import HandS.ExcInit
import HandS.ExcField
import HandS.ExcIs
import HandS.IsInst
import HandS.SetFor
import HandS.SortInts
import HandS.Strs
import HandS.Zip
import HandS.ForMost
import HandS.Flow
import HandS.Wide
import HandS.Walk
import HandS.Evl
import PySem.Challenge.RW_ranksweeps_k01_rows
set_option Elab.async false
set_option linter.all false
set_option maxRecDepth 100000
set_option maxHeartbeats 8000000
namespace Own
open PySem L2 PySem.Spec PyProof.Rows

/-- behind the suite of a clause with a name the name's slot is empty -/
def cut (D : Ends) (i : Nat) : Ends where
  nx := fun τ G => D.nx (τ.set i none) G
  rt := D.rt
  bk := fun τ G => D.bk (τ.set i none) G
  ct := fun τ G => D.ct (τ.set i none) G
abbrev Suite := Addr → Value → Option Addr → TS
/-- clauses, each with its class, its name's slot, its suite: the first one that names the class takes the exception -/
def wClauses (K : PySem.W.Frag) (W₀ : WX) (D : Ends) : List (Value × Nat × Suite) → WX
  | [] => W₀
  | (c, i, ts) :: more => fun cls d τ G => ∃ yes : Bool, PySem.W.exmOne K cls c = some yes ∧
      (yes = true → ∀ a, G a = none → ts a cls d (cut D i) (τ.set i (some (.ref a))) G) ∧ (yes = false → wClauses K W₀ D more cls d τ G)
inductive Clauses (X : Cx) : List ExceptHandler → List (Value × Nat × Suite) → Prop
  | none : Clauses X [] []
  | more {x n : Str} {c : Value} {i : Nat} {ts : Suite} {st : Stmt} {sts : List Stmt} {p q : Pos} {hds : List ExceptHandler} {l : List (Value × Nat × Suite)}
      (named : Names X x c) (slot : X.N[i]? = some n) (loc : X.env.kindOf n = some .local)
      (suite : ∀ (a : Addr) (oe : Obj) (cls : Value) (d : Option Addr) (pn : List (Addr × Obj)), Zc cls d oe → (∃ vs, oe.data = .fields vs) → PSs (X.suite a ((a, oe) :: pn)) (st :: sts) (ts a cls d))
      (rest : Clauses X hds l) : Clauses X (.ExceptHandler (some (.Name x p)) (some n) (st :: sts) q :: hds) ((c, i, ts) :: l)

/-- what stands when an exception of the body has landed in front of the clauses -/
structure Landed (X : Cx) (pins : List (Addr × Obj)) (σ : L2.St) (H : Hp) (cls : Value) (d : Option Addr) (a : Addr) (B : Heap) (sI s' : Shared) (h : Heap) : Prop where
  fly : HandSPX.FlyingZ B (X.env :: X.outer) a (Zc cls d) h
  inv : Inv X pins σ H { s' with heap := h }
  before : Inv X pins σ H sI
  nb : ∀ b o, sI.heap.get? b = some o → b ∉ frs X.stack → B.get? b = some o
  up : sI.heap.UpToSlots h
  free : H a = none
  os : s'.os = sI.os
  ag : AllBare s'.gens
  notL : a ≠ X.env.locals
  notF : a ∉ X.fs

section
variable {X : Cx} {pins : List (Addr × Obj)} {σ : L2.St} {H : Hp} {cls : Value} {d : Option Addr} {a : Addr} {B : Heap} {sI s' : Shared} {h : Heap} {W₀ : WX} {D : Ends}

theorem Landed.off (T : Landed X pins σ H cls d a B sI s' h) (hstk : X.stack = X.env :: X.outer) (hfrm : X.env.frame = some X.env.locals) (tk : Takes X W₀) (w : W₀ cls d σ H) :
    wpAny (model X.prog X.w) X.A (handleBy (.ref a) X.env []) (SP X pins D) X.xe { s' with heap := h } := by
  refine wpAny_handleBy_nil ?_
  obtain ⟨-, -, -, oe, vs, tb, -, -, hoe, -, hda, hv1, -⟩ := id T.fly
  have isNone : ¬ ((Value.ref tb == Value.none) = true) := by simp
  have away : wpAny (model X.prog X.w) X.A (setFlight (.ref a) X.env.frame) (fun _ s4 => wpAny (model X.prog X.w) X.A (throw (.ref a) : Sem Flow) (SP X pins D) X.xe s4) X.xe { s' with heap := h } := by
    rw [hfrm]
    refine HandSPX.setFlight_upZ T.fly fun h4 held up4 => wpAny_throw (tk _ _ ?_)
    exact ⟨a, B, sI, pins, σ, H, cls, d, rfl, T.before, T.nb, T.up.trans up4, Or.inr (Or.inr (by rw [hstk]; exact held)), T.free, T.os, T.ag, w⟩
  unfold PySem.passOn
  refine wpAny_bind (wpAny_field hoe hda hv1 ?_)
  rw [if_neg isNone]
  first | exact wpAny_bind (wpAny_pure (wpAny_bind away)) | exact wpAny_bind away

theorem Landed.clauses (T : Landed X pins σ H cls d a B sI s' h) (hstk : X.stack = X.env :: X.outer) (hfrm : X.env.frame = some X.env.locals) (nd : X.N.Nodup) (tk : Takes X W₀)
    {hds : List ExceptHandler} {l : List (Value × Nat × Suite)} (C : Clauses X hds l) (w : wClauses X.K W₀ D l cls d σ H) :
    wpAny (model X.prog X.w) X.A (handleBy (.ref a) X.env hds) (SP X pins D) X.xe { s' with heap := h } := by
  have ok := T.inv.ok
  induction C with
  | none => exact T.off hstk hfrm tk w
  | @more x n c i ts st sts p q hds l named slot loc suite rest ih =>
    obtain ⟨yes, e, w1, w2⟩ := w
    obtain ⟨oe, vs, hoe, hz, hda⟩ := T.fly.there
    have S := T.inv.suite hoe hda T.free T.notL T.notF
    have tyA : PySem.W.Looks (model X.prog X.w) h (typeOf (.ref a)) cls := fun _ _ _ _ keep q => wpAny_typeOf_ref (keep _ _ hoe) (by rw [hz.1]; exact q)
    refine wpAny_handleBy_cons (codeAny_handlers_test ?_) (fun z => by cases z)
    have name : ∀ {Q : Value → Shared → Prop} {E : Value → Shared → Prop}, Q c { s' with heap := h } → wpAny (model X.prog X.w) (X.A.mark (some (.ref a))) (eval (.Name x p) X.env) Q E { s' with heap := h } := by
      intro Q E k
      rcases named with ⟨gl, dbg, own | ⟨noOwn, blt, nn⟩⟩
      · exact ld_glob (X := X.suite a ((a, oe) :: (X.pn ++ pins))) S gl own k dbg
      · exact ld_blt (X := X.suite a ((a, oe) :: (X.pn ++ pins))) S gl noOwn blt k nn dbg
    refine name ((PySem.W.exm_one (M := model X.prog X.w) T.inv.kIn tyA e).here ?_)
    match yes, w1, w2 with
    | false, _, w2 => exact ih (w2 rfl)
    | true, w1, _ =>
      refine codeAny_handlers_suite_as (HandSPX.lands_againZ T.fly fun h4 fly4 up4 => ?_)
      have J4 : Inv X pins σ H { s' with heap := h4 } := T.before.landed T.nb fly4.1 (T.up.trans up4) T.os T.ag
      obtain ⟨oe4, vs4, hoe4, hz4, hda4⟩ := fly4.there
      refine store_ok (X := X.suite a ((a, oe4) :: (X.pn ++ pins))) (v := .ref a) (J4.suite hoe4 hda4 T.free T.notL T.notF) nd slot (Or.inl loc) rfl (fun s5 S5 => ?_) (Or.inr loc)
      have gone : ∀ {τ : L2.St} {G : Hp} {s6 : Shared} {R : Shared → Prop}, Inv (X.suite a ((a, oe4) :: (X.pn ++ pins))) [] τ G s6 → (∀ s7, Inv X pins (τ.set i none) G s7 → R s7) →
          wpAny (model X.prog X.w) X.A (do bindName X.env n .none; unbindBehindTheSuite X.env n q) (fun _ s7 => R s7) X.xe s6 := fun S6 k => gone_ok (S6.unsuite ok) nd slot loc k
      refine wpAny_mono ((suite a oe4 cls d (X.pn ++ pins) hz4 ⟨_, hda4⟩).run [] s5 _ H _ S5 (w1 rfl a T.free)) (fun f s6 r => ?_) (fun _ _ z => False.elim z)
      match f, r with
      | .next, ⟨_, _, S6, k⟩ => exact gone S6 fun _ J => ⟨_, _, J, k⟩
      | .brk, ⟨_, _, S6, k⟩ => exact gone S6 fun _ J => ⟨_, _, J, k⟩
      | .cont, ⟨_, _, S6, k⟩ => exact gone S6 fun _ J => ⟨_, _, J, k⟩
      | .ret u, ⟨_, _, _, S6, rel, k⟩ => exact gone S6 fun _ J => ⟨_, _, _, J, rel, k⟩
end

/-- try: body / except X as n: .. / except Y as m: .. -/
theorem ps_try_names {X : Cx} {body : List Stmt} {hd : ExceptHandler} {hds : List ExceptHandler} {l : List (Value × Nat × Suite)} {pos : Pos} {tb : WX → TS} {W₀ : WX}
    (hstk : X.stack = X.env :: X.outer) (hfrm : X.env.frame = some X.env.locals) (nd : X.N.Nodup) (tk : Takes X W₀)
    (hb : ∀ (W : WX) (pn : List (Addr × Obj)) (xe : Value → Shared → Prop), Takes (X.tr pn xe) W → PassesOwn (model X.prog X.w) X.A X.env xe → PSs (X.tr pn xe) body (tb W))
    (C : Clauses X (hd :: hds) l) : PS X (.Try body (hd :: hds) [] [] pos) (fun D σ H => tb (wClauses X.K W₀ D l) D σ H) := by
  constructor
  intro pins s σ H D I t
  have ok := I.ok
  have frames : X.A.frames = some (X.env :: X.outer) := by rw [ok.frames, hstk]
  refine wpAny_Try_except (wpAny_mono ((hb (wClauses X.K W₀ D l) (X.pn ++ pins) _ (fun u s' xx => ?_) PassesOwn.looking).run [] s σ H D (I.toTry _) t) (fun f s1 r => ?_) (fun _ _ z => z))
  · obtain ⟨a, B, sI, pins', τ, G, cls, d, rfl, I', nb, up, sky, na, os, ag, w⟩ := xx
    have J : Inv X pins τ G sI := I'.ofTry ok
    rw [show (X.tr (X.pn ++ pins) _).stack = X.env :: X.outer from hstk] at sky
    refine Sky.land Zc.steady frames hfrm sky fun h3 fly3 up3 => ?_
    obtain ⟨oe, vs, hoe, -, hda⟩ := fly3.there
    have notFrame : a ∉ frs (X.env :: X.outer) := fun m => by
      obtain ⟨_, o', e', no⟩ := fly3.2.2.1.mem m
      rw [hoe] at e'
      cases e'
      exact no _ hda
    have T : Landed X pins τ G cls d a B sI s' h3 :=
      { fly := fly3, inv := J.landed nb fly3.1 (up.trans up3) os ag, before := J, nb := nb, up := up.trans up3, free := na, os := os, ag := ag
        notL := fun z => notFrame (List.mem_filterMap.mpr ⟨X.env, List.mem_cons_self, by rw [hfrm, z]⟩)
        notF := fun m => by
          obtain ⟨e, he, k⟩ := List.mem_filterMap.mp m
          exact notFrame (List.mem_filterMap.mpr ⟨e, List.mem_cons_of_mem _ he, k⟩) }
    exact T.clauses hstk hfrm nd tk C w
  · match f, r with
    | .next, ⟨_, _, J, k⟩ => exact wpAny_execs_nil ⟨_, _, J.ofTry ok, k⟩
    | .brk, ⟨_, _, J, k⟩ => exact ⟨_, _, J.ofTry ok, k⟩
    | .cont, ⟨_, _, J, k⟩ => exact ⟨_, _, J.ofTry ok, k⟩
    | .ret u, ⟨_, _, _, J, rel, k⟩ => exact ⟨_, _, _, J.ofTry ok, rel, k⟩
end Own

namespace Own
open PySem PySem.W PySem.Calls PyProof.Rows
section
variable {prog : Program} {w : World} {A : Around} {E : Value → Shared → Prop} {st : Shared} {K : Frag} {a C : Addr} {oa : Obj} {od : Option Obj}

/-- a data descriptor is found ahead of the object's own dict -/
theorem found_data {name : Str} {at_ g : Value} (known : (clsIn K C).isSome = true) (f : findIn K (.ref C) name = some (some at_)) (sp : specialIn K at_ "__get__" = some (some g)) (tk : takesIn K at_ = some true) :
    findObj K C od name = some (.bind g at_) := by
  cases hc : clsIn K C with
  | none => rw [hc] at known; cases known
  | some cd =>
    unfold findObj
    simp [hc, f, sp, tk]

/-- err.__class__, as isinstance asks it -/
theorem class_asked {Q : Option Value → Shared → Prop} (T : L2.ExcC K C) (kin : K.In st.heap) (I : PySem.W.InstAt st.heap a oa C od) (k : Q (some (.ref C)) { st with toks := st.toks + 1 }) :
    wpAny (model prog w) A (getAttr? (.ref a) "__class__") Q E st := by
  have fnd : findObj K C od "__class__" = some (.bind (.builtin "getset_descriptor.__get__") (.builtin "object.__class__")) := by
    refine found_data ?_ T.ha T.hn T.ht
    obtain ⟨cd, e, -⟩ := any_some T.hd
    rw [e]
    rfl
  obtain ⟨hh, gs, dr, tk, os⟩ := st
  have lTy := I.type (M := model prog w)
  have lGa := looks_findIn (M := model prog w) kin T.hg
  have lGt := looks_findIn (M := model prog w) kin T.hk
  have lFi := looks_find (M := model prog w) kin I fnd
  have isExc : Looks (model prog w) hh (isInstance (.ref a) (.type "BaseException")) true := lTy.andThen (looks_subIn kin T.hs)
  have no1 : (false && onTheHeap (Value.builtin "BaseException.__getattribute__")) = false := by decide +kernel
  have no2 : (onTheHeap (Value.ref C) && Value.builtin "BaseException.__getattribute__" == Value.builtin "object.__getattribute__") = false := by
    rw [show (Value.builtin "BaseException.__getattribute__" == Value.builtin "object.__getattribute__") = false by decide +kernel]
    cases onTheHeap (Value.ref C) <;> rfl
  unfold getAttr? getAttrBy? getAttrBy
  refine wpAny_bind (wpAny_mkText (wpAny_bind (wpAny_attempt (wpAny_holding (wpAny_bind (lTy.at (wpAny_bind (lGa.at ?_))))))))
  show wpAny _ _ (if (onTheHeap (Value.ref C) && Value.builtin "BaseException.__getattribute__" == Value.builtin "object.__getattribute__") = true then _ else _) _ _ _
  rw [no2]
  rw [if_neg Bool.false_ne_true]
  unfold getAttrByItsOwn hookBefore
  refine wpAny_bind ?_
  have onH : onTheHeap (Value.ref C) = true := rfl
  rw [if_pos onH]
  refine lGt.at (wpAny_bind (wpAny_attempt (wpAny_holding ?_)))
  unfold callGetattribute
  rw [no1]
  rw [if_neg Bool.false_ne_true]
  unfold boundAndCalled
  rw [PySem.F.excAttr_ValueError.ga.bind (.ref a)]
  refine wpAny_bind (wpAny_pure ?_)
  show wpAny _ _ (call (.builtin "BaseException.__getattribute__") [.ref a, .str "__class__" tk]) _ _ _
  have plain := PySem.F.excAttr_ValueError.ga.plain
  refine wpAny_call (codeAny_call_builtin plain PySem.F.entry_bexc_ga (@check_slot (model prog w) _ _ ⟨hh, gs, dr, tk + 1, os⟩ "BaseException.__getattribute__" "BaseException" "__getattribute__" (.ref a) [.str "__class__" tk] [] _ (by decide +kernel) (by decide +kernel) isExc (PySem.F.args_bexc_ga (.ref a) (.str "__class__" tk)) ?_))
  unfold Builtin.«object.__getattribute__»
  refine wpAny_bind (wpAny_of_eq (a := ((Value.ref a : Value), [Value.str "__class__" tk])) (by first | rfl | (simp only [slotArgs]; rfl)) ?_)
  refine wpAny_bind (wpAny_pure (wpAny_bind (lTy.at (wpAny_bind (lFi.at ?_)))))
  show wpAny _ _ (holding [Value.builtin "object.__class__"] (call (.builtin "getset_descriptor.__get__") [.builtin "object.__class__", .ref a, .ref C]) >>= ret) _ _ _
  refine wpAny_bind (wpAny_holding (wpAny_call (class_get (s := ⟨hh, gs, dr, tk + 1, os⟩) (ox := oa) (od := od) kin I T.hm (wpAny_pure ?_))))
  show wpAny _ _ (handedOut (.ref C)) _ _ _
  rw [handedOut_of (v := .ref C) rfl]
  first | exact wpAny_pure (wpAny_pure k) | exact wpAny_pure k | exact wpAny_pure (wpAny_bind (wpAny_pure (wpAny_pure k)))

theorem kit_err (T : L2.ExcC K C) : KitX K (.ref a) (.ref C) (fun h => PySem.W.InstAt h a oa C od) := by
  have cls : ∃ cls dct cd sl, K.lookup C = some ⟨cls, dct, .cls cd, sl⟩ := by
    obtain ⟨cd, e, -⟩ := any_some T.hd
    unfold clsIn at e
    split at e
    · rename_i c' d' cd' sl' z
      exact ⟨_, _, _, _, z⟩
    · cases e
  obtain ⟨_, _, _, _, e⟩ := cls
  refine ⟨fun _ _ _ I => I.type, fun _ _ kin _ => ?_, fun h tp dd its n sl kin t => ?_, fun kin I k => class_asked T kin I k⟩
  · intro A' Q' E' s' keep q
    unfold isType loadHead
    exact wpAny_bind (wpAny_loadPart (keep _ _ (kin _ _ e)) (wpAny_pure q))
  · cases hb : (Value.ref C == Value.ref tp) with
    | false => rfl
    | true =>
      have same : C = tp := Value.ref.inj (beq_iff_eq.mp hb)
      rw [← same] at t
      have z := (kin _ _ e).symm.trans t
      cases z
end
end Own

namespace Own
open PySem L2 PySem.Spec PyProof.Rows
/-- isinstance(e, c) within the suite that caught e, an exception of the class at C with or without a dict -/
def rErrIs (K : PySem.W.Frag) (C a : Addr) (cls : Value) (d : Option Addr) : List V → Hp → VK → Prop := fun xs H Q =>
  cls = .ref C ∧ ∃ (c : V) (u : Value) (b : Bool), xs = [.ref a, c] ∧ ClsV c u ∧ PySem.W.kitOne K (.ref C) u = some b ∧ (∀ dd, d = some dd → ∃ fs, H dd = some (.xd fs)) ∧ Q (.bl b) H
theorem call_err_is {X : Cx} {K : PySem.W.Frag} {a C : Addr} {oe : Obj} {cls : Value} {d : Option Addr} {pn : List (Addr × Obj)} (T : ExcC K C) (z : Zc cls d oe) (fields : ∃ vs, oe.data = .fields vs) (hK : X.K = K := by rfl) :
    CallR (X.suite a ((a, oe) :: pn)) (.builtin "isinstance") (rErrIs K C a cls d) := by
  intro pins s σ H xs us Q I r h
  obtain ⟨rfl, c, u, b, rfl, cv, kit, dict, q⟩ := h
  subst hK
  obtain ⟨u1, u2, rfl, r1, r2⟩ := vals2 r
  cases (show u1 = Value.ref a from r1)
  have e2 := cv.eq r2
  subst e2
  obtain ⟨here, -⟩ := I.pin (a, oe) (List.mem_append.mpr (.inl List.mem_cons_self))
  obtain ⟨vs, hvs⟩ := fields
  have J : ∃ od, PySem.W.InstAt s.heap a oe C od := by
    obtain ⟨oc, odc, oda, osl⟩ := oe
    obtain ⟨z1, z2⟩ := z
    dsimp only at z1 z2 hvs
    subst z1 z2 hvs
    cases odc with
    | none => exact ⟨none, here, rfl, rfl, trivial⟩
    | some dd =>
      obtain ⟨fs, hfs⟩ := dict dd rfl
      obtain ⟨mA, ns, -⟩ := (show ObjOk X.prog X.w H s.heap dd (.xd fs) from I.hok dd _ hfs)
      obtain ⟨o, ho, -⟩ := lookIn_ns ns
      exact ⟨some o, here, rfl, rfl, ho⟩
  obtain ⟨od, J⟩ := J
  exact PySem.W.kia_one (kit_err T) I.kIn J kit (fun z => nomatch z) fun tk => ⟨.bl b, H, I.kept (t' := tk) fun _ _ z => z, rfl, q⟩
end Own

namespace Own
open PySem L2 PySem.Spec PyProof.Rows
/-- a set as it is made -/
abbrev noSet (w : World) : Obj := { cls := .type "set", dict := none, data := .set #[] 0 (.fresh 0 0 (!w.params.followText "set-order")) }
section
variable {P : Program} {w : World} {A : Around} {E : Value → Shared → Prop} {s : Shared}
/-- set(xs), xs a list of areI: its members are those of xs, its table rises -/
theorem set_of_list {l : Addr} {items : Array Value} (ns : List Int) {Q : Value → Shared → Prop} (calm : A.handled = none) (isl : s.heap.IsList l items) (areI : IntsAre items.toList ns) (room : ns.length + 1 < scanBound)
    (k : ∀ (g : Heap) (tk c : Nat), SetR w g s.heap.objs.size (fun j => decide (j ∈ ns)) c → c ≤ ns.length → (∀ b o, s.heap.get? b = some o → g.get? b = some o) → Q (.ref s.heap.objs.size) { s with heap := g, toks := tk }) :
    wpAny (model P w) A (call (.type "set") [.ref l]) Q E s := by
  have sz : items.size = ns.length := by
    have q := IntsAre.length areI
    rw [Array.length_toList] at q
    exact q
  obtain ⟨c, tl, mro⟩ := F.called_set.mro
  have z1 := F.called_set.made
  have z2 := F.called_set.sub
  refine wpAny_call (codeAny_of_tree ?_)
  show wpAny _ _ (callAny (.type "set") _) _ _ _
  refine wpAny_pure ⟨Code.quiet_builtin _ (by decide +kernel), codeAny_builtin F.entry_type_call ?_⟩
  rw [Around.under_plain (weight_type_call_type "set" [.ref l] []) rfl]
  have z3 := F.called_set.notType
  have z4 := F.called_set.canCreate
  have z5 := F.typeCall_set_1 (.ref l)
  repeat (any_goals (first | assumption | wp_step))
  refine codeAny_mono (code_set_led1 (.ref l) (E := E) (Q₁ := fun ob s₁ => ob = .ref s.heap.objs.size ∧ s₁ = { s with heap := s.heap.push (noSet w) }) ⟨rfl, rfl⟩) fun r s₁ hr => ?_
  match r, hr with
  | .error e, hr => exact hr
  | .ok (.ret ob), hr =>
    obtain ⟨rfl, rfl⟩ := hr
    have here : (s.heap.push (noSet w)).get? s.heap.objs.size = some (noSet w) := Heap.get?_push_size _ rfl
    have typ : Shared.TypeIs { s with heap := s.heap.push (noSet w) } (.ref s.heap.objs.size) "set" := ⟨_, here, rfl⟩
    have y1 := F.called_set.init.lookup
    have y2 := F.called_set.init.bind (.ref s.heap.objs.size)
    repeat (any_goals (first | assumption | wp_step))
    refine codeAny_mono (codeAny_call_builtin (R := wants (fun r s₂ => r = .none ∧ ∃ g tk c, s₂ = { s with heap := g, toks := tk } ∧ SetR w g s.heap.objs.size (fun j => decide (j ∈ ns)) c ∧ c ≤ ns.length ∧ (∀ b o, s.heap.get? b = some o → g.get? b = some o)) E)
      F.called_set.init.plain F.entry_set_init (check_set_init_1 typ ?_)) fun r₂ s₂ hr₂ => ?_
    · obtain ⟨ol, hol, hcl, nl, hdl⟩ := isl
      obtain ⟨ocls, odict, odata, oslots⟩ := ol
      simp only at hcl hdl
      subst hcl
      subst hdl
      have at1 : (s.heap.push (noSet w)).get? l = some { cls := .type "list", dict := odict, data := .seq items nl, slots := oslots } := Heap.get?_push_of_some _ hol
      have x1 := F.sub_list_set
      have x2 := F.sub_list_frozenset
      have x3 : (Value.type "list" == Value.type "dict") = false := by decide
      have isl1 : (s.heap.push (noSet w)).IsList l items := ⟨_, at1, rfl, nl, rfl⟩
      unfold Builtin.«set.__init__» noKeywords Builtin.Frozenset.updateFrom
      generalize hPI : pyIter = PI
      wp_walk
      subst hPI
      refine wpAny_pyIter_list isl1 ?_
      refine wpAny_bind (wpAny_runValue ?_)
      have lt : l < s.heap.objs.size := Heap.lt_size hol
      have calm3 : A.in1.in1.in1.handled = none := by simp [calm]
      have ne1 : l ≠ (s.heap.push (noSet w)).objs.size := by
        rw [Heap.size_push]
        exact Nat.ne_of_lt (Nat.lt_succ_of_lt lt)
      have ne2 : s.heap.objs.size ∉ [(s.heap.push (noSet w)).objs.size, l] := by
        rw [Heap.size_push]
        simp only [List.mem_cons, List.mem_singleton, List.not_mem_nil, or_false, not_or]
        exact ⟨Nat.ne_of_lt (Nat.lt_succ_self _), Nat.ne_of_gt lt⟩
      have vals : ∀ (i : Nat) (v : Value), items[i]? = some v → ∃ k t, ns[i]? = some k ∧ v = .int k t := by
        intro i v hv
        have hi : i < ns.length := by
          rw [← sz]
          exact (Array.getElem?_eq_some_iff.mp hv).1
        obtain ⟨t, e⟩ := PyProof.Rows.IntsAre.int_at areI i v (by rw [Array.getElem?_toList]; exact hv)
        refine ⟨ns[i], t, List.getElem?_eq_getElem hi, ?_⟩
        rw [e]
        rw [List.getD_eq_getElem?_getD, List.getElem?_eq_getElem hi] <;> rfl
      refine set_update_ints ((Walks.list calm3 _ l ne1 items).toS) s.heap.objs.size ne2 ns sz room vals (items.size - 0) 0 _ (by omega) (Nat.zero_le _) ⟨⟨_, Heap.get?_push_size _ rfl, rfl, rfl⟩, (isl1.push _)⟩ ?start ?fin
      case start =>
        have still : ((s.heap.push (noSet w)).push { cls := .type "list_iterator", data := .fields #[.ref l, .int 0 0] }).get? s.heap.objs.size = some (noSet w) := Heap.get?_push_of_some _ here
        exact ⟨0, Nat.le_refl 0, setR_new_at still⟩
      case fin =>
        rintro ⟨g, g2, d', tk', os'⟩ c' mv hc hS
        have eg : g2 = s.gens := mv.gens
        have ed : d' = s.drawn := mv.drawn
        have eo : os' = s.os := mv.os
        subst eg ed eo
        show wpAny _ _ _ _ _ _
        refine wpAny_pure ?_
        show wpAny _ _ (ret Value.none) _ _ _
        rw [sz] at hc
        refine wpAny_pure ⟨rfl, g, tk', c', rfl, hS, hc, fun b o e => ?_⟩
        have lb : b < s.heap.objs.size := Heap.lt_size e
        refine mv.heap b o ?_ (Heap.get?_push_of_some _ (Heap.get?_push_of_some _ e))
        rw [Heap.size_push]
        simp only [List.mem_cons, List.mem_singleton, List.not_mem_nil, or_false, not_or]
        exact ⟨Nat.ne_of_lt lb, Nat.ne_of_lt (Nat.lt_succ_of_lt lb)⟩
    · match r₂, hr₂ with
      | .error e, hr₂ => exact hr₂
      | .ok (.ret r), hr₂ =>
        obtain ⟨rfl, g, tk, c', rfl, hS, hc, keep⟩ := hr₂
        repeat (any_goals (first | assumption | wp_step))
        exact k _ _ _ hS hc keep
      | .ok .next, hr₂ => exact hr₂.elim
      | .ok .brk, hr₂ => exact hr₂.elim
      | .ok .cont, hr₂ => exact hr₂.elim
  | .ok .next, hr => exact hr.elim
  | .ok .brk, hr => exact hr.elim
  | .ok .cont, hr => exact hr.elim

/-- sorted of a set of areI, any number of members -/
theorem sorted_of_set {a : Addr} {S : Int → Bool} {n : Nat} {Q : Value → Shared → Prop} (R : SetR w s.heap a S n) (calm : A.handled = none) (small : n ≤ sizeLine)
    (k : ∀ s' p (out : Array Value) (c : Nat) (ns : List Int), (∀ b o, s.heap.get? b = some o → s'.heap.get? b = some o) → s'.gens = s.gens → s'.os = s.os → s.heap.objs.size ≤ p →
      s'.heap.get? p = some (seqObj "list" out c) → IntsAre out.toList ns → ns.Pairwise (· < ·) → (∀ k, k ∈ ns ↔ S k = true) → ns.length = n → Q (.ref p) s') :
    wpAny (model P w) A (call (.builtin "sorted") [.ref a]) Q E s := by
  obtain ⟨o, es, ep, t, ho, hex, hd, good, nd, mem, bound, fit, num, ris, led⟩ := R
  refine Calls.call_function_entry kind_sorted plain_sorted entry_sorted (args_sorted1 _) ?_
  unfold Builtin.«sorted»
  refine wpAny_bind (m := checkCount "sorted" 1 1 _) (wpAny_pure ?_)
  refine wpAny_bind (collect_set (A := A.in1) calm ⟨o, ho, hex.1, hd⟩ fit bound ris led fun s1 vs keep grow gens os perm => ?_)
  have len : vs.length = n := by
    rw [perm.length_eq, List.length_map, Array.length_toList]
    exact num
  have areI : IntsAre vs (vs.map Builtin.Re.reRawOf) := ints_of vs fun v hv => by
    obtain ⟨e, he, q⟩ := List.mem_map.mp (perm.mem_iff.mp hv)
    obtain ⟨k, tk, h1, -⟩ := good e he
    rw [← q]
    exact ⟨k, tk, h1⟩
  have permK : (vs.map Builtin.Re.reRawOf).Perm (es.toList.map keyOf) := by
    have q := perm.map Builtin.Re.reRawOf
    rw [List.map_map] at q
    exact q
  have lenOk : vs.length ≤ sizeLine := by rw [len]; exact small
  refine wpAny_bind (wpAny_newList ?_ lenOk)
  have laid : (s1.heap.push (seqObj "list" vs.toArray 0)).get? s1.heap.objs.size = some (seqObj "list" vs.toArray 0) := Heap.get?_push_size _ rfl
  refine wpAny_bind (wpAny_holding (wpAny_call_entry slot_list_sort ⟨_, laid, rfl⟩ entry_list_sort (SrtO.list_sort_ord SrtO.swo_int laid lenOk (fun h2 => SrtO.ints_sortable areI h2) fun out o1 o2 => ⟨_, rfl, ?_⟩) (args_list_sort _)))
  obtain ⟨i1, i2, i3⟩ := SrtO.ints_out areI o1 o2
  obtain ⟨c, hc⟩ := sortedHeap_at (vs := vs) (out := out.toArray) laid
  have pn := i2.trans permK
  refine wpAny_pure ⟨_, rfl, k _ s1.heap.objs.size out.toArray c _ (fun b u e => ?_) gens os grow hc i1 (lt_of_le_nodup _ i3 (pn.nodup_iff.mpr nd)) (fun k => by rw [pn.mem_iff, ← mem k]) ?_⟩
  · have q := keep b u e
    have lt := Heap.lt_size q
    show (sortedHeap (s1.heap.push (seqObj "list" vs.toArray 0)) s1.heap.objs.size vs out.toArray).get? b = some u
    rw [sortedHeap_old (Nat.ne_of_lt lt) (by rw [size_push']; exact Nat.lt_succ_of_lt lt)]
    exact Heap.get?_push_of_some _ q
  · rw [pn.length_eq, List.length_map, Array.length_toList]
    exact num
end

/-- sorted(set(xs)), xs a list of areI -/
def tSortedSet (K : PySem.W.Frag) (ta : TE) : TE := fun σ H Q => ta σ H fun x H1 => ∃ (l : Addr) (ns : List Int), x = .ref l ∧ SqL K H1 l (ns.map V.int) ∧ ns.length ≤ 4000 ∧
  ∀ (ms : List Int) (p : Addr), ms.Pairwise (· < ·) → (∀ k, k ∈ ms ↔ k ∈ ns) → H1 p = none → Q (.ref p) (upd H1 p (.lst (ms.map V.int)))
theorem pe_sortedSet {X : Cx} {a : Expr} {ta : TE} {p p2 q pos : Pos} (hg : Gl X "sorted") (hm : X.mg "sorted" = none) (hg2 : Gl X "set") (hm2 : X.mg "set" = none) (ha : PE X a ta) (hc : X.calm = true := by rfl)
    (na : starEach [a] X.env = (false, eval a X.env) :: starEach [] X.env := by rfl) : PE X (.Call (.Name "sorted" p) [.Call (.Name "set" p2) [a] [] q] [] pos) (tSortedSet X.K ta) := by
  constructor
  intro pins s σ H Q I h
  refine Call_ (ld_blt I hg hm (show bootBuiltins ("sorted" : Str) = some (.builtin "sorted") by decide +kernel) ?_)
  refine PyProof.Rows.callWith_builtin1 (PyProof.Rows.args_cons ?_ rfl) rfl rfl
  refine Call_ (ld_blt I hg2 hm2 boot_set ?_)
  refine PyProof.Rows.callWith_type1 (PyProof.Rows.args_cons (thn (ha.run pins s σ H _ I h) fun v s1 ⟨x, H1, I1, r1, q1⟩ => PyProof.Rows.args_nil ?_) na) na rfl
  obtain ⟨l, ns, rfl, sq, small, q1⟩ := q1
  cases r1
  obtain ⟨its, rel, pl, -⟩ := I1.list sq
  have calm := I1.ok.hd hc
  refine set_of_list ns calm pl.isList (by simpa using rel.«ints») (by unfold scanBound; omega) fun g tk c R hcn keep => PyProof.Rows.args_nil ?_
  have I2 : Inv X pins σ H1 { s1 with heap := g, toks := tk } := I1.kept keep
  refine sorted_of_set R calm (by rw [sizeLine_eq]; omega) fun s' p out c2 ms keep2 gens os hp hget areI sorted mem len => ?_
  have hlen : (ms.map V.int).length ≤ sizeLine := by
    rw [List.length_map, len, sizeLine_eq]
    omega
  have hn : H1 p = none := I2.hok.fresh hp
  obtain ⟨g2, gs2, dr2, tk2, os2⟩ := s'
  have e1 : gs2 = s1.gens := gens
  have e2 : os2 = s1.os := os
  subst e1 e2
  have J : L2.Inv X pins σ (upd H1 p (.lst (ms.map V.int))) ⟨g2, s1.gens, dr2, tk2, s1.os⟩ := by
    refine L2.Inv.call (s := { s1 with heap := g, toks := tk }) (ch := []) (g' := s1.gens) (d' := dr2) (t' := tk2) (h' := g2) I2 (Un.laid keep2 hp hn) (I2.hok.laid keep2 hp ?_) I2.bare (fun _ z => nomatch z)
    exact ⟨hlen, out.toList, c2, vals_of_ints areI, hget⟩
  refine ⟨.ref p, _, J, rfl, q1 ms p sorted (fun k => ?_) hn⟩
  rw [mem k]
  simp
end Own

namespace Own
open PySem L2
/-- all that was tracked stands as it stood; one object may have changed -/
def Ext (H H' : Hp) : Prop := ∀ b o, H b = some o → H' b = some o
theorem Ext.refl (H : Hp) : Ext H H := fun _ _ h => h
theorem Ext.trans {H H1 H2 : Hp} (a : Ext H H1) (b : Ext H1 H2) : Ext H H2 := fun c o h => b c o (a c o h)
theorem Ext.new {H : Hp} {p : Addr} {o : HO} (h : H p = none) : Ext H (upd H p o) := fun b u e => by
  rw [upd_ne (ne_of_none e h)]
  exact e
theorem Ext.free {H H' : Hp} (e : Ext H H') {l : Addr} (h : H' l = Option.none) : H l = Option.none := by
  cases q : H l with
  | none => rfl
  | some o => rw [e l o q] at h; cases h
theorem Ext.mut {H H' : Hp} {p : Addr} {o : HO} (e : Ext H H') (h : H p = none) : Ext H (upd H' p o) := fun b u hb => by
  rw [upd_ne (ne_of_none hb h)]
  exact e b u hb

/-- __init__(self, f): self.f = f, of an own error -/
def spInit1 (C : Addr) (f : Str) : Sp := fun vs H Q _ => ∃ (a : Addr) (v : V), vs = [.ref a, v] ∧ H a = some (exo a C none) ∧ ∀ d, H d = none → d ≠ a → Q .non (upd (upd H d (exd d [(f, v)])) a (exo a C (some d)))
/-- raise C(e): the reading in short -/
theorem raised1 {C : Addr} {f : Str} {ta : TA} {σ : L2.St} {H : Hp} {Q : XK} (hta : ∀ R R' : List V → Hp → Prop, (∀ vs G, R vs G → R' vs G) → ta σ H R → ta σ H R')
    (h : ta σ H fun vs H1 => ∃ v, vs = [v] ∧ ∀ d, H1 d = none → Q (.ref C) (some d) (upd H1 d (.xd [(f, v)]))) : tMkO C (spInit1 C f) [] ta σ H Q := by
  refine hta _ _ (fun vs H1 ⟨v, e, k⟩ => ?_) h
  subst e
  refine ⟨by show 1 ≤ 1000; decide, fun a ha => ⟨a, v, rfl, upd_same, fun d hd hda => ⟨rfl, d, [(f, v)], upd_same, ?_, ?_, ?_⟩⟩⟩
  · rw [upd_ne hda, upd_same]
  · rw [upd_ne hda] at hd
    exact hd
  · rw [upd_ne hda] at hd
    have e : upd (del (upd (upd (upd H1 a (exo a C none)) d (exd d [(f, v)])) a (exo a C (some d))) a) d (.xd [(f, v)]) = upd H1 d (.xd [(f, v)]) := by
      funext b
      by_cases h1 : b = d
      · subst h1
        rw [upd_same, upd_same]
      · rw [upd_ne h1, upd_ne h1]
        by_cases h2 : b = a
        · subst h2
          rw [del_same]
          exact ha.symm
        · rw [del_ne h2, upd_ne h2, upd_ne h1, upd_ne h2]
    rw [e]
    exact k d hd
theorem passE {P : Program} {w : World} {K : PySem.W.Frag} {mg : Str → Option Value} {base : Heap} {N : List Str} {qual : Str} {sc : Scope} {f : Addr} {cd : Value} {A : Around} {outer : List Env} {s : Shared} {H : Hp} {E : XK} :
    Passes (L2.CX P w) (cxOf (L2.CX P w) P w K mg base N qual sc f cd A outer s H E) E :=
  passes_call (W := fun cls d _ H => E cls d H) (takes_of rfl rfl rfl rfl) (fun _ _ _ _ h => h)
end Own

namespace Own
open PySem L2 PySem.Spec PyProof.Rows
/-- a name that holds a list or a tuple, walked -/
def iSeqV (K : PySem.W.Frag) (i : Nat) : TI := fun σ H R => ∃ a, σ[i]? = some (some (.ref a)) ∧ ∃ J : It, ((∃ xs, SqL K H a xs) ∧ J = Itl K a ∨ (∃ xs, SqT K H a xs) ∧ J = Itt K a) ∧ R J H
theorem pi_seqv {X : Cx} {tg : Expr} (i : Nat) {x : Str} {pos : Pos} (hN : X.N[i]? = some x := by rfl) (hv : Vis X.env.scope x := by first | exact Or.inl rfl | exact Or.inr (Or.inl rfl) | exact Or.inr (Or.inr rfl)) (hd : (x == ("__debug__" : Str)) = false := by decide)
    (hcd : (x == ("__classdict__" : Str)) = false := by decide) : PI X tg (.Name x pos) (iSeqV X.K i) := by
  constructor
  intro pins s σ H R I h
  obtain ⟨a, e, J, (⟨q, rfl⟩ | ⟨q, rfl⟩), k⟩ := h
  · exact (pi_list (pv i hN hv hd hcd)).run pins s σ H R I ⟨_, e, a, rfl, q, k⟩
  · exact (pi_tup (pv i hN hv hd hcd)).run pins s σ H R I ⟨_, e, a, rfl, q, k⟩
/-- a list or a tuple of xs at a -/
def Sq (H : Hp) (a : Addr) (xs : List V) : Prop := H a = some (.lst xs) ∨ H a = some (.tup xs)
theorem Sq.ext {H H' : Hp} {a : Addr} {xs : List V} (e : Ext H H') (h : Sq H a xs) : Sq H' a xs := h.imp (e _ _) (e _ _)
theorem Sq.walk {K : PySem.W.Frag} {H : Hp} {a : Addr} {xs : List V} (h : Sq H a xs) : ∃ (J : It) (o : HO), ((∃ xs, SqL K H a xs) ∧ J = Itl K a ∨ (∃ xs, SqT K H a xs) ∧ J = Itt K a) ∧ H a = some o ∧ Walk J xs.length (fun H' => H' a = some o) (YAt xs) := by
  rcases h with h | h
  · exact ⟨_, _, .inl ⟨⟨xs, SqL.of h⟩, rfl⟩, h, walk_list.mono (fun H' e => SqL.of e) fun _ _ _ _ _ _ y => y⟩
  · exact ⟨_, _, .inr ⟨⟨xs, SqT.of h⟩, rfl⟩, h, walk_tup.mono (fun H' e => SqT.of e) fun _ _ _ _ _ _ y => y⟩
/-- [f(x) for x in xs], nothing that stood is changed -/
theorem lc_map {J : It} {G : Hp → Prop} {xs : List V} (wk : Walk J xs.length G (YAt xs)) {te : TE} {vs : List Nat} {j : Nat} {σ : L2.St} {H1 : Hp} (f : V → V) (hG : ∀ H', Ext H1 H' → G H') (hz : xs.length < 40000)
    (hw : ∀ x, wipe ((wipe σ vs).set j (some x)) vs = wipe σ vs)
    (he : ∀ (i : Nat) (x : V) (H' : Hp), xs[i]? = some x → Ext H1 H' → ∀ Q : VK, (∀ H2, Ext H' H2 → Q (f x) H2) → te ((wipe σ vs).set j (some x)) H' Q) {Q : VK}
    (q : ∀ D H', H1 D = none → Ext H1 H' → H' D = some (.lst (xs.map f)) → Q (.ref D) H') : ∀ D, H1 D = none → ∃ W : Nat → Nat → Hp → Prop, (∃ m, W 0 m (upd H1 D (.lst []))) ∧ ∀ i m H, W i m H →
      (J.stop i H ∧ Q (.ref D) H) ∨ (J.go i H ∧ ∃ Nx : Hp → Prop, (∀ H', Nx H' → ∃ m', m' < m ∧ W (i + 1) m' H') ∧ ∀ x H', J.yld i H x H' → gName j x (wipe σ vs) H' fun σ2 H2 => wipe σ2 vs = wipe σ vs ∧ tYes σ2 H2 fun b H3 =>
        if b = true then te σ2 H3 fun y H4 => ∃ acc, H4 D = some (.lst acc) ∧ acc.length < sizeLine ∧ Nx (upd H4 D (.lst (acc ++ [y]))) else Nx H3) := by
  intro D hD
  refine lc_it wk (fun i H => Ext H1 H ∧ H D = some (.lst ((xs.take i).map f))) ⟨Ext.new hD, upd_same⟩ (fun i H _ p => hG H p.1) (fun i x H H' hi p y => ?_) (fun H p => ?_)
  · obtain ⟨e, hx⟩ := y
    subst e
    refine ⟨hw x, ?_⟩
    refine he i x H' hx p.1 (fun y H4 => ∃ acc, H4 D = some (.lst acc) ∧ acc.length < sizeLine ∧ Ext H1 (upd H4 D (.lst (acc ++ [y]))) ∧ (upd H4 D (.lst (acc ++ [y]))) D = some (.lst ((xs.take (i + 1)).map f))) fun H2 e2 => ⟨_, e2 _ _ p.2, ?_, (p.1.trans e2).mut hD, ?_⟩
    · rw [List.length_map, List.length_take, sizeLine_eq]
      omega
    · rw [upd_same, List.take_add_one, hx, List.map_append]
      rfl
  · have e := p.2
    rw [List.take_length] at e
    exact q D H hD p.1 e
/-- a comprehension whose source stands still and whose element changes nothing that stood -/
theorem tLc_map {wi : TI} {xs : List V} {te : TE} {vs : List Nat} {j : Nat} {σ : L2.St} {H : Hp} {Q : VK} (f : V → V)
    (hwi : ∀ R : It → Hp → Prop, (∀ J G H1, Ext H H1 → Walk J xs.length G (YAt xs) → (∀ H', Ext H1 H' → G H') → R J H1) → wi σ H R) (hz : xs.length < 40000)
    (hw : ∀ x, wipe ((wipe σ vs).set j (some x)) vs = wipe σ vs)
    (he : ∀ (i : Nat) (x : V) (H' : Hp), xs[i]? = some x → Ext H H' → ∀ Q : VK, (∀ H2, Ext H' H2 → Q (f x) H2) → te ((wipe σ vs).set j (some x)) H' Q)
    (q : ∀ D H', H D = none → Ext H H' → H' D = some (.lst (xs.map f)) → Q (.ref D) H') : tLc wi (gName j) tYes te vs σ H Q := by
  refine hwi _ fun J G H1 e wk hG => lc_map wk f hG hz hw (fun i x H' hx e' => he i x H' hx (e.trans e')) fun D H' hD e' hl => q D H' (e.free hD) (e.trans e') hl
theorem wi_seqv {K : PySem.W.Frag} {i : Nat} {a : Addr} {xs : List V} {σ : L2.St} {H : Hp} (hv : σ[i]? = some (some (.ref a))) (h : Sq H a xs) :
    ∀ R : It → Hp → Prop, (∀ J G H1, Ext H H1 → Walk J xs.length G (YAt xs) → (∀ H', Ext H1 H' → G H') → R J H1) → iSeqV K i σ H R := fun R k => by
  obtain ⟨J, o, hJ, ho, wk⟩ := Sq.walk (K := K) h
  exact ⟨a, hv, J, hJ, k J _ H (Ext.refl H) wk fun H' e => e _ _ ho⟩
theorem wi_list {K : PySem.W.Frag} {tl : TE} {xs : List V} {σ : L2.St} {H : Hp} (h : ∀ Q : VK, (∀ a H1, Ext H H1 → H1 a = some (.lst xs) → Q (.ref a) H1) → tl σ H Q) :
    ∀ R : It → Hp → Prop, (∀ J G H1, Ext H H1 → Walk J xs.length G (YAt xs) → (∀ H', Ext H1 H' → G H') → R J H1) → iList K tl σ H R := fun R k =>
  h _ fun a H1 e ha => ⟨a, rfl, ⟨xs, SqL.of ha⟩, k _ _ H1 e (walk_list (K := K) (a := a) (xs := xs)) fun H' e' => SqL.of (e' _ _ ha)⟩
theorem wi_tup {K : PySem.W.Frag} {tl : TE} {xs : List V} {σ : L2.St} {H : Hp} (h : ∀ Q : VK, (∀ a H1, Ext H H1 → H1 a = some (.tup xs) → Q (.ref a) H1) → tl σ H Q) :
    ∀ R : It → Hp → Prop, (∀ J G H1, Ext H H1 → Walk J xs.length G (YAt xs) → (∀ H', Ext H1 H' → G H') → R J H1) → iTup K tl σ H R := fun R k =>
  h _ fun a H1 e ha => ⟨a, rfl, ⟨xs, SqT.of ha⟩, k _ _ H1 e (walk_tup (K := K) (a := a) (xs := xs)) fun H' e' => SqT.of (e' _ _ ha)⟩
/-! readings opened from the left -/
section
variable {D : Ends} {σ : L2.St} {H : Hp} {Q : VK} {te ta tb : TE} {tr tas : TA} {QA : List V → Hp → Prop} {t u : TS} {g : TG} {sp : Sp} {dvs : List V} {E : XK} {r : R2}
theorem r_next (h : D.nx σ H) : tNext D σ H := h
theorem r_ret (h : te σ H D.rt) : tRet te D σ H := h
theorem r_seq (h : t { D with nx := u D } σ H) : tSeq t u D σ H := h
theorem r_asg (h : te σ H fun x H1 => g x σ H1 D.nx) : tAsg te g D σ H := h
theorem r_drop (h : te σ H fun _ H1 => D.nx σ H1) : tDrop te D σ H := h
theorem r_call (h : tas σ H fun vs H1 => sp (vs ++ dvs) H1 Q E) : tCall sp dvs E tas σ H Q := h
theorem r_cons (h : ta σ H fun x H1 => tr σ H1 fun xs H2 => QA (x :: xs) H2) : tCons ta tr σ H QA := h
theorem r_nil (h : QA [] H) : tNil σ H QA := h
theorem r_cb {rr : List V → Hp → VK → Prop} (h : tas σ H fun vs H1 => rr vs H1 Q) : tCB rr tas σ H Q := h
theorem r_op (h : ta σ H fun x H1 => tb σ H1 fun y H2 => r x y H2 Q) : tOp r ta tb σ H Q := h
theorem r_var {i : Nat} {v : V} (e : σ[i]? = some (some v)) (h : Q v H) : tVar i σ H Q := ⟨v, e, h⟩
theorem r_sset {K : PySem.W.Frag} (h : ta σ H fun x H1 => ∃ (l : Addr) (ns : List Int), x = .ref l ∧ SqL K H1 l (ns.map V.int) ∧ ns.length ≤ 4000 ∧ ∀ (ms : List Int) (p : Addr), ms.Pairwise (· < ·) → (∀ k, k ∈ ms ↔ k ∈ ns) → H1 p = none → Q (.ref p) (upd H1 p (.lst (ms.map V.int)))) : tSortedSet K ta σ H Q := h
theorem r_c {v : V} (h : Q v H) : tC v σ H Q := h
end
end Own

namespace Own
open PySem L2
def rLen (K : PySem.W.Frag) : List V → Hp → VK → Prop := fun xs H Q => ∃ p ys, xs = [.ref p] ∧ (SqL K H p ys ∨ SqT K H p ys) ∧ Q (.int ((ys.length : Nat) : Int)) H
theorem call_lenS {X : Cx} : CallR X (.builtin "len") (rLen X.K) := call_len_seq
def rInt : List V → Hp → VK → Prop := fun xs H Q => (∃ i, xs = [.int i] ∧ Q (.int i) H) ∨ ∃ k, xs = [.bl k] ∧ Q (.int (if k then 1 else 0)) H
theorem call_intS {X : Cx} : CallR X (.type "int") rInt := call_int1
def rAbs : List V → Hp → VK → Prop := fun xs H Q => ∃ i, xs = [.int i] ∧ Q (.int (if i < 0 then -i else i)) H
theorem call_absS {X : Cx} : CallR X (.builtin "abs") rAbs := call_abs
def rMaxS : List V → Hp → VK → Prop := fun xs H Q => ∃ i j, xs = [.int i, .int j] ∧ Q (.int (if j > i then j else i)) H
theorem call_maxS {X : Cx} (hc : X.calm = true) : CallR X (.builtin "max") rMaxS := call_max2 hc
/-! the same rules with the written part said outright, so that they serve within a comprehension too -/
section
variable (K : PySem.W.Frag) {X : Cx}
theorem call_lenC (h : X.K = K := by rfl) : CallR X (.builtin "len") (rLen K) := h ▸ call_lenS
theorem ix_listC (h : X.K = K := by rfl) : IxR X (rIxL K) := h ▸ ix_list
theorem ix_tupC (h : X.K = K := by rfl) : IxR X (rIxT K) := h ▸ ix_tup
theorem sl_listC (h : X.K = K := by rfl) : SlR X (rSlL K) := h ▸ sl_list
def rTuple (K : PySem.W.Frag) : List V → Hp → VK → Prop := fun xs H Q => ∃ p ys, xs = [.ref p] ∧ ((SqL K H p ys ∧ ∀ l, H l = none → Q (.ref l) (upd H l (.tup ys))) ∨ (SqT K H p ys ∧ Q (.ref p) H))
theorem call_tupleC (h : X.K = K := by rfl) : CallR X (.type "tuple") (rTuple K) := h ▸ call_tuple_of
def rList (K : PySem.W.Frag) : List V → Hp → VK → Prop := fun xs H Q => ∃ p ys, xs = [.ref p] ∧ (SqL K H p ys ∨ SqT K H p ys) ∧ ∀ l, H l = none → Q (.ref l) (upd H l (.lst ys))
theorem call_listC (h : X.K = K := by rfl) : CallR X (.type "list") (rList K) := h ▸ call_list_of
theorem call_isiC (h : X.K = K := by rfl) : CallR X (.builtin "isinstance") (rIsi K) := h ▸ call_isi
theorem call_isiTC (h : X.K = K := by rfl) : CallR X (.builtin "isinstance") (rIsiT K) := h ▸ call_isiT
theorem cr_allC (hc : X.calm = true) (h : X.K = K := by rfl) : CallR X (.builtin "all") (rAll K) := h ▸ cr_all hc
theorem op_inC (h : X.K = K := by rfl) : OpR X (compareOp .In) (rIn K false) := h ▸ op_in_seq
theorem op_notInC (h : X.K = K := by rfl) : OpR X (compareOp .NotIn) (rIn K true) := h ▸ op_notIn_seq
def rIxQ (K : PySem.W.Frag) : R2 := fun x y H Q => ∃ p xs i v, x = .ref p ∧ y = .int i ∧ Sq H p xs ∧ atI xs i = some v ∧ Q v H
theorem ix_seqC (h : X.K = K := by rfl) : IxR X (rIxQ K) := by
  intro value slice pins s σ H x y v u Q I rx ry r hs
  obtain ⟨p, xs, i, z, ex, ey, q | q, e, k⟩ := r
  · exact ix_list value slice pins s σ H x y v u Q I rx ry ⟨p, xs, i, z, ex, ey, SqL.of q, e, k⟩ hs
  · exact ix_tup value slice pins s σ H x y v u Q I rx ry ⟨p, xs, i, z, ex, ey, SqT.of q, e, k⟩ hs
theorem op_eqDC (hu : X.A.units + 64 < cLine) (h : X.K = K := by rfl) : OpR X (compareOp .Eq) (rEqD K) := h ▸ op_eqD hu
theorem op_neDC (hu : X.A.units + 64 < cLine) (h : X.K = K := by rfl) : OpR X (compareOp .NotEq) (rNeD K) := h ▸ op_neD hu
def tTruth (K : PySem.W.Frag) (ta : TE) : TT := fun σ H Q => ta σ H fun x H' => ∃ k, TruV K x H' k ∧ Q k H'
theorem pt_truthC {a : Expr} {ta : TE} (ha : PE X a ta) (he : ∀ whole, isTrue a X.env whole = (do let v ← whole; standAt a.pos; holding [v] (truthy v)) := by intro _; rfl) (h : X.K = K := by rfl) : PT X a (tTruth K ta) := h ▸ pt_truth ha he
end
/-- a comprehension's turns -/
def LcIn (J : It) (g : TG) (tt : TT) (te : TE) (vs : List Nat) (σ : L2.St) (Q : VK) (G : Hp) (D : Addr) : Prop :=
  ∃ W : Nat → Nat → Hp → Prop, (∃ m, W 0 m (upd G D (.lst []))) ∧ ∀ i m H, W i m H →
    (J.stop i H ∧ Q (.ref D) H) ∨
    (J.go i H ∧ ∃ Nx : Hp → Prop, (∀ H', Nx H' → ∃ m', m' < m ∧ W (i + 1) m' H') ∧
      ∀ x H', J.yld i H x H' → g x (wipe σ vs) H' fun τ H2 => wipe τ vs = wipe σ vs ∧
        tt τ H2 fun b H3 => if b = true then te τ H3 fun y H4 => ∃ acc, H4 D = some (.lst acc) ∧ acc.length < sizeLine ∧ Nx (upd H4 D (.lst (acc ++ [y]))) else Nx H3)
/-- a for's turns -/
def FoIn (J : It) (g : TG) (tb : TS) (D : Ends) (σ : L2.St) (G : Hp) : Prop :=
  ∃ W : Nat → Nat → L2.St → Hp → Prop, (∃ m, W 0 m σ G) ∧ ∀ i m τ H, W i m τ H →
    (J.stop i H ∧ D.nx τ H) ∨
    (J.go i H ∧ ∃ N : L2.St → Hp → Prop, (∀ τ' H', N τ' H' → ∃ m', m' < m ∧ W (i + 1) m' τ' H') ∧
      ∀ x H', J.yld i H x H' → g x τ H' fun τ2 H2 => tb { D with nx := N, ct := N, bk := D.nx } τ2 H2)
theorem foin_range {n : Nat} {lo : Int} {g : TG} {tb : TS} {D : Ends} {σ : L2.St} {H : Hp} (Pv : Nat → L2.St → Hp → Prop) (h0 : Pv 0 σ H)
    (hs : ∀ i τ G, i < n → Pv i τ G → g (.int (lo + (i : Nat))) τ G fun τ2 G2 => tb { D with nx := Pv (i + 1), ct := Pv (i + 1), bk := D.nx } τ2 G2) (hd : ∀ τ G, Pv n τ G → D.nx τ G) : FoIn (Itr lo n) g tb D σ H := for_range Pv h0 hs hd
theorem foin_it {J : It} {n : Nat} {GG : Hp → Prop} {Y : Nat → Hp → V → Hp → Prop} (wk : Walk J n GG Y) {g : TG} {tb : TS} {D : Ends} {σ : L2.St} {H : Hp} (Pv : Nat → L2.St → Hp → Prop) (h0 : Pv 0 σ H) (hG : ∀ i τ H, i ≤ n → Pv i τ H → GG H)
    (hs : ∀ i x τ G G', i < n → Pv i τ G → Y i G x G' → g x τ G' fun τ2 G2 => tb { D with nx := Pv (i + 1), ct := Pv (i + 1), bk := D.nx } τ2 G2) (hd : ∀ τ G, Pv n τ G → D.nx τ G) : FoIn J g tb D σ H := for_it wk Pv h0 hG hs hd
theorem lcin_range {n : Nat} {lo : Int} {g : TG} {tt : TT} {te : TE} {vs : List Nat} {σ : L2.St} {Q : VK} {G : Hp} {D : Addr} (Pv : Nat → Hp → Prop) (h0 : Pv 0 (upd G D (.lst [])))
    (hs : ∀ i H, i < n → Pv i H → g (.int (lo + (i : Nat))) (wipe σ vs) H fun τ H2 => wipe τ vs = wipe σ vs ∧ tt τ H2 fun b H3 =>
      if b = true then te τ H3 fun y H4 => ∃ acc, H4 D = some (.lst acc) ∧ acc.length < sizeLine ∧ Pv (i + 1) (upd H4 D (.lst (acc ++ [y]))) else Pv (i + 1) H3) (hd : ∀ H, Pv n H → Q (.ref D) H) : LcIn (Itr lo n) g tt te vs σ Q G D := lc_range Pv h0 hs hd
theorem lcin_map {J : It} {GG : Hp → Prop} {xs : List V} (wk : Walk J xs.length GG (YAt xs)) {te : TE} {vs : List Nat} {j : Nat} {σ : L2.St} {H1 : Hp} (f : V → V) (hG : ∀ H', Ext H1 H' → GG H') (hz : xs.length < 40000)
    (hw : ∀ x, wipe ((wipe σ vs).set j (some x)) vs = wipe σ vs)
    (he : ∀ (i : Nat) (x : V) (H' : Hp), xs[i]? = some x → Ext H1 H' → ∀ Q : VK, (∀ H2, Ext H' H2 → Q (f x) H2) → te ((wipe σ vs).set j (some x)) H' Q) {Q : VK}
    (q : ∀ D H', H1 D = none → Ext H1 H' → H' D = some (.lst (xs.map f)) → Q (.ref D) H') {D : Addr} (hD : H1 D = none) : LcIn J (gName j) tYes te vs σ Q H1 D := lc_map wk f hG hz hw he q D hD
section
variable {D : Ends} {σ : L2.St} {H : Hp} {Q : VK} {te ta tb tc : TE} {t u : TS} {g : TG} {r : R2} {c d : TT} {QT : Bool → Hp → Prop} {K : PySem.W.Frag} {QG : L2.St → Hp → Prop}
theorem r_cut (Mid : L2.St → Hp → Prop) (h : t { D with nx := Mid } σ H) (k : ∀ σ' H', Mid σ' H' → u D σ' H') : Evl.tCut t u D σ H := ⟨Mid, h, k⟩
theorem r_lc {wi : TI} {g : TG} {tt : TT} {vs : List Nat} (h : wi σ H fun J H1 => ∀ D, H1 D = none → LcIn J g tt te vs σ Q H1 D) : tLc wi g tt te vs σ H Q := h
theorem r_for {wi : TI} {tb : TS} (h : wi σ H fun J H1 => FoIn J g tb D σ H1) : tFor wi g tb D σ H := h
theorem r_rng1 {tas : TA} {R : It → Hp → Prop} (h : tas σ H fun vs H1 => ∃ j : Int, vs = [.int j] ∧ (-(2 ^ 62) ≤ j ∧ j < 2 ^ 62) ∧ R (Itr 0 j.toNat) H1) : iRng1 tas σ H R := by
  have mono : ∀ (QA QB : List V → Hp → Prop), QA = QB → tas σ H QA → tas σ H QB := fun _ _ e => by rw [e]; exact id
  refine mono _ _ ?_ h
  funext vs H1
  exact propext ⟨fun ⟨j, e, ⟨a, b⟩, r⟩ => ⟨j, e, a, b, r⟩, fun ⟨j, e, a, b, r⟩ => ⟨j, e, ⟨a, b⟩, r⟩⟩
theorem r_i1 {j : Int} {R : Int → Prop} (hb : -(2 ^ 62) ≤ j ∧ j < 2 ^ 62) (h : R j) : ∃ j' : Int, [V.int j] = [V.int j'] ∧ (-(2 ^ 62) ≤ j' ∧ j' < 2 ^ 62) ∧ R j' := ⟨j, rfl, hb, h⟩
theorem r_seqv {i : Nat} {a : Addr} {xs : List V} {R : It → Hp → Prop} (e : σ[i]? = some (some (.ref a))) (h : Sq H a xs) (k : ∀ J GG, Walk J xs.length GG (YAt xs) → (∀ H', Ext H H' → GG H') → R J H) : iSeqV K i σ H R := by
  obtain ⟨J, o, hJ, ho, wk⟩ := Sq.walk (K := K) h
  exact ⟨a, e, J, hJ, k J _ wk fun H' e => e _ _ ho⟩
theorem r_truth (h : ta σ H fun x H' => ∃ k, TruV K x H' k ∧ QT k H') : tTruth K ta σ H QT := h
theorem r_truI {i : Int} {R : Bool → Prop} (h : R (i != 0)) : ∃ k, TruV K (.int i) H k ∧ R k := ⟨_, rfl, h⟩
theorem r_tupL {p : Addr} {xs : List V} (h : SqL K H p xs) (q : ∀ l, H l = none → Q (.ref l) (upd H l (.tup xs))) : rTuple K [.ref p] H Q := ⟨p, xs, rfl, .inl ⟨h, q⟩⟩
theorem r_tupT {p : Addr} {xs : List V} (h : SqT K H p xs) (q : Q (.ref p) H) : rTuple K [.ref p] H Q := ⟨p, xs, rfl, .inr ⟨h, q⟩⟩
theorem r_listL {p : Addr} {xs : List V} (h : SqL K H p xs) (q : ∀ l, H l = none → Q (.ref l) (upd H l (.lst xs))) : rList K [.ref p] H Q := ⟨p, xs, rfl, .inl h, q⟩
theorem r_sliceV {te : TE} {tl th : TO} {rr : V → Option Int → Option Int → Hp → VK → Prop} (h : te σ H fun x H1 => tl σ H1 fun l H2 => th σ H2 fun u H3 => rr x l u H3 Q) : tSl rr te tl th σ H Q := h
theorem r_isi {x c : V} {t u : Value} {b : Bool} (k : ClsV c u) (ty : TyX K H x t) (e : PySem.W.kitOne K t u = some b) (q : Q (.bl b) H) : rIsi K [x, c] H Q := ⟨x, c, t, u, b, rfl, k, ty, e, q⟩
theorem iteNF {A B : Prop} (h : A) : if (!false) = true then A else B := h
theorem iteNT {A B : Prop} (h : B) : if (!true) = true then A else B := h
theorem r_yes (h : QT true H) : tYes σ H QT := h
theorem r_ixQ {p : Addr} {xs : List V} {i : Int} {v : V} (h : Sq H p xs) (e : atI xs i = some v) (q : Q v H) : rIxQ K (.ref p) (.int i) H Q := ⟨p, xs, i, v, rfl, rfl, h, e, q⟩
theorem r_lenQ {p : Addr} {xs : List V} (h : Sq H p xs) (q : Q (.int ((xs.length : Nat) : Int)) H) : rLen K [.ref p] H Q := ⟨p, xs, rfl, h.imp SqL.of SqT.of, q⟩
theorem r_chain {r r' : R2} (h : ta σ H fun x H1 => tb σ H1 fun y H2 => r x y H2 fun z H3 => ∃ k, z = .bl k ∧ (if k = true then tc σ H3 fun u H4 => r' y u H4 Q else Q (.bl false) H3)) : tChain r r' ta tb tc σ H Q := h
theorem r_name {i : Nat} {v : V} (h : QG (σ.set i (some v)) H) : gName i v σ H QG := h
theorem r_I0 {gg : Int → Int → V} {i j : Int} (h : Q (gg i j) H) : rI0 gg (.int i) (.int j) H Q := ⟨i, j, rfl, rfl, h⟩
theorem r_I {C : Int → Int → Prop} {gg : Int → Int → V} {i j : Int} (hc : C i j) (h : Q (gg i j) H) : rI C gg (.int i) (.int j) H Q := ⟨i, j, rfl, rfl, hc, h⟩
theorem r_un {rr : V → Hp → VK → Prop} (h : ta σ H fun x H1 => rr x H1 Q) : tUn rr ta σ H Q := h
theorem r_U {gg : Int → V} {i : Int} (h : Q (gg i) H) : rU gg (.int i) H Q := ⟨i, rfl, h⟩
theorem r_if (h : c σ H fun b H1 => if b = true then t D σ H1 else u D σ H1) : tIfS c t u D σ H := h
theorem r_ifE (h : c σ H fun b H1 => if b = true then ta σ H1 Q else tb σ H1 Q) : tIf c ta tb σ H Q := h
theorem r_test (h : te σ H fun x H' => ∃ k, x = .bl k ∧ QT k H') : tTest te σ H QT := h
theorem r_B (h : te σ H fun x H' => ∃ k, x = .bl k ∧ QT k H') : tB te σ H QT := h
theorem r_bl {b : Bool} {R : Bool → Prop} (h : R b) : ∃ k, V.bl b = V.bl k ∧ R k := ⟨b, rfl, h⟩
theorem r_not (h : c σ H fun b H1 => QT (!b) H1) : tNot c σ H QT := h
theorem r_and (h : c σ H fun b H1 => if b = true then d σ H1 QT else QT false H1) : tAnd c d σ H QT := h
theorem r_or (h : c σ H fun b H1 => if b = true then QT true H1 else d σ H1 QT) : tOr c d σ H QT := h
theorem r_andV (h : ta σ H fun x H1 => ∃ k, x = .bl k ∧ if k = true then tb σ H1 Q else Q (.bl false) H1) : tAndV ta tb σ H Q := h
theorem r_orV (h : ta σ H fun x H1 => ∃ k, x = .bl k ∧ if k = true then Q (.bl true) H1 else tb σ H1 Q) : tOrV ta tb σ H Q := h
theorem r_notV (h : ta σ H fun x H1 => ∃ k, x = .bl k ∧ Q (.bl (!k)) H1) : tNotV ta σ H Q := h
theorem r_eqI {i j : Int} (h : Q (.bl (decide (i = j))) H) : rEq (.int i) (.int j) H Q := ⟨rfl, by
  have e : decide (V.int i = V.int j) = decide (i = j) := by
    by_cases z : i = j
    · subst z
      simp
    · rw [decide_eq_false z, decide_eq_false (fun q => z (V.int.inj q))]
  rw [e]
  exact h⟩
theorem r_neI {i j : Int} (h : Q (.bl (!decide (i = j))) H) : rNe (.int i) (.int j) H Q := ⟨rfl, by
  have e : decide (V.int i = V.int j) = decide (i = j) := by
    by_cases z : i = j
    · subst z
      simp
    · rw [decide_eq_false z, decide_eq_false (fun q => z (V.int.inj q))]
  rw [e]
  exact h⟩
theorem r_ixL {p : Addr} {xs : List V} {i : Int} {v : V} (h : SqL K H p xs) (e : atI xs i = some v) (q : Q v H) : rIxL K (.ref p) (.int i) H Q := ⟨p, xs, i, v, rfl, rfl, h, e, q⟩
theorem r_ixT {p : Addr} {xs : List V} {i : Int} {v : V} (h : SqT K H p xs) (e : atI xs i = some v) (q : Q v H) : rIxT K (.ref p) (.int i) H Q := ⟨p, xs, i, v, rfl, rfl, h, e, q⟩
theorem r_tup {tas : TA} (h : tas σ H fun xs H1 => xs.length ≤ sizeLine ∧ ∀ p, H1 p = none → Q (.ref p) (upd H1 p (.tup xs))) : tTup tas σ H Q := h
theorem r_lst {tas : TA} (h : tas σ H fun xs H1 => xs.length ≤ sizeLine ∧ ∀ p, H1 p = none → Q (.ref p) (upd H1 p (.lst xs))) : tLst tas σ H Q := h
theorem r_sub {to ti : TE} {ts : V → V → V → Hp → (Hp → Prop) → Prop} {v : V} (h : to σ H fun o H1 => ti σ H1 fun i H2 => ts o i v H2 fun H3 => QG σ H3) : gSub to ti ts v σ H QG := h
theorem r_setL {p : Addr} {xs : List V} {k : Int} {j : Nat} {v : V} {R : Hp → Prop} (h : H p = some (.lst xs)) (e : ixN xs.length k = some j) (q : R (upd H p (.lst (xs.set j v)))) : rSetL (.ref p) (.int k) v H R := ⟨p, xs, k, j, rfl, rfl, h, e, q⟩
theorem r_int1 {R : Int → Prop} {S : Prop} {i : Int} (h : R i) : (∃ j, [V.int i] = [V.int j] ∧ R j) ∨ S := .inl ⟨i, rfl, h⟩
theorem r_int1b {R : Bool → Prop} {S : Prop} {k : Bool} (h : R k) : S ∨ ∃ j, [V.bl k] = [V.bl j] ∧ R j := .inr ⟨k, rfl, h⟩
theorem r_one {R : Int → Prop} {i : Int} (h : R i) : ∃ j, [V.int i] = [V.int j] ∧ R j := ⟨i, rfl, h⟩
theorem r_lenL {p : Addr} {xs : List V} (h : SqL K H p xs) (q : Q (.int ((xs.length : Nat) : Int)) H) : rLen K [.ref p] H Q := ⟨p, xs, rfl, .inl h, q⟩
theorem r_lenT {p : Addr} {xs : List V} (h : SqT K H p xs) (q : Q (.int ((xs.length : Nat) : Int)) H) : rLen K [.ref p] H Q := ⟨p, xs, rfl, .inr h, q⟩
theorem r_intI {i : Int} (q : Q (.int i) H) : rInt [.int i] H Q := .inl ⟨i, rfl, q⟩
theorem r_intB {b : Bool} (q : Q (.int (if b = true then 1 else 0)) H) : rInt [.bl b] H Q := .inr ⟨b, rfl, q⟩
theorem r_abs {i : Int} (q : Q (.int (if i < 0 then -i else i)) H) : rAbs [.int i] H Q := ⟨i, rfl, q⟩
theorem r_max {i j : Int} (q : Q (.int (if j > i then j else i)) H) : rMaxS [.int i, .int j] H Q := ⟨i, j, rfl, q⟩
theorem r_two {R : Int → Int → Prop} {i j : Int} (h : R i j) : ∃ a b, [V.int i, V.int j] = [V.int a, V.int b] ∧ R a b := ⟨i, j, rfl, h⟩
theorem r_size {n : Nat} {R : Prop} (hn : n ≤ 1000) (h : R) : n ≤ sizeLine ∧ R := ⟨Nat.le_trans hn (by rw [sizeLine_eq]; decide), h⟩
/-- all but what stands at p -/
def wo (p : Addr) (H : Hp) : Hp := fun b => if b = p then none else H b
theorem wo_ne {p b : Addr} {H : Hp} (h : b ≠ p) : wo p H b = H b := if_neg h
theorem wo_some {p b : Addr} {H : Hp} {o : HO} (h : wo p H b = some o) : b ≠ p ∧ H b = some o := by
  unfold wo at h
  by_cases e : b = p
  · rw [if_pos e] at h; cases h
  · rw [if_neg e] at h; exact ⟨e, h⟩
theorem wo_upd {p : Addr} {H : Hp} {o : HO} : Ext (wo p H) (wo p (upd H p o)) := fun b u e => by
  obtain ⟨ne, e⟩ := wo_some e
  rw [wo_ne ne, upd_ne ne]
  exact e
theorem wo_ext {p : Addr} {H H' : Hp} (e : Ext H H') : Ext (wo p H) (wo p H') := fun b u h => by
  obtain ⟨ne, h⟩ := wo_some h
  rw [wo_ne ne]
  exact e b u h
theorem wo_back {p : Addr} {H : Hp} : Ext (wo p H) H := fun b u h => (wo_some h).2
end
end Own

namespace Own
open PySem L2
section
variable {D : Ends} {σ : L2.St} {H : Hp} {Q : VK} {K : PySem.W.Frag}
theorem lookup1 (f : Str) (v : V) : List.lookup f [(f, v)] = some v := by simp [List.lookup]
theorem r_xf {i : Nat} {a C d : Addr} {f : Str} {v : V} (e : σ[i]? = some (some (.ref a))) (hd : H d = some (.xd [(f, v)])) (h : Q v H) : tXf a (.ref C) (some d) C f (tVar i) σ H Q :=
  ⟨.ref a, e, rfl, rfl, d, [(f, v)], v, rfl, hd, lookup1 f v, h⟩
theorem r_errIs {a C d C' : Addr} {b : Bool} {fs : List (Str × V)} (k : PySem.W.kitOne K (.ref C) (.ref C') = some b) (hd : H d = some (.xd fs)) (h : Q (.bl b) H) : rErrIs K C a (.ref C) (some d) [.ref a, .ref C'] H Q :=
  ⟨rfl, .ref C', .ref C', b, rfl, .own C', k, (fun dd e => by cases e; exact ⟨fs, hd⟩), h⟩
theorem r_errIsT {a C d : Addr} {t : String} {b : Bool} {fs : List (Str × V)} (k : PySem.W.kitOne K (.ref C) (.type t) = some b) (hd : H d = some (.xd fs)) (h : Q (.bl b) H) : rErrIs K C a (.ref C) (some d) [.ref a, .ty t] H Q :=
  ⟨rfl, .ty t, .type t, b, rfl, .ty t, k, (fun dd e => by cases e; exact ⟨fs, hd⟩), h⟩
theorem r_cutnx {i : Nat} (h : D.nx (σ.set i none) H) : (cut D i).nx σ H := h
theorem r_cutrt {i : Nat} {v : V} (h : D.rt v H) : (cut D i).rt v H := h
theorem r_app {l : Addr} {xs : List V} {i : Nat} {v : V} {te : TE} (e : σ[i]? = some (some (.ref l))) (h : H l = some (.lst xs)) (hz : xs.length < sizeLine) (hv : ∀ QV : VK, QV v H → te σ H QV) (k : D.nx σ (upd H l (.lst (xs ++ [v])))) :
    tDrop (tBM K "list" rAppend (tVar i) (tCons te tNil)) D σ H := ⟨_, e, .inl ⟨rfl, xs, SqL.of h⟩, hv _ ⟨l, xs, v, rfl, rfl, h, hz, k⟩⟩
theorem r_callS {sp : Sp} {E : L2.St → XK} {tas : TA} (h : tas σ H fun vs H1 => sp vs H1 Q (E σ)) : tCallS sp E tas σ H Q := h
end
end Own

namespace Own
open PySem L2
theorem kit_any {K : PySem.W.Frag} {C S : Addr} {b : Bool} (ic : PySem.W.isClsIn K S = true) (tc : PySem.W.typeIn K (.ref S) = some (.type "type")) (h : PySem.W.subIn K (.ref C) (.ref S) = some b) (hs : PySem.W.subIn K (.ref C) (.ref C) = some true) :
    PySem.W.kitOne K (.ref C) (.ref S) = some b := by
  unfold PySem.W.kitOne
  by_cases e : (Value.ref C == Value.ref S) = true
  · have same : C = S := Value.ref.inj (beq_iff_eq.mp e)
    subst same
    rw [if_pos e, ← hs, h]
  · rw [if_neg e]
    have two : ((PySem.W.clsIn K S).isSome && PySem.W.typeIn K (.ref S) == some (.type "type")) = true := by
      have ic' : (PySem.W.clsIn K S).isSome = true := ic
      rw [ic', tc]
      rfl
    exact (if_pos two).trans h
theorem kit_ve {K : PySem.W.Frag} {C : Addr} (h : PySem.W.subIn K (.ref C) (.type "ValueError") = some true) : PySem.W.kitOne K (.ref C) (.type "ValueError") = some true := by
  unfold PySem.W.kitOne
  rw [if_neg (by intro z; cases beq_iff_eq.mp z)]
  show (if PySem.W.kitMeta "ValueError" = true then PySem.W.subIn K (.ref C) (.type "ValueError") else none) = some true
  rw [if_pos (show PySem.W.kitMeta "ValueError" = true by decide +kernel)]
  exact h
end Own

namespace Rk
open PySem L2 Own
def top (i : Nat) : Stmt := PySem.Challenge.pw_ranksweeps_k01_rows.main.body.getD i (.Pass ⟨0, 0, 0, 0⟩)
abbrev s_NoRow__init__ : Stmt := inClass (top 2) 0
theorem sc_NoRow__init__ : FnScope ["self", "index"] ["self", "index"] (defScope s_NoRow__init__) := ⟨rfl, rfl, rfl, by decide +kernel, rfl, by decide +kernel, by decide +kernel⟩
abbrev s_NoNumber__init__ : Stmt := inClass (top 3) 0
theorem sc_NoNumber__init__ : FnScope ["self", "name"] ["self", "name"] (defScope s_NoNumber__init__) := ⟨rfl, rfl, rfl, by decide +kernel, rfl, by decide +kernel, by decide +kernel⟩
abbrev s_is_number : Stmt := top 6
theorem sc_is_number : FnScope ["value"] ["value"] (defScope s_is_number) := ⟨rfl, rfl, rfl, by decide +kernel, rfl, by decide +kernel, by decide +kernel⟩
abbrev s_is_within : Stmt := top 7
theorem sc_is_within : FnScope ["value", "least", "most"] ["value", "least", "most"] (defScope s_is_within) := ⟨rfl, rfl, rfl, by decide +kernel, rfl, by decide +kernel, by decide +kernel⟩
abbrev s_is_row : Stmt := top 8
theorem sc_is_row : FnScope ["value"] ["value"] (defScope s_is_row) := ⟨rfl, rfl, rfl, by decide +kernel, rfl, by decide +kernel, by decide +kernel⟩
abbrev s_is_bits : Stmt := top 9
theorem sc_is_bits : FnScope ["value"] ["value"] (defScope s_is_bits) := ⟨rfl, rfl, rfl, by decide +kernel, rfl, by decide +kernel, by decide +kernel⟩
abbrev s_row_fault : Stmt := top 10
theorem sc_row_fault : FnScope ["value", "item"] ["value"] (defScope s_row_fault) := ⟨rfl, rfl, rfl, by decide +kernel, rfl, by decide +kernel, by decide +kernel⟩
abbrev s_bits_fault : Stmt := top 11
theorem sc_bits_fault : FnScope ["value", "item"] ["value"] (defScope s_bits_fault) := ⟨rfl, rfl, rfl, by decide +kernel, rfl, by decide +kernel, by decide +kernel⟩
abbrev s_has_cells : Stmt := top 12
theorem sc_has_cells : FnScope ["value"] ["value"] (defScope s_has_cells) := ⟨rfl, rfl, rfl, by decide +kernel, rfl, by decide +kernel, by decide +kernel⟩
abbrev s_first_false : Stmt := top 13
theorem sc_first_false : FnScope ["flags", "index", "flag"] ["flags"] (defScope s_first_false) := ⟨rfl, rfl, rfl, by decide +kernel, rfl, by decide +kernel, by decide +kernel⟩
abbrev s_row_of : Stmt := top 14
theorem sc_row_of : FnScope ["value", "fault"] ["value"] (defScope s_row_of) := ⟨rfl, rfl, rfl, by decide +kernel, rfl, by decide +kernel, by decide +kernel⟩
abbrev s_level : Stmt := top 15
theorem sc_level : FnScope ["row", "value", "cells", "cell"] ["row", "value"] (defScope s_level) := ⟨rfl, rfl, rfl, by decide +kernel, rfl, by decide +kernel, by decide +kernel⟩
abbrev s_levels : Stmt := top 16
theorem sc_levels : FnScope ["row", "cell"] ["row"] (defScope s_levels) := ⟨rfl, rfl, rfl, by decide +kernel, rfl, by decide +kernel, by decide +kernel⟩
abbrev s__law_mix : Stmt := top 18
theorem sc__law_mix : FnScope ["_law_number_here", "_law_k"] ["_law_number_here", "_law_k"] (defScope s__law_mix) := ⟨rfl, rfl, rfl, by decide +kernel, rfl, by decide +kernel, by decide +kernel⟩
abbrev s__law_pool : Stmt := top 19
theorem sc__law_pool : FnScope ["_law_script", "_law_cell"] ["_law_script"] (defScope s__law_pool) := ⟨rfl, rfl, rfl, by decide +kernel, rfl, by decide +kernel, by decide +kernel⟩
abbrev s__law_draw : Stmt := top 20
theorem sc__law_draw : FnScope ["_law_pool_here", "_law_limit", "_law_cells", "_law_cell", "_law_digit"] ["_law_pool_here", "_law_limit"] (defScope s__law_draw) := ⟨rfl, rfl, rfl, by decide +kernel, rfl, by decide +kernel, by decide +kernel⟩
abbrev s__law_number : Stmt := top 21
theorem sc__law_number : FnScope ["_law_pool_here", "_law_kind"] ["_law_pool_here"] (defScope s__law_number) := ⟨rfl, rfl, rfl, by decide +kernel, rfl, by decide +kernel, by decide +kernel⟩
abbrev s__law_value : Stmt := top 22
theorem sc__law_value : FnScope ["_law_pool_here", "_law_kind", "_law_others", "_law_size", "_law_bits", "_law_k", "_law_start", "_law_row", "_law_spoils", "_law_bad", "_law_place"] ["_law_pool_here"] (defScope s__law_value) := ⟨rfl, rfl, rfl, by decide +kernel, rfl, by decide +kernel, by decide +kernel⟩
abbrev s__law_is_integer : Stmt := top 23
theorem sc__law_is_integer : FnScope ["_law_cell"] ["_law_cell"] (defScope s__law_is_integer) := ⟨rfl, rfl, rfl, by decide +kernel, rfl, by decide +kernel, by decide +kernel⟩
abbrev s__law_is_flag : Stmt := top 24
theorem sc__law_is_flag : FnScope ["_law_actual", "_law_due"] ["_law_actual", "_law_due"] (defScope s__law_is_flag) := ⟨rfl, rfl, rfl, by decide +kernel, rfl, by decide +kernel, by decide +kernel⟩
abbrev s__law_fault : Stmt := top 25
theorem sc__law_fault : FnScope ["_law_value_here", "_law_bits", "_law_k"] ["_law_value_here", "_law_bits"] (defScope s__law_fault) := ⟨rfl, rfl, rfl, by decide +kernel, rfl, by decide +kernel, by decide +kernel⟩
abbrev s__law_told_level : Stmt := top 26
theorem sc__law_told_level : FnScope ["_law_value_here", "_law_number_here", "_law_told", "e"] ["_law_value_here", "_law_number_here"] (defScope s__law_told_level) := ⟨rfl, rfl, rfl, by decide +kernel, rfl, by decide +kernel, by decide +kernel⟩
abbrev s__law_told_levels : Stmt := top 27
theorem sc__law_told_levels : FnScope ["_law_value_here", "_law_told", "e"] ["_law_value_here"] (defScope s__law_told_levels) := ⟨rfl, rfl, rfl, by decide +kernel, rfl, by decide +kernel, by decide +kernel⟩
abbrev s__law_level_right : Stmt := top 28
theorem sc__law_level_right : FnScope ["_law_value_here", "_law_fault_here", "_law_number_here", "_law_told", "_law_k"] ["_law_value_here", "_law_fault_here", "_law_number_here", "_law_told"] (defScope s__law_level_right) := ⟨rfl, rfl, rfl, by decide +kernel, rfl, by decide +kernel, by decide +kernel⟩
abbrev s__law_levels_right : Stmt := top 29
theorem sc__law_levels_right : FnScope ["_law_value_here", "_law_fault_here", "_law_told", "_law_k", "_law_cell"] ["_law_value_here", "_law_fault_here", "_law_told"] (defScope s__law_levels_right) := ⟨rfl, rfl, rfl, by decide +kernel, rfl, by decide +kernel, by decide +kernel⟩
abbrev s_law : Stmt := top 30
theorem sc_law : FnScope ["_law_script", "_law_pool_here", "_law_value_here", "_law_numbers", "_law_number_here", "_law_fault_here", "_law_handed", "_law_told", "_law_first", "_law_again", "_law_k"] ["_law_script"] (defScope s_law) := ⟨rfl, rfl, rfl, by decide +kernel, rfl, by decide +kernel, by decide +kernel⟩
/-- where things stand -/
structure Ad where
  c_SweepError : Addr
  c_NoRow : Addr
  a_NoRow__init__ : Addr
  d_NoRow__init__ : FuncData
  c_NoNumber : Addr
  a_NoNumber__init__ : Addr
  d_NoNumber__init__ : FuncData
  a_is_number : Addr
  d_is_number : FuncData
  a_is_within : Addr
  d_is_within : FuncData
  a_is_row : Addr
  d_is_row : FuncData
  a_is_bits : Addr
  d_is_bits : FuncData
  a_row_fault : Addr
  d_row_fault : FuncData
  a_bits_fault : Addr
  d_bits_fault : FuncData
  a_has_cells : Addr
  d_has_cells : FuncData
  a_first_false : Addr
  d_first_false : FuncData
  a_row_of : Addr
  d_row_of : FuncData
  a_level : Addr
  d_level : FuncData
  a_levels : Addr
  d_levels : FuncData
  a__law_mix : Addr
  d__law_mix : FuncData
  a__law_pool : Addr
  d__law_pool : FuncData
  a__law_draw : Addr
  d__law_draw : FuncData
  a__law_number : Addr
  d__law_number : FuncData
  a__law_value : Addr
  d__law_value : FuncData
  a__law_is_integer : Addr
  d__law_is_integer : FuncData
  a__law_is_flag : Addr
  d__law_is_flag : FuncData
  a__law_fault : Addr
  d__law_fault : FuncData
  a__law_told_level : Addr
  d__law_told_level : FuncData
  a__law_told_levels : Addr
  d__law_told_levels : FuncData
  a__law_level_right : Addr
  d__law_level_right : FuncData
  a__law_levels_right : Addr
  d__law_levels_right : FuncData
  a_law : Addr
  d_law : FuncData
/-- what the top has written -/
structure Txt (K : PySem.W.Frag) (mg : Str → Option Value) (D : Ad) : Prop where
  g_SweepError : mg "SweepError" = some (.ref D.c_SweepError)
  x_SweepError : OexC K D.c_SweepError
  e_SweepError : ExcC K D.c_SweepError
  f_SweepError : XfC K D.c_SweepError
  kv_SweepError : PySem.W.kitOne K (.ref D.c_SweepError) (.type "ValueError") = some true
  k_SweepError_SweepError : PySem.W.kitOne K (.ref D.c_SweepError) (.ref D.c_SweepError) = some true
  m_SweepError_SweepError : PySem.W.exmOne K (.ref D.c_SweepError) (.ref D.c_SweepError) = some true
  k_SweepError_NoRow : PySem.W.kitOne K (.ref D.c_SweepError) (.ref D.c_NoRow) = some false
  m_SweepError_NoRow : PySem.W.exmOne K (.ref D.c_SweepError) (.ref D.c_NoRow) = some false
  k_SweepError_NoNumber : PySem.W.kitOne K (.ref D.c_SweepError) (.ref D.c_NoNumber) = some false
  m_SweepError_NoNumber : PySem.W.exmOne K (.ref D.c_SweepError) (.ref D.c_NoNumber) = some false
  g_NoRow : mg "NoRow" = some (.ref D.c_NoRow)
  x_NoRow : OexC K D.c_NoRow
  e_NoRow : ExcC K D.c_NoRow
  f_NoRow : XfC K D.c_NoRow
  kv_NoRow : PySem.W.kitOne K (.ref D.c_NoRow) (.type "ValueError") = some true
  k_NoRow_SweepError : PySem.W.kitOne K (.ref D.c_NoRow) (.ref D.c_SweepError) = some true
  m_NoRow_SweepError : PySem.W.exmOne K (.ref D.c_NoRow) (.ref D.c_SweepError) = some true
  k_NoRow_NoRow : PySem.W.kitOne K (.ref D.c_NoRow) (.ref D.c_NoRow) = some true
  m_NoRow_NoRow : PySem.W.exmOne K (.ref D.c_NoRow) (.ref D.c_NoRow) = some true
  k_NoRow_NoNumber : PySem.W.kitOne K (.ref D.c_NoRow) (.ref D.c_NoNumber) = some false
  m_NoRow_NoNumber : PySem.W.exmOne K (.ref D.c_NoRow) (.ref D.c_NoNumber) = some false
  F_NoRow__init__ : Fun K "__init__" "NoRow.__init__" s_NoRow__init__ D.a_NoRow__init__ D.d_NoRow__init__
  b_NoRow__init__ : Binds K D.d_NoRow__init__ ["self", "index"] []
  i_NoRow__init__ : PySem.W.findIn K (.ref D.c_NoRow) "__init__" = some (some (.ref D.a_NoRow__init__))
  t_NoRow__init__ : PySem.W.typeIn K (.ref D.a_NoRow__init__) = some (.type "function")
  no_NoRow_index : PySem.W.findIn K (.ref D.c_NoRow) "index" = some none
  g_NoNumber : mg "NoNumber" = some (.ref D.c_NoNumber)
  x_NoNumber : OexC K D.c_NoNumber
  e_NoNumber : ExcC K D.c_NoNumber
  f_NoNumber : XfC K D.c_NoNumber
  kv_NoNumber : PySem.W.kitOne K (.ref D.c_NoNumber) (.type "ValueError") = some true
  k_NoNumber_SweepError : PySem.W.kitOne K (.ref D.c_NoNumber) (.ref D.c_SweepError) = some true
  m_NoNumber_SweepError : PySem.W.exmOne K (.ref D.c_NoNumber) (.ref D.c_SweepError) = some true
  k_NoNumber_NoRow : PySem.W.kitOne K (.ref D.c_NoNumber) (.ref D.c_NoRow) = some false
  m_NoNumber_NoRow : PySem.W.exmOne K (.ref D.c_NoNumber) (.ref D.c_NoRow) = some false
  k_NoNumber_NoNumber : PySem.W.kitOne K (.ref D.c_NoNumber) (.ref D.c_NoNumber) = some true
  m_NoNumber_NoNumber : PySem.W.exmOne K (.ref D.c_NoNumber) (.ref D.c_NoNumber) = some true
  F_NoNumber__init__ : Fun K "__init__" "NoNumber.__init__" s_NoNumber__init__ D.a_NoNumber__init__ D.d_NoNumber__init__
  b_NoNumber__init__ : Binds K D.d_NoNumber__init__ ["self", "name"] []
  i_NoNumber__init__ : PySem.W.findIn K (.ref D.c_NoNumber) "__init__" = some (some (.ref D.a_NoNumber__init__))
  t_NoNumber__init__ : PySem.W.typeIn K (.ref D.a_NoNumber__init__) = some (.type "function")
  no_NoNumber_name : PySem.W.findIn K (.ref D.c_NoNumber) "name" = some none
  F_is_number : Fun K "is_number" "is_number" s_is_number D.a_is_number D.d_is_number
  g_is_number : mg "is_number" = some (.ref D.a_is_number)
  b_is_number : Binds K D.d_is_number ["value"] []
  F_is_within : Fun K "is_within" "is_within" s_is_within D.a_is_within D.d_is_within
  g_is_within : mg "is_within" = some (.ref D.a_is_within)
  b_is_within : Binds K D.d_is_within ["value", "least", "most"] []
  F_is_row : Fun K "is_row" "is_row" s_is_row D.a_is_row D.d_is_row
  g_is_row : mg "is_row" = some (.ref D.a_is_row)
  b_is_row : Binds K D.d_is_row ["value"] []
  F_is_bits : Fun K "is_bits" "is_bits" s_is_bits D.a_is_bits D.d_is_bits
  g_is_bits : mg "is_bits" = some (.ref D.a_is_bits)
  b_is_bits : Binds K D.d_is_bits ["value"] []
  F_row_fault : Fun K "row_fault" "row_fault" s_row_fault D.a_row_fault D.d_row_fault
  g_row_fault : mg "row_fault" = some (.ref D.a_row_fault)
  b_row_fault : Binds K D.d_row_fault ["value"] []
  F_bits_fault : Fun K "bits_fault" "bits_fault" s_bits_fault D.a_bits_fault D.d_bits_fault
  g_bits_fault : mg "bits_fault" = some (.ref D.a_bits_fault)
  b_bits_fault : Binds K D.d_bits_fault ["value"] []
  F_has_cells : Fun K "has_cells" "has_cells" s_has_cells D.a_has_cells D.d_has_cells
  g_has_cells : mg "has_cells" = some (.ref D.a_has_cells)
  b_has_cells : Binds K D.d_has_cells ["value"] []
  F_first_false : Fun K "first_false" "first_false" s_first_false D.a_first_false D.d_first_false
  g_first_false : mg "first_false" = some (.ref D.a_first_false)
  b_first_false : Binds K D.d_first_false ["flags"] []
  F_row_of : Fun K "row_of" "row_of" s_row_of D.a_row_of D.d_row_of
  g_row_of : mg "row_of" = some (.ref D.a_row_of)
  b_row_of : Binds K D.d_row_of ["value"] []
  F_level : Fun K "level" "level" s_level D.a_level D.d_level
  g_level : mg "level" = some (.ref D.a_level)
  b_level : Binds K D.d_level ["row", "value"] []
  F_levels : Fun K "levels" "levels" s_levels D.a_levels D.d_levels
  g_levels : mg "levels" = some (.ref D.a_levels)
  b_levels : Binds K D.d_levels ["row"] []
  F__law_mix : Fun K "_law_mix" "_law_mix" s__law_mix D.a__law_mix D.d__law_mix
  g__law_mix : mg "_law_mix" = some (.ref D.a__law_mix)
  b__law_mix : Binds K D.d__law_mix ["_law_number_here", "_law_k"] []
  F__law_pool : Fun K "_law_pool" "_law_pool" s__law_pool D.a__law_pool D.d__law_pool
  g__law_pool : mg "_law_pool" = some (.ref D.a__law_pool)
  b__law_pool : Binds K D.d__law_pool ["_law_script"] []
  F__law_draw : Fun K "_law_draw" "_law_draw" s__law_draw D.a__law_draw D.d__law_draw
  g__law_draw : mg "_law_draw" = some (.ref D.a__law_draw)
  b__law_draw : Binds K D.d__law_draw ["_law_pool_here", "_law_limit"] []
  F__law_number : Fun K "_law_number" "_law_number" s__law_number D.a__law_number D.d__law_number
  g__law_number : mg "_law_number" = some (.ref D.a__law_number)
  b__law_number : Binds K D.d__law_number ["_law_pool_here"] []
  F__law_value : Fun K "_law_value" "_law_value" s__law_value D.a__law_value D.d__law_value
  g__law_value : mg "_law_value" = some (.ref D.a__law_value)
  b__law_value : Binds K D.d__law_value ["_law_pool_here"] []
  F__law_is_integer : Fun K "_law_is_integer" "_law_is_integer" s__law_is_integer D.a__law_is_integer D.d__law_is_integer
  g__law_is_integer : mg "_law_is_integer" = some (.ref D.a__law_is_integer)
  b__law_is_integer : Binds K D.d__law_is_integer ["_law_cell"] []
  F__law_is_flag : Fun K "_law_is_flag" "_law_is_flag" s__law_is_flag D.a__law_is_flag D.d__law_is_flag
  g__law_is_flag : mg "_law_is_flag" = some (.ref D.a__law_is_flag)
  b__law_is_flag : Binds K D.d__law_is_flag ["_law_actual", "_law_due"] []
  F__law_fault : Fun K "_law_fault" "_law_fault" s__law_fault D.a__law_fault D.d__law_fault
  g__law_fault : mg "_law_fault" = some (.ref D.a__law_fault)
  b__law_fault : Binds K D.d__law_fault ["_law_value_here", "_law_bits"] []
  F__law_told_level : Fun K "_law_told_level" "_law_told_level" s__law_told_level D.a__law_told_level D.d__law_told_level
  g__law_told_level : mg "_law_told_level" = some (.ref D.a__law_told_level)
  b__law_told_level : Binds K D.d__law_told_level ["_law_value_here", "_law_number_here"] []
  F__law_told_levels : Fun K "_law_told_levels" "_law_told_levels" s__law_told_levels D.a__law_told_levels D.d__law_told_levels
  g__law_told_levels : mg "_law_told_levels" = some (.ref D.a__law_told_levels)
  b__law_told_levels : Binds K D.d__law_told_levels ["_law_value_here"] []
  F__law_level_right : Fun K "_law_level_right" "_law_level_right" s__law_level_right D.a__law_level_right D.d__law_level_right
  g__law_level_right : mg "_law_level_right" = some (.ref D.a__law_level_right)
  b__law_level_right : Binds K D.d__law_level_right ["_law_value_here", "_law_fault_here", "_law_number_here", "_law_told"] []
  F__law_levels_right : Fun K "_law_levels_right" "_law_levels_right" s__law_levels_right D.a__law_levels_right D.d__law_levels_right
  g__law_levels_right : mg "_law_levels_right" = some (.ref D.a__law_levels_right)
  b__law_levels_right : Binds K D.d__law_levels_right ["_law_value_here", "_law_fault_here", "_law_told"] []
  F_law : Fun K "law" "law" s_law D.a_law D.d_law
  g_law : mg "law" = some (.ref D.a_law)
  b_law : Binds K D.d_law ["_law_script"] []
  c_MOST_CELLS : ∃ t, mg "MOST_CELLS" = some (.int 200 t)
  n_ValueError : mg "ValueError" = none
  n_abs : mg "abs" = none
  n_all : mg "all" = none
  n_bool : mg "bool" = none
  n_enumerate : mg "enumerate" = none
  n_int : mg "int" = none
  n_isinstance : mg "isinstance" = none
  n_len : mg "len" = none
  n_list : mg "list" = none
  n_max : mg "max" = none
  n_range : mg "range" = none
  n_set : mg "set" = none
  n_sorted : mg "sorted" = none
  n_tuple : mg "tuple" = none
end Rk


namespace Rk
open PySem L2 Own
section
variable {P : Program} {w : World} {K : PySem.W.Frag} {mg : Str → Option Value} {base : Heap} {D : Ad}
theorem ok_NoRow__init__ (T : Txt K mg D) : FnOk P w K mg base CX0 1 D.a_NoRow__init__ D.d_NoRow__init__ ["self", "index"] (spInit1 D.c_NoRow "index") := by
  refine T.F_NoRow__init__.ok sc_NoRow__init__ (fun vs H Q E h => ?_) (fun cdv A outer s H vs Q E hr h => ?_)
  · obtain ⟨a, v, rfl, _⟩ := h
    rfl
  · obtain ⟨a, v, rfl, ha, k⟩ := h
    refine ⟨_, pss_one (ps_ost (pv 0) (pv 1)), ?_⟩
    exact ⟨v, rfl, _, rfl, a, D.c_NoRow, rfl, T.x_NoRow, T.no_NoRow_index, .inl ⟨ha, fun d n ne => k d n ne⟩⟩
theorem ok_NoNumber__init__ (T : Txt K mg D) : FnOk P w K mg base CX0 1 D.a_NoNumber__init__ D.d_NoNumber__init__ ["self", "name"] (spInit1 D.c_NoNumber "name") := by
  refine T.F_NoNumber__init__.ok sc_NoNumber__init__ (fun vs H Q E h => ?_) (fun cdv A outer s H vs Q E hr h => ?_)
  · obtain ⟨a, v, rfl, _⟩ := h
    rfl
  · obtain ⟨a, v, rfl, ha, k⟩ := h
    refine ⟨_, pss_one (ps_ost (pv 0) (pv 1)), ?_⟩
    exact ⟨v, rfl, _, rfl, a, D.c_NoNumber, rfl, T.x_NoNumber, T.no_NoNumber_name, .inl ⟨ha, fun d n ne => k d n ne⟩⟩
theorem raise_NoRow {X : Cx} {D : Ad} (T : Txt X.K X.mg D) {e : Expr} {ta : TA} {p pos : Pos} (hr : Room 2 X.A) (ha : PA X [e] ta) (hg : Gl X "NoRow" := by rfl) (he : starEach (e :: []) X.env = (false, eval e X.env) :: starEach [] X.env := by rfl) :
    PMk X (.Call (.Name "NoRow" p) [e] [] pos) (tMkO D.c_NoRow (spInit1 D.c_NoRow "index") [] ta) :=
  pmk_oex T.x_NoRow T.i_NoRow__init__ T.t_NoRow__init__ (ok_NoRow__init__ T) hr T.b_NoRow__init__ .nil pass0 hg T.g_NoRow ha (by decide) he rfl
theorem raise_NoNumber {X : Cx} {D : Ad} (T : Txt X.K X.mg D) {e : Expr} {ta : TA} {p pos : Pos} (hr : Room 2 X.A) (ha : PA X [e] ta) (hg : Gl X "NoNumber" := by rfl) (he : starEach (e :: []) X.env = (false, eval e X.env) :: starEach [] X.env := by rfl) :
    PMk X (.Call (.Name "NoNumber" p) [e] [] pos) (tMkO D.c_NoNumber (spInit1 D.c_NoNumber "name") [] ta) :=
  pmk_oex T.x_NoNumber T.i_NoNumber__init__ T.t_NoNumber__init__ (ok_NoNumber__init__ T) hr T.b_NoNumber__init__ .nil pass0 hg T.g_NoNumber ha (by decide) he rfl
end

/-! ### values of the law -/
/-- an item of a list: a number or one of the kinds that are no number -/
def ItemOk (H : Hp) (v : V) : Prop := (∃ z, v = .int z) ∨ (∃ b, v = .bl b) ∨ (∃ s, v = .str s ∧ PyData.strOk s = true) ∨ v = .non ∨ (∃ a, v = .ref a ∧ H a = some (.tup [.int 0])) ∨ (∃ a, v = .ref a ∧ H a = some (.lst [.int 1]))
def isI : V → Bool
  | .int _ => true
  | _ => false
theorem ItemOk.ext {H H' : Hp} {v : V} (e : Ext H H') (h : ItemOk H v) : ItemOk H' v := by
  rcases h with h | h | h | h | ⟨a, r, h⟩ | ⟨a, r, h⟩
  · exact .inl h
  · exact .inr (.inl h)
  · exact .inr (.inr (.inl h))
  · exact .inr (.inr (.inr (.inl h)))
  · exact .inr (.inr (.inr (.inr (.inl ⟨a, r, e _ _ h⟩))))
  · exact .inr (.inr (.inr (.inr (.inr ⟨a, r, e _ _ h⟩))))
theorem ItemOk.ty {K : PySem.W.Frag} {H : Hp} {v : V} (h : ItemOk H v) : ∃ t, TyX K H v (.type t) ∧ kitB t "int" = some (isI v || (t == "bool")) ∧ kitB t "bool" = some (t == "bool") ∧ (isI v = true → t = "int") ∧ kitB t "list" = some (t == "list") ∧ kitB t "tuple" = some (t == "tuple")
    ∧ ((t = "list" ∨ t = "tuple") → ∃ a, v = .ref a) := by
  rcases h with ⟨z, rfl⟩ | ⟨z, rfl⟩ | ⟨z, rfl, -⟩ | rfl | ⟨a, rfl, h⟩ | ⟨a, rfl, h⟩
  · exact ⟨"int", .base (.int z), (by show kitB "int" "int" = some true; decide +kernel), by decide +kernel, fun _ => rfl, by decide +kernel, by decide +kernel, fun h => by rcases h with h | h <;> exact absurd h (by decide)⟩
  · exact ⟨"bool", .base (.bl z), (by show kitB "bool" "int" = some true; decide +kernel), by decide +kernel, (fun h => by cases h), by decide +kernel, by decide +kernel, fun h => by rcases h with h | h <;> exact absurd h (by decide)⟩
  · exact ⟨"str", .base (.str z), (by show kitB "str" "int" = some false; decide +kernel), by decide +kernel, (fun h => by cases h), by decide +kernel, by decide +kernel, fun h => by rcases h with h | h <;> exact absurd h (by decide)⟩
  · exact ⟨"NoneType", .base .non, by decide +kernel, by decide +kernel, (fun h => by cases h), by decide +kernel, by decide +kernel, fun h => by rcases h with h | h <;> exact absurd h (by decide)⟩
  · exact ⟨"tuple", .base (.tup h), (by show kitB "tuple" "int" = some false; decide +kernel), by decide +kernel, (fun h => by cases h), by decide +kernel, by decide +kernel, fun _ => ⟨a, rfl⟩⟩
  · exact ⟨"list", .base (.lst h), (by show kitB "list" "int" = some false; decide +kernel), by decide +kernel, (fun h => by cases h), by decide +kernel, by decide +kernel, fun _ => ⟨a, rfl⟩⟩

/-- the value that is handed in: no list (none), or a list or tuple of such items -/
def Sh (H : Hp) (v : V) : Option (List V) → Prop
  | none => (∃ z, v = .int z) ∨ (∃ b, v = .bl b) ∨ (∃ s, v = .str s) ∨ v = .non
  | some xs => ∃ a, v = .ref a ∧ (H a = some (.lst xs) ∨ H a = some (.tup xs)) ∧ xs.length ≤ 1000 ∧ ∀ x ∈ xs, ItemOk H x
theorem Sh.ext {H H' : Hp} {v : V} {sh : Option (List V)} (e : Ext H H') (h : Sh H v sh) : Sh H' v sh := by
  cases sh with
  | none => exact h
  | some xs =>
    obtain ⟨a, r, h, l, i⟩ := h
    exact ⟨a, r, h.imp (e _ _) (e _ _), l, fun x hx => (i x hx).ext e⟩
def isSq : Option (List V) → Bool
  | none => false
  | some _ => true
def lenOk : Option (List V) → Bool
  | none => false
  | some xs => decide (1 ≤ xs.length ∧ xs.length ≤ 200)
theorem Sh.ty {K : PySem.W.Frag} {H : Hp} {v : V} {sh : Option (List V)} (h : Sh H v sh) : ∃ t, TyX K H v (.type t) ∧ ∃ b1 b2, kitB t "list" = some b1 ∧ kitB t "tuple" = some b2 ∧ isSq sh = (b1 || b2) := by
  cases sh with
  | none =>
    rcases h with ⟨z, rfl⟩ | ⟨z, rfl⟩ | ⟨z, rfl⟩ | rfl
    · exact ⟨"int", .base (.int z), false, false, by decide +kernel, by decide +kernel, rfl⟩
    · exact ⟨"bool", .base (.bl z), false, false, by decide +kernel, by decide +kernel, rfl⟩
    · exact ⟨"str", .base (.str z), false, false, by decide +kernel, by decide +kernel, rfl⟩
    · exact ⟨"NoneType", .base .non, false, false, by decide +kernel, by decide +kernel, rfl⟩
  | some xs =>
    obtain ⟨a, rfl, h | h, -, -⟩ := h
    · exact ⟨"list", .base (.lst h), true, false, by decide +kernel, by decide +kernel, rfl⟩
    · exact ⟨"tuple", .base (.tup h), false, true, by decide +kernel, by decide +kernel, rfl⟩
def spIsNum : Sp := fun vs H Q _ => ∃ v, vs = [v] ∧ ItemOk H v ∧ Q (.bl (isI v)) H
section
variable {P : Program} {w : World} {K : PySem.W.Frag} {mg : Str → Option Value} {base : Heap} {D : Ad}
theorem ok_is_number (T : Txt K mg D) : FnOk P w K mg base CX0 1 D.a_is_number D.d_is_number ["value"] spIsNum := by
  refine T.F_is_number.ok sc_is_number (fun vs H Q E h => ?_) (fun cdv A outer s H vs Q E hr h => ?_)
  · obtain ⟨v, rfl, _⟩ := h
    rfl
  · obtain ⟨v, rfl, hv, k⟩ := h
    obtain ⟨t, ty, k1, k2, k3, -, -, -⟩ := hv.ty (K := K)
    refine ⟨_, (pss_one (ps_ret (pe_and (pe_callB (call_isiC K) (by rfl) T.n_isinstance (by decide +kernel) (pa_cons (pv 0) (pa_cons (pe_bltn (v := .ty "int") (by rfl) T.n_int (by decide +kernel) rfl) pa_nil))) (pe_one (pe_not (pe_callB (call_isiC K) (by rfl) T.n_isinstance (by decide +kernel) (pa_cons (pv 0) (pa_cons (pe_bltn (v := .ty "bool") (by rfl) T.n_bool (by decide +kernel) rfl) pa_nil)))))))), ?_⟩
    refine ⟨v, rfl, v, .ty "int", .type t, .type "int", _, rfl, .ty _, ty, kit_ty k1, _, rfl, ?_⟩
    cases hI : isI v with
    | true =>
      have et := k3 hI
      subst et
      refine iteT ⟨v, rfl, v, .ty "bool", .type "int", .type "bool", _, rfl, .ty _, ty, kit_ty k2, _, rfl, ?_⟩
      rw [hI] at k
      exact k
    | false =>
      cases hb : (t == "bool") with
      | true =>
        have et : t = "bool" := by simpa using hb
        subst et
        refine iteT ⟨v, rfl, v, .ty "bool", .type "bool", .type "bool", _, rfl, .ty _, ty, kit_ty k2, _, rfl, ?_⟩
        rw [hI] at k
        exact k
      | false =>
        rw [hI] at k
        exact iteF k
def between (v : V) (a b : Int) : Bool := match v with
  | .int z => decide (a ≤ z ∧ z ≤ b)
  | _ => false
def spWithin : Sp := fun vs H Q _ => ∃ v a b, vs = [v, .int a, .int b] ∧ ItemOk H v ∧ Q (.bl (between v a b)) H
theorem ok_is_within (T : Txt K mg D) : FnOk P w K mg base CX0 2 D.a_is_within D.d_is_within ["value", "least", "most"] spWithin := by
  refine T.F_is_within.ok sc_is_within (fun vs H Q E h => ?_) (fun cdv A outer s H vs Q E hr h => ?_)
  · obtain ⟨v, a, b, rfl, _⟩ := h
    rfl
  · obtain ⟨v, a, b, rfl, hv, k⟩ := h
    refine ⟨_, (pss_one (ps_ret (pe_and (pe_call (ok_is_number T) (hr.mono (by decide)) (by rfl) T.g_is_number T.F_is_number.kp T.b_is_number .nil pass0 (pa_cons (pv 0) pa_nil)) (pe_one (pe_chain op_le op_le (pv 1) (pv 0) (pv 2)))))), ?_⟩
    refine ⟨v, rfl, v, rfl, hv, _, rfl, ?_⟩
    match v, k with
    | .int z, k =>
      refine iteT ⟨.int a, rfl, .int z, rfl, a, z, rfl, rfl, _, rfl, ?_⟩
      by_cases h1 : a ≤ z
      · rw [if_pos (decide_eq_true h1)]
        refine ⟨.int b, rfl, z, b, rfl, rfl, ?_⟩
        have e : between (.int z) a b = decide (z ≤ b) := by
          show decide (a ≤ z ∧ z ≤ b) = decide (z ≤ b)
          simp [h1]
        rw [e] at k
        exact k
      · rw [if_neg (by simp [h1])]
        have e : between (.int z) a b = false := by
          show decide (a ≤ z ∧ z ≤ b) = false
          simp [h1]
        rw [e] at k
        exact k
    | .bl z, k => exact iteF k
    | .str z, k => exact iteF k
    | .non, k => exact iteF k
    | .ref z, k => exact iteF k
    | .byt z, k => exact iteF k
    | .flt z, k => exact iteF k
    | .ty z, k => exact iteF k
end
end Rk

namespace Rk
open PySem L2 Own
local macro_rules | `(tactic| walk_at "peel") => `(tactic| repeat (with_reducible first | refine r_next ?_ | refine r_ret ?_ | refine r_seq ?_ | refine r_asg ?_ | refine r_drop ?_ | refine r_call ?_ | refine r_cons ?_ | refine r_nil ?_ | refine r_cb ?_ | refine r_op ?_))
section
variable {P : Program} {w : World} {K : PySem.W.Frag} {mg : Str → Option Value} {base : Heap} {D : Ad}
def spCells : Sp := fun vs H Q _ => ∃ v sh, vs = [v] ∧ Sh H v sh ∧ ∀ H', Ext H H' → Q (.bl (lenOk sh)) H'
theorem ok_has_cells (T : Txt K mg D) : FnOk P w K mg base CX0 1 D.a_has_cells D.d_has_cells ["value"] spCells := by
  refine T.F_has_cells.ok sc_has_cells (fun vs H Q E h => ?_) (fun cdv A outer s H vs Q E hr h => ?_)
  · obtain ⟨v, sh, rfl, _⟩ := h
    rfl
  · obtain ⟨v, sh, rfl, hv, k⟩ := h
    refine ⟨_, (pss_one (ps_ret (pe_and (pe_callB (call_isiTC K) (by rfl) T.n_isinstance (by decide +kernel) (pa_cons (pv 0) (pa_cons (pe_tup (pa_cons (pe_bltn (v := .ty "list") (by rfl) T.n_list (by decide +kernel) rfl) (pa_cons (pe_bltn (v := .ty "tuple") (by rfl) T.n_tuple (by decide +kernel) rfl) pa_nil))) pa_nil))) (pe_one (pe_chain op_le op_le pe_int (pe_callB (call_lenC K) (by rfl) T.n_len (by decide +kernel) (pa_cons (pv 0) pa_nil)) (pe_glob (v := .int 200) rfl T.c_MOST_CELLS.choose_spec ⟨_, rfl⟩)))))), ?_⟩
    refine ⟨v, rfl, by show 2 ≤ sizeLine; decide, fun tp htp => ?_⟩
    have e1 : Ext H (upd H tp (.tup [.ty "list", .ty "tuple"])) := Ext.new htp
    obtain ⟨t, ty, b1, b2, k1, k2, kk⟩ := (hv.ext e1).ty (K := K)
    refine ⟨v, tp, [.ty "list", .ty "tuple"], .type t, [.type "list", .type "tuple"], isSq sh, rfl, upd_same, .cons (.ty _) (.cons (.ty _) .nil), ty, ?_, _, rfl, ?_⟩
    · rw [kk]
      refine kitAny_cons (kit_ty k1) (fun h => ?_) (fun h => by rw [h]; rfl)
      rw [h]
      exact kitAny_cons (kit_ty k2) (fun h => by rw [h]; exact kitAny_nil) (fun h => by rw [h]; rfl)
    · match sh, hv, k with
      | none, hv, k => exact iteF (k _ e1)
      | some xs, hv, k =>
        obtain ⟨a, rfl, ha, hl, hi⟩ := hv.ext e1
        refine iteT ⟨_, rfl, a, xs, rfl, ha.imp SqL.of SqT.of, 1, (xs.length : Int), rfl, rfl, _, rfl, ?_⟩
        have e0 : lenOk (some xs) = decide (1 ≤ xs.length ∧ xs.length ≤ 200) := rfl
        by_cases h1 : (1 : Int) ≤ (xs.length : Int)
        · rw [if_pos (decide_eq_true h1)]
          refine ⟨(xs.length : Int), 200, rfl, rfl, ?_⟩
          have e2 : lenOk (some xs) = decide ((xs.length : Int) ≤ 200) := by
            rw [e0]
            by_cases h2 : (xs.length : Int) ≤ 200
            · rw [decide_eq_true h2, decide_eq_true (by omega)]
            · rw [decide_eq_false h2, decide_eq_false (by omega)]
          rw [e2] at k
          exact k _ e1
        · rw [if_neg (by simp [h1])]
          have e2 : lenOk (some xs) = false := by
            rw [e0]
            exact decide_eq_false (by omega)
          rw [e2] at k
          exact k _ e1
/-- an index or None -/
def optV : Option Int → V
  | none => .non
  | some i => .int i
def firstNo (bs : List Bool) : Option Int := (bs.findIdx? (fun b => !b)).map fun n => (n : Int)
def spFirst : Sp := fun vs H Q _ => ∃ a bs, vs = [.ref a] ∧ H a = some (.lst (bs.map V.bl)) ∧ ∀ H', Ext H H' → Q (optV (firstNo bs)) H'
theorem firstNo_at {bs : List Bool} {i : Nat} (h : bs[i]? = some false) (hb : ∀ j, j < i → bs[j]? = some true) : firstNo bs = some (i : Int) := by
  unfold firstNo
  have e : bs.findIdx? (fun b => !b) = some i := by
    rw [List.findIdx?_eq_some_iff_getElem]
    obtain ⟨hl, e1⟩ := List.getElem?_eq_some_iff.mp h
    refine ⟨hl, by rw [e1]; rfl, fun j hj => ?_⟩
    obtain ⟨hl2, e2⟩ := List.getElem?_eq_some_iff.mp (hb j hj)
    rw [e2]
    decide
  rw [e]
  rfl
theorem firstNo_none {bs : List Bool} (hb : ∀ j, j < bs.length → bs[j]? = some true) : firstNo bs = none := by
  unfold firstNo
  have e : bs.findIdx? (fun b => !b) = none := by
    rw [List.findIdx?_eq_none_iff]
    intro b hm
    obtain ⟨j, hj⟩ := List.getElem?_of_mem hm
    have := hb j (List.getElem?_eq_some_iff.mp hj).1
    rw [hj] at this
    cases this
    rfl
  rw [e]
  rfl
theorem ok_first_false (T : Txt K mg D) : FnOk P w K mg base CX0 1 D.a_first_false D.d_first_false ["flags"] spFirst := by
  refine T.F_first_false.ok sc_first_false (fun vs H Q E h => ?_) (fun cdv A outer s H vs Q E hr h => ?_)
  · obtain ⟨a, bs, rfl, _⟩ := h
    rfl
  · obtain ⟨a, bs, rfl, ha, k⟩ := h
    refine ⟨_, (pss_cons (ps_for PassesOwn.never rfl (pi_enum (by rfl) T.n_enumerate (pa_cons (pv 0) pa_nil)) (pg_tup rfl (pgs_cons (pg_name (i := 1) sc_first_false.nd rfl (Or.inl rfl)) (pgs_cons (pg_name (i := 2) sc_first_false.nd rfl (Or.inl rfl)) pgs_nil)))
    (pss_one (ps_if (pt_not (pt_val (pv 2)))
      (pss_one (ps_ret (pv 1)))
      pss_nil)))
  (pss_one (ps_ret pe_non))), ?_⟩
    refine ⟨_, rfl, a, bs.map V.bl, rfl, SqL.of ha, ?_⟩
    refine for_it (walk_enum (K := K) (a := a) (xs := bs.map V.bl)) (fun i σ H' => ∃ v1 v2, σ = [some (.ref a), v1, v2] ∧ Ext H H' ∧ ∀ j, j < i → bs[j]? = some true)
      ⟨none, none, rfl, Ext.refl H, fun j hj => absurd hj (Nat.not_lt_zero j)⟩ (fun i σ H' _ ⟨_, _, _, e, _⟩ => SqL.of (e _ _ ha)) ?_ ?_
    · rintro i x σ H1 H2 hi ⟨v1, v2, rfl, e, all⟩ ⟨t, x1, x2, rfl, ht, rfl, q1, q2⟩
      cases (Option.some.inj q1)
      have q2 : (bs.map V.bl)[i]? = some x2 := q2
      rw [List.getElem?_map] at q2
      rw [List.length_map] at hi
      have hb : bs[i]? = some bs[i] := List.getElem?_eq_getElem hi
      rw [hb] at q2
      cases (Option.some.inj q2)
      refine ⟨t, _, rfl, SqT.of upd_same, rfl, _, _, rfl, _, _, rfl, rfl, ?_⟩
      have e2 : Ext H (upd H1 t (.tup [.int (i : Nat), .bl bs[i]])) := e.trans (Ext.new ht)
      refine ⟨.bl bs[i], rfl, bs[i], rfl, ?_⟩
      cases hv : bs[i] with
      | true =>
        refine iteF ⟨_, _, rfl, by rw [hv] at e2; exact e2, fun j hj => ?_⟩
        by_cases h2 : j = i
        · subst h2
          rw [hb, hv]
        · exact all j (by omega)
      | false =>
        refine iteT ⟨.int (i : Nat), rfl, ?_⟩
        rw [firstNo_at (by rw [hb, hv]) all] at k
        rw [hv] at e2
        exact k _ e2
    · rintro σ H1 ⟨v1, v2, rfl, e, all⟩
      rw [List.length_map] at all
      rw [firstNo_none all] at k
      exact k _ e
/-- where a list goes wrong: None, or the index that is told -/
def faultOf (p : V → Bool) (sh : Option (List V)) : Option Int := if lenOk sh = true then (match sh with | none => some (-1) | some xs => firstNo (xs.map p)) else some (-1)
def spFault (p : V → Bool) : Sp := fun vs H Q _ => ∃ v sh, vs = [v] ∧ Sh H v sh ∧ ∀ H', Ext H H' → Q (optV (faultOf p sh)) H'
theorem ok_row_fault (T : Txt K mg D) : FnOk P w K mg base CX0 3 D.a_row_fault D.d_row_fault ["value"] (spFault isI) := by
  refine T.F_row_fault.ok sc_row_fault (fun vs H Q E h => ?_) (fun cdv A outer s H vs Q E hr h => ?_)
  · obtain ⟨v, sh, rfl, _⟩ := h
    rfl
  · obtain ⟨v, sh, rfl, hv, k⟩ := h
    refine ⟨_, (pss_cons (ps_if (pt_not (pt_val (pe_call (ok_has_cells T) (hr.mono (by decide)) (by rfl) T.g_has_cells T.F_has_cells.kp T.b_has_cells .nil pass0 (pa_cons (pv 0) pa_nil))))
    (pss_one (ps_ret (pe_un un_neg pe_int)))
    pss_nil)
  (pss_one (ps_ret (pe_call (ok_first_false T) (hr.mono (by decide)) (by rfl) T.g_first_false T.F_first_false.kp T.b_first_false .nil pass0 (pa_cons (pe_lc (own := [("item", 1)]) (g := gName 1) rfl sc_row_fault.nd (pi_seqv 0) (blkOk_by (own := [("item", 1)]) (N := ["value", "item"]) (sc := defScope s_row_fault) (by decide +kernel)) (fun _ _ _ _ _ => pg_name (i := 1) sc_row_fault.nd rfl (Or.inl rfl)) (fun _ _ _ _ _ => pts_nil) (fun _ _ _ _ _ => (pe_call (ok_is_number T) (hr.mono (by decide)) (by rfl) T.g_is_number T.F_is_number.kp T.b_is_number .nil pass0 (pa_cons (pv 1) pa_nil)))) pa_nil))))), ?_⟩
    refine ⟨v, rfl, v, sh, rfl, hv, fun H1 e1 => ⟨_, rfl, ?_⟩⟩
    unfold faultOf at k
    match sh, hv, k with
    | none, hv, k => exact iteT ⟨1, rfl, k _ e1⟩
    | some xs, hv, k =>
      by_cases ok : lenOk (some xs) = true
      · rw [ok]
        rw [if_pos ok] at k
        obtain ⟨a, rfl, ha, hl, hi⟩ := hv.ext e1
        refine iteF ?_
        walk_at "peel"
        refine tLc_map (xs := xs) (fun v => V.bl (isI v)) ?_ ?_ ?_ (fun i x H' hx e Q q => ?_) fun L H' hL e hl => ?_
        · exact wi_seqv rfl ha
        · omega
        · exact fun x => rfl
        · exact ⟨x, rfl, x, rfl, (hi x (List.mem_of_getElem? hx)).ext e, q _ (Ext.refl _)⟩
        · exact ⟨L, xs.map isI, rfl, by rw [hl, List.map_map]; rfl, fun H2 e2 => k _ ((e1.trans e).trans e2)⟩
      · rw [Bool.not_eq_true] at ok
        rw [if_neg (by rw [ok]; decide)] at k
        rw [ok]
        exact iteT ⟨1, rfl, k _ e1⟩
theorem ok_bits_fault (T : Txt K mg D) : FnOk P w K mg base CX0 3 D.a_bits_fault D.d_bits_fault ["value"] (spFault fun v => between v 0 1) := by
  refine T.F_bits_fault.ok sc_bits_fault (fun vs H Q E h => ?_) (fun cdv A outer s H vs Q E hr h => ?_)
  · obtain ⟨v, sh, rfl, _⟩ := h
    rfl
  · obtain ⟨v, sh, rfl, hv, k⟩ := h
    refine ⟨_, (pss_cons (ps_if (pt_not (pt_val (pe_call (ok_has_cells T) (hr.mono (by decide)) (by rfl) T.g_has_cells T.F_has_cells.kp T.b_has_cells .nil pass0 (pa_cons (pv 0) pa_nil))))
    (pss_one (ps_ret (pe_un un_neg pe_int)))
    pss_nil)
  (pss_one (ps_ret (pe_call (ok_first_false T) (hr.mono (by decide)) (by rfl) T.g_first_false T.F_first_false.kp T.b_first_false .nil pass0 (pa_cons (pe_lc (own := [("item", 1)]) (g := gName 1) rfl sc_bits_fault.nd (pi_seqv 0) (blkOk_by (own := [("item", 1)]) (N := ["value", "item"]) (sc := defScope s_bits_fault) (by decide +kernel)) (fun _ _ _ _ _ => pg_name (i := 1) sc_bits_fault.nd rfl (Or.inl rfl)) (fun _ _ _ _ _ => pts_nil) (fun _ _ _ _ _ => (pe_call (ok_is_within T) (hr.mono (by decide)) (by rfl) T.g_is_within T.F_is_within.kp T.b_is_within .nil pass0 (pa_cons (pv 1) (pa_cons pe_int (pa_cons pe_int pa_nil)))))) pa_nil))))), ?_⟩
    refine ⟨v, rfl, v, sh, rfl, hv, fun H1 e1 => ⟨_, rfl, ?_⟩⟩
    unfold faultOf at k
    match sh, hv, k with
    | none, hv, k => exact iteT ⟨1, rfl, k _ e1⟩
    | some xs, hv, k =>
      by_cases ok : lenOk (some xs) = true
      · rw [ok]
        rw [if_pos ok] at k
        obtain ⟨a, rfl, ha, hl, hi⟩ := hv.ext e1
        refine iteF ?_
        walk_at "peel"
        refine tLc_map (xs := xs) (fun v => V.bl (between v 0 1)) ?_ ?_ ?_ (fun i x H' hx e Q q => ?_) fun L H' hL e hl => ?_
        · exact wi_seqv rfl ha
        · omega
        · exact fun x => rfl
        · exact ⟨x, rfl, x, 0, 1, rfl, (hi x (List.mem_of_getElem? hx)).ext e, q _ (Ext.refl _)⟩
        · exact ⟨L, xs.map (fun v => between v 0 1), rfl, by rw [hl, List.map_map]; rfl, fun H2 e2 => k _ ((e1.trans e).trans e2)⟩
      · rw [Bool.not_eq_true] at ok
        rw [if_neg (by rw [ok]; decide)] at k
        rw [ok]
        exact iteT ⟨1, rfl, k _ e1⟩
def isNon : Option Int → Bool
  | none => true
  | some _ => false
theorem optV_non (o : Option Int) : decide (optV o = V.non) = isNon o := by
  cases o with
  | none => rfl
  | some i => exact decide_eq_false (fun z => by cases z)
def spIs (p : V → Bool) : Sp := fun vs H Q _ => ∃ v sh, vs = [v] ∧ Sh H v sh ∧ ∀ H', Ext H H' → Q (.bl (isNon (faultOf p sh))) H'
theorem ok_is_row (T : Txt K mg D) : FnOk P w K mg base CX0 4 D.a_is_row D.d_is_row ["value"] (spIs isI) := by
  refine T.F_is_row.ok sc_is_row (fun vs H Q E h => ?_) (fun cdv A outer s H vs Q E hr h => ?_)
  · obtain ⟨v, sh, rfl, _⟩ := h
    rfl
  · obtain ⟨v, sh, rfl, hv, k⟩ := h
    refine ⟨_, (pss_one (ps_ret (pe_cmpR op_isN (pe_call (ok_row_fault T) (hr.mono (by decide)) (by rfl) T.g_row_fault T.F_row_fault.kp T.b_row_fault .nil pass0 (pa_cons (pv 0) pa_nil)) pe_non (nomark _)))), ?_⟩
    refine ⟨v, rfl, v, sh, rfl, hv, fun H1 e1 => ⟨rfl, ?_⟩⟩
    show Q (.bl (decide (optV _ = V.non))) _
    rw [optV_non]
    exact k _ e1
theorem ok_is_bits (T : Txt K mg D) : FnOk P w K mg base CX0 4 D.a_is_bits D.d_is_bits ["value"] (spIs fun v => between v 0 1) := by
  refine T.F_is_bits.ok sc_is_bits (fun vs H Q E h => ?_) (fun cdv A outer s H vs Q E hr h => ?_)
  · obtain ⟨v, sh, rfl, _⟩ := h
    rfl
  · obtain ⟨v, sh, rfl, hv, k⟩ := h
    refine ⟨_, (pss_one (ps_ret (pe_cmpR op_isN (pe_call (ok_bits_fault T) (hr.mono (by decide)) (by rfl) T.g_bits_fault T.F_bits_fault.kp T.b_bits_fault .nil pass0 (pa_cons (pv 0) pa_nil)) pe_non (nomark _)))), ?_⟩
    refine ⟨v, rfl, v, sh, rfl, hv, fun H1 e1 => ⟨rfl, ?_⟩⟩
    show Q (.bl (decide (optV _ = V.non))) _
    rw [optV_non]
    exact k _ e1
end
end Rk

namespace Rk
open PySem L2 Own
local macro_rules | `(tactic| walk_at "peel") => `(tactic| repeat (with_reducible first | refine r_next ?_ | refine r_ret ?_ | refine r_seq ?_ | refine r_asg ?_ | refine r_drop ?_ | refine r_call ?_ | refine r_cons ?_ | refine r_nil ?_ | refine r_cb ?_ | refine r_op ?_ | refine r_sset ?_))
/-- what is wished of an error of the class C with one field -/
def Wish (C : Addr) (f : Str) (v : V) (H : Hp) (E : XK) : Prop := ∀ d H', Ext H H' → H' d = some (.xd [(f, v)]) → E (.ref C) (some d) H'
theorem Wish.ext {C : Addr} {f : Str} {v : V} {H H' : Hp} {E : XK} (e : Ext H H') (h : Wish C f v H E) : Wish C f v H' E := fun d G e2 hd => h d G (e.trans e2) hd
theorem fault_none {sh : Option (List V)} {p : V → Bool} (h : faultOf p sh = none) : ∃ xs, sh = some xs ∧ 1 ≤ xs.length ∧ xs.length ≤ 200 ∧ ∀ x ∈ xs, p x = true := by
  unfold faultOf at h
  by_cases ok : lenOk sh = true
  · rw [if_pos ok] at h
    match sh, ok, h with
    | some xs, ok, h =>
      have l : 1 ≤ xs.length ∧ xs.length ≤ 200 := of_decide_eq_true ok
      refine ⟨xs, rfl, l.1, l.2, fun x hx => ?_⟩
      have h : firstNo (xs.map p) = none := h
      have q : (xs.map p).findIdx? (fun b => !b) = none := by
        cases q : (xs.map p).findIdx? (fun b => !b) with
        | none => rfl
        | some n =>
          unfold firstNo at h
          rw [q] at h
          cases h
      rw [List.findIdx?_eq_none_iff] at q
      have := q (p x) (List.mem_map_of_mem hx)
      simpa using this
  · rw [if_neg ok] at h
    cases h
theorem ints_all {xs : List V} (h : ∀ x ∈ xs, isI x = true) : ∃ ns : List Int, xs = ns.map V.int := by
  induction xs with
  | nil => exact ⟨[], rfl⟩
  | cons x r ih =>
    obtain ⟨ns, e⟩ := ih fun y hy => h y (List.mem_cons_of_mem _ hy)
    have hx := h x List.mem_cons_self
    cases x with
    | int z => exact ⟨z :: ns, by rw [e]; rfl⟩
    | _ => cases hx
section
variable {P : Program} {w : World} {K : PySem.W.Frag} {mg : Str → Option Value} {base : Heap} {D : Ad}
def spRowOf (D : Ad) : Sp := fun vs H Q E => ∃ v sh, vs = [v] ∧ Sh H v sh ∧ (∀ i, faultOf isI sh = some i → Wish D.c_NoRow "index" (.int i) H E) ∧
  (faultOf isI sh = none → ∀ xs, sh = some xs → ∀ a H', Ext H H' → H' a = some (.tup xs) → Q (.ref a) H')
theorem ok_row_of (T : Txt K mg D) : FnOk P w K mg base (L2.CX P w) 4 D.a_row_of D.d_row_of ["value"] (spRowOf D) := by
  refine T.F_row_of.okX sc_row_of (fun vs H Q E h => ?_) (fun cdv A outer s H vs Q E hr h => ?_)
  · obtain ⟨v, sh, rfl, _⟩ := h
    rfl
  · obtain ⟨v, sh, rfl, hv, k1, k2⟩ := h
    refine ⟨_, (pss_cons (ps_set (i := 1) sc_row_of.nd rfl (Or.inl rfl) (pe_call (ok_row_fault T) (hr.mono (by decide)) (by rfl) T.g_row_fault T.F_row_fault.kp T.b_row_fault .nil pass0 (pa_cons (pv 0) pa_nil)))
  (pss_cons (ps_if (pt_cmpR op_notN (pv 1) pe_non (nomark _))
    (pss_one (ps_raise rfl (takes_of rfl rfl rfl rfl) (raise_NoRow T (hr.mono (by decide)) (pa_cons (pv 1) pa_nil))))
    pss_nil)
  (pss_one (ps_ret (pe_callTy (call_tupleC K) (by rfl) T.n_tuple (by decide +kernel) (pa_cons (pv 0) pa_nil)))))), ?_⟩
    refine ⟨v, rfl, v, sh, rfl, hv, fun H1 e1 => ⟨_, rfl, rfl, _, rfl, ?_⟩⟩
    rw [optV_non]
    cases hf : faultOf isI sh with
    | some i =>
      refine iteT (raised1 (fun R R' m ⟨x, e, k⟩ => ⟨x, e, m _ _ k⟩) ?_)
      refine ⟨.int i, rfl, .int i, rfl, fun d hd => ?_⟩
      exact k1 i hf d _ (e1.trans (Ext.new hd)) upd_same
    | none =>
      refine iteF ?_
      obtain ⟨xs, rfl, h1, h2, h3⟩ := fault_none hf
      obtain ⟨a, rfl, ha, -, -⟩ := hv.ext e1
      rcases ha with ha | ha
      · exact ⟨_, rfl, a, xs, rfl, .inl ⟨SqL.of ha, fun l hl => k2 hf xs rfl l _ (e1.trans (Ext.new hl)) upd_same⟩⟩
      · exact ⟨_, rfl, a, xs, rfl, .inr ⟨SqT.of ha, k2 hf xs rfl a _ e1 ha⟩⟩
/-- 1 where the cell is at least z -/
def lev (z : Int) : V → V
  | .int c => .int (if z ≤ c then 1 else 0)
  | _ => .non
def spLevel (D : Ad) : Sp := fun vs H Q E => ∃ v sh n, vs = [v, n] ∧ Sh H v sh ∧ ItemOk H n ∧ (∀ i, faultOf isI sh = some i → Wish D.c_NoRow "index" (.int i) H E) ∧
  (faultOf isI sh = none → isI n = false → Wish D.c_NoNumber "name" (.str "value") H E) ∧
  (faultOf isI sh = none → ∀ xs z, sh = some xs → n = .int z → ∀ a H', Ext H H' → H' a = some (.tup (xs.map (lev z))) → Q (.ref a) H')
theorem ok_level (T : Txt K mg D) : FnOk P w K mg base (L2.CX P w) 5 D.a_level D.d_level ["row", "value"] (spLevel D) := by
  refine T.F_level.okX sc_level (fun vs H Q E h => ?_) (fun cdv A outer s H vs Q E hr h => ?_)
  · obtain ⟨v, sh, n, rfl, _⟩ := h
    rfl
  · obtain ⟨v, sh, n, rfl, hv, hn, k1, k2, k3⟩ := h
    refine ⟨_, (pss_cons (ps_set (i := 2) sc_level.nd rfl (Or.inl rfl) (pe_call (ok_row_of T) (hr.mono (by decide)) (by rfl) T.g_row_of T.F_row_of.kp T.b_row_of .nil passE (pa_cons (pv 0) pa_nil)))
  (pss_cons (ps_if (pt_not (pt_val (pe_call (ok_is_number T) (hr.mono (by decide)) (by rfl) T.g_is_number T.F_is_number.kp T.b_is_number .nil pass0 (pa_cons (pv 1) pa_nil))))
    (pss_one (ps_raise rfl (takes_of rfl rfl rfl rfl) (raise_NoNumber T (hr.mono (by decide)) (pa_cons pe_str pa_nil))))
    pss_nil)
  (pss_one (ps_ret (pe_callTy (call_tupleC K) (by rfl) T.n_tuple (by decide +kernel) (pa_cons (pe_lc (own := [("cell", 3)]) (g := gName 3) rfl sc_level.nd (pi_tup (pv 2)) (blkOk_by (own := [("cell", 3)]) (N := ["row", "value", "cells", "cell"]) (sc := defScope s_level) (by decide +kernel)) (fun _ _ _ _ _ => pg_name (i := 3) sc_level.nd rfl (Or.inl rfl)) (fun _ _ _ _ _ => pts_nil) (fun _ _ _ _ _ => (pe_ifExp (pt_cmpR op_ge (pv 3) (pv 1) (nomark _)) pe_int pe_int))) pa_nil)))))), ?_⟩
    refine ⟨v, rfl, v, sh, rfl, hv, k1, fun hf xs hsh a H1 e1 ha => ?_⟩
    refine ⟨n, rfl, n, rfl, hn.ext e1, _, rfl, ?_⟩
    cases hI : isI n with
    | false =>
      refine iteT (raised1 (fun R R' m k => m _ _ k) ?_)
      exact ⟨.str "value", rfl, fun d hd => k2 hf hI d _ (e1.trans (Ext.new hd)) upd_same⟩
    | true =>
      refine iteF ?_
      obtain ⟨z, rfl⟩ : ∃ z, n = .int z := by
        cases n with
        | int z => exact ⟨z, rfl⟩
        | _ => cases hI
      obtain ⟨ys, hys, h1, h2, h3⟩ := fault_none hf
      cases (hsh.symm.trans hys)
      walk_at "peel"
      refine tLc_map (xs := xs) (lev z) ?_ ?_ ?_ (fun i x H' hx e Q q => ?_) fun L H' hL e hl => ?_
      · exact wi_tup fun Q q => ⟨_, rfl, q a H1 (Ext.refl _) ha⟩
      · omega
      · exact fun x => rfl
      · obtain ⟨c, rfl⟩ : ∃ c, x = .int c := by
          have := h3 x (List.mem_of_getElem? hx)
          cases x with
          | int c => exact ⟨c, rfl⟩
          | _ => cases this
        refine ⟨_, rfl, _, rfl, c, z, rfl, rfl, _, rfl, ?_⟩
        have q : Q (.int (if z ≤ c then 1 else 0)) H' := q H' (Ext.refl _)
        refine ite2 (fun hz => ?_) (fun hz => ?_)
        · rw [if_pos (of_decide_eq_true hz)] at q
          exact q
        · rw [if_neg (fun hh => hz (decide_eq_true hh))] at q
          exact q
      · exact ⟨L, _, rfl, .inl ⟨SqL.of hl, fun l hl2 => k3 hf xs z hsh rfl l _ ((e1.trans e).trans (Ext.new hl2)) upd_same⟩⟩
def spLevels (D : Ad) : Sp := fun vs H Q E => ∃ v sh, vs = [v] ∧ Sh H v sh ∧ (∀ i, faultOf isI sh = some i → Wish D.c_NoRow "index" (.int i) H E) ∧
  (faultOf isI sh = none → ∀ ns : List Int, sh = some (ns.map V.int) → ∀ a (ms : List Int) H', Ext H H' → H a = none → ms.Pairwise (· < ·) → (∀ k, k ∈ ms ↔ k ∈ ns) → H' a = some (.lst (ms.map V.int)) → Q (.ref a) H')
theorem ok_levels (T : Txt K mg D) : FnOk P w K mg base (L2.CX P w) 5 D.a_levels D.d_levels ["row"] (spLevels D) := by
  refine T.F_levels.okX sc_levels (fun vs H Q E h => ?_) (fun cdv A outer s H vs Q E hr h => ?_)
  · obtain ⟨v, sh, rfl, _⟩ := h
    rfl
  · obtain ⟨v, sh, rfl, hv, k1, k2⟩ := h
    refine ⟨_, (pss_one (ps_ret (pe_sortedSet (by rfl) T.n_sorted (by rfl) T.n_set (pe_lc (own := [("cell", 1)]) (g := gName 1) rfl sc_levels.nd (pi_tup (pe_call (ok_row_of T) (hr.mono (by decide)) (by rfl) T.g_row_of T.F_row_of.kp T.b_row_of .nil passE (pa_cons (pv 0) pa_nil))) (blkOk_by (own := [("cell", 1)]) (N := ["row", "cell"]) (sc := defScope s_levels) (by decide +kernel)) (fun _ _ _ _ _ => pg_name (i := 1) sc_levels.nd rfl (Or.inl rfl)) (fun _ _ _ _ _ => pts_nil) (fun _ _ _ _ _ => (pe_callTy call_intS (by rfl) T.n_int (by decide +kernel) (pa_cons (pv 1) pa_nil))))))), ?_⟩
    cases hf : faultOf isI sh with
    | some i => exact ⟨v, rfl, v, sh, rfl, hv, k1, fun h0 => by rw [hf] at h0; cases h0⟩
    | none =>
      obtain ⟨ys, rfl, h1, h2, h3⟩ := fault_none hf
      obtain ⟨ns, rfl⟩ := ints_all h3
      walk_at "peel"
      refine tLc_map (xs := ns.map V.int) (fun v => v) ?_ ?_ ?_ (fun i x H' hx e Q q => ?_) fun L H' hL e hl => ?_
      · exact wi_tup fun Q q => ⟨v, rfl, v, _, rfl, hv, k1, fun _ xs hsh a H1 e1 ha => by cases hsh; exact q a H1 e1 ha⟩
      · omega
      · exact fun x => rfl
      · rw [List.getElem?_map] at hx
        cases hn : ns[i]? with
        | none => rw [hn] at hx; cases hx
        | some n =>
          rw [hn] at hx
          cases (Option.some.inj hx)
          exact ⟨_, rfl, .inl ⟨n, rfl, q _ (Ext.refl _)⟩⟩
      · rw [List.map_id'] at hl
        rw [List.length_map] at h2
        exact ⟨L, ns, rfl, SqL.of hl, by omega, fun ms p sorted mem hp => k2 hf ns rfl p ms _ (e.trans (Ext.new hp)) (e.free hp) sorted mem upd_same⟩
end
end Rk

namespace Rk
open PySem L2 Own
local macro_rules | `(tactic| walk_at "side") => `(tactic| first | exact trivial | (show (0:Int) < _; first | assumption | decide | omega) | exact Or.inl ⟨by decide, by decide⟩ | exact Or.inl ⟨by omega, by omega⟩ | exact Or.inr ⟨by decide, by decide⟩ | exact ⟨by decide, by decide⟩ | exact ⟨by decide, by decide, by decide⟩ | exact ⟨by omega, by omega⟩)
local macro_rules | `(tactic| walk_at "rd") => `(tactic| repeat (with_reducible first | refine r_next ?_ | refine r_ret ?_ | refine r_seq ?_ | refine r_asg ?_ | refine r_drop ?_ | refine r_call ?_ | refine r_cons ?_ | refine r_nil ?_ | refine r_cb ?_ | refine r_op ?_ | refine r_sset ?_ | refine r_var (by with_unfolding_all rfl) ?_ | refine r_c ?_ | refine r_name ?_ | refine r_I0 ?_ | refine r_I (by with_unfolding_all walk_at "side") ?_ | refine r_un ?_ | refine r_U ?_ | refine r_if ?_ | refine r_ifE ?_ | refine r_test ?_ | refine r_B ?_ | refine r_bl ?_ | refine r_not ?_ | refine r_and ?_ | refine r_or ?_ | refine r_andV ?_ | refine r_orV ?_ | refine r_notV ?_ | refine r_eqI ?_ | refine r_neI ?_ | refine r_tup ?_ | refine r_lst ?_ | refine r_sub ?_ | refine r_intI ?_ | refine r_intB ?_ | refine r_abs ?_ | refine r_max ?_ | refine r_ixL (SqL.of (by assumption)) (by with_unfolding_all rfl) ?_ | refine r_ixT (SqT.of (by assumption)) (by with_unfolding_all rfl) ?_ | refine r_lenL (SqL.of (by assumption)) ?_ | refine r_lenT (SqT.of (by assumption)) ?_ | refine r_callS ?_ | refine r_cutnx ?_ | refine r_cutrt ?_ | refine r_chain ?_ | refine r_yes ?_ | refine iteT ?_ | refine iteF ?_ | refine iteNF ?_ | refine iteNT ?_ | refine r_truth ?_ | refine r_truI ?_ | refine r_sliceV ?_ | refine r_for ?_ | refine r_rng1 ?_ | refine r_i1 (by with_unfolding_all walk_at "side") ?_))
section
variable {P : Program} {w : World} {K : PySem.W.Frag} {mg : Str → Option Value} {base : Heap} {D : Ad}
def spMix : Sp := fun vs H Q _ => ∃ a b : Int, vs = [.int a, .int b] ∧ ∀ z : Int, 0 ≤ z → Q (.int z) H
theorem ok__law_mix (T : Txt K mg D) : FnOk P w K mg base CX0 1 D.a__law_mix D.d__law_mix ["_law_number_here", "_law_k"] spMix := by
  refine T.F__law_mix.ok sc__law_mix (fun vs H Q E h => ?_) (fun cdv A outer s H vs Q E hr h => ?_)
  · obtain ⟨a, b, rfl, _⟩ := h
    rfl
  · obtain ⟨a, b, rfl, k⟩ := h
    refine ⟨_, (pss_cons (ps_set (i := 0) sc__law_mix.nd rfl (Or.inl rfl) (pe_op op_mod (pe_callTy call_intS (by rfl) T.n_int (by decide +kernel) (pa_cons (pe_op op_mul (pe_op op_add (pe_op op_add (pv 0) (pe_op op_mul pe_int (pv 1))) pe_int) pe_int) pa_nil)) pe_int))
  (pss_cons (ps_set (i := 0) sc__law_mix.nd rfl (Or.inl rfl) (pe_op op_mod (pe_callTy call_intS (by rfl) T.n_int (by decide +kernel) (pa_cons (pe_op op_mul (pv 0) (pe_op op_add (pe_op op_fdivW (pv 0) pe_int) pe_int)) pa_nil)) pe_int))
  (pss_one (ps_ret (pe_op op_mod (pe_callTy call_intS (by rfl) T.n_int (by decide +kernel) (pa_cons (pe_op op_mul (pv 0) (pe_op op_add (pe_op op_add (pe_op op_fdivW (pv 0) pe_int) pe_int) (pv 1))) pa_nil)) pe_int))))), ?_⟩
    walk_at "rd"
    exact k _ (Int.emod_nonneg _ (by decide))
/-- the pool at p -/
def Pl (H : Hp) (p c : Addr) : Prop := ∃ (ns : List Int) (i m k : Int), H p = some (.lst [.ref c, .int i, .int m, .int k]) ∧ H c = some (.lst (ns.map V.int)) ∧ c ≠ p ∧ 0 ≤ i ∧ 0 ≤ m ∧ 0 ≤ k ∧ ns.length ≤ 1000
theorem cut_mem {xs : List V} {lo hi : Option Int} {x : V} (h : x ∈ cutV xs lo hi) : x ∈ xs := List.mem_of_mem_drop (List.mem_of_mem_take h)
def spPool (K : PySem.W.Frag) : Sp := fun vs H Q _ => ∃ (a : Addr) (ns : List Int), vs = [.ref a] ∧ SqL K H a (ns.map V.int) ∧ ns.length ≤ 63 ∧ ∀ p c H', Ext H H' → H p = none → H c = none → Pl H' p c → Q (.ref p) H'
theorem ok__law_pool (T : Txt K mg D) : FnOk P w K mg base CX0 1 D.a__law_pool D.d__law_pool ["_law_script"] (spPool K) := by
  refine T.F__law_pool.ok sc__law_pool (fun vs H Q E h => ?_) (fun cdv A outer s H vs Q E hr h => ?_)
  · obtain ⟨a, ns, rfl, _⟩ := h
    rfl
  · obtain ⟨a, ns, rfl, hs, hl, k⟩ := h
    refine ⟨_, (pss_one (ps_ret (pe_lst (pa_cons (pe_lc (own := [("_law_cell", 1)]) (g := gName 1) rfl sc__law_pool.nd (pi_list (pe_slice (sl_listC K) (pv 0) po_none (po_some pe_int))) (blkOk_by (own := [("_law_cell", 1)]) (N := ["_law_script", "_law_cell"]) (sc := defScope s__law_pool) (by decide +kernel)) (fun _ _ _ _ _ => pg_name (i := 1) sc__law_pool.nd rfl (Or.inl rfl)) (fun _ _ _ _ _ => pts_nil) (fun _ _ _ _ _ => (pe_callTy call_intS (by rfl) T.n_int (by decide +kernel) (pa_cons (pv 1) pa_nil)))) (pa_cons pe_int (pa_cons pe_int (pa_cons pe_int pa_nil))))))), ?_⟩
    walk_at "rd"
    obtain ⟨ms, hms⟩ : ∃ ms : List Int, cutV (ns.map V.int) none (some 63) = ms.map V.int := by
      refine ints_all fun x hx => ?_
      obtain ⟨n, -, e⟩ := List.mem_map.mp (cut_mem hx)
      rw [← e]
      rfl
    have hlen : ms.length ≤ 63 := by
      have q := cutV_length (ns.map V.int) none (some 63)
      rw [hms, List.length_map, List.length_map] at q
      omega
    refine tLc_map (xs := ms.map V.int) (fun v => v) ?_ ?_ ?_ (fun i x H' hx e Q q => ?_) fun L H' hL e hl' => ?_
    · exact wi_list fun Q q => ⟨.ref a, rfl, 63, rfl, a, _, rfl, hs, fun p hp => by rw [hms]; exact q p _ (Ext.new hp) upd_same⟩
    · rw [List.length_map]
      omega
    · exact fun x => rfl
    · rw [List.getElem?_map] at hx
      cases hn : ms[i]? with
      | none => rw [hn] at hx; cases hx
      | some n =>
        rw [hn] at hx
        cases (Option.some.inj hx)
        walk_at "rd"
        exact q _ (Ext.refl _)
    · rw [List.map_id'] at hl'
      walk_at "rd"
      refine r_size (by show 4 ≤ 1000; decide) fun p hp => ?_
      refine k p L _ (e.trans (Ext.new hp)) (e.free hp) hL ⟨ms, 0, 0, 0, upd_same, ?_, ne_of_none hl' hp, by decide, by decide, by decide, by omega⟩
      rw [upd_ne (ne_of_none hl' hp)]
      exact hl'
theorem at0 {α : Type} {a b c d : α} : atI [a, b, c, d] 0 = some a := rfl
theorem at1 {α : Type} {a b c d : α} : atI [a, b, c, d] 1 = some b := rfl
theorem at2 {α : Type} {a b c d : α} : atI [a, b, c, d] 2 = some c := rfl
theorem at3 {α : Type} {a b c d : α} : atI [a, b, c, d] 3 = some d := rfl
theorem at_ints {ns : List Int} {i : Int} (h0 : 0 ≤ i) (h1 : i < (ns.length : Int)) : ∃ z, atI (ns.map V.int) i = some (.int z) := by
  obtain ⟨j, rfl⟩ : ∃ j : Nat, i = (j : Int) := ⟨i.toNat, by omega⟩
  refine ⟨ns[j]'(by omega), atI_nat ?_⟩
  rw [List.getElem?_map, List.getElem?_eq_getElem (by omega)]
  rfl
def spDraw : Sp := fun vs H Q _ => ∃ (p c : Addr) (lim : Int), vs = [.ref p, .int lim] ∧ Pl H p c ∧ 0 < lim ∧ lim.natAbs.log2 < 9000 ∧ ∀ (r : Int) H', 0 ≤ r → r < lim → Pl H' p c → Ext (wo p H) (wo p H') → Q (.int r) H'
theorem ok__law_draw (T : Txt K mg D) : FnOk P w K mg base CX0 2 D.a__law_draw D.d__law_draw ["_law_pool_here", "_law_limit"] spDraw := by
  refine T.F__law_draw.ok sc__law_draw (fun vs H Q E h => ?_) (fun cdv A outer s H vs Q E hr h => ?_)
  · obtain ⟨p, c, lim, rfl, _⟩ := h
    rfl
  · obtain ⟨p, c, lim, rfl, ⟨ns, i, m, n, hp, hc, ne, h0, h1, h2, hl⟩, l0, l1, k⟩ := h
    refine ⟨_, (pss_cons (ps_asg (pe_op op_add (pe_ix (ix_listC K) (pv 0) pe_int (fun _ _ => rfl)) pe_int) (pg_sub (pv 0) pe_int set_list))
  (pss_cons (ps_set (i := 2) sc__law_draw.nd rfl (Or.inl rfl) (pe_ix (ix_listC K) (pv 0) pe_int (fun _ _ => rfl)))
  (Evl.pss_cut (ps_if (PW.pt (pw_and (pt_cmpR op_eq (pe_ix (ix_listC K) (pv 0) pe_int (fun _ _ => rfl)) pe_int (nomark _)) (pw_and1 (pt_cmpR op_lt (pe_ix (ix_listC K) (pv 0) pe_int (fun _ _ => rfl)) (pe_callB (call_lenC K) (by rfl) T.n_len (by decide +kernel) (pa_cons (pv 2) pa_nil)) (nomark _)))))
    (pss_cons (ps_set (i := 3) sc__law_draw.nd rfl (Or.inl rfl) (pe_callTy call_intS (by rfl) T.n_int (by decide +kernel) (pa_cons (pe_ix (ix_listC K) (pv 2) (pe_ix (ix_listC K) (pv 0) pe_int (fun _ _ => rfl)) (fun _ _ => rfl)) pa_nil)))
    (pss_cons (ps_asg (pe_op op_add (pe_ix (ix_listC K) (pv 0) pe_int (fun _ _ => rfl)) pe_int) (pg_sub (pv 0) pe_int set_list))
    (pss_cons (ps_if (pt_cmpR op_lt (pe_callB call_absS (by rfl) T.n_abs (by decide +kernel) (pa_cons (pv 3) pa_nil)) (pe_op op_pow pe_int pe_int) (nomark _))
      (pss_one (ps_ret (pe_op op_mod (pe_callTy call_intS (by rfl) T.n_int (by decide +kernel) (pa_cons (pe_call (ok__law_mix T) (hr.mono (by decide)) (by rfl) T.g__law_mix T.F__law_mix.kp T.b__law_mix .nil pass0 (pa_cons (pv 3) (pa_cons (pe_ix (ix_listC K) (pv 0) pe_int (fun _ _ => rfl)) pa_nil))) pa_nil)) (pv 1))))
      pss_nil)
    (pss_one (ps_asg (pe_op op_add (pe_op op_mul pe_int (pe_callB call_absS (by rfl) T.n_abs (by decide +kernel) (pa_cons (pv 3) pa_nil))) (pe_callTy call_intS (by rfl) T.n_int (by decide +kernel) (pa_cons (pe_cmpR op_lt (pv 3) pe_int (nomark _)) pa_nil))) (pg_sub (pv 0) pe_int set_list))))))
    pss_nil)
  (pss_cons (ps_if (pt_cmpR op_gt (pe_ix (ix_listC K) (pv 0) pe_int (fun _ _ => rfl)) pe_int (nomark _))
    (pss_cons (ps_set (i := 4) sc__law_draw.nd rfl (Or.inl rfl) (pe_op op_mod (pe_callTy call_intS (by rfl) T.n_int (by decide +kernel) (pa_cons (pe_ix (ix_listC K) (pv 0) pe_int (fun _ _ => rfl)) pa_nil)) (pv 1)))
    (pss_cons (ps_asg (pe_op op_fdivW (pe_callTy call_intS (by rfl) T.n_int (by decide +kernel) (pa_cons (pe_ix (ix_listC K) (pv 0) pe_int (fun _ _ => rfl)) pa_nil)) (pv 1)) (pg_sub (pv 0) pe_int set_list))
    (pss_one (ps_ret (pv 4)))))
    pss_nil)
  (pss_cons (ps_if (pt_cmpR op_eq (pe_callB (call_lenC K) (by rfl) T.n_len (by decide +kernel) (pa_cons (pv 2) pa_nil)) pe_int (nomark _))
    (pss_one (ps_ret (pe_op op_mod (pe_callTy call_intS (by rfl) T.n_int (by decide +kernel) (pa_cons (pe_call (ok__law_mix T) (hr.mono (by decide)) (by rfl) T.g__law_mix T.F__law_mix.kp T.b__law_mix .nil pass0 (pa_cons pe_int (pa_cons (pe_ix (ix_listC K) (pv 0) pe_int (fun _ _ => rfl)) pa_nil))) pa_nil)) (pv 1))))
    pss_nil)
  (pss_one (ps_ret (pe_op op_mod (pe_callTy call_intS (by rfl) T.n_int (by decide +kernel) (pa_cons (pe_call (ok__law_mix T) (hr.mono (by decide)) (by rfl) T.g__law_mix T.F__law_mix.kp T.b__law_mix .nil pass0 (pa_cons (pe_callTy call_intS (by rfl) T.n_int (by decide +kernel) (pa_cons (pe_ix (ix_listC K) (pv 2) (pe_op op_mod (pe_callTy call_intS (by rfl) T.n_int (by decide +kernel) (pa_cons (pe_ix (ix_listC K) (pv 0) pe_int (fun _ _ => rfl)) pa_nil)) (pe_callB (call_lenC K) (by rfl) T.n_len (by decide +kernel) (pa_cons (pv 2) pa_nil))) (fun _ _ => rfl)) pa_nil)) (pa_cons (pe_ix (ix_listC K) (pv 0) pe_int (fun _ _ => rfl)) pa_nil))) pa_nil)) (pv 1))))))))), ?_⟩
    walk_at "rd"
    refine r_setL hp (j := 3) rfl ?_
    have e1 : Ext (wo p H) (wo p (upd H p (.lst ([.ref c, .int i, .int m, .int n].set 3 (.int (n + 1)))))) := wo_upd
    generalize hG : upd H p (.lst ([.ref c, .int i, .int m, .int n].set 3 (.int (n + 1)))) = G at e1
    have gp : G p = some (.lst [.ref c, .int i, .int m, .int (n + 1)]) := by rw [← hG, upd_same]; rfl
    have gc : G c = some (.lst (ns.map V.int)) := by rw [← hG, upd_ne ne]; exact hc
    walk_at "rd"
    refine r_cut (fun σ' G' => ∃ (i m n : Int) (v3 v4 : Option V), σ' = [some (.ref p), some (.int lim), some (.ref c), v3, v4] ∧ G' p = some (.lst [.ref c, .int i, .int m, .int n]) ∧ G' c = some (.lst (ns.map V.int)) ∧ 0 ≤ i ∧ 0 ≤ m ∧ 0 ≤ n ∧ Ext (wo p H) (wo p G')) ?_ ?_
    · walk_at "rd"
      refine ite2 (fun hm => ?_) (fun hm => ?_)
      · walk_at "rd"
        refine ite2 (fun hi => ?_) (fun hi => ?_)
        · have hi : i < ((ns.map V.int).length : Int) := of_decide_eq_true hi
          rw [List.length_map] at hi
          obtain ⟨z, hz⟩ := at_ints h0 hi
          walk_at "rd"
          refine r_ixL (SqL.of gc) hz ?_
          walk_at "rd"
          refine r_setL gp (j := 1) rfl ?_
          have e2 : Ext (wo p G) (wo p (upd G p (.lst ([.ref c, .int i, .int m, .int (n + 1)].set 1 (.int (i + 1)))))) := wo_upd
          generalize hG2 : upd G p (.lst ([.ref c, .int i, .int m, .int (n + 1)].set 1 (.int (i + 1)))) = G2 at e2
          have gp2 : G2 p = some (.lst [.ref c, .int (i + 1), .int m, .int (n + 1)]) := by rw [← hG2, upd_same]; rfl
          have gc2 : G2 c = some (.lst (ns.map V.int)) := by rw [← hG2, upd_ne ne]; exact gc
          have st2 : Pl G2 p c := ⟨ns, i + 1, m, n + 1, gp2, gc2, ne, by omega, h1, by omega, hl⟩
          walk_at "rd"
          refine ite2 (fun hs => ?_) (fun hs => ?_)
          · walk_at "rd"
            refine ⟨_, _, rfl, fun q hq => ?_⟩
            walk_at "rd"
            exact k _ _ (Int.emod_nonneg _ (by omega)) (Int.emod_lt_of_pos _ l0) st2 (e1.trans e2)
          · walk_at "rd"
            refine r_setL gp2 (j := 2) rfl ?_
            refine ⟨i + 1, _, n + 1, _, _, rfl, upd_same, by rw [upd_ne ne]; exact gc2, by omega, ?_, by omega, (e1.trans e2).trans wo_upd⟩
            have a1 : (0 : Int) ≤ (if z < 0 then -z else z) := by split <;> omega
            have a2 : (0 : Int) ≤ (if decide (z < 0) = true then 1 else 0) := by split <;> omega
            omega
        · exact ⟨i, m, n + 1, _, _, rfl, gp, gc, h0, h1, by omega, e1⟩
      · refine iteF ?_
        exact ⟨i, m, n + 1, _, _, rfl, gp, gc, h0, h1, by omega, e1⟩
    · rintro σ' G' ⟨i, m, n, v3, v4, rfl, gp', gc', h0, h1, h2, e2⟩
      have st' : Pl G' p c := ⟨ns, i, m, n, gp', gc', ne, h0, h1, h2, hl⟩
      walk_at "rd"
      refine ite2 (fun hm => ?_) (fun hm => ?_)
      · walk_at "rd"
        refine r_setL gp' (j := 2) rfl ?_
        walk_at "rd"
        refine k _ _ (Int.emod_nonneg _ (by omega)) (Int.emod_lt_of_pos _ l0) ⟨ns, i, m / lim, n, upd_same, by rw [upd_ne ne]; exact gc', ne, h0, Int.ediv_nonneg h1 (by omega), h2, hl⟩ (e2.trans wo_upd)
      · walk_at "rd"
        refine ite2 (fun hz => ?_) (fun hz => ?_)
        · walk_at "rd"
          refine ⟨_, _, rfl, fun q hq => ?_⟩
          walk_at "rd"
          exact k _ _ (Int.emod_nonneg _ (by omega)) (Int.emod_lt_of_pos _ l0) st' e2
        · have hz : ¬ (((ns.map V.int).length : Int) = 0) := fun e => hz (decide_eq_true e)
          rw [List.length_map] at hz
          have hpos : (0 : Int) < (ns.length : Int) := by omega
          obtain ⟨z, hzz⟩ := at_ints (ns := ns) (i := n % (ns.length : Int)) (Int.emod_nonneg _ (by omega)) (Int.emod_lt_of_pos _ hpos)
          walk_at "rd"
          refine r_I (show (0 : Int) < _ by rw [List.length_map]; exact hpos) ?_
          refine r_ixL (SqL.of gc') (by rw [List.length_map]; exact hzz) ?_
          walk_at "rd"
          refine ⟨_, _, rfl, fun q hq => ?_⟩
          walk_at "rd"
          exact k _ _ (Int.emod_nonneg _ (by omega)) (Int.emod_lt_of_pos _ l0) st' e2
def spNumber : Sp := fun vs H Q _ => ∃ (p c : Addr), vs = [.ref p] ∧ Pl H p c ∧ ∀ (z : Int) H', Pl H' p c → Ext (wo p H) (wo p H') → Q (.int z) H'
theorem ok__law_number (T : Txt K mg D) : FnOk P w K mg base CX0 3 D.a__law_number D.d__law_number ["_law_pool_here"] spNumber := by
  refine T.F__law_number.ok sc__law_number (fun vs H Q E h => ?_) (fun cdv A outer s H vs Q E hr h => ?_)
  · obtain ⟨p, c, rfl, _⟩ := h
    rfl
  · obtain ⟨p, c, rfl, pl, k⟩ := h
    refine ⟨_, (pss_cons (ps_set (i := 1) sc__law_number.nd rfl (Or.inl rfl) (pe_call (ok__law_draw T) (hr.mono (by decide)) (by rfl) T.g__law_draw T.F__law_draw.kp T.b__law_draw .nil pass0 (pa_cons (pv 0) (pa_cons pe_int pa_nil))))
  (pss_cons (ps_if (pt_cmpR op_eq (pv 1) pe_int (nomark _))
    (pss_one (ps_ret (pe_op op_sub (pe_call (ok__law_draw T) (hr.mono (by decide)) (by rfl) T.g__law_draw T.F__law_draw.kp T.b__law_draw .nil pass0 (pa_cons (pv 0) (pa_cons (pe_op op_add (pe_op op_mul pe_int (pe_op op_pow pe_int pe_int)) pe_int) pa_nil))) (pe_op op_pow pe_int pe_int))))
    pss_nil)
  (pss_cons (ps_if (pt_cmpR op_eq (pv 1) pe_int (nomark _))
    (pss_one (ps_ret (pe_op op_add (pe_op op_pow pe_int pe_int) (pe_call (ok__law_draw T) (hr.mono (by decide)) (by rfl) T.g__law_draw T.F__law_draw.kp T.b__law_draw .nil pass0 (pa_cons (pv 0) (pa_cons pe_int pa_nil))))))
    pss_nil)
  (pss_cons (ps_if (pt_cmpR op_eq (pv 1) pe_int (nomark _))
    (pss_one (ps_ret (pe_op op_sub pe_int (pe_call (ok__law_draw T) (hr.mono (by decide)) (by rfl) T.g__law_draw T.F__law_draw.kp T.b__law_draw .nil pass0 (pa_cons (pv 0) (pa_cons pe_int pa_nil))))))
    pss_nil)
  (pss_one (ps_ret (pe_call (ok__law_draw T) (hr.mono (by decide)) (by rfl) T.g__law_draw T.F__law_draw.kp T.b__law_draw .nil pass0 (pa_cons (pv 0) (pa_cons pe_int pa_nil))))))))), ?_⟩
    walk_at "rd"
    refine ⟨p, c, _, rfl, pl, by decide, by decide +kernel, fun r H1 r0 r1 pl1 e1 => ?_⟩
    walk_at "rd"
    refine ite2 (fun _ => ?_) (fun _ => ?_)
    · walk_at "rd"
      refine ⟨p, c, _, rfl, pl1, by decide, by decide +kernel, fun r H2 r0 r1 pl2 e2 => ?_⟩
      walk_at "rd"
      exact k _ _ pl2 (e1.trans e2)
    walk_at "rd"
    refine ite2 (fun _ => ?_) (fun _ => ?_)
    · walk_at "rd"
      refine ⟨p, c, _, rfl, pl1, by decide, by decide +kernel, fun r H2 r0 r1 pl2 e2 => ?_⟩
      walk_at "rd"
      exact k _ _ pl2 (e1.trans e2)
    walk_at "rd"
    refine ite2 (fun _ => ?_) (fun _ => ?_)
    · walk_at "rd"
      refine ⟨p, c, _, rfl, pl1, by decide, by decide +kernel, fun r H2 r0 r1 pl2 e2 => ?_⟩
      walk_at "rd"
      exact k _ _ pl2 (e1.trans e2)
    walk_at "rd"
    refine ⟨p, c, _, rfl, pl1, by decide, by decide +kernel, fun r H2 r0 r1 pl2 e2 => ?_⟩
    exact k _ _ pl2 (e1.trans e2)
end
end Rk

namespace Rk
open PySem L2 Own
local macro_rules | `(tactic| walk_at "side") => `(tactic| first | exact trivial | (show (0:Int) < _; first | assumption | decide | omega) | exact Or.inl ⟨by decide, by decide⟩ | exact Or.inl ⟨by omega, by omega⟩ | exact Or.inr ⟨by decide, by decide⟩ | exact ⟨by decide, by decide⟩ | exact ⟨by decide, by decide, by decide⟩ | exact ⟨by omega, by omega⟩)
local macro_rules | `(tactic| walk_at "rd") => `(tactic| repeat (with_reducible first | refine r_next ?_ | refine r_ret ?_ | refine r_seq ?_ | refine r_asg ?_ | refine r_drop ?_ | refine r_call ?_ | refine r_cons ?_ | refine r_nil ?_ | refine r_cb ?_ | refine r_op ?_ | refine r_sset ?_ | refine r_var (by with_unfolding_all rfl) ?_ | refine r_c ?_ | refine r_name ?_ | refine r_I0 ?_ | refine r_I (by with_unfolding_all walk_at "side") ?_ | refine r_un ?_ | refine r_U ?_ | refine r_if ?_ | refine r_ifE ?_ | refine r_test ?_ | refine r_B ?_ | refine r_bl ?_ | refine r_not ?_ | refine r_and ?_ | refine r_or ?_ | refine r_andV ?_ | refine r_orV ?_ | refine r_notV ?_ | refine r_eqI ?_ | refine r_neI ?_ | refine r_tup ?_ | refine r_lst ?_ | refine r_sub ?_ | refine r_intI ?_ | refine r_intB ?_ | refine r_abs ?_ | refine r_max ?_ | refine r_ixL (SqL.of (by assumption)) (by with_unfolding_all rfl) ?_ | refine r_ixT (SqT.of (by assumption)) (by with_unfolding_all rfl) ?_ | refine r_lenL (SqL.of (by assumption)) ?_ | refine r_lenT (SqT.of (by assumption)) ?_ | refine r_callS ?_ | refine r_cutnx ?_ | refine r_cutrt ?_ | refine r_chain ?_ | refine r_yes ?_ | refine iteT ?_ | refine iteF ?_ | refine iteNF ?_ | refine iteNT ?_ | refine r_truth ?_ | refine r_truI ?_ | refine r_sliceV ?_ | refine r_for ?_ | refine r_rng1 ?_ | refine r_i1 (by with_unfolding_all walk_at "side") ?_))
section
variable {P : Program} {w : World} {K : PySem.W.Frag} {mg : Str → Option Value} {base : Heap} {D : Ad}
theorem Pl.ext {H H' : Hp} {p c : Addr} (h : Pl H p c) (e : Ext H H') : Pl H' p c := by
  obtain ⟨ns, i, m, k, hp, hc, r⟩ := h
  exact ⟨ns, i, m, k, e _ _ hp, e _ _ hc, r⟩
theorem Pl.ne {H : Hp} {p c l : Addr} (h : Pl H p c) (e : H l = none) : l ≠ p ∧ l ≠ c := by
  obtain ⟨ns, i, m, k, hp, hc, r⟩ := h
  exact ⟨fun z => (by rw [z, hp] at e; cases e), fun z => (by rw [z, hc] at e; cases e)⟩
theorem Pl.mut {H : Hp} {p c l : Addr} {o : HO} (h : Pl H p c) (ne : l ≠ p ∧ l ≠ c) : Pl (upd H l o) p c := by
  obtain ⟨ns, i, m, k, hp, hc, r⟩ := h
  exact ⟨ns, i, m, k, by rw [upd_ne ne.1.symm]; exact hp, by rw [upd_ne ne.2.symm]; exact hc, r⟩
/-- a new object apart from the pool may change -/
theorem wo_mut {H H' : Hp} {p l : Addr} {o : HO} (e : Ext (wo p H) (wo p H')) (hl : H l = none) : Ext (wo p H) (wo p (upd H' l o)) := fun b u hb => by
  obtain ⟨nb, h2⟩ := wo_some hb
  obtain ⟨-, e4⟩ := wo_some (e b u hb)
  rw [wo_ne nb, upd_ne (fun z => by rw [z, hl] at h2; cases h2)]
  exact e4
theorem wo_free {H H' : Hp} {p c l : Addr} (e : Ext (wo p H) (wo p H')) (pl : Pl H' p c) (h : H' l = none) : H l = none := by
  cases q : H l with
  | none => rfl
  | some o =>
    have ne := (pl.ne h).1
    have z := e l o (by rw [wo_ne ne]; exact q)
    rw [wo_ne ne, h] at z
    cases z
theorem wo_get {H H' : Hp} {p l : Addr} {o : HO} (e : Ext (wo p H) (wo p H')) (ne : l ≠ p) (h : H l = some o) : H' l = some o := (wo_some (e l o (by rw [wo_ne ne]; exact h))).2
theorem wo_upd2 {p l : Addr} {H : Hp} {o : HO} : wo l (wo p (upd H l o)) = wo l (wo p H) := by
  funext b
  unfold wo
  by_cases h : b = l
  · rw [if_pos h, if_pos h]
  · rw [if_neg h, if_neg h]
    by_cases h2 : b = p
    · rw [if_pos h2, if_pos h2]
    · rw [if_neg h2, if_neg h2, upd_ne h]
def others : List V := [.str "01", .non, .int 7, .bl true, .str ""]
def spValue : Sp := fun vs H Q _ => ∃ (p c : Addr), vs = [.ref p] ∧ Pl H p c ∧ ∀ v sh H', Pl H' p c → Ext (wo p H) (wo p H') → Sh (wo p H') v sh → Q v H'
theorem ok__law_value (T : Txt K mg D) : FnOk P w K mg base CX0 4 D.a__law_value D.d__law_value ["_law_pool_here"] spValue := by
  refine T.F__law_value.ok sc__law_value (fun vs H Q E h => ?_) (fun cdv A outer s H vs Q E hr h => ?_)
  · obtain ⟨p, c, rfl, _⟩ := h
    rfl
  · obtain ⟨p, c, rfl, pl, k⟩ := h
    refine ⟨_, (pss_cons (ps_set (i := 1) sc__law_value.nd rfl (Or.inl rfl) (pe_call (ok__law_draw T) (hr.mono (by decide)) (by rfl) T.g__law_draw T.F__law_draw.kp T.b__law_draw .nil pass0 (pa_cons (pv 0) (pa_cons pe_int pa_nil))))
  (pss_cons (ps_if (pt_cmpR op_lt (pv 1) pe_int (nomark _))
    (pss_cons (ps_set (i := 2) sc__law_value.nd rfl (Or.inl rfl) (pe_tup (pa_cons pe_str (pa_cons pe_non (pa_cons pe_int (pa_cons pe_bl (pa_cons pe_str pa_nil)))))))
    (pss_one (ps_ret (pe_ix (ix_tupC K) (pv 2) (pv 1) (fun _ _ => rfl)))))
    pss_nil)
  (pss_cons (ps_set (i := 3) sc__law_value.nd rfl (Or.inl rfl) (pe_call (ok__law_draw T) (hr.mono (by decide)) (by rfl) T.g__law_draw T.F__law_draw.kp T.b__law_draw .nil pass0 (pa_cons (pv 0) (pa_cons pe_int pa_nil))))
  (Evl.pss_cut (ps_if (pt_cmpR op_eq (pe_call (ok__law_draw T) (hr.mono (by decide)) (by rfl) T.g__law_draw T.F__law_draw.kp T.b__law_draw .nil pass0 (pa_cons (pv 0) (pa_cons pe_int pa_nil))) pe_int (nomark _))
    (pss_one (ps_set (i := 3) sc__law_value.nd rfl (Or.inl rfl) (pe_op op_add pe_int (pe_call (ok__law_draw T) (hr.mono (by decide)) (by rfl) T.g__law_draw T.F__law_draw.kp T.b__law_draw .nil pass0 (pa_cons (pv 0) (pa_cons pe_int pa_nil))))))
    pss_nil)
  (pss_cons (ps_set (i := 4) sc__law_value.nd rfl (Or.inr rfl) (pe_call (ok__law_draw T) (hr.mono (by decide)) (by rfl) T.g__law_draw T.F__law_draw.kp T.b__law_draw .nil pass0 (pa_cons (pv 0) (pa_cons pe_int pa_nil))))
  (pss_cons (ps_set (i := 6) sc__law_value.nd rfl (Or.inr rfl) (pe_lc (own := [("_law_k", 5)]) (g := gName 5) rfl sc__law_value.nd (pi_range1 rfl T.n_range (pa_cons (pe_op op_add pe_int (pe_call (ok__law_draw T) (hr.mono (by decide)) (by rfl) T.g__law_draw T.F__law_draw.kp T.b__law_draw .nil pass0 (pa_cons (pv 0) (pa_cons pe_int pa_nil)))) pa_nil)) (blkOk_by (own := [("_law_k", 5)]) (N := ["_law_pool_here", "_law_kind", "_law_others", "_law_size", "_law_bits", "_law_k", "_law_start", "_law_row", "_law_spoils", "_law_bad", "_law_place"]) (sc := defScope s__law_value) (by decide +kernel)) (fun _ _ _ _ _ => pg_name (i := 5) sc__law_value.nd rfl (Or.inl rfl)) (fun _ _ _ _ _ => pts_nil) (fun _ _ _ _ _ => (pe_ifExp (pt_truthC K (pv 4)) (pe_call (ok__law_draw T) (hr.mono (by decide)) (by rfl) T.g__law_draw T.F__law_draw.kp T.b__law_draw .nil pass0 (pa_cons (pv 0) (pa_cons pe_int pa_nil))) (pe_call (ok__law_number T) (hr.mono (by decide)) (by rfl) T.g__law_number T.F__law_number.kp T.b__law_number .nil pass0 (pa_cons (pv 0) pa_nil))))))
  (pss_cons (ps_setLc (i := 7) (own := [("_law_k", 5)]) (g := gName 5) rfl sc__law_value.nd rfl rfl (sw_true rfl rfl rfl (by decide +kernel)) (pi_range1 rfl T.n_range (pa_cons (pv 3) pa_nil)) (blkOk_by (own := [("_law_k", 5)]) (N := ["_law_pool_here", "_law_kind", "_law_others", "_law_size", "_law_bits", "_law_k", "_law_start", "_law_row", "_law_spoils", "_law_bad", "_law_place"]) (sc := defScope s__law_value) (by decide +kernel)) (fun _ _ _ _ _ => pg_name (i := 5) sc__law_value.nd rfl (Or.inl rfl)) (fun _ _ _ _ _ => pts_nil) (fun _ _ _ _ _ => (pe_ix (ix_listC K) (pv 6) (pe_op op_mod (pe_callTy call_intS (by rfl) T.n_int (by decide +kernel) (pa_cons (pv 5) pa_nil)) (pe_callB (call_lenC K) (by rfl) T.n_len (by decide +kernel) (pa_cons (pv 6) pa_nil))) (fun _ _ => rfl))))
  (pss_cons (ps_set (i := 8) sc__law_value.nd rfl (Or.inl rfl) (pe_tup (pa_cons pe_bl (pa_cons pe_bl (pa_cons pe_str (pa_cons pe_non (pa_cons (pe_tup (pa_cons pe_int pa_nil)) (pa_cons (pe_lst (pa_cons pe_int pa_nil)) (pa_cons pe_str pa_nil)))))))))
  (pss_cons (ps_for PassesOwn.never rfl (pi_range1 rfl T.n_range (pa_cons (pe_call (ok__law_draw T) (hr.mono (by decide)) (by rfl) T.g__law_draw T.F__law_draw.kp T.b__law_draw .nil pass0 (pa_cons (pv 0) (pa_cons pe_int pa_nil))) pa_nil)) (pg_name (i := 5) sc__law_value.nd rfl (Or.inl rfl))
    (pss_cons (ps_set (i := 9) sc__law_value.nd rfl (Or.inl rfl) (pe_ix (ix_tupC K) (pv 8) (pe_call (ok__law_draw T) (hr.mono (by decide)) (by rfl) T.g__law_draw T.F__law_draw.kp T.b__law_draw .nil pass0 (pa_cons (pv 0) (pa_cons pe_int pa_nil))) (fun _ _ => rfl)))
    (pss_cons (ps_set (i := 10) sc__law_value.nd rfl (Or.inl rfl) (pe_call (ok__law_draw T) (hr.mono (by decide)) (by rfl) T.g__law_draw T.F__law_draw.kp T.b__law_draw .nil pass0 (pa_cons (pv 0) (pa_cons (pe_callB (call_maxS rfl) (by rfl) T.n_max (by decide +kernel) (pa_cons pe_int (pa_cons (pv 3) pa_nil))) pa_nil))))
    (pss_one (ps_if (pt_cmpR op_gt (pv 3) pe_int (nomark _))
      (pss_one (ps_asg (pv 9) (pg_sub (pv 7) (pv 10) set_list)))
      pss_nil)))))
  (pss_one (ps_ret (pe_ifExp (pt_cmpR op_lt (pv 1) pe_int (nomark _)) (pv 7) (pe_callTy (call_tupleC K) (by rfl) T.n_tuple (by decide +kernel) (pa_cons (pv 7) pa_nil)))))))))))))), ?_⟩
    walk_at "rd"
    refine ⟨p, c, _, rfl, pl, by decide, by decide +kernel, fun kind H1 r0 r1 pl1 e1 => ?_⟩
    walk_at "rd"
    refine ite2 (fun hk => ?_) (fun hk => ?_)
    · have hk : kind < 5 := of_decide_eq_true hk
      walk_at "rd"
      refine r_size (by show 5 ≤ 1000; decide) fun t ht => ?_
      walk_at "rd"
      have e2 : Ext H1 (upd H1 t (.tup [.str "01", .non, .int 7, .bl true, .str ""])) := Ext.new ht
      have fin : ∀ v, Sh (wo p (upd H1 t (.tup [.str "01", .non, .int 7, .bl true, .str ""]))) v none → Q v (upd H1 t (.tup [.str "01", .non, .int 7, .bl true, .str ""])) := fun v hv => k v none _ (pl1.ext e2) (e1.trans (wo_ext e2)) hv
      have hc : kind = 0 ∨ kind = 1 ∨ kind = 2 ∨ kind = 3 ∨ kind = 4 := by omega
      rcases hc with rfl | rfl | rfl | rfl | rfl
      · exact r_ixT (SqT.of upd_same) rfl (fin _ (.inr (.inr (.inl ⟨_, rfl⟩))))
      · exact r_ixT (SqT.of upd_same) rfl (fin _ (.inr (.inr (.inr rfl))))
      · exact r_ixT (SqT.of upd_same) rfl (fin _ (.inl ⟨_, rfl⟩))
      · exact r_ixT (SqT.of upd_same) rfl (fin _ (.inr (.inl ⟨_, rfl⟩)))
      · exact r_ixT (SqT.of upd_same) rfl (fin _ (.inr (.inr (.inl ⟨_, rfl⟩))))
    · walk_at "rd"
      refine ⟨p, c, _, rfl, pl1, by decide, by decide +kernel, fun sz H2 s0 s1 pl2 e2 => ?_⟩
      walk_at "rd"
      refine r_cut (fun τ G => ∃ sz : Int, τ = [some (.ref p), some (.int kind), none, some (.int sz), none, none, none, none, none, none, none] ∧ 0 ≤ sz ∧ sz ≤ 202 ∧ Pl G p c ∧ Ext (wo p H) (wo p G)) ?_ ?_
      · walk_at "rd"
        refine ⟨p, c, _, rfl, pl2, by decide, by decide +kernel, fun r H3 r0 r1 pl3 e3 => ?_⟩
        walk_at "rd"
        refine ite2 (fun _ => ?_) (fun _ => ?_)
        · walk_at "rd"
          refine ⟨p, c, _, rfl, pl3, by decide, by decide +kernel, fun r H4 r0 r1 pl4 e4 => ?_⟩
          walk_at "rd"
          exact ⟨_, rfl, by omega, by omega, pl4, ((e1.trans e2).trans e3).trans e4⟩
        · exact ⟨sz, rfl, s0, by omega, pl3, (e1.trans e2).trans e3⟩
      · rintro τ G ⟨sz, rfl, s0, s1, plG, eG⟩
        walk_at "rd"
        refine ⟨p, c, _, rfl, plG, by decide, by decide +kernel, fun bits H3 b0 b1 pl3 e3 => ?_⟩
        walk_at "rd"
        refine r_lc ?_
        walk_at "rd"
        refine ⟨p, c, _, rfl, pl3, by decide, by decide +kernel, fun n H4 n0 n1 pl4 e4 => ?_⟩
        walk_at "rd"
        intro L hL
        have e14 : Ext (wo p H) (wo p H4) := (eG.trans e3).trans e4
        refine lcin_range (n := (1 + n).toNat) (fun i G' => Pl G' p c ∧ Ext (wo p H4) (wo p G') ∧ ∃ zs : List Int, zs.length = i ∧ G' L = some (.lst (zs.map V.int))) ⟨pl4.mut (pl4.ne hL), wo_mut (Ext.refl _) hL, [], rfl, upd_same⟩ (fun i G' hi ⟨plG', eG', zs, hz, hLz⟩ => ⟨rfl, ?_⟩) (fun G' ⟨plG', eG', zs, hz, hLz⟩ => ?_)
        · walk_at "rd"
          have fin : ∀ (z : Int) G2, Pl G2 p c → Ext (wo p G') (wo p G2) → ∃ acc, G2 L = some (.lst acc) ∧ acc.length < sizeLine ∧ (Pl (upd G2 L (.lst (acc ++ [V.int z]))) p c ∧ Ext (wo p H4) (wo p (upd G2 L (.lst (acc ++ [V.int z])))) ∧ ∃ zs : List Int, zs.length = i + 1 ∧ (upd G2 L (.lst (acc ++ [V.int z]))) L = some (.lst (zs.map V.int))) := by
            intro z G2 pl2 e2
            refine ⟨zs.map V.int, wo_get e2 (pl4.ne hL).1 hLz, by rw [List.length_map, sizeLine_eq]; omega, pl2.mut (pl4.ne hL), wo_mut (eG'.trans e2) hL, zs ++ [z], by rw [List.length_append, hz]; rfl, ?_⟩
            rw [upd_same, List.map_append]
            rfl
          refine ite2 (fun _ => ?_) (fun _ => ?_)
          · walk_at "rd"
            refine ⟨p, c, _, rfl, plG', by decide, by decide +kernel, fun z G2 _ _ pl2 e2 => fin z G2 pl2 e2⟩
          · walk_at "rd"
            refine ⟨p, c, rfl, plG', fun z G2 pl2 e2 => fin z G2 pl2 e2⟩
        · walk_at "rd"
          have hz1 : 1 ≤ zs.length := by omega
          have hLne := pl4.ne hL
          -- row = [..]
          refine r_lc ?_
          walk_at "rd"
          intro R hR
          refine lcin_range (n := sz.toNat) (fun i G2 => Ext G' G2 ∧ ∃ ys : List Int, ys.length = i ∧ G2 R = some (.lst (ys.map V.int))) ⟨Ext.new hR, [], rfl, upd_same⟩ (fun i G2 hi ⟨e2, ys, hy, hRy⟩ => ⟨rfl, ?_⟩) (fun G2 ⟨e2, ys, hy, hRy⟩ => ?_)
          · have hL2 : G2 L = some (.lst (zs.map V.int)) := e2 _ _ hLz
            obtain ⟨z, hzz⟩ := at_ints (ns := zs) (i := (0 + (i : Int)) % (zs.length : Int)) (Int.emod_nonneg _ (by omega)) (Int.emod_lt_of_pos _ (by omega))
            walk_at "rd"
            refine r_I (show (0 : Int) < _ by rw [List.length_map]; omega) ?_
            refine r_ixL (SqL.of hL2) (by rw [List.length_map]; exact hzz) ?_
            refine ⟨ys.map V.int, hRy, by rw [List.length_map, sizeLine_eq]; omega, e2.mut hR, ys ++ [z], by rw [List.length_append, hy]; rfl, ?_⟩
            rw [upd_same, List.map_append]
            rfl
          · have pl2 : Pl G2 p c := plG'.ext e2
            have eH2 : Ext (wo p H) (wo p G2) := (e14.trans eG').trans (wo_ext e2)
            have hRne : R ≠ p ∧ R ≠ c := plG'.ne hR
            walk_at "rd"
            refine r_size (by show 1 ≤ 1000; decide) fun t1 ht1 => ?_
            walk_at "rd"
            refine r_size (by show 1 ≤ 1000; decide) fun l1 hl1 => ?_
            walk_at "rd"
            refine r_size (by show 7 ≤ 1000; decide) fun sp hsp => ?_
            -- the spoils, and what may go into the row
            generalize hG3 : upd (upd (upd G2 t1 (.tup [.int 0])) l1 (.lst [.int 1])) sp (.tup [.bl true, .bl false, .str "1", .non, .ref t1, .ref l1, .str ""]) = G3
            have eA : Ext G2 (upd G2 t1 (.tup [.int 0])) := Ext.new ht1
            have eB : Ext (upd G2 t1 (.tup [.int 0])) (upd (upd G2 t1 (.tup [.int 0])) l1 (.lst [.int 1])) := Ext.new hl1
            have eC := Ext.new (o := .tup [.bl true, .bl false, .str "1", .non, .ref t1, .ref l1, .str ""]) hsp
            have e23 : Ext G2 G3 := by
              rw [← hG3]
              exact (eA.trans eB).trans eC
            have nR1 : t1 ≠ R := (ne_of_none hRy ht1).symm
            have nR2 : l1 ≠ R := (ne_of_none (eA _ _ hRy) hl1).symm
            have nR3 : sp ≠ R := (ne_of_none ((eA.trans eB) _ _ hRy) hsp).symm
            have np1 := (pl2.ne ht1).1
            have np2 := ((pl2.ext eA).ne hl1).1
            have np3 := ((pl2.ext (eA.trans eB)).ne hsp).1
            have g1 : G3 t1 = some (.tup [.int 0]) := by rw [← hG3]; exact eC _ _ (eB _ _ upd_same)
            have g2 : G3 l1 = some (.lst [.int 1]) := by rw [← hG3]; exact eC _ _ upd_same
            have g3 : G3 sp = some (.tup [.bl true, .bl false, .str "1", .non, .ref t1, .ref l1, .str ""]) := by rw [← hG3]; exact upd_same
            have pl3 : Pl G3 p c := pl2.ext e23
            walk_at "rd"
            refine ⟨p, c, _, rfl, pl3, by decide, by decide +kernel, fun n2 H5 _ n3 pl5 e5 => ?_⟩
            walk_at "rd"
            refine foin_range (n := n2.toNat) (fun i τ G => ∃ (xs : List V) (v5 v9 v10 : Option V), τ = [some (.ref p), some (.int kind), none, some (.int sz), some (.int bits), v5, some (.ref L), some (.ref R), some (.ref sp), v9, v10] ∧ Pl G p c ∧ Ext (wo p H) (wo p G) ∧
              G R = some (.lst xs) ∧ xs.length = sz.toNat ∧ (∀ x ∈ xs, ItemOk (wo R (wo p G)) x) ∧ G t1 = some (.tup [.int 0]) ∧ G l1 = some (.lst [.int 1]) ∧ G sp = some (.tup [.bl true, .bl false, .str "1", .non, .ref t1, .ref l1, .str ""])) ?_ ?_ ?_
            · refine ⟨ys.map V.int, _, _, _, rfl, pl5, (eH2.trans (wo_ext e23)).trans e5, wo_get e5 hRne.1 (e23 _ _ hRy), by rw [List.length_map, hy], fun x hx => ?_, wo_get e5 np1 g1, wo_get e5 np2 g2, wo_get e5 np3 g3⟩
              obtain ⟨z, -, rfl⟩ := List.mem_map.mp hx
              exact .inl ⟨z, rfl⟩
            · rintro i τ G hi ⟨xs, v5, v9, v10, rfl, plG2, eG2, hRx, hlx, hix, q1, q2, q3⟩
              walk_at "rd"
              refine ⟨p, c, _, rfl, plG2, by decide, by decide +kernel, fun r G4 r0 r1 pl4' e4' => ?_⟩
              have hbad : ∃ bad, atI [V.bl true, V.bl false, V.str "1", V.non, V.ref t1, V.ref l1, V.str ""] r = some bad ∧ ItemOk (wo R (wo p G4)) bad := by
                have hc : r = 0 ∨ r = 1 ∨ r = 2 ∨ r = 3 ∨ r = 4 ∨ r = 5 ∨ r = 6 := by omega
                rcases hc with rfl | rfl | rfl | rfl | rfl | rfl | rfl
                · exact ⟨_, rfl, .inr (.inl ⟨_, rfl⟩)⟩
                · exact ⟨_, rfl, .inr (.inl ⟨_, rfl⟩)⟩
                · exact ⟨_, rfl, .inr (.inr (.inl ⟨_, rfl, by decide +kernel⟩))⟩
                · exact ⟨_, rfl, .inr (.inr (.inr (.inl rfl)))⟩
                · exact ⟨_, rfl, .inr (.inr (.inr (.inr (.inl ⟨t1, rfl, by rw [wo_ne nR1, wo_ne np1]; exact wo_get e4' np1 q1⟩))))⟩
                · exact ⟨_, rfl, .inr (.inr (.inr (.inr (.inr ⟨l1, rfl, by rw [wo_ne nR2, wo_ne np2]; exact wo_get e4' np2 q2⟩))))⟩
                · exact ⟨_, rfl, .inr (.inr (.inl ⟨_, rfl, by decide +kernel⟩))⟩
              obtain ⟨bad, hb, ib⟩ := hbad
              walk_at "rd"
              refine r_ixT (SqT.of (wo_get e4' np3 q3)) hb ?_
              walk_at "rd"
              refine ⟨p, c, _, rfl, pl4', by split <;> omega, ?_, fun place G5 p0 p1 pl5' e5' => ?_⟩
              · exact Nat.lt_of_le_of_lt (Nat.log2_le_self _) (by split <;> omega)
              walk_at "rd"
              have k5 : Ext (wo R (wo p G)) (wo R (wo p G5)) := wo_ext (e4'.trans e5')
              have k45 : Ext (wo R (wo p G4)) (wo R (wo p G5)) := wo_ext e5'
              have hR5 : G5 R = some (.lst xs) := wo_get (e4'.trans e5') hRne.1 hRx
              refine ite2 (fun hs => ?_) (fun hs => ?_)
              · have hs : 0 < sz := of_decide_eq_true hs
                walk_at "rd"
                have hp : place < sz := by
                  have : (if sz > 1 then sz else 1) = sz := by split <;> omega
                  omega
                refine r_setL (j := place.toNat) hR5 ?_ ?_
                · unfold ixN
                  rw [if_pos p0, if_pos (by omega)]
                refine ⟨xs.set place.toNat bad, _, _, _, rfl, pl5'.mut hRne, ?_, upd_same, by rw [List.length_set]; exact hlx, fun x hx => ?_, ?_, ?_, ?_⟩
                · refine fun b u hb => ?_
                  have nb : b ≠ R := fun z => by
                    obtain ⟨-, h2⟩ := wo_some hb
                    rw [z] at h2
                    have h3 : H R = none := wo_free (e14.trans eG') plG' hR
                    rw [h3] at h2
                    cases h2
                  obtain ⟨nb2, h4⟩ := wo_some (((eG2.trans e4').trans e5') b u hb)
                  rw [wo_ne nb2, upd_ne nb]
                  exact h4
                · rw [wo_upd2]
                  rcases List.mem_or_eq_of_mem_set hx with h | h
                  · exact (hix x h).ext k5
                  · rw [h]
                    exact ib.ext k45
                · rw [upd_ne nR1]
                  exact wo_get (e4'.trans e5') np1 q1
                · rw [upd_ne nR2]
                  exact wo_get (e4'.trans e5') np2 q2
                · rw [upd_ne nR3]
                  exact wo_get (e4'.trans e5') np3 q3
              · exact ⟨xs, _, _, _, rfl, pl5', (eG2.trans e4').trans e5', hR5, hlx, fun x hx => (hix x hx).ext k5, wo_get (e4'.trans e5') np1 q1, wo_get (e4'.trans e5') np2 q2, wo_get (e4'.trans e5') np3 q3⟩
            · rintro τ G ⟨xs, v5, v9, v10, rfl, plG2, eG2, hRx, hlx, hix, q1, q2, q3⟩
              walk_at "rd"
              refine ite2 (fun _ => ?_) (fun _ => ?_)
              · walk_at "rd"
                exact k _ (some xs) _ plG2 eG2 ⟨R, rfl, .inl (by rw [wo_ne hRne.1]; exact hRx), by omega, fun x hx => (hix x hx).ext wo_back⟩
              · walk_at "rd"
                refine r_tupL (SqL.of hRx) fun l hl => ?_
                have e6 : Ext G (upd G l (.tup xs)) := Ext.new hl
                exact k _ (some xs) _ (plG2.ext e6) (eG2.trans (wo_ext e6)) ⟨l, rfl, .inr (by rw [wo_ne (plG2.ne hl).1]; exact upd_same), by omega, fun x hx => (hix x hx).ext (wo_back.trans (wo_ext e6))⟩
end
end Rk

namespace Rk
open PySem L2 Own
local macro_rules | `(tactic| walk_at "side") => `(tactic| first | exact trivial | (show (0:Int) < _; first | assumption | decide | omega) | exact Or.inl ⟨by decide, by decide⟩ | exact Or.inl ⟨by omega, by omega⟩ | exact Or.inr ⟨by decide, by decide⟩ | exact ⟨by decide, by decide⟩ | exact ⟨by decide, by decide, by decide⟩ | exact ⟨by omega, by omega⟩)
local macro_rules | `(tactic| walk_at "rd") => `(tactic| repeat (with_reducible first | refine r_next ?_ | refine r_ret ?_ | refine r_seq ?_ | refine r_asg ?_ | refine r_drop ?_ | refine r_call ?_ | refine r_cons ?_ | refine r_nil ?_ | refine r_cb ?_ | refine r_op ?_ | refine r_sset ?_ | refine r_var (by with_unfolding_all rfl) ?_ | refine r_c ?_ | refine r_name ?_ | refine r_I0 ?_ | refine r_I (by with_unfolding_all walk_at "side") ?_ | refine r_un ?_ | refine r_U ?_ | refine r_if ?_ | refine r_ifE ?_ | refine r_test ?_ | refine r_B ?_ | refine r_bl ?_ | refine r_not ?_ | refine r_and ?_ | refine r_or ?_ | refine r_andV ?_ | refine r_orV ?_ | refine r_notV ?_ | refine r_eqI ?_ | refine r_neI ?_ | refine r_tup ?_ | refine r_lst ?_ | refine r_sub ?_ | refine r_intI ?_ | refine r_intB ?_ | refine r_abs ?_ | refine r_max ?_ | refine r_ixL (SqL.of (by assumption)) (by with_unfolding_all rfl) ?_ | refine r_ixT (SqT.of (by assumption)) (by with_unfolding_all rfl) ?_ | refine r_lenL (SqL.of (by assumption)) ?_ | refine r_lenT (SqT.of (by assumption)) ?_ | refine r_callS ?_ | refine r_cutnx ?_ | refine r_cutrt ?_ | refine r_chain ?_ | refine r_yes ?_ | refine iteT ?_ | refine iteF ?_ | refine iteNF ?_ | refine iteNT ?_ | refine r_truth ?_ | refine r_truI ?_ | refine r_sliceV ?_ | refine r_for ?_ | refine r_rng1 ?_ | refine r_i1 (by with_unfolding_all walk_at "side") ?_))
section
variable {P : Program} {w : World} {K : PySem.W.Frag} {mg : Str → Option Value} {base : Heap} {D : Ad}
theorem ok__law_is_integer (T : Txt K mg D) : FnOk P w K mg base CX0 1 D.a__law_is_integer D.d__law_is_integer ["_law_cell"] spIsNum := by
  refine T.F__law_is_integer.ok sc__law_is_integer (fun vs H Q E h => ?_) (fun cdv A outer s H vs Q E hr h => ?_)
  · obtain ⟨v, rfl, _⟩ := h
    rfl
  · obtain ⟨v, rfl, hv, k⟩ := h
    obtain ⟨t, ty, k1, k2, k3, -, -, -⟩ := hv.ty (K := K)
    refine ⟨_, (pss_one (ps_ret (pe_and (pe_callB (call_isiC K) (by rfl) T.n_isinstance (by decide +kernel) (pa_cons (pv 0) (pa_cons (pe_bltn (v := .ty "int") (by rfl) T.n_int (by decide +kernel) rfl) pa_nil))) (pe_one (pe_not (pe_callB (call_isiC K) (by rfl) T.n_isinstance (by decide +kernel) (pa_cons (pv 0) (pa_cons (pe_bltn (v := .ty "bool") (by rfl) T.n_bool (by decide +kernel) rfl) pa_nil)))))))), ?_⟩
    walk_at "rd"
    refine r_isi (.ty _) ty (kit_ty k1) ?_
    walk_at "rd"
    cases hI : isI v with
    | true =>
      have et := k3 hI
      subst et
      refine iteT ?_
      walk_at "rd"
      refine r_isi (.ty _) ty (kit_ty k2) ?_
      rw [hI] at k
      walk_at "rd"
      exact k
    | false =>
      rw [hI] at k
      cases hb : (t == "bool") with
      | true =>
        have et : t = "bool" := by simpa using hb
        subst et
        refine iteT ?_
        walk_at "rd"
        refine r_isi (.ty _) ty (kit_ty k2) ?_
        walk_at "rd"
        exact k
      | false => exact iteF k
def spFlag : Sp := fun vs H Q _ => ∃ a b : Bool, vs = [.bl a, .bl b] ∧ Q (.bl (a == b)) H
theorem ok__law_is_flag (T : Txt K mg D) : FnOk P w K mg base CX0 1 D.a__law_is_flag D.d__law_is_flag ["_law_actual", "_law_due"] spFlag := by
  refine T.F__law_is_flag.ok sc__law_is_flag (fun vs H Q E h => ?_) (fun cdv A outer s H vs Q E hr h => ?_)
  · obtain ⟨a, b, rfl, _⟩ := h
    rfl
  · obtain ⟨a, b, rfl, k⟩ := h
    refine ⟨_, (pss_one (ps_ret (pe_and (pe_callB (call_isiC K) (by rfl) T.n_isinstance (by decide +kernel) (pa_cons (pv 0) (pa_cons (pe_bltn (v := .ty "bool") (by rfl) T.n_bool (by decide +kernel) rfl) pa_nil))) (pe_one (pe_cmpR op_eq (pv 0) (pv 1) (nomark _)))))), ?_⟩
    walk_at "rd"
    refine r_isi (b := true) (.ty _) (.base (.bl a)) (kit_ty (by decide +kernel)) ?_
    walk_at "rd"
    refine ⟨rfl, ?_⟩
    show Q (.bl (decide (V.bl a = V.bl b))) H
    rw [dec_bl]
    exact k
theorem between_no {v : V} {a b : Int} (h : isI v = false) : between v a b = false := by
  cases v with
  | int z => cases h
  | _ => rfl
def spLFault : Sp := fun vs H Q _ => ∃ v sh bits, vs = [v, .bl bits] ∧ Sh H v sh ∧ ∀ H', Ext H H' → Q (optV (faultOf (if bits = true then fun v => between v 0 1 else isI) sh)) H'
theorem ok__law_fault (T : Txt K mg D) : FnOk P w K mg base CX0 2 D.a__law_fault D.d__law_fault ["_law_value_here", "_law_bits"] spLFault := by
  refine T.F__law_fault.ok sc__law_fault (fun vs H Q E h => ?_) (fun cdv A outer s H vs Q E hr h => ?_)
  · obtain ⟨v, sh, bits, rfl, _⟩ := h
    rfl
  · obtain ⟨v, sh, bits, rfl, hv, k⟩ := h
    refine ⟨_, (pss_cons (ps_if (PW.pt (pw_or (pt_not (pt_val (pe_callB (call_isiTC K) (by rfl) T.n_isinstance (by decide +kernel) (pa_cons (pv 0) (pa_cons (pe_tup (pa_cons (pe_bltn (v := .ty "list") (by rfl) T.n_list (by decide +kernel) rfl) (pa_cons (pe_bltn (v := .ty "tuple") (by rfl) T.n_tuple (by decide +kernel) rfl) pa_nil))) pa_nil))))) (pw_or (pt_cmpR op_lt (pe_callB (call_lenC K) (by rfl) T.n_len (by decide +kernel) (pa_cons (pv 0) pa_nil)) pe_int (nomark _)) (pw_or1 (pt_cmpR op_gt (pe_callB (call_lenC K) (by rfl) T.n_len (by decide +kernel) (pa_cons (pv 0) pa_nil)) pe_int (nomark _))))))
    (pss_one (ps_ret (pe_un un_neg pe_int)))
    pss_nil)
  (pss_cons (ps_for PassesOwn.never rfl (pi_range1 rfl T.n_range (pa_cons (pe_callB (call_lenC K) (by rfl) T.n_len (by decide +kernel) (pa_cons (pv 0) pa_nil)) pa_nil)) (pg_name (i := 2) sc__law_fault.nd rfl (Or.inl rfl))
    (pss_one (ps_if (PW.pt (pw_or (pt_not (pt_val (pe_call (ok__law_is_integer T) (hr.mono (by decide)) (by rfl) T.g__law_is_integer T.F__law_is_integer.kp T.b__law_is_integer .nil pass0 (pa_cons (pe_ix (ix_seqC K) (pv 0) (pv 2) (fun _ _ => rfl)) pa_nil)))) (pw_or1 (PW.pt (pw_and (pt_val (pv 1)) (pw_and1 (pt_not (pt_chain op_le op_le pe_int (pe_ix (ix_seqC K) (pv 0) (pv 2) (fun _ _ => rfl)) pe_int))))))))
      (pss_one (ps_ret (pv 2)))
      pss_nil)))
  (pss_one (ps_ret pe_non)))), ?_⟩
    walk_at "rd"
    refine r_size (by show 2 ≤ 1000; decide) fun tp htp => ?_
    have e1 : Ext H (upd H tp (.tup [.ty "list", .ty "tuple"])) := Ext.new htp
    walk_at "rd"
    obtain ⟨t, ty, b1, b2, k1, k2, kk⟩ := (hv.ext e1).ty (K := K)
    refine ⟨v, tp, [.ty "list", .ty "tuple"], .type t, [.type "list", .type "tuple"], isSq sh, rfl, upd_same, .cons (.ty _) (.cons (.ty _) .nil), ty, ?_, _, rfl, ?_⟩
    · rw [kk]
      refine kitAny_cons (kit_ty k1) (fun h => ?_) (fun h => by rw [h]; rfl)
      rw [h]
      exact kitAny_cons (kit_ty k2) (fun h => by rw [h]; exact kitAny_nil) (fun h => by rw [h]; rfl)
    unfold faultOf at k
    match sh, hv.ext e1, k with
    | none, hv, k =>
      refine iteT ?_
      walk_at "rd"
      exact k _ e1
    | some xs, ⟨a, ea, ha, hl, hi⟩, k =>
      subst ea
      refine iteF ?_
      walk_at "rd"
      refine r_lenQ ha ?_
      walk_at "rd"
      refine ite2 (fun h1 => ?_) (fun h1 => ?_)
      · have h1 : (xs.length : Int) < 1 := of_decide_eq_true h1
        walk_at "rd"
        rw [if_neg (show ¬ lenOk (some xs) = true from fun z => by have := (of_decide_eq_true z).1; omega)] at k
        exact k _ e1
      · have h1 : ¬ (xs.length : Int) < 1 := fun z => h1 (decide_eq_true z)
        walk_at "rd"
        refine r_lenQ ha ?_
        walk_at "rd"
        refine ite2 (fun h2 => ?_) (fun h2 => ?_)
        · have h2 : 200 < (xs.length : Int) := of_decide_eq_true h2
          walk_at "rd"
          rw [if_neg (show ¬ lenOk (some xs) = true from fun z => by have := (of_decide_eq_true z).2; omega)] at k
          exact k _ e1
        · have h2 : ¬ 200 < (xs.length : Int) := fun z => h2 (decide_eq_true z)
          rw [if_pos (show lenOk (some xs) = true from decide_eq_true ⟨by omega, by omega⟩)] at k
          have k : ∀ H', Ext H H' → Q (optV (firstNo (xs.map (if bits = true then fun v => between v 0 1 else isI)))) H' := k
          walk_at "rd"
          refine r_lenQ ha ?_
          walk_at "rd"
          generalize hG : upd H tp (.tup [.ty "list", .ty "tuple"]) = G at *
          refine foin_range (n := (xs.length : Int).toNat) (fun i τ G' => ∃ v2, τ = [some (.ref a), some (.bl bits), v2] ∧ Ext G G' ∧ ∀ j, j < i → (xs.map (if bits = true then fun v => between v 0 1 else isI))[j]? = some true) ⟨none, rfl, Ext.refl _, fun j hj => absurd hj (Nat.not_lt_zero j)⟩ ?_ ?_
          · rintro i τ G' hi' ⟨v2, rfl, e2, all⟩
            have hi' : i < xs.length := by omega
            have ex : xs[i]? = some xs[i] := List.getElem?_eq_getElem hi'
            have e0 : (0 : Int) + ((i : Nat) : Int) = ((i : Nat) : Int) := Int.zero_add _
            have at_ : atI xs ((0 : Int) + ((i : Nat) : Int)) = some xs[i] := by rw [e0]; exact atI_nat ex
            have ix : ItemOk G' xs[i] := (hi _ (List.mem_of_getElem? ex)).ext e2
            have step : ∀ b, (if bits = true then fun v => between v 0 1 else isI) xs[i] = b → (xs.map (if bits = true then fun v => between v 0 1 else isI))[i]? = some b := fun b hb => by rw [List.getElem?_map, ex, ← hb]; rfl
            have good : (if bits = true then fun v => between v 0 1 else isI) xs[i] = true → ∃ v2, ([some (V.ref a), some (V.bl bits), v2].set 2 (some (.int (0 + ((i : Nat) : Int))))) = [some (V.ref a), some (V.bl bits), some (V.int (0 + ((i : Nat) : Int)))] ∧ Ext G G' ∧ ∀ j, j < i + 1 → (xs.map (if bits = true then fun v => between v 0 1 else isI))[j]? = some true := fun hb => ⟨v2, rfl, e2, fun j hj => by
              by_cases h : j = i
              · subst h
                exact step _ hb
              · exact all j (by omega)⟩
            have bad : (if bits = true then fun v => between v 0 1 else isI) xs[i] = false → Q (.int (0 + ((i : Nat) : Int))) G' := fun hb => by
              have q := k G' (e1.trans e2)
              have q2 : firstNo (xs.map (if bits = true then fun v => between v 0 1 else isI)) = some (i : Int) := firstNo_at (step _ hb) all
              rw [e0]
              rw [q2] at q
              exact q
            walk_at "rd"
            refine r_ixQ (Sq.ext e2 ha) at_ ?_
            walk_at "rd"
            refine ⟨_, rfl, ix, ?_⟩
            walk_at "rd"
            cases hI : isI xs[i] with
            | false =>
              refine iteT (iteT ?_)
              walk_at "rd"
              refine bad ?_
              cases bits with
              | false => exact hI
              | true => exact between_no hI
            | true =>
              obtain ⟨z, hz⟩ : ∃ z, xs[i] = .int z := by
                cases hx : xs[i] with
                | int z => exact ⟨z, rfl⟩
                | _ => rw [hx] at hI; cases hI
              rw [hz] at at_ good bad
              cases bits with
              | false =>
                refine iteF ?_
                walk_at "rd"
                obtain ⟨w2, h⟩ := good rfl
                exact ⟨_, h⟩
              | true =>
                refine iteF ?_
                walk_at "rd"
                refine r_ixQ (Sq.ext e2 ha) at_ ?_
                walk_at "rd"
                refine ite2 (fun g1 => ?_) (fun g1 => ?_)
                · have g1 : 0 ≤ z := of_decide_eq_true g1
                  walk_at "rd"
                  refine ite2 (fun g2 => ?_) (fun g2 => ?_)
                  · have g2 : ¬ z ≤ 1 := fun h => by rw [decide_eq_true h] at g2; cases g2
                    walk_at "rd"
                    exact bad (decide_eq_false fun h => g2 h.2)
                  · have g2 : z ≤ 1 := by
                      by_cases h : z ≤ 1
                      · exact h
                      · exact absurd (by rw [decide_eq_false h]; rfl) g2
                    walk_at "rd"
                    obtain ⟨w2, h⟩ := good (decide_eq_true ⟨g1, g2⟩)
                    exact ⟨_, h⟩
                · have g1 : ¬ 0 ≤ z := fun h => g1 (decide_eq_true h)
                  walk_at "rd"
                  walk_at "rd"
                  exact bad (decide_eq_false fun h => g1 h.1)
          · rintro τ G' ⟨v2, rfl, e2, all⟩
            walk_at "rd"
            have q := k G' (e1.trans e2)
            have q2 : firstNo (xs.map (if bits = true then fun v => between v 0 1 else isI)) = none := firstNo_none fun j hj => all j (by rw [List.length_map] at hj; omega)
            rw [q2] at q
            exact q
end
end Rk

namespace Rk
open PySem L2 Own
local macro_rules | `(tactic| walk_at "side") => `(tactic| first | exact trivial | (show (0:Int) < _; first | assumption | decide | omega) | exact Or.inl ⟨by decide, by decide⟩ | exact Or.inl ⟨by omega, by omega⟩ | exact Or.inr ⟨by decide, by decide⟩ | exact ⟨by decide, by decide⟩ | exact ⟨by decide, by decide, by decide⟩ | exact ⟨by omega, by omega⟩)
local macro_rules | `(tactic| walk_at "rd") => `(tactic| repeat (with_reducible first | refine r_next ?_ | refine r_ret ?_ | refine r_seq ?_ | refine r_asg ?_ | refine r_drop ?_ | refine r_call ?_ | refine r_cons ?_ | refine r_nil ?_ | refine r_cb ?_ | refine r_op ?_ | refine r_sset ?_ | refine r_var (by with_unfolding_all rfl) ?_ | refine r_c ?_ | refine r_name ?_ | refine r_I0 ?_ | refine r_I (by with_unfolding_all walk_at "side") ?_ | refine r_un ?_ | refine r_U ?_ | refine r_if ?_ | refine r_ifE ?_ | refine r_test ?_ | refine r_B ?_ | refine r_bl ?_ | refine r_not ?_ | refine r_and ?_ | refine r_or ?_ | refine r_andV ?_ | refine r_orV ?_ | refine r_notV ?_ | refine r_eqI ?_ | refine r_neI ?_ | refine r_tup ?_ | refine r_lst ?_ | refine r_sub ?_ | refine r_intI ?_ | refine r_intB ?_ | refine r_abs ?_ | refine r_max ?_ | refine r_ixL (SqL.of (by assumption)) (by with_unfolding_all rfl) ?_ | refine r_ixT (SqT.of (by assumption)) (by with_unfolding_all rfl) ?_ | refine r_lenL (SqL.of (by assumption)) ?_ | refine r_lenT (SqT.of (by assumption)) ?_ | refine r_callS ?_ | refine r_cutnx ?_ | refine r_cutrt ?_ | refine r_chain ?_ | refine r_yes ?_ | refine iteT ?_ | refine iteF ?_ | refine iteNF ?_ | refine iteNT ?_ | refine r_truth ?_ | refine r_truI ?_ | refine r_sliceV ?_ | refine r_for ?_ | refine r_rng1 ?_ | refine r_i1 (by with_unfolding_all walk_at "side") ?_))
section
variable {P : Program} {w : World} {K : PySem.W.Frag} {mg : Str → Option Value} {base : Heap} {D : Ad}
/-- what told_level tells -/
def LevelTold (H : Hp) (t : Addr) (sh : Option (List V)) (n : V) : Prop :=
  (∀ i, faultOf isI sh = some i → H t = some (.tup [.str "row", .int i, .bl true, .bl false])) ∧
  (faultOf isI sh = none → isI n = false → H t = some (.tup [.str "number", .str "value", .bl true, .bl false])) ∧
  (faultOf isI sh = none → ∀ z xs, n = .int z → sh = some xs → ∃ u, H t = some (.tup [.str "told", .ref u]) ∧ H u = some (.tup (xs.map (lev z))))
def spToldLevel : Sp := fun vs H Q _ => ∃ v sh n, vs = [v, n] ∧ Sh H v sh ∧ ItemOk H n ∧ ∀ t H', Ext H H' → LevelTold H' t sh n → Q (.ref t) H'
theorem ok__law_told_level (T : Txt K mg D) : FnOk P w K mg base CX0 6 D.a__law_told_level D.d__law_told_level ["_law_value_here", "_law_number_here"] spToldLevel := by
  refine T.F__law_told_level.ok sc__law_told_level (fun vs H Q E h => ?_) (fun cdv A outer s H vs Q E hr h => ?_)
  · obtain ⟨v, sh, n, rfl, _⟩ := h
    rfl
  · obtain ⟨v, sh, n, rfl, hv, hn, k⟩ := h
    refine ⟨_, (pss_cons (ps_try_names rfl rfl sc__law_told_level.nd takes0 (fun W pn xe tk _ => (pss_one (ps_set (i := 2) sc__law_told_level.nd rfl (Or.inl rfl) (pe_tup (pa_cons pe_str (pa_cons (pe_callS (ok_level T) (hr.mono (by decide)) (by rfl) T.g_level T.F_level.kp T.b_level (fun σ => passAt tk σ) (pa_cons (pv 0) (pa_cons (pv 1) pa_nil))) pa_nil))))))
    (Clauses.more ⟨rfl, by decide, Or.inl T.g_NoRow⟩ (i := 3) rfl rfl (fun a oe cls d pn hz hf => (pss_one (ps_set (i := 2) sc__law_told_level.nd rfl (Or.inl rfl) (pe_tup (pa_cons pe_str (pa_cons (pe_xf T.f_NoRow T.no_NoRow_index hz hf (pv 3)) (pa_cons (pe_callB (call_err_is T.e_NoRow hz hf) (by rfl) T.n_isinstance (by decide +kernel) (pa_cons (pv 3) (pa_cons (pe_glob (v := .ref D.c_SweepError) rfl T.g_SweepError rfl) pa_nil))) (pa_cons (pe_callB (call_err_is T.e_NoRow hz hf) (by rfl) T.n_isinstance (by decide +kernel) (pa_cons (pv 3) (pa_cons (pe_glob (v := .ref D.c_NoNumber) rfl T.g_NoNumber rfl) pa_nil))) pa_nil))))))))
    (Clauses.more ⟨rfl, by decide, Or.inl T.g_NoNumber⟩ (i := 3) rfl rfl (fun a oe cls d pn hz hf => (pss_one (ps_set (i := 2) sc__law_told_level.nd rfl (Or.inl rfl) (pe_tup (pa_cons pe_str (pa_cons (pe_xf T.f_NoNumber T.no_NoNumber_name hz hf (pv 3)) (pa_cons (pe_callB (call_err_is T.e_NoNumber hz hf) (by rfl) T.n_isinstance (by decide +kernel) (pa_cons (pv 3) (pa_cons (pe_bltn (v := .ty "ValueError") (by rfl) T.n_ValueError (by decide +kernel) rfl) pa_nil))) (pa_cons (pe_callB (call_err_is T.e_NoNumber hz hf) (by rfl) T.n_isinstance (by decide +kernel) (pa_cons (pv 3) (pa_cons (pe_glob (v := .ref D.c_NoRow) rfl T.g_NoRow rfl) pa_nil))) pa_nil))))))))
    Clauses.none)))
  (pss_one (ps_ret (pv 2)))), ?_⟩
    walk_at "rd"
    refine ⟨v, sh, n, rfl, hv, hn, fun i hf d H1 e1 hd => ?_, fun hf hI d H1 e1 hd => ?_, fun hf xs z hsh hz u H1 e1 hu => ?_⟩
    · refine ⟨true, T.m_NoRow_NoRow, fun _ a ha => ?_, fun h => nomatch h⟩
      walk_at "rd"
      refine r_xf rfl hd ?_
      walk_at "rd"
      refine r_errIs T.k_NoRow_SweepError hd ?_
      walk_at "rd"
      refine r_errIs T.k_NoRow_NoNumber hd ?_
      walk_at "rd"
      refine r_size (by show 4 ≤ 1000; decide) fun t ht => ?_
      walk_at "rd"
      refine k t _ (e1.trans (Ext.new ht)) ⟨fun i' h => ?_, fun h => ?_, fun h => ?_⟩
      · cases hf.symm.trans h
        exact upd_same
      · rw [hf] at h
        cases h
      · rw [hf] at h
        cases h
    · refine ⟨false, T.m_NoNumber_NoRow, (fun h => nomatch h), fun _ => ⟨true, T.m_NoNumber_NoNumber, fun _ a ha => ?_, fun h => nomatch h⟩⟩
      walk_at "rd"
      refine r_xf rfl hd ?_
      walk_at "rd"
      refine r_errIsT T.kv_NoNumber hd ?_
      walk_at "rd"
      refine r_errIs T.k_NoNumber_NoRow hd ?_
      walk_at "rd"
      refine r_size (by show 4 ≤ 1000; decide) fun t ht => ?_
      walk_at "rd"
      refine k t _ (e1.trans (Ext.new ht)) ⟨fun i' h => ?_, fun _ _ => upd_same, fun _ z xs hz => ?_⟩
      · rw [hf] at h
        cases h
      · rw [hz] at hI
        cases hI
    · walk_at "rd"
      refine r_size (by show 2 ≤ 1000; decide) fun t ht => ?_
      walk_at "rd"
      refine k t _ (e1.trans (Ext.new ht)) ⟨fun i' h => ?_, fun _ h => ?_, fun _ z' xs' hz' hsh' => ?_⟩
      · rw [hf] at h
        cases h
      · rw [hz] at h
        cases h
      · cases hz.symm.trans hz'
        cases hsh.symm.trans hsh'
        exact ⟨u, upd_same, Ext.new ht _ _ hu⟩
/-- what told_levels tells -/
def LevelsTold (H0 H : Hp) (t : Addr) (sh : Option (List V)) : Prop :=
  (∀ i, faultOf isI sh = some i → H t = some (.tup [.str "row", .int i, .bl true, .bl false])) ∧
  (faultOf isI sh = none → ∀ ns : List Int, sh = some (ns.map V.int) → ∃ u, ∃ ms : List Int, H t = some (.tup [.str "told", .ref u]) ∧ H u = some (.lst (ms.map V.int)) ∧ H0 u = none ∧ ms.Pairwise (· < ·) ∧ ∀ k, k ∈ ms ↔ k ∈ ns)
def spToldLevels : Sp := fun vs H Q _ => ∃ v sh, vs = [v] ∧ Sh H v sh ∧ ∀ t H', Ext H H' → LevelsTold H H' t sh → Q (.ref t) H'
theorem ok__law_told_levels (T : Txt K mg D) : FnOk P w K mg base CX0 6 D.a__law_told_levels D.d__law_told_levels ["_law_value_here"] spToldLevels := by
  refine T.F__law_told_levels.ok sc__law_told_levels (fun vs H Q E h => ?_) (fun cdv A outer s H vs Q E hr h => ?_)
  · obtain ⟨v, sh, rfl, _⟩ := h
    rfl
  · obtain ⟨v, sh, rfl, hv, k⟩ := h
    refine ⟨_, (pss_cons (ps_try_names rfl rfl sc__law_told_levels.nd takes0 (fun W pn xe tk _ => (pss_one (ps_set (i := 1) sc__law_told_levels.nd rfl (Or.inl rfl) (pe_tup (pa_cons pe_str (pa_cons (pe_callS (ok_levels T) (hr.mono (by decide)) (by rfl) T.g_levels T.F_levels.kp T.b_levels (fun σ => passAt tk σ) (pa_cons (pv 0) pa_nil)) pa_nil))))))
    (Clauses.more ⟨rfl, by decide, Or.inl T.g_NoRow⟩ (i := 2) rfl rfl (fun a oe cls d pn hz hf => (pss_one (ps_set (i := 1) sc__law_told_levels.nd rfl (Or.inl rfl) (pe_tup (pa_cons pe_str (pa_cons (pe_xf T.f_NoRow T.no_NoRow_index hz hf (pv 2)) (pa_cons (pe_callB (call_err_is T.e_NoRow hz hf) (by rfl) T.n_isinstance (by decide +kernel) (pa_cons (pv 2) (pa_cons (pe_glob (v := .ref D.c_SweepError) rfl T.g_SweepError rfl) pa_nil))) (pa_cons (pe_callB (call_err_is T.e_NoRow hz hf) (by rfl) T.n_isinstance (by decide +kernel) (pa_cons (pv 2) (pa_cons (pe_glob (v := .ref D.c_NoNumber) rfl T.g_NoNumber rfl) pa_nil))) pa_nil))))))))
    Clauses.none))
  (pss_one (ps_ret (pv 1)))), ?_⟩
    walk_at "rd"
    refine ⟨v, sh, rfl, hv, fun i hf d H1 e1 hd => ?_, fun hf ns hsh u ms H1 e1 hu0 sorted mem hu => ?_⟩
    · refine ⟨true, T.m_NoRow_NoRow, fun _ a ha => ?_, fun h => nomatch h⟩
      walk_at "rd"
      refine r_xf rfl hd ?_
      walk_at "rd"
      refine r_errIs T.k_NoRow_SweepError hd ?_
      walk_at "rd"
      refine r_errIs T.k_NoRow_NoNumber hd ?_
      walk_at "rd"
      refine r_size (by show 4 ≤ 1000; decide) fun t ht => ?_
      walk_at "rd"
      refine k t _ (e1.trans (Ext.new ht)) ⟨fun i' h => ?_, fun h => ?_⟩
      · cases hf.symm.trans h
        exact upd_same
      · rw [hf] at h
        cases h
    · walk_at "rd"
      refine r_size (by show 2 ≤ 1000; decide) fun t ht => ?_
      walk_at "rd"
      refine k t _ (e1.trans (Ext.new ht)) ⟨fun i' h => ?_, fun _ ns' hsh' => ?_⟩
      · rw [hf] at h
        cases h
      · have e : ns = ns' := by
          have z := hsh.symm.trans hsh'
          have z2 := Option.some.inj z
          exact List.map_inj_right (fun a b h => V.int.inj h) |>.mp z2
        subst e
        exact ⟨u, ms, upd_same, Ext.new ht _ _ hu, hu0, sorted, mem⟩
end
end Rk

namespace Rk
open PySem L2 Own
local macro_rules | `(tactic| walk_at "side") => `(tactic| first | exact trivial | (show (0:Int) < _; first | assumption | decide | omega) | exact Or.inl ⟨by decide, by decide⟩ | exact Or.inl ⟨by omega, by omega⟩ | exact Or.inr ⟨by decide, by decide⟩ | exact ⟨by decide, by decide⟩ | exact ⟨by decide, by decide, by decide⟩ | exact ⟨by omega, by omega⟩)
local macro_rules | `(tactic| walk_at "rd") => `(tactic| repeat (with_reducible first | refine r_next ?_ | refine r_ret ?_ | refine r_seq ?_ | refine r_asg ?_ | refine r_drop ?_ | refine r_call ?_ | refine r_cons ?_ | refine r_nil ?_ | refine r_cb ?_ | refine r_op ?_ | refine r_sset ?_ | refine r_var (by with_unfolding_all rfl) ?_ | refine r_c ?_ | refine r_name ?_ | refine r_I0 ?_ | refine r_I (by with_unfolding_all walk_at "side") ?_ | refine r_un ?_ | refine r_U ?_ | refine r_if ?_ | refine r_ifE ?_ | refine r_test ?_ | refine r_B ?_ | refine r_bl ?_ | refine r_not ?_ | refine r_and ?_ | refine r_or ?_ | refine r_andV ?_ | refine r_orV ?_ | refine r_notV ?_ | refine r_eqI ?_ | refine r_neI ?_ | refine r_tup ?_ | refine r_lst ?_ | refine r_sub ?_ | refine r_intI ?_ | refine r_intB ?_ | refine r_abs ?_ | refine r_max ?_ | refine r_ixL (SqL.of (by assumption)) (by with_unfolding_all rfl) ?_ | refine r_ixT (SqT.of (by assumption)) (by with_unfolding_all rfl) ?_ | refine r_lenL (SqL.of (by assumption)) ?_ | refine r_lenT (SqT.of (by assumption)) ?_ | refine r_callS ?_ | refine r_cutnx ?_ | refine r_cutrt ?_ | refine r_chain ?_ | refine r_yes ?_ | refine iteT ?_ | refine iteF ?_ | refine iteNF ?_ | refine iteNT ?_ | refine r_truth ?_ | refine r_truI ?_ | refine r_sliceV ?_ | refine r_for ?_ | refine r_rng1 ?_ | refine r_i1 (by with_unfolding_all walk_at "side") ?_))
section
variable {P : Program} {w : World} {K : PySem.W.Frag} {mg : Str → Option Value} {base : Heap} {D : Ad}
theorem dp_row {H : Hp} {t : Addr} {x : Str} {i : V} {d : PyData} (hi : Dp K H i d) (h : H t = some (.tup [.str x, i, .bl true, .bl false])) : Dp K H (.ref t) (.tuple [.str x, d, .bool true, .bool false]) :=
  .tup (SqT.of h) (.cons (.str _) (.cons hi (.cons (.bl _) (.cons (.bl _) .nil))))
theorem eqv4 {x : Str} {d : PyData} (h : PyData.eqv d d = true) : PyData.eqv (.tuple [.str x, d, .bool true, .bool false]) (.tuple [.str x, d, .bool true, .bool false]) = true := by
  simp [PyData.eqv, PyData.eqvAll, h]
theorem shaped4 {x : Str} {d : PyData} (hx : PyData.strOk x = true) (hd : d.canLay0 = true) (h0 : d.depth = 0) : SeqAt.shaped (.tuple [.str x, d, .bool true, .bool false]) = true := by
  simp [SeqAt.shaped, PyData.canLay0, PyData.canLayAll0, PyData.depth, PyData.depthAll, hx, hd, h0]
theorem shI {i : Int} {x : Str} (hx : PyData.strOk x = true) : SeqAt.shaped (.tuple [.str x, .int i, .bool true, .bool false]) = true := shaped4 hx (by simp [PyData.canLay0]) (by simp [PyData.depth])
theorem shS {x y : Str} (hx : PyData.strOk x = true) (hy : PyData.strOk y = true) : SeqAt.shaped (.tuple [.str x, .str y, .bool true, .bool false]) = true := shaped4 hx (by simp [PyData.canLay0, hy]) (by simp [PyData.depth])
theorem lev_int (z c : Int) : lev z (.int c) = .int (if z ≤ c then 1 else 0) := rfl
def spLevelRight : Sp := fun vs H Q _ => ∃ v sh n t, vs = [v, optV (faultOf isI sh), n, .ref t] ∧ Sh H v sh ∧ ItemOk H n ∧ LevelTold H t sh n ∧ ∀ H', Ext H H' → Q (.bl true) H'
theorem ok__law_level_right (T : Txt K mg D) : FnOk P w K mg base CX0 2 D.a__law_level_right D.d__law_level_right ["_law_value_here", "_law_fault_here", "_law_number_here", "_law_told"] spLevelRight := by
  refine T.F__law_level_right.ok sc__law_level_right (fun vs H Q E h => ?_) (fun cdv A outer s H vs Q E hr h => ?_)
  · obtain ⟨v, sh, n, t, rfl, _⟩ := h
    rfl
  · obtain ⟨v, sh, n, t, rfl, hv, hn, ⟨t1, t2, t3⟩, k⟩ := h
    refine ⟨_, (pss_cons (ps_if (pt_cmpR op_notN (pv 1) pe_non (nomark _))
    (pss_one (ps_ret (pe_cmpR (op_eqDC K hr.units) (pv 3) (pe_tup (pa_cons pe_str (pa_cons (pv 1) (pa_cons pe_bl (pa_cons pe_bl pa_nil))))) (nomark _))))
    pss_nil)
  (pss_cons (ps_if (pt_not (pt_val (pe_call (ok__law_is_integer T) (hr.mono (by decide)) (by rfl) T.g__law_is_integer T.F__law_is_integer.kp T.b__law_is_integer .nil pass0 (pa_cons (pv 2) pa_nil))))
    (pss_one (ps_ret (pe_cmpR (op_eqDC K hr.units) (pv 3) (pe_tup (pa_cons pe_str (pa_cons pe_str (pa_cons pe_bl (pa_cons pe_bl pa_nil))))) (nomark _))))
    pss_nil)
  (pss_cons (ps_if (PW.pt (pw_or (pt_cmpR op_ne (pe_ix (ix_tupC K) (pv 3) pe_int (fun _ _ => rfl)) pe_str (nomark _)) (pw_or (pt_not (pt_val (pe_callB (call_isiC K) (by rfl) T.n_isinstance (by decide +kernel) (pa_cons (pe_ix (ix_tupC K) (pv 3) pe_int (fun _ _ => rfl)) (pa_cons (pe_bltn (v := .ty "tuple") (by rfl) T.n_tuple (by decide +kernel) rfl) pa_nil))))) (pw_or1 (pt_cmpR op_ne (pe_callB (call_lenC K) (by rfl) T.n_len (by decide +kernel) (pa_cons (pe_ix (ix_tupC K) (pv 3) pe_int (fun _ _ => rfl)) pa_nil)) (pe_callB (call_lenC K) (by rfl) T.n_len (by decide +kernel) (pa_cons (pv 0) pa_nil)) (nomark _))))))
    (pss_one (ps_ret pe_bl))
    pss_nil)
  (pss_cons (ps_for PassesOwn.never rfl (pi_range1 rfl T.n_range (pa_cons (pe_callB (call_lenC K) (by rfl) T.n_len (by decide +kernel) (pa_cons (pv 0) pa_nil)) pa_nil)) (pg_name (i := 4) sc__law_level_right.nd rfl (Or.inl rfl))
    (pss_one (ps_if (PW.pt (pw_or (pt_not (pt_val (pe_call (ok__law_is_integer T) (hr.mono (by decide)) (by rfl) T.g__law_is_integer T.F__law_is_integer.kp T.b__law_is_integer .nil pass0 (pa_cons (pe_ix (ix_tupC K) (pe_ix (ix_tupC K) (pv 3) pe_int (fun _ _ => rfl)) (pv 4) (fun _ _ => rfl)) pa_nil)))) (pw_or1 (pt_cmpR op_ne (pe_ix (ix_tupC K) (pe_ix (ix_tupC K) (pv 3) pe_int (fun _ _ => rfl)) (pv 4) (fun _ _ => rfl)) (pe_callTy call_intS (by rfl) T.n_int (by decide +kernel) (pa_cons (pe_cmpR op_ge (pe_ix (ix_seqC K) (pv 0) (pv 4) (fun _ _ => rfl)) (pv 2) (nomark _)) pa_nil)) (nomark _)))))
      (pss_one (ps_ret pe_bl))
      pss_nil)))
  (pss_one (ps_ret pe_bl)))))), ?_⟩
    walk_at "rd"
    refine ⟨rfl, ?_⟩
    walk_at "rd"
    rw [optV_non]
    cases hf : faultOf isI sh with
    | some i =>
      refine iteT ?_
      walk_at "rd"
      refine r_size (by show 4 ≤ 1000; decide) fun t' ht' => ?_
      have e1 := Ext.new (o := .tup [.str "row", .int i, .bl true, .bl false]) ht'
      refine ⟨_, _, dp_row (.int i) (e1 _ _ (t1 i hf)), dp_row (.int i) upd_same, shI (by decide +kernel), shI (by decide +kernel), ?_⟩
      rw [eqv4 (by simp [PyData.eqv])]
      exact k _ e1
    | none =>
      refine iteF ?_
      walk_at "rd"
      refine ⟨n, rfl, hn, ?_⟩
      walk_at "rd"
      cases hI : isI n with
      | false =>
        refine iteT ?_
        walk_at "rd"
        refine r_size (by show 4 ≤ 1000; decide) fun t' ht' => ?_
        have e1 := Ext.new (o := .tup [.str "number", .str "value", .bl true, .bl false]) ht'
        refine ⟨_, _, dp_row (.str "value") (e1 _ _ (t2 hf hI)), dp_row (.str "value") upd_same, shS (by decide +kernel) (by decide +kernel), shS (by decide +kernel) (by decide +kernel), ?_⟩
        rw [eqv4 (by simp [PyData.eqv])]
        exact k _ e1
      | true =>
        refine iteF ?_
        obtain ⟨xs, rfl, l1, l2, all⟩ := fault_none hf
        obtain ⟨z, rfl⟩ : ∃ z, n = .int z := by
          cases n with
          | int z => exact ⟨z, rfl⟩
          | _ => cases hI
        obtain ⟨ns, rfl⟩ := ints_all all
        obtain ⟨u, q1, q2⟩ := t3 hf z _ rfl rfl
        obtain ⟨a, rfl, ha, hl, hi⟩ := hv
        walk_at "rd"
        refine ⟨rfl, ?_⟩
        show ∃ k, V.bl (!decide (V.str "told" = V.str "told")) = V.bl k ∧ _
        rw [show (!decide (V.str "told" = V.str "told")) = false by simp]
        walk_at "rd"
        refine r_isi (b := true) (.ty _) (.base (.tup q2)) (kit_ty (by decide +kernel)) ?_
        walk_at "rd"
        refine r_lenQ ha ?_
        walk_at "rd"
        rw [show (!decide ((((ns.map V.int).map (lev z)).length : Int) = ((ns.map V.int).length : Int))) = false by simp]
        walk_at "rd"
        refine r_lenQ ha ?_
        refine r_i1 ⟨by omega, by omega⟩ ?_
        refine foin_range (n := ((ns.map V.int).length : Int).toNat) (fun i τ G => ∃ v4, τ = [some (.ref a), some (optV none), some (.int z), some (.ref t), v4] ∧ G = H) ⟨none, rfl, rfl⟩ ?_ ?_
        · rintro i τ G hi' ⟨v4, rfl, rfl⟩
          have e0 : (0 : Int) + ((i : Nat) : Int) = ((i : Nat) : Int) := Int.zero_add _
          have hi' : i < ns.length := by
            rw [List.length_map] at hi'
            omega
          have a1 : atI (ns.map V.int) (0 + ((i : Nat) : Int)) = some (.int ns[i]) := by
            rw [e0]
            refine atI_nat ?_
            rw [List.getElem?_map, List.getElem?_eq_getElem hi']
            rfl
          have a2 : atI ((ns.map V.int).map (lev z)) (0 + ((i : Nat) : Int)) = some (.int (if z ≤ ns[i] then 1 else 0)) := by
            rw [e0]
            refine atI_nat ?_
            rw [List.getElem?_map, List.getElem?_map, List.getElem?_eq_getElem hi']
            rfl
          walk_at "rd"
          refine r_ixT (SqT.of q2) a2 ?_
          walk_at "rd"
          refine ⟨_, rfl, .inl ⟨_, rfl⟩, ?_⟩
          walk_at "rd"
          refine iteF ?_
          walk_at "rd"
          refine r_ixT (SqT.of q2) a2 ?_
          walk_at "rd"
          refine r_ixQ ha a1 ?_
          walk_at "rd"
          have e9 : (!decide ((if z ≤ ns[i] then (1 : Int) else 0) = (if decide (z ≤ ns[i]) = true then 1 else 0))) = false := by
            by_cases h : z ≤ ns[i] <;> simp [h]
          rw [e9]
          walk_at "rd"
          exact ⟨_, rfl, rfl⟩
        · rintro τ G ⟨v4, rfl, rfl⟩
          walk_at "rd"
          exact k _ (Ext.refl _)
theorem inV_ints {k : Int} {ns : List Int} : inV (.int k) (ns.map V.int) = decide (k ∈ ns) := by
  unfold inV
  rw [List.any_map]
  have e : ((fun y => eqV y (V.int k)) ∘ V.int) = fun n => n == k := by
    funext n
    rfl
  rw [e]
  by_cases h : k ∈ ns
  · rw [decide_eq_true h, List.any_eq_true]
    exact ⟨k, h, by simp⟩
  · rw [decide_eq_false h, List.any_eq_false]
    intro x hx hk
    have : x = k := by simpa using hk
    exact h (this ▸ hx)
theorem flat_ints {ns : List Int} : (ns.map V.int).all flatV = true := by
  rw [List.all_map, List.all_eq_true]
  intro x _
  rfl
theorem sub_len : ∀ (ms ns : List Int), ms.Nodup → (∀ x ∈ ms, x ∈ ns) → ms.length ≤ ns.length
  | [], _, _, _ => Nat.zero_le _
  | x :: r, ns, nd, sub => by
    obtain ⟨n1, n2⟩ := List.nodup_cons.mp nd
    have hx := sub x List.mem_cons_self
    have ih := sub_len r (ns.erase x) n2 fun y hy => (List.mem_erase_of_ne (fun e => n1 (by rw [← (show y = x from e)]; exact hy))).mpr (sub y (List.mem_cons_of_mem _ hy))
    rw [List.length_erase_of_mem hx] at ih
    have := List.length_pos_of_mem hx
    rw [List.length_cons]
    omega
def spLevelsRight : Sp := fun vs H Q _ => ∃ v sh t H0, vs = [v, optV (faultOf isI sh), .ref t] ∧ Sh H v sh ∧ LevelsTold H0 H t sh ∧ ∀ H', Ext H H' → Q (.bl true) H'
theorem ok__law_levels_right (T : Txt K mg D) : FnOk P w K mg base CX0 2 D.a__law_levels_right D.d__law_levels_right ["_law_value_here", "_law_fault_here", "_law_told"] spLevelsRight := by
  refine T.F__law_levels_right.ok sc__law_levels_right (fun vs H Q E h => ?_) (fun cdv A outer s H vs Q E hr h => ?_)
  · obtain ⟨v, sh, t, H0, rfl, _⟩ := h
    rfl
  · obtain ⟨v, sh, t, H0, rfl, hv, ⟨t1, t3⟩, k⟩ := h
    refine ⟨_, (pss_cons (ps_if (pt_cmpR op_notN (pv 1) pe_non (nomark _))
    (pss_one (ps_ret (pe_cmpR (op_eqDC K hr.units) (pv 2) (pe_tup (pa_cons pe_str (pa_cons (pv 1) (pa_cons pe_bl (pa_cons pe_bl pa_nil))))) (nomark _))))
    pss_nil)
  (pss_cons (ps_if (PW.pt (pw_or (pt_cmpR op_ne (pe_ix (ix_tupC K) (pv 2) pe_int (fun _ _ => rfl)) pe_str (nomark _)) (pw_or (pt_not (pt_val (pe_callB (call_isiC K) (by rfl) T.n_isinstance (by decide +kernel) (pa_cons (pe_ix (ix_tupC K) (pv 2) pe_int (fun _ _ => rfl)) (pa_cons (pe_bltn (v := .ty "list") (by rfl) T.n_list (by decide +kernel) rfl) pa_nil))))) (pw_or1 (pt_cmpR op_eq (pe_callB (call_lenC K) (by rfl) T.n_len (by decide +kernel) (pa_cons (pe_ix (ix_tupC K) (pv 2) pe_int (fun _ _ => rfl)) pa_nil)) pe_int (nomark _))))))
    (pss_one (ps_ret pe_bl))
    pss_nil)
  (pss_cons (ps_for PassesOwn.never rfl (pi_range1 rfl T.n_range (pa_cons (pe_callB (call_lenC K) (by rfl) T.n_len (by decide +kernel) (pa_cons (pe_ix (ix_tupC K) (pv 2) pe_int (fun _ _ => rfl)) pa_nil)) pa_nil)) (pg_name (i := 3) sc__law_levels_right.nd rfl (Or.inl rfl))
    (pss_cons (ps_if (PW.pt (pw_or (pt_not (pt_val (pe_call (ok__law_is_integer T) (hr.mono (by decide)) (by rfl) T.g__law_is_integer T.F__law_is_integer.kp T.b__law_is_integer .nil pass0 (pa_cons (pe_ix (ix_listC K) (pe_ix (ix_tupC K) (pv 2) pe_int (fun _ _ => rfl)) (pv 3) (fun _ _ => rfl)) pa_nil)))) (pw_or1 (pt_cmpR (op_notInC K) (pe_ix (ix_listC K) (pe_ix (ix_tupC K) (pv 2) pe_int (fun _ _ => rfl)) (pv 3) (fun _ _ => rfl)) (pv 0) (by rfl)))))
      (pss_one (ps_ret pe_bl))
      pss_nil)
    (pss_one (ps_if (PW.pt (pw_and (pt_cmpR op_gt (pv 3) pe_int (nomark _)) (pw_and1 (pt_cmpR op_le (pe_ix (ix_listC K) (pe_ix (ix_tupC K) (pv 2) pe_int (fun _ _ => rfl)) (pv 3) (fun _ _ => rfl)) (pe_ix (ix_listC K) (pe_ix (ix_tupC K) (pv 2) pe_int (fun _ _ => rfl)) (pe_op op_sub (pv 3) pe_int) (fun _ _ => rfl)) (nomark _)))))
      (pss_one (ps_ret pe_bl))
      pss_nil))))
  (pss_cons (ps_for PassesOwn.never rfl (pi_seqv 0) (pg_name (i := 4) sc__law_levels_right.nd rfl (Or.inl rfl))
    (pss_one (ps_if (pt_cmpR (op_notInC K) (pv 4) (pe_ix (ix_tupC K) (pv 2) pe_int (fun _ _ => rfl)) (by rfl))
      (pss_one (ps_ret pe_bl))
      pss_nil)))
  (pss_one (ps_ret pe_bl)))))), ?_⟩
    walk_at "rd"
    refine ⟨rfl, ?_⟩
    walk_at "rd"
    rw [optV_non]
    cases hf : faultOf isI sh with
    | some i =>
      refine iteT ?_
      walk_at "rd"
      refine r_size (by show 4 ≤ 1000; decide) fun t' ht' => ?_
      have e1 := Ext.new (o := .tup [.str "row", .int i, .bl true, .bl false]) ht'
      refine ⟨_, _, dp_row (.int i) (e1 _ _ (t1 i hf)), dp_row (.int i) upd_same, shI (by decide +kernel), shI (by decide +kernel), ?_⟩
      rw [eqv4 (by simp [PyData.eqv])]
      exact k _ e1
    | none =>
      refine iteF ?_
      obtain ⟨xs, rfl, l1, l2, all⟩ := fault_none hf
      obtain ⟨ns, rfl⟩ := ints_all all
      obtain ⟨u, ms, q1, q2, -, sorted, mem⟩ := t3 hf ns rfl
      obtain ⟨a, rfl, ha, hl, hi⟩ := hv
      have hms : 1 ≤ ms.length := by
        cases ns with
        | nil => simp at l1
        | cons n r =>
          have := (mem n).mpr List.mem_cons_self
          exact List.length_pos_of_mem this
      have hmz : ms.length ≤ 1000 := by
        rw [List.length_map] at l2
        have nd : ms.Nodup := sorted.imp fun h => Int.ne_of_lt h
        have := sub_len ms ns nd fun x hx => (mem x).mp hx
        omega
      walk_at "rd"
      refine ⟨rfl, ?_⟩
      show ∃ k, V.bl (!decide (V.str "told" = V.str "told")) = V.bl k ∧ _
      rw [show (!decide (V.str "told" = V.str "told")) = false by simp]
      walk_at "rd"
      refine r_isi (b := true) (.ty _) (.base (.lst q2)) (kit_ty (by decide +kernel)) ?_
      walk_at "rd"
      rw [show (decide (((ms.map V.int).length : Int) = 0)) = false by rw [List.length_map]; exact decide_eq_false (by omega)]
      walk_at "rd"
      refine r_i1 ⟨by rw [List.length_map]; omega, by rw [List.length_map]; omega⟩ ?_
      refine foin_range (n := ((ms.map V.int).length : Int).toNat) (fun i τ G => ∃ v3, τ = [some (.ref a), some (optV none), some (.ref t), v3, none] ∧ G = H) ⟨none, rfl, rfl⟩ ?_ ?_
      · rintro i τ G hi' ⟨v3, rfl, rfl⟩
        have e0 : (0 : Int) + ((i : Nat) : Int) = ((i : Nat) : Int) := Int.zero_add _
        have hi' : i < ms.length := by
          rw [List.length_map] at hi'
          omega
        have a1 : atI (ms.map V.int) (0 + ((i : Nat) : Int)) = some (.int ms[i]) := by
          rw [e0]
          refine atI_nat ?_
          rw [List.getElem?_map, List.getElem?_eq_getElem hi']
          rfl
        walk_at "rd"
        refine r_ixL (SqL.of q2) a1 ?_
        walk_at "rd"
        refine ⟨_, rfl, .inl ⟨_, rfl⟩, ?_⟩
        walk_at "rd"
        refine iteF ?_
        walk_at "rd"
        refine r_ixL (SqL.of q2) a1 ?_
        walk_at "rd"
        refine ⟨a, _, rfl, ha.imp SqL.of SqT.of, rfl, flat_ints, ?_⟩
        show ∃ k, V.bl (!inV (V.int ms[i]) (ns.map V.int)) = V.bl k ∧ _
        rw [show (!inV (V.int ms[i]) (ns.map V.int)) = false by rw [inV_ints, decide_eq_true ((mem _).mp (List.getElem_mem hi'))]; rfl]
        walk_at "rd"
        refine ite2 (fun h0 => ?_) (fun h0 => ?_)
        · have h0 : (0 : Int) < 0 + ((i : Nat) : Int) := of_decide_eq_true h0
          have hj : i - 1 < ms.length := by omega
          have a3 : atI (ms.map V.int) ((0 + ((i : Nat) : Int)) - 1) = some (.int ms[i - 1]) := by
            rw [show ((0 + ((i : Nat) : Int)) - 1) = ((i - 1 : Nat) : Int) by omega]
            refine atI_nat ?_
            rw [List.getElem?_map, List.getElem?_eq_getElem hj]
            rfl
          walk_at "rd"
          refine r_ixL (SqL.of q2) a1 ?_
          walk_at "rd"
          refine r_ixL (SqL.of q2) a3 ?_
          walk_at "rd"
          have lt : ms[i - 1] < ms[i] := List.pairwise_iff_getElem.mp sorted (i - 1) i hj hi' (by omega)
          rw [show decide (ms[i] ≤ ms[i - 1]) = false from decide_eq_false (by omega)]
          walk_at "rd"
          exact ⟨_, rfl, rfl⟩
        · walk_at "rd"
          exact ⟨_, rfl, rfl⟩
      · rintro τ G ⟨v3, rfl, rfl⟩
        walk_at "rd"
        refine r_seqv rfl ha fun J GG wk hGG => ?_
        refine foin_it wk (fun i τ G' => ∃ v4, τ = [some (.ref a), some (optV none), some (.ref t), v3, v4] ∧ G' = G) ⟨none, rfl, rfl⟩ (fun i τ G' _ ⟨_, _, e⟩ => by rw [e]; exact hGG _ (Ext.refl _)) ?_ ?_
        · rintro i x τ G1 G2 hi' ⟨v4, rfl, rfl⟩ ⟨rfl, hx⟩
          rw [List.getElem?_map] at hx
          cases hn : ns[i]? with
          | none => rw [hn] at hx; cases hx
          | some n =>
            rw [hn] at hx
            cases (Option.some.inj hx)
            walk_at "rd"
            refine ⟨u, _, rfl, .inl (SqL.of q2), rfl, flat_ints, ?_⟩
            show ∃ k, V.bl (!inV (V.int n) (ms.map V.int)) = V.bl k ∧ _
            rw [show (!inV (V.int n) (ms.map V.int)) = false by rw [inV_ints, decide_eq_true ((mem _).mpr (List.mem_of_getElem? hn))]; rfl]
            walk_at "rd"
            exact ⟨_, rfl, rfl⟩
        · rintro τ G' ⟨v4, rfl, rfl⟩
          walk_at "rd"
          exact k _ (Ext.refl _)
end
end Rk

namespace Rk
open PySem L2 Own
local macro_rules | `(tactic| walk_at "side") => `(tactic| first | exact trivial | (show (0:Int) < _; first | assumption | decide | omega) | exact Or.inl ⟨by decide, by decide⟩ | exact Or.inl ⟨by omega, by omega⟩ | exact Or.inr ⟨by decide, by decide⟩ | exact ⟨by decide, by decide⟩ | exact ⟨by decide, by decide, by decide⟩ | exact ⟨by omega, by omega⟩)
local macro_rules | `(tactic| walk_at "rd") => `(tactic| repeat (with_reducible first | refine r_next ?_ | refine r_ret ?_ | refine r_seq ?_ | refine r_asg ?_ | refine r_drop ?_ | refine r_call ?_ | refine r_cons ?_ | refine r_nil ?_ | refine r_cb ?_ | refine r_op ?_ | refine r_sset ?_ | refine r_var (by with_unfolding_all rfl) ?_ | refine r_c ?_ | refine r_name ?_ | refine r_I0 ?_ | refine r_I (by with_unfolding_all walk_at "side") ?_ | refine r_un ?_ | refine r_U ?_ | refine r_if ?_ | refine r_ifE ?_ | refine r_test ?_ | refine r_B ?_ | refine r_bl ?_ | refine r_not ?_ | refine r_and ?_ | refine r_or ?_ | refine r_andV ?_ | refine r_orV ?_ | refine r_notV ?_ | refine r_eqI ?_ | refine r_neI ?_ | refine r_tup ?_ | refine r_lst ?_ | refine r_sub ?_ | refine r_intI ?_ | refine r_intB ?_ | refine r_abs ?_ | refine r_max ?_ | refine r_ixL (SqL.of (by assumption)) (by with_unfolding_all rfl) ?_ | refine r_ixT (SqT.of (by assumption)) (by with_unfolding_all rfl) ?_ | refine r_lenL (SqL.of (by assumption)) ?_ | refine r_lenT (SqT.of (by assumption)) ?_ | refine r_callS ?_ | refine r_cutnx ?_ | refine r_cutrt ?_ | refine r_chain ?_ | refine r_yes ?_ | refine iteT ?_ | refine iteF ?_ | refine iteNF ?_ | refine iteNT ?_ | refine r_truth ?_ | refine r_truI ?_ | refine r_sliceV ?_ | refine r_for ?_ | refine r_rng1 ?_ | refine r_i1 (by with_unfolding_all walk_at "side") ?_))
section
variable {P : Program} {w : World} {K : PySem.W.Frag} {mg : Str → Option Value} {base : Heap} {D : Ad}
theorem Sh.isL {H : Hp} {v : V} {sh : Option (List V)} (h : Sh H v sh) : ∃ t b, TyX K H v (.type t) ∧ kitB t "list" = some b ∧ (b = true → ∃ a xs, sh = some xs ∧ v = .ref a ∧ H a = some (.lst xs) ∧ xs.length ≤ 1000) ∧ (b = false → ∀ a xs, v = .ref a → H a = some (.lst xs) → False) := by
  cases sh with
  | none =>
    rcases h with ⟨z, rfl⟩ | ⟨z, rfl⟩ | ⟨z, rfl⟩ | rfl
    · exact ⟨"int", false, .base (.int z), by decide +kernel, (fun h => by cases h), fun _ a xs e => by cases e⟩
    · exact ⟨"bool", false, .base (.bl z), by decide +kernel, (fun h => by cases h), fun _ a xs e => by cases e⟩
    · exact ⟨"str", false, .base (.str z), by decide +kernel, (fun h => by cases h), fun _ a xs e => by cases e⟩
    · exact ⟨"NoneType", false, .base .non, by decide +kernel, (fun h => by cases h), fun _ a xs e => by cases e⟩
  | some xs =>
    obtain ⟨a, rfl, h | h, l, -⟩ := h
    · exact ⟨"list", true, .base (.lst h), by decide +kernel, (fun _ => ⟨a, xs, rfl, rfl, h, l⟩), fun h => by cases h⟩
    · exact ⟨"tuple", false, .base (.tup h), by decide +kernel, (fun h => by cases h), fun _ a' xs' e h' => by cases e; rw [h] at h'; cases h'⟩
theorem item_dp {H : Hp} {v : V} (h : ItemOk H v) : ∃ d, Dp K H v d ∧ SeqAt.shaped d = true ∧ PyData.eqv d d = true := by
  rcases h with ⟨z, rfl⟩ | ⟨z, rfl⟩ | ⟨z, rfl, hs⟩ | rfl | ⟨a, rfl, h⟩ | ⟨a, rfl, h⟩
  · exact ⟨.int z, .int z, by simp [SeqAt.shaped, PyData.canLay0, PyData.depth], by simp [PyData.eqv]⟩
  · exact ⟨.bool z, .bl z, by simp [SeqAt.shaped, PyData.canLay0, PyData.depth], by simp [PyData.eqv]⟩
  · exact ⟨.str z, .str z, by simp [SeqAt.shaped, PyData.canLay0, PyData.depth, hs], by simp [PyData.eqv]⟩
  · exact ⟨.none, .non, by simp [SeqAt.shaped, PyData.canLay0, PyData.depth], by simp [PyData.eqv]⟩
  · exact ⟨.tuple [.int 0], .tup (SqT.of h) (.cons (.int 0) .nil), by simp [SeqAt.shaped, PyData.canLay0, PyData.canLayAll0, PyData.depth, PyData.depthAll], by simp [PyData.eqv, PyData.eqvAll]⟩
  · exact ⟨.list [.int 1], .lst (SqL.of h) (.cons (.int 1) .nil), by simp [SeqAt.shaped, PyData.canLay0, PyData.canLayAll0, PyData.depth, PyData.depthAll], by simp [PyData.eqv, PyData.eqvAll]⟩
end
section
variable {P : Program} {w : World} {K : PySem.W.Frag} {mg : Str → Option Value} {base : Heap} {D : Ad}
theorem iteT' {c : Bool} {A B : Prop} (h : c = true) (k : A) : if c = true then A else B := by
  rw [if_pos h]
  exact k
def spLaw (K : PySem.W.Frag) : Sp := fun vs H Q _ => ∃ (a : Addr) (ns : List Int), vs = [.ref a] ∧ SqL K H a (ns.map V.int) ∧ ns.length ≤ 63 ∧ ∀ H', Q (.bl true) H'
theorem ok_law (T : Txt K mg D) : FnOk P w K mg base CX0 8 D.a_law D.d_law ["_law_script"] (spLaw K) := by
  refine T.F_law.ok sc_law (fun vs H Q E h => ?_) (fun cdv A outer s H vs Q E hr h => ?_)
  · obtain ⟨a, ns, rfl, _⟩ := h
    rfl
  · obtain ⟨a, ns, rfl, hS, hlen, k⟩ := h
    refine ⟨_, (pss_cons (ps_set (i := 1) sc_law.nd rfl (Or.inl rfl) (pe_call (ok__law_pool T) (hr.mono (by decide)) (by rfl) T.g__law_pool T.F__law_pool.kp T.b__law_pool .nil pass0 (pa_cons (pv 0) pa_nil)))
  (pss_cons (ps_set (i := 2) sc_law.nd rfl (Or.inr rfl) (pe_call (ok__law_value T) (hr.mono (by decide)) (by rfl) T.g__law_value T.F__law_value.kp T.b__law_value .nil pass0 (pa_cons (pv 1) pa_nil)))
  (pss_cons (ps_set (i := 3) sc_law.nd rfl (Or.inl rfl) (pe_tup (pa_cons (pe_call (ok__law_number T) (hr.mono (by decide)) (by rfl) T.g__law_number T.F__law_number.kp T.b__law_number .nil pass0 (pa_cons (pv 1) pa_nil)) (pa_cons pe_int (pa_cons pe_bl (pa_cons pe_str (pa_cons pe_non (pa_cons (pe_op op_sub pe_int (pe_call (ok__law_draw T) (hr.mono (by decide)) (by rfl) T.g__law_draw T.F__law_draw.kp T.b__law_draw .nil pass0 (pa_cons (pv 1) (pa_cons pe_int pa_nil)))) pa_nil))))))))
  (pss_cons (ps_set (i := 4) sc_law.nd rfl (Or.inl rfl) (pe_ix (ix_tupC K) (pv 3) (pe_call (ok__law_draw T) (hr.mono (by decide)) (by rfl) T.g__law_draw T.F__law_draw.kp T.b__law_draw .nil pass0 (pa_cons (pv 1) (pa_cons pe_int pa_nil))) (fun _ _ => rfl)))
  (pss_cons (ps_set (i := 5) sc_law.nd rfl (Or.inl rfl) (pe_call (ok__law_fault T) (hr.mono (by decide)) (by rfl) T.g__law_fault T.F__law_fault.kp T.b__law_fault .nil pass0 (pa_cons (pv 2) (pa_cons pe_bl pa_nil))))
  (Evl.pss_cut (ps_set (i := 6) sc_law.nd rfl (Or.inr rfl) (pe_ifExp (pt_val (pe_callB (call_isiC K) (by rfl) T.n_isinstance (by decide +kernel) (pa_cons (pv 2) (pa_cons (pe_bltn (v := .ty "list") (by rfl) T.n_list (by decide +kernel) rfl) pa_nil)))) (pe_callTy (call_listC K) (by rfl) T.n_list (by decide +kernel) (pa_cons (pv 2) pa_nil)) (pv 2)))
  (pss_cons (ps_if (pt_not (pt_val (pe_call (ok__law_is_flag T) (hr.mono (by decide)) (by rfl) T.g__law_is_flag T.F__law_is_flag.kp T.b__law_is_flag .nil pass0 (pa_cons (pe_call (ok_is_row T) (hr.mono (by decide)) (by rfl) T.g_is_row T.F_is_row.kp T.b_is_row .nil pass0 (pa_cons (pv 6) pa_nil)) (pa_cons (pe_cmpR op_isN (pv 5) pe_non (nomark _)) pa_nil)))))
    (pss_one (ps_ret pe_bl))
    pss_nil)
  (pss_cons (ps_if (pt_not (pt_val (pe_call (ok__law_is_flag T) (hr.mono (by decide)) (by rfl) T.g__law_is_flag T.F__law_is_flag.kp T.b__law_is_flag .nil pass0 (pa_cons (pe_call (ok_is_bits T) (hr.mono (by decide)) (by rfl) T.g_is_bits T.F_is_bits.kp T.b_is_bits .nil pass0 (pa_cons (pv 6) pa_nil)) (pa_cons (pe_cmpR op_isN (pe_call (ok__law_fault T) (hr.mono (by decide)) (by rfl) T.g__law_fault T.F__law_fault.kp T.b__law_fault .nil pass0 (pa_cons (pv 2) (pa_cons pe_bl pa_nil))) pe_non (nomark _)) pa_nil)))))
    (pss_one (ps_ret pe_bl))
    pss_nil)
  (pss_cons (ps_if (pt_not (pt_val (pe_call (ok__law_level_right T) (hr.mono (by decide)) (by rfl) T.g__law_level_right T.F__law_level_right.kp T.b__law_level_right .nil pass0 (pa_cons (pv 2) (pa_cons (pv 5) (pa_cons (pv 4) (pa_cons (pe_call (ok__law_told_level T) (hr.mono (by decide)) (by rfl) T.g__law_told_level T.F__law_told_level.kp T.b__law_told_level .nil pass0 (pa_cons (pv 6) (pa_cons (pv 4) pa_nil))) pa_nil)))))))
    (pss_one (ps_ret pe_bl))
    pss_nil)
  (pss_cons (ps_set (i := 7) sc_law.nd rfl (Or.inl rfl) (pe_call (ok__law_told_levels T) (hr.mono (by decide)) (by rfl) T.g__law_told_levels T.F__law_told_levels.kp T.b__law_told_levels .nil pass0 (pa_cons (pv 6) pa_nil)))
  (pss_cons (ps_if (pt_not (pt_val (pe_call (ok__law_levels_right T) (hr.mono (by decide)) (by rfl) T.g__law_levels_right T.F__law_levels_right.kp T.b__law_levels_right .nil pass0 (pa_cons (pv 2) (pa_cons (pv 5) (pa_cons (pv 7) pa_nil))))))
    (pss_one (ps_ret pe_bl))
    pss_nil)
  (Evl.pss_cut (ps_if (pt_cmpR op_eq (pe_ix (ix_tupC K) (pv 7) pe_int (fun _ _ => rfl)) pe_str (nomark _))
    (pss_cons (ps_set (i := 8) sc_law.nd rfl (Or.inl rfl) (pe_ix (ix_tupC K) (pv 7) pe_int (fun _ _ => rfl)))
    (pss_cons (ps_expr (pe_bm PySem.F.plainAttrs_list PySem.F.slot_list_append PySem.F.type_list_append mt_append (pv 8) (pa_cons pe_int pa_nil)))
    (pss_one (ps_asg (pe_op op_pow pe_int pe_int) (pg_sub (pv 8) pe_int set_list)))))
    pss_nil)
  (pss_cons (ps_set (i := 9) sc_law.nd rfl (Or.inl rfl) (pe_call (ok__law_told_levels T) (hr.mono (by decide)) (by rfl) T.g__law_told_levels T.F__law_told_levels.kp T.b__law_told_levels .nil pass0 (pa_cons (pv 6) pa_nil)))
  (pss_cons (ps_if (pt_not (pt_val (pe_call (ok__law_levels_right T) (hr.mono (by decide)) (by rfl) T.g__law_levels_right T.F__law_levels_right.kp T.b__law_levels_right .nil pass0 (pa_cons (pv 2) (pa_cons (pv 5) (pa_cons (pv 9) pa_nil))))))
    (pss_one (ps_ret pe_bl))
    pss_nil)
  (pss_cons (ps_if (pt_not (pt_val (pe_callB (call_isiC K) (by rfl) T.n_isinstance (by decide +kernel) (pa_cons (pv 2) (pa_cons (pe_bltn (v := .ty "list") (by rfl) T.n_list (by decide +kernel) rfl) pa_nil)))))
    (pss_one (ps_ret pe_bl))
    pss_nil)
  (pss_one (ps_ret (pe_and (pe_cmpR op_eq (pe_callB (call_lenC K) (by rfl) T.n_len (by decide +kernel) (pa_cons (pv 6) pa_nil)) (pe_callB (call_lenC K) (by rfl) T.n_len (by decide +kernel) (pa_cons (pv 2) pa_nil)) (nomark _)) (pe_one (pe_callB (cr_allC K rfl) (by rfl) T.n_all (by decide +kernel) (pa_cons (pe_lc (own := [("_law_k", 10)]) (g := gName 10) rfl sc_law.nd (pi_range1 rfl T.n_range (pa_cons (pe_callB (call_lenC K) (by rfl) T.n_len (by decide +kernel) (pa_cons (pv 2) pa_nil)) pa_nil)) (blkOk_by (own := [("_law_k", 10)]) (N := ["_law_script", "_law_pool_here", "_law_value_here", "_law_numbers", "_law_number_here", "_law_fault_here", "_law_handed", "_law_told", "_law_first", "_law_again", "_law_k"]) (sc := defScope s_law) (by decide +kernel)) (fun _ _ _ _ _ => pg_name (i := 10) sc_law.nd rfl (Or.inl rfl)) (fun _ _ _ _ _ => pts_nil) (fun _ _ _ _ _ => (pe_cmpR (op_eqDC K hr.units) (pe_ix (ix_listC K) (pv 6) (pv 10) (fun _ _ => rfl)) (pe_ix (ix_listC K) (pv 2) (pv 10) (fun _ _ => rfl)) (nomark _)))) pa_nil))))))))))))))))))))), ?_⟩
    walk_at "rd"
    refine ⟨a, ns, rfl, hS, hlen, fun p c H1 e1 hp0 hc0 pl1 => ?_⟩
    walk_at "rd"
    refine ⟨p, c, rfl, pl1, fun v sh H2 pl2 e2 hv2 => ?_⟩
    walk_at "rd"
    refine ⟨p, c, rfl, pl2, fun z H3 pl3 e3 => ?_⟩
    walk_at "rd"
    refine ⟨p, c, _, rfl, pl3, by decide, by decide +kernel, fun r H4 r0 r1 pl4 e4 => ?_⟩
    walk_at "rd"
    refine r_size (by show 6 ≤ 1000; decide) fun t ht => ?_
    walk_at "rd"
    have e5 := Ext.new (o := .tup [.int z, .int 1, .bl true, .str "1", .non, .int (0 - r)]) ht
    have pl5 := pl4.ext e5
    refine ⟨p, c, _, rfl, pl5, by decide, by decide +kernel, fun j H6 j0 j1 pl6 e6 => ?_⟩
    have hT : H6 t = some (.tup [.int z, .int 1, .bl true, .str "1", .non, .int (0 - r)]) := wo_get e6 (pl4.ne ht).1 upd_same
    obtain ⟨n, hn1, hn⟩ : ∃ n, atI [V.int z, .int 1, .bl true, .str "1", .non, .int (0 - r)] j = some n ∧ ∀ H, ItemOk H n := by
      have hc : j = 0 ∨ j = 1 ∨ j = 2 ∨ j = 3 ∨ j = 4 ∨ j = 5 := by omega
      rcases hc with rfl | rfl | rfl | rfl | rfl | rfl
      · exact ⟨_, rfl, fun _ => .inl ⟨_, rfl⟩⟩
      · exact ⟨_, rfl, fun _ => .inl ⟨_, rfl⟩⟩
      · exact ⟨_, rfl, fun _ => .inr (.inl ⟨_, rfl⟩)⟩
      · exact ⟨_, rfl, fun _ => .inr (.inr (.inl ⟨_, rfl, by decide +kernel⟩))⟩
      · exact ⟨_, rfl, fun _ => .inr (.inr (.inr (.inl rfl)))⟩
      · exact ⟨_, rfl, fun _ => .inl ⟨_, rfl⟩⟩
    refine r_ixT (SqT.of hT) hn1 ?_
    have hv6 : Sh H6 v sh := hv2.ext (((e3.trans e4).trans ((wo_ext e5).trans e6)).trans wo_back)
    walk_at "rd"
    refine ⟨v, sh, false, rfl, hv6, fun H7 e7 => ?_⟩
    have hv7 : Sh H7 v sh := hv6.ext e7
    walk_at "rd"
    obtain ⟨ty, b, hty, hkb, hb, hb0⟩ := hv7.isL (K := K)
    refine r_cut (fun τ G => ∃ (u : V), τ = [some (.ref a), some (.ref p), some v, some (.ref t), some n, some (optV (faultOf isI sh)), some u, none, none, none, none] ∧ Sh G v sh ∧ Sh G u sh ∧
      (∀ a1 xs, v = .ref a1 → G a1 = some (.lst xs) → ∃ a2, u = .ref a2 ∧ G a2 = some (.lst xs))) ?_ ?_
    · walk_at "rd"
      refine r_isi (.ty _) hty (kit_ty hkb) ?_
      walk_at "rd"
      cases b with
      | true =>
        obtain ⟨a1, xs, rfl, rfl, ha, hx⟩ := hb rfl
        refine iteT ?_
        walk_at "rd"
        refine r_listL (SqL.of ha) fun l hl => ?_
        walk_at "rd"
        have e8 := Ext.new (o := .lst xs) hl
        have hv8 := hv7.ext e8
        obtain ⟨_, ea, _, hx1, hi1⟩ := hv8
        exact ⟨.ref l, rfl, ⟨_, ea, .inl (by cases ea; exact e8 _ _ ha), hx1, hi1⟩, ⟨l, rfl, .inl upd_same, hx1, hi1⟩, fun a' xs' ea' h' => by
          cases ea'
          cases (e8 _ _ ha).symm.trans h'
          exact ⟨l, rfl, upd_same⟩⟩
      | false =>
        refine iteF ?_
        walk_at "rd"
        exact ⟨v, rfl, hv7, hv7, fun a' xs' ea' h' => (hb0 rfl a' xs' ea' h').elim⟩
    · rintro τ G ⟨u, rfl, hvG, huG, hbG⟩
      walk_at "rd"
      refine ⟨u, sh, rfl, huG, fun G1 g1 => ?_⟩
      walk_at "rd"
      refine ⟨rfl, ?_⟩
      walk_at "rd"
      rw [optV_non]
      refine ⟨_, _, rfl, ?_⟩
      walk_at "rd"
      rw [show (!(isNon (faultOf isI sh) == isNon (faultOf isI sh))) = false by simp]
      walk_at "rd"
      refine ⟨u, sh, rfl, huG.ext g1, fun G2 g2 => ?_⟩
      walk_at "rd"
      refine ⟨v, sh, true, rfl, hvG.ext (g1.trans g2), fun G3 g3 => ?_⟩
      walk_at "rd"
      refine ⟨rfl, ?_⟩
      rw [optV_non]
      walk_at "rd"
      refine ⟨_, _, rfl, ?_⟩
      walk_at "rd"
      rw [show (!(isNon (faultOf (fun v => between v 0 1) sh) == isNon (faultOf (if true = true then fun v => between v 0 1 else isI) sh))) = false by simp]
      walk_at "rd"
      have g13 := (g1.trans g2).trans g3
      refine ⟨u, sh, n, rfl, huG.ext g13, hn _, fun t2 G4 g4 told => ?_⟩
      walk_at "rd"
      refine ⟨v, sh, n, t2, rfl, hvG.ext (g13.trans g4), hn _, told, fun G5 g5 => ?_⟩
      walk_at "rd"
      have g15 := (g13.trans g4).trans g5
      refine ⟨u, sh, rfl, huG.ext g15, fun t3 G6 g6 told6 => ?_⟩
      walk_at "rd"
      refine ⟨v, sh, t3, G5, rfl, hvG.ext (g15.trans g6), told6, fun G7 g7 => ?_⟩
      walk_at "rd"
      have hvH : ∀ G', Ext G5 G' → Sh G' v sh := fun G' e => hvG.ext (g15.trans e)
      have huH : ∀ G', Ext G5 G' → Sh G' u sh := fun G' e => huG.ext (g15.trans e)
      refine r_cut (fun τ G' => ∃ v8, τ = [some (.ref a), some (.ref p), some v, some (.ref t), some n, some (optV (faultOf isI sh)), some u, some (.ref t3), v8, none, none] ∧ Ext G5 G') ?_ ?_
      · walk_at "rd"
        cases hf : faultOf isI sh with
        | some i =>
          have q := g7 _ _ (told6.1 i hf)
          walk_at "rd"
          refine ⟨rfl, ?_⟩
          show ∃ k, V.bl (decide (V.str "row" = V.str "told")) = V.bl k ∧ _
          rw [show (decide (V.str "row" = V.str "told")) = false from decide_eq_false (by decide +kernel)]
          walk_at "rd"
          exact ⟨none, rfl, g6.trans g7⟩
        | none =>
          obtain ⟨xs, rfl, l1, l2, all⟩ := fault_none hf
          obtain ⟨zs, rfl⟩ := ints_all all
          obtain ⟨l, ms, q1, q2, q3, sorted, mem⟩ := told6.2 hf zs rfl
          have q1 := g7 _ _ q1
          have q2 := g7 _ _ q2
          have hms : 1 ≤ ms.length := by
            cases zs with
            | nil => simp at l1
            | cons n r => exact List.length_pos_of_mem ((mem n).mpr List.mem_cons_self)
          have hmz : ms.length ≤ 1000 := by
            rw [List.length_map] at l2
            have := sub_len ms zs (sorted.imp fun h => Int.ne_of_lt h) fun x hx => (mem x).mp hx
            omega
          walk_at "rd"
          refine ⟨rfl, ?_⟩
          show ∃ k, V.bl (decide (V.str "told" = V.str "told")) = V.bl k ∧ _
          rw [show (decide (V.str "told" = V.str "told")) = true from decide_eq_true rfl]
          walk_at "rd"
          refine r_app rfl q2 (by rw [List.length_map, sizeLine_eq]; omega) (fun QV h => h) ?_
          walk_at "rd"
          refine r_setL (j := 0) upd_same ?_ ?_
          · unfold ixN
            rw [if_pos (by decide), if_pos (by rw [List.length_append, List.length_map, List.length_singleton]; omega)]
            first | done | rfl
          · refine ⟨_, rfl, ?_⟩
            rw [upd_upd]
            exact (g6.trans g7).mut q3
      · rintro τ G8 ⟨v8, rfl, g8⟩
        walk_at "rd"
        refine ⟨u, sh, rfl, huH _ g8, fun t4 G9 g9 told9 => ?_⟩
        walk_at "rd"
        refine ⟨v, sh, t4, G8, rfl, hvH _ (g8.trans g9), told9, fun G10 g10 => ?_⟩
        walk_at "rd"
        have g5' := (g8.trans g9).trans g10
        obtain ⟨ty3, b3, hty3, hkb3, hb3, -⟩ := (hvH _ g5').isL (K := K)
        refine r_isi (.ty _) hty3 (kit_ty hkb3) ?_
        walk_at "rd"
        cases b3 with
        | false =>
          walk_at "rd"
          exact k _
        | true =>
          walk_at "rd"
          obtain ⟨a1, xs, rfl, rfl, h1, hx⟩ := hb3 rfl
          have hG1 : G a1 = some (.lst xs) := by
            obtain ⟨a', ea, h' | h', -, -⟩ := hvG
            · cases ea
              have := (g15.trans g5') _ _ h'
              cases this.symm.trans h1
              exact h'
            · cases ea
              have := (g15.trans g5') _ _ h'
              cases this.symm.trans h1
          obtain ⟨a2, rfl, hG2⟩ := hbG a1 xs rfl hG1
          have h2 : G10 a2 = some (.lst xs) := (g15.trans g5') _ _ hG2
          obtain ⟨_, ea, _, _, items⟩ := hvH _ g5'
          cases ea
          walk_at "rd"
          refine iteT' (decide_eq_true rfl) ?_
          walk_at "rd"
          refine r_lc ?_
          walk_at "rd"
          intro L hL
          refine lcin_range (n := (xs.length : Int).toNat) (fun i G' => Ext G10 G' ∧ G' L = some (.lst ((List.replicate i true).map V.bl))) ⟨Ext.new hL, upd_same⟩ (fun i G' hi ⟨e', hl⟩ => ⟨rfl, ?_⟩) (fun G' ⟨e', hl⟩ => ?_)
          · have hi : i < xs.length := by omega
            have e0 : (0 : Int) + ((i : Nat) : Int) = ((i : Nat) : Int) := Int.zero_add _
            have at_ : atI xs (0 + ((i : Nat) : Int)) = some xs[i] := by
              rw [e0]
              exact atI_nat (List.getElem?_eq_getElem hi)
            obtain ⟨d, d1, d2, d3⟩ := item_dp (K := K) ((items _ (List.getElem_mem hi)).ext e')
            walk_at "rd"
            refine r_ixL (SqL.of (e' _ _ h2)) at_ ?_
            walk_at "rd"
            refine r_ixL (SqL.of (e' _ _ h1)) at_ ?_
            refine ⟨d, d, d1, d1, d2, d2, ?_⟩
            rw [d3]
            refine ⟨_, hl, by rw [List.length_map, List.length_replicate, sizeLine_eq]; omega, e'.mut hL, ?_⟩
            rw [upd_same, List.replicate_succ', List.map_append]
            rfl
          · walk_at "rd"
            refine ⟨L, _, rfl, SqL.of hl, ?_⟩
            rw [show (List.replicate (xs.length : Int).toNat true).all id = true by simp]
            exact k _
end
end Rk

namespace Rk
open PySem L2 Own
theorem exm_any {K : PySem.W.Frag} {C S : Addr} {b : Bool} (h1 : PySem.W.subIn K (.ref S) (.type "BaseException") = some true) (h2 : PySem.W.isClsIn K S = true) (h3 : PySem.W.typeIn K (.ref S) = some (.type "type")) (h4 : PySem.W.subIn K (.ref C) (.ref S) = some b) : PySem.W.exmOne K (.ref C) (.ref S) = some b := by
  have e1 : (PySem.W.subIn K (.ref S) (.type "BaseException") == some true) = true := by rw [h1]; rfl
  have e2 : ((PySem.W.clsIn K S).isSome && PySem.W.typeIn K (.ref S) == some (.type "type")) = true := by
    have h2' : (PySem.W.clsIn K S).isSome = true := h2
    rw [h2', h3]
    rfl
  show (if (PySem.W.subIn K (.ref S) (.type "BaseException") == some true) = true then (if ((PySem.W.clsIn K S).isSome && PySem.W.typeIn K (.ref S) == some (.type "type")) = true then PySem.W.subIn K (.ref C) (.ref S) else none) else none) = some b
  rw [if_pos e1, if_pos e2]
  exact h4
theorem all_mk {l : PySem.W.OpenLaw} {w : World} {K : PySem.W.Frag} {h : Heap} {mg : Str → Option Value} {fa c_SweepError c_NoRow a_NoRow__init__ c_NoNumber a_NoNumber__init__ a_is_number a_is_within a_is_row a_is_bits a_row_fault a_bits_fault a_has_cells a_first_false a_row_of a_level a_levels a__law_mix a__law_pool a__law_draw a__law_number a__law_value a__law_is_integer a__law_is_flag a__law_fault a__law_told_level a__law_told_levels a__law_level_right a__law_levels_right a_law : Addr} (X : K.In h) (G : h.Ns mainGlobals mg) (hfa : mg "law" = some (.ref fa))
    {nm_SweepError qn_SweepError : Str} {N_SweepError : Addr} {bs_SweepError : List Value} {sn_SweepError : List Str} {sub_SweepError : List Value} {ab_SweepError : Bool} {col_SweepError : Option Bool} {dd_SweepError : Option Addr} {m0_SweepError m1_SweepError m2_SweepError m3_SweepError m5_SweepError : Option Value}
    {nm_NoRow qn_NoRow : Str} {N_NoRow : Addr} {bs_NoRow : List Value} {sn_NoRow : List Str} {sub_NoRow : List Value} {ab_NoRow : Bool} {col_NoRow : Option Bool} {dd_NoRow : Option Addr} {m0_NoRow m1_NoRow m2_NoRow m3_NoRow m5_NoRow : Option Value}
    {oc0 kV0 dc0 pm0 cd0 ct0 : Value} {od0 an0 : Option Addr} {sl0 : Array (Option Value)}
    {nm_NoNumber qn_NoNumber : Str} {N_NoNumber : Addr} {bs_NoNumber : List Value} {sn_NoNumber : List Str} {sub_NoNumber : List Value} {ab_NoNumber : Bool} {col_NoNumber : Option Bool} {dd_NoNumber : Option Addr} {m0_NoNumber m1_NoNumber m2_NoNumber m3_NoNumber m5_NoNumber : Option Value}
    {oc1 kV1 dc1 pm1 cd1 ct1 : Value} {od1 an1 : Option Addr} {sl1 : Array (Option Value)}
    {oc2 kV2 dc2 pm2 cd2 ct2 : Value} {od2 an2 : Option Addr} {sl2 : Array (Option Value)}
    {oc3 kV3 dc3 pm3 cd3 ct3 : Value} {od3 an3 : Option Addr} {sl3 : Array (Option Value)}
    {oc4 kV4 dc4 pm4 cd4 ct4 : Value} {od4 an4 : Option Addr} {sl4 : Array (Option Value)}
    {oc5 kV5 dc5 pm5 cd5 ct5 : Value} {od5 an5 : Option Addr} {sl5 : Array (Option Value)}
    {oc6 kV6 dc6 pm6 cd6 ct6 : Value} {od6 an6 : Option Addr} {sl6 : Array (Option Value)}
    {oc7 kV7 dc7 pm7 cd7 ct7 : Value} {od7 an7 : Option Addr} {sl7 : Array (Option Value)}
    {oc8 kV8 dc8 pm8 cd8 ct8 : Value} {od8 an8 : Option Addr} {sl8 : Array (Option Value)}
    {oc9 kV9 dc9 pm9 cd9 ct9 : Value} {od9 an9 : Option Addr} {sl9 : Array (Option Value)}
    {oc10 kV10 dc10 pm10 cd10 ct10 : Value} {od10 an10 : Option Addr} {sl10 : Array (Option Value)}
    {oc11 kV11 dc11 pm11 cd11 ct11 : Value} {od11 an11 : Option Addr} {sl11 : Array (Option Value)}
    {oc12 kV12 dc12 pm12 cd12 ct12 : Value} {od12 an12 : Option Addr} {sl12 : Array (Option Value)}
    {oc13 kV13 dc13 pm13 cd13 ct13 : Value} {od13 an13 : Option Addr} {sl13 : Array (Option Value)}
    {oc14 kV14 dc14 pm14 cd14 ct14 : Value} {od14 an14 : Option Addr} {sl14 : Array (Option Value)}
    {oc15 kV15 dc15 pm15 cd15 ct15 : Value} {od15 an15 : Option Addr} {sl15 : Array (Option Value)}
    {oc16 kV16 dc16 pm16 cd16 ct16 : Value} {od16 an16 : Option Addr} {sl16 : Array (Option Value)}
    {oc17 kV17 dc17 pm17 cd17 ct17 : Value} {od17 an17 : Option Addr} {sl17 : Array (Option Value)}
    {oc18 kV18 dc18 pm18 cd18 ct18 : Value} {od18 an18 : Option Addr} {sl18 : Array (Option Value)}
    {oc19 kV19 dc19 pm19 cd19 ct19 : Value} {od19 an19 : Option Addr} {sl19 : Array (Option Value)}
    {oc20 kV20 dc20 pm20 cd20 ct20 : Value} {od20 an20 : Option Addr} {sl20 : Array (Option Value)}
    {oc21 kV21 dc21 pm21 cd21 ct21 : Value} {od21 an21 : Option Addr} {sl21 : Array (Option Value)}
    {oc22 kV22 dc22 pm22 cd22 ct22 : Value} {od22 an22 : Option Addr} {sl22 : Array (Option Value)}
    {oc23 kV23 dc23 pm23 cd23 ct23 : Value} {od23 an23 : Option Addr} {sl23 : Array (Option Value)}
    {oc24 kV24 dc24 pm24 cd24 ct24 : Value} {od24 an24 : Option Addr} {sl24 : Array (Option Value)}
    {oc25 kV25 dc25 pm25 cd25 ct25 : Value} {od25 an25 : Option Addr} {sl25 : Array (Option Value)}
    {tk_MOST_CELLS : Tok}
    (g_SweepError : PySem.W.nsIn K mainGlobals "SweepError" = some (some (.ref c_SweepError)))
    (g_NoRow : PySem.W.nsIn K mainGlobals "NoRow" = some (some (.ref c_NoRow)))
    (g_NoNumber : PySem.W.nsIn K mainGlobals "NoNumber" = some (some (.ref c_NoNumber)))
    (x_SweepError : K.lookup c_SweepError = some (excClassObj nm_SweepError qn_SweepError c_SweepError N_SweepError bs_SweepError [.type "ValueError", .type "Exception", .type "BaseException", .type "object"] true sn_SweepError sub_SweepError ab_SweepError col_SweepError dd_SweepError m0_SweepError m1_SweepError m2_SweepError m3_SweepError m5_SweepError "ValueError.__new__"))
    (sa_SweepError : PySem.W.findIn K (.ref c_SweepError) "__setattr__" = some (some (.builtin "object.__setattr__")))
    (ga_SweepError : PySem.W.findIn K (.ref c_SweepError) "__getattribute__" = some (some (.builtin "BaseException.__getattribute__")))
    (gg_SweepError : PySem.W.findIn K (.ref c_SweepError) "__getattr__" = some none)
    (ec_SweepError : PySem.W.subIn K (.ref c_SweepError) (.type "BaseException") = some true)
    (tc_SweepError : PySem.W.typeIn K (.ref c_SweepError) = some (.type "type"))
    (kc_SweepError : PySem.W.keepIn K (.ref c_SweepError) = true)
    (hc_SweepError : PySem.W.hasDictIn K c_SweepError = true)
    (ic_SweepError : PySem.W.isClsIn K c_SweepError = true)
    (ha_SweepError : PySem.W.findIn K (.ref c_SweepError) "__class__" = some (some (.builtin "object.__class__")))
    (hm_SweepError : PySem.W.mroIn K c_SweepError (.type "object") = some true)
    (sv_SweepError : PySem.W.subIn K (.ref c_SweepError) (.type "ValueError") = some true)
    (s_SweepError_SweepError : PySem.W.subIn K (.ref c_SweepError) (.ref c_SweepError) = some true)
    (s_SweepError_NoRow : PySem.W.subIn K (.ref c_SweepError) (.ref c_NoRow) = some false)
    (s_SweepError_NoNumber : PySem.W.subIn K (.ref c_SweepError) (.ref c_NoNumber) = some false)
    (x_NoRow : K.lookup c_NoRow = some (excClassObj nm_NoRow qn_NoRow c_NoRow N_NoRow bs_NoRow [.ref c_SweepError, .type "ValueError", .type "Exception", .type "BaseException", .type "object"] true sn_NoRow sub_NoRow ab_NoRow col_NoRow dd_NoRow m0_NoRow m1_NoRow m2_NoRow m3_NoRow m5_NoRow "ValueError.__new__"))
    (sa_NoRow : PySem.W.findIn K (.ref c_NoRow) "__setattr__" = some (some (.builtin "object.__setattr__")))
    (ga_NoRow : PySem.W.findIn K (.ref c_NoRow) "__getattribute__" = some (some (.builtin "BaseException.__getattribute__")))
    (gg_NoRow : PySem.W.findIn K (.ref c_NoRow) "__getattr__" = some none)
    (ec_NoRow : PySem.W.subIn K (.ref c_NoRow) (.type "BaseException") = some true)
    (tc_NoRow : PySem.W.typeIn K (.ref c_NoRow) = some (.type "type"))
    (kc_NoRow : PySem.W.keepIn K (.ref c_NoRow) = true)
    (hc_NoRow : PySem.W.hasDictIn K c_NoRow = true)
    (ic_NoRow : PySem.W.isClsIn K c_NoRow = true)
    (ha_NoRow : PySem.W.findIn K (.ref c_NoRow) "__class__" = some (some (.builtin "object.__class__")))
    (hm_NoRow : PySem.W.mroIn K c_NoRow (.type "object") = some true)
    (sv_NoRow : PySem.W.subIn K (.ref c_NoRow) (.type "ValueError") = some true)
    (s_NoRow_SweepError : PySem.W.subIn K (.ref c_NoRow) (.ref c_SweepError) = some true)
    (s_NoRow_NoRow : PySem.W.subIn K (.ref c_NoRow) (.ref c_NoRow) = some true)
    (s_NoRow_NoNumber : PySem.W.subIn K (.ref c_NoRow) (.ref c_NoNumber) = some false)
    (q0 : PySem.W.findIn K (.ref c_NoRow) "__init__" = some (some (.ref a_NoRow__init__)))
    (l0 : K.lookup a_NoRow__init__ = some ⟨oc0, od0, .func (PySem.W.fnOf "__init__" "NoRow.__init__" (defArgs s_NoRow__init__) (defBody s_NoRow__init__) (defScope s_NoRow__init__) .none kV0 dc0 pm0 an0 cd0 ct0), sl0⟩)
    (cc0 : PySem.W.codeIn K cd0 "NoRow.__init__" = true)
    (kk0 : PySem.W.keepIn K (.ref a_NoRow__init__) = true)
    (t_NoRow__init__ : PySem.W.typeIn K (.ref a_NoRow__init__) = some (.type "function"))
    (no_NoRow_index : PySem.W.findIn K (.ref c_NoRow) "index" = some none)
    (x_NoNumber : K.lookup c_NoNumber = some (excClassObj nm_NoNumber qn_NoNumber c_NoNumber N_NoNumber bs_NoNumber [.ref c_SweepError, .type "ValueError", .type "Exception", .type "BaseException", .type "object"] true sn_NoNumber sub_NoNumber ab_NoNumber col_NoNumber dd_NoNumber m0_NoNumber m1_NoNumber m2_NoNumber m3_NoNumber m5_NoNumber "ValueError.__new__"))
    (sa_NoNumber : PySem.W.findIn K (.ref c_NoNumber) "__setattr__" = some (some (.builtin "object.__setattr__")))
    (ga_NoNumber : PySem.W.findIn K (.ref c_NoNumber) "__getattribute__" = some (some (.builtin "BaseException.__getattribute__")))
    (gg_NoNumber : PySem.W.findIn K (.ref c_NoNumber) "__getattr__" = some none)
    (ec_NoNumber : PySem.W.subIn K (.ref c_NoNumber) (.type "BaseException") = some true)
    (tc_NoNumber : PySem.W.typeIn K (.ref c_NoNumber) = some (.type "type"))
    (kc_NoNumber : PySem.W.keepIn K (.ref c_NoNumber) = true)
    (hc_NoNumber : PySem.W.hasDictIn K c_NoNumber = true)
    (ic_NoNumber : PySem.W.isClsIn K c_NoNumber = true)
    (ha_NoNumber : PySem.W.findIn K (.ref c_NoNumber) "__class__" = some (some (.builtin "object.__class__")))
    (hm_NoNumber : PySem.W.mroIn K c_NoNumber (.type "object") = some true)
    (sv_NoNumber : PySem.W.subIn K (.ref c_NoNumber) (.type "ValueError") = some true)
    (s_NoNumber_SweepError : PySem.W.subIn K (.ref c_NoNumber) (.ref c_SweepError) = some true)
    (s_NoNumber_NoRow : PySem.W.subIn K (.ref c_NoNumber) (.ref c_NoRow) = some false)
    (s_NoNumber_NoNumber : PySem.W.subIn K (.ref c_NoNumber) (.ref c_NoNumber) = some true)
    (q1 : PySem.W.findIn K (.ref c_NoNumber) "__init__" = some (some (.ref a_NoNumber__init__)))
    (l1 : K.lookup a_NoNumber__init__ = some ⟨oc1, od1, .func (PySem.W.fnOf "__init__" "NoNumber.__init__" (defArgs s_NoNumber__init__) (defBody s_NoNumber__init__) (defScope s_NoNumber__init__) .none kV1 dc1 pm1 an1 cd1 ct1), sl1⟩)
    (cc1 : PySem.W.codeIn K cd1 "NoNumber.__init__" = true)
    (kk1 : PySem.W.keepIn K (.ref a_NoNumber__init__) = true)
    (t_NoNumber__init__ : PySem.W.typeIn K (.ref a_NoNumber__init__) = some (.type "function"))
    (no_NoNumber_name : PySem.W.findIn K (.ref c_NoNumber) "name" = some none)
    (hn : PySem.W.specialIn K (.builtin "object.__class__") "__get__" = some (some (.builtin "getset_descriptor.__get__")))
    (ht : PySem.W.takesIn K (.builtin "object.__class__") = some true)
    (q2 : PySem.W.nsIn K mainGlobals "is_number" = some (some (.ref a_is_number)))
    (l2 : K.lookup a_is_number = some ⟨oc2, od2, .func (PySem.W.fnOf "is_number" "is_number" (defArgs s_is_number) (defBody s_is_number) (defScope s_is_number) .none kV2 dc2 pm2 an2 cd2 ct2), sl2⟩)
    (cc2 : PySem.W.codeIn K cd2 "is_number" = true)
    (kk2 : PySem.W.keepIn K (.ref a_is_number) = true)
    (q3 : PySem.W.nsIn K mainGlobals "is_within" = some (some (.ref a_is_within)))
    (l3 : K.lookup a_is_within = some ⟨oc3, od3, .func (PySem.W.fnOf "is_within" "is_within" (defArgs s_is_within) (defBody s_is_within) (defScope s_is_within) .none kV3 dc3 pm3 an3 cd3 ct3), sl3⟩)
    (cc3 : PySem.W.codeIn K cd3 "is_within" = true)
    (kk3 : PySem.W.keepIn K (.ref a_is_within) = true)
    (q4 : PySem.W.nsIn K mainGlobals "is_row" = some (some (.ref a_is_row)))
    (l4 : K.lookup a_is_row = some ⟨oc4, od4, .func (PySem.W.fnOf "is_row" "is_row" (defArgs s_is_row) (defBody s_is_row) (defScope s_is_row) .none kV4 dc4 pm4 an4 cd4 ct4), sl4⟩)
    (cc4 : PySem.W.codeIn K cd4 "is_row" = true)
    (kk4 : PySem.W.keepIn K (.ref a_is_row) = true)
    (q5 : PySem.W.nsIn K mainGlobals "is_bits" = some (some (.ref a_is_bits)))
    (l5 : K.lookup a_is_bits = some ⟨oc5, od5, .func (PySem.W.fnOf "is_bits" "is_bits" (defArgs s_is_bits) (defBody s_is_bits) (defScope s_is_bits) .none kV5 dc5 pm5 an5 cd5 ct5), sl5⟩)
    (cc5 : PySem.W.codeIn K cd5 "is_bits" = true)
    (kk5 : PySem.W.keepIn K (.ref a_is_bits) = true)
    (q6 : PySem.W.nsIn K mainGlobals "row_fault" = some (some (.ref a_row_fault)))
    (l6 : K.lookup a_row_fault = some ⟨oc6, od6, .func (PySem.W.fnOf "row_fault" "row_fault" (defArgs s_row_fault) (defBody s_row_fault) (defScope s_row_fault) .none kV6 dc6 pm6 an6 cd6 ct6), sl6⟩)
    (cc6 : PySem.W.codeIn K cd6 "row_fault" = true)
    (kk6 : PySem.W.keepIn K (.ref a_row_fault) = true)
    (q7 : PySem.W.nsIn K mainGlobals "bits_fault" = some (some (.ref a_bits_fault)))
    (l7 : K.lookup a_bits_fault = some ⟨oc7, od7, .func (PySem.W.fnOf "bits_fault" "bits_fault" (defArgs s_bits_fault) (defBody s_bits_fault) (defScope s_bits_fault) .none kV7 dc7 pm7 an7 cd7 ct7), sl7⟩)
    (cc7 : PySem.W.codeIn K cd7 "bits_fault" = true)
    (kk7 : PySem.W.keepIn K (.ref a_bits_fault) = true)
    (q8 : PySem.W.nsIn K mainGlobals "has_cells" = some (some (.ref a_has_cells)))
    (l8 : K.lookup a_has_cells = some ⟨oc8, od8, .func (PySem.W.fnOf "has_cells" "has_cells" (defArgs s_has_cells) (defBody s_has_cells) (defScope s_has_cells) .none kV8 dc8 pm8 an8 cd8 ct8), sl8⟩)
    (cc8 : PySem.W.codeIn K cd8 "has_cells" = true)
    (kk8 : PySem.W.keepIn K (.ref a_has_cells) = true)
    (q9 : PySem.W.nsIn K mainGlobals "first_false" = some (some (.ref a_first_false)))
    (l9 : K.lookup a_first_false = some ⟨oc9, od9, .func (PySem.W.fnOf "first_false" "first_false" (defArgs s_first_false) (defBody s_first_false) (defScope s_first_false) .none kV9 dc9 pm9 an9 cd9 ct9), sl9⟩)
    (cc9 : PySem.W.codeIn K cd9 "first_false" = true)
    (kk9 : PySem.W.keepIn K (.ref a_first_false) = true)
    (q10 : PySem.W.nsIn K mainGlobals "row_of" = some (some (.ref a_row_of)))
    (l10 : K.lookup a_row_of = some ⟨oc10, od10, .func (PySem.W.fnOf "row_of" "row_of" (defArgs s_row_of) (defBody s_row_of) (defScope s_row_of) .none kV10 dc10 pm10 an10 cd10 ct10), sl10⟩)
    (cc10 : PySem.W.codeIn K cd10 "row_of" = true)
    (kk10 : PySem.W.keepIn K (.ref a_row_of) = true)
    (q11 : PySem.W.nsIn K mainGlobals "level" = some (some (.ref a_level)))
    (l11 : K.lookup a_level = some ⟨oc11, od11, .func (PySem.W.fnOf "level" "level" (defArgs s_level) (defBody s_level) (defScope s_level) .none kV11 dc11 pm11 an11 cd11 ct11), sl11⟩)
    (cc11 : PySem.W.codeIn K cd11 "level" = true)
    (kk11 : PySem.W.keepIn K (.ref a_level) = true)
    (q12 : PySem.W.nsIn K mainGlobals "levels" = some (some (.ref a_levels)))
    (l12 : K.lookup a_levels = some ⟨oc12, od12, .func (PySem.W.fnOf "levels" "levels" (defArgs s_levels) (defBody s_levels) (defScope s_levels) .none kV12 dc12 pm12 an12 cd12 ct12), sl12⟩)
    (cc12 : PySem.W.codeIn K cd12 "levels" = true)
    (kk12 : PySem.W.keepIn K (.ref a_levels) = true)
    (q13 : PySem.W.nsIn K mainGlobals "_law_mix" = some (some (.ref a__law_mix)))
    (l13 : K.lookup a__law_mix = some ⟨oc13, od13, .func (PySem.W.fnOf "_law_mix" "_law_mix" (defArgs s__law_mix) (defBody s__law_mix) (defScope s__law_mix) .none kV13 dc13 pm13 an13 cd13 ct13), sl13⟩)
    (cc13 : PySem.W.codeIn K cd13 "_law_mix" = true)
    (kk13 : PySem.W.keepIn K (.ref a__law_mix) = true)
    (q14 : PySem.W.nsIn K mainGlobals "_law_pool" = some (some (.ref a__law_pool)))
    (l14 : K.lookup a__law_pool = some ⟨oc14, od14, .func (PySem.W.fnOf "_law_pool" "_law_pool" (defArgs s__law_pool) (defBody s__law_pool) (defScope s__law_pool) .none kV14 dc14 pm14 an14 cd14 ct14), sl14⟩)
    (cc14 : PySem.W.codeIn K cd14 "_law_pool" = true)
    (kk14 : PySem.W.keepIn K (.ref a__law_pool) = true)
    (q15 : PySem.W.nsIn K mainGlobals "_law_draw" = some (some (.ref a__law_draw)))
    (l15 : K.lookup a__law_draw = some ⟨oc15, od15, .func (PySem.W.fnOf "_law_draw" "_law_draw" (defArgs s__law_draw) (defBody s__law_draw) (defScope s__law_draw) .none kV15 dc15 pm15 an15 cd15 ct15), sl15⟩)
    (cc15 : PySem.W.codeIn K cd15 "_law_draw" = true)
    (kk15 : PySem.W.keepIn K (.ref a__law_draw) = true)
    (q16 : PySem.W.nsIn K mainGlobals "_law_number" = some (some (.ref a__law_number)))
    (l16 : K.lookup a__law_number = some ⟨oc16, od16, .func (PySem.W.fnOf "_law_number" "_law_number" (defArgs s__law_number) (defBody s__law_number) (defScope s__law_number) .none kV16 dc16 pm16 an16 cd16 ct16), sl16⟩)
    (cc16 : PySem.W.codeIn K cd16 "_law_number" = true)
    (kk16 : PySem.W.keepIn K (.ref a__law_number) = true)
    (q17 : PySem.W.nsIn K mainGlobals "_law_value" = some (some (.ref a__law_value)))
    (l17 : K.lookup a__law_value = some ⟨oc17, od17, .func (PySem.W.fnOf "_law_value" "_law_value" (defArgs s__law_value) (defBody s__law_value) (defScope s__law_value) .none kV17 dc17 pm17 an17 cd17 ct17), sl17⟩)
    (cc17 : PySem.W.codeIn K cd17 "_law_value" = true)
    (kk17 : PySem.W.keepIn K (.ref a__law_value) = true)
    (q18 : PySem.W.nsIn K mainGlobals "_law_is_integer" = some (some (.ref a__law_is_integer)))
    (l18 : K.lookup a__law_is_integer = some ⟨oc18, od18, .func (PySem.W.fnOf "_law_is_integer" "_law_is_integer" (defArgs s__law_is_integer) (defBody s__law_is_integer) (defScope s__law_is_integer) .none kV18 dc18 pm18 an18 cd18 ct18), sl18⟩)
    (cc18 : PySem.W.codeIn K cd18 "_law_is_integer" = true)
    (kk18 : PySem.W.keepIn K (.ref a__law_is_integer) = true)
    (q19 : PySem.W.nsIn K mainGlobals "_law_is_flag" = some (some (.ref a__law_is_flag)))
    (l19 : K.lookup a__law_is_flag = some ⟨oc19, od19, .func (PySem.W.fnOf "_law_is_flag" "_law_is_flag" (defArgs s__law_is_flag) (defBody s__law_is_flag) (defScope s__law_is_flag) .none kV19 dc19 pm19 an19 cd19 ct19), sl19⟩)
    (cc19 : PySem.W.codeIn K cd19 "_law_is_flag" = true)
    (kk19 : PySem.W.keepIn K (.ref a__law_is_flag) = true)
    (q20 : PySem.W.nsIn K mainGlobals "_law_fault" = some (some (.ref a__law_fault)))
    (l20 : K.lookup a__law_fault = some ⟨oc20, od20, .func (PySem.W.fnOf "_law_fault" "_law_fault" (defArgs s__law_fault) (defBody s__law_fault) (defScope s__law_fault) .none kV20 dc20 pm20 an20 cd20 ct20), sl20⟩)
    (cc20 : PySem.W.codeIn K cd20 "_law_fault" = true)
    (kk20 : PySem.W.keepIn K (.ref a__law_fault) = true)
    (q21 : PySem.W.nsIn K mainGlobals "_law_told_level" = some (some (.ref a__law_told_level)))
    (l21 : K.lookup a__law_told_level = some ⟨oc21, od21, .func (PySem.W.fnOf "_law_told_level" "_law_told_level" (defArgs s__law_told_level) (defBody s__law_told_level) (defScope s__law_told_level) .none kV21 dc21 pm21 an21 cd21 ct21), sl21⟩)
    (cc21 : PySem.W.codeIn K cd21 "_law_told_level" = true)
    (kk21 : PySem.W.keepIn K (.ref a__law_told_level) = true)
    (q22 : PySem.W.nsIn K mainGlobals "_law_told_levels" = some (some (.ref a__law_told_levels)))
    (l22 : K.lookup a__law_told_levels = some ⟨oc22, od22, .func (PySem.W.fnOf "_law_told_levels" "_law_told_levels" (defArgs s__law_told_levels) (defBody s__law_told_levels) (defScope s__law_told_levels) .none kV22 dc22 pm22 an22 cd22 ct22), sl22⟩)
    (cc22 : PySem.W.codeIn K cd22 "_law_told_levels" = true)
    (kk22 : PySem.W.keepIn K (.ref a__law_told_levels) = true)
    (q23 : PySem.W.nsIn K mainGlobals "_law_level_right" = some (some (.ref a__law_level_right)))
    (l23 : K.lookup a__law_level_right = some ⟨oc23, od23, .func (PySem.W.fnOf "_law_level_right" "_law_level_right" (defArgs s__law_level_right) (defBody s__law_level_right) (defScope s__law_level_right) .none kV23 dc23 pm23 an23 cd23 ct23), sl23⟩)
    (cc23 : PySem.W.codeIn K cd23 "_law_level_right" = true)
    (kk23 : PySem.W.keepIn K (.ref a__law_level_right) = true)
    (q24 : PySem.W.nsIn K mainGlobals "_law_levels_right" = some (some (.ref a__law_levels_right)))
    (l24 : K.lookup a__law_levels_right = some ⟨oc24, od24, .func (PySem.W.fnOf "_law_levels_right" "_law_levels_right" (defArgs s__law_levels_right) (defBody s__law_levels_right) (defScope s__law_levels_right) .none kV24 dc24 pm24 an24 cd24 ct24), sl24⟩)
    (cc24 : PySem.W.codeIn K cd24 "_law_levels_right" = true)
    (kk24 : PySem.W.keepIn K (.ref a__law_levels_right) = true)
    (q25 : PySem.W.nsIn K mainGlobals "law" = some (some (.ref a_law)))
    (l25 : K.lookup a_law = some ⟨oc25, od25, .func (PySem.W.fnOf "law" "law" (defArgs s_law) (defBody s_law) (defScope s_law) .none kV25 dc25 pm25 an25 cd25 ct25), sl25⟩)
    (cc25 : PySem.W.codeIn K cd25 "law" = true)
    (kk25 : PySem.W.keepIn K (.ref a_law) = true)
    (cst_MOST_CELLS : PySem.W.nsIn K mainGlobals "MOST_CELLS" = some (some (.int 200 tk_MOST_CELLS)))
    (z_ValueError : PySem.W.nsIn K mainGlobals "ValueError" = some none)
    (z_abs : PySem.W.nsIn K mainGlobals "abs" = some none)
    (z_all : PySem.W.nsIn K mainGlobals "all" = some none)
    (z_bool : PySem.W.nsIn K mainGlobals "bool" = some none)
    (z_enumerate : PySem.W.nsIn K mainGlobals "enumerate" = some none)
    (z_int : PySem.W.nsIn K mainGlobals "int" = some none)
    (z_isinstance : PySem.W.nsIn K mainGlobals "isinstance" = some none)
    (z_len : PySem.W.nsIn K mainGlobals "len" = some none)
    (z_list : PySem.W.nsIn K mainGlobals "list" = some none)
    (z_max : PySem.W.nsIn K mainGlobals "max" = some none)
    (z_range : PySem.W.nsIn K mainGlobals "range" = some none)
    (z_set : PySem.W.nsIn K mainGlobals "set" = some none)
    (z_sorted : PySem.W.nsIn K mainGlobals "sorted" = some none)
    (z_tuple : PySem.W.nsIn K mainGlobals "tuple" = some none)
    : ∃ fd : FuncData, (∀ (s : Shared) (v : Value), BindsTo s fd ⟨[v], []⟩ [("_law_script", v)]) ∧ ∀ base : Heap, K.In base → base.Ns mainGlobals mg → FnOk l.prog w K mg base CX0 8 fa fd ["_law_script"] (spLaw K) := by
  have e := hfa.symm.trans (PySem.W.mg_of X G q25)
  cases e
  have F0 := fun_mk (st := s_NoRow__init__) l0 cc0 kk0
  have b0 := F0.binds (ps := ["self", "index"]) fun _ _ _ _ _ _ us hl => match us, hl with | [_, _], _ => rfl
  have F1 := fun_mk (st := s_NoNumber__init__) l1 cc1 kk1
  have b1 := F1.binds (ps := ["self", "name"]) fun _ _ _ _ _ _ us hl => match us, hl with | [_, _], _ => rfl
  have F2 := fun_mk (st := s_is_number) l2 cc2 kk2
  have b2 := F2.binds (ps := ["value"]) fun _ _ _ _ _ _ us hl => match us, hl with | [_], _ => rfl
  have F3 := fun_mk (st := s_is_within) l3 cc3 kk3
  have b3 := F3.binds (ps := ["value", "least", "most"]) fun _ _ _ _ _ _ us hl => match us, hl with | [_, _, _], _ => rfl
  have F4 := fun_mk (st := s_is_row) l4 cc4 kk4
  have b4 := F4.binds (ps := ["value"]) fun _ _ _ _ _ _ us hl => match us, hl with | [_], _ => rfl
  have F5 := fun_mk (st := s_is_bits) l5 cc5 kk5
  have b5 := F5.binds (ps := ["value"]) fun _ _ _ _ _ _ us hl => match us, hl with | [_], _ => rfl
  have F6 := fun_mk (st := s_row_fault) l6 cc6 kk6
  have b6 := F6.binds (ps := ["value"]) fun _ _ _ _ _ _ us hl => match us, hl with | [_], _ => rfl
  have F7 := fun_mk (st := s_bits_fault) l7 cc7 kk7
  have b7 := F7.binds (ps := ["value"]) fun _ _ _ _ _ _ us hl => match us, hl with | [_], _ => rfl
  have F8 := fun_mk (st := s_has_cells) l8 cc8 kk8
  have b8 := F8.binds (ps := ["value"]) fun _ _ _ _ _ _ us hl => match us, hl with | [_], _ => rfl
  have F9 := fun_mk (st := s_first_false) l9 cc9 kk9
  have b9 := F9.binds (ps := ["flags"]) fun _ _ _ _ _ _ us hl => match us, hl with | [_], _ => rfl
  have F10 := fun_mk (st := s_row_of) l10 cc10 kk10
  have b10 := F10.binds (ps := ["value"]) fun _ _ _ _ _ _ us hl => match us, hl with | [_], _ => rfl
  have F11 := fun_mk (st := s_level) l11 cc11 kk11
  have b11 := F11.binds (ps := ["row", "value"]) fun _ _ _ _ _ _ us hl => match us, hl with | [_, _], _ => rfl
  have F12 := fun_mk (st := s_levels) l12 cc12 kk12
  have b12 := F12.binds (ps := ["row"]) fun _ _ _ _ _ _ us hl => match us, hl with | [_], _ => rfl
  have F13 := fun_mk (st := s__law_mix) l13 cc13 kk13
  have b13 := F13.binds (ps := ["_law_number_here", "_law_k"]) fun _ _ _ _ _ _ us hl => match us, hl with | [_, _], _ => rfl
  have F14 := fun_mk (st := s__law_pool) l14 cc14 kk14
  have b14 := F14.binds (ps := ["_law_script"]) fun _ _ _ _ _ _ us hl => match us, hl with | [_], _ => rfl
  have F15 := fun_mk (st := s__law_draw) l15 cc15 kk15
  have b15 := F15.binds (ps := ["_law_pool_here", "_law_limit"]) fun _ _ _ _ _ _ us hl => match us, hl with | [_, _], _ => rfl
  have F16 := fun_mk (st := s__law_number) l16 cc16 kk16
  have b16 := F16.binds (ps := ["_law_pool_here"]) fun _ _ _ _ _ _ us hl => match us, hl with | [_], _ => rfl
  have F17 := fun_mk (st := s__law_value) l17 cc17 kk17
  have b17 := F17.binds (ps := ["_law_pool_here"]) fun _ _ _ _ _ _ us hl => match us, hl with | [_], _ => rfl
  have F18 := fun_mk (st := s__law_is_integer) l18 cc18 kk18
  have b18 := F18.binds (ps := ["_law_cell"]) fun _ _ _ _ _ _ us hl => match us, hl with | [_], _ => rfl
  have F19 := fun_mk (st := s__law_is_flag) l19 cc19 kk19
  have b19 := F19.binds (ps := ["_law_actual", "_law_due"]) fun _ _ _ _ _ _ us hl => match us, hl with | [_, _], _ => rfl
  have F20 := fun_mk (st := s__law_fault) l20 cc20 kk20
  have b20 := F20.binds (ps := ["_law_value_here", "_law_bits"]) fun _ _ _ _ _ _ us hl => match us, hl with | [_, _], _ => rfl
  have F21 := fun_mk (st := s__law_told_level) l21 cc21 kk21
  have b21 := F21.binds (ps := ["_law_value_here", "_law_number_here"]) fun _ _ _ _ _ _ us hl => match us, hl with | [_, _], _ => rfl
  have F22 := fun_mk (st := s__law_told_levels) l22 cc22 kk22
  have b22 := F22.binds (ps := ["_law_value_here"]) fun _ _ _ _ _ _ us hl => match us, hl with | [_], _ => rfl
  have F23 := fun_mk (st := s__law_level_right) l23 cc23 kk23
  have b23 := F23.binds (ps := ["_law_value_here", "_law_fault_here", "_law_number_here", "_law_told"]) fun _ _ _ _ _ _ us hl => match us, hl with | [_, _, _, _], _ => rfl
  have F24 := fun_mk (st := s__law_levels_right) l24 cc24 kk24
  have b24 := F24.binds (ps := ["_law_value_here", "_law_fault_here", "_law_told"]) fun _ _ _ _ _ _ us hl => match us, hl with | [_, _, _], _ => rfl
  have F25 := fun_mk (st := s_law) l25 cc25 kk25
  have b25 := F25.binds (ps := ["_law_script"]) fun _ _ _ _ _ _ us hl => match us, hl with | [_], _ => rfl
  have T : Txt K mg ⟨c_SweepError, c_NoRow, a_NoRow__init__, (PySem.W.fnOf "__init__" "NoRow.__init__" (defArgs s_NoRow__init__) (defBody s_NoRow__init__) (defScope s_NoRow__init__) .none kV0 dc0 pm0 an0 cd0 ct0), c_NoNumber, a_NoNumber__init__, (PySem.W.fnOf "__init__" "NoNumber.__init__" (defArgs s_NoNumber__init__) (defBody s_NoNumber__init__) (defScope s_NoNumber__init__) .none kV1 dc1 pm1 an1 cd1 ct1), a_is_number, (PySem.W.fnOf "is_number" "is_number" (defArgs s_is_number) (defBody s_is_number) (defScope s_is_number) .none kV2 dc2 pm2 an2 cd2 ct2), a_is_within, (PySem.W.fnOf "is_within" "is_within" (defArgs s_is_within) (defBody s_is_within) (defScope s_is_within) .none kV3 dc3 pm3 an3 cd3 ct3), a_is_row, (PySem.W.fnOf "is_row" "is_row" (defArgs s_is_row) (defBody s_is_row) (defScope s_is_row) .none kV4 dc4 pm4 an4 cd4 ct4), a_is_bits, (PySem.W.fnOf "is_bits" "is_bits" (defArgs s_is_bits) (defBody s_is_bits) (defScope s_is_bits) .none kV5 dc5 pm5 an5 cd5 ct5), a_row_fault, (PySem.W.fnOf "row_fault" "row_fault" (defArgs s_row_fault) (defBody s_row_fault) (defScope s_row_fault) .none kV6 dc6 pm6 an6 cd6 ct6), a_bits_fault, (PySem.W.fnOf "bits_fault" "bits_fault" (defArgs s_bits_fault) (defBody s_bits_fault) (defScope s_bits_fault) .none kV7 dc7 pm7 an7 cd7 ct7), a_has_cells, (PySem.W.fnOf "has_cells" "has_cells" (defArgs s_has_cells) (defBody s_has_cells) (defScope s_has_cells) .none kV8 dc8 pm8 an8 cd8 ct8), a_first_false, (PySem.W.fnOf "first_false" "first_false" (defArgs s_first_false) (defBody s_first_false) (defScope s_first_false) .none kV9 dc9 pm9 an9 cd9 ct9), a_row_of, (PySem.W.fnOf "row_of" "row_of" (defArgs s_row_of) (defBody s_row_of) (defScope s_row_of) .none kV10 dc10 pm10 an10 cd10 ct10), a_level, (PySem.W.fnOf "level" "level" (defArgs s_level) (defBody s_level) (defScope s_level) .none kV11 dc11 pm11 an11 cd11 ct11), a_levels, (PySem.W.fnOf "levels" "levels" (defArgs s_levels) (defBody s_levels) (defScope s_levels) .none kV12 dc12 pm12 an12 cd12 ct12), a__law_mix, (PySem.W.fnOf "_law_mix" "_law_mix" (defArgs s__law_mix) (defBody s__law_mix) (defScope s__law_mix) .none kV13 dc13 pm13 an13 cd13 ct13), a__law_pool, (PySem.W.fnOf "_law_pool" "_law_pool" (defArgs s__law_pool) (defBody s__law_pool) (defScope s__law_pool) .none kV14 dc14 pm14 an14 cd14 ct14), a__law_draw, (PySem.W.fnOf "_law_draw" "_law_draw" (defArgs s__law_draw) (defBody s__law_draw) (defScope s__law_draw) .none kV15 dc15 pm15 an15 cd15 ct15), a__law_number, (PySem.W.fnOf "_law_number" "_law_number" (defArgs s__law_number) (defBody s__law_number) (defScope s__law_number) .none kV16 dc16 pm16 an16 cd16 ct16), a__law_value, (PySem.W.fnOf "_law_value" "_law_value" (defArgs s__law_value) (defBody s__law_value) (defScope s__law_value) .none kV17 dc17 pm17 an17 cd17 ct17), a__law_is_integer, (PySem.W.fnOf "_law_is_integer" "_law_is_integer" (defArgs s__law_is_integer) (defBody s__law_is_integer) (defScope s__law_is_integer) .none kV18 dc18 pm18 an18 cd18 ct18), a__law_is_flag, (PySem.W.fnOf "_law_is_flag" "_law_is_flag" (defArgs s__law_is_flag) (defBody s__law_is_flag) (defScope s__law_is_flag) .none kV19 dc19 pm19 an19 cd19 ct19), a__law_fault, (PySem.W.fnOf "_law_fault" "_law_fault" (defArgs s__law_fault) (defBody s__law_fault) (defScope s__law_fault) .none kV20 dc20 pm20 an20 cd20 ct20), a__law_told_level, (PySem.W.fnOf "_law_told_level" "_law_told_level" (defArgs s__law_told_level) (defBody s__law_told_level) (defScope s__law_told_level) .none kV21 dc21 pm21 an21 cd21 ct21), a__law_told_levels, (PySem.W.fnOf "_law_told_levels" "_law_told_levels" (defArgs s__law_told_levels) (defBody s__law_told_levels) (defScope s__law_told_levels) .none kV22 dc22 pm22 an22 cd22 ct22), a__law_level_right, (PySem.W.fnOf "_law_level_right" "_law_level_right" (defArgs s__law_level_right) (defBody s__law_level_right) (defScope s__law_level_right) .none kV23 dc23 pm23 an23 cd23 ct23), a__law_levels_right, (PySem.W.fnOf "_law_levels_right" "_law_levels_right" (defArgs s__law_levels_right) (defBody s__law_levels_right) (defScope s__law_levels_right) .none kV24 dc24 pm24 an24 cd24 ct24), fa, (PySem.W.fnOf "law" "law" (defArgs s_law) (defBody s_law) (defScope s_law) .none kV25 dc25 pm25 an25 cd25 ct25)⟩ :=
    { g_SweepError := PySem.W.mg_of X G g_SweepError
      x_SweepError := ⟨⟨_, _, _, _, _, _, _, _, _, _, _, _, _, _, _, x_SweepError, rfl⟩, sa_SweepError, ec_SweepError, tc_SweepError, kc_SweepError⟩
      e_SweepError := ⟨ga_SweepError, gg_SweepError, ec_SweepError, hc_SweepError, ha_SweepError, hn, ht, hm_SweepError⟩
      f_SweepError := ⟨ga_SweepError, gg_SweepError, ec_SweepError, hc_SweepError⟩
      kv_SweepError := kit_ve sv_SweepError
      k_SweepError_SweepError := kit_any ic_SweepError tc_SweepError s_SweepError_SweepError s_SweepError_SweepError
      m_SweepError_SweepError := exm_any ec_SweepError ic_SweepError tc_SweepError s_SweepError_SweepError
      k_SweepError_NoRow := kit_any ic_NoRow tc_NoRow s_SweepError_NoRow s_SweepError_SweepError
      m_SweepError_NoRow := exm_any ec_NoRow ic_NoRow tc_NoRow s_SweepError_NoRow
      k_SweepError_NoNumber := kit_any ic_NoNumber tc_NoNumber s_SweepError_NoNumber s_SweepError_SweepError
      m_SweepError_NoNumber := exm_any ec_NoNumber ic_NoNumber tc_NoNumber s_SweepError_NoNumber
      g_NoRow := PySem.W.mg_of X G g_NoRow
      x_NoRow := ⟨⟨_, _, _, _, _, _, _, _, _, _, _, _, _, _, _, x_NoRow, rfl⟩, sa_NoRow, ec_NoRow, tc_NoRow, kc_NoRow⟩
      e_NoRow := ⟨ga_NoRow, gg_NoRow, ec_NoRow, hc_NoRow, ha_NoRow, hn, ht, hm_NoRow⟩
      f_NoRow := ⟨ga_NoRow, gg_NoRow, ec_NoRow, hc_NoRow⟩
      kv_NoRow := kit_ve sv_NoRow
      k_NoRow_SweepError := kit_any ic_SweepError tc_SweepError s_NoRow_SweepError s_NoRow_NoRow
      m_NoRow_SweepError := exm_any ec_SweepError ic_SweepError tc_SweepError s_NoRow_SweepError
      k_NoRow_NoRow := kit_any ic_NoRow tc_NoRow s_NoRow_NoRow s_NoRow_NoRow
      m_NoRow_NoRow := exm_any ec_NoRow ic_NoRow tc_NoRow s_NoRow_NoRow
      k_NoRow_NoNumber := kit_any ic_NoNumber tc_NoNumber s_NoRow_NoNumber s_NoRow_NoRow
      m_NoRow_NoNumber := exm_any ec_NoNumber ic_NoNumber tc_NoNumber s_NoRow_NoNumber
      F_NoRow__init__ := F0
      b_NoRow__init__ := b0
      i_NoRow__init__ := q0
      t_NoRow__init__ := t_NoRow__init__
      no_NoRow_index := no_NoRow_index
      g_NoNumber := PySem.W.mg_of X G g_NoNumber
      x_NoNumber := ⟨⟨_, _, _, _, _, _, _, _, _, _, _, _, _, _, _, x_NoNumber, rfl⟩, sa_NoNumber, ec_NoNumber, tc_NoNumber, kc_NoNumber⟩
      e_NoNumber := ⟨ga_NoNumber, gg_NoNumber, ec_NoNumber, hc_NoNumber, ha_NoNumber, hn, ht, hm_NoNumber⟩
      f_NoNumber := ⟨ga_NoNumber, gg_NoNumber, ec_NoNumber, hc_NoNumber⟩
      kv_NoNumber := kit_ve sv_NoNumber
      k_NoNumber_SweepError := kit_any ic_SweepError tc_SweepError s_NoNumber_SweepError s_NoNumber_NoNumber
      m_NoNumber_SweepError := exm_any ec_SweepError ic_SweepError tc_SweepError s_NoNumber_SweepError
      k_NoNumber_NoRow := kit_any ic_NoRow tc_NoRow s_NoNumber_NoRow s_NoNumber_NoNumber
      m_NoNumber_NoRow := exm_any ec_NoRow ic_NoRow tc_NoRow s_NoNumber_NoRow
      k_NoNumber_NoNumber := kit_any ic_NoNumber tc_NoNumber s_NoNumber_NoNumber s_NoNumber_NoNumber
      m_NoNumber_NoNumber := exm_any ec_NoNumber ic_NoNumber tc_NoNumber s_NoNumber_NoNumber
      F_NoNumber__init__ := F1
      b_NoNumber__init__ := b1
      i_NoNumber__init__ := q1
      t_NoNumber__init__ := t_NoNumber__init__
      no_NoNumber_name := no_NoNumber_name
      F_is_number := F2
      g_is_number := PySem.W.mg_of X G q2
      b_is_number := b2
      F_is_within := F3
      g_is_within := PySem.W.mg_of X G q3
      b_is_within := b3
      F_is_row := F4
      g_is_row := PySem.W.mg_of X G q4
      b_is_row := b4
      F_is_bits := F5
      g_is_bits := PySem.W.mg_of X G q5
      b_is_bits := b5
      F_row_fault := F6
      g_row_fault := PySem.W.mg_of X G q6
      b_row_fault := b6
      F_bits_fault := F7
      g_bits_fault := PySem.W.mg_of X G q7
      b_bits_fault := b7
      F_has_cells := F8
      g_has_cells := PySem.W.mg_of X G q8
      b_has_cells := b8
      F_first_false := F9
      g_first_false := PySem.W.mg_of X G q9
      b_first_false := b9
      F_row_of := F10
      g_row_of := PySem.W.mg_of X G q10
      b_row_of := b10
      F_level := F11
      g_level := PySem.W.mg_of X G q11
      b_level := b11
      F_levels := F12
      g_levels := PySem.W.mg_of X G q12
      b_levels := b12
      F__law_mix := F13
      g__law_mix := PySem.W.mg_of X G q13
      b__law_mix := b13
      F__law_pool := F14
      g__law_pool := PySem.W.mg_of X G q14
      b__law_pool := b14
      F__law_draw := F15
      g__law_draw := PySem.W.mg_of X G q15
      b__law_draw := b15
      F__law_number := F16
      g__law_number := PySem.W.mg_of X G q16
      b__law_number := b16
      F__law_value := F17
      g__law_value := PySem.W.mg_of X G q17
      b__law_value := b17
      F__law_is_integer := F18
      g__law_is_integer := PySem.W.mg_of X G q18
      b__law_is_integer := b18
      F__law_is_flag := F19
      g__law_is_flag := PySem.W.mg_of X G q19
      b__law_is_flag := b19
      F__law_fault := F20
      g__law_fault := PySem.W.mg_of X G q20
      b__law_fault := b20
      F__law_told_level := F21
      g__law_told_level := PySem.W.mg_of X G q21
      b__law_told_level := b21
      F__law_told_levels := F22
      g__law_told_levels := PySem.W.mg_of X G q22
      b__law_told_levels := b22
      F__law_level_right := F23
      g__law_level_right := PySem.W.mg_of X G q23
      b__law_level_right := b23
      F__law_levels_right := F24
      g__law_levels_right := PySem.W.mg_of X G q24
      b__law_levels_right := b24
      F_law := F25
      g_law := PySem.W.mg_of X G q25
      b_law := b25
      c_MOST_CELLS := ⟨_, PySem.W.mg_of X G cst_MOST_CELLS⟩
      n_ValueError := PySem.W.mg_none_of X G z_ValueError
      n_abs := PySem.W.mg_none_of X G z_abs
      n_all := PySem.W.mg_none_of X G z_all
      n_bool := PySem.W.mg_none_of X G z_bool
      n_enumerate := PySem.W.mg_none_of X G z_enumerate
      n_int := PySem.W.mg_none_of X G z_int
      n_isinstance := PySem.W.mg_none_of X G z_isinstance
      n_len := PySem.W.mg_none_of X G z_len
      n_list := PySem.W.mg_none_of X G z_list
      n_max := PySem.W.mg_none_of X G z_max
      n_range := PySem.W.mg_none_of X G z_range
      n_set := PySem.W.mg_none_of X G z_set
      n_sorted := PySem.W.mg_none_of X G z_sorted
      n_tuple := PySem.W.mg_none_of X G z_tuple }
  exact ⟨_, fun s v => .of_eq rfl, fun base _ _ => ok_law T⟩
theorem walk {l : PySem.W.OpenLaw} {q : Program} {loose : List Str} {XP : (Str → Option Value) → Heap → Prop} {YP : World → Heap → Prop} {d : DefRec} {K : Params → PySem.W.Frag} (hn : l.most = some 63) (hdf : d.params.defaults = [])
    (hY : ∀ (w : World) (h : Heap), YP w h → (K w.params).In h)
    (F : ∀ (w : World) (mg : Str → Option Value) (fa : Addr) (h : Heap), (K w.params).In h → h.Ns mainGlobals mg → mg d.name = some (.ref fa) →
      ∃ fd : FuncData, (∀ (s : Shared) (u : Value), BindsTo s fd ⟨[u], []⟩ [("_law_script", u)]) ∧ ∀ base : Heap, (K w.params).In base → base.Ns mainGlobals mg → FnOk l.prog w (K w.params) mg base CX0 8 fa fd ["_law_script"] (spLaw (K w.params))) :
    PySem.W.WalkO q loose XP YP l.row.toRowW d [] (fun f vs => PySem.call f vs) :=
  L2.walk_of (n := 63) (k := 8) (x := "_law_script") (CX := fun _ => CX0) (sp := fun w => spLaw (K w.params)) hn (by decide) hdf ⟨rfl, by decide, by decide⟩ hY F (fun _ _ a ns hl _ hS => ⟨a, ns, rfl, hS, hl, fun _ => rfl⟩) fun _ _ _ _ _ z => z
end Rk
open PySem PySem.W PyProof.Rows in
set_option maxRecDepth 100000 in
set_option maxHeartbeats 0 in
theorem PySem.Challenge.cw_ranksweeps_k01_rows_holds : PySem.Challenge.rw_ranksweeps_k01_rows.Holds := by
  w_on; o_law; k_head; (case hw => w_witness2)
  k_fill
  refine Rk.walk (l := PySem.Challenge.rw_ranksweeps_k01_rows) rfl rfl (fun w h Y => PySem.W.kIn_of Y) ?F
  case F =>
    intro w mg fa h KX G hmg
    refine' Rk.all_mk KX G hmg ?g_SweepError ?g_NoRow ?g_NoNumber ?x_SweepError ?sa_SweepError ?ga_SweepError ?gg_SweepError ?ec_SweepError ?tc_SweepError ?kc_SweepError ?hc_SweepError ?ic_SweepError ?ha_SweepError ?hm_SweepError ?sv_SweepError ?s_SweepError_SweepError ?s_SweepError_NoRow ?s_SweepError_NoNumber ?x_NoRow ?sa_NoRow ?ga_NoRow ?gg_NoRow ?ec_NoRow ?tc_NoRow ?kc_NoRow ?hc_NoRow ?ic_NoRow ?ha_NoRow ?hm_NoRow ?sv_NoRow ?s_NoRow_SweepError ?s_NoRow_NoRow ?s_NoRow_NoNumber ?q0 ?l0 ?cc0 ?kk0 ?t_NoRow__init__ ?no_NoRow_index ?x_NoNumber ?sa_NoNumber ?ga_NoNumber ?gg_NoNumber ?ec_NoNumber ?tc_NoNumber ?kc_NoNumber ?hc_NoNumber ?ic_NoNumber ?ha_NoNumber ?hm_NoNumber ?sv_NoNumber ?s_NoNumber_SweepError ?s_NoNumber_NoRow ?s_NoNumber_NoNumber ?q1 ?l1 ?cc1 ?kk1 ?t_NoNumber__init__ ?no_NoNumber_name ?hn ?ht ?q2 ?l2 ?cc2 ?kk2 ?q3 ?l3 ?cc3 ?kk3 ?q4 ?l4 ?cc4 ?kk4 ?q5 ?l5 ?cc5 ?kk5 ?q6 ?l6 ?cc6 ?kk6 ?q7 ?l7 ?cc7 ?kk7 ?q8 ?l8 ?cc8 ?kk8 ?q9 ?l9 ?cc9 ?kk9 ?q10 ?l10 ?cc10 ?kk10 ?q11 ?l11 ?cc11 ?kk11 ?q12 ?l12 ?cc12 ?kk12 ?q13 ?l13 ?cc13 ?kk13 ?q14 ?l14 ?cc14 ?kk14 ?q15 ?l15 ?cc15 ?kk15 ?q16 ?l16 ?cc16 ?kk16 ?q17 ?l17 ?cc17 ?kk17 ?q18 ?l18 ?cc18 ?kk18 ?q19 ?l19 ?cc19 ?kk19 ?q20 ?l20 ?cc20 ?kk20 ?q21 ?l21 ?cc21 ?kk21 ?q22 ?l22 ?cc22 ?kk22 ?q23 ?l23 ?cc23 ?kk23 ?q24 ?l24 ?cc24 ?kk24 ?q25 ?l25 ?cc25 ?kk25 ?cst_MOST_CELLS ?z_ValueError ?z_abs ?z_all ?z_bool ?z_enumerate ?z_int ?z_isinstance ?z_len ?z_list ?z_max ?z_range ?z_set ?z_sorted ?z_tuple
    (case g_SweepError => k_is)
    (case g_NoRow => k_is)
    (case g_NoNumber => k_is)
    (case x_SweepError => k_is)
    (case sa_SweepError => k_is)
    (case ga_SweepError => k_is)
    (case gg_SweepError => k_is)
    (case ec_SweepError => k_is)
    (case tc_SweepError => k_is)
    (case kc_SweepError => k_is)
    (case hc_SweepError => k_is)
    (case ic_SweepError => k_is)
    (case ha_SweepError => k_is)
    (case hm_SweepError => k_is)
    (case sv_SweepError => k_is)
    (case s_SweepError_SweepError => k_is)
    (case s_SweepError_NoRow => k_is)
    (case s_SweepError_NoNumber => k_is)
    (case x_NoRow => k_is)
    (case sa_NoRow => k_is)
    (case ga_NoRow => k_is)
    (case gg_NoRow => k_is)
    (case ec_NoRow => k_is)
    (case tc_NoRow => k_is)
    (case kc_NoRow => k_is)
    (case hc_NoRow => k_is)
    (case ic_NoRow => k_is)
    (case ha_NoRow => k_is)
    (case hm_NoRow => k_is)
    (case sv_NoRow => k_is)
    (case s_NoRow_SweepError => k_is)
    (case s_NoRow_NoRow => k_is)
    (case s_NoRow_NoNumber => k_is)
    (case q0 => k_is)
    (case l0 => k_is)
    (case cc0 => k_is)
    (case kk0 => k_is)
    (case t_NoRow__init__ => k_is)
    (case no_NoRow_index => k_is)
    (case x_NoNumber => k_is)
    (case sa_NoNumber => k_is)
    (case ga_NoNumber => k_is)
    (case gg_NoNumber => k_is)
    (case ec_NoNumber => k_is)
    (case tc_NoNumber => k_is)
    (case kc_NoNumber => k_is)
    (case hc_NoNumber => k_is)
    (case ic_NoNumber => k_is)
    (case ha_NoNumber => k_is)
    (case hm_NoNumber => k_is)
    (case sv_NoNumber => k_is)
    (case s_NoNumber_SweepError => k_is)
    (case s_NoNumber_NoRow => k_is)
    (case s_NoNumber_NoNumber => k_is)
    (case q1 => k_is)
    (case l1 => k_is)
    (case cc1 => k_is)
    (case kk1 => k_is)
    (case t_NoNumber__init__ => k_is)
    (case no_NoNumber_name => k_is)
    (case hn => k_is)
    (case ht => k_is)
    (case q2 => k_is)
    (case l2 => k_is)
    (case cc2 => k_is)
    (case kk2 => k_is)
    (case q3 => k_is)
    (case l3 => k_is)
    (case cc3 => k_is)
    (case kk3 => k_is)
    (case q4 => k_is)
    (case l4 => k_is)
    (case cc4 => k_is)
    (case kk4 => k_is)
    (case q5 => k_is)
    (case l5 => k_is)
    (case cc5 => k_is)
    (case kk5 => k_is)
    (case q6 => k_is)
    (case l6 => k_is)
    (case cc6 => k_is)
    (case kk6 => k_is)
    (case q7 => k_is)
    (case l7 => k_is)
    (case cc7 => k_is)
    (case kk7 => k_is)
    (case q8 => k_is)
    (case l8 => k_is)
    (case cc8 => k_is)
    (case kk8 => k_is)
    (case q9 => k_is)
    (case l9 => k_is)
    (case cc9 => k_is)
    (case kk9 => k_is)
    (case q10 => k_is)
    (case l10 => k_is)
    (case cc10 => k_is)
    (case kk10 => k_is)
    (case q11 => k_is)
    (case l11 => k_is)
    (case cc11 => k_is)
    (case kk11 => k_is)
    (case q12 => k_is)
    (case l12 => k_is)
    (case cc12 => k_is)
    (case kk12 => k_is)
    (case q13 => k_is)
    (case l13 => k_is)
    (case cc13 => k_is)
    (case kk13 => k_is)
    (case q14 => k_is)
    (case l14 => k_is)
    (case cc14 => k_is)
    (case kk14 => k_is)
    (case q15 => k_is)
    (case l15 => k_is)
    (case cc15 => k_is)
    (case kk15 => k_is)
    (case q16 => k_is)
    (case l16 => k_is)
    (case cc16 => k_is)
    (case kk16 => k_is)
    (case q17 => k_is)
    (case l17 => k_is)
    (case cc17 => k_is)
    (case kk17 => k_is)
    (case q18 => k_is)
    (case l18 => k_is)
    (case cc18 => k_is)
    (case kk18 => k_is)
    (case q19 => k_is)
    (case l19 => k_is)
    (case cc19 => k_is)
    (case kk19 => k_is)
    (case q20 => k_is)
    (case l20 => k_is)
    (case cc20 => k_is)
    (case kk20 => k_is)
    (case q21 => k_is)
    (case l21 => k_is)
    (case cc21 => k_is)
    (case kk21 => k_is)
    (case q22 => k_is)
    (case l22 => k_is)
    (case cc22 => k_is)
    (case kk22 => k_is)
    (case q23 => k_is)
    (case l23 => k_is)
    (case cc23 => k_is)
    (case kk23 => k_is)
    (case q24 => k_is)
    (case l24 => k_is)
    (case cc24 => k_is)
    (case kk24 => k_is)
    (case q25 => k_is)
    (case l25 => k_is)
    (case cc25 => k_is)
    (case kk25 => k_is)
    (case cst_MOST_CELLS => k_is)
    (case z_ValueError => k_is)
    (case z_abs => k_is)
    (case z_all => k_is)
    (case z_bool => k_is)
    (case z_enumerate => k_is)
    (case z_int => k_is)
    (case z_isinstance => k_is)
    (case z_len => k_is)
    (case z_list => k_is)
    (case z_max => k_is)
    (case z_range => k_is)
    (case z_set => k_is)
    (case z_sorted => k_is)
    (case z_tuple => k_is)
