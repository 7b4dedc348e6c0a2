import PyProof.Rows.All
import Wide.All
import OpenK.AllK
import Wide.FinOn
import HandS.ForExc
import HandS.ExcInit
import HandS.ExcField
import HandS.ExcIs
import HandS.IsInst
import HandS.SetFor
import HandS.SortInts
import HandS.Strs
import HandS.Zip
import HandS.ForMost
import HandS.Flow
import HandS.Wide
import HandS.Walk
import HandS.Evl
import HandS.ExcValue
import HandS.Small
import PyProof.NeKinds
import PySem.Challenge.RW_ranksweeps_k99_errors
set_option Elab.async false
set_option linter.all false
set_option maxRecDepth 100000
set_option maxHeartbeats 8000000
namespace Own
open PySem L2 PySem.Spec PyProof.Rows

/-- behind the suite of a clause with a name the name's slot is empty -/
def cut (D : Ends) (i : Nat) : Ends where
  nx := fun τ G => D.nx (τ.set i none) G
  rt := D.rt
  bk := fun τ G => D.bk (τ.set i none) G
  ct := fun τ G => D.ct (τ.set i none) G
abbrev Suite := Addr → Value → Option Addr → TS
/-- clauses, each with its class, its name's slot, its suite: the first one that names the class takes the exception -/
def wClauses (K : PySem.W.Frag) (W₀ : WX) (D : Ends) : List (Value × Nat × Suite) → WX
  | [] => W₀
  | (c, i, ts) :: more => fun cls d τ G => ∃ yes : Bool, PySem.W.exmOne K cls c = some yes ∧
      (yes = true → ∀ a, G a = none → ts a cls d (cut D i) (τ.set i (some (.ref a))) G) ∧ (yes = false → wClauses K W₀ D more cls d τ G)
inductive Clauses (X : Cx) : List ExceptHandler → List (Value × Nat × Suite) → Prop
  | none : Clauses X [] []
  | more {x n : Str} {c : Value} {i : Nat} {ts : Suite} {st : Stmt} {sts : List Stmt} {p q : Pos} {hds : List ExceptHandler} {l : List (Value × Nat × Suite)}
      (named : Names X x c) (slot : X.N[i]? = some n) (loc : X.env.kindOf n = some .local)
      (suite : ∀ (a : Addr) (oe : Obj) (cls : Value) (d : Option Addr) (pn : List (Addr × Obj)), Zc cls d oe → (∃ vs, oe.data = .fields vs) → PSs (X.suite a ((a, oe) :: pn)) (st :: sts) (ts a cls d))
      (rest : Clauses X hds l) : Clauses X (.ExceptHandler (some (.Name x p)) (some n) (st :: sts) q :: hds) ((c, i, ts) :: l)

/-- what stands when an exception of the body has landed in front of the clauses -/
structure Landed (X : Cx) (pins : List (Addr × Obj)) (σ : L2.St) (H : Hp) (cls : Value) (d : Option Addr) (a : Addr) (B : Heap) (sI s' : Shared) (h : Heap) : Prop where
  fly : HandSPX.FlyingZ B (X.env :: X.outer) a (Zc cls d) h
  inv : Inv X pins σ H { s' with heap := h }
  before : Inv X pins σ H sI
  nb : ∀ b o, sI.heap.get? b = some o → b ∉ frs X.stack → B.get? b = some o
  up : sI.heap.UpToSlots h
  free : H a = none
  os : s'.os = sI.os
  ag : AllBare s'.gens
  notL : a ≠ X.env.locals
  notF : a ∉ X.fs

section
variable {X : Cx} {pins : List (Addr × Obj)} {σ : L2.St} {H : Hp} {cls : Value} {d : Option Addr} {a : Addr} {B : Heap} {sI s' : Shared} {h : Heap} {W₀ : WX} {D : Ends}

theorem Landed.off (T : Landed X pins σ H cls d a B sI s' h) (hstk : X.stack = X.env :: X.outer) (hfrm : X.env.frame = some X.env.locals) (tk : Takes X W₀) (w : W₀ cls d σ H) :
    wpAny (model X.prog X.w) X.A (handleBy (.ref a) X.env []) (SP X pins D) X.xe { s' with heap := h } := by
  refine wpAny_handleBy_nil ?_
  obtain ⟨-, -, -, oe, vs, tb, -, -, hoe, -, hda, hv1, -⟩ := id T.fly
  have isNone : ¬ ((Value.ref tb == Value.none) = true) := by simp
  have away : wpAny (model X.prog X.w) X.A (setFlight (.ref a) X.env.frame) (fun _ s4 => wpAny (model X.prog X.w) X.A (throw (.ref a) : Sem Flow) (SP X pins D) X.xe s4) X.xe { s' with heap := h } := by
    rw [hfrm]
    refine HandSPX.setFlight_upZ T.fly fun h4 held up4 => wpAny_throw (tk _ _ ?_)
    exact ⟨a, B, sI, pins, σ, H, cls, d, rfl, T.before, T.nb, T.up.trans up4, Or.inr (Or.inr (by rw [hstk]; exact held)), T.free, T.os, T.ag, w⟩
  unfold PySem.passOn
  refine wpAny_bind (wpAny_field hoe hda hv1 ?_)
  rw [if_neg isNone]
  first | exact wpAny_bind (wpAny_pure (wpAny_bind away)) | exact wpAny_bind away

theorem Landed.clauses (T : Landed X pins σ H cls d a B sI s' h) (hstk : X.stack = X.env :: X.outer) (hfrm : X.env.frame = some X.env.locals) (nd : X.N.Nodup) (tk : Takes X W₀)
    {hds : List ExceptHandler} {l : List (Value × Nat × Suite)} (C : Clauses X hds l) (w : wClauses X.K W₀ D l cls d σ H) :
    wpAny (model X.prog X.w) X.A (handleBy (.ref a) X.env hds) (SP X pins D) X.xe { s' with heap := h } := by
  have ok := T.inv.ok
  induction C with
  | none => exact T.off hstk hfrm tk w
  | @more x n c i ts st sts p q hds l named slot loc suite rest ih =>
    obtain ⟨yes, e, w1, w2⟩ := w
    obtain ⟨oe, vs, hoe, hz, hda⟩ := T.fly.there
    have S := T.inv.suite hoe hda T.free T.notL T.notF
    have tyA : PySem.W.Looks (model X.prog X.w) h (typeOf (.ref a)) cls := fun _ _ _ _ keep q => wpAny_typeOf_ref (keep _ _ hoe) (by rw [hz.1]; exact q)
    refine wpAny_handleBy_cons (codeAny_handlers_test ?_) (fun z => by cases z)
    have name : ∀ {Q : Value → Shared → Prop} {E : Value → Shared → Prop}, Q c { s' with heap := h } → wpAny (model X.prog X.w) (X.A.mark (some (.ref a))) (eval (.Name x p) X.env) Q E { s' with heap := h } := by
      intro Q E k
      rcases named with ⟨gl, dbg, own | ⟨noOwn, blt, nn⟩⟩
      · exact ld_glob (X := X.suite a ((a, oe) :: (X.pn ++ pins))) S gl own k dbg
      · exact ld_blt (X := X.suite a ((a, oe) :: (X.pn ++ pins))) S gl noOwn blt k nn dbg
    refine name ((PySem.W.exm_one (M := model X.prog X.w) T.inv.kIn tyA e).here ?_)
    match yes, w1, w2 with
    | false, _, w2 => exact ih (w2 rfl)
    | true, w1, _ =>
      refine codeAny_handlers_suite_as (HandSPX.lands_againZ T.fly fun h4 fly4 up4 => ?_)
      have J4 : Inv X pins σ H { s' with heap := h4 } := T.before.landed T.nb fly4.1 (T.up.trans up4) T.os T.ag
      obtain ⟨oe4, vs4, hoe4, hz4, hda4⟩ := fly4.there
      refine store_ok (X := X.suite a ((a, oe4) :: (X.pn ++ pins))) (v := .ref a) (J4.suite hoe4 hda4 T.free T.notL T.notF) nd slot (Or.inl loc) rfl (fun s5 S5 => ?_) (Or.inr loc)
      have gone : ∀ {τ : L2.St} {G : Hp} {s6 : Shared} {R : Shared → Prop}, Inv (X.suite a ((a, oe4) :: (X.pn ++ pins))) [] τ G s6 → (∀ s7, Inv X pins (τ.set i none) G s7 → R s7) →
          wpAny (model X.prog X.w) X.A (do bindName X.env n .none; unbindBehindTheSuite X.env n q) (fun _ s7 => R s7) X.xe s6 := fun S6 k => gone_ok (S6.unsuite ok) nd slot loc k
      refine wpAny_mono ((suite a oe4 cls d (X.pn ++ pins) hz4 ⟨_, hda4⟩).run [] s5 _ H _ S5 (w1 rfl a T.free)) (fun f s6 r => ?_) (fun _ _ z => False.elim z)
      match f, r with
      | .next, ⟨_, _, S6, k⟩ => exact gone S6 fun _ J => ⟨_, _, J, k⟩
      | .brk, ⟨_, _, S6, k⟩ => exact gone S6 fun _ J => ⟨_, _, J, k⟩
      | .cont, ⟨_, _, S6, k⟩ => exact gone S6 fun _ J => ⟨_, _, J, k⟩
      | .ret u, ⟨_, _, _, S6, rel, k⟩ => exact gone S6 fun _ J => ⟨_, _, _, J, rel, k⟩
end

/-- try: body / except X as n: .. / except Y as m: .. -/
theorem ps_try_names {X : Cx} {body : List Stmt} {hd : ExceptHandler} {hds : List ExceptHandler} {l : List (Value × Nat × Suite)} {pos : Pos} {tb : WX → TS} {W₀ : WX}
    (hstk : X.stack = X.env :: X.outer) (hfrm : X.env.frame = some X.env.locals) (nd : X.N.Nodup) (tk : Takes X W₀)
    (hb : ∀ (W : WX) (pn : List (Addr × Obj)) (xe : Value → Shared → Prop), Takes (X.tr pn xe) W → PassesOwn (model X.prog X.w) X.A X.env xe → PSs (X.tr pn xe) body (tb W))
    (C : Clauses X (hd :: hds) l) : PS X (.Try body (hd :: hds) [] [] pos) (fun D σ H => tb (wClauses X.K W₀ D l) D σ H) := by
  constructor
  intro pins s σ H D I t
  have ok := I.ok
  have frames : X.A.frames = some (X.env :: X.outer) := by rw [ok.frames, hstk]
  refine wpAny_Try_except (wpAny_mono ((hb (wClauses X.K W₀ D l) (X.pn ++ pins) _ (fun u s' xx => ?_) PassesOwn.looking).run [] s σ H D (I.toTry _) t) (fun f s1 r => ?_) (fun _ _ z => z))
  · obtain ⟨a, B, sI, pins', τ, G, cls, d, rfl, I', nb, up, sky, na, os, ag, w⟩ := xx
    have J : Inv X pins τ G sI := I'.ofTry ok
    rw [show (X.tr (X.pn ++ pins) _).stack = X.env :: X.outer from hstk] at sky
    refine Sky.land Zc.steady frames hfrm sky fun h3 fly3 up3 => ?_
    obtain ⟨oe, vs, hoe, -, hda⟩ := fly3.there
    have notFrame : a ∉ frs (X.env :: X.outer) := fun m => by
      obtain ⟨_, o', e', no⟩ := fly3.2.2.1.mem m
      rw [hoe] at e'
      cases e'
      exact no _ hda
    have T : Landed X pins τ G cls d a B sI s' h3 :=
      { fly := fly3, inv := J.landed nb fly3.1 (up.trans up3) os ag, before := J, nb := nb, up := up.trans up3, free := na, os := os, ag := ag
        notL := fun z => notFrame (List.mem_filterMap.mpr ⟨X.env, List.mem_cons_self, by rw [hfrm, z]⟩)
        notF := fun m => by
          obtain ⟨e, he, k⟩ := List.mem_filterMap.mp m
          exact notFrame (List.mem_filterMap.mpr ⟨e, List.mem_cons_of_mem _ he, k⟩) }
    exact T.clauses hstk hfrm nd tk C w
  · match f, r with
    | .next, ⟨_, _, J, k⟩ => exact wpAny_execs_nil ⟨_, _, J.ofTry ok, k⟩
    | .brk, ⟨_, _, J, k⟩ => exact ⟨_, _, J.ofTry ok, k⟩
    | .cont, ⟨_, _, J, k⟩ => exact ⟨_, _, J.ofTry ok, k⟩
    | .ret u, ⟨_, _, _, J, rel, k⟩ => exact ⟨_, _, _, J.ofTry ok, rel, k⟩
end Own

namespace Own
open PySem PySem.W PySem.Calls PyProof.Rows
section
variable {prog : Program} {w : World} {A : Around} {E : Value → Shared → Prop} {st : Shared} {K : Frag} {a C : Addr} {oa : Obj} {od : Option Obj}

/-- a data descriptor is found ahead of the object's own dict -/
theorem found_data {name : Str} {at_ g : Value} (known : (clsIn K C).isSome = true) (f : findIn K (.ref C) name = some (some at_)) (sp : specialIn K at_ "__get__" = some (some g)) (tk : takesIn K at_ = some true) :
    findObj K C od name = some (.bind g at_) := by
  cases hc : clsIn K C with
  | none => rw [hc] at known; cases known
  | some cd =>
    unfold findObj
    simp [hc, f, sp, tk]

/-- err.__class__, as isinstance asks it -/
theorem class_asked {Q : Option Value → Shared → Prop} (T : L2.ExcC K C) (kin : K.In st.heap) (I : PySem.W.InstAt st.heap a oa C od) (k : Q (some (.ref C)) { st with toks := st.toks + 1 }) :
    wpAny (model prog w) A (getAttr? (.ref a) "__class__") Q E st := by
  have fnd : findObj K C od "__class__" = some (.bind (.builtin "getset_descriptor.__get__") (.builtin "object.__class__")) := by
    refine found_data ?_ T.ha T.hn T.ht
    obtain ⟨cd, e, -⟩ := any_some T.hd
    rw [e]
    rfl
  obtain ⟨hh, gs, dr, tk, os⟩ := st
  have lTy := I.type (M := model prog w)
  have lGa := looks_findIn (M := model prog w) kin T.hg
  have lGt := looks_findIn (M := model prog w) kin T.hk
  have lFi := looks_find (M := model prog w) kin I fnd
  have isExc : Looks (model prog w) hh (isInstance (.ref a) (.type "BaseException")) true := lTy.andThen (looks_subIn kin T.hs)
  have no1 : (false && onTheHeap (Value.builtin "BaseException.__getattribute__")) = false := by decide +kernel
  have no2 : (onTheHeap (Value.ref C) && Value.builtin "BaseException.__getattribute__" == Value.builtin "object.__getattribute__") = false := by
    rw [show (Value.builtin "BaseException.__getattribute__" == Value.builtin "object.__getattribute__") = false by decide +kernel]
    cases onTheHeap (Value.ref C) <;> rfl
  unfold getAttr? getAttrBy? getAttrBy
  refine wpAny_bind (wpAny_mkText (wpAny_bind (wpAny_attempt (wpAny_holding (wpAny_bind (lTy.at (wpAny_bind (lGa.at ?_))))))))
  show wpAny _ _ (if (onTheHeap (Value.ref C) && Value.builtin "BaseException.__getattribute__" == Value.builtin "object.__getattribute__") = true then _ else _) _ _ _
  rw [no2]
  rw [if_neg Bool.false_ne_true]
  unfold getAttrByItsOwn hookBefore
  refine wpAny_bind ?_
  have onH : onTheHeap (Value.ref C) = true := rfl
  rw [if_pos onH]
  refine lGt.at (wpAny_bind (wpAny_attempt (wpAny_holding ?_)))
  unfold callGetattribute
  rw [no1]
  rw [if_neg Bool.false_ne_true]
  unfold boundAndCalled
  rw [PySem.F.excAttr_ValueError.ga.bind (.ref a)]
  refine wpAny_bind (wpAny_pure ?_)
  show wpAny _ _ (call (.builtin "BaseException.__getattribute__") [.ref a, .str "__class__" tk]) _ _ _
  have plain := PySem.F.excAttr_ValueError.ga.plain
  refine wpAny_call (codeAny_call_builtin plain PySem.F.entry_bexc_ga (@check_slot (model prog w) _ _ ⟨hh, gs, dr, tk + 1, os⟩ "BaseException.__getattribute__" "BaseException" "__getattribute__" (.ref a) [.str "__class__" tk] [] _ (by decide +kernel) (by decide +kernel) isExc (PySem.F.args_bexc_ga (.ref a) (.str "__class__" tk)) ?_))
  unfold Builtin.«object.__getattribute__»
  refine wpAny_bind (wpAny_of_eq (a := ((Value.ref a : Value), [Value.str "__class__" tk])) (by first | rfl | (simp only [slotArgs]; rfl)) ?_)
  refine wpAny_bind (wpAny_pure (wpAny_bind (lTy.at (wpAny_bind (lFi.at ?_)))))
  show wpAny _ _ (holding [Value.builtin "object.__class__"] (call (.builtin "getset_descriptor.__get__") [.builtin "object.__class__", .ref a, .ref C]) >>= ret) _ _ _
  refine wpAny_bind (wpAny_holding (wpAny_call (class_get (s := ⟨hh, gs, dr, tk + 1, os⟩) (ox := oa) (od := od) kin I T.hm (wpAny_pure ?_))))
  show wpAny _ _ (handedOut (.ref C)) _ _ _
  rw [handedOut_of (v := .ref C) rfl]
  first | exact wpAny_pure (wpAny_pure k) | exact wpAny_pure k | exact wpAny_pure (wpAny_bind (wpAny_pure (wpAny_pure k)))

theorem kit_err (T : L2.ExcC K C) : KitX K (.ref a) (.ref C) (fun h => PySem.W.InstAt h a oa C od) := by
  have cls : ∃ cls dct cd sl, K.lookup C = some ⟨cls, dct, .cls cd, sl⟩ := by
    obtain ⟨cd, e, -⟩ := any_some T.hd
    unfold clsIn at e
    split at e
    · rename_i c' d' cd' sl' z
      exact ⟨_, _, _, _, z⟩
    · cases e
  obtain ⟨_, _, _, _, e⟩ := cls
  refine ⟨fun _ _ _ I => I.type, fun _ _ kin _ => ?_, fun h tp dd its n sl kin t => ?_, fun kin I k => class_asked T kin I k⟩
  · intro A' Q' E' s' keep q
    unfold isType loadHead
    exact wpAny_bind (wpAny_loadPart (keep _ _ (kin _ _ e)) (wpAny_pure q))
  · cases hb : (Value.ref C == Value.ref tp) with
    | false => rfl
    | true =>
      have same : C = tp := Value.ref.inj (beq_iff_eq.mp hb)
      rw [← same] at t
      have z := (kin _ _ e).symm.trans t
      cases z
end
end Own

namespace Own
open PySem L2 PySem.Spec PyProof.Rows
/-- isinstance(e, c) within the suite that caught e, an exception of the class at C with or without a dict -/
def rErrIs (K : PySem.W.Frag) (C a : Addr) (cls : Value) (d : Option Addr) : List V → Hp → VK → Prop := fun xs H Q =>
  cls = .ref C ∧ ∃ (c : V) (u : Value) (b : Bool), xs = [.ref a, c] ∧ ClsV c u ∧ PySem.W.kitOne K (.ref C) u = some b ∧ (∀ dd, d = some dd → ∃ fs, H dd = some (.xd fs)) ∧ Q (.bl b) H
theorem call_err_is {X : Cx} {K : PySem.W.Frag} {a C : Addr} {oe : Obj} {cls : Value} {d : Option Addr} {pn : List (Addr × Obj)} (T : ExcC K C) (z : Zc cls d oe) (fields : ∃ vs, oe.data = .fields vs) (hK : X.K = K := by rfl) :
    CallR (X.suite a ((a, oe) :: pn)) (.builtin "isinstance") (rErrIs K C a cls d) := by
  intro pins s σ H xs us Q I r h
  obtain ⟨rfl, c, u, b, rfl, cv, kit, dict, q⟩ := h
  subst hK
  obtain ⟨u1, u2, rfl, r1, r2⟩ := vals2 r
  cases (show u1 = Value.ref a from r1)
  have e2 := cv.eq r2
  subst e2
  obtain ⟨here, -⟩ := I.pin (a, oe) (List.mem_append.mpr (.inl List.mem_cons_self))
  obtain ⟨vs, hvs⟩ := fields
  have J : ∃ od, PySem.W.InstAt s.heap a oe C od := by
    obtain ⟨oc, odc, oda, osl⟩ := oe
    obtain ⟨z1, z2⟩ := z
    dsimp only at z1 z2 hvs
    subst z1 z2 hvs
    cases odc with
    | none => exact ⟨none, here, rfl, rfl, trivial⟩
    | some dd =>
      obtain ⟨fs, hfs⟩ := dict dd rfl
      obtain ⟨mA, ns, -⟩ := (show ObjOk X.prog X.w H s.heap dd (.xd fs) from I.hok dd _ hfs)
      obtain ⟨o, ho, -⟩ := lookIn_ns ns
      exact ⟨some o, here, rfl, rfl, ho⟩
  obtain ⟨od, J⟩ := J
  exact PySem.W.kia_one (kit_err T) I.kIn J kit (fun z => nomatch z) fun tk => ⟨.bl b, H, I.kept (t' := tk) fun _ _ z => z, rfl, q⟩
end Own

namespace Own
open PySem L2 PySem.Spec PyProof.Rows
/-- a set as it is made -/
abbrev noSet (w : World) : Obj := { cls := .type "set", dict := none, data := .set #[] 0 (.fresh 0 0 (!w.params.followText "set-order")) }
section
variable {P : Program} {w : World} {A : Around} {E : Value → Shared → Prop} {s : Shared}
/-- set(xs), xs a list of areI: its members are those of xs, its table rises -/
theorem set_of_list {l : Addr} {items : Array Value} (ns : List Int) {Q : Value → Shared → Prop} (calm : A.handled = none) (isl : s.heap.IsList l items) (areI : IntsAre items.toList ns) (room : ns.length + 1 < scanBound)
    (k : ∀ (g : Heap) (tk c : Nat), SetR w g s.heap.objs.size (fun j => decide (j ∈ ns)) c → c ≤ ns.length → (∀ b o, s.heap.get? b = some o → g.get? b = some o) → Q (.ref s.heap.objs.size) { s with heap := g, toks := tk }) :
    wpAny (model P w) A (call (.type "set") [.ref l]) Q E s := by
  have sz : items.size = ns.length := by
    have q := IntsAre.length areI
    rw [Array.length_toList] at q
    exact q
  obtain ⟨c, tl, mro⟩ := F.called_set.mro
  have z1 := F.called_set.made
  have z2 := F.called_set.sub
  refine wpAny_call (codeAny_of_tree ?_)
  show wpAny _ _ (callAny (.type "set") _) _ _ _
  refine wpAny_pure ⟨Code.quiet_builtin _ (by decide +kernel), codeAny_builtin F.entry_type_call ?_⟩
  rw [Around.under_plain (weight_type_call_type "set" [.ref l] []) rfl]
  have z3 := F.called_set.notType
  have z4 := F.called_set.canCreate
  have z5 := F.typeCall_set_1 (.ref l)
  repeat (any_goals (first | assumption | wp_step))
  refine codeAny_mono (code_set_led1 (.ref l) (E := E) (Q₁ := fun ob s₁ => ob = .ref s.heap.objs.size ∧ s₁ = { s with heap := s.heap.push (noSet w) }) ⟨rfl, rfl⟩) fun r s₁ hr => ?_
  match r, hr with
  | .error e, hr => exact hr
  | .ok (.ret ob), hr =>
    obtain ⟨rfl, rfl⟩ := hr
    have here : (s.heap.push (noSet w)).get? s.heap.objs.size = some (noSet w) := Heap.get?_push_size _ rfl
    have typ : Shared.TypeIs { s with heap := s.heap.push (noSet w) } (.ref s.heap.objs.size) "set" := ⟨_, here, rfl⟩
    have y1 := F.called_set.init.lookup
    have y2 := F.called_set.init.bind (.ref s.heap.objs.size)
    repeat (any_goals (first | assumption | wp_step))
    refine codeAny_mono (codeAny_call_builtin (R := wants (fun r s₂ => r = .none ∧ ∃ g tk c, s₂ = { s with heap := g, toks := tk } ∧ SetR w g s.heap.objs.size (fun j => decide (j ∈ ns)) c ∧ c ≤ ns.length ∧ (∀ b o, s.heap.get? b = some o → g.get? b = some o)) E)
      F.called_set.init.plain F.entry_set_init (check_set_init_1 typ ?_)) fun r₂ s₂ hr₂ => ?_
    · obtain ⟨ol, hol, hcl, nl, hdl⟩ := isl
      obtain ⟨ocls, odict, odata, oslots⟩ := ol
      simp only at hcl hdl
      subst hcl
      subst hdl
      have at1 : (s.heap.push (noSet w)).get? l = some { cls := .type "list", dict := odict, data := .seq items nl, slots := oslots } := Heap.get?_push_of_some _ hol
      have x1 := F.sub_list_set
      have x2 := F.sub_list_frozenset
      have x3 : (Value.type "list" == Value.type "dict") = false := by decide
      have isl1 : (s.heap.push (noSet w)).IsList l items := ⟨_, at1, rfl, nl, rfl⟩
      unfold Builtin.«set.__init__» noKeywords Builtin.Frozenset.updateFrom
      generalize hPI : pyIter = PI
      wp_walk
      subst hPI
      refine wpAny_pyIter_list isl1 ?_
      refine wpAny_bind (wpAny_runValue ?_)
      have lt : l < s.heap.objs.size := Heap.lt_size hol
      have calm3 : A.in1.in1.in1.handled = none := by simp [calm]
      have ne1 : l ≠ (s.heap.push (noSet w)).objs.size := by
        rw [Heap.size_push]
        exact Nat.ne_of_lt (Nat.lt_succ_of_lt lt)
      have ne2 : s.heap.objs.size ∉ [(s.heap.push (noSet w)).objs.size, l] := by
        rw [Heap.size_push]
        simp only [List.mem_cons, List.mem_singleton, List.not_mem_nil, or_false, not_or]
        exact ⟨Nat.ne_of_lt (Nat.lt_succ_self _), Nat.ne_of_gt lt⟩
      have vals : ∀ (i : Nat) (v : Value), items[i]? = some v → ∃ k t, ns[i]? = some k ∧ v = .int k t := by
        intro i v hv
        have hi : i < ns.length := by
          rw [← sz]
          exact (Array.getElem?_eq_some_iff.mp hv).1
        obtain ⟨t, e⟩ := PyProof.Rows.IntsAre.int_at areI i v (by rw [Array.getElem?_toList]; exact hv)
        refine ⟨ns[i], t, List.getElem?_eq_getElem hi, ?_⟩
        rw [e]
        rw [List.getD_eq_getElem?_getD, List.getElem?_eq_getElem hi] <;> rfl
      refine set_update_ints ((Walks.list calm3 _ l ne1 items).toS) s.heap.objs.size ne2 ns sz room vals (items.size - 0) 0 _ (by omega) (Nat.zero_le _) ⟨⟨_, Heap.get?_push_size _ rfl, rfl, rfl⟩, (isl1.push _)⟩ ?start ?fin
      case start =>
        have still : ((s.heap.push (noSet w)).push { cls := .type "list_iterator", data := .fields #[.ref l, .int 0 0] }).get? s.heap.objs.size = some (noSet w) := Heap.get?_push_of_some _ here
        exact ⟨0, Nat.le_refl 0, setR_new_at still⟩
      case fin =>
        rintro ⟨g, g2, d', tk', os'⟩ c' mv hc hS
        have eg : g2 = s.gens := mv.gens
        have ed : d' = s.drawn := mv.drawn
        have eo : os' = s.os := mv.os
        subst eg ed eo
        show wpAny _ _ _ _ _ _
        refine wpAny_pure ?_
        show wpAny _ _ (ret Value.none) _ _ _
        rw [sz] at hc
        refine wpAny_pure ⟨rfl, g, tk', c', rfl, hS, hc, fun b o e => ?_⟩
        have lb : b < s.heap.objs.size := Heap.lt_size e
        refine mv.heap b o ?_ (Heap.get?_push_of_some _ (Heap.get?_push_of_some _ e))
        rw [Heap.size_push]
        simp only [List.mem_cons, List.mem_singleton, List.not_mem_nil, or_false, not_or]
        exact ⟨Nat.ne_of_lt lb, Nat.ne_of_lt (Nat.lt_succ_of_lt lb)⟩
    · match r₂, hr₂ with
      | .error e, hr₂ => exact hr₂
      | .ok (.ret r), hr₂ =>
        obtain ⟨rfl, g, tk, c', rfl, hS, hc, keep⟩ := hr₂
        repeat (any_goals (first | assumption | wp_step))
        exact k _ _ _ hS hc keep
      | .ok .next, hr₂ => exact hr₂.elim
      | .ok .brk, hr₂ => exact hr₂.elim
      | .ok .cont, hr₂ => exact hr₂.elim
  | .ok .next, hr => exact hr.elim
  | .ok .brk, hr => exact hr.elim
  | .ok .cont, hr => exact hr.elim

/-- sorted of a set of areI, any number of members -/
theorem sorted_of_set {a : Addr} {S : Int → Bool} {n : Nat} {Q : Value → Shared → Prop} (R : SetR w s.heap a S n) (calm : A.handled = none) (small : n ≤ sizeLine)
    (k : ∀ s' p (out : Array Value) (c : Nat) (ns : List Int), (∀ b o, s.heap.get? b = some o → s'.heap.get? b = some o) → s'.gens = s.gens → s'.os = s.os → s.heap.objs.size ≤ p →
      s'.heap.get? p = some (seqObj "list" out c) → IntsAre out.toList ns → ns.Pairwise (· < ·) → (∀ k, k ∈ ns ↔ S k = true) → ns.length = n → Q (.ref p) s') :
    wpAny (model P w) A (call (.builtin "sorted") [.ref a]) Q E s := by
  obtain ⟨o, es, ep, t, ho, hex, hd, good, nd, mem, bound, fit, num, ris, led⟩ := R
  refine Calls.call_function_entry kind_sorted plain_sorted entry_sorted (args_sorted1 _) ?_
  unfold Builtin.«sorted»
  refine wpAny_bind (m := checkCount "sorted" 1 1 _) (wpAny_pure ?_)
  refine wpAny_bind (collect_set (A := A.in1) calm ⟨o, ho, hex.1, hd⟩ fit bound ris led fun s1 vs keep grow gens os perm => ?_)
  have len : vs.length = n := by
    rw [perm.length_eq, List.length_map, Array.length_toList]
    exact num
  have areI : IntsAre vs (vs.map Builtin.Re.reRawOf) := ints_of vs fun v hv => by
    obtain ⟨e, he, q⟩ := List.mem_map.mp (perm.mem_iff.mp hv)
    obtain ⟨k, tk, h1, -⟩ := good e he
    rw [← q]
    exact ⟨k, tk, h1⟩
  have permK : (vs.map Builtin.Re.reRawOf).Perm (es.toList.map keyOf) := by
    have q := perm.map Builtin.Re.reRawOf
    rw [List.map_map] at q
    exact q
  have lenOk : vs.length ≤ sizeLine := by rw [len]; exact small
  refine wpAny_bind (wpAny_newList ?_ lenOk)
  have laid : (s1.heap.push (seqObj "list" vs.toArray 0)).get? s1.heap.objs.size = some (seqObj "list" vs.toArray 0) := Heap.get?_push_size _ rfl
  refine wpAny_bind (wpAny_holding (wpAny_call_entry slot_list_sort ⟨_, laid, rfl⟩ entry_list_sort (SrtO.list_sort_ord SrtO.swo_int laid lenOk (fun h2 => SrtO.ints_sortable areI h2) fun out o1 o2 => ⟨_, rfl, ?_⟩) (args_list_sort _)))
  obtain ⟨i1, i2, i3⟩ := SrtO.ints_out areI o1 o2
  obtain ⟨c, hc⟩ := sortedHeap_at (vs := vs) (out := out.toArray) laid
  have pn := i2.trans permK
  refine wpAny_pure ⟨_, rfl, k _ s1.heap.objs.size out.toArray c _ (fun b u e => ?_) gens os grow hc i1 (lt_of_le_nodup _ i3 (pn.nodup_iff.mpr nd)) (fun k => by rw [pn.mem_iff, ← mem k]) ?_⟩
  · have q := keep b u e
    have lt := Heap.lt_size q
    show (sortedHeap (s1.heap.push (seqObj "list" vs.toArray 0)) s1.heap.objs.size vs out.toArray).get? b = some u
    rw [sortedHeap_old (Nat.ne_of_lt lt) (by rw [size_push']; exact Nat.lt_succ_of_lt lt)]
    exact Heap.get?_push_of_some _ q
  · rw [pn.length_eq, List.length_map, Array.length_toList]
    exact num
end

/-- sorted(set(xs)), xs a list of areI -/
def tSortedSet (K : PySem.W.Frag) (ta : TE) : TE := fun σ H Q => ta σ H fun x H1 => ∃ (l : Addr) (ns : List Int), x = .ref l ∧ SqL K H1 l (ns.map V.int) ∧ ns.length ≤ 4000 ∧
  ∀ (ms : List Int) (p : Addr), ms.Pairwise (· < ·) → (∀ k, k ∈ ms ↔ k ∈ ns) → H1 p = none → Q (.ref p) (upd H1 p (.lst (ms.map V.int)))
theorem pe_sortedSet {X : Cx} {a : Expr} {ta : TE} {p p2 q pos : Pos} (hg : Gl X "sorted") (hm : X.mg "sorted" = none) (hg2 : Gl X "set") (hm2 : X.mg "set" = none) (ha : PE X a ta) (hc : X.calm = true := by rfl)
    (na : starEach [a] X.env = (false, eval a X.env) :: starEach [] X.env := by rfl) : PE X (.Call (.Name "sorted" p) [.Call (.Name "set" p2) [a] [] q] [] pos) (tSortedSet X.K ta) := by
  constructor
  intro pins s σ H Q I h
  refine Call_ (ld_blt I hg hm (show bootBuiltins ("sorted" : Str) = some (.builtin "sorted") by decide +kernel) ?_)
  refine PyProof.Rows.callWith_builtin1 (PyProof.Rows.args_cons ?_ rfl) rfl rfl
  refine Call_ (ld_blt I hg2 hm2 boot_set ?_)
  refine PyProof.Rows.callWith_type1 (PyProof.Rows.args_cons (thn (ha.run pins s σ H _ I h) fun v s1 ⟨x, H1, I1, r1, q1⟩ => PyProof.Rows.args_nil ?_) na) na rfl
  obtain ⟨l, ns, rfl, sq, small, q1⟩ := q1
  cases r1
  obtain ⟨its, rel, pl, -⟩ := I1.list sq
  have calm := I1.ok.hd hc
  refine set_of_list ns calm pl.isList (by simpa using rel.«ints») (by unfold scanBound; omega) fun g tk c R hcn keep => PyProof.Rows.args_nil ?_
  have I2 : Inv X pins σ H1 { s1 with heap := g, toks := tk } := I1.kept keep
  refine sorted_of_set R calm (by rw [sizeLine_eq]; omega) fun s' p out c2 ms keep2 gens os hp hget areI sorted mem len => ?_
  have hlen : (ms.map V.int).length ≤ sizeLine := by
    rw [List.length_map, len, sizeLine_eq]
    omega
  have hn : H1 p = none := I2.hok.fresh hp
  obtain ⟨g2, gs2, dr2, tk2, os2⟩ := s'
  have e1 : gs2 = s1.gens := gens
  have e2 : os2 = s1.os := os
  subst e1 e2
  have J : L2.Inv X pins σ (upd H1 p (.lst (ms.map V.int))) ⟨g2, s1.gens, dr2, tk2, s1.os⟩ := by
    refine L2.Inv.call (s := { s1 with heap := g, toks := tk }) (ch := []) (g' := s1.gens) (d' := dr2) (t' := tk2) (h' := g2) I2 (Un.laid keep2 hp hn) (I2.hok.laid keep2 hp ?_) I2.bare (fun _ z => nomatch z)
    exact ⟨hlen, out.toList, c2, vals_of_ints areI, hget⟩
  refine ⟨.ref p, _, J, rfl, q1 ms p sorted (fun k => ?_) hn⟩
  rw [mem k]
  simp
end Own

namespace Own
open PySem L2
/-- all that was tracked stands as it stood; one object may have changed -/
def Ext (H H' : Hp) : Prop := ∀ b o, H b = some o → H' b = some o
theorem Ext.refl (H : Hp) : Ext H H := fun _ _ h => h
theorem Ext.trans {H H1 H2 : Hp} (a : Ext H H1) (b : Ext H1 H2) : Ext H H2 := fun c o h => b c o (a c o h)
theorem Ext.new {H : Hp} {p : Addr} {o : HO} (h : H p = none) : Ext H (upd H p o) := fun b u e => by
  rw [upd_ne (ne_of_none e h)]
  exact e
theorem Ext.free {H H' : Hp} (e : Ext H H') {l : Addr} (h : H' l = Option.none) : H l = Option.none := by
  cases q : H l with
  | none => rfl
  | some o => rw [e l o q] at h; cases h
theorem Ext.mut {H H' : Hp} {p : Addr} {o : HO} (e : Ext H H') (h : H p = none) : Ext H (upd H' p o) := fun b u hb => by
  rw [upd_ne (ne_of_none hb h)]
  exact e b u hb

/-- __init__(self, f): self.f = f, of an own error -/
def spInit1 (C : Addr) (f : Str) : Sp := fun vs H Q _ => ∃ (a : Addr) (v : V), vs = [.ref a, v] ∧ H a = some (exo a C none) ∧ ∀ d, H d = none → d ≠ a → Q .non (upd (upd H d (exd d [(f, v)])) a (exo a C (some d)))
/-- raise C(e): the reading in short -/
theorem raised1 {C : Addr} {f : Str} {ta : TA} {σ : L2.St} {H : Hp} {Q : XK} (hta : ∀ R R' : List V → Hp → Prop, (∀ vs G, R vs G → R' vs G) → ta σ H R → ta σ H R')
    (h : ta σ H fun vs H1 => ∃ v, vs = [v] ∧ ∀ d, H1 d = none → Q (.ref C) (some d) (upd H1 d (.xd [(f, v)]))) : tMkO C (spInit1 C f) [] ta σ H Q := by
  refine hta _ _ (fun vs H1 ⟨v, e, k⟩ => ?_) h
  subst e
  refine ⟨by show 1 ≤ 1000; decide, fun a ha => ⟨a, v, rfl, upd_same, fun d hd hda => ⟨rfl, d, [(f, v)], upd_same, ?_, ?_, ?_⟩⟩⟩
  · rw [upd_ne hda, upd_same]
  · rw [upd_ne hda] at hd
    exact hd
  · rw [upd_ne hda] at hd
    have e : upd (del (upd (upd (upd H1 a (exo a C none)) d (exd d [(f, v)])) a (exo a C (some d))) a) d (.xd [(f, v)]) = upd H1 d (.xd [(f, v)]) := by
      funext b
      by_cases h1 : b = d
      · subst h1
        rw [upd_same, upd_same]
      · rw [upd_ne h1, upd_ne h1]
        by_cases h2 : b = a
        · subst h2
          rw [del_same]
          exact ha.symm
        · rw [del_ne h2, upd_ne h2, upd_ne h1, upd_ne h2]
    rw [e]
    exact k d hd
theorem passE {P : Program} {w : World} {K : PySem.W.Frag} {mg : Str → Option Value} {base : Heap} {N : List Str} {qual : Str} {sc : Scope} {f : Addr} {cd : Value} {A : Around} {outer : List Env} {s : Shared} {H : Hp} {E : XK} :
    Passes (L2.CX P w) (cxOf (L2.CX P w) P w K mg base N qual sc f cd A outer s H E) E :=
  passes_call (W := fun cls d _ H => E cls d H) (takes_of rfl rfl rfl rfl) (fun _ _ _ _ h => h)
end Own

namespace Own
open PySem L2 PySem.Spec PyProof.Rows
/-- a name that holds a list or a tuple, walked -/
def iSeqV (K : PySem.W.Frag) (i : Nat) : TI := fun σ H R => ∃ a, σ[i]? = some (some (.ref a)) ∧ ∃ J : It, ((∃ xs, SqL K H a xs) ∧ J = Itl K a ∨ (∃ xs, SqT K H a xs) ∧ J = Itt K a) ∧ R J H
theorem pi_seqv {X : Cx} {tg : Expr} (i : Nat) {x : Str} {pos : Pos} (hN : X.N[i]? = some x := by rfl) (hv : Vis X.env.scope x := by first | exact Or.inl rfl | exact Or.inr (Or.inl rfl) | exact Or.inr (Or.inr rfl)) (hd : (x == ("__debug__" : Str)) = false := by decide)
    (hcd : (x == ("__classdict__" : Str)) = false := by decide) : PI X tg (.Name x pos) (iSeqV X.K i) := by
  constructor
  intro pins s σ H R I h
  obtain ⟨a, e, J, (⟨q, rfl⟩ | ⟨q, rfl⟩), k⟩ := h
  · exact (pi_list (pv i hN hv hd hcd)).run pins s σ H R I ⟨_, e, a, rfl, q, k⟩
  · exact (pi_tup (pv i hN hv hd hcd)).run pins s σ H R I ⟨_, e, a, rfl, q, k⟩
/-- a list or a tuple of xs at a -/
def Sq (H : Hp) (a : Addr) (xs : List V) : Prop := H a = some (.lst xs) ∨ H a = some (.tup xs)
theorem Sq.ext {H H' : Hp} {a : Addr} {xs : List V} (e : Ext H H') (h : Sq H a xs) : Sq H' a xs := h.imp (e _ _) (e _ _)
theorem Sq.walk {K : PySem.W.Frag} {H : Hp} {a : Addr} {xs : List V} (h : Sq H a xs) : ∃ (J : It) (o : HO), ((∃ xs, SqL K H a xs) ∧ J = Itl K a ∨ (∃ xs, SqT K H a xs) ∧ J = Itt K a) ∧ H a = some o ∧ Walk J xs.length (fun H' => H' a = some o) (YAt xs) := by
  rcases h with h | h
  · exact ⟨_, _, .inl ⟨⟨xs, SqL.of h⟩, rfl⟩, h, walk_list.mono (fun H' e => SqL.of e) fun _ _ _ _ _ _ y => y⟩
  · exact ⟨_, _, .inr ⟨⟨xs, SqT.of h⟩, rfl⟩, h, walk_tup.mono (fun H' e => SqT.of e) fun _ _ _ _ _ _ y => y⟩
/-- [f(x) for x in xs], nothing that stood is changed -/
theorem lc_map {J : It} {G : Hp → Prop} {xs : List V} (wk : Walk J xs.length G (YAt xs)) {te : TE} {vs : List Nat} {j : Nat} {σ : L2.St} {H1 : Hp} (f : V → V) (hG : ∀ H', Ext H1 H' → G H') (hz : xs.length < 40000)
    (hw : ∀ x, wipe ((wipe σ vs).set j (some x)) vs = wipe σ vs)
    (he : ∀ (i : Nat) (x : V) (H' : Hp), xs[i]? = some x → Ext H1 H' → ∀ Q : VK, (∀ H2, Ext H' H2 → Q (f x) H2) → te ((wipe σ vs).set j (some x)) H' Q) {Q : VK}
    (q : ∀ D H', H1 D = none → Ext H1 H' → H' D = some (.lst (xs.map f)) → Q (.ref D) H') : ∀ D, H1 D = none → ∃ W : Nat → Nat → Hp → Prop, (∃ m, W 0 m (upd H1 D (.lst []))) ∧ ∀ i m H, W i m H →
      (J.stop i H ∧ Q (.ref D) H) ∨ (J.go i H ∧ ∃ Nx : Hp → Prop, (∀ H', Nx H' → ∃ m', m' < m ∧ W (i + 1) m' H') ∧ ∀ x H', J.yld i H x H' → gName j x (wipe σ vs) H' fun σ2 H2 => wipe σ2 vs = wipe σ vs ∧ tYes σ2 H2 fun b H3 =>
        if b = true then te σ2 H3 fun y H4 => ∃ acc, H4 D = some (.lst acc) ∧ acc.length < sizeLine ∧ Nx (upd H4 D (.lst (acc ++ [y]))) else Nx H3) := by
  intro D hD
  refine lc_it wk (fun i H => Ext H1 H ∧ H D = some (.lst ((xs.take i).map f))) ⟨Ext.new hD, upd_same⟩ (fun i H _ p => hG H p.1) (fun i x H H' hi p y => ?_) (fun H p => ?_)
  · obtain ⟨e, hx⟩ := y
    subst e
    refine ⟨hw x, ?_⟩
    refine he i x H' hx p.1 (fun y H4 => ∃ acc, H4 D = some (.lst acc) ∧ acc.length < sizeLine ∧ Ext H1 (upd H4 D (.lst (acc ++ [y]))) ∧ (upd H4 D (.lst (acc ++ [y]))) D = some (.lst ((xs.take (i + 1)).map f))) fun H2 e2 => ⟨_, e2 _ _ p.2, ?_, (p.1.trans e2).mut hD, ?_⟩
    · rw [List.length_map, List.length_take, sizeLine_eq]
      omega
    · rw [upd_same, List.take_add_one, hx, List.map_append]
      rfl
  · have e := p.2
    rw [List.take_length] at e
    exact q D H hD p.1 e
/-- a comprehension whose source stands still and whose element changes nothing that stood -/
theorem tLc_map {wi : TI} {xs : List V} {te : TE} {vs : List Nat} {j : Nat} {σ : L2.St} {H : Hp} {Q : VK} (f : V → V)
    (hwi : ∀ R : It → Hp → Prop, (∀ J G H1, Ext H H1 → Walk J xs.length G (YAt xs) → (∀ H', Ext H1 H' → G H') → R J H1) → wi σ H R) (hz : xs.length < 40000)
    (hw : ∀ x, wipe ((wipe σ vs).set j (some x)) vs = wipe σ vs)
    (he : ∀ (i : Nat) (x : V) (H' : Hp), xs[i]? = some x → Ext H H' → ∀ Q : VK, (∀ H2, Ext H' H2 → Q (f x) H2) → te ((wipe σ vs).set j (some x)) H' Q)
    (q : ∀ D H', H D = none → Ext H H' → H' D = some (.lst (xs.map f)) → Q (.ref D) H') : tLc wi (gName j) tYes te vs σ H Q := by
  refine hwi _ fun J G H1 e wk hG => lc_map wk f hG hz hw (fun i x H' hx e' => he i x H' hx (e.trans e')) fun D H' hD e' hl => q D H' (e.free hD) (e.trans e') hl
theorem wi_seqv {K : PySem.W.Frag} {i : Nat} {a : Addr} {xs : List V} {σ : L2.St} {H : Hp} (hv : σ[i]? = some (some (.ref a))) (h : Sq H a xs) :
    ∀ R : It → Hp → Prop, (∀ J G H1, Ext H H1 → Walk J xs.length G (YAt xs) → (∀ H', Ext H1 H' → G H') → R J H1) → iSeqV K i σ H R := fun R k => by
  obtain ⟨J, o, hJ, ho, wk⟩ := Sq.walk (K := K) h
  exact ⟨a, hv, J, hJ, k J _ H (Ext.refl H) wk fun H' e => e _ _ ho⟩
theorem wi_list {K : PySem.W.Frag} {tl : TE} {xs : List V} {σ : L2.St} {H : Hp} (h : ∀ Q : VK, (∀ a H1, Ext H H1 → H1 a = some (.lst xs) → Q (.ref a) H1) → tl σ H Q) :
    ∀ R : It → Hp → Prop, (∀ J G H1, Ext H H1 → Walk J xs.length G (YAt xs) → (∀ H', Ext H1 H' → G H') → R J H1) → iList K tl σ H R := fun R k =>
  h _ fun a H1 e ha => ⟨a, rfl, ⟨xs, SqL.of ha⟩, k _ _ H1 e (walk_list (K := K) (a := a) (xs := xs)) fun H' e' => SqL.of (e' _ _ ha)⟩
theorem wi_tup {K : PySem.W.Frag} {tl : TE} {xs : List V} {σ : L2.St} {H : Hp} (h : ∀ Q : VK, (∀ a H1, Ext H H1 → H1 a = some (.tup xs) → Q (.ref a) H1) → tl σ H Q) :
    ∀ R : It → Hp → Prop, (∀ J G H1, Ext H H1 → Walk J xs.length G (YAt xs) → (∀ H', Ext H1 H' → G H') → R J H1) → iTup K tl σ H R := fun R k =>
  h _ fun a H1 e ha => ⟨a, rfl, ⟨xs, SqT.of ha⟩, k _ _ H1 e (walk_tup (K := K) (a := a) (xs := xs)) fun H' e' => SqT.of (e' _ _ ha)⟩
/-! readings opened from the left -/
section
variable {D : Ends} {σ : L2.St} {H : Hp} {Q : VK} {te ta tb : TE} {tr tas : TA} {QA : List V → Hp → Prop} {t u : TS} {g : TG} {sp : Sp} {dvs : List V} {E : XK} {r : R2}
theorem r_next (h : D.nx σ H) : tNext D σ H := h
theorem r_ret (h : te σ H D.rt) : tRet te D σ H := h
theorem r_seq (h : t { D with nx := u D } σ H) : tSeq t u D σ H := h
theorem r_asg (h : te σ H fun x H1 => g x σ H1 D.nx) : tAsg te g D σ H := h
theorem r_drop (h : te σ H fun _ H1 => D.nx σ H1) : tDrop te D σ H := h
theorem r_call (h : tas σ H fun vs H1 => sp (vs ++ dvs) H1 Q E) : tCall sp dvs E tas σ H Q := h
theorem r_cons (h : ta σ H fun x H1 => tr σ H1 fun xs H2 => QA (x :: xs) H2) : tCons ta tr σ H QA := h
theorem r_nil (h : QA [] H) : tNil σ H QA := h
theorem r_cb {rr : List V → Hp → VK → Prop} (h : tas σ H fun vs H1 => rr vs H1 Q) : tCB rr tas σ H Q := h
theorem r_op (h : ta σ H fun x H1 => tb σ H1 fun y H2 => r x y H2 Q) : tOp r ta tb σ H Q := h
theorem r_var {i : Nat} {v : V} (e : σ[i]? = some (some v)) (h : Q v H) : tVar i σ H Q := ⟨v, e, h⟩
theorem r_sset {K : PySem.W.Frag} (h : ta σ H fun x H1 => ∃ (l : Addr) (ns : List Int), x = .ref l ∧ SqL K H1 l (ns.map V.int) ∧ ns.length ≤ 4000 ∧ ∀ (ms : List Int) (p : Addr), ms.Pairwise (· < ·) → (∀ k, k ∈ ms ↔ k ∈ ns) → H1 p = none → Q (.ref p) (upd H1 p (.lst (ms.map V.int)))) : tSortedSet K ta σ H Q := h
theorem r_c {v : V} (h : Q v H) : tC v σ H Q := h
end
end Own

namespace Own
open PySem L2
def rLen (K : PySem.W.Frag) : List V → Hp → VK → Prop := fun xs H Q => ∃ p ys, xs = [.ref p] ∧ (SqL K H p ys ∨ SqT K H p ys) ∧ Q (.int ((ys.length : Nat) : Int)) H
theorem call_lenS {X : Cx} : CallR X (.builtin "len") (rLen X.K) := call_len_seq
def rInt : List V → Hp → VK → Prop := fun xs H Q => (∃ i, xs = [.int i] ∧ Q (.int i) H) ∨ ∃ k, xs = [.bl k] ∧ Q (.int (if k then 1 else 0)) H
theorem call_intS {X : Cx} : CallR X (.type "int") rInt := call_int1
def rAbs : List V → Hp → VK → Prop := fun xs H Q => ∃ i, xs = [.int i] ∧ Q (.int (if i < 0 then -i else i)) H
theorem call_absS {X : Cx} : CallR X (.builtin "abs") rAbs := call_abs
def rMaxS : List V → Hp → VK → Prop := fun xs H Q => ∃ i j, xs = [.int i, .int j] ∧ Q (.int (if j > i then j else i)) H
theorem call_maxS {X : Cx} (hc : X.calm = true) : CallR X (.builtin "max") rMaxS := call_max2 hc
/-! the same rules with the written part said outright, so that they serve within a comprehension too -/
section
variable (K : PySem.W.Frag) {X : Cx}
theorem call_lenC (h : X.K = K := by rfl) : CallR X (.builtin "len") (rLen K) := h ▸ call_lenS
theorem ix_listC (h : X.K = K := by rfl) : IxR X (rIxL K) := h ▸ ix_list
theorem ix_tupC (h : X.K = K := by rfl) : IxR X (rIxT K) := h ▸ ix_tup
theorem sl_listC (h : X.K = K := by rfl) : SlR X (rSlL K) := h ▸ sl_list
def rTuple (K : PySem.W.Frag) : List V → Hp → VK → Prop := fun xs H Q => ∃ p ys, xs = [.ref p] ∧ ((SqL K H p ys ∧ ∀ l, H l = none → Q (.ref l) (upd H l (.tup ys))) ∨ (SqT K H p ys ∧ Q (.ref p) H))
theorem call_tupleC (h : X.K = K := by rfl) : CallR X (.type "tuple") (rTuple K) := h ▸ call_tuple_of
def rList (K : PySem.W.Frag) : List V → Hp → VK → Prop := fun xs H Q => ∃ p ys, xs = [.ref p] ∧ (SqL K H p ys ∨ SqT K H p ys) ∧ ∀ l, H l = none → Q (.ref l) (upd H l (.lst ys))
theorem call_listC (h : X.K = K := by rfl) : CallR X (.type "list") (rList K) := h ▸ call_list_of
theorem call_isiC (h : X.K = K := by rfl) : CallR X (.builtin "isinstance") (rIsi K) := h ▸ call_isi
theorem call_isiTC (h : X.K = K := by rfl) : CallR X (.builtin "isinstance") (rIsiT K) := h ▸ call_isiT
theorem cr_allC (hc : X.calm = true) (h : X.K = K := by rfl) : CallR X (.builtin "all") (rAll K) := h ▸ cr_all hc
theorem op_inC (h : X.K = K := by rfl) : OpR X (compareOp .In) (rIn K false) := h ▸ op_in_seq
theorem op_notInC (h : X.K = K := by rfl) : OpR X (compareOp .NotIn) (rIn K true) := h ▸ op_notIn_seq
def rIxQ (K : PySem.W.Frag) : R2 := fun x y H Q => ∃ p xs i v, x = .ref p ∧ y = .int i ∧ Sq H p xs ∧ atI xs i = some v ∧ Q v H
theorem ix_seqC (h : X.K = K := by rfl) : IxR X (rIxQ K) := by
  intro value slice pins s σ H x y v u Q I rx ry r hs
  obtain ⟨p, xs, i, z, ex, ey, q | q, e, k⟩ := r
  · exact ix_list value slice pins s σ H x y v u Q I rx ry ⟨p, xs, i, z, ex, ey, SqL.of q, e, k⟩ hs
  · exact ix_tup value slice pins s σ H x y v u Q I rx ry ⟨p, xs, i, z, ex, ey, SqT.of q, e, k⟩ hs
theorem op_eqDC (hu : X.A.units + 64 < cLine) (h : X.K = K := by rfl) : OpR X (compareOp .Eq) (rEqD K) := h ▸ op_eqD hu
theorem op_neDC (hu : X.A.units + 64 < cLine) (h : X.K = K := by rfl) : OpR X (compareOp .NotEq) (rNeD K) := h ▸ op_neD hu
def tTruth (K : PySem.W.Frag) (ta : TE) : TT := fun σ H Q => ta σ H fun x H' => ∃ k, TruV K x H' k ∧ Q k H'
theorem pt_truthC {a : Expr} {ta : TE} (ha : PE X a ta) (he : ∀ whole, isTrue a X.env whole = (do let v ← whole; standAt a.pos; holding [v] (truthy v)) := by intro _; rfl) (h : X.K = K := by rfl) : PT X a (tTruth K ta) := h ▸ pt_truth ha he
end
/-- a comprehension's turns -/
def LcIn (J : It) (g : TG) (tt : TT) (te : TE) (vs : List Nat) (σ : L2.St) (Q : VK) (G : Hp) (D : Addr) : Prop :=
  ∃ W : Nat → Nat → Hp → Prop, (∃ m, W 0 m (upd G D (.lst []))) ∧ ∀ i m H, W i m H →
    (J.stop i H ∧ Q (.ref D) H) ∨
    (J.go i H ∧ ∃ Nx : Hp → Prop, (∀ H', Nx H' → ∃ m', m' < m ∧ W (i + 1) m' H') ∧
      ∀ x H', J.yld i H x H' → g x (wipe σ vs) H' fun τ H2 => wipe τ vs = wipe σ vs ∧
        tt τ H2 fun b H3 => if b = true then te τ H3 fun y H4 => ∃ acc, H4 D = some (.lst acc) ∧ acc.length < sizeLine ∧ Nx (upd H4 D (.lst (acc ++ [y]))) else Nx H3)
/-- a for's turns -/
def FoIn (J : It) (g : TG) (tb : TS) (D : Ends) (σ : L2.St) (G : Hp) : Prop :=
  ∃ W : Nat → Nat → L2.St → Hp → Prop, (∃ m, W 0 m σ G) ∧ ∀ i m τ H, W i m τ H →
    (J.stop i H ∧ D.nx τ H) ∨
    (J.go i H ∧ ∃ N : L2.St → Hp → Prop, (∀ τ' H', N τ' H' → ∃ m', m' < m ∧ W (i + 1) m' τ' H') ∧
      ∀ x H', J.yld i H x H' → g x τ H' fun τ2 H2 => tb { D with nx := N, ct := N, bk := D.nx } τ2 H2)
theorem foin_range {n : Nat} {lo : Int} {g : TG} {tb : TS} {D : Ends} {σ : L2.St} {H : Hp} (Pv : Nat → L2.St → Hp → Prop) (h0 : Pv 0 σ H)
    (hs : ∀ i τ G, i < n → Pv i τ G → g (.int (lo + (i : Nat))) τ G fun τ2 G2 => tb { D with nx := Pv (i + 1), ct := Pv (i + 1), bk := D.nx } τ2 G2) (hd : ∀ τ G, Pv n τ G → D.nx τ G) : FoIn (Itr lo n) g tb D σ H := for_range Pv h0 hs hd
theorem foin_it {J : It} {n : Nat} {GG : Hp → Prop} {Y : Nat → Hp → V → Hp → Prop} (wk : Walk J n GG Y) {g : TG} {tb : TS} {D : Ends} {σ : L2.St} {H : Hp} (Pv : Nat → L2.St → Hp → Prop) (h0 : Pv 0 σ H) (hG : ∀ i τ H, i ≤ n → Pv i τ H → GG H)
    (hs : ∀ i x τ G G', i < n → Pv i τ G → Y i G x G' → g x τ G' fun τ2 G2 => tb { D with nx := Pv (i + 1), ct := Pv (i + 1), bk := D.nx } τ2 G2) (hd : ∀ τ G, Pv n τ G → D.nx τ G) : FoIn J g tb D σ H := for_it wk Pv h0 hG hs hd
theorem lcin_range {n : Nat} {lo : Int} {g : TG} {tt : TT} {te : TE} {vs : List Nat} {σ : L2.St} {Q : VK} {G : Hp} {D : Addr} (Pv : Nat → Hp → Prop) (h0 : Pv 0 (upd G D (.lst [])))
    (hs : ∀ i H, i < n → Pv i H → g (.int (lo + (i : Nat))) (wipe σ vs) H fun τ H2 => wipe τ vs = wipe σ vs ∧ tt τ H2 fun b H3 =>
      if b = true then te τ H3 fun y H4 => ∃ acc, H4 D = some (.lst acc) ∧ acc.length < sizeLine ∧ Pv (i + 1) (upd H4 D (.lst (acc ++ [y]))) else Pv (i + 1) H3) (hd : ∀ H, Pv n H → Q (.ref D) H) : LcIn (Itr lo n) g tt te vs σ Q G D := lc_range Pv h0 hs hd
theorem lcin_map {J : It} {GG : Hp → Prop} {xs : List V} (wk : Walk J xs.length GG (YAt xs)) {te : TE} {vs : List Nat} {j : Nat} {σ : L2.St} {H1 : Hp} (f : V → V) (hG : ∀ H', Ext H1 H' → GG H') (hz : xs.length < 40000)
    (hw : ∀ x, wipe ((wipe σ vs).set j (some x)) vs = wipe σ vs)
    (he : ∀ (i : Nat) (x : V) (H' : Hp), xs[i]? = some x → Ext H1 H' → ∀ Q : VK, (∀ H2, Ext H' H2 → Q (f x) H2) → te ((wipe σ vs).set j (some x)) H' Q) {Q : VK}
    (q : ∀ D H', H1 D = none → Ext H1 H' → H' D = some (.lst (xs.map f)) → Q (.ref D) H') {D : Addr} (hD : H1 D = none) : LcIn J (gName j) tYes te vs σ Q H1 D := lc_map wk f hG hz hw he q D hD
section
variable {D : Ends} {σ : L2.St} {H : Hp} {Q : VK} {te ta tb tc : TE} {t u : TS} {g : TG} {r : R2} {c d : TT} {QT : Bool → Hp → Prop} {K : PySem.W.Frag} {QG : L2.St → Hp → Prop}
theorem r_cut (Mid : L2.St → Hp → Prop) (h : t { D with nx := Mid } σ H) (k : ∀ σ' H', Mid σ' H' → u D σ' H') : Evl.tCut t u D σ H := ⟨Mid, h, k⟩
theorem r_lc {wi : TI} {g : TG} {tt : TT} {vs : List Nat} (h : wi σ H fun J H1 => ∀ D, H1 D = none → LcIn J g tt te vs σ Q H1 D) : tLc wi g tt te vs σ H Q := h
theorem r_for {wi : TI} {tb : TS} (h : wi σ H fun J H1 => FoIn J g tb D σ H1) : tFor wi g tb D σ H := h
theorem r_rng1 {tas : TA} {R : It → Hp → Prop} (h : tas σ H fun vs H1 => ∃ j : Int, vs = [.int j] ∧ (-(2 ^ 62) ≤ j ∧ j < 2 ^ 62) ∧ R (Itr 0 j.toNat) H1) : iRng1 tas σ H R := by
  have mono : ∀ (QA QB : List V → Hp → Prop), QA = QB → tas σ H QA → tas σ H QB := fun _ _ e => by rw [e]; exact id
  refine mono _ _ ?_ h
  funext vs H1
  exact propext ⟨fun ⟨j, e, ⟨a, b⟩, r⟩ => ⟨j, e, a, b, r⟩, fun ⟨j, e, a, b, r⟩ => ⟨j, e, ⟨a, b⟩, r⟩⟩
theorem r_i1 {j : Int} {R : Int → Prop} (hb : -(2 ^ 62) ≤ j ∧ j < 2 ^ 62) (h : R j) : ∃ j' : Int, [V.int j] = [V.int j'] ∧ (-(2 ^ 62) ≤ j' ∧ j' < 2 ^ 62) ∧ R j' := ⟨j, rfl, hb, h⟩
theorem r_seqv {i : Nat} {a : Addr} {xs : List V} {R : It → Hp → Prop} (e : σ[i]? = some (some (.ref a))) (h : Sq H a xs) (k : ∀ J GG, Walk J xs.length GG (YAt xs) → (∀ H', Ext H H' → GG H') → R J H) : iSeqV K i σ H R := by
  obtain ⟨J, o, hJ, ho, wk⟩ := Sq.walk (K := K) h
  exact ⟨a, e, J, hJ, k J _ wk fun H' e => e _ _ ho⟩
theorem r_truth (h : ta σ H fun x H' => ∃ k, TruV K x H' k ∧ QT k H') : tTruth K ta σ H QT := h
theorem r_truI {i : Int} {R : Bool → Prop} (h : R (i != 0)) : ∃ k, TruV K (.int i) H k ∧ R k := ⟨_, rfl, h⟩
theorem r_tupL {p : Addr} {xs : List V} (h : SqL K H p xs) (q : ∀ l, H l = none → Q (.ref l) (upd H l (.tup xs))) : rTuple K [.ref p] H Q := ⟨p, xs, rfl, .inl ⟨h, q⟩⟩
theorem r_tupT {p : Addr} {xs : List V} (h : SqT K H p xs) (q : Q (.ref p) H) : rTuple K [.ref p] H Q := ⟨p, xs, rfl, .inr ⟨h, q⟩⟩
theorem r_listL {p : Addr} {xs : List V} (h : SqL K H p xs) (q : ∀ l, H l = none → Q (.ref l) (upd H l (.lst xs))) : rList K [.ref p] H Q := ⟨p, xs, rfl, .inl h, q⟩
theorem r_sliceV {te : TE} {tl th : TO} {rr : V → Option Int → Option Int → Hp → VK → Prop} (h : te σ H fun x H1 => tl σ H1 fun l H2 => th σ H2 fun u H3 => rr x l u H3 Q) : tSl rr te tl th σ H Q := h
theorem r_isi {x c : V} {t u : Value} {b : Bool} (k : ClsV c u) (ty : TyX K H x t) (e : PySem.W.kitOne K t u = some b) (q : Q (.bl b) H) : rIsi K [x, c] H Q := ⟨x, c, t, u, b, rfl, k, ty, e, q⟩
theorem iteNF {A B : Prop} (h : A) : if (!false) = true then A else B := h
theorem iteNT {A B : Prop} (h : B) : if (!true) = true then A else B := h
theorem r_yes (h : QT true H) : tYes σ H QT := h
theorem r_ixQ {p : Addr} {xs : List V} {i : Int} {v : V} (h : Sq H p xs) (e : atI xs i = some v) (q : Q v H) : rIxQ K (.ref p) (.int i) H Q := ⟨p, xs, i, v, rfl, rfl, h, e, q⟩
theorem r_lenQ {p : Addr} {xs : List V} (h : Sq H p xs) (q : Q (.int ((xs.length : Nat) : Int)) H) : rLen K [.ref p] H Q := ⟨p, xs, rfl, h.imp SqL.of SqT.of, q⟩
theorem r_chain {r r' : R2} (h : ta σ H fun x H1 => tb σ H1 fun y H2 => r x y H2 fun z H3 => ∃ k, z = .bl k ∧ (if k = true then tc σ H3 fun u H4 => r' y u H4 Q else Q (.bl false) H3)) : tChain r r' ta tb tc σ H Q := h
theorem r_name {i : Nat} {v : V} (h : QG (σ.set i (some v)) H) : gName i v σ H QG := h
theorem r_I0 {gg : Int → Int → V} {i j : Int} (h : Q (gg i j) H) : rI0 gg (.int i) (.int j) H Q := ⟨i, j, rfl, rfl, h⟩
theorem r_I {C : Int → Int → Prop} {gg : Int → Int → V} {i j : Int} (hc : C i j) (h : Q (gg i j) H) : rI C gg (.int i) (.int j) H Q := ⟨i, j, rfl, rfl, hc, h⟩
theorem r_un {rr : V → Hp → VK → Prop} (h : ta σ H fun x H1 => rr x H1 Q) : tUn rr ta σ H Q := h
theorem r_U {gg : Int → V} {i : Int} (h : Q (gg i) H) : rU gg (.int i) H Q := ⟨i, rfl, h⟩
theorem r_if (h : c σ H fun b H1 => if b = true then t D σ H1 else u D σ H1) : tIfS c t u D σ H := h
theorem r_ifE (h : c σ H fun b H1 => if b = true then ta σ H1 Q else tb σ H1 Q) : tIf c ta tb σ H Q := h
theorem r_test (h : te σ H fun x H' => ∃ k, x = .bl k ∧ QT k H') : tTest te σ H QT := h
theorem r_B (h : te σ H fun x H' => ∃ k, x = .bl k ∧ QT k H') : tB te σ H QT := h
theorem r_bl {b : Bool} {R : Bool → Prop} (h : R b) : ∃ k, V.bl b = V.bl k ∧ R k := ⟨b, rfl, h⟩
theorem r_not (h : c σ H fun b H1 => QT (!b) H1) : tNot c σ H QT := h
theorem r_and (h : c σ H fun b H1 => if b = true then d σ H1 QT else QT false H1) : tAnd c d σ H QT := h
theorem r_or (h : c σ H fun b H1 => if b = true then QT true H1 else d σ H1 QT) : tOr c d σ H QT := h
theorem r_andV (h : ta σ H fun x H1 => ∃ k, x = .bl k ∧ if k = true then tb σ H1 Q else Q (.bl false) H1) : tAndV ta tb σ H Q := h
theorem r_orV (h : ta σ H fun x H1 => ∃ k, x = .bl k ∧ if k = true then Q (.bl true) H1 else tb σ H1 Q) : tOrV ta tb σ H Q := h
theorem r_notV (h : ta σ H fun x H1 => ∃ k, x = .bl k ∧ Q (.bl (!k)) H1) : tNotV ta σ H Q := h
theorem r_eqI {i j : Int} (h : Q (.bl (decide (i = j))) H) : rEq (.int i) (.int j) H Q := ⟨rfl, by
  have e : decide (V.int i = V.int j) = decide (i = j) := by
    by_cases z : i = j
    · subst z
      simp
    · rw [decide_eq_false z, decide_eq_false (fun q => z (V.int.inj q))]
  rw [e]
  exact h⟩
theorem r_neI {i j : Int} (h : Q (.bl (!decide (i = j))) H) : rNe (.int i) (.int j) H Q := ⟨rfl, by
  have e : decide (V.int i = V.int j) = decide (i = j) := by
    by_cases z : i = j
    · subst z
      simp
    · rw [decide_eq_false z, decide_eq_false (fun q => z (V.int.inj q))]
  rw [e]
  exact h⟩
theorem r_ixL {p : Addr} {xs : List V} {i : Int} {v : V} (h : SqL K H p xs) (e : atI xs i = some v) (q : Q v H) : rIxL K (.ref p) (.int i) H Q := ⟨p, xs, i, v, rfl, rfl, h, e, q⟩
theorem r_ixT {p : Addr} {xs : List V} {i : Int} {v : V} (h : SqT K H p xs) (e : atI xs i = some v) (q : Q v H) : rIxT K (.ref p) (.int i) H Q := ⟨p, xs, i, v, rfl, rfl, h, e, q⟩
theorem r_tup {tas : TA} (h : tas σ H fun xs H1 => xs.length ≤ sizeLine ∧ ∀ p, H1 p = none → Q (.ref p) (upd H1 p (.tup xs))) : tTup tas σ H Q := h
theorem r_lst {tas : TA} (h : tas σ H fun xs H1 => xs.length ≤ sizeLine ∧ ∀ p, H1 p = none → Q (.ref p) (upd H1 p (.lst xs))) : tLst tas σ H Q := h
theorem r_sub {to ti : TE} {ts : V → V → V → Hp → (Hp → Prop) → Prop} {v : V} (h : to σ H fun o H1 => ti σ H1 fun i H2 => ts o i v H2 fun H3 => QG σ H3) : gSub to ti ts v σ H QG := h
theorem r_setL {p : Addr} {xs : List V} {k : Int} {j : Nat} {v : V} {R : Hp → Prop} (h : H p = some (.lst xs)) (e : ixN xs.length k = some j) (q : R (upd H p (.lst (xs.set j v)))) : rSetL (.ref p) (.int k) v H R := ⟨p, xs, k, j, rfl, rfl, h, e, q⟩
theorem r_int1 {R : Int → Prop} {S : Prop} {i : Int} (h : R i) : (∃ j, [V.int i] = [V.int j] ∧ R j) ∨ S := .inl ⟨i, rfl, h⟩
theorem r_int1b {R : Bool → Prop} {S : Prop} {k : Bool} (h : R k) : S ∨ ∃ j, [V.bl k] = [V.bl j] ∧ R j := .inr ⟨k, rfl, h⟩
theorem r_one {R : Int → Prop} {i : Int} (h : R i) : ∃ j, [V.int i] = [V.int j] ∧ R j := ⟨i, rfl, h⟩
theorem r_lenL {p : Addr} {xs : List V} (h : SqL K H p xs) (q : Q (.int ((xs.length : Nat) : Int)) H) : rLen K [.ref p] H Q := ⟨p, xs, rfl, .inl h, q⟩
theorem r_lenT {p : Addr} {xs : List V} (h : SqT K H p xs) (q : Q (.int ((xs.length : Nat) : Int)) H) : rLen K [.ref p] H Q := ⟨p, xs, rfl, .inr h, q⟩
theorem r_intI {i : Int} (q : Q (.int i) H) : rInt [.int i] H Q := .inl ⟨i, rfl, q⟩
theorem r_intB {b : Bool} (q : Q (.int (if b = true then 1 else 0)) H) : rInt [.bl b] H Q := .inr ⟨b, rfl, q⟩
theorem r_abs {i : Int} (q : Q (.int (if i < 0 then -i else i)) H) : rAbs [.int i] H Q := ⟨i, rfl, q⟩
theorem r_max {i j : Int} (q : Q (.int (if j > i then j else i)) H) : rMaxS [.int i, .int j] H Q := ⟨i, j, rfl, q⟩
theorem r_two {R : Int → Int → Prop} {i j : Int} (h : R i j) : ∃ a b, [V.int i, V.int j] = [V.int a, V.int b] ∧ R a b := ⟨i, j, rfl, h⟩
theorem r_size {n : Nat} {R : Prop} (hn : n ≤ 1000) (h : R) : n ≤ sizeLine ∧ R := ⟨Nat.le_trans hn (by rw [sizeLine_eq]; decide), h⟩
/-- all but what stands at p -/
def wo (p : Addr) (H : Hp) : Hp := fun b => if b = p then none else H b
theorem wo_ne {p b : Addr} {H : Hp} (h : b ≠ p) : wo p H b = H b := if_neg h
theorem wo_some {p b : Addr} {H : Hp} {o : HO} (h : wo p H b = some o) : b ≠ p ∧ H b = some o := by
  unfold wo at h
  by_cases e : b = p
  · rw [if_pos e] at h; cases h
  · rw [if_neg e] at h; exact ⟨e, h⟩
theorem wo_upd {p : Addr} {H : Hp} {o : HO} : Ext (wo p H) (wo p (upd H p o)) := fun b u e => by
  obtain ⟨ne, e⟩ := wo_some e
  rw [wo_ne ne, upd_ne ne]
  exact e
theorem wo_ext {p : Addr} {H H' : Hp} (e : Ext H H') : Ext (wo p H) (wo p H') := fun b u h => by
  obtain ⟨ne, h⟩ := wo_some h
  rw [wo_ne ne]
  exact e b u h
theorem wo_back {p : Addr} {H : Hp} : Ext (wo p H) H := fun b u h => (wo_some h).2
end
end Own

namespace Own
open PySem L2
section
variable {D : Ends} {σ : L2.St} {H : Hp} {Q : VK} {K : PySem.W.Frag}
theorem lookup1 (f : Str) (v : V) : List.lookup f [(f, v)] = some v := by simp [List.lookup]
theorem r_xf {i : Nat} {a C d : Addr} {f : Str} {v : V} (e : σ[i]? = some (some (.ref a))) (hd : H d = some (.xd [(f, v)])) (h : Q v H) : tXf a (.ref C) (some d) C f (tVar i) σ H Q :=
  ⟨.ref a, e, rfl, rfl, d, [(f, v)], v, rfl, hd, lookup1 f v, h⟩
theorem r_errIs {a C d C' : Addr} {b : Bool} {fs : List (Str × V)} (k : PySem.W.kitOne K (.ref C) (.ref C') = some b) (hd : H d = some (.xd fs)) (h : Q (.bl b) H) : rErrIs K C a (.ref C) (some d) [.ref a, .ref C'] H Q :=
  ⟨rfl, .ref C', .ref C', b, rfl, .own C', k, (fun dd e => by cases e; exact ⟨fs, hd⟩), h⟩
theorem r_errIsT {a C d : Addr} {t : String} {b : Bool} {fs : List (Str × V)} (k : PySem.W.kitOne K (.ref C) (.type t) = some b) (hd : H d = some (.xd fs)) (h : Q (.bl b) H) : rErrIs K C a (.ref C) (some d) [.ref a, .ty t] H Q :=
  ⟨rfl, .ty t, .type t, b, rfl, .ty t, k, (fun dd e => by cases e; exact ⟨fs, hd⟩), h⟩
theorem r_cutnx {i : Nat} (h : D.nx (σ.set i none) H) : (cut D i).nx σ H := h
theorem r_cutrt {i : Nat} {v : V} (h : D.rt v H) : (cut D i).rt v H := h
theorem r_app {l : Addr} {xs : List V} {i : Nat} {v : V} {te : TE} (e : σ[i]? = some (some (.ref l))) (h : H l = some (.lst xs)) (hz : xs.length < sizeLine) (hv : ∀ QV : VK, QV v H → te σ H QV) (k : D.nx σ (upd H l (.lst (xs ++ [v])))) :
    tDrop (tBM K "list" rAppend (tVar i) (tCons te tNil)) D σ H := ⟨_, e, .inl ⟨rfl, xs, SqL.of h⟩, hv _ ⟨l, xs, v, rfl, rfl, h, hz, k⟩⟩
theorem r_callS {sp : Sp} {E : L2.St → XK} {tas : TA} (h : tas σ H fun vs H1 => sp vs H1 Q (E σ)) : tCallS sp E tas σ H Q := h
end
end Own

namespace Own
open PySem L2
theorem kit_any {K : PySem.W.Frag} {C S : Addr} {b : Bool} (ic : PySem.W.isClsIn K S = true) (tc : PySem.W.typeIn K (.ref S) = some (.type "type")) (h : PySem.W.subIn K (.ref C) (.ref S) = some b) (hs : PySem.W.subIn K (.ref C) (.ref C) = some true) :
    PySem.W.kitOne K (.ref C) (.ref S) = some b := by
  unfold PySem.W.kitOne
  by_cases e : (Value.ref C == Value.ref S) = true
  · have same : C = S := Value.ref.inj (beq_iff_eq.mp e)
    subst same
    rw [if_pos e, ← hs, h]
  · rw [if_neg e]
    have two : ((PySem.W.clsIn K S).isSome && PySem.W.typeIn K (.ref S) == some (.type "type")) = true := by
      have ic' : (PySem.W.clsIn K S).isSome = true := ic
      rw [ic', tc]
      rfl
    exact (if_pos two).trans h
theorem kit_ve {K : PySem.W.Frag} {C : Addr} (h : PySem.W.subIn K (.ref C) (.type "ValueError") = some true) : PySem.W.kitOne K (.ref C) (.type "ValueError") = some true := by
  unfold PySem.W.kitOne
  rw [if_neg (by intro z; cases beq_iff_eq.mp z)]
  show (if PySem.W.kitMeta "ValueError" = true then PySem.W.subIn K (.ref C) (.type "ValueError") else none) = some true
  rw [if_pos (show PySem.W.kitMeta "ValueError" = true by decide +kernel)]
  exact h
end Own

namespace Own
open PySem PySem.W PySem.Calls PyProof.Rows PySem.HandSPX
section
variable {prog : Program} {w : World} {A : Around} {E : Value → Shared → Prop} {R : Result → Shared → Prop} {M : Model} {hp : Heap} {gs : Array GenState} {dr : Drawn} {tk : Nat} {os : OsState}
variable {nm qn : Str} {C N : Addr} {bs bm bmB : List Value} {hd : Bool} {sn : List Str} {sub : List Value} {ab : Bool} {col : Option Bool} {dd : Option Addr} {k0 k1 k2 k3 k5 : Option Value} {B newId initId : String} {kw : List (Str × Value)}

theorem check_newK (F : ExcBaseFacts B newId initId bmB) (same : ∀ X : String, bm.contains (.type X) = bmB.contains (.type X)) {rest : List Value} {Q : Unit → Shared → Prop}
    (hC : hp.get? C = some (excClassObj nm qn C N bs bm hd sn sub ab col dd k0 k1 k2 k3 k5 newId)) (q : Q () ⟨hp, gs, dr, tk, os⟩) : wpAny M A (checkBuiltinCall newId ⟨.ref C :: rest, kw⟩) Q E ⟨hp, gs, dr, tk, os⟩ := by
  have has : (Value.ref C :: bm).contains (.type B) = true := by rw [List.contains_cons, same, F.hasB, Bool.or_true]
  have ns := F.noStar
  simp only [checkBuiltinCall, F.newKind, F.newSplit, F.newRow]
  repeat (first | refine wpAny_loadPart_at hC ?_ | (refine wpAny_isSubtype_exc hC ?_; rw [has]) | refine wpAny_staticBase_exc hC ?_ | refine wpAny_madeBy_exc hC ?_ | simp only [bne_self_eq_false, Bool.false_eq_true, if_false] | wp_step)
  exact q
/-- the object that BaseException.__new__ lays: a tuple of the places' values, then the exception -/
abbrev bornAt (hp : Heap) (C : Addr) (rest : List Value) : Heap := (hp.push (PySem.W.kdv_tup rest)).push (excO C hp.objs.size)
theorem newK (F : ExcBaseFacts B newId initId bmB) (same : ∀ X : String, bm.contains (.type X) = bmB.contains (.type X)) {rest : List Value}
    (hC : hp.get? C = some (excClassObj nm qn C N bs bm hd sn sub ab col dd k0 k1 k2 k3 k5 newId)) (k : R (.ok (.ret (.ref (hp.objs.size + 1)))) ⟨bornAt hp C rest, gs, dr, tk, os⟩) (short : rest.length ≤ sizeLine) :
    codeAny (model prog w) A (.builtin newId ⟨.ref C :: rest, kw⟩) R ⟨hp, gs, dr, tk, os⟩ := by
  have fe := F.ends
  have in1 : (Value.ref C :: bm).contains (.type B) = true := by rw [List.contains_cons, same, F.hasB, Bool.or_true]
  have in2 : (Value.ref C :: bm).contains (.type "AttributeError") = false := by rw [List.contains_cons, same, F.noAttr]; rfl
  have in3 : (Value.ref C :: bm).contains (.type "NameError") = false := by rw [List.contains_cons, same, F.noName]; rfl
  refine codeAny_builtinAt F.entry ?_
  unfold Builtin.«BaseException.__new__»
  refine PySem.wpAt_bind ?_
  show PySem.wpAt _ _ _ (stack >>= _) _ _ _
  refine PySem.wpAt_bind (PySem.wpAt_stack fun p below => PySem.wpAt_of_wpAny ?_)
  wp_walk
  refine PySem.wpAt_of_wpAny ?_
  rw [F.owner]
  repeat (first | with_reducible refine wpAny_madeHere_exc F.canon hC ?_ | with_reducible refine wpAny_loadPart_at hC ?_ | (with_reducible refine wpAny_isSubtype_exc hC ?_; first | rw [in1] | rw [in2] | rw [in3]) | wp_step)
  show R _ _
  rw [Heap.size_push]
  exact k
theorem type_callK (F : ExcBaseFacts B newId initId bmB) (same : ∀ X : String, bm.contains (.type X) = bmB.contains (.type X)) {rest : List Value} {fI : Addr} {Q : Fin → Shared → Prop}
    (hC : hp.get? C = some (excClassObj nm qn C N bs bm hd sn sub ab col dd k0 k1 k2 k3 k5 newId))
    (look : W.Looks (model prog w) hp (typeLookup (.ref C) "__init__") (some (.ref fI))) (bnd : ∀ self, W.Looks (model prog w) hp (bindSpecial (.ref fI) self) (.ref fI, [self])) (short : rest.length ≤ sizeLine)
    (k : codeAny (model prog w) A (.call (.ref fI) ⟨.ref (hp.objs.size + 1) :: rest, kw⟩)
      (fun r s' => match r with | .ok (.ret v) => v = .none ∧ Q (.done (.ret (.ref (hp.objs.size + 1)))) s' | .ok _ => False | .error e => E e s') ⟨bornAt hp C rest, gs, dr, tk, os⟩) :
    wpAny (model prog w) A (Builtin.«type.__call__» ⟨.ref C :: rest, kw⟩) Q E ⟨hp, gs, dr, tk, os⟩ := by
  repeat (first | with_reducible refine wpAny_loadPart_at hC ?_ | with_reducible refine wpAny_madeBy_exc hC ?_ | wp_step)
  refine codeAny_call_builtin_code (Code.quiet_builtin _ F.quiet) (check_newK F same hC ?_)
  refine newK F same hC ?_ short
  show wpAny _ _ _ _ _ _
  have keep : ∀ b o, hp.get? b = some o → (bornAt hp C rest).get? b = some o := fun b o e => Heap.get?_push_of_some _ (Heap.get?_push_of_some _ e)
  have hC2 := keep _ _ hC
  have here : (bornAt hp C rest).get? (hp.objs.size + 1) = some (excO C hp.objs.size) := by heap_get
  have inC : (Value.ref C :: bm).contains (.ref C) = true := by simp
  have l1 := look.keeps keep
  have l2 := (bnd (.ref (hp.objs.size + 1))).keeps keep
  unfold isInstance
  repeat (first | with_reducible refine wpAny_loadPart_at here ?_ | (with_reducible refine wpAny_isSubtype_exc hC2 ?_; rw [inC]) | wp_step)
  show wpAny _ _ (typeLookup (.ref C) _) _ _ _
  refine l1.at ?_
  refine wpAny_holding (wpAny_bind (l2.at ?_))
  refine wpAny_bind (wpAny_call (codeAny_mono k fun r s' z => ?_))
  rcases r with e | (v | _ | _ | _) <;> first | exact z | exact z.elim | skip
  obtain ⟨rfl, z⟩ := z
  first | exact wpAny_pure (wpAny_pure z) | (wp_walk; exact z)
theorem check_callK {rest : List Value} {Q : Unit → Shared → Prop} (hC : hp.get? C = some (excClassObj nm qn C N bs bm hd sn sub ab col dd k0 k1 k2 k3 k5 newId)) (q : Q () ⟨hp, gs, dr, tk, os⟩) :
    wpAny M A (checkBuiltinCall "type.__call__" ⟨.ref C :: rest, kw⟩) Q E ⟨hp, gs, dr, tk, os⟩ := by
  have tcs := tc_sub
  have typ : (⟨hp, gs, dr, tk, os⟩ : Shared).TypeIs (.ref C) "type" := ⟨_, hC, rfl⟩
  simp only [checkBuiltinCall, tc_kind, tc_split]
  repeat (any_goals (first | assumption | with_reducible refine wpAny_loadPart_at hC ?_ | with_reducible refine wpAny_onRaise ?_ | with_reducible refine wpAny_map ?_ | wp_step))
theorem callK (F : ExcBaseFacts B newId initId bmB) (same : ∀ X : String, bm.contains (.type X) = bmB.contains (.type X)) {rest : List Value} {fI : Addr}
    (hC : hp.get? C = some (excClassObj nm qn C N bs bm hd sn sub ab col dd k0 k1 k2 k3 k5 newId))
    (look : W.Looks (model prog w) hp (typeLookup (.ref C) "__init__") (some (.ref fI))) (bnd : ∀ self, W.Looks (model prog w) hp (bindSpecial (.ref fI) self) (.ref fI, [self])) (short : rest.length ≤ sizeLine)
    (k : codeAny (model prog w) (A.under (.builtin "type.__call__" ⟨.ref C :: rest, kw⟩)) (.call (.ref fI) ⟨.ref (hp.objs.size + 1) :: rest, kw⟩) (W.InitBack (hp.objs.size + 1) R) ⟨bornAt hp C rest, gs, dr, tk, os⟩) :
    codeAny (model prog w) A (.call (.ref C) ⟨rest, kw⟩) R ⟨hp, gs, dr, tk, os⟩ := by
  have f1 := tc_lookup
  have f2 := tc_bind (.ref C)
  have typ : (⟨hp, gs, dr, tk, os⟩ : Shared).TypeIs (.ref C) "type" := ⟨_, hC, rfl⟩
  refine codeAny_of_tree ?_
  show wpAny _ _ (callAny (.ref C) _) _ _ _
  repeat (any_goals (first | assumption | with_reducible refine wpAny_loadPart_at hC ?_ | wp_step))
  first | refine ⟨rfl, ?_⟩ | skip
  refine codeAny_call_builtin_at (Code.quiet_builtin _ (by decide +kernel)) entry_typeCall (check_callK hC (type_callK F same hC look bnd short ?_))
  refine codeAny_mono k fun r s' z => ?_
  rcases r with e | (v | _ | _ | _) <;> exact z
end
end Own

namespace Own
open PySem L2 PySem.Spec PyProof.Rows
section
variable {X : Cx} {CX : CXT} {k : Nat} {fI C : Addr} {fd : FuncData} {ps ks : List Str} {sp : Sp} {x : Str} {p pos : Pos} {e : Expr} {es : List Expr} {kws : List Keyword} {ta tk : TA}
/-- C(e, ..) as a value, C an error with its own __init__ -/
def tErr (C : Addr) (sp : Sp) (ta : TA) : TE := fun σ H Q => ta σ H fun vs H1 => vs.length ≤ 1000 ∧ ∀ a, H1 a = none → sp (.ref a :: vs) (upd H1 a (exo a C none)) (fun v H2 => v = .non ∧ Q (.ref a) H2) (fun _ _ _ => False)
theorem pe_err (T : OexC X.K C) (iC : PySem.W.findIn X.K (.ref C) "__init__" = some (some (.ref fI))) (tI : PySem.W.typeIn X.K (.ref fI) = some (.type "function"))
    (F1 : FnOk X.prog X.w X.K X.mg X.base CX k fI fd ps sp) (hr : Room (k + 1) X.A) (hb : Binds X.K fd ps []) (hx : Passes CX X (fun _ _ _ => False)) (hg : Gl X x) (hm : X.mg x = some (.ref C)) (ha : PA X (e :: es) ta)
    (hdb : (x == ("__debug__" : Str)) = false := by decide) (he : starEach (e :: es) X.env = (false, eval e X.env) :: starEach es X.env := by rfl) (hpl : (backTo pos (starEach es X.env)).any (·.1) = false := by rfl) :
    PE X (.Call (.Name x p) (e :: es) [] pos) (tErr C sp ta) := by
  constructor
  intro pins s σ H Q I h
  obtain ⟨nm, q, N, bs, bm, sn, sub, ab, col, dd, k0, k1, k2, k3, k5, hC, hbm⟩ := T.cls
  refine wpAny_Call_Name_kw (ld_glob I hg hm ?_ hdb)
  refine PySem.W.callWith_K (h₀ := X.base) I.ok.mod.kin T.kC (thn (ha.run pos pins s σ H _ I h) fun us s1 ⟨vs, H1, I1, r1, hz, q1⟩ => ⟨I1.kIn, ?_⟩) he hpl
  show wpAny _ _ (call (.ref C) us) _ _ _
  obtain ⟨hp, g, dr, tok, os⟩ := s1
  have above : hp.objs.size ≤ hp.objs.size + 1 := Nat.le_succ _
  have free : H1 (hp.objs.size + 1) = none := I1.hok.fresh above
  have wish := q1 (hp.objs.size + 1) free
  have keep : ∀ b o, hp.get? b = some o → (bornAt hp C us).get? b = some o := fun b o e => Heap.get?_push_of_some _ (Heap.get?_push_of_some _ e)
  have here : (bornAt hp C us).get? (hp.objs.size + 1) = some (PySem.HandSPX.excO C hp.objs.size) := by heap_get
  have I2 : L2.Inv X pins σ (upd H1 (hp.objs.size + 1) (exo (hp.objs.size + 1) C none)) ⟨bornAt hp C us, g, dr, tok, os⟩ := I1.laid (t' := tok) keep above (exo_ok here)
  have r2 : Vals (V.ref (hp.objs.size + 1) :: vs) (Value.ref (hp.objs.size + 1) :: us) := .cons rfl r1
  have len : (Value.ref (hp.objs.size + 1) :: us).length = ps.length := by
    rw [← r2.length]
    exact F1.len _ _ _ _ wish
  have short : us.length ≤ sizeLine := by
    rw [← Paired.length r1, sizeLine_eq]
    omega
  have bnd := hb ⟨bornAt hp C us, g, dr, tok, os⟩ (Value.ref (hp.objs.size + 1) :: us) I2.kIn (by rw [List.append_nil]; exact len)
  rw [List.append_nil] at bnd
  refine wpAny_call (callK F.excBase_ValueError (fun Y => PySem.HandSPX.refsVE_contains Y bm hbm) (I1.kIn _ _ hC) (PySem.W.looks_findIn I1.kIn iC) (fun self => PySem.W.bind_fn I1.kIn self tI) short
    (codeAny_mono (F1.run _ X.stack _ _ ⟨Value.ref (hp.objs.size + 1) :: us, []⟩ (Value.ref (hp.objs.size + 1) :: us) _ _ (fun _ _ _ => False) (hr.make C us []) (I2.env0.make C us []) bnd r2 wish) fun r s' hq => ?_))
  match r, hq with
  | .error er, hq => exact hx pins σ _ _ er s' I2 hq
  | .ok (.ret u), hq =>
    obtain ⟨v, H', I3, rv, ev, q3⟩ := I2.after hq
    subst ev
    exact ⟨rv, V.ref (hp.objs.size + 1), H', I3, rfl, q3⟩
  | .ok .next, hq => exact False.elim hq
  | .ok .brk, hq => exact False.elim hq
  | .ok .cont, hq => exact False.elim hq
/-- C(k = e, ..) as a value -/
def tErrK (C : Addr) (sp : Sp) (permV : List V → List V) (n : Nat) (tk : TA) : TE := fun σ H Q => tk σ H fun zs H1 => zs.length = n ∧ ∀ a, H1 a = none → sp (.ref a :: permV zs) (upd H1 a (exo a C none)) (fun v H2 => v = .non ∧ Q (.ref a) H2) (fun _ _ _ => False)
theorem pe_errK {perm : List Value → List Value} {permV : List V → List V} (T : OexC X.K C) (iC : PySem.W.findIn X.K (.ref C) "__init__" = some (some (.ref fI))) (tI : PySem.W.typeIn X.K (.ref fI) = some (.type "function"))
    (F1 : FnOk X.prog X.w X.K X.mg X.base CX k fI fd ps sp) (hr : Room (k + 1) X.A) (hb : ∀ (s : Shared) (self : Value) (ws : List Value), ws.length = ks.length → BindsTo s fd ⟨[self], ks.zip ws⟩ (ps.zip (self :: perm ws)))
    (hrel : ∀ {zs : List V} {ws : List Value}, Vals zs ws → Vals (permV zs) (perm ws)) (hx : Passes CX X (fun _ _ _ => False)) (hg : Gl X x) (hm : X.mg x = some (.ref C)) (hk : PK X kws tk)
    (hall : (backToKw pos (keywordEach kws X.env)).all (·.1.isSome) = true := by rfl) (hks : (backToKw pos (keywordEach kws X.env)).filterMap (·.1) = ks := by rfl)
    (hdb : (x == ("__debug__" : Str)) = false := by decide) (hpl : ((backTo pos (starEach [] X.env)).any (·.1) || (backToKw pos (keywordEach kws X.env)).any (·.1.isNone)) = false := by rfl) :
    PE X (.Call (.Name x p) [] kws pos) (tErrK C sp permV ks.length tk) := by
  constructor
  intro pins s σ H Q I h
  obtain ⟨nm, q, N, bs, bm, sn, sub, ab, col, dd, k0, k1, k2, k3, k5, hC, hbm⟩ := T.cls
  refine wpAny_Call_Name_kw (ld_glob I hg hm ?_ hdb)
  refine PySem.W.callWith_KW0 (h₀ := X.base) I.ok.mod.kin T.kC hall (thn (hk.run pos pins s σ H _ I h) fun ws s1 ⟨zs, H1, I1, rz, hz, q1⟩ => ⟨I1.kIn, ?_⟩) hpl
  rw [hks]
  show wpAny _ _ (call (.ref C) [] (ks.zip ws)) _ _ _
  obtain ⟨hp, g, dr, tok, os⟩ := s1
  have above : hp.objs.size ≤ hp.objs.size + 1 := Nat.le_succ _
  have free : H1 (hp.objs.size + 1) = none := I1.hok.fresh above
  have wish := q1 (hp.objs.size + 1) free
  have keep : ∀ b o, hp.get? b = some o → (bornAt hp C []).get? b = some o := fun b o e => Heap.get?_push_of_some _ (Heap.get?_push_of_some _ e)
  have here : (bornAt hp C []).get? (hp.objs.size + 1) = some (PySem.HandSPX.excO C hp.objs.size) := by heap_get
  have I2 : L2.Inv X pins σ (upd H1 (hp.objs.size + 1) (exo (hp.objs.size + 1) C none)) ⟨bornAt hp C [], g, dr, tok, os⟩ := I1.laid (t' := tok) keep above (exo_ok here)
  have r2 : Vals (V.ref (hp.objs.size + 1) :: permV zs) (Value.ref (hp.objs.size + 1) :: perm ws) := .cons rfl (hrel rz)
  have lws : ws.length = ks.length := by rw [← Paired.length rz]; exact hz
  refine wpAny_call (callK F.excBase_ValueError (fun Y => PySem.HandSPX.refsVE_contains Y bm hbm) (I1.kIn _ _ hC) (PySem.W.looks_findIn I1.kIn iC) (fun self => PySem.W.bind_fn I1.kIn self tI) (Nat.zero_le _)
    (codeAny_mono (F1.run _ X.stack _ _ ⟨[Value.ref (hp.objs.size + 1)], ks.zip ws⟩ (Value.ref (hp.objs.size + 1) :: perm ws) _ _ (fun _ _ _ => False) (hr.make C [] (ks.zip ws)) (I2.env0.make C [] (ks.zip ws)) (hb _ _ ws lws) r2 wish) fun r s' hq => ?_))
  match r, hq with
  | .error er, hq => exact hx pins σ _ _ er s' I2 hq
  | .ok (.ret u), hq =>
    obtain ⟨v, H', I3, rv, ev, q3⟩ := I2.after hq
    subst ev
    exact ⟨rv, V.ref (hp.objs.size + 1), H', I3, rfl, q3⟩
  | .ok .next, hq => exact False.elim hq
  | .ok .brk, hq => exact False.elim hq
  | .ok .cont, hq => exact False.elim hq
/-- C() as a value, C an error without an __init__ of its own -/
def tErr0 (C : Addr) : TE := fun _ H Q => ∀ a, H a = none → Q (.ref a) (upd H a (exo a C none))
theorem pe_err0 {bmB : List Value} {B newId initId : String} (F : ExcBaseFacts B newId initId bmB) (q : PySem.W.excIn X.K C bmB newId = true) (kC : PySem.W.keepIn X.K (.ref C) = true) (hg : Gl X x) (hm : X.mg x = some (.ref C)) (hdb : (x == ("__debug__" : Str)) = false := by decide) :
    PE X (.Call (.Name x p) [] [] pos) (tErr0 C) := by
  constructor
  intro pins s σ H Q I h
  refine wpAny_Call_Name_kw (ld_glob I hg hm ?_ hdb)
  refine PySem.W.callWith_K0 I.kIn kC ?_
  obtain ⟨hp, g, dr, tok, os⟩ := s
  obtain ⟨bm, N, nm, qn, bs, hdct, sn, sub, ab, col, dd, k0, k1, k2, k3, k5, mN, hC, hN, hni, T⟩ := exc_obj I.kIn q
  refine wpAny_call_exc_subT F T hC hN hni (fun h' a m => ?_) (Nat.zero_le _)
  obtain ⟨t, he, -, -⟩ := m.there
  have free : H a = none := I.hok.gone m.new
  exact ⟨.ref a, _, I.laidN (t' := tok) m.keeps m.new free (exo_ok he), rfl, h a free⟩
/-- isinstance(e, c), e an error held as a value -/
def rExoIs (K : PySem.W.Frag) : List V → Hp → VK → Prop := fun xs H Q => ∃ (a C : Addr) (d : Option Addr) (c : V) (u : Value) (b : Bool), xs = [.ref a, c] ∧ H a = some (exo a C d) ∧ (∀ dd, d = some dd → ∃ fs, H dd = some (exd dd fs)) ∧ ExcC K C ∧ ClsV c u ∧ PySem.W.kitOne K (.ref C) u = some b ∧ Q (.bl b) H
theorem call_exoIs (K : PySem.W.Frag) (hK : X.K = K := by rfl) : CallR X (.builtin "isinstance") (rExoIs K) := by
  intro pins s σ H xs us Q I r h
  subst hK
  obtain ⟨a, C, d, c, u, b, rfl, ha, hdict, T, cv, kit, q⟩ := h
  obtain ⟨u1, u2, rfl, r1, r2⟩ := vals2 r
  cases (show u1 = Value.ref a from r1)
  have e2 := cv.eq r2
  subst e2
  obtain ⟨t1, hget⟩ := exo_at I.hok ha
  have J : ∃ od, PySem.W.InstAt s.heap a ({ cls := .ref C, dict := d, data := .fields #[.ref t1, .none, .none, .none, .bool false, .none] } : Obj) C od := by
    cases d with
    | none => exact ⟨none, hget, rfl, rfl, trivial⟩
    | some dd =>
      obtain ⟨fs, hfs⟩ := hdict dd rfl
      obtain ⟨mA, ns, -⟩ := exd_at I.hok hfs
      obtain ⟨o, ho, -⟩ := lookIn_ns ns
      exact ⟨some o, hget, rfl, rfl, ho⟩
  obtain ⟨od, J⟩ := J
  exact PySem.W.kia_one (kit_err T) I.kIn J kit (fun z => nomatch z) fun tk => ⟨.bl b, H, I.kept (t' := tk) fun _ _ z => z, rfl, q⟩
/-- e.f, e an error held as a value -/
def tExf (K : PySem.W.Frag) (f : Str) (te : TE) : TE := fun σ H Q => te σ H fun x H1 => ∃ (a C dd : Addr) (fs : List (Str × V)) (v : V), x = .ref a ∧ H1 a = some (exo a C (some dd)) ∧ H1 dd = some (exd dd fs) ∧ XfC K C ∧ PySem.W.findIn K (.ref C) f = some none ∧ fs.lookup f = some v ∧ Q v H1
theorem pe_exf {te : TE} {n : Str} (K : PySem.W.Frag) (he : PE X e te) (hb : attributeBase e n X.env (eval e X.env) = eval e X.env := by rfl) (hK : X.K = K := by rfl) : PE X (.Attribute e n pos) (tExf K n te) := by
  subst hK
  constructor
  intro pins s σ H Q I h
  refine attr_of hb (thn (he.run pins s σ H _ I h) fun u s1 hh => ?_)
  obtain ⟨x, H1, I1, rx, a, C, dd, fs, v, rfl, ha, hd, T, no, l, q⟩ := hh
  obtain rfl : u = Value.ref a := rx
  obtain ⟨t1, hget⟩ := exo_at I1.hok ha
  obtain ⟨mA, ns, rel⟩ := exd_at I1.hok hd
  obtain ⟨od, ho, look⟩ := lookIn_ns ns
  obtain ⟨u, hu, ru⟩ := RelO.some_of (v := v) (o := mA n) (by rw [← l]; exact rel n)
  have J : PySem.W.InstAt s1.heap a ({ cls := .ref C, dict := some dd, data := .fields #[.ref t1, .none, .none, .none, .bool false, .none] } : Obj) C (some od) := ⟨hget, rfl, rfl, ho⟩
  exact HandSPX.exc_get I1.kIn J T.ga T.gg T.exC (PySem.W.findObj_own T.hdC no rfl (by rw [look, hu])) (handed_of ru) ⟨v, H1, I1.tok _, ru, q⟩
/-- two lists of the very same values are not unequal -/
def rNeSame (K : PySem.W.Frag) : R2 := fun x y H Q => ∃ a b xs, x = .ref a ∧ y = .ref b ∧ SqL K H a xs ∧ SqL K H b xs ∧ Q (.bl false) H
theorem eqAt_rel {A : Around} {s : Shared} {v : V} {u u' : Value} (r : RelV v u) (r' : RelV v u') (nf : ∀ b, v ≠ .flt b) (nb : ∀ b, v ≠ .byt b) : SeqAt.EqAt A s u u' true := by
  cases v with
  | int i =>
    obtain ⟨t, rfl⟩ := r
    obtain ⟨t', rfl⟩ := r'
    have h := SeqAt.EqAt.int_int (A := A) (s := s) i t i t'
    rwa [beq_self_eq_true] at h
  | str x =>
    obtain ⟨t, rfl⟩ := r
    obtain ⟨t', rfl⟩ := r'
    have h := SeqAt.EqAt.str_str (A := A) (s := s) x t x t'
    rwa [beq_self_eq_true] at h
  | flt b => exact absurd rfl (nf b)
  | byt b => exact absurd rfl (nb b)
  | non => cases r; cases r'; exact SeqAt.EqAt.same _
  | bl b => cases r; cases r'; exact SeqAt.EqAt.same _
  | ref a => cases r; cases r'; exact SeqAt.EqAt.same _
  | ty n => cases r; cases r'; exact SeqAt.EqAt.same _
end
end Own

namespace Own
open PySem L2 PySem.Spec PyProof.Rows
section
variable {X : Cx}
def plainV : V → Bool
  | .flt _ => false
  | .byt _ => false
  | _ => true
def rNeSameV (K : PySem.W.Frag) : R2 := fun x y H Q => ∃ a b xs, x = .ref a ∧ y = .ref b ∧ SqL K H a xs ∧ SqL K H b xs ∧ xs.all plainV = true ∧ Q (.bl false) H
theorem op_neSame (K : PySem.W.Frag) (hu : X.A.units + 64 < cLine) (hK : X.K = K := by rfl) : OpR X (compareOp .NotEq) (rNeSameV K) := by
  intro pins s σ H x y v u Q I rx ry h
  subst hK
  obtain ⟨a, b, xs, rfl, rfl, ha, hb, pl, q⟩ := h
  cases rx
  cases ry
  obtain ⟨its, r, la, -⟩ := I.list ha
  obtain ⟨its', r', lb, -⟩ := I.list hb
  have sz : its.toArray.size = its'.toArray.size := by
    rw [List.size_toArray, List.size_toArray, ← r.length, ← r'.length]
  have eq : ∀ j (h1 : j < its.toArray.size) (h2 : j < its'.toArray.size), SeqAt.EqAt X.A.in1 s its.toArray[j] its'.toArray[j] ((fun _ => true) j) := by
    intro j h1 h2
    have hj : j < xs.length := by
      rw [r.length]
      simpa using h1
    have ex : xs[j]? = some xs[j] := List.getElem?_eq_getElem hj
    obtain ⟨u1, e1, q1⟩ := Vals.get r ex
    obtain ⟨u2, e2, q2⟩ := Vals.get r' ex
    have p := List.all_eq_true.mp pl _ (List.getElem_mem hj)
    have f1 : its.toArray[j] = u1 := by
      have := List.getElem?_eq_some_iff.mp e1
      obtain ⟨_, z⟩ := this
      simpa using z
    have f2 : its'.toArray[j] = u2 := by
      have := List.getElem?_eq_some_iff.mp e2
      obtain ⟨_, z⟩ := this
      simpa using z
    rw [f1, f2]
    exact eqAt_rel q1 q2 (fun b z => by rw [z] at p; cases p) (fun b z => by rw [z] at p; cases p)
  have hu' : X.A.units < cLine := by omega
  have fin := SeqAt.RcNeAt.lists la.isList lb.isList sz hu' eq
  refine fin X.prog X.w X.xe _ ?_
  have al : (!((List.range its.toArray.size).all fun _ => true)) = false := by simp
  rw [al]
  exact ⟨.bl false, H, I, rfl, q⟩
end
end Own

namespace Rk
open PySem L2 Own
def top (i : Nat) : Stmt := PySem.Challenge.pw_ranksweeps_k99_errors.main.body.getD i (.Pass ⟨0, 0, 0, 0⟩)
abbrev s_NoRow__init__ : Stmt := inClass (top 2) 0
theorem sc_NoRow__init__ : FnScope ["self", "index"] ["self", "index"] (defScope s_NoRow__init__) := ⟨rfl, rfl, rfl, by decide +kernel, rfl, by decide +kernel, by decide +kernel⟩
abbrev s_NoSweep__init__ : Stmt := inClass (top 3) 0
theorem sc_NoSweep__init__ : FnScope ["self", "part"] ["self", "part"] (defScope s_NoSweep__init__) := ⟨rfl, rfl, rfl, by decide +kernel, rfl, by decide +kernel, by decide +kernel⟩
abbrev s_NoChain__init__ : Stmt := inClass (top 4) 0
theorem sc_NoChain__init__ : FnScope ["self", "name"] ["self", "name"] (defScope s_NoChain__init__) := ⟨rfl, rfl, rfl, by decide +kernel, rfl, by decide +kernel, by decide +kernel⟩
abbrev s_NoNumber__init__ : Stmt := inClass (top 5) 0
theorem sc_NoNumber__init__ : FnScope ["self", "name"] ["self", "name"] (defScope s_NoNumber__init__) := ⟨rfl, rfl, rfl, by decide +kernel, rfl, by decide +kernel, by decide +kernel⟩
abbrev s_TooMany__init__ : Stmt := inClass (top 6) 0
theorem sc_TooMany__init__ : FnScope ["self", "most"] ["self", "most"] (defScope s_TooMany__init__) := ⟨rfl, rfl, rfl, by decide +kernel, rfl, by decide +kernel, by decide +kernel⟩
abbrev s_TooLarge__init__ : Stmt := inClass (top 7) 0
theorem sc_TooLarge__init__ : FnScope ["self", "part"] ["self", "part"] (defScope s_TooLarge__init__) := ⟨rfl, rfl, rfl, by decide +kernel, rfl, by decide +kernel, by decide +kernel⟩
abbrev s_NoRows__init__ : Stmt := inClass (top 8) 0
theorem sc_NoRows__init__ : FnScope ["self", "part", "index"] ["self", "part", "index"] (defScope s_NoRows__init__) := ⟨rfl, rfl, rfl, by decide +kernel, rfl, by decide +kernel, by decide +kernel⟩
abbrev s_NoText__init__ : Stmt := inClass (top 11) 0
theorem sc_NoText__init__ : FnScope ["self", "index"] ["self", "index"] (defScope s_NoText__init__) := ⟨rfl, rfl, rfl, by decide +kernel, rfl, by decide +kernel, by decide +kernel⟩
abbrev s_NoAnswer__init__ : Stmt := inClass (top 12) 0
theorem sc_NoAnswer__init__ : FnScope ["self", "part", "index"] ["self", "part", "index"] (defScope s_NoAnswer__init__) := ⟨rfl, rfl, rfl, by decide +kernel, rfl, by decide +kernel, by decide +kernel⟩
abbrev s_NoName__init__ : Stmt := inClass (top 13) 0
theorem sc_NoName__init__ : FnScope ["self", "name"] ["self", "name"] (defScope s_NoName__init__) := ⟨rfl, rfl, rfl, by decide +kernel, rfl, by decide +kernel, by decide +kernel⟩
abbrev s__law_cell : Stmt := top 15
theorem sc__law_cell : FnScope ["_law_script", "_law_k"] ["_law_script", "_law_k"] (defScope s__law_cell) := ⟨rfl, rfl, rfl, by decide +kernel, rfl, by decide +kernel, by decide +kernel⟩
abbrev s__law_start : Stmt := top 16
theorem sc__law_start : FnScope ["_law_cell_here", "_law_number"] ["_law_cell_here"] (defScope s__law_start) := ⟨rfl, rfl, rfl, by decide +kernel, rfl, by decide +kernel, by decide +kernel⟩
abbrev s__law_take : Stmt := top 17
theorem sc__law_take : FnScope ["_law_state", "_law_limit", "_law_number", "_law_one", "_law_two", "_law_three"] ["_law_state", "_law_limit"] (defScope s__law_take) := ⟨rfl, rfl, rfl, by decide +kernel, rfl, by decide +kernel, by decide +kernel⟩
abbrev s__law_classes : Stmt := top 18
theorem sc__law_classes : FnScope ["_law_error", "_law_found"] ["_law_error"] (defScope s__law_classes) := ⟨rfl, rfl, rfl, by decide +kernel, rfl, by decide +kernel, by decide +kernel⟩
abbrev s__law_by_place : Stmt := top 19
theorem sc__law_by_place : FnScope ["_law_one", "_law_two", "_law_first"] ["_law_one", "_law_two"] (defScope s__law_by_place) := ⟨rfl, rfl, rfl, by decide +kernel, rfl, by decide +kernel, by decide +kernel⟩
abbrev s__law_by_name : Stmt := top 20
theorem sc__law_by_name : FnScope ["_law_one", "_law_two", "_law_first"] ["_law_one", "_law_two"] (defScope s__law_by_name) := ⟨rfl, rfl, rfl, by decide +kernel, rfl, by decide +kernel, by decide +kernel⟩
abbrev s__law_fields : Stmt := top 21
theorem sc__law_fields : FnScope ["_law_found", "_law_first"] ["_law_found"] (defScope s__law_fields) := ⟨rfl, rfl, rfl, by decide +kernel, rfl, by decide +kernel, by decide +kernel⟩
abbrev s_law : Stmt := top 22
theorem sc_law : FnScope ["_law_script", "_law_state", "_law_values", "_law_one", "_law_two", "_law_found", "_law_k", "_law_j"] ["_law_script"] (defScope s_law) := ⟨rfl, rfl, rfl, by decide +kernel, rfl, by decide +kernel, by decide +kernel⟩
/-- where things stand -/
structure Ad where
  c_SweepError : Addr
  c_NoRow : Addr
  a_NoRow__init__ : Addr
  d_NoRow__init__ : FuncData
  c_NoSweep : Addr
  a_NoSweep__init__ : Addr
  d_NoSweep__init__ : FuncData
  c_NoChain : Addr
  a_NoChain__init__ : Addr
  d_NoChain__init__ : FuncData
  c_NoNumber : Addr
  a_NoNumber__init__ : Addr
  d_NoNumber__init__ : FuncData
  c_TooMany : Addr
  a_TooMany__init__ : Addr
  d_TooMany__init__ : FuncData
  c_TooLarge : Addr
  a_TooLarge__init__ : Addr
  d_TooLarge__init__ : FuncData
  c_NoRows : Addr
  a_NoRows__init__ : Addr
  d_NoRows__init__ : FuncData
  c_NoForm : Addr
  c_NoRing : Addr
  c_NoText : Addr
  a_NoText__init__ : Addr
  d_NoText__init__ : FuncData
  c_NoAnswer : Addr
  a_NoAnswer__init__ : Addr
  d_NoAnswer__init__ : FuncData
  c_NoName : Addr
  a_NoName__init__ : Addr
  d_NoName__init__ : FuncData
  a__law_cell : Addr
  d__law_cell : FuncData
  a__law_start : Addr
  d__law_start : FuncData
  a__law_take : Addr
  d__law_take : FuncData
  a__law_classes : Addr
  d__law_classes : FuncData
  a__law_by_place : Addr
  d__law_by_place : FuncData
  a__law_by_name : Addr
  d__law_by_name : FuncData
  a__law_fields : Addr
  d__law_fields : FuncData
  a_law : Addr
  d_law : FuncData
def cls (D : Ad) : Nat → Addr
  | 0 => D.c_NoAnswer
  | 1 => D.c_NoChain
  | 2 => D.c_NoForm
  | 3 => D.c_NoName
  | 4 => D.c_NoNumber
  | 5 => D.c_NoRing
  | 6 => D.c_NoRow
  | 7 => D.c_NoRows
  | 8 => D.c_NoSweep
  | 9 => D.c_NoText
  | 10 => D.c_TooLarge
  | 11 => D.c_TooMany
  | _ => 0
/-- what the top has written -/
structure Txt (K : PySem.W.Frag) (mg : Str → Option Value) (D : Ad) : Prop where
  g_SweepError : mg "SweepError" = some (.ref D.c_SweepError)
  f_SweepError : XfC K D.c_SweepError
  g_NoRow : mg "NoRow" = some (.ref D.c_NoRow)
  x_NoRow : OexC K D.c_NoRow
  f_NoRow : XfC K D.c_NoRow
  F_NoRow__init__ : Fun K "__init__" "NoRow.__init__" s_NoRow__init__ D.a_NoRow__init__ D.d_NoRow__init__
  b_NoRow__init__ : Binds K D.d_NoRow__init__ ["self", "index"] []
  i_NoRow__init__ : PySem.W.findIn K (.ref D.c_NoRow) "__init__" = some (some (.ref D.a_NoRow__init__))
  t_NoRow__init__ : PySem.W.typeIn K (.ref D.a_NoRow__init__) = some (.type "function")
  no_NoRow_index : PySem.W.findIn K (.ref D.c_NoRow) "index" = some none
  g_NoSweep : mg "NoSweep" = some (.ref D.c_NoSweep)
  x_NoSweep : OexC K D.c_NoSweep
  f_NoSweep : XfC K D.c_NoSweep
  F_NoSweep__init__ : Fun K "__init__" "NoSweep.__init__" s_NoSweep__init__ D.a_NoSweep__init__ D.d_NoSweep__init__
  b_NoSweep__init__ : Binds K D.d_NoSweep__init__ ["self", "part"] []
  i_NoSweep__init__ : PySem.W.findIn K (.ref D.c_NoSweep) "__init__" = some (some (.ref D.a_NoSweep__init__))
  t_NoSweep__init__ : PySem.W.typeIn K (.ref D.a_NoSweep__init__) = some (.type "function")
  no_NoSweep_part : PySem.W.findIn K (.ref D.c_NoSweep) "part" = some none
  g_NoChain : mg "NoChain" = some (.ref D.c_NoChain)
  x_NoChain : OexC K D.c_NoChain
  f_NoChain : XfC K D.c_NoChain
  F_NoChain__init__ : Fun K "__init__" "NoChain.__init__" s_NoChain__init__ D.a_NoChain__init__ D.d_NoChain__init__
  b_NoChain__init__ : Binds K D.d_NoChain__init__ ["self", "name"] []
  i_NoChain__init__ : PySem.W.findIn K (.ref D.c_NoChain) "__init__" = some (some (.ref D.a_NoChain__init__))
  t_NoChain__init__ : PySem.W.typeIn K (.ref D.a_NoChain__init__) = some (.type "function")
  no_NoChain_name : PySem.W.findIn K (.ref D.c_NoChain) "name" = some none
  g_NoNumber : mg "NoNumber" = some (.ref D.c_NoNumber)
  x_NoNumber : OexC K D.c_NoNumber
  f_NoNumber : XfC K D.c_NoNumber
  F_NoNumber__init__ : Fun K "__init__" "NoNumber.__init__" s_NoNumber__init__ D.a_NoNumber__init__ D.d_NoNumber__init__
  b_NoNumber__init__ : Binds K D.d_NoNumber__init__ ["self", "name"] []
  i_NoNumber__init__ : PySem.W.findIn K (.ref D.c_NoNumber) "__init__" = some (some (.ref D.a_NoNumber__init__))
  t_NoNumber__init__ : PySem.W.typeIn K (.ref D.a_NoNumber__init__) = some (.type "function")
  no_NoNumber_name : PySem.W.findIn K (.ref D.c_NoNumber) "name" = some none
  g_TooMany : mg "TooMany" = some (.ref D.c_TooMany)
  x_TooMany : OexC K D.c_TooMany
  f_TooMany : XfC K D.c_TooMany
  F_TooMany__init__ : Fun K "__init__" "TooMany.__init__" s_TooMany__init__ D.a_TooMany__init__ D.d_TooMany__init__
  b_TooMany__init__ : Binds K D.d_TooMany__init__ ["self", "most"] []
  i_TooMany__init__ : PySem.W.findIn K (.ref D.c_TooMany) "__init__" = some (some (.ref D.a_TooMany__init__))
  t_TooMany__init__ : PySem.W.typeIn K (.ref D.a_TooMany__init__) = some (.type "function")
  no_TooMany_most : PySem.W.findIn K (.ref D.c_TooMany) "most" = some none
  g_TooLarge : mg "TooLarge" = some (.ref D.c_TooLarge)
  x_TooLarge : OexC K D.c_TooLarge
  f_TooLarge : XfC K D.c_TooLarge
  F_TooLarge__init__ : Fun K "__init__" "TooLarge.__init__" s_TooLarge__init__ D.a_TooLarge__init__ D.d_TooLarge__init__
  b_TooLarge__init__ : Binds K D.d_TooLarge__init__ ["self", "part"] []
  i_TooLarge__init__ : PySem.W.findIn K (.ref D.c_TooLarge) "__init__" = some (some (.ref D.a_TooLarge__init__))
  t_TooLarge__init__ : PySem.W.typeIn K (.ref D.a_TooLarge__init__) = some (.type "function")
  no_TooLarge_part : PySem.W.findIn K (.ref D.c_TooLarge) "part" = some none
  g_NoRows : mg "NoRows" = some (.ref D.c_NoRows)
  x_NoRows : OexC K D.c_NoRows
  f_NoRows : XfC K D.c_NoRows
  F_NoRows__init__ : Fun K "__init__" "NoRows.__init__" s_NoRows__init__ D.a_NoRows__init__ D.d_NoRows__init__
  b_NoRows__init__ : Binds K D.d_NoRows__init__ ["self", "part", "index"] []
  i_NoRows__init__ : PySem.W.findIn K (.ref D.c_NoRows) "__init__" = some (some (.ref D.a_NoRows__init__))
  t_NoRows__init__ : PySem.W.typeIn K (.ref D.a_NoRows__init__) = some (.type "function")
  no_NoRows_part : PySem.W.findIn K (.ref D.c_NoRows) "part" = some none
  no_NoRows_index : PySem.W.findIn K (.ref D.c_NoRows) "index" = some none
  g_NoForm : mg "NoForm" = some (.ref D.c_NoForm)
  q_NoForm : PySem.W.excIn K D.c_NoForm [.type "ValueError", .type "Exception", .type "BaseException", .type "object"] "ValueError.__new__" = true
  kc_NoForm : PySem.W.keepIn K (.ref D.c_NoForm) = true
  f_NoForm : XfC K D.c_NoForm
  g_NoRing : mg "NoRing" = some (.ref D.c_NoRing)
  q_NoRing : PySem.W.excIn K D.c_NoRing [.type "ValueError", .type "Exception", .type "BaseException", .type "object"] "ValueError.__new__" = true
  kc_NoRing : PySem.W.keepIn K (.ref D.c_NoRing) = true
  f_NoRing : XfC K D.c_NoRing
  g_NoText : mg "NoText" = some (.ref D.c_NoText)
  x_NoText : OexC K D.c_NoText
  f_NoText : XfC K D.c_NoText
  F_NoText__init__ : Fun K "__init__" "NoText.__init__" s_NoText__init__ D.a_NoText__init__ D.d_NoText__init__
  b_NoText__init__ : Binds K D.d_NoText__init__ ["self", "index"] []
  i_NoText__init__ : PySem.W.findIn K (.ref D.c_NoText) "__init__" = some (some (.ref D.a_NoText__init__))
  t_NoText__init__ : PySem.W.typeIn K (.ref D.a_NoText__init__) = some (.type "function")
  no_NoText_index : PySem.W.findIn K (.ref D.c_NoText) "index" = some none
  g_NoAnswer : mg "NoAnswer" = some (.ref D.c_NoAnswer)
  x_NoAnswer : OexC K D.c_NoAnswer
  f_NoAnswer : XfC K D.c_NoAnswer
  F_NoAnswer__init__ : Fun K "__init__" "NoAnswer.__init__" s_NoAnswer__init__ D.a_NoAnswer__init__ D.d_NoAnswer__init__
  b_NoAnswer__init__ : Binds K D.d_NoAnswer__init__ ["self", "part", "index"] []
  i_NoAnswer__init__ : PySem.W.findIn K (.ref D.c_NoAnswer) "__init__" = some (some (.ref D.a_NoAnswer__init__))
  t_NoAnswer__init__ : PySem.W.typeIn K (.ref D.a_NoAnswer__init__) = some (.type "function")
  no_NoAnswer_part : PySem.W.findIn K (.ref D.c_NoAnswer) "part" = some none
  no_NoAnswer_index : PySem.W.findIn K (.ref D.c_NoAnswer) "index" = some none
  g_NoName : mg "NoName" = some (.ref D.c_NoName)
  x_NoName : OexC K D.c_NoName
  f_NoName : XfC K D.c_NoName
  F_NoName__init__ : Fun K "__init__" "NoName.__init__" s_NoName__init__ D.a_NoName__init__ D.d_NoName__init__
  b_NoName__init__ : Binds K D.d_NoName__init__ ["self", "name"] []
  i_NoName__init__ : PySem.W.findIn K (.ref D.c_NoName) "__init__" = some (some (.ref D.a_NoName__init__))
  t_NoName__init__ : PySem.W.typeIn K (.ref D.a_NoName__init__) = some (.type "function")
  no_NoName_name : PySem.W.findIn K (.ref D.c_NoName) "name" = some none
  kits : ∀ k j, k < 12 → j < 12 → PySem.W.kitOne K (.ref (cls D k)) (.ref (cls D j)) = some (k == j)
  excs : ∀ k, k < 12 → ExcC K (cls D k)
  kse : ∀ k, k < 12 → PySem.W.kitOne K (.ref (cls D k)) (.ref D.c_SweepError) = some true
  kve : ∀ k, k < 12 → PySem.W.kitOne K (.ref (cls D k)) (.type "ValueError") = some true
  F__law_cell : Fun K "_law_cell" "_law_cell" s__law_cell D.a__law_cell D.d__law_cell
  g__law_cell : mg "_law_cell" = some (.ref D.a__law_cell)
  b__law_cell : Binds K D.d__law_cell ["_law_script", "_law_k"] []
  F__law_start : Fun K "_law_start" "_law_start" s__law_start D.a__law_start D.d__law_start
  g__law_start : mg "_law_start" = some (.ref D.a__law_start)
  b__law_start : Binds K D.d__law_start ["_law_cell_here"] []
  F__law_take : Fun K "_law_take" "_law_take" s__law_take D.a__law_take D.d__law_take
  g__law_take : mg "_law_take" = some (.ref D.a__law_take)
  b__law_take : Binds K D.d__law_take ["_law_state", "_law_limit"] []
  F__law_classes : Fun K "_law_classes" "_law_classes" s__law_classes D.a__law_classes D.d__law_classes
  g__law_classes : mg "_law_classes" = some (.ref D.a__law_classes)
  b__law_classes : Binds K D.d__law_classes ["_law_error"] []
  F__law_by_place : Fun K "_law_by_place" "_law_by_place" s__law_by_place D.a__law_by_place D.d__law_by_place
  g__law_by_place : mg "_law_by_place" = some (.ref D.a__law_by_place)
  b__law_by_place : Binds K D.d__law_by_place ["_law_one", "_law_two"] []
  F__law_by_name : Fun K "_law_by_name" "_law_by_name" s__law_by_name D.a__law_by_name D.d__law_by_name
  g__law_by_name : mg "_law_by_name" = some (.ref D.a__law_by_name)
  b__law_by_name : Binds K D.d__law_by_name ["_law_one", "_law_two"] []
  F__law_fields : Fun K "_law_fields" "_law_fields" s__law_fields D.a__law_fields D.d__law_fields
  g__law_fields : mg "_law_fields" = some (.ref D.a__law_fields)
  b__law_fields : Binds K D.d__law_fields ["_law_found"] []
  F_law : Fun K "law" "law" s_law D.a_law D.d_law
  g_law : mg "law" = some (.ref D.a_law)
  b_law : Binds K D.d_law ["_law_script"] []
  n_ValueError : mg "ValueError" = none
  n_abs : mg "abs" = none
  n_int : mg "int" = none
  n_isinstance : mg "isinstance" = none
  n_len : mg "len" = none
  n_range : mg "range" = none
end Rk

namespace Rk
open PySem L2 Own
local macro_rules | `(tactic| walk_at "side") => `(tactic| first | exact trivial | (show (0:Int) < _; first | assumption | decide | omega) | exact Or.inl ⟨by decide, by decide⟩ | exact Or.inl ⟨by omega, by omega⟩ | exact Or.inr ⟨by decide, by decide⟩ | exact ⟨by decide, by decide⟩ | exact ⟨by decide, by decide, by decide⟩ | exact ⟨by omega, by omega⟩)
local macro_rules | `(tactic| walk_at "rd") => `(tactic| repeat (with_reducible first | refine r_next ?_ | refine r_ret ?_ | refine r_seq ?_ | refine r_asg ?_ | refine r_drop ?_ | refine r_call ?_ | refine r_cons ?_ | refine r_nil ?_ | refine r_cb ?_ | refine r_op ?_ | refine r_sset ?_ | refine r_var (by with_unfolding_all rfl) ?_ | refine r_c ?_ | refine r_name ?_ | refine r_I0 ?_ | refine r_I (by with_unfolding_all walk_at "side") ?_ | refine r_un ?_ | refine r_U ?_ | refine r_if ?_ | refine r_ifE ?_ | refine r_test ?_ | refine r_B ?_ | refine r_bl ?_ | refine r_not ?_ | refine r_and ?_ | refine r_or ?_ | refine r_andV ?_ | refine r_orV ?_ | refine r_notV ?_ | refine r_eqI ?_ | refine r_neI ?_ | refine r_tup ?_ | refine r_lst ?_ | refine r_sub ?_ | refine r_intI ?_ | refine r_intB ?_ | refine r_abs ?_ | refine r_max ?_ | refine r_ixL (SqL.of (by assumption)) (by with_unfolding_all rfl) ?_ | refine r_ixT (SqT.of (by assumption)) (by with_unfolding_all rfl) ?_ | refine r_lenL (SqL.of (by assumption)) ?_ | refine r_lenT (SqT.of (by assumption)) ?_ | refine r_callS ?_ | refine r_cutnx ?_ | refine r_cutrt ?_ | refine r_chain ?_ | refine r_yes ?_ | refine iteT ?_ | refine iteF ?_ | refine iteNF ?_ | refine iteNT ?_ | refine r_truth ?_ | refine r_truI ?_ | refine r_sliceV ?_ | refine r_for ?_ | refine r_rng1 ?_ | refine r_i1 (by with_unfolding_all walk_at "side") ?_))
/-- an error that stands as a value: its class, its fields (none: without a dict) -/
def ErrOk (H : Hp) (e C : Addr) : Option (List (Str × V)) → Prop
  | none => H e = some (exo e C none)
  | some fs => ∃ d, H e = some (exo e C (some d)) ∧ H d = some (exd d fs)
theorem ErrOk.ext {H H' : Hp} {e C : Addr} {fs : Option (List (Str × V))} (x : Ext H H') (h : ErrOk H e C fs) : ErrOk H' e C fs := by
  cases fs with
  | none => exact x _ _ h
  | some fs =>
    obtain ⟨d, h1, h2⟩ := h
    exact ⟨d, x _ _ h1, x _ _ h2⟩
/-- __init__(self, f, g) of an own error with two fields -/
def spInit2 (C : Addr) (f g : Str) : Sp := fun vs H Q _ => ∃ (a : Addr) (v u : V), vs = [.ref a, v, u] ∧ H a = some (exo a C none) ∧ ∀ d, H d = none → d ≠ a → Q .non (upd (upd (upd H d (exd d [(f, v)])) a (exo a C (some d))) d (exd d [(g, u), (f, v)]))
theorem born1 {H : Hp} {a d C : Addr} {fs : List (Str × V)} (ha : H a = none) (hd : upd H a (exo a C none) d = none) (ne : d ≠ a) :
    Ext H (upd (upd (upd H a (exo a C none)) d (exd d fs)) a (exo a C (some d))) ∧ ErrOk (upd (upd (upd H a (exo a C none)) d (exd d fs)) a (exo a C (some d))) a C (some fs) := by
  rw [upd_ne ne] at hd
  refine ⟨fun b o hb => ?_, d, upd_same, by rw [upd_ne ne, upd_same]⟩
  rw [upd_ne (ne_of_none hb ha), upd_ne (ne_of_none hb hd), upd_ne (ne_of_none hb ha)]
  exact hb
theorem r_err1 {C : Addr} {f : Str} {i : Nat} {v : V} {σ : L2.St} {H : Hp} {Q : VK} (e : σ[i]? = some (some v)) (q : ∀ a H', H a = none → Ext H H' → ErrOk H' a C (some [(f, v)]) → Q (.ref a) H') :
    tErr C (spInit1 C f) (tCons (tVar i) tNil) σ H Q := by
  refine ⟨v, e, ?_⟩
  refine ⟨by show 1 ≤ 1000; decide, fun a ha => ⟨a, v, rfl, upd_same, fun d hd ne => ⟨rfl, ?_⟩⟩⟩
  obtain ⟨x, k⟩ := born1 (fs := [(f, v)]) ha hd ne
  exact q a _ ha x k
theorem r_err2 {C : Addr} {f g : Str} {i j : Nat} {v u : V} {σ : L2.St} {H : Hp} {Q : VK} (e : σ[i]? = some (some v)) (e' : σ[j]? = some (some u)) (q : ∀ a H', H a = none → Ext H H' → ErrOk H' a C (some [(g, u), (f, v)]) → Q (.ref a) H') :
    tErr C (spInit2 C f g) (tCons (tVar i) (tCons (tVar j) tNil)) σ H Q := by
  refine ⟨v, e, u, e', ?_⟩
  refine ⟨by show 2 ≤ 1000; decide, fun a ha => ⟨a, v, u, rfl, upd_same, fun d hd ne => ⟨rfl, ?_⟩⟩⟩
  rw [upd_ne ne] at hd
  refine q a _ ha (fun b o hb => ?_) ⟨d, by rw [upd_ne ne.symm, upd_same], upd_same⟩
  rw [upd_ne (ne_of_none hb hd), upd_ne (ne_of_none hb ha), upd_ne (ne_of_none hb hd), upd_ne (ne_of_none hb ha)]
  exact hb
def perm2 {α : Type} : List α → List α
  | [a, b] => [b, a]
  | l => l
theorem vals1 {zs : List V} {ws : List Value} (r : Vals zs ws) : Vals (id zs) (id ws) := r
theorem vals2 {zs : List V} {ws : List Value} (r : Vals zs ws) : Vals (perm2 zs) (perm2 ws) := by
  match zs, ws, r with
  | [], [], r => exact r
  | [_], [_], r => exact r
  | [a, b], [c, d], .cons r1 (.cons r2 .nil) => exact .cons r2 (.cons r1 .nil)
  | a :: b :: c :: l, d :: e :: f :: m, r => exact r
theorem r_errK1 {C : Addr} {f : Str} {i : Nat} {v : V} {σ : L2.St} {H : Hp} {Q : VK} (e : σ[i]? = some (some v)) (q : ∀ a H', H a = none → Ext H H' → ErrOk H' a C (some [(f, v)]) → Q (.ref a) H') :
    tErrK C (spInit1 C f) id 1 (tCons (tVar i) tNil) σ H Q := by
  refine ⟨v, e, ?_⟩
  refine ⟨rfl, fun a ha => ⟨a, v, rfl, upd_same, fun d hd ne => ⟨rfl, ?_⟩⟩⟩
  obtain ⟨x, k⟩ := born1 (fs := [(f, v)]) ha hd ne
  exact q a _ ha x k
theorem r_errK2 {C : Addr} {f g : Str} {i j : Nat} {v u : V} {σ : L2.St} {H : Hp} {Q : VK} (e : σ[i]? = some (some v)) (e' : σ[j]? = some (some u)) (q : ∀ a H', H a = none → Ext H H' → ErrOk H' a C (some [(g, u), (f, v)]) → Q (.ref a) H') :
    tErrK C (spInit2 C f g) perm2 2 (tCons (tVar j) (tCons (tVar i) tNil)) σ H Q := by
  refine ⟨u, e', v, e, ?_⟩
  refine ⟨rfl, fun a ha => ⟨a, v, u, rfl, upd_same, fun d hd ne => ⟨rfl, ?_⟩⟩⟩
  rw [upd_ne ne] at hd
  refine q a _ ha (fun b o hb => ?_) ⟨d, by rw [upd_ne ne.symm, upd_same], upd_same⟩
  rw [upd_ne (ne_of_none hb hd), upd_ne (ne_of_none hb ha), upd_ne (ne_of_none hb hd), upd_ne (ne_of_none hb ha)]
  exact hb
theorem r_err0 {C : Addr} {σ : L2.St} {H : Hp} {Q : VK} (q : ∀ a H', H a = none → Ext H H' → ErrOk H' a C none → Q (.ref a) H') : tErr0 C σ H Q := fun a ha => q a _ ha (Ext.new ha) upd_same
theorem kb1 {K : PySem.W.Frag} {x qual : Str} {st : Stmt} {f : Addr} {fd : FuncData} {y : Str} (F : Fun K x qual st f fd)
    (h : ∀ (kV doc pm : Value) (an : Option Addr) (cdv ct : Value) (self u : Value), bindArgs (PySem.W.fnOf x qual (defArgs st) (defBody st) (defScope st) .none kV doc pm an cdv ct) ⟨[self], [(y, u)]⟩ = pure ((["self", y] : List Str).zip [self, u]) := by intros; rfl) :
    ∀ (s : Shared) (self : Value) (ws : List Value), ws.length = ([y] : List Str).length → BindsTo s fd ⟨[self], ([y] : List Str).zip ws⟩ ((["self", y] : List Str).zip (self :: id ws)) := by
  intro s self ws hl
  obtain ⟨oc, od, kV, doc, pm, an, cdv, ct, osl, rfl, lk, hcd⟩ := F.ex
  match ws, hl with
  | [u], _ => exact .of_eq (h kV doc pm an cdv ct self u)
theorem kb2 {K : PySem.W.Frag} {x qual : Str} {st : Stmt} {f : Addr} {fd : FuncData} (F : Fun K x qual st f fd)
    (h : ∀ (kV doc pm : Value) (an : Option Addr) (cdv ct : Value) (self u v : Value), bindArgs (PySem.W.fnOf x qual (defArgs st) (defBody st) (defScope st) .none kV doc pm an cdv ct) ⟨[self], [("index", u), ("part", v)]⟩ = pure ((["self", "part", "index"] : List Str).zip [self, v, u]) := by intros; rfl) :
    ∀ (s : Shared) (self : Value) (ws : List Value), ws.length = (["index", "part"] : List Str).length → BindsTo s fd ⟨[self], (["index", "part"] : List Str).zip ws⟩ ((["self", "part", "index"] : List Str).zip (self :: perm2 ws)) := by
  intro s self ws hl
  obtain ⟨oc, od, kV, doc, pm, an, cdv, ct, osl, rfl, lk, hcd⟩ := F.ex
  match ws, hl with
  | [u, v], _ => exact .of_eq (h kV doc pm an cdv ct self u v)
section
variable {P : Program} {w : World} {K : PySem.W.Frag} {mg : Str → Option Value} {base : Heap} {D : Ad}
theorem ok_NoChain__init__ (T : Txt K mg D) : FnOk P w K mg base CX0 1 D.a_NoChain__init__ D.d_NoChain__init__ ["self", "name"] (spInit1 D.c_NoChain "name") := by
  refine T.F_NoChain__init__.ok sc_NoChain__init__ (fun vs H Q E h => ?_) (fun cdv A outer s H vs Q E hr h => ?_)
  · obtain ⟨a, v, rfl, _⟩ := h
    rfl
  · obtain ⟨a, v, rfl, ha, k⟩ := h
    refine ⟨_, pss_one (ps_ost (pv 0) (pv 1)), ?_⟩
    exact ⟨v, rfl, _, rfl, a, D.c_NoChain, rfl, T.x_NoChain, T.no_NoChain_name, .inl ⟨ha, fun d n ne => k d n ne⟩⟩
theorem ok_NoName__init__ (T : Txt K mg D) : FnOk P w K mg base CX0 1 D.a_NoName__init__ D.d_NoName__init__ ["self", "name"] (spInit1 D.c_NoName "name") := by
  refine T.F_NoName__init__.ok sc_NoName__init__ (fun vs H Q E h => ?_) (fun cdv A outer s H vs Q E hr h => ?_)
  · obtain ⟨a, v, rfl, _⟩ := h
    rfl
  · obtain ⟨a, v, rfl, ha, k⟩ := h
    refine ⟨_, pss_one (ps_ost (pv 0) (pv 1)), ?_⟩
    exact ⟨v, rfl, _, rfl, a, D.c_NoName, rfl, T.x_NoName, T.no_NoName_name, .inl ⟨ha, fun d n ne => k d n ne⟩⟩
theorem ok_NoNumber__init__ (T : Txt K mg D) : FnOk P w K mg base CX0 1 D.a_NoNumber__init__ D.d_NoNumber__init__ ["self", "name"] (spInit1 D.c_NoNumber "name") := by
  refine T.F_NoNumber__init__.ok sc_NoNumber__init__ (fun vs H Q E h => ?_) (fun cdv A outer s H vs Q E hr h => ?_)
  · obtain ⟨a, v, rfl, _⟩ := h
    rfl
  · obtain ⟨a, v, rfl, ha, k⟩ := h
    refine ⟨_, pss_one (ps_ost (pv 0) (pv 1)), ?_⟩
    exact ⟨v, rfl, _, rfl, a, D.c_NoNumber, rfl, T.x_NoNumber, T.no_NoNumber_name, .inl ⟨ha, fun d n ne => k d n ne⟩⟩
theorem ok_NoRow__init__ (T : Txt K mg D) : FnOk P w K mg base CX0 1 D.a_NoRow__init__ D.d_NoRow__init__ ["self", "index"] (spInit1 D.c_NoRow "index") := by
  refine T.F_NoRow__init__.ok sc_NoRow__init__ (fun vs H Q E h => ?_) (fun cdv A outer s H vs Q E hr h => ?_)
  · obtain ⟨a, v, rfl, _⟩ := h
    rfl
  · obtain ⟨a, v, rfl, ha, k⟩ := h
    refine ⟨_, pss_one (ps_ost (pv 0) (pv 1)), ?_⟩
    exact ⟨v, rfl, _, rfl, a, D.c_NoRow, rfl, T.x_NoRow, T.no_NoRow_index, .inl ⟨ha, fun d n ne => k d n ne⟩⟩
theorem ok_NoSweep__init__ (T : Txt K mg D) : FnOk P w K mg base CX0 1 D.a_NoSweep__init__ D.d_NoSweep__init__ ["self", "part"] (spInit1 D.c_NoSweep "part") := by
  refine T.F_NoSweep__init__.ok sc_NoSweep__init__ (fun vs H Q E h => ?_) (fun cdv A outer s H vs Q E hr h => ?_)
  · obtain ⟨a, v, rfl, _⟩ := h
    rfl
  · obtain ⟨a, v, rfl, ha, k⟩ := h
    refine ⟨_, pss_one (ps_ost (pv 0) (pv 1)), ?_⟩
    exact ⟨v, rfl, _, rfl, a, D.c_NoSweep, rfl, T.x_NoSweep, T.no_NoSweep_part, .inl ⟨ha, fun d n ne => k d n ne⟩⟩
theorem ok_NoText__init__ (T : Txt K mg D) : FnOk P w K mg base CX0 1 D.a_NoText__init__ D.d_NoText__init__ ["self", "index"] (spInit1 D.c_NoText "index") := by
  refine T.F_NoText__init__.ok sc_NoText__init__ (fun vs H Q E h => ?_) (fun cdv A outer s H vs Q E hr h => ?_)
  · obtain ⟨a, v, rfl, _⟩ := h
    rfl
  · obtain ⟨a, v, rfl, ha, k⟩ := h
    refine ⟨_, pss_one (ps_ost (pv 0) (pv 1)), ?_⟩
    exact ⟨v, rfl, _, rfl, a, D.c_NoText, rfl, T.x_NoText, T.no_NoText_index, .inl ⟨ha, fun d n ne => k d n ne⟩⟩
theorem ok_TooLarge__init__ (T : Txt K mg D) : FnOk P w K mg base CX0 1 D.a_TooLarge__init__ D.d_TooLarge__init__ ["self", "part"] (spInit1 D.c_TooLarge "part") := by
  refine T.F_TooLarge__init__.ok sc_TooLarge__init__ (fun vs H Q E h => ?_) (fun cdv A outer s H vs Q E hr h => ?_)
  · obtain ⟨a, v, rfl, _⟩ := h
    rfl
  · obtain ⟨a, v, rfl, ha, k⟩ := h
    refine ⟨_, pss_one (ps_ost (pv 0) (pv 1)), ?_⟩
    exact ⟨v, rfl, _, rfl, a, D.c_TooLarge, rfl, T.x_TooLarge, T.no_TooLarge_part, .inl ⟨ha, fun d n ne => k d n ne⟩⟩
theorem ok_TooMany__init__ (T : Txt K mg D) : FnOk P w K mg base CX0 1 D.a_TooMany__init__ D.d_TooMany__init__ ["self", "most"] (spInit1 D.c_TooMany "most") := by
  refine T.F_TooMany__init__.ok sc_TooMany__init__ (fun vs H Q E h => ?_) (fun cdv A outer s H vs Q E hr h => ?_)
  · obtain ⟨a, v, rfl, _⟩ := h
    rfl
  · obtain ⟨a, v, rfl, ha, k⟩ := h
    refine ⟨_, pss_one (ps_ost (pv 0) (pv 1)), ?_⟩
    exact ⟨v, rfl, _, rfl, a, D.c_TooMany, rfl, T.x_TooMany, T.no_TooMany_most, .inl ⟨ha, fun d n ne => k d n ne⟩⟩
theorem ok_NoAnswer__init__ (T : Txt K mg D) : FnOk P w K mg base CX0 1 D.a_NoAnswer__init__ D.d_NoAnswer__init__ ["self", "part", "index"] (spInit2 D.c_NoAnswer "part" "index") := by
  refine T.F_NoAnswer__init__.ok sc_NoAnswer__init__ (fun vs H Q E h => ?_) (fun cdv A outer s H vs Q E hr h => ?_)
  · obtain ⟨a, v, u, rfl, _⟩ := h
    rfl
  · obtain ⟨a, v, u, rfl, ha, k⟩ := h
    refine ⟨_, pss_cons (ps_ost (pv 0) (pv 1)) (pss_one (ps_ost (pv 0) (pv 2))), ?_⟩
    refine ⟨v, rfl, _, rfl, a, D.c_NoAnswer, rfl, T.x_NoAnswer, T.no_NoAnswer_part, .inl ⟨ha, fun d n ne => ?_⟩⟩
    exact ⟨u, rfl, _, rfl, a, D.c_NoAnswer, rfl, T.x_NoAnswer, T.no_NoAnswer_index, .inr ⟨d, _, upd_same, by rw [upd_ne ne, upd_same], by show 1 ≤ 900; decide, k d n ne⟩⟩
theorem ok_NoRows__init__ (T : Txt K mg D) : FnOk P w K mg base CX0 1 D.a_NoRows__init__ D.d_NoRows__init__ ["self", "part", "index"] (spInit2 D.c_NoRows "part" "index") := by
  refine T.F_NoRows__init__.ok sc_NoRows__init__ (fun vs H Q E h => ?_) (fun cdv A outer s H vs Q E hr h => ?_)
  · obtain ⟨a, v, u, rfl, _⟩ := h
    rfl
  · obtain ⟨a, v, u, rfl, ha, k⟩ := h
    refine ⟨_, pss_cons (ps_ost (pv 0) (pv 1)) (pss_one (ps_ost (pv 0) (pv 2))), ?_⟩
    refine ⟨v, rfl, _, rfl, a, D.c_NoRows, rfl, T.x_NoRows, T.no_NoRows_part, .inl ⟨ha, fun d n ne => ?_⟩⟩
    exact ⟨u, rfl, _, rfl, a, D.c_NoRows, rfl, T.x_NoRows, T.no_NoRows_index, .inr ⟨d, _, upd_same, by rw [upd_ne ne, upd_same], by show 1 ≤ 900; decide, k d n ne⟩⟩
end
end Rk

namespace Rk
open PySem L2 Own
local macro_rules | `(tactic| walk_at "side") => `(tactic| first | exact trivial | (show (0:Int) < _; first | assumption | decide | omega) | exact Or.inl ⟨by decide, by decide⟩ | exact Or.inl ⟨by omega, by omega⟩ | exact Or.inr ⟨by decide, by decide⟩ | exact ⟨by decide, by decide⟩ | exact ⟨by decide, by decide, by decide⟩ | exact ⟨by omega, by omega⟩)
local macro_rules | `(tactic| walk_at "rd") => `(tactic| repeat (with_reducible first | refine r_next ?_ | refine r_ret ?_ | refine r_seq ?_ | refine r_asg ?_ | refine r_drop ?_ | refine r_call ?_ | refine r_cons ?_ | refine r_nil ?_ | refine r_cb ?_ | refine r_op ?_ | refine r_sset ?_ | refine r_var (by with_unfolding_all rfl) ?_ | refine r_c ?_ | refine r_name ?_ | refine r_I0 ?_ | refine r_I (by with_unfolding_all walk_at "side") ?_ | refine r_un ?_ | refine r_U ?_ | refine r_if ?_ | refine r_ifE ?_ | refine r_test ?_ | refine r_B ?_ | refine r_bl ?_ | refine r_not ?_ | refine r_and ?_ | refine r_or ?_ | refine r_andV ?_ | refine r_orV ?_ | refine r_notV ?_ | refine r_eqI ?_ | refine r_neI ?_ | refine r_tup ?_ | refine r_lst ?_ | refine r_sub ?_ | refine r_intI ?_ | refine r_intB ?_ | refine r_abs ?_ | refine r_max ?_ | refine r_ixL (SqL.of (by assumption)) (by with_unfolding_all rfl) ?_ | refine r_ixT (SqT.of (by assumption)) (by with_unfolding_all rfl) ?_ | refine r_lenL (SqL.of (by assumption)) ?_ | refine r_lenT (SqT.of (by assumption)) ?_ | refine r_callS ?_ | refine r_cutnx ?_ | refine r_cutrt ?_ | refine r_chain ?_ | refine r_yes ?_ | refine iteT ?_ | refine iteF ?_ | refine iteNF ?_ | refine iteNT ?_ | refine r_truth ?_ | refine r_truI ?_ | refine r_sliceV ?_ | refine r_for ?_ | refine r_rng1 ?_ | refine r_i1 (by with_unfolding_all walk_at "side") ?_))
section
variable {P : Program} {w : World} {K : PySem.W.Frag} {mg : Str → Option Value} {base : Heap} {D : Ad}
theorem at_ints {ns : List Int} {i : Int} (h0 : 0 ≤ i) (h1 : i < (ns.length : Int)) : ∃ z, atI (ns.map V.int) i = some (.int z) := by
  obtain ⟨j, rfl⟩ : ∃ j : Nat, i = (j : Int) := ⟨i.toNat, by omega⟩
  refine ⟨ns[j]'(by omega), atI_nat ?_⟩
  rw [List.getElem?_map, List.getElem?_eq_getElem (by omega)]
  rfl
theorem at_end {ns : List Int} (h : 0 < ns.length) : ∃ z, atI (ns.map V.int) (-1) = some (.int z) := by
  obtain ⟨r, z, rfl⟩ : ∃ r z, ns = r ++ [z] := ⟨ns.dropLast, ns.getLast (by intro e; rw [e] at h; cases h), (List.dropLast_concat_getLast _).symm⟩
  refine ⟨z, ?_⟩
  rw [List.map_append]
  exact atI_last _ _
def spCell (K : PySem.W.Frag) : Sp := fun vs H Q _ => ∃ (a : Addr) (ns : List Int) (k : Int), vs = [.ref a, .int k] ∧ SqL K H a (ns.map V.int) ∧ 0 ≤ k ∧ ∀ z : Int, Q (.int z) H
theorem ok__law_cell (T : Txt K mg D) : FnOk P w K mg base CX0 1 D.a__law_cell D.d__law_cell ["_law_script", "_law_k"] (spCell K) := by
  refine T.F__law_cell.ok sc__law_cell (fun vs H Q E h => ?_) (fun cdv A outer s H vs Q E hr h => ?_)
  · obtain ⟨a, ns, k, rfl, _⟩ := h
    rfl
  · obtain ⟨a, ns, k, rfl, hS, h0, q⟩ := h
    refine ⟨_, (pss_cons (ps_if (pt_cmpR op_lt (pv 1) (pe_callB (call_lenC K) (by rfl) T.n_len (by decide +kernel) (pa_cons (pv 0) pa_nil)) (nomark _))
    (pss_one (ps_ret (pe_ix (ix_listC K) (pv 0) (pv 1) (fun _ _ => rfl))))
    pss_nil)
  (pss_cons (ps_if (pt_cmpR op_gt (pe_callB (call_lenC K) (by rfl) T.n_len (by decide +kernel) (pa_cons (pv 0) pa_nil)) pe_int (nomark _))
    (pss_one (ps_ret (pe_op op_add (pe_op op_mod (pe_callTy call_intS (by rfl) T.n_int (by decide +kernel) (pa_cons (pe_ix (ix_listC K) (pv 0) (pe_un un_neg pe_int) (fun _ _ => rfl)) pa_nil)) pe_int) (pe_op op_mul pe_int (pv 1)))))
    pss_nil)
  (pss_one (ps_ret (pe_op op_mul pe_int (pv 1)))))), ?_⟩
    walk_at "rd"
    refine r_lenL hS ?_
    walk_at "rd"
    refine ite2 (fun h1 => ?_) (fun h1 => ?_)
    · have h1 : k < ((ns.map V.int).length : Int) := of_decide_eq_true h1
      rw [List.length_map] at h1
      obtain ⟨z, hz⟩ := at_ints h0 h1
      walk_at "rd"
      exact r_ixL hS hz (q z)
    · walk_at "rd"
      refine r_lenL hS ?_
      walk_at "rd"
      refine ite2 (fun h2 => ?_) (fun h2 => ?_)
      · have h2 : 0 < ((ns.map V.int).length : Int) := of_decide_eq_true h2
        rw [List.length_map] at h2
        obtain ⟨z, hz⟩ := at_end (ns := ns) (by omega)
        walk_at "rd"
        refine r_ixL hS hz ?_
        walk_at "rd"
        exact q _
      · walk_at "rd"
        exact q _
def spStart : Sp := fun vs H Q _ => ∃ z : Int, vs = [.int z] ∧ ∀ (l : Addr) (n b : Int) H', H l = none → Ext H H' → H' l = some (.lst [.int n, .int b, .int 0]) → 0 ≤ n → Q (.ref l) H'
theorem ok__law_start (T : Txt K mg D) : FnOk P w K mg base CX0 1 D.a__law_start D.d__law_start ["_law_cell_here"] spStart := by
  refine T.F__law_start.ok sc__law_start (fun vs H Q E h => ?_) (fun cdv A outer s H vs Q E hr h => ?_)
  · obtain ⟨z, rfl, _⟩ := h
    rfl
  · obtain ⟨z, rfl, q⟩ := h
    refine ⟨_, (pss_cons (ps_set (i := 1) sc__law_start.nd rfl (Or.inl rfl) (pe_callB call_absS (by rfl) T.n_abs (by decide +kernel) (pa_cons (pv 0) pa_nil)))
  (pss_one (ps_ret (pe_lst (pa_cons (pv 1) (pa_cons (pe_callTy call_intS (by rfl) T.n_int (by decide +kernel) (pa_cons (pe_cmpR op_ge (pv 1) (pe_op op_pow pe_int pe_int) (nomark _)) pa_nil)) (pa_cons pe_int pa_nil))))))), ?_⟩
    walk_at "rd"
    refine r_size (by show 3 ≤ 1000; decide) fun l hl => ?_
    exact q l _ _ _ hl (Ext.new hl) upd_same (by split <;> omega)
def spTake : Sp := fun vs H Q _ => ∃ (l : Addr) (n b c lim : Int), vs = [.ref l, .int lim] ∧ H l = some (.lst [.int n, .int b, .int c]) ∧ 0 < lim ∧ lim.natAbs.log2 < 9000 ∧
  ∀ (r : Int) (n b c : Int) H', 0 ≤ r → r < lim → H' l = some (.lst [.int n, .int b, .int c]) → Ext (wo l H) (wo l H') → Q (.int r) H'
theorem ok__law_take (T : Txt K mg D) : FnOk P w K mg base CX0 1 D.a__law_take D.d__law_take ["_law_state", "_law_limit"] spTake := by
  refine T.F__law_take.ok sc__law_take (fun vs H Q E h => ?_) (fun cdv A outer s H vs Q E hr h => ?_)
  · obtain ⟨l, n, b, c, lim, rfl, _⟩ := h
    rfl
  · obtain ⟨l, n, b, c, lim, rfl, hl, l0, l1, q⟩ := h
    refine ⟨_, (pss_cons (ps_set (i := 2) sc__law_take.nd rfl (Or.inl rfl) (pe_ix (ix_listC K) (pv 0) pe_int (fun _ _ => rfl)))
  (pss_cons (ps_if (pt_cmpR op_eq (pe_ix (ix_listC K) (pv 0) pe_int (fun _ _ => rfl)) pe_int (nomark _))
    (pss_cons (ps_asg (pe_op op_fdivW (pv 2) (pv 1)) (pg_sub (pv 0) pe_int set_list))
    (pss_one (ps_ret (pe_op op_mod (pe_callTy call_intS (by rfl) T.n_int (by decide +kernel) (pa_cons (pv 2) pa_nil)) (pv 1)))))
    pss_nil)
  (pss_cons (ps_asg (pe_op op_add (pe_ix (ix_listC K) (pv 0) pe_int (fun _ _ => rfl)) pe_int) (pg_sub (pv 0) pe_int set_list))
  (pss_cons (ps_set (i := 3) sc__law_take.nd rfl (Or.inl rfl) (pe_op op_mod (pe_callTy call_intS (by rfl) T.n_int (by decide +kernel) (pa_cons (pe_op op_add (pe_op op_mul (pe_op op_add (pv 2) (pe_op op_mul pe_int (pe_ix (ix_listC K) (pv 0) pe_int (fun _ _ => rfl)))) pe_int) pe_int) pa_nil)) pe_int))
  (pss_cons (ps_set (i := 4) sc__law_take.nd rfl (Or.inl rfl) (pe_op op_mod (pe_callTy call_intS (by rfl) T.n_int (by decide +kernel) (pa_cons (pe_op op_add (pe_op op_mul (pv 3) (pe_op op_add (pe_op op_fdivW (pv 3) pe_int) pe_int)) (pe_op op_mul pe_int (pe_ix (ix_listC K) (pv 0) pe_int (fun _ _ => rfl)))) pa_nil)) pe_int))
  (pss_cons (ps_set (i := 5) sc__law_take.nd rfl (Or.inl rfl) (pe_op op_mod (pe_callTy call_intS (by rfl) T.n_int (by decide +kernel) (pa_cons (pe_op op_add (pe_op op_mul (pv 4) (pe_op op_add (pe_op op_fdivW (pv 4) pe_int) pe_int)) pe_int) pa_nil)) pe_int))
  (pss_one (ps_ret (pe_op op_mod (pe_callTy call_intS (by rfl) T.n_int (by decide +kernel) (pa_cons (pe_op op_fdivW (pv 5) pe_int) pa_nil)) (pv 1)))))))))), ?_⟩
    walk_at "rd"
    refine ite2 (fun h1 => ?_) (fun h1 => ?_)
    · walk_at "rd"
      refine r_setL hl (j := 0) rfl ?_
      walk_at "rd"
      exact q _ _ _ _ _ (Int.emod_nonneg _ (by omega)) (Int.emod_lt_of_pos _ l0) upd_same wo_upd
    · walk_at "rd"
      refine r_setL hl (j := 2) rfl ?_
      generalize hG : upd H l (.lst ([.int n, .int b, .int c].set 2 (.int (c + 1)))) = G
      have hG2 : G l = some (.lst [.int n, .int b, .int (c + 1)]) := by rw [← hG, upd_same]; rfl
      have e : Ext (wo l H) (wo l G) := by rw [← hG]; exact wo_upd
      walk_at "rd"
      exact q _ _ _ _ _ (Int.emod_nonneg _ (by omega)) (Int.emod_lt_of_pos _ l0) hG2 e
theorem newAt {H : Hp} {p : Addr} {o : HO} (h : H p = none) : Ext H (upd H p o) ∧ (upd H p o) p = some o := ⟨Ext.new h, upd_same⟩
theorem r_cat {l b : Addr} {xs zs : List V} {H : Hp} {Q : VK} (h1 : H l = some (.lst xs)) (h2 : H b = some (.lst zs)) (hz : xs.length + zs.length ≤ 1000) (q : ∀ p, H p = none → Q (.ref p) (upd H p (.lst (xs ++ zs)))) : rCat (.ref l) (.ref b) H Q :=
  ⟨l, b, xs, zs, rfl, rfl, h1, h2, Nat.le_trans hz (by rw [sizeLine_eq]; decide), q⟩
theorem r_exoIs {e C : Addr} {fs : Option (List (Str × V))} {c : V} {u : Value} {b : Bool} {H : Hp} {Q : VK} (h : ErrOk H e C fs) (T : ExcC K C) (cv : ClsV c u) (k : PySem.W.kitOne K (.ref C) u = some b) (q : Q (.bl b) H) : rExoIs K [.ref e, c] H Q := by
  cases fs with
  | none => exact ⟨e, C, none, c, u, b, rfl, h, (fun dd z => by cases z), T, cv, k, q⟩
  | some fs =>
    obtain ⟨d, h1, h2⟩ := h
    exact ⟨e, C, some d, c, u, b, rfl, h1, (fun dd z => by cases z; exact ⟨fs, h2⟩), T, cv, k, q⟩
def spClasses (D : Ad) : Sp := fun vs H Q _ => ∃ (e : Addr) (k : Nat) (fs : Option (List (Str × V))), vs = [.ref e] ∧ k < 12 ∧ ErrOk H e (cls D k) fs ∧ ∀ L H', H L = none → Ext H H' → H' L = some (.lst ((List.range 12).map fun j => V.bl (k == j))) → Q (.ref L) H'
theorem ok__law_classes (T : Txt K mg D) : FnOk P w K mg base CX0 1 D.a__law_classes D.d__law_classes ["_law_error"] (spClasses D) := by
  refine T.F__law_classes.ok sc__law_classes (fun vs H Q E h => ?_) (fun cdv A outer s H vs Q E hr h => ?_)
  · obtain ⟨e, k, fs, rfl, _⟩ := h
    rfl
  · obtain ⟨e, k, fs, rfl, hk, he, q⟩ := h
    have X := T.excs k hk
    refine ⟨_, (pss_cons (ps_set (i := 1) sc__law_classes.nd rfl (Or.inl rfl) (pe_lst (pa_cons (pe_callB (call_exoIs K) (by rfl) T.n_isinstance (by decide +kernel) (pa_cons (pv 0) (pa_cons (pe_glob (v := .ref D.c_NoAnswer) rfl T.g_NoAnswer rfl) pa_nil))) (pa_cons (pe_callB (call_exoIs K) (by rfl) T.n_isinstance (by decide +kernel) (pa_cons (pv 0) (pa_cons (pe_glob (v := .ref D.c_NoChain) rfl T.g_NoChain rfl) pa_nil))) (pa_cons (pe_callB (call_exoIs K) (by rfl) T.n_isinstance (by decide +kernel) (pa_cons (pv 0) (pa_cons (pe_glob (v := .ref D.c_NoForm) rfl T.g_NoForm rfl) pa_nil))) pa_nil)))))
  (pss_cons (ps_set (i := 1) sc__law_classes.nd rfl (Or.inl rfl) (pe_op op_cat (pv 1) (pe_lst (pa_cons (pe_callB (call_exoIs K) (by rfl) T.n_isinstance (by decide +kernel) (pa_cons (pv 0) (pa_cons (pe_glob (v := .ref D.c_NoName) rfl T.g_NoName rfl) pa_nil))) (pa_cons (pe_callB (call_exoIs K) (by rfl) T.n_isinstance (by decide +kernel) (pa_cons (pv 0) (pa_cons (pe_glob (v := .ref D.c_NoNumber) rfl T.g_NoNumber rfl) pa_nil))) (pa_cons (pe_callB (call_exoIs K) (by rfl) T.n_isinstance (by decide +kernel) (pa_cons (pv 0) (pa_cons (pe_glob (v := .ref D.c_NoRing) rfl T.g_NoRing rfl) pa_nil))) pa_nil))))))
  (pss_cons (ps_set (i := 1) sc__law_classes.nd rfl (Or.inl rfl) (pe_op op_cat (pv 1) (pe_lst (pa_cons (pe_callB (call_exoIs K) (by rfl) T.n_isinstance (by decide +kernel) (pa_cons (pv 0) (pa_cons (pe_glob (v := .ref D.c_NoRow) rfl T.g_NoRow rfl) pa_nil))) (pa_cons (pe_callB (call_exoIs K) (by rfl) T.n_isinstance (by decide +kernel) (pa_cons (pv 0) (pa_cons (pe_glob (v := .ref D.c_NoRows) rfl T.g_NoRows rfl) pa_nil))) (pa_cons (pe_callB (call_exoIs K) (by rfl) T.n_isinstance (by decide +kernel) (pa_cons (pv 0) (pa_cons (pe_glob (v := .ref D.c_NoSweep) rfl T.g_NoSweep rfl) pa_nil))) pa_nil))))))
  (pss_one (ps_ret (pe_op op_cat (pv 1) (pe_lst (pa_cons (pe_callB (call_exoIs K) (by rfl) T.n_isinstance (by decide +kernel) (pa_cons (pv 0) (pa_cons (pe_glob (v := .ref D.c_NoText) rfl T.g_NoText rfl) pa_nil))) (pa_cons (pe_callB (call_exoIs K) (by rfl) T.n_isinstance (by decide +kernel) (pa_cons (pv 0) (pa_cons (pe_glob (v := .ref D.c_TooLarge) rfl T.g_TooLarge rfl) pa_nil))) (pa_cons (pe_callB (call_exoIs K) (by rfl) T.n_isinstance (by decide +kernel) (pa_cons (pv 0) (pa_cons (pe_glob (v := .ref D.c_TooMany) rfl T.g_TooMany rfl) pa_nil))) pa_nil)))))))))), ?_⟩
    walk_at "rd"
    refine r_exoIs he X (.own _) (T.kits k 0 hk (by decide)) ?_
    walk_at "rd"
    refine r_exoIs he X (.own _) (T.kits k 1 hk (by decide)) ?_
    walk_at "rd"
    refine r_exoIs he X (.own _) (T.kits k 2 hk (by decide)) ?_
    walk_at "rd"
    refine r_size (by show 3 ≤ 1000; decide) fun l1 n1 => ?_
    have x1 := Ext.new (o := .lst [.bl (k == 0), .bl (k == 1), .bl (k == 2)]) n1
    have w1 : (upd H l1 (.lst [.bl (k == 0), .bl (k == 1), .bl (k == 2)])) l1 = some (.lst [.bl (k == 0), .bl (k == 1), .bl (k == 2)]) := upd_same
    have he1 := he.ext x1
    walk_at "rd"
    refine r_exoIs he1 X (.own _) (T.kits k 3 hk (by decide)) ?_
    walk_at "rd"
    refine r_exoIs he1 X (.own _) (T.kits k 4 hk (by decide)) ?_
    walk_at "rd"
    refine r_exoIs he1 X (.own _) (T.kits k 5 hk (by decide)) ?_
    walk_at "rd"
    refine r_size (by show 3 ≤ 1000; decide) fun m2 k2 => ?_
    have y2 := Ext.new (o := .lst [.bl (k == 3), .bl (k == 4), .bl (k == 5)]) k2
    refine r_cat (y2 _ _ w1) upd_same (by show 3 + 3 ≤ 1000; decide) fun l2 n2 => ?_
    obtain ⟨x2, w2⟩ := newAt (o := .lst ([.bl (k == 0), .bl (k == 1), .bl (k == 2)] ++ [.bl (k == 3), .bl (k == 4), .bl (k == 5)])) n2
    have he2 := (he1.ext y2).ext x2
    walk_at "rd"
    refine r_exoIs he2 X (.own _) (T.kits k 6 hk (by decide)) ?_
    walk_at "rd"
    refine r_exoIs he2 X (.own _) (T.kits k 7 hk (by decide)) ?_
    walk_at "rd"
    refine r_exoIs he2 X (.own _) (T.kits k 8 hk (by decide)) ?_
    walk_at "rd"
    refine r_size (by show 3 ≤ 1000; decide) fun m3 k3 => ?_
    have y3 := Ext.new (o := .lst [.bl (k == 6), .bl (k == 7), .bl (k == 8)]) k3
    refine r_cat (y3 _ _ w2) upd_same (by show 6 + 3 ≤ 1000; decide) fun l3 n3 => ?_
    obtain ⟨x3, w3⟩ := newAt (o := .lst ([.bl (k == 0), .bl (k == 1), .bl (k == 2), .bl (k == 3), .bl (k == 4), .bl (k == 5)] ++ [.bl (k == 6), .bl (k == 7), .bl (k == 8)])) n3
    have he3 := (he2.ext y3).ext x3
    walk_at "rd"
    refine r_exoIs he3 X (.own _) (T.kits k 9 hk (by decide)) ?_
    walk_at "rd"
    refine r_exoIs he3 X (.own _) (T.kits k 10 hk (by decide)) ?_
    walk_at "rd"
    refine r_exoIs he3 X (.own _) (T.kits k 11 hk (by decide)) ?_
    walk_at "rd"
    refine r_size (by show 3 ≤ 1000; decide) fun m4 k4 => ?_
    have y4 := Ext.new (o := .lst [.bl (k == 9), .bl (k == 10), .bl (k == 11)]) k4
    refine r_cat (y4 _ _ w3) upd_same (by show 9 + 3 ≤ 1000; decide) fun l4 n4 => ?_
    obtain ⟨x4, w4⟩ := newAt (o := .lst ([.bl (k == 0), .bl (k == 1), .bl (k == 2), .bl (k == 3), .bl (k == 4), .bl (k == 5), .bl (k == 6), .bl (k == 7), .bl (k == 8)] ++ [.bl (k == 9), .bl (k == 10), .bl (k == 11)])) n4
    have he4 := (he3.ext y4).ext x4
    walk_at "rd"
    refine q l4 _ ?_ (((((((x1.trans y2).trans x2).trans y3).trans x3).trans y4).trans x4)) upd_same
    exact ((((((x1.trans y2).trans x2).trans y3).trans x3).trans y4)).free n4
end
end Rk

namespace Rk
open PySem L2 Own
local macro_rules | `(tactic| walk_at "side") => `(tactic| first | exact trivial | (show (0:Int) < _; first | assumption | decide | omega) | exact Or.inl ⟨by decide, by decide⟩ | exact Or.inl ⟨by omega, by omega⟩ | exact Or.inr ⟨by decide, by decide⟩ | exact ⟨by decide, by decide⟩ | exact ⟨by decide, by decide, by decide⟩ | exact ⟨by omega, by omega⟩)
local macro_rules | `(tactic| walk_at "rd") => `(tactic| repeat (with_reducible first | refine r_next ?_ | refine r_ret ?_ | refine r_seq ?_ | refine r_asg ?_ | refine r_drop ?_ | refine r_call ?_ | refine r_cons ?_ | refine r_nil ?_ | refine r_cb ?_ | refine r_op ?_ | refine r_sset ?_ | refine r_var (by with_unfolding_all rfl) ?_ | refine r_c ?_ | refine r_name ?_ | refine r_I0 ?_ | refine r_I (by with_unfolding_all walk_at "side") ?_ | refine r_un ?_ | refine r_U ?_ | refine r_if ?_ | refine r_ifE ?_ | refine r_test ?_ | refine r_B ?_ | refine r_bl ?_ | refine r_not ?_ | refine r_and ?_ | refine r_or ?_ | refine r_andV ?_ | refine r_orV ?_ | refine r_notV ?_ | refine r_eqI ?_ | refine r_neI ?_ | refine r_tup ?_ | refine r_lst ?_ | refine r_sub ?_ | refine r_intI ?_ | refine r_intB ?_ | refine r_abs ?_ | refine r_max ?_ | refine r_ixL (SqL.of (by assumption)) (by with_unfolding_all rfl) ?_ | refine r_ixT (SqT.of (by assumption)) (by with_unfolding_all rfl) ?_ | refine r_lenL (SqL.of (by assumption)) ?_ | refine r_lenT (SqT.of (by assumption)) ?_ | refine r_callS ?_ | refine r_cutnx ?_ | refine r_cutrt ?_ | refine r_chain ?_ | refine r_yes ?_ | refine iteT ?_ | refine iteF ?_ | refine iteNF ?_ | refine iteNT ?_ | refine r_truth ?_ | refine r_truI ?_ | refine r_sliceV ?_ | refine r_for ?_ | refine r_rng1 ?_ | refine r_i1 (by with_unfolding_all walk_at "side") ?_))
/-- the fields of the k-th error of two values -/
def flds (k : Nat) (v u : V) : Option (List (Str × V)) := match k with
  | 0 => some [("index", u), ("part", v)]
  | 1 => some [("name", v)]
  | 2 => none
  | 3 => some [("name", v)]
  | 4 => some [("name", v)]
  | 5 => none
  | 6 => some [("index", v)]
  | 7 => some [("index", u), ("part", v)]
  | 8 => some [("part", v)]
  | 9 => some [("index", v)]
  | 10 => some [("part", v)]
  | 11 => some [("most", v)]
  | _ => none
/-- the twelve errors of two values at es -/
def Errs (D : Ad) (H : Hp) (es : List Addr) (v u : V) : Prop := es.length = 12 ∧ ∀ k, k < 12 → ∃ e, es[k]? = some e ∧ ErrOk H e (cls D k) (flds k v u)
theorem Errs.ext {D : Ad} {H H' : Hp} {es : List Addr} {v u : V} (x : Ext H H') (h : Errs D H es v u) : Errs D H' es v u := ⟨h.1, fun k hk => by
  obtain ⟨e, h1, h2⟩ := h.2 k hk
  exact ⟨e, h1, h2.ext x⟩⟩
theorem errs_of {D : Ad} {H : Hp} {v u : V} {e0 e1 e2 e3 e4 e5 e6 e7 e8 e9 e10 e11 : Addr} (h0 : ErrOk H e0 (cls D 0) (flds 0 v u)) (h1 : ErrOk H e1 (cls D 1) (flds 1 v u)) (h2 : ErrOk H e2 (cls D 2) (flds 2 v u)) (h3 : ErrOk H e3 (cls D 3) (flds 3 v u)) (h4 : ErrOk H e4 (cls D 4) (flds 4 v u)) (h5 : ErrOk H e5 (cls D 5) (flds 5 v u)) (h6 : ErrOk H e6 (cls D 6) (flds 6 v u)) (h7 : ErrOk H e7 (cls D 7) (flds 7 v u)) (h8 : ErrOk H e8 (cls D 8) (flds 8 v u)) (h9 : ErrOk H e9 (cls D 9) (flds 9 v u)) (h10 : ErrOk H e10 (cls D 10) (flds 10 v u)) (h11 : ErrOk H e11 (cls D 11) (flds 11 v u)) : Errs D H [e0, e1, e2, e3, e4, e5, e6, e7, e8, e9, e10, e11] v u := by
  refine ⟨rfl, fun k hk => ?_⟩
  have hc : k = 0 ∨ k = 1 ∨ k = 2 ∨ k = 3 ∨ k = 4 ∨ k = 5 ∨ k = 6 ∨ k = 7 ∨ k = 8 ∨ k = 9 ∨ k = 10 ∨ k = 11 := by omega
  rcases hc with rfl | rfl | rfl | rfl | rfl | rfl | rfl | rfl | rfl | rfl | rfl | rfl
  · exact ⟨e0, rfl, h0⟩
  · exact ⟨e1, rfl, h1⟩
  · exact ⟨e2, rfl, h2⟩
  · exact ⟨e3, rfl, h3⟩
  · exact ⟨e4, rfl, h4⟩
  · exact ⟨e5, rfl, h5⟩
  · exact ⟨e6, rfl, h6⟩
  · exact ⟨e7, rfl, h7⟩
  · exact ⟨e8, rfl, h8⟩
  · exact ⟨e9, rfl, h9⟩
  · exact ⟨e10, rfl, h10⟩
  · exact ⟨e11, rfl, h11⟩
def spBy (D : Ad) : Sp := fun vs H Q _ => ∃ v u : V, vs = [v, u] ∧ ∀ L es H', H L = none → Ext H H' → H' L = some (.lst (es.map V.ref)) → Errs D H' es v u → Q (.ref L) H'
theorem nil0 {H H' : Hp} {l : Addr} (e : Ext H H') (h : H' l = none) : H l = none := e.free h
section
variable {P : Program} {w : World} {K : PySem.W.Frag} {mg : Str → Option Value} {base : Heap} {D : Ad}
theorem ok__law_by_place (T : Txt K mg D) : FnOk P w K mg base CX0 3 D.a__law_by_place D.d__law_by_place ["_law_one", "_law_two"] (spBy D) := by
  refine T.F__law_by_place.ok sc__law_by_place (fun vs H Q E h => ?_) (fun cdv A outer s H vs Q E hr h => ?_)
  · obtain ⟨v, u, rfl, _⟩ := h
    rfl
  · obtain ⟨v, u, rfl, q⟩ := h
    refine ⟨_, (pss_cons (ps_set (i := 2) sc__law_by_place.nd rfl (Or.inl rfl) (pe_lst (pa_cons (pe_err T.x_NoAnswer T.i_NoAnswer__init__ T.t_NoAnswer__init__ (ok_NoAnswer__init__ T) (hr.mono (by decide)) T.b_NoAnswer__init__ pass0 (by rfl) T.g_NoAnswer (pa_cons (pv 0) (pa_cons (pv 1) pa_nil))) (pa_cons (pe_err T.x_NoChain T.i_NoChain__init__ T.t_NoChain__init__ (ok_NoChain__init__ T) (hr.mono (by decide)) T.b_NoChain__init__ pass0 (by rfl) T.g_NoChain (pa_cons (pv 0) pa_nil)) (pa_cons (pe_err0 PySem.F.excBase_ValueError T.q_NoForm T.kc_NoForm (by rfl) T.g_NoForm) (pa_cons (pe_err T.x_NoName T.i_NoName__init__ T.t_NoName__init__ (ok_NoName__init__ T) (hr.mono (by decide)) T.b_NoName__init__ pass0 (by rfl) T.g_NoName (pa_cons (pv 0) pa_nil)) (pa_cons (pe_err T.x_NoNumber T.i_NoNumber__init__ T.t_NoNumber__init__ (ok_NoNumber__init__ T) (hr.mono (by decide)) T.b_NoNumber__init__ pass0 (by rfl) T.g_NoNumber (pa_cons (pv 0) pa_nil)) (pa_cons (pe_err0 PySem.F.excBase_ValueError T.q_NoRing T.kc_NoRing (by rfl) T.g_NoRing) (pa_cons (pe_err T.x_NoRow T.i_NoRow__init__ T.t_NoRow__init__ (ok_NoRow__init__ T) (hr.mono (by decide)) T.b_NoRow__init__ pass0 (by rfl) T.g_NoRow (pa_cons (pv 0) pa_nil)) pa_nil)))))))))
  (pss_one (ps_ret (pe_op op_cat (pv 2) (pe_lst (pa_cons (pe_err T.x_NoRows T.i_NoRows__init__ T.t_NoRows__init__ (ok_NoRows__init__ T) (hr.mono (by decide)) T.b_NoRows__init__ pass0 (by rfl) T.g_NoRows (pa_cons (pv 0) (pa_cons (pv 1) pa_nil))) (pa_cons (pe_err T.x_NoSweep T.i_NoSweep__init__ T.t_NoSweep__init__ (ok_NoSweep__init__ T) (hr.mono (by decide)) T.b_NoSweep__init__ pass0 (by rfl) T.g_NoSweep (pa_cons (pv 0) pa_nil)) (pa_cons (pe_err T.x_NoText T.i_NoText__init__ T.t_NoText__init__ (ok_NoText__init__ T) (hr.mono (by decide)) T.b_NoText__init__ pass0 (by rfl) T.g_NoText (pa_cons (pv 0) pa_nil)) (pa_cons (pe_err T.x_TooLarge T.i_TooLarge__init__ T.t_TooLarge__init__ (ok_TooLarge__init__ T) (hr.mono (by decide)) T.b_TooLarge__init__ pass0 (by rfl) T.g_TooLarge (pa_cons (pv 0) pa_nil)) (pa_cons (pe_err T.x_TooMany T.i_TooMany__init__ T.t_TooMany__init__ (ok_TooMany__init__ T) (hr.mono (by decide)) T.b_TooMany__init__ pass0 (by rfl) T.g_TooMany (pa_cons (pv 0) pa_nil)) pa_nil)))))))))), ?_⟩
    walk_at "rd"
    refine r_err2 rfl rfl fun e0 G0 n0 x0 k0 => ?_
    walk_at "rd"
    refine r_err1 rfl fun e1 G1 n1 x1 k1 => ?_
    walk_at "rd"
    refine r_err0 fun e2 G2 n2 x2 k2 => ?_
    walk_at "rd"
    refine r_err1 rfl fun e3 G3 n3 x3 k3 => ?_
    walk_at "rd"
    refine r_err1 rfl fun e4 G4 n4 x4 k4 => ?_
    walk_at "rd"
    refine r_err0 fun e5 G5 n5 x5 k5 => ?_
    walk_at "rd"
    refine r_err1 rfl fun e6 G6 n6 x6 k6 => ?_
    walk_at "rd"
    refine r_size (by show 7 ≤ 1000; decide) fun m0 mn0 => ?_
    obtain ⟨y0, w0⟩ := newAt (o := .lst [V.ref e0, V.ref e1, V.ref e2, V.ref e3, V.ref e4, V.ref e5, V.ref e6]) mn0
    have L0 := w0
    walk_at "rd"
    refine r_err2 rfl rfl fun e7 G7 n7 x7 k7 => ?_
    walk_at "rd"
    refine r_err1 rfl fun e8 G8 n8 x8 k8 => ?_
    walk_at "rd"
    refine r_err1 rfl fun e9 G9 n9 x9 k9 => ?_
    walk_at "rd"
    refine r_err1 rfl fun e10 G10 n10 x10 k10 => ?_
    walk_at "rd"
    refine r_err1 rfl fun e11 G11 n11 x11 k11 => ?_
    walk_at "rd"
    refine r_size (by show 5 ≤ 1000; decide) fun m1 mn1 => ?_
    obtain ⟨y1, w1⟩ := newAt (o := .lst [V.ref e7, V.ref e8, V.ref e9, V.ref e10, V.ref e11]) mn1
    have c1 := (((((x7.trans x8).trans x9).trans x10).trans x11).trans y1) _ _ L0
    refine r_cat c1 w1 (by show 7 + 5 ≤ 1000; decide) fun l1 ln1 => ?_
    obtain ⟨z1, L1⟩ := newAt (o := .lst ([V.ref e0, V.ref e1, V.ref e2, V.ref e3, V.ref e4, V.ref e5, V.ref e6] ++ [V.ref e7, V.ref e8, V.ref e9, V.ref e10, V.ref e11])) ln1
    walk_at "rd"
    exact q _ [e0, e1, e2, e3, e4, e5, e6, e7, e8, e9, e10, e11] _ (nil0 (((((((((((((x0.trans x1).trans x2).trans x3).trans x4).trans x5).trans x6).trans y0).trans x7).trans x8).trans x9).trans x10).trans x11).trans y1) ln1) ((((((((((((((x0.trans x1).trans x2).trans x3).trans x4).trans x5).trans x6).trans y0).trans x7).trans x8).trans x9).trans x10).trans x11).trans y1).trans z1) L1 (errs_of (k0.ext (((((((((((((x1.trans x2).trans x3).trans x4).trans x5).trans x6).trans y0).trans x7).trans x8).trans x9).trans x10).trans x11).trans y1).trans z1)) (k1.ext ((((((((((((x2.trans x3).trans x4).trans x5).trans x6).trans y0).trans x7).trans x8).trans x9).trans x10).trans x11).trans y1).trans z1)) (k2.ext (((((((((((x3.trans x4).trans x5).trans x6).trans y0).trans x7).trans x8).trans x9).trans x10).trans x11).trans y1).trans z1)) (k3.ext ((((((((((x4.trans x5).trans x6).trans y0).trans x7).trans x8).trans x9).trans x10).trans x11).trans y1).trans z1)) (k4.ext (((((((((x5.trans x6).trans y0).trans x7).trans x8).trans x9).trans x10).trans x11).trans y1).trans z1)) (k5.ext ((((((((x6.trans y0).trans x7).trans x8).trans x9).trans x10).trans x11).trans y1).trans z1)) (k6.ext (((((((y0.trans x7).trans x8).trans x9).trans x10).trans x11).trans y1).trans z1)) (k7.ext (((((x8.trans x9).trans x10).trans x11).trans y1).trans z1)) (k8.ext ((((x9.trans x10).trans x11).trans y1).trans z1)) (k9.ext (((x10.trans x11).trans y1).trans z1)) (k10.ext ((x11.trans y1).trans z1)) (k11.ext (y1.trans z1)))

theorem ok__law_by_name (T : Txt K mg D) : FnOk P w K mg base CX0 3 D.a__law_by_name D.d__law_by_name ["_law_one", "_law_two"] (spBy D) := by
  refine T.F__law_by_name.ok sc__law_by_name (fun vs H Q E h => ?_) (fun cdv A outer s H vs Q E hr h => ?_)
  · obtain ⟨v, u, rfl, _⟩ := h
    rfl
  · obtain ⟨v, u, rfl, q⟩ := h
    refine ⟨_, (pss_cons (ps_set (i := 2) sc__law_by_name.nd rfl (Or.inl rfl) (pe_lst (pa_cons (pe_errK (ks := ["index", "part"]) T.x_NoAnswer T.i_NoAnswer__init__ T.t_NoAnswer__init__ (ok_NoAnswer__init__ T) (hr.mono (by decide)) (kb2 T.F_NoAnswer__init__) vals2 pass0 (by rfl) T.g_NoAnswer (pk_cons (pv 1) (pk_cons (pv 0) pk_nil))) (pa_cons (pe_errK (ks := ["name"]) T.x_NoChain T.i_NoChain__init__ T.t_NoChain__init__ (ok_NoChain__init__ T) (hr.mono (by decide)) (kb1 T.F_NoChain__init__) vals1 pass0 (by rfl) T.g_NoChain (pk_cons (pv 0) pk_nil)) (pa_cons (pe_err0 PySem.F.excBase_ValueError T.q_NoForm T.kc_NoForm (by rfl) T.g_NoForm) (pa_cons (pe_errK (ks := ["name"]) T.x_NoName T.i_NoName__init__ T.t_NoName__init__ (ok_NoName__init__ T) (hr.mono (by decide)) (kb1 T.F_NoName__init__) vals1 pass0 (by rfl) T.g_NoName (pk_cons (pv 0) pk_nil)) (pa_cons (pe_errK (ks := ["name"]) T.x_NoNumber T.i_NoNumber__init__ T.t_NoNumber__init__ (ok_NoNumber__init__ T) (hr.mono (by decide)) (kb1 T.F_NoNumber__init__) vals1 pass0 (by rfl) T.g_NoNumber (pk_cons (pv 0) pk_nil)) pa_nil)))))))
  (pss_cons (ps_set (i := 2) sc__law_by_name.nd rfl (Or.inl rfl) (pe_op op_cat (pv 2) (pe_lst (pa_cons (pe_err0 PySem.F.excBase_ValueError T.q_NoRing T.kc_NoRing (by rfl) T.g_NoRing) (pa_cons (pe_errK (ks := ["index"]) T.x_NoRow T.i_NoRow__init__ T.t_NoRow__init__ (ok_NoRow__init__ T) (hr.mono (by decide)) (kb1 T.F_NoRow__init__) vals1 pass0 (by rfl) T.g_NoRow (pk_cons (pv 0) pk_nil)) (pa_cons (pe_errK (ks := ["index", "part"]) T.x_NoRows T.i_NoRows__init__ T.t_NoRows__init__ (ok_NoRows__init__ T) (hr.mono (by decide)) (kb2 T.F_NoRows__init__) vals2 pass0 (by rfl) T.g_NoRows (pk_cons (pv 1) (pk_cons (pv 0) pk_nil))) (pa_cons (pe_errK (ks := ["part"]) T.x_NoSweep T.i_NoSweep__init__ T.t_NoSweep__init__ (ok_NoSweep__init__ T) (hr.mono (by decide)) (kb1 T.F_NoSweep__init__) vals1 pass0 (by rfl) T.g_NoSweep (pk_cons (pv 0) pk_nil)) pa_nil)))))))
  (pss_one (ps_ret (pe_op op_cat (pv 2) (pe_lst (pa_cons (pe_errK (ks := ["index"]) T.x_NoText T.i_NoText__init__ T.t_NoText__init__ (ok_NoText__init__ T) (hr.mono (by decide)) (kb1 T.F_NoText__init__) vals1 pass0 (by rfl) T.g_NoText (pk_cons (pv 0) pk_nil)) (pa_cons (pe_errK (ks := ["part"]) T.x_TooLarge T.i_TooLarge__init__ T.t_TooLarge__init__ (ok_TooLarge__init__ T) (hr.mono (by decide)) (kb1 T.F_TooLarge__init__) vals1 pass0 (by rfl) T.g_TooLarge (pk_cons (pv 0) pk_nil)) (pa_cons (pe_errK (ks := ["most"]) T.x_TooMany T.i_TooMany__init__ T.t_TooMany__init__ (ok_TooMany__init__ T) (hr.mono (by decide)) (kb1 T.F_TooMany__init__) vals1 pass0 (by rfl) T.g_TooMany (pk_cons (pv 0) pk_nil)) pa_nil))))))))), ?_⟩
    walk_at "rd"
    refine r_errK2 rfl rfl fun e0 G0 n0 x0 k0 => ?_
    walk_at "rd"
    refine r_errK1 rfl fun e1 G1 n1 x1 k1 => ?_
    walk_at "rd"
    refine r_err0 fun e2 G2 n2 x2 k2 => ?_
    walk_at "rd"
    refine r_errK1 rfl fun e3 G3 n3 x3 k3 => ?_
    walk_at "rd"
    refine r_errK1 rfl fun e4 G4 n4 x4 k4 => ?_
    walk_at "rd"
    refine r_size (by show 5 ≤ 1000; decide) fun m0 mn0 => ?_
    obtain ⟨y0, w0⟩ := newAt (o := .lst [V.ref e0, V.ref e1, V.ref e2, V.ref e3, V.ref e4]) mn0
    have L0 := w0
    walk_at "rd"
    refine r_err0 fun e5 G5 n5 x5 k5 => ?_
    walk_at "rd"
    refine r_errK1 rfl fun e6 G6 n6 x6 k6 => ?_
    walk_at "rd"
    refine r_errK2 rfl rfl fun e7 G7 n7 x7 k7 => ?_
    walk_at "rd"
    refine r_errK1 rfl fun e8 G8 n8 x8 k8 => ?_
    walk_at "rd"
    refine r_size (by show 4 ≤ 1000; decide) fun m1 mn1 => ?_
    obtain ⟨y1, w1⟩ := newAt (o := .lst [V.ref e5, V.ref e6, V.ref e7, V.ref e8]) mn1
    have c1 := ((((x5.trans x6).trans x7).trans x8).trans y1) _ _ L0
    refine r_cat c1 w1 (by show 5 + 4 ≤ 1000; decide) fun l1 ln1 => ?_
    obtain ⟨z1, L1⟩ := newAt (o := .lst ([V.ref e0, V.ref e1, V.ref e2, V.ref e3, V.ref e4] ++ [V.ref e5, V.ref e6, V.ref e7, V.ref e8])) ln1
    walk_at "rd"
    refine r_errK1 rfl fun e9 G9 n9 x9 k9 => ?_
    walk_at "rd"
    refine r_errK1 rfl fun e10 G10 n10 x10 k10 => ?_
    walk_at "rd"
    refine r_errK1 rfl fun e11 G11 n11 x11 k11 => ?_
    walk_at "rd"
    refine r_size (by show 3 ≤ 1000; decide) fun m2 mn2 => ?_
    obtain ⟨y2, w2⟩ := newAt (o := .lst [V.ref e9, V.ref e10, V.ref e11]) mn2
    have c2 := (((x9.trans x10).trans x11).trans y2) _ _ L1
    refine r_cat c2 w2 (by show 9 + 3 ≤ 1000; decide) fun l2 ln2 => ?_
    obtain ⟨z2, L2⟩ := newAt (o := .lst ([V.ref e0, V.ref e1, V.ref e2, V.ref e3, V.ref e4, V.ref e5, V.ref e6, V.ref e7, V.ref e8] ++ [V.ref e9, V.ref e10, V.ref e11])) ln2
    walk_at "rd"
    exact q _ [e0, e1, e2, e3, e4, e5, e6, e7, e8, e9, e10, e11] _ (nil0 (((((((((((((((x0.trans x1).trans x2).trans x3).trans x4).trans y0).trans x5).trans x6).trans x7).trans x8).trans y1).trans z1).trans x9).trans x10).trans x11).trans y2) ln2) ((((((((((((((((x0.trans x1).trans x2).trans x3).trans x4).trans y0).trans x5).trans x6).trans x7).trans x8).trans y1).trans z1).trans x9).trans x10).trans x11).trans y2).trans z2) L2 (errs_of (k0.ext (((((((((((((((x1.trans x2).trans x3).trans x4).trans y0).trans x5).trans x6).trans x7).trans x8).trans y1).trans z1).trans x9).trans x10).trans x11).trans y2).trans z2)) (k1.ext ((((((((((((((x2.trans x3).trans x4).trans y0).trans x5).trans x6).trans x7).trans x8).trans y1).trans z1).trans x9).trans x10).trans x11).trans y2).trans z2)) (k2.ext (((((((((((((x3.trans x4).trans y0).trans x5).trans x6).trans x7).trans x8).trans y1).trans z1).trans x9).trans x10).trans x11).trans y2).trans z2)) (k3.ext ((((((((((((x4.trans y0).trans x5).trans x6).trans x7).trans x8).trans y1).trans z1).trans x9).trans x10).trans x11).trans y2).trans z2)) (k4.ext (((((((((((y0.trans x5).trans x6).trans x7).trans x8).trans y1).trans z1).trans x9).trans x10).trans x11).trans y2).trans z2)) (k5.ext (((((((((x6.trans x7).trans x8).trans y1).trans z1).trans x9).trans x10).trans x11).trans y2).trans z2)) (k6.ext ((((((((x7.trans x8).trans y1).trans z1).trans x9).trans x10).trans x11).trans y2).trans z2)) (k7.ext (((((((x8.trans y1).trans z1).trans x9).trans x10).trans x11).trans y2).trans z2)) (k8.ext ((((((y1.trans z1).trans x9).trans x10).trans x11).trans y2).trans z2)) (k9.ext (((x10.trans x11).trans y2).trans z2)) (k10.ext ((x11.trans y2).trans z2)) (k11.ext (y2.trans z2)))

theorem r_exf {e C : Addr} {f : Str} {fs : List (Str × V)} {te : TE} {v : V} {σ : L2.St} {H : Hp} {Q : VK} (ht : ∀ R : VK, R (.ref e) H → te σ H R) (h : ErrOk H e C (some fs)) (T : XfC K C) (no : PySem.W.findIn K (.ref C) f = some none) (l : fs.lookup f = some v) (q : Q v H) : tExf K f te σ H Q := by
  obtain ⟨d, h1, h2⟩ := h
  exact ht _ ⟨e, C, d, fs, v, rfl, h1, h2, T, no, l, q⟩
theorem look2a (v u : V) : List.lookup ("part" : Str) [(("index" : Str), u), ("part", v)] = some v := by
  have : (("part" : Str) == "index") = false := by decide +kernel
  simp [List.lookup, this]
theorem look2b (v u : V) : List.lookup ("index" : Str) [(("index" : Str), u), ("part", v)] = some u := by simp [List.lookup]
def spFields (D : Ad) : Sp := fun vs H Q _ => ∃ (L : Addr) (es : List Addr) (v u : V), vs = [.ref L] ∧ H L = some (.lst (es.map V.ref)) ∧ Errs D H es v u ∧ ∀ M H', H M = none → Ext H H' → H' M = some (.lst [v, u, v, v, v, v, v, u, v, v, v, v]) → Q (.ref M) H'
theorem ok__law_fields (T : Txt K mg D) : FnOk P w K mg base CX0 1 D.a__law_fields D.d__law_fields ["_law_found"] (spFields D) := by
  refine T.F__law_fields.ok sc__law_fields (fun vs H Q E h => ?_) (fun cdv A outer s H vs Q E hr h => ?_)
  · obtain ⟨L, es, v, u, rfl, _⟩ := h
    rfl
  · obtain ⟨L, es, v, u, rfl, hL, he, q⟩ := h
    have step : ∀ (j : Nat) (e : Addr) (G : Hp), es[j]? = some e → Ext H G → ∀ R : VK, R (.ref e) G → rIxL K (.ref L) (.int (j : Nat)) G R := fun j e G hj x R r => r_ixL (SqL.of (x _ _ hL)) (atI_nat (by rw [List.getElem?_map, hj]; rfl)) r
    refine ⟨_, (pss_cons (ps_set (i := 1) sc__law_fields.nd rfl (Or.inl rfl) (pe_lst (pa_cons (pe_exf K (pe_ix (ix_listC K) (pv 0) pe_int (fun _ _ => rfl))) (pa_cons (pe_exf K (pe_ix (ix_listC K) (pv 0) pe_int (fun _ _ => rfl))) (pa_cons (pe_exf K (pe_ix (ix_listC K) (pv 0) pe_int (fun _ _ => rfl))) (pa_cons (pe_exf K (pe_ix (ix_listC K) (pv 0) pe_int (fun _ _ => rfl))) (pa_cons (pe_exf K (pe_ix (ix_listC K) (pv 0) pe_int (fun _ _ => rfl))) (pa_cons (pe_exf K (pe_ix (ix_listC K) (pv 0) pe_int (fun _ _ => rfl))) pa_nil))))))))
  (pss_cons (ps_set (i := 1) sc__law_fields.nd rfl (Or.inl rfl) (pe_op op_cat (pv 1) (pe_lst (pa_cons (pe_exf K (pe_ix (ix_listC K) (pv 0) pe_int (fun _ _ => rfl))) (pa_cons (pe_exf K (pe_ix (ix_listC K) (pv 0) pe_int (fun _ _ => rfl))) (pa_cons (pe_exf K (pe_ix (ix_listC K) (pv 0) pe_int (fun _ _ => rfl))) (pa_cons (pe_exf K (pe_ix (ix_listC K) (pv 0) pe_int (fun _ _ => rfl))) (pa_cons (pe_exf K (pe_ix (ix_listC K) (pv 0) pe_int (fun _ _ => rfl))) pa_nil))))))))
  (pss_one (ps_ret (pe_op op_cat (pv 1) (pe_lst (pa_cons (pe_exf K (pe_ix (ix_listC K) (pv 0) pe_int (fun _ _ => rfl))) pa_nil))))))), ?_⟩
    walk_at "rd"
    obtain ⟨a0, g0, b0⟩ := (he.ext (Ext.refl H)).2 0 (by decide)
    refine r_exf (fun R r => ⟨_, rfl, step 0 _ _ g0 (Ext.refl H) R r⟩) b0 T.f_NoAnswer T.no_NoAnswer_part (look2a v u) ?_
    walk_at "rd"
    obtain ⟨a1, g1, b1⟩ := (he.ext (Ext.refl H)).2 0 (by decide)
    refine r_exf (fun R r => ⟨_, rfl, step 0 _ _ g1 (Ext.refl H) R r⟩) b1 T.f_NoAnswer T.no_NoAnswer_index (look2b v u) ?_
    walk_at "rd"
    obtain ⟨a2, g2, b2⟩ := (he.ext (Ext.refl H)).2 1 (by decide)
    refine r_exf (fun R r => ⟨_, rfl, step 1 _ _ g2 (Ext.refl H) R r⟩) b2 T.f_NoChain T.no_NoChain_name (lookup1 "name" v) ?_
    walk_at "rd"
    obtain ⟨a3, g3, b3⟩ := (he.ext (Ext.refl H)).2 3 (by decide)
    refine r_exf (fun R r => ⟨_, rfl, step 3 _ _ g3 (Ext.refl H) R r⟩) b3 T.f_NoName T.no_NoName_name (lookup1 "name" v) ?_
    walk_at "rd"
    obtain ⟨a4, g4, b4⟩ := (he.ext (Ext.refl H)).2 4 (by decide)
    refine r_exf (fun R r => ⟨_, rfl, step 4 _ _ g4 (Ext.refl H) R r⟩) b4 T.f_NoNumber T.no_NoNumber_name (lookup1 "name" v) ?_
    walk_at "rd"
    obtain ⟨a5, g5, b5⟩ := (he.ext (Ext.refl H)).2 6 (by decide)
    refine r_exf (fun R r => ⟨_, rfl, step 6 _ _ g5 (Ext.refl H) R r⟩) b5 T.f_NoRow T.no_NoRow_index (lookup1 "index" v) ?_
    walk_at "rd"
    refine r_size (by show 6 ≤ 1000; decide) fun m0 mn0 => ?_
    obtain ⟨y0, w0⟩ := newAt (o := .lst [v, u, v, v, v, v]) mn0
    have L0 := w0
    walk_at "rd"
    obtain ⟨a6, g6, b6⟩ := (he.ext ((Ext.refl H).trans y0)).2 7 (by decide)
    refine r_exf (fun R r => ⟨_, rfl, step 7 _ _ g6 ((Ext.refl H).trans y0) R r⟩) b6 T.f_NoRows T.no_NoRows_part (look2a v u) ?_
    walk_at "rd"
    obtain ⟨a7, g7, b7⟩ := (he.ext ((Ext.refl H).trans y0)).2 7 (by decide)
    refine r_exf (fun R r => ⟨_, rfl, step 7 _ _ g7 ((Ext.refl H).trans y0) R r⟩) b7 T.f_NoRows T.no_NoRows_index (look2b v u) ?_
    walk_at "rd"
    obtain ⟨a8, g8, b8⟩ := (he.ext ((Ext.refl H).trans y0)).2 8 (by decide)
    refine r_exf (fun R r => ⟨_, rfl, step 8 _ _ g8 ((Ext.refl H).trans y0) R r⟩) b8 T.f_NoSweep T.no_NoSweep_part (lookup1 "part" v) ?_
    walk_at "rd"
    obtain ⟨a9, g9, b9⟩ := (he.ext ((Ext.refl H).trans y0)).2 9 (by decide)
    refine r_exf (fun R r => ⟨_, rfl, step 9 _ _ g9 ((Ext.refl H).trans y0) R r⟩) b9 T.f_NoText T.no_NoText_index (lookup1 "index" v) ?_
    walk_at "rd"
    obtain ⟨a10, g10, b10⟩ := (he.ext ((Ext.refl H).trans y0)).2 10 (by decide)
    refine r_exf (fun R r => ⟨_, rfl, step 10 _ _ g10 ((Ext.refl H).trans y0) R r⟩) b10 T.f_TooLarge T.no_TooLarge_part (lookup1 "part" v) ?_
    walk_at "rd"
    refine r_size (by show 5 ≤ 1000; decide) fun m1 mn1 => ?_
    obtain ⟨y1, w1⟩ := newAt (o := .lst [v, u, v, v, v]) mn1
    refine r_cat (y1 _ _ L0) w1 (by show 6 + 5 ≤ 1000; decide) fun l1 ln1 => ?_
    obtain ⟨z1, L1⟩ := newAt (o := .lst ([v, u, v, v, v, v] ++ [v, u, v, v, v])) ln1
    walk_at "rd"
    obtain ⟨a11, g11, b11⟩ := (he.ext ((((Ext.refl H).trans y0).trans y1).trans z1)).2 11 (by decide)
    refine r_exf (fun R r => ⟨_, rfl, step 11 _ _ g11 ((((Ext.refl H).trans y0).trans y1).trans z1) R r⟩) b11 T.f_TooMany T.no_TooMany_most (lookup1 "most" v) ?_
    walk_at "rd"
    refine r_size (by show 1 ≤ 1000; decide) fun m2 mn2 => ?_
    obtain ⟨y2, w2⟩ := newAt (o := .lst [v]) mn2
    refine r_cat (y2 _ _ L1) w2 (by show 11 + 1 ≤ 1000; decide) fun l2 ln2 => ?_
    obtain ⟨z2, L2⟩ := newAt (o := .lst ([v, u, v, v, v, v, v, u, v, v, v] ++ [v])) ln2
    walk_at "rd"
    exact q _ _ (nil0 (((((Ext.refl H).trans y0).trans y1).trans z1).trans y2) ln2) ((((((Ext.refl H).trans y0).trans y1).trans z1).trans y2).trans z2) L2

end
end Rk

namespace Rk
open PySem L2 Own
local macro_rules | `(tactic| walk_at "side") => `(tactic| first | exact trivial | (show (0:Int) < _; first | assumption | decide | omega) | exact Or.inl ⟨by decide, by decide⟩ | exact Or.inl ⟨by omega, by omega⟩ | exact Or.inr ⟨by decide, by decide⟩ | exact ⟨by decide, by decide⟩ | exact ⟨by decide, by decide, by decide⟩ | exact ⟨by omega, by omega⟩)
local macro_rules | `(tactic| walk_at "rd") => `(tactic| repeat (with_reducible first | refine r_next ?_ | refine r_ret ?_ | refine r_seq ?_ | refine r_asg ?_ | refine r_drop ?_ | refine r_call ?_ | refine r_cons ?_ | refine r_nil ?_ | refine r_cb ?_ | refine r_op ?_ | refine r_sset ?_ | refine r_var (by with_unfolding_all rfl) ?_ | refine r_c ?_ | refine r_name ?_ | refine r_I0 ?_ | refine r_I (by with_unfolding_all walk_at "side") ?_ | refine r_un ?_ | refine r_U ?_ | refine r_if ?_ | refine r_ifE ?_ | refine r_test ?_ | refine r_B ?_ | refine r_bl ?_ | refine r_not ?_ | refine r_and ?_ | refine r_or ?_ | refine r_andV ?_ | refine r_orV ?_ | refine r_notV ?_ | refine r_eqI ?_ | refine r_neI ?_ | refine r_tup ?_ | refine r_lst ?_ | refine r_sub ?_ | refine r_intI ?_ | refine r_intB ?_ | refine r_abs ?_ | refine r_max ?_ | refine r_ixL (SqL.of (by assumption)) (by with_unfolding_all rfl) ?_ | refine r_ixT (SqT.of (by assumption)) (by with_unfolding_all rfl) ?_ | refine r_lenL (SqL.of (by assumption)) ?_ | refine r_lenT (SqT.of (by assumption)) ?_ | refine r_callS ?_ | refine r_cutnx ?_ | refine r_cutrt ?_ | refine r_chain ?_ | refine r_yes ?_ | refine iteT ?_ | refine iteF ?_ | refine iteNF ?_ | refine iteNT ?_ | refine r_truth ?_ | refine r_truI ?_ | refine r_sliceV ?_ | refine r_for ?_ | refine r_rng1 ?_ | refine r_i1 (by with_unfolding_all walk_at "side") ?_))
section
variable {P : Program} {w : World} {K : PySem.W.Frag} {mg : Str → Option Value} {base : Heap} {D : Ad}
theorem wo_get {l p : Addr} {H H' : Hp} {o : HO} (e : Ext (wo l H) (wo l H')) (ne : p ≠ l) (h : H p = some o) : H' p = some o := by
  have := e p o (by rw [wo_ne ne]; exact h)
  rwa [wo_ne ne] at this
theorem val_at {t1 t2 t3 : Addr} {r : Int} (h0 : 0 ≤ r) (h1 : r < 10) : ∃ v, atI [.non, .str "", .str "size", .int 0, .int (-1), .int (10 ^ (40 : Int).toNat), .ref t1, .ref t2, .bl true, .ref t3] r = some v ∧ plainV v = true := by
  have hc : r = 0 ∨ r = 1 ∨ r = 2 ∨ r = 3 ∨ r = 4 ∨ r = 5 ∨ r = 6 ∨ r = 7 ∨ r = 8 ∨ r = 9 := by omega
  rcases hc with rfl | rfl | rfl | rfl | rfl | rfl | rfl | rfl | rfl | rfl <;> exact ⟨_, rfl, rfl⟩
theorem r_iList {K : PySem.W.Frag} {tl : TE} {σ : L2.St} {H : Hp} {R : It → Hp → Prop} (h : tl σ H fun x H1 => ∃ a, x = .ref a ∧ (∃ xs, SqL K H1 a xs) ∧ R (Itl K a) H1) : iList K tl σ H R := h
def spLaw (K : PySem.W.Frag) : Sp := fun vs H Q _ => ∃ (a : Addr) (ns : List Int), vs = [.ref a] ∧ SqL K H a (ns.map V.int) ∧ ns.length ≤ 63 ∧ ∀ H', Q (.bl true) H'
theorem ok_law (T : Txt K mg D) : FnOk P w K mg base CX0 8 D.a_law D.d_law ["_law_script"] (spLaw K) := by
  refine T.F_law.ok sc_law (fun vs H Q E h => ?_) (fun cdv A outer s H vs Q E hr h => ?_)
  · obtain ⟨a, ns, rfl, _⟩ := h
    rfl
  · obtain ⟨a, ns, rfl, hS, hlen, k⟩ := h
    refine ⟨_, (pss_cons (ps_set (i := 1) sc_law.nd rfl (Or.inl rfl) (pe_call (ok__law_start T) (hr.mono (by decide)) (by rfl) T.g__law_start T.F__law_start.kp T.b__law_start .nil pass0 (pa_cons (pe_call (ok__law_cell T) (hr.mono (by decide)) (by rfl) T.g__law_cell T.F__law_cell.kp T.b__law_cell .nil pass0 (pa_cons (pv 0) (pa_cons pe_int pa_nil))) pa_nil)))
  (pss_cons (ps_set (i := 2) sc_law.nd rfl (Or.inl rfl) (pe_lst (pa_cons pe_non (pa_cons pe_str (pa_cons pe_str (pa_cons pe_int (pa_cons (pe_un un_neg pe_int) (pa_cons (pe_op op_pow pe_int pe_int) (pa_cons (pe_tup (pa_cons pe_int (pa_cons pe_str pa_nil))) (pa_cons (pe_lst (pa_cons pe_int pa_nil)) (pa_cons pe_bl (pa_cons pe_dnewK pa_nil))))))))))))
  (pss_cons (ps_set (i := 3) sc_law.nd rfl (Or.inl rfl) (pe_ix (ix_listC K) (pv 2) (pe_call (ok__law_take T) (hr.mono (by decide)) (by rfl) T.g__law_take T.F__law_take.kp T.b__law_take .nil pass0 (pa_cons (pv 1) (pa_cons pe_int pa_nil))) (fun _ _ => rfl)))
  (pss_cons (ps_set (i := 4) sc_law.nd rfl (Or.inl rfl) (pe_ix (ix_listC K) (pv 2) (pe_call (ok__law_take T) (hr.mono (by decide)) (by rfl) T.g__law_take T.F__law_take.kp T.b__law_take .nil pass0 (pa_cons (pv 1) (pa_cons pe_int pa_nil))) (fun _ _ => rfl)))
  (pss_cons (ps_for PassesOwn.never rfl (pi_list (pe_lst (pa_cons (pe_call (ok__law_by_place T) (hr.mono (by decide)) (by rfl) T.g__law_by_place T.F__law_by_place.kp T.b__law_by_place .nil pass0 (pa_cons (pv 3) (pa_cons (pv 4) pa_nil))) (pa_cons (pe_call (ok__law_by_name T) (hr.mono (by decide)) (by rfl) T.g__law_by_name T.F__law_by_name.kp T.b__law_by_name .nil pass0 (pa_cons (pv 3) (pa_cons (pv 4) pa_nil))) pa_nil)))) (pg_name (i := 5) sc_law.nd rfl (Or.inl rfl))
    (pss_cons (ps_for PassesOwn.never rfl (pi_range1 rfl T.n_range (pa_cons pe_int pa_nil)) (pg_name (i := 6) sc_law.nd rfl (Or.inr rfl))
      (pss_cons (ps_if (PW.pt (pw_or (pt_not (pt_val (pe_callB (call_exoIs K) (by rfl) T.n_isinstance (by decide +kernel) (pa_cons (pe_ix (ix_listC K) (pv 5) (pv 6) (fun _ _ => rfl)) (pa_cons (pe_glob (v := .ref D.c_SweepError) rfl T.g_SweepError rfl) pa_nil))))) (pw_or1 (pt_not (pt_val (pe_callB (call_exoIs K) (by rfl) T.n_isinstance (by decide +kernel) (pa_cons (pe_ix (ix_listC K) (pv 5) (pv 6) (fun _ _ => rfl)) (pa_cons (pe_bltn (v := .ty "ValueError") (by rfl) T.n_ValueError (by decide +kernel) rfl) pa_nil))))))))
        (pss_one (ps_ret pe_bl))
        pss_nil)
      (pss_one (ps_if (pt_cmpR (op_neSame K hr.units) (pe_call (ok__law_classes T) (hr.mono (by decide)) (by rfl) T.g__law_classes T.F__law_classes.kp T.b__law_classes .nil pass0 (pa_cons (pe_ix (ix_listC K) (pv 5) (pv 6) (fun _ _ => rfl)) pa_nil)) (pe_lc (own := [("_law_j", 7)]) (g := gName 7) rfl sc_law.nd (pi_range1 rfl T.n_range (pa_cons pe_int pa_nil)) (blkOk_by (own := [("_law_j", 7)]) (N := ["_law_script", "_law_state", "_law_values", "_law_one", "_law_two", "_law_found", "_law_k", "_law_j"]) (sc := defScope s_law) (by decide +kernel)) (fun _ _ _ _ _ => pg_name (i := 7) sc_law.nd rfl (Or.inl rfl)) (fun _ _ _ _ _ => pts_nil) (fun _ _ _ _ _ => (pe_cmpR op_eq (pv 7) (pv 6) (nomark _)))) (nomark _))
        (pss_one (ps_ret pe_bl))
        pss_nil))))
    (pss_one (ps_if (pt_cmpR (op_neSame K hr.units) (pe_call (ok__law_fields T) (hr.mono (by decide)) (by rfl) T.g__law_fields T.F__law_fields.kp T.b__law_fields .nil pass0 (pa_cons (pv 5) pa_nil)) (pe_lst (pa_cons (pv 3) (pa_cons (pv 4) (pa_cons (pv 3) (pa_cons (pv 3) (pa_cons (pv 3) (pa_cons (pv 3) (pa_cons (pv 3) (pa_cons (pv 4) (pa_cons (pv 3) (pa_cons (pv 3) (pa_cons (pv 3) (pa_cons (pv 3) pa_nil))))))))))))) (nomark _))
      (pss_one (ps_ret pe_bl))
      pss_nil))))
  (pss_one (ps_ret pe_bl))))))), ?_⟩
    walk_at "rd"
    refine ⟨a, ns, _, rfl, hS, by decide, fun z => ?_⟩
    walk_at "rd"
    refine ⟨z, rfl, fun l n b H1 nl e1 hl n0 => ?_⟩
    walk_at "rd"
    refine r_size (by show 2 ≤ 1000; decide) fun t1 m1 => ?_
    walk_at "rd"
    refine r_size (by show 1 ≤ 1000; decide) fun t2 m2 => ?_
    walk_at "rd"
    intro t3 m3
    walk_at "rd"
    refine r_size (by show 10 ≤ 1000; decide) fun p mp => ?_
    obtain ⟨y0, w0⟩ := newAt (o := .lst [.non, .str "", .str "size", .int 0, .int (-1), .int (10 ^ (40 : Int).toNat), .ref t1, .ref t2, .bl true, .ref t3]) mp
    have yy := ((Ext.new (o := .tup [.int 1, .str "a"]) m1).trans (Ext.new (o := .lst [.int 2]) m2)).trans (Ext.new (o := .dK []) m3)
    have ne0 : p ≠ l := by
      rintro rfl
      have := yy _ _ hl
      rw [mp] at this
      cases this
    have hl2 := y0 _ _ (yy _ _ hl)
    generalize hG : upd _ p _ = G at y0 w0 hl2 ⊢
    clear hG
    walk_at "rd"
    refine ⟨l, _, _, _, _, rfl, hl2, by decide, by decide +kernel, fun r n1 b1 c1 H3 r0 r1 hl3 e3 => ?_⟩
    have w3 : H3 p = some (.lst [.non, .str "", .str "size", .int 0, .int (-1), .int (10 ^ (40 : Int).toNat), .ref t1, .ref t2, .bl true, .ref t3]) := wo_get e3 ne0 w0
    obtain ⟨v, hv, pv⟩ := val_at (t1 := t1) (t2 := t2) (t3 := t3) r0 r1
    refine r_ixL (SqL.of w3) hv ?_
    walk_at "rd"
    refine ⟨l, _, _, _, _, rfl, hl3, by decide, by decide +kernel, fun r' n2 b2 c2 H4 r0' r1' hl4 e4 => ?_⟩
    have w4 := wo_get e4 ne0 w3
    obtain ⟨u, hu, pu⟩ := val_at (t1 := t1) (t2 := t2) (t3 := t3) r0' r1'
    refine r_ixL (SqL.of w4) hu ?_
    clear hl4 hl3 e3 e4 w3 w4 hv hu w0 hl2 y0
    walk_at "rd"
    refine r_iList ?_
    walk_at "rd"
    refine ⟨v, u, rfl, fun L1 es1 G1 k1 x1 hL1 h1 => ?_⟩
    walk_at "rd"
    refine ⟨v, u, rfl, fun L2 es2 G2 k2 x2 hL2 h2 => ?_⟩
    walk_at "rd"
    refine r_size (by show 2 ≤ 1000; decide) fun q mq => ?_
    have wq : (upd G2 q (.lst [.ref L1, .ref L2])) q = some (.lst [.ref L1, .ref L2]) := upd_same
    have yq := Ext.new (o := .lst [.ref L1, .ref L2]) mq
    have h1 := h1.ext (x2.trans yq)
    have h2 := h2.ext yq
    have hL1 := yq _ _ (x2 _ _ hL1)
    have hL2 := yq _ _ hL2
    generalize hG : upd G2 q _ = G at wq h1 h2 hL1 hL2 ⊢
    clear hG yq
    refine ⟨q, rfl, ⟨_, SqL.of wq⟩, ?_⟩
    refine foin_it (walk_list (xs := [.ref L1, .ref L2])) (fun i τ G' => Ext G G' ∧ ∃ v5 v6, τ = [some (.ref a), some (.ref l), some (.ref p), some v, some u, v5, v6, none]) ⟨Ext.refl _, none, none, rfl⟩ (fun i τ G' _ h => SqL.of (h.1 _ _ wq)) (fun i x τ G' G'' hi h y => ?_) (fun τ G' h => ?_)
    · obtain ⟨rfl, hx⟩ := y
      obtain ⟨e', v5, v6, rfl⟩ := h
      obtain ⟨L, es, rfl, hL, hE⟩ : ∃ L es, x = .ref L ∧ G'' L = some (.lst (es.map V.ref)) ∧ Errs D G'' es v u := by
        have hc : i = 0 ∨ i = 1 := by
          have : i < 2 := hi
          omega
        rcases hc with rfl | rfl
        · cases hx
          exact ⟨L1, es1, rfl, e' _ _ hL1, h1.ext e'⟩
        · cases hx
          exact ⟨L2, es2, rfl, e' _ _ hL2, h2.ext e'⟩
      walk_at "rd"
      refine foin_range (n := 12) (fun j τ G' => Ext G'' G' ∧ ∃ v6, τ = [some (.ref a), some (.ref l), some (.ref p), some v, some u, some (.ref L), v6, none]) ⟨Ext.refl _, v6, rfl⟩ (fun j τ F hj h => ?_) (fun τ F h => ?_)
      · obtain ⟨f', w6, rfl⟩ := h
        obtain ⟨e, he, hEr⟩ := hE.2 j hj
        have hEr := hEr.ext f'
        have hLF := f' _ _ hL
        have at_ : atI (es.map V.ref) (0 + ((j : Nat) : Int)) = some (.ref e) := by
          rw [Int.zero_add]
          refine atI_nat ?_
          rw [List.getElem?_map, he]
          rfl
        walk_at "rd"
        refine r_ixL (SqL.of hLF) at_ ?_
        walk_at "rd"
        refine r_exoIs hEr (T.excs j hj) (.own _) (T.kse j hj) ?_
        walk_at "rd"
        refine r_ixL (SqL.of hLF) at_ ?_
        walk_at "rd"
        refine r_exoIs hEr (T.excs j hj) (.ty _) (T.kve j hj) ?_
        walk_at "rd"
        refine r_ixL (SqL.of hLF) at_ ?_
        walk_at "rd"
        refine ⟨e, j, _, rfl, hj, hEr, fun M F1 nM f1 hM => ?_⟩
        walk_at "rd"
        refine r_lc ?_
        walk_at "rd"
        intro Z nZ
        refine lcin_range (n := 12) (fun i F2 => Ext F1 F2 ∧ F2 Z = some (.lst ((List.range i).map fun m => V.bl (j == m)))) ⟨Ext.new nZ, upd_same⟩ (fun i F2 hi h => ⟨rfl, ?_⟩) (fun F2 h => ?_)
        · obtain ⟨g, hz⟩ := h
          walk_at "rd"
          refine ⟨_, hz, by rw [List.length_map, List.length_range, sizeLine_eq]; omega, g.mut nZ, ?_⟩
          rw [upd_same, List.range_succ, List.map_append]
          have : decide ((0 : Int) + (i : Int) = 0 + (j : Int)) = (j == i) := by
            by_cases h : j = i
            · subst h
              simp
            · have h1 : ¬ (0 : Int) + (i : Int) = 0 + (j : Int) := by omega
              have h2 : (j == i) = false := by simp [h]
              rw [decide_eq_false h1, h2]
          rw [this]
          rfl
        · obtain ⟨g, hz⟩ := h
          walk_at "rd"
          refine ⟨M, Z, _, rfl, rfl, SqL.of (g _ _ hM), SqL.of hz, by simp [plainV], ?_⟩
          walk_at "rd"
          exact ⟨(f'.trans f1).trans g, _, rfl⟩
      · obtain ⟨f', w6, rfl⟩ := h
        walk_at "rd"
        refine ⟨L, es, v, u, rfl, f' _ _ hL, hE.ext f', fun M F1 nM f1 hM => ?_⟩
        walk_at "rd"
        refine r_size (by show 12 ≤ 1000; decide) fun N nN => ?_
        refine ⟨M, N, _, rfl, rfl, SqL.of (Ext.new nN _ _ hM), SqL.of upd_same, by simp [List.all_cons, pv, pu], ?_⟩
        walk_at "rd"
        exact ⟨((e'.trans f').trans f1).trans (Ext.new nN), _, _, rfl⟩
    · obtain ⟨_, v5, v6, rfl⟩ := h
      walk_at "rd"
      exact k _
end
end Rk

namespace Rk
open PySem L2 Own
theorem exm_any {K : PySem.W.Frag} {C S : Addr} {b : Bool} (h1 : PySem.W.subIn K (.ref S) (.type "BaseException") = some true) (h2 : PySem.W.isClsIn K S = true) (h3 : PySem.W.typeIn K (.ref S) = some (.type "type")) (h4 : PySem.W.subIn K (.ref C) (.ref S) = some b) : PySem.W.exmOne K (.ref C) (.ref S) = some b := by
  have e1 : (PySem.W.subIn K (.ref S) (.type "BaseException") == some true) = true := by rw [h1]; rfl
  have e2 : ((PySem.W.clsIn K S).isSome && PySem.W.typeIn K (.ref S) == some (.type "type")) = true := by
    have h2' : (PySem.W.clsIn K S).isSome = true := h2
    rw [h2', h3]
    rfl
  show (if (PySem.W.subIn K (.ref S) (.type "BaseException") == some true) = true then (if ((PySem.W.clsIn K S).isSome && PySem.W.typeIn K (.ref S) == some (.type "type")) = true then PySem.W.subIn K (.ref C) (.ref S) else none) else none) = some b
  rw [if_pos e1, if_pos e2]
  exact h4
theorem all12 {p : Nat → Prop} (h : p 0 ∧ p 1 ∧ p 2 ∧ p 3 ∧ p 4 ∧ p 5 ∧ p 6 ∧ p 7 ∧ p 8 ∧ p 9 ∧ p 10 ∧ p 11) : ∀ k, k < 12 → p k := by
  obtain ⟨h0, h1, h2, h3, h4, h5, h6, h7, h8, h9, h10, h11⟩ := h
  intro k hk
  have hc : k = 0 ∨ k = 1 ∨ k = 2 ∨ k = 3 ∨ k = 4 ∨ k = 5 ∨ k = 6 ∨ k = 7 ∨ k = 8 ∨ k = 9 ∨ k = 10 ∨ k = 11 := by omega
  rcases hc with rfl | rfl | rfl | rfl | rfl | rfl | rfl | rfl | rfl | rfl | rfl | rfl <;> assumption
theorem all144 {p : Nat → Nat → Prop} (h : ∀ k, k < 12 → ∀ j, j < 12 → p k j) : ∀ k j, k < 12 → j < 12 → p k j := fun k j hk hj => h k hk j hj
theorem all_mk {l : PySem.W.OpenLaw} {w : World} {K : PySem.W.Frag} {h : Heap} {mg : Str → Option Value} {fa c_SweepError c_NoRow a_NoRow__init__ c_NoSweep a_NoSweep__init__ c_NoChain a_NoChain__init__ c_NoNumber a_NoNumber__init__ c_TooMany a_TooMany__init__ c_TooLarge a_TooLarge__init__ c_NoRows a_NoRows__init__ c_NoForm c_NoRing c_NoText a_NoText__init__ c_NoAnswer a_NoAnswer__init__ c_NoName a_NoName__init__ a__law_cell a__law_start a__law_take a__law_classes a__law_by_place a__law_by_name a__law_fields a_law : Addr} (X : K.In h) (G : h.Ns mainGlobals mg) (hfa : mg "law" = some (.ref fa))
    {nm_NoRow qn_NoRow : Str} {N_NoRow : Addr} {bs_NoRow : List Value} {sn_NoRow : List Str} {sub_NoRow : List Value} {ab_NoRow : Bool} {col_NoRow : Option Bool} {dd_NoRow : Option Addr} {m0_NoRow m1_NoRow m2_NoRow m3_NoRow m5_NoRow : Option Value}
    {oc0 kV0 dc0 pm0 cd0 ct0 : Value} {od0 an0 : Option Addr} {sl0 : Array (Option Value)}
    {nm_NoSweep qn_NoSweep : Str} {N_NoSweep : Addr} {bs_NoSweep : List Value} {sn_NoSweep : List Str} {sub_NoSweep : List Value} {ab_NoSweep : Bool} {col_NoSweep : Option Bool} {dd_NoSweep : Option Addr} {m0_NoSweep m1_NoSweep m2_NoSweep m3_NoSweep m5_NoSweep : Option Value}
    {oc1 kV1 dc1 pm1 cd1 ct1 : Value} {od1 an1 : Option Addr} {sl1 : Array (Option Value)}
    {nm_NoChain qn_NoChain : Str} {N_NoChain : Addr} {bs_NoChain : List Value} {sn_NoChain : List Str} {sub_NoChain : List Value} {ab_NoChain : Bool} {col_NoChain : Option Bool} {dd_NoChain : Option Addr} {m0_NoChain m1_NoChain m2_NoChain m3_NoChain m5_NoChain : Option Value}
    {oc2 kV2 dc2 pm2 cd2 ct2 : Value} {od2 an2 : Option Addr} {sl2 : Array (Option Value)}
    {nm_NoNumber qn_NoNumber : Str} {N_NoNumber : Addr} {bs_NoNumber : List Value} {sn_NoNumber : List Str} {sub_NoNumber : List Value} {ab_NoNumber : Bool} {col_NoNumber : Option Bool} {dd_NoNumber : Option Addr} {m0_NoNumber m1_NoNumber m2_NoNumber m3_NoNumber m5_NoNumber : Option Value}
    {oc3 kV3 dc3 pm3 cd3 ct3 : Value} {od3 an3 : Option Addr} {sl3 : Array (Option Value)}
    {nm_TooMany qn_TooMany : Str} {N_TooMany : Addr} {bs_TooMany : List Value} {sn_TooMany : List Str} {sub_TooMany : List Value} {ab_TooMany : Bool} {col_TooMany : Option Bool} {dd_TooMany : Option Addr} {m0_TooMany m1_TooMany m2_TooMany m3_TooMany m5_TooMany : Option Value}
    {oc4 kV4 dc4 pm4 cd4 ct4 : Value} {od4 an4 : Option Addr} {sl4 : Array (Option Value)}
    {nm_TooLarge qn_TooLarge : Str} {N_TooLarge : Addr} {bs_TooLarge : List Value} {sn_TooLarge : List Str} {sub_TooLarge : List Value} {ab_TooLarge : Bool} {col_TooLarge : Option Bool} {dd_TooLarge : Option Addr} {m0_TooLarge m1_TooLarge m2_TooLarge m3_TooLarge m5_TooLarge : Option Value}
    {oc5 kV5 dc5 pm5 cd5 ct5 : Value} {od5 an5 : Option Addr} {sl5 : Array (Option Value)}
    {nm_NoRows qn_NoRows : Str} {N_NoRows : Addr} {bs_NoRows : List Value} {sn_NoRows : List Str} {sub_NoRows : List Value} {ab_NoRows : Bool} {col_NoRows : Option Bool} {dd_NoRows : Option Addr} {m0_NoRows m1_NoRows m2_NoRows m3_NoRows m5_NoRows : Option Value}
    {oc6 kV6 dc6 pm6 cd6 ct6 : Value} {od6 an6 : Option Addr} {sl6 : Array (Option Value)}
    {nm_NoText qn_NoText : Str} {N_NoText : Addr} {bs_NoText : List Value} {sn_NoText : List Str} {sub_NoText : List Value} {ab_NoText : Bool} {col_NoText : Option Bool} {dd_NoText : Option Addr} {m0_NoText m1_NoText m2_NoText m3_NoText m5_NoText : Option Value}
    {oc7 kV7 dc7 pm7 cd7 ct7 : Value} {od7 an7 : Option Addr} {sl7 : Array (Option Value)}
    {nm_NoAnswer qn_NoAnswer : Str} {N_NoAnswer : Addr} {bs_NoAnswer : List Value} {sn_NoAnswer : List Str} {sub_NoAnswer : List Value} {ab_NoAnswer : Bool} {col_NoAnswer : Option Bool} {dd_NoAnswer : Option Addr} {m0_NoAnswer m1_NoAnswer m2_NoAnswer m3_NoAnswer m5_NoAnswer : Option Value}
    {oc8 kV8 dc8 pm8 cd8 ct8 : Value} {od8 an8 : Option Addr} {sl8 : Array (Option Value)}
    {nm_NoName qn_NoName : Str} {N_NoName : Addr} {bs_NoName : List Value} {sn_NoName : List Str} {sub_NoName : List Value} {ab_NoName : Bool} {col_NoName : Option Bool} {dd_NoName : Option Addr} {m0_NoName m1_NoName m2_NoName m3_NoName m5_NoName : Option Value}
    {oc9 kV9 dc9 pm9 cd9 ct9 : Value} {od9 an9 : Option Addr} {sl9 : Array (Option Value)}
    {oc10 kV10 dc10 pm10 cd10 ct10 : Value} {od10 an10 : Option Addr} {sl10 : Array (Option Value)}
    {oc11 kV11 dc11 pm11 cd11 ct11 : Value} {od11 an11 : Option Addr} {sl11 : Array (Option Value)}
    {oc12 kV12 dc12 pm12 cd12 ct12 : Value} {od12 an12 : Option Addr} {sl12 : Array (Option Value)}
    {oc13 kV13 dc13 pm13 cd13 ct13 : Value} {od13 an13 : Option Addr} {sl13 : Array (Option Value)}
    {oc14 kV14 dc14 pm14 cd14 ct14 : Value} {od14 an14 : Option Addr} {sl14 : Array (Option Value)}
    {oc15 kV15 dc15 pm15 cd15 ct15 : Value} {od15 an15 : Option Addr} {sl15 : Array (Option Value)}
    {oc16 kV16 dc16 pm16 cd16 ct16 : Value} {od16 an16 : Option Addr} {sl16 : Array (Option Value)}
    {oc17 kV17 dc17 pm17 cd17 ct17 : Value} {od17 an17 : Option Addr} {sl17 : Array (Option Value)}
    (g_SweepError : PySem.W.nsIn K mainGlobals "SweepError" = some (some (.ref c_SweepError)))
    (g_NoRow : PySem.W.nsIn K mainGlobals "NoRow" = some (some (.ref c_NoRow)))
    (g_NoSweep : PySem.W.nsIn K mainGlobals "NoSweep" = some (some (.ref c_NoSweep)))
    (g_NoChain : PySem.W.nsIn K mainGlobals "NoChain" = some (some (.ref c_NoChain)))
    (g_NoNumber : PySem.W.nsIn K mainGlobals "NoNumber" = some (some (.ref c_NoNumber)))
    (g_TooMany : PySem.W.nsIn K mainGlobals "TooMany" = some (some (.ref c_TooMany)))
    (g_TooLarge : PySem.W.nsIn K mainGlobals "TooLarge" = some (some (.ref c_TooLarge)))
    (g_NoRows : PySem.W.nsIn K mainGlobals "NoRows" = some (some (.ref c_NoRows)))
    (g_NoForm : PySem.W.nsIn K mainGlobals "NoForm" = some (some (.ref c_NoForm)))
    (g_NoRing : PySem.W.nsIn K mainGlobals "NoRing" = some (some (.ref c_NoRing)))
    (g_NoText : PySem.W.nsIn K mainGlobals "NoText" = some (some (.ref c_NoText)))
    (g_NoAnswer : PySem.W.nsIn K mainGlobals "NoAnswer" = some (some (.ref c_NoAnswer)))
    (g_NoName : PySem.W.nsIn K mainGlobals "NoName" = some (some (.ref c_NoName)))
    (ga_SweepError : PySem.W.findIn K (.ref c_SweepError) "__getattribute__" = some (some (.builtin "BaseException.__getattribute__")))
    (gg_SweepError : PySem.W.findIn K (.ref c_SweepError) "__getattr__" = some none)
    (ec_SweepError : PySem.W.subIn K (.ref c_SweepError) (.type "BaseException") = some true)
    (hc_SweepError : PySem.W.hasDictIn K c_SweepError = true)
    (tc_SweepError : PySem.W.typeIn K (.ref c_SweepError) = some (.type "type"))
    (ic_SweepError : PySem.W.isClsIn K c_SweepError = true)
    (ga_NoRow : PySem.W.findIn K (.ref c_NoRow) "__getattribute__" = some (some (.builtin "BaseException.__getattribute__")))
    (gg_NoRow : PySem.W.findIn K (.ref c_NoRow) "__getattr__" = some none)
    (ec_NoRow : PySem.W.subIn K (.ref c_NoRow) (.type "BaseException") = some true)
    (hc_NoRow : PySem.W.hasDictIn K c_NoRow = true)
    (tc_NoRow : PySem.W.typeIn K (.ref c_NoRow) = some (.type "type"))
    (ic_NoRow : PySem.W.isClsIn K c_NoRow = true)
    (ha_NoRow : PySem.W.findIn K (.ref c_NoRow) "__class__" = some (some (.builtin "object.__class__")))
    (hm_NoRow : PySem.W.mroIn K c_NoRow (.type "object") = some true)
    (kc_NoRow : PySem.W.keepIn K (.ref c_NoRow) = true)
    (sv_NoRow : PySem.W.subIn K (.ref c_NoRow) (.type "ValueError") = some true)
    (se_NoRow : PySem.W.subIn K (.ref c_NoRow) (.ref c_SweepError) = some true)
    (s_NoRow_NoAnswer : PySem.W.subIn K (.ref c_NoRow) (.ref c_NoAnswer) = some false)
    (s_NoRow_NoChain : PySem.W.subIn K (.ref c_NoRow) (.ref c_NoChain) = some false)
    (s_NoRow_NoForm : PySem.W.subIn K (.ref c_NoRow) (.ref c_NoForm) = some false)
    (s_NoRow_NoName : PySem.W.subIn K (.ref c_NoRow) (.ref c_NoName) = some false)
    (s_NoRow_NoNumber : PySem.W.subIn K (.ref c_NoRow) (.ref c_NoNumber) = some false)
    (s_NoRow_NoRing : PySem.W.subIn K (.ref c_NoRow) (.ref c_NoRing) = some false)
    (s_NoRow_NoRow : PySem.W.subIn K (.ref c_NoRow) (.ref c_NoRow) = some true)
    (s_NoRow_NoRows : PySem.W.subIn K (.ref c_NoRow) (.ref c_NoRows) = some false)
    (s_NoRow_NoSweep : PySem.W.subIn K (.ref c_NoRow) (.ref c_NoSweep) = some false)
    (s_NoRow_NoText : PySem.W.subIn K (.ref c_NoRow) (.ref c_NoText) = some false)
    (s_NoRow_TooLarge : PySem.W.subIn K (.ref c_NoRow) (.ref c_TooLarge) = some false)
    (s_NoRow_TooMany : PySem.W.subIn K (.ref c_NoRow) (.ref c_TooMany) = some false)
    (x_NoRow : K.lookup c_NoRow = some (excClassObj nm_NoRow qn_NoRow c_NoRow N_NoRow bs_NoRow [.ref c_SweepError, .type "ValueError", .type "Exception", .type "BaseException", .type "object"] true sn_NoRow sub_NoRow ab_NoRow col_NoRow dd_NoRow m0_NoRow m1_NoRow m2_NoRow m3_NoRow m5_NoRow "ValueError.__new__"))
    (sa_NoRow : PySem.W.findIn K (.ref c_NoRow) "__setattr__" = some (some (.builtin "object.__setattr__")))
    (q0 : PySem.W.findIn K (.ref c_NoRow) "__init__" = some (some (.ref a_NoRow__init__)))
    (l0 : K.lookup a_NoRow__init__ = some ⟨oc0, od0, .func (PySem.W.fnOf "__init__" "NoRow.__init__" (defArgs s_NoRow__init__) (defBody s_NoRow__init__) (defScope s_NoRow__init__) .none kV0 dc0 pm0 an0 cd0 ct0), sl0⟩)
    (cc0 : PySem.W.codeIn K cd0 "NoRow.__init__" = true)
    (kk0 : PySem.W.keepIn K (.ref a_NoRow__init__) = true)
    (t_NoRow__init__ : PySem.W.typeIn K (.ref a_NoRow__init__) = some (.type "function"))
    (no_NoRow_index : PySem.W.findIn K (.ref c_NoRow) "index" = some none)
    (ga_NoSweep : PySem.W.findIn K (.ref c_NoSweep) "__getattribute__" = some (some (.builtin "BaseException.__getattribute__")))
    (gg_NoSweep : PySem.W.findIn K (.ref c_NoSweep) "__getattr__" = some none)
    (ec_NoSweep : PySem.W.subIn K (.ref c_NoSweep) (.type "BaseException") = some true)
    (hc_NoSweep : PySem.W.hasDictIn K c_NoSweep = true)
    (tc_NoSweep : PySem.W.typeIn K (.ref c_NoSweep) = some (.type "type"))
    (ic_NoSweep : PySem.W.isClsIn K c_NoSweep = true)
    (ha_NoSweep : PySem.W.findIn K (.ref c_NoSweep) "__class__" = some (some (.builtin "object.__class__")))
    (hm_NoSweep : PySem.W.mroIn K c_NoSweep (.type "object") = some true)
    (kc_NoSweep : PySem.W.keepIn K (.ref c_NoSweep) = true)
    (sv_NoSweep : PySem.W.subIn K (.ref c_NoSweep) (.type "ValueError") = some true)
    (se_NoSweep : PySem.W.subIn K (.ref c_NoSweep) (.ref c_SweepError) = some true)
    (s_NoSweep_NoAnswer : PySem.W.subIn K (.ref c_NoSweep) (.ref c_NoAnswer) = some false)
    (s_NoSweep_NoChain : PySem.W.subIn K (.ref c_NoSweep) (.ref c_NoChain) = some false)
    (s_NoSweep_NoForm : PySem.W.subIn K (.ref c_NoSweep) (.ref c_NoForm) = some false)
    (s_NoSweep_NoName : PySem.W.subIn K (.ref c_NoSweep) (.ref c_NoName) = some false)
    (s_NoSweep_NoNumber : PySem.W.subIn K (.ref c_NoSweep) (.ref c_NoNumber) = some false)
    (s_NoSweep_NoRing : PySem.W.subIn K (.ref c_NoSweep) (.ref c_NoRing) = some false)
    (s_NoSweep_NoRow : PySem.W.subIn K (.ref c_NoSweep) (.ref c_NoRow) = some false)
    (s_NoSweep_NoRows : PySem.W.subIn K (.ref c_NoSweep) (.ref c_NoRows) = some false)
    (s_NoSweep_NoSweep : PySem.W.subIn K (.ref c_NoSweep) (.ref c_NoSweep) = some true)
    (s_NoSweep_NoText : PySem.W.subIn K (.ref c_NoSweep) (.ref c_NoText) = some false)
    (s_NoSweep_TooLarge : PySem.W.subIn K (.ref c_NoSweep) (.ref c_TooLarge) = some false)
    (s_NoSweep_TooMany : PySem.W.subIn K (.ref c_NoSweep) (.ref c_TooMany) = some false)
    (x_NoSweep : K.lookup c_NoSweep = some (excClassObj nm_NoSweep qn_NoSweep c_NoSweep N_NoSweep bs_NoSweep [.ref c_SweepError, .type "ValueError", .type "Exception", .type "BaseException", .type "object"] true sn_NoSweep sub_NoSweep ab_NoSweep col_NoSweep dd_NoSweep m0_NoSweep m1_NoSweep m2_NoSweep m3_NoSweep m5_NoSweep "ValueError.__new__"))
    (sa_NoSweep : PySem.W.findIn K (.ref c_NoSweep) "__setattr__" = some (some (.builtin "object.__setattr__")))
    (q1 : PySem.W.findIn K (.ref c_NoSweep) "__init__" = some (some (.ref a_NoSweep__init__)))
    (l1 : K.lookup a_NoSweep__init__ = some ⟨oc1, od1, .func (PySem.W.fnOf "__init__" "NoSweep.__init__" (defArgs s_NoSweep__init__) (defBody s_NoSweep__init__) (defScope s_NoSweep__init__) .none kV1 dc1 pm1 an1 cd1 ct1), sl1⟩)
    (cc1 : PySem.W.codeIn K cd1 "NoSweep.__init__" = true)
    (kk1 : PySem.W.keepIn K (.ref a_NoSweep__init__) = true)
    (t_NoSweep__init__ : PySem.W.typeIn K (.ref a_NoSweep__init__) = some (.type "function"))
    (no_NoSweep_part : PySem.W.findIn K (.ref c_NoSweep) "part" = some none)
    (ga_NoChain : PySem.W.findIn K (.ref c_NoChain) "__getattribute__" = some (some (.builtin "BaseException.__getattribute__")))
    (gg_NoChain : PySem.W.findIn K (.ref c_NoChain) "__getattr__" = some none)
    (ec_NoChain : PySem.W.subIn K (.ref c_NoChain) (.type "BaseException") = some true)
    (hc_NoChain : PySem.W.hasDictIn K c_NoChain = true)
    (tc_NoChain : PySem.W.typeIn K (.ref c_NoChain) = some (.type "type"))
    (ic_NoChain : PySem.W.isClsIn K c_NoChain = true)
    (ha_NoChain : PySem.W.findIn K (.ref c_NoChain) "__class__" = some (some (.builtin "object.__class__")))
    (hm_NoChain : PySem.W.mroIn K c_NoChain (.type "object") = some true)
    (kc_NoChain : PySem.W.keepIn K (.ref c_NoChain) = true)
    (sv_NoChain : PySem.W.subIn K (.ref c_NoChain) (.type "ValueError") = some true)
    (se_NoChain : PySem.W.subIn K (.ref c_NoChain) (.ref c_SweepError) = some true)
    (s_NoChain_NoAnswer : PySem.W.subIn K (.ref c_NoChain) (.ref c_NoAnswer) = some false)
    (s_NoChain_NoChain : PySem.W.subIn K (.ref c_NoChain) (.ref c_NoChain) = some true)
    (s_NoChain_NoForm : PySem.W.subIn K (.ref c_NoChain) (.ref c_NoForm) = some false)
    (s_NoChain_NoName : PySem.W.subIn K (.ref c_NoChain) (.ref c_NoName) = some false)
    (s_NoChain_NoNumber : PySem.W.subIn K (.ref c_NoChain) (.ref c_NoNumber) = some false)
    (s_NoChain_NoRing : PySem.W.subIn K (.ref c_NoChain) (.ref c_NoRing) = some false)
    (s_NoChain_NoRow : PySem.W.subIn K (.ref c_NoChain) (.ref c_NoRow) = some false)
    (s_NoChain_NoRows : PySem.W.subIn K (.ref c_NoChain) (.ref c_NoRows) = some false)
    (s_NoChain_NoSweep : PySem.W.subIn K (.ref c_NoChain) (.ref c_NoSweep) = some false)
    (s_NoChain_NoText : PySem.W.subIn K (.ref c_NoChain) (.ref c_NoText) = some false)
    (s_NoChain_TooLarge : PySem.W.subIn K (.ref c_NoChain) (.ref c_TooLarge) = some false)
    (s_NoChain_TooMany : PySem.W.subIn K (.ref c_NoChain) (.ref c_TooMany) = some false)
    (x_NoChain : K.lookup c_NoChain = some (excClassObj nm_NoChain qn_NoChain c_NoChain N_NoChain bs_NoChain [.ref c_SweepError, .type "ValueError", .type "Exception", .type "BaseException", .type "object"] true sn_NoChain sub_NoChain ab_NoChain col_NoChain dd_NoChain m0_NoChain m1_NoChain m2_NoChain m3_NoChain m5_NoChain "ValueError.__new__"))
    (sa_NoChain : PySem.W.findIn K (.ref c_NoChain) "__setattr__" = some (some (.builtin "object.__setattr__")))
    (q2 : PySem.W.findIn K (.ref c_NoChain) "__init__" = some (some (.ref a_NoChain__init__)))
    (l2 : K.lookup a_NoChain__init__ = some ⟨oc2, od2, .func (PySem.W.fnOf "__init__" "NoChain.__init__" (defArgs s_NoChain__init__) (defBody s_NoChain__init__) (defScope s_NoChain__init__) .none kV2 dc2 pm2 an2 cd2 ct2), sl2⟩)
    (cc2 : PySem.W.codeIn K cd2 "NoChain.__init__" = true)
    (kk2 : PySem.W.keepIn K (.ref a_NoChain__init__) = true)
    (t_NoChain__init__ : PySem.W.typeIn K (.ref a_NoChain__init__) = some (.type "function"))
    (no_NoChain_name : PySem.W.findIn K (.ref c_NoChain) "name" = some none)
    (ga_NoNumber : PySem.W.findIn K (.ref c_NoNumber) "__getattribute__" = some (some (.builtin "BaseException.__getattribute__")))
    (gg_NoNumber : PySem.W.findIn K (.ref c_NoNumber) "__getattr__" = some none)
    (ec_NoNumber : PySem.W.subIn K (.ref c_NoNumber) (.type "BaseException") = some true)
    (hc_NoNumber : PySem.W.hasDictIn K c_NoNumber = true)
    (tc_NoNumber : PySem.W.typeIn K (.ref c_NoNumber) = some (.type "type"))
    (ic_NoNumber : PySem.W.isClsIn K c_NoNumber = true)
    (ha_NoNumber : PySem.W.findIn K (.ref c_NoNumber) "__class__" = some (some (.builtin "object.__class__")))
    (hm_NoNumber : PySem.W.mroIn K c_NoNumber (.type "object") = some true)
    (kc_NoNumber : PySem.W.keepIn K (.ref c_NoNumber) = true)
    (sv_NoNumber : PySem.W.subIn K (.ref c_NoNumber) (.type "ValueError") = some true)
    (se_NoNumber : PySem.W.subIn K (.ref c_NoNumber) (.ref c_SweepError) = some true)
    (s_NoNumber_NoAnswer : PySem.W.subIn K (.ref c_NoNumber) (.ref c_NoAnswer) = some false)
    (s_NoNumber_NoChain : PySem.W.subIn K (.ref c_NoNumber) (.ref c_NoChain) = some false)
    (s_NoNumber_NoForm : PySem.W.subIn K (.ref c_NoNumber) (.ref c_NoForm) = some false)
    (s_NoNumber_NoName : PySem.W.subIn K (.ref c_NoNumber) (.ref c_NoName) = some false)
    (s_NoNumber_NoNumber : PySem.W.subIn K (.ref c_NoNumber) (.ref c_NoNumber) = some true)
    (s_NoNumber_NoRing : PySem.W.subIn K (.ref c_NoNumber) (.ref c_NoRing) = some false)
    (s_NoNumber_NoRow : PySem.W.subIn K (.ref c_NoNumber) (.ref c_NoRow) = some false)
    (s_NoNumber_NoRows : PySem.W.subIn K (.ref c_NoNumber) (.ref c_NoRows) = some false)
    (s_NoNumber_NoSweep : PySem.W.subIn K (.ref c_NoNumber) (.ref c_NoSweep) = some false)
    (s_NoNumber_NoText : PySem.W.subIn K (.ref c_NoNumber) (.ref c_NoText) = some false)
    (s_NoNumber_TooLarge : PySem.W.subIn K (.ref c_NoNumber) (.ref c_TooLarge) = some false)
    (s_NoNumber_TooMany : PySem.W.subIn K (.ref c_NoNumber) (.ref c_TooMany) = some false)
    (x_NoNumber : K.lookup c_NoNumber = some (excClassObj nm_NoNumber qn_NoNumber c_NoNumber N_NoNumber bs_NoNumber [.ref c_SweepError, .type "ValueError", .type "Exception", .type "BaseException", .type "object"] true sn_NoNumber sub_NoNumber ab_NoNumber col_NoNumber dd_NoNumber m0_NoNumber m1_NoNumber m2_NoNumber m3_NoNumber m5_NoNumber "ValueError.__new__"))
    (sa_NoNumber : PySem.W.findIn K (.ref c_NoNumber) "__setattr__" = some (some (.builtin "object.__setattr__")))
    (q3 : PySem.W.findIn K (.ref c_NoNumber) "__init__" = some (some (.ref a_NoNumber__init__)))
    (l3 : K.lookup a_NoNumber__init__ = some ⟨oc3, od3, .func (PySem.W.fnOf "__init__" "NoNumber.__init__" (defArgs s_NoNumber__init__) (defBody s_NoNumber__init__) (defScope s_NoNumber__init__) .none kV3 dc3 pm3 an3 cd3 ct3), sl3⟩)
    (cc3 : PySem.W.codeIn K cd3 "NoNumber.__init__" = true)
    (kk3 : PySem.W.keepIn K (.ref a_NoNumber__init__) = true)
    (t_NoNumber__init__ : PySem.W.typeIn K (.ref a_NoNumber__init__) = some (.type "function"))
    (no_NoNumber_name : PySem.W.findIn K (.ref c_NoNumber) "name" = some none)
    (ga_TooMany : PySem.W.findIn K (.ref c_TooMany) "__getattribute__" = some (some (.builtin "BaseException.__getattribute__")))
    (gg_TooMany : PySem.W.findIn K (.ref c_TooMany) "__getattr__" = some none)
    (ec_TooMany : PySem.W.subIn K (.ref c_TooMany) (.type "BaseException") = some true)
    (hc_TooMany : PySem.W.hasDictIn K c_TooMany = true)
    (tc_TooMany : PySem.W.typeIn K (.ref c_TooMany) = some (.type "type"))
    (ic_TooMany : PySem.W.isClsIn K c_TooMany = true)
    (ha_TooMany : PySem.W.findIn K (.ref c_TooMany) "__class__" = some (some (.builtin "object.__class__")))
    (hm_TooMany : PySem.W.mroIn K c_TooMany (.type "object") = some true)
    (kc_TooMany : PySem.W.keepIn K (.ref c_TooMany) = true)
    (sv_TooMany : PySem.W.subIn K (.ref c_TooMany) (.type "ValueError") = some true)
    (se_TooMany : PySem.W.subIn K (.ref c_TooMany) (.ref c_SweepError) = some true)
    (s_TooMany_NoAnswer : PySem.W.subIn K (.ref c_TooMany) (.ref c_NoAnswer) = some false)
    (s_TooMany_NoChain : PySem.W.subIn K (.ref c_TooMany) (.ref c_NoChain) = some false)
    (s_TooMany_NoForm : PySem.W.subIn K (.ref c_TooMany) (.ref c_NoForm) = some false)
    (s_TooMany_NoName : PySem.W.subIn K (.ref c_TooMany) (.ref c_NoName) = some false)
    (s_TooMany_NoNumber : PySem.W.subIn K (.ref c_TooMany) (.ref c_NoNumber) = some false)
    (s_TooMany_NoRing : PySem.W.subIn K (.ref c_TooMany) (.ref c_NoRing) = some false)
    (s_TooMany_NoRow : PySem.W.subIn K (.ref c_TooMany) (.ref c_NoRow) = some false)
    (s_TooMany_NoRows : PySem.W.subIn K (.ref c_TooMany) (.ref c_NoRows) = some false)
    (s_TooMany_NoSweep : PySem.W.subIn K (.ref c_TooMany) (.ref c_NoSweep) = some false)
    (s_TooMany_NoText : PySem.W.subIn K (.ref c_TooMany) (.ref c_NoText) = some false)
    (s_TooMany_TooLarge : PySem.W.subIn K (.ref c_TooMany) (.ref c_TooLarge) = some false)
    (s_TooMany_TooMany : PySem.W.subIn K (.ref c_TooMany) (.ref c_TooMany) = some true)
    (x_TooMany : K.lookup c_TooMany = some (excClassObj nm_TooMany qn_TooMany c_TooMany N_TooMany bs_TooMany [.ref c_SweepError, .type "ValueError", .type "Exception", .type "BaseException", .type "object"] true sn_TooMany sub_TooMany ab_TooMany col_TooMany dd_TooMany m0_TooMany m1_TooMany m2_TooMany m3_TooMany m5_TooMany "ValueError.__new__"))
    (sa_TooMany : PySem.W.findIn K (.ref c_TooMany) "__setattr__" = some (some (.builtin "object.__setattr__")))
    (q4 : PySem.W.findIn K (.ref c_TooMany) "__init__" = some (some (.ref a_TooMany__init__)))
    (l4 : K.lookup a_TooMany__init__ = some ⟨oc4, od4, .func (PySem.W.fnOf "__init__" "TooMany.__init__" (defArgs s_TooMany__init__) (defBody s_TooMany__init__) (defScope s_TooMany__init__) .none kV4 dc4 pm4 an4 cd4 ct4), sl4⟩)
    (cc4 : PySem.W.codeIn K cd4 "TooMany.__init__" = true)
    (kk4 : PySem.W.keepIn K (.ref a_TooMany__init__) = true)
    (t_TooMany__init__ : PySem.W.typeIn K (.ref a_TooMany__init__) = some (.type "function"))
    (no_TooMany_most : PySem.W.findIn K (.ref c_TooMany) "most" = some none)
    (ga_TooLarge : PySem.W.findIn K (.ref c_TooLarge) "__getattribute__" = some (some (.builtin "BaseException.__getattribute__")))
    (gg_TooLarge : PySem.W.findIn K (.ref c_TooLarge) "__getattr__" = some none)
    (ec_TooLarge : PySem.W.subIn K (.ref c_TooLarge) (.type "BaseException") = some true)
    (hc_TooLarge : PySem.W.hasDictIn K c_TooLarge = true)
    (tc_TooLarge : PySem.W.typeIn K (.ref c_TooLarge) = some (.type "type"))
    (ic_TooLarge : PySem.W.isClsIn K c_TooLarge = true)
    (ha_TooLarge : PySem.W.findIn K (.ref c_TooLarge) "__class__" = some (some (.builtin "object.__class__")))
    (hm_TooLarge : PySem.W.mroIn K c_TooLarge (.type "object") = some true)
    (kc_TooLarge : PySem.W.keepIn K (.ref c_TooLarge) = true)
    (sv_TooLarge : PySem.W.subIn K (.ref c_TooLarge) (.type "ValueError") = some true)
    (se_TooLarge : PySem.W.subIn K (.ref c_TooLarge) (.ref c_SweepError) = some true)
    (s_TooLarge_NoAnswer : PySem.W.subIn K (.ref c_TooLarge) (.ref c_NoAnswer) = some false)
    (s_TooLarge_NoChain : PySem.W.subIn K (.ref c_TooLarge) (.ref c_NoChain) = some false)
    (s_TooLarge_NoForm : PySem.W.subIn K (.ref c_TooLarge) (.ref c_NoForm) = some false)
    (s_TooLarge_NoName : PySem.W.subIn K (.ref c_TooLarge) (.ref c_NoName) = some false)
    (s_TooLarge_NoNumber : PySem.W.subIn K (.ref c_TooLarge) (.ref c_NoNumber) = some false)
    (s_TooLarge_NoRing : PySem.W.subIn K (.ref c_TooLarge) (.ref c_NoRing) = some false)
    (s_TooLarge_NoRow : PySem.W.subIn K (.ref c_TooLarge) (.ref c_NoRow) = some false)
    (s_TooLarge_NoRows : PySem.W.subIn K (.ref c_TooLarge) (.ref c_NoRows) = some false)
    (s_TooLarge_NoSweep : PySem.W.subIn K (.ref c_TooLarge) (.ref c_NoSweep) = some false)
    (s_TooLarge_NoText : PySem.W.subIn K (.ref c_TooLarge) (.ref c_NoText) = some false)
    (s_TooLarge_TooLarge : PySem.W.subIn K (.ref c_TooLarge) (.ref c_TooLarge) = some true)
    (s_TooLarge_TooMany : PySem.W.subIn K (.ref c_TooLarge) (.ref c_TooMany) = some false)
    (x_TooLarge : K.lookup c_TooLarge = some (excClassObj nm_TooLarge qn_TooLarge c_TooLarge N_TooLarge bs_TooLarge [.ref c_SweepError, .type "ValueError", .type "Exception", .type "BaseException", .type "object"] true sn_TooLarge sub_TooLarge ab_TooLarge col_TooLarge dd_TooLarge m0_TooLarge m1_TooLarge m2_TooLarge m3_TooLarge m5_TooLarge "ValueError.__new__"))
    (sa_TooLarge : PySem.W.findIn K (.ref c_TooLarge) "__setattr__" = some (some (.builtin "object.__setattr__")))
    (q5 : PySem.W.findIn K (.ref c_TooLarge) "__init__" = some (some (.ref a_TooLarge__init__)))
    (l5 : K.lookup a_TooLarge__init__ = some ⟨oc5, od5, .func (PySem.W.fnOf "__init__" "TooLarge.__init__" (defArgs s_TooLarge__init__) (defBody s_TooLarge__init__) (defScope s_TooLarge__init__) .none kV5 dc5 pm5 an5 cd5 ct5), sl5⟩)
    (cc5 : PySem.W.codeIn K cd5 "TooLarge.__init__" = true)
    (kk5 : PySem.W.keepIn K (.ref a_TooLarge__init__) = true)
    (t_TooLarge__init__ : PySem.W.typeIn K (.ref a_TooLarge__init__) = some (.type "function"))
    (no_TooLarge_part : PySem.W.findIn K (.ref c_TooLarge) "part" = some none)
    (ga_NoRows : PySem.W.findIn K (.ref c_NoRows) "__getattribute__" = some (some (.builtin "BaseException.__getattribute__")))
    (gg_NoRows : PySem.W.findIn K (.ref c_NoRows) "__getattr__" = some none)
    (ec_NoRows : PySem.W.subIn K (.ref c_NoRows) (.type "BaseException") = some true)
    (hc_NoRows : PySem.W.hasDictIn K c_NoRows = true)
    (tc_NoRows : PySem.W.typeIn K (.ref c_NoRows) = some (.type "type"))
    (ic_NoRows : PySem.W.isClsIn K c_NoRows = true)
    (ha_NoRows : PySem.W.findIn K (.ref c_NoRows) "__class__" = some (some (.builtin "object.__class__")))
    (hm_NoRows : PySem.W.mroIn K c_NoRows (.type "object") = some true)
    (kc_NoRows : PySem.W.keepIn K (.ref c_NoRows) = true)
    (sv_NoRows : PySem.W.subIn K (.ref c_NoRows) (.type "ValueError") = some true)
    (se_NoRows : PySem.W.subIn K (.ref c_NoRows) (.ref c_SweepError) = some true)
    (s_NoRows_NoAnswer : PySem.W.subIn K (.ref c_NoRows) (.ref c_NoAnswer) = some false)
    (s_NoRows_NoChain : PySem.W.subIn K (.ref c_NoRows) (.ref c_NoChain) = some false)
    (s_NoRows_NoForm : PySem.W.subIn K (.ref c_NoRows) (.ref c_NoForm) = some false)
    (s_NoRows_NoName : PySem.W.subIn K (.ref c_NoRows) (.ref c_NoName) = some false)
    (s_NoRows_NoNumber : PySem.W.subIn K (.ref c_NoRows) (.ref c_NoNumber) = some false)
    (s_NoRows_NoRing : PySem.W.subIn K (.ref c_NoRows) (.ref c_NoRing) = some false)
    (s_NoRows_NoRow : PySem.W.subIn K (.ref c_NoRows) (.ref c_NoRow) = some false)
    (s_NoRows_NoRows : PySem.W.subIn K (.ref c_NoRows) (.ref c_NoRows) = some true)
    (s_NoRows_NoSweep : PySem.W.subIn K (.ref c_NoRows) (.ref c_NoSweep) = some false)
    (s_NoRows_NoText : PySem.W.subIn K (.ref c_NoRows) (.ref c_NoText) = some false)
    (s_NoRows_TooLarge : PySem.W.subIn K (.ref c_NoRows) (.ref c_TooLarge) = some false)
    (s_NoRows_TooMany : PySem.W.subIn K (.ref c_NoRows) (.ref c_TooMany) = some false)
    (x_NoRows : K.lookup c_NoRows = some (excClassObj nm_NoRows qn_NoRows c_NoRows N_NoRows bs_NoRows [.ref c_SweepError, .type "ValueError", .type "Exception", .type "BaseException", .type "object"] true sn_NoRows sub_NoRows ab_NoRows col_NoRows dd_NoRows m0_NoRows m1_NoRows m2_NoRows m3_NoRows m5_NoRows "ValueError.__new__"))
    (sa_NoRows : PySem.W.findIn K (.ref c_NoRows) "__setattr__" = some (some (.builtin "object.__setattr__")))
    (q6 : PySem.W.findIn K (.ref c_NoRows) "__init__" = some (some (.ref a_NoRows__init__)))
    (l6 : K.lookup a_NoRows__init__ = some ⟨oc6, od6, .func (PySem.W.fnOf "__init__" "NoRows.__init__" (defArgs s_NoRows__init__) (defBody s_NoRows__init__) (defScope s_NoRows__init__) .none kV6 dc6 pm6 an6 cd6 ct6), sl6⟩)
    (cc6 : PySem.W.codeIn K cd6 "NoRows.__init__" = true)
    (kk6 : PySem.W.keepIn K (.ref a_NoRows__init__) = true)
    (t_NoRows__init__ : PySem.W.typeIn K (.ref a_NoRows__init__) = some (.type "function"))
    (no_NoRows_part : PySem.W.findIn K (.ref c_NoRows) "part" = some none)
    (no_NoRows_index : PySem.W.findIn K (.ref c_NoRows) "index" = some none)
    (ga_NoForm : PySem.W.findIn K (.ref c_NoForm) "__getattribute__" = some (some (.builtin "BaseException.__getattribute__")))
    (gg_NoForm : PySem.W.findIn K (.ref c_NoForm) "__getattr__" = some none)
    (ec_NoForm : PySem.W.subIn K (.ref c_NoForm) (.type "BaseException") = some true)
    (hc_NoForm : PySem.W.hasDictIn K c_NoForm = true)
    (tc_NoForm : PySem.W.typeIn K (.ref c_NoForm) = some (.type "type"))
    (ic_NoForm : PySem.W.isClsIn K c_NoForm = true)
    (ha_NoForm : PySem.W.findIn K (.ref c_NoForm) "__class__" = some (some (.builtin "object.__class__")))
    (hm_NoForm : PySem.W.mroIn K c_NoForm (.type "object") = some true)
    (kc_NoForm : PySem.W.keepIn K (.ref c_NoForm) = true)
    (sv_NoForm : PySem.W.subIn K (.ref c_NoForm) (.type "ValueError") = some true)
    (se_NoForm : PySem.W.subIn K (.ref c_NoForm) (.ref c_SweepError) = some true)
    (s_NoForm_NoAnswer : PySem.W.subIn K (.ref c_NoForm) (.ref c_NoAnswer) = some false)
    (s_NoForm_NoChain : PySem.W.subIn K (.ref c_NoForm) (.ref c_NoChain) = some false)
    (s_NoForm_NoForm : PySem.W.subIn K (.ref c_NoForm) (.ref c_NoForm) = some true)
    (s_NoForm_NoName : PySem.W.subIn K (.ref c_NoForm) (.ref c_NoName) = some false)
    (s_NoForm_NoNumber : PySem.W.subIn K (.ref c_NoForm) (.ref c_NoNumber) = some false)
    (s_NoForm_NoRing : PySem.W.subIn K (.ref c_NoForm) (.ref c_NoRing) = some false)
    (s_NoForm_NoRow : PySem.W.subIn K (.ref c_NoForm) (.ref c_NoRow) = some false)
    (s_NoForm_NoRows : PySem.W.subIn K (.ref c_NoForm) (.ref c_NoRows) = some false)
    (s_NoForm_NoSweep : PySem.W.subIn K (.ref c_NoForm) (.ref c_NoSweep) = some false)
    (s_NoForm_NoText : PySem.W.subIn K (.ref c_NoForm) (.ref c_NoText) = some false)
    (s_NoForm_TooLarge : PySem.W.subIn K (.ref c_NoForm) (.ref c_TooLarge) = some false)
    (s_NoForm_TooMany : PySem.W.subIn K (.ref c_NoForm) (.ref c_TooMany) = some false)
    (qe_NoForm : PySem.W.excIn K c_NoForm [.type "ValueError", .type "Exception", .type "BaseException", .type "object"] "ValueError.__new__" = true)
    (ga_NoRing : PySem.W.findIn K (.ref c_NoRing) "__getattribute__" = some (some (.builtin "BaseException.__getattribute__")))
    (gg_NoRing : PySem.W.findIn K (.ref c_NoRing) "__getattr__" = some none)
    (ec_NoRing : PySem.W.subIn K (.ref c_NoRing) (.type "BaseException") = some true)
    (hc_NoRing : PySem.W.hasDictIn K c_NoRing = true)
    (tc_NoRing : PySem.W.typeIn K (.ref c_NoRing) = some (.type "type"))
    (ic_NoRing : PySem.W.isClsIn K c_NoRing = true)
    (ha_NoRing : PySem.W.findIn K (.ref c_NoRing) "__class__" = some (some (.builtin "object.__class__")))
    (hm_NoRing : PySem.W.mroIn K c_NoRing (.type "object") = some true)
    (kc_NoRing : PySem.W.keepIn K (.ref c_NoRing) = true)
    (sv_NoRing : PySem.W.subIn K (.ref c_NoRing) (.type "ValueError") = some true)
    (se_NoRing : PySem.W.subIn K (.ref c_NoRing) (.ref c_SweepError) = some true)
    (s_NoRing_NoAnswer : PySem.W.subIn K (.ref c_NoRing) (.ref c_NoAnswer) = some false)
    (s_NoRing_NoChain : PySem.W.subIn K (.ref c_NoRing) (.ref c_NoChain) = some false)
    (s_NoRing_NoForm : PySem.W.subIn K (.ref c_NoRing) (.ref c_NoForm) = some false)
    (s_NoRing_NoName : PySem.W.subIn K (.ref c_NoRing) (.ref c_NoName) = some false)
    (s_NoRing_NoNumber : PySem.W.subIn K (.ref c_NoRing) (.ref c_NoNumber) = some false)
    (s_NoRing_NoRing : PySem.W.subIn K (.ref c_NoRing) (.ref c_NoRing) = some true)
    (s_NoRing_NoRow : PySem.W.subIn K (.ref c_NoRing) (.ref c_NoRow) = some false)
    (s_NoRing_NoRows : PySem.W.subIn K (.ref c_NoRing) (.ref c_NoRows) = some false)
    (s_NoRing_NoSweep : PySem.W.subIn K (.ref c_NoRing) (.ref c_NoSweep) = some false)
    (s_NoRing_NoText : PySem.W.subIn K (.ref c_NoRing) (.ref c_NoText) = some false)
    (s_NoRing_TooLarge : PySem.W.subIn K (.ref c_NoRing) (.ref c_TooLarge) = some false)
    (s_NoRing_TooMany : PySem.W.subIn K (.ref c_NoRing) (.ref c_TooMany) = some false)
    (qe_NoRing : PySem.W.excIn K c_NoRing [.type "ValueError", .type "Exception", .type "BaseException", .type "object"] "ValueError.__new__" = true)
    (ga_NoText : PySem.W.findIn K (.ref c_NoText) "__getattribute__" = some (some (.builtin "BaseException.__getattribute__")))
    (gg_NoText : PySem.W.findIn K (.ref c_NoText) "__getattr__" = some none)
    (ec_NoText : PySem.W.subIn K (.ref c_NoText) (.type "BaseException") = some true)
    (hc_NoText : PySem.W.hasDictIn K c_NoText = true)
    (tc_NoText : PySem.W.typeIn K (.ref c_NoText) = some (.type "type"))
    (ic_NoText : PySem.W.isClsIn K c_NoText = true)
    (ha_NoText : PySem.W.findIn K (.ref c_NoText) "__class__" = some (some (.builtin "object.__class__")))
    (hm_NoText : PySem.W.mroIn K c_NoText (.type "object") = some true)
    (kc_NoText : PySem.W.keepIn K (.ref c_NoText) = true)
    (sv_NoText : PySem.W.subIn K (.ref c_NoText) (.type "ValueError") = some true)
    (se_NoText : PySem.W.subIn K (.ref c_NoText) (.ref c_SweepError) = some true)
    (s_NoText_NoAnswer : PySem.W.subIn K (.ref c_NoText) (.ref c_NoAnswer) = some false)
    (s_NoText_NoChain : PySem.W.subIn K (.ref c_NoText) (.ref c_NoChain) = some false)
    (s_NoText_NoForm : PySem.W.subIn K (.ref c_NoText) (.ref c_NoForm) = some false)
    (s_NoText_NoName : PySem.W.subIn K (.ref c_NoText) (.ref c_NoName) = some false)
    (s_NoText_NoNumber : PySem.W.subIn K (.ref c_NoText) (.ref c_NoNumber) = some false)
    (s_NoText_NoRing : PySem.W.subIn K (.ref c_NoText) (.ref c_NoRing) = some false)
    (s_NoText_NoRow : PySem.W.subIn K (.ref c_NoText) (.ref c_NoRow) = some false)
    (s_NoText_NoRows : PySem.W.subIn K (.ref c_NoText) (.ref c_NoRows) = some false)
    (s_NoText_NoSweep : PySem.W.subIn K (.ref c_NoText) (.ref c_NoSweep) = some false)
    (s_NoText_NoText : PySem.W.subIn K (.ref c_NoText) (.ref c_NoText) = some true)
    (s_NoText_TooLarge : PySem.W.subIn K (.ref c_NoText) (.ref c_TooLarge) = some false)
    (s_NoText_TooMany : PySem.W.subIn K (.ref c_NoText) (.ref c_TooMany) = some false)
    (x_NoText : K.lookup c_NoText = some (excClassObj nm_NoText qn_NoText c_NoText N_NoText bs_NoText [.ref c_SweepError, .type "ValueError", .type "Exception", .type "BaseException", .type "object"] true sn_NoText sub_NoText ab_NoText col_NoText dd_NoText m0_NoText m1_NoText m2_NoText m3_NoText m5_NoText "ValueError.__new__"))
    (sa_NoText : PySem.W.findIn K (.ref c_NoText) "__setattr__" = some (some (.builtin "object.__setattr__")))
    (q7 : PySem.W.findIn K (.ref c_NoText) "__init__" = some (some (.ref a_NoText__init__)))
    (l7 : K.lookup a_NoText__init__ = some ⟨oc7, od7, .func (PySem.W.fnOf "__init__" "NoText.__init__" (defArgs s_NoText__init__) (defBody s_NoText__init__) (defScope s_NoText__init__) .none kV7 dc7 pm7 an7 cd7 ct7), sl7⟩)
    (cc7 : PySem.W.codeIn K cd7 "NoText.__init__" = true)
    (kk7 : PySem.W.keepIn K (.ref a_NoText__init__) = true)
    (t_NoText__init__ : PySem.W.typeIn K (.ref a_NoText__init__) = some (.type "function"))
    (no_NoText_index : PySem.W.findIn K (.ref c_NoText) "index" = some none)
    (ga_NoAnswer : PySem.W.findIn K (.ref c_NoAnswer) "__getattribute__" = some (some (.builtin "BaseException.__getattribute__")))
    (gg_NoAnswer : PySem.W.findIn K (.ref c_NoAnswer) "__getattr__" = some none)
    (ec_NoAnswer : PySem.W.subIn K (.ref c_NoAnswer) (.type "BaseException") = some true)
    (hc_NoAnswer : PySem.W.hasDictIn K c_NoAnswer = true)
    (tc_NoAnswer : PySem.W.typeIn K (.ref c_NoAnswer) = some (.type "type"))
    (ic_NoAnswer : PySem.W.isClsIn K c_NoAnswer = true)
    (ha_NoAnswer : PySem.W.findIn K (.ref c_NoAnswer) "__class__" = some (some (.builtin "object.__class__")))
    (hm_NoAnswer : PySem.W.mroIn K c_NoAnswer (.type "object") = some true)
    (kc_NoAnswer : PySem.W.keepIn K (.ref c_NoAnswer) = true)
    (sv_NoAnswer : PySem.W.subIn K (.ref c_NoAnswer) (.type "ValueError") = some true)
    (se_NoAnswer : PySem.W.subIn K (.ref c_NoAnswer) (.ref c_SweepError) = some true)
    (s_NoAnswer_NoAnswer : PySem.W.subIn K (.ref c_NoAnswer) (.ref c_NoAnswer) = some true)
    (s_NoAnswer_NoChain : PySem.W.subIn K (.ref c_NoAnswer) (.ref c_NoChain) = some false)
    (s_NoAnswer_NoForm : PySem.W.subIn K (.ref c_NoAnswer) (.ref c_NoForm) = some false)
    (s_NoAnswer_NoName : PySem.W.subIn K (.ref c_NoAnswer) (.ref c_NoName) = some false)
    (s_NoAnswer_NoNumber : PySem.W.subIn K (.ref c_NoAnswer) (.ref c_NoNumber) = some false)
    (s_NoAnswer_NoRing : PySem.W.subIn K (.ref c_NoAnswer) (.ref c_NoRing) = some false)
    (s_NoAnswer_NoRow : PySem.W.subIn K (.ref c_NoAnswer) (.ref c_NoRow) = some false)
    (s_NoAnswer_NoRows : PySem.W.subIn K (.ref c_NoAnswer) (.ref c_NoRows) = some false)
    (s_NoAnswer_NoSweep : PySem.W.subIn K (.ref c_NoAnswer) (.ref c_NoSweep) = some false)
    (s_NoAnswer_NoText : PySem.W.subIn K (.ref c_NoAnswer) (.ref c_NoText) = some false)
    (s_NoAnswer_TooLarge : PySem.W.subIn K (.ref c_NoAnswer) (.ref c_TooLarge) = some false)
    (s_NoAnswer_TooMany : PySem.W.subIn K (.ref c_NoAnswer) (.ref c_TooMany) = some false)
    (x_NoAnswer : K.lookup c_NoAnswer = some (excClassObj nm_NoAnswer qn_NoAnswer c_NoAnswer N_NoAnswer bs_NoAnswer [.ref c_SweepError, .type "ValueError", .type "Exception", .type "BaseException", .type "object"] true sn_NoAnswer sub_NoAnswer ab_NoAnswer col_NoAnswer dd_NoAnswer m0_NoAnswer m1_NoAnswer m2_NoAnswer m3_NoAnswer m5_NoAnswer "ValueError.__new__"))
    (sa_NoAnswer : PySem.W.findIn K (.ref c_NoAnswer) "__setattr__" = some (some (.builtin "object.__setattr__")))
    (q8 : PySem.W.findIn K (.ref c_NoAnswer) "__init__" = some (some (.ref a_NoAnswer__init__)))
    (l8 : K.lookup a_NoAnswer__init__ = some ⟨oc8, od8, .func (PySem.W.fnOf "__init__" "NoAnswer.__init__" (defArgs s_NoAnswer__init__) (defBody s_NoAnswer__init__) (defScope s_NoAnswer__init__) .none kV8 dc8 pm8 an8 cd8 ct8), sl8⟩)
    (cc8 : PySem.W.codeIn K cd8 "NoAnswer.__init__" = true)
    (kk8 : PySem.W.keepIn K (.ref a_NoAnswer__init__) = true)
    (t_NoAnswer__init__ : PySem.W.typeIn K (.ref a_NoAnswer__init__) = some (.type "function"))
    (no_NoAnswer_part : PySem.W.findIn K (.ref c_NoAnswer) "part" = some none)
    (no_NoAnswer_index : PySem.W.findIn K (.ref c_NoAnswer) "index" = some none)
    (ga_NoName : PySem.W.findIn K (.ref c_NoName) "__getattribute__" = some (some (.builtin "BaseException.__getattribute__")))
    (gg_NoName : PySem.W.findIn K (.ref c_NoName) "__getattr__" = some none)
    (ec_NoName : PySem.W.subIn K (.ref c_NoName) (.type "BaseException") = some true)
    (hc_NoName : PySem.W.hasDictIn K c_NoName = true)
    (tc_NoName : PySem.W.typeIn K (.ref c_NoName) = some (.type "type"))
    (ic_NoName : PySem.W.isClsIn K c_NoName = true)
    (ha_NoName : PySem.W.findIn K (.ref c_NoName) "__class__" = some (some (.builtin "object.__class__")))
    (hm_NoName : PySem.W.mroIn K c_NoName (.type "object") = some true)
    (kc_NoName : PySem.W.keepIn K (.ref c_NoName) = true)
    (sv_NoName : PySem.W.subIn K (.ref c_NoName) (.type "ValueError") = some true)
    (se_NoName : PySem.W.subIn K (.ref c_NoName) (.ref c_SweepError) = some true)
    (s_NoName_NoAnswer : PySem.W.subIn K (.ref c_NoName) (.ref c_NoAnswer) = some false)
    (s_NoName_NoChain : PySem.W.subIn K (.ref c_NoName) (.ref c_NoChain) = some false)
    (s_NoName_NoForm : PySem.W.subIn K (.ref c_NoName) (.ref c_NoForm) = some false)
    (s_NoName_NoName : PySem.W.subIn K (.ref c_NoName) (.ref c_NoName) = some true)
    (s_NoName_NoNumber : PySem.W.subIn K (.ref c_NoName) (.ref c_NoNumber) = some false)
    (s_NoName_NoRing : PySem.W.subIn K (.ref c_NoName) (.ref c_NoRing) = some false)
    (s_NoName_NoRow : PySem.W.subIn K (.ref c_NoName) (.ref c_NoRow) = some false)
    (s_NoName_NoRows : PySem.W.subIn K (.ref c_NoName) (.ref c_NoRows) = some false)
    (s_NoName_NoSweep : PySem.W.subIn K (.ref c_NoName) (.ref c_NoSweep) = some false)
    (s_NoName_NoText : PySem.W.subIn K (.ref c_NoName) (.ref c_NoText) = some false)
    (s_NoName_TooLarge : PySem.W.subIn K (.ref c_NoName) (.ref c_TooLarge) = some false)
    (s_NoName_TooMany : PySem.W.subIn K (.ref c_NoName) (.ref c_TooMany) = some false)
    (x_NoName : K.lookup c_NoName = some (excClassObj nm_NoName qn_NoName c_NoName N_NoName bs_NoName [.ref c_SweepError, .type "ValueError", .type "Exception", .type "BaseException", .type "object"] true sn_NoName sub_NoName ab_NoName col_NoName dd_NoName m0_NoName m1_NoName m2_NoName m3_NoName m5_NoName "ValueError.__new__"))
    (sa_NoName : PySem.W.findIn K (.ref c_NoName) "__setattr__" = some (some (.builtin "object.__setattr__")))
    (q9 : PySem.W.findIn K (.ref c_NoName) "__init__" = some (some (.ref a_NoName__init__)))
    (l9 : K.lookup a_NoName__init__ = some ⟨oc9, od9, .func (PySem.W.fnOf "__init__" "NoName.__init__" (defArgs s_NoName__init__) (defBody s_NoName__init__) (defScope s_NoName__init__) .none kV9 dc9 pm9 an9 cd9 ct9), sl9⟩)
    (cc9 : PySem.W.codeIn K cd9 "NoName.__init__" = true)
    (kk9 : PySem.W.keepIn K (.ref a_NoName__init__) = true)
    (t_NoName__init__ : PySem.W.typeIn K (.ref a_NoName__init__) = some (.type "function"))
    (no_NoName_name : PySem.W.findIn K (.ref c_NoName) "name" = some none)
    (hn : PySem.W.specialIn K (.builtin "object.__class__") "__get__" = some (some (.builtin "getset_descriptor.__get__")))
    (ht : PySem.W.takesIn K (.builtin "object.__class__") = some true)
    (q10 : PySem.W.nsIn K mainGlobals "_law_cell" = some (some (.ref a__law_cell)))
    (l10 : K.lookup a__law_cell = some ⟨oc10, od10, .func (PySem.W.fnOf "_law_cell" "_law_cell" (defArgs s__law_cell) (defBody s__law_cell) (defScope s__law_cell) .none kV10 dc10 pm10 an10 cd10 ct10), sl10⟩)
    (cc10 : PySem.W.codeIn K cd10 "_law_cell" = true)
    (kk10 : PySem.W.keepIn K (.ref a__law_cell) = true)
    (q11 : PySem.W.nsIn K mainGlobals "_law_start" = some (some (.ref a__law_start)))
    (l11 : K.lookup a__law_start = some ⟨oc11, od11, .func (PySem.W.fnOf "_law_start" "_law_start" (defArgs s__law_start) (defBody s__law_start) (defScope s__law_start) .none kV11 dc11 pm11 an11 cd11 ct11), sl11⟩)
    (cc11 : PySem.W.codeIn K cd11 "_law_start" = true)
    (kk11 : PySem.W.keepIn K (.ref a__law_start) = true)
    (q12 : PySem.W.nsIn K mainGlobals "_law_take" = some (some (.ref a__law_take)))
    (l12 : K.lookup a__law_take = some ⟨oc12, od12, .func (PySem.W.fnOf "_law_take" "_law_take" (defArgs s__law_take) (defBody s__law_take) (defScope s__law_take) .none kV12 dc12 pm12 an12 cd12 ct12), sl12⟩)
    (cc12 : PySem.W.codeIn K cd12 "_law_take" = true)
    (kk12 : PySem.W.keepIn K (.ref a__law_take) = true)
    (q13 : PySem.W.nsIn K mainGlobals "_law_classes" = some (some (.ref a__law_classes)))
    (l13 : K.lookup a__law_classes = some ⟨oc13, od13, .func (PySem.W.fnOf "_law_classes" "_law_classes" (defArgs s__law_classes) (defBody s__law_classes) (defScope s__law_classes) .none kV13 dc13 pm13 an13 cd13 ct13), sl13⟩)
    (cc13 : PySem.W.codeIn K cd13 "_law_classes" = true)
    (kk13 : PySem.W.keepIn K (.ref a__law_classes) = true)
    (q14 : PySem.W.nsIn K mainGlobals "_law_by_place" = some (some (.ref a__law_by_place)))
    (l14 : K.lookup a__law_by_place = some ⟨oc14, od14, .func (PySem.W.fnOf "_law_by_place" "_law_by_place" (defArgs s__law_by_place) (defBody s__law_by_place) (defScope s__law_by_place) .none kV14 dc14 pm14 an14 cd14 ct14), sl14⟩)
    (cc14 : PySem.W.codeIn K cd14 "_law_by_place" = true)
    (kk14 : PySem.W.keepIn K (.ref a__law_by_place) = true)
    (q15 : PySem.W.nsIn K mainGlobals "_law_by_name" = some (some (.ref a__law_by_name)))
    (l15 : K.lookup a__law_by_name = some ⟨oc15, od15, .func (PySem.W.fnOf "_law_by_name" "_law_by_name" (defArgs s__law_by_name) (defBody s__law_by_name) (defScope s__law_by_name) .none kV15 dc15 pm15 an15 cd15 ct15), sl15⟩)
    (cc15 : PySem.W.codeIn K cd15 "_law_by_name" = true)
    (kk15 : PySem.W.keepIn K (.ref a__law_by_name) = true)
    (q16 : PySem.W.nsIn K mainGlobals "_law_fields" = some (some (.ref a__law_fields)))
    (l16 : K.lookup a__law_fields = some ⟨oc16, od16, .func (PySem.W.fnOf "_law_fields" "_law_fields" (defArgs s__law_fields) (defBody s__law_fields) (defScope s__law_fields) .none kV16 dc16 pm16 an16 cd16 ct16), sl16⟩)
    (cc16 : PySem.W.codeIn K cd16 "_law_fields" = true)
    (kk16 : PySem.W.keepIn K (.ref a__law_fields) = true)
    (q17 : PySem.W.nsIn K mainGlobals "law" = some (some (.ref a_law)))
    (l17 : K.lookup a_law = some ⟨oc17, od17, .func (PySem.W.fnOf "law" "law" (defArgs s_law) (defBody s_law) (defScope s_law) .none kV17 dc17 pm17 an17 cd17 ct17), sl17⟩)
    (cc17 : PySem.W.codeIn K cd17 "law" = true)
    (kk17 : PySem.W.keepIn K (.ref a_law) = true)
    (z_ValueError : PySem.W.nsIn K mainGlobals "ValueError" = some none)
    (z_abs : PySem.W.nsIn K mainGlobals "abs" = some none)
    (z_int : PySem.W.nsIn K mainGlobals "int" = some none)
    (z_isinstance : PySem.W.nsIn K mainGlobals "isinstance" = some none)
    (z_len : PySem.W.nsIn K mainGlobals "len" = some none)
    (z_range : PySem.W.nsIn K mainGlobals "range" = some none)
    : ∃ fd : FuncData, (∀ (s : Shared) (v : Value), BindsTo s fd ⟨[v], []⟩ [("_law_script", v)]) ∧ ∀ base : Heap, K.In base → base.Ns mainGlobals mg → FnOk l.prog w K mg base CX0 8 fa fd ["_law_script"] (spLaw K) := by
  have e := hfa.symm.trans (PySem.W.mg_of X G q17)
  cases e
  have F0 := fun_mk (st := s_NoRow__init__) l0 cc0 kk0
  have b0 := F0.binds (ps := ["self", "index"]) fun _ _ _ _ _ _ us hl => match us, hl with | [_, _], _ => rfl
  have F1 := fun_mk (st := s_NoSweep__init__) l1 cc1 kk1
  have b1 := F1.binds (ps := ["self", "part"]) fun _ _ _ _ _ _ us hl => match us, hl with | [_, _], _ => rfl
  have F2 := fun_mk (st := s_NoChain__init__) l2 cc2 kk2
  have b2 := F2.binds (ps := ["self", "name"]) fun _ _ _ _ _ _ us hl => match us, hl with | [_, _], _ => rfl
  have F3 := fun_mk (st := s_NoNumber__init__) l3 cc3 kk3
  have b3 := F3.binds (ps := ["self", "name"]) fun _ _ _ _ _ _ us hl => match us, hl with | [_, _], _ => rfl
  have F4 := fun_mk (st := s_TooMany__init__) l4 cc4 kk4
  have b4 := F4.binds (ps := ["self", "most"]) fun _ _ _ _ _ _ us hl => match us, hl with | [_, _], _ => rfl
  have F5 := fun_mk (st := s_TooLarge__init__) l5 cc5 kk5
  have b5 := F5.binds (ps := ["self", "part"]) fun _ _ _ _ _ _ us hl => match us, hl with | [_, _], _ => rfl
  have F6 := fun_mk (st := s_NoRows__init__) l6 cc6 kk6
  have b6 := F6.binds (ps := ["self", "part", "index"]) fun _ _ _ _ _ _ us hl => match us, hl with | [_, _, _], _ => rfl
  have F7 := fun_mk (st := s_NoText__init__) l7 cc7 kk7
  have b7 := F7.binds (ps := ["self", "index"]) fun _ _ _ _ _ _ us hl => match us, hl with | [_, _], _ => rfl
  have F8 := fun_mk (st := s_NoAnswer__init__) l8 cc8 kk8
  have b8 := F8.binds (ps := ["self", "part", "index"]) fun _ _ _ _ _ _ us hl => match us, hl with | [_, _, _], _ => rfl
  have F9 := fun_mk (st := s_NoName__init__) l9 cc9 kk9
  have b9 := F9.binds (ps := ["self", "name"]) fun _ _ _ _ _ _ us hl => match us, hl with | [_, _], _ => rfl
  have F10 := fun_mk (st := s__law_cell) l10 cc10 kk10
  have b10 := F10.binds (ps := ["_law_script", "_law_k"]) fun _ _ _ _ _ _ us hl => match us, hl with | [_, _], _ => rfl
  have F11 := fun_mk (st := s__law_start) l11 cc11 kk11
  have b11 := F11.binds (ps := ["_law_cell_here"]) fun _ _ _ _ _ _ us hl => match us, hl with | [_], _ => rfl
  have F12 := fun_mk (st := s__law_take) l12 cc12 kk12
  have b12 := F12.binds (ps := ["_law_state", "_law_limit"]) fun _ _ _ _ _ _ us hl => match us, hl with | [_, _], _ => rfl
  have F13 := fun_mk (st := s__law_classes) l13 cc13 kk13
  have b13 := F13.binds (ps := ["_law_error"]) fun _ _ _ _ _ _ us hl => match us, hl with | [_], _ => rfl
  have F14 := fun_mk (st := s__law_by_place) l14 cc14 kk14
  have b14 := F14.binds (ps := ["_law_one", "_law_two"]) fun _ _ _ _ _ _ us hl => match us, hl with | [_, _], _ => rfl
  have F15 := fun_mk (st := s__law_by_name) l15 cc15 kk15
  have b15 := F15.binds (ps := ["_law_one", "_law_two"]) fun _ _ _ _ _ _ us hl => match us, hl with | [_, _], _ => rfl
  have F16 := fun_mk (st := s__law_fields) l16 cc16 kk16
  have b16 := F16.binds (ps := ["_law_found"]) fun _ _ _ _ _ _ us hl => match us, hl with | [_], _ => rfl
  have F17 := fun_mk (st := s_law) l17 cc17 kk17
  have b17 := F17.binds (ps := ["_law_script"]) fun _ _ _ _ _ _ us hl => match us, hl with | [_], _ => rfl
  have T : Txt K mg ⟨c_SweepError, c_NoRow, a_NoRow__init__, (PySem.W.fnOf "__init__" "NoRow.__init__" (defArgs s_NoRow__init__) (defBody s_NoRow__init__) (defScope s_NoRow__init__) .none kV0 dc0 pm0 an0 cd0 ct0), c_NoSweep, a_NoSweep__init__, (PySem.W.fnOf "__init__" "NoSweep.__init__" (defArgs s_NoSweep__init__) (defBody s_NoSweep__init__) (defScope s_NoSweep__init__) .none kV1 dc1 pm1 an1 cd1 ct1), c_NoChain, a_NoChain__init__, (PySem.W.fnOf "__init__" "NoChain.__init__" (defArgs s_NoChain__init__) (defBody s_NoChain__init__) (defScope s_NoChain__init__) .none kV2 dc2 pm2 an2 cd2 ct2), c_NoNumber, a_NoNumber__init__, (PySem.W.fnOf "__init__" "NoNumber.__init__" (defArgs s_NoNumber__init__) (defBody s_NoNumber__init__) (defScope s_NoNumber__init__) .none kV3 dc3 pm3 an3 cd3 ct3), c_TooMany, a_TooMany__init__, (PySem.W.fnOf "__init__" "TooMany.__init__" (defArgs s_TooMany__init__) (defBody s_TooMany__init__) (defScope s_TooMany__init__) .none kV4 dc4 pm4 an4 cd4 ct4), c_TooLarge, a_TooLarge__init__, (PySem.W.fnOf "__init__" "TooLarge.__init__" (defArgs s_TooLarge__init__) (defBody s_TooLarge__init__) (defScope s_TooLarge__init__) .none kV5 dc5 pm5 an5 cd5 ct5), c_NoRows, a_NoRows__init__, (PySem.W.fnOf "__init__" "NoRows.__init__" (defArgs s_NoRows__init__) (defBody s_NoRows__init__) (defScope s_NoRows__init__) .none kV6 dc6 pm6 an6 cd6 ct6), c_NoForm, c_NoRing, c_NoText, a_NoText__init__, (PySem.W.fnOf "__init__" "NoText.__init__" (defArgs s_NoText__init__) (defBody s_NoText__init__) (defScope s_NoText__init__) .none kV7 dc7 pm7 an7 cd7 ct7), c_NoAnswer, a_NoAnswer__init__, (PySem.W.fnOf "__init__" "NoAnswer.__init__" (defArgs s_NoAnswer__init__) (defBody s_NoAnswer__init__) (defScope s_NoAnswer__init__) .none kV8 dc8 pm8 an8 cd8 ct8), c_NoName, a_NoName__init__, (PySem.W.fnOf "__init__" "NoName.__init__" (defArgs s_NoName__init__) (defBody s_NoName__init__) (defScope s_NoName__init__) .none kV9 dc9 pm9 an9 cd9 ct9), a__law_cell, (PySem.W.fnOf "_law_cell" "_law_cell" (defArgs s__law_cell) (defBody s__law_cell) (defScope s__law_cell) .none kV10 dc10 pm10 an10 cd10 ct10), a__law_start, (PySem.W.fnOf "_law_start" "_law_start" (defArgs s__law_start) (defBody s__law_start) (defScope s__law_start) .none kV11 dc11 pm11 an11 cd11 ct11), a__law_take, (PySem.W.fnOf "_law_take" "_law_take" (defArgs s__law_take) (defBody s__law_take) (defScope s__law_take) .none kV12 dc12 pm12 an12 cd12 ct12), a__law_classes, (PySem.W.fnOf "_law_classes" "_law_classes" (defArgs s__law_classes) (defBody s__law_classes) (defScope s__law_classes) .none kV13 dc13 pm13 an13 cd13 ct13), a__law_by_place, (PySem.W.fnOf "_law_by_place" "_law_by_place" (defArgs s__law_by_place) (defBody s__law_by_place) (defScope s__law_by_place) .none kV14 dc14 pm14 an14 cd14 ct14), a__law_by_name, (PySem.W.fnOf "_law_by_name" "_law_by_name" (defArgs s__law_by_name) (defBody s__law_by_name) (defScope s__law_by_name) .none kV15 dc15 pm15 an15 cd15 ct15), a__law_fields, (PySem.W.fnOf "_law_fields" "_law_fields" (defArgs s__law_fields) (defBody s__law_fields) (defScope s__law_fields) .none kV16 dc16 pm16 an16 cd16 ct16), fa, (PySem.W.fnOf "law" "law" (defArgs s_law) (defBody s_law) (defScope s_law) .none kV17 dc17 pm17 an17 cd17 ct17)⟩ :=
    { g_SweepError := PySem.W.mg_of X G g_SweepError
      f_SweepError := ⟨ga_SweepError, gg_SweepError, ec_SweepError, hc_SweepError⟩
      g_NoRow := PySem.W.mg_of X G g_NoRow
      f_NoRow := ⟨ga_NoRow, gg_NoRow, ec_NoRow, hc_NoRow⟩
      x_NoRow := ⟨⟨_, _, _, _, _, _, _, _, _, _, _, _, _, _, _, x_NoRow, rfl⟩, sa_NoRow, ec_NoRow, tc_NoRow, kc_NoRow⟩
      F_NoRow__init__ := F0
      b_NoRow__init__ := b0
      i_NoRow__init__ := q0
      t_NoRow__init__ := t_NoRow__init__
      no_NoRow_index := no_NoRow_index
      g_NoSweep := PySem.W.mg_of X G g_NoSweep
      f_NoSweep := ⟨ga_NoSweep, gg_NoSweep, ec_NoSweep, hc_NoSweep⟩
      x_NoSweep := ⟨⟨_, _, _, _, _, _, _, _, _, _, _, _, _, _, _, x_NoSweep, rfl⟩, sa_NoSweep, ec_NoSweep, tc_NoSweep, kc_NoSweep⟩
      F_NoSweep__init__ := F1
      b_NoSweep__init__ := b1
      i_NoSweep__init__ := q1
      t_NoSweep__init__ := t_NoSweep__init__
      no_NoSweep_part := no_NoSweep_part
      g_NoChain := PySem.W.mg_of X G g_NoChain
      f_NoChain := ⟨ga_NoChain, gg_NoChain, ec_NoChain, hc_NoChain⟩
      x_NoChain := ⟨⟨_, _, _, _, _, _, _, _, _, _, _, _, _, _, _, x_NoChain, rfl⟩, sa_NoChain, ec_NoChain, tc_NoChain, kc_NoChain⟩
      F_NoChain__init__ := F2
      b_NoChain__init__ := b2
      i_NoChain__init__ := q2
      t_NoChain__init__ := t_NoChain__init__
      no_NoChain_name := no_NoChain_name
      g_NoNumber := PySem.W.mg_of X G g_NoNumber
      f_NoNumber := ⟨ga_NoNumber, gg_NoNumber, ec_NoNumber, hc_NoNumber⟩
      x_NoNumber := ⟨⟨_, _, _, _, _, _, _, _, _, _, _, _, _, _, _, x_NoNumber, rfl⟩, sa_NoNumber, ec_NoNumber, tc_NoNumber, kc_NoNumber⟩
      F_NoNumber__init__ := F3
      b_NoNumber__init__ := b3
      i_NoNumber__init__ := q3
      t_NoNumber__init__ := t_NoNumber__init__
      no_NoNumber_name := no_NoNumber_name
      g_TooMany := PySem.W.mg_of X G g_TooMany
      f_TooMany := ⟨ga_TooMany, gg_TooMany, ec_TooMany, hc_TooMany⟩
      x_TooMany := ⟨⟨_, _, _, _, _, _, _, _, _, _, _, _, _, _, _, x_TooMany, rfl⟩, sa_TooMany, ec_TooMany, tc_TooMany, kc_TooMany⟩
      F_TooMany__init__ := F4
      b_TooMany__init__ := b4
      i_TooMany__init__ := q4
      t_TooMany__init__ := t_TooMany__init__
      no_TooMany_most := no_TooMany_most
      g_TooLarge := PySem.W.mg_of X G g_TooLarge
      f_TooLarge := ⟨ga_TooLarge, gg_TooLarge, ec_TooLarge, hc_TooLarge⟩
      x_TooLarge := ⟨⟨_, _, _, _, _, _, _, _, _, _, _, _, _, _, _, x_TooLarge, rfl⟩, sa_TooLarge, ec_TooLarge, tc_TooLarge, kc_TooLarge⟩
      F_TooLarge__init__ := F5
      b_TooLarge__init__ := b5
      i_TooLarge__init__ := q5
      t_TooLarge__init__ := t_TooLarge__init__
      no_TooLarge_part := no_TooLarge_part
      g_NoRows := PySem.W.mg_of X G g_NoRows
      f_NoRows := ⟨ga_NoRows, gg_NoRows, ec_NoRows, hc_NoRows⟩
      x_NoRows := ⟨⟨_, _, _, _, _, _, _, _, _, _, _, _, _, _, _, x_NoRows, rfl⟩, sa_NoRows, ec_NoRows, tc_NoRows, kc_NoRows⟩
      F_NoRows__init__ := F6
      b_NoRows__init__ := b6
      i_NoRows__init__ := q6
      t_NoRows__init__ := t_NoRows__init__
      no_NoRows_part := no_NoRows_part
      no_NoRows_index := no_NoRows_index
      g_NoForm := PySem.W.mg_of X G g_NoForm
      f_NoForm := ⟨ga_NoForm, gg_NoForm, ec_NoForm, hc_NoForm⟩
      q_NoForm := qe_NoForm
      kc_NoForm := kc_NoForm
      g_NoRing := PySem.W.mg_of X G g_NoRing
      f_NoRing := ⟨ga_NoRing, gg_NoRing, ec_NoRing, hc_NoRing⟩
      q_NoRing := qe_NoRing
      kc_NoRing := kc_NoRing
      g_NoText := PySem.W.mg_of X G g_NoText
      f_NoText := ⟨ga_NoText, gg_NoText, ec_NoText, hc_NoText⟩
      x_NoText := ⟨⟨_, _, _, _, _, _, _, _, _, _, _, _, _, _, _, x_NoText, rfl⟩, sa_NoText, ec_NoText, tc_NoText, kc_NoText⟩
      F_NoText__init__ := F7
      b_NoText__init__ := b7
      i_NoText__init__ := q7
      t_NoText__init__ := t_NoText__init__
      no_NoText_index := no_NoText_index
      g_NoAnswer := PySem.W.mg_of X G g_NoAnswer
      f_NoAnswer := ⟨ga_NoAnswer, gg_NoAnswer, ec_NoAnswer, hc_NoAnswer⟩
      x_NoAnswer := ⟨⟨_, _, _, _, _, _, _, _, _, _, _, _, _, _, _, x_NoAnswer, rfl⟩, sa_NoAnswer, ec_NoAnswer, tc_NoAnswer, kc_NoAnswer⟩
      F_NoAnswer__init__ := F8
      b_NoAnswer__init__ := b8
      i_NoAnswer__init__ := q8
      t_NoAnswer__init__ := t_NoAnswer__init__
      no_NoAnswer_part := no_NoAnswer_part
      no_NoAnswer_index := no_NoAnswer_index
      g_NoName := PySem.W.mg_of X G g_NoName
      f_NoName := ⟨ga_NoName, gg_NoName, ec_NoName, hc_NoName⟩
      x_NoName := ⟨⟨_, _, _, _, _, _, _, _, _, _, _, _, _, _, _, x_NoName, rfl⟩, sa_NoName, ec_NoName, tc_NoName, kc_NoName⟩
      F_NoName__init__ := F9
      b_NoName__init__ := b9
      i_NoName__init__ := q9
      t_NoName__init__ := t_NoName__init__
      no_NoName_name := no_NoName_name
      kits := all144 (all12 ⟨all12 ⟨kit_any ic_NoAnswer tc_NoAnswer s_NoAnswer_NoAnswer s_NoAnswer_NoAnswer, kit_any ic_NoChain tc_NoChain s_NoAnswer_NoChain s_NoAnswer_NoAnswer, kit_any ic_NoForm tc_NoForm s_NoAnswer_NoForm s_NoAnswer_NoAnswer, kit_any ic_NoName tc_NoName s_NoAnswer_NoName s_NoAnswer_NoAnswer, kit_any ic_NoNumber tc_NoNumber s_NoAnswer_NoNumber s_NoAnswer_NoAnswer, kit_any ic_NoRing tc_NoRing s_NoAnswer_NoRing s_NoAnswer_NoAnswer, kit_any ic_NoRow tc_NoRow s_NoAnswer_NoRow s_NoAnswer_NoAnswer, kit_any ic_NoRows tc_NoRows s_NoAnswer_NoRows s_NoAnswer_NoAnswer, kit_any ic_NoSweep tc_NoSweep s_NoAnswer_NoSweep s_NoAnswer_NoAnswer, kit_any ic_NoText tc_NoText s_NoAnswer_NoText s_NoAnswer_NoAnswer, kit_any ic_TooLarge tc_TooLarge s_NoAnswer_TooLarge s_NoAnswer_NoAnswer, kit_any ic_TooMany tc_TooMany s_NoAnswer_TooMany s_NoAnswer_NoAnswer⟩, all12 ⟨kit_any ic_NoAnswer tc_NoAnswer s_NoChain_NoAnswer s_NoChain_NoChain, kit_any ic_NoChain tc_NoChain s_NoChain_NoChain s_NoChain_NoChain, kit_any ic_NoForm tc_NoForm s_NoChain_NoForm s_NoChain_NoChain, kit_any ic_NoName tc_NoName s_NoChain_NoName s_NoChain_NoChain, kit_any ic_NoNumber tc_NoNumber s_NoChain_NoNumber s_NoChain_NoChain, kit_any ic_NoRing tc_NoRing s_NoChain_NoRing s_NoChain_NoChain, kit_any ic_NoRow tc_NoRow s_NoChain_NoRow s_NoChain_NoChain, kit_any ic_NoRows tc_NoRows s_NoChain_NoRows s_NoChain_NoChain, kit_any ic_NoSweep tc_NoSweep s_NoChain_NoSweep s_NoChain_NoChain, kit_any ic_NoText tc_NoText s_NoChain_NoText s_NoChain_NoChain, kit_any ic_TooLarge tc_TooLarge s_NoChain_TooLarge s_NoChain_NoChain, kit_any ic_TooMany tc_TooMany s_NoChain_TooMany s_NoChain_NoChain⟩, all12 ⟨kit_any ic_NoAnswer tc_NoAnswer s_NoForm_NoAnswer s_NoForm_NoForm, kit_any ic_NoChain tc_NoChain s_NoForm_NoChain s_NoForm_NoForm, kit_any ic_NoForm tc_NoForm s_NoForm_NoForm s_NoForm_NoForm, kit_any ic_NoName tc_NoName s_NoForm_NoName s_NoForm_NoForm, kit_any ic_NoNumber tc_NoNumber s_NoForm_NoNumber s_NoForm_NoForm, kit_any ic_NoRing tc_NoRing s_NoForm_NoRing s_NoForm_NoForm, kit_any ic_NoRow tc_NoRow s_NoForm_NoRow s_NoForm_NoForm, kit_any ic_NoRows tc_NoRows s_NoForm_NoRows s_NoForm_NoForm, kit_any ic_NoSweep tc_NoSweep s_NoForm_NoSweep s_NoForm_NoForm, kit_any ic_NoText tc_NoText s_NoForm_NoText s_NoForm_NoForm, kit_any ic_TooLarge tc_TooLarge s_NoForm_TooLarge s_NoForm_NoForm, kit_any ic_TooMany tc_TooMany s_NoForm_TooMany s_NoForm_NoForm⟩, all12 ⟨kit_any ic_NoAnswer tc_NoAnswer s_NoName_NoAnswer s_NoName_NoName, kit_any ic_NoChain tc_NoChain s_NoName_NoChain s_NoName_NoName, kit_any ic_NoForm tc_NoForm s_NoName_NoForm s_NoName_NoName, kit_any ic_NoName tc_NoName s_NoName_NoName s_NoName_NoName, kit_any ic_NoNumber tc_NoNumber s_NoName_NoNumber s_NoName_NoName, kit_any ic_NoRing tc_NoRing s_NoName_NoRing s_NoName_NoName, kit_any ic_NoRow tc_NoRow s_NoName_NoRow s_NoName_NoName, kit_any ic_NoRows tc_NoRows s_NoName_NoRows s_NoName_NoName, kit_any ic_NoSweep tc_NoSweep s_NoName_NoSweep s_NoName_NoName, kit_any ic_NoText tc_NoText s_NoName_NoText s_NoName_NoName, kit_any ic_TooLarge tc_TooLarge s_NoName_TooLarge s_NoName_NoName, kit_any ic_TooMany tc_TooMany s_NoName_TooMany s_NoName_NoName⟩, all12 ⟨kit_any ic_NoAnswer tc_NoAnswer s_NoNumber_NoAnswer s_NoNumber_NoNumber, kit_any ic_NoChain tc_NoChain s_NoNumber_NoChain s_NoNumber_NoNumber, kit_any ic_NoForm tc_NoForm s_NoNumber_NoForm s_NoNumber_NoNumber, kit_any ic_NoName tc_NoName s_NoNumber_NoName s_NoNumber_NoNumber, kit_any ic_NoNumber tc_NoNumber s_NoNumber_NoNumber s_NoNumber_NoNumber, kit_any ic_NoRing tc_NoRing s_NoNumber_NoRing s_NoNumber_NoNumber, kit_any ic_NoRow tc_NoRow s_NoNumber_NoRow s_NoNumber_NoNumber, kit_any ic_NoRows tc_NoRows s_NoNumber_NoRows s_NoNumber_NoNumber, kit_any ic_NoSweep tc_NoSweep s_NoNumber_NoSweep s_NoNumber_NoNumber, kit_any ic_NoText tc_NoText s_NoNumber_NoText s_NoNumber_NoNumber, kit_any ic_TooLarge tc_TooLarge s_NoNumber_TooLarge s_NoNumber_NoNumber, kit_any ic_TooMany tc_TooMany s_NoNumber_TooMany s_NoNumber_NoNumber⟩, all12 ⟨kit_any ic_NoAnswer tc_NoAnswer s_NoRing_NoAnswer s_NoRing_NoRing, kit_any ic_NoChain tc_NoChain s_NoRing_NoChain s_NoRing_NoRing, kit_any ic_NoForm tc_NoForm s_NoRing_NoForm s_NoRing_NoRing, kit_any ic_NoName tc_NoName s_NoRing_NoName s_NoRing_NoRing, kit_any ic_NoNumber tc_NoNumber s_NoRing_NoNumber s_NoRing_NoRing, kit_any ic_NoRing tc_NoRing s_NoRing_NoRing s_NoRing_NoRing, kit_any ic_NoRow tc_NoRow s_NoRing_NoRow s_NoRing_NoRing, kit_any ic_NoRows tc_NoRows s_NoRing_NoRows s_NoRing_NoRing, kit_any ic_NoSweep tc_NoSweep s_NoRing_NoSweep s_NoRing_NoRing, kit_any ic_NoText tc_NoText s_NoRing_NoText s_NoRing_NoRing, kit_any ic_TooLarge tc_TooLarge s_NoRing_TooLarge s_NoRing_NoRing, kit_any ic_TooMany tc_TooMany s_NoRing_TooMany s_NoRing_NoRing⟩, all12 ⟨kit_any ic_NoAnswer tc_NoAnswer s_NoRow_NoAnswer s_NoRow_NoRow, kit_any ic_NoChain tc_NoChain s_NoRow_NoChain s_NoRow_NoRow, kit_any ic_NoForm tc_NoForm s_NoRow_NoForm s_NoRow_NoRow, kit_any ic_NoName tc_NoName s_NoRow_NoName s_NoRow_NoRow, kit_any ic_NoNumber tc_NoNumber s_NoRow_NoNumber s_NoRow_NoRow, kit_any ic_NoRing tc_NoRing s_NoRow_NoRing s_NoRow_NoRow, kit_any ic_NoRow tc_NoRow s_NoRow_NoRow s_NoRow_NoRow, kit_any ic_NoRows tc_NoRows s_NoRow_NoRows s_NoRow_NoRow, kit_any ic_NoSweep tc_NoSweep s_NoRow_NoSweep s_NoRow_NoRow, kit_any ic_NoText tc_NoText s_NoRow_NoText s_NoRow_NoRow, kit_any ic_TooLarge tc_TooLarge s_NoRow_TooLarge s_NoRow_NoRow, kit_any ic_TooMany tc_TooMany s_NoRow_TooMany s_NoRow_NoRow⟩, all12 ⟨kit_any ic_NoAnswer tc_NoAnswer s_NoRows_NoAnswer s_NoRows_NoRows, kit_any ic_NoChain tc_NoChain s_NoRows_NoChain s_NoRows_NoRows, kit_any ic_NoForm tc_NoForm s_NoRows_NoForm s_NoRows_NoRows, kit_any ic_NoName tc_NoName s_NoRows_NoName s_NoRows_NoRows, kit_any ic_NoNumber tc_NoNumber s_NoRows_NoNumber s_NoRows_NoRows, kit_any ic_NoRing tc_NoRing s_NoRows_NoRing s_NoRows_NoRows, kit_any ic_NoRow tc_NoRow s_NoRows_NoRow s_NoRows_NoRows, kit_any ic_NoRows tc_NoRows s_NoRows_NoRows s_NoRows_NoRows, kit_any ic_NoSweep tc_NoSweep s_NoRows_NoSweep s_NoRows_NoRows, kit_any ic_NoText tc_NoText s_NoRows_NoText s_NoRows_NoRows, kit_any ic_TooLarge tc_TooLarge s_NoRows_TooLarge s_NoRows_NoRows, kit_any ic_TooMany tc_TooMany s_NoRows_TooMany s_NoRows_NoRows⟩, all12 ⟨kit_any ic_NoAnswer tc_NoAnswer s_NoSweep_NoAnswer s_NoSweep_NoSweep, kit_any ic_NoChain tc_NoChain s_NoSweep_NoChain s_NoSweep_NoSweep, kit_any ic_NoForm tc_NoForm s_NoSweep_NoForm s_NoSweep_NoSweep, kit_any ic_NoName tc_NoName s_NoSweep_NoName s_NoSweep_NoSweep, kit_any ic_NoNumber tc_NoNumber s_NoSweep_NoNumber s_NoSweep_NoSweep, kit_any ic_NoRing tc_NoRing s_NoSweep_NoRing s_NoSweep_NoSweep, kit_any ic_NoRow tc_NoRow s_NoSweep_NoRow s_NoSweep_NoSweep, kit_any ic_NoRows tc_NoRows s_NoSweep_NoRows s_NoSweep_NoSweep, kit_any ic_NoSweep tc_NoSweep s_NoSweep_NoSweep s_NoSweep_NoSweep, kit_any ic_NoText tc_NoText s_NoSweep_NoText s_NoSweep_NoSweep, kit_any ic_TooLarge tc_TooLarge s_NoSweep_TooLarge s_NoSweep_NoSweep, kit_any ic_TooMany tc_TooMany s_NoSweep_TooMany s_NoSweep_NoSweep⟩, all12 ⟨kit_any ic_NoAnswer tc_NoAnswer s_NoText_NoAnswer s_NoText_NoText, kit_any ic_NoChain tc_NoChain s_NoText_NoChain s_NoText_NoText, kit_any ic_NoForm tc_NoForm s_NoText_NoForm s_NoText_NoText, kit_any ic_NoName tc_NoName s_NoText_NoName s_NoText_NoText, kit_any ic_NoNumber tc_NoNumber s_NoText_NoNumber s_NoText_NoText, kit_any ic_NoRing tc_NoRing s_NoText_NoRing s_NoText_NoText, kit_any ic_NoRow tc_NoRow s_NoText_NoRow s_NoText_NoText, kit_any ic_NoRows tc_NoRows s_NoText_NoRows s_NoText_NoText, kit_any ic_NoSweep tc_NoSweep s_NoText_NoSweep s_NoText_NoText, kit_any ic_NoText tc_NoText s_NoText_NoText s_NoText_NoText, kit_any ic_TooLarge tc_TooLarge s_NoText_TooLarge s_NoText_NoText, kit_any ic_TooMany tc_TooMany s_NoText_TooMany s_NoText_NoText⟩, all12 ⟨kit_any ic_NoAnswer tc_NoAnswer s_TooLarge_NoAnswer s_TooLarge_TooLarge, kit_any ic_NoChain tc_NoChain s_TooLarge_NoChain s_TooLarge_TooLarge, kit_any ic_NoForm tc_NoForm s_TooLarge_NoForm s_TooLarge_TooLarge, kit_any ic_NoName tc_NoName s_TooLarge_NoName s_TooLarge_TooLarge, kit_any ic_NoNumber tc_NoNumber s_TooLarge_NoNumber s_TooLarge_TooLarge, kit_any ic_NoRing tc_NoRing s_TooLarge_NoRing s_TooLarge_TooLarge, kit_any ic_NoRow tc_NoRow s_TooLarge_NoRow s_TooLarge_TooLarge, kit_any ic_NoRows tc_NoRows s_TooLarge_NoRows s_TooLarge_TooLarge, kit_any ic_NoSweep tc_NoSweep s_TooLarge_NoSweep s_TooLarge_TooLarge, kit_any ic_NoText tc_NoText s_TooLarge_NoText s_TooLarge_TooLarge, kit_any ic_TooLarge tc_TooLarge s_TooLarge_TooLarge s_TooLarge_TooLarge, kit_any ic_TooMany tc_TooMany s_TooLarge_TooMany s_TooLarge_TooLarge⟩, all12 ⟨kit_any ic_NoAnswer tc_NoAnswer s_TooMany_NoAnswer s_TooMany_TooMany, kit_any ic_NoChain tc_NoChain s_TooMany_NoChain s_TooMany_TooMany, kit_any ic_NoForm tc_NoForm s_TooMany_NoForm s_TooMany_TooMany, kit_any ic_NoName tc_NoName s_TooMany_NoName s_TooMany_TooMany, kit_any ic_NoNumber tc_NoNumber s_TooMany_NoNumber s_TooMany_TooMany, kit_any ic_NoRing tc_NoRing s_TooMany_NoRing s_TooMany_TooMany, kit_any ic_NoRow tc_NoRow s_TooMany_NoRow s_TooMany_TooMany, kit_any ic_NoRows tc_NoRows s_TooMany_NoRows s_TooMany_TooMany, kit_any ic_NoSweep tc_NoSweep s_TooMany_NoSweep s_TooMany_TooMany, kit_any ic_NoText tc_NoText s_TooMany_NoText s_TooMany_TooMany, kit_any ic_TooLarge tc_TooLarge s_TooMany_TooLarge s_TooMany_TooMany, kit_any ic_TooMany tc_TooMany s_TooMany_TooMany s_TooMany_TooMany⟩⟩)
      excs := all12 ⟨⟨ga_NoAnswer, gg_NoAnswer, ec_NoAnswer, hc_NoAnswer, ha_NoAnswer, hn, ht, hm_NoAnswer⟩, ⟨ga_NoChain, gg_NoChain, ec_NoChain, hc_NoChain, ha_NoChain, hn, ht, hm_NoChain⟩, ⟨ga_NoForm, gg_NoForm, ec_NoForm, hc_NoForm, ha_NoForm, hn, ht, hm_NoForm⟩, ⟨ga_NoName, gg_NoName, ec_NoName, hc_NoName, ha_NoName, hn, ht, hm_NoName⟩, ⟨ga_NoNumber, gg_NoNumber, ec_NoNumber, hc_NoNumber, ha_NoNumber, hn, ht, hm_NoNumber⟩, ⟨ga_NoRing, gg_NoRing, ec_NoRing, hc_NoRing, ha_NoRing, hn, ht, hm_NoRing⟩, ⟨ga_NoRow, gg_NoRow, ec_NoRow, hc_NoRow, ha_NoRow, hn, ht, hm_NoRow⟩, ⟨ga_NoRows, gg_NoRows, ec_NoRows, hc_NoRows, ha_NoRows, hn, ht, hm_NoRows⟩, ⟨ga_NoSweep, gg_NoSweep, ec_NoSweep, hc_NoSweep, ha_NoSweep, hn, ht, hm_NoSweep⟩, ⟨ga_NoText, gg_NoText, ec_NoText, hc_NoText, ha_NoText, hn, ht, hm_NoText⟩, ⟨ga_TooLarge, gg_TooLarge, ec_TooLarge, hc_TooLarge, ha_TooLarge, hn, ht, hm_TooLarge⟩, ⟨ga_TooMany, gg_TooMany, ec_TooMany, hc_TooMany, ha_TooMany, hn, ht, hm_TooMany⟩⟩
      kse := all12 ⟨kit_any ic_SweepError tc_SweepError se_NoAnswer s_NoAnswer_NoAnswer, kit_any ic_SweepError tc_SweepError se_NoChain s_NoChain_NoChain, kit_any ic_SweepError tc_SweepError se_NoForm s_NoForm_NoForm, kit_any ic_SweepError tc_SweepError se_NoName s_NoName_NoName, kit_any ic_SweepError tc_SweepError se_NoNumber s_NoNumber_NoNumber, kit_any ic_SweepError tc_SweepError se_NoRing s_NoRing_NoRing, kit_any ic_SweepError tc_SweepError se_NoRow s_NoRow_NoRow, kit_any ic_SweepError tc_SweepError se_NoRows s_NoRows_NoRows, kit_any ic_SweepError tc_SweepError se_NoSweep s_NoSweep_NoSweep, kit_any ic_SweepError tc_SweepError se_NoText s_NoText_NoText, kit_any ic_SweepError tc_SweepError se_TooLarge s_TooLarge_TooLarge, kit_any ic_SweepError tc_SweepError se_TooMany s_TooMany_TooMany⟩
      kve := all12 ⟨kit_ve sv_NoAnswer, kit_ve sv_NoChain, kit_ve sv_NoForm, kit_ve sv_NoName, kit_ve sv_NoNumber, kit_ve sv_NoRing, kit_ve sv_NoRow, kit_ve sv_NoRows, kit_ve sv_NoSweep, kit_ve sv_NoText, kit_ve sv_TooLarge, kit_ve sv_TooMany⟩
      F__law_cell := F10
      g__law_cell := PySem.W.mg_of X G q10
      b__law_cell := b10
      F__law_start := F11
      g__law_start := PySem.W.mg_of X G q11
      b__law_start := b11
      F__law_take := F12
      g__law_take := PySem.W.mg_of X G q12
      b__law_take := b12
      F__law_classes := F13
      g__law_classes := PySem.W.mg_of X G q13
      b__law_classes := b13
      F__law_by_place := F14
      g__law_by_place := PySem.W.mg_of X G q14
      b__law_by_place := b14
      F__law_by_name := F15
      g__law_by_name := PySem.W.mg_of X G q15
      b__law_by_name := b15
      F__law_fields := F16
      g__law_fields := PySem.W.mg_of X G q16
      b__law_fields := b16
      F_law := F17
      g_law := PySem.W.mg_of X G q17
      b_law := b17
      n_ValueError := PySem.W.mg_none_of X G z_ValueError
      n_abs := PySem.W.mg_none_of X G z_abs
      n_int := PySem.W.mg_none_of X G z_int
      n_isinstance := PySem.W.mg_none_of X G z_isinstance
      n_len := PySem.W.mg_none_of X G z_len
      n_range := PySem.W.mg_none_of X G z_range }
  exact ⟨_, fun s v => .of_eq rfl, fun base _ _ => ok_law T⟩
theorem walk {l : PySem.W.OpenLaw} {q : Program} {loose : List Str} {XP : (Str → Option Value) → Heap → Prop} {YP : World → Heap → Prop} {d : DefRec} {K : Params → PySem.W.Frag} (hn : l.most = some 63) (hdf : d.params.defaults = [])
    (hY : ∀ (w : World) (h : Heap), YP w h → (K w.params).In h)
    (F : ∀ (w : World) (mg : Str → Option Value) (fa : Addr) (h : Heap), (K w.params).In h → h.Ns mainGlobals mg → mg d.name = some (.ref fa) →
      ∃ fd : FuncData, (∀ (s : Shared) (u : Value), BindsTo s fd ⟨[u], []⟩ [("_law_script", u)]) ∧ ∀ base : Heap, (K w.params).In base → base.Ns mainGlobals mg → FnOk l.prog w (K w.params) mg base CX0 8 fa fd ["_law_script"] (spLaw (K w.params))) :
    PySem.W.WalkO q loose XP YP l.row.toRowW d [] (fun f vs => PySem.call f vs) :=
  L2.walk_of (n := 63) (k := 8) (x := "_law_script") (CX := fun _ => CX0) (sp := fun w => spLaw (K w.params)) hn (by decide) hdf ⟨rfl, by decide, by decide⟩ hY F (fun _ _ a ns hl _ hS => ⟨a, ns, rfl, hS, hl, fun _ => rfl⟩) fun _ _ _ _ _ z => z
end Rk
open PySem PySem.W PyProof.Rows in
set_option maxRecDepth 100000 in
set_option maxHeartbeats 0 in
theorem PySem.Challenge.cw_ranksweeps_k99_errors_holds : PySem.Challenge.rw_ranksweeps_k99_errors.Holds := by
  w_on; o_law; k_head; (case hw => w_witness2)
  k_fill
  refine Rk.walk (l := PySem.Challenge.rw_ranksweeps_k99_errors) rfl rfl (fun w h Y => PySem.W.kIn_of Y) ?F
  case F =>
    intro w mg fa h KX G hmg
    refine' Rk.all_mk KX G hmg ?g_SweepError ?g_NoRow ?g_NoSweep ?g_NoChain ?g_NoNumber ?g_TooMany ?g_TooLarge ?g_NoRows ?g_NoForm ?g_NoRing ?g_NoText ?g_NoAnswer ?g_NoName ?ga_SweepError ?gg_SweepError ?ec_SweepError ?hc_SweepError ?tc_SweepError ?ic_SweepError ?ga_NoRow ?gg_NoRow ?ec_NoRow ?hc_NoRow ?tc_NoRow ?ic_NoRow ?ha_NoRow ?hm_NoRow ?kc_NoRow ?sv_NoRow ?se_NoRow ?s_NoRow_NoAnswer ?s_NoRow_NoChain ?s_NoRow_NoForm ?s_NoRow_NoName ?s_NoRow_NoNumber ?s_NoRow_NoRing ?s_NoRow_NoRow ?s_NoRow_NoRows ?s_NoRow_NoSweep ?s_NoRow_NoText ?s_NoRow_TooLarge ?s_NoRow_TooMany ?x_NoRow ?sa_NoRow ?q0 ?l0 ?cc0 ?kk0 ?t_NoRow__init__ ?no_NoRow_index ?ga_NoSweep ?gg_NoSweep ?ec_NoSweep ?hc_NoSweep ?tc_NoSweep ?ic_NoSweep ?ha_NoSweep ?hm_NoSweep ?kc_NoSweep ?sv_NoSweep ?se_NoSweep ?s_NoSweep_NoAnswer ?s_NoSweep_NoChain ?s_NoSweep_NoForm ?s_NoSweep_NoName ?s_NoSweep_NoNumber ?s_NoSweep_NoRing ?s_NoSweep_NoRow ?s_NoSweep_NoRows ?s_NoSweep_NoSweep ?s_NoSweep_NoText ?s_NoSweep_TooLarge ?s_NoSweep_TooMany ?x_NoSweep ?sa_NoSweep ?q1 ?l1 ?cc1 ?kk1 ?t_NoSweep__init__ ?no_NoSweep_part ?ga_NoChain ?gg_NoChain ?ec_NoChain ?hc_NoChain ?tc_NoChain ?ic_NoChain ?ha_NoChain ?hm_NoChain ?kc_NoChain ?sv_NoChain ?se_NoChain ?s_NoChain_NoAnswer ?s_NoChain_NoChain ?s_NoChain_NoForm ?s_NoChain_NoName ?s_NoChain_NoNumber ?s_NoChain_NoRing ?s_NoChain_NoRow ?s_NoChain_NoRows ?s_NoChain_NoSweep ?s_NoChain_NoText ?s_NoChain_TooLarge ?s_NoChain_TooMany ?x_NoChain ?sa_NoChain ?q2 ?l2 ?cc2 ?kk2 ?t_NoChain__init__ ?no_NoChain_name ?ga_NoNumber ?gg_NoNumber ?ec_NoNumber ?hc_NoNumber ?tc_NoNumber ?ic_NoNumber ?ha_NoNumber ?hm_NoNumber ?kc_NoNumber ?sv_NoNumber ?se_NoNumber ?s_NoNumber_NoAnswer ?s_NoNumber_NoChain ?s_NoNumber_NoForm ?s_NoNumber_NoName ?s_NoNumber_NoNumber ?s_NoNumber_NoRing ?s_NoNumber_NoRow ?s_NoNumber_NoRows ?s_NoNumber_NoSweep ?s_NoNumber_NoText ?s_NoNumber_TooLarge ?s_NoNumber_TooMany ?x_NoNumber ?sa_NoNumber ?q3 ?l3 ?cc3 ?kk3 ?t_NoNumber__init__ ?no_NoNumber_name ?ga_TooMany ?gg_TooMany ?ec_TooMany ?hc_TooMany ?tc_TooMany ?ic_TooMany ?ha_TooMany ?hm_TooMany ?kc_TooMany ?sv_TooMany ?se_TooMany ?s_TooMany_NoAnswer ?s_TooMany_NoChain ?s_TooMany_NoForm ?s_TooMany_NoName ?s_TooMany_NoNumber ?s_TooMany_NoRing ?s_TooMany_NoRow ?s_TooMany_NoRows ?s_TooMany_NoSweep ?s_TooMany_NoText ?s_TooMany_TooLarge ?s_TooMany_TooMany ?x_TooMany ?sa_TooMany ?q4 ?l4 ?cc4 ?kk4 ?t_TooMany__init__ ?no_TooMany_most ?ga_TooLarge ?gg_TooLarge ?ec_TooLarge ?hc_TooLarge ?tc_TooLarge ?ic_TooLarge ?ha_TooLarge ?hm_TooLarge ?kc_TooLarge ?sv_TooLarge ?se_TooLarge ?s_TooLarge_NoAnswer ?s_TooLarge_NoChain ?s_TooLarge_NoForm ?s_TooLarge_NoName ?s_TooLarge_NoNumber ?s_TooLarge_NoRing ?s_TooLarge_NoRow ?s_TooLarge_NoRows ?s_TooLarge_NoSweep ?s_TooLarge_NoText ?s_TooLarge_TooLarge ?s_TooLarge_TooMany ?x_TooLarge ?sa_TooLarge ?q5 ?l5 ?cc5 ?kk5 ?t_TooLarge__init__ ?no_TooLarge_part ?ga_NoRows ?gg_NoRows ?ec_NoRows ?hc_NoRows ?tc_NoRows ?ic_NoRows ?ha_NoRows ?hm_NoRows ?kc_NoRows ?sv_NoRows ?se_NoRows ?s_NoRows_NoAnswer ?s_NoRows_NoChain ?s_NoRows_NoForm ?s_NoRows_NoName ?s_NoRows_NoNumber ?s_NoRows_NoRing ?s_NoRows_NoRow ?s_NoRows_NoRows ?s_NoRows_NoSweep ?s_NoRows_NoText ?s_NoRows_TooLarge ?s_NoRows_TooMany ?x_NoRows ?sa_NoRows ?q6 ?l6 ?cc6 ?kk6 ?t_NoRows__init__ ?no_NoRows_part ?no_NoRows_index ?ga_NoForm ?gg_NoForm ?ec_NoForm ?hc_NoForm ?tc_NoForm ?ic_NoForm ?ha_NoForm ?hm_NoForm ?kc_NoForm ?sv_NoForm ?se_NoForm ?s_NoForm_NoAnswer ?s_NoForm_NoChain ?s_NoForm_NoForm ?s_NoForm_NoName ?s_NoForm_NoNumber ?s_NoForm_NoRing ?s_NoForm_NoRow ?s_NoForm_NoRows ?s_NoForm_NoSweep ?s_NoForm_NoText ?s_NoForm_TooLarge ?s_NoForm_TooMany ?qe_NoForm ?ga_NoRing ?gg_NoRing ?ec_NoRing ?hc_NoRing ?tc_NoRing ?ic_NoRing ?ha_NoRing ?hm_NoRing ?kc_NoRing ?sv_NoRing ?se_NoRing ?s_NoRing_NoAnswer ?s_NoRing_NoChain ?s_NoRing_NoForm ?s_NoRing_NoName ?s_NoRing_NoNumber ?s_NoRing_NoRing ?s_NoRing_NoRow ?s_NoRing_NoRows ?s_NoRing_NoSweep ?s_NoRing_NoText ?s_NoRing_TooLarge ?s_NoRing_TooMany ?qe_NoRing ?ga_NoText ?gg_NoText ?ec_NoText ?hc_NoText ?tc_NoText ?ic_NoText ?ha_NoText ?hm_NoText ?kc_NoText ?sv_NoText ?se_NoText ?s_NoText_NoAnswer ?s_NoText_NoChain ?s_NoText_NoForm ?s_NoText_NoName ?s_NoText_NoNumber ?s_NoText_NoRing ?s_NoText_NoRow ?s_NoText_NoRows ?s_NoText_NoSweep ?s_NoText_NoText ?s_NoText_TooLarge ?s_NoText_TooMany ?x_NoText ?sa_NoText ?q7 ?l7 ?cc7 ?kk7 ?t_NoText__init__ ?no_NoText_index ?ga_NoAnswer ?gg_NoAnswer ?ec_NoAnswer ?hc_NoAnswer ?tc_NoAnswer ?ic_NoAnswer ?ha_NoAnswer ?hm_NoAnswer ?kc_NoAnswer ?sv_NoAnswer ?se_NoAnswer ?s_NoAnswer_NoAnswer ?s_NoAnswer_NoChain ?s_NoAnswer_NoForm ?s_NoAnswer_NoName ?s_NoAnswer_NoNumber ?s_NoAnswer_NoRing ?s_NoAnswer_NoRow ?s_NoAnswer_NoRows ?s_NoAnswer_NoSweep ?s_NoAnswer_NoText ?s_NoAnswer_TooLarge ?s_NoAnswer_TooMany ?x_NoAnswer ?sa_NoAnswer ?q8 ?l8 ?cc8 ?kk8 ?t_NoAnswer__init__ ?no_NoAnswer_part ?no_NoAnswer_index ?ga_NoName ?gg_NoName ?ec_NoName ?hc_NoName ?tc_NoName ?ic_NoName ?ha_NoName ?hm_NoName ?kc_NoName ?sv_NoName ?se_NoName ?s_NoName_NoAnswer ?s_NoName_NoChain ?s_NoName_NoForm ?s_NoName_NoName ?s_NoName_NoNumber ?s_NoName_NoRing ?s_NoName_NoRow ?s_NoName_NoRows ?s_NoName_NoSweep ?s_NoName_NoText ?s_NoName_TooLarge ?s_NoName_TooMany ?x_NoName ?sa_NoName ?q9 ?l9 ?cc9 ?kk9 ?t_NoName__init__ ?no_NoName_name ?hn ?ht ?q10 ?l10 ?cc10 ?kk10 ?q11 ?l11 ?cc11 ?kk11 ?q12 ?l12 ?cc12 ?kk12 ?q13 ?l13 ?cc13 ?kk13 ?q14 ?l14 ?cc14 ?kk14 ?q15 ?l15 ?cc15 ?kk15 ?q16 ?l16 ?cc16 ?kk16 ?q17 ?l17 ?cc17 ?kk17 ?z_ValueError ?z_abs ?z_int ?z_isinstance ?z_len ?z_range
    (case g_SweepError => k_is)
    (case g_NoRow => k_is)
    (case g_NoSweep => k_is)
    (case g_NoChain => k_is)
    (case g_NoNumber => k_is)
    (case g_TooMany => k_is)
    (case g_TooLarge => k_is)
    (case g_NoRows => k_is)
    (case g_NoForm => k_is)
    (case g_NoRing => k_is)
    (case g_NoText => k_is)
    (case g_NoAnswer => k_is)
    (case g_NoName => k_is)
    (case ga_SweepError => k_is)
    (case gg_SweepError => k_is)
    (case ec_SweepError => k_is)
    (case hc_SweepError => k_is)
    (case tc_SweepError => k_is)
    (case ic_SweepError => k_is)
    (case ga_NoRow => k_is)
    (case gg_NoRow => k_is)
    (case ec_NoRow => k_is)
    (case hc_NoRow => k_is)
    (case tc_NoRow => k_is)
    (case ic_NoRow => k_is)
    (case ha_NoRow => k_is)
    (case hm_NoRow => k_is)
    (case kc_NoRow => k_is)
    (case sv_NoRow => k_is)
    (case se_NoRow => k_is)
    (case s_NoRow_NoAnswer => k_is)
    (case s_NoRow_NoChain => k_is)
    (case s_NoRow_NoForm => k_is)
    (case s_NoRow_NoName => k_is)
    (case s_NoRow_NoNumber => k_is)
    (case s_NoRow_NoRing => k_is)
    (case s_NoRow_NoRow => k_is)
    (case s_NoRow_NoRows => k_is)
    (case s_NoRow_NoSweep => k_is)
    (case s_NoRow_NoText => k_is)
    (case s_NoRow_TooLarge => k_is)
    (case s_NoRow_TooMany => k_is)
    (case x_NoRow => k_is)
    (case sa_NoRow => k_is)
    (case q0 => k_is)
    (case l0 => k_is)
    (case cc0 => k_is)
    (case kk0 => k_is)
    (case t_NoRow__init__ => k_is)
    (case no_NoRow_index => k_is)
    (case ga_NoSweep => k_is)
    (case gg_NoSweep => k_is)
    (case ec_NoSweep => k_is)
    (case hc_NoSweep => k_is)
    (case tc_NoSweep => k_is)
    (case ic_NoSweep => k_is)
    (case ha_NoSweep => k_is)
    (case hm_NoSweep => k_is)
    (case kc_NoSweep => k_is)
    (case sv_NoSweep => k_is)
    (case se_NoSweep => k_is)
    (case s_NoSweep_NoAnswer => k_is)
    (case s_NoSweep_NoChain => k_is)
    (case s_NoSweep_NoForm => k_is)
    (case s_NoSweep_NoName => k_is)
    (case s_NoSweep_NoNumber => k_is)
    (case s_NoSweep_NoRing => k_is)
    (case s_NoSweep_NoRow => k_is)
    (case s_NoSweep_NoRows => k_is)
    (case s_NoSweep_NoSweep => k_is)
    (case s_NoSweep_NoText => k_is)
    (case s_NoSweep_TooLarge => k_is)
    (case s_NoSweep_TooMany => k_is)
    (case x_NoSweep => k_is)
    (case sa_NoSweep => k_is)
    (case q1 => k_is)
    (case l1 => k_is)
    (case cc1 => k_is)
    (case kk1 => k_is)
    (case t_NoSweep__init__ => k_is)
    (case no_NoSweep_part => k_is)
    (case ga_NoChain => k_is)
    (case gg_NoChain => k_is)
    (case ec_NoChain => k_is)
    (case hc_NoChain => k_is)
    (case tc_NoChain => k_is)
    (case ic_NoChain => k_is)
    (case ha_NoChain => k_is)
    (case hm_NoChain => k_is)
    (case kc_NoChain => k_is)
    (case sv_NoChain => k_is)
    (case se_NoChain => k_is)
    (case s_NoChain_NoAnswer => k_is)
    (case s_NoChain_NoChain => k_is)
    (case s_NoChain_NoForm => k_is)
    (case s_NoChain_NoName => k_is)
    (case s_NoChain_NoNumber => k_is)
    (case s_NoChain_NoRing => k_is)
    (case s_NoChain_NoRow => k_is)
    (case s_NoChain_NoRows => k_is)
    (case s_NoChain_NoSweep => k_is)
    (case s_NoChain_NoText => k_is)
    (case s_NoChain_TooLarge => k_is)
    (case s_NoChain_TooMany => k_is)
    (case x_NoChain => k_is)
    (case sa_NoChain => k_is)
    (case q2 => k_is)
    (case l2 => k_is)
    (case cc2 => k_is)
    (case kk2 => k_is)
    (case t_NoChain__init__ => k_is)
    (case no_NoChain_name => k_is)
    (case ga_NoNumber => k_is)
    (case gg_NoNumber => k_is)
    (case ec_NoNumber => k_is)
    (case hc_NoNumber => k_is)
    (case tc_NoNumber => k_is)
    (case ic_NoNumber => k_is)
    (case ha_NoNumber => k_is)
    (case hm_NoNumber => k_is)
    (case kc_NoNumber => k_is)
    (case sv_NoNumber => k_is)
    (case se_NoNumber => k_is)
    (case s_NoNumber_NoAnswer => k_is)
    (case s_NoNumber_NoChain => k_is)
    (case s_NoNumber_NoForm => k_is)
    (case s_NoNumber_NoName => k_is)
    (case s_NoNumber_NoNumber => k_is)
    (case s_NoNumber_NoRing => k_is)
    (case s_NoNumber_NoRow => k_is)
    (case s_NoNumber_NoRows => k_is)
    (case s_NoNumber_NoSweep => k_is)
    (case s_NoNumber_NoText => k_is)
    (case s_NoNumber_TooLarge => k_is)
    (case s_NoNumber_TooMany => k_is)
    (case x_NoNumber => k_is)
    (case sa_NoNumber => k_is)
    (case q3 => k_is)
    (case l3 => k_is)
    (case cc3 => k_is)
    (case kk3 => k_is)
    (case t_NoNumber__init__ => k_is)
    (case no_NoNumber_name => k_is)
    (case ga_TooMany => k_is)
    (case gg_TooMany => k_is)
    (case ec_TooMany => k_is)
    (case hc_TooMany => k_is)
    (case tc_TooMany => k_is)
    (case ic_TooMany => k_is)
    (case ha_TooMany => k_is)
    (case hm_TooMany => k_is)
    (case kc_TooMany => k_is)
    (case sv_TooMany => k_is)
    (case se_TooMany => k_is)
    (case s_TooMany_NoAnswer => k_is)
    (case s_TooMany_NoChain => k_is)
    (case s_TooMany_NoForm => k_is)
    (case s_TooMany_NoName => k_is)
    (case s_TooMany_NoNumber => k_is)
    (case s_TooMany_NoRing => k_is)
    (case s_TooMany_NoRow => k_is)
    (case s_TooMany_NoRows => k_is)
    (case s_TooMany_NoSweep => k_is)
    (case s_TooMany_NoText => k_is)
    (case s_TooMany_TooLarge => k_is)
    (case s_TooMany_TooMany => k_is)
    (case x_TooMany => k_is)
    (case sa_TooMany => k_is)
    (case q4 => k_is)
    (case l4 => k_is)
    (case cc4 => k_is)
    (case kk4 => k_is)
    (case t_TooMany__init__ => k_is)
    (case no_TooMany_most => k_is)
    (case ga_TooLarge => k_is)
    (case gg_TooLarge => k_is)
    (case ec_TooLarge => k_is)
    (case hc_TooLarge => k_is)
    (case tc_TooLarge => k_is)
    (case ic_TooLarge => k_is)
    (case ha_TooLarge => k_is)
    (case hm_TooLarge => k_is)
    (case kc_TooLarge => k_is)
    (case sv_TooLarge => k_is)
    (case se_TooLarge => k_is)
    (case s_TooLarge_NoAnswer => k_is)
    (case s_TooLarge_NoChain => k_is)
    (case s_TooLarge_NoForm => k_is)
    (case s_TooLarge_NoName => k_is)
    (case s_TooLarge_NoNumber => k_is)
    (case s_TooLarge_NoRing => k_is)
    (case s_TooLarge_NoRow => k_is)
    (case s_TooLarge_NoRows => k_is)
    (case s_TooLarge_NoSweep => k_is)
    (case s_TooLarge_NoText => k_is)
    (case s_TooLarge_TooLarge => k_is)
    (case s_TooLarge_TooMany => k_is)
    (case x_TooLarge => k_is)
    (case sa_TooLarge => k_is)
    (case q5 => k_is)
    (case l5 => k_is)
    (case cc5 => k_is)
    (case kk5 => k_is)
    (case t_TooLarge__init__ => k_is)
    (case no_TooLarge_part => k_is)
    (case ga_NoRows => k_is)
    (case gg_NoRows => k_is)
    (case ec_NoRows => k_is)
    (case hc_NoRows => k_is)
    (case tc_NoRows => k_is)
    (case ic_NoRows => k_is)
    (case ha_NoRows => k_is)
    (case hm_NoRows => k_is)
    (case kc_NoRows => k_is)
    (case sv_NoRows => k_is)
    (case se_NoRows => k_is)
    (case s_NoRows_NoAnswer => k_is)
    (case s_NoRows_NoChain => k_is)
    (case s_NoRows_NoForm => k_is)
    (case s_NoRows_NoName => k_is)
    (case s_NoRows_NoNumber => k_is)
    (case s_NoRows_NoRing => k_is)
    (case s_NoRows_NoRow => k_is)
    (case s_NoRows_NoRows => k_is)
    (case s_NoRows_NoSweep => k_is)
    (case s_NoRows_NoText => k_is)
    (case s_NoRows_TooLarge => k_is)
    (case s_NoRows_TooMany => k_is)
    (case x_NoRows => k_is)
    (case sa_NoRows => k_is)
    (case q6 => k_is)
    (case l6 => k_is)
    (case cc6 => k_is)
    (case kk6 => k_is)
    (case t_NoRows__init__ => k_is)
    (case no_NoRows_part => k_is)
    (case no_NoRows_index => k_is)
    (case ga_NoForm => k_is)
    (case gg_NoForm => k_is)
    (case ec_NoForm => k_is)
    (case hc_NoForm => k_is)
    (case tc_NoForm => k_is)
    (case ic_NoForm => k_is)
    (case ha_NoForm => k_is)
    (case hm_NoForm => k_is)
    (case kc_NoForm => k_is)
    (case sv_NoForm => k_is)
    (case se_NoForm => k_is)
    (case s_NoForm_NoAnswer => k_is)
    (case s_NoForm_NoChain => k_is)
    (case s_NoForm_NoForm => k_is)
    (case s_NoForm_NoName => k_is)
    (case s_NoForm_NoNumber => k_is)
    (case s_NoForm_NoRing => k_is)
    (case s_NoForm_NoRow => k_is)
    (case s_NoForm_NoRows => k_is)
    (case s_NoForm_NoSweep => k_is)
    (case s_NoForm_NoText => k_is)
    (case s_NoForm_TooLarge => k_is)
    (case s_NoForm_TooMany => k_is)
    (case qe_NoForm => k_exc)
    (case ga_NoRing => k_is)
    (case gg_NoRing => k_is)
    (case ec_NoRing => k_is)
    (case hc_NoRing => k_is)
    (case tc_NoRing => k_is)
    (case ic_NoRing => k_is)
    (case ha_NoRing => k_is)
    (case hm_NoRing => k_is)
    (case kc_NoRing => k_is)
    (case sv_NoRing => k_is)
    (case se_NoRing => k_is)
    (case s_NoRing_NoAnswer => k_is)
    (case s_NoRing_NoChain => k_is)
    (case s_NoRing_NoForm => k_is)
    (case s_NoRing_NoName => k_is)
    (case s_NoRing_NoNumber => k_is)
    (case s_NoRing_NoRing => k_is)
    (case s_NoRing_NoRow => k_is)
    (case s_NoRing_NoRows => k_is)
    (case s_NoRing_NoSweep => k_is)
    (case s_NoRing_NoText => k_is)
    (case s_NoRing_TooLarge => k_is)
    (case s_NoRing_TooMany => k_is)
    (case qe_NoRing => k_exc)
    (case ga_NoText => k_is)
    (case gg_NoText => k_is)
    (case ec_NoText => k_is)
    (case hc_NoText => k_is)
    (case tc_NoText => k_is)
    (case ic_NoText => k_is)
    (case ha_NoText => k_is)
    (case hm_NoText => k_is)
    (case kc_NoText => k_is)
    (case sv_NoText => k_is)
    (case se_NoText => k_is)
    (case s_NoText_NoAnswer => k_is)
    (case s_NoText_NoChain => k_is)
    (case s_NoText_NoForm => k_is)
    (case s_NoText_NoName => k_is)
    (case s_NoText_NoNumber => k_is)
    (case s_NoText_NoRing => k_is)
    (case s_NoText_NoRow => k_is)
    (case s_NoText_NoRows => k_is)
    (case s_NoText_NoSweep => k_is)
    (case s_NoText_NoText => k_is)
    (case s_NoText_TooLarge => k_is)
    (case s_NoText_TooMany => k_is)
    (case x_NoText => k_is)
    (case sa_NoText => k_is)
    (case q7 => k_is)
    (case l7 => k_is)
    (case cc7 => k_is)
    (case kk7 => k_is)
    (case t_NoText__init__ => k_is)
    (case no_NoText_index => k_is)
    (case ga_NoAnswer => k_is)
    (case gg_NoAnswer => k_is)
    (case ec_NoAnswer => k_is)
    (case hc_NoAnswer => k_is)
    (case tc_NoAnswer => k_is)
    (case ic_NoAnswer => k_is)
    (case ha_NoAnswer => k_is)
    (case hm_NoAnswer => k_is)
    (case kc_NoAnswer => k_is)
    (case sv_NoAnswer => k_is)
    (case se_NoAnswer => k_is)
    (case s_NoAnswer_NoAnswer => k_is)
    (case s_NoAnswer_NoChain => k_is)
    (case s_NoAnswer_NoForm => k_is)
    (case s_NoAnswer_NoName => k_is)
    (case s_NoAnswer_NoNumber => k_is)
    (case s_NoAnswer_NoRing => k_is)
    (case s_NoAnswer_NoRow => k_is)
    (case s_NoAnswer_NoRows => k_is)
    (case s_NoAnswer_NoSweep => k_is)
    (case s_NoAnswer_NoText => k_is)
    (case s_NoAnswer_TooLarge => k_is)
    (case s_NoAnswer_TooMany => k_is)
    (case x_NoAnswer => k_is)
    (case sa_NoAnswer => k_is)
    (case q8 => k_is)
    (case l8 => k_is)
    (case cc8 => k_is)
    (case kk8 => k_is)
    (case t_NoAnswer__init__ => k_is)
    (case no_NoAnswer_part => k_is)
    (case no_NoAnswer_index => k_is)
    (case ga_NoName => k_is)
    (case gg_NoName => k_is)
    (case ec_NoName => k_is)
    (case hc_NoName => k_is)
    (case tc_NoName => k_is)
    (case ic_NoName => k_is)
    (case ha_NoName => k_is)
    (case hm_NoName => k_is)
    (case kc_NoName => k_is)
    (case sv_NoName => k_is)
    (case se_NoName => k_is)
    (case s_NoName_NoAnswer => k_is)
    (case s_NoName_NoChain => k_is)
    (case s_NoName_NoForm => k_is)
    (case s_NoName_NoName => k_is)
    (case s_NoName_NoNumber => k_is)
    (case s_NoName_NoRing => k_is)
    (case s_NoName_NoRow => k_is)
    (case s_NoName_NoRows => k_is)
    (case s_NoName_NoSweep => k_is)
    (case s_NoName_NoText => k_is)
    (case s_NoName_TooLarge => k_is)
    (case s_NoName_TooMany => k_is)
    (case x_NoName => k_is)
    (case sa_NoName => k_is)
    (case q9 => k_is)
    (case l9 => k_is)
    (case cc9 => k_is)
    (case kk9 => k_is)
    (case t_NoName__init__ => k_is)
    (case no_NoName_name => k_is)
    (case hn => k_is)
    (case ht => k_is)
    (case q10 => k_is)
    (case l10 => k_is)
    (case cc10 => k_is)
    (case kk10 => k_is)
    (case q11 => k_is)
    (case l11 => k_is)
    (case cc11 => k_is)
    (case kk11 => k_is)
    (case q12 => k_is)
    (case l12 => k_is)
    (case cc12 => k_is)
    (case kk12 => k_is)
    (case q13 => k_is)
    (case l13 => k_is)
    (case cc13 => k_is)
    (case kk13 => k_is)
    (case q14 => k_is)
    (case l14 => k_is)
    (case cc14 => k_is)
    (case kk14 => k_is)
    (case q15 => k_is)
    (case l15 => k_is)
    (case cc15 => k_is)
    (case kk15 => k_is)
    (case q16 => k_is)
    (case l16 => k_is)
    (case cc16 => k_is)
    (case kk16 => k_is)
    (case q17 => k_is)
    (case l17 => k_is)
    (case cc17 => k_is)
    (case kk17 => k_is)
    (case z_ValueError => k_is)
    (case z_abs => k_is)
    (case z_int => k_is)
    (case z_isinstance => k_is)
    (case z_len => k_is)
    (case z_range => k_is)
