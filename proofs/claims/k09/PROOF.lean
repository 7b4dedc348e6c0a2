import PyProof.Rows.All
import Wide.All
import OpenK.AllK
import Wide.FinOn
import HandS.ForExc
import HandS.ExcInit
import HandS.ExcField
import HandS.ExcIs
import HandS.IsInst
import HandS.SetFor
import HandS.SortInts
import HandS.Strs
import HandS.Zip
import HandS.ForMost
import HandS.Flow
import HandS.Wide
import HandS.Walk
import HandS.Evl
import HandS.ExcValue
import HandS.Small
import PyProof.NeKinds
import HandS.Defaults
import HandS.MakeKw
import HandS.MakeKwOnly
import HandS.ClsMeth
import HandS.CallSlots
import KE.DatumOrd
import HandS.SortKw
import PyProof.AttrMiss
import HandS.ExcSuper
import HandS.Star
import HandS.More
import PyProof.InstNe
import PyProof.EqLayable
import HandS.RevRange
import HandS.Conv
import PyProof.ListRange
import HandS.CallLocal
import KE.SortKeyHeap
import KE.SortData
import KE.GoesEnum
import HandS.Style
import HandS.HeadHook3
import HandS.TupAny
import HandS.OwnEq
import KE.KDictDisplayH
import HandS.Deep
import PySem.Challenge.RW_ranksweeps_k09_equal_chains
set_option Elab.async false
set_option linter.all false
set_option maxRecDepth 100000
set_option maxHeartbeats 8000000
namespace Own
open PySem L2 PySem.Spec PyProof.Rows

/-- behind the suite of a clause with a name the name's slot is empty -/
def cut (D : Ends) (i : Nat) : Ends where
  nx := fun τ G => D.nx (τ.set i none) G
  rt := D.rt
  bk := fun τ G => D.bk (τ.set i none) G
  ct := fun τ G => D.ct (τ.set i none) G
abbrev Suite := Addr → Value → Option Addr → TS
/-- clauses, each with its class, its name's slot, its suite: the first one that names the class takes the exception -/
def wClauses (K : PySem.W.Frag) (W₀ : WX) (D : Ends) : List (Value × Nat × Suite) → WX
  | [] => W₀
  | (c, i, ts) :: more => fun cls d τ G => ∃ yes : Bool, PySem.W.exmOne K cls c = some yes ∧
      (yes = true → ∀ a, G a = none → ts a cls d (cut D i) (τ.set i (some (.ref a))) G) ∧ (yes = false → wClauses K W₀ D more cls d τ G)
inductive Clauses (X : Cx) : List ExceptHandler → List (Value × Nat × Suite) → Prop
  | none : Clauses X [] []
  | more {x n : Str} {c : Value} {i : Nat} {ts : Suite} {st : Stmt} {sts : List Stmt} {p q : Pos} {hds : List ExceptHandler} {l : List (Value × Nat × Suite)}
      (named : Names X x c) (slot : X.N[i]? = some n) (loc : X.env.kindOf n = some .local)
      (suite : ∀ (a : Addr) (oe : Obj) (cls : Value) (d : Option Addr) (pn : List (Addr × Obj)), Zc cls d oe → (∃ vs, oe.data = .fields vs) → PSs (X.suite a ((a, oe) :: pn)) (st :: sts) (ts a cls d))
      (rest : Clauses X hds l) : Clauses X (.ExceptHandler (some (.Name x p)) (some n) (st :: sts) q :: hds) ((c, i, ts) :: l)

/-- what stands when an exception of the body has landed in front of the clauses -/
structure Landed (X : Cx) (pins : List (Addr × Obj)) (σ : L2.St) (H : Hp) (cls : Value) (d : Option Addr) (a : Addr) (B : Heap) (sI s' : Shared) (h : Heap) : Prop where
  fly : HandSPX.FlyingZ B (X.env :: X.outer) a (Zc cls d) h
  inv : Inv X pins σ H { s' with heap := h }
  before : Inv X pins σ H sI
  nb : ∀ b o, sI.heap.get? b = some o → b ∉ frs X.stack → B.get? b = some o
  up : sI.heap.UpToSlots h
  free : H a = none
  os : s'.os = sI.os
  ag : AllBare s'.gens
  notL : a ≠ X.env.locals
  notF : a ∉ X.fs

section
variable {X : Cx} {pins : List (Addr × Obj)} {σ : L2.St} {H : Hp} {cls : Value} {d : Option Addr} {a : Addr} {B : Heap} {sI s' : Shared} {h : Heap} {W₀ : WX} {D : Ends}

theorem Landed.off (T : Landed X pins σ H cls d a B sI s' h) (hstk : X.stack = X.env :: X.outer) (hfrm : X.env.frame = some X.env.locals) (tk : Takes X W₀) (w : W₀ cls d σ H) :
    wpAny (model X.prog X.w) X.A (handleBy (.ref a) X.env []) (SP X pins D) X.xe { s' with heap := h } := by
  refine wpAny_handleBy_nil ?_
  obtain ⟨-, -, -, oe, vs, tb, -, -, hoe, -, hda, hv1, -⟩ := id T.fly
  have isNone : ¬ ((Value.ref tb == Value.none) = true) := by simp
  have away : wpAny (model X.prog X.w) X.A (setFlight (.ref a) X.env.frame) (fun _ s4 => wpAny (model X.prog X.w) X.A (throw (.ref a) : Sem Flow) (SP X pins D) X.xe s4) X.xe { s' with heap := h } := by
    rw [hfrm]
    refine HandSPX.setFlight_upZ T.fly fun h4 held up4 => wpAny_throw (tk _ _ ?_)
    exact ⟨a, B, sI, pins, σ, H, cls, d, rfl, T.before, T.nb, T.up.trans up4, Or.inr (Or.inr (by rw [hstk]; exact held)), T.free, T.os, T.ag, w⟩
  unfold PySem.passOn
  refine wpAny_bind (wpAny_field hoe hda hv1 ?_)
  rw [if_neg isNone]
  first | exact wpAny_bind (wpAny_pure (wpAny_bind away)) | exact wpAny_bind away

theorem Landed.clauses (T : Landed X pins σ H cls d a B sI s' h) (hstk : X.stack = X.env :: X.outer) (hfrm : X.env.frame = some X.env.locals) (nd : X.N.Nodup) (tk : Takes X W₀)
    {hds : List ExceptHandler} {l : List (Value × Nat × Suite)} (C : Clauses X hds l) (w : wClauses X.K W₀ D l cls d σ H) :
    wpAny (model X.prog X.w) X.A (handleBy (.ref a) X.env hds) (SP X pins D) X.xe { s' with heap := h } := by
  have ok := T.inv.ok
  induction C with
  | none => exact T.off hstk hfrm tk w
  | @more x n c i ts st sts p q hds l named slot loc suite rest ih =>
    obtain ⟨yes, e, w1, w2⟩ := w
    obtain ⟨oe, vs, hoe, hz, hda⟩ := T.fly.there
    have S := T.inv.suite hoe hda T.free T.notL T.notF
    have tyA : PySem.W.Looks (model X.prog X.w) h (typeOf (.ref a)) cls := fun _ _ _ _ keep q => wpAny_typeOf_ref (keep _ _ hoe) (by rw [hz.1]; exact q)
    refine wpAny_handleBy_cons (codeAny_handlers_test ?_) (fun z => by cases z)
    have name : ∀ {Q : Value → Shared → Prop} {E : Value → Shared → Prop}, Q c { s' with heap := h } → wpAny (model X.prog X.w) (X.A.mark (some (.ref a))) (eval (.Name x p) X.env) Q E { s' with heap := h } := by
      intro Q E k
      rcases named with ⟨gl, dbg, own | ⟨noOwn, blt, nn⟩⟩
      · exact ld_glob (X := X.suite a ((a, oe) :: (X.pn ++ pins))) S gl own k dbg
      · exact ld_blt (X := X.suite a ((a, oe) :: (X.pn ++ pins))) S gl noOwn blt k nn dbg
    refine name ((PySem.W.exm_one (M := model X.prog X.w) T.inv.kIn tyA e).here ?_)
    match yes, w1, w2 with
    | false, _, w2 => exact ih (w2 rfl)
    | true, w1, _ =>
      refine codeAny_handlers_suite_as (HandSPX.lands_againZ T.fly fun h4 fly4 up4 => ?_)
      have J4 : Inv X pins σ H { s' with heap := h4 } := T.before.landed T.nb fly4.1 (T.up.trans up4) T.os T.ag
      obtain ⟨oe4, vs4, hoe4, hz4, hda4⟩ := fly4.there
      refine store_ok (X := X.suite a ((a, oe4) :: (X.pn ++ pins))) (v := .ref a) (J4.suite hoe4 hda4 T.free T.notL T.notF) nd slot (Or.inl loc) rfl (fun s5 S5 => ?_) (Or.inr loc)
      have gone : ∀ {τ : L2.St} {G : Hp} {s6 : Shared} {R : Shared → Prop}, Inv (X.suite a ((a, oe4) :: (X.pn ++ pins))) [] τ G s6 → (∀ s7, Inv X pins (τ.set i none) G s7 → R s7) →
          wpAny (model X.prog X.w) X.A (do bindName X.env n .none; unbindBehindTheSuite X.env n q) (fun _ s7 => R s7) X.xe s6 := fun S6 k => gone_ok (S6.unsuite ok) nd slot loc k
      refine wpAny_mono ((suite a oe4 cls d (X.pn ++ pins) hz4 ⟨_, hda4⟩).run [] s5 _ H _ S5 (w1 rfl a T.free)) (fun f s6 r => ?_) (fun _ _ z => False.elim z)
      match f, r with
      | .next, ⟨_, _, S6, k⟩ => exact gone S6 fun _ J => ⟨_, _, J, k⟩
      | .brk, ⟨_, _, S6, k⟩ => exact gone S6 fun _ J => ⟨_, _, J, k⟩
      | .cont, ⟨_, _, S6, k⟩ => exact gone S6 fun _ J => ⟨_, _, J, k⟩
      | .ret u, ⟨_, _, _, S6, rel, k⟩ => exact gone S6 fun _ J => ⟨_, _, _, J, rel, k⟩
end

/-- try: body / except X as n: .. / except Y as m: .. -/
theorem ps_try_names {X : Cx} {body : List Stmt} {hd : ExceptHandler} {hds : List ExceptHandler} {l : List (Value × Nat × Suite)} {pos : Pos} {tb : WX → TS} {W₀ : WX}
    (hstk : X.stack = X.env :: X.outer) (hfrm : X.env.frame = some X.env.locals) (nd : X.N.Nodup) (tk : Takes X W₀)
    (hb : ∀ (W : WX) (pn : List (Addr × Obj)) (xe : Value → Shared → Prop), Takes (X.tr pn xe) W → PassesOwn (model X.prog X.w) X.A X.env xe → PSs (X.tr pn xe) body (tb W))
    (C : Clauses X (hd :: hds) l) : PS X (.Try body (hd :: hds) [] [] pos) (fun D σ H => tb (wClauses X.K W₀ D l) D σ H) := by
  constructor
  intro pins s σ H D I t
  have ok := I.ok
  have frames : X.A.frames = some (X.env :: X.outer) := by rw [ok.frames, hstk]
  refine wpAny_Try_except (wpAny_mono ((hb (wClauses X.K W₀ D l) (X.pn ++ pins) _ (fun u s' xx => ?_) PassesOwn.looking).run [] s σ H D (I.toTry _) t) (fun f s1 r => ?_) (fun _ _ z => z))
  · obtain ⟨a, B, sI, pins', τ, G, cls, d, rfl, I', nb, up, sky, na, os, ag, w⟩ := xx
    have J : Inv X pins τ G sI := I'.ofTry ok
    rw [show (X.tr (X.pn ++ pins) _).stack = X.env :: X.outer from hstk] at sky
    refine Sky.land Zc.steady frames hfrm sky fun h3 fly3 up3 => ?_
    obtain ⟨oe, vs, hoe, -, hda⟩ := fly3.there
    have notFrame : a ∉ frs (X.env :: X.outer) := fun m => by
      obtain ⟨_, o', e', no⟩ := fly3.2.2.1.mem m
      rw [hoe] at e'
      cases e'
      exact no _ hda
    have T : Landed X pins τ G cls d a B sI s' h3 :=
      { fly := fly3, inv := J.landed nb fly3.1 (up.trans up3) os ag, before := J, nb := nb, up := up.trans up3, free := na, os := os, ag := ag
        notL := fun z => notFrame (List.mem_filterMap.mpr ⟨X.env, List.mem_cons_self, by rw [hfrm, z]⟩)
        notF := fun m => by
          obtain ⟨e, he, k⟩ := List.mem_filterMap.mp m
          exact notFrame (List.mem_filterMap.mpr ⟨e, List.mem_cons_of_mem _ he, k⟩) }
    exact T.clauses hstk hfrm nd tk C w
  · match f, r with
    | .next, ⟨_, _, J, k⟩ => exact wpAny_execs_nil ⟨_, _, J.ofTry ok, k⟩
    | .brk, ⟨_, _, J, k⟩ => exact ⟨_, _, J.ofTry ok, k⟩
    | .cont, ⟨_, _, J, k⟩ => exact ⟨_, _, J.ofTry ok, k⟩
    | .ret u, ⟨_, _, _, J, rel, k⟩ => exact ⟨_, _, _, J.ofTry ok, rel, k⟩
end Own

namespace Own
open PySem PySem.W PySem.Calls PyProof.Rows
section
variable {prog : Program} {w : World} {A : Around} {E : Value → Shared → Prop} {st : Shared} {K : Frag} {a C : Addr} {oa : Obj} {od : Option Obj}

/-- a data descriptor is found ahead of the object's own dict -/
theorem found_data {name : Str} {at_ g : Value} (known : (clsIn K C).isSome = true) (f : findIn K (.ref C) name = some (some at_)) (sp : specialIn K at_ "__get__" = some (some g)) (tk : takesIn K at_ = some true) :
    findObj K C od name = some (.bind g at_) := by
  cases hc : clsIn K C with
  | none => rw [hc] at known; cases known
  | some cd =>
    unfold findObj
    simp [hc, f, sp, tk]

/-- err.__class__, as isinstance asks it -/
theorem class_asked {Q : Option Value → Shared → Prop} (T : L2.ExcC K C) (kin : K.In st.heap) (I : PySem.W.InstAt st.heap a oa C od) (k : Q (some (.ref C)) { st with toks := st.toks + 1 }) :
    wpAny (model prog w) A (getAttr? (.ref a) "__class__") Q E st := by
  have fnd : findObj K C od "__class__" = some (.bind (.builtin "getset_descriptor.__get__") (.builtin "object.__class__")) := by
    refine found_data ?_ T.ha T.hn T.ht
    obtain ⟨cd, e, -⟩ := any_some T.hd
    rw [e]
    rfl
  obtain ⟨hh, gs, dr, tk, os⟩ := st
  have lTy := I.type (M := model prog w)
  have lGa := looks_findIn (M := model prog w) kin T.hg
  have lGt := looks_findIn (M := model prog w) kin T.hk
  have lFi := looks_find (M := model prog w) kin I fnd
  have isExc : Looks (model prog w) hh (isInstance (.ref a) (.type "BaseException")) true := lTy.andThen (looks_subIn kin T.hs)
  have no1 : (false && onTheHeap (Value.builtin "BaseException.__getattribute__")) = false := by decide +kernel
  have no2 : (onTheHeap (Value.ref C) && Value.builtin "BaseException.__getattribute__" == Value.builtin "object.__getattribute__") = false := by
    rw [show (Value.builtin "BaseException.__getattribute__" == Value.builtin "object.__getattribute__") = false by decide +kernel]
    cases onTheHeap (Value.ref C) <;> rfl
  unfold getAttr? getAttrBy? getAttrBy
  refine wpAny_bind (wpAny_mkText (wpAny_bind (wpAny_attempt (wpAny_holding (wpAny_bind (lTy.at (wpAny_bind (lGa.at ?_))))))))
  show wpAny _ _ (if (onTheHeap (Value.ref C) && Value.builtin "BaseException.__getattribute__" == Value.builtin "object.__getattribute__") = true then _ else _) _ _ _
  rw [no2]
  rw [if_neg Bool.false_ne_true]
  unfold getAttrByItsOwn hookBefore
  refine wpAny_bind ?_
  have onH : onTheHeap (Value.ref C) = true := rfl
  rw [if_pos onH]
  refine lGt.at (wpAny_bind (wpAny_attempt (wpAny_holding ?_)))
  unfold callGetattribute
  rw [no1]
  rw [if_neg Bool.false_ne_true]
  unfold boundAndCalled
  rw [PySem.F.excAttr_ValueError.ga.bind (.ref a)]
  refine wpAny_bind (wpAny_pure ?_)
  show wpAny _ _ (call (.builtin "BaseException.__getattribute__") [.ref a, .str "__class__" tk]) _ _ _
  have plain := PySem.F.excAttr_ValueError.ga.plain
  refine wpAny_call (codeAny_call_builtin plain PySem.F.entry_bexc_ga (@check_slot (model prog w) _ _ ⟨hh, gs, dr, tk + 1, os⟩ "BaseException.__getattribute__" "BaseException" "__getattribute__" (.ref a) [.str "__class__" tk] [] _ (by decide +kernel) (by decide +kernel) isExc (PySem.F.args_bexc_ga (.ref a) (.str "__class__" tk)) ?_))
  unfold Builtin.«object.__getattribute__»
  refine wpAny_bind (wpAny_of_eq (a := ((Value.ref a : Value), [Value.str "__class__" tk])) (by first | rfl | (simp only [slotArgs]; rfl)) ?_)
  refine wpAny_bind (wpAny_pure (wpAny_bind (lTy.at (wpAny_bind (lFi.at ?_)))))
  show wpAny _ _ (holding [Value.builtin "object.__class__"] (call (.builtin "getset_descriptor.__get__") [.builtin "object.__class__", .ref a, .ref C]) >>= ret) _ _ _
  refine wpAny_bind (wpAny_holding (wpAny_call (class_get (s := ⟨hh, gs, dr, tk + 1, os⟩) (ox := oa) (od := od) kin I T.hm (wpAny_pure ?_))))
  show wpAny _ _ (handedOut (.ref C)) _ _ _
  rw [handedOut_of (v := .ref C) rfl]
  first | exact wpAny_pure (wpAny_pure k) | exact wpAny_pure k | exact wpAny_pure (wpAny_bind (wpAny_pure (wpAny_pure k)))

theorem kit_err (T : L2.ExcC K C) : KitX K (.ref a) (.ref C) (fun h => PySem.W.InstAt h a oa C od) := by
  have cls : ∃ cls dct cd sl, K.lookup C = some ⟨cls, dct, .cls cd, sl⟩ := by
    obtain ⟨cd, e, -⟩ := any_some T.hd
    unfold clsIn at e
    split at e
    · rename_i c' d' cd' sl' z
      exact ⟨_, _, _, _, z⟩
    · cases e
  obtain ⟨_, _, _, _, e⟩ := cls
  refine ⟨fun _ _ _ I => I.type, fun _ _ kin _ => ?_, fun h tp dd its n sl kin t => ?_, fun kin I k => class_asked T kin I k⟩
  · intro A' Q' E' s' keep q
    unfold isType loadHead
    exact wpAny_bind (wpAny_loadPart (keep _ _ (kin _ _ e)) (wpAny_pure q))
  · cases hb : (Value.ref C == Value.ref tp) with
    | false => rfl
    | true =>
      have same : C = tp := Value.ref.inj (beq_iff_eq.mp hb)
      rw [← same] at t
      have z := (kin _ _ e).symm.trans t
      cases z
end
end Own

namespace Own
open PySem L2 PySem.Spec PyProof.Rows
/-- isinstance(e, c) within the suite that caught e, an exception of the class at C with or without a dict -/
def rErrIs (K : PySem.W.Frag) (C a : Addr) (cls : Value) (d : Option Addr) : List V → Hp → VK → Prop := fun xs H Q =>
  cls = .ref C ∧ ∃ (c : V) (u : Value) (b : Bool), xs = [.ref a, c] ∧ ClsV c u ∧ PySem.W.kitOne K (.ref C) u = some b ∧ (∀ dd, d = some dd → ∃ fs, H dd = some (.xd fs)) ∧ Q (.bl b) H
theorem call_err_is {X : Cx} {K : PySem.W.Frag} {a C : Addr} {oe : Obj} {cls : Value} {d : Option Addr} {pn : List (Addr × Obj)} (T : ExcC K C) (z : Zc cls d oe) (fields : ∃ vs, oe.data = .fields vs) (hK : X.K = K := by rfl) :
    CallR (X.suite a ((a, oe) :: pn)) (.builtin "isinstance") (rErrIs K C a cls d) := by
  intro pins s σ H xs us Q I r h
  obtain ⟨rfl, c, u, b, rfl, cv, kit, dict, q⟩ := h
  subst hK
  obtain ⟨u1, u2, rfl, r1, r2⟩ := vals2 r
  cases (show u1 = Value.ref a from r1)
  have e2 := cv.eq r2
  subst e2
  obtain ⟨here, -⟩ := I.pin (a, oe) (List.mem_append.mpr (.inl List.mem_cons_self))
  obtain ⟨vs, hvs⟩ := fields
  have J : ∃ od, PySem.W.InstAt s.heap a oe C od := by
    obtain ⟨oc, odc, oda, osl⟩ := oe
    obtain ⟨z1, z2⟩ := z
    dsimp only at z1 z2 hvs
    subst z1 z2 hvs
    cases odc with
    | none => exact ⟨none, here, rfl, rfl, trivial⟩
    | some dd =>
      obtain ⟨fs, hfs⟩ := dict dd rfl
      obtain ⟨mA, ns, -⟩ := (show ObjOk X.prog X.w H s.heap dd (.xd fs) from I.hok dd _ hfs)
      obtain ⟨o, ho, -⟩ := lookIn_ns ns
      exact ⟨some o, here, rfl, rfl, ho⟩
  obtain ⟨od, J⟩ := J
  exact PySem.W.kia_one (kit_err T) I.kIn J kit (fun z => nomatch z) fun tk => ⟨.bl b, H, I.kept (t' := tk) fun _ _ z => z, rfl, q⟩
end Own

namespace Own
open PySem L2 PySem.Spec PyProof.Rows
/-- a set as it is made -/
abbrev noSet (w : World) : Obj := { cls := .type "set", dict := none, data := .set #[] 0 (.fresh 0 0 (!w.params.followText "set-order")) }
section
variable {P : Program} {w : World} {A : Around} {E : Value → Shared → Prop} {s : Shared}
/-- set(xs), xs a list of areI: its members are those of xs, its table rises -/
theorem set_of_list {l : Addr} {items : Array Value} (ns : List Int) {Q : Value → Shared → Prop} (calm : A.handled = none) (isl : s.heap.IsList l items) (areI : IntsAre items.toList ns) (room : ns.length + 1 < scanBound)
    (k : ∀ (g : Heap) (tk c : Nat), SetR w g s.heap.objs.size (fun j => decide (j ∈ ns)) c → c ≤ ns.length → (∀ b o, s.heap.get? b = some o → g.get? b = some o) → Q (.ref s.heap.objs.size) { s with heap := g, toks := tk }) :
    wpAny (model P w) A (call (.type "set") [.ref l]) Q E s := by
  have sz : items.size = ns.length := by
    have q := IntsAre.length areI
    rw [Array.length_toList] at q
    exact q
  obtain ⟨c, tl, mro⟩ := F.called_set.mro
  have z1 := F.called_set.made
  have z2 := F.called_set.sub
  refine wpAny_call (codeAny_of_tree ?_)
  show wpAny _ _ (callAny (.type "set") _) _ _ _
  refine wpAny_pure ⟨Code.quiet_builtin _ (by decide +kernel), codeAny_builtin F.entry_type_call ?_⟩
  rw [Around.under_plain (weight_type_call_type "set" [.ref l] []) rfl]
  have z3 := F.called_set.notType
  have z4 := F.called_set.canCreate
  have z5 := F.typeCall_set_1 (.ref l)
  repeat (any_goals (first | assumption | wp_step))
  refine codeAny_mono (code_set_led1 (.ref l) (E := E) (Q₁ := fun ob s₁ => ob = .ref s.heap.objs.size ∧ s₁ = { s with heap := s.heap.push (noSet w) }) ⟨rfl, rfl⟩) fun r s₁ hr => ?_
  match r, hr with
  | .error e, hr => exact hr
  | .ok (.ret ob), hr =>
    obtain ⟨rfl, rfl⟩ := hr
    have here : (s.heap.push (noSet w)).get? s.heap.objs.size = some (noSet w) := Heap.get?_push_size _ rfl
    have typ : Shared.TypeIs { s with heap := s.heap.push (noSet w) } (.ref s.heap.objs.size) "set" := ⟨_, here, rfl⟩
    have y1 := F.called_set.init.lookup
    have y2 := F.called_set.init.bind (.ref s.heap.objs.size)
    repeat (any_goals (first | assumption | wp_step))
    refine codeAny_mono (codeAny_call_builtin (R := wants (fun r s₂ => r = .none ∧ ∃ g tk c, s₂ = { s with heap := g, toks := tk } ∧ SetR w g s.heap.objs.size (fun j => decide (j ∈ ns)) c ∧ c ≤ ns.length ∧ (∀ b o, s.heap.get? b = some o → g.get? b = some o)) E)
      F.called_set.init.plain F.entry_set_init (check_set_init_1 typ ?_)) fun r₂ s₂ hr₂ => ?_
    · obtain ⟨ol, hol, hcl, nl, hdl⟩ := isl
      obtain ⟨ocls, odict, odata, oslots⟩ := ol
      simp only at hcl hdl
      subst hcl
      subst hdl
      have at1 : (s.heap.push (noSet w)).get? l = some { cls := .type "list", dict := odict, data := .seq items nl, slots := oslots } := Heap.get?_push_of_some _ hol
      have x1 := F.sub_list_set
      have x2 := F.sub_list_frozenset
      have x3 : (Value.type "list" == Value.type "dict") = false := by decide
      have isl1 : (s.heap.push (noSet w)).IsList l items := ⟨_, at1, rfl, nl, rfl⟩
      unfold Builtin.«set.__init__» noKeywords Builtin.Frozenset.updateFrom
      generalize hPI : pyIter = PI
      wp_walk
      subst hPI
      refine wpAny_pyIter_list isl1 ?_
      refine wpAny_bind (wpAny_runValue ?_)
      have lt : l < s.heap.objs.size := Heap.lt_size hol
      have calm3 : A.in1.in1.in1.handled = none := by simp [calm]
      have ne1 : l ≠ (s.heap.push (noSet w)).objs.size := by
        rw [Heap.size_push]
        exact Nat.ne_of_lt (Nat.lt_succ_of_lt lt)
      have ne2 : s.heap.objs.size ∉ [(s.heap.push (noSet w)).objs.size, l] := by
        rw [Heap.size_push]
        simp only [List.mem_cons, List.mem_singleton, List.not_mem_nil, or_false, not_or]
        exact ⟨Nat.ne_of_lt (Nat.lt_succ_self _), Nat.ne_of_gt lt⟩
      have vals : ∀ (i : Nat) (v : Value), items[i]? = some v → ∃ k t, ns[i]? = some k ∧ v = .int k t := by
        intro i v hv
        have hi : i < ns.length := by
          rw [← sz]
          exact (Array.getElem?_eq_some_iff.mp hv).1
        obtain ⟨t, e⟩ := PyProof.Rows.IntsAre.int_at areI i v (by rw [Array.getElem?_toList]; exact hv)
        refine ⟨ns[i], t, List.getElem?_eq_getElem hi, ?_⟩
        rw [e]
        rw [List.getD_eq_getElem?_getD, List.getElem?_eq_getElem hi] <;> rfl
      refine set_update_ints ((Walks.list calm3 _ l ne1 items).toS) s.heap.objs.size ne2 ns sz room vals (items.size - 0) 0 _ (by omega) (Nat.zero_le _) ⟨⟨_, Heap.get?_push_size _ rfl, rfl, rfl⟩, (isl1.push _)⟩ ?start ?fin
      case start =>
        have still : ((s.heap.push (noSet w)).push { cls := .type "list_iterator", data := .fields #[.ref l, .int 0 0] }).get? s.heap.objs.size = some (noSet w) := Heap.get?_push_of_some _ here
        exact ⟨0, Nat.le_refl 0, setR_new_at still⟩
      case fin =>
        rintro ⟨g, g2, d', tk', os'⟩ c' mv hc hS
        have eg : g2 = s.gens := mv.gens
        have ed : d' = s.drawn := mv.drawn
        have eo : os' = s.os := mv.os
        subst eg ed eo
        show wpAny _ _ _ _ _ _
        refine wpAny_pure ?_
        show wpAny _ _ (ret Value.none) _ _ _
        rw [sz] at hc
        refine wpAny_pure ⟨rfl, g, tk', c', rfl, hS, hc, fun b o e => ?_⟩
        have lb : b < s.heap.objs.size := Heap.lt_size e
        refine mv.heap b o ?_ (Heap.get?_push_of_some _ (Heap.get?_push_of_some _ e))
        rw [Heap.size_push]
        simp only [List.mem_cons, List.mem_singleton, List.not_mem_nil, or_false, not_or]
        exact ⟨Nat.ne_of_lt lb, Nat.ne_of_lt (Nat.lt_succ_of_lt lb)⟩
    · match r₂, hr₂ with
      | .error e, hr₂ => exact hr₂
      | .ok (.ret r), hr₂ =>
        obtain ⟨rfl, g, tk, c', rfl, hS, hc, keep⟩ := hr₂
        repeat (any_goals (first | assumption | wp_step))
        exact k _ _ _ hS hc keep
      | .ok .next, hr₂ => exact hr₂.elim
      | .ok .brk, hr₂ => exact hr₂.elim
      | .ok .cont, hr₂ => exact hr₂.elim
  | .ok .next, hr => exact hr.elim
  | .ok .brk, hr => exact hr.elim
  | .ok .cont, hr => exact hr.elim

/-- sorted of a set of areI, any number of members -/
theorem sorted_of_set {a : Addr} {S : Int → Bool} {n : Nat} {Q : Value → Shared → Prop} (R : SetR w s.heap a S n) (calm : A.handled = none) (small : n ≤ sizeLine)
    (k : ∀ s' p (out : Array Value) (c : Nat) (ns : List Int), (∀ b o, s.heap.get? b = some o → s'.heap.get? b = some o) → s'.gens = s.gens → s'.os = s.os → s.heap.objs.size ≤ p →
      s'.heap.get? p = some (seqObj "list" out c) → IntsAre out.toList ns → ns.Pairwise (· < ·) → (∀ k, k ∈ ns ↔ S k = true) → ns.length = n → Q (.ref p) s') :
    wpAny (model P w) A (call (.builtin "sorted") [.ref a]) Q E s := by
  obtain ⟨o, es, ep, t, ho, hex, hd, good, nd, mem, bound, fit, num, ris, led⟩ := R
  refine Calls.call_function_entry kind_sorted plain_sorted entry_sorted (args_sorted1 _) ?_
  unfold Builtin.«sorted»
  refine wpAny_bind (m := checkCount "sorted" 1 1 _) (wpAny_pure ?_)
  refine wpAny_bind (collect_set (A := A.in1) calm ⟨o, ho, hex.1, hd⟩ fit bound ris led fun s1 vs keep grow gens os perm => ?_)
  have len : vs.length = n := by
    rw [perm.length_eq, List.length_map, Array.length_toList]
    exact num
  have areI : IntsAre vs (vs.map Builtin.Re.reRawOf) := ints_of vs fun v hv => by
    obtain ⟨e, he, q⟩ := List.mem_map.mp (perm.mem_iff.mp hv)
    obtain ⟨k, tk, h1, -⟩ := good e he
    rw [← q]
    exact ⟨k, tk, h1⟩
  have permK : (vs.map Builtin.Re.reRawOf).Perm (es.toList.map keyOf) := by
    have q := perm.map Builtin.Re.reRawOf
    rw [List.map_map] at q
    exact q
  have lenOk : vs.length ≤ sizeLine := by rw [len]; exact small
  refine wpAny_bind (wpAny_newList ?_ lenOk)
  have laid : (s1.heap.push (seqObj "list" vs.toArray 0)).get? s1.heap.objs.size = some (seqObj "list" vs.toArray 0) := Heap.get?_push_size _ rfl
  refine wpAny_bind (wpAny_holding (wpAny_call_entry slot_list_sort ⟨_, laid, rfl⟩ entry_list_sort (SrtO.list_sort_ord SrtO.swo_int laid lenOk (fun h2 => SrtO.ints_sortable areI h2) fun out o1 o2 => ⟨_, rfl, ?_⟩) (args_list_sort _)))
  obtain ⟨i1, i2, i3⟩ := SrtO.ints_out areI o1 o2
  obtain ⟨c, hc⟩ := sortedHeap_at (vs := vs) (out := out.toArray) laid
  have pn := i2.trans permK
  refine wpAny_pure ⟨_, rfl, k _ s1.heap.objs.size out.toArray c _ (fun b u e => ?_) gens os grow hc i1 (lt_of_le_nodup _ i3 (pn.nodup_iff.mpr nd)) (fun k => by rw [pn.mem_iff, ← mem k]) ?_⟩
  · have q := keep b u e
    have lt := Heap.lt_size q
    show (sortedHeap (s1.heap.push (seqObj "list" vs.toArray 0)) s1.heap.objs.size vs out.toArray).get? b = some u
    rw [sortedHeap_old (Nat.ne_of_lt lt) (by rw [size_push']; exact Nat.lt_succ_of_lt lt)]
    exact Heap.get?_push_of_some _ q
  · rw [pn.length_eq, List.length_map, Array.length_toList]
    exact num
end

/-- sorted(set(xs)), xs a list of areI -/
def tSortedSet (K : PySem.W.Frag) (ta : TE) : TE := fun σ H Q => ta σ H fun x H1 => ∃ (l : Addr) (ns : List Int), x = .ref l ∧ SqL K H1 l (ns.map V.int) ∧ ns.length ≤ 4000 ∧
  ∀ (ms : List Int) (p : Addr), ms.Pairwise (· < ·) → (∀ k, k ∈ ms ↔ k ∈ ns) → H1 p = none → Q (.ref p) (upd H1 p (.lst (ms.map V.int)))
theorem pe_sortedSet {X : Cx} {a : Expr} {ta : TE} {p p2 q pos : Pos} (hg : Gl X "sorted") (hm : X.mg "sorted" = none) (hg2 : Gl X "set") (hm2 : X.mg "set" = none) (ha : PE X a ta) (hc : X.calm = true := by rfl)
    (na : starEach [a] X.env = (false, eval a X.env) :: starEach [] X.env := by rfl) : PE X (.Call (.Name "sorted" p) [.Call (.Name "set" p2) [a] [] q] [] pos) (tSortedSet X.K ta) := by
  constructor
  intro pins s σ H Q I h
  refine Call_ (ld_blt I hg hm (show bootBuiltins ("sorted" : Str) = some (.builtin "sorted") by decide +kernel) ?_)
  refine PyProof.Rows.callWith_builtin1 (PyProof.Rows.args_cons ?_ rfl) rfl rfl
  refine Call_ (ld_blt I hg2 hm2 boot_set ?_)
  refine PyProof.Rows.callWith_type1 (PyProof.Rows.args_cons (thn (ha.run pins s σ H _ I h) fun v s1 ⟨x, H1, I1, r1, q1⟩ => PyProof.Rows.args_nil ?_) na) na rfl
  obtain ⟨l, ns, rfl, sq, small, q1⟩ := q1
  cases r1
  obtain ⟨its, rel, pl, -⟩ := I1.list sq
  have calm := I1.ok.hd hc
  refine set_of_list ns calm pl.isList (by simpa using rel.«ints») (by unfold scanBound; omega) fun g tk c R hcn keep => PyProof.Rows.args_nil ?_
  have I2 : Inv X pins σ H1 { s1 with heap := g, toks := tk } := I1.kept keep
  refine sorted_of_set R calm (by rw [sizeLine_eq]; omega) fun s' p out c2 ms keep2 gens os hp hget areI sorted mem len => ?_
  have hlen : (ms.map V.int).length ≤ sizeLine := by
    rw [List.length_map, len, sizeLine_eq]
    omega
  have hn : H1 p = none := I2.hok.fresh hp
  obtain ⟨g2, gs2, dr2, tk2, os2⟩ := s'
  have e1 : gs2 = s1.gens := gens
  have e2 : os2 = s1.os := os
  subst e1 e2
  have J : L2.Inv X pins σ (upd H1 p (.lst (ms.map V.int))) ⟨g2, s1.gens, dr2, tk2, s1.os⟩ := by
    refine L2.Inv.call (s := { s1 with heap := g, toks := tk }) (ch := []) (g' := s1.gens) (d' := dr2) (t' := tk2) (h' := g2) I2 (Un.laid keep2 hp hn) (I2.hok.laid keep2 hp ?_) I2.bare (fun _ z => nomatch z)
    exact ⟨hlen, out.toList, c2, vals_of_ints areI, hget⟩
  refine ⟨.ref p, _, J, rfl, q1 ms p sorted (fun k => ?_) hn⟩
  rw [mem k]
  simp
end Own

namespace Own
open PySem L2
/-- all that was tracked stands as it stood; one object may have changed -/
def Ext (H H' : Hp) : Prop := ∀ b o, H b = some o → H' b = some o
theorem Ext.refl (H : Hp) : Ext H H := fun _ _ h => h
theorem Ext.trans {H H1 H2 : Hp} (a : Ext H H1) (b : Ext H1 H2) : Ext H H2 := fun c o h => b c o (a c o h)
theorem Ext.new {H : Hp} {p : Addr} {o : HO} (h : H p = none) : Ext H (upd H p o) := fun b u e => by
  rw [upd_ne (ne_of_none e h)]
  exact e
theorem Ext.free {H H' : Hp} (e : Ext H H') {l : Addr} (h : H' l = Option.none) : H l = Option.none := by
  cases q : H l with
  | none => rfl
  | some o => rw [e l o q] at h; cases h
theorem Ext.mut {H H' : Hp} {p : Addr} {o : HO} (e : Ext H H') (h : H p = none) : Ext H (upd H' p o) := fun b u hb => by
  rw [upd_ne (ne_of_none hb h)]
  exact e b u hb

/-- __init__(self, f): self.f = f, of an own error -/
def spInit1 (C : Addr) (f : Str) : Sp := fun vs H Q _ => ∃ (a : Addr) (v : V), vs = [.ref a, v] ∧ H a = some (exo a C none) ∧ ∀ d, H d = none → d ≠ a → Q .non (upd (upd H d (exd d [(f, v)])) a (exo a C (some d)))
/-- raise C(e): the reading in short -/
theorem raised1 {C : Addr} {f : Str} {ta : TA} {σ : L2.St} {H : Hp} {Q : XK} (hta : ∀ R R' : List V → Hp → Prop, (∀ vs G, R vs G → R' vs G) → ta σ H R → ta σ H R')
    (h : ta σ H fun vs H1 => ∃ v, vs = [v] ∧ ∀ d, H1 d = none → Q (.ref C) (some d) (upd H1 d (.xd [(f, v)]))) : tMkO C (spInit1 C f) [] ta σ H Q := by
  refine hta _ _ (fun vs H1 ⟨v, e, k⟩ => ?_) h
  subst e
  refine ⟨by show 1 ≤ 1000; decide, fun a ha => ⟨a, v, rfl, upd_same, fun d hd hda => ⟨rfl, d, [(f, v)], upd_same, ?_, ?_, ?_⟩⟩⟩
  · rw [upd_ne hda, upd_same]
  · rw [upd_ne hda] at hd
    exact hd
  · rw [upd_ne hda] at hd
    have e : upd (del (upd (upd (upd H1 a (exo a C none)) d (exd d [(f, v)])) a (exo a C (some d))) a) d (.xd [(f, v)]) = upd H1 d (.xd [(f, v)]) := by
      funext b
      by_cases h1 : b = d
      · subst h1
        rw [upd_same, upd_same]
      · rw [upd_ne h1, upd_ne h1]
        by_cases h2 : b = a
        · subst h2
          rw [del_same]
          exact ha.symm
        · rw [del_ne h2, upd_ne h2, upd_ne h1, upd_ne h2]
    rw [e]
    exact k d hd
theorem passE {P : Program} {w : World} {K : PySem.W.Frag} {mg : Str → Option Value} {base : Heap} {N : List Str} {qual : Str} {sc : Scope} {f : Addr} {cd : Value} {A : Around} {outer : List Env} {s : Shared} {H : Hp} {E : XK} :
    Passes (L2.CX P w) (cxOf (L2.CX P w) P w K mg base N qual sc f cd A outer s H E) E :=
  passes_call (W := fun cls d _ H => E cls d H) (takes_of rfl rfl rfl rfl) (fun _ _ _ _ h => h)
end Own

namespace Own
open PySem L2 PySem.Spec PyProof.Rows
/-- a name that holds a list or a tuple, walked -/
def iSeqV (K : PySem.W.Frag) (i : Nat) : TI := fun σ H R => ∃ a, σ[i]? = some (some (.ref a)) ∧ ∃ J : It, ((∃ xs, SqL K H a xs) ∧ J = Itl K a ∨ (∃ xs, SqT K H a xs) ∧ J = Itt K a) ∧ R J H
theorem pi_seqv {X : Cx} {tg : Expr} (i : Nat) {x : Str} {pos : Pos} (hN : X.N[i]? = some x := by rfl) (hv : Vis X.env.scope x := by first | exact Or.inl rfl | exact Or.inr (Or.inl rfl) | exact Or.inr (Or.inr rfl)) (hd : (x == ("__debug__" : Str)) = false := by decide)
    (hcd : (x == ("__classdict__" : Str)) = false := by decide) : PI X tg (.Name x pos) (iSeqV X.K i) := by
  constructor
  intro pins s σ H R I h
  obtain ⟨a, e, J, (⟨q, rfl⟩ | ⟨q, rfl⟩), k⟩ := h
  · exact (pi_list (pv i hN hv hd hcd)).run pins s σ H R I ⟨_, e, a, rfl, q, k⟩
  · exact (pi_tup (pv i hN hv hd hcd)).run pins s σ H R I ⟨_, e, a, rfl, q, k⟩
/-- a list or a tuple of xs at a -/
def Sq (H : Hp) (a : Addr) (xs : List V) : Prop := H a = some (.lst xs) ∨ H a = some (.tup xs)
theorem Sq.ext {H H' : Hp} {a : Addr} {xs : List V} (e : Ext H H') (h : Sq H a xs) : Sq H' a xs := h.imp (e _ _) (e _ _)
theorem Sq.walk {K : PySem.W.Frag} {H : Hp} {a : Addr} {xs : List V} (h : Sq H a xs) : ∃ (J : It) (o : HO), ((∃ xs, SqL K H a xs) ∧ J = Itl K a ∨ (∃ xs, SqT K H a xs) ∧ J = Itt K a) ∧ H a = some o ∧ Walk J xs.length (fun H' => H' a = some o) (YAt xs) := by
  rcases h with h | h
  · exact ⟨_, _, .inl ⟨⟨xs, SqL.of h⟩, rfl⟩, h, walk_list.mono (fun H' e => SqL.of e) fun _ _ _ _ _ _ y => y⟩
  · exact ⟨_, _, .inr ⟨⟨xs, SqT.of h⟩, rfl⟩, h, walk_tup.mono (fun H' e => SqT.of e) fun _ _ _ _ _ _ y => y⟩
/-- [f(x) for x in xs], nothing that stood is changed -/
theorem lc_map {J : It} {G : Hp → Prop} {xs : List V} (wk : Walk J xs.length G (YAt xs)) {te : TE} {vs : List Nat} {j : Nat} {σ : L2.St} {H1 : Hp} (f : V → V) (hG : ∀ H', Ext H1 H' → G H') (hz : xs.length < 40000)
    (hw : ∀ x, wipe ((wipe σ vs).set j (some x)) vs = wipe σ vs)
    (he : ∀ (i : Nat) (x : V) (H' : Hp), xs[i]? = some x → Ext H1 H' → ∀ Q : VK, (∀ H2, Ext H' H2 → Q (f x) H2) → te ((wipe σ vs).set j (some x)) H' Q) {Q : VK}
    (q : ∀ D H', H1 D = none → Ext H1 H' → H' D = some (.lst (xs.map f)) → Q (.ref D) H') : ∀ D, H1 D = none → ∃ W : Nat → Nat → Hp → Prop, (∃ m, W 0 m (upd H1 D (.lst []))) ∧ ∀ i m H, W i m H →
      (J.stop i H ∧ Q (.ref D) H) ∨ (J.go i H ∧ ∃ Nx : Hp → Prop, (∀ H', Nx H' → ∃ m', m' < m ∧ W (i + 1) m' H') ∧ ∀ x H', J.yld i H x H' → gName j x (wipe σ vs) H' fun σ2 H2 => wipe σ2 vs = wipe σ vs ∧ tYes σ2 H2 fun b H3 =>
        if b = true then te σ2 H3 fun y H4 => ∃ acc, H4 D = some (.lst acc) ∧ acc.length < sizeLine ∧ Nx (upd H4 D (.lst (acc ++ [y]))) else Nx H3) := by
  intro D hD
  refine lc_it wk (fun i H => Ext H1 H ∧ H D = some (.lst ((xs.take i).map f))) ⟨Ext.new hD, upd_same⟩ (fun i H _ p => hG H p.1) (fun i x H H' hi p y => ?_) (fun H p => ?_)
  · obtain ⟨e, hx⟩ := y
    subst e
    refine ⟨hw x, ?_⟩
    refine he i x H' hx p.1 (fun y H4 => ∃ acc, H4 D = some (.lst acc) ∧ acc.length < sizeLine ∧ Ext H1 (upd H4 D (.lst (acc ++ [y]))) ∧ (upd H4 D (.lst (acc ++ [y]))) D = some (.lst ((xs.take (i + 1)).map f))) fun H2 e2 => ⟨_, e2 _ _ p.2, ?_, (p.1.trans e2).mut hD, ?_⟩
    · rw [List.length_map, List.length_take, sizeLine_eq]
      omega
    · rw [upd_same, List.take_add_one, hx, List.map_append]
      rfl
  · have e := p.2
    rw [List.take_length] at e
    exact q D H hD p.1 e
/-- a comprehension whose source stands still and whose element changes nothing that stood -/
theorem tLc_map {wi : TI} {xs : List V} {te : TE} {vs : List Nat} {j : Nat} {σ : L2.St} {H : Hp} {Q : VK} (f : V → V)
    (hwi : ∀ R : It → Hp → Prop, (∀ J G H1, Ext H H1 → Walk J xs.length G (YAt xs) → (∀ H', Ext H1 H' → G H') → R J H1) → wi σ H R) (hz : xs.length < 40000)
    (hw : ∀ x, wipe ((wipe σ vs).set j (some x)) vs = wipe σ vs)
    (he : ∀ (i : Nat) (x : V) (H' : Hp), xs[i]? = some x → Ext H H' → ∀ Q : VK, (∀ H2, Ext H' H2 → Q (f x) H2) → te ((wipe σ vs).set j (some x)) H' Q)
    (q : ∀ D H', H D = none → Ext H H' → H' D = some (.lst (xs.map f)) → Q (.ref D) H') : tLc wi (gName j) tYes te vs σ H Q := by
  refine hwi _ fun J G H1 e wk hG => lc_map wk f hG hz hw (fun i x H' hx e' => he i x H' hx (e.trans e')) fun D H' hD e' hl => q D H' (e.free hD) (e.trans e') hl
theorem wi_seqv {K : PySem.W.Frag} {i : Nat} {a : Addr} {xs : List V} {σ : L2.St} {H : Hp} (hv : σ[i]? = some (some (.ref a))) (h : Sq H a xs) :
    ∀ R : It → Hp → Prop, (∀ J G H1, Ext H H1 → Walk J xs.length G (YAt xs) → (∀ H', Ext H1 H' → G H') → R J H1) → iSeqV K i σ H R := fun R k => by
  obtain ⟨J, o, hJ, ho, wk⟩ := Sq.walk (K := K) h
  exact ⟨a, hv, J, hJ, k J _ H (Ext.refl H) wk fun H' e => e _ _ ho⟩
theorem wi_list {K : PySem.W.Frag} {tl : TE} {xs : List V} {σ : L2.St} {H : Hp} (h : ∀ Q : VK, (∀ a H1, Ext H H1 → H1 a = some (.lst xs) → Q (.ref a) H1) → tl σ H Q) :
    ∀ R : It → Hp → Prop, (∀ J G H1, Ext H H1 → Walk J xs.length G (YAt xs) → (∀ H', Ext H1 H' → G H') → R J H1) → iList K tl σ H R := fun R k =>
  h _ fun a H1 e ha => ⟨a, rfl, ⟨xs, SqL.of ha⟩, k _ _ H1 e (walk_list (K := K) (a := a) (xs := xs)) fun H' e' => SqL.of (e' _ _ ha)⟩
theorem wi_tup {K : PySem.W.Frag} {tl : TE} {xs : List V} {σ : L2.St} {H : Hp} (h : ∀ Q : VK, (∀ a H1, Ext H H1 → H1 a = some (.tup xs) → Q (.ref a) H1) → tl σ H Q) :
    ∀ R : It → Hp → Prop, (∀ J G H1, Ext H H1 → Walk J xs.length G (YAt xs) → (∀ H', Ext H1 H' → G H') → R J H1) → iTup K tl σ H R := fun R k =>
  h _ fun a H1 e ha => ⟨a, rfl, ⟨xs, SqT.of ha⟩, k _ _ H1 e (walk_tup (K := K) (a := a) (xs := xs)) fun H' e' => SqT.of (e' _ _ ha)⟩
/-! readings opened from the left -/
section
variable {D : Ends} {σ : L2.St} {H : Hp} {Q : VK} {te ta tb : TE} {tr tas : TA} {QA : List V → Hp → Prop} {t u : TS} {g : TG} {sp : Sp} {dvs : List V} {E : XK} {r : R2}
theorem r_next (h : D.nx σ H) : tNext D σ H := h
theorem r_ret (h : te σ H D.rt) : tRet te D σ H := h
theorem r_seq (h : t { D with nx := u D } σ H) : tSeq t u D σ H := h
theorem r_asg (h : te σ H fun x H1 => g x σ H1 D.nx) : tAsg te g D σ H := h
theorem r_drop (h : te σ H fun _ H1 => D.nx σ H1) : tDrop te D σ H := h
theorem r_call (h : tas σ H fun vs H1 => sp (vs ++ dvs) H1 Q E) : tCall sp dvs E tas σ H Q := h
theorem r_cons (h : ta σ H fun x H1 => tr σ H1 fun xs H2 => QA (x :: xs) H2) : tCons ta tr σ H QA := h
theorem r_nil (h : QA [] H) : tNil σ H QA := h
theorem r_cb {rr : List V → Hp → VK → Prop} (h : tas σ H fun vs H1 => rr vs H1 Q) : tCB rr tas σ H Q := h
theorem r_op (h : ta σ H fun x H1 => tb σ H1 fun y H2 => r x y H2 Q) : tOp r ta tb σ H Q := h
theorem r_var {i : Nat} {v : V} (e : σ[i]? = some (some v)) (h : Q v H) : tVar i σ H Q := ⟨v, e, h⟩
theorem r_sset {K : PySem.W.Frag} (h : ta σ H fun x H1 => ∃ (l : Addr) (ns : List Int), x = .ref l ∧ SqL K H1 l (ns.map V.int) ∧ ns.length ≤ 4000 ∧ ∀ (ms : List Int) (p : Addr), ms.Pairwise (· < ·) → (∀ k, k ∈ ms ↔ k ∈ ns) → H1 p = none → Q (.ref p) (upd H1 p (.lst (ms.map V.int)))) : tSortedSet K ta σ H Q := h
theorem r_c {v : V} (h : Q v H) : tC v σ H Q := h
end
end Own

namespace Own
open PySem L2
def rLen (K : PySem.W.Frag) : List V → Hp → VK → Prop := fun xs H Q => ∃ p ys, xs = [.ref p] ∧ (SqL K H p ys ∨ SqT K H p ys) ∧ Q (.int ((ys.length : Nat) : Int)) H
theorem call_lenS {X : Cx} : CallR X (.builtin "len") (rLen X.K) := call_len_seq
def rInt : List V → Hp → VK → Prop := fun xs H Q => (∃ i, xs = [.int i] ∧ Q (.int i) H) ∨ ∃ k, xs = [.bl k] ∧ Q (.int (if k then 1 else 0)) H
theorem call_intS {X : Cx} : CallR X (.type "int") rInt := call_int1
def rAbs : List V → Hp → VK → Prop := fun xs H Q => ∃ i, xs = [.int i] ∧ Q (.int (if i < 0 then -i else i)) H
theorem call_absS {X : Cx} : CallR X (.builtin "abs") rAbs := call_abs
def rMaxS : List V → Hp → VK → Prop := fun xs H Q => ∃ i j, xs = [.int i, .int j] ∧ Q (.int (if j > i then j else i)) H
theorem call_maxS {X : Cx} (hc : X.calm = true) : CallR X (.builtin "max") rMaxS := call_max2 hc
/-! the same rules with the written part said outright, so that they serve within a comprehension too -/
section
variable (K : PySem.W.Frag) {X : Cx}
theorem call_lenC (h : X.K = K := by rfl) : CallR X (.builtin "len") (rLen K) := h ▸ call_lenS
theorem ix_listC (h : X.K = K := by rfl) : IxR X (rIxL K) := h ▸ ix_list
theorem ix_tupC (h : X.K = K := by rfl) : IxR X (rIxT K) := h ▸ ix_tup
theorem sl_listC (h : X.K = K := by rfl) : SlR X (rSlL K) := h ▸ sl_list
def rTuple (K : PySem.W.Frag) : List V → Hp → VK → Prop := fun xs H Q => ∃ p ys, xs = [.ref p] ∧ ((SqL K H p ys ∧ ∀ l, H l = none → Q (.ref l) (upd H l (.tup ys))) ∨ (SqT K H p ys ∧ Q (.ref p) H))
theorem call_tupleC (h : X.K = K := by rfl) : CallR X (.type "tuple") (rTuple K) := h ▸ call_tuple_of
def rList (K : PySem.W.Frag) : List V → Hp → VK → Prop := fun xs H Q => ∃ p ys, xs = [.ref p] ∧ (SqL K H p ys ∨ SqT K H p ys) ∧ ∀ l, H l = none → Q (.ref l) (upd H l (.lst ys))
theorem call_listC (h : X.K = K := by rfl) : CallR X (.type "list") (rList K) := h ▸ call_list_of
theorem call_isiC (h : X.K = K := by rfl) : CallR X (.builtin "isinstance") (rIsi K) := h ▸ call_isi
theorem call_isiTC (h : X.K = K := by rfl) : CallR X (.builtin "isinstance") (rIsiT K) := h ▸ call_isiT
theorem cr_allC (hc : X.calm = true) (h : X.K = K := by rfl) : CallR X (.builtin "all") (rAll K) := h ▸ cr_all hc
theorem op_inC (h : X.K = K := by rfl) : OpR X (compareOp .In) (rIn K false) := h ▸ op_in_seq
theorem op_notInC (h : X.K = K := by rfl) : OpR X (compareOp .NotIn) (rIn K true) := h ▸ op_notIn_seq
def rIxQ (K : PySem.W.Frag) : R2 := fun x y H Q => ∃ p xs i v, x = .ref p ∧ y = .int i ∧ Sq H p xs ∧ atI xs i = some v ∧ Q v H
theorem ix_seqC (h : X.K = K := by rfl) : IxR X (rIxQ K) := by
  intro value slice pins s σ H x y v u Q I rx ry r hs
  obtain ⟨p, xs, i, z, ex, ey, q | q, e, k⟩ := r
  · exact ix_list value slice pins s σ H x y v u Q I rx ry ⟨p, xs, i, z, ex, ey, SqL.of q, e, k⟩ hs
  · exact ix_tup value slice pins s σ H x y v u Q I rx ry ⟨p, xs, i, z, ex, ey, SqT.of q, e, k⟩ hs
theorem op_eqDC (hu : X.A.units + 64 < cLine) (h : X.K = K := by rfl) : OpR X (compareOp .Eq) (rEqD K) := h ▸ op_eqD hu
theorem op_neDC (hu : X.A.units + 64 < cLine) (h : X.K = K := by rfl) : OpR X (compareOp .NotEq) (rNeD K) := h ▸ op_neD hu
def tTruth (K : PySem.W.Frag) (ta : TE) : TT := fun σ H Q => ta σ H fun x H' => ∃ k, TruV K x H' k ∧ Q k H'
theorem pt_truthC {a : Expr} {ta : TE} (ha : PE X a ta) (he : ∀ whole, isTrue a X.env whole = (do let v ← whole; standAt a.pos; holding [v] (truthy v)) := by intro _; rfl) (h : X.K = K := by rfl) : PT X a (tTruth K ta) := h ▸ pt_truth ha he
end
/-- a comprehension's turns -/
def LcIn (J : It) (g : TG) (tt : TT) (te : TE) (vs : List Nat) (σ : L2.St) (Q : VK) (G : Hp) (D : Addr) : Prop :=
  ∃ W : Nat → Nat → Hp → Prop, (∃ m, W 0 m (upd G D (.lst []))) ∧ ∀ i m H, W i m H →
    (J.stop i H ∧ Q (.ref D) H) ∨
    (J.go i H ∧ ∃ Nx : Hp → Prop, (∀ H', Nx H' → ∃ m', m' < m ∧ W (i + 1) m' H') ∧
      ∀ x H', J.yld i H x H' → g x (wipe σ vs) H' fun τ H2 => wipe τ vs = wipe σ vs ∧
        tt τ H2 fun b H3 => if b = true then te τ H3 fun y H4 => ∃ acc, H4 D = some (.lst acc) ∧ acc.length < sizeLine ∧ Nx (upd H4 D (.lst (acc ++ [y]))) else Nx H3)
/-- a for's turns -/
def FoIn (J : It) (g : TG) (tb : TS) (D : Ends) (σ : L2.St) (G : Hp) : Prop :=
  ∃ W : Nat → Nat → L2.St → Hp → Prop, (∃ m, W 0 m σ G) ∧ ∀ i m τ H, W i m τ H →
    (J.stop i H ∧ D.nx τ H) ∨
    (J.go i H ∧ ∃ N : L2.St → Hp → Prop, (∀ τ' H', N τ' H' → ∃ m', m' < m ∧ W (i + 1) m' τ' H') ∧
      ∀ x H', J.yld i H x H' → g x τ H' fun τ2 H2 => tb { D with nx := N, ct := N, bk := D.nx } τ2 H2)
theorem foin_range {n : Nat} {lo : Int} {g : TG} {tb : TS} {D : Ends} {σ : L2.St} {H : Hp} (Pv : Nat → L2.St → Hp → Prop) (h0 : Pv 0 σ H)
    (hs : ∀ i τ G, i < n → Pv i τ G → g (.int (lo + (i : Nat))) τ G fun τ2 G2 => tb { D with nx := Pv (i + 1), ct := Pv (i + 1), bk := D.nx } τ2 G2) (hd : ∀ τ G, Pv n τ G → D.nx τ G) : FoIn (Itr lo n) g tb D σ H := for_range Pv h0 hs hd
theorem foin_it {J : It} {n : Nat} {GG : Hp → Prop} {Y : Nat → Hp → V → Hp → Prop} (wk : Walk J n GG Y) {g : TG} {tb : TS} {D : Ends} {σ : L2.St} {H : Hp} (Pv : Nat → L2.St → Hp → Prop) (h0 : Pv 0 σ H) (hG : ∀ i τ H, i ≤ n → Pv i τ H → GG H)
    (hs : ∀ i x τ G G', i < n → Pv i τ G → Y i G x G' → g x τ G' fun τ2 G2 => tb { D with nx := Pv (i + 1), ct := Pv (i + 1), bk := D.nx } τ2 G2) (hd : ∀ τ G, Pv n τ G → D.nx τ G) : FoIn J g tb D σ H := for_it wk Pv h0 hG hs hd
theorem lcin_range {n : Nat} {lo : Int} {g : TG} {tt : TT} {te : TE} {vs : List Nat} {σ : L2.St} {Q : VK} {G : Hp} {D : Addr} (Pv : Nat → Hp → Prop) (h0 : Pv 0 (upd G D (.lst [])))
    (hs : ∀ i H, i < n → Pv i H → g (.int (lo + (i : Nat))) (wipe σ vs) H fun τ H2 => wipe τ vs = wipe σ vs ∧ tt τ H2 fun b H3 =>
      if b = true then te τ H3 fun y H4 => ∃ acc, H4 D = some (.lst acc) ∧ acc.length < sizeLine ∧ Pv (i + 1) (upd H4 D (.lst (acc ++ [y]))) else Pv (i + 1) H3) (hd : ∀ H, Pv n H → Q (.ref D) H) : LcIn (Itr lo n) g tt te vs σ Q G D := lc_range Pv h0 hs hd
theorem lcin_map {J : It} {GG : Hp → Prop} {xs : List V} (wk : Walk J xs.length GG (YAt xs)) {te : TE} {vs : List Nat} {j : Nat} {σ : L2.St} {H1 : Hp} (f : V → V) (hG : ∀ H', Ext H1 H' → GG H') (hz : xs.length < 40000)
    (hw : ∀ x, wipe ((wipe σ vs).set j (some x)) vs = wipe σ vs)
    (he : ∀ (i : Nat) (x : V) (H' : Hp), xs[i]? = some x → Ext H1 H' → ∀ Q : VK, (∀ H2, Ext H' H2 → Q (f x) H2) → te ((wipe σ vs).set j (some x)) H' Q) {Q : VK}
    (q : ∀ D H', H1 D = none → Ext H1 H' → H' D = some (.lst (xs.map f)) → Q (.ref D) H') {D : Addr} (hD : H1 D = none) : LcIn J (gName j) tYes te vs σ Q H1 D := lc_map wk f hG hz hw he q D hD
section
variable {D : Ends} {σ : L2.St} {H : Hp} {Q : VK} {te ta tb tc : TE} {t u : TS} {g : TG} {r : R2} {c d : TT} {QT : Bool → Hp → Prop} {K : PySem.W.Frag} {QG : L2.St → Hp → Prop}
theorem r_cut (Mid : L2.St → Hp → Prop) (h : t { D with nx := Mid } σ H) (k : ∀ σ' H', Mid σ' H' → u D σ' H') : Evl.tCut t u D σ H := ⟨Mid, h, k⟩
theorem r_lc {wi : TI} {g : TG} {tt : TT} {vs : List Nat} (h : wi σ H fun J H1 => ∀ D, H1 D = none → LcIn J g tt te vs σ Q H1 D) : tLc wi g tt te vs σ H Q := h
theorem r_for {wi : TI} {tb : TS} (h : wi σ H fun J H1 => FoIn J g tb D σ H1) : tFor wi g tb D σ H := h
theorem r_rng1 {tas : TA} {R : It → Hp → Prop} (h : tas σ H fun vs H1 => ∃ j : Int, vs = [.int j] ∧ (-(2 ^ 62) ≤ j ∧ j < 2 ^ 62) ∧ R (Itr 0 j.toNat) H1) : iRng1 tas σ H R := by
  have mono : ∀ (QA QB : List V → Hp → Prop), QA = QB → tas σ H QA → tas σ H QB := fun _ _ e => by rw [e]; exact id
  refine mono _ _ ?_ h
  funext vs H1
  exact propext ⟨fun ⟨j, e, ⟨a, b⟩, r⟩ => ⟨j, e, a, b, r⟩, fun ⟨j, e, a, b, r⟩ => ⟨j, e, ⟨a, b⟩, r⟩⟩
theorem r_i1 {j : Int} {R : Int → Prop} (hb : -(2 ^ 62) ≤ j ∧ j < 2 ^ 62) (h : R j) : ∃ j' : Int, [V.int j] = [V.int j'] ∧ (-(2 ^ 62) ≤ j' ∧ j' < 2 ^ 62) ∧ R j' := ⟨j, rfl, hb, h⟩
theorem r_seqv {i : Nat} {a : Addr} {xs : List V} {R : It → Hp → Prop} (e : σ[i]? = some (some (.ref a))) (h : Sq H a xs) (k : ∀ J GG, Walk J xs.length GG (YAt xs) → (∀ H', Ext H H' → GG H') → R J H) : iSeqV K i σ H R := by
  obtain ⟨J, o, hJ, ho, wk⟩ := Sq.walk (K := K) h
  exact ⟨a, e, J, hJ, k J _ wk fun H' e => e _ _ ho⟩
theorem r_truth (h : ta σ H fun x H' => ∃ k, TruV K x H' k ∧ QT k H') : tTruth K ta σ H QT := h
theorem r_truI {i : Int} {R : Bool → Prop} (h : R (i != 0)) : ∃ k, TruV K (.int i) H k ∧ R k := ⟨_, rfl, h⟩
theorem r_tupL {p : Addr} {xs : List V} (h : SqL K H p xs) (q : ∀ l, H l = none → Q (.ref l) (upd H l (.tup xs))) : rTuple K [.ref p] H Q := ⟨p, xs, rfl, .inl ⟨h, q⟩⟩
theorem r_tupT {p : Addr} {xs : List V} (h : SqT K H p xs) (q : Q (.ref p) H) : rTuple K [.ref p] H Q := ⟨p, xs, rfl, .inr ⟨h, q⟩⟩
theorem r_listL {p : Addr} {xs : List V} (h : SqL K H p xs) (q : ∀ l, H l = none → Q (.ref l) (upd H l (.lst xs))) : rList K [.ref p] H Q := ⟨p, xs, rfl, .inl h, q⟩
theorem r_sliceV {te : TE} {tl th : TO} {rr : V → Option Int → Option Int → Hp → VK → Prop} (h : te σ H fun x H1 => tl σ H1 fun l H2 => th σ H2 fun u H3 => rr x l u H3 Q) : tSl rr te tl th σ H Q := h
theorem r_isi {x c : V} {t u : Value} {b : Bool} (k : ClsV c u) (ty : TyX K H x t) (e : PySem.W.kitOne K t u = some b) (q : Q (.bl b) H) : rIsi K [x, c] H Q := ⟨x, c, t, u, b, rfl, k, ty, e, q⟩
theorem iteNF {A B : Prop} (h : A) : if (!false) = true then A else B := h
theorem iteNT {A B : Prop} (h : B) : if (!true) = true then A else B := h
theorem r_yes (h : QT true H) : tYes σ H QT := h
theorem r_ixQ {p : Addr} {xs : List V} {i : Int} {v : V} (h : Sq H p xs) (e : atI xs i = some v) (q : Q v H) : rIxQ K (.ref p) (.int i) H Q := ⟨p, xs, i, v, rfl, rfl, h, e, q⟩
theorem r_lenQ {p : Addr} {xs : List V} (h : Sq H p xs) (q : Q (.int ((xs.length : Nat) : Int)) H) : rLen K [.ref p] H Q := ⟨p, xs, rfl, h.imp SqL.of SqT.of, q⟩
theorem r_chain {r r' : R2} (h : ta σ H fun x H1 => tb σ H1 fun y H2 => r x y H2 fun z H3 => ∃ k, z = .bl k ∧ (if k = true then tc σ H3 fun u H4 => r' y u H4 Q else Q (.bl false) H3)) : tChain r r' ta tb tc σ H Q := h
theorem r_name {i : Nat} {v : V} (h : QG (σ.set i (some v)) H) : gName i v σ H QG := h
theorem r_I0 {gg : Int → Int → V} {i j : Int} (h : Q (gg i j) H) : rI0 gg (.int i) (.int j) H Q := ⟨i, j, rfl, rfl, h⟩
theorem r_I {C : Int → Int → Prop} {gg : Int → Int → V} {i j : Int} (hc : C i j) (h : Q (gg i j) H) : rI C gg (.int i) (.int j) H Q := ⟨i, j, rfl, rfl, hc, h⟩
theorem r_un {rr : V → Hp → VK → Prop} (h : ta σ H fun x H1 => rr x H1 Q) : tUn rr ta σ H Q := h
theorem r_U {gg : Int → V} {i : Int} (h : Q (gg i) H) : rU gg (.int i) H Q := ⟨i, rfl, h⟩
theorem r_if (h : c σ H fun b H1 => if b = true then t D σ H1 else u D σ H1) : tIfS c t u D σ H := h
theorem r_ifE (h : c σ H fun b H1 => if b = true then ta σ H1 Q else tb σ H1 Q) : tIf c ta tb σ H Q := h
theorem r_test (h : te σ H fun x H' => ∃ k, x = .bl k ∧ QT k H') : tTest te σ H QT := h
theorem r_B (h : te σ H fun x H' => ∃ k, x = .bl k ∧ QT k H') : tB te σ H QT := h
theorem r_bl {b : Bool} {R : Bool → Prop} (h : R b) : ∃ k, V.bl b = V.bl k ∧ R k := ⟨b, rfl, h⟩
theorem r_not (h : c σ H fun b H1 => QT (!b) H1) : tNot c σ H QT := h
theorem r_and (h : c σ H fun b H1 => if b = true then d σ H1 QT else QT false H1) : tAnd c d σ H QT := h
theorem r_or (h : c σ H fun b H1 => if b = true then QT true H1 else d σ H1 QT) : tOr c d σ H QT := h
theorem r_andV (h : ta σ H fun x H1 => ∃ k, x = .bl k ∧ if k = true then tb σ H1 Q else Q (.bl false) H1) : tAndV ta tb σ H Q := h
theorem r_orV (h : ta σ H fun x H1 => ∃ k, x = .bl k ∧ if k = true then Q (.bl true) H1 else tb σ H1 Q) : tOrV ta tb σ H Q := h
theorem r_notV (h : ta σ H fun x H1 => ∃ k, x = .bl k ∧ Q (.bl (!k)) H1) : tNotV ta σ H Q := h
theorem r_eqI {i j : Int} (h : Q (.bl (decide (i = j))) H) : rEq (.int i) (.int j) H Q := ⟨rfl, by
  have e : decide (V.int i = V.int j) = decide (i = j) := by
    by_cases z : i = j
    · subst z
      simp
    · rw [decide_eq_false z, decide_eq_false (fun q => z (V.int.inj q))]
  rw [e]
  exact h⟩
theorem r_neI {i j : Int} (h : Q (.bl (!decide (i = j))) H) : rNe (.int i) (.int j) H Q := ⟨rfl, by
  have e : decide (V.int i = V.int j) = decide (i = j) := by
    by_cases z : i = j
    · subst z
      simp
    · rw [decide_eq_false z, decide_eq_false (fun q => z (V.int.inj q))]
  rw [e]
  exact h⟩
theorem r_ixL {p : Addr} {xs : List V} {i : Int} {v : V} (h : SqL K H p xs) (e : atI xs i = some v) (q : Q v H) : rIxL K (.ref p) (.int i) H Q := ⟨p, xs, i, v, rfl, rfl, h, e, q⟩
theorem r_ixT {p : Addr} {xs : List V} {i : Int} {v : V} (h : SqT K H p xs) (e : atI xs i = some v) (q : Q v H) : rIxT K (.ref p) (.int i) H Q := ⟨p, xs, i, v, rfl, rfl, h, e, q⟩
theorem r_tup {tas : TA} (h : tas σ H fun xs H1 => xs.length ≤ sizeLine ∧ ∀ p, H1 p = none → Q (.ref p) (upd H1 p (.tup xs))) : tTup tas σ H Q := h
theorem r_lst {tas : TA} (h : tas σ H fun xs H1 => xs.length ≤ sizeLine ∧ ∀ p, H1 p = none → Q (.ref p) (upd H1 p (.lst xs))) : tLst tas σ H Q := h
theorem r_sub {to ti : TE} {ts : V → V → V → Hp → (Hp → Prop) → Prop} {v : V} (h : to σ H fun o H1 => ti σ H1 fun i H2 => ts o i v H2 fun H3 => QG σ H3) : gSub to ti ts v σ H QG := h
theorem r_setL {p : Addr} {xs : List V} {k : Int} {j : Nat} {v : V} {R : Hp → Prop} (h : H p = some (.lst xs)) (e : ixN xs.length k = some j) (q : R (upd H p (.lst (xs.set j v)))) : rSetL (.ref p) (.int k) v H R := ⟨p, xs, k, j, rfl, rfl, h, e, q⟩
theorem r_int1 {R : Int → Prop} {S : Prop} {i : Int} (h : R i) : (∃ j, [V.int i] = [V.int j] ∧ R j) ∨ S := .inl ⟨i, rfl, h⟩
theorem r_int1b {R : Bool → Prop} {S : Prop} {k : Bool} (h : R k) : S ∨ ∃ j, [V.bl k] = [V.bl j] ∧ R j := .inr ⟨k, rfl, h⟩
theorem r_one {R : Int → Prop} {i : Int} (h : R i) : ∃ j, [V.int i] = [V.int j] ∧ R j := ⟨i, rfl, h⟩
theorem r_lenL {p : Addr} {xs : List V} (h : SqL K H p xs) (q : Q (.int ((xs.length : Nat) : Int)) H) : rLen K [.ref p] H Q := ⟨p, xs, rfl, .inl h, q⟩
theorem r_lenT {p : Addr} {xs : List V} (h : SqT K H p xs) (q : Q (.int ((xs.length : Nat) : Int)) H) : rLen K [.ref p] H Q := ⟨p, xs, rfl, .inr h, q⟩
theorem r_intI {i : Int} (q : Q (.int i) H) : rInt [.int i] H Q := .inl ⟨i, rfl, q⟩
theorem r_intB {b : Bool} (q : Q (.int (if b = true then 1 else 0)) H) : rInt [.bl b] H Q := .inr ⟨b, rfl, q⟩
theorem r_abs {i : Int} (q : Q (.int (if i < 0 then -i else i)) H) : rAbs [.int i] H Q := ⟨i, rfl, q⟩
theorem r_max {i j : Int} (q : Q (.int (if j > i then j else i)) H) : rMaxS [.int i, .int j] H Q := ⟨i, j, rfl, q⟩
theorem r_two {R : Int → Int → Prop} {i j : Int} (h : R i j) : ∃ a b, [V.int i, V.int j] = [V.int a, V.int b] ∧ R a b := ⟨i, j, rfl, h⟩
theorem r_size {n : Nat} {R : Prop} (hn : n ≤ 1000) (h : R) : n ≤ sizeLine ∧ R := ⟨Nat.le_trans hn (by rw [sizeLine_eq]; decide), h⟩
/-- all but what stands at p -/
def wo (p : Addr) (H : Hp) : Hp := fun b => if b = p then none else H b
theorem wo_ne {p b : Addr} {H : Hp} (h : b ≠ p) : wo p H b = H b := if_neg h
theorem wo_some {p b : Addr} {H : Hp} {o : HO} (h : wo p H b = some o) : b ≠ p ∧ H b = some o := by
  unfold wo at h
  by_cases e : b = p
  · rw [if_pos e] at h; cases h
  · rw [if_neg e] at h; exact ⟨e, h⟩
theorem wo_upd {p : Addr} {H : Hp} {o : HO} : Ext (wo p H) (wo p (upd H p o)) := fun b u e => by
  obtain ⟨ne, e⟩ := wo_some e
  rw [wo_ne ne, upd_ne ne]
  exact e
theorem wo_ext {p : Addr} {H H' : Hp} (e : Ext H H') : Ext (wo p H) (wo p H') := fun b u h => by
  obtain ⟨ne, h⟩ := wo_some h
  rw [wo_ne ne]
  exact e b u h
theorem wo_back {p : Addr} {H : Hp} : Ext (wo p H) H := fun b u h => (wo_some h).2
end
end Own

namespace Own
open PySem L2
section
variable {D : Ends} {σ : L2.St} {H : Hp} {Q : VK} {K : PySem.W.Frag}
theorem lookup1 (f : Str) (v : V) : List.lookup f [(f, v)] = some v := by simp [List.lookup]
theorem r_xf {i : Nat} {a C d : Addr} {f : Str} {v : V} (e : σ[i]? = some (some (.ref a))) (hd : H d = some (.xd [(f, v)])) (h : Q v H) : tXf a (.ref C) (some d) C f (tVar i) σ H Q :=
  ⟨.ref a, e, rfl, rfl, d, [(f, v)], v, rfl, hd, lookup1 f v, h⟩
theorem r_errIs {a C d C' : Addr} {b : Bool} {fs : List (Str × V)} (k : PySem.W.kitOne K (.ref C) (.ref C') = some b) (hd : H d = some (.xd fs)) (h : Q (.bl b) H) : rErrIs K C a (.ref C) (some d) [.ref a, .ref C'] H Q :=
  ⟨rfl, .ref C', .ref C', b, rfl, .own C', k, (fun dd e => by cases e; exact ⟨fs, hd⟩), h⟩
theorem r_errIsT {a C d : Addr} {t : String} {b : Bool} {fs : List (Str × V)} (k : PySem.W.kitOne K (.ref C) (.type t) = some b) (hd : H d = some (.xd fs)) (h : Q (.bl b) H) : rErrIs K C a (.ref C) (some d) [.ref a, .ty t] H Q :=
  ⟨rfl, .ty t, .type t, b, rfl, .ty t, k, (fun dd e => by cases e; exact ⟨fs, hd⟩), h⟩
theorem r_cutnx {i : Nat} (h : D.nx (σ.set i none) H) : (cut D i).nx σ H := h
theorem r_cutrt {i : Nat} {v : V} (h : D.rt v H) : (cut D i).rt v H := h
theorem r_app {l : Addr} {xs : List V} {i : Nat} {v : V} {te : TE} (e : σ[i]? = some (some (.ref l))) (h : H l = some (.lst xs)) (hz : xs.length < sizeLine) (hv : ∀ QV : VK, QV v H → te σ H QV) (k : D.nx σ (upd H l (.lst (xs ++ [v])))) :
    tDrop (tBM K "list" rAppend (tVar i) (tCons te tNil)) D σ H := ⟨_, e, .inl ⟨rfl, xs, SqL.of h⟩, hv _ ⟨l, xs, v, rfl, rfl, h, hz, k⟩⟩
theorem r_callS {sp : Sp} {E : L2.St → XK} {tas : TA} (h : tas σ H fun vs H1 => sp vs H1 Q (E σ)) : tCallS sp E tas σ H Q := h
end
end Own

namespace Own
open PySem L2
theorem kit_any {K : PySem.W.Frag} {C S : Addr} {b : Bool} (ic : PySem.W.isClsIn K S = true) (tc : PySem.W.typeIn K (.ref S) = some (.type "type")) (h : PySem.W.subIn K (.ref C) (.ref S) = some b) (hs : PySem.W.subIn K (.ref C) (.ref C) = some true) :
    PySem.W.kitOne K (.ref C) (.ref S) = some b := by
  unfold PySem.W.kitOne
  by_cases e : (Value.ref C == Value.ref S) = true
  · have same : C = S := Value.ref.inj (beq_iff_eq.mp e)
    subst same
    rw [if_pos e, ← hs, h]
  · rw [if_neg e]
    have two : ((PySem.W.clsIn K S).isSome && PySem.W.typeIn K (.ref S) == some (.type "type")) = true := by
      have ic' : (PySem.W.clsIn K S).isSome = true := ic
      rw [ic', tc]
      rfl
    exact (if_pos two).trans h
theorem kit_ve {K : PySem.W.Frag} {C : Addr} (h : PySem.W.subIn K (.ref C) (.type "ValueError") = some true) : PySem.W.kitOne K (.ref C) (.type "ValueError") = some true := by
  unfold PySem.W.kitOne
  rw [if_neg (by intro z; cases beq_iff_eq.mp z)]
  show (if PySem.W.kitMeta "ValueError" = true then PySem.W.subIn K (.ref C) (.type "ValueError") else none) = some true
  rw [if_pos (show PySem.W.kitMeta "ValueError" = true by decide +kernel)]
  exact h
end Own

namespace Own
open PySem PySem.W PySem.Calls PyProof.Rows PySem.HandSPX
section
variable {prog : Program} {w : World} {A : Around} {E : Value → Shared → Prop} {R : Result → Shared → Prop} {M : Model} {hp : Heap} {gs : Array GenState} {dr : Drawn} {tk : Nat} {os : OsState}
variable {nm qn : Str} {C N : Addr} {bs bm bmB : List Value} {hd : Bool} {sn : List Str} {sub : List Value} {ab : Bool} {col : Option Bool} {dd : Option Addr} {k0 k1 k2 k3 k5 : Option Value} {B newId initId : String} {kw : List (Str × Value)}

theorem check_newK (F : ExcBaseFacts B newId initId bmB) (same : ∀ X : String, bm.contains (.type X) = bmB.contains (.type X)) {rest : List Value} {Q : Unit → Shared → Prop}
    (hC : hp.get? C = some (excClassObj nm qn C N bs bm hd sn sub ab col dd k0 k1 k2 k3 k5 newId)) (q : Q () ⟨hp, gs, dr, tk, os⟩) : wpAny M A (checkBuiltinCall newId ⟨.ref C :: rest, kw⟩) Q E ⟨hp, gs, dr, tk, os⟩ := by
  have has : (Value.ref C :: bm).contains (.type B) = true := by rw [List.contains_cons, same, F.hasB, Bool.or_true]
  have ns := F.noStar
  simp only [checkBuiltinCall, F.newKind, F.newSplit, F.newRow]
  repeat (first | refine wpAny_loadPart_at hC ?_ | (refine wpAny_isSubtype_exc hC ?_; rw [has]) | refine wpAny_staticBase_exc hC ?_ | refine wpAny_madeBy_exc hC ?_ | simp only [bne_self_eq_false, Bool.false_eq_true, if_false] | wp_step)
  exact q
/-- the object that BaseException.__new__ lays: a tuple of the places' values, then the exception -/
abbrev bornAt (hp : Heap) (C : Addr) (rest : List Value) : Heap := (hp.push (PySem.W.kdv_tup rest)).push (excO C hp.objs.size)
theorem newK (F : ExcBaseFacts B newId initId bmB) (same : ∀ X : String, bm.contains (.type X) = bmB.contains (.type X)) {rest : List Value}
    (hC : hp.get? C = some (excClassObj nm qn C N bs bm hd sn sub ab col dd k0 k1 k2 k3 k5 newId)) (k : R (.ok (.ret (.ref (hp.objs.size + 1)))) ⟨bornAt hp C rest, gs, dr, tk, os⟩) (short : rest.length ≤ sizeLine) :
    codeAny (model prog w) A (.builtin newId ⟨.ref C :: rest, kw⟩) R ⟨hp, gs, dr, tk, os⟩ := by
  have fe := F.ends
  have in1 : (Value.ref C :: bm).contains (.type B) = true := by rw [List.contains_cons, same, F.hasB, Bool.or_true]
  have in2 : (Value.ref C :: bm).contains (.type "AttributeError") = false := by rw [List.contains_cons, same, F.noAttr]; rfl
  have in3 : (Value.ref C :: bm).contains (.type "NameError") = false := by rw [List.contains_cons, same, F.noName]; rfl
  refine codeAny_builtinAt F.entry ?_
  unfold Builtin.«BaseException.__new__»
  refine PySem.wpAt_bind ?_
  show PySem.wpAt _ _ _ (stack >>= _) _ _ _
  refine PySem.wpAt_bind (PySem.wpAt_stack fun p below => PySem.wpAt_of_wpAny ?_)
  wp_walk
  refine PySem.wpAt_of_wpAny ?_
  rw [F.owner]
  repeat (first | with_reducible refine wpAny_madeHere_exc F.canon hC ?_ | with_reducible refine wpAny_loadPart_at hC ?_ | (with_reducible refine wpAny_isSubtype_exc hC ?_; first | rw [in1] | rw [in2] | rw [in3]) | wp_step)
  show R _ _
  rw [Heap.size_push]
  exact k
theorem type_callK (F : ExcBaseFacts B newId initId bmB) (same : ∀ X : String, bm.contains (.type X) = bmB.contains (.type X)) {rest : List Value} {fI : Addr} {Q : Fin → Shared → Prop}
    (hC : hp.get? C = some (excClassObj nm qn C N bs bm hd sn sub ab col dd k0 k1 k2 k3 k5 newId))
    (look : W.Looks (model prog w) hp (typeLookup (.ref C) "__init__") (some (.ref fI))) (bnd : ∀ self, W.Looks (model prog w) hp (bindSpecial (.ref fI) self) (.ref fI, [self])) (short : rest.length ≤ sizeLine)
    (k : codeAny (model prog w) A (.call (.ref fI) ⟨.ref (hp.objs.size + 1) :: rest, kw⟩)
      (fun r s' => match r with | .ok (.ret v) => v = .none ∧ Q (.done (.ret (.ref (hp.objs.size + 1)))) s' | .ok _ => False | .error e => E e s') ⟨bornAt hp C rest, gs, dr, tk, os⟩) :
    wpAny (model prog w) A (Builtin.«type.__call__» ⟨.ref C :: rest, kw⟩) Q E ⟨hp, gs, dr, tk, os⟩ := by
  repeat (first | with_reducible refine wpAny_loadPart_at hC ?_ | with_reducible refine wpAny_madeBy_exc hC ?_ | wp_step)
  refine codeAny_call_builtin_code (Code.quiet_builtin _ F.quiet) (check_newK F same hC ?_)
  refine newK F same hC ?_ short
  show wpAny _ _ _ _ _ _
  have keep : ∀ b o, hp.get? b = some o → (bornAt hp C rest).get? b = some o := fun b o e => Heap.get?_push_of_some _ (Heap.get?_push_of_some _ e)
  have hC2 := keep _ _ hC
  have here : (bornAt hp C rest).get? (hp.objs.size + 1) = some (excO C hp.objs.size) := by heap_get
  have inC : (Value.ref C :: bm).contains (.ref C) = true := by simp
  have l1 := look.keeps keep
  have l2 := (bnd (.ref (hp.objs.size + 1))).keeps keep
  unfold isInstance
  repeat (first | with_reducible refine wpAny_loadPart_at here ?_ | (with_reducible refine wpAny_isSubtype_exc hC2 ?_; rw [inC]) | wp_step)
  show wpAny _ _ (typeLookup (.ref C) _) _ _ _
  refine l1.at ?_
  refine wpAny_holding (wpAny_bind (l2.at ?_))
  refine wpAny_bind (wpAny_call (codeAny_mono k fun r s' z => ?_))
  rcases r with e | (v | _ | _ | _) <;> first | exact z | exact z.elim | skip
  obtain ⟨rfl, z⟩ := z
  first | exact wpAny_pure (wpAny_pure z) | (wp_walk; exact z)
theorem check_callK {rest : List Value} {Q : Unit → Shared → Prop} (hC : hp.get? C = some (excClassObj nm qn C N bs bm hd sn sub ab col dd k0 k1 k2 k3 k5 newId)) (q : Q () ⟨hp, gs, dr, tk, os⟩) :
    wpAny M A (checkBuiltinCall "type.__call__" ⟨.ref C :: rest, kw⟩) Q E ⟨hp, gs, dr, tk, os⟩ := by
  have tcs := tc_sub
  have typ : (⟨hp, gs, dr, tk, os⟩ : Shared).TypeIs (.ref C) "type" := ⟨_, hC, rfl⟩
  simp only [checkBuiltinCall, tc_kind, tc_split]
  repeat (any_goals (first | assumption | with_reducible refine wpAny_loadPart_at hC ?_ | with_reducible refine wpAny_onRaise ?_ | with_reducible refine wpAny_map ?_ | wp_step))
theorem callK (F : ExcBaseFacts B newId initId bmB) (same : ∀ X : String, bm.contains (.type X) = bmB.contains (.type X)) {rest : List Value} {fI : Addr}
    (hC : hp.get? C = some (excClassObj nm qn C N bs bm hd sn sub ab col dd k0 k1 k2 k3 k5 newId))
    (look : W.Looks (model prog w) hp (typeLookup (.ref C) "__init__") (some (.ref fI))) (bnd : ∀ self, W.Looks (model prog w) hp (bindSpecial (.ref fI) self) (.ref fI, [self])) (short : rest.length ≤ sizeLine)
    (k : codeAny (model prog w) (A.under (.builtin "type.__call__" ⟨.ref C :: rest, kw⟩)) (.call (.ref fI) ⟨.ref (hp.objs.size + 1) :: rest, kw⟩) (W.InitBack (hp.objs.size + 1) R) ⟨bornAt hp C rest, gs, dr, tk, os⟩) :
    codeAny (model prog w) A (.call (.ref C) ⟨rest, kw⟩) R ⟨hp, gs, dr, tk, os⟩ := by
  have f1 := tc_lookup
  have f2 := tc_bind (.ref C)
  have typ : (⟨hp, gs, dr, tk, os⟩ : Shared).TypeIs (.ref C) "type" := ⟨_, hC, rfl⟩
  refine codeAny_of_tree ?_
  show wpAny _ _ (callAny (.ref C) _) _ _ _
  repeat (any_goals (first | assumption | with_reducible refine wpAny_loadPart_at hC ?_ | wp_step))
  first | refine ⟨rfl, ?_⟩ | skip
  refine codeAny_call_builtin_at (Code.quiet_builtin _ (by decide +kernel)) entry_typeCall (check_callK hC (type_callK F same hC look bnd short ?_))
  refine codeAny_mono k fun r s' z => ?_
  rcases r with e | (v | _ | _ | _) <;> exact z
end
end Own

namespace Own
open PySem L2 PySem.Spec PyProof.Rows
section
variable {X : Cx} {CX : CXT} {k : Nat} {fI C : Addr} {fd : FuncData} {ps ks : List Str} {sp : Sp} {x : Str} {p pos : Pos} {e : Expr} {es : List Expr} {kws : List Keyword} {ta tk : TA}
/-- C(e, ..) as a value, C an error with its own __init__ -/
def tErr (C : Addr) (sp : Sp) (ta : TA) : TE := fun σ H Q => ta σ H fun vs H1 => vs.length ≤ 1000 ∧ ∀ a, H1 a = none → sp (.ref a :: vs) (upd H1 a (exo a C none)) (fun v H2 => v = .non ∧ Q (.ref a) H2) (fun _ _ _ => False)
theorem pe_err (T : OexC X.K C) (iC : PySem.W.findIn X.K (.ref C) "__init__" = some (some (.ref fI))) (tI : PySem.W.typeIn X.K (.ref fI) = some (.type "function"))
    (F1 : FnOk X.prog X.w X.K X.mg X.base CX k fI fd ps sp) (hr : Room (k + 1) X.A) (hb : Binds X.K fd ps []) (hx : Passes CX X (fun _ _ _ => False)) (hg : Gl X x) (hm : X.mg x = some (.ref C)) (ha : PA X (e :: es) ta)
    (hdb : (x == ("__debug__" : Str)) = false := by decide) (he : starEach (e :: es) X.env = (false, eval e X.env) :: starEach es X.env := by rfl) (hpl : (backTo pos (starEach es X.env)).any (·.1) = false := by rfl) :
    PE X (.Call (.Name x p) (e :: es) [] pos) (tErr C sp ta) := by
  constructor
  intro pins s σ H Q I h
  obtain ⟨nm, q, N, bs, bm, sn, sub, ab, col, dd, k0, k1, k2, k3, k5, hC, hbm⟩ := T.cls
  refine wpAny_Call_Name_kw (ld_glob I hg hm ?_ hdb)
  refine PySem.W.callWith_K (h₀ := X.base) I.ok.mod.kin T.kC (thn (ha.run pos pins s σ H _ I h) fun us s1 ⟨vs, H1, I1, r1, hz, q1⟩ => ⟨I1.kIn, ?_⟩) he hpl
  show wpAny _ _ (call (.ref C) us) _ _ _
  obtain ⟨hp, g, dr, tok, os⟩ := s1
  have above : hp.objs.size ≤ hp.objs.size + 1 := Nat.le_succ _
  have free : H1 (hp.objs.size + 1) = none := I1.hok.fresh above
  have wish := q1 (hp.objs.size + 1) free
  have keep : ∀ b o, hp.get? b = some o → (bornAt hp C us).get? b = some o := fun b o e => Heap.get?_push_of_some _ (Heap.get?_push_of_some _ e)
  have here : (bornAt hp C us).get? (hp.objs.size + 1) = some (PySem.HandSPX.excO C hp.objs.size) := by heap_get
  have I2 : L2.Inv X pins σ (upd H1 (hp.objs.size + 1) (exo (hp.objs.size + 1) C none)) ⟨bornAt hp C us, g, dr, tok, os⟩ := I1.laid (t' := tok) keep above (exo_ok here)
  have r2 : Vals (V.ref (hp.objs.size + 1) :: vs) (Value.ref (hp.objs.size + 1) :: us) := .cons rfl r1
  have len : (Value.ref (hp.objs.size + 1) :: us).length = ps.length := by
    rw [← r2.length]
    exact F1.len _ _ _ _ wish
  have short : us.length ≤ sizeLine := by
    rw [← Paired.length r1, sizeLine_eq]
    omega
  have bnd := hb ⟨bornAt hp C us, g, dr, tok, os⟩ (Value.ref (hp.objs.size + 1) :: us) I2.kIn (by rw [List.append_nil]; exact len)
  rw [List.append_nil] at bnd
  refine wpAny_call (callK F.excBase_ValueError (fun Y => PySem.HandSPX.refsVE_contains Y bm hbm) (I1.kIn _ _ hC) (PySem.W.looks_findIn I1.kIn iC) (fun self => PySem.W.bind_fn I1.kIn self tI) short
    (codeAny_mono (F1.run _ X.stack _ _ ⟨Value.ref (hp.objs.size + 1) :: us, []⟩ (Value.ref (hp.objs.size + 1) :: us) _ _ (fun _ _ _ => False) (hr.make C us []) (I2.env0.make C us []) bnd r2 wish) fun r s' hq => ?_))
  match r, hq with
  | .error er, hq => exact hx pins σ _ _ er s' I2 hq
  | .ok (.ret u), hq =>
    obtain ⟨v, H', I3, rv, ev, q3⟩ := I2.after hq
    subst ev
    exact ⟨rv, V.ref (hp.objs.size + 1), H', I3, rfl, q3⟩
  | .ok .next, hq => exact False.elim hq
  | .ok .brk, hq => exact False.elim hq
  | .ok .cont, hq => exact False.elim hq
/-- C(k = e, ..) as a value -/
def tErrK (C : Addr) (sp : Sp) (permV : List V → List V) (n : Nat) (tk : TA) : TE := fun σ H Q => tk σ H fun zs H1 => zs.length = n ∧ ∀ a, H1 a = none → sp (.ref a :: permV zs) (upd H1 a (exo a C none)) (fun v H2 => v = .non ∧ Q (.ref a) H2) (fun _ _ _ => False)
theorem pe_errK {perm : List Value → List Value} {permV : List V → List V} (T : OexC X.K C) (iC : PySem.W.findIn X.K (.ref C) "__init__" = some (some (.ref fI))) (tI : PySem.W.typeIn X.K (.ref fI) = some (.type "function"))
    (F1 : FnOk X.prog X.w X.K X.mg X.base CX k fI fd ps sp) (hr : Room (k + 1) X.A) (hb : ∀ (s : Shared) (self : Value) (ws : List Value), ws.length = ks.length → BindsTo s fd ⟨[self], ks.zip ws⟩ (ps.zip (self :: perm ws)))
    (hrel : ∀ {zs : List V} {ws : List Value}, Vals zs ws → Vals (permV zs) (perm ws)) (hx : Passes CX X (fun _ _ _ => False)) (hg : Gl X x) (hm : X.mg x = some (.ref C)) (hk : PK X kws tk)
    (hall : (backToKw pos (keywordEach kws X.env)).all (·.1.isSome) = true := by rfl) (hks : (backToKw pos (keywordEach kws X.env)).filterMap (·.1) = ks := by rfl)
    (hdb : (x == ("__debug__" : Str)) = false := by decide) (hpl : ((backTo pos (starEach [] X.env)).any (·.1) || (backToKw pos (keywordEach kws X.env)).any (·.1.isNone)) = false := by rfl) :
    PE X (.Call (.Name x p) [] kws pos) (tErrK C sp permV ks.length tk) := by
  constructor
  intro pins s σ H Q I h
  obtain ⟨nm, q, N, bs, bm, sn, sub, ab, col, dd, k0, k1, k2, k3, k5, hC, hbm⟩ := T.cls
  refine wpAny_Call_Name_kw (ld_glob I hg hm ?_ hdb)
  refine PySem.W.callWith_KW0 (h₀ := X.base) I.ok.mod.kin T.kC hall (thn (hk.run pos pins s σ H _ I h) fun ws s1 ⟨zs, H1, I1, rz, hz, q1⟩ => ⟨I1.kIn, ?_⟩) hpl
  rw [hks]
  show wpAny _ _ (call (.ref C) [] (ks.zip ws)) _ _ _
  obtain ⟨hp, g, dr, tok, os⟩ := s1
  have above : hp.objs.size ≤ hp.objs.size + 1 := Nat.le_succ _
  have free : H1 (hp.objs.size + 1) = none := I1.hok.fresh above
  have wish := q1 (hp.objs.size + 1) free
  have keep : ∀ b o, hp.get? b = some o → (bornAt hp C []).get? b = some o := fun b o e => Heap.get?_push_of_some _ (Heap.get?_push_of_some _ e)
  have here : (bornAt hp C []).get? (hp.objs.size + 1) = some (PySem.HandSPX.excO C hp.objs.size) := by heap_get
  have I2 : L2.Inv X pins σ (upd H1 (hp.objs.size + 1) (exo (hp.objs.size + 1) C none)) ⟨bornAt hp C [], g, dr, tok, os⟩ := I1.laid (t' := tok) keep above (exo_ok here)
  have r2 : Vals (V.ref (hp.objs.size + 1) :: permV zs) (Value.ref (hp.objs.size + 1) :: perm ws) := .cons rfl (hrel rz)
  have lws : ws.length = ks.length := by rw [← Paired.length rz]; exact hz
  refine wpAny_call (callK F.excBase_ValueError (fun Y => PySem.HandSPX.refsVE_contains Y bm hbm) (I1.kIn _ _ hC) (PySem.W.looks_findIn I1.kIn iC) (fun self => PySem.W.bind_fn I1.kIn self tI) (Nat.zero_le _)
    (codeAny_mono (F1.run _ X.stack _ _ ⟨[Value.ref (hp.objs.size + 1)], ks.zip ws⟩ (Value.ref (hp.objs.size + 1) :: perm ws) _ _ (fun _ _ _ => False) (hr.make C [] (ks.zip ws)) (I2.env0.make C [] (ks.zip ws)) (hb _ _ ws lws) r2 wish) fun r s' hq => ?_))
  match r, hq with
  | .error er, hq => exact hx pins σ _ _ er s' I2 hq
  | .ok (.ret u), hq =>
    obtain ⟨v, H', I3, rv, ev, q3⟩ := I2.after hq
    subst ev
    exact ⟨rv, V.ref (hp.objs.size + 1), H', I3, rfl, q3⟩
  | .ok .next, hq => exact False.elim hq
  | .ok .brk, hq => exact False.elim hq
  | .ok .cont, hq => exact False.elim hq
/-- C() as a value, C an error without an __init__ of its own -/
def tErr0 (C : Addr) : TE := fun _ H Q => ∀ a, H a = none → Q (.ref a) (upd H a (exo a C none))
theorem pe_err0 {bmB : List Value} {B newId initId : String} (F : ExcBaseFacts B newId initId bmB) (q : PySem.W.excIn X.K C bmB newId = true) (kC : PySem.W.keepIn X.K (.ref C) = true) (hg : Gl X x) (hm : X.mg x = some (.ref C)) (hdb : (x == ("__debug__" : Str)) = false := by decide) :
    PE X (.Call (.Name x p) [] [] pos) (tErr0 C) := by
  constructor
  intro pins s σ H Q I h
  refine wpAny_Call_Name_kw (ld_glob I hg hm ?_ hdb)
  refine PySem.W.callWith_K0 I.kIn kC ?_
  obtain ⟨hp, g, dr, tok, os⟩ := s
  obtain ⟨bm, N, nm, qn, bs, hdct, sn, sub, ab, col, dd, k0, k1, k2, k3, k5, mN, hC, hN, hni, T⟩ := exc_obj I.kIn q
  refine wpAny_call_exc_subT F T hC hN hni (fun h' a m => ?_) (Nat.zero_le _)
  obtain ⟨t, he, -, -⟩ := m.there
  have free : H a = none := I.hok.gone m.new
  exact ⟨.ref a, _, I.laidN (t' := tok) m.keeps m.new free (exo_ok he), rfl, h a free⟩
/-- isinstance(e, c), e an error held as a value -/
def rExoIs (K : PySem.W.Frag) : List V → Hp → VK → Prop := fun xs H Q => ∃ (a C : Addr) (d : Option Addr) (c : V) (u : Value) (b : Bool), xs = [.ref a, c] ∧ H a = some (exo a C d) ∧ (∀ dd, d = some dd → ∃ fs, H dd = some (exd dd fs)) ∧ ExcC K C ∧ ClsV c u ∧ PySem.W.kitOne K (.ref C) u = some b ∧ Q (.bl b) H
theorem call_exoIs (K : PySem.W.Frag) (hK : X.K = K := by rfl) : CallR X (.builtin "isinstance") (rExoIs K) := by
  intro pins s σ H xs us Q I r h
  subst hK
  obtain ⟨a, C, d, c, u, b, rfl, ha, hdict, T, cv, kit, q⟩ := h
  obtain ⟨u1, u2, rfl, r1, r2⟩ := vals2 r
  cases (show u1 = Value.ref a from r1)
  have e2 := cv.eq r2
  subst e2
  obtain ⟨t1, hget⟩ := exo_at I.hok ha
  have J : ∃ od, PySem.W.InstAt s.heap a ({ cls := .ref C, dict := d, data := .fields #[.ref t1, .none, .none, .none, .bool false, .none] } : Obj) C od := by
    cases d with
    | none => exact ⟨none, hget, rfl, rfl, trivial⟩
    | some dd =>
      obtain ⟨fs, hfs⟩ := hdict dd rfl
      obtain ⟨mA, ns, -⟩ := exd_at I.hok hfs
      obtain ⟨o, ho, -⟩ := lookIn_ns ns
      exact ⟨some o, hget, rfl, rfl, ho⟩
  obtain ⟨od, J⟩ := J
  exact PySem.W.kia_one (kit_err T) I.kIn J kit (fun z => nomatch z) fun tk => ⟨.bl b, H, I.kept (t' := tk) fun _ _ z => z, rfl, q⟩
/-- e.f, e an error held as a value -/
def tExf (K : PySem.W.Frag) (f : Str) (te : TE) : TE := fun σ H Q => te σ H fun x H1 => ∃ (a C dd : Addr) (fs : List (Str × V)) (v : V), x = .ref a ∧ H1 a = some (exo a C (some dd)) ∧ H1 dd = some (exd dd fs) ∧ XfC K C ∧ PySem.W.findIn K (.ref C) f = some none ∧ fs.lookup f = some v ∧ Q v H1
theorem pe_exf {te : TE} {n : Str} (K : PySem.W.Frag) (he : PE X e te) (hb : attributeBase e n X.env (eval e X.env) = eval e X.env := by rfl) (hK : X.K = K := by rfl) : PE X (.Attribute e n pos) (tExf K n te) := by
  subst hK
  constructor
  intro pins s σ H Q I h
  refine attr_of hb (thn (he.run pins s σ H _ I h) fun u s1 hh => ?_)
  obtain ⟨x, H1, I1, rx, a, C, dd, fs, v, rfl, ha, hd, T, no, l, q⟩ := hh
  obtain rfl : u = Value.ref a := rx
  obtain ⟨t1, hget⟩ := exo_at I1.hok ha
  obtain ⟨mA, ns, rel⟩ := exd_at I1.hok hd
  obtain ⟨od, ho, look⟩ := lookIn_ns ns
  obtain ⟨u, hu, ru⟩ := RelO.some_of (v := v) (o := mA n) (by rw [← l]; exact rel n)
  have J : PySem.W.InstAt s1.heap a ({ cls := .ref C, dict := some dd, data := .fields #[.ref t1, .none, .none, .none, .bool false, .none] } : Obj) C (some od) := ⟨hget, rfl, rfl, ho⟩
  exact HandSPX.exc_get I1.kIn J T.ga T.gg T.exC (PySem.W.findObj_own T.hdC no rfl (by rw [look, hu])) (handed_of ru) ⟨v, H1, I1.tok _, ru, q⟩
/-- two lists of the very same values are not unequal -/
def rNeSame (K : PySem.W.Frag) : R2 := fun x y H Q => ∃ a b xs, x = .ref a ∧ y = .ref b ∧ SqL K H a xs ∧ SqL K H b xs ∧ Q (.bl false) H
theorem eqAt_rel {A : Around} {s : Shared} {v : V} {u u' : Value} (r : RelV v u) (r' : RelV v u') (nf : ∀ b, v ≠ .flt b) (nb : ∀ b, v ≠ .byt b) : SeqAt.EqAt A s u u' true := by
  cases v with
  | int i =>
    obtain ⟨t, rfl⟩ := r
    obtain ⟨t', rfl⟩ := r'
    have h := SeqAt.EqAt.int_int (A := A) (s := s) i t i t'
    rwa [beq_self_eq_true] at h
  | str x =>
    obtain ⟨t, rfl⟩ := r
    obtain ⟨t', rfl⟩ := r'
    have h := SeqAt.EqAt.str_str (A := A) (s := s) x t x t'
    rwa [beq_self_eq_true] at h
  | flt b => exact absurd rfl (nf b)
  | byt b => exact absurd rfl (nb b)
  | non => cases r; cases r'; exact SeqAt.EqAt.same _
  | bl b => cases r; cases r'; exact SeqAt.EqAt.same _
  | ref a => cases r; cases r'; exact SeqAt.EqAt.same _
  | ty n => cases r; cases r'; exact SeqAt.EqAt.same _
end
end Own

namespace Own
open PySem L2 PySem.Spec PyProof.Rows
section
variable {X : Cx}
def plainV : V → Bool
  | .flt _ => false
  | .byt _ => false
  | _ => true
def rNeSameV (K : PySem.W.Frag) : R2 := fun x y H Q => ∃ a b xs, x = .ref a ∧ y = .ref b ∧ SqL K H a xs ∧ SqL K H b xs ∧ xs.all plainV = true ∧ Q (.bl false) H
theorem op_neSame (K : PySem.W.Frag) (hu : X.A.units + 64 < cLine) (hK : X.K = K := by rfl) : OpR X (compareOp .NotEq) (rNeSameV K) := by
  intro pins s σ H x y v u Q I rx ry h
  subst hK
  obtain ⟨a, b, xs, rfl, rfl, ha, hb, pl, q⟩ := h
  cases rx
  cases ry
  obtain ⟨its, r, la, -⟩ := I.list ha
  obtain ⟨its', r', lb, -⟩ := I.list hb
  have sz : its.toArray.size = its'.toArray.size := by
    rw [List.size_toArray, List.size_toArray, ← r.length, ← r'.length]
  have eq : ∀ j (h1 : j < its.toArray.size) (h2 : j < its'.toArray.size), SeqAt.EqAt X.A.in1 s its.toArray[j] its'.toArray[j] ((fun _ => true) j) := by
    intro j h1 h2
    have hj : j < xs.length := by
      rw [r.length]
      simpa using h1
    have ex : xs[j]? = some xs[j] := List.getElem?_eq_getElem hj
    obtain ⟨u1, e1, q1⟩ := Vals.get r ex
    obtain ⟨u2, e2, q2⟩ := Vals.get r' ex
    have p := List.all_eq_true.mp pl _ (List.getElem_mem hj)
    have f1 : its.toArray[j] = u1 := by
      have := List.getElem?_eq_some_iff.mp e1
      obtain ⟨_, z⟩ := this
      simpa using z
    have f2 : its'.toArray[j] = u2 := by
      have := List.getElem?_eq_some_iff.mp e2
      obtain ⟨_, z⟩ := this
      simpa using z
    rw [f1, f2]
    exact eqAt_rel q1 q2 (fun b z => by rw [z] at p; cases p) (fun b z => by rw [z] at p; cases p)
  have hu' : X.A.units < cLine := by omega
  have fin := SeqAt.RcNeAt.lists la.isList lb.isList sz hu' eq
  refine fin X.prog X.w X.xe _ ?_
  have al : (!((List.range its.toArray.size).all fun _ => true)) = false := by simp
  rw [al]
  exact ⟨.bl false, H, I, rfl, q⟩
end
end Own

namespace Own
open PySem L2 ClX PySem.Spec PyProof.Rows
section
variable {X : Cx} {CX : CXT} {k n : Nat} {f C : Addr} {fd : FuncData} {ps ks : List Str} {sp : Sp} {x : Str} {p pos : Pos} {e : Expr} {es : List Expr} {kws : List Keyword} {t tk : TA} {g : List Value → List Value → List Value} {gV : List V → List V → List V}
/-- C(e, .., k = v, ..) whose error is wished for at the slots of the one who calls -/
def tMakeS (C : Addr) (n m : Nat) (sp : Sp) (gV : List V → List V → List V) (W : L2.St → XK) (t tk : TA) : TE := fun σ H Q => t σ H fun vs H1 => tk σ H1 fun zs H2 => vs.length = n ∧ zs.length = m ∧
  ∀ a d, H2 a = none → H2 d = none → d ≠ a → sp (gV (.ref a :: vs) zs) (upd (upd H2 d (.own a)) a (.ins C d [])) (fun v H3 => v = .non ∧ Q (.ref a) H3) (W σ)
theorem run_makeS {pins : List (Addr × Obj)} {σ : L2.St} {H : Hp} {s : Shared} {Q : VK} {W : XK} {us ws : List Value} {vs zs : List V} (M : Mk X.K C f) (F : FnOk X.prog X.w X.K X.mg X.base CX k f fd ps sp) (room : Room (k + 1) X.A) (B : KBn X.K fd ps (n + 1) ks g gV) (hx : PassesAt CX X σ W)
    (I : L2.Inv X pins σ H s) (r : Vals vs us) (rz : Vals zs ws) (l1 : vs.length = n) (l2 : zs.length = ks.length)
    (want : ∀ a d, H a = none → H d = none → d ≠ a → sp (gV (.ref a :: vs) zs) (upd (upd H d (.own a)) a (.ins C d [])) (fun v H2 => v = .non ∧ Q (.ref a) H2) W) :
    wpAny (model X.prog X.w) X.A (call (.ref C) us (ks.zip ws)) (EP X pins σ Q) X.xe s := by
  have w1 := want (s.heap.objs.size + 1) s.heap.objs.size (I.hok.fresh (Nat.le_succ _)) (I.hok.fresh (Nat.le_refl _)) (Nat.ne_of_lt (Nat.lt_succ_self _))
  have J := L2.Inv.made (C := C) I
  have rv : Vals (V.ref (s.heap.objs.size + 1) :: vs) (Value.ref (s.heap.objs.size + 1) :: us) := .cons rfl r
  have rg := B.rel rv rz
  have len : (Value.ref (s.heap.objs.size + 1) :: us).length = n + 1 := by rw [List.length_cons, ← r.length, l1]
  have start := F.run _ X.stack _ _ ⟨Value.ref (s.heap.objs.size + 1) :: us, ks.zip ws⟩ (g (Value.ref (s.heap.objs.size + 1) :: us) ws) _ _ W (room.make C us (ks.zip ws))
    (J.env0.make C us (ks.zip ws)) (B.to _ (Value.ref (s.heap.objs.size + 1) :: us) ws J.kIn len (rz.length.symm.trans l2)) rg w1
  refine wpAny_call (make_map (f := f) I.kIn M.makes M.init (beq_iff_eq.mp M.fn) (codeAny_mono start fun r s' back => ?_))
  match r, back with
  | .error er, back => exact hx pins _ _ er s' J back
  | .ok (.ret u), back =>
    obtain ⟨v, H', I3, rv, ev, q3⟩ := J.after back
    subst ev
    exact ⟨rv, V.ref (s.heap.objs.size + 1), H', I3, rfl, q3⟩
  | .ok .next, back => exact False.elim back
  | .ok .brk, back => exact False.elim back
  | .ok .cont, back => exact False.elim back
theorem pe_makeS {W : L2.St → XK} (M : Mk X.K C f) (F : FnOk X.prog X.w X.K X.mg X.base CX k f fd ps sp) (room : Room (k + 1) X.A) (gl : Gl X x) (mg : X.mg x = some (.ref C)) (B : KBn X.K fd ps (n + 1) ks g gV) (hx : ∀ σ, PassesAt CX X σ (W σ)) (ha : PA X (e :: es) t) (hk : PK X kws tk)
    (some : (backToKw pos (keywordEach kws X.env)).all (·.1.isSome) = true := by rfl) (names : (backToKw pos (keywordEach kws X.env)).filterMap (·.1) = ks := by rfl) (nod : (x == ("__debug__" : Str)) = false := by decide)
    (each : starEach (e :: es) X.env = (false, eval e X.env) :: starEach es X.env := by rfl) (plain : ((backTo pos (starEach (e :: es) X.env)).any (·.1) || (backToKw pos (keywordEach kws X.env)).any (·.1.isNone)) = false := by rfl) :
    PE X (.Call (.Name x p) (e :: es) kws pos) (tMakeS C n ks.length sp gV W t tk) := by
  constructor
  intro pins s σ H Q I h
  refine wpAny_Call_Name_kw (ld_glob I gl mg ?_ nod)
  refine PySem.W.callWith_KW (h₀ := X.base) I.ok.mod.kin M.kp some (thn (ha.run pos pins s σ H _ I h) fun us s1 ⟨vs, H1, I1, r, q⟩ => ?_) plain each
  refine thn (hk.run pos pins s1 σ H1 _ I1 q) fun ws s2 ⟨zs, H2, I2, rz, l1, l2, q2⟩ => ⟨I2.kIn, ?_⟩
  rw [names]
  exact run_makeS M F room B (hx σ) I2 r rz l1 l2 q2
/-- B.m(e, .., k = v, ..), m a def of the class B, read off the class -/
theorem pe_base {mc : Value} {m : Str} {apos : Pos} {E : XK} {pl : Sem Bool} (R : CRead X.K C mc) (c : CVal X.K C mc m (.ref f) (.ref f)) (F : FnOk X.prog X.w X.K X.mg X.base CX k f fd ps sp) (room : Room k X.A) (gl : Gl X x) (mg : X.mg x = some (.ref C)) (keep : PySem.W.keepIn X.K (.ref f) = true)
    (B : KBn X.K fd ps n ks g gV) (hx : Passes CX X E) (ha : PA X (e :: es) t) (hk : PK X kws tk)
    (some : (backToKw pos (keywordEach kws X.env)).all (·.1.isSome) = true := by rfl) (names : (backToKw pos (keywordEach kws X.env)).filterMap (·.1) = ks := by rfl) (nod : (x == ("__debug__" : Str)) = false := by decide)
    (each : starEach (e :: es) X.env = (false, eval e X.env) :: starEach es X.env := by rfl) (plain : ((backTo pos (starEach (e :: es) X.env)).any (·.1) || (backToKw pos (keywordEach kws X.env)).any (·.1.isNone)) = false := by rfl)
    (shape : eval (.Call (.Attribute (.Name x p) m apos) (e :: es) kws pos) X.env = (do
      let ov ← eval (.Name x p) X.env
      standAt apos.atName
      let (f, first) ← holding [ov] (getMethod ov m pl)
      callWith pos f first (backTo pos (starEach (e :: es) X.env)) (backToKw pos (keywordEach kws X.env))) := by rfl) :
    PE X (.Call (.Attribute (.Name x p) m apos) (e :: es) kws pos) (tCallN n ks.length sp gV E t tk) := by
  constructor
  intro pins s σ H Q I h
  refine PySem.W.methodCall_KW (pl := pl) (ld_glob I gl mg ?_ nod) shape
  refine PySem.W.method_cls I.kIn R.ga (getcval_ok I R c fun s1 I1 => ?_)
  refine PySem.W.callWith_KW (h₀ := X.base) I1.ok.mod.kin keep some (thn (ha.run pos pins s1 σ H _ I1 h) fun us s2 ⟨vs, H2, I2, r, q⟩ => ?_) plain each
  refine thn (hk.run pos pins s2 σ H2 _ I2 q) fun ws s3 ⟨zs, H3, I3, rz, l1, l2, q3⟩ => ⟨I3.kIn, ?_⟩
  rw [names]
  exact run_fnN F room B hx I3 r rz l1 l2 q3
end
end Own

namespace Own
open PySem L2 PySem.Spec PyProof.Rows
section
variable {X : Cx}
/-- the greatest of y and of ys -/
def topI (y : Int) (ys : List Int) : Int := ys.foldl (fun a b => if a < b then b else a) y
theorem topI_eq (y : Int) (ys : List Int) : PySem.W.maxOf y ys = topI y ys := by
  unfold PySem.W.maxOf topI
  congr 1
  funext a b
  show (if (decide (a < b)) = true then b else a) = _
  by_cases h : a < b
  · rw [if_pos (decide_eq_true h), if_pos h]
  · rw [if_neg (by simpa using h), if_neg h]
/-- max(xs, default=d), xs a list of ints -/
def rMaxD (K : PySem.W.Frag) : List V → List V → Hp → VK → Prop := fun xs zs H Q => ∃ (a : Addr) (ns : List Int) (d : V), xs = [.ref a] ∧ zs = [d] ∧ SqL K H a (ns.map V.int) ∧ (ns = [] → Q d H) ∧ (∀ y ys, ns = y :: ys → Q (.int (topI y ys)) H)
theorem holdAll_of {h : Heap} : ∀ {ns : List Int} {us : List Value}, Vals (ns.map V.int) us → PySem.W.HoldAll h us ns
  | [], [], _ => ⟨[], .nil⟩
  | n :: ns, u :: us, .cons r rs => by
    obtain ⟨as, q⟩ := holdAll_of rs
    obtain ⟨t, rfl⟩ := r
    exact ⟨_, .cons (Reads.int n t) q⟩
theorem cr_maxD (K : PySem.W.Frag) (hc : X.calm = true) (hu : X.A.units + 64 < cLine) (hK : X.K = K := by rfl) : CallRK X (.builtin "max") ["default"] (rMaxD K) := by
  intro pins s σ H xs zs us ws Q I r rz h
  subst hK
  obtain ⟨a, ns, d, rfl, rfl, hs, q0, q1⟩ := h
  obtain ⟨its, rv, hl, _⟩ := I.list hs
  rw [Vals.ref1 r]
  cases ws with
  | nil => cases rz
  | cons w ws =>
    cases rz with
    | cons r1 r2 =>
      cases r2
      refine PySem.W.max_list_datum_default (α := Int) (xs := ns) (I.ok.hd hc) hl.isList (holdAll_of (by simpa using rv)) (by show _ + 1 + 0 < _; omega) (fun e h' tk hk => ⟨d, H, I.kept hk, r1, q0 e⟩) fun y ys i v h' tk e hi hv hk => ?_
      obtain ⟨as, hv⟩ := hv
      refine ⟨.int (topI y ys), H, I.kept hk, ?_, q1 y ys e⟩
      rw [topI_eq] at hv
      cases hv with
      | int => exact ⟨_, rfl⟩
end
end Own

namespace Own
open PySem PySem.W PySem.Calls PyProof.Rows
section
variable {α : Type} {prog : Program} {w : World} {A : Around} {E : Value → Shared → Prop} {s : Shared}
/-- an AttributeError with one text and no name -/
theorem raise_attr {msg : Str} {Q : α → Shared → Prop} (hh : A.handled = none) (short : msg.length ≤ sizeLine)
    (h : ∀ h' tk e, Heap.NewExcOf s.heap h' e "AttributeError" → E (.ref e) { s with heap := h', toks := tk }) :
    wpAny (model prog w) A (raiseErrorStr "AttributeError" msg : Sem α) Q E s := by
  unfold raiseErrorStr
  refine wpAny_bind (wpAny_mkStr (wpAny_bind ?_) short)
  unfold newExc newTuple
  refine wpAny_bind (wpAny_newObj_type ?_ (by size_fits))
  refine wpAny_bind (m := firstArgMember _ _) (wpAny_of_eq (a := Value.none) (by simp only [firstArgMember, attrError_no_first]; rfl) ?_)
  rw [ownMembersOf_AttributeError]
  refine wpAny_newObj_type ?_ (by size_fits)
  unfold raiseNew
  refine wpAny_bind (wpAny_handled ?_)
  rw [hh]
  first
    | refine wpAny_throw ?_
    | refine wpAny_bind (wpAny_pure (wpAny_throw ?_))
  refine h _ _ _ ⟨fun b ob hb => ?_, Heap.get?_none_of_le (by simp), ?_⟩
  · exact Heap.get?_push_of_some _ (Heap.get?_push_of_some _ hb)
  · exact ⟨_, _, Heap.get?_push_size _ rfl, rfl, rfl, rfl⟩

variable {K : Frag} {C : Addr} {cd : ClassData} {name : Str}
/-- what a class must be that the name is missed on it: its own name is short -/
structure Lacks (K : Frag) (C : Addr) (name : Str) : Prop where
  rd : readsIn K C (.type "type") = true
  no : findIn K (.ref C) name = some none
  noT : findIn K (.type "type") name = some none
  noH : findIn K (.type "type") "__getattr__" = some none
  cls : ∃ cd, clsIn K C = some cd ∧ cd.name.cps.foldl (fun k c => k + (Str.utf8Of c).length) 0 ≤ 100 ∧ ((Str.ofString s!"type object '{cd.name.toString}' has no attribute '") ++ name ++ Str.ofString "'").length ≤ 1000
theorem tga_miss {tk : Tok} {Q : Fin → Shared → Prop} (X : K.In s.heap) (L : Lacks K C name) (hh : A.handled = none)
    (h : ∀ h' tk e, Heap.NewExcOf s.heap h' e "AttributeError" → E (.ref e) { s with heap := h', toks := tk }) : wpAny (model prog w) A (Builtin.«type.__getattribute__» ⟨[.ref C, .str name tk], []⟩) Q E s := by
  have rd := L.rd
  simp only [readsIn, Bool.and_eq_true, beq_iff_eq] at rd
  obtain ⟨⟨⟨⟨a, b⟩, c'⟩, d⟩, f⟩ := rd
  obtain ⟨cd, hcd, small, short⟩ := L.cls
  have ho := looks_opaque (M := model prog w) (C := C) X a
  have ht := looks_typeIn (M := model prog w) X b
  have L1 := looks_findIn (M := model prog w) X L.noT
  have L2 := looks_findIn (M := model prog w) X L.no
  have L3 := looks_clsIn (M := model prog w) X hcd
  obtain ⟨hp, g, dr, t, os⟩ := s
  unfold Builtin.«type.__getattribute__»
  refine wpAny_bind (wpAny_pure (wpAny_bind (ho.at (wpAny_bind (ht.at (wpAny_bind (L1.at ?_)))))))
  refine wpAny_bind (wpAny_pure ?_)
  refine wpAny_bind (L2.at ?_)
  dsimp only
  have L4 : Looks (model prog w) hp (typeNameCut 100 (.ref C)) cd.name.toString := by
    unfold typeNameCut
    refine L3.andThen ?_
    rw [if_pos small]
    exact .now
  refine wpAny_bind (wpAny_rule (wpAny_bind (L4.at (raise_attr hh (Nat.le_trans short (by rw [sizeLine_eq]; decide)) h))))
end
section
variable {prog : Program} {w : World} {A : Around} {E : Value → Shared → Prop} {s : Shared} {K : Frag} {C D : Addr} {name : Str}
theorem miss_by {tk : Tok} {Q : Value → Shared → Prop} (X : K.In s.heap) (L : Lacks K C name) (hh : A.handled = none)
    (h : ∀ h' tk e, Heap.NewExcOf s.heap h' e "AttributeError" → E (.ref e) { s with heap := h', toks := tk }) : wpAny (model prog w) A (getAttrBy (.ref C) (.str name tk) false) Q E s := by
  have rd := L.rd
  simp only [readsIn, Bool.and_eq_true, beq_iff_eq] at rd
  obtain ⟨⟨⟨⟨a, b⟩, c'⟩, d⟩, f⟩ := rd
  have ht := looks_typeIn (M := model prog w) X b
  have hg := looks_findIn (M := model prog w) X c'
  unfold getAttrBy
  refine wpAny_holding (wpAny_bind (ht _ _ _ _ (fun _ _ e => e) (wpAny_bind (hg _ _ _ _ (fun _ _ e => e) ?_))))
  dsimp only
  rw [show (onTheHeap (Value.type "type") && Value.builtin "type.__getattribute__" == Value.builtin "object.__getattribute__") = false from rfl, if_neg (by decide)]
  unfold getAttrByItsOwn
  refine wpAny_bind (wpAny_pure (wpAny_bind (wpAny_attempt (wpAny_holding ?_))))
  unfold callGetattribute
  rw [show (false && onTheHeap (Value.builtin "type.__getattribute__")) = false from rfl, if_neg (by decide)]
  unfold boundAndCalled
  rw [KF.slot_tga.bind]
  refine wpAny_bind (wpAny_pure ?_)
  show wpAny _ _ (call (.builtin "type.__getattribute__") [.ref C, .str name tk]) _ _ _
  refine wpAny_call ?_
  refine codeAny_call_builtin KF.slot_tga.plain KF.entry_tga ?_
  refine @check_slot (model prog w) _ _ s "type.__getattribute__" "type" "__getattribute__" (.ref C) [.str name tk] [] _ (by decide +kernel) (by decide +kernel) (ht.andThen (looks_subIn X f)) (KF.args_tga (.ref C) (.str name tk)) ?_
  refine tga_miss X L hh fun h' tk' e ne => ?_
  show wpAny _ _ (getattributeRaised _ _ _ _ _ _ _) _ _ _
  obtain ⟨ob, vs, he, hcls, hd, -⟩ := ne.there
  have ty : (⟨h', s.gens, s.drawn, tk', s.os⟩ : Shared).TypeIs (.ref e) "AttributeError" := ⟨ob, he, hcls⟩
  have noH := looks_findIn (M := model prog w) (X.keeps ne.keeps) L.noH
  unfold getattributeRaised
  refine wpAny_bind (wpAny_isInstance ty sub_AttributeError ?_)
  rw [if_pos rfl]
  unfold hookBehind
  rw [if_neg (by decide)]
  refine wpAny_bind (noH _ _ _ _ (fun _ _ e => e) ?_)
  unfold hookOrError attributeErrorLeaves
  exact wpAny_throw (h h' tk' e ne)
theorem miss_q {tk : Tok} {Q : Option Value → Shared → Prop} (X : K.In s.heap) (L : Lacks K C name) (hh : A.handled = none)
    (h : ∀ h' tk, (∀ b o, s.heap.get? b = some o → h'.get? b = some o) → Q none { s with heap := h', toks := tk }) : wpAny (model prog w) A (getAttrBy? (.ref C) (.str name tk)) Q E s := by
  unfold getAttrBy?
  refine wpAny_bind (wpAny_attempt (miss_by X L hh fun h' tk' e ne => ?_))
  obtain ⟨ob, vs, he, hcls, hd, -⟩ := ne.there
  have ty : (⟨h', s.gens, s.drawn, tk', s.os⟩ : Shared).TypeIs (.ref e) "AttributeError" := ⟨ob, he, hcls⟩
  dsimp only
  refine wpAny_bind (wpAny_isInstance ty sub_AttributeError ?_)
  rw [if_pos rfl]
  exact wpAny_pure (h h' tk' ne.keeps)
end
end Own

namespace Own
open PySem PySem.W PySem.Calls PyProof.Rows
/-- type.__ror__, bound to a class -/
abbrev rorO (C : Addr) : Obj := { cls := .type "method-wrapper", dict := none, data := .fields #[.builtin "type.__ror__", .ref C], slots := #[] }
theorem type_ror : typeOf (.builtin "type.__ror__") = pure (.type "wrapper_descriptor") := by show builtinType _ = _; rw [builtinType_eq_fast]; kernel_rfl
theorem name_ror : (kfb_private% "nameAndClass") (Value.builtin "type.__ror__") = (pure (("__ror__" : Str), Value.type "type") : Sem (Str × Value)) := by kernel_rfl
section
variable {prog : Program} {w : World} {A : Around} {E : Value → Shared → Prop} {s : Shared} {K : Frag} {C D : Addr}
theorem run_ror {P : Fin → Shared → Prop} (inst : Looks (model prog w) s.heap (isInstance (.ref C) (.type "type")) true) (hq : P (.done (.ret (.ref s.heap.objs.size))) { s with heap := s.heap.push (rorO C) }) :
    wpAny (model prog w) A (Builtin.«wrapper_descriptor.__get__» ⟨[.builtin "type.__ror__", .ref C, .type "type"], []⟩) P E s := by
  obtain ⟨h, g, d, t, os⟩ := s
  unfold Builtin.«wrapper_descriptor.__get__»
  refine wpAny_bind (wpAny_of_eq (a := (.builtin "type.__ror__", some (.ref C), some (.type "type"))) (by first | rfl | kernel_rfl) ?_)
  show wpAny _ A ((kfb_private% "checkInstance") (.builtin "type.__ror__") (.ref C) >>= fun _ => newFields "method-wrapper" [.builtin "type.__ror__", .ref C] >>= fun r => ret r) P E _
  refine wpAny_bind ?_
  show wpAny _ A ((kfb_private% "nameAndClass") (.builtin "type.__ror__") >>= _) _ E _
  refine wpAny_bind (wpAny_of_eq name_ror ?_)
  show wpAny _ A (isInstance (.ref C) (.type "type") >>= _) _ E _
  refine wpAny_bind (inst.at ?_)
  refine KFB.if_not rfl ?_
  refine wpAny_pure ?_
  exact wpAny_bind (wpAny_newObj_type (wpAny_pure hq))
theorem ror_of {tk : Tok} {Q : Option Value → Shared → Prop} (X : K.In s.heap) (rd : readsIn K C (.type "type") = true) (e : findCls K (.ref C) (.type "type") "__ror__" = some (.get (.builtin "wrapper_descriptor.__get__") (.builtin "type.__ror__") (.ref C) (.type "type")))
    (h : Q (some (.ref s.heap.objs.size)) { s with heap := s.heap.push (rorO C) }) : wpAny (model prog w) A (getAttrBy? (.ref C) (.str "__ror__" tk)) Q E s := by
  simp only [readsIn, Bool.and_eq_true, beq_iff_eq] at rd
  obtain ⟨⟨⟨⟨a, b⟩, c'⟩, d⟩, f⟩ := rd
  have ht := looks_typeIn (M := model prog w) X b
  have hg := looks_findIn (M := model prog w) X c'
  have ho := looks_opaque (M := model prog w) (C := C) X a
  unfold getAttrBy? getAttrBy
  refine wpAny_bind (wpAny_attempt (wpAny_holding (wpAny_bind (ht _ _ _ _ (fun _ _ e => e) (wpAny_bind (hg _ _ _ _ (fun _ _ e => e) ?_))))))
  dsimp only
  rw [show (onTheHeap (Value.type "type") && Value.builtin "type.__getattribute__" == Value.builtin "object.__getattribute__") = false from rfl, if_neg (by decide)]
  unfold getAttrByItsOwn
  refine wpAny_bind (wpAny_pure (wpAny_bind (wpAny_attempt (wpAny_holding ?_))))
  unfold callGetattribute
  rw [show (false && onTheHeap (Value.builtin "type.__getattribute__")) = false from rfl, if_neg (by decide)]
  unfold boundAndCalled
  rw [KF.slot_tga.bind]
  refine wpAny_bind (wpAny_pure ?_)
  show wpAny _ _ (call (.builtin "type.__getattribute__") [.ref C, .str "__ror__" tk]) _ _ _
  refine wpAny_call ?_
  refine codeAny_call_builtin KF.slot_tga.plain KF.entry_tga ?_
  refine @check_slot (model prog w) _ _ s "type.__getattribute__" "type" "__getattribute__" (.ref C) [.str "__ror__" tk] [] _ (by decide +kernel) (by decide +kernel) (ht.andThen (looks_subIn X f)) (KF.args_tga (.ref C) (.str "__ror__" tk)) ?_
  refine tga_run X ho ht e ?_
  show wpAny _ _ (holding [.builtin "type.__ror__"] (call (.builtin "wrapper_descriptor.__get__") [.builtin "type.__ror__", .ref C, .type "type"]) >>= ret) _ _ _
  refine wpAny_bind (wpAny_holding ?_)
  have tyF : s.TypeIs (.builtin "type.__ror__") "wrapper_descriptor" := type_ror
  refine wpAny_call_entry ESX.slot_wd tyF ESX.entry_wd ?_ (ESX.args_wd _ _ _)
  refine run_ror (ht.andThen (looks_subIn X f)) ?_
  exact ⟨_, rfl, wpAny_pure (wpAny_pure (wpAny_pure h))⟩
theorem slot_mwne : Slot "method-wrapper" "__ne__" "method-wrapper.__ne__" :=
  .of (owner := "method-wrapper") (n := "__ne__") (by rw [typeLookup_type, builtinLookup_eq_fast]; kernel_rfl) (by decide +kernel) (by decide +kernel) (by decide +kernel)
    (by first | exact .inl (by decide +kernel) | exact .inr (by decide +kernel)) (by rw [isSubtype_type]; kernel_rfl)
theorem entry_mwne : entryFor table "method-wrapper.__ne__" = some Builtin.«method_wrapper.__ne__» := entryFor_alias (id' := "method_wrapper.__ne__") (by kernel_rfl) (by decide +kernel) (by decide +kernel) (by kernel_rfl)
theorem args_mwne (a b : Value) : argsOk "method-wrapper.__ne__" ⟨[a, b], []⟩ := by unfold argsOk; kernel_rfl
theorem oneThing_r (a b : Addr) : oneThing? .NotEq (.ref a) (.ref b) = none := rfl
theorem ne_ror {p q : Addr} {oc od : Obj} {Q : Value → Shared → Prop} (hu : A.units < cLine) (hp : s.heap.get? p = some (rorO C)) (hq : s.heap.get? q = some (rorO D)) (ne : C ≠ D) (hC : s.heap.get? C = some oc) (hD : s.heap.get? D = some od) (tC : oc.cls ≠ .type "tuple") (h : Q (.bool true) s) :
    wpAny (model prog w) A (richCompare .NotEq (.ref p) (.ref q)) Q E s := by
  obtain ⟨hh, g, d, t, os⟩ := s
  have tp : Shared.TypeIs ⟨hh, g, d, t, os⟩ (.ref p) "method-wrapper" := ⟨_, hp, rfl⟩
  have tq : Shared.TypeIs ⟨hh, g, d, t, os⟩ (.ref q) "method-wrapper" := ⟨_, hq, rfl⟩
  have d1 : (rorO C).data = .fields #[.builtin "type.__ror__", .ref C] := rfl
  have d2 : (rorO D).data = .fields #[.builtin "type.__ror__", .ref D] := rfl
  have f0 : ∀ x : Addr, (#[.builtin "type.__ror__", .ref x] : Array Value)[0]? = some (.builtin "type.__ror__") := fun _ => rfl
  have f1 : ∀ x : Addr, (#[.builtin "type.__ror__", .ref x] : Array Value)[1]? = some (.ref x) := fun _ => rfl
  refine wpAny_richCompare_same_room (T := "method-wrapper") (id := "method-wrapper.__ne__") tp tq slot_mwne ?_ hu
  refine wpAny_call_entry slot_mwne tp entry_mwne ?_ (args_mwne _ _)
  unfold Builtin.«method_wrapper.__ne__»
  k_delta "wrapperEquality"
  refine wpAny_bind (wpAny_of_eq (a := (.ref p, [.ref q])) rfl ?_)
  dsimp only [List.headD]
  refine wpAny_bind (wpAny_isInstance tq (by rw [isSubtype_type]; kernel_rfl : isSubtype (.type "method-wrapper") (.type "method-wrapper") = pure true) ?_)
  rw [if_neg (by decide)]
  have part : ∀ {r x : Addr} {B : Around} {R : String × Value × Value → Shared → Prop} {EE : Value → Shared → Prop}, hh.get? r = some (rorO x) → R ("type.__ror__", .builtin "type.__ror__", .ref x) ⟨hh, g, d, t, os⟩ →
      wpAny (model prog w) B (Builtin.Method_wrapper.mwParts (.ref r)) R EE ⟨hh, g, d, t, os⟩ := by
    intro r x B R EE hr k
    unfold Builtin.Method_wrapper.mwParts
    refine wpAny_bind (wpAny_field hr rfl (f0 x) ?_)
    dsimp only
    exact wpAny_bind (wpAny_field hr rfl (f1 x) (wpAny_pure k))
  refine wpAny_bind (part hp (wpAny_bind (part hq ?_)))
  dsimp only
  rw [if_pos (by decide)]
  exact wpAny_bind (wpAny_isSame_ref_other ne hC hD tC (wpAny_pure ⟨_, rfl, by simp, h⟩))
end
end Own

namespace Own
open PySem PySem.W PySem.Calls PyProof.Rows
theorem inst_on {h h' : Heap} {x C : Addr} {ox : Obj} {od : Option Obj} (k : ∀ b o, h.get? b = some o → h'.get? b = some o) (I : InstAt h x ox C od) : InstAt h' x ox C od := by
  refine ⟨k _ _ I.at_, I.cls, I.no, ?_⟩
  have q := I.dict
  revert q
  cases ox.dict <;> cases od <;> intro q
  · exact q
  · exact q
  · exact q
  · exact k _ _ q
/-- what two classes must be that an operator of the left one's text serves: the right one may be the same, no subclass, or a subclass with the very operator -/
structure Two (K : Frag) (nm : String) (C D f : Addr) : Prop where
  firstC : selfFirst K C = true
  firstD : selfFirst K D = true
  fC : findIn K (.ref C) (PySem.dunder nm) = some (some (.ref f))
  fD : ∃ g, findIn K (.ref D) (PySem.dunder nm) = some (some (.ref g))
  fn : isFn K (.ref f) = true
  rC : findIn K (.ref C) (dunderR nm) = some none
  rD : findIn K (.ref D) (dunderR nm) = some none
  rel : C = D ∨ subIn K (.ref D) (.ref C) = some false ∨ (subIn K (.ref D) (.ref C) = some true ∧ (Lacks K D (dunderR nm) ∨ (nm = "or" ∧ C ≠ D ∧ (∃ oc, K.lookup C = some oc ∧ oc.cls ≠ .type "tuple") ∧ (∃ od, K.lookup D = some od ∧ od.cls ≠ .type "tuple") ∧
    readsIn K C (.type "type") = true ∧ readsIn K D (.type "type") = true ∧
    findCls K (.ref C) (.type "type") "__ror__" = some (.get (.builtin "wrapper_descriptor.__get__") (.builtin "type.__ror__") (.ref C) (.type "type")) ∧
    findCls K (.ref D) (.type "type") "__ror__" = some (.get (.builtin "wrapper_descriptor.__get__") (.builtin "type.__ror__") (.ref D) (.type "type")))))
section
variable {prog : Program} {w : World} {A : Around} {E : Value → Shared → Prop} {s : Shared} {K : Frag} {x y C D f : Addr} {ox oy : Obj} {od oe : Option Obj} {nm : String}
abbrev Later (s s' : Shared) : Prop := ∃ h' tk, s' = { s with heap := h', toks := tk } ∧ ∀ b o, s.heap.get? b = some o → h'.get? b = some o
theorem Later.refl : Later s s := ⟨s.heap, s.toks, rfl, fun _ _ e => e⟩
theorem differs_no {Q : Bool → Shared → Prop} (X : K.In s.heap) (T : Two K nm C D f) (L : Lacks K D (dunderR nm)) (hh : A.handled = none) (short : (dunderR nm).length ≤ sizeLine) (h : ∀ s', Later s s' → Q false s') : wpAny (model prog w) A (reflectedDiffers (.ref C) (.ref D) nm) Q E s := by
  obtain ⟨hp, g, d, t, os⟩ := s
  obtain ⟨g', fD⟩ := T.fD
  have L1 : Looks (model prog w) hp (numberSlotInPython (.ref C) nm) true := ksp_inPy X T.fC T.rC (.inl rfl)
  have L2 : Looks (model prog w) hp (numberSlotInPython (.ref D) nm) true := ksp_inPy X fD T.rD (.inl rfl)
  unfold reflectedDiffers
  refine wpAny_bind (L1.at ?_)
  rw [if_neg (by decide)]
  refine wpAny_bind (L2.at ?_)
  rw [if_neg (by decide)]
  refine wpAny_bind (wpAny_mkStr ?_ short)
  refine wpAny_bind (miss_q X L hh fun h' tk k => ?_)
  exact wpAny_pure (h _ ⟨h', tk, rfl, k⟩)
theorem differs_yes {Q : Bool → Shared → Prop} (X : K.In s.heap) (T : Two K "or" C D f) (ne : C ≠ D) (oc : ∃ oc, K.lookup C = some oc ∧ oc.cls ≠ .type "tuple") (od : ∃ od, K.lookup D = some od ∧ od.cls ≠ .type "tuple") (rC : readsIn K C (.type "type") = true) (rD : readsIn K D (.type "type") = true)
    (cC : findCls K (.ref C) (.type "type") "__ror__" = some (.get (.builtin "wrapper_descriptor.__get__") (.builtin "type.__ror__") (.ref C) (.type "type")))
    (cD : findCls K (.ref D) (.type "type") "__ror__" = some (.get (.builtin "wrapper_descriptor.__get__") (.builtin "type.__ror__") (.ref D) (.type "type")))
    (hu : A.units < cLine) (h : ∀ s', Later s s' → Q true s') : wpAny (model prog w) A (reflectedDiffers (.ref C) (.ref D) "or") Q E s := by
  obtain ⟨hp, g, d, t, os⟩ := s
  obtain ⟨g', fD⟩ := T.fD
  obtain ⟨oc, hoc, tC⟩ := oc
  obtain ⟨od, hod, tD⟩ := od
  have L1 : Looks (model prog w) hp (numberSlotInPython (.ref C) "or") true := ksp_inPy X T.fC T.rC (.inl rfl)
  have L2 : Looks (model prog w) hp (numberSlotInPython (.ref D) "or") true := ksp_inPy X fD T.rD (.inl rfl)
  unfold reflectedDiffers
  refine wpAny_bind (L1.at ?_)
  rw [if_neg (by decide)]
  refine wpAny_bind (L2.at ?_)
  rw [if_neg (by decide)]
  refine wpAny_bind (wpAny_mkStr ?_ (by size_fits))
  have k1 : ∀ b o, hp.get? b = some o → (hp.push (rorO D)).get? b = some o := fun b o e => Heap.get?_push_of_some _ e
  refine wpAny_bind (ror_of (s := ⟨hp, g, d, t + 1, os⟩) X rD cD ?_)
  refine wpAny_holding (wpAny_bind (ror_of (s := ⟨hp.push (rorO D), g, d, t + 1, os⟩) (X.keeps k1) rC cC ?_))
  have k2 : ∀ b o, (hp.push (rorO D)).get? b = some o → ((hp.push (rorO D)).push (rorO C)).get? b = some o := fun b o e => Heap.get?_push_of_some _ e
  have at1 : ((hp.push (rorO D)).push (rorO C)).get? hp.objs.size = some (rorO D) := k2 _ _ (Heap.get?_push_size _ rfl)
  have at2 : ((hp.push (rorO D)).push (rorO C)).get? (hp.push (rorO D)).objs.size = some (rorO C) := Heap.get?_push_size _ rfl
  have ne2 : (hp.push (rorO D)).objs.size ≠ hp.objs.size := by rw [Heap.size_push]; omega
  refine wpAny_holding (wpAny_bind (wpAny_isSame_ref_other ne2 at2 at1 (by intro z; injection z with z; exact absurd z (by decide)) ?_))
  rw [if_neg (by decide)]
  refine wpAny_bind (ne_ror hu at2 at1 ne (k2 _ _ (k1 _ _ (X _ _ hoc))) (k2 _ _ (k1 _ _ (X _ _ hod))) tC ?_)
  exact wpAny_pure (h _ ⟨_, _, rfl, fun b o e => k2 _ _ (k1 _ _ e)⟩)
/-- the operator as the left one's text says it, in a heap that may have grown -/
theorem two_bin {op : Operator} {sym : String} {Q : Value → Shared → Prop} (hi : op.info = (sym, nm)) (X : K.In s.heap) (T : Two K nm C D f) (I : InstAt s.heap x ox C od) (J : InstAt s.heap y oy D oe) (hh : A.handled = none) (hu : A.units < cLine) (short : (dunderR nm).length ≤ sizeLine)
    (h : ∀ s', Later s s' → wpAny (model prog w) A (call (.ref f) [.ref x, .ref y]) (W.CmpBack Q) E s') : wpAny (model prog w) A (binaryOp op (.ref x) (.ref y)) Q E s := by
  obtain ⟨hp, g, d, t, os⟩ := s
  obtain ⟨g', fD⟩ := T.fD
  obtain ⟨cdC, restC, hcC, hmC⟩ := ksp_first T.firstC
  obtain ⟨cdD, restD, hcD, hmD⟩ := ksp_first T.firstD
  have L1 : Looks (model prog w) hp (typeOf (.ref x)) (.ref C) := I.type
  have L2 : Looks (model prog w) hp (typeOf (.ref y)) (.ref D) := J.type
  have L3 : Looks (model prog w) hp (fillsNumberSlot (.ref C) nm) true := fills_K X hcC hmC T.fC
  have L4 : Looks (model prog w) hp (fillsNumberSlot (.ref D) nm) true := fills_K X hcD hmD fD
  have one : ∀ s', Later ⟨hp, g, d, t, os⟩ s' → wpAny (model prog w) A (tryMethod (.ref x) (PySem.dunder nm) (.ref y)) (fun r s' => ∃ v, r = some v ∧ Q v s') E s' := by
    intro s' l
    obtain ⟨h', tk, rfl, k⟩ := l
    exact ksp_try (X.keeps k) (inst_on k I) T.fC T.fn (h _ ⟨h', tk, rfl, k⟩)
  simp only [binaryOp, hi]
  refine wpAny_holding (wpAny_bind ?_)
  unfold binaryOp1
  refine wpAny_bind (L1.at (wpAny_bind (L2.at (wpAny_bind (L3.at ?_)))))
  by_cases same : C = D
  · subst same
    simp only [beq_self_eq_true, if_true]
    refine wpAny_bind (wpAny_pure ?_)
    simp only [Bool.and_false, Bool.false_eq_true, if_false, Bool.false_and]
    refine wpAny_bind (wpAny_pure ?_)
    simp only [Bool.false_eq_true, if_false]
    refine wpAny_bind (wpAny_mono (one _ .refl) (fun r s' z => ?_) fun _ _ e => e)
    obtain ⟨v, rfl, hq⟩ := z
    ksp_lk
    exact hq
  have hne : (Value.ref C == Value.ref D) = false := Bool.eq_false_iff.mpr fun q => same (Value.ref.inj (beq_iff_eq.mp q))
  have L6 : Looks (model prog w) hp (numberSlotInPython (.ref C) nm) true := ksp_inPy X T.fC T.rC (.inl rfl)
  have L7 : Looks (model prog w) hp (numberSlotInPython (.ref D) nm) true := ksp_inPy X fD T.rD (.inl rfl)
  simp only [hne, Bool.false_eq_true, if_false]
  rcases T.rel with rel | rel | ⟨rel, rel2⟩
  · exact absurd rel same
  · have L5 : Looks (model prog w) hp (isSubtype (.ref D) (.ref C)) false := looks_subIn X rel
    ksp_lk
    refine wpAny_mono (one _ .refl) (fun r s' z => ?_) fun _ _ e => e
    obtain ⟨v, rfl, hq⟩ := z
    ksp_lk
    exact hq
  · have L5 : Looks (model prog w) hp (isSubtype (.ref D) (.ref C)) true := looks_subIn X rel
    refine wpAny_bind (L4.at ?_)
    simp only [Bool.and_self, if_true]
    refine wpAny_bind (L5.at ?_)
    rw [if_pos rfl]
    rcases rel2 with L | ⟨rfl, -, oc, od', rC, rD, cC, cD⟩
    · refine wpAny_bind (differs_no X T L hh short fun s1 l1 => ?_)
      have one1 := one s1 l1
      obtain ⟨h', tk, rfl, k⟩ := l1
      have M6 := L6.keeps k
      have M7 := L7.keeps k
      ksp_lk
      refine wpAny_mono one1 (fun r s' z => ?_) fun _ _ e => e
      obtain ⟨v, rfl, hq⟩ := z
      ksp_lk
      exact hq
    · refine wpAny_bind (differs_yes X T same oc od' rC rD cC cD hu fun s1 l1 => ?_)
      have one1 := one s1 l1
      obtain ⟨h', tk, rfl, k⟩ := l1
      have M2 := L2.keeps k
      have M8 : Looks (model prog w) h' (typeLookup (.ref D) (dunderR "or")) none := looks_findIn (X.keeps k) T.rD
      rw [if_pos rfl]
      refine wpAny_bind (wpAny_rule ?_)
      have none1 : ∀ P : Option Value → Shared → Prop, P none ⟨h', g, d, tk, os⟩ → wpAny (model prog w) A (tryMethod (.ref y) (dunderR "or") (.ref x)) P E ⟨h', g, d, tk, os⟩ := by
        intro P q
        unfold tryMethod callSpecial? specialOf
        exact wpAny_bind (wpAny_bind (wpAny_bind (M2.at (M8.at (wpAny_pure (wpAny_pure q))))))
      refine wpAny_bind (none1 _ ?_)
      dsimp only
      rw [if_neg (by decide)]
      refine wpAny_bind (wpAny_pure ?_)
      simp only [Bool.false_eq_true, if_false, if_true]
      refine wpAny_mono (wpAny_bind (wpAny_mono one1 (fun r s' z => ?_) fun _ _ e => e)) (fun r s' z => z) fun _ _ e => e
      obtain ⟨v, rfl, hq⟩ := z
      exact wpAny_pure (wpAny_pure hq)
end
end Own

namespace Own
open PySem L2 PyProof.Rows
section
variable {X : Cx} {CX : CXT} {k : Nat} {f : Addr} {fd : FuncData} {ps : List Str} {sp : Sp} {nm sym : String} {op : Operator}
theorem ins_inst {pins : List (Addr × Obj)} {σ : L2.St} {H : Hp} {s : Shared} {a C dx : Addr} {fs : List (Str × V)} (I : L2.Inv X pins σ H s) (h : H a = some (.ins C dx fs)) : ∃ ox od, PySem.W.InstAt s.heap a ox C od := by
  obtain ⟨mA, J, _⟩ := ins_get I.hok h
  obtain ⟨od, J, _⟩ := J.look
  exact ⟨_, _, J⟩
/-- x op y of two own objects, by the def at f -/
def rTwo (K : PySem.W.Frag) (nm : String) (f : Addr) (sp : Sp) (E : XK) : R2 := fun x y H Q => ∃ (a b C D dx dy : Addr) (fs gs : List (Str × V)), x = .ref a ∧ y = .ref b ∧ H a = some (.ins C dx fs) ∧ H b = some (.ins D dy gs) ∧ Two K nm C D f ∧ sp [.ref a, .ref b] H Q E
theorem run_two {pins : List (Addr × Obj)} {σ : L2.St} {H : Hp} {s : Shared} {Q : VK} {E : XK} {us : List Value} {vs : List V} (F : FnOk X.prog X.w X.K X.mg X.base CX k f fd ps sp) (room : Room k X.A) (B : Binds X.K fd ps []) (hx : PassesAt CX X σ E)
    (I : L2.Inv X pins σ H s) (r : Vals vs us) (h : sp vs H Q E) : wpAny (model X.prog X.w) X.A (call (.ref f) us) (PySem.W.CmpBack (EP X pins σ Q)) X.xe s := by
  have len : us.length = ps.length := by rw [← r.length]; exact F.len _ _ _ _ h
  have bnd := B s us I.kIn (by rw [List.append_nil]; exact len)
  rw [List.append_nil] at bnd
  refine wpAny_call (codeAny_mono (F.run X.A X.stack s H ⟨us, []⟩ us vs Q E room I.env0 bnd r h) fun r s' hq => ?_)
  match r, hq with
  | .error e, hq => exact hx pins H s e s' I hq
  | .ok (.ret u), hq =>
    obtain ⟨v, H', I', rv, q⟩ := I.after hq
    have nn : u ≠ .notImplemented := by
      intro z
      subst z
      cases v with
      | int i => obtain ⟨t, z⟩ := rv; cases z
      | str i => obtain ⟨t, z⟩ := rv; cases z
      | flt i => obtain ⟨t, z⟩ := rv; cases z
      | byt i => obtain ⟨t, z⟩ := rv; cases z
      | non => cases rv
      | bl b => cases rv
      | ref b => cases rv
      | ty b => cases rv
    show PySem.W.CmpBack (EP X pins σ Q) u s'
    unfold PySem.W.CmpBack
    split
    · exact absurd rfl nn
    · exact ⟨v, H', I', rv, q⟩
  | .ok .next, hq => exact hq.elim
  | .ok .brk, hq => exact hq.elim
  | .ok .cont, hq => exact hq.elim
theorem two_at {E : XK} {pins : List (Addr × Obj)} {s : Shared} {σ : L2.St} {H : Hp} {x y : V} {v u : Value} {Q : VK} (F : FnOk X.prog X.w X.K X.mg X.base CX k f fd ps sp) (room : Room k X.A) (hu : X.A.units < cLine) (hc : X.calm = true) (B : Binds X.K fd ps []) (hx : PassesAt CX X σ E) (hi : op.info = (sym, nm))
    (short : (PySem.dunderR nm).length ≤ sizeLine) (I : L2.Inv X pins σ H s) (rx : L2.RelV x v) (ry : L2.RelV y u) (h : rTwo X.K nm f sp E x y H Q) : wpAny (model X.prog X.w) X.A (binaryOp op v u) (EP X pins σ Q) X.xe s := by
  obtain ⟨a, b, C, D, dx, dy, fs, gs, rfl, rfl, ha, hb, T, h⟩ := h
  cases rx
  cases ry
  obtain ⟨ox, od, J⟩ := ins_inst I ha
  obtain ⟨oy, oe, J'⟩ := ins_inst I hb
  refine two_bin hi I.kIn T J J' (I.ok.hd hc) hu short fun s' l => ?_
  obtain ⟨h', tk, rfl, kp⟩ := l
  exact run_two F room B hx (I.kept (t' := tk) kp) (us := [.ref a, .ref b]) (vs := [.ref a, .ref b]) (.cons rfl (.cons rfl .nil)) h
/-- ~x of an own object -/
def rInv (K : PySem.W.Frag) (f : Addr) (sp : Sp) (E : XK) : V → Hp → VK → Prop := fun x H Q => ∃ (a C dx : Addr) (fs : List (Str × V)), x = .ref a ∧ H a = some (.ins C dx fs) ∧ PySem.W.findIn K (.ref C) "__invert__" = some (some (.ref f)) ∧ sp [.ref a] H Q E
theorem inv_at {E : XK} {pins : List (Addr × Obj)} {s : Shared} {σ : L2.St} {H : Hp} {x : V} {v : Value} {Q : VK} (F : FnOk X.prog X.w X.K X.mg X.base CX k f fd ps sp) (room : Room k X.A) (fn : PySem.W.isFn X.K (.ref f) = true) (B : Binds X.K fd ps []) (hx : PassesAt CX X σ E)
    (I : L2.Inv X pins σ H s) (rx : L2.RelV x v) (h : rInv X.K f sp E x H Q) : wpAny (model X.prog X.w) X.A (unaryOp .Invert v) (EP X pins σ Q) X.xe s := by
  obtain ⟨a, C, dx, fs, rfl, ha, fi, h⟩ := h
  cases rx
  obtain ⟨ox, od, J⟩ := ins_inst I ha
  obtain ⟨m, Fr⟩ := I.fr
  refine PySem.W.ksp_inv Fr I.ok.mod.kin J fi fn ?_
  refine wpAny_mono (run_two F room B hx I (us := [.ref a]) (vs := [.ref a]) (.cons rfl .nil) h) (fun v s' z => ?_) fun _ _ e => e
  unfold PySem.W.CmpBack at z
  split at z
  · exact z.elim
  · exact z
end
end Own

namespace Own
open PySem L2 PyProof.Rows
section
variable (K : PySem.W.Frag) {X : Cx} {CX : CXT} {k : Nat} {f : Addr} {fd : FuncData} {ps : List Str} {sp : Sp} {E : XK} {o e : Expr} {es : List Expr} {m : Str} {ta : TE} {t : TA} {pos apos : Pos}
/-- o.m(..), o an object of any class whose m is the def at f -/
def tMethA (K : PySem.W.Frag) (f : Addr) (m : Str) (sp : Sp) (W : L2.St → XK) (ta : TE) (t : TA) : TE := fun σ H Q => ta σ H fun x H1 => ∃ (a C dx : Addr) (fs : List (Str × V)), x = .ref a ∧ H1 a = some (.ins C dx fs) ∧ fs.lookup m = none ∧ Cls K C ∧ Meth K C m f ∧
  t σ H1 fun vs H2 => sp (x :: vs) H2 Q (W σ)
theorem run_fnS {pins : List (Addr × Obj)} {σ : L2.St} {H : Hp} {s : Shared} {Q : VK} {us : List Value} {vs : List V} (F : FnOk X.prog X.w X.K X.mg X.base CX k f fd ps sp) (room : Room k X.A) (B : Binds X.K fd ps []) (hx : PassesAt CX X σ E) (I : L2.Inv X pins σ H s) (r : Vals vs us) (h : sp vs H Q E) :
    wpAny (model X.prog X.w) X.A (call (.ref f) us) (EP X pins σ Q) X.xe s := by
  refine run_fnSD (dvs := []) (ds := []) (E := fun _ => E) F room B .nil hx I r ?_
  rw [List.append_nil]
  exact h
theorem pe_methA {W : L2.St → XK} {pl : Sem Bool} (he : PE X o ta) (keep : PySem.W.keepIn X.K (.ref f) = true) (F : FnOk X.prog X.w X.K X.mg X.base CX k f fd ps sp) (room : Room k X.A) (B : Binds X.K fd ps []) (hx : ∀ σ, PassesAt CX X σ (W σ)) (ha : PA X (e :: es) t)
    (each : starEach (e :: es) X.env = (false, eval e X.env) :: starEach es X.env := by rfl) (plain : (backTo pos (starEach es X.env)).any (·.1) = false := by rfl)
    (shape : eval (.Call (.Attribute o m apos) (e :: es) [] pos) X.env = (do
      let ov ← eval o X.env
      standAt apos.atName
      let (f, first) ← holding [ov] (getMethod ov m pl)
      callWith pos f first (backTo pos (starEach (e :: es) X.env)) (backToKw pos (keywordEach [] X.env))) := by rfl) (hK : X.K = K := by rfl) :
    PE X (.Call (.Attribute o m apos) (e :: es) [] pos) (tMethA K f m sp W ta t) := by
  subst hK
  constructor
  intro pins s σ H Q I h
  refine PySem.W.methodCall_KW (pl := pl) (thn (he.run pins s σ H _ I h) fun u s1 ⟨x, H1, I1, rx, a, C, dx, fs, ex, ea, l, c, hm, q⟩ => ?_) shape
  subst ex
  obtain rfl : u = Value.ref a := rx
  refine getmeth_ok I1 ea c hm l ?_
  refine PySem.W.callWith_K (first := [.ref a]) (h₀ := X.base) I.ok.mod.kin keep (thn (ha.run pos pins s1 σ H1 _ I1 q) fun us s2 ⟨vs, H2, I2, r, q2⟩ => ⟨I2.kIn, ?_⟩) each plain
  exact run_fnS (us := .ref a :: us) (vs := .ref a :: vs) F room B (hx σ) I2 (.cons rfl r) q2
theorem pe_methA0 {W : L2.St → XK} {pl : Sem Bool} (he : PE X o ta) (keep : PySem.W.keepIn X.K (.ref f) = true) (F : FnOk X.prog X.w X.K X.mg X.base CX k f fd ps sp) (room : Room k X.A) (B : Binds X.K fd ps []) (hx : ∀ σ, PassesAt CX X σ (W σ))
    (shape : eval (.Call (.Attribute o m apos) [] [] pos) X.env = (do
      let ov ← eval o X.env
      standAt apos.atName
      let (f, first) ← holding [ov] (getMethod ov m pl)
      callWith pos f first (backTo pos (starEach [] X.env)) (backToKw pos (keywordEach [] X.env))) := by rfl) (hK : X.K = K := by rfl) :
    PE X (.Call (.Attribute o m apos) [] [] pos) (tMethA K f m sp W ta tNil) := by
  subst hK
  constructor
  intro pins s σ H Q I h
  refine PySem.W.methodCall_KW (pl := pl) (thn (he.run pins s σ H _ I h) fun u s1 ⟨x, H1, I1, rx, a, C, dx, fs, ex, ea, l, c, hm, q⟩ => ?_) shape
  subst ex
  obtain rfl : u = Value.ref a := rx
  refine getmeth_ok I1 ea c hm l ?_
  exact PySem.W.callWith_K0 (first := [.ref a]) I1.kIn keep (run_fnS (us := [.ref a]) (vs := [.ref a]) F room B (hx σ) I1 (.cons rfl .nil) q)
theorem passAll {W : XK} (h : Passes CX X W) : ∀ σ : L2.St, PassesAt CX X σ ((fun _ => W) σ) := fun σ pins H s e s' I c => h pins σ H s e s' I c
end
end Own

namespace Own
open PySem L2 PyProof.Rows
section
variable (K : PySem.W.Frag) {X : Cx} {CX : CXT} {k : Nat} {f : Addr} {fd : FuncData} {ps : List Str} {sp : Sp} {E : XK} {o e value a b : Expr} {es : List Expr} {m fl : Str} {ta tb tv : TE} {t : TA} {pos pos' apos : Pos} {W : L2.St → XK} {on sym : String} {op : Operator}
theorem pe_fldC (he : PE X e ta) (hb : attributeBase e fl X.env (eval e X.env) = eval e X.env := by rfl) (h : X.K = K := by rfl) : PE X (.Attribute e fl pos) (tFld K ta fl) := h ▸ pe_fld he hb
theorem ps_fldC (ha : PE X o ta) (hv : PE X value tv) (hs : swapsWith value (some (.Attribute o fl pos')) pos.line X.env = pure false) (h : X.K = K := by rfl) : PS X (.Assign [.Attribute o fl pos'] value pos) (sFld K ta tv fl) := h ▸ ps_fld ha hv hs
theorem ix_kdictC (w : World) (h : X.K = K := by rfl) (hw : X.w = w := by rfl) : IxR X (rIxD K w) := h ▸ hw ▸ ix_kdict
/-- a op b of two own objects, what it raises wished for at the caller's slots -/
def tOp2S (K : PySem.W.Frag) (on : String) (f : Addr) (sp : Sp) (W : L2.St → XK) (ta tb : TE) : TE := fun σ H Q => ta σ H fun x H1 => tb σ H1 fun y H2 => rTwo K on f sp (W σ) x y H2 Q
theorem pe_opS (F : FnOk X.prog X.w X.K X.mg X.base CX k f fd ps sp) (room : Room k X.A) (hu : X.A.units + 64 < cLine) (hc : X.calm = true) (B : Binds X.K fd ps []) (hx : ∀ σ, PassesAt CX X σ (W σ)) (hi : op.info = (sym, on)) (short : (PySem.dunderR on).length ≤ sizeLine) (ha : PE X a ta) (hb : PE X b tb) (h : X.K = K := by rfl) :
    PE X (.BinOp a op b pos) (tOp2S K on f sp W ta tb) := by
  subst h
  constructor
  intro pins s σ H Q I q
  exact wpAny_BinOp (binT ha hb I (R := fun x y H2 => rTwo X.K on f sp (W σ) x y H2 Q) q fun v u s2 x y H2 I2 rx ry q => two_at F room (by omega) hc B (hx σ) hi short I2 rx ry q)
/-- ~a of an own object, likewise -/
def tInvS (K : PySem.W.Frag) (f : Addr) (sp : Sp) (W : L2.St → XK) (ta : TE) : TE := fun σ H Q => ta σ H fun x H1 => rInv K f sp (W σ) x H1 Q
theorem pe_invS (F : FnOk X.prog X.w X.K X.mg X.base CX k f fd ps sp) (room : Room k X.A) (fn : PySem.W.isFn X.K (.ref f) = true) (B : Binds X.K fd ps []) (hx : ∀ σ, PassesAt CX X σ (W σ)) (ha : PE X a ta) (h : X.K = K := by rfl) : PE X (.UnaryOp .Invert a pos) (tInvS K f sp W ta) := by
  subst h
  constructor
  intro pins s σ H Q I q
  exact UnaryOp_ (thn (ha.run pins s σ H _ I q) fun v s1 ⟨x, H1, I1, r1, q1⟩ => inv_at F room fn B (hx σ) I1 r1 q1)
end
end Own

namespace Own
open PySem L2 PySem.Spec PyProof.Rows
section
variable {X : Cx}
def isS : V → Bool
  | .str _ => true
  | _ => false
/-- x not in ts, ts a tuple of texts: x is flat, or a tuple or a list -/
def rNotInS (K : PySem.W.Frag) : R2 := fun x y H Q => rIn K true x y H Q ∨ ∃ (a p : Addr) (zs xs : List V), x = .ref a ∧ y = .ref p ∧ (SqL K H a zs ∨ SqT K H a zs) ∧ SqT K H p xs ∧ xs.all isS = true ∧ Q (.bl true) H
theorem op_notInS (K : PySem.W.Frag) (hu : X.A.units + 64 < cLine) (h : X.K = K := by rfl) : OpR X (compareOp .NotIn) (rNotInS K) := by
  subst h
  intro pins s σ H x y v u Q I rx ry r
  rcases r with r | ⟨a, p, zs, xs, rfl, rfl, ha, hp, al, q⟩
  · exact op_notIn_seq pins s σ H x y v u Q I rx ry r
  · cases rx
    cases ry
    obtain ⟨its, rv, pl, hz⟩ := I.tuple hp
    have strz : ∀ {xs : List V} {us : List Value}, Vals xs us → xs.all isS = true → ∀ u ∈ us, ∃ z t, u = .str z t := by
      intro xs us r
      induction r with
      | nil => intro _ u hu; cases hu
      | @cons y u ys us r t ih =>
        intro f u' hu
        rw [List.all_cons, Bool.and_eq_true] at f
        rcases List.mem_cons.mp hu with rfl | hu
        · cases y with
          | str z => obtain ⟨t, e⟩ := r; exact ⟨z, t, e⟩
          | _ => exact absurd (show false = true from f.1) Bool.false_ne_true
        · exact ih f.2 u' hu
    have hu' : X.A.units < cLine := by omega
    refine SeqAt.notIn_tupleAt (fun _ => false) pl (fun w hw => ?_) ⟨.bl _, H, I, rfl, ?_⟩
    · obtain ⟨z, t, rfl⟩ := strz rv al w (by simpa using hw)
      rcases ha with ha | ha
      · obtain ⟨its2, _, pl2, _⟩ := I.list ha
        exact SeqAt.EqAt.str_list z t pl2.isList (by first | exact hu' | (show X.A.units + 0 < _; omega) | (show X.A.units + 1 < _; omega))
      · obtain ⟨its2, _, pl2, _⟩ := I.tuple ha
        exact SeqAt.EqAt.str_tuple z t pl2 (by first | exact hu' | (show X.A.units + 0 < _; omega) | (show X.A.units + 1 < _; omega))
    · have e : (its.toArray.any fun _ => false) = false := by simp
      rw [e]
      exact q
end
end Own

namespace PySem
section
variable {prog : Program} {w : World} {A : Around} {E : Value → Shared → Prop} {s : Shared} {l : Addr} {xs : Array (Int × Tok)}
theorem sum_intTupG {Q : Value → Shared → Prop} (hh : A.handled = none) (hl : s.heap.IsTuple l (intItems xs))
    (h : ∀ h' tk t', (∀ b o, s.heap.get? b = some o → h'.get? b = some o) → Q (.int (preSum (numAt xs) xs.size) t') { s with heap := h', toks := tk }) :
    wpAny (model prog w) A (call (.builtin "sum") [.ref l]) Q E s := by
  have hlt : l < s.heap.objs.size := by obtain ⟨_, e, _⟩ := hl; exact Heap.lt_size e
  refine call_sum_walkG (wpAny_pyIter_tuple hl ?_)
  refine ⟨_, _, _, _, _, _, numAt xs, rfl, Walks.tuple (A := A.in1) hh _ l (Nat.ne_of_lt hlt) (intItems xs), ⟨⟨_, Heap.get?_push_size _ rfl, rfl, rfl⟩, hl.push _⟩, fun b hb => ?_, (fun _ _ => intItems_at), fun h' tk t' hk => ?_⟩
  · show b < (s.heap.push _).objs.size
    rw [Heap.size_push]
    rcases List.mem_cons.mp hb with rfl | hb
    · exact Nat.lt_succ_self _
    · rcases List.mem_cons.mp hb with rfl | hb
      · exact Nat.lt_succ_of_lt hlt
      · cases hb
  · have := h h' tk t' fun b o e => by
      refine hk b o (fun hm => ?_) (Heap.get?_push_of_some _ e)
      rcases List.mem_cons.mp hm with e1 | hm
      · exact absurd (e1 ▸ Heap.lt_size e) (Nat.lt_irrefl _)
      · cases hm
    simpa [intItems] using this
end
end PySem
namespace Own
open PySem L2 PySem.Spec PyProof.Rows
section
variable {prog : Program} {w : World} {A : Around} {E : Value → Shared → Prop} {s : Shared} {l : Addr} {its : List Value} {ns : List Int} {Q : Value → Shared → Prop}
theorem sum_rawT (hh : A.handled = none) (hl : s.heap.IsTuple l its.toArray) (hi : IntsAre its ns)
    (h : ∀ h' tk t', (∀ b o, s.heap.get? b = some o → h'.get? b = some o) → Q (.int ns.sum t') { s with heap := h', toks := tk }) : wpAny (model prog w) A (call (.builtin "sum") [.ref l]) Q E s := by
  obtain ⟨xs, e⟩ := hi.allInts.items
  have hn : numsOf (intItems xs).toList = ns := by rw [← e]; exact hi.numsOf
  rw [nums_intItems] at hn
  rw [e] at hl
  refine PySem.sum_intTupG hh hl fun h' tk t' hk => ?_
  have := h h' tk t' hk
  rw [preSum_eq, List.take_of_length_le (by simp), hn]; exact this
end
section
variable {X : Cx} {K : PySem.W.Frag} {H : Hp} {Q : VK}
/-- sum(xs), xs a list or a tuple of ints -/
def rSumQ (K : PySem.W.Frag) : List V → Hp → VK → Prop := fun vs H Q => ∃ (a : Addr) (ns : List Int), vs = [V.ref a] ∧ Sq H a (ns.map V.int) ∧ Q (.int ns.sum) H
theorem cr_sumQ (K : PySem.W.Frag) (hc : X.calm = true) (hK : X.K = K := by rfl) : CallR X (.builtin "sum") (rSumQ K) := by
  subst hK
  intro pins s σ H vs us Q I r h
  obtain ⟨a, ns, rfl, hs | hs, q⟩ := h
  · exact cr_sum hc pins s σ H _ us Q I r ⟨a, ns, rfl, SqL.of hs, q⟩
  · obtain ⟨its, rv, pl, _⟩ := I.tuple (SqT.of hs)
    rw [Vals.ref1 r]
    exact sum_rawT (I.ok.hd hc) pl rv.ints fun h' tk t' hk => ⟨.int _, H, I.kept hk, ⟨_, rfl⟩, q⟩
theorem r_sumQ {a : Addr} {ns : List Int} (h : Sq H a (ns.map V.int)) (q : Q (.int ns.sum) H) : rSumQ K [.ref a] H Q := ⟨a, ns, rfl, h, q⟩
/-! fields -/
theorem putF_new {f : Str} {v : V} : ∀ {fs : List (Str × V)}, fs.lookup f = none → putF f v fs = fs ++ [(f, v)]
  | [], _ => rfl
  | (g, x) :: r, h => by
    by_cases e : f = g
    · subst e
      simp [List.lookup] at h
    · have hb : (f == g) = false := beq_eq_false_iff_ne.mpr e
      have h2 : r.lookup f = none := by simpa [List.lookup, hb] using h
      show (if g = f then (g, v) :: r else (g, x) :: putF f v r) = _
      rw [if_neg (fun z => e z.symm), putF_new h2]
      rfl
theorem lookup_app {f : Str} {gs : List (Str × V)} : ∀ {fs : List (Str × V)}, fs.lookup f = none → (fs ++ gs).lookup f = gs.lookup f
  | [], _ => rfl
  | (g, x) :: r, h => by
    cases hb : (f == g) with
    | true => simp [List.lookup, hb] at h
    | false =>
      have h2 : r.lookup f = none := by simpa [List.lookup, hb] using h
      show List.lookup f ((g, x) :: (r ++ gs)) = _
      simp only [List.lookup, hb]
      exact lookup_app h2
theorem lookup_appS {f : Str} {v : V} {gs : List (Str × V)} : ∀ {fs : List (Str × V)}, fs.lookup f = some v → (fs ++ gs).lookup f = some v
  | (g, x) :: r, h => by
    cases hb : (f == g) with
    | true =>
      simp only [List.lookup, hb] at h
      show List.lookup f ((g, x) :: (r ++ gs)) = _
      simp only [List.lookup, hb]
      exact h
    | false =>
      have h2 : r.lookup f = some v := by simpa [List.lookup, hb] using h
      show List.lookup f ((g, x) :: (r ++ gs)) = _
      simp only [List.lookup, hb]
      exact lookup_appS h2
variable {σ : L2.St} {D : Ends} {ta tv : TE} {f : Str}
theorem r_fld (h : ta σ H fun x H1 => ∃ a C dx fs v, x = .ref a ∧ H1 a = some (.ins C dx fs) ∧ Cls K C ∧ NoAttr K C f ∧ fs.lookup f = some v ∧ Q v H1) : tFld K ta f σ H Q := h
theorem r_fldV {R : V → Prop} {a C dx : Addr} {fs : List (Str × V)} {v : V} (h : H a = some (.ins C dx fs)) (c : Cls K C) (n : NoAttr K C f) (l : fs.lookup f = some v) (q : R v) :
    ∃ a' C dx fs v, V.ref a = .ref a' ∧ H a' = some (.ins C dx fs) ∧ Cls K C ∧ NoAttr K C f ∧ fs.lookup f = some v ∧ R v := ⟨a, C, dx, fs, v, rfl, h, c, n, l, q⟩
theorem r_sfld (h : tv σ H fun y H1 => ta σ H1 fun x H2 => ∃ a C dx fs, x = .ref a ∧ H2 a = some (.ins C dx fs) ∧ Cls K C ∧ NoAttr K C f ∧ fs.length < 1000 ∧ D.nx σ (upd H2 a (.ins C dx (putF f y fs)))) : sFld K ta tv f D σ H := h
theorem r_sfldV {a C dx : Addr} {fs : List (Str × V)} {y : V} (h : H a = some (.ins C dx fs)) (c : Cls K C) (n : NoAttr K C f) (z : fs.length < 1000) (l : fs.lookup f = none) (q : D.nx σ (upd H a (.ins C dx (fs ++ [(f, y)])))) :
    ∃ a' C dx fs, V.ref a = .ref a' ∧ H a' = some (.ins C dx fs) ∧ Cls K C ∧ NoAttr K C f ∧ fs.length < 1000 ∧ D.nx σ (upd H a' (.ins C dx (putF f y fs))) := ⟨a, C, dx, fs, rfl, h, c, n, z, by rw [putF_new l]; exact q⟩
theorem r_sfldA {a C dx : Addr} {fs gs : List (Str × V)} {y : V} (c : Cls K C) (n : NoAttr K C f) (z : fs.length ≤ 100) (zg : gs.length ≤ 100) (l : fs.lookup f = none) (lg : gs.lookup f = none) (q : D.nx σ (upd H a (.ins C dx (fs ++ (gs ++ [(f, y)]))))) :
    ∃ a' C' dx' fs', V.ref a = .ref a' ∧ (upd H a (.ins C dx (fs ++ gs))) a' = some (.ins C' dx' fs') ∧ Cls K C' ∧ NoAttr K C' f ∧ fs'.length < 1000 ∧ D.nx σ (upd (upd H a (.ins C dx (fs ++ gs))) a' (.ins C' dx' (putF f y fs'))) := by
  refine ⟨a, C, dx, fs ++ gs, rfl, upd_same, c, n, by rw [List.length_append]; omega, ?_⟩
  rw [putF_new (by rw [lookup_app l]; exact lg), List.append_assoc]
  have e : upd (upd H a (.ins C dx (fs ++ gs))) a (.ins C dx (fs ++ (gs ++ [(f, y)]))) = upd H a (.ins C dx (fs ++ (gs ++ [(f, y)]))) := by
    funext b
    by_cases h : b = a
    · subst h
      rw [upd_same, upd_same]
    · rw [upd_ne h, upd_ne h, upd_ne h]
  rw [e]
  exact q
theorem upd_upd {a : Addr} {o o' : HO} : upd (upd H a o) a o' = upd H a o' := by
  funext b
  by_cases h : b = a
  · subst h
    rw [upd_same, upd_same]
  · rw [upd_ne h, upd_ne h, upd_ne h]
theorem upd_comm {a b : Addr} {o o' : HO} (ne : a ≠ b) : upd (upd H a o) b o' = upd (upd H b o') a o := by
  funext c
  by_cases h : c = a
  · subst h
    rw [upd_ne ne, upd_same, upd_same]
  · rw [upd_ne h]
    by_cases h2 : c = b
    · subst h2
      rw [upd_same, upd_same]
    · rw [upd_ne h2, upd_ne h2, upd_ne h]
end
end Own

namespace Own
open PySem L2
/-! values of any kind that a law hands in -/
def isI : V → Bool
  | .int _ => true
  | _ => false
def isB : V → Bool
  | .bl _ => true
  | _ => false
def Vk (H : Hp) (v : V) : Prop := (∃ z, v = .int z) ∨ (∃ b, v = .bl b) ∨ (∃ s, v = .str s) ∨ v = .non ∨ (∃ a xs, v = .ref a ∧ H a = some (.tup xs)) ∨ (∃ a xs, v = .ref a ∧ H a = some (.lst xs))
theorem Vk.ext {H H' : Hp} {v : V} (e : Ext H H') (h : Vk H v) : Vk H' v := by
  rcases h with h | h | h | h | ⟨a, xs, r, h⟩ | ⟨a, xs, r, h⟩
  · exact .inl h
  · exact .inr (.inl h)
  · exact .inr (.inr (.inl h))
  · exact .inr (.inr (.inr (.inl h)))
  · exact .inr (.inr (.inr (.inr (.inl ⟨a, xs, r, e _ _ h⟩))))
  · exact .inr (.inr (.inr (.inr (.inr ⟨a, xs, r, e _ _ h⟩))))
theorem Vk.int {H : Hp} (z : Int) : Vk H (.int z) := .inl ⟨z, rfl⟩
theorem Vk.ty {K : PySem.W.Frag} {H : Hp} {v : V} (h : Vk H v) : ∃ t, TyX K H v (.type t) ∧ kitB t "int" = some (isI v || isB v) ∧ kitB t "bool" = some (isB v) ∧ kitB t "str" = some (isS v) ∧ kitB t "list" = some (t == "list") ∧ kitB t "tuple" = some (t == "tuple") := by
  rcases h with ⟨z, rfl⟩ | ⟨z, rfl⟩ | ⟨z, rfl⟩ | rfl | ⟨a, xs, rfl, h⟩ | ⟨a, xs, rfl, h⟩
  · exact ⟨"int", .base (.int z), (by show kitB "int" "int" = some true; decide +kernel), (by show kitB "int" "bool" = some false; decide +kernel), (by show kitB "int" "str" = some false; decide +kernel), by decide +kernel, by decide +kernel⟩
  · exact ⟨"bool", .base (.bl z), (by show kitB "bool" "int" = some true; decide +kernel), (by show kitB "bool" "bool" = some true; decide +kernel), (by show kitB "bool" "str" = some false; decide +kernel), by decide +kernel, by decide +kernel⟩
  · exact ⟨"str", .base (.str z), (by show kitB "str" "int" = some false; decide +kernel), (by show kitB "str" "bool" = some false; decide +kernel), (by show kitB "str" "str" = some true; decide +kernel), by decide +kernel, by decide +kernel⟩
  · exact ⟨"NoneType", .base .non, by decide +kernel, by decide +kernel, by decide +kernel, by decide +kernel, by decide +kernel⟩
  · exact ⟨"tuple", .base (.tup h), (by show kitB "tuple" "int" = some false; decide +kernel), (by show kitB "tuple" "bool" = some false; decide +kernel), (by show kitB "tuple" "str" = some false; decide +kernel), by decide +kernel, by decide +kernel⟩
  · exact ⟨"list", .base (.lst h), (by show kitB "list" "int" = some false; decide +kernel), (by show kitB "list" "bool" = some false; decide +kernel), (by show kitB "list" "str" = some false; decide +kernel), by decide +kernel, by decide +kernel⟩
/-- a value that may be a list or tuple (of such values) -/
def Sh (H : Hp) (v : V) : Option (List V) → Prop
  | none => (∃ z, v = .int z) ∨ (∃ b, v = .bl b) ∨ (∃ s, v = .str s) ∨ v = .non
  | some xs => ∃ a, v = .ref a ∧ Sq H a xs ∧ xs.length ≤ 1000 ∧ ∀ x ∈ xs, Vk H x
theorem Sh.ext {H H' : Hp} {v : V} {sh : Option (List V)} (e : Ext H H') (h : Sh H v sh) : Sh H' v sh := by
  cases sh with
  | none => exact h
  | some xs =>
    obtain ⟨a, r, h, l, i⟩ := h
    exact ⟨a, r, h.ext e, l, fun x hx => (i x hx).ext e⟩
theorem Sh.vk {H : Hp} {v : V} {sh : Option (List V)} (h : Sh H v sh) : Vk H v := by
  cases sh with
  | none =>
    rcases h with h | h | h | h
    · exact .inl h
    · exact .inr (.inl h)
    · exact .inr (.inr (.inl h))
    · exact .inr (.inr (.inr (.inl h)))
  | some xs =>
    obtain ⟨a, rfl, h | h, -, -⟩ := h
    · exact .inr (.inr (.inr (.inr (.inr ⟨a, xs, rfl, h⟩))))
    · exact .inr (.inr (.inr (.inr (.inl ⟨a, xs, rfl, h⟩))))
def isSq : Option (List V) → Bool
  | none => false
  | some _ => true
theorem Sh.ty {K : PySem.W.Frag} {H : Hp} {v : V} {sh : Option (List V)} (h : Sh H v sh) : ∃ t, TyX K H v (.type t) ∧ ∃ b1 b2, kitB t "list" = some b1 ∧ kitB t "tuple" = some b2 ∧ isSq sh = (b1 || b2) := by
  cases sh with
  | none =>
    rcases h with ⟨z, rfl⟩ | ⟨z, rfl⟩ | ⟨z, rfl⟩ | rfl
    · exact ⟨"int", .base (.int z), false, false, by decide +kernel, by decide +kernel, rfl⟩
    · exact ⟨"bool", .base (.bl z), false, false, by decide +kernel, by decide +kernel, rfl⟩
    · exact ⟨"str", .base (.str z), false, false, by decide +kernel, by decide +kernel, rfl⟩
    · exact ⟨"NoneType", .base .non, false, false, by decide +kernel, by decide +kernel, rfl⟩
  | some xs =>
    obtain ⟨a, rfl, h | h, -, -⟩ := h
    · exact ⟨"list", .base (.lst h), true, false, by decide +kernel, by decide +kernel, rfl⟩
    · exact ⟨"tuple", .base (.tup h), false, true, by decide +kernel, by decide +kernel, rfl⟩
/-- isinstance(v, (list, tuple)) -/
theorem r_isiSq {K : PySem.W.Frag} {H : Hp} {v : V} {sh : Option (List V)} {tp : Addr} {Q : VK} (h : Sh H v sh) (ht : H tp = some (.tup [.ty "list", .ty "tuple"])) (q : Q (.bl (isSq sh)) H) : rIsiT K [v, .ref tp] H Q := by
  obtain ⟨t, ty, b1, b2, k1, k2, kk⟩ := h.ty (K := K)
  refine ⟨v, tp, [.ty "list", .ty "tuple"], .type t, [.type "list", .type "tuple"], isSq sh, rfl, ht, .cons (.ty _) (.cons (.ty _) .nil), ty, ?_, q⟩
  rw [kk]
  refine kitAny_cons (kit_ty k1) (fun h => ?_) (fun h => by rw [h]; rfl)
  rw [h]
  exact kitAny_cons (kit_ty k2) (fun h => by rw [h]; exact kitAny_nil) (fun h => by rw [h]; rfl)
def between (v : V) (a b : Int) : Bool := match v with
  | .int z => decide (a ≤ z ∧ z ≤ b)
  | _ => false
theorem between_int {v : V} {a b : Int} (h : between v a b = true) : ∃ z, v = .int z ∧ a ≤ z ∧ z ≤ b := by
  cases v with
  | int z => exact ⟨z, rfl, of_decide_eq_true h⟩
  | _ => cases h
theorem ints_of {xs : List V} (h : ∀ x ∈ xs, isI x = true) : ∃ ns : List Int, xs = ns.map V.int := by
  induction xs with
  | nil => exact ⟨[], rfl⟩
  | cons x r ih =>
    obtain ⟨ns, e⟩ := ih fun y hy => h y (List.mem_cons_of_mem _ hy)
    have hx := h x List.mem_cons_self
    cases x with
    | int z => exact ⟨z :: ns, by rw [e]; rfl⟩
    | _ => cases hx
def toI : V → Int
  | .int z => z
  | _ => 0
theorem map_toI (ns : List Int) : (ns.map V.int).map toI = ns := by
  rw [List.map_map]
  exact List.map_id' ns
/-! the weights -/
def sumW (xs : List V) : Int := (xs.map toI).sum
def goodW : Option (List V) → Bool
  | none => false
  | some xs => decide (1 ≤ xs.length ∧ xs.length ≤ 7) && (xs.all (between · 0 3) && decide (0 < sumW xs))
theorem goodW_ints {sh : Option (List V)} (h : goodW sh = true) : ∃ ns : List Int, sh = some (ns.map V.int) ∧ 1 ≤ ns.length ∧ ns.length ≤ 7 ∧ (∀ n ∈ ns, 0 ≤ n ∧ n ≤ 3) ∧ 0 < ns.sum := by
  cases sh with
  | none => cases h
  | some xs =>
    unfold goodW at h
    rw [Bool.and_eq_true, Bool.and_eq_true] at h
    obtain ⟨h1, h2, h3⟩ := h
    have h1 := of_decide_eq_true h1
    have h3 := of_decide_eq_true h3
    rw [List.all_eq_true] at h2
    obtain ⟨ns, rfl⟩ := ints_of (xs := xs) fun x hx => by
      obtain ⟨z, rfl, -⟩ := between_int (h2 x hx)
      rfl
    unfold sumW at h3
    rw [map_toI] at h3
    rw [List.length_map] at h1
    refine ⟨ns, rfl, h1.1, h1.2, fun n hn => ?_, h3⟩
    obtain ⟨z, e, q⟩ := between_int (h2 _ (List.mem_map_of_mem hn))
    cases e
    exact q
/-- the indexes of the weights that count -/
def used (ns : List Int) : List Int := List.map (fun k : Nat => (k : Int)) (List.filter (fun k : Nat => decide (0 < ns.getD k 0)) (List.range ns.length))
theorem used_mem {ns : List Int} {k : Int} (h : k ∈ used ns) : 0 ≤ k ∧ k < ns.length ∧ 0 < ns.getD k.toNat 0 := by
  unfold used at h
  obtain ⟨j, hj, rfl⟩ := List.mem_map.mp h
  rw [List.mem_filter, List.mem_range] at hj
  exact ⟨by omega, by omega, by have := of_decide_eq_true hj.2; simpa using this⟩
theorem used_ne {ns : List Int} (h : 0 < ns.sum) : used ns ≠ [] := by
  intro e
  have all : ∀ k, k < ns.length → ns.getD k 0 ≤ 0 := by
    intro k hk
    by_cases hp : 0 < ns.getD k 0
    · have : ((k : Nat) : Int) ∈ used ns := by
        unfold used
        exact List.mem_map.mpr ⟨k, List.mem_filter.mpr ⟨List.mem_range.mpr hk, decide_eq_true hp⟩, rfl⟩
      rw [e] at this
      cases this
    · omega
  have : ∀ ms : List Int, (∀ k, k < ms.length → ms.getD k 0 ≤ 0) → ms.sum ≤ 0 := by
    intro ms
    induction ms with
    | nil => intro _; exact Int.le_refl 0
    | cons m ms ih =>
      intro hm
      have h0 := hm 0 (by simp)
      have h1 := ih fun k hk => by
        have := hm (k + 1) (by simpa using hk)
        simpa using this
      rw [List.sum_cons]
      have h0 : m ≤ 0 := by simpa using h0
      omega
  have := this ns all
  omega
def usedF (ns : List Int) : Int := (used ns).headD 0
def usedL (ns : List Int) : Int := (used ns).getLastD 0
theorem used_at0 {ns : List Int} (h : used ns ≠ []) : atI ((used ns).map V.int) 0 = some (.int (usedF ns)) := by
  unfold usedF
  cases e : used ns with
  | nil => exact absurd e h
  | cons a r => exact atI_nat (j := 0) rfl
theorem used_at1 {ns : List Int} (h : used ns ≠ []) : atI ((used ns).map V.int) (-1) = some (.int (usedL ns)) := by
  unfold usedL
  obtain ⟨r, z, e⟩ : ∃ r z, used ns = r ++ [z] := ⟨(used ns).dropLast, (used ns).getLast h, (List.dropLast_concat_getLast h).symm⟩
  rw [e, List.map_append]
  rw [show (r ++ [z]).getLastD 0 = z by simp]
  exact atI_last _ _
theorem usedF_mem {ns : List Int} (h : used ns ≠ []) : usedF ns ∈ used ns := by
  unfold usedF
  cases e : used ns with
  | nil => exact absurd e h
  | cons a r => exact List.mem_cons_self
theorem usedL_mem {ns : List Int} (h : used ns ≠ []) : usedL ns ∈ used ns := by
  unfold usedL
  obtain ⟨r, z, e⟩ : ∃ r z, used ns = r ++ [z] := ⟨(used ns).dropLast, (used ns).getLast h, (List.dropLast_concat_getLast h).symm⟩
  rw [e, show (r ++ [z]).getLastD 0 = z by simp]
  exact List.mem_append_right _ List.mem_cons_self
/-- the reach of a sweep to the left and to the right -/
def leftOf (ns : List Int) (own : Int) : Int := if own - usedF ns > 0 then own - usedF ns else 0
def rightOf (ns : List Int) (own : Int) : Int := if usedL ns - own > 0 then usedL ns - own else 0
def writtenOf (ns : List Int) (own : Int) (way : Str) : Int := if way = "on" then leftOf ns own else if way = "back" then rightOf ns own else 0
theorem reach_le {ns : List Int} {own : Int} (h0 : 0 < ns.sum) (h7 : ns.length ≤ 7) (o0 : 0 ≤ own) (o1 : own < ns.length) : 0 ≤ leftOf ns own ∧ 0 ≤ rightOf ns own ∧ leftOf ns own + rightOf ns own ≤ 6 := by
  have a := used_mem (usedF_mem (used_ne h0))
  have b := used_mem (usedL_mem (used_ne h0))
  unfold leftOf rightOf
  refine ⟨by split <;> omega, by split <;> omega, ?_⟩
  split <;> split <;> omega
def optS : Option Str → V
  | none => .non
  | some s => .str s
theorem optS_non (o : Option Str) : decide (optS o = V.non) = o.isNone := by
  cases o with
  | none => rfl
  | some i => exact decide_eq_false (fun z => by cases z)
def ENDS : List V := [.str "held", .str "cut"]
def WAYS : List V := [.str "all", .str "on", .str "back"]
def lenW : Option (List V) → Int
  | none => 0
  | some xs => xs.length
def totW : Option (List V) → Int
  | none => 0
  | some xs => sumW xs
/-- the first wrong part of a sweep's arguments -/
def wrongPart (sh : Option (List V)) (r o e y : V) : Option Str :=
  if goodW sh = false then some "weights" else
  if between r 1 (totW sh) = false then some "rank" else
  if (!decide (o = V.non) && !between o 0 (lenW sh - 1)) = true then some "own" else
  if inV e ENDS = false then some "ends" else
  if inV y WAYS = false then some "way" else none
def ownOf (ns : List Int) (o : V) : Int := match o with
  | .int z => z
  | _ => ((ns.length : Int) - 1) / 2
theorem wrongPart_none {sh : Option (List V)} {r o e y : V} (h : wrongPart sh r o e y = none) : ∃ (ns : List Int) (k : Int) (es ys : Str), sh = some (ns.map V.int) ∧ 1 ≤ ns.length ∧ ns.length ≤ 7 ∧ (∀ n ∈ ns, 0 ≤ n ∧ n ≤ 3) ∧ 0 < ns.sum ∧ r = .int k ∧ 1 ≤ k ∧ k ≤ ns.sum ∧
    (o = .non ∨ ∃ z, o = .int z) ∧ 0 ≤ ownOf ns o ∧ ownOf ns o < ns.length ∧ e = .str es ∧ (es = "held" ∨ es = "cut") ∧ y = .str ys ∧ (ys = "all" ∨ ys = "on" ∨ ys = "back") := by
  unfold wrongPart at h
  by_cases h1 : goodW sh = false
  · rw [if_pos h1] at h; cases h
  rw [if_neg h1] at h
  by_cases h2 : between r 1 (totW sh) = false
  · rw [if_pos h2] at h; cases h
  rw [if_neg h2] at h
  by_cases h3 : (!decide (o = V.non) && !between o 0 (lenW sh - 1)) = true
  · rw [if_pos h3] at h; cases h
  rw [if_neg h3] at h
  by_cases h4 : inV e ENDS = false
  · rw [if_pos h4] at h; cases h
  rw [if_neg h4] at h
  by_cases h5 : inV y WAYS = false
  · rw [if_pos h5] at h; cases h
  rw [Bool.not_eq_false] at h1 h2 h4 h5
  obtain ⟨ns, rfl, l1, l2, l3, l4⟩ := goodW_ints h1
  obtain ⟨k, rfl, k1, k2⟩ := between_int h2
  have k2 : k ≤ (( ns.map V.int).map toI).sum := k2
  rw [map_toI] at k2
  have oo : (o = .non ∨ ∃ z, o = .int z) ∧ 0 ≤ ownOf ns o ∧ ownOf ns o < ns.length := by
    by_cases hn : o = .non
    · subst hn
      refine ⟨.inl rfl, ?_, ?_⟩
      · show (0:Int) ≤ ((ns.length : Int) - 1) / 2
        omega
      · show ((ns.length : Int) - 1) / 2 < _
        omega
    · rw [decide_eq_false hn] at h3
      have hb : between o 0 (lenW (some (ns.map V.int)) - 1) = true := by simpa using h3
      obtain ⟨z, rfl, z1, z2⟩ := between_int hb
      have z2 : z ≤ ((ns.map V.int).length : Int) - 1 := z2
      rw [List.length_map] at z2
      exact ⟨.inr ⟨z, rfl⟩, z1, by show z < _; omega⟩
  have strz : ∀ {v : V} {xs : List V}, xs.all isS = true → inV v xs = true → ∃ s, v = .str s ∧ V.str s ∈ xs := by
    intro v xs al h
    unfold inV at h
    rw [List.any_eq_true] at h
    obtain ⟨x, hx, he⟩ := h
    have := List.all_eq_true.mp al x hx
    cases x with
    | str z =>
      cases v with
      | str s =>
        have e : z = s := by simpa [eqV] using he
        subst e
        exact ⟨z, rfl, hx⟩
      | _ => cases he
    | _ => cases this
  obtain ⟨es, rfl, me⟩ := strz (xs := ENDS) rfl h4
  obtain ⟨ys, rfl, my⟩ := strz (xs := WAYS) rfl h5
  refine ⟨ns, k, es, ys, rfl, l1, l2, l3, l4, rfl, k1, k2, oo.1, oo.2.1, oo.2.2, rfl, ?_, rfl, ?_⟩
  · simpa [ENDS] using me
  · simpa [WAYS] using my
section
variable {X : Cx} {H : Hp} {Q : VK} {x : V}
def rIsN : R2 := fun x y H Q => y = .non ∧ Q (.bl (decide (x = .non))) H
def rNotN : R2 := fun x y H Q => y = .non ∧ Q (.bl (!decide (x = .non))) H
theorem op_isNS : OpR X (compareOp .Is) rIsN := op_isN
theorem op_notNS : OpR X (compareOp .IsNot) rNotN := op_notN
theorem r_ckw {σ : L2.St} {r : List V → List V → Hp → VK → Prop} {t tk : TA} (h : t σ H fun vs H1 => tk σ H1 fun zs H2 => r vs zs H2 Q) : tCKw r t tk σ H Q := h
theorem r_ixQL {K : PySem.W.Frag} {p : Addr} {xs : List V} {i : Int} {v : V} (h : H p = some (.lst xs)) (e : atI xs i = some v) (q : Q v H) : rIxQ K (.ref p) (.int i) H Q := ⟨p, xs, i, v, rfl, rfl, .inl h, e, q⟩
theorem r_ixQT {K : PySem.W.Frag} {p : Addr} {xs : List V} {i : Int} {v : V} (h : H p = some (.tup xs)) (e : atI xs i = some v) (q : Q v H) : rIxQ K (.ref p) (.int i) H Q := ⟨p, xs, i, v, rfl, rfl, .inr h, e, q⟩
theorem r_callN {n m : Nat} {sp : Sp} {gV : List V → List V → List V} {E : XK} {σ : L2.St} {t tk : TA} (h : t σ H fun vs H1 => tk σ H1 fun zs H2 => vs.length = n ∧ zs.length = m ∧ sp (gV vs zs) H2 Q E) : tCallN n m sp gV E t tk σ H Q := h
theorem r_makeS {C : Addr} {n m : Nat} {sp : Sp} {gV : List V → List V → List V} {W : L2.St → XK} {σ : L2.St} {t tk : TA} (h : t σ H fun vs H1 => tk σ H1 fun zs H2 => vs.length = n ∧ zs.length = m ∧
  ∀ a d, H2 a = none → H2 d = none → d ≠ a → sp (gV (.ref a :: vs) zs) (upd (upd H2 d (.own a)) a (.ins C d [])) (fun v H3 => v = .non ∧ Q (.ref a) H3) (W σ)) : tMakeS C n m sp gV W t tk σ H Q := h
theorem r_disp {trs : List (TE × TE)} {σ : L2.St} (h : ∀ p, H p = none → tPairs trs σ (upd H p (.dK [])) fun ps H2 => H2 p = some (.dK []) ∧ ∃ kvs : List (Key × V), ps = kvs.map (fun kv => (kV kv.1, kv.2)) ∧ kvs.length ≤ 15 ∧ Q (.ref p) (upd H2 p (.dK (mergeK [] kvs)))) : tDisp trs σ H Q := h
theorem r_pcons {tk tv : TE} {r : List (TE × TE)} {σ : L2.St} {R : List (V × V) → Hp → Prop} (h : tk σ H fun x H1 => tv σ H1 fun y H2 => tPairs r σ H2 fun ps H3 => R ((x, y) :: ps) H3) : tPairs ((tk, tv) :: r) σ H R := h
theorem r_pnil {σ : L2.St} {R : List (V × V) → Hp → Prop} (h : R [] H) : tPairs [] σ H R := h
theorem r_dget {td ty : TE} {σ : L2.St} (h : td σ H fun x H1 => ty σ H1 fun y H2 => ∃ a v, x = .ref a ∧ DGet H2 a y (some v) ∧ Q v H2) : tDGet td ty σ H Q := h
theorem r_maxD {K : PySem.W.Frag} {a : Addr} {ns : List Int} {d : V} (h : H a = some (.lst (ns.map V.int))) (q0 : ns = [] → Q d H) (q1 : ∀ y ys, ns = y :: ys → Q (.int (topI y ys)) H) : rMaxD K [.ref a] [d] H Q := ⟨a, ns, d, rfl, rfl, SqL.of h, q0, q1⟩
theorem r_isN (q : Q (.bl (decide (x = .non))) H) : rIsN x .non H Q := ⟨rfl, q⟩
theorem r_notN (q : Q (.bl (!decide (x = .non))) H) : rNotN x .non H Q := ⟨rfl, q⟩
end
theorem pg_tupC (K : PySem.W.Frag) {X : Cx} {es : List Expr} {k : Nat} {t : TGs} {n : Nat} {pos : Pos} (hc : X.calm = true) (h : PGs X es t) (hK : X.K = K := by rfl)
    (hn : (assignEach es X.env).length = n := by rfl) (hst : (assignEach es X.env).findIdx? (·.1) = none := by rfl) : PG X (.Tuple es k pos) (gTup K n t) := hK ▸ pg_tup hc h hn hst
theorem wo_get' {H H' : Hp} {p l : Addr} {o : HO} (e : Ext (wo p H) (wo p H')) (ne : l ≠ p) (h : H l = some o) : H' l = some o := (wo_some (e l o (by rw [wo_ne ne]; exact h))).2
theorem iteT' {b : Bool} {A B : Prop} (h : b = true) (q : A) : if b = true then A else B := by
  rw [if_pos h]
  exact q
theorem iteF' {b : Bool} {A B : Prop} (h : b = false) (q : B) : if b = true then A else B := by
  rw [if_neg (by rw [h]; decide)]
  exact q
theorem iteD {p : Prop} [Decidable p] {A B : Prop} (h1 : p → A) (h2 : ¬ p → B) : if decide p = true then A else B := by
  by_cases h : p
  · exact iteT' (decide_eq_true h) (h1 h)
  · exact iteF' (decide_eq_false h) (h2 h)
theorem iteND {p : Prop} [Decidable p] {A B : Prop} (h1 : ¬ p → A) (h2 : p → B) : if (!decide p) = true then A else B := by
  by_cases h : p
  · exact iteF' (by rw [decide_eq_true h]; rfl) (h2 h)
  · exact iteT' (by rw [decide_eq_false h]; rfl) (h1 h)
theorem iteB {b : Bool} {A B : Prop} (h1 : b = true → A) (h2 : b = false → B) : if b = true then A else B := by
  cases b
  · exact iteF (h2 rfl)
  · exact iteT (h1 rfl)
theorem iteNB {b : Bool} {A B : Prop} (h1 : b = false → A) (h2 : b = true → B) : if (!b) = true then A else B := by
  cases b
  · exact iteT (h1 rfl)
  · exact iteF (h2 rfl)
/-- the indexes of the weights that count, of the first i -/
def usedN (ns : List Int) (i : Nat) : List Int := List.map (fun k : Nat => (k : Int)) (List.filter (fun k : Nat => decide (0 < ns.getD k 0)) (List.range i))
theorem usedN_succ (ns : List Int) (i : Nat) : usedN ns (i + 1) = usedN ns i ++ (if 0 < ns.getD i 0 then [(i : Int)] else []) := by
  unfold usedN
  rw [List.range_succ, List.filter_append, List.map_append]
  congr 1
  by_cases h : 0 < ns.getD i 0
  · rw [if_pos h, List.filter_cons_of_pos (by exact decide_eq_true h)]
    rfl
  · rw [if_neg h, List.filter_cons_of_neg (by simpa using h)]
    rfl
theorem usedN_len (ns : List Int) (i : Nat) : (usedN ns i).length ≤ i := by
  unfold usedN
  rw [List.length_map]
  exact Nat.le_trans (List.length_filter_le _ _) (by rw [List.length_range]; exact Nat.le_refl _)
/-- the greatest depth of the parts -/
def topD : List Int → Int
  | [] => 0
  | y :: ys => topI y ys
/-- a field -/
abbrev lk (f : Str) (fs : List (Str × V)) : Option V := fs.lookup f
/-- the first limit that is broken -/
def brokenLimit (size depth reach written : Int) (dir : V) : Option Str :=
  if size > 8 then some "size" else if depth > 20 then some "depth" else if reach > 6 then some "reach" else if written > 3 then some "written" else if dir = V.non then some "ways" else none
end Own

namespace Own
open PySem L2
/-! small readings that a law's own defs want -/
section
variable {H : Hp} {Q : VK}
theorem at_mem {xs : List V} {i : Int} (h0 : 0 ≤ i) (h1 : i < (xs.length : Int)) : ∃ v, atI xs i = some v ∧ v ∈ xs := by
  obtain ⟨j, rfl⟩ : ∃ j : Nat, i = (j : Int) := ⟨i.toNat, by omega⟩
  have hj : j < xs.length := by omega
  exact ⟨xs[j], atI_nat (List.getElem?_eq_getElem hj), List.getElem_mem hj⟩
theorem r_rep {l : Addr} {k : Int} {xs : List V} (h : H l = some (.lst xs)) (h1 : -(2 ^ 63) ≤ k) (h2 : k < 2 ^ 63) (hz : xs.length * k.toNat ≤ 16000) (q : ∀ p, H p = none → Q (.ref p) (upd H p (.lst (List.replicate k.toNat xs).flatten))) : rRep (.ref l) (.int k) H Q :=
  ⟨l, k, xs, rfl, rfl, h, h1, h2, Nat.le_trans hz (by rw [sizeLine_eq]; decide), q⟩
theorem r_catL {l b : Addr} {xs zs : List V} (h1 : H l = some (.lst xs)) (h2 : H b = some (.lst zs)) (hz : xs.length + zs.length ≤ 16000) (q : ∀ p, H p = none → Q (.ref p) (upd H p (.lst (xs ++ zs)))) : rCat (.ref l) (.ref b) H Q :=
  ⟨l, b, xs, zs, rfl, rfl, h1, h2, Nat.le_trans hz (by rw [sizeLine_eq]; decide), q⟩
theorem rep_ints (z : Int) (n : Nat) : (List.replicate n [V.int z]).flatten = (List.replicate n z).map V.int := by
  induction n with
  | zero => rfl
  | succ n ih =>
    rw [List.replicate_succ, List.flatten_cons, ih, List.replicate_succ]
    rfl
theorem log_small {n : Int} (h0 : 0 ≤ n) (h : n ≤ 1000) : n.natAbs.log2 < 9000 := by
  have h1 : n.natAbs ≤ 1000 := by omega
  have h2 : n.natAbs.log2 ≤ n.natAbs := Nat.log2_le_self _
  omega
theorem dec_str {s t : Str} : decide (V.str s = V.str t) = decide (s = t) := by
  by_cases z : s = t
  · subst z
    simp
  · rw [decide_eq_false z, decide_eq_false (fun q => z (V.str.inj q))]
theorem r_neS {s t : Str} (h : Q (.bl (!decide (s = t))) H) : rNe (.str s) (.str t) H Q := ⟨rfl, by rw [dec_str]; exact h⟩
theorem r_eqS {s t : Str} (h : Q (.bl (decide (s = t))) H) : rEq (.str s) (.str t) H Q := ⟨rfl, by rw [dec_str]; exact h⟩
theorem r_isiS {K : PySem.W.Frag} {v : V} (h : Vk H v) (q : Q (.bl (isS v)) H) : rIsi K [v, .ty "str"] H Q := by
  obtain ⟨t, ty, -, -, k3, -⟩ := h.ty (K := K)
  exact ⟨v, .ty "str", .type t, .type "str", _, rfl, .ty _, ty, kit_ty k3, q⟩
theorem isS_str {v : V} (h : isS v = true) : ∃ z, v = .str z := by
  cases v with
  | str z => exact ⟨z, rfl⟩
  | _ => cases h
theorem vk_ints (ns : List Int) : ∀ x ∈ ns.map V.int, Vk H x := by
  intro x hx
  obtain ⟨n, -, rfl⟩ := List.mem_map.mp hx
  exact .int n
theorem inV_str {s : Str} {xs : List V} (al : xs.all isS = true) : inV (.str s) xs = decide (V.str s ∈ xs) := by
  unfold inV
  induction xs with
  | nil => rfl
  | cons x r ih =>
    rw [List.all_cons, Bool.and_eq_true] at al
    rw [List.any_cons, ih al.2]
    obtain ⟨z, rfl⟩ := isS_str al.1
    by_cases e : z = s
    · subst e
      simp [eqV]
    · have e1 : eqV (.str z) (.str s) = false := by simp [eqV, e]
      have e2 : ¬ (V.str s = V.str z) := fun q => e (V.str.inj q).symm
      rw [e1, Bool.false_or]
      simp only [List.mem_cons, e2, false_or]
theorem inV_nstr {v : V} {xs : List V} (al : xs.all isS = true) (h : isS v = false) : inV v xs = false := by
  unfold inV
  rw [List.any_eq_false]
  intro x hx
  obtain ⟨z, rfl⟩ := isS_str (List.all_eq_true.mp al x hx)
  cases v <;> first | (intro q; cases q; done) | (cases h; done)
end
end Own

namespace Own
open PySem PySem.W PySem.Calls PyProof.Rows
section
variable {M : Model} {prog : Program} {w : World} {A : Around} {E : Value → Shared → Prop} {s : Shared} {K : Frag} {x C f : Addr} {ox : Obj} {od : Option Obj} {b tb : Value}
theorem ifBound_objNe {args : List Value} {Q : Option Value → Shared → Prop} (X : K.In s.heap) (I : InstAt s.heap x ox C od) (hs : findIn K (.ref C) "__ne__" = some (some (.builtin "object.__ne__")))
    (h : wpAny M A (call (.builtin "object.__ne__") (.ref x :: args)) (fun v => Q (some v)) E s) : wpAny M A (callSpecialIfBound? (.ref x) "__ne__" args) Q E s := by
  simp only [callSpecialIfBound?, bindSpecialIfBound?]
  refine wpAny_holding (wpAny_bind (wpAny_bind (wpAny_bind (I.type.here ((looks_findIn X hs).here ?_)))))
  refine wpAny_bind (wpAny_askSetting (wpAny_ite ?_))
  have fin : wpAny M A (call (.builtin "object.__ne__") ([.ref x] ++ args) >>= fun v => pure (some v)) Q E s := wpAny_bind (wpAny_mono h (fun v s' h' => wpAny_pure h') fun _ _ h' => h')
  split
  · exact wpAny_bind (wpAny_of_eq (F.cmp_object.ne.bind _) (wpAny_pure (by exact fin)))
  · exact wpAny_tryCatch (wpAny_bind (wpAny_of_eq (F.cmp_object.ne.bind _) (wpAny_pure (by exact fin))))
theorem entry_ne_own {Q : Fin → Shared → Prop} (hu : A.units < cLine) (X : K.In s.heap) (I : InstAt s.heap x ox C od) (hs : findIn K (.ref C) "__eq__" = some (some (.ref f))) (hf : isFn K (.ref f) = true)
    (hcall : wpAny (model prog w) A (call (.ref f) [.ref x, b]) (fun v s' => ∃ k, v = .bool k ∧ Q (.done (.ret (.bool (!k)))) s') E s) :
    wpAny (model prog w) A (Builtin.«object.__ne__» ⟨[.ref x, b], []⟩) Q E s := by
  unfold Builtin.«object.__ne__»
  repeat (first
    | with_reducible refine wpAny_cRoomFor hu ?_
    | (refine wpAny_bind (m := callSpecialIfBound? (.ref x) (Str.ofString "__eq__") [b])
        (ifBound_K X I hs hf (wpAny_mono hcall (fun r s' hr => by
          obtain ⟨k, rfl, hq⟩ := hr
          repeat (first | exact hq | exact wpAny_pure hq | exact wpAny_truthy_bool hq | (refine wpAny_bind (m := truthy (.bool _)) (wpAny_truthy_bool ?_)) | wp_step)) fun _ _ e => e)))
    | wp_step)
theorem ne_K {h₀ : Heap} {L : Addr} {m : Str → Option Value} {Q : Value → Shared → Prop} (hu : A.units + 1 < cLine) (F1 : Fr h₀ L s.heap m) (X₀ : K.In h₀) (I : InstAt s.heap x ox C od) (hb : Looks (model prog w) s.heap (typeOf b) tb) (hn : notFirst K C tb = true)
    (hs : findIn K (.ref C) "__eq__" = some (some (.ref f))) (hne : findIn K (.ref C) "__ne__" = some (some (.builtin "object.__ne__"))) (hm : mroIn K C (.type "object") = some true) (hf : isFn K (.ref f) = true)
    (h : wpAny (model prog w) A.in1 (call (.ref f) [.ref x, b]) (fun v s' => ∃ k, v = .bool k ∧ Q (.bool (!k)) s') E s) : wpAny (model prog w) A (richCompare .NotEq (.ref x) b) Q E s := by
  have X := X₀.keeps F1.keep
  have one : wpAny (model prog w) A (tryCompare (.ref x) "__ne__" b) (fun r s' => ∃ v, r = some v ∧ Q v s') E s := by
    unfold tryCompare
    refine wpAny_bind (ifBound_objNe X I hne (wpAny_call (codeAny_call_builtin F.cmp_object.ne.plain F.cmpEntry_ne (check_slot F.cmpKind_ne F.cmpSplit_ne (I.type.andThen (looks_mroIn X hm)) (F.cmpArgs_ne _ _)
      (entry_ne_own (A := A.in1) (by show A.units + 1 < cLine; omega) X I hs hf (wpAny_mono h (fun v s' hv => ?_) fun _ _ e => e))))))
    obtain ⟨k, rfl, hq⟩ := hv
    refine ⟨k, rfl, ?_⟩
    first | exact ⟨_, rfl, wpAny_pure ⟨_, rfl, hq⟩⟩ | exact wpAny_pure ⟨_, rfl, hq⟩
  unfold richCompare
  simp only [oneThing_ref]
  refine wpAny_holding (wpAny_bind (wpAny_cRoomFor (by omega) ?_))
  rw [cmpInfo_NotEq]
  dsimp only
  refine wpAny_bind (I.type.here (wpAny_bind (hb.here ?_)))
  split
  · rename_i q
    have e : subIn K tb (.ref C) = some false := by
      rcases Bool.or_eq_true_iff.mp hn with e | e
      · rw [beq_iff_eq.mp e] at q; simp at q
      · exact beq_iff_eq.mp e
    refine wpAny_bind ((looks_subIn X e).here ?_)
    simp only [Bool.false_eq_true, if_false]
    refine wpAny_bind (wpAny_mono one (fun r s' z => ?_) fun _ _ e => e)
    obtain ⟨v, rfl, hq⟩ := z
    exact wpAny_pure hq
  · refine wpAny_bind (wpAny_pure ?_)
    simp only [Bool.false_eq_true, if_false]
    refine wpAny_bind (wpAny_mono one (fun r s' z => ?_) fun _ _ e => e)
    obtain ⟨v, rfl, hq⟩ := z
    exact wpAny_pure hq
end
end Own
namespace Own
open PySem L2 PyProof.Rows
section
variable {X : Cx} {CX : CXT} {k : Nat} {f : Addr} {fd : FuncData} {ps : List Str} {sp : Sp}
/-- x == y, x an own object whose __eq__ is the def at f -/
def rEqOwn (K : PySem.W.Frag) (f : Addr) (sp : Sp) (E : XK) : R2 := fun x y H Q => ∃ (a C dx : Addr) (fs : List (Str × V)) (t : Value), x = .ref a ∧ H a = some (.ins C dx fs) ∧ TyX K H y t ∧ PySem.W.notFirst K C t = true ∧ PySem.W.findIn K (.ref C) "__eq__" = some (some (.ref f)) ∧ sp [.ref a, y] H Q E
def rNeOwn (K : PySem.W.Frag) (f : Addr) (sp : Sp) (E : XK) : R2 := fun x y H Q => ∃ (a C dx : Addr) (fs : List (Str × V)) (t : Value), x = .ref a ∧ H a = some (.ins C dx fs) ∧ TyX K H y t ∧ PySem.W.notFirst K C t = true ∧ PySem.W.findIn K (.ref C) "__eq__" = some (some (.ref f)) ∧
  PySem.W.findIn K (.ref C) "__ne__" = some (some (.builtin "object.__ne__")) ∧ PySem.W.mroIn K C (.type "object") = some true ∧ sp [.ref a, y] H (fun v H' => ∃ b, v = .bl b ∧ Q (.bl (!b)) H') E
theorem run_in {pins : List (Addr × Obj)} {σ : L2.St} {H : Hp} {s : Shared} {Q : VK} {E : XK} {us : List Value} {vs : List V} {A : Around} {R : Value → Shared → Prop} (F : FnOk X.prog X.w X.K X.mg X.base CX k f fd ps sp) (room : Room k A) (fr : A.frames = X.A.frames) (B : Binds X.K fd ps []) (hx : PassesAt CX X σ E)
    (I : L2.Inv X pins σ H s) (r : Vals vs us) (h : sp vs H Q E) (q : ∀ v u H' s', L2.Inv X pins σ H' s' → RelV v u → Q v H' → R u s') : wpAny (model X.prog X.w) A (call (.ref f) us) R X.xe s := by
  have len : us.length = ps.length := by rw [← r.length]; exact F.len _ _ _ _ h
  have bnd := B s us I.kIn (by rw [List.append_nil]; exact len)
  rw [List.append_nil] at bnd
  have e0 : Env0 X.prog X.w X.K X.mg X.base A X.stack s H := by
    have e := I.env0
    exact ⟨by rw [fr]; exact e.frames, e.mod, e.bs, e.bsz, e.funs, e.frf, e.hok, e.bare⟩
  refine wpAny_call (codeAny_mono (F.run A X.stack s H ⟨us, []⟩ us vs Q E room e0 bnd r h) fun r s' hq => ?_)
  match r, hq with
  | .error e, hq => exact hx pins H s e s' I hq
  | .ok (.ret u), hq =>
    obtain ⟨v, H', I', rv, qq⟩ := I.after hq
    exact q v u H' s' I' rv qq
  | .ok .next, hq => exact hq.elim
  | .ok .brk, hq => exact hq.elim
  | .ok .cont, hq => exact hq.elim
theorem op_eqOwn (K : PySem.W.Frag) (F : FnOk X.prog X.w X.K X.mg X.base CX k f fd ps sp) (room : Room k X.A) (B : Binds X.K fd ps []) (fn : PySem.W.isFn X.K (.ref f) = true) {E : XK} (hx : Passes CX X E) (hK : X.K = K := by rfl) : OpR X (compareOp .Eq) (rEqOwn K f sp E) := by
  subst hK
  intro pins s σ H x y v u Q I rx ry h
  obtain ⟨a, C, dx, fs, t, rfl, ha, ty, nf, hs, h⟩ := h
  cases rx
  obtain ⟨ox, od, J⟩ := ins_inst I ha
  obtain ⟨P, kx, hp, -⟩ := kit_of I ry ty
  obtain ⟨m, Fr⟩ := I.fr
  have hT : PySem.W.Looks (model X.prog X.w) s.heap (typeOf u) t := kx.ty _ _ I.kIn hp
  refine PySem.W.cmp_K (op := .Eq) (by have := room.un; omega) Fr I.ok.mod.kin J hT nf hs fn ?_
  refine run_in F room rfl B (fun pins H s e s' I' c => hx pins σ H s e s' I' c) I (us := [.ref a, u]) (vs := [.ref a, y]) (.cons rfl (.cons ry .nil)) h fun v u' H' s' I' rv q => ?_
  have nn : u' ≠ .notImplemented := by
    intro z
    subst z
    cases v with
    | int i => obtain ⟨t, z⟩ := rv; cases z
    | str i => obtain ⟨t, z⟩ := rv; cases z
    | flt i => obtain ⟨t, z⟩ := rv; cases z
    | byt i => obtain ⟨t, z⟩ := rv; cases z
    | non => cases rv
    | bl b => cases rv
    | ref b => cases rv
    | ty b => cases rv
  show PySem.W.CmpBack (EP X pins σ Q) u' s'
  unfold PySem.W.CmpBack
  split
  · exact absurd rfl nn
  · exact ⟨v, H', I', rv, q⟩
theorem op_neOwn (K : PySem.W.Frag) (F : FnOk X.prog X.w X.K X.mg X.base CX k f fd ps sp) (room : Room (k + 1) X.A) (B : Binds X.K fd ps []) (fn : PySem.W.isFn X.K (.ref f) = true) {E : XK} (hx : Passes CX X E) (hK : X.K = K := by rfl) : OpR X (compareOp .NotEq) (rNeOwn K f sp E) := by
  subst hK
  intro pins s σ H x y v u Q I rx ry h
  obtain ⟨a, C, dx, fs, t, rfl, ha, ty, nf, hs, hne, hm, h⟩ := h
  cases rx
  obtain ⟨ox, od, J⟩ := ins_inst I ha
  obtain ⟨P, kx, hp, -⟩ := kit_of I ry ty
  obtain ⟨m, Fr⟩ := I.fr
  have hT : PySem.W.Looks (model X.prog X.w) s.heap (typeOf u) t := kx.ty _ _ I.kIn hp
  refine ne_K (by have := room.un; omega) Fr I.ok.mod.kin J hT nf hs hne hm fn ?_
  refine run_in F room.in1 rfl B (fun pins H s e s' I' c => hx pins σ H s e s' I' c) I (us := [.ref a, u]) (vs := [.ref a, y]) (.cons rfl (.cons ry .nil)) h fun v u' H' s' I' rv q => ?_
  obtain ⟨b, rfl, q⟩ := q
  cases rv
  exact ⟨b, rfl, .bl (!b), H', I', rfl, q⟩
end
end Own

namespace Own
open PySem L2 PyProof.Rows
section
variable {K : PySem.W.Frag} {C : Addr}
/-- what an own class must have that its objects are asked by isinstance and by == -/
structure OwnC (K : PySem.W.Frag) (C : Addr) : Prop where
  cl : Cls K C
  ic : PySem.W.isClsIn K C = true
  tc : PySem.W.typeIn K (.ref C) = some (.type "type")
  ha : PySem.W.findIn K (.ref C) "__class__" = some (some (.builtin "object.__class__"))
  hn : PySem.W.specialIn K (.builtin "object.__class__") "__get__" = some (some (.builtin "getset_descriptor.__get__"))
  ht : PySem.W.takesIn K (.builtin "object.__class__") = some true
  hm : PySem.W.mroIn K C (.type "object") = some true
theorem OwnC.ty {H : Hp} {a dx : Addr} {fs : List (Str × V)} (o : OwnC K C) (h : H a = some (.ins C dx fs)) : TyX K H (.ref a) (.ref C) := .base (.ins h o.cl o.ha o.hn o.ht o.hm)
theorem sub_of_mro {T : String} {l : List Value} (e : fastBuiltinMro T = some l) (h : ∀ v ∈ l, ∃ n, v = .type n) : PySem.W.subIn K (.type T) (.ref C) = some false := by
  show (fastBuiltinMro T).map (·.contains (.ref C)) = some false
  rw [e]
  have : l.contains (.ref C) = false := by
    rw [← Bool.not_eq_true, List.contains_iff_mem]
    intro m
    obtain ⟨n, z⟩ := h _ m
    cases z
  show some (l.contains (.ref C)) = some false
  rw [this]
theorem sub_tuple : PySem.W.subIn K (.type "tuple") (.ref C) = some false := sub_of_mro (l := [.type "tuple", .type "object"]) (by decide +kernel) (by intro v hv; simp only [List.mem_cons, List.not_mem_nil, or_false] at hv; rcases hv with rfl | rfl <;> exact ⟨_, rfl⟩)
theorem sub_list : PySem.W.subIn K (.type "list") (.ref C) = some false := sub_of_mro (l := [.type "list", .type "object"]) (by decide +kernel) (by intro v hv; simp only [List.mem_cons, List.not_mem_nil, or_false] at hv; rcases hv with rfl | rfl <;> exact ⟨_, rfl⟩)
theorem sub_str : PySem.W.subIn K (.type "str") (.ref C) = some false := sub_of_mro (l := [.type "str", .type "object"]) (by decide +kernel) (by intro v hv; simp only [List.mem_cons, List.not_mem_nil, or_false] at hv; rcases hv with rfl | rfl <;> exact ⟨_, rfl⟩)
theorem sub_non : PySem.W.subIn K (.type "NoneType") (.ref C) = some false := sub_of_mro (l := [.type "NoneType", .type "object"]) (by decide +kernel) (by intro v hv; simp only [List.mem_cons, List.not_mem_nil, or_false] at hv; rcases hv with rfl | rfl <;> exact ⟨_, rfl⟩)
theorem sub_int : PySem.W.subIn K (.type "int") (.ref C) = some false := sub_of_mro (l := [.type "int", .type "object"]) (by decide +kernel) (by intro v hv; simp only [List.mem_cons, List.not_mem_nil, or_false] at hv; rcases hv with rfl | rfl <;> exact ⟨_, rfl⟩)
theorem sub_bool : PySem.W.subIn K (.type "bool") (.ref C) = some false := sub_of_mro (l := [.type "bool", .type "int", .type "object"]) (by decide +kernel) (by intro v hv; simp only [List.mem_cons, List.not_mem_nil, or_false] at hv; rcases hv with rfl | rfl | rfl <;> exact ⟨_, rfl⟩)
theorem kit_ownT {T : String} {b : Bool} (o : OwnC K C) (h : PySem.W.subIn K (.type T) (.ref C) = some b) : PySem.W.kitOne K (.type T) (.ref C) = some b := by
  unfold PySem.W.kitOne
  rw [if_neg (by intro z; cases beq_iff_eq.mp z)]
  have two : ((PySem.W.clsIn K C).isSome && PySem.W.typeIn K (.ref C) == some (.type "type")) = true := by
    have ic' : (PySem.W.clsIn K C).isSome = true := o.ic
    rw [ic', o.tc]
    rfl
  exact (if_pos two).trans h
theorem notFirst_self : PySem.W.notFirst K C (.ref C) = true := by
  unfold PySem.W.notFirst
  rw [show ((Value.ref C) == .ref C) = true by simp]
  rfl
theorem notFirst_of {t : Value} (h : PySem.W.subIn K t (.ref C) = some false) : PySem.W.notFirst K C t = true := by
  unfold PySem.W.notFirst
  rw [h]
  cases (t == Value.ref C) <;> rfl
/-- a value of a built-in kind, or nothing of the own classes -/
theorem Vk.nown {H : Hp} {v : V} (h : Vk H v) : ∃ t, TyX K H v (.type t) ∧ ∀ C, PySem.W.subIn K (.type t) (.ref C) = some false := by
  rcases h with ⟨z, rfl⟩ | ⟨z, rfl⟩ | ⟨z, rfl⟩ | rfl | ⟨a, xs, rfl, h⟩ | ⟨a, xs, rfl, h⟩
  · exact ⟨"int", .base (.int z), fun _ => sub_int⟩
  · exact ⟨"bool", .base (.bl z), fun _ => sub_bool⟩
  · exact ⟨"str", .base (.str z), fun _ => sub_str⟩
  · exact ⟨"NoneType", .base .non, fun _ => sub_non⟩
  · exact ⟨"tuple", .base (.tup h), fun _ => sub_tuple⟩
  · exact ⟨"list", .base (.lst h), fun _ => sub_list⟩
end
end Own

namespace Own
open PySem L2
/-! a sweep as a law writes it down: ('sweep', weights, rank, own, ends, way) -/
structure GoodS (ns : List Int) (k own : Int) (es ys : Str) : Prop where
  l1 : 1 ≤ ns.length
  l7 : ns.length ≤ 7
  w03 : ∀ n ∈ ns, 0 ≤ n ∧ n ≤ 3
  sum : 0 < ns.sum
  k1 : 1 ≤ k
  k2 : k ≤ ns.sum
  o0 : 0 ≤ own
  o1 : own < ns.length
  es : es = "held" ∨ es = "cut"
  ys : ys = "all" ∨ ys = "on" ∨ ys = "back"
def TreeAt (H : Hp) (q : Addr) (ns : List Int) (k own : Int) (es ys : Str) : Prop := ∃ t, H q = some (.tup [.str "sweep", .ref t, .int k, .int own, .str es, .str ys]) ∧ H t = some (.tup (ns.map V.int))
theorem TreeAt.ext {H H' : Hp} {q : Addr} {ns : List Int} {k own : Int} {es ys : Str} (h : TreeAt H q ns k own es ys) (e : Ext H H') : TreeAt H' q ns k own es ys := by
  obtain ⟨t, h1, h2⟩ := h
  exact ⟨t, e _ _ h1, e _ _ h2⟩
/-- good arguments are right -/
theorem GoodS.right {ns : List Int} {k own : Int} {es ys : Str} (g : GoodS ns k own es ys) (o : V) (ho : o = .int own ∨ (o = .non ∧ own = ((ns.length : Int) - 1) / 2)) : wrongPart (some (ns.map V.int)) (.int k) o (.str es) (.str ys) = none ∧ ownOf ns o = own := by
  have tot : totW (some (ns.map V.int)) = ns.sum := by
    show ((ns.map V.int).map toI).sum = _
    rw [map_toI]
  have len : lenW (some (ns.map V.int)) = (ns.length : Int) := by
    show (((ns.map V.int).length : Nat) : Int) = _
    rw [List.length_map]
  have gw : goodW (some (ns.map V.int)) = true := by
    show (decide (1 ≤ (ns.map V.int).length ∧ (ns.map V.int).length ≤ 7) && ((ns.map V.int).all (between · 0 3) && decide (0 < ((ns.map V.int).map toI).sum))) = true
    rw [map_toI, List.length_map, decide_eq_true ⟨g.l1, g.l7⟩, decide_eq_true g.sum, Bool.and_true, Bool.true_and, List.all_eq_true]
    intro x hx
    obtain ⟨n, hn, rfl⟩ := List.mem_map.mp hx
    exact decide_eq_true (g.w03 n hn)
  have be : between (.int k) 1 ns.sum = true := decide_eq_true ⟨g.k1, g.k2⟩
  have he : inV (.str es) ENDS = true := by rcases g.es with rfl | rfl <;> decide +kernel
  have hy : inV (.str ys) WAYS = true := by rcases g.ys with rfl | rfl | rfl <;> decide +kernel
  unfold wrongPart
  rw [if_neg (by rw [gw]; decide), tot, len, if_neg (by rw [be]; decide)]
  have o0 := g.o0
  have o1 := g.o1
  rcases ho with rfl | ⟨rfl, rfl⟩
  · refine ⟨?_, rfl⟩
    have bo : between (.int own) 0 ((ns.length : Int) - 1) = true := decide_eq_true ⟨g.o0, by omega⟩
    rw [if_neg (by rw [bo]; simp), if_neg (by rw [he]; decide), if_neg (by rw [hy]; decide)]
  · refine ⟨?_, rfl⟩
    rw [if_neg (by simp), if_neg (by rw [he]; decide), if_neg (by rw [hy]; decide)]
theorem usedF_ge {ns : List Int} (h : 0 < ns.sum) : 0 ≤ usedF ns := (used_mem (usedF_mem (used_ne h))).1
theorem usedL_lt {ns : List Int} (h : 0 < ns.sum) : usedL ns < ns.length := (used_mem (usedL_mem (used_ne h))).2.1
/-- the middle writes at most three cells -/
theorem written_mid {ns : List Int} {ys : Str} (h : 0 < ns.sum) (l7 : ns.length ≤ 7) (l1 : 1 ≤ ns.length) : writtenOf ns (((ns.length : Int) - 1) / 2) ys ≤ 3 := by
  have a := usedF_ge h
  have b := usedL_lt h
  unfold writtenOf leftOf rightOf
  split
  · split <;> omega
  · split
    · split <;> omega
    · omega
theorem writtenOf_all {ns : List Int} {own : Int} : writtenOf ns own "all" = 0 := by
  unfold writtenOf
  rw [if_neg (by decide), if_neg (by decide)]
/-- a call that may raise, of which it is known that it does not -/
theorem passN {X : Cx} {P : Program} {w : World} : Passes (L2.CX P w) X E0 := fun _ _ _ _ _ _ _ h => by
  obtain ⟨_, _, _, _, _, _, _, _, _, _, _, _, f⟩ := h
  exact f.elim
theorem op_catTC (K : PySem.W.Frag) {X : Cx} (h : X.K = K := by rfl) : OpR X (binaryOp .Add) (rCatT K) := h ▸ op_catT
theorem r_catT {K : PySem.W.Frag} {H : Hp} {Q : VK} {a b : Addr} {xs ys : List V} (ha : H a = some (.tup xs)) (hb : H b = some (.tup ys)) (hx : xs ≠ []) (hy : ys ≠ []) (hz : xs.length + ys.length ≤ 16000) (q : ∀ p, H p = none → Q (.ref p) (upd H p (.tup (xs ++ ys)))) : rCatT K (.ref a) (.ref b) H Q :=
  ⟨a, b, xs, ys, rfl, rfl, SqT.of ha, SqT.of hb, hx, Nat.le_trans hz (by rw [sizeLine_eq]; decide), fun e => absurd e hy, fun _ => q⟩
theorem r_methA {K : PySem.W.Frag} {f : Addr} {m : Str} {sp : Sp} {W : L2.St → XK} {ta : TE} {t : TA} {σ : L2.St} {H : Hp} {Q : VK} (h : ta σ H fun x H1 => ∃ (a C dx : Addr) (fs : List (Str × V)), x = .ref a ∧ H1 a = some (.ins C dx fs) ∧ fs.lookup m = none ∧ Cls K C ∧ Meth K C m f ∧
  t σ H1 fun vs H2 => sp (x :: vs) H2 Q (W σ)) : tMethA K f m sp W ta t σ H Q := h
theorem r_make {C : Addr} {sp : Sp} {dvs : List V} {E : XK} {σ : L2.St} {H : Hp} {Q : VK} {t : TA} (h : t σ H fun vs H1 => ∀ x dx, H1 x = none → H1 dx = none → dx ≠ x → sp (.ref x :: (vs ++ dvs)) (upd (upd H1 dx (.own x)) x (.ins C dx [])) (fun v H2 => v = .non ∧ Q (.ref x) H2) E) : tMake C sp dvs E t σ H Q := h
theorem r_makeK {C : Addr} {n m : Nat} {sp : Sp} {gV : List V → List V → List V} {E : XK} {σ : L2.St} {H : Hp} {Q : VK} {t tk : TA} (h : t σ H fun vs H1 => tk σ H1 fun zs H2 => vs.length = n ∧ zs.length = m ∧ ∀ x dx, H2 x = none → H2 dx = none → dx ≠ x →
  sp (gV (.ref x :: vs) zs) (upd (upd H2 dx (.own x)) x (.ins C dx [])) (fun v H3 => v = .non ∧ Q (.ref x) H3) E) : tMakeK C n m sp gV E t tk σ H Q := h
/-! lists of ints as data -/
theorem dpAll_ints {K : PySem.W.Frag} {H : Hp} : ∀ ns : List Int, DpAll K H (ns.map V.int) (ns.map PyData.int)
  | [] => .nil
  | n :: ns => .cons (.int n) (dpAll_ints ns)
theorem eqvAll_ints : ∀ ns ms : List Int, PyData.eqvAll (ns.map PyData.int) (ms.map PyData.int) = decide (ns = ms)
  | [], [] => rfl
  | [], m :: ms => rfl
  | n :: ns, [] => rfl
  | n :: ns, m :: ms => by
    show (PyData.eqv (.int n) (.int m) && PyData.eqvAll (ns.map PyData.int) (ms.map PyData.int)) = _
    rw [eqvAll_ints ns ms]
    show ((n == m) && decide (ns = ms)) = _
    by_cases h : n = m
    · subst h
      simp
    · have : ¬ (n :: ns = m :: ms) := fun e => h (List.cons.inj e).1
      rw [decide_eq_false this]
      simp [h]
theorem eqv_ints (ns ms : List Int) : PyData.eqv (.tuple (ns.map PyData.int)) (.tuple (ms.map PyData.int)) = decide (ns = ms) := eqvAll_ints ns ms
theorem eqv_intsL (ns ms : List Int) : PyData.eqv (.list (ns.map PyData.int)) (.list (ms.map PyData.int)) = decide (ns = ms) := eqvAll_ints ns ms
theorem canLayAll_ints : ∀ ns : List Int, PyData.canLayAll0 (ns.map PyData.int) = true
  | [] => rfl
  | n :: ns => by
    show (PyData.canLay0 (.int n) && PyData.canLayAll0 (ns.map PyData.int)) = true
    rw [canLayAll_ints ns]
    rfl
theorem depthAll_ints : ∀ ns : List Int, PyData.depthAll (ns.map PyData.int) = 0
  | [] => rfl
  | n :: ns => by
    show max (PyData.depth (.int n)) (PyData.depthAll (ns.map PyData.int)) = 0
    rw [depthAll_ints ns]
    rfl
theorem shaped_ints (ns : List Int) : SeqAt.shaped (.tuple (ns.map PyData.int)) = true := by
  show (PyData.canLayAll0 (ns.map PyData.int) && decide (PyData.depthAll (ns.map PyData.int) + 1 ≤ 64)) = true
  rw [canLayAll_ints, depthAll_ints]
  decide
theorem shaped_intsL (ns : List Int) : SeqAt.shaped (.list (ns.map PyData.int)) = true := by
  show (PyData.canLayAll0 (ns.map PyData.int) && decide (PyData.depthAll (ns.map PyData.int) + 1 ≤ 64)) = true
  rw [canLayAll_ints, depthAll_ints]
  decide
/-- a tuple of ints == a tuple of ints -/
theorem r_eqT {K : PySem.W.Frag} {H : Hp} {Q : VK} {a b : Addr} {ns ms : List Int} (ha : H a = some (.tup (ns.map V.int))) (hb : H b = some (.tup (ms.map V.int))) (q : Q (.bl (decide (ns = ms))) H) : rEqD K (.ref a) (.ref b) H Q :=
  ⟨_, _, .tup (SqT.of ha) (dpAll_ints ns), .tup (SqT.of hb) (dpAll_ints ms), shaped_ints ns, shaped_ints ms, by rw [eqv_ints]; exact q⟩
theorem r_neT {K : PySem.W.Frag} {H : Hp} {Q : VK} {a b : Addr} {ns ms : List Int} (ha : H a = some (.tup (ns.map V.int))) (hb : H b = some (.tup (ms.map V.int))) (q : Q (.bl (!decide (ns = ms))) H) : rNeD K (.ref a) (.ref b) H Q :=
  ⟨_, _, .tup (SqT.of ha) (dpAll_ints ns), .tup (SqT.of hb) (dpAll_ints ms), shaped_ints ns, shaped_ints ms, by rw [eqv_ints]; exact q⟩
theorem r_eqL {K : PySem.W.Frag} {H : Hp} {Q : VK} {a b : Addr} {ns ms : List Int} (ha : H a = some (.lst (ns.map V.int))) (hb : H b = some (.lst (ms.map V.int))) (q : Q (.bl (decide (ns = ms))) H) : rEqD K (.ref a) (.ref b) H Q :=
  ⟨_, _, .lst (SqL.of ha) (dpAll_ints ns), .lst (SqL.of hb) (dpAll_ints ms), shaped_intsL ns, shaped_intsL ms, by rw [eqv_intsL]; exact q⟩
theorem r_neL {K : PySem.W.Frag} {H : Hp} {Q : VK} {a b : Addr} {ns ms : List Int} (ha : H a = some (.lst (ns.map V.int))) (hb : H b = some (.lst (ms.map V.int))) (q : Q (.bl (!decide (ns = ms))) H) : rNeD K (.ref a) (.ref b) H Q :=
  ⟨_, _, .lst (SqL.of ha) (dpAll_ints ns), .lst (SqL.of hb) (dpAll_ints ms), shaped_intsL ns, shaped_intsL ms, by rw [eqv_intsL]; exact q⟩
end Own

namespace Own
open PySem PySem.Spec PyProof.Rows
theorem look_rit_len : typeLookup (.type "range_iterator") "__len__" = pure none := by rw [typeLookup_type, builtinLookup_eq_fast]; kernel_rfl
theorem slot_rit_hint : Slot "range_iterator" "__length_hint__" "range_iterator.__length_hint__" :=
  .of (owner := "range_iterator") (n := "__length_hint__") (by rw [typeLookup_type, builtinLookup_eq_fast]; kernel_rfl) (by decide +kernel) (by decide +kernel) (by decide +kernel)
    (by first | exact .inl (by decide +kernel) | exact .inr (by decide +kernel)) (by rw [isSubtype_type]; kernel_rfl)
theorem entry_rit_hint : entryFor table "range_iterator.__length_hint__" = some Builtin.«range_iterator.__length_hint__» := entryFor_of_tree (by kernel_rfl)
theorem args_rit_hint (a : Value) : argsOk "range_iterator.__length_hint__" ⟨[a], []⟩ := by unfold argsOk; kernel_rfl
section
variable {prog : Program} {w : World} {A : Around} {E : Value → Shared → Prop} {s : Shared}
theorem call_rit_hint {it : Addr} {x n c : Int} {Q : Value → Shared → Prop} (h : IsRangeIter s.heap it x n c) (q : ∀ t, Q (.int n t) { s with toks := s.toks + 1 }) : wpAny (model prog w) A (call (.builtin "range_iterator.__length_hint__") [.ref it]) Q E s := by
  have hT : s.TypeIs (.ref it) "range_iterator" := ⟨_, h, rfl⟩
  refine wpAny_call_entry slot_rit_hint hT entry_rit_hint ?_ (args_rit_hint _)
  unfold Builtin.«range_iterator.__length_hint__»
  refine wpAny_bind (wpAny_of_eq (a := .ref it) (by first | rfl | kernel_rfl) ?_)
  refine wpAny_bind (wpAny_field h rfl (x := rawInt n) rfl ?_)
  refine wpAny_bind (wpAny_mkInt ?_)
  exact wpAny_pure ⟨_, rfl, q _⟩
theorem hint_rit {it : Addr} {x c : Int} {n : Nat} {Q : Bool → Shared → Prop} (h : IsRangeIter s.heap it x n c) (hn : n ≤ 2 ^ 24) (q : Q false { s with toks := s.toks + 1 }) : wpAny (model prog w) A (Builtin.List.listLengthHint (.ref it)) Q E s := by
  have hT : s.TypeIs (.ref it) "range_iterator" := ⟨_, h, rfl⟩
  unfold Builtin.List.listLengthHint
  refine wpAny_bind (wpAny_specialOf hT look_rit_len ?_)
  simp only [Option.isSome, Bool.false_eq_true, if_false]
  refine wpAny_ite_split (fun hab => absurd hab (by decide)) (fun _ => ?_)
  refine wpAny_bind (wpAny_specialOf hT slot_rit_hint.lookup ?_)
  generalize hid : ("range_iterator.__length_hint__" : String) = id0
  try dsimp only
  rw [show splitId id0 = some ("range_iterator", "__length_hint__") from by subst hid; decide +kernel]
  subst hid
  try dsimp only
  refine wpAny_bind (wpAny_isInstance (T := "range_iterator") (b := true) hT (by rw [isSubtype_type]; kernel_rfl) ?_)
  refine wpAny_ite_split (fun hab => absurd hab (by decide)) (fun _ => ?_)
  refine wpAny_ite_split (fun _ => ?_) (fun hab => absurd (by decide +kernel) hab)
  refine wpAny_ite_split (fun _ => ?_) (fun hab => absurd (by decide +kernel) hab)
  refine wpAny_bind (call_rit_hint h fun t => ?_)
  refine wpAny_bind (m := asInt? _) (wpAny_pure ?_)
  have htl : Builtin.List.listTooLong ((n : Int).toNat) = false := by simp [Builtin.List.listTooLong, sizeLine]; omega
  try dsimp only
  exact wpAny_ite_split (fun hab => absurd hab (by rw [htl]; decide)) (fun _ => wpAny_pure q)
/-- list.extend over such an iterator -/
theorem extend_rit {R : Result → Shared → Prop} {it : Addr} {a c : Int} {n : Nat} (hh : A.handled = none) (hit : IsRangeIter s.heap it a n c) (hlen : n ≤ 2 ^ 24) (S : Addr) (res : Value) (c₀ : Nat) (hS : s.heap.get? S = some { cls := .type "list", data := .seq #[] c₀ })
    (hR : ∀ h' tk acc' c', (∀ b o, b ≠ S → b ≠ it → s.heap.get? b = some o → h'.get? b = some o) → h'.get? S = some { cls := .type "list", dict := none, data := .seq acc' c', slots := #[] } →
      ItemsOf (fun i v => ∃ t, v = .int (a + i * c) t) acc' n → R (.ok (.ret res)) { s with heap := h', toks := tk }) :
    wpAny (model prog w) A.in1 (Builtin.List.listExtendWith (.ref S) (.ref it) res)
      (fun fin s' => match fin with | .done f => R (.ok f) s' | .again c' => c'.quiet = true ∧ codeAny (model prog w) A c' R s') (fun e s' => R (.error e) s') s := by
  have hSI : S ≠ it := fun e => by
    rw [e] at hS
    have z := (show s.heap.get? it = _ from hit).symm.trans hS
    exact absurd (congrArg (Option.map (·.cls)) z) (by intro q; exact absurd (Value.type.inj (Option.some.inj q)) (by decide))
  have hSf : S ∉ [it] := fun hm => hSI (List.mem_singleton.mp hm)
  have W := (Walks.range (prog := prog) (w := w) (A := A.in1) hh it a c n).toS
  have key : ∀ (h : Heap) (c₁ tk : Nat), IsRangeIter h it (a + ((0 : Nat) : Int) * c) ((n : Int) - ((0 : Nat) : Int)) c → (∀ b o, b ≠ S → s.heap.get? b = some o → h.get? b = some o) →
      h.get? S = some { cls := .type "list", data := .seq #[] c₁ } → codeAny (model prog w) A (.builtin "list.extend.loop" ⟨[.ref S, .ref it, res], []⟩) R { s with heap := h, toks := tk } := by
    intro h c₁ tk hit hk hS₁
    refine codeAny_extend_loopS W (by rw [sizeLine_eq]; omega) S hSf res n 0 _ #[] c₁ rfl (Nat.zero_le _) hit hS₁ (ItemsOf.nil _) fun s' acc' c' hm hS' hacc => ?_
    rw [Moved.eq_with hm]
    refine hR s'.heap s'.toks acc' c' (fun b o hb hb2 e => hm.heap b o (fun hmem => ?_) (hk b o hb e)) hS' hacc
    rcases List.mem_cons.mp hmem with e' | hmem
    · exact hb e'
    · exact hb2 (List.mem_singleton.mp hmem)
  unfold Builtin.List.listExtendWith
  refine wpAny_bind (wpAny_typeOf (T := "range_iterator") ⟨_, hit, rfl⟩ ?_)
  have h1 : Builtin.List.listSameRef (.ref S) (.ref it) = false := by simp [Builtin.List.listSameRef, hSI]
  have h2 : (Value.type "range_iterator" == Value.type "list") = false := by decide
  have h3 : (Value.type "range_iterator" == Value.type "tuple") = false := by decide
  simp only [h1, h2, h3, Bool.or_false, Bool.false_eq_true, if_false]
  refine wpAny_bind (wpAny_pyIter_rangeiter hit ?_)
  refine wpAny_bind (wpAny_holding (hint_rit (n := n) hit hlen ?_))
  have hit₁ : IsRangeIter s.heap it (a + ((0 : Nat) : Int) * c) ((n : Int) - ((0 : Nat) : Int)) c := by
    simpa using hit
  refine wpAny_ite_split (fun hab => absurd hab (by decide)) (fun _ => wpAny_pure ⟨plainId_quiet F.plain_extend_loop _, key _ c₀ _ hit₁ (fun b o _ e => e) hS⟩)
theorem init_rit {R : Result → Shared → Prop} {it : Addr} {a c : Int} {n : Nat} (hh : A.handled = none) (hit : IsRangeIter s.heap it a n c) (hlen : n ≤ 2 ^ 24) (S : Addr) (hS : s.heap.get? S = some { cls := .type "list", data := .seq #[] })
    (hR : ∀ h' tk acc' c', (∀ b o, b ≠ S → b ≠ it → s.heap.get? b = some o → h'.get? b = some o) → h'.get? S = some { cls := .type "list", dict := none, data := .seq acc' c', slots := #[] } →
      ItemsOf (fun i v => ∃ t, v = .int (a + i * c) t) acc' n → R (.ok (.ret .none)) { s with heap := h', toks := tk }) :
    wpAny (model prog w) A.in1 (Builtin.«list.__init__» ⟨[.ref S, .ref it], []⟩)
      (fun fin s' => match fin with | .done f => R (.ok f) s' | .again c' => c'.quiet = true ∧ codeAny (model prog w) A c' R s') (fun e s' => R (.error e) s') s := by
  have hSr : S ≠ it := fun e => by
    rw [e] at hS
    have z := (show s.heap.get? it = _ from hit).symm.trans hS
    exact absurd (congrArg (Option.map (·.cls)) z) (by intro q; exact absurd (Value.type.inj (Option.some.inj q)) (by decide))
  show wpAny _ _ (do let old ← Builtin.List.listItems (.ref S); Builtin.List.listUpdate (.ref S) (fun _ => #[]); letGo old.toList.reverse; Builtin.List.listExtendWith (.ref S) (.ref it) .none) _ _ s
  refine wpAny_bind ?_
  unfold Builtin.List.listItems
  refine wpAny_bind (wpAny_seqItems hS rfl (wpAny_pure ?_))
  show wpAny _ _ (updateSeq S (fun _ => #[]) >>= fun _ => letGo (#[] : Array Value).toList.reverse >>= fun _ => Builtin.List.listExtendWith (.ref S) (.ref it) .none) _ _ s
  refine wpAny_bind (wpAny_updateSeq hS rfl ?_)
  have hS₂ := Heap.get?_update_self (Obj.mapSeq (fun _ => (#[] : Array Value))) hS rfl
  have oth : ∀ b o, b ≠ S → s.heap.get? b = some o → (s.heap.update S (Obj.mapSeq (fun _ => (#[] : Array Value)))).get? b = some o :=
    fun b o hb e => (Heap.get?_update_other _ _ (Ne.symm hb)).trans e
  refine wpAny_bind (wpAny_letGo ?_)
  refine extend_rit hh (oth it _ (Ne.symm hSr) hit) hlen S .none _ hS₂ fun h' tk acc' c' hk hS' hacc => ?_
  exact hR h' tk acc' c' (fun b o hb hb2 e => hk b o hb hb2 (oth b o hb e)) hS' hacc
/-- list(it) of such an iterator -/
theorem list_rit {Q : Value → Shared → Prop} {it : Addr} {a c : Int} {n : Nat} (hh : A.handled = none) (hit : IsRangeIter s.heap it a n c) (hlen : n ≤ 2 ^ 24)
    (hQ : ∀ h' tk acc' c', (∀ b o, b ≠ it → s.heap.get? b = some o → h'.get? b = some o) →
      h'.get? s.heap.objs.size = some { cls := .type "list", dict := none, data := .seq acc' c', slots := #[] } → ItemsOf (fun i v => ∃ t, v = .int (a + i * c) t) acc' n → Q (.ref s.heap.objs.size) { s with heap := h', toks := tk }) :
    wpAny (model prog w) A (call (.type "list") [.ref it]) Q E s := by
  refine callType_codes (Q₁ := fun obj s₁ => obj = .ref s.heap.objs.size ∧ s₁ = { s with heap := s.heap.push { cls := .type "list", data := .seq #[] } }) F.called_list (F.typeCall_list_1 _) F.entry_list_init
    (code_list_new _ ⟨rfl, rfl⟩) fun obj s₁ h₁ => ?_
  obtain ⟨rfl, rfl⟩ := h₁
  have hS : (s.heap.push { cls := .type "list", data := .seq #[] }).get? s.heap.objs.size = some { cls := .type "list", data := .seq #[] } := Heap.get?_push_size _ rfl
  refine ⟨⟨_, hS, rfl⟩, F.args_list_init_2 _ _, init_rit (A := A.in1) hh (Heap.get?_push_of_some _ hit) hlen _ hS fun h' tk acc' c' hk hS' hacc => ?_⟩
  exact ⟨rfl, hQ h' tk acc' c' (fun b o hb2 e => hk b o (Nat.ne_of_lt (Heap.lt_size e)) hb2 (Heap.get?_push_of_some _ e)) hS' hacc⟩
end
end Own
namespace Own
open PySem L2 PyProof.Rows
/-- b - 1, b - 2, .., a -/
def rgB (a b : Int) : List V := (List.range (b - a).toNat).map fun i => V.int (b - 1 - (i : Nat))
theorem rgB_length (a b : Int) : (rgB a b).length = (b - a).toNat := by
  unfold rgB
  rw [List.length_map, List.length_range]
theorem vals_rgB {a b : Int} {acc : Array Value} (h : ItemsOf (fun i v => ∃ t, v = .int (a + (((b - a).toNat : Nat) : Int) - 1 + i * (-1)) t) acc (b - a).toNat) : Vals (rgB a b) acc.toList := by
  have e : acc.toList.length = (b - a).toNat := by rw [Array.length_toList]; exact h.1
  unfold rgB
  rw [← e]
  refine vals_of_get acc.toList _ fun j u hj => ?_
  obtain ⟨t, rfl⟩ := h.2 j u (by rw [← hj, Array.getElem?_toList])
  have lt : j < acc.toList.length := (List.getElem?_eq_some_iff.mp hj).1
  rw [e] at lt
  refine ⟨t, ?_⟩
  congr 1
  omega
/-- list(reversed(range(a, b))) -/
def tLstRev (te : L2.St → Hp → (Int → Int → Hp → Prop) → Prop) : TE := fun σ H Q => te σ H fun a b H1 => (0 ≤ a ∧ a ≤ 16000 ∧ 0 ≤ b ∧ b ≤ 16000) ∧ ∀ q, H1 q = none → Q (.ref q) (upd H1 q (.lst (rgB a b)))
theorem pe_listRev {X : Cx} {e : Expr} {te : L2.St → Hp → (Int → Int → Hp → Prop) → Prop} {p p2 pos pos2 : Pos} (hc : X.calm = true) (hg : Gl X "list") (hm : X.mg "list" = none) (hg2 : Gl X "reversed") (hm2 : X.mg "reversed" = none) (he : PRg X e te)
    (na2 : starEach [.Call (.Name "reversed" p2) [e] [] pos2] X.env = (false, eval (.Call (.Name "reversed" p2) [e] [] pos2) X.env) :: starEach [] X.env := by rfl) (na : starEach [e] X.env = (false, eval e X.env) :: starEach [] X.env := by rfl) :
    PE X (.Call (.Name "list" p) [.Call (.Name "reversed" p2) [e] [] pos2] [] pos) (tLstRev te) := by
  refine ⟨fun pins s σ H Q I h => ?_⟩
  refine Call_ (ld_blt I hg hm boot_list (PyProof.Rows.callWith_type1 (args_cons ?_ na2) na2))
  refine Call_ (ld_blt I hg2 hm2 PyProof.Rows.boot_reversed (PyProof.Rows.callWith_type1 (args_cons (thn (he pins s σ H _ I h) fun u s1 hx => args_nil ?_) na) na))
  obtain ⟨r, a, b, t, w1, v, H1, eu, hr, I1, ⟨b1, b2, b3, b4⟩, q⟩ := hx
  subst eu
  have hn : Builtin.Range.rangeSize a b 1 = (((b - a).toNat : Nat) : Int) := rangeSize_nat a b
  refine call_reversed_range hr (smallRev_one (by omega) (by omega) (by omega) (by omega)) (args_nil ?_)
  have kp : ∀ b' o, s1.heap.get? b' = some o → (s1.heap.push (rngRevObj a b 1)).get? b' = some o := fun _ _ e => Heap.get?_push_of_some _ e
  have hit : IsRangeIter (s1.heap.push (rngRevObj a b 1)) s1.heap.objs.size (a + (((b - a).toNat : Nat) : Int) - 1) (((b - a).toNat : Nat) : Int) (-1) := by
    have e1 : a + (((b - a).toNat : Nat) : Int) - 1 = a + (Builtin.Range.rangeSize a b 1 - 1) * 1 := by rw [hn]; omega
    rw [e1, ← hn]
    exact Heap.get?_push_size _ rfl
  have hsz : (s1.heap.push (rngRevObj a b 1)).objs.size = s1.heap.objs.size + 1 := Heap.size_push _ _
  refine list_rit (s := { s1 with heap := s1.heap.push (rngRevObj a b 1) }) (n := (b - a).toNat) (I1.ok.hd hc) hit (by omega) fun h' tk acc c' hk e' hi => ?_
  have hk' : ∀ b' o, s1.heap.get? b' = some o → h'.get? b' = some o := fun b' o e => hk b' o (fun z => by rw [z] at e; exact absurd (Heap.lt_size e) (Nat.lt_irrefl _)) (kp b' o e)
  rw [hsz] at e' ⊢
  refine ⟨.ref (s1.heap.objs.size + 1), upd H1 (s1.heap.objs.size + 1) (.lst (rgB a b)), I1.laid hk' (Nat.le_succ _) (show ObjOk X.prog X.w _ _ _ (.lst (rgB a b)) from ⟨?_, acc.toList, c', vals_rgB hi, ?_⟩), rfl, q _ (I1.hok.fresh (Nat.le_succ _))⟩
  · rw [rgB_length, sizeLine_eq]; omega
  · rw [Array.toArray_toList]; exact e'
end Own

namespace Own
/-! a sweep over a row, as mathematics -/
inductive Way
  | all | on | back
  deriving DecidableEq
/-- what stands at an index of the row C, the ends of xs being held -/
def hel (xs C : List Int) (i : Int) : Int := if i < 0 then xs.headD 0 else if i < C.length then C.getD i.toNat 0 else xs.getLastD 0
/-- the offsets, each as often as its weight says -/
def offsN (ns : List Int) (own : Int) : Nat → List Int
  | 0 => []
  | i + 1 => offsN ns own i ++ List.replicate (ns.getD i 0).toNat ((i : Int) - own)
def offs (ns : List Int) (own : Int) : List Int := offsN ns own ns.length
/-- the values of the neighbours of place i -/
def valsAt (held : Bool) (n : Nat) (i : Int) (os : List Int) (g : Int → Int) : List Int :=
  (os.filter fun o => held || (decide (0 ≤ i + o) && decide (i + o < n))).map fun o => g (i + o)
def srt (L : List Int) : List Int := L.mergeSort fun a b => decide (a ≤ b)
def pick (L : List Int) (k x : Int) : Int := if L = [] then x else (srt L).getD (min k L.length - 1).toNat 0
def swStep (os : List Int) (held : Bool) (k : Int) (way : Way) (xs W : List Int) (i : Nat) : List Int :=
  W.set i (pick (valsAt held xs.length i os (hel xs (if way = .all then xs else W))) k (W.getD i 0))
def orderOf (way : Way) (n : Nat) : List Nat := if way = .back then (List.range n).reverse else List.range n
def sweepF (os : List Int) (held : Bool) (k : Int) (way : Way) (xs : List Int) : List Int := (orderOf way xs.length).foldl (swStep os held k way xs) xs
section
variable {os : List Int} {held : Bool} {k : Int} {way : Way} {xs : List Int}
theorem swStep_len (W : List Int) (i : Nat) : (swStep os held k way xs W i).length = W.length := List.length_set
theorem fold_len : ∀ (o : List Nat) (W : List Int), (o.foldl (swStep os held k way xs) W).length = W.length
  | [], _ => rfl
  | i :: o, W => by rw [List.foldl_cons, fold_len o, swStep_len]
theorem sweepF_len : (sweepF os held k way xs).length = xs.length := fold_len _ _
theorem swStep_ne {W : List Int} {i j : Nat} (h : j ≠ i) : (swStep os held k way xs W i).getD j 0 = W.getD j 0 := by
  unfold swStep
  simp only [List.getD_eq_getElem?_getD, List.getElem?_set_ne (Ne.symm h)]
theorem swStep_self {W : List Int} {i : Nat} (h : i < W.length) : (swStep os held k way xs W i).getD i 0 = pick (valsAt held xs.length i os (hel xs (if way = .all then xs else W))) k (W.getD i 0) := by
  unfold swStep
  rw [List.getD_eq_getElem?_getD, List.getElem?_set_self h]
  rfl
theorem fold_notin {j : Nat} : ∀ (o : List Nat) (W : List Int), j ∉ o → (o.foldl (swStep os held k way xs) W).getD j 0 = W.getD j 0
  | [], _, _ => rfl
  | i :: o, W, h => by
    rw [List.foldl_cons, fold_notin o _ (fun q => h (List.mem_cons_of_mem _ q)), swStep_ne (fun q => h (by rw [q]; exact List.mem_cons_self))]
theorem orderOf_mem {n i : Nat} : i ∈ orderOf way n ↔ i < n := by
  unfold orderOf
  split
  · rw [List.mem_reverse, List.mem_range]
  · rw [List.mem_range]
/-- i comes before j -/
def ahead (way : Way) (i j : Nat) : Prop := if way = .back then j < i else i < j
instance {i j : Nat} : Decidable (ahead way i j) := by unfold ahead; infer_instance
theorem orderOf_pairwise {n : Nat} : (orderOf way n).Pairwise (ahead way) := by
  unfold orderOf ahead
  by_cases h : way = .back
  · rw [if_pos h]
    simp only [h, if_true]
    rw [List.pairwise_reverse]
    exact List.pairwise_lt_range
  · rw [if_neg h]
    simp only [h, if_false]
    exact List.pairwise_lt_range
theorem ahead_ne {i j : Nat} (h : ahead way i j) : i ≠ j := by
  unfold ahead at h
  split at h <;> omega
theorem ahead_not {i j : Nat} (h : ahead way i j) : ¬ ahead way j i := by
  unfold ahead at h ⊢
  split at h
  · rw [if_pos (by assumption)]; omega
  · rw [if_neg (by assumption)]; omega
/-- the row as it stands when place i is written: the final cells ahead of it, the old ones elsewhere -/
theorem sweepF_at {i : Nat} (hi : i < xs.length) : ∃ C : List Int, C.length = xs.length ∧ (sweepF os held k way xs).getD i 0 = pick (valsAt held xs.length i os (hel xs C)) k (xs.getD i 0) ∧
    ∀ j, j < xs.length → C.getD j 0 = if way ≠ .all ∧ ahead way j i then (sweepF os held k way xs).getD j 0 else xs.getD j 0 := by
  obtain ⟨pre, post, e⟩ := List.append_of_mem ((orderOf_mem (way := way)).mpr hi)
  have pw := orderOf_pairwise (way := way) (n := xs.length)
  rw [e, List.pairwise_append] at pw
  obtain ⟨-, p2, p3⟩ := pw
  rw [List.pairwise_cons] at p2
  have npre : i ∉ pre := fun q => ahead_ne (p3 i q i List.mem_cons_self) rfl
  have npost : i ∉ post := fun q => ahead_ne (p2.1 i q) rfl
  have hp : ∀ j, j < xs.length → (j ∈ pre ↔ ahead way j i) := fun j hj => by
    refine ⟨fun q => p3 j q i List.mem_cons_self, fun q => ?_⟩
    have : j ∈ pre ++ i :: post := by rw [← e]; exact orderOf_mem.mpr hj
    rcases List.mem_append.mp this with h | h
    · exact h
    · rcases List.mem_cons.mp h with rfl | h
      · exact absurd rfl (ahead_ne q)
      · exact absurd (p2.1 j h) (ahead_not q)
  have fin : sweepF os held k way xs = post.foldl (swStep os held k way xs) (swStep os held k way xs (pre.foldl (swStep os held k way xs) xs) i) := by
    unfold sweepF
    rw [e, List.foldl_append, List.foldl_cons]
  have lp : (pre.foldl (swStep os held k way xs) xs).length = xs.length := fold_len _ _
  refine ⟨if way = .all then xs else pre.foldl (swStep os held k way xs) xs, by split <;> first | rfl | exact lp, ?_, fun j hj => ?_⟩
  · rw [fin, fold_notin post _ npost, swStep_self (by rw [lp]; exact hi), fold_notin _ _ npre]
  · by_cases hw : way = .all
    · rw [if_pos hw, if_neg (fun z => z.1 hw)]
    · rw [if_neg hw]
      by_cases ha : ahead way j i
      · rw [if_pos ⟨hw, ha⟩, fin, fold_notin post _ (fun q => ahead_not ha (p2.1 j q)), swStep_ne (ahead_ne ha)]
      · rw [if_neg (fun z => ha z.2), fold_notin pre _ (fun q => ha ((hp j hj).mp q))]
end
/-! ranks -/
theorem srt_perm (L : List Int) : (srt L).Perm L := List.mergeSort_perm _ _
theorem srt_sorted (L : List Int) : (srt L).Pairwise (· ≤ ·) := by
  have := List.pairwise_mergeSort (le := fun a b : Int => decide (a ≤ b)) (fun a b c h1 h2 => decide_eq_true (Int.le_trans (of_decide_eq_true h1) (of_decide_eq_true h2))) (fun a b => by
    rcases Int.le_total a b with h | h
    · simp [h]
    · simp [h]) L
  exact this.imp fun h => of_decide_eq_true h
theorem srt_len (L : List Int) : (srt L).length = L.length := (srt_perm L).length_eq
theorem pick_rank {L : List Int} {k x : Int} (hk : 1 ≤ k) (hL : L ≠ []) : ((L.countP fun v => decide (v < pick L k x) : Nat) : Int) < min k L.length ∧ min k (L.length : Int) ≤ (L.countP fun v => decide (v ≤ pick L k x) : Nat) := by
  have pos : 0 < L.length := List.length_pos_iff.mpr hL
  have hr1 : 1 ≤ min k (L.length : Int) := by omega
  have hr2 : min k (L.length : Int) ≤ L.length := by omega
  obtain ⟨r, hr⟩ : ∃ r : Nat, min k (L.length : Int) = (r : Int) + 1 := ⟨(min k (L.length : Int) - 1).toNat, by omega⟩
  have hrl : r < (srt L).length := by rw [srt_len]; omega
  have e : pick L k x = (srt L)[r] := by
    unfold pick
    rw [if_neg hL, hr, show ((r : Int) + 1 - 1).toNat = r by omega]
    simp [List.getD, hrl]
  rw [e, hr, ← (srt_perm L).countP_eq, ← (srt_perm L).countP_eq]
  have split : srt L = (srt L).take r ++ (srt L)[r] :: (srt L).drop (r + 1) := by
    rw [← List.drop_eq_getElem_cons hrl, List.take_append_drop]
  have pw := srt_sorted L
  rw [split, List.pairwise_append, List.pairwise_cons] at pw
  obtain ⟨-, ⟨p1, -⟩, p3⟩ := pw
  have tl : ((srt L).take r).length = r := by rw [List.length_take]; omega
  generalize (srt L)[r] = m at split p1 p3 ⊢
  rw [split, List.countP_append, List.countP_append, List.countP_cons, List.countP_cons]
  have z : List.countP (fun v => decide (v < m)) (List.drop (r + 1) (srt L)) = 0 := List.countP_eq_zero.mpr fun a ha q => by
    have := p1 a ha
    have := of_decide_eq_true q
    omega
  have f : List.countP (fun v => decide (v ≤ m)) (List.take r (srt L)) = r := by
    rw [List.countP_eq_length.mpr (fun a ha => decide_eq_true (p3 a ha m List.mem_cons_self)), tl]
  have g : List.countP (fun v => decide (v < m)) (List.take r (srt L)) ≤ r := Nat.le_trans List.countP_le_length (Nat.le_of_eq tl)
  rw [z, f]
  have i1 : (if decide (m < m) = true then 1 else 0) = 0 := if_neg (by simp)
  have i2 : (if decide (m ≤ m) = true then 1 else 0) = 1 := if_pos (by simp)
  rw [i1, i2]
  omega
end Own

namespace Own
open PySem L2
/-! the same over the words of a sweep -/
def wayOf (ys : Str) : Way := if ys = "all" then .all else if ys = "on" then .on else .back
def heldOf (es : Str) : Bool := decide (es = "held")
/-- the row that a sweep makes -/
def swept (ns : List Int) (k own : Int) (es ys : Str) (xs : List Int) : List Int := sweepF (offs ns own) (heldOf es) k (wayOf ys) xs
theorem swept_len {ns : List Int} {k own : Int} {es ys : Str} {xs : List Int} : (swept ns k own es ys xs).length = xs.length := sweepF_len
theorem used_pw (ns : List Int) : (used ns).Pairwise (· < ·) := by
  unfold used
  rw [List.pairwise_map]
  refine (List.Pairwise.filter _ List.pairwise_lt_range).imp fun h => ?_
  omega
theorem used_in {ns : List Int} {k : Nat} (hk : k < ns.length) (h : 0 < ns.getD k 0) : (k : Int) ∈ used ns := by
  unfold used
  exact List.mem_map.mpr ⟨k, List.mem_filter.mpr ⟨List.mem_range.mpr hk, decide_eq_true h⟩, rfl⟩
theorem used_bounds {ns : List Int} {k : Int} (h : k ∈ used ns) : usedF ns ≤ k ∧ k ≤ usedL ns := by
  have pw := used_pw ns
  unfold usedF usedL
  constructor
  · cases e : used ns with
    | nil => rw [e] at h; cases h
    | cons a r =>
      rw [e] at pw h
      rw [List.pairwise_cons] at pw
      show a ≤ k
      rcases List.mem_cons.mp h with rfl | h
      · exact Int.le_refl _
      · exact Int.le_of_lt (pw.1 k h)
  · have hne : used ns ≠ [] := fun z => by rw [z] at h; cases h
    obtain ⟨r, z, e⟩ : ∃ r z, used ns = r ++ [z] := ⟨(used ns).dropLast, (used ns).getLast hne, (List.dropLast_concat_getLast hne).symm⟩
    rw [e, show (r ++ [z]).getLastD 0 = z by simp]
    rw [e, List.pairwise_append] at pw
    rw [e] at h
    rcases List.mem_append.mp h with h | h
    · exact Int.le_of_lt (pw.2.2 k h z (List.mem_singleton.mpr rfl))
    · rw [List.mem_singleton.mp h]; exact Int.le_refl _
theorem offsN_mem {ns : List Int} {own o : Int} : ∀ {m : Nat}, m ≤ ns.length → o ∈ offsN ns own m → (o + own) ∈ used ns
  | 0, _, h => by cases h
  | m + 1, hm, h => by
    unfold offsN at h
    rcases List.mem_append.mp h with h | h
    · exact offsN_mem (by omega) h
    · obtain ⟨h1, h2⟩ := List.mem_replicate.mp h
      subst h2
      have := used_in (ns := ns) (k := m) (by omega) (by omega)
      rw [show (m : Int) - own + own = (m : Int) by omega]
      exact this
theorem offs_bounds {ns : List Int} {own o : Int} (h : o ∈ offs ns own) : - leftOf ns own ≤ o ∧ o ≤ rightOf ns own := by
  obtain ⟨a, b⟩ := used_bounds (offsN_mem (Nat.le_refl _) h)
  unfold leftOf rightOf
  constructor <;> split <;> omega
theorem leftOf_nn (ns : List Int) (own : Int) : 0 ≤ leftOf ns own := by unfold leftOf; split <;> omega
theorem rightOf_nn (ns : List Int) (own : Int) : 0 ≤ rightOf ns own := by unfold rightOf; split <;> omega
theorem offsN_len {ns : List Int} {own : Int} (h : ∀ n ∈ ns, 0 ≤ n ∧ n ≤ 3) : ∀ m, (offsN ns own m).length ≤ 3 * m
  | 0 => Nat.zero_le _
  | m + 1 => by
    unfold offsN
    rw [List.length_append, List.length_replicate]
    have := offsN_len (own := own) h m
    have hb : ns.getD m 0 ≤ 3 := by
      by_cases hm : m < ns.length
      · rw [show ns.getD m 0 = ns[m] by simp [List.getD, hm]]
        exact (h _ (List.getElem_mem hm)).2
      · rw [show ns.getD m 0 = 0 by simp [List.getD, hm]]
        decide
    omega
/-- the row between its held ends -/
def padR (l r : Nat) (xs C : List Int) : List Int := List.replicate l (xs.headD 0) ++ C ++ List.replicate r (xs.getLastD 0)
theorem padR_len {l r : Nat} {xs C : List Int} : (padR l r xs C).length = l + C.length + r := by
  unfold padR
  rw [List.length_append, List.length_append, List.length_replicate, List.length_replicate]
theorem padR_get {l r : Nat} {xs C : List Int} {a : Int} (h0 : -(l : Int) ≤ a) (h1 : a < (C.length : Int) + r) : (padR l r xs C)[((l : Int) + a).toNat]? = some (hel xs C a) := by
  unfold padR hel
  by_cases ha : a < 0
  · rw [if_pos ha, List.append_assoc, List.getElem?_append_left (by rw [List.length_replicate]; omega), List.getElem?_replicate, if_pos (by omega)]
  · rw [if_neg ha]
    by_cases hb : a < (C.length : Int)
    · rw [if_pos hb, List.append_assoc, List.getElem?_append_right (by rw [List.length_replicate]; omega), List.length_replicate, show ((l : Int) + a).toNat - l = a.toNat by omega, List.getElem?_append_left (by omega)]
      rw [List.getElem?_eq_getElem (by omega)]
      simp [List.getD, show a.toNat < C.length by omega]
    · rw [if_neg hb, List.getElem?_append_right (by rw [List.length_append, List.length_replicate]; omega), List.getElem?_replicate, if_pos (by rw [List.length_append, List.length_replicate]; omega)]
theorem padR_set {l r : Nat} {xs C : List Int} {i : Nat} {v : Int} (h : i < C.length) : (padR l r xs C).set (l + i) v = padR l r xs (C.set i v) := by
  unfold padR
  rw [List.append_assoc, List.append_assoc, List.set_append_right _ _ (by rw [List.length_replicate]; omega), List.length_replicate, show l + i - l = i by omega, List.set_append_left _ _ h]
theorem padR_mid {l r : Nat} {xs C : List Int} : ((padR l r xs C).drop l).take C.length = C := by
  unfold padR
  rw [List.append_assoc, List.drop_left' (by rw [List.length_replicate]), List.take_left' rfl]
/-- the values, weight by weight, as a law puts them together -/
theorem valsAt_succ {held : Bool} {n : Nat} {i : Int} {ns : List Int} {own : Int} {m : Nat} {g : Int → Int} : valsAt held n i (offsN ns own (m + 1)) g =
    valsAt held n i (offsN ns own m) g ++ if held = true ∨ (0 ≤ i + m - own ∧ i + m - own < n) then List.replicate (ns.getD m 0).toNat (g (i + m - own)) else [] := by
  unfold valsAt
  show List.map _ (List.filter _ (offsN ns own m ++ List.replicate (ns.getD m 0).toNat ((m : Int) - own))) = _
  rw [List.filter_append, List.map_append]
  congr 1
  have e : i + ((m : Int) - own) = i + m - own := by omega
  by_cases h : held = true ∨ (0 ≤ i + m - own ∧ i + m - own < n)
  · rw [if_pos h, List.filter_replicate_of_pos (by
      rw [e]
      rcases h with h | h
      · rw [h]; rfl
      · rw [decide_eq_true h.1, decide_eq_true h.2]; simp), List.map_replicate, e]
  · rw [if_neg h, List.filter_replicate_of_neg (by
      rw [e]
      intro z
      rw [Bool.or_eq_true, Bool.and_eq_true] at z
      exact h (z.imp id fun z => ⟨of_decide_eq_true z.1, of_decide_eq_true z.2⟩))]
    rfl
theorem valsAt_congr {held : Bool} {n : Nat} {i : Int} {os : List Int} {g g' : Int → Int} (h : ∀ a, g a = g' a) : valsAt held n i os g = valsAt held n i os g' := by
  rw [show g = g' from funext h]
theorem valsAt_len {held : Bool} {n : Nat} {i : Int} {os : List Int} {g : Int → Int} : (valsAt held n i os g).length ≤ os.length := by
  unfold valsAt
  rw [List.length_map]
  exact List.length_filter_le _ _
end Own

namespace Own
open PySem L2 PySem.Spec PyProof.Rows
section
variable {X : Cx} {K : PySem.W.Frag} {H : Hp} {Q : VK}
/-! ### an instance called -/
def tCallI (C : Addr) (sp : Sp) (E : XK) (tf : TE) (t : TA) : TE := fun σ H Q => tf σ H fun y H1 => ∃ a, y = V.ref a ∧ t σ H1 fun vs H2 => (∃ dx fs, H2 a = some (.ins C dx fs)) ∧ sp (V.ref a :: vs) H2 Q E
theorem pe_callI {CX : CXT} {k : Nat} {C g : Addr} {fd : FuncData} {ps : List Str} {sp : Sp} {E : XK} {pos : Pos} {fe e : Expr} {es : List Expr} {tf : TE} {t : TA} (hf : PE X fe tf) (c : StX.CallO X.K C g) (F : FnOk X.prog X.w X.K X.mg X.base CX k g fd ps sp) (hb : Binds X.K fd ps []) (hr : Room k X.A) (hx : Passes CX X E) (ha : PA X (e :: es) t)
    (ht : eval (.Call fe (e :: es) [] pos) X.env = (do callWith pos (← eval fe X.env) [] (backTo pos (starEach (e :: es) X.env)) (backToKw pos (keywordEach [] X.env))) := by rfl)
    (he : starEach (e :: es) X.env = (false, eval e X.env) :: starEach es X.env := by rfl) (hpl : (backTo pos (starEach es X.env)).any (·.1) = false := by rfl) : PE X (.Call fe (e :: es) [] pos) (tCallI C sp E tf t) := by
  have e0 : (fun (vs : List V) (H : Hp) (Q : VK) (E : XK) => sp (vs ++ []) H Q E) = sp := by
    funext vs H Q E
    rw [List.append_nil]
  have F2 : FnR X.prog X.w X.K X.mg X.base CX k g sp := e0 ▸ F.raw hb .nil
  refine ⟨fun pins s σ H Q I h => ?_⟩
  refine Call_ (thn (hf.run pins s σ H _ I h) fun u s1 ⟨y, H1, I1, ry, a, ey, q⟩ => ?_) ht
  subst ey
  obtain rfl : u = Value.ref a := ry
  refine StX.callO_with (thn (ha.run pos pins s1 σ H1 _ I1 q) fun us s2 ⟨vs, H2, I2, r, ⟨dx, fs, hi⟩, q2⟩ => ?_) he hpl
  obtain ⟨ox, od, J, hd⟩ := StX.insC_at I2 (.inr ⟨dx, fs, hi⟩)
  exact ⟨⟨C, ox, od, J, hd⟩, StX.run_callO c F2 hr hx I2 (.inr ⟨dx, fs, hi⟩) r q2⟩
theorem r_callI {C : Addr} {sp : Sp} {E : XK} {tf : TE} {t : TA} {σ : L2.St} (h : tf σ H fun y H1 => ∃ a, y = V.ref a ∧ t σ H1 fun vs H2 => (∃ dx fs, H2 a = some (.ins C dx fs)) ∧ sp (V.ref a :: vs) H2 Q E) : tCallI C sp E tf t σ H Q := h
theorem r_callL {i : Nat} {f : Addr} {sp : Sp} {E : XK} {t : TA} {σ : L2.St} (h0 : σ[i]? = some (some (.ref f))) (h : t σ H fun vs H1 => sp vs H1 Q E) : tCallL i f sp [] E t σ H Q := by
  refine ⟨h0, ?_⟩
  rw [show (fun (vs : List V) (H1 : Hp) => sp (vs ++ []) H1 Q E) = fun vs H1 => sp vs H1 Q E from by funext vs H1; rw [List.append_nil]]
  exact h
/-! ### sorted(xs, key=int) of ints -/
def rSortedInt (K : PySem.W.Frag) : List V → List V → Hp → VK → Prop := fun vs zs H Q => ∃ (a : Addr) (ns : List Int), vs = [V.ref a] ∧ zs = [.ty "int"] ∧ SqL K H a (ns.map V.int) ∧ ∀ p, H p = none → Q (.ref p) (upd H p (.lst ((srt ns).map V.int)))
theorem ints_each {its : List Value} {ns : List Int} (r : Vals (ns.map V.int) its) : PySem.W.EachIs (fun (v : Value) (n : Int) => ∃ t, v = .int n t) its ns := by
  induction ns generalizing its with
  | nil => cases r; exact .nil
  | cons n ns ih =>
    cases r with
    | cons h r => exact .cons h (ih r)
theorem each_ints {its : List Value} {ns : List Int} (r : PySem.W.EachIs (fun (v : Value) (n : Int) => ∃ t, v = .int n t) its ns) : Vals (ns.map V.int) its := by
  induction r with
  | nil => exact .nil
  | cons h r ih => exact .cons h ih
theorem cr_sortedInt (K : PySem.W.Frag) (hu : X.A.units + 64 < cLine) (hK : X.K = K := by rfl) : CallRK X (.builtin "sorted") [Str.ofString "key"] (rSortedInt K) := by
  subst hK
  intro pins s σ H xs zs us ws Q I r rz h
  obtain ⟨a, ns, rfl, rfl, hs, q⟩ := h
  obtain ⟨its, rv, pl, hz⟩ := I.list hs
  rw [Vals.ref1 r]
  obtain ⟨u, rfl, ru⟩ := vals1 rz
  obtain rfl : u = Value.type "int" := ru
  have e := ints_each rv
  refine PySem.W.sorted_key_data (b := false) (fun n : Int => PyData.int n) (f := .type "int") pl.isList e (PySem.W.AllAlike.of fun _ _ => by simp [PySem.W.alike]) (PySem.W.Sortable.others fun _ => ⟨(fun z => by cases z), (fun _ z => by cases z)⟩) ?_ (fun n _ => ?_) (PyProof.Rows.ksk_s1 _ _) (fun _ => PyProof.Rows.ksk_l1 _ _) (fun _ => rfl)
    (fun v n ⟨t, hv⟩ _ h tk kp => ?_) fun out c h' tk kp _ hD hl eo => ?_
  · rw [List.length_map] at hz; exact hz
  · show X.A.units + 2 + 0 < cLine
    omega
  · subst hv
    exact call_int_int ⟨h, tk, rfl, fun _ _ e => e, Reads.int _ _⟩
  · rw [PySem.W.dataLe_int (fun n : Int => n)] at eo
    refine ⟨.ref (s.heap.objs.size + 1), upd H (s.heap.objs.size + 1) (.lst ((srt ns).map V.int)), I.laid kp (Nat.le_succ _) (show ObjOk X.prog X.w _ _ _ (.lst ((srt ns).map V.int)) from ⟨?_, out, c, each_ints eo, hD⟩), rfl, q _ (I.hok.fresh (Nat.le_succ _))⟩
    rw [List.length_map, srt_len]; rw [List.length_map] at hz; exact hz
theorem r_ckwS {zs : List V} {a : Addr} {ns : List Int} (ha : Sq H a (ns.map V.int)) (q : ∀ p, H p = none → Q (.ref p) (upd H p (.lst ((srt ns).map V.int)))) (hL : H a = some (.lst (ns.map V.int))) : rSortedInt K [.ref a] [.ty "int"] H Q := ⟨a, ns, rfl, rfl, SqL.of hL, q⟩
/-! ### min of two -/
def rMin2 : List V → Hp → VK → Prop := fun xs H Q => ∃ i j, xs = [.int i, .int j] ∧ Q (.int (if j < i then j else i)) H
theorem call_minS (hc : X.calm = true) : CallR X (.builtin "min") rMin2 := call_min2 hc
theorem r_min {i j : Int} (q : Q (.int (min i j)) H) : rMin2 [.int i, .int j] H Q := ⟨i, j, rfl, by
  rw [show (if j < i then j else i) = min i j by split <;> omega]
  exact q⟩
end
end Own

namespace Own
open PySem L2 PySem.Spec PyProof.Rows
/-! enumerate of a tuple; x in a tuple of data -/
set_option maxHeartbeats 2000000 in
theorem enum_new1 {v : Value} {ob : Obj} {Hh : Heap → Prop} (B : Begins v ob Hh) :
    Meets (Builtin.«enumerate.__new__» ⟨[.type "enumerate", v], []⟩) (fun _ R st => Hh st.heap ∧
      R (.ok (.ret (.ref (st.heap.push ob).objs.size))) { st with heap := (st.heap.push ob).push { cls := .type "enumerate", data := .fields #[.none, .bool false, .ref st.heap.objs.size, rawInt 0, .none, .none] } }) :=
  .of_wp fun prog w A R st hh => by
    obtain ⟨hp, gs, dr, tk, os⟩ := st
    obtain ⟨here, hh⟩ := hh
    have sub1 := sub_enumerate
    have it1 : ∀ {A' : Around} {E Q : Value → Shared → Prop}, Q (.ref hp.objs.size) ⟨hp.push ob, gs, dr, tk, os⟩ → wpAny (model prog w) A' (pyIter v) Q E ⟨hp, gs, dr, tk, os⟩ :=
      fun q => B.iter prog w _ _ ⟨hp, gs, dr, tk, os⟩ _ here q
    wp_walk using it1
    refine wpAny_stack_any fun _ => wpAny_pure ?_
    split
    · rename_i cl _ _ _ _ _
      cases (cl == Value.type "enumerate") <;>
      · wp_walk using it1
        exact ⟨_, rfl, hh⟩
    · wp_walk using it1
      exact ⟨_, rfl, hh⟩
section
variable {prog : Program} {w : World} {A : Around} {E : Value → Shared → Prop} {st : Shared}
theorem enum_call1 {v : Value} {ob : Obj} {Hh : Heap → Prop} {Q : Value → Shared → Prop} (B : Begins v ob Hh) (here : Hh st.heap)
    (k : ∀ h', IsEnum h' (st.heap.objs.size + 1) st.heap.objs.size 0 .none → h'.get? st.heap.objs.size = some ob → (∀ b o, st.heap.get? b = some o → h'.get? b = some o) → Q (.ref (st.heap.objs.size + 1)) { st with heap := h' }) :
    wpAny (model prog w) A (call (.type "enumerate") [v]) Q E st := by
  have size1 : (st.heap.push ob).objs.size = st.heap.objs.size + 1 := Heap.size_push ..
  refine callType_new F.called_enumerate (by decide) (F.typeCall_enumerate_1 _) (F.newCall_enumerate_1 _) (fun obj => F.args_object_init_2 obj _) F.entry_enumerate_new (enum_new1 B) ⟨here, ?_⟩
  show _ ∧ _
  rw [size1]
  have isE : IsEnum ((st.heap.push ob).push { cls := .type "enumerate", data := .fields #[.none, .bool false, .ref st.heap.objs.size, rawInt 0, .none, .none] }) (st.heap.objs.size + 1) st.heap.objs.size 0 .none := by
    have z := Heap.get?_push_size (st.heap.push ob) (o := { cls := .type "enumerate", data := .fields #[.none, .bool false, .ref st.heap.objs.size, rawInt 0, .none, .none] }) rfl
    rwa [size1] at z
  exact ⟨⟨_, isE, rfl⟩, k _ isE (Heap.get?_push_of_some _ (Heap.get?_push_size _ B.free)) fun b o x => Heap.get?_push_of_some _ (Heap.get?_push_of_some _ x)⟩
end
/-- the tuple at a as it stands at each turn, each item in a new pair -/
def IteT (K : PySem.W.Frag) (a : Addr) : It :=
  ⟨fun i H => ∃ (xs : List V) (x : V), SqT K H a xs ∧ xs[i]? = some x, fun i H v H' => ∃ T x, v = .ref T ∧ H T = none ∧ H' = upd H T (.tup [.int (i : Nat), x]) ∧ ∀ xs, SqT K H a xs → xs[i]? = some x, fun i H => ∃ xs : List V, SqT K H a xs ∧ xs.length ≤ i⟩
theorem turn_enumT {P : Program} {w : World} {K : PySem.W.Frag} {elts : List Expr} {kk : Nat} {tpos : Pos} (a e it : Addr) :
    Turn P w K (.Tuple elts kk tpos) (IteT K a) [e, it] e (fun i h => (∃ old, IsEnum h e it ((i : Nat) : Int) old) ∧ h.IsTupleIter it a i ∧ e ≠ it) where
  mem := List.mem_cons_self ..
  obj := fun i h here b hb => by
    obtain ⟨⟨old, isE⟩, ⟨ob, ho, hc, hd⟩, _⟩ := here
    rcases List.mem_cons.mp hb with rfl | hb
    · exact ⟨_, isE, fun v q => nomatch q⟩
    · obtain rfl := List.mem_singleton.mp hb
      exact ⟨ob, ho, fun v q => by rw [hd] at q; cases q⟩
  keep := fun i h h' here k => ⟨⟨here.1.choose, k e (List.mem_cons_self ..) _ here.1.choose_spec⟩, here.2.1.at fun ob q => k it (List.mem_cons_of_mem _ (List.mem_cons_self ..)) ob q, here.2.2⟩
  item := by
    intro X hP hw hK hc i pins s σ H E I free here todo
    subst hP hw hK
    obtain ⟨⟨old, isE⟩, isI, ne⟩ := here
    obtain ⟨xs, x, hq, hx⟩ := todo
    obtain ⟨its, rv, tup, hz⟩ := I.tuple hq
    obtain ⟨u, hu, ru⟩ := rv.get hx
    have ltE : e < s.heap.objs.size := Heap.lt_size isE
    have ltI : it < s.heap.objs.size := by
      obtain ⟨_, q, _⟩ := isI
      exact Heap.lt_size q
    by_cases ai : a = it
    · exfalso
      subst ai
      obtain ⟨o1, q1, c1, _⟩ := isI
      obtain ⟨o2, q2, c2, _⟩ := tup
      rw [q1] at q2
      cases q2
      rw [c1] at c2
      exact absurd (Value.type.inj c2) (by decide)
    have ea : e ∉ [it, a] := fun hm => by
      rcases List.mem_cons.mp hm with z | hm
      · exact ne z
      · have z := List.mem_singleton.mp hm
        obtain ⟨o2, q2, c2, _⟩ := tup
        rw [← z, isE] at q2
        cases q2
        exact absurd (Value.type.inj c2) (by decide)
    have hsz : i < its.toArray.size := by
      obtain ⟨z, _⟩ := List.getElem?_eq_some_iff.mp hu
      simpa using z
    refine wpAny_pyNext_enum_itemC (Draws.tuple (A := X.A.in1) (I.ok.hd hc) it a ai its.toArray) isE ⟨isI, tup⟩ hsz ne ea fun x1 h' tk hP ho hs hT hsz' hk => ?_
    have ex : x1 = u := by
      have z : some u = some x1 := hu.symm.trans (by simpa using hP)
      exact (Option.some.inj z).symm
    subst ex
    refine ⟨_, rfl, wpAny_letOwnedTupleGo_enum (s := { s with heap := h', toks := tk + 1 }) ho fun h2 he2 sb => ?_⟩
    have hT2 : h2.get? s.heap.objs.size = some { cls := .type "tuple", data := .seq #[.int i tk, x1] } := (sb.2 _ (Nat.ne_of_gt ltE)).trans hT
    have new : ObjOk X.prog X.w (upd H s.heap.objs.size (.tup [.int (i : Nat), x])) h2 s.heap.objs.size (.tup [.int (i : Nat), x]) :=
      ⟨by show 2 ≤ sizeLine; decide, [.int i tk, x1], .cons ⟨_, rfl⟩ (.cons ru .nil), ⟨_, hT2, rfl, _, rfl⟩⟩
    have I1 : L2.Inv X pins σ (upd H s.heap.objs.size (.tup [.int (i : Nat), x])) { s with heap := h2, toks := tk + 1 } :=
      I.turnedNew (t' := tk + 1) (ch := [e, it]) (fun b ob hb q => (sb.2 b fun z => hb (by rw [z]; exact List.mem_cons_self ..)).trans (hk b ob (fun z => hb (by rw [z]; exact List.mem_cons_self ..)) (fun z => hb (by rw [z]; exact List.mem_cons_of_mem _ (List.mem_cons_self ..))) q)) free (Nat.le_refl _) new
    refine ⟨.ref s.heap.objs.size, _, I1, rfl, ⟨_, x, rfl, I.hok.fresh (Nat.le_refl _), rfl, fun ys hy => by rw [I.tuple_inj hy hq]; exact hx⟩, ⟨⟨x1, ?_⟩, hs.1.at fun ob q => (sb.2 it (Ne.symm ne)).trans q, ne⟩, fun b hb => ?_⟩
    · have z : ((i + 1 : Nat) : Int) = (i : Int) + 1 := by omega
      rw [z]
      exact he2
    · have lt : b < s.heap.objs.size := by
        rcases List.mem_cons.mp hb with rfl | hb
        · exact ltE
        · rw [List.mem_singleton.mp hb]
          exact ltI
      rw [upd_ne (Nat.ne_of_lt lt)]
      exact (free b hb).1
  done := by
    intro X hP hw hK hc i pins s σ H E I free here todo
    subst hP hw hK
    obtain ⟨⟨old, isE⟩, isI, ne⟩ := here
    obtain ⟨xs, hq, hx⟩ := todo
    obtain ⟨its, rv, tup, hz⟩ := I.tuple hq
    obtain ⟨f0, f1, f2, f3, f4, f5⟩ := free it (List.mem_cons_of_mem _ (List.mem_cons_self ..))
    have len := rv.length
    have hT : s.TypeIs (.ref e) "enumerate" := ⟨_, isE, rfl⟩
    unfold pyNext
    refine wpAny_bind (wpAny_attempt (wpAny_callSpecial?_slot (name := Str.ofString "__next__") hT F.slot_enumerate_next (wpAny_call_entry F.slot_enumerate_next hT F.entry_enumerate_next ?_ (F.args_enumerate_next_1 _))))
    show wpAny _ _ (field (.ref e) 2 >>= _) _ _ _
    refine wpAny_bind (wpAny_field isE rfl (x := .ref it) rfl (wpAny_bind (wpAny_nextOf_tuple_end (I.ok.hd hc) isI tup (by simp; omega) fun h' x1 eb hx1 => ?_)))
    obtain ⟨ob, ho, hc1⟩ := hx1
    refine wpAny_bind (wpAny_isInstance (T := "StopIteration") (b := true) ⟨ob, ho, hc1⟩ isSubtype_stop ?_)
    exact wpAny_pure ⟨rfl, I.turned (t' := s.toks) (fun b ob hb q => eb b ob hb q) f0 f1 f3 f4 f5⟩
  self := fun A i s Q E here k => wpAny_pyIter_enum here.1.choose_spec k
def iEnumT (K : PySem.W.Frag) (ta : TA) : TI := fun σ H R => ta σ H fun vs H1 => ∃ a xs, vs = [.ref a] ∧ SqT K H1 a xs ∧ R (IteT K a) H1
theorem pi_enumT (K : PySem.W.Frag) {X : Cx} {e : Expr} {ta : TA} {p pos tpos : Pos} {elts : List Expr} {kk : Nat} (hg : Gl X "enumerate") (hm : X.mg "enumerate" = none) (ha : PA X [e] ta) (hs : starEach [e] X.env = [(false, eval e X.env)] := by rfl) (hK : X.K = K := by rfl) :
    PI X (.Tuple elts kk tpos) (.Call (.Name "enumerate" p) [e] [] pos) (iEnumT K ta) := by
  subst hK
  refine ⟨fun pins s σ H R I h => ?_⟩
  refine Call_ (ld_blt I hg hm boot_enumerate (PyProof.Rows.callWith_type1 (thn (ha.run pos pins s σ H _ I h) fun us s1 ⟨vs, H1, I1, r1, a, xs, ex, hq, q⟩ => ?_) hs rfl))
  subst ex
  cases r1 with
  | cons r rr =>
    cases rr
    cases r
    obtain ⟨its, rv, tup, hz⟩ := I1.tuple hq
    refine enum_call1 (begins_tuple a its.toArray) tup fun h' isE isI hk => wpAny_pyIter_enum isE ?_
    have I2 : L2.Inv X pins σ H1 { s1 with heap := h' } := I1.kept (t' := s1.toks) hk
    refine ⟨s1.heap.objs.size + 1, [s1.heap.objs.size + 1, s1.heap.objs.size], _, _, H1, rfl, I2, turn_enumT a (s1.heap.objs.size + 1) s1.heap.objs.size, ⟨⟨.none, isE⟩, ⟨_, isI, rfl, rfl⟩, Nat.succ_ne_self _⟩, fun b hb => ?_, q⟩
    have le : s1.heap.objs.size ≤ b := by
      rcases List.mem_cons.mp hb with rfl | hb
      · exact Nat.le_succ _
      · rw [List.mem_singleton.mp hb]
        exact Nat.le_refl _
    exact I1.fpOk le (I1.hok.fresh le)
theorem walk_enumT {K : PySem.W.Frag} {a : Addr} {xs : List V} : Walk (IteT K a) xs.length (fun H => SqT K H a xs) (YPair (fun i => some (.int (i : Nat))) (fun i => xs[i]?)) := by
  refine ⟨fun i _ hi q => ⟨xs, xs[i], q, List.getElem?_eq_getElem hi⟩, fun _ q => ⟨xs, q, Nat.le_refl _⟩, fun i H v H' _ q y => ?_⟩
  obtain ⟨T, x, h1, h2, h3, h4⟩ := y
  exact ⟨T, .int (i : Nat), x, h1, h2, h3, rfl, h4 xs q⟩
end Own

namespace Own
open PySem L2 PySem.Spec PyProof.Rows
/-! two clauses in a comprehension -/
def LcIn2 (J1 : It) (g1 : TG) (tt1 : TT) (te : TE) (vs1 : List Nat) (σ2 : L2.St) (D : Addr) (Nx : Hp → Prop) (H4 : Hp) : Prop :=
  ∃ W1 : Nat → Nat → Hp → Prop, (∃ m, W1 0 m H4) ∧ ∀ j k H, W1 j k H →
      (J1.stop j H ∧ Nx H) ∨ (J1.go j H ∧ ∃ Nx1 : Hp → Prop, (∀ H', Nx1 H' → ∃ k', k' < k ∧ W1 (j + 1) k' H') ∧ ∀ x H', J1.yld j H x H' → g1 x (wipe σ2 vs1) H' fun σ3 H5 => wipe σ3 vs1 = wipe σ2 vs1 ∧ tt1 σ3 H5 fun b H6 =>
        if b = true then te σ3 H6 fun y H7 => ∃ acc, H7 D = some (.lst acc) ∧ acc.length < sizeLine ∧ Nx1 (upd H7 D (.lst (acc ++ [y]))) else Nx1 H6)
def LcOut2 (J : It) (g : TG) (tt : TT) (wi1 : TI) (g1 : TG) (tt1 : TT) (te : TE) (vs vs1 : List Nat) (σ : L2.St) (Q : VK) (H1 : Hp) (D : Addr) : Prop :=
  ∃ W : Nat → Nat → Hp → Prop, (∃ m, W 0 m (upd H1 D (.lst []))) ∧ ∀ i m H, W i m H →
  (J.stop i H ∧ Q (.ref D) H) ∨ (J.go i H ∧ ∃ Nx : Hp → Prop, (∀ H', Nx H' → ∃ m', m' < m ∧ W (i + 1) m' H') ∧ ∀ x H', J.yld i H x H' → g x (wipe σ vs) H' fun σ2 H2 => wipe σ2 vs = wipe σ vs ∧ tt σ2 H2 fun b H3 =>
    if b = true then wi1 σ2 H3 fun J1 H4 => LcIn2 J1 g1 tt1 te vs1 σ2 D Nx H4 else Nx H3)
section
variable {g g1 : TG} {tt tt1 : TT} {wi wi1 : TI} {te : TE} {vs vs1 : List Nat} {σ : L2.St} {H H1 H4 : Hp} {D : Addr} {Q : VK} {K : PySem.W.Frag}
theorem r_lc2 (h : wi σ H fun J H1 => ∀ D, H1 D = none → LcOut2 J g tt wi1 g1 tt1 te vs vs1 σ Q H1 D) : tLc2 wi g tt wi1 g1 tt1 te vs vs1 σ H Q := h
theorem lc2_it {J : It} {n : Nat} {GG : Hp → Prop} {Y : Nat → Hp → V → Hp → Prop} (wk : Walk J n GG Y) (Pv : Nat → Hp → Prop) (h0 : Pv 0 (upd H1 D (.lst []))) (hG : ∀ i H, i ≤ n → Pv i H → GG H)
    (hs : ∀ i x H H', i < n → Pv i H → Y i H x H' → g x (wipe σ vs) H' fun σ2 H2 => wipe σ2 vs = wipe σ vs ∧ tt σ2 H2 fun b H3 =>
      if b = true then wi1 σ2 H3 fun J1 H4 => LcIn2 J1 g1 tt1 te vs1 σ2 D (Pv (i + 1)) H4 else Pv (i + 1) H3) (hd : ∀ H, Pv n H → Q (.ref D) H) : LcOut2 J g tt wi1 g1 tt1 te vs vs1 σ Q H1 D := by
  refine ⟨fun i m H => m = n - i ∧ i ≤ n ∧ Pv i H, ⟨n, by simp, Nat.zero_le _, h0⟩, ?_⟩
  rintro i m H ⟨rfl, hi, p⟩
  have q := hG i H hi p
  by_cases hlt : i < n
  · exact .inr ⟨wk.goes i H hlt q, Pv (i + 1), fun H' p' => ⟨n - (i + 1), by omega, rfl, hlt, p'⟩, fun x H' y => hs i x H H' hlt p (wk.yields i H x H' hlt q y)⟩
  · have e : i = n := by omega
    subst e
    exact .inl ⟨wk.stops H q, hd H p⟩
theorem lcin2_range {n : Nat} {lo : Int} {Nx : Hp → Prop} (Pv : Nat → Hp → Prop) (h0 : Pv 0 H4)
    (hs : ∀ i H, i < n → Pv i H → g1 (.int (lo + (i : Nat))) (wipe σ vs1) H fun σ3 H5 => wipe σ3 vs1 = wipe σ vs1 ∧ tt1 σ3 H5 fun b H6 =>
        if b = true then te σ3 H6 fun y H7 => ∃ acc, H7 D = some (.lst acc) ∧ acc.length < sizeLine ∧ Pv (i + 1) (upd H7 D (.lst (acc ++ [y]))) else Pv (i + 1) H6) (hd : ∀ H, Pv n H → Nx H) : LcIn2 (Itr lo n) g1 tt1 te vs1 σ D Nx H4 := by
  have wk := walk_range (lo := lo) (n := n)
  refine ⟨fun i m H => m = n - i ∧ i ≤ n ∧ Pv i H, ⟨n, by simp, Nat.zero_le _, h0⟩, ?_⟩
  rintro i m H ⟨rfl, hi, p⟩
  by_cases hlt : i < n
  · refine .inr ⟨wk.goes i H hlt trivial, Pv (i + 1), fun H' p' => ⟨n - (i + 1), by omega, rfl, hlt, p'⟩, fun x H' y => ?_⟩
    obtain ⟨rfl, rfl⟩ := wk.yields i H x H' hlt trivial y
    exact hs i _ hlt p
  · have e : i = n := by omega
    subst e
    exact .inl ⟨wk.stops H trivial, hd H p⟩
theorem r_enumT {ta : TA} {R : It → Hp → Prop} (h : ta σ H fun vs H1 => ∃ a xs, vs = [V.ref a] ∧ SqT K H1 a xs ∧ R (IteT K a) H1) : iEnumT K ta σ H R := h
theorem r_itl {tl : TE} {R : It → Hp → Prop} (h : tl σ H fun x H1 => ∃ a, x = .ref a ∧ (∃ xs, SqL K H1 a xs) ∧ R (Itl K a) H1) : iList K tl σ H R := h
theorem r_listQ {p : Addr} {xs : List V} (h : Sq H p xs) (q : ∀ l, H l = none → Q (.ref l) (upd H l (.lst xs))) : rList K [.ref p] H Q := ⟨p, xs, rfl, h.imp SqL.of SqT.of, q⟩
theorem row_at0 {xs : List Int} (h : 1 ≤ xs.length) : atI (xs.map V.int) 0 = some (.int (xs.headD 0)) := by
  cases xs with
  | nil => simp at h
  | cons a r => exact atI_nat (j := 0) rfl
theorem row_at1 {xs : List Int} (h : 1 ≤ xs.length) : atI (xs.map V.int) (-1) = some (.int (xs.getLastD 0)) := by
  have hne : xs ≠ [] := fun z => by rw [z] at h; simp at h
  obtain ⟨r, z, e⟩ : ∃ r z, xs = r ++ [z] := ⟨xs.dropLast, xs.getLast hne, (List.dropLast_concat_getLast hne).symm⟩
  rw [e, List.map_append, show (r ++ [z]).getLastD 0 = z by simp]
  exact atI_last _ _
theorem at_get {xs : List Int} {i : Int} {v : Int} (h0 : 0 ≤ i) (h : xs[i.toNat]? = some v) : atI (xs.map V.int) i = some (.int v) := by
  obtain ⟨j, rfl⟩ : ∃ j : Nat, i = (j : Int) := ⟨i.toNat, by omega⟩
  refine atI_nat ?_
  rw [List.getElem?_map, show xs[j]? = some v from by simpa using h]
  rfl
theorem at_getD {xs : List Int} {i : Int} (h0 : 0 ≤ i) (h1 : i < xs.length) : atI (xs.map V.int) i = some (.int (xs.getD i.toNat 0)) := by
  refine at_get h0 ?_
  rw [List.getElem?_eq_getElem (by omega)]
  simp [List.getD, show i.toNat < xs.length by omega]
theorem wo_offE {H H2 H' : Hp} {a : Addr} (h : H a = none) (x : Ext H H2) (e : Ext (wo a H2) (wo a H')) : Ext H H' := fun b o hb => by
  have ne : b ≠ a := fun z => by rw [z, h] at hb; cases hb
  exact wo_get' e ne (x b o hb)
theorem filter_take {p : Int → Bool} {os : List Int} {i : Nat} (h : i < os.length) : (os.take (i + 1)).filter p = (os.take i).filter p ++ (if p os[i] = true then [os[i]] else []) := by
  rw [List.take_add_one, List.getElem?_eq_getElem h, List.filter_append]
  congr 1
  by_cases hp : p os[i] = true
  · rw [if_pos hp]
    exact List.filter_cons_of_pos hp
  · rw [if_neg hp]
    exact List.filter_cons_of_neg hp
def mapI (f : Int → Int) : V → V
  | .int z => .int (f z)
  | v => v
theorem map_mapI (f : Int → Int) (ns : List Int) : (ns.map V.int).map (mapI f) = (ns.map f).map V.int := by
  rw [List.map_map, List.map_map]
  rfl
/-! list(range(a, b)), list(reversed(range(a, b))) -/
theorem r_lstRg {t : L2.St → Hp → (Int → Int → Hp → Prop) → Prop} (h : t σ H fun a b H1 => RgOk a b ∧ ∀ q, H1 q = none → Q (.ref q) (upd H1 q (.lst (rgV a b)))) : tLstRg t σ H Q := h
theorem r_lstRev {t : L2.St → Hp → (Int → Int → Hp → Prop) → Prop} (h : t σ H fun a b H1 => (0 ≤ a ∧ a ≤ 16000 ∧ 0 ≤ b ∧ b ≤ 16000) ∧ ∀ q, H1 q = none → Q (.ref q) (upd H1 q (.lst (rgB a b)))) : tLstRev t σ H Q := h
theorem r_rg2 {ta tb : TE} {R : Int → Int → Hp → Prop} (h : ta σ H fun x H1 => tb σ H1 fun y H2 => ∃ i j, x = .int i ∧ y = .int j ∧ R i j H2) : tRg2 ta tb σ H R := h
theorem rgV_map (a : Int) (n : Nat) : rgV a (a + n) = (List.range n).map fun (i : Nat) => V.int (a + i) := by
  unfold rgV
  rw [show (a + (n : Int) - a).toNat = n by omega]
theorem rgB_map (a : Int) (n : Nat) : rgB a (a + n) = (List.range n).reverse.map fun (i : Nat) => V.int (a + i) := by
  unfold rgB
  rw [show (a + (n : Int) - a).toNat = n by omega]
  refine List.ext_getElem ?_ fun i h1 h2 => ?_
  · rw [List.length_map, List.length_map, List.length_reverse]
  · rw [List.length_map, List.length_range] at h1
    rw [List.getElem_map, List.getElem_map, List.getElem_reverse, List.getElem_range, List.getElem_range, List.length_range]
    congr 1
    omega
/-- xs[a:b], 0 ≤ a ≤ b ≤ len -/
theorem cutV_mid {xs : List V} {a b : Nat} (h1 : a ≤ b) (h2 : b ≤ xs.length) : cutV xs (some (a : Int)) (some (b : Int)) = (xs.drop a).take (b - a) := by
  have e1 : HT.sIx xs.length 0 (some (a : Int)) = a := by
    rw [HT.sIx_nat]
    omega
  have e2 : HT.sIx xs.length xs.length (some (b : Int)) = b := by
    rw [HT.sIx_nat]
    omega
  unfold cutV
  rw [e1, e2]
end
end Own

namespace Own
open PySem PySem.Spec PyProof.Rows L2 HT
/-! xs[::-1], of a list or a tuple -/
theorem adjust_rev (n : Nat) : Builtin.Slice.sliceAdjust none none (-1) (n : Int) = ((n : Int) - 1, -1) := by
  unfold Builtin.Slice.sliceAdjust
  simp
theorem places_rev (n : Nat) : Builtin.Slice.slicePlaces ((n : Int) - 1) (-1) (-1) = n := by
  unfold Builtin.Slice.slicePlaces
  have h1 : ¬ ((-1 : Int) > 0) := by omega
  simp only [h1, if_false]
  split
  · rw [show -(-1 : Int) = 1 from rfl, Int.ediv_one]
    omega
  · omega
section
variable {prog : Program} {w : World} {A : Around} {E : Value → Shared → Prop} {s : Shared}
theorem slicePartS {v : Value} {o : Option Int} {Q : Option Int → Shared → Prop} (p : IsPart v o) (h : Q o s) : wpAny (model prog w) A (Builtin.Slice.slicePartIndex v) Q E s := by
  cases p with
  | none => exact slicePart_none h
  | int i t => exact slicePart_int h
theorem sliceApplied_rev {sl : Addr} {vs : Value} {n : Nat} {Q : Int × Int × Nat → Shared → Prop} (hs : s.heap.IsSliceOf sl .none .none vs) (ps : IsPart vs (some (-1)))
    (h : Q ((n : Int) - 1, -1, n) s) : wpAny (model prog w) A (Builtin.Slice.sliceApplied (.ref sl) (pure (n : Int))) Q E s := by
  obtain ⟨os, hos, hcs, hds⟩ := id hs
  unfold Builtin.Slice.sliceApplied Builtin.Slice.sliceFields
  refine wpAny_bind (wpAny_bind (wpAny_field hos hds (x := .none) rfl (wpAny_bind (wpAny_field hos hds (x := .none) rfl (wpAny_bind (wpAny_field hos hds (x := vs) rfl (wpAny_pure ?_)))))))
  refine wpAny_bind (slicePartS ps ?_)
  show wpAny _ _ (if ((-1 : Int) == 0) = true then _ else _) _ _ s
  rw [if_neg (by decide)]
  refine wpAny_bind (slicePart_none (wpAny_bind (slicePart_none (wpAny_bind (wpAny_pure ?_)))))
  show wpAny _ _ (match Builtin.Slice.sliceAdjust none none (-1) (n : Int) with | (lo, hi) => pure (lo, (-1 : Int), Builtin.Slice.slicePlaces lo hi (-1))) _ _ s
  rw [adjust_rev n]
  show wpAny _ _ (pure ((n : Int) - 1, (-1 : Int), Builtin.Slice.slicePlaces ((n : Int) - 1) (-1) (-1))) _ _ s
  rw [places_rev]
  exact wpAny_pure h
theorem pick_rev (xs : Array Value) : ((List.range xs.size).filterMap fun (m : Nat) => xs[((xs.size : Int) - 1 + (m : Int) * (-1)).toNat]?).toArray = xs.toList.reverse.toArray := by
  have e : (List.range xs.size).filterMap (fun (m : Nat) => xs[((xs.size : Int) - 1 + (m : Int) * (-1)).toNat]?) = ((List.range xs.size).map fun k => xs.size - 1 - k).filterMap (xs[·]?) := by
    rw [List.filterMap_map]
    congr 1
    funext m
    show _ = xs[xs.size - 1 - m]?
    rw [show ((xs.size : Int) - 1 + (m : Int) * (-1)).toNat = xs.size - 1 - m by omega]
  rw [e, PySem.W.krv_range, List.filterMap_reverse, PySem.W.krv_all]
theorem getItem_tuple_rev {t sl : Addr} {items : Array Value} {vs : Value} {Q : Value → Shared → Prop} (ht : IsTup s.heap t items) (hs : s.heap.IsSliceOf sl .none .none vs) (ps : IsPart vs (some (-1)))
    (h : Q (.ref s.heap.objs.size) { s with heap := s.heap.push { cls := .type "tuple", data := .seq items.toList.reverse.toArray } })
    (hsz : items.size ≤ sizeLine) : wpAny (model prog w) A (getItem (.ref t) (.ref sl)) Q E s := by
  have htake : sizeOk (.seq items.toList.reverse.toArray) := by
    show items.toList.reverse.toArray.size ≤ sizeLine
    rw [List.size_toArray, List.length_reverse, Array.length_toList]
    exact hsz
  obtain ⟨os, hos, hcs, hds⟩ := id hs
  have hTs : s.TypeIs (.ref sl) "slice" := ⟨os, hos, hcs⟩
  unfold getItem
  try with_reducible refine wpAny_holding ?_
  first | refine wpAny_bind (wpAny_pure ?_) | skip
  refine wpAny_bind (wpAny_sequenceKey ht.typeIs (by decide) ?_)
  refine wpAny_bind (wpAny_callSpecial?_slot (name := Str.ofString "__getitem__") ht.typeIs PyProof.Rows.slot_tuple_getitem
    (wpAny_call_entry PyProof.Rows.slot_tuple_getitem ht.typeIs entry_tuple_getitem ?_ (args_tuple_getitem _ _)))
  show wpAny _ _ (Builtin.Tuple.tupleItemsOf (.ref t) >>= _) _ _ s
  refine wpAny_bind (tupleItemsOf_ ht ?_)
  refine wpAny_bind (wpAny_typeOf hTs ?_)
  rw [if_pos (by decide)]
  refine wpAny_bind (sliceApplied_rev hs ps ?_)
  have hno : ¬ ((((items.size : Int) - 1) == 0 && (-1 : Int) == 1 && items.size == items.size) = true) := by
    intro q
    rw [Bool.and_eq_true, Bool.and_eq_true] at q
    exact absurd q.1.2 (by decide)
  show wpAny _ _ (if (((items.size : Int) - 1) == 0 && (-1 : Int) == 1 && items.size == items.size) = true then _ else _) _ _ s
  rw [if_neg hno, pick_rev]
  first
    | exact wpAny_bind (m := Builtin.Tuple.tupleExact _) (wpAny_newObj_type (wpAny_pure ⟨_, rfl, wpAny_pure h⟩) htake)
    | exact wpAny_bind (m := Builtin.Tuple.tupleExact _) (wpAny_newObj_type (wpAny_bind (wpAny_pure (wpAny_pure ⟨_, rfl, wpAny_pure h⟩))) htake)
    | exact wpAny_bind (wpAny_bind (m := Builtin.Tuple.tupleExact _) (wpAny_newObj_type (wpAny_pure (wpAny_pure ⟨_, rfl, wpAny_pure h⟩)) htake))
    | exact wpAny_bind (wpAny_bind (m := Builtin.Tuple.tupleExact _) (wpAny_newObj_type (wpAny_pure ⟨_, rfl, wpAny_pure h⟩) htake))
end
section
variable {X : Cx}
def tRevS (K : PySem.W.Frag) (te : TE) : TE := fun σ H Q => te σ H fun x H1 => ∃ a xs, x = .ref a ∧ ((SqL K H1 a xs ∧ ∀ p, H1 p = none → Q (.ref p) (upd H1 p (.lst xs.reverse))) ∨ (SqT K H1 a xs ∧ ∀ p, H1 p = none → Q (.ref p) (upd H1 p (.tup xs.reverse))))
theorem pe_revS (K : PySem.W.Frag) {e : Expr} {te : TE} {k : Nat} {p1 p2 p3 pos : Pos} (he : PE X e te) (hK : X.K = K := by rfl) : PE X (.Subscript e (.Slice none none (some (.UnaryOp .USub (.Constant (.int 1) k p1) p2)) p3) pos) (tRevS K te) := by
  subst hK
  refine ⟨fun pins s σ H Q I h => ?_⟩
  refine Subscript_ (thn (he.run pins s σ H _ I h) fun v s1 ⟨x, H1, I1, r1, q1⟩ => ?_)
  obtain ⟨a, xs, ex, q⟩ := q1
  subst ex
  cases r1
  have hst : PO X (some (.UnaryOp .USub (.Constant (.int 1) k p1) p2)) (tPart (tUn (rU fun i => .int (-i)) (tC (.int 1)))) := po_some (pe_un un_neg pe_int)
  refine wpAny_Slice (thn (po_none.run pins s1 σ H1 (fun o H2 => o = none ∧ H2 = H1) I1 ⟨rfl, rfl⟩) fun vl s2 ⟨l, H2, I2, pl, el, e2⟩ => ?_)
  subst el e2
  refine thn (po_none.run pins s2 σ H2 (fun o H3 => o = none ∧ H3 = H2) I2 ⟨rfl, rfl⟩) fun vu s3 ⟨u, H3, I3, pu, eu, e3⟩ => ?_
  subst eu e3
  refine thn (hst.run pins s3 σ H3 (fun o H4 => o = some (-1) ∧ H4 = H3) I3 ⟨1, rfl, -1, rfl, rfl, rfl⟩) fun vs s4 ⟨o, H4, I4, ps, eo, e4⟩ => ?_
  subst eo e4
  have I5 : Inv X pins σ H4 { s4 with heap := s4.heap.push { cls := .type "slice", data := .fields #[vl, vu, vs] } } := I4.kept (t' := s4.toks) fun b ob q => Heap.get?_push_of_some _ q
  show wpAny (model X.prog X.w) X.A (subscriptTail e (.Slice none none (some (.UnaryOp .USub (.Constant (.int 1) k p1) p2)) p3) (.ref a) (.ref s4.heap.objs.size)) (EP X pins σ Q) X.xe { s4 with heap := s4.heap.push { cls := .type "slice", data := .fields #[vl, vu, vs] } }
  rcases q with ⟨hx, q⟩ | ⟨hx, q⟩
  · obtain ⟨its, r, ht, hz⟩ := I5.list hx
    have hlen := r.length
    refine tail_any (ops := [.ref a, .ref s4.heap.objs.size]) ht.isList.typeIs (PySem.slot_list_getitem.lookup) ?_ (by with_unfolding_all rfl)
    refine wpAny_getItem_list_slice ht.isList (Heap.IsSliceOf.new _ vl vu vs) pl pu ps (by decide) ?_ (by rw [List.size_toArray]; omega)
    rw [PySem.W.krv_pick]
    refine ⟨.ref _, _, I5.laid (t' := s4.toks) (o := .lst xs.reverse) (fun b ob q => Heap.get?_push_of_some _ q) (Nat.le_refl _) ?_, rfl, q _ (I5.hok.fresh (Nat.le_refl _))⟩
    exact ⟨by rw [List.length_reverse]; exact hz, _, 0, r.reverse, Heap.get?_push_size _ rfl⟩
  · obtain ⟨its, r, ht, hz⟩ := I5.tuple hx
    have hlen := r.length
    refine tail_any (ops := [.ref a, .ref s4.heap.objs.size]) ht.typeIs (PyProof.Rows.slot_tuple_getitem.lookup) ?_ (by with_unfolding_all rfl)
    have evl : vl = .none := by cases pl; rfl
    have evu : vu = .none := by cases pu; rfl
    subst evl evu
    refine getItem_tuple_rev ht (Heap.IsSliceOf.new _ .none .none vs) ps ?_ (by rw [List.size_toArray]; omega)
    refine ⟨.ref _, _, I5.laid (t' := s4.toks) (o := .tup xs.reverse) (fun b ob q => Heap.get?_push_of_some _ q) (Nat.le_refl _) ?_, rfl, q _ (I5.hok.fresh (Nat.le_refl _))⟩
    exact ⟨by rw [List.length_reverse]; exact hz, _, r.reverse, IsTup.new _ _⟩
theorem r_revT {K : PySem.W.Frag} {te : TE} {σ : L2.St} {H : Hp} {Q : VK} (h : te σ H fun x H1 => ∃ a xs, x = .ref a ∧ ((SqL K H1 a xs ∧ ∀ p, H1 p = none → Q (.ref p) (upd H1 p (.lst xs.reverse))) ∨ (SqT K H1 a xs ∧ ∀ p, H1 p = none → Q (.ref p) (upd H1 p (.tup xs.reverse))))) : tRevS K te σ H Q := h
end
end Own

namespace Own
open PySem L2
/-! chains, as mathematics -/
inductive Ch
  | sw (ns : List Int) (k own : Int) (es ys : Str)
  | tu (c : Ch)
  | mi (c : Ch)
  | ti (n : Nat) (c : Ch)
  | th (a b : Ch)
  | hi (a b : Ch)
  | lo (a b : Ch)
def itr {α : Type} (f : α → α) : Nat → α → α
  | 0, x => x
  | n + 1, x => f (itr f n x)
def gtr (x y : Int) : Int := if x > y then x else y
def lsr (x y : Int) : Int := if x < y then x else y
def joint (a b : Option Str) : Option Str := if a = some "all" ∨ a = b then b else if b = some "all" then a else none
def mirD (s : Str) : Str := if s = "on" then "back" else if s = "back" then "on" else s
namespace Ch
/-- the row that a chain makes -/
def run : Ch → List Int → List Int
  | sw ns k own es ys => swept ns k own es ys
  | tu c => fun xs => (run c (xs.map fun x => -x)).map fun x => -x
  | mi c => fun xs => (run c xs.reverse).reverse
  | ti n c => itr (run c) n
  | th a b => fun xs => run b (run a xs)
  | hi a b => fun xs => List.zipWith gtr (run a xs) (run b xs)
  | lo a b => fun xs => List.zipWith lsr (run a xs) (run b xs)
theorem run_len : ∀ (c : Ch) (xs : List Int), (run c xs).length = xs.length
  | sw .., _ => swept_len
  | tu c, xs => by
    show ((run c _).map _).length = _
    rw [List.length_map, run_len c, List.length_map]
  | mi c, xs => by
    show ((run c _).reverse).length = _
    rw [List.length_reverse, run_len c, List.length_reverse]
  | ti n c, xs => by
    show (itr (run c) n xs).length = _
    induction n with
    | zero => rfl
    | succ n ih => exact (run_len c _).trans ih
  | th a b, xs => (run_len b _).trans (run_len a _)
  | hi a b, xs => by
    show (List.zipWith _ _ _).length = _
    rw [List.length_zipWith, run_len a, run_len b, Nat.min_self]
  | lo a b, xs => by
    show (List.zipWith _ _ _).length = _
    rw [List.length_zipWith, run_len a, run_len b, Nat.min_self]
def hgt : Ch → Nat
  | sw .. => 1
  | tu c => hgt c + 1
  | mi c => hgt c + 1
  | ti _ c => hgt c + 1
  | th a b => max (hgt a) (hgt b) + 1
  | hi a b => max (hgt a) (hgt b) + 1
  | lo a b => max (hgt a) (hgt b) + 1
theorem hgt_pos : ∀ c : Ch, 1 ≤ hgt c
  | sw .. => Nat.le_refl _
  | tu _ => Nat.le_add_left _ _
  | mi _ => Nat.le_add_left _ _
  | ti _ _ => Nat.le_add_left _ _
  | th _ _ => Nat.le_add_left _ _
  | hi _ _ => Nat.le_add_left _ _
  | lo _ _ => Nat.le_add_left _ _
def kind : Ch → Str
  | sw .. => "sweep"
  | tu _ => "turned"
  | mi _ => "mirrored"
  | ti _ _ => "times"
  | th _ _ => "then"
  | hi _ _ => "higher"
  | lo _ _ => "lower"
def times : Ch → Int
  | ti n _ => n
  | _ => 1
def size : Ch → Int
  | sw .. => 1
  | tu c => size c
  | mi c => size c
  | ti n c => max 1 (n * size c)
  | th a b => size a + size b
  | hi a b => size a + size b
  | lo a b => size a + size b
def depth : Ch → Int
  | sw .. => 1
  | tu c => 1 + depth c
  | mi c => 1 + depth c
  | ti _ c => 1 + depth c
  | th a b => 1 + max (depth a) (depth b)
  | hi a b => 1 + max (depth a) (depth b)
  | lo a b => 1 + max (depth a) (depth b)
def reach : Ch → Int × Int
  | sw ns _ own _ _ => (leftOf ns own, rightOf ns own)
  | tu c => reach c
  | mi c => ((reach c).2, (reach c).1)
  | ti n c => (n * (reach c).1, n * (reach c).2)
  | th a b => ((reach a).1 + (reach b).1, (reach a).2 + (reach b).2)
  | hi a b => (max (reach a).1 (reach b).1, max (reach a).2 (reach b).2)
  | lo a b => (max (reach a).1 (reach b).1, max (reach a).2 (reach b).2)
def written : Ch → Int
  | sw ns _ own _ ys => writtenOf ns own ys
  | tu c => written c
  | mi c => written c
  | ti n c => n * written c
  | th a b => written a + written b
  | hi a b => written a + written b
  | lo a b => written a + written b
def dir : Ch → Option Str
  | sw _ _ _ _ ys => some ys
  | tu c => dir c
  | mi c => (dir c).map mirD
  | ti n c => if n > 0 then dir c else some "all"
  | th a b => joint (dir a) (dir b)
  | hi a b => joint (dir a) (dir b)
  | lo a b => joint (dir a) (dir b)
theorem depth_hgt : ∀ c : Ch, depth c = hgt c
  | sw .. => rfl
  | tu c => by show 1 + depth c = ((hgt c + 1 : Nat) : Int); rw [depth_hgt c]; omega
  | mi c => by show 1 + depth c = ((hgt c + 1 : Nat) : Int); rw [depth_hgt c]; omega
  | ti _ c => by show 1 + depth c = ((hgt c + 1 : Nat) : Int); rw [depth_hgt c]; omega
  | th a b => by show 1 + max (depth a) (depth b) = ((max (hgt a) (hgt b) + 1 : Nat) : Int); rw [depth_hgt a, depth_hgt b]; omega
  | hi a b => by show 1 + max (depth a) (depth b) = ((max (hgt a) (hgt b) + 1 : Nat) : Int); rw [depth_hgt a, depth_hgt b]; omega
  | lo a b => by show 1 + max (depth a) (depth b) = ((max (hgt a) (hgt b) + 1 : Nat) : Int); rw [depth_hgt a, depth_hgt b]; omega
/-- the first limit that it breaks -/
def limit (c : Ch) : Option Str := brokenLimit c.size c.depth (c.reach.1 + c.reach.2) c.written (optS c.dir)
def good : Ch → Prop
  | sw ns k own es ys => GoodS ns k own es ys ∧ limit (sw ns k own es ys) = none
  | tu c => good c ∧ limit (tu c) = none
  | mi c => good c ∧ limit (mi c) = none
  | ti n c => good c ∧ n ≤ 8 ∧ limit (ti n c) = none
  | th a b => good a ∧ good b ∧ limit (th a b) = none
  | hi a b => good a ∧ good b ∧ limit (hi a b) = none
  | lo a b => good a ∧ good b ∧ limit (lo a b) = none
theorem good.lim : ∀ {c : Ch}, good c → limit c = none
  | sw .., h => h.2
  | tu _, h => h.2
  | mi _, h => h.2
  | ti _ _, h => h.2.2
  | th _ _, h => h.2.2
  | hi _ _, h => h.2.2
  | lo _ _, h => h.2.2
theorem broken_none {size depth reach written : Int} {dir : V} : brokenLimit size depth reach written dir = none ↔ size ≤ 8 ∧ depth ≤ 20 ∧ reach ≤ 6 ∧ written ≤ 3 ∧ dir ≠ V.non := by
  unfold brokenLimit
  constructor
  · intro h
    split at h
    · cases h
    split at h
    · cases h
    split at h
    · cases h
    split at h
    · cases h
    split at h
    · cases h
    exact ⟨by omega, by omega, by omega, by omega, by assumption⟩
  · rintro ⟨h1, h2, h3, h4, h5⟩
    rw [if_neg (by omega), if_neg (by omega), if_neg (by omega), if_neg (by omega), if_neg h5]
theorem limit_none {c : Ch} : limit c = none ↔ c.size ≤ 8 ∧ c.depth ≤ 20 ∧ c.reach.1 + c.reach.2 ≤ 6 ∧ c.written ≤ 3 ∧ ∃ s, c.dir = some s := by
  unfold limit
  rw [broken_none]
  refine and_congr Iff.rfl (and_congr Iff.rfl (and_congr Iff.rfl (and_congr Iff.rfl ?_)))
  cases c.dir with
  | none => exact ⟨fun h => absurd rfl h, fun ⟨s, h⟩ => by cases h⟩
  | some s => exact ⟨fun _ => ⟨s, rfl⟩, fun _ z => by cases z⟩
theorem good.hgt {c : Ch} (h : good c) : c.hgt ≤ 20 := by
  have := (limit_none.mp h.lim).2.1
  rw [depth_hgt] at this
  omega
end Ch
end Own

namespace Own
open PySem PySem.Spec PyProof.Rows L2
theorem kdct_of {K : PySem.W.Frag} {w : World} {a : Addr} {ks : List Str} {x : Str} {u : Value} {v : V} (h : He.dicW K a = some (He.keysIn w.params ks)) (e : PySem.W.nsIn K a x = some (some u)) (r : RelV v u) : KDct K w a x v := by
  obtain ⟨es, n, D⟩ := He.dicW_ok h
  exact ⟨es, n, u, D.at_, D.lit, e, r⟩
theorem r_ixD {K : PySem.W.Frag} {w : World} {p : Addr} {z : Str} {v : V} {H : Hp} {Q : VK} (h : KDct K w p z v) (q : Q v H) : rIxD K w (.ref p) (.str z) H Q := ⟨p, z, v, rfl, rfl, h, q⟩
theorem sl_tupAC (K : PySem.W.Frag) {X : Cx} (h : X.K = K := by rfl) : SlR X (rSlA K) := h ▸ sl_tupA
/-! zip of two lists or two tuples -/
theorem pi_zipC (K : PySem.W.Frag) {X : Cx} {e e2 : Expr} {ta : TA} {p pos tpos : Pos} {elts : List Expr} {kk : Nat} (hg : Gl X "zip") (hm : X.mg "zip" = none) (ha : PA X [e, e2] ta) (hK : X.K = K := by rfl)
    (hs : starEach [e, e2] X.env = (false, eval e X.env) :: starEach [e2] X.env := by rfl) (hpl : (backTo pos (starEach [e2] X.env)).any (·.1) = false := by rfl) :
    PI X (.Tuple elts kk tpos) (.Call (.Name "zip" p) [e, e2] [] pos) (RZ.iZipA K ta) := hK ▸ RZ.pi_zipA hg hm ha hs hpl
theorem r_zipA {K : PySem.W.Frag} {ta : TA} {R : It → Hp → Prop} {σ : L2.St} {H : Hp} (h : ta σ H fun vs H1 => ∃ a b xs ys, vs = [.ref a, .ref b] ∧ ((SqL K H1 a xs ∧ SqL K H1 b ys ∧ R (Itz K a b) H1) ∨ (SqT K H1 a xs ∧ SqT K H1 b ys ∧ R (RZ.ItzT K a b) H1))) : RZ.iZipA K ta σ H R := h
theorem walk_zipT {K : PySem.W.Frag} {a b : Addr} {xs ys : List V} {n : Nat} (hn : n = min xs.length ys.length) : Walk (RZ.ItzT K a b) n (fun H => SqT K H a xs ∧ SqT K H b ys) (YPair (fun i => xs[i]?) (fun i => ys[i]?)) := by
  subst hn
  refine ⟨fun i _ hi q => ?_, fun _ q => ⟨xs, ys, q.1, q.2, by omega⟩, fun i H v H' _ q y => ?_⟩
  · have h1 : i < xs.length := by omega
    have h2 : i < ys.length := by omega
    exact ⟨xs, ys, xs[i], ys[i], q.1, q.2, by simp [h1], by simp [h2]⟩
  · obtain ⟨T, x, z, h1, h2, h3, h4, h5⟩ := y
    exact ⟨T, x, z, h1, h2, h3, h4 xs q.1, h5 ys q.2⟩
theorem cutV_take {xs : List Int} {z : Nat} (h : z ≤ xs.length) : cutV (xs.map V.int) none (some (z : Int)) = (xs.take z).map V.int := by
  unfold cutV
  have e2 : HT.sIx (xs.map V.int).length (xs.map V.int).length (some (z : Int)) = z := by
    rw [HT.sIx_nat, List.length_map]
    omega
  have e1 : HT.sIx (xs.map V.int).length 0 none = 0 := rfl
  rw [e1, e2, List.drop_zero, Nat.sub_zero, List.map_take]
theorem r_takeA {K : PySem.W.Frag} {H : Hp} {Q : VK} {a : Addr} {xs : List Int} {z : Nat} (h : z ≤ xs.length) (ha : H a = some (.tup (xs.map V.int))) (k : ∀ q G, Ext H G → G q = some (.tup ((xs.take z).map V.int)) → Q (.ref q) G) : rSlA K (.ref a) none (some (z : Int)) H Q := by
  refine ⟨a, _, rfl, SqT.of ha, fun w => ?_, fun _ p fp => ?_⟩
  · have e2 : HT.sIx (xs.map V.int).length (xs.map V.int).length (some (z : Int)) = z := by
      rw [HT.sIx_nat, List.length_map]
      omega
    have := w.2
    rw [e2, List.length_map] at this
    refine k a H (Ext.refl _) ?_
    rw [List.take_of_length_le (by omega)]
    exact ha
  · rw [cutV_take h]
    exact k p _ (Ext.new fp) upd_same
end Own

namespace Own
open PySem PySem.Spec PyProof.Rows L2
theorem dicW_of {K : PySem.W.Frag} {P : Params} {a : Addr} {es : Array DictEntry} {n : Nat} {sl : Array (Option Value)} {ks : List Str} (h : K.lookup a = some ⟨.type "dict", none, .dict es n, sl⟩) (hk : es.toList.map He.keyOf = He.keysIn P ks) (hs : (sl.isEmpty && !(a == sysModules)) = true) : He.dicW K a = some (He.keysIn P ks) := by
  unfold He.dicW
  rw [h]
  show (match decide (("dict" : String) = "dict") && (sl.isEmpty && !(a == sysModules)) with
    | true => some (es.toList.map He.keyOf)
    | false => none) = _
  rw [hs, hk]
  rfl
end Own

namespace Own
/-! sweeps in place: what they are is told by their own answer -/
theorem list_ext0 {V V' : List Int} (hl : V.length = V'.length) (h : ∀ i, i < V.length → V.getD i 0 = V'.getD i 0) : V = V' := by
  refine List.ext_getElem hl fun i h1 h2 => ?_
  have := h i h1
  simpa [List.getD, h1, h2] using this
theorem hel_congr {xs C C' : List Int} {a : Int} (hl : C.length = C'.length) (h : ∀ j, j < C.length → C.getD j 0 = C'.getD j 0) : hel xs C a = hel xs C' a := by rw [list_ext0 hl h]
section
variable {os : List Int} {held : Bool} {k : Int} {way : Way} {xs : List Int}
/-- the row when place i is written: the answer's cells ahead of it, the old ones elsewhere -/
def Cof (way : Way) (xs V : List Int) (i : Nat) : List Int := (List.range xs.length).map fun j => if way ≠ .all ∧ ahead way j i then V.getD j 0 else xs.getD j 0
theorem Cof_len {V : List Int} {i : Nat} : (Cof way xs V i).length = xs.length := by
  unfold Cof
  rw [List.length_map, List.length_range]
theorem Cof_get {V : List Int} {i j : Nat} (h : j < xs.length) : (Cof way xs V i).getD j 0 = if way ≠ .all ∧ ahead way j i then V.getD j 0 else xs.getD j 0 := by
  unfold Cof
  rw [List.getD_eq_getElem?_getD, List.getElem?_map, List.getElem?_range h]
  rfl
def Fix (os : List Int) (held : Bool) (k : Int) (way : Way) (xs V : List Int) : Prop :=
  V.length = xs.length ∧ ∀ i, i < xs.length → V.getD i 0 = pick (valsAt held xs.length i os (hel xs (Cof way xs V i))) k (xs.getD i 0)
theorem sweepF_fix : Fix os held k way xs (sweepF os held k way xs) := by
  refine ⟨sweepF_len, fun i hi => ?_⟩
  obtain ⟨C, hC, h1, h2⟩ := sweepF_at (os := os) (held := held) (k := k) (way := way) hi
  rw [h1]
  have e : C = Cof way xs (sweepF os held k way xs) i := list_ext0 (by rw [hC, Cof_len]) fun j hj => by
    rw [hC] at hj
    rw [h2 j hj, Cof_get hj]
  rw [e]
def rkOf (way : Way) (n i : Nat) : Nat := if way = .back then n - i else i
theorem rk_lt {n i j : Nat} (hj : j < n) (hi : i < n) (h : ahead way j i) : rkOf way n j < rkOf way n i := by
  unfold ahead at h
  unfold rkOf
  split at h
  · rw [if_pos (by assumption), if_pos (by assumption)]; omega
  · rw [if_neg (by assumption), if_neg (by assumption)]; exact h
theorem fix_unique {V V' : List Int} (h : Fix os held k way xs V) (h' : Fix os held k way xs V') : V = V' := by
  have key : ∀ m i, i < xs.length → rkOf way xs.length i < m → V.getD i 0 = V'.getD i 0 := by
    intro m
    induction m with
    | zero => intro i _ hm; omega
    | succ m ih =>
      intro i hi hm
      rw [h.2 i hi, h'.2 i hi]
      have e : Cof way xs V i = Cof way xs V' i := list_ext0 (by rw [Cof_len, Cof_len]) fun j hj => by
        rw [Cof_len] at hj
        rw [Cof_get hj, Cof_get hj]
        by_cases c : way ≠ .all ∧ ahead way j i
        · rw [if_pos c, if_pos c]
          exact ih j hj (by have := rk_lt hj hi c.2; omega)
        · rw [if_neg c, if_neg c]
      rw [e]
  exact list_ext0 (h.1.trans h'.1.symm) fun i hi => key _ i (by rw [← h.1]; exact hi) (Nat.lt_succ_self _)
end
/-! ranks do not ask for an order -/
theorem sorted_eq : ∀ {l l' : List Int}, l.Pairwise (· ≤ ·) → l'.Pairwise (· ≤ ·) → l.Perm l' → l = l'
  | [], l', _, _, h => (List.nil_perm.mp h).symm ▸ rfl
  | a :: l, [], _, _, h => absurd h.length_eq (by simp)
  | a :: l, b :: l', h1, h2, h => by
    rw [List.pairwise_cons] at h1 h2
    have hab : a = b := by
      have m1 : a ∈ b :: l' := h.mem_iff.mp List.mem_cons_self
      have m2 : b ∈ a :: l := h.mem_iff.mpr List.mem_cons_self
      rcases List.mem_cons.mp m1 with q | q
      · exact q
      · rcases List.mem_cons.mp m2 with q2 | q2
        · exact q2.symm
        · have := h1.1 b q2
          have := h2.1 a q
          omega
    subst hab
    rw [sorted_eq h1.2 h2.2 (List.perm_cons a |>.mp h)]
theorem srt_perm_eq {L L' : List Int} (h : L.Perm L') : srt L = srt L' := sorted_eq (srt_sorted L) (srt_sorted L') (((srt_perm L).trans h).trans (srt_perm L').symm)
theorem pick_perm {L L' : List Int} {k x : Int} (h : L.Perm L') : pick L k x = pick L' k x := by
  unfold pick
  by_cases e : L = []
  · have e' : L' = [] := by rw [e] at h; exact (List.nil_perm.mp h)
    rw [if_pos e, if_pos e']
  · have e' : L' ≠ [] := fun z => e (by rw [z] at h; exact (List.perm_nil.mp h))
    rw [if_neg e, if_neg e', srt_perm_eq h, h.length_eq]
theorem valsAt_perm {held : Bool} {n : Nat} {i : Int} {os os' : List Int} {g : Int → Int} (h : os.Perm os') : (valsAt held n i os g).Perm (valsAt held n i os' g) := (h.filter _).map _
/-! the offsets of reversed weights -/
theorem offsN_flat {ns : List Int} {own : Int} : ∀ m, offsN ns own m = (List.range m).flatMap fun i => List.replicate (ns.getD i 0).toNat ((i : Int) - own)
  | 0 => rfl
  | m + 1 => by
    rw [List.range_succ, List.flatMap_append]
    show offsN ns own m ++ _ = _
    rw [offsN_flat m]
    simp
theorem flatMap_perm {α β : Type} (f : α → List β) {l l' : List α} (h : l.Perm l') : (l.flatMap f).Perm (l'.flatMap f) := by
  induction h with
  | nil => exact .refl _
  | cons a _ ih => simp only [List.flatMap_cons]; exact ih.append_left _
  | swap a b l =>
    simp only [List.flatMap_cons]
    rw [← List.append_assoc, ← List.append_assoc]
    exact (List.perm_append_comm).append_right _
  | trans _ _ ih1 ih2 => exact ih1.trans ih2
theorem flatMap_same {α β : Type} {f g : α → List β} : ∀ {l : List α}, (∀ x ∈ l, f x = g x) → l.flatMap f = l.flatMap g
  | [], _ => rfl
  | a :: l, h => by rw [List.flatMap_cons, List.flatMap_cons, h a List.mem_cons_self, flatMap_same fun x hx => h x (List.mem_cons_of_mem _ hx)]
theorem range_rev (n : Nat) : (List.range n).map (fun k => n - 1 - k) = (List.range n).reverse := by
  apply List.ext_getElem
  · simp
  · intro i h1 h2
    simp
theorem rev_getD {ns : List Int} {i : Nat} (h : i < ns.length) : ns.reverse.getD i 0 = ns.getD (ns.length - 1 - i) 0 := by
  rw [List.getD_eq_getElem?_getD, List.getElem?_reverse h, List.getD_eq_getElem?_getD]
theorem offs_rev {ns : List Int} {own : Int} : (offs ns.reverse ((ns.length : Int) - 1 - own)).Perm ((offs ns own).map fun o => -o) := by
  unfold offs
  rw [offsN_flat, offsN_flat, List.length_reverse, List.map_flatMap]
  have e : (List.range ns.length).flatMap (fun i => List.replicate (ns.reverse.getD i 0).toNat ((i : Int) - ((ns.length : Int) - 1 - own))) =
      ((List.range ns.length).map fun k => ns.length - 1 - k).flatMap fun j => (List.replicate (ns.getD j 0).toNat ((j : Int) - own)).map fun o => -o := by
    rw [List.flatMap_map]
    refine flatMap_same fun i hi => ?_
    have hi := List.mem_range.mp hi
    rw [rev_getD hi, List.map_replicate]
    congr 1
    omega
  rw [e, range_rev]
  exact flatMap_perm _ (List.reverse_perm _)
/-! the reversed row -/
theorem headD_rev (xs : List Int) : xs.reverse.headD 0 = xs.getLastD 0 := by
  rw [List.headD_eq_head?_getD, List.head?_reverse, List.getLastD_eq_getLast?]
theorem lastD_rev (xs : List Int) : xs.reverse.getLastD 0 = xs.headD 0 := by
  have := headD_rev xs.reverse
  rw [List.reverse_reverse] at this
  exact this.symm
theorem hel_rev {xs C : List Int} {a : Int} (hl : C.length = xs.length) : hel xs.reverse C.reverse a = hel xs C ((xs.length : Int) - 1 - a) := by
  unfold hel
  rw [headD_rev, lastD_rev, List.length_reverse, hl]
  by_cases h1 : a < 0
  · rw [if_pos h1, if_neg (by omega), if_neg (by omega)]
  · rw [if_neg h1]
    by_cases h2 : a < (xs.length : Int)
    · rw [if_pos h2, if_neg (by omega), if_pos (by omega), rev_getD (by omega)]
      congr 1
      omega
    · rw [if_neg h2, if_pos (by omega)]
theorem Cof_rev {xs V : List Int} {i : Nat} (hV : V.length = xs.length) (hi : i < xs.length) : Cof .back xs.reverse V.reverse i = (Cof .on xs V (xs.length - 1 - i)).reverse := by
  refine list_ext0 (by rw [Cof_len, List.length_reverse, List.length_reverse, Cof_len]) fun j hj => ?_
  rw [Cof_len, List.length_reverse] at hj
  have r1 := rev_getD (ns := Cof .on xs V (xs.length - 1 - i)) (i := j) (by rw [Cof_len]; exact hj)
  rw [Cof_len] at r1
  have r2 := rev_getD (ns := V) (i := j) (by omega)
  rw [hV] at r2
  rw [Cof_get (by rw [List.length_reverse]; exact hj), r1, Cof_get (by omega), r2, rev_getD hj]
  have e : (Way.back ≠ .all ∧ ahead .back j i) ↔ (Way.on ≠ .all ∧ ahead .on (xs.length - 1 - j) (xs.length - 1 - i)) := by
    unfold ahead
    rw [if_pos rfl, if_neg (by decide)]
    constructor
    · rintro ⟨_, h⟩
      exact ⟨by decide, by omega⟩
    · rintro ⟨_, h⟩
      exact ⟨by decide, by omega⟩
  by_cases c : Way.back ≠ .all ∧ ahead .back j i
  · rw [if_pos c, if_pos (e.mp c)]
  · rw [if_neg c, if_neg (fun z => c (e.mpr z))]
theorem sweep_rev {os os' : List Int} {held : Bool} {k : Int} {xs : List Int} (hp : os'.Perm (os.map fun o => -o)) : sweepF os' held k .back xs.reverse = (sweepF os held k .on xs).reverse := by
  have hS : (sweepF os held k .on xs).length = xs.length := sweepF_len
  refine fix_unique sweepF_fix ⟨by rw [List.length_reverse, List.length_reverse, hS], fun i hi => ?_⟩
  rw [List.length_reverse] at hi
  rw [rev_getD (by omega), rev_getD hi, hS, sweepF_fix.2 _ (by omega), List.length_reverse, Cof_rev hS hi]
  refine (pick_perm ?_).symm
  refine (valsAt_perm hp).trans ?_
  unfold valsAt
  rw [List.filter_map, List.map_map]
  have e1 : ((fun o => held || (decide (0 ≤ (i : Int) + o) && decide ((i : Int) + o < (xs.length : Nat)))) ∘ fun o => -o) = fun o => held || (decide (0 ≤ ((xs.length - 1 - i : Nat) : Int) + o) && decide (((xs.length - 1 - i : Nat) : Int) + o < (xs.length : Nat))) := by
    funext o
    show (held || (decide (0 ≤ (i : Int) + -o) && decide ((i : Int) + -o < (xs.length : Nat)))) = _
    congr 1
    rw [Bool.and_comm]
    congr 1
    · exact decide_eq_decide.mpr ⟨fun h => by omega, fun h => by omega⟩
    · exact decide_eq_decide.mpr ⟨fun h => by omega, fun h => by omega⟩
  have e2 : ((fun o => hel xs.reverse (Cof .on xs (sweepF os held k .on xs) (xs.length - 1 - i)).reverse ((i : Int) + o)) ∘ fun o => -o) = fun o => hel xs (Cof .on xs (sweepF os held k .on xs) (xs.length - 1 - i)) (((xs.length - 1 - i : Nat) : Int) + o) := by
    funext o
    show hel xs.reverse _ ((i : Int) + -o) = _
    rw [hel_rev Cof_len]
    congr 1
    omega
  rw [e1, e2]
/-! none to the right: the first cells of the answer are the answer for the first cells -/
theorem take_getD {xs : List Int} {m i : Nat} (h : i < m) : (xs.take m).getD i 0 = xs.getD i 0 := by
  rw [List.getD_eq_getElem?_getD, List.getElem?_take_of_lt h, List.getD_eq_getElem?_getD]
theorem sweep_take {os : List Int} {held : Bool} {k : Int} {xs : List Int} {m : Nat} (h0 : 1 ≤ m) (hm : m ≤ xs.length) (hos : ∀ o ∈ os, o ≤ 0) : sweepF os held k .on (xs.take m) = (sweepF os held k .on xs).take m := by
  have hS : (sweepF os held k .on xs).length = xs.length := sweepF_len
  have hl : (xs.take m).length = m := by rw [List.length_take]; omega
  refine fix_unique sweepF_fix ⟨by rw [hl, List.length_take]; omega, fun i hi => ?_⟩
  rw [hl] at hi
  rw [take_getD hi, take_getD hi, sweepF_fix.2 _ (by omega), hl]
  have hhead : (xs.take m).headD 0 = xs.headD 0 := by
    cases xs with
    | nil => rw [List.take_nil]
    | cons a r => cases m with
      | zero => omega
      | succ m => rfl
  congr 1
  unfold valsAt
  have e1 : ∀ o ∈ os, (held || (decide (0 ≤ (i : Int) + o) && decide ((i : Int) + o < (xs.length : Nat)))) = (held || (decide (0 ≤ (i : Int) + o) && decide ((i : Int) + o < (m : Nat)))) := fun o ho => by
    have := hos o ho
    congr 2
    exact decide_eq_decide.mpr ⟨fun h => by omega, fun h => by omega⟩
  rw [List.filter_congr e1]
  refine List.map_congr_left fun o ho => ?_
  have ho := hos o (List.mem_filter.mp ho).1
  unfold hel
  rw [hhead, Cof_len, Cof_len, hl]
  by_cases h1 : (i : Int) + o < 0
  · rw [if_pos h1, if_pos h1]
  · rw [if_neg h1, if_neg h1, if_pos (by omega), if_pos (by omega), Cof_get (by omega), Cof_get (by omega)]
    by_cases c : Way.on ≠ .all ∧ ahead .on ((i : Int) + o).toNat i
    · rw [if_pos c, if_pos c, take_getD (by omega)]
    · rw [if_neg c, if_neg c, take_getD (by omega)]
/-! none to the left: in place or not is the same -/
theorem sweep_all {os : List Int} {held : Bool} {k : Int} {xs : List Int} (hos : ∀ o ∈ os, 0 ≤ o) : sweepF os held k .all xs = sweepF os held k .on xs := by
  refine fix_unique sweepF_fix ⟨sweepF_len, fun i hi => ?_⟩
  rw [sweepF_fix.2 i hi]
  congr 1
  unfold valsAt
  refine List.map_congr_left fun o ho => ?_
  have ho := hos o (List.mem_filter.mp ho).1
  unfold hel
  rw [Cof_len, Cof_len]
  by_cases h1 : (i : Int) + o < 0
  · rw [if_pos h1, if_pos h1]
  · rw [if_neg h1, if_neg h1]
    by_cases h2 : (i : Int) + o < (xs.length : Nat)
    · rw [if_pos h2, if_pos h2, Cof_get (by omega), Cof_get (by omega), if_neg (fun z => by have := z.2; unfold ahead at this; rw [if_neg (by decide)] at this; omega), if_neg (fun z => z.1 rfl)]
    · rw [if_neg h2, if_neg h2]
end Own

namespace Own
open PySem L2 PySem.Spec PyProof.Rows
section
variable {X : Cx} {K : PySem.W.Frag} {H : Hp} {Q : VK}
/-! an instance called, of one of several classes -/
def tCallA (S : Addr → Prop) (sp : Sp) (E : XK) (tf : TE) (t : TA) : TE := fun σ H Q => tf σ H fun y H1 => ∃ a, y = V.ref a ∧ t σ H1 fun vs H2 => (∃ C dx fs, S C ∧ H2 a = some (.ins C dx fs)) ∧ sp (V.ref a :: vs) H2 Q E
theorem pe_callA {CX : CXT} {k : Nat} {S : Addr → Prop} {g : Addr} {fd : FuncData} {ps : List Str} {sp : Sp} {E : XK} {pos : Pos} {fe e : Expr} {es : List Expr} {tf : TE} {t : TA} (hf : PE X fe tf) (c : ∀ C, S C → StX.CallO X.K C g) (F : FnOk X.prog X.w X.K X.mg X.base CX k g fd ps sp) (hb : Binds X.K fd ps []) (hr : Room k X.A) (hx : Passes CX X E) (ha : PA X (e :: es) t)
    (ht : eval (.Call fe (e :: es) [] pos) X.env = (do callWith pos (← eval fe X.env) [] (backTo pos (starEach (e :: es) X.env)) (backToKw pos (keywordEach [] X.env))) := by rfl)
    (he : starEach (e :: es) X.env = (false, eval e X.env) :: starEach es X.env := by rfl) (hpl : (backTo pos (starEach es X.env)).any (·.1) = false := by rfl) : PE X (.Call fe (e :: es) [] pos) (tCallA S sp E tf t) := by
  have e0 : (fun (vs : List V) (H : Hp) (Q : VK) (E : XK) => sp (vs ++ []) H Q E) = sp := by
    funext vs H Q E
    rw [List.append_nil]
  have F2 : FnR X.prog X.w X.K X.mg X.base CX k g sp := e0 ▸ F.raw hb .nil
  refine ⟨fun pins s σ H Q I h => ?_⟩
  refine Call_ (thn (hf.run pins s σ H _ I h) fun u s1 ⟨y, H1, I1, ry, a, ey, q⟩ => ?_) ht
  subst ey
  obtain rfl : u = Value.ref a := ry
  refine StX.callO_with (thn (ha.run pos pins s1 σ H1 _ I1 q) fun us s2 ⟨vs, H2, I2, r, ⟨C, dx, fs, hC, hi⟩, q2⟩ => ?_) he hpl
  obtain ⟨ox, od, J, hd⟩ := StX.insC_at I2 (.inr ⟨dx, fs, hi⟩)
  exact ⟨⟨C, ox, od, J, hd⟩, StX.run_callO (c C hC) F2 hr hx I2 (.inr ⟨dx, fs, hi⟩) r q2⟩
theorem r_callA {S : Addr → Prop} {sp : Sp} {E : XK} {tf : TE} {t : TA} {σ : L2.St} (h : tf σ H fun y H1 => ∃ a, y = V.ref a ∧ t σ H1 fun vs H2 => (∃ C dx fs, S C ∧ H2 a = some (.ins C dx fs)) ∧ sp (V.ref a :: vs) H2 Q E) : tCallA S sp E tf t σ H Q := h
/-! x in xs, whole numbers -/
theorem inV_ints (x : Int) : ∀ xs : List Int, inV (.int x) (xs.map V.int) = decide (x ∈ xs)
  | [] => rfl
  | y :: xs => by
    have ih := inV_ints x xs
    unfold inV at ih ⊢
    rw [List.map_cons, List.any_cons, ih]
    show ((y == x) || _) = _
    by_cases h : x = y
    · subst h
      simp
    · have h2 : (y == x) = false := by simp [Ne.symm h]
      rw [h2, Bool.false_or]
      by_cases h3 : x ∈ xs
      · rw [decide_eq_true h3, decide_eq_true (List.mem_cons_of_mem _ h3)]
      · rw [decide_eq_false h3, decide_eq_false (fun z => (List.mem_cons.mp z).elim h h3)]
theorem flat_ints (xs : List Int) : (xs.map V.int).all flatV = true := List.all_eq_true.mpr fun v hv => by
  obtain ⟨z, _, rfl⟩ := List.mem_map.mp hv
  rfl
theorem r_in {p : Addr} {x : Int} {xs : List Int} (h : Sq H p (xs.map V.int)) (q : Q (.bl (decide (x ∈ xs))) H) : rIn K false (.int x) (.ref p) H Q := ⟨p, _, rfl, h.imp SqL.of SqT.of, rfl, flat_ints xs, by rw [if_neg (by decide), inV_ints]; exact q⟩
theorem r_notIn {p : Addr} {x : Int} {xs : List Int} (h : Sq H p (xs.map V.int)) (q : Q (.bl (!decide (x ∈ xs))) H) : rIn K true (.int x) (.ref p) H Q := ⟨p, _, rfl, h.imp SqL.of SqT.of, rfl, flat_ints xs, by rw [if_pos rfl, inV_ints]; exact q⟩
theorem cr_minC (K : PySem.W.Frag) (hc : X.calm = true) (h : X.K = K := by rfl) : CallR X (.builtin "min") (rMin K) := h ▸ cr_min hc
theorem r_minL {a : Addr} {ns : List Int} (h : H a = some (.lst (ns.map V.int))) (h0 : 0 < ns.length) (q : ∀ m, m ∈ ns → (∀ y, y ∈ ns → m ≤ y) → Q (.int m) H) : rMin K [.ref a] H Q := ⟨a, ns, rfl, SqL.of h, h0, q⟩
theorem cr_sortedC (K : PySem.W.Frag) (h : X.K = K := by rfl) : CallR X (.builtin "sorted") (rSorted K) := h ▸ cr_sorted
theorem r_sorted {a : Addr} {ns : List Int} (h : H a = some (.lst (ns.map V.int))) (h64 : ns.length < 64) (q : ∀ p, H p = none → Q (.ref p) (upd H p (.lst ((srt ns).map V.int)))) : rSorted K [.ref a] H Q := ⟨a, ns, rfl, SqL.of h, h64, fun ns' p pm pw hp => by
  have e : ns' = srt ns := sorted_eq pw (srt_sorted ns) (pm.trans (srt_perm ns).symm)
  rw [e]
  exact q p hp⟩
end
end Own

namespace Own
open PySem L2 PySem.Spec PyProof.Rows
section
variable {X : Cx} {K : PySem.W.Frag} {H : Hp} {Q : VK}
theorem r_iList {tl : TE} {σ : L2.St} {R : It → Hp → Prop} (h : tl σ H fun x H1 => ∃ a, x = .ref a ∧ (∃ xs, SqL K H1 a xs) ∧ R (Itl K a) H1) : iList K tl σ H R := h
/-! xs.append(y) and xs.index(y) as calls -/
theorem r_append {l : Addr} {xs : List V} {y : V} (h : H l = some (.lst xs)) (hz : xs.length ≤ 16000) (q : Q .non (upd H l (.lst (xs ++ [y])))) : rAppend (.ref l) [y] H Q := ⟨l, xs, y, rfl, rfl, h, by rw [sizeLine_eq]; omega, q⟩
theorem eqV_int (a b : Int) : eqV (.int a) (.int b) = decide (a = b) := by
  show (a == b) = _
  by_cases h : a = b
  · subst h; simp
  · rw [decide_eq_false h]; simp [h]
theorem r_index {a : Addr} {ys : List Int} {y : Int} {j : Nat} (h : H a = some (.lst (ys.map V.int))) (hj : j < ys.length) (e : ys.getD j 0 = y) (no : ∀ m, m < j → ys.getD m 0 ≠ y) (q : Q (.int (j : Nat)) H) : rIndex K (.ref a) [.int y] H Q := by
  have gd : ∀ m (hm : m < ys.length), ys.getD m 0 = ys[m] := fun m hm => by simp [List.getD, hm]
  refine ⟨a, ys.map V.int, .int y, j, .int ys[j], rfl, rfl, SqL.of h, rfl, flat_ints ys, by rw [List.getElem?_map, List.getElem?_eq_getElem hj]; rfl, ?_, fun m z' hm hz => ?_, q⟩
  · rw [eqV_int, ← gd j hj]
    exact decide_eq_true e
  · have hm2 : m < ys.length := by omega
    rw [List.getElem?_map, List.getElem?_eq_getElem hm2] at hz
    cases (Option.some.inj hz)
    rw [eqV_int, ← gd m hm2]
    exact decide_eq_false (no m hm)
section
variable {o e : Expr} {es : List Expr} {to : TE} {t : TA} {name : Str} {apos cpos : Pos} {T id : String} {r : V → List V → Hp → VK → Prop}
theorem pe_bmC (K : PySem.W.Frag) (pa : PySem.PlainAttrs T) (slot : Slot T name id) (hty : typeOf (.builtin id) = pure (.type "method_descriptor")) (hm : MtR X id r) (ho : PE X o to) (ha : PA X (e :: es) t)
    (hK : X.K = K := by rfl) (hbase : attributeBase o name X.env (eval o X.env) = eval o X.env := by rfl)
    (hfew : ((backTo cpos (starEach (e :: es) X.env)).all (fun x => !x.1) && (backToKw cpos (keywordEach [] X.env)).all (fun x => x.1.isSome)
      && decide ((e :: es).length + ([] : List Keyword).length + (if ([] : List Keyword).isEmpty then 0 else 1) < 30)) = true := by rfl)
    (hline : (apos.endLine == cpos.line) = true := by rfl) (hs : starEach (e :: es) X.env = (false, eval e X.env) :: starEach es X.env := by rfl) (hplain : (backTo cpos (starEach es X.env)).any (·.1) = false := by rfl) :
    PE X (.Call (.Attribute o name apos) (e :: es) [] cpos) (tBM K T r to t) := hK ▸ pe_bm pa slot hty hm ho ha hbase hfew hline hs hplain
end
theorem mt_indexC (K : PySem.W.Frag) (h : X.K = K := by rfl) : MtR X "list.index" (rIndex K) := h ▸ mt_index
theorem r_bm {K : PySem.W.Frag} {T : String} {r : V → List V → Hp → VK → Prop} {to : TE} {t : TA} {σ : L2.St} (h : to σ H fun x H1 => tyV K T x H1 ∧ t σ H1 fun vs H2 => r x vs H2 Q) : tBM K T r to t σ H Q := h
end
end Own

namespace Own
open PySem L2 PySem.Spec PyProof.Rows
theorem cutV_drop {xs : List Int} {z : Nat} (h : z ≤ xs.length) : cutV (xs.map V.int) (some (z : Int)) none = (xs.drop z).map V.int := by
  unfold cutV
  rw [HT.sIx_nat, HT.sIx_none, List.length_map, Nat.min_eq_left h, ← List.map_drop, List.take_of_length_le (by rw [List.length_map, List.length_drop]; omega)]
theorem cutV_mid2 {xs : List Int} {l r : Nat} (hl : l ≤ xs.length) (hr : r ≤ xs.length) : cutV (xs.map V.int) (some (l : Int)) (some (r : Int)) = ((xs.drop l).take (r - l)).map V.int := by
  unfold cutV
  rw [HT.sIx_nat, HT.sIx_nat, List.length_map, Nat.min_eq_left hl, Nat.min_eq_left hr, ← List.map_drop, ← List.map_take]
end Own

namespace Own
open PySem L2
def Dir3 (s : Str) : Prop := s = "all" ∨ s = "on" ∨ s = "back"
theorem mirD3 {s : Str} (h : Dir3 s) : Dir3 (mirD s) := by
  rcases h with rfl | rfl | rfl
  · exact .inl rfl
  · exact .inr (.inr rfl)
  · exact .inr (.inl rfl)
theorem joint3 {a b : Option Str} {s : Str} (h : joint a b = some s) (ha : ∃ x, a = some x ∧ Dir3 x) (hb : ∃ x, b = some x ∧ Dir3 x) : Dir3 s := by
  obtain ⟨x, rfl, hx⟩ := ha
  obtain ⟨y, rfl, hy⟩ := hb
  unfold joint at h
  split at h
  · cases h
    exact hy
  · split at h
    · cases h
      exact hx
    · cases h
namespace Ch
theorem good.dir : ∀ {c : Ch}, good c → ∃ s, dir c = some s ∧ Dir3 s
  | sw _ _ _ _ ys, h => ⟨ys, rfl, h.1.ys⟩
  | tu c, h => good.dir (c := c) h.1
  | mi c, h => by
    obtain ⟨s, e, d⟩ := good.dir (c := c) h.1
    exact ⟨mirD s, by show (Ch.dir c).map mirD = _; rw [e]; rfl, mirD3 d⟩
  | ti n c, h => by
    obtain ⟨s, e, d⟩ := good.dir (c := c) h.1
    by_cases hn : n > 0
    · exact ⟨s, by show (if n > 0 then Ch.dir c else some "all") = _; rw [if_pos hn]; exact e, d⟩
    · exact ⟨"all", by show (if n > 0 then Ch.dir c else some "all") = _; rw [if_neg hn], .inl rfl⟩
  | th a b, h => by
    obtain ⟨s, e⟩ := (limit_none.mp h.2.2).2.2.2.2
    exact ⟨s, e, joint3 e (good.dir (c := a) h.1) (good.dir (c := b) h.2.1)⟩
  | hi a b, h => by
    obtain ⟨s, e⟩ := (limit_none.mp h.2.2).2.2.2.2
    exact ⟨s, e, joint3 e (good.dir (c := a) h.1) (good.dir (c := b) h.2.1)⟩
  | lo a b, h => by
    obtain ⟨s, e⟩ := (limit_none.mp h.2.2).2.2.2.2
    exact ⟨s, e, joint3 e (good.dir (c := a) h.1) (good.dir (c := b) h.2.1)⟩
end Ch
theorem topD1 (d : Int) : topD [d] = d := rfl
theorem topD2 (a b : Int) : topD [a, b] = max a b := by
  show (if b > a then b else a) = _
  split <;> omega
end Own

namespace Own
open PySem L2
/-! trees of chains as a law draws them -/
def dirS (o : Option Str) : Str := o.getD "both"
def mixS (a b : Str) : Str := if a = "all" ∨ a = b then b else if b = "all" then a else "both"
theorem joint_eq (a b : Option Str) : joint a b = if a = some ("all" : Str) ∨ a = b then b else if b = some ("all" : Str) then a else none := rfl
theorem dirS_joint {a b : Option Str} (ha : a ≠ some ("both" : Str)) (hb : b ≠ some ("both" : Str)) : mixS (dirS a) (dirS b) = dirS (joint a b) := by
  rw [joint_eq]
  cases a with
  | none =>
    cases b with
    | none => decide
    | some y =>
      have n : ("both" : Str) ≠ y := fun z => hb (by rw [z])
      show (if ("both" : Str) = "all" ∨ ("both" : Str) = y then y else if y = "all" then "both" else "both") = _
      rw [if_neg (show ¬ (("both" : Str) = "all" ∨ ("both" : Str) = y) from fun z => z.elim (fun z => absurd z (by decide)) n), if_neg (show ¬ ((none : Option Str) = some ("all" : Str) ∨ none = some y) from fun z => z.elim (fun z => by cases z) (fun z => by cases z)), ite_self, ite_self]
      rfl
  | some x =>
    cases b with
    | none =>
      have n : x ≠ ("both" : Str) := fun z => ha (by rw [z])
      show (if x = "all" ∨ x = "both" then ("both" : Str) else if ("both" : Str) = "all" then x else "both") = _
      rw [if_neg (show ¬ ("both" : Str) = "all" by decide), if_neg (show ¬ (none : Option Str) = some ("all" : Str) from fun z => by cases z), ite_self, ite_self]
      rfl
    | some y =>
      show (if x = "all" ∨ x = y then y else if y = "all" then x else "both") = _
      by_cases h1 : x = "all" ∨ x = y
      · rw [if_pos h1, if_pos (show some x = some ("all" : Str) ∨ some x = some y from h1.elim (fun z => .inl (congrArg some z)) (fun z => .inr (congrArg some z)))]
        rfl
      · rw [if_neg h1, if_neg (show ¬ (some x = some ("all" : Str) ∨ some x = some y) from fun z => h1 (z.elim (fun z => .inl (Option.some.inj z)) (fun z => .inr (Option.some.inj z))))]
        by_cases h2 : y = "all"
        · rw [if_pos h2, if_pos (show some y = some ("all" : Str) from congrArg some h2)]
          rfl
        · rw [if_neg h2, if_neg (show ¬ some y = some ("all" : Str) from fun z => h2 (Option.some.inj z))]
          rfl
theorem dirS_mir (o : Option Str) : dirS (o.map mirD) = mirD (dirS o) := by
  cases o with
  | none => decide
  | some x => rfl
namespace Ch
/-- all sweeps are good ones, and no count is large -/
def okS : Ch → Prop
  | sw ns k own es ys => GoodS ns k own es ys
  | tu c => okS c
  | mi c => okS c
  | ti n c => okS c ∧ n ≤ 8
  | th a b => okS a ∧ okS b
  | hi a b => okS a ∧ okS b
  | lo a b => okS a ∧ okS b
theorem good.okS : ∀ {c : Ch}, good c → okS c
  | sw .., h => h.1
  | tu c, h => good.okS (c := c) h.1
  | mi c, h => good.okS (c := c) h.1
  | ti n c, h => ⟨good.okS (c := c) h.1, h.2.1⟩
  | th a b, h => ⟨good.okS (c := a) h.1, good.okS (c := b) h.2.1⟩
  | hi a b, h => ⟨good.okS (c := a) h.1, good.okS (c := b) h.2.1⟩
  | lo a b, h => ⟨good.okS (c := a) h.1, good.okS (c := b) h.2.1⟩
theorem joint3' {a b : Option Str} {s : Str} (h : joint a b = some s) (ha : ∀ x, a = some x → Dir3 x) (hb : ∀ x, b = some x → Dir3 x) : Dir3 s := by
  unfold joint at h
  split at h
  · exact hb s h
  · split at h
    · exact ha s h
    · cases h
theorem okS.dir3 : ∀ {c : Ch}, okS c → ∀ s, dir c = some s → Dir3 s
  | sw _ _ _ _ ys, h, s, e => by cases e; exact h.ys
  | tu c, h, s, e => okS.dir3 (c := c) h s e
  | mi c, h, s, e => by
    have e : (dir c).map mirD = some s := e
    cases hd : dir c with
    | none => rw [hd] at e; cases e
    | some x =>
      rw [hd] at e
      cases e
      exact mirD3 (okS.dir3 (c := c) h x hd)
  | ti n c, h, s, e => by
    have e : (if n > 0 then dir c else some "all") = some s := e
    split at e
    · exact okS.dir3 (c := c) h.1 s e
    · cases e
      exact .inl rfl
  | th a b, h, s, e => joint3' e (okS.dir3 (c := a) h.1) (okS.dir3 (c := b) h.2)
  | hi a b, h, s, e => joint3' e (okS.dir3 (c := a) h.1) (okS.dir3 (c := b) h.2)
  | lo a b, h, s, e => joint3' e (okS.dir3 (c := a) h.1) (okS.dir3 (c := b) h.2)
theorem okS.nboth {c : Ch} (h : okS c) : dir c ≠ some ("both" : Str) := fun z => by
  have := h.dir3 _ z
  exact absurd this (by unfold Dir3; decide)
theorem okS.nn : ∀ {c : Ch}, okS c → 0 ≤ c.size ∧ 0 ≤ c.reach.1 ∧ 0 ≤ c.reach.2 ∧ 0 ≤ c.written
  | sw ns k own es ys, h => by
    have r := reach_le h.sum h.l7 h.o0 h.o1
    refine ⟨by show (0 : Int) ≤ 1; decide, r.1, r.2.1, ?_⟩
    show 0 ≤ writtenOf ns own ys
    unfold writtenOf
    split
    · exact r.1
    · split
      · exact r.2.1
      · decide
  | tu c, h => okS.nn (c := c) h
  | mi c, h => by
    have r := okS.nn (c := c) h
    exact ⟨r.1, r.2.2.1, r.2.1, r.2.2.2⟩
  | ti n c, h => by
    have r := okS.nn (c := c) h.1
    refine ⟨?_, Int.mul_nonneg (by omega) r.2.1, Int.mul_nonneg (by omega) r.2.2.1, Int.mul_nonneg (by omega) r.2.2.2⟩
    show 0 ≤ max 1 ((n : Int) * c.size)
    omega
  | th a b, h => by
    have r := okS.nn (c := a) h.1
    have q := okS.nn (c := b) h.2
    exact ⟨by show 0 ≤ a.size + b.size; omega, by show 0 ≤ a.reach.1 + b.reach.1; omega, by show 0 ≤ a.reach.2 + b.reach.2; omega, by show 0 ≤ a.written + b.written; omega⟩
  | hi a b, h => by
    have r := okS.nn (c := a) h.1
    have q := okS.nn (c := b) h.2
    exact ⟨by show 0 ≤ a.size + b.size; omega, by show 0 ≤ max a.reach.1 b.reach.1; omega, by show 0 ≤ max a.reach.2 b.reach.2; omega, by show 0 ≤ a.written + b.written; omega⟩
  | lo a b, h => by
    have r := okS.nn (c := a) h.1
    have q := okS.nn (c := b) h.2
    exact ⟨by show 0 ≤ a.size + b.size; omega, by show 0 ≤ max a.reach.1 b.reach.1; omega, by show 0 ≤ max a.reach.2 b.reach.2; omega, by show 0 ≤ a.written + b.written; omega⟩
def fits (c : Ch) (r w : Int) : Prop := c.size ≤ 8 ∧ c.depth ≤ 20 ∧ c.reach.1 + c.reach.2 ≤ r ∧ c.written ≤ w ∧ dirS c.dir ≠ "both"
instance {c : Ch} {r w : Int} : Decidable (fits c r w) := by unfold fits; exact inferInstance
theorem fits.lim {c : Ch} {r w : Int} (f : fits c r w) (hr : r ≤ 6) (hw : w ≤ 3) : limit c = none := by
  obtain ⟨f1, f2, f3, f4, f5⟩ := f
  refine limit_none.mpr ⟨f1, f2, by omega, by omega, ?_⟩
  cases h : c.dir with
  | none => rw [h] at f5; exact absurd rfl f5
  | some s => exact ⟨s, rfl⟩
theorem lim_fits {c : Ch} (h : okS c) (l : limit c = none) : fits c 6 3 := by
  obtain ⟨h1, h2, h3, h4, s, h5⟩ := limit_none.mp l
  exact ⟨h1, h2, h3, h4, fun z => h.nboth (by rw [h5] at z ⊢; exact congrArg some z)⟩
theorem sw_limit {ns : List Int} {k own : Int} {es ys : Str} (g : GoodS ns k own es ys) (wr : writtenOf ns own ys ≤ 3) : limit (sw ns k own es ys) = none := by
  have r := reach_le g.sum g.l7 g.o0 g.o1
  exact limit_none.mpr ⟨by show (1 : Int) ≤ 8; decide, by show (1 : Int) ≤ 20; decide, r.2.2, wr, ys, rfl⟩
/-- the ways of all its sweeps -/
def ways (S : Str → Prop) : Ch → Prop
  | sw _ _ _ _ ys => S ys
  | tu c => ways S c
  | mi c => ways S c
  | ti _ c => ways S c
  | th a b => ways S a ∧ ways S b
  | hi a b => ways S a ∧ ways S b
  | lo a b => ways S a ∧ ways S b
/-- how a law lets a tree grow -/
def Grown (S : Str → Prop) (c d : Ch) : Prop := d = tu c ∨ d = mi c ∨ (∃ n : Nat, n ≤ 8 ∧ d = ti n c) ∨ ∃ o, (o = c ∨ ∃ ns k own es ys, o = sw ns k own es ys ∧ GoodS ns k own es ys ∧ S ys) ∧ (d = th c o ∨ d = th o c ∨ d = hi c o ∨ d = lo o c)
theorem Grown.okS {S : Str → Prop} {c d : Ch} (h : Grown S c d) (hc : okS c) : okS d := by
  rcases h with rfl | rfl | ⟨n, hn, rfl⟩ | ⟨o, ho, hd⟩
  · exact hc
  · exact hc
  · exact ⟨hc, hn⟩
  · have ok : Ch.okS o := by
      rcases ho with rfl | ⟨ns, k, own, es, ys, rfl, g, _⟩
      · exact hc
      · exact g
    rcases hd with rfl | rfl | rfl | rfl
    · exact ⟨hc, ok⟩
    · exact ⟨ok, hc⟩
    · exact ⟨hc, ok⟩
    · exact ⟨ok, hc⟩
theorem Grown.hgt {S : Str → Prop} {c d : Ch} (h : Grown S c d) : d.hgt ≤ c.hgt + 1 := by
  have p := Ch.hgt_pos c
  rcases h with rfl | rfl | ⟨n, hn, rfl⟩ | ⟨o, ho, hd⟩
  · exact Nat.le_refl _
  · exact Nat.le_refl _
  · exact Nat.le_refl _
  · have ok : Ch.hgt o ≤ c.hgt := by
      rcases ho with rfl | ⟨ns, k, own, es, ys, rfl, g, _⟩
      · exact Nat.le_refl _
      · exact p
    rcases hd with rfl | rfl | rfl | rfl
    · show max (Ch.hgt c) (Ch.hgt o) + 1 ≤ _; omega
    · show max (Ch.hgt o) (Ch.hgt c) + 1 ≤ _; omega
    · show max (Ch.hgt c) (Ch.hgt o) + 1 ≤ _; omega
    · show max (Ch.hgt o) (Ch.hgt c) + 1 ≤ _; omega
theorem Grown.good {S : Str → Prop} {c d : Ch} (h : Grown S c d) (hc : good c) (l : limit d = none) : Ch.good d := by
  rcases h with rfl | rfl | ⟨n, hn, rfl⟩ | ⟨o, ho, hd⟩
  · exact ⟨hc, l⟩
  · exact ⟨hc, l⟩
  · exact ⟨hc, hn, l⟩
  · have wr : o.written ≤ 3 := by
      have hl := (limit_none.mp l).2.2.2.1
      have nn := hc.okS.nn.2.2.2
      rcases hd with rfl | rfl | rfl | rfl
      · have hl : c.written + o.written ≤ 3 := hl; omega
      · have hl : o.written + c.written ≤ 3 := hl; omega
      · have hl : c.written + o.written ≤ 3 := hl; omega
      · have hl : o.written + c.written ≤ 3 := hl; omega
    have ok : Ch.good o := by
      rcases ho with rfl | ⟨ns, k, own, es, ys, rfl, g, _⟩
      · exact hc
      · exact ⟨g, sw_limit g wr⟩
    rcases hd with rfl | rfl | rfl | rfl
    · exact ⟨hc, ok, l⟩
    · exact ⟨ok, hc, l⟩
    · exact ⟨hc, ok, l⟩
    · exact ⟨ok, hc, l⟩
theorem Grown.ways {S : Str → Prop} {c d : Ch} (h : Grown S c d) (hc : ways S c) : Ch.ways S d := by
  rcases h with rfl | rfl | ⟨n, hn, rfl⟩ | ⟨o, ho, hd⟩
  · exact hc
  · exact hc
  · exact hc
  · have ok : Ch.ways S o := by
      rcases ho with rfl | ⟨ns, k, own, es, ys, rfl, g, s⟩
      · exact hc
      · exact s
    rcases hd with rfl | rfl | rfl | rfl
    · exact ⟨hc, ok⟩
    · exact ⟨ok, hc⟩
    · exact ⟨hc, ok⟩
    · exact ⟨ok, hc⟩
end Ch
end Own

namespace Own
open PySem L2
/-! chains keep what orders the cells -/
def Mono (f : Int → Int) : Prop := ∀ a b, a ≤ b → f a ≤ f b
theorem map_getD {f : Int → Int} {L : List Int} {i : Nat} (h : i < L.length) : (L.map f).getD i 0 = f (L.getD i 0) := by
  rw [List.getD_eq_getElem?_getD, List.getElem?_map, List.getElem?_eq_getElem h, List.getD_eq_getElem?_getD, List.getElem?_eq_getElem h]
  rfl
theorem srt_map {f : Int → Int} (hf : Mono f) (L : List Int) : srt (L.map f) = (srt L).map f := by
  refine sorted_eq (srt_sorted _) ?_ ((srt_perm _).trans ((srt_perm L).symm.map f))
  rw [List.pairwise_map]
  exact (srt_sorted L).imp fun h => hf _ _ h
theorem pick_map {f : Int → Int} (hf : Mono f) {L : List Int} {k x : Int} (hk : 1 ≤ k) : pick (L.map f) k (f x) = f (pick L k x) := by
  unfold pick
  by_cases h : L = []
  · rw [if_pos h, if_pos (by rw [h]; rfl)]
  · have pos : 0 < L.length := List.length_pos_iff.mpr h
    rw [if_neg h, if_neg (fun z => h (List.map_eq_nil_iff.mp z)), srt_map hf, List.length_map, map_getD]
    rw [srt_len]
    omega
theorem hel_map {f : Int → Int} {xs C : List Int} {a : Int} (h : xs ≠ []) : hel (xs.map f) (C.map f) a = f (hel xs C a) := by
  unfold hel
  rw [List.length_map]
  by_cases h1 : a < 0
  · rw [if_pos h1, if_pos h1]
    cases xs with
    | nil => exact absurd rfl h
    | cons y r => rfl
  · rw [if_neg h1, if_neg h1]
    by_cases h2 : a < (C.length : Int)
    · rw [if_pos h2, if_pos h2, map_getD (by omega)]
    · rw [if_neg h2, if_neg h2]
      rw [List.getLastD_eq_getLast?, List.getLastD_eq_getLast?, List.getLast?_map, List.getLast?_eq_some_getLast h]
      rfl
theorem Cof_map {f : Int → Int} {way : Way} {xs V : List Int} (hl : V.length = xs.length) (i : Nat) : Cof way (xs.map f) (V.map f) i = (Cof way xs V i).map f := by
  refine list_ext0 (by rw [Cof_len, List.length_map, List.length_map, Cof_len]) fun j hj => ?_
  rw [Cof_len, List.length_map] at hj
  rw [Cof_get (by rw [List.length_map]; exact hj), map_getD (L := Cof way xs V i) (by rw [Cof_len]; exact hj), Cof_get hj]
  by_cases c : way ≠ .all ∧ ahead way j i
  · rw [if_pos c, if_pos c, map_getD (by omega)]
  · rw [if_neg c, if_neg c, map_getD hj]
theorem valsAt_map {f : Int → Int} {held : Bool} {n : Nat} {i : Int} {os : List Int} {g : Int → Int} : valsAt held n i os (fun a => f (g a)) = (valsAt held n i os g).map f := by
  unfold valsAt
  rw [List.map_map]
  rfl
theorem sweepF_map {f : Int → Int} (hf : Mono f) {os : List Int} {held : Bool} {k : Int} {way : Way} {xs : List Int} (hk : 1 ≤ k) : sweepF os held k way (xs.map f) = (sweepF os held k way xs).map f := by
  refine fix_unique sweepF_fix ⟨by rw [List.length_map, List.length_map, sweepF_len], fun i hi => ?_⟩
  rw [List.length_map] at hi
  have ne : xs ≠ [] := fun z => by rw [z] at hi; exact absurd hi (Nat.not_lt_zero _)
  rw [map_getD (by rw [sweepF_len]; exact hi), map_getD hi, sweepF_fix.2 i hi, ← pick_map hf hk, ← valsAt_map, List.length_map, Cof_map sweepF_len]
  congr 1
  exact valsAt_congr fun a => (hel_map ne).symm
theorem gtr_map {f : Int → Int} (hf : Mono f) (a b : Int) : gtr (f a) (f b) = f (gtr a b) := by
  unfold gtr
  by_cases h : a > b
  · rw [if_pos h]
    have := hf b a (by omega)
    split <;> omega
  · rw [if_neg h]
    have := hf a b (by omega)
    rw [if_neg (by omega)]
theorem lsr_map {f : Int → Int} (hf : Mono f) (a b : Int) : lsr (f a) (f b) = f (lsr a b) := by
  unfold lsr
  by_cases h : a < b
  · rw [if_pos h]
    have := hf a b (by omega)
    split <;> omega
  · rw [if_neg h]
    have := hf b a (by omega)
    rw [if_neg (by omega)]
theorem zip_map {f : Int → Int} {g : Int → Int → Int} (h : ∀ a b, g (f a) (f b) = f (g a b)) : ∀ (A B : List Int), List.zipWith g (A.map f) (B.map f) = (List.zipWith g A B).map f
  | [], _ => by simp
  | _ :: _, [] => by simp
  | a :: A, b :: B => by
    simp only [List.map_cons, List.zipWith_cons_cons, h]
    rw [zip_map h A B]
theorem neg_map (f : Int → Int) (xs : List Int) : (xs.map f).map (fun x => -x) = (xs.map fun x => -x).map fun x => -f (-x) := by
  rw [List.map_map, List.map_map]
  refine List.map_congr_left fun x _ => ?_
  show -f x = -f (-(-x))
  rw [Int.neg_neg]
theorem itr_map {F : List Int → List Int} {f : Int → Int} {xs : List Int} (h : ∀ xs, F (xs.map f) = (F xs).map f) : ∀ n, itr F n (xs.map f) = (itr F n xs).map f
  | 0 => rfl
  | n + 1 => by
    show F (itr F n (xs.map f)) = (F (itr F n xs)).map f
    rw [itr_map h n, h]
namespace Ch
theorem run_map : ∀ {c : Ch}, okS c → ∀ {f : Int → Int}, Mono f → ∀ xs, run c (xs.map f) = (run c xs).map f
  | sw ns k own es ys, h, f, hf, xs => sweepF_map hf h.k1
  | tu c, h, f, hf, xs => by
    show (run c ((xs.map f).map fun x => -x)).map (fun x => -x) = ((run c (xs.map fun x => -x)).map fun x => -x).map f
    rw [neg_map, run_map (c := c) h (f := fun x => -f (-x)) (fun a b hab => by have := hf (-b) (-a) (by omega); show -f (-a) ≤ -f (-b); omega), List.map_map, List.map_map]
    refine List.map_congr_left fun x _ => ?_
    show - - f (-x) = f (-x)
    rw [Int.neg_neg]
  | mi c, h, f, hf, xs => by
    show (run c (xs.map f).reverse).reverse = ((run c xs.reverse).reverse).map f
    rw [← List.map_reverse, run_map (c := c) h hf, List.map_reverse]
  | ti n c, h, f, hf, xs => by
    exact itr_map (fun xs => run_map (c := c) h.1 hf xs) n
  | th a b, h, f, hf, xs => by
    show run b (run a (xs.map f)) = (run b (run a xs)).map f
    rw [run_map (c := a) h.1 hf, run_map (c := b) h.2 hf]
  | hi a b, h, f, hf, xs => by
    show List.zipWith gtr (run a (xs.map f)) (run b (xs.map f)) = (List.zipWith gtr (run a xs) (run b xs)).map f
    rw [run_map (c := a) h.1 hf, run_map (c := b) h.2 hf, zip_map (gtr_map hf)]
  | lo a b, h, f, hf, xs => by
    show List.zipWith lsr (run a (xs.map f)) (run b (xs.map f)) = (List.zipWith lsr (run a xs) (run b xs)).map f
    rw [run_map (c := a) h.1 hf, run_map (c := b) h.2 hf, zip_map (lsr_map hf)]
/-- the cells that a chain makes are cells of the row -/
theorem run_mem {c : Ch} (h : okS c) {xs : List Int} {v : Int} (hv : v ∈ run c xs) : v ∈ xs := by
  refine Classical.byContradiction fun no => ?_
  have m1 : Mono fun x => 2 * x := fun a b h => by show 2 * a ≤ 2 * b; omega
  have m2 : Mono fun x => if x = v then 2 * x + 1 else 2 * x := fun a b h => by
    show (if a = v then 2 * a + 1 else 2 * a) ≤ (if b = v then 2 * b + 1 else 2 * b)
    split <;> split <;> omega
  have e : xs.map (fun x => 2 * x) = xs.map fun x => if x = v then 2 * x + 1 else 2 * x := List.map_congr_left fun x hx => by
    rw [if_neg (fun z => no (by rw [← z]; exact hx))]
  have q : (run c xs).map (fun x => 2 * x) = (run c xs).map fun x => if x = v then 2 * x + 1 else 2 * x := by rw [← run_map h m1, ← run_map h m2, e]
  have := List.map_inj_left.mp q v hv
  rw [if_pos rfl] at this
  omega
end Ch
/-! more cells, more values -/
def Le (xs ys : List Int) : Prop := xs.length = ys.length ∧ ∀ i, i < xs.length → xs.getD i 0 ≤ ys.getD i 0
theorem countP_le_of : ∀ (l : List (Int × Int)) (v : Int), (∀ p ∈ l, p.1 ≤ p.2) → (l.map Prod.snd).countP (fun x => decide (x ≤ v)) ≤ (l.map Prod.fst).countP (fun x => decide (x ≤ v))
  | [], _, _ => Nat.le_refl _
  | p :: l, v, h => by
    have ih := countP_le_of l v fun q hq => h q (List.mem_cons_of_mem _ hq)
    have hp := h p List.mem_cons_self
    simp only [List.map_cons, List.countP_cons]
    by_cases h1 : p.2 ≤ v
    · rw [decide_eq_true h1, decide_eq_true (show p.1 ≤ v by omega)]
      omega
    · rw [decide_eq_false h1]
      simp only [Bool.false_eq_true, if_false]
      omega
theorem pick_le {l : List (Int × Int)} {k x y : Int} (hk : 1 ≤ k) (hl : ∀ p ∈ l, p.1 ≤ p.2) (hxy : x ≤ y) : pick (l.map Prod.fst) k x ≤ pick (l.map Prod.snd) k y := by
  by_cases h : l = []
  · subst h
    exact hxy
  · have n1 : l.map Prod.fst ≠ [] := fun z => h (List.map_eq_nil_iff.mp z)
    have n2 : l.map Prod.snd ≠ [] := fun z => h (List.map_eq_nil_iff.mp z)
    have a := (pick_rank (x := x) hk n1).1
    have b := (pick_rank (x := y) hk n2).2
    rw [List.length_map] at a b
    generalize pick (l.map Prod.fst) k x = u at a ⊢
    generalize pick (l.map Prod.snd) k y = v at b ⊢
    refine Classical.byContradiction fun no => ?_
    have c := countP_le_of l v hl
    have d : (l.map Prod.fst).countP (fun z => decide (z ≤ v)) ≤ (l.map Prod.fst).countP (fun z => decide (z < u)) := List.countP_mono_left fun z _ hz => by
      have := of_decide_eq_true hz
      exact decide_eq_true (by omega)
    omega
theorem sweepF_le {os : List Int} {held : Bool} {k : Int} {way : Way} {xs ys : List Int} (hk : 1 ≤ k) (h : Le xs ys) : Le (sweepF os held k way xs) (sweepF os held k way ys) := by
  obtain ⟨hl, h⟩ := h
  refine ⟨by rw [sweepF_len, sweepF_len, hl], fun i hi => ?_⟩
  rw [sweepF_len] at hi
  have key : ∀ m i, i < xs.length → rkOf way xs.length i < m → (sweepF os held k way xs).getD i 0 ≤ (sweepF os held k way ys).getD i 0 := by
    intro m
    induction m with
    | zero => intro i _ hm; omega
    | succ m ih =>
      intro i hi hm
      rw [sweepF_fix.2 i hi, sweepF_fix.2 i (by omega)]
      have hc : ∀ j, j < xs.length → (Cof way xs (sweepF os held k way xs) i).getD j 0 ≤ (Cof way ys (sweepF os held k way ys) i).getD j 0 := fun j hj => by
        rw [Cof_get hj, Cof_get (by omega)]
        by_cases c : way ≠ .all ∧ ahead way j i
        · rw [if_pos c, if_pos c]
          exact ih j hj (by have := rk_lt hj hi c.2; omega)
        · rw [if_neg c, if_neg c]
          exact h j hj
      have hh : ∀ a, hel xs (Cof way xs (sweepF os held k way xs) i) a ≤ hel ys (Cof way ys (sweepF os held k way ys) i) a := fun a => by
        unfold hel
        rw [Cof_len, Cof_len, ← hl]
        have h0 := h 0 (by omega)
        have hlast := h (xs.length - 1) (by omega)
        by_cases h1 : a < 0
        · rw [if_pos h1, if_pos h1]
          rw [List.headD_eq_head?_getD, List.headD_eq_head?_getD, List.head?_eq_getElem?, List.head?_eq_getElem?]
          rw [List.getD_eq_getElem?_getD, List.getD_eq_getElem?_getD] at h0
          exact h0
        · rw [if_neg h1, if_neg h1]
          by_cases h2 : a < (xs.length : Nat)
          · rw [if_pos h2, if_pos h2]
            exact hc _ (by omega)
          · rw [if_neg h2, if_neg h2]
            rw [List.getLastD_eq_getLast?, List.getLastD_eq_getLast?, List.getLast?_eq_getElem?, List.getLast?_eq_getElem?, ← hl]
            rw [List.getD_eq_getElem?_getD, List.getD_eq_getElem?_getD] at hlast
            exact hlast
      generalize hel xs (Cof way xs (sweepF os held k way xs) i) = g1 at hh
      generalize hel ys (Cof way ys (sweepF os held k way ys) i) = g2 at hh
      have e1 : valsAt held xs.length i os g1 = ((valsAt held xs.length i os (fun a => a)).map (fun a => (g1 a, g2 a))).map Prod.fst := by
        unfold valsAt
        rw [List.map_map, List.map_map]
        rfl
      have e2 : valsAt held ys.length i os g2 = ((valsAt held xs.length i os (fun a => a)).map (fun a => (g1 a, g2 a))).map Prod.snd := by
        unfold valsAt
        rw [List.map_map, List.map_map, ← hl]
        rfl
      rw [e1, e2]
      refine pick_le hk (fun p hp => ?_) (h i hi)
      obtain ⟨a, _, rfl⟩ := List.mem_map.mp hp
      exact hh a
  exact key _ i hi (Nat.lt_succ_self _)
theorem neg_le {xs ys : List Int} (h : Le xs ys) : Le (ys.map fun x => -x) (xs.map fun x => -x) := by
  refine ⟨by rw [List.length_map, List.length_map, h.1], fun i hi => ?_⟩
  rw [List.length_map] at hi
  rw [map_getD hi, map_getD (by rw [h.1]; exact hi)]
  have := h.2 i (by rw [h.1]; exact hi)
  omega
theorem rev_le {xs ys : List Int} (h : Le xs ys) : Le xs.reverse ys.reverse := by
  refine ⟨by rw [List.length_reverse, List.length_reverse, h.1], fun i hi => ?_⟩
  rw [List.length_reverse] at hi
  rw [rev_getD hi, rev_getD (by rw [← h.1]; exact hi), ← h.1]
  exact h.2 _ (by omega)
theorem zip_getD {g : Int → Int → Int} {A B : List Int} {i : Nat} (h1 : i < A.length) (h2 : i < B.length) : (List.zipWith g A B).getD i 0 = g (A.getD i 0) (B.getD i 0) := by
  rw [List.getD_eq_getElem?_getD, List.getElem?_zipWith, List.getElem?_eq_getElem h1, List.getElem?_eq_getElem h2, List.getD_eq_getElem?_getD, List.getElem?_eq_getElem h1, List.getD_eq_getElem?_getD, List.getElem?_eq_getElem h2]
  rfl
theorem zip_le {g : Int → Int → Int} (hg : ∀ a b c d, a ≤ c → b ≤ d → g a b ≤ g c d) {A B A' B' : List Int} (h1 : Le A A') (h2 : Le B B') (hl : A.length = B.length) : Le (List.zipWith g A B) (List.zipWith g A' B') := by
  have l1 := h1.1
  have l2 := h2.1
  refine ⟨by rw [List.length_zipWith, List.length_zipWith]; omega, fun i hi => ?_⟩
  rw [List.length_zipWith] at hi
  rw [zip_getD (by omega) (by omega), zip_getD (by omega) (by omega)]
  exact hg _ _ _ _ (h1.2 i (by omega)) (h2.2 i (by omega))
theorem itr_le {F : List Int → List Int} (h : ∀ {xs ys}, Le xs ys → Le (F xs) (F ys)) {xs ys : List Int} (l : Le xs ys) : ∀ n, Le (itr F n xs) (itr F n ys)
  | 0 => l
  | n + 1 => h (itr_le h l n)
theorem Ch.run_le : ∀ {c : Ch}, okS c → ∀ {xs ys : List Int}, Le xs ys → Le (run c xs) (run c ys)
  | sw ns k own es ys, h, _, _, l => sweepF_le h.k1 l
  | tu c, h, _, _, l => neg_le (run_le (c := c) h (neg_le l))
  | mi c, h, _, _, l => rev_le (run_le (c := c) h (rev_le l))
  | ti n c, h, xs, ys, l => by
    exact itr_le (fun l => run_le (c := c) h.1 l) l n
  | th a b, h, _, _, l => run_le (c := b) h.2 (run_le (c := a) h.1 l)
  | hi a b, h, _, _, l => zip_le (fun a b c d h1 h2 => by unfold gtr; split <;> split <;> omega) (run_le (c := a) h.1 l) (run_le (c := b) h.2 l) (by rw [run_len, run_len])
  | lo a b, h, _, _, l => zip_le (fun a b c d h1 h2 => by unfold lsr; split <;> split <;> omega) (run_le (c := a) h.1 l) (run_le (c := b) h.2 l) (by rw [run_len, run_len])
end Own

namespace Own
open PySem L2
/-! what is far away does not matter -/
/-- two rows agree from A to B, the second one being shifted -/
def AgW (xs ys : List Int) (δ A B : Int) : Prop := ∀ j : Int, A ≤ j → j ≤ B → ((0 ≤ j ↔ 0 ≤ j + δ) ∧ (j < (xs.length : Nat) ↔ j + δ < (ys.length : Nat))) ∧ (0 ≤ j → j < (xs.length : Nat) → xs.getD j.toNat 0 = ys.getD (j + δ).toNat 0)
theorem AgW.mono {xs ys : List Int} {δ A B A' B' : Int} (h : AgW xs ys δ A B) (hA : A ≤ A') (hB : B' ≤ B) : AgW xs ys δ A' B' := fun j h1 h2 => h j (by omega) (by omega)
theorem AgW.map {f : Int → Int} {xs ys : List Int} {δ A B : Int} (h : AgW xs ys δ A B) : AgW (xs.map f) (ys.map f) δ A B := fun j h1 h2 => by
  obtain ⟨⟨a, b⟩, c⟩ := h j h1 h2
  rw [List.length_map, List.length_map]
  refine ⟨⟨a, b⟩, fun p q => ?_⟩
  have := a.mp p
  have := b.mp q
  rw [map_getD (by omega), map_getD (by omega), c p q]
theorem AgW.zip {g : Int → Int → Int} {xs ys xs' ys' : List Int} {δ A B : Int} (h : AgW xs ys δ A B) (h' : AgW xs' ys' δ A B) (l1 : xs.length = xs'.length) (l2 : ys.length = ys'.length) : AgW (List.zipWith g xs xs') (List.zipWith g ys ys') δ A B := fun j h1 h2 => by
  obtain ⟨⟨a, b⟩, c⟩ := h j h1 h2
  obtain ⟨_, c'⟩ := h' j h1 h2
  rw [List.length_zipWith, List.length_zipWith, ← l1, ← l2, Nat.min_self, Nat.min_self]
  refine ⟨⟨a, b⟩, fun p q => ?_⟩
  have := a.mp p
  have := b.mp q
  rw [zip_getD (by omega) (by omega), zip_getD (by omega) (by omega), c p q, c' p (by omega)]
theorem AgW.rev {xs ys : List Int} {δ A B : Int} (h : AgW xs ys δ A B) : AgW xs.reverse ys.reverse ((ys.length : Int) - xs.length - δ) ((xs.length : Int) - 1 - B) ((xs.length : Int) - 1 - A) := fun j h1 h2 => by
  obtain ⟨⟨a, b⟩, c⟩ := h ((xs.length : Int) - 1 - j) (by omega) (by omega)
  rw [List.length_reverse, List.length_reverse]
  refine ⟨⟨⟨fun z => by have := b.mp (by omega); omega, fun z => by have := b.mpr (by omega); omega⟩, ⟨fun z => by have := a.mp (by omega); omega, fun z => by have := a.mpr (by omega); omega⟩⟩, fun p q => ?_⟩
  have p' := b.mp (by omega)
  have q' := a.mp (by omega)
  rw [rev_getD (by omega), rev_getD (by omega)]
  have e := c (by omega) (by omega)
  rw [show ((xs.length : Int) - 1 - j).toNat = xs.length - 1 - j.toNat by omega, show ((xs.length : Int) - 1 - j + δ).toNat = ys.length - 1 - (j + ((ys.length : Int) - xs.length - δ)).toNat by omega] at e
  exact e
theorem headD_getD (xs : List Int) : xs.headD 0 = xs.getD 0 0 := by cases xs <;> rfl
theorem getLastD_getD (xs : List Int) : xs.getLastD 0 = xs.getD (xs.length - 1) 0 := by
  rw [List.getLastD_eq_getLast?, List.getLast?_eq_getElem?, List.getD_eq_getElem?_getD]
theorem vals_agree {os : List Int} {held : Bool} {xs ys C C' : List Int} {δ A B l r j : Int} (h : AgW xs ys δ A B) (hC : C.length = xs.length) (hC' : C'.length = ys.length) (hos : ∀ o ∈ os, -l ≤ o ∧ o ≤ r) (l0 : 0 ≤ l) (r0 : 0 ≤ r) (hj1 : A + l ≤ j) (hj2 : j ≤ B - r) (j0 : 0 ≤ j) (jn : j < (xs.length : Nat))
    (hv : ∀ t : Int, A ≤ t → t ≤ B → 0 ≤ t → t < (xs.length : Nat) → C.getD t.toNat 0 = C'.getD (t + δ).toNat 0) : valsAt held xs.length j os (hel xs C) = valsAt held ys.length (j + δ) os (hel ys C') := by
  unfold valsAt
  have e1 : ∀ o ∈ os, (held || (decide (0 ≤ j + o) && decide (j + o < (xs.length : Nat)))) = (held || (decide (0 ≤ j + δ + o) && decide (j + δ + o < (ys.length : Nat)))) := fun o ho => by
    obtain ⟨o1, o2⟩ := hos o ho
    obtain ⟨⟨a, b⟩, -⟩ := h (j + o) (by omega) (by omega)
    congr 2
    · exact decide_eq_decide.mpr ⟨fun z => by have := a.mp z; omega, fun z => a.mpr (by omega)⟩
    · exact decide_eq_decide.mpr ⟨fun z => by have := b.mp z; omega, fun z => b.mpr (by omega)⟩
  rw [List.filter_congr e1]
  refine List.map_congr_left fun o ho => ?_
  obtain ⟨o1, o2⟩ := hos o (List.mem_filter.mp ho).1
  obtain ⟨⟨a, b⟩, -⟩ := h (j + o) (by omega) (by omega)
  unfold hel
  rw [hC, hC']
  by_cases h1 : j + o < 0
  · have h1' : j + δ + o < 0 := Int.not_le.mp fun z => by have := a.mpr (by omega); omega
    rw [if_pos h1, if_pos h1', headD_getD, headD_getD]
    obtain ⟨⟨a0, _⟩, c0⟩ := h 0 (by omega) (by omega)
    obtain ⟨⟨a1, _⟩, _⟩ := h (-1) (by omega) (by omega)
    have d0 := a0.mp (Int.le_refl 0)
    have d1 : ¬ 0 ≤ -1 + δ := fun z => by have := a1.mpr z; omega
    have e := c0 (Int.le_refl 0) (by omega)
    rw [show (0 + δ).toNat = 0 by omega] at e
    exact e
  · have h1' : ¬ j + δ + o < 0 := fun z => by have := a.mp (by omega); omega
    rw [if_neg h1, if_neg h1']
    by_cases h2 : j + o < (xs.length : Nat)
    · have h2' : j + δ + o < (ys.length : Nat) := by have := b.mp h2; omega
      rw [if_pos h2, if_pos h2']
      have e := hv (j + o) (by omega) (by omega) (by omega) h2
      rw [show j + o + δ = j + δ + o by omega] at e
      exact e
    · have h2' : ¬ j + δ + o < (ys.length : Nat) := fun z => h2 (b.mpr (by omega))
      rw [if_neg h2, if_neg h2', getLastD_getD, getLastD_getD]
      obtain ⟨⟨_, b0⟩, c0⟩ := h ((xs.length : Int) - 1) (by omega) (by omega)
      obtain ⟨⟨_, b1⟩, _⟩ := h (xs.length : Int) (by omega) (by omega)
      have d0 := b0.mp (by omega)
      have d1 : ¬ (xs.length : Int) + δ < (ys.length : Nat) := fun z => by have := b1.mpr z; omega
      have e := c0 (by omega) (by omega)
      rw [show ((xs.length : Int) - 1).toNat = xs.length - 1 by omega, show ((xs.length : Int) - 1 + δ).toNat = ys.length - 1 by omega] at e
      exact e
section
variable {os : List Int} {held : Bool} {k : Int} {xs ys : List Int} {δ A B l r : Int}
theorem sweep_agW (h : AgW xs ys δ A B) (hos : ∀ o ∈ os, -l ≤ o ∧ o ≤ r) (l0 : 0 ≤ l) (r0 : 0 ≤ r) : AgW (sweepF os held k .all xs) (sweepF os held k .all ys) δ (A + l) (B - r) := fun j h1 h2 => by
  obtain ⟨⟨a, b⟩, c⟩ := h j (by omega) (by omega)
  rw [sweepF_len, sweepF_len]
  refine ⟨⟨a, b⟩, fun p q => ?_⟩
  have p' := a.mp p
  have q' := b.mp q
  rw [sweepF_fix.2 _ (by omega), sweepF_fix.2 _ (by omega), c p q]
  have e := vals_agree (held := held) h (Cof_len (way := .all) (xs := xs) (V := sweepF os held k .all xs) (i := j.toNat)) (Cof_len (way := .all) (xs := ys) (V := sweepF os held k .all ys) (i := (j + δ).toNat)) hos l0 r0 h1 h2 p q (fun t t1 t2 t3 t4 => by
    obtain ⟨⟨a2, b2⟩, c2⟩ := h t t1 t2
    have := a2.mp t3
    have := b2.mp t4
    rw [Cof_get (by omega), Cof_get (by omega), if_neg (fun z => z.1 rfl), if_neg (fun z => z.1 rfl)]
    exact c2 t3 t4)
  rw [show ((j.toNat : Nat) : Int) = j by omega, show (((j + δ).toNat : Nat) : Int) = j + δ by omega, e]
theorem sweep_agOn (h : ∀ A, AgW xs ys δ A B) (hos : ∀ o ∈ os, -l ≤ o ∧ o ≤ r) (l0 : 0 ≤ l) (r0 : 0 ≤ r) : ∀ A, AgW (sweepF os held k .on xs) (sweepF os held k .on ys) δ A (B - r) := by
  have key : ∀ m : Nat, ∀ j : Int, j < m → 0 ≤ j → j < (xs.length : Nat) → j ≤ B - r → (sweepF os held k .on xs).getD j.toNat 0 = (sweepF os held k .on ys).getD (j + δ).toNat 0 := by
    intro m
    induction m with
    | zero => intro j h1 h2; omega
    | succ m ih =>
      intro j hm p q hB
      obtain ⟨⟨a, b⟩, c⟩ := h (j - l) j (by omega) (by omega)
      have p' := a.mp p
      have q' := b.mp q
      rw [sweepF_fix.2 _ (by omega), sweepF_fix.2 _ (by omega), c p q]
      have e := vals_agree (held := held) (h (j - l)) (Cof_len (way := .on) (xs := xs) (V := sweepF os held k .on xs) (i := j.toNat)) (Cof_len (way := .on) (xs := ys) (V := sweepF os held k .on ys) (i := (j + δ).toNat)) hos l0 r0 (by omega) hB p q (fun t t1 t2 t3 t4 => by
        obtain ⟨⟨a2, b2⟩, c2⟩ := h (j - l) t t1 t2
        have ta := a2.mp t3
        have tb := b2.mp t4
        rw [Cof_get (by omega), Cof_get (by omega)]
        have ah : (ahead .on t.toNat j.toNat) ↔ ahead .on (t + δ).toNat (j + δ).toNat := by
          unfold ahead
          rw [if_neg (by decide), if_neg (by decide)]
          omega
        by_cases hc : ahead .on t.toNat j.toNat
        · rw [if_pos ⟨by decide, hc⟩, if_pos ⟨by decide, ah.mp hc⟩]
          have htj : t < j := by
            unfold ahead at hc
            rw [if_neg (by decide)] at hc
            omega
          exact ih t (by omega) t3 t4 (by omega)
        · rw [if_neg (fun z => hc z.2), if_neg (fun z => hc (ah.mpr z.2))]
          exact c2 t3 t4)
      rw [show ((j.toNat : Nat) : Int) = j by omega, show (((j + δ).toNat : Nat) : Int) = j + δ by omega, e]
  intro A' j h1 h2
  obtain ⟨⟨a, b⟩, c⟩ := h j j (by omega) (by omega)
  rw [sweepF_len, sweepF_len]
  exact ⟨⟨a, b⟩, fun p q => key (j.toNat + 1) j (by omega) p q h2⟩
theorem neg_neg_perm (os : List Int) : os.Perm ((os.map fun o => -o).map fun o => -o) := by
  rw [List.map_map]
  have : ((fun o : Int => -o) ∘ fun o => -o) = id := funext fun o => Int.neg_neg o
  rw [this, List.map_id]
theorem back_of_on : sweepF os held k .back xs = (sweepF (os.map fun o => -o) held k .on xs.reverse).reverse := by
  have := sweep_rev (os := os.map fun o => -o) (os' := os) (held := held) (k := k) (xs := xs.reverse) (neg_neg_perm os)
  rw [List.reverse_reverse] at this
  exact this
theorem rev_ag {A B : Int} (h : AgW xs.reverse ys.reverse ((ys.length : Int) - xs.length - δ) ((xs.length : Int) - 1 - B) ((xs.length : Int) - 1 - A)) : AgW xs ys δ A B := by
  have := h.rev
  rw [List.reverse_reverse, List.reverse_reverse, List.length_reverse, List.length_reverse] at this
  rw [show (ys.length : Int) - xs.length - ((ys.length : Int) - xs.length - δ) = δ by omega, show (xs.length : Int) - 1 - ((xs.length : Int) - 1 - A) = A by omega, show (xs.length : Int) - 1 - ((xs.length : Int) - 1 - B) = B by omega] at this
  exact this
theorem sweep_agBack (h : ∀ B, AgW xs ys δ A B) (hos : ∀ o ∈ os, -l ≤ o ∧ o ≤ r) (l0 : 0 ≤ l) (r0 : 0 ≤ r) : ∀ B, AgW (sweepF os held k .back xs) (sweepF os held k .back ys) δ (A + l) B := fun B' => by
  rw [back_of_on, back_of_on]
  refine rev_ag ?_
  rw [List.reverse_reverse, List.reverse_reverse, List.length_reverse, List.length_reverse, sweepF_len, sweepF_len, List.length_reverse, List.length_reverse]
  have := sweep_agOn (os := os.map fun o => -o) (held := held) (k := k) (xs := xs.reverse) (ys := ys.reverse) (δ := (ys.length : Int) - xs.length - δ) (B := (xs.length : Int) - 1 - A) (l := r) (r := l) (fun A' => by
    have := (h ((xs.length : Int) - 1 - A')).rev
    rw [show (xs.length : Int) - 1 - ((xs.length : Int) - 1 - A') = A' by omega] at this
    exact this) (fun o ho => by
      obtain ⟨o', ho', rfl⟩ := List.mem_map.mp ho
      have := hos o' ho'
      omega) r0 l0 ((xs.length : Int) - 1 - B')
  rw [show (xs.length : Int) - 1 - A - l = (xs.length : Int) - 1 - (A + l) by omega] at this
  exact this
end
/-- agreement, as far as a direction asks -/
def Ag (m : Str) (xs ys : List Int) (δ A B : Int) : Prop := if m = "on" then ∀ A', AgW xs ys δ A' B else if m = "back" then ∀ B', AgW xs ys δ A B' else AgW xs ys δ A B
theorem Ag.lift {m : Str} {xs ys xs' ys' : List Int} {δ A B A' B' : Int} (f : ∀ A0 B0, AgW xs ys δ A0 B0 → AgW xs' ys' δ (A0 + (A' - A)) (B0 - (B - B'))) (h : Ag m xs ys δ A B) : Ag m xs' ys' δ A' B' := by
  unfold Ag at h ⊢
  split
  · rw [if_pos (by assumption)] at h
    intro A0
    have := f (A0 - (A' - A)) B (h _)
    rw [show A0 - (A' - A) + (A' - A) = A0 by omega, show B - (B - B') = B' by omega] at this
    exact this
  · rw [if_neg (by assumption)] at h
    split
    · rw [if_pos (by assumption)] at h
      intro B0
      have := f A (B0 + (B - B')) (h _)
      rw [show A + (A' - A) = A' by omega, show B0 + (B - B') - (B - B') = B0 by omega] at this
      exact this
    · rw [if_neg (by assumption)] at h
      have := f A B h
      rw [show A + (A' - A) = A' by omega, show B - (B - B') = B' by omega] at this
      exact this
theorem Ag.lift2 {m : Str} {xs ys xs' ys' xs2 ys2 : List Int} {δ A B : Int} (f : ∀ A0 B0, AgW xs ys δ A0 B0 → AgW xs' ys' δ A0 B0 → AgW xs2 ys2 δ A0 B0) (h : Ag m xs ys δ A B) (h' : Ag m xs' ys' δ A B) : Ag m xs2 ys2 δ A B := by
  unfold Ag at h h' ⊢
  split
  · rw [if_pos (by assumption)] at h h'
    exact fun A0 => f _ _ (h A0) (h' A0)
  · rw [if_neg (by assumption)] at h h'
    split
    · rw [if_pos (by assumption)] at h h'
      exact fun B0 => f _ _ (h B0) (h' B0)
    · rw [if_neg (by assumption)] at h h'
      exact f _ _ h h'
theorem Ag.mono {m : Str} {xs ys : List Int} {δ A B A' B' : Int} (h : Ag m xs ys δ A B) (hA : A ≤ A') (hB : B' ≤ B) : Ag m xs ys δ A' B' := h.lift fun A0 B0 h => h.mono (by omega) (by omega)
theorem Ag.rev {m : Str} (d3 : Dir3 m) {xs ys : List Int} {δ A B : Int} (h : Ag m xs ys δ A B) : Ag (mirD m) xs.reverse ys.reverse ((ys.length : Int) - xs.length - δ) ((xs.length : Int) - 1 - B) ((xs.length : Int) - 1 - A) := by
  unfold Ag at h ⊢
  rcases d3 with rfl | rfl | rfl
  · rw [if_neg (by decide), if_neg (by decide)] at h ⊢
    exact h.rev
  · rw [if_pos rfl] at h
    rw [if_neg (by decide), if_pos (by decide)]
    intro B'
    have := (h ((xs.length : Int) - 1 - B')).rev
    rw [show (xs.length : Int) - 1 - ((xs.length : Int) - 1 - B') = B' by omega] at this
    exact this
  · rw [if_neg (by decide), if_pos rfl] at h
    rw [if_pos (by decide)]
    intro A'
    have := (h ((xs.length : Int) - 1 - A')).rev
    rw [show (xs.length : Int) - 1 - ((xs.length : Int) - 1 - A') = A' by omega] at this
    exact this
theorem Ag.at {m : Str} {xs ys : List Int} {δ i : Int} (h : Ag m xs ys δ i i) (h0 : 0 ≤ i) (h1 : i < (xs.length : Nat)) : i + δ < (ys.length : Nat) ∧ 0 ≤ i + δ ∧ xs.getD i.toNat 0 = ys.getD (i + δ).toNat 0 := by
  have w : AgW xs ys δ i i := by
    unfold Ag at h
    split at h
    · exact h i
    · split at h
      · exact h i
      · exact h
  obtain ⟨⟨a, b⟩, c⟩ := w i (Int.le_refl _) (Int.le_refl _)
  exact ⟨b.mp h1, a.mp h0, c h0 h1⟩
namespace Ch
def dirOk (m : Str) (c : Ch) : Prop := dir c = some ("all" : Str) ∨ dir c = some m
theorem joint_ok {a b : Option Str} {m : Str} (h : joint a b = some ("all" : Str) ∨ joint a b = some m) : (a = some ("all" : Str) ∨ a = some m) ∧ (b = some ("all" : Str) ∨ b = some m) := by
  rw [joint_eq] at h
  by_cases h1 : a = some ("all" : Str) ∨ a = b
  · rw [if_pos h1] at h
    rcases h1 with h1 | h1
    · exact ⟨.inl h1, h⟩
    · exact ⟨by rw [h1]; exact h, h⟩
  · rw [if_neg h1] at h
    by_cases h2 : b = some ("all" : Str)
    · rw [if_pos h2] at h
      exact ⟨h, .inl h2⟩
    · rw [if_neg h2] at h
      rcases h with h | h <;> cases h
theorem itr_ag {F : List Int → List Int} {m : Str} {xs ys : List Int} {δ A B l r : Int} (hF : ∀ xs ys A B, Ag m xs ys δ A B → Ag m (F xs) (F ys) δ (A + l) (B - r)) (h : Ag m xs ys δ A B) : ∀ n : Nat, Ag m (itr F n xs) (itr F n ys) δ (A + n * l) (B - n * r)
  | 0 => by
    rw [show A + ((0 : Nat) : Int) * l = A by omega, show B - ((0 : Nat) : Int) * r = B by omega]
    exact h
  | n + 1 => by
    have := hF _ _ _ _ (itr_ag hF h n)
    rw [show A + ((n + 1 : Nat) : Int) * l = A + n * l + l by rw [Int.natCast_add, Int.add_mul]; omega, show B - ((n + 1 : Nat) : Int) * r = B - n * r - r by rw [Int.natCast_add, Int.add_mul]; omega]
    exact this
theorem run_ag : ∀ {c : Ch}, okS c → ∀ {m : Str}, Dir3 m → dirOk m c → ∀ {xs ys : List Int} {δ A B : Int}, Ag m xs ys δ A B → Ag m (run c xs) (run c ys) δ (A + c.reach.1) (B - c.reach.2)
  | sw ns k own es yw, g, m, d3, hd, xs, ys, δ, A, B, h => by
    have r := reach_le g.sum g.l7 g.o0 g.o1
    have hos : ∀ o ∈ offs ns own, - leftOf ns own ≤ o ∧ o ≤ rightOf ns own := fun o ho => offs_bounds ho
    show Ag m (sweepF (offs ns own) (heldOf es) k (wayOf yw) xs) (sweepF (offs ns own) (heldOf es) k (wayOf yw) ys) δ (A + leftOf ns own) (B - rightOf ns own)
    by_cases ha : yw = "all"
    · subst ha
      exact h.lift fun A0 B0 h0 => (sweep_agW h0 hos r.1 r.2.1).mono (by omega) (by omega)
    · have hm : yw = m := by
        rcases hd with hd | hd
        · exact absurd (Option.some.inj hd) ha
        · exact Option.some.inj hd
      subst hm
      rcases d3 with rfl | rfl | rfl
      · exact absurd rfl ha
      · unfold Ag at h ⊢
        rw [if_pos rfl] at h ⊢
        exact sweep_agOn h hos r.1 r.2.1
      · unfold Ag at h ⊢
        rw [if_neg (by decide), if_pos rfl] at h ⊢
        exact sweep_agBack h hos r.1 r.2.1
  | tu c, g, m, d3, hd, xs, ys, δ, A, B, h => by
    have rt : (Ch.tu c).reach = c.reach := rfl
    rw [rt]
    have h1 : Ag m (xs.map fun x => -x) (ys.map fun x => -x) δ A B := h.lift fun A0 B0 h0 => h0.map.mono (by omega) (by omega)
    exact (run_ag (c := c) g d3 hd h1).lift fun A0 B0 h0 => h0.map.mono (by omega) (by omega)
  | mi c, g, m, d3, hd, xs, ys, δ, A, B, h => by
    have hd' : dirOk (mirD m) c := by
      have hd : (dir c).map mirD = some ("all" : Str) ∨ (dir c).map mirD = some m := hd
      cases e : dir c with
      | none => rw [e] at hd; rcases hd with hd | hd <;> cases hd
      | some s =>
        rw [e] at hd
        have d3s := okS.dir3 (c := c) g s e
        unfold dirOk
        rw [e]
        rcases hd with hd | hd
        · have hd : mirD s = "all" := Option.some.inj hd
          rcases d3s with rfl | rfl | rfl
          · exact .inl rfl
          · exact absurd hd (by decide)
          · exact absurd hd (by decide)
        · have hd : mirD s = m := Option.some.inj hd
          subst hd
          rcases d3s with rfl | rfl | rfl
          · exact .inl rfl
          · exact .inr (by decide)
          · exact .inr (by decide)
    have h1 := run_ag (c := c) g (mirD3 d3) hd' (h.rev d3)
    have h2 := h1.rev (mirD3 d3)
    rw [show mirD (mirD m) = m by rcases d3 with rfl | rfl | rfl <;> decide, run_len, run_len, List.length_reverse, List.length_reverse] at h2
    show Ag m (run c xs.reverse).reverse (run c ys.reverse).reverse δ (A + c.reach.2) (B - c.reach.1)
    rw [show (ys.length : Int) - xs.length - ((ys.length : Int) - xs.length - δ) = δ by omega, show (xs.length : Int) - 1 - ((xs.length : Int) - 1 - A - c.reach.2) = A + c.reach.2 by omega, show (xs.length : Int) - 1 - ((xs.length : Int) - 1 - B + c.reach.1) = B - c.reach.1 by omega] at h2
    exact h2
  | ti n c, g, m, d3, hd, xs, ys, δ, A, B, h => by
    show Ag m (itr (run c) n xs) (itr (run c) n ys) δ (A + n * c.reach.1) (B - n * c.reach.2)
    by_cases hn : n = 0
    · subst hn
      rw [show A + ((0 : Nat) : Int) * c.reach.1 = A by omega, show B - ((0 : Nat) : Int) * c.reach.2 = B by omega]
      exact h
    · have hd' : dirOk m c := by
        have hd : (if n > 0 then dir c else some ("all" : Str)) = some ("all" : Str) ∨ (if n > 0 then dir c else some ("all" : Str)) = some m := hd
        rw [if_pos (by omega)] at hd
        exact hd
      exact itr_ag (fun xs ys A B h => run_ag (c := c) g.1 d3 hd' h) h n
  | th a b, g, m, d3, hd, xs, ys, δ, A, B, h => by
    obtain ⟨ha, hb⟩ := joint_ok (show joint (dir a) (dir b) = some ("all" : Str) ∨ joint (dir a) (dir b) = some m from hd)
    have h1 := run_ag (c := b) g.2 d3 hb (run_ag (c := a) g.1 d3 ha h)
    show Ag m (run b (run a xs)) (run b (run a ys)) δ (A + (a.reach.1 + b.reach.1)) (B - (a.reach.2 + b.reach.2))
    rw [show A + (a.reach.1 + b.reach.1) = A + a.reach.1 + b.reach.1 by omega, show B - (a.reach.2 + b.reach.2) = B - a.reach.2 - b.reach.2 by omega]
    exact h1
  | hi a b, g, m, d3, hd, xs, ys, δ, A, B, h => by
    obtain ⟨ha, hb⟩ := joint_ok (show joint (dir a) (dir b) = some ("all" : Str) ∨ joint (dir a) (dir b) = some m from hd)
    have ra : (Ch.hi a b).reach = (max a.reach.1 b.reach.1, max a.reach.2 b.reach.2) := rfl
    rw [ra]
    exact Ag.lift2 (fun A0 B0 h1 h2 => h1.zip h2 (by rw [run_len, run_len]) (by rw [run_len, run_len])) ((run_ag (c := a) g.1 d3 ha h).mono (by show A + a.reach.1 ≤ A + max _ _; omega) (by show B - max _ _ ≤ B - a.reach.2; omega)) ((run_ag (c := b) g.2 d3 hb h).mono (by show A + b.reach.1 ≤ A + max _ _; omega) (by show B - max _ _ ≤ B - b.reach.2; omega))
  | lo a b, g, m, d3, hd, xs, ys, δ, A, B, h => by
    obtain ⟨ha, hb⟩ := joint_ok (show joint (dir a) (dir b) = some ("all" : Str) ∨ joint (dir a) (dir b) = some m from hd)
    have ra : (Ch.lo a b).reach = (max a.reach.1 b.reach.1, max a.reach.2 b.reach.2) := rfl
    rw [ra]
    exact Ag.lift2 (fun A0 B0 h1 h2 => h1.zip h2 (by rw [run_len, run_len]) (by rw [run_len, run_len])) ((run_ag (c := a) g.1 d3 ha h).mono (by show A + a.reach.1 ≤ A + max _ _; omega) (by show B - max _ _ ≤ B - a.reach.2; omega)) ((run_ag (c := b) g.2 d3 hb h).mono (by show A + b.reach.1 ≤ A + max _ _; omega) (by show B - max _ _ ≤ B - b.reach.2; omega))
end Ch
end Own

namespace Own
open PySem L2
/-! directions of chains that are put together, and the rules of the operators -/
namespace Ch
theorem dirOk.ex {m : Str} {c : Ch} (h : dirOk m c) : ∃ s, c.dir = some s := h.elim (fun h => ⟨_, h⟩) (fun h => ⟨_, h⟩)
theorem joint_mk {a b : Option Str} {m : Str} (ha : a = some ("all" : Str) ∨ a = some m) (hb : b = some ("all" : Str) ∨ b = some m) : joint a b = some ("all" : Str) ∨ joint a b = some m := by
  rw [joint_eq]
  by_cases h : a = some ("all" : Str) ∨ a = b
  · rw [if_pos h]; exact hb
  · rw [if_neg h]
    have ha := ha.resolve_left (fun z => h (.inl z))
    by_cases h2 : b = some ("all" : Str)
    · rw [if_pos h2]; exact .inr ha
    · exact absurd (.inr (ha.trans (hb.resolve_left h2).symm)) h
theorem dirOk.th {m : Str} {a b : Ch} (ha : dirOk m a) (hb : dirOk m b) : dirOk m (th a b) := joint_mk ha hb
theorem dirOk.hi {m : Str} {a b : Ch} (ha : dirOk m a) (hb : dirOk m b) : dirOk m (hi a b) := joint_mk ha hb
theorem dirOk.lo {m : Str} {a b : Ch} (ha : dirOk m a) (hb : dirOk m b) : dirOk m (lo a b) := joint_mk ha hb
theorem dirOk.tu {m : Str} {a : Ch} (ha : dirOk m a) : dirOk m (tu a) := ha
theorem dirOk.mi {m : Str} {a : Ch} (ha : dirOk m a) : dirOk (mirD m) (mi a) := by
  unfold dirOk
  show (dir a).map mirD = _ ∨ (dir a).map mirD = _
  rcases ha with h | h
  · rw [h]; exact .inl rfl
  · rw [h]; exact .inr rfl
theorem dirOk.ti {m : Str} {a : Ch} (ha : dirOk m a) (n : Nat) : dirOk m (ti n a) := by
  unfold dirOk
  show (if n > 0 then dir a else some ("all" : Str)) = _ ∨ (if n > 0 then dir a else some ("all" : Str)) = _
  split
  · exact ha
  · exact .inl rfl
theorem ways_all : ∀ {c : Ch}, ways (fun s => s = "all") c → dir c = some ("all" : Str)
  | sw .., h => congrArg some h
  | tu c, h => ways_all (c := c) h
  | mi c, h => by show (dir c).map mirD = _; rw [ways_all (c := c) h]; rfl
  | ti n c, h => by
    show (if n > 0 then dir c else some ("all" : Str)) = _
    rw [ways_all (c := c) h, ite_self]
  | th a b, h => by show joint (dir a) (dir b) = _; rw [ways_all (c := a) h.1, ways_all (c := b) h.2]; rfl
  | hi a b, h => by show joint (dir a) (dir b) = _; rw [ways_all (c := a) h.1, ways_all (c := b) h.2]; rfl
  | lo a b, h => by show joint (dir a) (dir b) = _; rw [ways_all (c := a) h.1, ways_all (c := b) h.2]; rfl
theorem ways.mono {S S' : Str → Prop} (h : ∀ s, S s → S' s) : ∀ {c : Ch}, ways S c → ways S' c
  | sw .., w => h _ w
  | tu c, w => ways.mono (c := c) h w
  | mi c, w => ways.mono (c := c) h w
  | ti n c, w => ways.mono (c := c) h w
  | th a b, w => ⟨ways.mono (c := a) h w.1, ways.mono (c := b) h w.2⟩
  | hi a b, w => ⟨ways.mono (c := a) h w.1, ways.mono (c := b) h w.2⟩
  | lo a b, w => ⟨ways.mono (c := a) h w.1, ways.mono (c := b) h w.2⟩
theorem run_neg {c : Ch} {xs : List Int} : run (tu c) xs = (run c (xs.map fun x => -x)).map fun x => -x := rfl
end Ch
theorem neg2 (xs : List Int) : (xs.map fun x => -x).map (fun x => -x) = xs := by
  rw [List.map_map]
  have : ((fun x : Int => -x) ∘ fun x => -x) = id := funext fun o => Int.neg_neg o
  rw [this, List.map_id]
theorem map_zip (f : Int → Int) (g : Int → Int → Int) : ∀ A B : List Int, (List.zipWith g A B).map f = List.zipWith (fun a b => f (g a b)) A B
  | [], _ => rfl
  | _ :: _, [] => rfl
  | a :: A, b :: B => by simp only [List.zipWith_cons_cons, List.map_cons]; rw [map_zip f g A B]
theorem zip_maps (f h : Int → Int) (g : Int → Int → Int) : ∀ A B : List Int, List.zipWith g (A.map f) (B.map h) = List.zipWith (fun a b => g (f a) (h b)) A B
  | [], _ => rfl
  | _ :: _, [] => rfl
  | a :: A, b :: B => by simp only [List.zipWith_cons_cons, List.map_cons]; rw [zip_maps f h g A B]
theorem zip_same {f g : Int → Int → Int} (h : ∀ a b, f a b = g a b) (A B : List Int) : List.zipWith f A B = List.zipWith g A B := by
  have : f = g := funext fun a => funext fun b => h a b
  rw [this]
theorem zip_rev (g : Int → Int → Int) {A B : List Int} (h : A.length = B.length) : (List.zipWith g A B).reverse = List.zipWith g A.reverse B.reverse := by
  refine list_ext0 (by simp [h]) fun i hi => ?_
  have hi' : i < A.length := by
    rw [List.length_reverse, List.length_zipWith] at hi
    omega
  rw [rev_getD (by rw [List.length_reverse] at hi; exact hi), zip_getD (by rw [List.length_zipWith]; omega) (by rw [List.length_zipWith]; omega), zip_getD (by rw [List.length_reverse]; exact hi') (by rw [List.length_reverse]; omega), rev_getD hi', rev_getD (by omega), List.length_zipWith]
  rw [show min A.length B.length - 1 - i = A.length - 1 - i by omega, ← h]
theorem zip_comm {g : Int → Int → Int} (h : ∀ a b, g a b = g b a) : ∀ A B : List Int, List.zipWith g A B = List.zipWith g B A
  | [], [] => rfl
  | [], _ :: _ => rfl
  | _ :: _, [] => rfl
  | a :: A, b :: B => by simp only [List.zipWith_cons_cons]; rw [h a b, zip_comm h A B]
theorem zip_absorb {g f : Int → Int → Int} (h : ∀ a b, g a (f a b) = a) : ∀ A B : List Int, A.length = B.length → List.zipWith g A (List.zipWith f A B) = A
  | [], [], _ => rfl
  | a :: A, b :: B, hl => by simp only [List.zipWith_cons_cons]; rw [h a b, zip_absorb h A B (by simpa using hl)]
theorem zip_distr {g f : Int → Int → Int} (h : ∀ a b c, g a (f b c) = f (g a b) (g a c)) : ∀ A B C : List Int, List.zipWith g A (List.zipWith f B C) = List.zipWith f (List.zipWith g A B) (List.zipWith g A C)
  | [], _, _ => by simp
  | _ :: _, [], _ => by simp
  | _ :: _, _ :: _, [] => by simp
  | a :: A, b :: B, c :: C => by simp only [List.zipWith_cons_cons]; rw [h a b c, zip_distr h A B C]
theorem gl_neg (a b : Int) : -(gtr (-a) (-b)) = lsr a b := by unfold gtr lsr; split <;> split <;> omega
theorem lg_neg (a b : Int) : -(lsr (-a) (-b)) = gtr a b := by unfold gtr lsr; split <;> split <;> omega
theorem gtr_ge (a b : Int) : a ≤ gtr a b ∧ b ≤ gtr a b := by unfold gtr; split <;> omega
theorem lsr_le (a b : Int) : lsr a b ≤ a ∧ lsr a b ≤ b := by unfold lsr; split <;> omega
namespace Ch
variable {p q r : Ch} {xs : List Int}
theorem rule1 : run (th (th p q) r) xs = run (th p (th q r)) xs := rfl
theorem rule2 : run (tu (tu p)) xs = run p xs := by
  show ((run p ((xs.map fun x => -x).map fun x => -x)).map fun x => -x).map (fun x => -x) = _
  rw [neg2, neg2]
theorem rule3 : run (mi (mi p)) xs = run p xs := by
  show ((run p xs.reverse.reverse).reverse).reverse = _
  rw [List.reverse_reverse, List.reverse_reverse]
theorem rule4 : run (tu (hi p r)) xs = run (lo (tu p) (tu r)) xs := by
  show (List.zipWith gtr (run p (xs.map fun x => -x)) (run r (xs.map fun x => -x))).map (fun x => -x) = List.zipWith lsr ((run p (xs.map fun x => -x)).map fun x => -x) ((run r (xs.map fun x => -x)).map fun x => -x)
  rw [map_zip, zip_maps]
  exact zip_same (fun a b => by rw [← gl_neg, Int.neg_neg, Int.neg_neg]) _ _
theorem rule5 : run (tu (lo q r)) xs = run (hi (tu q) (tu r)) xs := by
  show (List.zipWith lsr (run q (xs.map fun x => -x)) (run r (xs.map fun x => -x))).map (fun x => -x) = List.zipWith gtr ((run q (xs.map fun x => -x)).map fun x => -x) ((run r (xs.map fun x => -x)).map fun x => -x)
  rw [map_zip, zip_maps]
  exact zip_same (fun a b => by rw [← lg_neg, Int.neg_neg, Int.neg_neg]) _ _
theorem rule6 : run (tu (th p q)) xs = run (th (tu p) (tu q)) xs := by
  show (run q (run p (xs.map fun x => -x))).map (fun x => -x) = (run q (((run p (xs.map fun x => -x)).map fun x => -x).map fun x => -x)).map fun x => -x
  rw [neg2]
theorem rule7 : run (mi (th p q)) xs = run (th (mi p) (mi q)) xs := by
  show (run q (run p xs.reverse)).reverse = (run q (run p xs.reverse).reverse.reverse).reverse
  rw [List.reverse_reverse]
theorem rule8 : run (mi (tu p)) xs = run (tu (mi p)) xs := by
  show ((run p (xs.reverse.map fun x => -x)).map fun x => -x).reverse = ((run p (xs.map fun x => -x).reverse).reverse).map fun x => -x
  rw [List.map_reverse, List.map_reverse]
theorem rule9 : run (mi (hi p r)) xs = run (hi (mi p) (mi r)) xs := zip_rev gtr (by rw [run_len, run_len])
theorem rule10 : run (th p (hi q r)) xs = run (hi (th p q) (th p r)) xs := rfl
theorem rule11 : run (th p (lo q r)) xs = run (lo (th p q) (th p r)) xs := rfl
theorem rule12 : run (hi p (lo p r)) xs = run p xs := zip_absorb (fun a b => by unfold gtr lsr; split <;> split <;> omega) _ _ (by rw [run_len, run_len])
theorem rule13 : run (hi p r) xs = run (hi r p) xs := zip_comm (fun a b => by unfold gtr; split <;> split <;> omega) _ _
theorem rule14 : run (lo r q) xs = run (lo q r) xs := zip_comm (fun a b => by unfold lsr; split <;> split <;> omega) _ _
theorem rule15 : run (hi p (lo q r)) xs = run (lo (hi p q) (hi p r)) xs := zip_distr (fun a b c => by unfold gtr lsr; split <;> split <;> split <;> (try split) <;> omega) _ _ _
theorem rule16 : run (ti 3 p) xs = run (th (th p p) p) xs := rfl
theorem rule17 : run (th (ti 0 p) q) xs = run (th q (ti 0 p)) xs := rfl
end Ch
end Own

namespace Own
open PySem L2 PyProof.Rows
/-- what a class must be that its own ** serves with a number on the right -/
structure PowI (K : PySem.W.Frag) (C f : Addr) : Prop where
  firstC : PySem.W.selfFirst K C = true
  fC : PySem.W.findIn K (.ref C) (PySem.dunder "pow") = some (some (.ref f))
  fn : PySem.W.isFn K (.ref f) = true
  rC : PySem.W.findIn K (.ref C) (dunderR "pow") = some none
  h1 : PySem.W.findIn K (.type "int") (PySem.dunder "pow") = some (some (.builtin "int.__pow__"))
  h2 : PySem.W.findIn K (.type "int") (dunderR "pow") = some (some (.builtin "int.__rpow__"))
section
variable {X : Cx} {CX : CXT} {k : Nat} {f : Addr} {fd : FuncData} {ps : List Str} {sp : Sp} {W : L2.St → XK} {a b : Expr} {ta tb : TE} {pos : Pos}
def rPowI (K : PySem.W.Frag) (f : Addr) (sp : Sp) (E : XK) : R2 := fun x y H Q => ∃ (a C dx : Addr) (fs : List (Str × V)) (n : Int), x = .ref a ∧ y = .int n ∧ H a = some (.ins C dx fs) ∧ PowI K C f ∧ sp [.ref a, .int n] H Q E
theorem pow_at {E : XK} {pins : List (Addr × Obj)} {s : Shared} {σ : L2.St} {H : Hp} {x y : V} {v u : Value} {Q : VK} (F : FnOk X.prog X.w X.K X.mg X.base CX k f fd ps sp) (room : Room k X.A) (B : Binds X.K fd ps []) (hx : PassesAt CX X σ E)
    (I : L2.Inv X pins σ H s) (rx : L2.RelV x v) (ry : L2.RelV y u) (h : rPowI X.K f sp E x y H Q) : wpAny (model X.prog X.w) X.A (binaryOp .Pow v u) (EP X pins σ Q) X.xe s := by
  obtain ⟨a, C, dx, fs, n, rfl, rfl, ha, T, h⟩ := h
  cases rx
  obtain ⟨t, rfl⟩ := id ry
  obtain ⟨ox, od, J⟩ := ins_inst I ha
  obtain ⟨m, Fr⟩ := I.fr
  exact PySem.W.ksp_binT (op := .Pow) (T := "int") Fr I.ok.mod.kin J rfl T.firstC T.fC T.fn T.rC (.inl rfl) T.h1 T.h2 sub_int (run_two F room B hx I (us := [.ref a, .int n t]) (vs := [.ref a, .int n]) (.cons rfl (.cons ry .nil)) h)
def tPowI (K : PySem.W.Frag) (f : Addr) (sp : Sp) (W : L2.St → XK) (ta tb : TE) : TE := fun σ H Q => ta σ H fun x H1 => tb σ H1 fun y H2 => rPowI K f sp (W σ) x y H2 Q
theorem pe_powI (K : PySem.W.Frag) (F : FnOk X.prog X.w X.K X.mg X.base CX k f fd ps sp) (room : Room k X.A) (B : Binds X.K fd ps []) (hx : ∀ σ, PassesAt CX X σ (W σ)) (ha : PE X a ta) (hb : PE X b tb) (h : X.K = K := by rfl) :
    PE X (.BinOp a .Pow b pos) (tPowI K f sp W ta tb) := by
  subst h
  constructor
  intro pins s σ H Q I q
  exact wpAny_BinOp (binT ha hb I (R := fun x y H2 => rPowI X.K f sp (W σ) x y H2 Q) q fun v u s2 x y H2 I2 rx ry q => pow_at F room B (hx σ) I2 rx ry q)
theorem r_powI {K : PySem.W.Frag} {σ : L2.St} {H : Hp} {Q : VK} (h : ta σ H fun x H1 => tb σ H1 fun y H2 => rPowI K f sp (W σ) x y H2 Q) : tPowI K f sp W ta tb σ H Q := h
end
end Own

namespace Rk
open PySem ClX Own
open L2 hiding Ext
def top (i : Nat) : Stmt := PySem.Challenge.pw_ranksweeps_k09_equal_chains.main.body.getD i (.Pass ⟨0, 0, 0, 0⟩)
abbrev s_NoRow__init__ : Stmt := inClass (top 2) 0
theorem sc_NoRow__init__ : FnScope ["self", "index"] ["self", "index"] (defScope s_NoRow__init__) := ⟨rfl, rfl, rfl, by decide +kernel, rfl, by decide +kernel, by decide +kernel⟩
abbrev s_NoSweep__init__ : Stmt := inClass (top 3) 0
theorem sc_NoSweep__init__ : FnScope ["self", "part"] ["self", "part"] (defScope s_NoSweep__init__) := ⟨rfl, rfl, rfl, by decide +kernel, rfl, by decide +kernel, by decide +kernel⟩
abbrev s_NoNumber__init__ : Stmt := inClass (top 4) 0
theorem sc_NoNumber__init__ : FnScope ["self", "name"] ["self", "name"] (defScope s_NoNumber__init__) := ⟨rfl, rfl, rfl, by decide +kernel, rfl, by decide +kernel, by decide +kernel⟩
abbrev s_TooLarge__init__ : Stmt := inClass (top 5) 0
theorem sc_TooLarge__init__ : FnScope ["self", "part"] ["self", "part"] (defScope s_TooLarge__init__) := ⟨rfl, rfl, rfl, by decide +kernel, rfl, by decide +kernel, by decide +kernel⟩
abbrev s_Chain__init__ : Stmt := inClass (top 25) 0
theorem sc_Chain__init__ : FnScope ["self", "kind", "parts", "size", "reach", "written", "direction", "times", "broken", "part"] ["self", "kind", "parts", "size", "reach", "written", "direction", "times"] (defScope s_Chain__init__) := ⟨rfl, rfl, rfl, by decide +kernel, rfl, by decide +kernel, by decide +kernel⟩
abbrev s_Chain__call__ : Stmt := inClass (top 25) 1
theorem sc_Chain__call__ : FnScope ["self", "row"] ["self", "row"] (defScope s_Chain__call__) := ⟨rfl, rfl, rfl, by decide +kernel, rfl, by decide +kernel, by decide +kernel⟩
abbrev s_Chain__eq__ : Stmt := inClass (top 25) 2
theorem sc_Chain__eq__ : FnScope ["self", "other"] ["self", "other"] (defScope s_Chain__eq__) := ⟨rfl, rfl, rfl, by decide +kernel, rfl, by decide +kernel, by decide +kernel⟩
abbrev s_Chain__rshift__ : Stmt := inClass (top 25) 3
theorem sc_Chain__rshift__ : FnScope ["self", "other", "reach"] ["self", "other"] (defScope s_Chain__rshift__) := ⟨rfl, rfl, rfl, by decide +kernel, rfl, by decide +kernel, by decide +kernel⟩
abbrev s_Chain__or__ : Stmt := inClass (top 25) 4
theorem sc_Chain__or__ : FnScope ["self", "other"] ["self", "other"] (defScope s_Chain__or__) := ⟨rfl, rfl, rfl, by decide +kernel, rfl, by decide +kernel, by decide +kernel⟩
abbrev s_Chain__and__ : Stmt := inClass (top 25) 5
theorem sc_Chain__and__ : FnScope ["self", "other"] ["self", "other"] (defScope s_Chain__and__) := ⟨rfl, rfl, rfl, by decide +kernel, rfl, by decide +kernel, by decide +kernel⟩
abbrev s_Chain__invert__ : Stmt := inClass (top 25) 6
theorem sc_Chain__invert__ : FnScope ["self"] ["self"] (defScope s_Chain__invert__) := ⟨rfl, rfl, rfl, by decide +kernel, rfl, by decide +kernel, by decide +kernel⟩
abbrev s_Chain__pow__ : Stmt := inClass (top 25) 7
theorem sc_Chain__pow__ : FnScope ["self", "other"] ["self", "other"] (defScope s_Chain__pow__) := ⟨rfl, rfl, rfl, by decide +kernel, rfl, by decide +kernel, by decide +kernel⟩
abbrev s_Chainrepeated : Stmt := inClass (top 25) 8
theorem sc_Chainrepeated : FnScope ["self", "number", "reach", "direction"] ["self", "number"] (defScope s_Chainrepeated) := ⟨rfl, rfl, rfl, by decide +kernel, rfl, by decide +kernel, by decide +kernel⟩
abbrev s_Chainmirrored : Stmt := inClass (top 25) 9
theorem sc_Chainmirrored : FnScope ["self"] ["self"] (defScope s_Chainmirrored) := ⟨rfl, rfl, rfl, by decide +kernel, rfl, by decide +kernel, by decide +kernel⟩
abbrev s_Chainsweeps : Stmt := inClass (top 25) 10
theorem sc_Chainsweeps : FnScope ["self", "found", "part"] ["self"] (defScope s_Chainsweeps) := ⟨rfl, rfl, rfl, by decide +kernel, rfl, by decide +kernel, by decide +kernel⟩
abbrev s_Sweep__init__ : Stmt := inClass (top 38) 0
theorem sc_Sweep__init__ : FnScope ["self", "weights", "rank", "own", "ends", "way", "wrong", "left", "right", "written"] ["self", "weights", "rank", "own", "ends", "way"] (defScope s_Sweep__init__) := ⟨rfl, rfl, rfl, by decide +kernel, rfl, by decide +kernel, by decide +kernel⟩
abbrev s_Sweep__eq__ : Stmt := inClass (top 38) 1
theorem sc_Sweep__eq__ : FnScope ["self", "other"] ["self", "other"] (defScope s_Sweep__eq__) := ⟨rfl, rfl, rfl, by decide +kernel, rfl, by decide +kernel, by decide +kernel⟩
abbrev s_filtered : Stmt := top 7
theorem sc_filtered : FnScope ["sweep", "row", "left", "right", "end", "cells", "written", "offsets", "place", "near", "values", "offset"] ["sweep", "row"] (defScope s_filtered) := ⟨rfl, rfl, rfl, by decide +kernel, rfl, by decide +kernel, by decide +kernel⟩
abbrev s_counted_offsets : Stmt := top 8
theorem sc_counted_offsets : FnScope ["sweep", "index", "weight", "_"] ["sweep"] (defScope s_counted_offsets) := ⟨rfl, rfl, rfl, by decide +kernel, rfl, by decide +kernel, by decide +kernel⟩
abbrev s_writing_order : Stmt := top 9
theorem sc_writing_order : FnScope ["way", "start", "end"] ["way", "start", "end"] (defScope s_writing_order) := ⟨rfl, rfl, rfl, by decide +kernel, rfl, by decide +kernel, by decide +kernel⟩
abbrev s_is_number : Stmt := top 12
theorem sc_is_number : FnScope ["value"] ["value"] (defScope s_is_number) := ⟨rfl, rfl, rfl, by decide +kernel, rfl, by decide +kernel, by decide +kernel⟩
abbrev s_is_within : Stmt := top 13
theorem sc_is_within : FnScope ["value", "least", "most"] ["value", "least", "most"] (defScope s_is_within) := ⟨rfl, rfl, rfl, by decide +kernel, rfl, by decide +kernel, by decide +kernel⟩
abbrev s_row_fault : Stmt := top 14
theorem sc_row_fault : FnScope ["value", "item"] ["value"] (defScope s_row_fault) := ⟨rfl, rfl, rfl, by decide +kernel, rfl, by decide +kernel, by decide +kernel⟩
abbrev s_has_cells : Stmt := top 15
theorem sc_has_cells : FnScope ["value"] ["value"] (defScope s_has_cells) := ⟨rfl, rfl, rfl, by decide +kernel, rfl, by decide +kernel, by decide +kernel⟩
abbrev s_first_false : Stmt := top 16
theorem sc_first_false : FnScope ["flags", "index", "flag"] ["flags"] (defScope s_first_false) := ⟨rfl, rfl, rfl, by decide +kernel, rfl, by decide +kernel, by decide +kernel⟩
abbrev s_row_of : Stmt := top 17
theorem sc_row_of : FnScope ["value", "fault"] ["value"] (defScope s_row_of) := ⟨rfl, rfl, rfl, by decide +kernel, rfl, by decide +kernel, by decide +kernel⟩
abbrev s_pair : Stmt := top 26
theorem sc_pair : FnScope ["kind", "first", "second", "reach"] ["kind", "first", "second", "reach"] (defScope s_pair) := ⟨rfl, rfl, rfl, by decide +kernel, rfl, by decide +kernel, by decide +kernel⟩
abbrev s_greater_reach : Stmt := top 27
theorem sc_greater_reach : FnScope ["first", "second"] ["first", "second"] (defScope s_greater_reach) := ⟨rfl, rfl, rfl, by decide +kernel, rfl, by decide +kernel, by decide +kernel⟩
abbrev s_joint_direction : Stmt := top 28
theorem sc_joint_direction : FnScope ["first", "second"] ["first", "second"] (defScope s_joint_direction) := ⟨rfl, rfl, rfl, by decide +kernel, rfl, by decide +kernel, by decide +kernel⟩
abbrev s_broken_limit : Stmt := top 29
theorem sc_broken_limit : FnScope ["chain"] ["chain"] (defScope s_broken_limit) := ⟨rfl, rfl, rfl, by decide +kernel, rfl, by decide +kernel, by decide +kernel⟩
abbrev s_made : Stmt := top 30
theorem sc_made : FnScope ["chain", "row", "step", "first", "_", "second"] ["chain", "row", "step"] (defScope s_made) := ⟨rfl, rfl, rfl, by decide +kernel, rfl, by decide +kernel, by decide +kernel⟩
abbrev s_negated : Stmt := top 31
theorem sc_negated : FnScope ["row", "cell"] ["row"] (defScope s_negated) := ⟨rfl, rfl, rfl, by decide +kernel, rfl, by decide +kernel, by decide +kernel⟩
abbrev s_chosen : Stmt := top 32
theorem sc_chosen : FnScope ["kind", "row", "other", "a", "b"] ["kind", "row", "other"] (defScope s_chosen) := ⟨rfl, rfl, rfl, by decide +kernel, rfl, by decide +kernel, by decide +kernel⟩
abbrev s_wrong_part : Stmt := top 39
theorem sc_wrong_part : FnScope ["weights", "rank", "own", "ends", "way"] ["weights", "rank", "own", "ends", "way"] (defScope s_wrong_part) := ⟨rfl, rfl, rfl, by decide +kernel, rfl, by decide +kernel, by decide +kernel⟩
abbrev s_are_weights : Stmt := top 40
theorem sc_are_weights : FnScope ["value", "weight"] ["value"] (defScope s_are_weights) := ⟨rfl, rfl, rfl, by decide +kernel, rfl, by decide +kernel, by decide +kernel⟩
abbrev s_reach_of : Stmt := top 41
theorem sc_reach_of : FnScope ["weights", "own", "counting", "index", "weight"] ["weights", "own"] (defScope s_reach_of) := ⟨rfl, rfl, rfl, by decide +kernel, rfl, by decide +kernel, by decide +kernel⟩
abbrev s__law_mix : Stmt := top 43
theorem sc__law_mix : FnScope ["_law_number", "_law_k"] ["_law_number", "_law_k"] (defScope s__law_mix) := ⟨rfl, rfl, rfl, by decide +kernel, rfl, by decide +kernel, by decide +kernel⟩
abbrev s__law_pool : Stmt := top 44
theorem sc__law_pool : FnScope ["_law_script", "_law_cell"] ["_law_script"] (defScope s__law_pool) := ⟨rfl, rfl, rfl, by decide +kernel, rfl, by decide +kernel, by decide +kernel⟩
abbrev s__law_draw : Stmt := top 45
theorem sc__law_draw : FnScope ["_law_pool_here", "_law_limit", "_law_cells", "_law_cell", "_law_digit"] ["_law_pool_here", "_law_limit"] (defScope s__law_draw) := ⟨rfl, rfl, rfl, by decide +kernel, rfl, by decide +kernel, by decide +kernel⟩
abbrev s__law_sweep : Stmt := top 46
theorem sc__law_sweep : FnScope ["_law_pool_here", "_law_most", "_law_menu", "_law_counts", "_law_place", "_law_mine", "_law_number", "_law_bounds", "_law_bound", "_law_k"] ["_law_pool_here", "_law_most", "_law_menu"] (defScope s__law_sweep) := ⟨rfl, rfl, rfl, by decide +kernel, rfl, by decide +kernel, by decide +kernel⟩
abbrev s__law_mixed : Stmt := top 47
theorem sc__law_mixed : FnScope ["_law_one", "_law_other"] ["_law_one", "_law_other"] (defScope s__law_mixed) := ⟨rfl, rfl, rfl, by decide +kernel, rfl, by decide +kernel, by decide +kernel⟩
abbrev s__law_measure : Stmt := top 48
theorem sc__law_measure : FnScope ["_law_tree_here", "_law_k", "_law_used", "_law_left", "_law_right", "_law_one", "_law_going", "_law_other", "_law_depth", "_law_sides"] ["_law_tree_here"] (defScope s__law_measure) := ⟨rfl, rfl, rfl, by decide +kernel, rfl, by decide +kernel, by decide +kernel⟩
abbrev s__law_fits : Stmt := top 49
theorem sc__law_fits : FnScope ["_law_tree_here", "_law_reach", "_law_written", "_law_sizes"] ["_law_tree_here", "_law_reach", "_law_written"] (defScope s__law_fits) := ⟨rfl, rfl, rfl, by decide +kernel, rfl, by decide +kernel, by decide +kernel⟩
abbrev s__law_grown : Stmt := top 50
theorem sc__law_grown : FnScope ["_law_pool_here", "_law_tree_here", "_law_most", "_law_menu", "_law_kind", "_law_kinds", "_law_other"] ["_law_pool_here", "_law_tree_here", "_law_most", "_law_menu"] (defScope s__law_grown) := ⟨rfl, rfl, rfl, by decide +kernel, rfl, by decide +kernel, by decide +kernel⟩
abbrev s__law_tree : Stmt := top 51
theorem sc__law_tree : FnScope ["_law_pool_here", "_law_rounds", "_law_most", "_law_reach", "_law_written", "_law_menu", "_law_tree_here", "_law_k", "_law_grown_here"] ["_law_pool_here", "_law_rounds", "_law_most", "_law_reach", "_law_written", "_law_menu"] (defScope s__law_tree) := ⟨rfl, rfl, rfl, by decide +kernel, rfl, by decide +kernel, by decide +kernel⟩
abbrev s__law_make : Stmt := top 52
theorem sc__law_make : FnScope ["_law_tree_here", "_law_one", "_law_other"] ["_law_tree_here"] (defScope s__law_make) := ⟨rfl, rfl, rfl, by decide +kernel, rfl, by decide +kernel, by decide +kernel⟩
abbrev s__law_leaves : Stmt := top 53
theorem sc__law_leaves : FnScope ["_law_tree_here"] ["_law_tree_here"] (defScope s__law_leaves) := ⟨rfl, rfl, rfl, by decide +kernel, rfl, by decide +kernel, by decide +kernel⟩
abbrev s__law_all_fit : Stmt := top 54
theorem sc__law_all_fit : FnScope ["_law_tree_here"] ["_law_tree_here"] (defScope s__law_all_fit) := ⟨rfl, rfl, rfl, by decide +kernel, rfl, by decide +kernel, by decide +kernel⟩
abbrev s__law_changed : Stmt := top 55
theorem sc__law_changed : FnScope ["_law_pool_here", "_law_tree_here", "_law_kind"] ["_law_pool_here", "_law_tree_here"] (defScope s__law_changed) := ⟨rfl, rfl, rfl, by decide +kernel, rfl, by decide +kernel, by decide +kernel⟩
abbrev s__law_power : Stmt := top 56
theorem sc__law_power : FnScope ["_law_chain", "_law_wide", "_law_found", "e"] ["_law_chain", "_law_wide"] (defScope s__law_power) := ⟨rfl, rfl, rfl, by decide +kernel, rfl, by decide +kernel, by decide +kernel⟩
abbrev s__law_listed : Stmt := top 57
theorem sc__law_listed : FnScope ["_law_chain", "_law_tree_here", "_law_leaves_here", "_law_found", "_law_k"] ["_law_chain", "_law_tree_here"] (defScope s__law_listed) := ⟨rfl, rfl, rfl, by decide +kernel, rfl, by decide +kernel, by decide +kernel⟩
abbrev s_law : Stmt := top 58
theorem sc_law : FnScope ["_law_script", "_law_pool_here", "_law_menus", "_law_menu", "_law_kind", "_law_rounds", "_law_tree_here", "_law_other", "_law_one", "_law_two", "_law_same", "_law_twice"] ["_law_script"] (defScope s_law) := ⟨rfl, rfl, rfl, by decide +kernel, rfl, by decide +kernel, by decide +kernel⟩
/-- where things stand -/
structure Ad where
  c_SweepError : Addr
  c_NoRow : Addr
  a_NoRow__init__ : Addr
  d_NoRow__init__ : FuncData
  c_NoSweep : Addr
  a_NoSweep__init__ : Addr
  d_NoSweep__init__ : FuncData
  c_NoNumber : Addr
  a_NoNumber__init__ : Addr
  d_NoNumber__init__ : FuncData
  c_TooLarge : Addr
  a_TooLarge__init__ : Addr
  d_TooLarge__init__ : FuncData
  c_Chain : Addr
  a_Chain__init__ : Addr
  d_Chain__init__ : FuncData
  a_Chain__call__ : Addr
  d_Chain__call__ : FuncData
  a_Chain__eq__ : Addr
  d_Chain__eq__ : FuncData
  a_Chain__rshift__ : Addr
  d_Chain__rshift__ : FuncData
  a_Chain__or__ : Addr
  d_Chain__or__ : FuncData
  a_Chain__and__ : Addr
  d_Chain__and__ : FuncData
  a_Chain__invert__ : Addr
  d_Chain__invert__ : FuncData
  a_Chain__pow__ : Addr
  d_Chain__pow__ : FuncData
  a_Chainrepeated : Addr
  d_Chainrepeated : FuncData
  a_Chainmirrored : Addr
  d_Chainmirrored : FuncData
  a_Chainsweeps : Addr
  d_Chainsweeps : FuncData
  c_Sweep : Addr
  a_Sweep__init__ : Addr
  d_Sweep__init__ : FuncData
  a_Sweep__eq__ : Addr
  d_Sweep__eq__ : FuncData
  a_filtered : Addr
  d_filtered : FuncData
  a_counted_offsets : Addr
  d_counted_offsets : FuncData
  a_writing_order : Addr
  d_writing_order : FuncData
  a_is_number : Addr
  d_is_number : FuncData
  a_is_within : Addr
  d_is_within : FuncData
  a_row_fault : Addr
  d_row_fault : FuncData
  a_has_cells : Addr
  d_has_cells : FuncData
  a_first_false : Addr
  d_first_false : FuncData
  a_row_of : Addr
  d_row_of : FuncData
  a_pair : Addr
  d_pair : FuncData
  a_greater_reach : Addr
  d_greater_reach : FuncData
  a_joint_direction : Addr
  d_joint_direction : FuncData
  a_broken_limit : Addr
  d_broken_limit : FuncData
  a_made : Addr
  d_made : FuncData
  a_negated : Addr
  d_negated : FuncData
  a_chosen : Addr
  d_chosen : FuncData
  a_wrong_part : Addr
  d_wrong_part : FuncData
  a_are_weights : Addr
  d_are_weights : FuncData
  a_reach_of : Addr
  d_reach_of : FuncData
  a__law_mix : Addr
  d__law_mix : FuncData
  a__law_pool : Addr
  d__law_pool : FuncData
  a__law_draw : Addr
  d__law_draw : FuncData
  a__law_sweep : Addr
  d__law_sweep : FuncData
  a__law_mixed : Addr
  d__law_mixed : FuncData
  a__law_measure : Addr
  d__law_measure : FuncData
  a__law_fits : Addr
  d__law_fits : FuncData
  a__law_grown : Addr
  d__law_grown : FuncData
  a__law_tree : Addr
  d__law_tree : FuncData
  a__law_make : Addr
  d__law_make : FuncData
  a__law_leaves : Addr
  d__law_leaves : FuncData
  a__law_all_fit : Addr
  d__law_all_fit : FuncData
  a__law_changed : Addr
  d__law_changed : FuncData
  a__law_power : Addr
  d__law_power : FuncData
  a__law_listed : Addr
  d__law_listed : FuncData
  a_law : Addr
  d_law : FuncData
  k_MIRRORED_DIRECTION : Addr
  k_ENDS : Addr
  k_WAYS : Addr
/-- what the top has written -/
structure Txt (w : World) (K : PySem.W.Frag) (mg : Str → Option Value) (D : Ad) : Prop where
  g_SweepError : mg "SweepError" = some (.ref D.c_SweepError)
  kv_SweepError : PySem.W.kitOne K (.ref D.c_SweepError) (.type "ValueError") = some true
  x_SweepError : OexC K D.c_SweepError
  e_SweepError : ExcC K D.c_SweepError
  f_SweepError : XfC K D.c_SweepError
  k_SweepError_SweepError : PySem.W.kitOne K (.ref D.c_SweepError) (.ref D.c_SweepError) = some true
  m_SweepError_SweepError : PySem.W.exmOne K (.ref D.c_SweepError) (.ref D.c_SweepError) = some true
  k_SweepError_NoRow : PySem.W.kitOne K (.ref D.c_SweepError) (.ref D.c_NoRow) = some false
  m_SweepError_NoRow : PySem.W.exmOne K (.ref D.c_SweepError) (.ref D.c_NoRow) = some false
  k_SweepError_NoSweep : PySem.W.kitOne K (.ref D.c_SweepError) (.ref D.c_NoSweep) = some false
  m_SweepError_NoSweep : PySem.W.exmOne K (.ref D.c_SweepError) (.ref D.c_NoSweep) = some false
  k_SweepError_NoNumber : PySem.W.kitOne K (.ref D.c_SweepError) (.ref D.c_NoNumber) = some false
  m_SweepError_NoNumber : PySem.W.exmOne K (.ref D.c_SweepError) (.ref D.c_NoNumber) = some false
  k_SweepError_TooLarge : PySem.W.kitOne K (.ref D.c_SweepError) (.ref D.c_TooLarge) = some false
  m_SweepError_TooLarge : PySem.W.exmOne K (.ref D.c_SweepError) (.ref D.c_TooLarge) = some false
  g_NoRow : mg "NoRow" = some (.ref D.c_NoRow)
  kv_NoRow : PySem.W.kitOne K (.ref D.c_NoRow) (.type "ValueError") = some true
  x_NoRow : OexC K D.c_NoRow
  e_NoRow : ExcC K D.c_NoRow
  f_NoRow : XfC K D.c_NoRow
  k_NoRow_SweepError : PySem.W.kitOne K (.ref D.c_NoRow) (.ref D.c_SweepError) = some true
  m_NoRow_SweepError : PySem.W.exmOne K (.ref D.c_NoRow) (.ref D.c_SweepError) = some true
  k_NoRow_NoRow : PySem.W.kitOne K (.ref D.c_NoRow) (.ref D.c_NoRow) = some true
  m_NoRow_NoRow : PySem.W.exmOne K (.ref D.c_NoRow) (.ref D.c_NoRow) = some true
  k_NoRow_NoSweep : PySem.W.kitOne K (.ref D.c_NoRow) (.ref D.c_NoSweep) = some false
  m_NoRow_NoSweep : PySem.W.exmOne K (.ref D.c_NoRow) (.ref D.c_NoSweep) = some false
  k_NoRow_NoNumber : PySem.W.kitOne K (.ref D.c_NoRow) (.ref D.c_NoNumber) = some false
  m_NoRow_NoNumber : PySem.W.exmOne K (.ref D.c_NoRow) (.ref D.c_NoNumber) = some false
  k_NoRow_TooLarge : PySem.W.kitOne K (.ref D.c_NoRow) (.ref D.c_TooLarge) = some false
  m_NoRow_TooLarge : PySem.W.exmOne K (.ref D.c_NoRow) (.ref D.c_TooLarge) = some false
  F_NoRow__init__ : Fun K "__init__" "NoRow.__init__" s_NoRow__init__ D.a_NoRow__init__ D.d_NoRow__init__
  b_NoRow__init__ : Binds K D.d_NoRow__init__ ["self", "index"] []
  i_NoRow__init__ : PySem.W.findIn K (.ref D.c_NoRow) "__init__" = some (some (.ref D.a_NoRow__init__))
  t_NoRow__init__ : PySem.W.typeIn K (.ref D.a_NoRow__init__) = some (.type "function")
  no_NoRow_index : PySem.W.findIn K (.ref D.c_NoRow) "index" = some none
  g_NoSweep : mg "NoSweep" = some (.ref D.c_NoSweep)
  kv_NoSweep : PySem.W.kitOne K (.ref D.c_NoSweep) (.type "ValueError") = some true
  x_NoSweep : OexC K D.c_NoSweep
  e_NoSweep : ExcC K D.c_NoSweep
  f_NoSweep : XfC K D.c_NoSweep
  k_NoSweep_SweepError : PySem.W.kitOne K (.ref D.c_NoSweep) (.ref D.c_SweepError) = some true
  m_NoSweep_SweepError : PySem.W.exmOne K (.ref D.c_NoSweep) (.ref D.c_SweepError) = some true
  k_NoSweep_NoRow : PySem.W.kitOne K (.ref D.c_NoSweep) (.ref D.c_NoRow) = some false
  m_NoSweep_NoRow : PySem.W.exmOne K (.ref D.c_NoSweep) (.ref D.c_NoRow) = some false
  k_NoSweep_NoSweep : PySem.W.kitOne K (.ref D.c_NoSweep) (.ref D.c_NoSweep) = some true
  m_NoSweep_NoSweep : PySem.W.exmOne K (.ref D.c_NoSweep) (.ref D.c_NoSweep) = some true
  k_NoSweep_NoNumber : PySem.W.kitOne K (.ref D.c_NoSweep) (.ref D.c_NoNumber) = some false
  m_NoSweep_NoNumber : PySem.W.exmOne K (.ref D.c_NoSweep) (.ref D.c_NoNumber) = some false
  k_NoSweep_TooLarge : PySem.W.kitOne K (.ref D.c_NoSweep) (.ref D.c_TooLarge) = some false
  m_NoSweep_TooLarge : PySem.W.exmOne K (.ref D.c_NoSweep) (.ref D.c_TooLarge) = some false
  F_NoSweep__init__ : Fun K "__init__" "NoSweep.__init__" s_NoSweep__init__ D.a_NoSweep__init__ D.d_NoSweep__init__
  b_NoSweep__init__ : Binds K D.d_NoSweep__init__ ["self", "part"] []
  i_NoSweep__init__ : PySem.W.findIn K (.ref D.c_NoSweep) "__init__" = some (some (.ref D.a_NoSweep__init__))
  t_NoSweep__init__ : PySem.W.typeIn K (.ref D.a_NoSweep__init__) = some (.type "function")
  no_NoSweep_part : PySem.W.findIn K (.ref D.c_NoSweep) "part" = some none
  g_NoNumber : mg "NoNumber" = some (.ref D.c_NoNumber)
  kv_NoNumber : PySem.W.kitOne K (.ref D.c_NoNumber) (.type "ValueError") = some true
  x_NoNumber : OexC K D.c_NoNumber
  e_NoNumber : ExcC K D.c_NoNumber
  f_NoNumber : XfC K D.c_NoNumber
  k_NoNumber_SweepError : PySem.W.kitOne K (.ref D.c_NoNumber) (.ref D.c_SweepError) = some true
  m_NoNumber_SweepError : PySem.W.exmOne K (.ref D.c_NoNumber) (.ref D.c_SweepError) = some true
  k_NoNumber_NoRow : PySem.W.kitOne K (.ref D.c_NoNumber) (.ref D.c_NoRow) = some false
  m_NoNumber_NoRow : PySem.W.exmOne K (.ref D.c_NoNumber) (.ref D.c_NoRow) = some false
  k_NoNumber_NoSweep : PySem.W.kitOne K (.ref D.c_NoNumber) (.ref D.c_NoSweep) = some false
  m_NoNumber_NoSweep : PySem.W.exmOne K (.ref D.c_NoNumber) (.ref D.c_NoSweep) = some false
  k_NoNumber_NoNumber : PySem.W.kitOne K (.ref D.c_NoNumber) (.ref D.c_NoNumber) = some true
  m_NoNumber_NoNumber : PySem.W.exmOne K (.ref D.c_NoNumber) (.ref D.c_NoNumber) = some true
  k_NoNumber_TooLarge : PySem.W.kitOne K (.ref D.c_NoNumber) (.ref D.c_TooLarge) = some false
  m_NoNumber_TooLarge : PySem.W.exmOne K (.ref D.c_NoNumber) (.ref D.c_TooLarge) = some false
  F_NoNumber__init__ : Fun K "__init__" "NoNumber.__init__" s_NoNumber__init__ D.a_NoNumber__init__ D.d_NoNumber__init__
  b_NoNumber__init__ : Binds K D.d_NoNumber__init__ ["self", "name"] []
  i_NoNumber__init__ : PySem.W.findIn K (.ref D.c_NoNumber) "__init__" = some (some (.ref D.a_NoNumber__init__))
  t_NoNumber__init__ : PySem.W.typeIn K (.ref D.a_NoNumber__init__) = some (.type "function")
  no_NoNumber_name : PySem.W.findIn K (.ref D.c_NoNumber) "name" = some none
  g_TooLarge : mg "TooLarge" = some (.ref D.c_TooLarge)
  kv_TooLarge : PySem.W.kitOne K (.ref D.c_TooLarge) (.type "ValueError") = some true
  x_TooLarge : OexC K D.c_TooLarge
  e_TooLarge : ExcC K D.c_TooLarge
  f_TooLarge : XfC K D.c_TooLarge
  k_TooLarge_SweepError : PySem.W.kitOne K (.ref D.c_TooLarge) (.ref D.c_SweepError) = some true
  m_TooLarge_SweepError : PySem.W.exmOne K (.ref D.c_TooLarge) (.ref D.c_SweepError) = some true
  k_TooLarge_NoRow : PySem.W.kitOne K (.ref D.c_TooLarge) (.ref D.c_NoRow) = some false
  m_TooLarge_NoRow : PySem.W.exmOne K (.ref D.c_TooLarge) (.ref D.c_NoRow) = some false
  k_TooLarge_NoSweep : PySem.W.kitOne K (.ref D.c_TooLarge) (.ref D.c_NoSweep) = some false
  m_TooLarge_NoSweep : PySem.W.exmOne K (.ref D.c_TooLarge) (.ref D.c_NoSweep) = some false
  k_TooLarge_NoNumber : PySem.W.kitOne K (.ref D.c_TooLarge) (.ref D.c_NoNumber) = some false
  m_TooLarge_NoNumber : PySem.W.exmOne K (.ref D.c_TooLarge) (.ref D.c_NoNumber) = some false
  k_TooLarge_TooLarge : PySem.W.kitOne K (.ref D.c_TooLarge) (.ref D.c_TooLarge) = some true
  m_TooLarge_TooLarge : PySem.W.exmOne K (.ref D.c_TooLarge) (.ref D.c_TooLarge) = some true
  F_TooLarge__init__ : Fun K "__init__" "TooLarge.__init__" s_TooLarge__init__ D.a_TooLarge__init__ D.d_TooLarge__init__
  b_TooLarge__init__ : Binds K D.d_TooLarge__init__ ["self", "part"] []
  i_TooLarge__init__ : PySem.W.findIn K (.ref D.c_TooLarge) "__init__" = some (some (.ref D.a_TooLarge__init__))
  t_TooLarge__init__ : PySem.W.typeIn K (.ref D.a_TooLarge__init__) = some (.type "function")
  no_TooLarge_part : PySem.W.findIn K (.ref D.c_TooLarge) "part" = some none
  g_Chain : mg "Chain" = some (.ref D.c_Chain)
  cl_Chain : Cls K D.c_Chain
  mk_Chain : Mk K D.c_Chain D.a_Chain__init__
  rd_Chain : CRead K D.c_Chain (.type "type")
  ci_Chain : CVal K D.c_Chain (.type "type") "__init__" (.ref D.a_Chain__init__) (.ref D.a_Chain__init__)
  F_Chain__init__ : FunD K "__init__" "Chain.__init__" (defArgs s_Chain__init__) (defBody s_Chain__init__) (defScope s_Chain__init__) [] [("times", .int 1)] D.a_Chain__init__ D.d_Chain__init__
  F_Chain__call__ : Fun K "__call__" "Chain.__call__" s_Chain__call__ D.a_Chain__call__ D.d_Chain__call__
  b_Chain__call__ : Binds K D.d_Chain__call__ ["self", "row"] []
  F_Chain__eq__ : Fun K "__eq__" "Chain.__eq__" s_Chain__eq__ D.a_Chain__eq__ D.d_Chain__eq__
  b_Chain__eq__ : Binds K D.d_Chain__eq__ ["self", "other"] []
  F_Chain__rshift__ : Fun K "__rshift__" "Chain.__rshift__" s_Chain__rshift__ D.a_Chain__rshift__ D.d_Chain__rshift__
  b_Chain__rshift__ : Binds K D.d_Chain__rshift__ ["self", "other"] []
  F_Chain__or__ : Fun K "__or__" "Chain.__or__" s_Chain__or__ D.a_Chain__or__ D.d_Chain__or__
  b_Chain__or__ : Binds K D.d_Chain__or__ ["self", "other"] []
  F_Chain__and__ : Fun K "__and__" "Chain.__and__" s_Chain__and__ D.a_Chain__and__ D.d_Chain__and__
  b_Chain__and__ : Binds K D.d_Chain__and__ ["self", "other"] []
  F_Chain__invert__ : Fun K "__invert__" "Chain.__invert__" s_Chain__invert__ D.a_Chain__invert__ D.d_Chain__invert__
  b_Chain__invert__ : Binds K D.d_Chain__invert__ ["self"] []
  F_Chain__pow__ : Fun K "__pow__" "Chain.__pow__" s_Chain__pow__ D.a_Chain__pow__ D.d_Chain__pow__
  b_Chain__pow__ : Binds K D.d_Chain__pow__ ["self", "other"] []
  F_Chainrepeated : Fun K "repeated" "Chain.repeated" s_Chainrepeated D.a_Chainrepeated D.d_Chainrepeated
  b_Chainrepeated : Binds K D.d_Chainrepeated ["self", "number"] []
  F_Chainmirrored : Fun K "mirrored" "Chain.mirrored" s_Chainmirrored D.a_Chainmirrored D.d_Chainmirrored
  b_Chainmirrored : Binds K D.d_Chainmirrored ["self"] []
  F_Chainsweeps : Fun K "sweeps" "Chain.sweeps" s_Chainsweeps D.a_Chainsweeps D.d_Chainsweeps
  b_Chainsweeps : Binds K D.d_Chainsweeps ["self"] []
  me_Chain___and__ : Meth K D.c_Chain "__and__" D.a_Chain__and__
  me_Chain___call__ : Meth K D.c_Chain "__call__" D.a_Chain__call__
  me_Chain___eq__ : Meth K D.c_Chain "__eq__" D.a_Chain__eq__
  me_Chain___invert__ : Meth K D.c_Chain "__invert__" D.a_Chain__invert__
  me_Chain___or__ : Meth K D.c_Chain "__or__" D.a_Chain__or__
  me_Chain___pow__ : Meth K D.c_Chain "__pow__" D.a_Chain__pow__
  me_Chain___rshift__ : Meth K D.c_Chain "__rshift__" D.a_Chain__rshift__
  me_Chain_mirrored : Meth K D.c_Chain "mirrored" D.a_Chainmirrored
  me_Chain_repeated : Meth K D.c_Chain "repeated" D.a_Chainrepeated
  me_Chain_sweeps : Meth K D.c_Chain "sweeps" D.a_Chainsweeps
  na_Chain_depth : NoAttr K D.c_Chain "depth"
  na_Chain_direction : NoAttr K D.c_Chain "direction"
  na_Chain_ends : NoAttr K D.c_Chain "ends"
  na_Chain_kind : NoAttr K D.c_Chain "kind"
  na_Chain_own : NoAttr K D.c_Chain "own"
  na_Chain_parts : NoAttr K D.c_Chain "parts"
  na_Chain_rank : NoAttr K D.c_Chain "rank"
  na_Chain_reach : NoAttr K D.c_Chain "reach"
  na_Chain_size : NoAttr K D.c_Chain "size"
  na_Chain_times : NoAttr K D.c_Chain "times"
  na_Chain_way : NoAttr K D.c_Chain "way"
  na_Chain_weights : NoAttr K D.c_Chain "weights"
  na_Chain_written : NoAttr K D.c_Chain "written"
  co_Chain : StX.CallO K D.c_Chain D.a_Chain__call__
  oc_Chain : OwnC K D.c_Chain
  ne_Chain : PySem.W.findIn K (.ref D.c_Chain) "__ne__" = some (some (.builtin "object.__ne__"))
  k_Chain_Chain : PySem.W.kitOne K (.ref D.c_Chain) (.ref D.c_Chain) = some true
  k_Chain_Sweep : PySem.W.kitOne K (.ref D.c_Chain) (.ref D.c_Sweep) = some false
  g_Sweep : mg "Sweep" = some (.ref D.c_Sweep)
  cl_Sweep : Cls K D.c_Sweep
  mk_Sweep : Mk K D.c_Sweep D.a_Sweep__init__
  rd_Sweep : CRead K D.c_Sweep (.type "type")
  ci_Sweep : CVal K D.c_Sweep (.type "type") "__init__" (.ref D.a_Sweep__init__) (.ref D.a_Sweep__init__)
  F_Sweep__init__ : FunD K "__init__" "Sweep.__init__" (defArgs s_Sweep__init__) (defBody s_Sweep__init__) (defScope s_Sweep__init__) [] [("own", .non), ("ends", .str "held"), ("way", .str "all")] D.a_Sweep__init__ D.d_Sweep__init__
  F_Sweep__eq__ : Fun K "__eq__" "Sweep.__eq__" s_Sweep__eq__ D.a_Sweep__eq__ D.d_Sweep__eq__
  b_Sweep__eq__ : Binds K D.d_Sweep__eq__ ["self", "other"] []
  me_Sweep___and__ : Meth K D.c_Sweep "__and__" D.a_Chain__and__
  me_Sweep___call__ : Meth K D.c_Sweep "__call__" D.a_Chain__call__
  me_Sweep___eq__ : Meth K D.c_Sweep "__eq__" D.a_Sweep__eq__
  me_Sweep___invert__ : Meth K D.c_Sweep "__invert__" D.a_Chain__invert__
  me_Sweep___or__ : Meth K D.c_Sweep "__or__" D.a_Chain__or__
  me_Sweep___pow__ : Meth K D.c_Sweep "__pow__" D.a_Chain__pow__
  me_Sweep___rshift__ : Meth K D.c_Sweep "__rshift__" D.a_Chain__rshift__
  me_Sweep_mirrored : Meth K D.c_Sweep "mirrored" D.a_Chainmirrored
  me_Sweep_repeated : Meth K D.c_Sweep "repeated" D.a_Chainrepeated
  me_Sweep_sweeps : Meth K D.c_Sweep "sweeps" D.a_Chainsweeps
  na_Sweep_depth : NoAttr K D.c_Sweep "depth"
  na_Sweep_direction : NoAttr K D.c_Sweep "direction"
  na_Sweep_ends : NoAttr K D.c_Sweep "ends"
  na_Sweep_kind : NoAttr K D.c_Sweep "kind"
  na_Sweep_own : NoAttr K D.c_Sweep "own"
  na_Sweep_parts : NoAttr K D.c_Sweep "parts"
  na_Sweep_rank : NoAttr K D.c_Sweep "rank"
  na_Sweep_reach : NoAttr K D.c_Sweep "reach"
  na_Sweep_size : NoAttr K D.c_Sweep "size"
  na_Sweep_times : NoAttr K D.c_Sweep "times"
  na_Sweep_way : NoAttr K D.c_Sweep "way"
  na_Sweep_weights : NoAttr K D.c_Sweep "weights"
  na_Sweep_written : NoAttr K D.c_Sweep "written"
  co_Sweep : StX.CallO K D.c_Sweep D.a_Chain__call__
  oc_Sweep : OwnC K D.c_Sweep
  ne_Sweep : PySem.W.findIn K (.ref D.c_Sweep) "__ne__" = some (some (.builtin "object.__ne__"))
  k_Sweep_Chain : PySem.W.kitOne K (.ref D.c_Sweep) (.ref D.c_Chain) = some true
  k_Sweep_Sweep : PySem.W.kitOne K (.ref D.c_Sweep) (.ref D.c_Sweep) = some true
  tw_and_Chain_Chain : Two K "and" D.c_Chain D.c_Chain D.a_Chain__and__
  tw_and_Chain_Sweep : Two K "and" D.c_Chain D.c_Sweep D.a_Chain__and__
  tw_and_Sweep_Chain : Two K "and" D.c_Sweep D.c_Chain D.a_Chain__and__
  tw_and_Sweep_Sweep : Two K "and" D.c_Sweep D.c_Sweep D.a_Chain__and__
  tw_or_Chain_Chain : Two K "or" D.c_Chain D.c_Chain D.a_Chain__or__
  tw_or_Chain_Sweep : Two K "or" D.c_Chain D.c_Sweep D.a_Chain__or__
  tw_or_Sweep_Chain : Two K "or" D.c_Sweep D.c_Chain D.a_Chain__or__
  tw_or_Sweep_Sweep : Two K "or" D.c_Sweep D.c_Sweep D.a_Chain__or__
  tw_rshift_Chain_Chain : Two K "rshift" D.c_Chain D.c_Chain D.a_Chain__rshift__
  tw_rshift_Chain_Sweep : Two K "rshift" D.c_Chain D.c_Sweep D.a_Chain__rshift__
  tw_rshift_Sweep_Chain : Two K "rshift" D.c_Sweep D.c_Chain D.a_Chain__rshift__
  tw_rshift_Sweep_Sweep : Two K "rshift" D.c_Sweep D.c_Sweep D.a_Chain__rshift__
  pw_Chain : PowI K D.c_Chain D.a_Chain__pow__
  pw_Sweep : PowI K D.c_Sweep D.a_Chain__pow__
  F_filtered : Fun K "filtered" "filtered" s_filtered D.a_filtered D.d_filtered
  g_filtered : mg "filtered" = some (.ref D.a_filtered)
  b_filtered : Binds K D.d_filtered ["sweep", "row"] []
  F_counted_offsets : Fun K "counted_offsets" "counted_offsets" s_counted_offsets D.a_counted_offsets D.d_counted_offsets
  g_counted_offsets : mg "counted_offsets" = some (.ref D.a_counted_offsets)
  b_counted_offsets : Binds K D.d_counted_offsets ["sweep"] []
  F_writing_order : Fun K "writing_order" "writing_order" s_writing_order D.a_writing_order D.d_writing_order
  g_writing_order : mg "writing_order" = some (.ref D.a_writing_order)
  b_writing_order : Binds K D.d_writing_order ["way", "start", "end"] []
  F_is_number : Fun K "is_number" "is_number" s_is_number D.a_is_number D.d_is_number
  g_is_number : mg "is_number" = some (.ref D.a_is_number)
  b_is_number : Binds K D.d_is_number ["value"] []
  F_is_within : Fun K "is_within" "is_within" s_is_within D.a_is_within D.d_is_within
  g_is_within : mg "is_within" = some (.ref D.a_is_within)
  b_is_within : Binds K D.d_is_within ["value", "least", "most"] []
  F_row_fault : Fun K "row_fault" "row_fault" s_row_fault D.a_row_fault D.d_row_fault
  g_row_fault : mg "row_fault" = some (.ref D.a_row_fault)
  b_row_fault : Binds K D.d_row_fault ["value"] []
  F_has_cells : Fun K "has_cells" "has_cells" s_has_cells D.a_has_cells D.d_has_cells
  g_has_cells : mg "has_cells" = some (.ref D.a_has_cells)
  b_has_cells : Binds K D.d_has_cells ["value"] []
  F_first_false : Fun K "first_false" "first_false" s_first_false D.a_first_false D.d_first_false
  g_first_false : mg "first_false" = some (.ref D.a_first_false)
  b_first_false : Binds K D.d_first_false ["flags"] []
  F_row_of : Fun K "row_of" "row_of" s_row_of D.a_row_of D.d_row_of
  g_row_of : mg "row_of" = some (.ref D.a_row_of)
  b_row_of : Binds K D.d_row_of ["value"] []
  F_pair : Fun K "pair" "pair" s_pair D.a_pair D.d_pair
  g_pair : mg "pair" = some (.ref D.a_pair)
  b_pair : Binds K D.d_pair ["kind", "first", "second", "reach"] []
  F_greater_reach : Fun K "greater_reach" "greater_reach" s_greater_reach D.a_greater_reach D.d_greater_reach
  g_greater_reach : mg "greater_reach" = some (.ref D.a_greater_reach)
  b_greater_reach : Binds K D.d_greater_reach ["first", "second"] []
  F_joint_direction : Fun K "joint_direction" "joint_direction" s_joint_direction D.a_joint_direction D.d_joint_direction
  g_joint_direction : mg "joint_direction" = some (.ref D.a_joint_direction)
  b_joint_direction : Binds K D.d_joint_direction ["first", "second"] []
  F_broken_limit : Fun K "broken_limit" "broken_limit" s_broken_limit D.a_broken_limit D.d_broken_limit
  g_broken_limit : mg "broken_limit" = some (.ref D.a_broken_limit)
  b_broken_limit : Binds K D.d_broken_limit ["chain"] []
  F_made : Fun K "made" "made" s_made D.a_made D.d_made
  g_made : mg "made" = some (.ref D.a_made)
  b_made : Binds K D.d_made ["chain", "row", "step"] []
  F_negated : Fun K "negated" "negated" s_negated D.a_negated D.d_negated
  g_negated : mg "negated" = some (.ref D.a_negated)
  b_negated : Binds K D.d_negated ["row"] []
  F_chosen : Fun K "chosen" "chosen" s_chosen D.a_chosen D.d_chosen
  g_chosen : mg "chosen" = some (.ref D.a_chosen)
  b_chosen : Binds K D.d_chosen ["kind", "row", "other"] []
  F_wrong_part : Fun K "wrong_part" "wrong_part" s_wrong_part D.a_wrong_part D.d_wrong_part
  g_wrong_part : mg "wrong_part" = some (.ref D.a_wrong_part)
  b_wrong_part : Binds K D.d_wrong_part ["weights", "rank", "own", "ends", "way"] []
  F_are_weights : Fun K "are_weights" "are_weights" s_are_weights D.a_are_weights D.d_are_weights
  g_are_weights : mg "are_weights" = some (.ref D.a_are_weights)
  b_are_weights : Binds K D.d_are_weights ["value"] []
  F_reach_of : Fun K "reach_of" "reach_of" s_reach_of D.a_reach_of D.d_reach_of
  g_reach_of : mg "reach_of" = some (.ref D.a_reach_of)
  b_reach_of : Binds K D.d_reach_of ["weights", "own"] []
  F__law_mix : Fun K "_law_mix" "_law_mix" s__law_mix D.a__law_mix D.d__law_mix
  g__law_mix : mg "_law_mix" = some (.ref D.a__law_mix)
  b__law_mix : Binds K D.d__law_mix ["_law_number", "_law_k"] []
  F__law_pool : Fun K "_law_pool" "_law_pool" s__law_pool D.a__law_pool D.d__law_pool
  g__law_pool : mg "_law_pool" = some (.ref D.a__law_pool)
  b__law_pool : Binds K D.d__law_pool ["_law_script"] []
  F__law_draw : Fun K "_law_draw" "_law_draw" s__law_draw D.a__law_draw D.d__law_draw
  g__law_draw : mg "_law_draw" = some (.ref D.a__law_draw)
  b__law_draw : Binds K D.d__law_draw ["_law_pool_here", "_law_limit"] []
  F__law_sweep : Fun K "_law_sweep" "_law_sweep" s__law_sweep D.a__law_sweep D.d__law_sweep
  g__law_sweep : mg "_law_sweep" = some (.ref D.a__law_sweep)
  b__law_sweep : Binds K D.d__law_sweep ["_law_pool_here", "_law_most", "_law_menu"] []
  F__law_mixed : Fun K "_law_mixed" "_law_mixed" s__law_mixed D.a__law_mixed D.d__law_mixed
  g__law_mixed : mg "_law_mixed" = some (.ref D.a__law_mixed)
  b__law_mixed : Binds K D.d__law_mixed ["_law_one", "_law_other"] []
  F__law_measure : Fun K "_law_measure" "_law_measure" s__law_measure D.a__law_measure D.d__law_measure
  g__law_measure : mg "_law_measure" = some (.ref D.a__law_measure)
  b__law_measure : Binds K D.d__law_measure ["_law_tree_here"] []
  F__law_fits : Fun K "_law_fits" "_law_fits" s__law_fits D.a__law_fits D.d__law_fits
  g__law_fits : mg "_law_fits" = some (.ref D.a__law_fits)
  b__law_fits : Binds K D.d__law_fits ["_law_tree_here", "_law_reach", "_law_written"] []
  F__law_grown : Fun K "_law_grown" "_law_grown" s__law_grown D.a__law_grown D.d__law_grown
  g__law_grown : mg "_law_grown" = some (.ref D.a__law_grown)
  b__law_grown : Binds K D.d__law_grown ["_law_pool_here", "_law_tree_here", "_law_most", "_law_menu"] []
  F__law_tree : Fun K "_law_tree" "_law_tree" s__law_tree D.a__law_tree D.d__law_tree
  g__law_tree : mg "_law_tree" = some (.ref D.a__law_tree)
  b__law_tree : Binds K D.d__law_tree ["_law_pool_here", "_law_rounds", "_law_most", "_law_reach", "_law_written", "_law_menu"] []
  F__law_make : Fun K "_law_make" "_law_make" s__law_make D.a__law_make D.d__law_make
  g__law_make : mg "_law_make" = some (.ref D.a__law_make)
  b__law_make : Binds K D.d__law_make ["_law_tree_here"] []
  F__law_leaves : Fun K "_law_leaves" "_law_leaves" s__law_leaves D.a__law_leaves D.d__law_leaves
  g__law_leaves : mg "_law_leaves" = some (.ref D.a__law_leaves)
  b__law_leaves : Binds K D.d__law_leaves ["_law_tree_here"] []
  F__law_all_fit : Fun K "_law_all_fit" "_law_all_fit" s__law_all_fit D.a__law_all_fit D.d__law_all_fit
  g__law_all_fit : mg "_law_all_fit" = some (.ref D.a__law_all_fit)
  b__law_all_fit : Binds K D.d__law_all_fit ["_law_tree_here"] []
  F__law_changed : Fun K "_law_changed" "_law_changed" s__law_changed D.a__law_changed D.d__law_changed
  g__law_changed : mg "_law_changed" = some (.ref D.a__law_changed)
  b__law_changed : Binds K D.d__law_changed ["_law_pool_here", "_law_tree_here"] []
  F__law_power : Fun K "_law_power" "_law_power" s__law_power D.a__law_power D.d__law_power
  g__law_power : mg "_law_power" = some (.ref D.a__law_power)
  b__law_power : Binds K D.d__law_power ["_law_chain", "_law_wide"] []
  F__law_listed : Fun K "_law_listed" "_law_listed" s__law_listed D.a__law_listed D.d__law_listed
  g__law_listed : mg "_law_listed" = some (.ref D.a__law_listed)
  b__law_listed : Binds K D.d__law_listed ["_law_chain", "_law_tree_here"] []
  F_law : Fun K "law" "law" s_law D.a_law D.d_law
  g_law : mg "law" = some (.ref D.a_law)
  b_law : Binds K D.d_law ["_law_script"] []
  c_MOST_CELLS : ∃ t, mg "MOST_CELLS" = some (.int 200 t)
  c_MOST_SIZE : ∃ t, mg "MOST_SIZE" = some (.int 8 t)
  c_MOST_DEPTH : ∃ t, mg "MOST_DEPTH" = some (.int 20 t)
  c_MOST_REACH : ∃ t, mg "MOST_REACH" = some (.int 6 t)
  c_MOST_WRITTEN : ∃ t, mg "MOST_WRITTEN" = some (.int 3 t)
  c_MOST_TIMES : ∃ t, mg "MOST_TIMES" = some (.int 8 t)
  c_MIRRORED_DIRECTION : mg "MIRRORED_DIRECTION" = some (.ref D.k_MIRRORED_DIRECTION)
  d_MIRRORED_DIRECTION_all : KDct K w D.k_MIRRORED_DIRECTION "all" (.str "all")
  d_MIRRORED_DIRECTION_on : KDct K w D.k_MIRRORED_DIRECTION "on" (.str "back")
  d_MIRRORED_DIRECTION_back : KDct K w D.k_MIRRORED_DIRECTION "back" (.str "on")
  c_MOST_WEIGHTS : ∃ t, mg "MOST_WEIGHTS" = some (.int 7 t)
  c_MOST_WEIGHT : ∃ t, mg "MOST_WEIGHT" = some (.int 3 t)
  c_ENDS : mg "ENDS" = some (.ref D.k_ENDS)
  v_ENDS : ∀ H, SqT K H D.k_ENDS [.str "held", .str "cut"]
  c_WAYS : mg "WAYS" = some (.ref D.k_WAYS)
  v_WAYS : ∀ H, SqT K H D.k_WAYS [.str "all", .str "on", .str "back"]
  n_abs : mg "abs" = none
  n_all : mg "all" = none
  n_bool : mg "bool" = none
  n_enumerate : mg "enumerate" = none
  n_int : mg "int" = none
  n_isinstance : mg "isinstance" = none
  n_len : mg "len" = none
  n_list : mg "list" = none
  n_max : mg "max" = none
  n_min : mg "min" = none
  n_range : mg "range" = none
  n_reversed : mg "reversed" = none
  n_sorted : mg "sorted" = none
  n_str : mg "str" = none
  n_sum : mg "sum" = none
  n_tuple : mg "tuple" = none
  n_zip : mg "zip" = none
theorem kb_Chain__init___3_size_reach_written_direction {K : PySem.W.Frag} {mg : Str → Option Value} {D : Ad} {w : World} (T : Txt w K mg D) : ∃ g, KBn K D.d_Chain__init__ ["self", "kind", "parts", "size", "reach", "written", "direction", "times"] 3 ["size", "reach", "written", "direction"] g (fun vs zs => vs ++ (zs ++ [.int 1])) := by
  obtain ⟨mv, h⟩ := T.F_Chain__init__.kbinds0 (ps := ["self", "kind", "parts", "size", "reach", "written", "direction", "times"]) 3 ["size", "reach", "written", "direction"] [("times", .int 1)] (fun us mv ws => us ++ (ws ++ mv)) (by decide) (by decide) (fun r1 r2 r3 => r1.append (r3.append r2)) (fun _ _ _ _ _ _ us mv ws h1 h2 h3 => match us, mv, ws, h1, h2, h3 with | [_, _, _], [_], [_, _, _, _], _, _, _ => ⟨_, _, _, _, _, _, rfl, rfl, rfl⟩)
  exact ⟨_, h⟩
theorem kb_Chain__init___3_size_reach_written_direction_times {K : PySem.W.Frag} {mg : Str → Option Value} {D : Ad} {w : World} (T : Txt w K mg D) : ∃ g, KBn K D.d_Chain__init__ ["self", "kind", "parts", "size", "reach", "written", "direction", "times"] 3 ["size", "reach", "written", "direction", "times"] g (fun vs zs => vs ++ (zs ++ [])) := by
  obtain ⟨mv, h⟩ := T.F_Chain__init__.kbinds0 (ps := ["self", "kind", "parts", "size", "reach", "written", "direction", "times"]) 3 ["size", "reach", "written", "direction", "times"] [] (fun us mv ws => us ++ (ws ++ mv)) (by decide) (by decide) (fun r1 r2 r3 => r1.append (r3.append r2)) (fun _ _ _ _ _ _ us mv ws h1 h2 h3 => match us, mv, ws, h1, h2, h3 with | [_, _, _], [], [_, _, _, _, _], _, _, _ => rfl)
  exact ⟨_, h⟩
theorem kb_Sweep__init___3_own_ends_way {K : PySem.W.Frag} {mg : Str → Option Value} {D : Ad} {w : World} (T : Txt w K mg D) : ∃ g, KBn K D.d_Sweep__init__ ["self", "weights", "rank", "own", "ends", "way"] 3 ["own", "ends", "way"] g (fun vs zs => vs ++ (zs ++ [])) := by
  obtain ⟨mv, h⟩ := T.F_Sweep__init__.kbinds0 (ps := ["self", "weights", "rank", "own", "ends", "way"]) 3 ["own", "ends", "way"] [] (fun us mv ws => us ++ (ws ++ mv)) (by decide) (by decide) (fun r1 r2 r3 => r1.append (r3.append r2)) (fun _ _ _ _ _ _ us mv ws h1 h2 h3 => match us, mv, ws, h1, h2, h3 with | [_, _, _], [], [_, _, _], _, _, _ => rfl)
  exact ⟨_, h⟩
end Rk

namespace Rk
open PySem ClX Own
open L2 hiding Ext
local macro_rules | `(tactic| walk_at "side") => `(tactic| first | exact trivial | (show (0:Int) < _; first | assumption | decide | omega) | exact Or.inl ⟨by decide, by decide⟩ | exact Or.inl ⟨by omega, by omega⟩ | exact Or.inr ⟨by decide, by decide⟩ | exact ⟨by decide, by decide⟩ | exact ⟨by decide, by decide, by decide⟩ | exact ⟨by omega, by omega⟩)
local macro_rules | `(tactic| walk_at "rd") => `(tactic| repeat (with_reducible first | refine r_next ?_ | refine r_ret ?_ | refine r_seq ?_ | refine r_asg ?_ | refine r_drop ?_ | refine r_call ?_ | refine r_cons ?_ | refine r_nil ?_ | refine r_cb ?_ | refine r_op ?_ | refine r_sset ?_ | refine r_var (by with_unfolding_all rfl) ?_ | refine r_c ?_ | refine r_name ?_ | refine r_I0 ?_ | (refine r_I ?_ ?_; focus (with_unfolding_all walk_at "side")) | refine r_un ?_ | refine r_U ?_ | refine r_if ?_ | refine r_ifE ?_ | refine r_test ?_ | refine r_B ?_ | refine r_bl ?_ | refine r_not ?_ | refine r_and ?_ | refine r_or ?_ | refine r_andV ?_ | refine r_orV ?_ | refine r_notV ?_ | refine r_eqI ?_ | refine r_neI ?_ | refine r_tup ?_ | refine r_lst ?_ | refine r_sub ?_ | refine r_intI ?_ | refine r_intB ?_ | refine r_abs ?_ | refine r_max ?_ | refine r_ixL (SqL.of (by assumption)) (by with_unfolding_all rfl) ?_ | refine r_ixT (SqT.of (by assumption)) (by with_unfolding_all rfl) ?_ | refine r_ixQL (by assumption) (by with_unfolding_all rfl) ?_ | refine r_ixQT (by assumption) (by with_unfolding_all rfl) ?_ | refine r_ckw ?_ | refine r_callN ?_ | refine r_makeS ?_ | refine r_make ?_ | refine r_makeK ?_ | refine r_methA ?_ | refine r_pcons ?_ | refine r_pnil ?_ | refine r_dget ?_ | refine r_isN ?_ | refine r_notN ?_ | refine r_fld ?_ | refine r_sfld ?_ | refine r_lenL (SqL.of (by assumption)) ?_ | refine r_lenT (SqT.of (by assumption)) ?_ | refine r_callS ?_ | refine r_cutnx ?_ | refine r_cutrt ?_ | refine r_chain ?_ | refine r_yes ?_ | refine iteT ?_ | refine iteF ?_ | refine iteNF ?_ | refine iteNT ?_ | refine r_truth ?_ | refine r_truI ?_ | refine r_sliceV ?_ | refine r_for ?_ | refine r_rng1 ?_ | (refine r_i1 ?_ ?_; focus (with_unfolding_all walk_at "side"))))
section
variable {P : Program} {w : World} {K : PySem.W.Frag} {mg : Str → Option Value} {base : Heap} {D : Ad}
theorem ok_NoSweep__init__ (T : Txt w K mg D) : FnOk P w K mg base CX0 1 D.a_NoSweep__init__ D.d_NoSweep__init__ ["self", "part"] (spInit1 D.c_NoSweep "part") := by
  refine T.F_NoSweep__init__.ok sc_NoSweep__init__ (fun vs H Q E h => ?_) (fun cdv A outer s H vs Q E hr h => ?_)
  · obtain ⟨a, v, rfl, _⟩ := h
    rfl
  · obtain ⟨a, v, rfl, ha, k⟩ := h
    refine ⟨_, pss_one (ps_ost (pv 0) (pv 1)), ?_⟩
    exact ⟨v, rfl, _, rfl, a, D.c_NoSweep, rfl, T.x_NoSweep, T.no_NoSweep_part, .inl ⟨ha, fun d n ne => k d n ne⟩⟩
theorem ok_TooLarge__init__ (T : Txt w K mg D) : FnOk P w K mg base CX0 1 D.a_TooLarge__init__ D.d_TooLarge__init__ ["self", "part"] (spInit1 D.c_TooLarge "part") := by
  refine T.F_TooLarge__init__.ok sc_TooLarge__init__ (fun vs H Q E h => ?_) (fun cdv A outer s H vs Q E hr h => ?_)
  · obtain ⟨a, v, rfl, _⟩ := h
    rfl
  · obtain ⟨a, v, rfl, ha, k⟩ := h
    refine ⟨_, pss_one (ps_ost (pv 0) (pv 1)), ?_⟩
    exact ⟨v, rfl, _, rfl, a, D.c_TooLarge, rfl, T.x_TooLarge, T.no_TooLarge_part, .inl ⟨ha, fun d n ne => k d n ne⟩⟩
theorem raise_NoSweep {X : Cx} {D : Ad} (T : Txt X.w X.K X.mg D) {e : Expr} {ta : TA} {p pos : Pos} (hr : Room 2 X.A) (ha : PA X [e] ta) (hg : Gl X "NoSweep" := by rfl) (he : starEach (e :: []) X.env = (false, eval e X.env) :: starEach [] X.env := by rfl) :
    PMk X (.Call (.Name "NoSweep" p) [e] [] pos) (tMkO D.c_NoSweep (spInit1 D.c_NoSweep "part") [] ta) :=
  pmk_oex T.x_NoSweep T.i_NoSweep__init__ T.t_NoSweep__init__ (ok_NoSweep__init__ T) hr T.b_NoSweep__init__ .nil pass0 hg T.g_NoSweep ha (by decide) he rfl
theorem raise_TooLarge {X : Cx} {D : Ad} (T : Txt X.w X.K X.mg D) {e : Expr} {ta : TA} {p pos : Pos} (hr : Room 2 X.A) (ha : PA X [e] ta) (hg : Gl X "TooLarge" := by rfl) (he : starEach (e :: []) X.env = (false, eval e X.env) :: starEach [] X.env := by rfl) :
    PMk X (.Call (.Name "TooLarge" p) [e] [] pos) (tMkO D.c_TooLarge (spInit1 D.c_TooLarge "part") [] ta) :=
  pmk_oex T.x_TooLarge T.i_TooLarge__init__ T.t_TooLarge__init__ (ok_TooLarge__init__ T) hr T.b_TooLarge__init__ .nil pass0 hg T.g_TooLarge ha (by decide) he rfl
def spIsNum : Sp := fun vs H Q _ => ∃ v, vs = [v] ∧ Vk H v ∧ Q (.bl (isI v)) H
theorem ok_is_number (T : Txt w K mg D) : FnOk P w K mg base CX0 1 D.a_is_number D.d_is_number ["value"] spIsNum := by
  refine T.F_is_number.ok sc_is_number (fun vs H Q E h => ?_) (fun cdv A outer s H vs Q E hr h => ?_)
  · obtain ⟨v, rfl, _⟩ := h
    rfl
  · obtain ⟨v, rfl, hv, k⟩ := h
    obtain ⟨t, ty, k1, k2, -⟩ := hv.ty (K := K)
    refine ⟨_, (pss_one (ps_ret (pe_and (pe_callB (call_isiC K) (by rfl) T.n_isinstance (by decide +kernel) (pa_cons (pv 0) (pa_cons (pe_bltn (v := .ty "int") (by rfl) T.n_int (by decide +kernel) rfl) pa_nil))) (pe_one (pe_not (pe_callB (call_isiC K) (by rfl) T.n_isinstance (by decide +kernel) (pa_cons (pv 0) (pa_cons (pe_bltn (v := .ty "bool") (by rfl) T.n_bool (by decide +kernel) rfl) pa_nil)))))))), ?_⟩
    refine ⟨v, rfl, v, .ty "int", .type t, .type "int", _, rfl, .ty _, ty, kit_ty k1, _, rfl, ?_⟩
    cases hI : isI v with
    | true =>
      refine iteT ⟨v, rfl, v, .ty "bool", .type t, .type "bool", _, rfl, .ty _, ty, kit_ty k2, _, rfl, ?_⟩
      rw [hI] at k
      have hB : isB v = false := by cases v <;> first | rfl | cases hI
      rw [hB]
      exact k
    | false =>
      rw [hI] at k
      cases hB : isB v with
      | true =>
        refine iteT ⟨v, rfl, v, .ty "bool", .type t, .type "bool", _, rfl, .ty _, ty, kit_ty k2, _, rfl, ?_⟩
        rw [hB]
        exact k
      | false => exact iteF k
def spWithin : Sp := fun vs H Q _ => ∃ v a b, vs = [v, .int a, .int b] ∧ Vk H v ∧ Q (.bl (between v a b)) H
theorem ok_is_within (T : Txt w K mg D) : FnOk P w K mg base CX0 2 D.a_is_within D.d_is_within ["value", "least", "most"] spWithin := by
  refine T.F_is_within.ok sc_is_within (fun vs H Q E h => ?_) (fun cdv A outer s H vs Q E hr h => ?_)
  · obtain ⟨v, a, b, rfl, _⟩ := h
    rfl
  · obtain ⟨v, a, b, rfl, hv, k⟩ := h
    refine ⟨_, (pss_one (ps_ret (pe_and (pe_call (ok_is_number T) (hr.mono (by decide)) (by rfl) T.g_is_number T.F_is_number.kp T.b_is_number .nil pass0 (pa_cons (pv 0) pa_nil)) (pe_one (pe_chain op_le op_le (pv 1) (pv 0) (pv 2)))))), ?_⟩
    refine ⟨v, rfl, v, rfl, hv, _, rfl, ?_⟩
    match v, k with
    | .int z, k =>
      refine iteT ⟨.int a, rfl, .int z, rfl, a, z, rfl, rfl, _, rfl, ?_⟩
      by_cases h1 : a ≤ z
      · rw [if_pos (decide_eq_true h1)]
        refine ⟨.int b, rfl, z, b, rfl, rfl, ?_⟩
        have e : between (.int z) a b = decide (z ≤ b) := by
          show decide (a ≤ z ∧ z ≤ b) = decide (z ≤ b)
          simp [h1]
        rw [e] at k
        exact k
      · rw [if_neg (by simp [h1])]
        have e : between (.int z) a b = false := by
          show decide (a ≤ z ∧ z ≤ b) = false
          simp [h1]
        rw [e] at k
        exact k
    | .bl z, k => exact iteF k
    | .str z, k => exact iteF k
    | .non, k => exact iteF k
    | .ref z, k => exact iteF k
    | .byt z, k => exact iteF k
    | .flt z, k => exact iteF k
    | .ty z, k => exact iteF k
def spAreW : Sp := fun vs H Q _ => ∃ v sh, vs = [v] ∧ Sh H v sh ∧ ∀ H', Ext H H' → Q (.bl (goodW sh)) H'
theorem ok_are_weights (T : Txt w K mg D) : FnOk P w K mg base CX0 3 D.a_are_weights D.d_are_weights ["value"] spAreW := by
  refine T.F_are_weights.ok sc_are_weights (fun vs H Q E h => ?_) (fun cdv A outer s H vs Q E hr h => ?_)
  · obtain ⟨v, sh, rfl, _⟩ := h
    rfl
  · obtain ⟨v, sh, rfl, hv, k⟩ := h
    refine ⟨_, (pss_cons (ps_if (PW.pt (pw_or (pt_not (pt_val (pe_callB (call_isiTC K) (by rfl) T.n_isinstance (by decide +kernel) (pa_cons (pv 0) (pa_cons (pe_tup (pa_cons (pe_bltn (v := .ty "list") (by rfl) T.n_list (by decide +kernel) rfl) (pa_cons (pe_bltn (v := .ty "tuple") (by rfl) T.n_tuple (by decide +kernel) rfl) pa_nil))) pa_nil))))) (pw_or1 (pt_not (pt_chain op_le op_le pe_int (pe_callB (call_lenC K) (by rfl) T.n_len (by decide +kernel) (pa_cons (pv 0) pa_nil)) (pe_glob (v := .int 7) rfl T.c_MOST_WEIGHTS.choose_spec ⟨_, rfl⟩))))))
    (pss_one (ps_ret pe_bl))
    pss_nil)
  (pss_one (ps_ret (pe_and (pe_callB (cr_allC K rfl) (by rfl) T.n_all (by decide +kernel) (pa_cons (pe_lc (own := [("weight", 1)]) (g := gName 1) rfl sc_are_weights.nd (pi_seqv 0) (blkOk_by (own := [("weight", 1)]) (N := ["value", "weight"]) (sc := defScope s_are_weights) (by decide +kernel)) (fun _ _ _ _ _ => pg_name (i := 1) sc_are_weights.nd rfl (Or.inl rfl)) (fun _ _ _ _ _ => pts_nil) (fun _ _ _ _ _ => (pe_call (ok_is_within T) (hr.mono (by decide)) (by rfl) T.g_is_within T.F_is_within.kp T.b_is_within .nil pass0 (pa_cons (pv 1) (pa_cons pe_int (pa_cons (pe_glob (v := .int 3) rfl T.c_MOST_WEIGHT.choose_spec ⟨_, rfl⟩) pa_nil)))))) pa_nil)) (pe_one (pe_cmpR op_gt (pe_callB (cr_sumQ K rfl) (by rfl) T.n_sum (by decide +kernel) (pa_cons (pv 0) pa_nil)) pe_int (nomark _))))))), ?_⟩
    walk_at "rd"
    refine r_size (by show 2 ≤ 1000; decide) fun tp htp => ?_
    have e1 : Ext H (upd H tp (.tup [.ty "list", .ty "tuple"])) := Ext.new htp
    walk_at "rd"
    refine r_isiSq (hv.ext e1) upd_same ?_
    walk_at "rd"
    match sh, hv, k with
    | none, hv, k =>
      refine iteT ?_
      walk_at "rd"
      exact k _ e1
    | some xs, hv, k =>
      refine iteF ?_
      obtain ⟨a, rfl, ha, hl, hi⟩ := hv.ext e1
      walk_at "rd"
      refine r_lenQ ha ?_
      walk_at "rd"
      refine iteD (fun h1 => ?_) (fun h1 => ?_)
      · walk_at "rd"
        refine iteND (fun h2 => ?_) (fun h2 => ?_)
        · walk_at "rd"
          have e2 : goodW (some xs) = false := by
            show (decide (1 ≤ xs.length ∧ xs.length ≤ 7) && _) = false
            rw [decide_eq_false (by omega), Bool.false_and]
          rw [e2] at k
          exact k _ e1
        · walk_at "rd"
          refine r_lc (r_seqv rfl ha fun J GG wk hG L hL => lcin_map wk (fun x => V.bl (between x 0 3)) hG (by omega) (fun x => rfl) (fun i x H' hx e Q q => ?_) (fun L H' hL2 e hl' => ?_) hL)
          · walk_at "rd"
            exact ⟨x, 0, 3, rfl, (hi x (List.mem_of_getElem? hx)).ext e, q _ (Ext.refl _)⟩
          · walk_at "rd"
            refine ⟨L, xs.map (fun x => between x 0 3), rfl, SqL.of (by rw [hl', List.map_map]; rfl), ?_⟩
            walk_at "rd"
            have eg : goodW (some xs) = (xs.all (between · 0 3) && decide (0 < sumW xs)) := by
              show (decide (1 ≤ xs.length ∧ xs.length ≤ 7) && _) = _
              rw [decide_eq_true (by omega), Bool.true_and]
            have ea : (xs.map (fun x => between x 0 3)).all id = xs.all (between · 0 3) := by
              rw [List.all_map]
              rfl
            refine iteB (fun hb => ?_) (fun hb => ?_)
            · rw [ea] at hb
              obtain ⟨ns, rfl⟩ := ints_of (xs := xs) fun x hx => by
                obtain ⟨z, rfl, -⟩ := between_int (List.all_eq_true.mp hb x hx)
                rfl
              walk_at "rd"
              refine r_sumQ (ha.ext e) ?_
              walk_at "rd"
              rw [eg, hb, Bool.true_and] at k
              unfold sumW at k
              rw [map_toI] at k
              exact k _ (e1.trans e)
            · rw [ea] at hb
              rw [eg, hb, Bool.false_and] at k
              exact k _ (e1.trans e)
      · walk_at "rd"
        have e2 : goodW (some xs) = false := by
          show (decide (1 ≤ xs.length ∧ xs.length ≤ 7) && _) = false
          rw [decide_eq_false (by omega), Bool.false_and]
        rw [e2] at k
        exact k _ e1
end
end Rk

namespace Rk
open PySem ClX Own
open L2 hiding Ext
local macro_rules | `(tactic| walk_at "side") => `(tactic| first | exact trivial | (show (0:Int) < _; first | assumption | decide | omega) | exact Or.inl ⟨by decide, by decide⟩ | exact Or.inl ⟨by omega, by omega⟩ | exact Or.inr ⟨by decide, by decide⟩ | exact ⟨by decide, by decide⟩ | exact ⟨by decide, by decide, by decide⟩ | exact ⟨by omega, by omega⟩)
local macro_rules | `(tactic| walk_at "rd") => `(tactic| repeat (with_reducible first | refine r_next ?_ | refine r_ret ?_ | refine r_seq ?_ | refine r_asg ?_ | refine r_drop ?_ | refine r_call ?_ | refine r_cons ?_ | refine r_nil ?_ | refine r_cb ?_ | refine r_op ?_ | refine r_sset ?_ | refine r_var (by with_unfolding_all rfl) ?_ | refine r_c ?_ | refine r_name ?_ | refine r_I0 ?_ | (refine r_I ?_ ?_; focus (with_unfolding_all walk_at "side")) | refine r_un ?_ | refine r_U ?_ | refine r_if ?_ | refine r_ifE ?_ | refine r_test ?_ | refine r_B ?_ | refine r_bl ?_ | refine r_not ?_ | refine r_and ?_ | refine r_or ?_ | refine r_andV ?_ | refine r_orV ?_ | refine r_notV ?_ | refine r_eqI ?_ | refine r_neI ?_ | refine r_tup ?_ | refine r_lst ?_ | refine r_sub ?_ | refine r_intI ?_ | refine r_intB ?_ | refine r_abs ?_ | refine r_max ?_ | refine r_ixL (SqL.of (by assumption)) (by with_unfolding_all rfl) ?_ | refine r_ixT (SqT.of (by assumption)) (by with_unfolding_all rfl) ?_ | refine r_ixQL (by assumption) (by with_unfolding_all rfl) ?_ | refine r_ixQT (by assumption) (by with_unfolding_all rfl) ?_ | refine r_ckw ?_ | refine r_callN ?_ | refine r_makeS ?_ | refine r_make ?_ | refine r_makeK ?_ | refine r_methA ?_ | refine r_pcons ?_ | refine r_pnil ?_ | refine r_dget ?_ | refine r_isN ?_ | refine r_notN ?_ | refine r_fld ?_ | refine r_sfld ?_ | refine r_lenL (SqL.of (by assumption)) ?_ | refine r_lenT (SqT.of (by assumption)) ?_ | refine r_callS ?_ | refine r_cutnx ?_ | refine r_cutrt ?_ | refine r_chain ?_ | refine r_yes ?_ | refine iteT ?_ | refine iteF ?_ | refine iteNF ?_ | refine iteNT ?_ | refine r_truth ?_ | refine r_truI ?_ | refine r_sliceV ?_ | refine r_for ?_ | refine r_rng1 ?_ | (refine r_i1 ?_ ?_; focus (with_unfolding_all walk_at "side"))))
section
variable {P : Program} {w : World} {K : PySem.W.Frag} {mg : Str → Option Value} {base : Heap} {D : Ad}
theorem notIn_vk {K : PySem.W.Frag} {H : Hp} {v : V} {p : Addr} {xs : List V} {Q : VK} (h : Vk H v) (hp : SqT K H p xs) (al : xs.all isS = true) (q : Q (.bl (!inV v xs)) H) : rNotInS K v (.ref p) H Q := by
  have fl : xs.all flatV = true := by
    rw [List.all_eq_true] at al ⊢
    intro x hx
    have := al x hx
    cases x <;> first | rfl | cases this
  have no : ∀ a, inV (.ref a) xs = false := by
    intro a
    unfold inV
    rw [List.any_eq_false]
    intro x hx
    have := List.all_eq_true.mp al x hx
    cases x <;> first | (intro z; cases z; done) | (exact absurd this (by decide))
  rcases h with ⟨z, rfl⟩ | ⟨z, rfl⟩ | ⟨z, rfl⟩ | rfl | ⟨a, zs, rfl, h⟩ | ⟨a, zs, rfl, h⟩
  · exact .inl ⟨p, xs, rfl, .inr hp, rfl, fl, q⟩
  · exact .inl ⟨p, xs, rfl, .inr hp, rfl, fl, q⟩
  · exact .inl ⟨p, xs, rfl, .inr hp, rfl, fl, q⟩
  · exact .inl ⟨p, xs, rfl, .inr hp, rfl, fl, q⟩
  · rw [no a] at q
    exact .inr ⟨a, p, zs, xs, rfl, rfl, .inr (SqT.of h), hp, al, q⟩
  · rw [no a] at q
    exact .inr ⟨a, p, zs, xs, rfl, rfl, .inl (SqL.of h), hp, al, q⟩
def spWrong : Sp := fun vs H Q _ => ∃ v sh r o e y, vs = [v, r, o, e, y] ∧ Sh H v sh ∧ Vk H r ∧ Vk H o ∧ Vk H e ∧ Vk H y ∧ ∀ H', Ext H H' → Q (optS (wrongPart sh r o e y)) H'
theorem ok_wrong_part (T : Txt w K mg D) : FnOk P w K mg base CX0 4 D.a_wrong_part D.d_wrong_part ["weights", "rank", "own", "ends", "way"] spWrong := by
  refine T.F_wrong_part.ok sc_wrong_part (fun vs H Q E h => ?_) (fun cdv A outer s H vs Q E hr h => ?_)
  · obtain ⟨v, sh, r, o, e, y, rfl, _⟩ := h
    rfl
  · obtain ⟨v, sh, r, o, e, y, rfl, hv, hr1, ho, he, hy, k⟩ := h
    refine ⟨_, (pss_cons (ps_if (pt_not (pt_val (pe_call (ok_are_weights T) (hr.mono (by decide)) (by rfl) T.g_are_weights T.F_are_weights.kp T.b_are_weights .nil pass0 (pa_cons (pv 0) pa_nil))))
    (pss_one (ps_ret pe_str))
    pss_nil)
  (pss_cons (ps_if (pt_not (pt_val (pe_call (ok_is_within T) (hr.mono (by decide)) (by rfl) T.g_is_within T.F_is_within.kp T.b_is_within .nil pass0 (pa_cons (pv 1) (pa_cons pe_int (pa_cons (pe_callB (cr_sumQ K rfl) (by rfl) T.n_sum (by decide +kernel) (pa_cons (pv 0) pa_nil)) pa_nil))))))
    (pss_one (ps_ret pe_str))
    pss_nil)
  (pss_cons (ps_if (PW.pt (pw_and (pt_cmpR op_notNS (pv 2) pe_non (nomark _)) (pw_and1 (pt_not (pt_val (pe_call (ok_is_within T) (hr.mono (by decide)) (by rfl) T.g_is_within T.F_is_within.kp T.b_is_within .nil pass0 (pa_cons (pv 2) (pa_cons pe_int (pa_cons (pe_op op_sub (pe_callB (call_lenC K) (by rfl) T.n_len (by decide +kernel) (pa_cons (pv 0) pa_nil)) pe_int) pa_nil)))))))))
    (pss_one (ps_ret pe_str))
    pss_nil)
  (pss_cons (ps_if (pt_cmpR (op_notInS K hr.units) (pv 3) (pe_glob (v := .ref D.k_ENDS) rfl T.c_ENDS rfl) (by rfl))
    (pss_one (ps_ret pe_str))
    pss_nil)
  (pss_cons (ps_if (pt_cmpR (op_notInS K hr.units) (pv 4) (pe_glob (v := .ref D.k_WAYS) rfl T.c_WAYS rfl) (by rfl))
    (pss_one (ps_ret pe_str))
    pss_nil)
  (pss_one (ps_ret pe_non))))))), ?_⟩
    walk_at "rd"
    refine ⟨v, sh, rfl, hv, fun H1 e1 => ?_⟩
    walk_at "rd"
    refine iteNB (fun hg => ?_) (fun hg => ?_)
    · walk_at "rd"
      unfold wrongPart at k
      rw [if_pos hg] at k
      exact k _ e1
    obtain ⟨ns, rfl, l1, l2, l3, l4⟩ := goodW_ints hg
    obtain ⟨a, rfl, ha, hl, hi⟩ := hv.ext e1
    have tot : totW (some (ns.map V.int)) = ns.sum := by
      show ((ns.map V.int).map toI).sum = _
      rw [map_toI]
    have len : lenW (some (ns.map V.int)) = (ns.length : Int) := by
      show (((ns.map V.int).length : Nat) : Int) = _
      rw [List.length_map]
    unfold wrongPart at k
    rw [if_neg (by rw [hg]; decide), tot, len] at k
    walk_at "rd"
    refine r_sumQ ha ?_
    walk_at "rd"
    refine ⟨r, 1, ns.sum, rfl, hr1.ext e1, ?_⟩
    walk_at "rd"
    refine iteNB (fun hb => ?_) (fun hb => ?_)
    · walk_at "rd"
      rw [if_pos hb] at k
      exact k _ e1
    rw [if_neg (by rw [hb]; decide)] at k
    walk_at "rd"
    refine iteND (fun ho1 => ?_) (fun ho1 => ?_)
    · walk_at "rd"
      refine r_lenQ ha ?_
      walk_at "rd"
      rw [List.length_map]
      refine ⟨o, 0, _, rfl, ho.ext e1, ?_⟩
      walk_at "rd"
      refine iteNB (fun hb2 => ?_) (fun hb2 => ?_)
      · walk_at "rd"
        rw [if_pos (by rw [decide_eq_false ho1, hb2]; rfl)] at k
        exact k _ e1
      · rw [if_neg (by rw [hb2]; simp)] at k
        walk_at "rd"
        refine notIn_vk (he.ext e1) (T.v_ENDS _) rfl ?_
        walk_at "rd"
        refine iteNB (fun hb3 => ?_) (fun hb3 => ?_)
        · walk_at "rd"
          rw [if_pos (show inV e ENDS = false from hb3)] at k
          exact k _ e1
        rw [if_neg (show ¬ (inV e ENDS = false) by rw [show inV e ENDS = true from hb3]; decide)] at k
        walk_at "rd"
        refine notIn_vk (hy.ext e1) (T.v_WAYS _) rfl ?_
        walk_at "rd"
        refine iteNB (fun hb4 => ?_) (fun hb4 => ?_)
        · walk_at "rd"
          rw [if_pos (show inV y WAYS = false from hb4)] at k
          exact k _ e1
        rw [if_neg (show ¬ (inV y WAYS = false) by rw [show inV y WAYS = true from hb4]; decide)] at k
        walk_at "rd"
        exact k _ e1
    · rw [if_neg (by rw [decide_eq_true ho1]; simp)] at k
      walk_at "rd"
      refine notIn_vk (he.ext e1) (T.v_ENDS _) rfl ?_
      walk_at "rd"
      refine iteNB (fun hb3 => ?_) (fun hb3 => ?_)
      · walk_at "rd"
        rw [if_pos (show inV e ENDS = false from hb3)] at k
        exact k _ e1
      rw [if_neg (show ¬ (inV e ENDS = false) by rw [show inV e ENDS = true from hb3]; decide)] at k
      walk_at "rd"
      refine notIn_vk (hy.ext e1) (T.v_WAYS _) rfl ?_
      walk_at "rd"
      refine iteNB (fun hb4 => ?_) (fun hb4 => ?_)
      · walk_at "rd"
        rw [if_pos (show inV y WAYS = false from hb4)] at k
        exact k _ e1
      rw [if_neg (show ¬ (inV y WAYS = false) by rw [show inV y WAYS = true from hb4]; decide)] at k
      walk_at "rd"
      exact k _ e1
end
end Rk

namespace Rk
open PySem ClX Own
open L2 hiding Ext
local macro_rules | `(tactic| walk_at "side") => `(tactic| first | exact trivial | (show (0:Int) < _; first | assumption | decide | omega) | exact Or.inl ⟨by decide, by decide⟩ | exact Or.inl ⟨by omega, by omega⟩ | exact Or.inr ⟨by decide, by decide⟩ | exact ⟨by decide, by decide⟩ | exact ⟨by decide, by decide, by decide⟩ | exact ⟨by omega, by omega⟩)
local macro_rules | `(tactic| walk_at "rd") => `(tactic| repeat (with_reducible first | refine r_next ?_ | refine r_ret ?_ | refine r_seq ?_ | refine r_asg ?_ | refine r_drop ?_ | refine r_call ?_ | refine r_cons ?_ | refine r_nil ?_ | refine r_cb ?_ | refine r_op ?_ | refine r_sset ?_ | refine r_var (by with_unfolding_all rfl) ?_ | refine r_c ?_ | refine r_name ?_ | refine r_I0 ?_ | (refine r_I ?_ ?_; focus (with_unfolding_all walk_at "side")) | refine r_un ?_ | refine r_U ?_ | refine r_if ?_ | refine r_ifE ?_ | refine r_test ?_ | refine r_B ?_ | refine r_bl ?_ | refine r_not ?_ | refine r_and ?_ | refine r_or ?_ | refine r_andV ?_ | refine r_orV ?_ | refine r_notV ?_ | refine r_eqI ?_ | refine r_neI ?_ | refine r_tup ?_ | refine r_lst ?_ | refine r_sub ?_ | refine r_intI ?_ | refine r_intB ?_ | refine r_abs ?_ | refine r_max ?_ | refine r_ixL (SqL.of (by assumption)) (by with_unfolding_all rfl) ?_ | refine r_ixT (SqT.of (by assumption)) (by with_unfolding_all rfl) ?_ | refine r_ixQL (by assumption) (by with_unfolding_all rfl) ?_ | refine r_ixQT (by assumption) (by with_unfolding_all rfl) ?_ | refine r_ckw ?_ | refine r_callN ?_ | refine r_makeS ?_ | refine r_make ?_ | refine r_makeK ?_ | refine r_methA ?_ | refine r_pcons ?_ | refine r_pnil ?_ | refine r_dget ?_ | refine r_isN ?_ | refine r_notN ?_ | refine r_fld ?_ | refine r_sfld ?_ | refine r_lenL (SqL.of (by assumption)) ?_ | refine r_lenT (SqT.of (by assumption)) ?_ | refine r_callS ?_ | refine r_cutnx ?_ | refine r_cutrt ?_ | refine r_chain ?_ | refine r_yes ?_ | refine iteT ?_ | refine iteF ?_ | refine iteNF ?_ | refine iteNT ?_ | refine r_truth ?_ | refine r_truI ?_ | refine r_sliceV ?_ | refine r_for ?_ | refine r_rng1 ?_ | (refine r_i1 ?_ ?_; focus (with_unfolding_all walk_at "side"))))
section
variable {P : Program} {w : World} {K : PySem.W.Frag} {mg : Str → Option Value} {base : Heap} {D : Ad}
def spReach (K : PySem.W.Frag) : Sp := fun vs H Q _ => ∃ (t : Addr) (ns : List Int) (own : Int), vs = [.ref t, .int own] ∧ H t = some (.tup (ns.map V.int)) ∧ 0 < ns.sum ∧ ns.length ≤ 1000 ∧
  ∀ q H', Ext H H' → H' q = some (.tup [.int (leftOf ns own), .int (rightOf ns own)]) → Q (.ref q) H'
theorem ok_reach_of (T : Txt w K mg D) : FnOk P w K mg base CX0 1 D.a_reach_of D.d_reach_of ["weights", "own"] (spReach K) := by
  refine T.F_reach_of.ok sc_reach_of (fun vs H Q E h => ?_) (fun cdv A outer s H vs Q E hr h => ?_)
  · obtain ⟨t, ns, own, rfl, _⟩ := h
    rfl
  · obtain ⟨t, ns, own, rfl, ht, hp, hl, k⟩ := h
    refine ⟨_, (pss_cons (ps_setLc (i := 2) (own := [("index", 3), ("weight", 4)]) (g := gTup K 2 (gCons (gName 3) (gCons (gName 4) gNil))) rfl sc_reach_of.nd rfl rfl (sw_true rfl rfl rfl (by decide +kernel)) (pi_enumT K (by rfl) T.n_enumerate (pa_cons (pv 0) pa_nil)) (blkOk_by (own := [("index", 3), ("weight", 4)]) (N := ["weights", "own", "counting", "index", "weight"]) (sc := defScope s_reach_of) (by decide +kernel)) (fun _ _ _ _ _ => (pg_tupC K rfl (pgs_cons (pg_name (i := 3) sc_reach_of.nd rfl (Or.inl rfl)) (pgs_cons (pg_name (i := 4) sc_reach_of.nd rfl (Or.inl rfl)) pgs_nil)))) (fun _ _ _ _ _ => (pts_one (pt_cmpR op_gt (pv 4) pe_int (nomark _)))) (fun _ _ _ _ _ => (pv 3)))
  (pss_one (ps_ret (pe_tup (pa_cons (pe_callB (call_maxS rfl) (by rfl) T.n_max (by decide +kernel) (pa_cons pe_int (pa_cons (pe_op op_sub (pv 1) (pe_ix (ix_seqC K) (pv 2) pe_int (fun _ _ => rfl))) pa_nil))) (pa_cons (pe_callB (call_maxS rfl) (by rfl) T.n_max (by decide +kernel) (pa_cons pe_int (pa_cons (pe_op op_sub (pe_ix (ix_seqC K) (pv 2) (pe_un un_neg pe_int) (fun _ _ => rfl)) (pv 1)) pa_nil))) pa_nil)))))), ?_⟩
    walk_at "rd"
    refine r_lc ?_
    refine ⟨_, rfl, t, _, rfl, SqT.of ht, fun L hL => ?_⟩
    refine lc_it (walk_enumT (K := K) (a := t) (xs := ns.map V.int)) (fun i G => Ext H G ∧ G L = some (.lst ((usedN ns i).map V.int))) ⟨Ext.new hL, upd_same⟩ (fun i G _ p => SqT.of (p.1 _ _ ht)) ?_ ?_
    · rintro i x G G' hi ⟨e, hg⟩ ⟨q, x1, x2, rfl, hq, rfl, q1, q2⟩
      cases (Option.some.inj q1)
      have q2 : (ns.map V.int)[i]? = some x2 := q2
      rw [List.length_map] at hi
      rw [List.getElem?_map, List.getElem?_eq_getElem hi] at q2
      cases (Option.some.inj q2)
      refine ⟨q, _, rfl, SqT.of upd_same, rfl, _, _, rfl, _, _, rfl, rfl, ?_⟩
      have e2 := Ext.new (o := .tup [.int (i : Nat), .int ns[i]]) hq
      have hge : ns.getD i 0 = ns[i] := by simp [List.getD, hi]
      refine ⟨rfl, ?_⟩
      walk_at "rd"
      refine iteD (fun h1 => ?_) (fun h1 => ?_)
      · walk_at "rd"
        refine ⟨(usedN ns i).map V.int, e2 _ _ hg, ?_, (e.trans e2).mut hL, ?_⟩
        · rw [List.length_map, sizeLine_eq]
          have := usedN_len ns i
          omega
        · rw [upd_same, usedN_succ, if_pos (by rw [hge]; exact h1), List.map_append]
          rfl
      · refine ⟨e.trans e2, ?_⟩
        rw [usedN_succ, if_neg (by rw [hge]; exact h1), List.append_nil]
        exact e2 _ _ hg
    · rintro G ⟨e, hg⟩
      rw [List.length_map] at hg
      have hg : G L = some (.lst ((used ns).map V.int)) := hg
      have ne := used_ne hp
      walk_at "rd"
      refine r_ixQ (.inl hg) (used_at0 ne) ?_
      walk_at "rd"
      refine r_ixQ (.inl hg) (used_at1 ne) ?_
      walk_at "rd"
      refine r_size (by show 2 ≤ 1000; decide) fun q hq => ?_
      refine k q _ (e.trans (Ext.new hq)) ?_
      rw [upd_same]
      rfl
/-- what a class must have that its objects take the fields of a chain -/
structure Fine (K : PySem.W.Frag) (C : Addr) : Prop where
  cl : Cls K C
  kind : NoAttr K C "kind"
  parts : NoAttr K C "parts"
  times : NoAttr K C "times"
  size : NoAttr K C "size"
  depth : NoAttr K C "depth"
  reach : NoAttr K C "reach"
  written : NoAttr K C "written"
  direction : NoAttr K C "direction"
theorem fine_Sweep (T : Txt w K mg D) : Fine K D.c_Sweep := ⟨T.cl_Sweep, T.na_Sweep_kind, T.na_Sweep_parts, T.na_Sweep_times, T.na_Sweep_size, T.na_Sweep_depth, T.na_Sweep_reach, T.na_Sweep_written, T.na_Sweep_direction⟩
def spBroken (K : PySem.W.Frag) : Sp := fun vs H Q _ => ∃ (a C dx rt : Addr) (fs : List (Str × V)) (size depth l r written : Int) (dir : V), vs = [.ref a] ∧ H a = some (.ins C dx fs) ∧ Fine K C ∧ lk "size" fs = some (.int size) ∧ lk "depth" fs = some (.int depth) ∧
  lk "reach" fs = some (.ref rt) ∧ lk "written" fs = some (.int written) ∧ lk "direction" fs = some dir ∧ H rt = some (.tup [.int l, .int r]) ∧ Q (optS (brokenLimit size depth (l + r) written dir)) H
theorem ok_broken_limit (T : Txt w K mg D) : FnOk P w K mg base CX0 1 D.a_broken_limit D.d_broken_limit ["chain"] (spBroken K) := by
  refine T.F_broken_limit.ok sc_broken_limit (fun vs H Q E h => ?_) (fun cdv A outer s H vs Q E hr h => ?_)
  · obtain ⟨a, C, dx, rt, fs, size, depth, l, r, written, dir, rfl, _⟩ := h
    rfl
  · obtain ⟨a, C, dx, rt, fs, size, depth, l, r, written, dir, rfl, ha, F, f1, f2, f3, f4, f5, hrt, k⟩ := h
    refine ⟨_, (pss_cons (ps_if (pt_cmpR op_gt (pe_fldC K (pv 0)) (pe_glob (v := .int 8) rfl T.c_MOST_SIZE.choose_spec ⟨_, rfl⟩) (nomark _))
    (pss_one (ps_ret pe_str))
    pss_nil)
  (pss_cons (ps_if (pt_cmpR op_gt (pe_fldC K (pv 0)) (pe_glob (v := .int 20) rfl T.c_MOST_DEPTH.choose_spec ⟨_, rfl⟩) (nomark _))
    (pss_one (ps_ret pe_str))
    pss_nil)
  (pss_cons (ps_if (pt_cmpR op_gt (pe_op op_add (pe_ix (ix_seqC K) (pe_fldC K (pv 0)) pe_int (fun _ _ => rfl)) (pe_ix (ix_seqC K) (pe_fldC K (pv 0)) pe_int (fun _ _ => rfl))) (pe_glob (v := .int 6) rfl T.c_MOST_REACH.choose_spec ⟨_, rfl⟩) (nomark _))
    (pss_one (ps_ret pe_str))
    pss_nil)
  (pss_cons (ps_if (pt_cmpR op_gt (pe_fldC K (pv 0)) (pe_glob (v := .int 3) rfl T.c_MOST_WRITTEN.choose_spec ⟨_, rfl⟩) (nomark _))
    (pss_one (ps_ret pe_str))
    pss_nil)
  (pss_cons (ps_if (pt_cmpR op_isNS (pe_fldC K (pv 0)) pe_non (nomark _))
    (pss_one (ps_ret pe_str))
    pss_nil)
  (pss_one (ps_ret pe_non))))))), ?_⟩
    unfold brokenLimit at k
    walk_at "rd"
    refine r_fldV ha F.cl F.size f1 ?_
    walk_at "rd"
    refine iteD (fun h1 => ?_) (fun h1 => ?_)
    · walk_at "rd"
      rw [if_pos h1] at k
      exact k
    rw [if_neg h1] at k
    walk_at "rd"
    refine r_fldV ha F.cl F.depth f2 ?_
    walk_at "rd"
    refine iteD (fun h1 => ?_) (fun h1 => ?_)
    · walk_at "rd"
      rw [if_pos h1] at k
      exact k
    rw [if_neg h1] at k
    walk_at "rd"
    refine r_fldV ha F.cl F.reach f3 ?_
    walk_at "rd"
    refine r_fldV ha F.cl F.reach f3 ?_
    walk_at "rd"
    refine iteD (fun h1 => ?_) (fun h1 => ?_)
    · walk_at "rd"
      rw [if_pos h1] at k
      exact k
    rw [if_neg h1] at k
    walk_at "rd"
    refine r_fldV ha F.cl F.written f4 ?_
    walk_at "rd"
    refine iteD (fun h1 => ?_) (fun h1 => ?_)
    · walk_at "rd"
      rw [if_pos h1] at k
      exact k
    rw [if_neg h1] at k
    walk_at "rd"
    refine r_fldV ha F.cl F.direction f5 ?_
    walk_at "rd"
    refine iteD (fun h1 => ?_) (fun h1 => ?_)
    · walk_at "rd"
      rw [if_pos h1] at k
      exact k
    rw [if_neg h1] at k
    walk_at "rd"
    exact k
end
end Rk

namespace Rk
open PySem ClX Own
open L2 hiding Ext
local macro_rules | `(tactic| walk_at "side") => `(tactic| first | exact trivial | (show (0:Int) < _; first | assumption | decide | omega) | exact Or.inl ⟨by decide, by decide⟩ | exact Or.inl ⟨by omega, by omega⟩ | exact Or.inr ⟨by decide, by decide⟩ | exact ⟨by decide, by decide⟩ | exact ⟨by decide, by decide, by decide⟩ | exact ⟨by omega, by omega⟩)
local macro_rules | `(tactic| walk_at "rd") => `(tactic| repeat (with_reducible first | refine r_next ?_ | refine r_ret ?_ | refine r_seq ?_ | refine r_asg ?_ | refine r_drop ?_ | refine r_call ?_ | refine r_cons ?_ | refine r_nil ?_ | refine r_cb ?_ | refine r_op ?_ | refine r_sset ?_ | refine r_var (by with_unfolding_all rfl) ?_ | refine r_c ?_ | refine r_name ?_ | refine r_I0 ?_ | (refine r_I ?_ ?_; focus (with_unfolding_all walk_at "side")) | refine r_un ?_ | refine r_U ?_ | refine r_if ?_ | refine r_ifE ?_ | refine r_test ?_ | refine r_B ?_ | refine r_bl ?_ | refine r_not ?_ | refine r_and ?_ | refine r_or ?_ | refine r_andV ?_ | refine r_orV ?_ | refine r_notV ?_ | refine r_eqI ?_ | refine r_neI ?_ | refine r_tup ?_ | refine r_lst ?_ | refine r_sub ?_ | refine r_intI ?_ | refine r_intB ?_ | refine r_abs ?_ | refine r_max ?_ | refine r_ixL (SqL.of (by assumption)) (by with_unfolding_all rfl) ?_ | refine r_ixT (SqT.of (by assumption)) (by with_unfolding_all rfl) ?_ | refine r_ixQL (by assumption) (by with_unfolding_all rfl) ?_ | refine r_ixQT (by assumption) (by with_unfolding_all rfl) ?_ | refine r_ckw ?_ | refine r_callN ?_ | refine r_makeS ?_ | refine r_make ?_ | refine r_makeK ?_ | refine r_methA ?_ | refine r_pcons ?_ | refine r_pnil ?_ | refine r_dget ?_ | refine r_isN ?_ | refine r_notN ?_ | refine r_fld ?_ | refine r_sfld ?_ | refine r_lenL (SqL.of (by assumption)) ?_ | refine r_lenT (SqT.of (by assumption)) ?_ | refine r_callS ?_ | refine r_cutnx ?_ | refine r_cutrt ?_ | refine r_chain ?_ | refine r_yes ?_ | refine iteT ?_ | refine iteF ?_ | refine iteNF ?_ | refine iteNT ?_ | refine r_truth ?_ | refine r_truI ?_ | refine r_sliceV ?_ | refine r_for ?_ | refine r_rng1 ?_ | (refine r_i1 ?_ ?_; focus (with_unfolding_all walk_at "side"))))
def CFS : List Str := ["kind", "parts", "times", "size", "depth", "reach", "written", "direction"]
/-- the fields that a chain's making writes -/
def chainFs (kind : Str) (pt : Addr) (times size depth : Int) (rt : Addr) (written : Int) (dir : V) : List (Str × V) :=
  [("kind", .str kind), ("parts", .ref pt), ("times", .int times), ("size", .int size), ("depth", .int depth), ("reach", .ref rt), ("written", .int written), ("direction", dir)]
/-- a part, as a chain sees it: its depth -/
def PartD (K : PySem.W.Frag) (H : Hp) (x : V) (d : Int) : Prop := ∃ (b C dx : Addr) (gs : List (Str × V)), x = .ref b ∧ H b = some (.ins C dx gs) ∧ Fine K C ∧ lk "depth" gs = some (.int d)
def spChainI (K : PySem.W.Frag) (D : Ad) : Sp := fun vs H Q E => ∃ (a C dx pt rt : Addr) (fs : List (Str × V)) (kind : Str) (size l r written times : Int) (dir : V) (ps : List V) (ds : List Int),
  vs = [.ref a, .str kind, .ref pt, .int size, .ref rt, .int written, dir, .int times] ∧ H a = some (.ins C dx fs) ∧ Fine K C ∧ fs.length ≤ 50 ∧ (∀ f ∈ CFS, fs.lookup f = none) ∧ H pt = some (.tup ps) ∧ ps.length = ds.length ∧ ds.length ≤ 1000 ∧
  (∀ (i : Nat) (x : V) (d : Int), ps[i]? = some x → ds[i]? = some d → x ≠ .ref a ∧ PartD K H x d) ∧ H rt = some (.tup [.int l, .int r]) ∧
  (∀ p, brokenLimit size (1 + topD ds) (l + r) written dir = some p → ∀ d H', Ext (wo a H) (wo a H') → H' d = some (.xd [("part", .str p)]) → E (.ref D.c_TooLarge) (some d) H') ∧
  (brokenLimit size (1 + topD ds) (l + r) written dir = none → ∀ H', Ext (wo a H) (wo a H') → H' a = some (.ins C dx (fs ++ chainFs kind pt times size (1 + topD ds) rt written dir)) → Q .non H')
section
variable {P : Program} {w : World} {K : PySem.W.Frag} {mg : Str → Option Value} {base : Heap} {D : Ad}
theorem ok_Chain__init__ (T : Txt w K mg D) : FnOk P w K mg base (L2.CX P w) 3 D.a_Chain__init__ D.d_Chain__init__ ["self", "kind", "parts", "size", "reach", "written", "direction", "times"] (spChainI K D) := by
  refine T.F_Chain__init__.ok sc_Chain__init__ (fun vs H Q E h => ?_) (fun cdv A outer s H vs Q E hr h => ?_)
  · obtain ⟨a, C, dx, pt, rt, fs, kind, size, l, r, written, times, dir, ps, ds, rfl, _⟩ := h
    rfl
  · obtain ⟨a, C, dx, pt, rt, fs, kind, size, l, r, written, times, dir, ps, ds, rfl, ha, F, hz, hno, hpt, hlen, hds, hparts, hrt, kE, kQ⟩ := h
    refine ⟨_, (pss_cons (ps_fldC K (pv 0) (pv 1) rfl)
  (pss_cons (ps_fldC K (pv 0) (pv 2) rfl)
  (pss_cons (ps_fldC K (pv 0) (pv 7) rfl)
  (pss_cons (ps_fldC K (pv 0) (pv 3) rfl)
  (pss_cons (ps_fldC K (pv 0) (pe_op op_add pe_int (pe_callBK (cr_maxD K rfl hr.units) (by rfl) T.n_max (by decide +kernel) (pa_cons (pe_lc (own := [("part", 9)]) (g := gName 9) rfl sc_Chain__init__.nd (pi_seqv 2) (blkOk_by (own := [("part", 9)]) (N := ["self", "kind", "parts", "size", "reach", "written", "direction", "times", "broken", "part"]) (sc := defScope s_Chain__init__) (by decide +kernel)) (fun _ _ _ _ _ => pg_name (i := 9) sc_Chain__init__.nd rfl (Or.inl rfl)) (fun _ _ _ _ _ => pts_nil) (fun _ _ _ _ _ => (pe_callTy call_intS (by rfl) T.n_int (by decide +kernel) (pa_cons (pe_fldC K (pv 9)) pa_nil)))) pa_nil) (pk_cons pe_int pk_nil))) rfl)
  (pss_cons (ps_fldC K (pv 0) (pv 4) rfl)
  (pss_cons (ps_fldC K (pv 0) (pv 5) rfl)
  (pss_cons (ps_fldC K (pv 0) (pv 6) rfl)
  (pss_cons (ps_set (i := 8) sc_Chain__init__.nd rfl (Or.inl rfl) (pe_call (ok_broken_limit T) (hr.mono (by decide)) (by rfl) T.g_broken_limit T.F_broken_limit.kp T.b_broken_limit .nil pass0 (pa_cons (pv 0) pa_nil)))
  (pss_one (ps_if (pt_cmpR op_notNS (pv 8) pe_non (nomark _))
    (pss_one (ps_raise rfl (takes_of rfl rfl rfl rfl) (raise_TooLarge T (hr.mono (by decide)) (pa_cons (pv 8) pa_nil))))
    pss_nil))))))))))), ?_⟩
    have n1 := hno "kind" (by decide +kernel)
    have n2 := hno "parts" (by decide +kernel)
    have n3 := hno "times" (by decide +kernel)
    have n4 := hno "size" (by decide +kernel)
    have n5 := hno "depth" (by decide +kernel)
    have n6 := hno "reach" (by decide +kernel)
    have n7 := hno "written" (by decide +kernel)
    have n8 := hno "direction" (by decide +kernel)
    walk_at "rd"
    refine r_sfldV ha F.cl F.kind (by omega) n1 ?_
    walk_at "rd"
    refine r_sfldA (gs := [_]) F.cl F.parts (by omega) (Nat.le_of_ble_eq_true rfl) n2 (by with_unfolding_all rfl) ?_
    walk_at "rd"
    refine r_sfldA F.cl F.times (by omega) (Nat.le_of_ble_eq_true rfl) n3 (by with_unfolding_all rfl) ?_
    walk_at "rd"
    refine r_sfldA F.cl F.size (by omega) (Nat.le_of_ble_eq_true rfl) n4 (by with_unfolding_all rfl) ?_
    walk_at "rd"
    generalize hG4 : upd H a (.ins C dx (fs ++ ([(("kind" : Str), V.str kind)] ++ [(("parts" : Str), V.ref pt)] ++ [(("times" : Str), V.int times)] ++ [(("size" : Str), V.int size)]))) = G4
    have npt : pt ≠ a := fun z => by rw [z, ha] at hpt; cases hpt
    have nrt : rt ≠ a := fun z => by rw [z, ha] at hrt; cases hrt
    have g4a : G4 a = some (.ins C dx (fs ++ [(("kind" : Str), V.str kind), (("parts" : Str), V.ref pt), (("times" : Str), V.int times), (("size" : Str), V.int size)])) := by rw [← hG4]; exact upd_same
    have e4 : Ext (wo a H) (wo a G4) := by rw [← hG4]; exact wo_upd
    refine r_lc (r_seqv rfl (.inr (wo_some (e4 pt _ (by rw [wo_ne npt]; exact hpt))).2) fun J GG wk hGG L hL => ?_)
    have neL : L ≠ a := fun z => by rw [z, g4a] at hL; cases hL
    refine lc_it wk (fun i G => Ext G4 G ∧ G L = some (.lst ((ds.take i).map V.int))) ⟨Ext.new hL, upd_same⟩ (fun i G _ p => hGG G p.1) ?_ ?_
    · rintro i x G G' hi ⟨e, hg⟩ ⟨rfl, hx⟩
      have hi2 : i < ds.length := by omega
      obtain ⟨nx, b, C2, dx2, gs, rfl, hb, F2, l2⟩ := hparts i x _ hx (List.getElem?_eq_getElem hi2)
      have nb : b ≠ a := fun z => nx (by rw [z])
      refine ⟨rfl, ?_⟩
      walk_at "rd"
      refine r_fldV (e _ _ (wo_some (e4 b _ (by rw [wo_ne nb]; exact hb))).2) F2.cl F2.depth l2 ?_
      walk_at "rd"
      refine ⟨_, hg, by rw [List.length_map, List.length_take, sizeLine_eq]; omega, e.mut hL, ?_⟩
      rw [upd_same, List.take_add_one, List.getElem?_eq_getElem hi2, List.map_append]
      rfl
    · rintro G5 ⟨e, hg⟩
      rw [hlen, List.take_length] at hg
      walk_at "rd"
      have fin : ∀ m : Int, m = topD ds → Q (.int m) G5 → True := fun _ _ _ => trivial
      have g5a := e _ _ g4a
      have e5 : Ext (wo a H) (wo a G5) := e4.trans (wo_ext e)
      have both : ∀ QV : VK, QV (.int (topD ds)) G5 → rMaxD K [.ref L] [.int 0] G5 QV := fun QV q => r_maxD hg (fun z => by rw [z] at q; exact q) (fun y ys z => by rw [z] at q; exact q)
      refine both _ ?_
      walk_at "rd"
      refine r_sfldV g5a F.cl F.depth (by rw [List.length_append]; show fs.length + 4 < 1000; omega) (by rw [lookup_app n5]; with_unfolding_all rfl) ?_
      have m6 : lk "reach" (fs ++ [(("kind" : Str), V.str kind), ("parts", V.ref pt), ("times", V.int times), ("size", V.int size)]) = none := (lookup_app n6).trans (by with_unfolding_all rfl)
      have m7 : lk "written" (fs ++ [(("kind" : Str), V.str kind), ("parts", V.ref pt), ("times", V.int times), ("size", V.int size)]) = none := (lookup_app n7).trans (by with_unfolding_all rfl)
      have m8 : lk "direction" (fs ++ [(("kind" : Str), V.str kind), ("parts", V.ref pt), ("times", V.int times), ("size", V.int size)]) = none := (lookup_app n8).trans (by with_unfolding_all rfl)
      have m5 : lk "depth" (fs ++ [(("kind" : Str), V.str kind), ("parts", V.ref pt), ("times", V.int times), ("size", V.int size)]) = none := (lookup_app n5).trans (by with_unfolding_all rfl)
      have m4 : lk "size" (fs ++ [(("kind" : Str), V.str kind), ("parts", V.ref pt), ("times", V.int times), ("size", V.int size)]) = some (.int size) := (lookup_app n4).trans (by with_unfolding_all rfl)
      have zz : (fs ++ [(("kind" : Str), V.str kind), ("parts", V.ref pt), ("times", V.int times), ("size", V.int size)]).length ≤ 100 := by rw [List.length_append]; show fs.length + 4 ≤ 100; omega
      walk_at "rd"
      refine r_sfldA (gs := [_]) F.cl F.reach zz (Nat.le_of_ble_eq_true rfl) m6 (by with_unfolding_all rfl) ?_
      walk_at "rd"
      refine r_sfldA F.cl F.written zz (Nat.le_of_ble_eq_true rfl) m7 (by with_unfolding_all rfl) ?_
      walk_at "rd"
      refine r_sfldA F.cl F.direction zz (Nat.le_of_ble_eq_true rfl) m8 (by with_unfolding_all rfl) ?_
      walk_at "rd"
      refine ⟨a, C, dx, rt, _, size, 1 + topD ds, l, r, written, dir, rfl, upd_same, F, lookup_appS m4, (lookup_app m5).trans (by with_unfolding_all rfl), (lookup_app m6).trans (by with_unfolding_all rfl), (lookup_app m7).trans (by with_unfolding_all rfl), (lookup_app m8).trans (by with_unfolding_all rfl), ?_, ?_⟩
      · rw [upd_ne nrt]
        exact (wo_some (e5 rt _ (by rw [wo_ne nrt]; exact hrt))).2
      have e6 := e5.trans (wo_upd (p := a) (H := G5) (o := .ins C dx ((fs ++ [(("kind" : Str), V.str kind), ("parts", V.ref pt), ("times", V.int times), ("size", V.int size)]) ++ ([(("depth" : Str), V.int (1 + topD ds))] ++ [(("reach" : Str), V.ref rt)] ++ [(("written" : Str), V.int written)] ++ [(("direction" : Str), dir)]))))
      walk_at "rd"
      rw [optS_non]
      cases hb : brokenLimit size (1 + topD ds) (l + r) written dir with
      | some p =>
        refine iteT (raised1 (fun R R' m ⟨x, e, k⟩ => ⟨x, e, m _ _ k⟩) ?_)
        refine ⟨.str p, rfl, .str p, rfl, fun d hd => ?_⟩
        exact kE p hb d _ (e6.trans (wo_ext (Ext.new hd))) upd_same
      | none =>
        refine iteF ?_
        walk_at "rd"
        refine kQ hb _ e6 ?_
        rw [upd_same, List.append_assoc]
        rfl
end
end Rk

namespace Rk
open PySem ClX Own
open L2 hiding Ext
local macro_rules | `(tactic| walk_at "side") => `(tactic| first | exact trivial | (show (0:Int) < _; first | assumption | decide | omega) | exact Or.inl ⟨by decide, by decide⟩ | exact Or.inl ⟨by omega, by omega⟩ | exact Or.inr ⟨by decide, by decide⟩ | exact ⟨by decide, by decide⟩ | exact ⟨by decide, by decide, by decide⟩ | exact ⟨by omega, by omega⟩)
local macro_rules | `(tactic| walk_at "rd") => `(tactic| repeat (with_reducible first | refine r_next ?_ | refine r_ret ?_ | refine r_seq ?_ | refine r_asg ?_ | refine r_drop ?_ | refine r_call ?_ | refine r_cons ?_ | refine r_nil ?_ | refine r_cb ?_ | refine r_op ?_ | refine r_sset ?_ | refine r_var (by with_unfolding_all rfl) ?_ | refine r_c ?_ | refine r_name ?_ | refine r_I0 ?_ | (refine r_I ?_ ?_; focus (with_unfolding_all walk_at "side")) | refine r_un ?_ | refine r_U ?_ | refine r_if ?_ | refine r_ifE ?_ | refine r_test ?_ | refine r_B ?_ | refine r_bl ?_ | refine r_not ?_ | refine r_and ?_ | refine r_or ?_ | refine r_andV ?_ | refine r_orV ?_ | refine r_notV ?_ | refine r_eqI ?_ | refine r_neI ?_ | refine r_tup ?_ | refine r_lst ?_ | refine r_sub ?_ | refine r_intI ?_ | refine r_intB ?_ | refine r_abs ?_ | refine r_max ?_ | refine r_ixL (SqL.of (by assumption)) (by with_unfolding_all rfl) ?_ | refine r_ixT (SqT.of (by assumption)) (by with_unfolding_all rfl) ?_ | refine r_ixQL (by assumption) (by with_unfolding_all rfl) ?_ | refine r_ixQT (by assumption) (by with_unfolding_all rfl) ?_ | refine r_ckw ?_ | refine r_callN ?_ | refine r_makeS ?_ | refine r_make ?_ | refine r_makeK ?_ | refine r_methA ?_ | refine r_pcons ?_ | refine r_pnil ?_ | refine r_dget ?_ | refine r_isN ?_ | refine r_notN ?_ | refine r_fld ?_ | refine r_sfld ?_ | refine r_lenL (SqL.of (by assumption)) ?_ | refine r_lenT (SqT.of (by assumption)) ?_ | refine r_callS ?_ | refine r_cutnx ?_ | refine r_cutrt ?_ | refine r_chain ?_ | refine r_yes ?_ | refine iteT ?_ | refine iteF ?_ | refine iteNF ?_ | refine iteNT ?_ | refine r_truth ?_ | refine r_truI ?_ | refine r_sliceV ?_ | refine r_for ?_ | refine r_rng1 ?_ | (refine r_i1 ?_ ?_; focus (with_unfolding_all walk_at "side"))))
/-- a sweep as it stands -/
def sweepFs (t : Addr) (k own : Int) (es ys : Str) (pt rt : Addr) (ns : List Int) : List (Str × V) :=
  [("weights", .ref t), ("rank", .int k), ("own", .int own), ("ends", .str es), ("way", .str ys), ("kind", .str "sweep"), ("parts", .ref pt), ("times", .int 1), ("size", .int 1), ("depth", .int 1), ("reach", .ref rt), ("written", .int (writtenOf ns own ys)), ("direction", .str ys)]
def SweepAt (C : Addr) (H : Hp) (a : Addr) (ns : List Int) (k own : Int) (es ys : Str) : Prop := ∃ (dx t pt rt : Addr), H a = some (.ins C dx (sweepFs t k own es ys pt rt ns)) ∧ H t = some (.tup (ns.map V.int)) ∧ H pt = some (.tup []) ∧ H rt = some (.tup [.int (leftOf ns own), .int (rightOf ns own)])
def spSweepI (K : PySem.W.Frag) (D : Ad) : Sp := fun vs H Q E => ∃ (a C dx : Addr) (v r o e y : V) (sh : Option (List V)), vs = [.ref a, v, r, o, e, y] ∧ H a = some (.ins C dx []) ∧ Fine K C ∧ C = D.c_Sweep ∧ Sh H v sh ∧ Vk H r ∧ Vk H o ∧ Vk H e ∧ Vk H y ∧
  (∀ p, wrongPart sh r o e y = some p → ∀ d H', Ext (wo a H) (wo a H') → H' d = some (.xd [("part", .str p)]) → E (.ref D.c_NoSweep) (some d) H') ∧
  (∀ (ns : List Int) (k : Int) (es ys : Str), wrongPart sh r o e y = none → sh = some (ns.map V.int) → r = .int k → e = .str es → y = .str ys →
    (3 < writtenOf ns (ownOf ns o) ys → ∀ d H', Ext (wo a H) (wo a H') → H' d = some (.xd [("part", .str "written")]) → E (.ref D.c_TooLarge) (some d) H') ∧
    (writtenOf ns (ownOf ns o) ys ≤ 3 → ∀ H', Ext (wo a H) (wo a H') → SweepAt C H' a ns k (ownOf ns o) es ys → Q .non H'))
section
variable {P : Program} {w : World} {K : PySem.W.Frag} {mg : Str → Option Value} {base : Heap} {D : Ad}
theorem ok_Sweep__init__ (T : Txt w K mg D) : FnOk P w K mg base (L2.CX P w) 5 D.a_Sweep__init__ D.d_Sweep__init__ ["self", "weights", "rank", "own", "ends", "way"] (spSweepI K D) := by
  refine T.F_Sweep__init__.ok sc_Sweep__init__ (fun vs H Q E h => ?_) (fun cdv A outer s H vs Q E hr h => ?_)
  · obtain ⟨a, C, dx, v, r, o, e, y, sh, rfl, _⟩ := h
    rfl
  · obtain ⟨a, C, dx, v, r, o, e, y, sh, rfl, ha, F, hC, hv, hr1, ho, he, hy, kE, kQ⟩ := h
    refine ⟨_, (pss_cons (ps_set (i := 6) sc_Sweep__init__.nd rfl (Or.inl rfl) (pe_call (ok_wrong_part T) (hr.mono (by decide)) (by rfl) T.g_wrong_part T.F_wrong_part.kp T.b_wrong_part .nil pass0 (pa_cons (pv 1) (pa_cons (pv 2) (pa_cons (pv 3) (pa_cons (pv 4) (pa_cons (pv 5) pa_nil)))))))
  (pss_cons (ps_if (pt_cmpR op_notNS (pv 6) pe_non (nomark _))
    (pss_one (ps_raise rfl (takes_of rfl rfl rfl rfl) (raise_NoSweep T (hr.mono (by decide)) (pa_cons (pv 6) pa_nil))))
    pss_nil)
  (pss_cons (ps_fldC K (pv 0) (pe_callTy (call_tupleC K) (by rfl) T.n_tuple (by decide +kernel) (pa_cons (pv 1) pa_nil)) rfl)
  (pss_cons (ps_fldC K (pv 0) (pv 2) rfl)
  (pss_cons (ps_fldC K (pv 0) (pe_ifExp (pt_cmpR op_isNS (pv 3) pe_non (nomark _)) (pe_op op_fdivW (pe_op op_sub (pe_callB (call_lenC K) (by rfl) T.n_len (by decide +kernel) (pa_cons (pv 1) pa_nil)) pe_int) pe_int) (pv 3)) rfl)
  (pss_cons (ps_fldC K (pv 0) (pv 4) rfl)
  (pss_cons (ps_fldC K (pv 0) (pv 5) rfl)
  (pss_cons (ps_asg (pe_call (ok_reach_of T) (hr.mono (by decide)) (by rfl) T.g_reach_of T.F_reach_of.kp T.b_reach_of .nil pass0 (pa_cons (pe_fldC K (pv 0)) (pa_cons (pe_fldC K (pv 0)) pa_nil))) (pg_tup (by rfl) (pgs_cons (pg_name (i := 7) sc_Sweep__init__.nd rfl (Or.inl rfl)) (pgs_cons (pg_name (i := 8) sc_Sweep__init__.nd rfl (Or.inl rfl)) pgs_nil))))
  (pss_cons (ps_set (i := 9) sc_Sweep__init__.nd rfl (Or.inl rfl) (pe_disp (pps_cons pe_str pe_int (pps_cons pe_str (pv 7) (pps_cons pe_str (pv 8) pps_nil))) (by rfl) (by rfl) (fun z => by cases z) (by decide)))
  (pss_one (ps_expr (pe_base (ks := ["size", "reach", "written", "direction"]) (n := 3) T.rd_Chain T.ci_Chain (ok_Chain__init__ T) (hr.mono (by decide)) (by rfl) T.g_Chain T.F_Chain__init__.kp (kb_Chain__init___3_size_reach_written_direction T).choose_spec passE (pa_cons (pv 0) (pa_cons pe_str (pa_cons (pe_tup pa_nil) pa_nil))) (pk_cons pe_int (pk_cons (pe_tup (pa_cons (pv 7) (pa_cons (pv 8) pa_nil))) (pk_cons (pe_dget (hu_of hr) (pv 9) (pv 5) (fun _ _ => rfl)) (pk_cons (pv 5) pk_nil)))))))))))))))), ?_⟩
    walk_at "rd"
    refine ⟨v, sh, r, o, e, y, rfl, hv, hr1, ho, he, hy, fun H1 e1 => ?_⟩
    walk_at "rd"
    rw [optS_non]
    cases hw : wrongPart sh r o e y with
    | some p =>
      refine iteT (raised1 (fun R R' m ⟨x, e, k⟩ => ⟨x, e, m _ _ k⟩) ?_)
      refine ⟨.str p, rfl, .str p, rfl, fun d hd => ?_⟩
      exact kE p hw d _ (wo_ext (e1.trans (Ext.new hd))) upd_same
    | none =>
      refine iteF ?_
      obtain ⟨ns, k, es, ys, rfl, l1, l7, w03, ssum, rfl, k1, k2, hoo, o0, o1, rfl, hes, rfl, hys⟩ := wrongPart_none hw
      obtain ⟨kT, kG⟩ := kQ ns k es ys hw rfl rfl rfl rfl
      subst hC
      have h1a := e1 _ _ ha
      obtain ⟨wa, rfl, hwa, -, -⟩ := hv.ext e1
      have nwa : wa ≠ a := fun z => by rcases hwa with q | q <;> (rw [z, h1a] at q; cases q)
      walk_at "rd"
      -- self.weights = tuple(weights)
      have tup : ∀ QV : VK, (∀ t G, Ext H1 G → G t = some (.tup (ns.map V.int)) → t ≠ a → QV (.ref t) G) → rTuple K [.ref wa] H1 QV := by
        intro QV q
        rcases hwa with hw | hw
        · exact r_tupL (SqL.of hw) fun l hl => q l _ (Ext.new hl) upd_same (fun z => by rw [z, h1a] at hl; cases hl)
        · exact r_tupT (SqT.of hw) (q wa _ (Ext.refl _) hw nwa)
      refine tup _ fun t G1 x1 ht nta => ?_
      have g1a := x1 _ _ h1a
      walk_at "rd"
      refine r_sfldV g1a F.cl T.na_Sweep_weights (by show 0 < 1000; decide) rfl ?_
      walk_at "rd"
      refine r_sfldA (fs := []) (gs := [_]) F.cl T.na_Sweep_rank (by show 0 ≤ 100; decide) (Nat.le_of_ble_eq_true rfl) rfl (by with_unfolding_all rfl) ?_
      walk_at "rd"
      generalize hown : ownOf ns o = own at kT kG o0 o1
      rcases hoo with rfl | ⟨z, rfl⟩
      case' inl =>
        refine iteT ?_
        walk_at "rd"
        refine r_lenQ (xs := ns.map V.int) (hwa.imp (fun q => by rw [upd_ne nwa]; exact x1 _ _ q) (fun q => by rw [upd_ne nwa]; exact x1 _ _ q)) ?_
        walk_at "rd"
        rw [List.length_map, show ((ns.length : Int) - 1) / 2 = own from hown]
      case' inr =>
        refine iteF ?_
        walk_at "rd"
        have hown : own = z := Eq.symm hown
        subst hown
      all_goals
        refine r_sfldA (fs := []) F.cl T.na_Sweep_own (by show 0 ≤ 100; decide) (Nat.le_of_ble_eq_true rfl) rfl (by with_unfolding_all rfl) ?_
        walk_at "rd"
        refine r_sfldA (fs := []) F.cl T.na_Sweep_ends (by show 0 ≤ 100; decide) (Nat.le_of_ble_eq_true rfl) rfl (by with_unfolding_all rfl) ?_
        walk_at "rd"
        refine r_sfldA (fs := []) F.cl T.na_Sweep_way (by show 0 ≤ 100; decide) (Nat.le_of_ble_eq_true rfl) rfl (by with_unfolding_all rfl) ?_
        walk_at "rd"
        refine r_fldV upd_same F.cl T.na_Sweep_weights (by with_unfolding_all rfl) ?_
        walk_at "rd"
        refine r_fldV upd_same F.cl T.na_Sweep_own (by with_unfolding_all rfl) ?_
        walk_at "rd"
        refine ⟨t, ns, own, rfl, by rw [upd_ne nta]; exact ht, ssum, by omega, fun q G2 x2 hq => ?_⟩
        walk_at "rd"
        refine ⟨q, _, rfl, SqT.of hq, rfl, _, _, rfl, _, _, rfl, rfl, ?_⟩
        walk_at "rd"
        have g2a := x2 _ _ upd_same
        have g2t : G2 t = some (.tup (ns.map V.int)) := x2 t _ (by rw [upd_ne nta]; exact ht)
        have y2 : Ext (wo a H) (wo a G2) := ((wo_ext (e1.trans x1)).trans wo_upd).trans (wo_ext x2)
        have dg : valV (mergeK [] [(Sum.inr "all", .int 0), (Sum.inr "on", .int (leftOf ns own)), (Sum.inr "back", .int (rightOf ns own))]) (Sum.inr ys) = some (.int (writtenOf ns own ys)) := by rcases hys with rfl | rfl | rfl <;> rfl
        refine r_disp fun p hp => ?_
        walk_at "rd"
        refine ⟨upd_same, [(Sum.inr "all", .int 0), (Sum.inr "on", .int (leftOf ns own)), (Sum.inr "back", .int (rightOf ns own))], rfl, Nat.le_of_ble_eq_true rfl, ?_⟩
        have x3 : Ext G2 (upd (upd G2 p (.dK [])) p (.dK (mergeK [] [(Sum.inr "all", .int 0), (Sum.inr "on", .int (leftOf ns own)), (Sum.inr "back", .int (rightOf ns own))]))) := (Ext.new hp).mut hp
        have h3p : (upd (upd G2 p (.dK [])) p (.dK (mergeK [] [(Sum.inr "all", .int 0), (Sum.inr "on", .int (leftOf ns own)), (Sum.inr "back", .int (rightOf ns own))]))) p = some (.dK (mergeK [] [(Sum.inr "all", .int 0), (Sum.inr "on", .int (leftOf ns own)), (Sum.inr "back", .int (rightOf ns own))])) := upd_same
        walk_at "rd"
        generalize (upd (upd G2 p (.dK [])) p (.dK (mergeK [] [(Sum.inr "all", .int 0), (Sum.inr "on", .int (leftOf ns own)), (Sum.inr "back", .int (rightOf ns own))]))) = G3 at x3 h3p ⊢
        refine r_size (by show 0 ≤ 1000; decide) fun pt hpt => ?_
        have x4 := Ext.new (o := .tup []) hpt
        walk_at "rd"
        refine r_size (by show 2 ≤ 1000; decide) fun rt hrt => ?_
        have x5 := Ext.new (o := .tup [.int (leftOf ns own), .int (rightOf ns own)]) hrt
        walk_at "rd"
        refine ⟨p, .int (writtenOf ns own ys), rfl, by rw [← dg]; exact DGet.k (k := Sum.inr ys) (x5 _ _ (x4 _ _ h3p)), ?_⟩
        walk_at "rd"
        have g5a := x5 _ _ (x4 _ _ (x3 _ _ g2a))
        have y5 := y2.trans (wo_ext ((x3.trans x4).trans x5))
        have rl := reach_le ssum l7 o0 o1
        refine ⟨rfl, rfl, a, D.c_Sweep, dx, pt, rt, _, "sweep", 1, leftOf ns own, rightOf ns own, writtenOf ns own ys, 1, .str ys, [], [], rfl, g5a, F, Nat.le_of_ble_eq_true rfl, ?_, x5 _ _ upd_same, rfl, by decide, (fun i x d h => by cases h), upd_same, fun pp hb d H' e hd => ?_, fun hb H' e h' => ?_⟩
        · intro f hf
          simp only [CFS, List.mem_cons, List.not_mem_nil, or_false] at hf
          rcases hf with rfl | rfl | rfl | rfl | rfl | rfl | rfl | rfl <;> with_unfolding_all rfl
        · unfold brokenLimit at hb
          rw [if_neg (by decide), if_neg (by show ¬ ((1 : Int) + 0 > 20); decide), if_neg (by omega)] at hb
          by_cases h3 : writtenOf ns own ys > 3
          · rw [if_pos h3] at hb
            cases hb
            exact kT h3 d H' (y5.trans e) hd
          · rw [if_neg h3, if_neg (by intro z; cases z)] at hb
            cases hb
        · unfold brokenLimit at hb
          rw [if_neg (by decide), if_neg (by show ¬ ((1 : Int) + 0 > 20); decide), if_neg (by omega)] at hb
          by_cases h3 : writtenOf ns own ys > 3
          · rw [if_pos h3] at hb
            cases hb
          · have npt : pt ≠ a := fun z => by rw [z, x3 _ _ g2a] at hpt; cases hpt
            have nrt : rt ≠ a := fun z => by rw [z, x4 _ _ (x3 _ _ g2a)] at hrt; cases hrt
            refine kG (by omega) H' (y5.trans e) ⟨dx, t, pt, rt, h', ?_, ?_, ?_⟩
            · exact wo_get' e nta (x5 _ _ (x4 _ _ (x3 _ _ g2t)))
            · exact wo_get' e npt (x5 _ _ upd_same)
            · exact wo_get' e nrt upd_same
end
end Rk

namespace Rk
open PySem ClX Own
open L2 hiding Ext
local macro_rules | `(tactic| walk_at "side") => `(tactic| first | exact trivial | (show (0:Int) < _; first | assumption | decide | omega) | exact Or.inl ⟨by decide, by decide⟩ | exact Or.inl ⟨by omega, by omega⟩ | exact Or.inr ⟨by decide, by decide⟩ | exact ⟨by decide, by decide⟩ | exact ⟨by decide, by decide, by decide⟩ | exact ⟨by omega, by omega⟩)
local macro_rules | `(tactic| walk_at "rd") => `(tactic| repeat (with_reducible first | refine r_next ?_ | refine r_ret ?_ | refine r_seq ?_ | refine r_asg ?_ | refine r_drop ?_ | refine r_call ?_ | refine r_cons ?_ | refine r_nil ?_ | refine r_cb ?_ | refine r_op ?_ | refine r_sset ?_ | refine r_var (by with_unfolding_all rfl) ?_ | refine r_c ?_ | refine r_name ?_ | refine r_I0 ?_ | (refine r_I ?_ ?_; focus (with_unfolding_all walk_at "side")) | refine r_un ?_ | refine r_U ?_ | refine r_if ?_ | refine r_ifE ?_ | refine r_test ?_ | refine r_B ?_ | refine r_bl ?_ | refine r_not ?_ | refine r_and ?_ | refine r_or ?_ | refine r_andV ?_ | refine r_orV ?_ | refine r_notV ?_ | refine r_eqI ?_ | refine r_neI ?_ | refine r_tup ?_ | refine r_lst ?_ | refine r_sub ?_ | refine r_intI ?_ | refine r_intB ?_ | refine r_abs ?_ | refine r_max ?_ | refine r_ixL (SqL.of (by assumption)) (by with_unfolding_all rfl) ?_ | refine r_ixT (SqT.of (by assumption)) (by with_unfolding_all rfl) ?_ | refine r_ixQL (by assumption) (by with_unfolding_all rfl) ?_ | refine r_ixQT (by assumption) (by with_unfolding_all rfl) ?_ | refine r_ckw ?_ | refine r_callN ?_ | refine r_makeS ?_ | refine r_make ?_ | refine r_makeK ?_ | refine r_methA ?_ | refine r_pcons ?_ | refine r_pnil ?_ | refine r_dget ?_ | refine r_isN ?_ | refine r_notN ?_ | refine r_fld ?_ | refine r_sfld ?_ | refine r_lenL (SqL.of (by assumption)) ?_ | refine r_lenT (SqT.of (by assumption)) ?_ | refine r_callS ?_ | refine r_cutnx ?_ | refine r_cutrt ?_ | refine r_chain ?_ | refine r_yes ?_ | refine iteT ?_ | refine iteF ?_ | refine iteNF ?_ | refine iteNT ?_ | refine r_truth ?_ | refine r_truI ?_ | refine r_sliceV ?_ | refine r_for ?_ | refine r_rng1 ?_ | (refine r_i1 ?_ ?_; focus (with_unfolding_all walk_at "side"))))
section
variable {P : Program} {w : World} {K : PySem.W.Frag} {mg : Str → Option Value} {base : Heap} {D : Ad}
def lenOk : Option (List V) → Bool
  | none => false
  | some xs => decide (1 ≤ xs.length ∧ xs.length ≤ 200)
def spCells : Sp := fun vs H Q _ => ∃ v sh, vs = [v] ∧ Sh H v sh ∧ ∀ H', Ext H H' → Q (.bl (lenOk sh)) H'
theorem ok_has_cells (T : Txt w K mg D) : FnOk P w K mg base CX0 1 D.a_has_cells D.d_has_cells ["value"] spCells := by
  refine T.F_has_cells.ok sc_has_cells (fun vs H Q E h => ?_) (fun cdv A outer s H vs Q E hr h => ?_)
  · obtain ⟨v, sh, rfl, _⟩ := h
    rfl
  · obtain ⟨v, sh, rfl, hv, k⟩ := h
    refine ⟨_, (pss_one (ps_ret (pe_and (pe_callB (call_isiTC K) (by rfl) T.n_isinstance (by decide +kernel) (pa_cons (pv 0) (pa_cons (pe_tup (pa_cons (pe_bltn (v := .ty "list") (by rfl) T.n_list (by decide +kernel) rfl) (pa_cons (pe_bltn (v := .ty "tuple") (by rfl) T.n_tuple (by decide +kernel) rfl) pa_nil))) pa_nil))) (pe_one (pe_chain op_le op_le pe_int (pe_callB (call_lenC K) (by rfl) T.n_len (by decide +kernel) (pa_cons (pv 0) pa_nil)) (pe_glob (v := .int 200) rfl T.c_MOST_CELLS.choose_spec ⟨_, rfl⟩)))))), ?_⟩
    walk_at "rd"
    refine r_size (by show 2 ≤ 1000; decide) fun tp htp => ?_
    have e1 : Ext H (upd H tp (.tup [.ty "list", .ty "tuple"])) := Ext.new htp
    walk_at "rd"
    refine r_isiSq (hv.ext e1) upd_same ?_
    walk_at "rd"
    match sh, hv, k with
    | none, hv, k => exact iteF (k _ e1)
    | some xs, hv, k =>
      obtain ⟨a, rfl, ha, hl, hi⟩ := hv.ext e1
      refine iteT ?_
      walk_at "rd"
      refine r_lenQ ha ?_
      walk_at "rd"
      have e0 : lenOk (some xs) = decide (1 ≤ xs.length ∧ xs.length ≤ 200) := rfl
      refine iteD (fun h1 => ?_) (fun h1 => ?_)
      · walk_at "rd"
        have e2 : lenOk (some xs) = decide ((xs.length : Int) ≤ 200) := by
          rw [e0]
          by_cases h2 : (xs.length : Int) ≤ 200
          · rw [decide_eq_true h2, decide_eq_true (by omega)]
          · rw [decide_eq_false h2, decide_eq_false (by omega)]
        rw [e2] at k
        exact k _ e1
      · walk_at "rd"
        have e2 : lenOk (some xs) = false := by
          rw [e0]
          exact decide_eq_false (by omega)
        rw [e2] at k
        exact k _ e1
/-- an index or None -/
def optV : Option Int → V
  | none => .non
  | some i => .int i
theorem optV_non (o : Option Int) : decide (optV o = V.non) = o.isNone := by
  cases o with
  | none => rfl
  | some i => exact decide_eq_false (fun z => by cases z)
def firstNo (bs : List Bool) : Option Int := (bs.findIdx? (fun b => !b)).map fun n => (n : Int)
def spFirst : Sp := fun vs H Q _ => ∃ a bs, vs = [.ref a] ∧ H a = some (.lst (bs.map V.bl)) ∧ ∀ H', Ext H H' → Q (optV (firstNo bs)) H'
theorem firstNo_at {bs : List Bool} {i : Nat} (h : bs[i]? = some false) (hb : ∀ j, j < i → bs[j]? = some true) : firstNo bs = some (i : Int) := by
  unfold firstNo
  have e : bs.findIdx? (fun b => !b) = some i := by
    rw [List.findIdx?_eq_some_iff_getElem]
    obtain ⟨hl, e1⟩ := List.getElem?_eq_some_iff.mp h
    refine ⟨hl, by rw [e1]; rfl, fun j hj => ?_⟩
    obtain ⟨hl2, e2⟩ := List.getElem?_eq_some_iff.mp (hb j hj)
    rw [e2]
    decide
  rw [e]
  rfl
theorem firstNo_none {bs : List Bool} (hb : ∀ j, j < bs.length → bs[j]? = some true) : firstNo bs = none := by
  unfold firstNo
  have e : bs.findIdx? (fun b => !b) = none := by
    rw [List.findIdx?_eq_none_iff]
    intro b hm
    obtain ⟨j, hj⟩ := List.getElem?_of_mem hm
    have := hb j (List.getElem?_eq_some_iff.mp hj).1
    rw [hj] at this
    cases this
    rfl
  rw [e]
  rfl
theorem ok_first_false (T : Txt w K mg D) : FnOk P w K mg base CX0 1 D.a_first_false D.d_first_false ["flags"] spFirst := by
  refine T.F_first_false.ok sc_first_false (fun vs H Q E h => ?_) (fun cdv A outer s H vs Q E hr h => ?_)
  · obtain ⟨a, bs, rfl, _⟩ := h
    rfl
  · obtain ⟨a, bs, rfl, ha, k⟩ := h
    refine ⟨_, (pss_cons (ps_for PassesOwn.never rfl (pi_enum (by rfl) T.n_enumerate (pa_cons (pv 0) pa_nil)) (pg_tup rfl (pgs_cons (pg_name (i := 1) sc_first_false.nd rfl (Or.inl rfl)) (pgs_cons (pg_name (i := 2) sc_first_false.nd rfl (Or.inl rfl)) pgs_nil)))
    (pss_one (ps_if (pt_not (pt_val (pv 2)))
      (pss_one (ps_ret (pv 1)))
      pss_nil)))
  (pss_one (ps_ret pe_non))), ?_⟩
    refine ⟨_, rfl, a, bs.map V.bl, rfl, SqL.of ha, ?_⟩
    refine for_it (walk_enum (K := K) (a := a) (xs := bs.map V.bl)) (fun i σ H' => ∃ v1 v2, σ = [some (.ref a), v1, v2] ∧ Ext H H' ∧ ∀ j, j < i → bs[j]? = some true)
      ⟨none, none, rfl, Ext.refl H, fun j hj => absurd hj (Nat.not_lt_zero j)⟩ (fun i σ H' _ ⟨_, _, _, e, _⟩ => SqL.of (e _ _ ha)) ?_ ?_
    · rintro i x σ H1 H2 hi ⟨v1, v2, rfl, e, all⟩ ⟨t, x1, x2, rfl, ht, rfl, q1, q2⟩
      cases (Option.some.inj q1)
      have q2 : (bs.map V.bl)[i]? = some x2 := q2
      rw [List.getElem?_map] at q2
      rw [List.length_map] at hi
      have hb : bs[i]? = some bs[i] := List.getElem?_eq_getElem hi
      rw [hb] at q2
      cases (Option.some.inj q2)
      refine ⟨t, _, rfl, SqT.of upd_same, rfl, _, _, rfl, _, _, rfl, rfl, ?_⟩
      have e2 : Ext H (upd H1 t (.tup [.int (i : Nat), .bl bs[i]])) := e.trans (Ext.new ht)
      refine ⟨.bl bs[i], rfl, bs[i], rfl, ?_⟩
      cases hv : bs[i] with
      | true =>
        refine iteF ⟨_, _, rfl, by rw [hv] at e2; exact e2, fun j hj => ?_⟩
        by_cases h2 : j = i
        · subst h2
          rw [hb, hv]
        · exact all j (by omega)
      | false =>
        refine iteT ⟨.int (i : Nat), rfl, ?_⟩
        rw [firstNo_at (by rw [hb, hv]) all] at k
        rw [hv] at e2
        exact k _ e2
    · rintro σ H1 ⟨v1, v2, rfl, e, all⟩
      rw [List.length_map] at all
      rw [firstNo_none all] at k
      exact k _ e
/-- where a list goes wrong: None, or the index that is told -/
def faultOf (sh : Option (List V)) : Option Int := if lenOk sh = true then (match sh with | none => some (-1) | some xs => firstNo (xs.map isI)) else some (-1)
def spFault : Sp := fun vs H Q _ => ∃ v sh, vs = [v] ∧ Sh H v sh ∧ ∀ H', Ext H H' → Q (optV (faultOf sh)) H'
theorem ok_row_fault (T : Txt w K mg D) : FnOk P w K mg base CX0 3 D.a_row_fault D.d_row_fault ["value"] spFault := by
  refine T.F_row_fault.ok sc_row_fault (fun vs H Q E h => ?_) (fun cdv A outer s H vs Q E hr h => ?_)
  · obtain ⟨v, sh, rfl, _⟩ := h
    rfl
  · obtain ⟨v, sh, rfl, hv, k⟩ := h
    refine ⟨_, (pss_cons (ps_if (pt_not (pt_val (pe_call (ok_has_cells T) (hr.mono (by decide)) (by rfl) T.g_has_cells T.F_has_cells.kp T.b_has_cells .nil pass0 (pa_cons (pv 0) pa_nil))))
    (pss_one (ps_ret (pe_un un_neg pe_int)))
    pss_nil)
  (pss_one (ps_ret (pe_call (ok_first_false T) (hr.mono (by decide)) (by rfl) T.g_first_false T.F_first_false.kp T.b_first_false .nil pass0 (pa_cons (pe_lc (own := [("item", 1)]) (g := gName 1) rfl sc_row_fault.nd (pi_seqv 0) (blkOk_by (own := [("item", 1)]) (N := ["value", "item"]) (sc := defScope s_row_fault) (by decide +kernel)) (fun _ _ _ _ _ => pg_name (i := 1) sc_row_fault.nd rfl (Or.inl rfl)) (fun _ _ _ _ _ => pts_nil) (fun _ _ _ _ _ => (pe_call (ok_is_number T) (hr.mono (by decide)) (by rfl) T.g_is_number T.F_is_number.kp T.b_is_number .nil pass0 (pa_cons (pv 1) pa_nil)))) pa_nil))))), ?_⟩
    walk_at "rd"
    refine ⟨v, sh, rfl, hv, fun H1 e1 => ?_⟩
    walk_at "rd"
    refine iteNB (fun ok => ?_) (fun ok => ?_)
    · walk_at "rd"
      unfold faultOf at k
      rw [if_neg (by rw [ok]; decide)] at k
      exact k _ e1
    · unfold faultOf at k
      rw [if_pos ok] at k
      match sh, hv, k, ok with
      | some xs, hv, k, ok =>
        obtain ⟨a, rfl, ha, hl, hi⟩ := hv.ext e1
        walk_at "rd"
        refine r_lc (r_seqv rfl ha fun J GG wk hG L hL => lcin_map wk (fun x => V.bl (isI x)) hG (by omega) (fun x => rfl) (fun i x H' hx e Q q => ?_) (fun L H' hL2 e hl' => ?_) hL)
        · walk_at "rd"
          exact ⟨x, rfl, (hi x (List.mem_of_getElem? hx)).ext e, q _ (Ext.refl _)⟩
        · walk_at "rd"
          exact ⟨L, xs.map isI, rfl, by rw [hl', List.map_map]; rfl, fun H2 e2 => k _ ((e1.trans e).trans e2)⟩
theorem fault_ints {ns : List Int} (h1 : 1 ≤ ns.length) (h2 : ns.length ≤ 200) : faultOf (some (ns.map V.int)) = none := by
  unfold faultOf
  rw [if_pos (show lenOk (some (ns.map V.int)) = true from decide_eq_true (by rw [List.length_map]; exact ⟨h1, h2⟩))]
  refine firstNo_none fun j hj => ?_
  rw [List.length_map, List.length_map] at hj
  rw [List.getElem?_map, List.getElem?_map, List.getElem?_eq_getElem hj]
  rfl
/-- a good row read -/
def spRowI : Sp := fun vs H Q _ => ∃ (a : Addr) (ns : List Int), vs = [.ref a] ∧ Sq H a (ns.map V.int) ∧ 1 ≤ ns.length ∧ ns.length ≤ 200 ∧ ∀ q H', Ext H H' → H' q = some (.tup (ns.map V.int)) → Q (.ref q) H'
theorem ok_row_of (T : Txt w K mg D) : FnOk P w K mg base CX0 4 D.a_row_of D.d_row_of ["value"] spRowI := by
  refine T.F_row_of.ok sc_row_of (fun vs H Q E h => ?_) (fun cdv A outer s H vs Q E hr h => ?_)
  · obtain ⟨a, ns, rfl, _⟩ := h
    rfl
  · obtain ⟨a, ns, rfl, ha, h1, h2, k⟩ := h
    refine ⟨_, (pss_cons (ps_set (i := 1) sc_row_of.nd rfl (Or.inl rfl) (pe_call (ok_row_fault T) (hr.mono (by decide)) (by rfl) T.g_row_fault T.F_row_fault.kp T.b_row_fault .nil pass0 (pa_cons (pv 0) pa_nil)))
  (pss_cons (ps_if (pt_cmpR op_notNS (pv 1) pe_non (nomark _))
    (pss_one ps_never)
    pss_nil)
  (pss_one (ps_ret (pe_callTy (call_tupleC K) (by rfl) T.n_tuple (by decide +kernel) (pa_cons (pv 0) pa_nil)))))), ?_⟩
    walk_at "rd"
    refine ⟨.ref a, some (ns.map V.int), rfl, ⟨a, rfl, ha, by rw [List.length_map]; omega, vk_ints ns⟩, fun H1 e1 => ?_⟩
    rw [fault_ints h1 h2]
    walk_at "rd"
    refine iteF ?_
    walk_at "rd"
    rcases ha.ext e1 with ha | ha
    · exact r_tupL (SqL.of ha) fun l hl => k l _ (e1.trans (Ext.new hl)) upd_same
    · exact r_tupT (SqT.of ha) (k a _ e1 ha)
end
end Rk

namespace Rk
open PySem ClX Own
open L2 hiding Ext
local macro_rules | `(tactic| walk_at "side") => `(tactic| first | exact trivial | (show (0:Int) < _; first | assumption | decide | omega) | exact Or.inl ⟨by decide, by decide⟩ | exact Or.inl ⟨by omega, by omega⟩ | exact Or.inr ⟨by decide, by decide⟩ | exact ⟨by decide, by decide⟩ | exact ⟨by decide, by decide, by decide⟩ | exact ⟨by omega, by omega⟩)
local macro_rules | `(tactic| walk_at "rd") => `(tactic| repeat (with_reducible first | refine r_next ?_ | refine r_ret ?_ | refine r_seq ?_ | refine r_asg ?_ | refine r_drop ?_ | refine r_call ?_ | refine r_cons ?_ | refine r_nil ?_ | refine r_cb ?_ | refine r_op ?_ | refine r_sset ?_ | refine r_var (by with_unfolding_all rfl) ?_ | refine r_c ?_ | refine r_name ?_ | refine r_I0 ?_ | (refine r_I ?_ ?_; focus (with_unfolding_all walk_at "side")) | refine r_un ?_ | refine r_U ?_ | refine r_if ?_ | refine r_ifE ?_ | refine r_test ?_ | refine r_B ?_ | refine r_bl ?_ | refine r_not ?_ | refine r_and ?_ | refine r_or ?_ | refine r_andV ?_ | refine r_orV ?_ | refine r_notV ?_ | refine r_eqI ?_ | refine r_neI ?_ | refine r_tup ?_ | refine r_lst ?_ | refine r_sub ?_ | refine r_intI ?_ | refine r_intB ?_ | refine r_abs ?_ | refine r_max ?_ | refine r_ixL (SqL.of (by assumption)) (by with_unfolding_all rfl) ?_ | refine r_ixT (SqT.of (by assumption)) (by with_unfolding_all rfl) ?_ | refine r_ixQL (by assumption) (by with_unfolding_all rfl) ?_ | refine r_ixQT (by assumption) (by with_unfolding_all rfl) ?_ | refine r_ckw ?_ | refine r_callN ?_ | refine r_makeS ?_ | refine r_make ?_ | refine r_makeK ?_ | refine r_methA ?_ | refine r_pcons ?_ | refine r_pnil ?_ | refine r_dget ?_ | refine r_isN ?_ | refine r_notN ?_ | refine r_fld ?_ | refine r_sfld ?_ | refine r_lenL (SqL.of (by assumption)) ?_ | refine r_lenT (SqT.of (by assumption)) ?_ | refine r_callS ?_ | refine r_cutnx ?_ | refine r_cutrt ?_ | refine r_chain ?_ | refine r_yes ?_ | refine iteT ?_ | refine iteF ?_ | refine iteNF ?_ | refine iteNT ?_ | refine r_truth ?_ | refine r_truI ?_ | refine r_sliceV ?_ | refine r_for ?_ | refine r_rng1 ?_ | (refine r_i1 ?_ ?_; focus (with_unfolding_all walk_at "side"))))
section
variable {P : Program} {w : World} {K : PySem.W.Frag} {mg : Str → Option Value} {base : Heap} {D : Ad}
def spOffs (D : Ad) : Sp := fun vs H Q _ => ∃ (a : Addr) (ns : List Int) (k own : Int) (es ys : Str), vs = [.ref a] ∧ SweepAt D.c_Sweep H a ns k own es ys ∧ (∀ n ∈ ns, 0 ≤ n ∧ n ≤ 3) ∧ ns.length ≤ 7 ∧
  ∀ L H', Ext H H' → H L = none → H' L = some (.lst ((offs ns own).map V.int)) → Q (.ref L) H'
theorem ok_counted_offsets (T : Txt w K mg D) : FnOk P w K mg base CX0 1 D.a_counted_offsets D.d_counted_offsets ["sweep"] (spOffs D) := by
  refine T.F_counted_offsets.ok sc_counted_offsets (fun vs H Q E h => ?_) (fun cdv A outer s H vs Q E hr h => ?_)
  · obtain ⟨a, ns, k, own, es, ys, rfl, _⟩ := h
    rfl
  · obtain ⟨a, ns, k, own, es, ys, rfl, ⟨dx, t, pt, rt, ha, ht, -⟩, h03, h7, kk⟩ := h
    refine ⟨_, (pss_one (ps_ret (pe_lc2 (own := [("index", 1), ("weight", 2), ("_", 3)]) (g := gTup K 2 (gCons (gName 1) (gCons (gName 2) gNil))) (g1 := gName 3) rfl sc_counted_offsets.nd (pi_enumT K (by rfl) T.n_enumerate (pa_cons (pe_fldC K (pv 0)) pa_nil)) (blkOk_by (own := [("index", 1), ("weight", 2), ("_", 3)]) (N := ["sweep", "index", "weight", "_"]) (sc := defScope s_counted_offsets) (by decide +kernel)) (vs1 := [3]) (by decide) (fun _ _ _ _ _ => (pg_tupC K rfl (pgs_cons (pg_name (i := 1) sc_counted_offsets.nd rfl (Or.inl rfl)) (pgs_cons (pg_name (i := 2) sc_counted_offsets.nd rfl (Or.inl rfl)) pgs_nil)))) (fun _ _ _ _ _ => pts_nil) (fun _ _ _ _ _ => (pi_range1 rfl T.n_range (pa_cons (pv 2) pa_nil))) (fun _ _ _ _ _ => pg_name (i := 3) sc_counted_offsets.nd rfl (Or.inl rfl)) (fun _ _ _ _ _ => pts_nil) (fun _ _ _ _ _ => (pe_op op_sub (pv 1) (pe_fldC K (pv 0))))))), ?_⟩
    have C := T.cl_Sweep
    walk_at "rd"
    refine r_lc2 (r_enumT ?_)
    walk_at "rd"
    refine r_fldV ha C T.na_Sweep_weights (by with_unfolding_all rfl) ?_
    walk_at "rd"
    refine ⟨t, _, rfl, SqT.of ht, fun L hL => ?_⟩
    refine lc2_it (walk_enumT (K := K) (a := t) (xs := ns.map V.int)) (fun i G => Ext H G ∧ G L = some (.lst ((offsN ns own i).map V.int))) ⟨Ext.new hL, upd_same⟩ (fun i G _ p => SqT.of (p.1 _ _ ht)) ?_ ?_
    · rintro i x G G' hi ⟨e, hg⟩ ⟨q, x1, x2, rfl, hq, rfl, q1, q2⟩
      cases (Option.some.inj q1)
      have q2 : (ns.map V.int)[i]? = some x2 := q2
      rw [List.length_map] at hi
      rw [List.getElem?_map, List.getElem?_eq_getElem hi] at q2
      cases (Option.some.inj q2)
      refine ⟨q, _, rfl, SqT.of upd_same, rfl, _, _, rfl, _, _, rfl, rfl, ?_⟩
      have e2 := Ext.new (o := .tup [.int (i : Nat), .int ns[i]]) hq
      have hge : ns.getD i 0 = ns[i] := by simp [List.getD, hi]
      have hb := h03 _ (List.getElem_mem hi)
      refine ⟨rfl, ?_⟩
      walk_at "rd"
      refine lcin2_range (n := ns[i].toNat) (fun j G2 => Ext H G2 ∧ G2 L = some (.lst ((offsN ns own i ++ List.replicate j ((i : Int) - own)).map V.int))) ⟨e.trans e2, ?_⟩ (fun j G2 hj ⟨e3, hg3⟩ => ⟨rfl, ?_⟩) (fun G2 ⟨e3, hg3⟩ => ?_)
      · rw [List.replicate_zero, List.append_nil]
        exact e2 _ _ hg
      · have g3a := e3 _ _ ha
        walk_at "rd"
        refine r_fldV g3a C T.na_Sweep_own (by with_unfolding_all rfl) ?_
        walk_at "rd"
        refine ⟨_, hg3, ?_, e3.mut hL, ?_⟩
        · have := offsN_len (own := own) h03 i
          rw [List.length_map, List.length_append, List.length_replicate, sizeLine_eq]
          omega
        · rw [upd_same, List.replicate_succ', ← List.append_assoc, List.map_append (l₂ := [(i : Int) - own])]
          rfl
      · refine ⟨e3, ?_⟩
        show _ = some (HO.lst ((offsN ns own i ++ List.replicate (ns.getD i 0).toNat ((i : Int) - own)).map V.int))
        rw [hge]
        exact hg3
    · rintro G ⟨e, hg⟩
      rw [List.length_map] at hg
      walk_at "rd"
      exact kk L G e hL hg
def spOrder : Sp := fun vs H Q _ => ∃ (ys : Str) (l : Int) (n : Nat), vs = [.str ys, .int l, .int (l + n)] ∧ (ys = "all" ∨ ys = "on" ∨ ys = "back") ∧ 0 ≤ l ∧ l + n ≤ 16000 ∧
  ∀ q, H q = none → Q (.ref q) (upd H q (.lst ((orderOf (wayOf ys) n).map fun (i : Nat) => V.int (l + i))))
theorem ok_writing_order (T : Txt w K mg D) : FnOk P w K mg base CX0 1 D.a_writing_order D.d_writing_order ["way", "start", "end"] spOrder := by
  refine T.F_writing_order.ok sc_writing_order (fun vs H Q E h => ?_) (fun cdv A outer s H vs Q E hr h => ?_)
  · obtain ⟨ys, l, n, rfl, _⟩ := h
    rfl
  · obtain ⟨ys, l, n, rfl, hys, l0, l1, kk⟩ := h
    refine ⟨_, (pss_cons (ps_if (pt_cmpR op_eq (pv 0) pe_str (nomark _))
    (pss_one (ps_ret (pe_listRev rfl (by rfl) T.n_list (by rfl) T.n_reversed (prg_2 (by rfl) T.n_range (pv 1) (pv 2)))))
    pss_nil)
  (pss_one (ps_ret (pe_listRg rfl (by rfl) T.n_list (prg_2 (by rfl) T.n_range (pv 1) (pv 2)))))), ?_⟩
    walk_at "rd"
    refine r_eqS ?_
    walk_at "rd"
    refine iteD (fun h1 => ?_) (fun h1 => ?_)
    · walk_at "rd"
      refine r_lstRev (r_rg2 ?_)
      walk_at "rd"
      refine ⟨_, _, rfl, rfl, ⟨by omega, by omega, by omega, by omega⟩, fun q hq => ?_⟩
      have := kk q hq
      rw [show orderOf (wayOf ys) n = (List.range n).reverse by subst h1; rfl, ← rgB_map] at this
      exact this
    · walk_at "rd"
      refine r_lstRg (r_rg2 ?_)
      walk_at "rd"
      refine ⟨_, _, rfl, rfl, ⟨by omega, by omega, by omega, by omega, by omega⟩, fun q hq => ?_⟩
      have := kk q hq
      rw [show orderOf (wayOf ys) n = List.range n by rcases hys with rfl | rfl | rfl <;> first | rfl | exact absurd rfl h1, ← rgV_map] at this
      exact this
end
end Rk

namespace Rk
open PySem ClX Own
open L2 hiding Ext
local macro_rules | `(tactic| walk_at "side") => `(tactic| first | exact trivial | (show (0:Int) < _; first | assumption | decide | omega) | exact Or.inl ⟨by decide, by decide⟩ | exact Or.inl ⟨by omega, by omega⟩ | exact Or.inr ⟨by decide, by decide⟩ | exact ⟨by decide, by decide⟩ | exact ⟨by decide, by decide, by decide⟩ | exact ⟨by omega, by omega⟩)
local macro_rules | `(tactic| walk_at "rd") => `(tactic| repeat (with_reducible first | refine r_next ?_ | refine r_ret ?_ | refine r_seq ?_ | refine r_asg ?_ | refine r_drop ?_ | refine r_call ?_ | refine r_cons ?_ | refine r_nil ?_ | refine r_cb ?_ | refine r_op ?_ | refine r_sset ?_ | refine r_var (by with_unfolding_all rfl) ?_ | refine r_c ?_ | refine r_name ?_ | refine r_I0 ?_ | (refine r_I ?_ ?_; focus (with_unfolding_all walk_at "side")) | refine r_un ?_ | refine r_U ?_ | refine r_if ?_ | refine r_ifE ?_ | refine r_test ?_ | refine r_B ?_ | refine r_bl ?_ | refine r_not ?_ | refine r_and ?_ | refine r_or ?_ | refine r_andV ?_ | refine r_orV ?_ | refine r_notV ?_ | refine r_eqI ?_ | refine r_neI ?_ | refine r_tup ?_ | refine r_lst ?_ | refine r_sub ?_ | refine r_intI ?_ | refine r_intB ?_ | refine r_abs ?_ | refine r_max ?_ | refine r_ixL (SqL.of (by assumption)) (by with_unfolding_all rfl) ?_ | refine r_ixT (SqT.of (by assumption)) (by with_unfolding_all rfl) ?_ | refine r_ixQL (by assumption) (by with_unfolding_all rfl) ?_ | refine r_ixQT (by assumption) (by with_unfolding_all rfl) ?_ | refine r_ckw ?_ | refine r_callN ?_ | refine r_makeS ?_ | refine r_make ?_ | refine r_makeK ?_ | refine r_methA ?_ | refine r_pcons ?_ | refine r_pnil ?_ | refine r_dget ?_ | refine r_isN ?_ | refine r_notN ?_ | refine r_fld ?_ | refine r_sfld ?_ | refine r_lenL (SqL.of (by assumption)) ?_ | refine r_lenT (SqT.of (by assumption)) ?_ | refine r_callS ?_ | refine r_cutnx ?_ | refine r_cutrt ?_ | refine r_chain ?_ | refine r_yes ?_ | refine iteT ?_ | refine iteF ?_ | refine iteNF ?_ | refine iteNT ?_ | refine r_truth ?_ | refine r_truI ?_ | refine r_sliceV ?_ | refine r_for ?_ | refine r_rng1 ?_ | (refine r_i1 ?_ ?_; focus (with_unfolding_all walk_at "side"))))
section
variable {P : Program} {w : World} {K : PySem.W.Frag} {mg : Str → Option Value} {base : Heap} {D : Ad}
theorem set_getD {W : List Int} {j : Nat} : W.set j (W.getD j 0) = W := by
  by_cases h : j < W.length
  · rw [show W.getD j 0 = W[j] by simp [List.getD, h], List.set_getElem_self]
  · rw [List.set_eq_of_length_le (by omega)]
def spFilt (D : Ad) : Sp := fun vs H Q _ => ∃ (a rt : Addr) (ns : List Int) (k own : Int) (es ys : Str) (xs : List Int), vs = [.ref a, .ref rt] ∧ SweepAt D.c_Sweep H a ns k own es ys ∧ GoodS ns k own es ys ∧ H rt = some (.tup (xs.map V.int)) ∧ 1 ≤ xs.length ∧ xs.length ≤ 1000 ∧
  ∀ q H', Ext H H' → H' q = some (.tup ((swept ns k own es ys xs).map V.int)) → Q (.ref q) H'
theorem SweepAt.ext {C : Addr} {H H' : Hp} {a : Addr} {ns : List Int} {k own : Int} {es ys : Str} (h : SweepAt C H a ns k own es ys) (e : Ext H H') : SweepAt C H' a ns k own es ys := by
  obtain ⟨dx, t, pt, rt, h1, h2, h3, h4⟩ := h
  exact ⟨dx, t, pt, rt, e _ _ h1, e _ _ h2, e _ _ h3, e _ _ h4⟩
/-- the row after i places -/
def rowN (ns : List Int) (k own : Int) (es ys : Str) (xs : List Int) (i : Nat) : List Int := ((orderOf (wayOf ys) xs.length).take i).foldl (swStep (offs ns own) (heldOf es) k (wayOf ys) xs) xs
theorem rowN_len {ns : List Int} {k own : Int} {es ys : Str} {xs : List Int} {i : Nat} : (rowN ns k own es ys xs i).length = xs.length := fold_len _ _
theorem orderOf_len {wy : Way} {n : Nat} : (orderOf wy n).length = n := by
  unfold orderOf
  split
  · rw [List.length_reverse, List.length_range]
  · rw [List.length_range]
theorem rowN_end {ns : List Int} {k own : Int} {es ys : Str} {xs : List Int} : rowN ns k own es ys xs xs.length = swept ns k own es ys xs := by
  unfold rowN swept sweepF
  rw [List.take_of_length_le (by rw [orderOf_len]; exact Nat.le_refl _)]
theorem rowN_succ {ns : List Int} {k own : Int} {es ys : Str} {xs : List Int} {i : Nat} (h : i < (orderOf (wayOf ys) xs.length).length) : rowN ns k own es ys xs (i + 1) = swStep (offs ns own) (heldOf es) k (wayOf ys) xs (rowN ns k own es ys xs i) (orderOf (wayOf ys) xs.length)[i] := by
  unfold rowN
  rw [List.take_add_one, List.getElem?_eq_getElem h, List.foldl_append]
  rfl
theorem ok_filtered (T : Txt w K mg D) : FnOk P w K mg base CX0 2 D.a_filtered D.d_filtered ["sweep", "row"] (spFilt D) := by
  refine T.F_filtered.ok sc_filtered (fun vs H Q E h => ?_) (fun cdv A outer s H vs Q E hr h => ?_)
  · obtain ⟨a, rt, ns, k, own, es, ys, xs, rfl, _⟩ := h
    rfl
  · obtain ⟨a, rt, ns, k, own, es, ys, xs, rfl, ⟨dx, t, pt, ct, ha, ht, hpt, hct⟩, g, hrow, n1, n2, kk⟩ := h
    refine ⟨_, (pss_cons (ps_asg (pe_fldC K (pv 0)) (pg_tup (by rfl) (pgs_cons (pg_name (i := 2) sc_filtered.nd rfl (Or.inr rfl)) (pgs_cons (pg_name (i := 3) sc_filtered.nd rfl (Or.inl rfl)) pgs_nil))))
  (pss_cons (ps_set (i := 4) sc_filtered.nd rfl (Or.inr rfl) (pe_op op_add (pv 2) (pe_callB (call_lenC K) (by rfl) T.n_len (by decide +kernel) (pa_cons (pv 1) pa_nil))))
  (pss_cons (ps_set (i := 5) sc_filtered.nd rfl (Or.inr rfl) (pe_op op_cat (pe_op op_cat (pe_op op_rep (pe_lst (pa_cons (pe_ix (ix_seqC K) (pv 1) pe_int (fun _ _ => rfl)) pa_nil)) (pv 2)) (pe_callTy (call_listC K) (by rfl) T.n_list (by decide +kernel) (pa_cons (pv 1) pa_nil))) (pe_op op_rep (pe_lst (pa_cons (pe_ix (ix_seqC K) (pv 1) (pe_un un_neg pe_int) (fun _ _ => rfl)) pa_nil)) (pv 3))))
  (Evl.pss_cut (ps_set (i := 6) sc_filtered.nd rfl (Or.inl rfl) (pe_ifExp (pt_cmpR op_eq (pe_fldC K (pv 0)) pe_str (nomark _)) (pe_callTy (call_listC K) (by rfl) T.n_list (by decide +kernel) (pa_cons (pv 5) pa_nil)) (pv 5)))
  (pss_cons (ps_set (i := 7) sc_filtered.nd rfl (Or.inl rfl) (pe_call (ok_counted_offsets T) (hr.mono (by decide)) (by rfl) T.g_counted_offsets T.F_counted_offsets.kp T.b_counted_offsets .nil pass0 (pa_cons (pv 0) pa_nil)))
  (pss_cons (ps_for PassesOwn.never rfl (pi_list (pe_call (ok_writing_order T) (hr.mono (by decide)) (by rfl) T.g_writing_order T.F_writing_order.kp T.b_writing_order .nil pass0 (pa_cons (pe_fldC K (pv 0)) (pa_cons (pv 2) (pa_cons (pv 4) pa_nil))))) (pg_name (i := 8) sc_filtered.nd rfl (Or.inr rfl))
    (pss_cons (ps_set (i := 9) sc_filtered.nd rfl (Or.inl rfl) (pv 7))
    (Evl.pss_cut (ps_if (PW.pt (pw_and (pt_cmpR op_eq (pe_fldC K (pv 0)) pe_str (nomark _)) (pw_and1 (pt_not (pt_chain op_le op_lt (pe_op op_mul pe_int (pv 2)) (pv 8) (pe_op op_sub (pv 4) (pv 3)))))))
      (pss_one (ps_setLc (i := 9) (own := [("offset", 11)]) (g := gName 11) rfl sc_filtered.nd rfl rfl (sw_true rfl rfl rfl (by decide +kernel)) (pi_list (pv 7)) (blkOk_by (own := [("offset", 11)]) (N := ["sweep", "row", "left", "right", "end", "cells", "written", "offsets", "place", "near", "values", "offset"]) (sc := defScope s_filtered) (by decide +kernel)) (fun _ _ _ _ _ => pg_name (i := 11) sc_filtered.nd rfl (Or.inl rfl)) (fun _ _ _ _ _ => (pts_one (pt_chain op_le op_lt (pv 2) (pe_op op_add (pv 8) (pv 11)) (pv 4)))) (fun _ _ _ _ _ => (pv 11))))
      pss_nil)
    (pss_one (ps_if (pt_truth (pv 9) (by intro _; rfl))
      (pss_cons (ps_set (i := 10) sc_filtered.nd rfl (Or.inl rfl) (pe_callBK (cr_sortedInt K hr.units) (by rfl) T.n_sorted (by decide +kernel) (pa_cons (pe_lc (own := [("offset", 11)]) (g := gName 11) rfl sc_filtered.nd (pi_list (pv 9)) (blkOk_by (own := [("offset", 11)]) (N := ["sweep", "row", "left", "right", "end", "cells", "written", "offsets", "place", "near", "values", "offset"]) (sc := defScope s_filtered) (by decide +kernel)) (fun _ _ _ _ _ => pg_name (i := 11) sc_filtered.nd rfl (Or.inl rfl)) (fun _ _ _ _ _ => pts_nil) (fun _ _ _ _ _ => (pe_ix (ix_seqC K) (pv 5) (pe_op op_add (pv 8) (pv 11)) (fun _ _ => rfl)))) pa_nil) (pk_cons (pe_bltn (v := .ty "int") (by rfl) T.n_int (by decide +kernel) rfl) pk_nil)))
      (pss_one (ps_asg (pe_ix (ix_seqC K) (pv 10) (pe_op op_sub (pe_callB (call_minS rfl) (by rfl) T.n_min (by decide +kernel) (pa_cons (pe_fldC K (pv 0)) (pa_cons (pe_callB (call_lenC K) (by rfl) T.n_len (by decide +kernel) (pa_cons (pv 10) pa_nil)) pa_nil))) pe_int) (fun _ _ => rfl)) (pg_sub (pv 6) (pv 8) set_list))))
      pss_nil)))))
  (pss_one (ps_ret (pe_callTy (call_tupleC K) (by rfl) T.n_tuple (by decide +kernel) (pa_cons (pe_slice (sl_listC K) (pv 6) (po_some (pv 2)) (po_some (pv 4))) pa_nil)))))))))), ?_⟩
    have C := T.cl_Sweep
    obtain ⟨l0, r0, lr⟩ := reach_le g.sum g.l7 g.o0 g.o1
    have ob := fun {o : Int} (h : o ∈ offs ns own) => offs_bounds h
    have ol := offsN_len (own := own) g.w03 ns.length
    have ol2 : (offs ns own).length ≤ 3 * ns.length := ol
    have l7 := g.l7
    have sw : SweepAt D.c_Sweep H a ns k own es ys := ⟨dx, t, pt, ct, ha, ht, hpt, hct⟩
    obtain ⟨l, hl⟩ := Int.eq_ofNat_of_zero_le l0
    obtain ⟨r, hr'⟩ := Int.eq_ofNat_of_zero_le r0
    rw [hl, hr'] at hct lr
    simp only [hl, hr'] at ob
    walk_at "rd"
    refine r_fldV ha C T.na_Sweep_reach (by with_unfolding_all rfl) ?_
    walk_at "rd"
    refine ⟨ct, _, rfl, SqT.of hct, rfl, _, _, rfl, _, _, rfl, rfl, ?_⟩
    walk_at "rd"
    rw [List.length_map]
    refine r_ixQT hrow (row_at0 n1) ?_
    walk_at "rd"
    refine r_size (by show 1 ≤ 1000; decide) fun a1 f1 => ?_
    generalize hG1 : upd H a1 (HO.lst [V.int (xs.headD 0)]) = G1
    obtain ⟨x1, g1⟩ : Ext H G1 ∧ G1 a1 = some (HO.lst [V.int (xs.headD 0)]) := by rw [← hG1]; exact ⟨Ext.new f1, upd_same⟩
    walk_at "rd"
    refine r_rep g1 (by omega) (by omega) (by show 1 * _ ≤ 16000; omega) fun a2 f2 => ?_
    rw [rep_ints, Int.toNat_natCast]
    generalize hG2 : upd G1 a2 (HO.lst ((List.replicate l (xs.headD 0)).map V.int)) = G2
    obtain ⟨x2, g2⟩ : Ext G1 G2 ∧ G2 a2 = some (HO.lst ((List.replicate l (xs.headD 0)).map V.int)) := by rw [← hG2]; exact ⟨Ext.new f2, upd_same⟩
    have row2 := x2 _ _ (x1 _ _ hrow)
    walk_at "rd"
    refine r_listQ (.inr row2) fun a3 f3 => ?_
    generalize hG3 : upd G2 a3 (HO.lst (xs.map V.int)) = G3
    obtain ⟨x3, g3⟩ : Ext G2 G3 ∧ G3 a3 = some (HO.lst (xs.map V.int)) := by rw [← hG3]; exact ⟨Ext.new f3, upd_same⟩
    walk_at "rd"
    refine r_catL (x3 _ _ g2) g3 (by rw [List.length_map, List.length_map, List.length_replicate]; omega) fun a4 f4 => ?_
    rw [← List.map_append]
    generalize hG4 : upd G3 a4 (HO.lst ((List.replicate l (xs.headD 0) ++ xs).map V.int)) = G4
    obtain ⟨x4, g4⟩ : Ext G3 G4 ∧ G4 a4 = some (HO.lst ((List.replicate l (xs.headD 0) ++ xs).map V.int)) := by rw [← hG4]; exact ⟨Ext.new f4, upd_same⟩
    have row4 := x4 _ _ (x3 _ _ row2)
    walk_at "rd"
    refine r_ixQT row4 (row_at1 n1) ?_
    walk_at "rd"
    refine r_size (by show 1 ≤ 1000; decide) fun a5 f5 => ?_
    generalize hG5 : upd G4 a5 (HO.lst [V.int (xs.getLastD 0)]) = G5
    obtain ⟨x5, g5⟩ : Ext G4 G5 ∧ G5 a5 = some (HO.lst [V.int (xs.getLastD 0)]) := by rw [← hG5]; exact ⟨Ext.new f5, upd_same⟩
    walk_at "rd"
    refine r_rep g5 (by omega) (by omega) (by show 1 * _ ≤ 16000; omega) fun a6 f6 => ?_
    rw [rep_ints, Int.toNat_natCast]
    generalize hG6 : upd G5 a6 (HO.lst ((List.replicate r (xs.getLastD 0)).map V.int)) = G6
    obtain ⟨x6, g6⟩ : Ext G5 G6 ∧ G6 a6 = some (HO.lst ((List.replicate r (xs.getLastD 0)).map V.int)) := by rw [← hG6]; exact ⟨Ext.new f6, upd_same⟩
    walk_at "rd"
    refine r_catL (x6 _ _ (x5 _ _ g4)) g6 (by rw [List.length_map, List.length_map, List.length_append, List.length_replicate, List.length_replicate]; omega) fun c f7 => ?_
    rw [← List.map_append, show List.replicate l (xs.headD 0) ++ xs ++ List.replicate r (xs.getLastD 0) = padR l r xs xs from rfl]
    generalize hG7 : upd G6 c (HO.lst ((padR l r xs xs).map V.int)) = G7
    obtain ⟨x7, g7⟩ : Ext G6 G7 ∧ G7 c = some (HO.lst ((padR l r xs xs).map V.int)) := by rw [← hG7]; exact ⟨Ext.new f7, upd_same⟩
    have x07 : Ext H G7 := (((((x1.trans x2).trans x3).trans x4).trans x5).trans x6).trans x7
    have hcH : H c = none := (((((x1.trans x2).trans x3).trans x4).trans x5).trans x6).free f7
    clear x1 x2 x3 x4 x5 x6 x7 g1 g2 g3 g4 g5 g6 row2 row4 f1 f2 f3 f4 f5 f6 f7
    walk_at "rd"
    refine r_cut (fun σ' G => ∃ wr : Addr, σ' = [some (.ref a), some (.ref rt), some (.int l), some (.int r), some (.int ((l : Int) + (xs.length : Nat))), some (.ref c), some (.ref wr), none, none, none, none, none] ∧ Ext G7 G ∧ H wr = none ∧ G wr = some (.lst ((padR l r xs xs).map V.int)) ∧ (wayOf ys = .all → wr ≠ c) ∧ (wayOf ys ≠ .all → wr = c)) ?_ ?_
    · have h7a := x07 _ _ ha
      walk_at "rd"
      refine r_fldV h7a C T.na_Sweep_way (by with_unfolding_all rfl) ?_
      walk_at "rd"
      refine r_eqS ?_
      walk_at "rd"
      refine iteD (fun h1 => ?_) (fun h1 => ?_)
      · walk_at "rd"
        refine r_listQ (.inl g7) fun wr f8 => ?_
        refine ⟨wr, rfl, Ext.new f8, x07.free f8, upd_same, fun _ z => ?_, fun z => absurd (by subst h1; rfl) z⟩
        rw [z, g7] at f8
        cases f8
      · walk_at "rd"
        refine ⟨c, rfl, Ext.refl _, hcH, g7, fun z => ?_, fun _ => rfl⟩
        unfold wayOf at z
        rw [if_neg h1] at z
        split at z <;> cases z
    rintro σ' G8 ⟨wr, rfl, x8, hwH, g8, nall, ynall⟩
    have x08 := x07.trans x8
    walk_at "rd"
    refine ⟨a, ns, k, own, es, ys, rfl, SweepAt.ext sw x08, g.w03, g.l7, fun o G9 x9 ho0 ho => ?_⟩
    have h9a := x9 _ _ (x08 _ _ ha)
    have now : o ≠ wr := fun z => by rw [z, g8] at ho0; cases ho0
    walk_at "rd"
    refine r_for (r_itl ?_)
    walk_at "rd"
    refine r_fldV h9a C T.na_Sweep_way (by with_unfolding_all rfl) ?_
    walk_at "rd"
    refine ⟨ys, l, xs.length, rfl, g.ys, by omega, by omega, fun od fo => ?_⟩
    generalize hG10 : upd G9 od (HO.lst ((orderOf (wayOf ys) xs.length).map fun (i : Nat) => V.int ((l : Int) + i))) = G10
    obtain ⟨x10, g10⟩ : Ext G9 G10 ∧ G10 od = some (HO.lst ((orderOf (wayOf ys) xs.length).map fun (i : Nat) => V.int ((l : Int) + i))) := by rw [← hG10]; exact ⟨Ext.new fo, upd_same⟩
    have nod : od ≠ wr := fun z => by rw [z, x9 _ _ g8] at fo; cases fo
    have naw : a ≠ wr := fun z => by rw [z, hwH] at ha; cases ha
    have nctw : ct ≠ wr := fun z => by rw [z, hwH] at hct; cases hct
    have x810 := x9.trans x10
    refine ⟨od, rfl, ⟨_, SqL.of g10⟩, ?_⟩
    refine foin_it (walk_list (K := K) (a := od) (xs := (orderOf (wayOf ys) xs.length).map fun (i : Nat) => V.int ((l : Int) + i))) (fun i τ G => ∃ v8 v9 v10, τ = [some (.ref a), some (.ref rt), some (.int l), some (.int r), some (.int ((l : Int) + (xs.length : Nat))), some (.ref c), some (.ref wr), some (.ref o), v8, v9, v10, none] ∧ Ext (wo wr G10) (wo wr G) ∧ G wr = some (.lst ((padR l r xs (rowN ns k own es ys xs i)).map V.int))) ⟨none, none, none, rfl, Ext.refl _, x810 _ _ g8⟩ (fun i τ G _ ⟨_, _, _, _, e, _⟩ => SqL.of (wo_get' e nod g10)) ?_ ?_
    · rintro i x τ G G' hi ⟨v8, v9, v10, rfl, e, hw⟩ ⟨rfl, hx⟩
      rw [List.length_map] at hi
      rw [List.getElem?_map, List.getElem?_eq_getElem hi] at hx
      cases (Option.some.inj hx)
      have hj : (orderOf (wayOf ys) xs.length)[i] < xs.length := orderOf_mem.mp (List.getElem_mem hi)
      have hs := rowN_succ (ns := ns) (k := k) (own := own) (es := es) hi
      generalize (orderOf (wayOf ys) xs.length)[i] = j at hj hs
      have hWl := rowN_len (ns := ns) (k := k) (own := own) (es := es) (ys := ys) (xs := xs) (i := i)
      generalize rowN ns k own es ys xs i = W at hw hs hWl
      have ha' := wo_get' e naw (x10 _ _ h9a)
      have ho' := wo_get' e now (x10 _ _ ho)
      have hc' : G' c = some (.lst ((padR l r xs (if wayOf ys = .all then xs else W)).map V.int)) := by
        by_cases hy : wayOf ys = .all
        · rw [if_pos hy]
          exact wo_get' e (fun z => nall hy z.symm) (x810 _ _ (x8 _ _ g7))
        · rw [if_neg hy, ← ynall hy]
          exact hw
      walk_at "rd"
      refine r_cut (fun σ' G2 => ∃ nr : Addr, σ' = [some (.ref a), some (.ref rt), some (.int l), some (.int r), some (.int ((l : Int) + (xs.length : Nat))), some (.ref c), some (.ref wr), some (.ref o), some (.int ((l : Int) + j)), some (.ref nr), v10, none] ∧ Ext G' G2 ∧
        G2 nr = some (.lst (((offs ns own).filter fun o => heldOf es || (decide (0 ≤ (j : Int) + o) && decide ((j : Int) + o < (xs.length : Nat)))).map V.int))) ?_ ?_
      · walk_at "rd"
        refine r_fldV ha' C T.na_Sweep_ends (by with_unfolding_all rfl) ?_
        walk_at "rd"
        refine r_eqS ?_
        walk_at "rd"
        have stay : (∀ o ∈ offs ns own, (heldOf es || (decide (0 ≤ (j : Int) + o) && decide ((j : Int) + o < (xs.length : Nat)))) = true) → ((offs ns own).filter fun o => heldOf es || (decide (0 ≤ (j : Int) + o) && decide ((j : Int) + o < (xs.length : Nat)))) = offs ns own := List.filter_eq_self.mpr
        refine iteD (fun h1 => ?_) (fun h1 => ?_)
        · walk_at "rd"
          have ec : heldOf es = false := by subst h1; rfl
          refine iteD (fun h2 => ?_) (fun h2 => ?_)
          · walk_at "rd"
            refine iteND (fun h3 => ?_) (fun h3 => ?_)
            · walk_at "rd"
              refine r_lc (r_itl ?_)
              walk_at "rd"
              refine ⟨o, rfl, ⟨_, SqL.of ho'⟩, fun L hL => ?_⟩
              refine lc_it (walk_list (K := K) (a := o) (xs := (offs ns own).map V.int)) (fun i G => Ext G' G ∧ G L = some (.lst ((((offs ns own).take i).filter fun o => heldOf es || (decide (0 ≤ (j : Int) + o) && decide ((j : Int) + o < (xs.length : Nat)))).map V.int))) ⟨Ext.new hL, upd_same⟩ (fun i G _ p => SqL.of (p.1 _ _ ho')) ?_ ?_
              · rintro i2 x G G2 hi2 ⟨e2, hg⟩ ⟨rfl, hx⟩
                rw [List.length_map] at hi2
                rw [List.getElem?_map, List.getElem?_eq_getElem hi2] at hx
                cases (Option.some.inj hx)
                refine ⟨rfl, ?_⟩
                walk_at "rd"
                have stop : ((heldOf es || (decide (0 ≤ (j : Int) + (offs ns own)[i2]) && decide ((j : Int) + (offs ns own)[i2] < (xs.length : Nat)))) = true ↔ (0 ≤ (j : Int) + (offs ns own)[i2] ∧ (j : Int) + (offs ns own)[i2] < (xs.length : Nat))) := by
                  rw [ec, Bool.false_or, Bool.and_eq_true, decide_eq_true_eq, decide_eq_true_eq]
                have skip : ¬ (0 ≤ (j : Int) + (offs ns own)[i2] ∧ (j : Int) + (offs ns own)[i2] < (xs.length : Nat)) → Ext G' G2 ∧ G2 L = some (.lst ((((offs ns own).take (i2 + 1)).filter fun o => heldOf es || (decide (0 ≤ (j : Int) + o) && decide ((j : Int) + o < (xs.length : Nat)))).map V.int)) := fun z => by
                  refine ⟨e2, ?_⟩
                  rw [filter_take hi2, if_neg (fun z2 => z (stop.mp z2)), List.append_nil]
                  exact hg
                refine iteD (fun t1 => ?_) (fun t1 => ?_)
                · walk_at "rd"
                  refine iteD (fun t2 => ?_) (fun t2 => ?_)
                  · walk_at "rd"
                    refine ⟨_, hg, ?_, e2.mut hL, ?_⟩
                    · have := List.length_filter_le (fun o => heldOf es || (decide (0 ≤ (j : Int) + o) && decide ((j : Int) + o < (xs.length : Nat)))) ((offs ns own).take i2)
                      rw [List.length_map, sizeLine_eq]
                      rw [List.length_take] at this
                      omega
                    · rw [upd_same, filter_take hi2, if_pos (stop.mpr ⟨by omega, by omega⟩), List.map_append]
                      rfl
                  · exact skip (fun z => t2 (by omega))
                · exact ⟨false, rfl, skip (fun z => t1 (by omega))⟩
              · rintro G ⟨e2, hg⟩
                rw [List.length_map, List.take_length] at hg
                walk_at "rd"
                exact ⟨L, rfl, e2, hg⟩
            · walk_at "rd"
              refine ⟨o, rfl, Ext.refl _, ?_⟩
              rw [stay fun q hq => ?_]
              · exact ho'
              · have := ob hq
                rw [decide_eq_true (by omega : 0 ≤ (j : Int) + q), decide_eq_true (by omega : (j : Int) + q < (xs.length : Nat))]
                simp
          · walk_at "rd"
            refine r_lc (r_itl ?_)
            walk_at "rd"
            refine ⟨o, rfl, ⟨_, SqL.of ho'⟩, fun L hL => ?_⟩
            refine lc_it (walk_list (K := K) (a := o) (xs := (offs ns own).map V.int)) (fun i G => Ext G' G ∧ G L = some (.lst ((((offs ns own).take i).filter fun o => heldOf es || (decide (0 ≤ (j : Int) + o) && decide ((j : Int) + o < (xs.length : Nat)))).map V.int))) ⟨Ext.new hL, upd_same⟩ (fun i G _ p => SqL.of (p.1 _ _ ho')) ?_ ?_
            · rintro i2 x G G2 hi2 ⟨e2, hg⟩ ⟨rfl, hx⟩
              rw [List.length_map] at hi2
              rw [List.getElem?_map, List.getElem?_eq_getElem hi2] at hx
              cases (Option.some.inj hx)
              refine ⟨rfl, ?_⟩
              walk_at "rd"
              have stop : ((heldOf es || (decide (0 ≤ (j : Int) + (offs ns own)[i2]) && decide ((j : Int) + (offs ns own)[i2] < (xs.length : Nat)))) = true ↔ (0 ≤ (j : Int) + (offs ns own)[i2] ∧ (j : Int) + (offs ns own)[i2] < (xs.length : Nat))) := by
                rw [ec, Bool.false_or, Bool.and_eq_true, decide_eq_true_eq, decide_eq_true_eq]
              have skip : ¬ (0 ≤ (j : Int) + (offs ns own)[i2] ∧ (j : Int) + (offs ns own)[i2] < (xs.length : Nat)) → Ext G' G2 ∧ G2 L = some (.lst ((((offs ns own).take (i2 + 1)).filter fun o => heldOf es || (decide (0 ≤ (j : Int) + o) && decide ((j : Int) + o < (xs.length : Nat)))).map V.int)) := fun z => by
                refine ⟨e2, ?_⟩
                rw [filter_take hi2, if_neg (fun z2 => z (stop.mp z2)), List.append_nil]
                exact hg
              refine iteD (fun t1 => ?_) (fun t1 => ?_)
              · walk_at "rd"
                refine iteD (fun t2 => ?_) (fun t2 => ?_)
                · walk_at "rd"
                  refine ⟨_, hg, ?_, e2.mut hL, ?_⟩
                  · have := List.length_filter_le (fun o => heldOf es || (decide (0 ≤ (j : Int) + o) && decide ((j : Int) + o < (xs.length : Nat)))) ((offs ns own).take i2)
                    rw [List.length_map, sizeLine_eq]
                    rw [List.length_take] at this
                    omega
                  · rw [upd_same, filter_take hi2, if_pos (stop.mpr ⟨by omega, by omega⟩), List.map_append]
                    rfl
                · exact skip (fun z => t2 (by omega))
              · exact ⟨false, rfl, skip (fun z => t1 (by omega))⟩
            · rintro G ⟨e2, hg⟩
              rw [List.length_map, List.take_length] at hg
              walk_at "rd"
              exact ⟨L, rfl, e2, hg⟩
        · walk_at "rd"
          refine ⟨o, rfl, Ext.refl _, ?_⟩
          have eh : heldOf es = true := by
            rcases g.es with rfl | rfl
            · rfl
            · exact absurd rfl h1
          rw [stay fun q hq => by rw [eh]; rfl]
          exact ho'
      rintro σ' G2 ⟨nr, rfl, x12, hnr⟩
      generalize hnl : ((offs ns own).filter fun o => heldOf es || (decide (0 ≤ (j : Int) + o) && decide ((j : Int) + o < (xs.length : Nat)))) = nl at hnr
      have nlm : ∀ q ∈ nl, q ∈ offs ns own := fun q hq => by rw [← hnl] at hq; exact (List.mem_filter.mp hq).1
      have nll : nl.length ≤ (offs ns own).length := by rw [← hnl]; exact List.length_filter_le _ _
      have hv : valsAt (heldOf es) xs.length j (offs ns own) (hel xs (if wayOf ys = .all then xs else W)) = nl.map fun o => hel xs (if wayOf ys = .all then xs else W) ((j : Int) + o) := by
        unfold valsAt
        rw [hnl]
      walk_at "rd"
      have hw2 := x12 _ _ hw
      have hc2 := x12 _ _ hc'
      have ha2 := x12 _ _ ha'
      have e2 := e.trans (wo_ext x12 (p := wr))
      refine ⟨_, .inl ⟨_, SqL.of hnr, rfl⟩, ?_⟩
      by_cases hn0 : nl = []
      · rw [hn0]
        refine iteF ?_
        refine ⟨_, _, _, rfl, e2, ?_⟩
        rw [hs]
        unfold swStep
        rw [hv, hn0]
        show G2 wr = some (.lst ((padR l r xs (W.set j (W.getD j 0))).map V.int))
        rw [set_getD]
        exact hw2
      · refine iteT' (by cases nl with
          | nil => exact absurd rfl hn0
          | cons a b => rfl) ?_
        walk_at "rd"
        refine r_lc (r_itl ?_)
        walk_at "rd"
        refine ⟨nr, rfl, ⟨_, SqL.of hnr⟩, fun L hL => ?_⟩
        refine lcin_map (xs := nl.map V.int) (walk_list (K := K) (a := nr) (xs := nl.map V.int)) (mapI fun o => hel xs (if wayOf ys = .all then xs else W) ((j : Int) + o)) (fun H' e => SqL.of (e _ _ hnr)) (by rw [List.length_map]; omega) (fun x => rfl) (fun i2 x H' hx e3 Q2 q2 => ?_) (fun L H' hL2 e3 hl' => ?_) hL
        · obtain ⟨o2, ho2, rfl⟩ := List.mem_map.mp (List.mem_of_getElem? hx)
          have b2 := ob (nlm _ ho2)
          have c3 := e3 _ _ hc2
          walk_at "rd"
          refine r_ixQL c3 (at_get (v := hel xs (if wayOf ys = .all then xs else W) ((j : Int) + o2)) (by omega) ?_) ?_
          · have hCl : (if wayOf ys = .all then xs else W).length = xs.length := by
              split
              · rfl
              · exact hWl
            rw [Int.add_assoc]
            exact padR_get (by omega) (by rw [hCl]; omega)
          · exact q2 _ (Ext.refl _)
        · rw [map_mapI, ← hv] at hl'
          generalize hVs : valsAt (heldOf es) xs.length j (offs ns own) (hel xs (if wayOf ys = .all then xs else W)) = Vs at hl' hv
          have hVl : 1 ≤ Vs.length := by
            rw [hv, List.length_map]
            exact List.length_pos_iff.mpr hn0
          have hVne : Vs ≠ [] := fun z => by rw [z] at hVl; exact absurd hVl (by decide)
          have k1 := g.k1
          walk_at "rd"
          refine ⟨L, Vs, rfl, rfl, SqL.of hl', fun p fp => ?_⟩
          generalize hG3 : upd H' p (HO.lst ((srt Vs).map V.int)) = G3
          obtain ⟨x3, g3⟩ : Ext H' G3 ∧ G3 p = some (HO.lst ((srt Vs).map V.int)) := by rw [← hG3]; exact ⟨Ext.new fp, upd_same⟩
          have ha3 := x3 _ _ (e3 _ _ ha2)
          have hw3 := x3 _ _ (e3 _ _ hw2)
          walk_at "rd"
          refine r_fldV ha3 C T.na_Sweep_rank (by with_unfolding_all rfl) ?_
          walk_at "rd"
          refine r_min ?_
          walk_at "rd"
          rw [List.length_map, srt_len]
          refine r_ixQL g3 (at_getD (by omega) (by rw [srt_len]; omega)) ?_
          walk_at "rd"
          refine r_setL hw3 (j := l + j) (by rw [List.length_map, padR_len]; exact Evl.ixN_nat (by omega)) ?_
          refine ⟨_, _, _, rfl, ?_, ?_⟩
          · exact e2.trans ((wo_ext (e3.trans x3)).trans wo_upd)
          · rw [upd_same, hs, ← List.map_set, padR_set (by omega)]
            unfold swStep
            rw [hVs]
            unfold pick
            rw [if_neg hVne]
    · rintro τ G ⟨v8, v9, v10, rfl, e, hw⟩
      rw [List.length_map, orderOf_len, rowN_end] at hw
      walk_at "rd"
      refine ⟨.int l, rfl, _, rfl, .int ((l : Int) + (xs.length : Nat)), rfl, _, rfl, wr, _, rfl, SqL.of hw, fun p fp => ?_⟩
      have hcut : cutV ((padR l r xs (swept ns k own es ys xs)).map V.int) (some (l : Int)) (some ((l : Int) + (xs.length : Nat))) = (swept ns k own es ys xs).map V.int := by
        rw [show ((l : Int) + (xs.length : Nat)) = ((l + xs.length : Nat) : Int) by omega, cutV_mid (by omega) (by rw [List.length_map, padR_len, swept_len]; omega), ← List.map_drop, ← List.map_take, show l + xs.length - l = (swept ns k own es ys xs).length by rw [swept_len]; omega, padR_mid]
      rw [hcut]
      generalize hG' : upd G p (HO.lst ((swept ns k own es ys xs).map V.int)) = G'
      obtain ⟨x11, g11⟩ : Ext G G' ∧ G' p = some (HO.lst ((swept ns k own es ys xs).map V.int)) := by rw [← hG']; exact ⟨Ext.new fp, upd_same⟩
      walk_at "rd"
      refine r_tupL (SqL.of g11) fun q fq => ?_
      have x0 : Ext H G := wo_offE hwH (x08.trans x810) e
      exact kk q _ (x0.trans (x11.trans (Ext.new fq))) upd_same
end
end Rk

namespace Rk
open PySem ClX Own
open L2 hiding Ext
local macro_rules | `(tactic| walk_at "side") => `(tactic| first | exact trivial | (show (0:Int) < _; first | assumption | decide | omega) | exact Or.inl ⟨by decide, by decide⟩ | exact Or.inl ⟨by omega, by omega⟩ | exact Or.inr ⟨by decide, by decide⟩ | exact ⟨by decide, by decide⟩ | exact ⟨by decide, by decide, by decide⟩ | exact ⟨by omega, by omega⟩)
local macro_rules | `(tactic| walk_at "rd") => `(tactic| repeat (with_reducible first | refine r_next ?_ | refine r_ret ?_ | refine r_seq ?_ | refine r_asg ?_ | refine r_drop ?_ | refine r_call ?_ | refine r_cons ?_ | refine r_nil ?_ | refine r_cb ?_ | refine r_op ?_ | refine r_sset ?_ | refine r_var (by with_unfolding_all rfl) ?_ | refine r_c ?_ | refine r_name ?_ | refine r_I0 ?_ | (refine r_I ?_ ?_; focus (with_unfolding_all walk_at "side")) | refine r_un ?_ | refine r_U ?_ | refine r_if ?_ | refine r_ifE ?_ | refine r_test ?_ | refine r_B ?_ | refine r_bl ?_ | refine r_not ?_ | refine r_and ?_ | refine r_or ?_ | refine r_andV ?_ | refine r_orV ?_ | refine r_notV ?_ | refine r_eqI ?_ | refine r_neI ?_ | refine r_tup ?_ | refine r_lst ?_ | refine r_sub ?_ | refine r_intI ?_ | refine r_intB ?_ | refine r_abs ?_ | refine r_max ?_ | refine r_ixL (SqL.of (by assumption)) (by with_unfolding_all rfl) ?_ | refine r_ixT (SqT.of (by assumption)) (by with_unfolding_all rfl) ?_ | refine r_ixQL (by assumption) (by with_unfolding_all rfl) ?_ | refine r_ixQT (by assumption) (by with_unfolding_all rfl) ?_ | refine r_ckw ?_ | refine r_callN ?_ | refine r_makeS ?_ | refine r_make ?_ | refine r_makeK ?_ | refine r_methA ?_ | refine r_pcons ?_ | refine r_pnil ?_ | refine r_dget ?_ | refine r_isN ?_ | refine r_notN ?_ | refine r_fld ?_ | refine r_sfld ?_ | refine r_lenL (SqL.of (by assumption)) ?_ | refine r_lenT (SqT.of (by assumption)) ?_ | refine r_callS ?_ | refine r_cutnx ?_ | refine r_cutrt ?_ | refine r_chain ?_ | refine r_yes ?_ | refine iteT ?_ | refine iteF ?_ | refine iteNF ?_ | refine iteNT ?_ | refine r_truth ?_ | refine r_truI ?_ | refine r_sliceV ?_ | refine r_for ?_ | refine r_rng1 ?_ | (refine r_i1 ?_ ?_; focus (with_unfolding_all walk_at "side"))))
/-- a chain that is no sweep, as it stands -/
def NodeAt (C : Addr) (H : Hp) (c : Ch) (a : Addr) (ps : List V) : Prop := ∃ (dx pt rt : Addr), H a = some (.ins C dx (chainFs c.kind pt c.times c.size c.depth rt c.written (optS c.dir))) ∧ H pt = some (.tup ps) ∧ H rt = some (.tup [.int c.reach.1, .int c.reach.2])
theorem NodeAt.ext {C : Addr} {H H' : Hp} {c : Ch} {a : Addr} {ps : List V} (h : NodeAt C H c a ps) (e : Ext H H') : NodeAt C H' c a ps := by
  obtain ⟨dx, pt, rt, h1, h2, h3⟩ := h
  exact ⟨dx, pt, rt, e _ _ h1, e _ _ h2, e _ _ h3⟩
def ChAt (S C : Addr) (H : Hp) : Ch → Addr → Prop
  | .sw ns k own es ys, a => SweepAt S H a ns k own es ys
  | .tu c, a => ∃ b, ChAt S C H c b ∧ NodeAt C H (.tu c) a [.ref b]
  | .mi c, a => ∃ b, ChAt S C H c b ∧ NodeAt C H (.mi c) a [.ref b]
  | .ti n c, a => ∃ b, ChAt S C H c b ∧ NodeAt C H (.ti n c) a [.ref b]
  | .th x y, a => ∃ b b2, ChAt S C H x b ∧ ChAt S C H y b2 ∧ NodeAt C H (.th x y) a [.ref b, .ref b2]
  | .hi x y, a => ∃ b b2, ChAt S C H x b ∧ ChAt S C H y b2 ∧ NodeAt C H (.hi x y) a [.ref b, .ref b2]
  | .lo x y, a => ∃ b b2, ChAt S C H x b ∧ ChAt S C H y b2 ∧ NodeAt C H (.lo x y) a [.ref b, .ref b2]
theorem ChAt.ext {S C : Addr} {H H' : Hp} (e : Ext H H') : ∀ {c : Ch} {a : Addr}, ChAt S C H c a → ChAt S C H' c a
  | .sw .., _, h => SweepAt.ext h e
  | .tu _, _, ⟨b, h1, h2⟩ => ⟨b, h1.ext e, h2.ext e⟩
  | .mi _, _, ⟨b, h1, h2⟩ => ⟨b, h1.ext e, h2.ext e⟩
  | .ti _ _, _, ⟨b, h1, h2⟩ => ⟨b, h1.ext e, h2.ext e⟩
  | .th _ _, _, ⟨b, b2, h1, h2, h3⟩ => ⟨b, b2, h1.ext e, h2.ext e, h3.ext e⟩
  | .hi _ _, _, ⟨b, b2, h1, h2, h3⟩ => ⟨b, b2, h1.ext e, h2.ext e, h3.ext e⟩
  | .lo _ _, _, ⟨b, b2, h1, h2, h3⟩ => ⟨b, b2, h1.ext e, h2.ext e, h3.ext e⟩
section
variable {P : Program} {w : World} {K : PySem.W.Frag} {mg : Str → Option Value} {base : Heap} {D : Ad}
theorem fine_Chain (T : Txt w K mg D) : Fine K D.c_Chain := ⟨T.cl_Chain, T.na_Chain_kind, T.na_Chain_parts, T.na_Chain_times, T.na_Chain_size, T.na_Chain_depth, T.na_Chain_reach, T.na_Chain_written, T.na_Chain_direction⟩
/-- the fields of a chain, of any kind -/
structure FldsAt (K : PySem.W.Frag) (S C : Addr) (H : Hp) (c : Ch) (a X dx pt rt : Addr) (fs : List (Str × V)) : Prop where
  ins : H a = some (.ins X dx fs)
  fine : Fine K X
  cls : X = S ∨ X = C
  kind : lk "kind" fs = some (.str c.kind)
  parts : lk "parts" fs = some (.ref pt)
  times : lk "times" fs = some (.int c.times)
  size : lk "size" fs = some (.int c.size)
  depth : lk "depth" fs = some (.int c.depth)
  reach : lk "reach" fs = some (.ref rt)
  written : lk "written" fs = some (.int c.written)
  dir : lk "direction" fs = some (optS c.dir)
  rt : H rt = some (.tup [.int c.reach.1, .int c.reach.2])
theorem NodeAt.flds {K : PySem.W.Frag} {S C : Addr} (F : Fine K C) {H : Hp} {c : Ch} {a : Addr} {ps : List V} (h : NodeAt C H c a ps) : ∃ X dx pt rt fs, FldsAt K S C H c a X dx pt rt fs ∧ H pt = some (.tup ps) := by
  obtain ⟨dx, pt, rt, h1, h2, h3⟩ := h
  exact ⟨C, dx, pt, rt, _, ⟨h1, F, .inr rfl, by with_unfolding_all rfl, by with_unfolding_all rfl, by with_unfolding_all rfl, by with_unfolding_all rfl, by with_unfolding_all rfl, by with_unfolding_all rfl, by with_unfolding_all rfl, by with_unfolding_all rfl, h3⟩, h2⟩
theorem ChAt.flds {K : PySem.W.Frag} {S C : Addr} (FS : Fine K S) (F : Fine K C) {H : Hp} : ∀ {c : Ch} {a : Addr}, ChAt S C H c a → ∃ X dx pt rt fs, FldsAt K S C H c a X dx pt rt fs
  | .sw .., _, ⟨dx, t, pt, rt, h1, h2, h3, h4⟩ => ⟨S, dx, pt, rt, _, ⟨h1, FS, .inl rfl, by with_unfolding_all rfl, by with_unfolding_all rfl, by with_unfolding_all rfl, by with_unfolding_all rfl, by with_unfolding_all rfl, by with_unfolding_all rfl, by with_unfolding_all rfl, by with_unfolding_all rfl, h4⟩⟩
  | .tu _, _, ⟨_, _, h⟩ => let ⟨X, dx, pt, rt, fs, f, _⟩ := h.flds F; ⟨X, dx, pt, rt, fs, f⟩
  | .mi _, _, ⟨_, _, h⟩ => let ⟨X, dx, pt, rt, fs, f, _⟩ := h.flds F; ⟨X, dx, pt, rt, fs, f⟩
  | .ti _ _, _, ⟨_, _, h⟩ => let ⟨X, dx, pt, rt, fs, f, _⟩ := h.flds F; ⟨X, dx, pt, rt, fs, f⟩
  | .th _ _, _, ⟨_, _, _, _, h⟩ => let ⟨X, dx, pt, rt, fs, f, _⟩ := h.flds F; ⟨X, dx, pt, rt, fs, f⟩
  | .hi _ _, _, ⟨_, _, _, _, h⟩ => let ⟨X, dx, pt, rt, fs, f, _⟩ := h.flds F; ⟨X, dx, pt, rt, fs, f⟩
  | .lo _ _, _, ⟨_, _, _, _, h⟩ => let ⟨X, dx, pt, rt, fs, f, _⟩ := h.flds F; ⟨X, dx, pt, rt, fs, f⟩
def negI (x : Int) : Int := -x
def spNeg : Sp := fun vs H Q _ => ∃ (a : Addr) (ns : List Int), vs = [.ref a] ∧ H a = some (.tup (ns.map V.int)) ∧ ns.length ≤ 1000 ∧ ∀ q H', Ext H H' → H' q = some (.tup ((ns.map fun x => -x).map V.int)) → Q (.ref q) H'
theorem ok_negated (T : Txt w K mg D) : FnOk P w K mg base CX0 1 D.a_negated D.d_negated ["row"] spNeg := by
  refine T.F_negated.ok sc_negated (fun vs H Q E h => ?_) (fun cdv A outer s H vs Q E hr h => ?_)
  · obtain ⟨a, ns, rfl, _⟩ := h
    rfl
  · obtain ⟨a, ns, rfl, ha, hl, k⟩ := h
    refine ⟨_, (pss_one (ps_ret (pe_callTy (call_tupleC K) (by rfl) T.n_tuple (by decide +kernel) (pa_cons (pe_lc (own := [("cell", 1)]) (g := gName 1) rfl sc_negated.nd (pi_seqv 0) (blkOk_by (own := [("cell", 1)]) (N := ["row", "cell"]) (sc := defScope s_negated) (by decide +kernel)) (fun _ _ _ _ _ => pg_name (i := 1) sc_negated.nd rfl (Or.inl rfl)) (fun _ _ _ _ _ => pts_nil) (fun _ _ _ _ _ => (pe_un un_neg (pv 1)))) pa_nil)))), ?_⟩
    walk_at "rd"
    refine r_lc (r_seqv rfl (.inr ha) fun J GG wk hG L hL => lcin_map wk (mapI fun x => -x) hG (by rw [List.length_map]; omega) (fun x => rfl) (fun i x H' hx e Q q => ?_) (fun L H' hL2 e hl' => ?_) hL)
    · obtain ⟨v, hv, rfl⟩ := List.mem_map.mp (List.mem_of_getElem? hx)
      walk_at "rd"
      exact q _ (Ext.refl _)
    · rw [map_mapI] at hl'
      walk_at "rd"
      exact r_tupL (SqL.of hl') fun q fq => k q _ (e.trans (Ext.new fq)) upd_same
def spChosen : Sp := fun vs H Q _ => ∃ (a b : Addr) (kd : Str) (ns ms : List Int), vs = [.str kd, .ref a, .ref b] ∧ H a = some (.tup (ns.map V.int)) ∧ H b = some (.tup (ms.map V.int)) ∧ ns.length = ms.length ∧ ns.length ≤ 1000 ∧
  ∀ q H', Ext H H' → H' q = some (.tup ((List.zipWith (if kd = "higher" then gtr else lsr) ns ms).map V.int)) → Q (.ref q) H'
theorem zip_take {f : Int → Int → Int} {ns ms : List Int} {i : Nat} (h1 : i < ns.length) (h2 : i < ms.length) : (List.zipWith f ns ms).take (i + 1) = (List.zipWith f ns ms).take i ++ [f ns[i] ms[i]] := by
  have h : i < (List.zipWith f ns ms).length := by rw [List.length_zipWith]; omega
  rw [List.take_add_one, List.getElem?_eq_getElem h, List.getElem_zipWith]
  rfl
theorem ok_chosen (T : Txt w K mg D) : FnOk P w K mg base CX0 1 D.a_chosen D.d_chosen ["kind", "row", "other"] spChosen := by
  refine T.F_chosen.ok sc_chosen (fun vs H Q E h => ?_) (fun cdv A outer s H vs Q E hr h => ?_)
  · obtain ⟨a, b, kd, ns, ms, rfl, _⟩ := h
    rfl
  · obtain ⟨a, b, kd, ns, ms, rfl, ha, hb, hlen, hl, k⟩ := h
    refine ⟨_, (pss_cons (ps_if (pt_cmpR op_eq (pv 0) pe_str (nomark _))
    (pss_one (ps_ret (pe_callTy (call_tupleC K) (by rfl) T.n_tuple (by decide +kernel) (pa_cons (pe_lc (own := [("a", 3), ("b", 4)]) (g := gTup K 2 (gCons (gName 3) (gCons (gName 4) gNil))) rfl sc_chosen.nd (pi_zipC K (by rfl) T.n_zip (pa_cons (pv 1) (pa_cons (pv 2) pa_nil))) (blkOk_by (own := [("a", 3), ("b", 4)]) (N := ["kind", "row", "other", "a", "b"]) (sc := defScope s_chosen) (by decide +kernel)) (fun _ _ _ _ _ => (pg_tupC K rfl (pgs_cons (pg_name (i := 3) sc_chosen.nd rfl (Or.inl rfl)) (pgs_cons (pg_name (i := 4) sc_chosen.nd rfl (Or.inl rfl)) pgs_nil)))) (fun _ _ _ _ _ => pts_nil) (fun _ _ _ _ _ => (pe_ifExp (pt_cmpR op_gt (pv 3) (pv 4) (nomark _)) (pv 3) (pv 4)))) pa_nil))))
    pss_nil)
  (pss_one (ps_ret (pe_callTy (call_tupleC K) (by rfl) T.n_tuple (by decide +kernel) (pa_cons (pe_lc (own := [("a", 3), ("b", 4)]) (g := gTup K 2 (gCons (gName 3) (gCons (gName 4) gNil))) rfl sc_chosen.nd (pi_zipC K (by rfl) T.n_zip (pa_cons (pv 1) (pa_cons (pv 2) pa_nil))) (blkOk_by (own := [("a", 3), ("b", 4)]) (N := ["kind", "row", "other", "a", "b"]) (sc := defScope s_chosen) (by decide +kernel)) (fun _ _ _ _ _ => (pg_tupC K rfl (pgs_cons (pg_name (i := 3) sc_chosen.nd rfl (Or.inl rfl)) (pgs_cons (pg_name (i := 4) sc_chosen.nd rfl (Or.inl rfl)) pgs_nil)))) (fun _ _ _ _ _ => pts_nil) (fun _ _ _ _ _ => (pe_ifExp (pt_cmpR op_lt (pv 3) (pv 4) (nomark _)) (pv 3) (pv 4)))) pa_nil))))), ?_⟩
    walk_at "rd"
    refine r_eqS ?_
    walk_at "rd"
    refine iteD (fun h1 => ?_) (fun h1 => ?_)
    · rw [if_pos h1] at k
      walk_at "rd"
      refine r_lc (r_zipA ?_)
      walk_at "rd"
      refine ⟨a, b, _, _, rfl, .inr ⟨SqT.of ha, SqT.of hb, fun L hL => ?_⟩⟩
      refine lc_it (walk_zipT (n := ns.length) (by rw [List.length_map, List.length_map, ← hlen, Nat.min_self])) (fun i G => Ext H G ∧ G L = some (.lst (((List.zipWith gtr ns ms).take i).map V.int))) ⟨Ext.new hL, upd_same⟩ (fun i G _ p => ⟨SqT.of (p.1 _ _ ha), SqT.of (p.1 _ _ hb)⟩) ?_ ?_
      · rintro i x G G' hi ⟨e, hg⟩ ⟨q, x1, x2, rfl, hq, rfl, q1, q2⟩
        have hi2 : i < ms.length := by omega
        have q1 : (ns.map V.int)[i]? = some x1 := q1
        have q2 : (ms.map V.int)[i]? = some x2 := q2
        rw [List.getElem?_map, List.getElem?_eq_getElem hi] at q1
        rw [List.getElem?_map, List.getElem?_eq_getElem hi2] at q2
        cases (Option.some.inj q1)
        cases (Option.some.inj q2)
        refine ⟨q, _, rfl, SqT.of upd_same, rfl, _, _, rfl, _, _, rfl, rfl, ?_⟩
        have e2 := Ext.new (o := .tup [.int ns[i], .int ms[i]]) hq
        have tk := zip_take (f := gtr) hi hi2
        have len : ((List.zipWith gtr ns ms).take i).length ≤ 1000 := by rw [List.length_take, List.length_zipWith]; omega
        refine ⟨rfl, ?_⟩
        walk_at "rd"
        refine iteD (fun h2 => ?_) (fun h2 => ?_)
        · walk_at "rd"
          refine ⟨_, e2 _ _ hg, by rw [List.length_map, sizeLine_eq]; omega, (e.trans e2).mut hL, ?_⟩
          rw [upd_same, tk, List.map_append, show gtr ns[i] ms[i] = ns[i] from if_pos h2]
          rfl
        · walk_at "rd"
          refine ⟨_, e2 _ _ hg, by rw [List.length_map, sizeLine_eq]; omega, (e.trans e2).mut hL, ?_⟩
          rw [upd_same, tk, List.map_append, show gtr ns[i] ms[i] = ms[i] from if_neg h2]
          rfl
      · rintro G ⟨e, hg⟩
        rw [List.take_of_length_le (by rw [List.length_zipWith]; omega)] at hg
        walk_at "rd"
        exact r_tupL (SqL.of hg) fun q fq => k q _ (e.trans (Ext.new fq)) upd_same
    · rw [if_neg h1] at k
      walk_at "rd"
      refine r_lc (r_zipA ?_)
      walk_at "rd"
      refine ⟨a, b, _, _, rfl, .inr ⟨SqT.of ha, SqT.of hb, fun L hL => ?_⟩⟩
      refine lc_it (walk_zipT (n := ns.length) (by rw [List.length_map, List.length_map, ← hlen, Nat.min_self])) (fun i G => Ext H G ∧ G L = some (.lst (((List.zipWith lsr ns ms).take i).map V.int))) ⟨Ext.new hL, upd_same⟩ (fun i G _ p => ⟨SqT.of (p.1 _ _ ha), SqT.of (p.1 _ _ hb)⟩) ?_ ?_
      · rintro i x G G' hi ⟨e, hg⟩ ⟨q, x1, x2, rfl, hq, rfl, q1, q2⟩
        have hi2 : i < ms.length := by omega
        have q1 : (ns.map V.int)[i]? = some x1 := q1
        have q2 : (ms.map V.int)[i]? = some x2 := q2
        rw [List.getElem?_map, List.getElem?_eq_getElem hi] at q1
        rw [List.getElem?_map, List.getElem?_eq_getElem hi2] at q2
        cases (Option.some.inj q1)
        cases (Option.some.inj q2)
        refine ⟨q, _, rfl, SqT.of upd_same, rfl, _, _, rfl, _, _, rfl, rfl, ?_⟩
        have e2 := Ext.new (o := .tup [.int ns[i], .int ms[i]]) hq
        have tk := zip_take (f := lsr) hi hi2
        have len : ((List.zipWith lsr ns ms).take i).length ≤ 1000 := by rw [List.length_take, List.length_zipWith]; omega
        refine ⟨rfl, ?_⟩
        walk_at "rd"
        refine iteD (fun h2 => ?_) (fun h2 => ?_)
        · walk_at "rd"
          refine ⟨_, e2 _ _ hg, by rw [List.length_map, sizeLine_eq]; omega, (e.trans e2).mut hL, ?_⟩
          rw [upd_same, tk, List.map_append, show lsr ns[i] ms[i] = ns[i] from if_pos h2]
          rfl
        · walk_at "rd"
          refine ⟨_, e2 _ _ hg, by rw [List.length_map, sizeLine_eq]; omega, (e.trans e2).mut hL, ?_⟩
          rw [upd_same, tk, List.map_append, show lsr ns[i] ms[i] = ms[i] from if_neg h2]
          rfl
      · rintro G ⟨e, hg⟩
        rw [List.take_of_length_le (by rw [List.length_zipWith]; omega)] at hg
        walk_at "rd"
        exact r_tupL (SqL.of hg) fun q fq => k q _ (e.trans (Ext.new fq)) upd_same
end
end Rk

namespace Rk
open PySem ClX Own
open L2 hiding Ext
local macro_rules | `(tactic| walk_at "side") => `(tactic| first | exact trivial | (show (0:Int) < _; first | assumption | decide | omega) | exact Or.inl ⟨by decide, by decide⟩ | exact Or.inl ⟨by omega, by omega⟩ | exact Or.inr ⟨by decide, by decide⟩ | exact ⟨by decide, by decide⟩ | exact ⟨by decide, by decide, by decide⟩ | exact ⟨by omega, by omega⟩)
local macro_rules | `(tactic| walk_at "rd") => `(tactic| repeat (with_reducible first | refine r_next ?_ | refine r_ret ?_ | refine r_seq ?_ | refine r_asg ?_ | refine r_drop ?_ | refine r_call ?_ | refine r_cons ?_ | refine r_nil ?_ | refine r_cb ?_ | refine r_op ?_ | refine r_sset ?_ | refine r_var (by with_unfolding_all rfl) ?_ | refine r_c ?_ | refine r_name ?_ | refine r_I0 ?_ | (refine r_I ?_ ?_; focus (with_unfolding_all walk_at "side")) | refine r_un ?_ | refine r_U ?_ | refine r_if ?_ | refine r_ifE ?_ | refine r_test ?_ | refine r_B ?_ | refine r_bl ?_ | refine r_not ?_ | refine r_and ?_ | refine r_or ?_ | refine r_andV ?_ | refine r_orV ?_ | refine r_notV ?_ | refine r_eqI ?_ | refine r_neI ?_ | refine r_tup ?_ | refine r_lst ?_ | refine r_sub ?_ | refine r_intI ?_ | refine r_intB ?_ | refine r_abs ?_ | refine r_max ?_ | refine r_ixL (SqL.of (by assumption)) (by with_unfolding_all rfl) ?_ | refine r_ixT (SqT.of (by assumption)) (by with_unfolding_all rfl) ?_ | refine r_ixQL (by assumption) (by with_unfolding_all rfl) ?_ | refine r_ixQT (by assumption) (by with_unfolding_all rfl) ?_ | refine r_ckw ?_ | refine r_callN ?_ | refine r_makeS ?_ | refine r_make ?_ | refine r_makeK ?_ | refine r_methA ?_ | refine r_pcons ?_ | refine r_pnil ?_ | refine r_dget ?_ | refine r_isN ?_ | refine r_notN ?_ | refine r_fld ?_ | refine r_sfld ?_ | refine r_lenL (SqL.of (by assumption)) ?_ | refine r_lenT (SqT.of (by assumption)) ?_ | refine r_callS ?_ | refine r_cutnx ?_ | refine r_cutrt ?_ | refine r_chain ?_ | refine r_yes ?_ | refine iteT ?_ | refine iteF ?_ | refine iteNF ?_ | refine iteNT ?_ | refine r_truth ?_ | refine r_truI ?_ | refine r_sliceV ?_ | refine r_for ?_ | refine r_rng1 ?_ | (refine r_i1 ?_ ?_; focus (with_unfolding_all walk_at "side"))))
section
variable {P : Program} {w : World} {K : PySem.W.Frag} {mg : Str → Option Value} {base : Heap} {D : Ad}
def spMade (D : Ad) (d : Nat) : Sp := fun vs H Q _ => ∃ (c : Ch) (a rt : Addr) (xs : List Int), vs = [.ref a, .ref rt, .ref D.a_filtered] ∧ ChAt D.c_Sweep D.c_Chain H c a ∧ c.good ∧ c.hgt ≤ d ∧ H rt = some (.tup (xs.map V.int)) ∧ 1 ≤ xs.length ∧ xs.length ≤ 1000 ∧
  ∀ q H', Ext H H' → H' q = some (.tup ((c.run xs).map V.int)) → Q (.ref q) H'
theorem spMade_zero {vs : List V} {H : Hp} {Q : VK} {E : XK} (h : spMade D 0 vs H Q E) : False := by
  obtain ⟨c, a, rt, xs, -, -, -, hd, -⟩ := h
  have := Ch.hgt_pos c
  omega
theorem ok_madeD (T : Txt w K mg D) : ∀ d, FnOk P w K mg base CX0 (d + 3) D.a_made D.d_made ["chain", "row", "step"] (spMade D d)
  | 0 => ⟨fun _ _ _ _ h => (spMade_zero h).elim, fun _ _ _ _ _ _ _ _ _ _ _ _ _ h => (spMade_zero h).elim⟩
  | d + 1 => by
    have ih := ok_madeD T d
    refine T.F_made.ok (k := d + 3) sc_made (fun vs H Q E h => ?_) (fun cdv A outer s H vs Q E hr h => ?_)
    · obtain ⟨c, a, rt, xs, rfl, _⟩ := h
      rfl
    obtain ⟨c, a, rt, xs, rfl, hc, g, hd, hrow, n1, n2, kk⟩ := h
    refine ⟨_, (pss_cons (ps_if (pt_cmpR op_eq (pe_fldC K (pv 0)) pe_str (nomark _))
    (pss_one (ps_ret (pe_callL (i := 2) (ok_filtered T) (hr.mono (by omega)) rfl (.inl rfl) T.F_filtered.kp T.b_filtered .nil pass0 (pa_cons (pv 0) (pa_cons (pv 1) pa_nil)))))
    pss_nil)
  (pss_cons (ps_set (i := 3) sc_made.nd rfl (Or.inl rfl) (pe_ix (ix_seqC K) (pe_fldC K (pv 0)) pe_int (fun _ _ => rfl)))
  (pss_cons (ps_if (pt_cmpR op_eq (pe_fldC K (pv 0)) pe_str (nomark _))
    (pss_one (ps_ret (pe_call (ok_negated T) (hr.mono (by omega)) (by rfl) T.g_negated T.F_negated.kp T.b_negated .nil pass0 (pa_cons (pe_call ih (hr.mono (by omega)) (by rfl) T.g_made T.F_made.kp T.b_made .nil pass0 (pa_cons (pv 3) (pa_cons (pe_call (ok_negated T) (hr.mono (by omega)) (by rfl) T.g_negated T.F_negated.kp T.b_negated .nil pass0 (pa_cons (pv 1) pa_nil)) (pa_cons (pv 2) pa_nil)))) pa_nil))))
    pss_nil)
  (pss_cons (ps_if (pt_cmpR op_eq (pe_fldC K (pv 0)) pe_str (nomark _))
    (pss_one (ps_ret (pe_revS K (pe_call ih (hr.mono (by omega)) (by rfl) T.g_made T.F_made.kp T.b_made .nil pass0 (pa_cons (pv 3) (pa_cons (pe_revS K (pv 1)) (pa_cons (pv 2) pa_nil)))))))
    pss_nil)
  (pss_cons (ps_if (pt_cmpR op_eq (pe_fldC K (pv 0)) pe_str (nomark _))
    (pss_cons (ps_for PassesOwn.never rfl (pi_range1 rfl T.n_range (pa_cons (pe_fldC K (pv 0)) pa_nil)) (pg_name (i := 4) sc_made.nd rfl (Or.inl rfl))
      (pss_one (ps_set (i := 1) sc_made.nd rfl (Or.inl rfl) (pe_call ih (hr.mono (by omega)) (by rfl) T.g_made T.F_made.kp T.b_made .nil pass0 (pa_cons (pv 3) (pa_cons (pv 1) (pa_cons (pv 2) pa_nil)))))))
    (pss_one (ps_ret (pv 1))))
    pss_nil)
  (pss_cons (ps_set (i := 5) sc_made.nd rfl (Or.inl rfl) (pe_ix (ix_seqC K) (pe_fldC K (pv 0)) pe_int (fun _ _ => rfl)))
  (pss_cons (ps_if (pt_cmpR op_eq (pe_fldC K (pv 0)) pe_str (nomark _))
    (pss_one (ps_ret (pe_call ih (hr.mono (by omega)) (by rfl) T.g_made T.F_made.kp T.b_made .nil pass0 (pa_cons (pv 5) (pa_cons (pe_call ih (hr.mono (by omega)) (by rfl) T.g_made T.F_made.kp T.b_made .nil pass0 (pa_cons (pv 3) (pa_cons (pv 1) (pa_cons (pv 2) pa_nil)))) (pa_cons (pv 2) pa_nil))))))
    pss_nil)
  (pss_one (ps_ret (pe_call (ok_chosen T) (hr.mono (by omega)) (by rfl) T.g_chosen T.F_chosen.kp T.b_chosen .nil pass0 (pa_cons (pe_fldC K (pv 0)) (pa_cons (pe_call ih (hr.mono (by omega)) (by rfl) T.g_made T.F_made.kp T.b_made .nil pass0 (pa_cons (pv 3) (pa_cons (pv 1) (pa_cons (pv 2) pa_nil)))) (pa_cons (pe_call ih (hr.mono (by omega)) (by rfl) T.g_made T.F_made.kp T.b_made .nil pass0 (pa_cons (pv 5) (pa_cons (pv 1) (pa_cons (pv 2) pa_nil)))) pa_nil))))))))))))), ?_⟩
    match c, hc, g, hd, kk with
    | .sw ns k own es ys, hc, g, hd, kk =>
      obtain ⟨dx, t, pt, ct, ha, ht, hpt, hct⟩ := id hc
      walk_at "rd"
      refine r_fldV ha T.cl_Sweep T.na_Sweep_kind (by with_unfolding_all rfl) ?_
      walk_at "rd"
      refine r_eqS ?_
      walk_at "rd"
      refine iteT' (decide_eq_true rfl) ?_
      walk_at "rd"
      refine r_callL rfl ?_
      walk_at "rd"
      exact ⟨a, rt, ns, k, own, es, ys, xs, rfl, hc, g.1, hrow, n1, n2, kk⟩
    | .tu x, hc, g, hd, kk =>
      obtain ⟨b, hb, hn⟩ := hc
      obtain ⟨X, dx, pt, rt2, fs, f, hp⟩ := hn.flds (S := D.c_Sweep) (fine_Chain T)
      have fk : lk "kind" fs = some (.str "turned") := f.kind
      have hd : x.hgt ≤ d := Nat.le_of_succ_le_succ hd
      walk_at "rd"
      refine r_fldV f.ins f.fine.cl f.fine.kind fk ?_
      walk_at "rd"
      refine r_eqS ?_
      walk_at "rd"
      refine iteF' (decide_eq_false (by decide)) ?_
      walk_at "rd"
      refine r_fldV f.ins f.fine.cl f.fine.parts f.parts ?_
      walk_at "rd"
      refine r_fldV f.ins f.fine.cl f.fine.kind fk ?_
      walk_at "rd"
      refine r_eqS ?_
      walk_at "rd"
      refine iteT' (decide_eq_true rfl) ?_
      walk_at "rd"
      refine ⟨rt, xs, rfl, hrow, n2, fun q1 H1 e1 h1 => ?_⟩
      walk_at "rd"
      refine ⟨x, b, q1, _, rfl, hb.ext e1, g.1, hd, h1, by rw [List.length_map]; exact n1, by rw [List.length_map]; exact n2, fun q2 H2 e2 h2 => ?_⟩
      walk_at "rd"
      exact ⟨q2, _, rfl, h2, by rw [Ch.run_len, List.length_map]; exact n2, fun q3 H3 e3 h3 => kk q3 H3 (e1.trans (e2.trans e3)) h3⟩
    | .mi x, hc, g, hd, kk =>
      obtain ⟨b, hb, hn⟩ := hc
      obtain ⟨X, dx, pt, rt2, fs, f, hp⟩ := hn.flds (S := D.c_Sweep) (fine_Chain T)
      have fk : lk "kind" fs = some (.str "mirrored") := f.kind
      have hd : x.hgt ≤ d := Nat.le_of_succ_le_succ hd
      walk_at "rd"
      refine r_fldV f.ins f.fine.cl f.fine.kind fk ?_
      walk_at "rd"
      refine r_eqS ?_
      walk_at "rd"
      refine iteF' (decide_eq_false (by decide)) ?_
      walk_at "rd"
      refine r_fldV f.ins f.fine.cl f.fine.parts f.parts ?_
      walk_at "rd"
      refine r_fldV f.ins f.fine.cl f.fine.kind fk ?_
      walk_at "rd"
      refine r_eqS ?_
      walk_at "rd"
      refine iteF' (decide_eq_false (by decide)) ?_
      walk_at "rd"
      refine r_fldV f.ins f.fine.cl f.fine.kind fk ?_
      walk_at "rd"
      refine r_eqS ?_
      walk_at "rd"
      refine iteT' (decide_eq_true rfl) ?_
      walk_at "rd"
      refine r_revT ?_
      walk_at "rd"
      refine r_revT ?_
      walk_at "rd"
      refine ⟨rt, _, rfl, .inr ⟨SqT.of hrow, fun q1 f1 => ?_⟩⟩
      rw [← List.map_reverse]
      generalize hH1 : upd H q1 (HO.tup (xs.reverse.map V.int)) = H1
      obtain ⟨e1, h1⟩ : Ext H H1 ∧ H1 q1 = some (HO.tup (xs.reverse.map V.int)) := by rw [← hH1]; exact ⟨Ext.new f1, upd_same⟩
      walk_at "rd"
      refine ⟨x, b, q1, _, rfl, hb.ext e1, g.1, hd, h1, by rw [List.length_reverse]; exact n1, by rw [List.length_reverse]; exact n2, fun q2 H2 e2 h2 => ?_⟩
      refine ⟨q2, _, rfl, .inr ⟨SqT.of h2, fun q3 f3 => ?_⟩⟩
      rw [← List.map_reverse]
      exact kk q3 _ (e1.trans (e2.trans (Ext.new f3))) upd_same
    | .ti n x, hc, g, hd, kk =>
      obtain ⟨b, hb, hn⟩ := hc
      obtain ⟨X, dx, pt, rt2, fs, f, hp⟩ := hn.flds (S := D.c_Sweep) (fine_Chain T)
      have fk : lk "kind" fs = some (.str "times") := f.kind
      have hd : x.hgt ≤ d := Nat.le_of_succ_le_succ hd
      walk_at "rd"
      refine r_fldV f.ins f.fine.cl f.fine.kind fk ?_
      walk_at "rd"
      refine r_eqS ?_
      walk_at "rd"
      refine iteF' (decide_eq_false (by decide)) ?_
      walk_at "rd"
      refine r_fldV f.ins f.fine.cl f.fine.parts f.parts ?_
      walk_at "rd"
      refine r_fldV f.ins f.fine.cl f.fine.kind fk ?_
      walk_at "rd"
      refine r_eqS ?_
      walk_at "rd"
      refine iteF' (decide_eq_false (by decide)) ?_
      walk_at "rd"
      refine r_fldV f.ins f.fine.cl f.fine.kind fk ?_
      walk_at "rd"
      refine r_eqS ?_
      walk_at "rd"
      refine iteF' (decide_eq_false (by decide)) ?_
      walk_at "rd"
      refine r_fldV f.ins f.fine.cl f.fine.kind fk ?_
      walk_at "rd"
      refine r_eqS ?_
      walk_at "rd"
      refine iteT' (decide_eq_true rfl) ?_
      walk_at "rd"
      refine r_fldV f.ins f.fine.cl f.fine.times f.times ?_
      walk_at "rd"
      have hn8 := g.2.1
      refine r_i1 (show -(2 ^ 62) ≤ ((n : Nat) : Int) ∧ ((n : Nat) : Int) < 2 ^ 62 by omega) ?_
      refine foin_range (n := ((n : Nat) : Int).toNat) (fun i τ G => ∃ (q : Addr) (v4 : Option V), τ = [some (.ref a), some (.ref q), some (.ref D.a_filtered), some (.ref b), v4, none] ∧ Ext H G ∧ G q = some (.tup ((itr (Ch.run x) i xs).map V.int)) ∧ (itr (Ch.run x) i xs).length = xs.length) ⟨rt, none, rfl, Ext.refl _, hrow, rfl⟩ ?_ ?_
      · rintro i τ G hi ⟨q, v4, rfl, e, hq, hl⟩
        walk_at "rd"
        refine ⟨x, b, q, _, rfl, hb.ext e, g.1, hd, hq, by rw [hl]; exact n1, by rw [hl]; exact n2, fun q2 H2 e2 h2 => ?_⟩
        exact ⟨q2, _, rfl, e.trans e2, h2, (Ch.run_len x _).trans hl⟩
      · rintro τ G ⟨q, v4, rfl, e, hq, hl⟩
        rw [Int.toNat_natCast] at hq
        walk_at "rd"
        exact kk q G e hq
    | .th x y, hc, g, hd, kk =>
      obtain ⟨b, b2, hb, hb2, hn⟩ := hc
      obtain ⟨X, dx, pt, rt2, fs, f, hp⟩ := hn.flds (S := D.c_Sweep) (fine_Chain T)
      have fk : lk "kind" fs = some (.str "then") := f.kind
      have hd : max x.hgt y.hgt ≤ d := Nat.le_of_succ_le_succ hd
      have hd1 : x.hgt ≤ d := by omega
      have hd2 : y.hgt ≤ d := by omega
      walk_at "rd"
      refine r_fldV f.ins f.fine.cl f.fine.kind fk ?_
      walk_at "rd"
      refine r_eqS ?_
      walk_at "rd"
      refine iteF' (decide_eq_false (by decide)) ?_
      walk_at "rd"
      refine r_fldV f.ins f.fine.cl f.fine.parts f.parts ?_
      walk_at "rd"
      refine r_fldV f.ins f.fine.cl f.fine.kind fk ?_
      walk_at "rd"
      refine r_eqS ?_
      walk_at "rd"
      refine iteF' (decide_eq_false (by decide)) ?_
      walk_at "rd"
      refine r_fldV f.ins f.fine.cl f.fine.kind fk ?_
      walk_at "rd"
      refine r_eqS ?_
      walk_at "rd"
      refine iteF' (decide_eq_false (by decide)) ?_
      walk_at "rd"
      refine r_fldV f.ins f.fine.cl f.fine.kind fk ?_
      walk_at "rd"
      refine r_eqS ?_
      walk_at "rd"
      refine iteF' (decide_eq_false (by decide)) ?_
      walk_at "rd"
      refine r_fldV f.ins f.fine.cl f.fine.parts f.parts ?_
      walk_at "rd"
      refine r_fldV f.ins f.fine.cl f.fine.kind fk ?_
      walk_at "rd"
      refine r_eqS ?_
      walk_at "rd"
      refine iteT' (decide_eq_true rfl) ?_
      walk_at "rd"
      refine ⟨x, b, rt, xs, rfl, hb, g.1, hd1, hrow, n1, n2, fun q1 H1 e1 h1 => ?_⟩
      walk_at "rd"
      exact ⟨y, b2, q1, _, rfl, hb2.ext e1, g.2.1, hd2, h1, by rw [Ch.run_len]; exact n1, by rw [Ch.run_len]; exact n2, fun q2 H2 e2 h2 => kk q2 H2 (e1.trans e2) h2⟩
    | .hi x y, hc, g, hd, kk =>
      obtain ⟨b, b2, hb, hb2, hn⟩ := hc
      obtain ⟨X, dx, pt, rt2, fs, f, hp⟩ := hn.flds (S := D.c_Sweep) (fine_Chain T)
      have fk : lk "kind" fs = some (.str "higher") := f.kind
      have hd : max x.hgt y.hgt ≤ d := Nat.le_of_succ_le_succ hd
      have hd1 : x.hgt ≤ d := by omega
      have hd2 : y.hgt ≤ d := by omega
      walk_at "rd"
      refine r_fldV f.ins f.fine.cl f.fine.kind fk ?_
      walk_at "rd"
      refine r_eqS ?_
      walk_at "rd"
      refine iteF' (decide_eq_false (by decide)) ?_
      walk_at "rd"
      refine r_fldV f.ins f.fine.cl f.fine.parts f.parts ?_
      walk_at "rd"
      refine r_fldV f.ins f.fine.cl f.fine.kind fk ?_
      walk_at "rd"
      refine r_eqS ?_
      walk_at "rd"
      refine iteF' (decide_eq_false (by decide)) ?_
      walk_at "rd"
      refine r_fldV f.ins f.fine.cl f.fine.kind fk ?_
      walk_at "rd"
      refine r_eqS ?_
      walk_at "rd"
      refine iteF' (decide_eq_false (by decide)) ?_
      walk_at "rd"
      refine r_fldV f.ins f.fine.cl f.fine.kind fk ?_
      walk_at "rd"
      refine r_eqS ?_
      walk_at "rd"
      refine iteF' (decide_eq_false (by decide)) ?_
      walk_at "rd"
      refine r_fldV f.ins f.fine.cl f.fine.parts f.parts ?_
      walk_at "rd"
      refine r_fldV f.ins f.fine.cl f.fine.kind fk ?_
      walk_at "rd"
      refine r_eqS ?_
      walk_at "rd"
      refine iteF' (decide_eq_false (by decide)) ?_
      walk_at "rd"
      refine r_fldV f.ins f.fine.cl f.fine.kind fk ?_
      walk_at "rd"
      refine ⟨x, b, rt, xs, rfl, hb, g.1, hd1, hrow, n1, n2, fun q1 H1 e1 h1 => ?_⟩
      walk_at "rd"
      refine ⟨y, b2, rt, xs, rfl, hb2.ext e1, g.2.1, hd2, e1 _ _ hrow, n1, n2, fun q2 H2 e2 h2 => ?_⟩
      walk_at "rd"
      exact ⟨q1, q2, "higher", _, _, rfl, e2 _ _ h1, h2, by rw [Ch.run_len, Ch.run_len], by rw [Ch.run_len]; exact n2, fun q3 H3 e3 h3 => kk q3 H3 (e1.trans (e2.trans e3)) h3⟩
    | .lo x y, hc, g, hd, kk =>
      obtain ⟨b, b2, hb, hb2, hn⟩ := hc
      obtain ⟨X, dx, pt, rt2, fs, f, hp⟩ := hn.flds (S := D.c_Sweep) (fine_Chain T)
      have fk : lk "kind" fs = some (.str "lower") := f.kind
      have hd : max x.hgt y.hgt ≤ d := Nat.le_of_succ_le_succ hd
      have hd1 : x.hgt ≤ d := by omega
      have hd2 : y.hgt ≤ d := by omega
      walk_at "rd"
      refine r_fldV f.ins f.fine.cl f.fine.kind fk ?_
      walk_at "rd"
      refine r_eqS ?_
      walk_at "rd"
      refine iteF' (decide_eq_false (by decide)) ?_
      walk_at "rd"
      refine r_fldV f.ins f.fine.cl f.fine.parts f.parts ?_
      walk_at "rd"
      refine r_fldV f.ins f.fine.cl f.fine.kind fk ?_
      walk_at "rd"
      refine r_eqS ?_
      walk_at "rd"
      refine iteF' (decide_eq_false (by decide)) ?_
      walk_at "rd"
      refine r_fldV f.ins f.fine.cl f.fine.kind fk ?_
      walk_at "rd"
      refine r_eqS ?_
      walk_at "rd"
      refine iteF' (decide_eq_false (by decide)) ?_
      walk_at "rd"
      refine r_fldV f.ins f.fine.cl f.fine.kind fk ?_
      walk_at "rd"
      refine r_eqS ?_
      walk_at "rd"
      refine iteF' (decide_eq_false (by decide)) ?_
      walk_at "rd"
      refine r_fldV f.ins f.fine.cl f.fine.parts f.parts ?_
      walk_at "rd"
      refine r_fldV f.ins f.fine.cl f.fine.kind fk ?_
      walk_at "rd"
      refine r_eqS ?_
      walk_at "rd"
      refine iteF' (decide_eq_false (by decide)) ?_
      walk_at "rd"
      refine r_fldV f.ins f.fine.cl f.fine.kind fk ?_
      walk_at "rd"
      refine ⟨x, b, rt, xs, rfl, hb, g.1, hd1, hrow, n1, n2, fun q1 H1 e1 h1 => ?_⟩
      walk_at "rd"
      refine ⟨y, b2, rt, xs, rfl, hb2.ext e1, g.2.1, hd2, e1 _ _ hrow, n1, n2, fun q2 H2 e2 h2 => ?_⟩
      walk_at "rd"
      exact ⟨q1, q2, "lower", _, _, rfl, e2 _ _ h1, h2, by rw [Ch.run_len, Ch.run_len], by rw [Ch.run_len]; exact n2, fun q3 H3 e3 h3 => kk q3 H3 (e1.trans (e2.trans e3)) h3⟩
theorem ok_made (T : Txt w K mg D) : FnOk P w K mg base CX0 23 D.a_made D.d_made ["chain", "row", "step"] (spMade D 20) := ok_madeD T 20
/-- a chain called -/
def spCall (D : Ad) : Sp := fun vs H Q _ => ∃ (c : Ch) (a r : Addr) (xs : List Int), vs = [.ref a, .ref r] ∧ ChAt D.c_Sweep D.c_Chain H c a ∧ c.good ∧ Sq H r (xs.map V.int) ∧ 1 ≤ xs.length ∧ xs.length ≤ 200 ∧
  ∀ q H', Ext H H' → H' q = some (.tup ((c.run xs).map V.int)) → Q (.ref q) H'
theorem ok_Chain__call__ (T : Txt w K mg D) : FnOk P w K mg base CX0 25 D.a_Chain__call__ D.d_Chain__call__ ["self", "row"] (spCall D) := by
  refine T.F_Chain__call__.ok sc_Chain__call__ (fun vs H Q E h => ?_) (fun cdv A outer s H vs Q E hr h => ?_)
  · obtain ⟨c, a, r, xs, rfl, _⟩ := h
    rfl
  · obtain ⟨c, a, r, xs, rfl, hc, g, hr0, n1, n2, kk⟩ := h
    refine ⟨_, (pss_one (ps_ret (pe_call (ok_made T) (hr.mono (by decide)) (by rfl) T.g_made T.F_made.kp T.b_made .nil pass0 (pa_cons (pv 0) (pa_cons (pe_call (ok_row_of T) (hr.mono (by decide)) (by rfl) T.g_row_of T.F_row_of.kp T.b_row_of .nil pass0 (pa_cons (pv 1) pa_nil)) (pa_cons (pe_glob (v := .ref D.a_filtered) rfl T.g_filtered rfl) pa_nil)))))), ?_⟩
    walk_at "rd"
    refine ⟨r, xs, rfl, hr0, n1, n2, fun q H1 e1 h1 => ?_⟩
    walk_at "rd"
    exact ⟨c, a, q, xs, rfl, hc.ext e1, g, g.hgt, h1, n1, by omega, fun q2 H2 e2 h2 => kk q2 H2 (e1.trans e2) h2⟩
end
end Rk

namespace Rk
open PySem ClX Own
open L2 hiding Ext
local macro_rules | `(tactic| walk_at "side") => `(tactic| first | exact trivial | (show (0:Int) < _; first | assumption | decide | omega) | exact Or.inl ⟨by decide, by decide⟩ | exact Or.inl ⟨by omega, by omega⟩ | exact Or.inr ⟨by decide, by decide⟩ | exact ⟨by decide, by decide⟩ | exact ⟨by decide, by decide, by decide⟩ | exact ⟨by omega, by omega⟩)
local macro_rules | `(tactic| walk_at "rd") => `(tactic| repeat (with_reducible first | refine r_next ?_ | refine r_ret ?_ | refine r_seq ?_ | refine r_asg ?_ | refine r_drop ?_ | refine r_call ?_ | refine r_cons ?_ | refine r_nil ?_ | refine r_cb ?_ | refine r_op ?_ | refine r_sset ?_ | refine r_var (by with_unfolding_all rfl) ?_ | refine r_c ?_ | refine r_name ?_ | refine r_I0 ?_ | (refine r_I ?_ ?_; focus (with_unfolding_all walk_at "side")) | refine r_un ?_ | refine r_U ?_ | refine r_if ?_ | refine r_ifE ?_ | refine r_test ?_ | refine r_B ?_ | refine r_bl ?_ | refine r_not ?_ | refine r_and ?_ | refine r_or ?_ | refine r_andV ?_ | refine r_orV ?_ | refine r_notV ?_ | refine r_eqI ?_ | refine r_neI ?_ | refine r_tup ?_ | refine r_lst ?_ | refine r_sub ?_ | refine r_intI ?_ | refine r_intB ?_ | refine r_abs ?_ | refine r_max ?_ | refine r_ixL (SqL.of (by assumption)) (by with_unfolding_all rfl) ?_ | refine r_ixT (SqT.of (by assumption)) (by with_unfolding_all rfl) ?_ | refine r_ixQL (by assumption) (by with_unfolding_all rfl) ?_ | refine r_ixQT (by assumption) (by with_unfolding_all rfl) ?_ | refine r_ckw ?_ | refine r_callN ?_ | refine r_makeS ?_ | refine r_make ?_ | refine r_makeK ?_ | refine r_methA ?_ | refine r_pcons ?_ | refine r_pnil ?_ | refine r_dget ?_ | refine r_isN ?_ | refine r_notN ?_ | refine r_fld ?_ | refine r_sfld ?_ | refine r_lenL (SqL.of (by assumption)) ?_ | refine r_lenT (SqT.of (by assumption)) ?_ | refine r_callS ?_ | refine r_cutnx ?_ | refine r_cutrt ?_ | refine r_chain ?_ | refine r_yes ?_ | refine iteT ?_ | refine iteF ?_ | refine iteNF ?_ | refine iteNT ?_ | refine r_truth ?_ | refine r_truI ?_ | refine r_sliceV ?_ | refine r_for ?_ | refine r_rng1 ?_ | (refine r_i1 ?_ ?_; focus (with_unfolding_all walk_at "side"))))
section
variable {P : Program} {w : World} {K : PySem.W.Frag} {mg : Str → Option Value} {base : Heap} {D : Ad}
theorem ok_NoNumber__init__ (T : Txt w K mg D) : FnOk P w K mg base CX0 1 D.a_NoNumber__init__ D.d_NoNumber__init__ ["self", "name"] (spInit1 D.c_NoNumber "name") := by
  refine T.F_NoNumber__init__.ok sc_NoNumber__init__ (fun vs H Q E h => ?_) (fun cdv A outer s H vs Q E hr h => ?_)
  · obtain ⟨a, v, rfl, _⟩ := h
    rfl
  · obtain ⟨a, v, rfl, ha, k⟩ := h
    refine ⟨_, pss_one (ps_ost (pv 0) (pv 1)), ?_⟩
    exact ⟨v, rfl, _, rfl, a, D.c_NoNumber, rfl, T.x_NoNumber, T.no_NoNumber_name, .inl ⟨ha, fun d n ne => k d n ne⟩⟩
theorem raise_NoNumber {X : Cx} {D : Ad} (T : Txt X.w X.K X.mg D) {e : Expr} {ta : TA} {p pos : Pos} (hr : Room 2 X.A) (ha : PA X [e] ta) (hg : Gl X "NoNumber" := by rfl) (he : starEach (e :: []) X.env = (false, eval e X.env) :: starEach [] X.env := by rfl) :
    PMk X (.Call (.Name "NoNumber" p) [e] [] pos) (tMkO D.c_NoNumber (spInit1 D.c_NoNumber "name") [] ta) :=
  pmk_oex T.x_NoNumber T.i_NoNumber__init__ T.t_NoNumber__init__ (ok_NoNumber__init__ T) hr T.b_NoNumber__init__ .nil pass0 hg T.g_NoNumber ha (by decide) he rfl
end
end Rk

namespace Rk
open PySem ClX Own
open L2 hiding Ext
local macro_rules | `(tactic| walk_at "side") => `(tactic| first | exact trivial | (show (0:Int) < _; first | assumption | decide | omega) | exact Or.inl ⟨by decide, by decide⟩ | exact Or.inl ⟨by omega, by omega⟩ | exact Or.inr ⟨by decide, by decide⟩ | exact ⟨by decide, by decide⟩ | exact ⟨by decide, by decide, by decide⟩ | exact ⟨by omega, by omega⟩)
local macro_rules | `(tactic| walk_at "rd") => `(tactic| repeat (with_reducible first | refine r_next ?_ | refine r_ret ?_ | refine r_seq ?_ | refine r_asg ?_ | refine r_drop ?_ | refine r_call ?_ | refine r_cons ?_ | refine r_nil ?_ | refine r_cb ?_ | refine r_op ?_ | refine r_sset ?_ | refine r_var (by with_unfolding_all rfl) ?_ | refine r_c ?_ | refine r_name ?_ | refine r_I0 ?_ | (refine r_I ?_ ?_; focus (with_unfolding_all walk_at "side")) | refine r_un ?_ | refine r_U ?_ | refine r_if ?_ | refine r_ifE ?_ | refine r_test ?_ | refine r_B ?_ | refine r_bl ?_ | refine r_not ?_ | refine r_and ?_ | refine r_or ?_ | refine r_andV ?_ | refine r_orV ?_ | refine r_notV ?_ | refine r_eqI ?_ | refine r_neI ?_ | refine r_tup ?_ | refine r_lst ?_ | refine r_sub ?_ | refine r_intI ?_ | refine r_intB ?_ | refine r_abs ?_ | refine r_max ?_ | refine r_ixL (SqL.of (by assumption)) (by with_unfolding_all rfl) ?_ | refine r_ixT (SqT.of (by assumption)) (by with_unfolding_all rfl) ?_ | refine r_ixQL (by assumption) (by with_unfolding_all rfl) ?_ | refine r_ixQT (by assumption) (by with_unfolding_all rfl) ?_ | refine r_ckw ?_ | refine r_callN ?_ | refine r_makeS ?_ | refine r_make ?_ | refine r_makeK ?_ | refine r_methA ?_ | refine r_pcons ?_ | refine r_pnil ?_ | refine r_dget ?_ | refine r_isN ?_ | refine r_notN ?_ | refine r_fld ?_ | refine r_sfld ?_ | refine r_lenL (SqL.of (by assumption)) ?_ | refine r_lenT (SqT.of (by assumption)) ?_ | refine r_callS ?_ | refine r_cutnx ?_ | refine r_cutrt ?_ | refine r_chain ?_ | refine r_yes ?_ | refine iteT ?_ | refine iteF ?_ | refine iteNF ?_ | refine iteNT ?_ | refine r_truth ?_ | refine r_truI ?_ | refine r_sliceV ?_ | refine r_for ?_ | refine r_rng1 ?_ | (refine r_i1 ?_ ?_; focus (with_unfolding_all walk_at "side"))))
theorem wo_offC {H H2 H' : Hp} {a : Addr} (h : H a = none) (x : Ext H H2) (e : Ext (wo a H2) (wo a H')) : Ext H H' := fun b o hb => by
  have ne : b ≠ a := fun z => by rw [z, h] at hb; cases hb
  exact wo_get' e ne (x b o hb)
/-- TooLarge goes, or the chain is handed on -/
def Lim (D : Ad) (H : Hp) (z : Ch) (Q : VK) (E : XK) : Prop := (z.limit = none → ∀ q H', Ext H H' → ChAt D.c_Sweep D.c_Chain H' z q → Q (.ref q) H') ∧ ∀ p, z.limit = some p → ∀ d H', Ext H H' → H' d = some (.xd [("part", .str p)]) → E (.ref D.c_TooLarge) (some d) H'
theorem Lim.ext {D : Ad} {H H1 : Hp} {z : Ch} {Q : VK} {E : XK} (h : Lim D H z Q E) (e : Ext H H1) : Lim D H1 z Q E := ⟨fun l q H' x => h.1 l q H' (e.trans x), fun p l d H' x => h.2 p l d H' (e.trans x)⟩
section
variable {P : Program} {w : World} {K : PySem.W.Frag} {mg : Str → Option Value} {base : Heap} {D : Ad}
theorem FldsAt.part {K : PySem.W.Frag} {S C : Addr} {H : Hp} {c : Ch} {a X dx pt rt : Addr} {fs : List (Str × V)} (f : FldsAt K S C H c a X dx pt rt fs) : PartD K H (.ref a) c.depth := ⟨a, X, dx, fs, rfl, f.ins, f.fine, f.depth⟩
/-- a chain that is no sweep is made, or is too large -/
theorem mkNode (T : Txt w K mg D) {H : Hp} {R : Hp → Prop} {E : XK} {a d pt rt : Addr} {kind : Str} {size l r written times : Int} {dir : V} {ps : List V} {ds : List Int} (hpt : H pt = some (.tup ps)) (hrt : H rt = some (.tup [.int l, .int r])) (hlen : ps.length = ds.length) (hds : ds.length ≤ 1000)
    (hps : ∀ (i : Nat) (x : V) (d : Int), ps[i]? = some x → ds[i]? = some d → PartD K H x d) (ha : H a = none) (hd : H d = none) (nda : d ≠ a)
    (kE : ∀ p, brokenLimit size (1 + topD ds) (l + r) written dir = some p → ∀ d H', Ext H H' → H' d = some (.xd [("part", .str p)]) → E (.ref D.c_TooLarge) (some d) H')
    (q : brokenLimit size (1 + topD ds) (l + r) written dir = none → ∀ H', Ext H H' → H' a = some (.ins D.c_Chain d (chainFs kind pt times size (1 + topD ds) rt written dir)) → R H') :
    spChainI K D [.ref a, .str kind, .ref pt, .int size, .ref rt, .int written, dir, .int times] (upd (upd H d (.own a)) a (.ins D.c_Chain d [])) (fun v H3 => v = .non ∧ R H3) E := by
  have x1 : Ext H (upd (upd H d (.own a)) a (.ins D.c_Chain d [])) := (Ext.new hd).mut ha
  refine ⟨a, D.c_Chain, d, pt, rt, [], kind, size, l, r, written, times, dir, ps, ds, rfl, upd_same, fine_Chain T, by decide, fun f _ => rfl, x1 _ _ hpt, hlen, hds, fun i x d h1 h2 => ?_, x1 _ _ hrt, fun p hp d H' e hx => kE p hp d H' (wo_offC ha x1 e) hx, fun nb H' e h' => ⟨rfl, q nb H' (wo_offC ha x1 e) (by rw [List.nil_append] at h'; exact h')⟩⟩
  obtain ⟨b, C, dx, gs, rfl, hb, F, l2⟩ := hps i x d h1 h2
  exact ⟨fun z => (by cases z; rw [ha] at hb; cases hb), b, C, dx, gs, rfl, x1 _ _ hb, F, l2⟩
/-- one part -/
theorem one_part {K : PySem.W.Frag} {H : Hp} {x : V} {d : Int} (h : PartD K H x d) : ∀ (i : Nat) (y : V) (e : Int), [x][i]? = some y → [d][i]? = some e → PartD K H y e
  | 0, _, _, h1, h2 => by cases h1; cases h2; exact h
  | _ + 1, _, _, h1, _ => by cases h1
theorem two_parts {K : PySem.W.Frag} {H : Hp} {x x2 : V} {d d2 : Int} (h : PartD K H x d) (h' : PartD K H x2 d2) : ∀ (i : Nat) (y : V) (e : Int), [x, x2][i]? = some y → [d, d2][i]? = some e → PartD K H y e
  | 0, _, _, h1, h2 => by cases h1; cases h2; exact h
  | 1, _, _, h1, h2 => by cases h1; cases h2; exact h'
  | _ + 2, _, _, h1, _ => by cases h1
theorem lim_at (z : Ch) {size depth reach written : Int} {dir : V} (h1 : z.size = size) (h2 : z.depth = depth) (h3 : z.reach.1 + z.reach.2 = reach) (h4 : z.written = written) (h5 : optS z.dir = dir) : brokenLimit size depth reach written dir = z.limit := by
  subst h1 h2 h3 h4 h5
  rfl
def spNode1 (D : Ad) (z : Ch → Ch) : Sp := fun vs H Q E => ∃ (c : Ch) (a : Addr), vs = [.ref a] ∧ ChAt D.c_Sweep D.c_Chain H c a ∧ c.good ∧ Lim D H (z c) Q E
theorem ok_Chainmirrored (T : Txt w K mg D) : FnOk P w K mg base (L2.CX P w) 5 D.a_Chainmirrored D.d_Chainmirrored ["self"] (spNode1 D Ch.mi) := by
  refine T.F_Chainmirrored.okX sc_Chainmirrored (fun vs H Q E h => ?_) (fun cdv A outer s H vs Q E hr h => ?_)
  · obtain ⟨c, a, rfl, _⟩ := h
    rfl
  · obtain ⟨c, a, rfl, hc, g, k, kE⟩ := h
    obtain ⟨X, dx, pt, rt, fs, f⟩ := hc.flds (fine_Sweep T) (fine_Chain T)
    obtain ⟨s, hs, d3⟩ := g.dir
    refine ⟨_, (pss_one (ps_ret (pe_makeS (ks := ["size", "reach", "written", "direction"]) (n := 2) T.mk_Chain (ok_Chain__init__ T) (hr.mono (by decide)) (by rfl) T.g_Chain (kb_Chain__init___3_size_reach_written_direction T).choose_spec (passAll passE) (pa_cons pe_str (pa_cons (pe_tup (pa_cons (pv 0) pa_nil)) pa_nil)) (pk_cons (pe_fldC K (pv 0)) (pk_cons (pe_tup (pa_cons (pe_ix (ix_seqC K) (pe_fldC K (pv 0)) pe_int (fun _ _ => rfl)) (pa_cons (pe_ix (ix_seqC K) (pe_fldC K (pv 0)) pe_int (fun _ _ => rfl)) pa_nil))) (pk_cons (pe_fldC K (pv 0)) (pk_cons (pe_ix (ix_kdictC K w) (pe_glob (v := .ref D.k_MIRRORED_DIRECTION) rfl T.c_MIRRORED_DIRECTION rfl) (pe_fldC K (pv 0)) (fun _ _ => rfl)) pk_nil))))))), ?_⟩
    walk_at "rd"
    refine r_size (by show 1 ≤ 1000; decide) fun p1 fp => ?_
    generalize hG1 : upd H p1 (HO.tup [V.ref a]) = G1
    obtain ⟨x1, g1⟩ : Ext H G1 ∧ G1 p1 = some (HO.tup [V.ref a]) := by rw [← hG1]; exact ⟨Ext.new fp, upd_same⟩
    have i1 := x1 _ _ f.ins
    have rt1 := x1 _ _ f.rt
    walk_at "rd"
    refine r_fldV i1 f.fine.cl f.fine.size f.size ?_
    walk_at "rd"
    refine r_fldV i1 f.fine.cl f.fine.reach f.reach ?_
    walk_at "rd"
    refine r_fldV i1 f.fine.cl f.fine.reach f.reach ?_
    walk_at "rd"
    refine r_size (by show 2 ≤ 1000; decide) fun r2 f2 => ?_
    generalize hG2 : upd G1 r2 (HO.tup [V.int c.reach.2, V.int c.reach.1]) = G2
    obtain ⟨x2, g2⟩ : Ext G1 G2 ∧ G2 r2 = some (HO.tup [V.int c.reach.2, V.int c.reach.1]) := by rw [← hG2]; exact ⟨Ext.new f2, upd_same⟩
    have i2 := x2 _ _ i1
    have fd : lk "direction" fs = some (.str s) := by
      rw [f.dir, hs]
      rfl
    have kd : KDct K w D.k_MIRRORED_DIRECTION s (.str (mirD s)) := by
      rcases d3 with rfl | rfl | rfl
      · exact T.d_MIRRORED_DIRECTION_all
      · exact T.d_MIRRORED_DIRECTION_on
      · exact T.d_MIRRORED_DIRECTION_back
    have hdir : (Ch.mi c).dir = some (mirD s) := by
      show c.dir.map mirD = _
      rw [hs]
      rfl
    have hc2 := hc.ext (x1.trans x2)
    obtain ⟨X', dx', pt', rt', fs', f'⟩ := hc2.flds (fine_Sweep T) (fine_Chain T)
    walk_at "rd"
    refine r_fldV i2 f.fine.cl f.fine.written f.written ?_
    walk_at "rd"
    refine r_fldV i2 f.fine.cl f.fine.direction fd ?_
    refine r_ixD kd ?_
    walk_at "rd"
    have e0 := lim_at (Ch.mi c) (dir := .str (mirD s)) (depth := 1 + topD [c.depth]) rfl rfl rfl rfl (by rw [hdir]; rfl)
    refine ⟨rfl, rfl, fun b d hb hd nda => mkNode T (x2 _ _ g1) g2 (ds := [c.depth]) rfl (by show 1 ≤ 1000; decide) (one_part f'.part) hb hd nda (fun p hp d H' x3 hx => kE p (e0.symm.trans hp) d H' (x1.trans (x2.trans x3)) hx) fun hn H' x3 h' => k (e0.symm.trans hn) b H' (x1.trans (x2.trans x3)) ⟨a, hc2.ext x3, d, p1, r2, ?_, x3 _ _ (x2 _ _ g1), x3 _ _ g2⟩⟩
    rw [hdir]
    exact h'
theorem ok_Chain__invert__ (T : Txt w K mg D) : FnOk P w K mg base (L2.CX P w) 5 D.a_Chain__invert__ D.d_Chain__invert__ ["self"] (spNode1 D Ch.tu) := by
  refine T.F_Chain__invert__.okX sc_Chain__invert__ (fun vs H Q E h => ?_) (fun cdv A outer s H vs Q E hr h => ?_)
  · obtain ⟨c, a, rfl, _⟩ := h
    rfl
  · obtain ⟨c, a, rfl, hc, g, k, kE⟩ := h
    obtain ⟨X, dx, pt, rt, fs, f⟩ := hc.flds (fine_Sweep T) (fine_Chain T)
    refine ⟨_, (pss_one (ps_ret (pe_makeS (ks := ["size", "reach", "written", "direction"]) (n := 2) T.mk_Chain (ok_Chain__init__ T) (hr.mono (by decide)) (by rfl) T.g_Chain (kb_Chain__init___3_size_reach_written_direction T).choose_spec (passAll passE) (pa_cons pe_str (pa_cons (pe_tup (pa_cons (pv 0) pa_nil)) pa_nil)) (pk_cons (pe_fldC K (pv 0)) (pk_cons (pe_fldC K (pv 0)) (pk_cons (pe_fldC K (pv 0)) (pk_cons (pe_fldC K (pv 0)) pk_nil))))))), ?_⟩
    walk_at "rd"
    refine r_size (by show 1 ≤ 1000; decide) fun p1 fp => ?_
    generalize hG1 : upd H p1 (HO.tup [V.ref a]) = G1
    obtain ⟨x1, g1⟩ : Ext H G1 ∧ G1 p1 = some (HO.tup [V.ref a]) := by rw [← hG1]; exact ⟨Ext.new fp, upd_same⟩
    have hc1 := hc.ext x1
    have i1 := x1 _ _ f.ins
    have rt1 := x1 _ _ f.rt
    walk_at "rd"
    refine r_fldV i1 f.fine.cl f.fine.size f.size ?_
    walk_at "rd"
    refine r_fldV i1 f.fine.cl f.fine.reach f.reach ?_
    walk_at "rd"
    refine r_fldV i1 f.fine.cl f.fine.written f.written ?_
    walk_at "rd"
    refine r_fldV i1 f.fine.cl f.fine.direction f.dir ?_
    walk_at "rd"
    obtain ⟨X', dx', pt', rt', fs', f'⟩ := hc1.flds (fine_Sweep T) (fine_Chain T)
    have e0 := lim_at (Ch.tu c) (dir := optS c.dir) (depth := 1 + topD [c.depth]) rfl rfl rfl rfl rfl
    exact ⟨rfl, rfl, fun b d hb hd nda => mkNode T g1 rt1 (ds := [c.depth]) rfl (by show 1 ≤ 1000; decide) (one_part f'.part) hb hd nda (fun p hp d H' x3 hx => kE p (e0.symm.trans hp) d H' (x1.trans x3) hx) fun hn H' x3 h' => k (e0.symm.trans hn) b H' (x1.trans x3) ⟨a, hc1.ext x3, d, p1, rt, h', x3 _ _ g1, x3 _ _ rt1⟩⟩
def spRep (D : Ad) : Sp := fun vs H Q E => ∃ (c : Ch) (a : Addr) (v : V), vs = [.ref a, v] ∧ ChAt D.c_Sweep D.c_Chain H c a ∧ c.good ∧ Vk H v ∧ (between v 0 8 = false → ∀ d H', Ext H H' → H' d = some (.xd [("name", .str "times")]) → E (.ref D.c_NoNumber) (some d) H') ∧
  ∀ n : Nat, v = .int n → n ≤ 8 → Lim D H (.ti n c) Q E
theorem ok_Chainrepeated (T : Txt w K mg D) : FnOk P w K mg base (L2.CX P w) 5 D.a_Chainrepeated D.d_Chainrepeated ["self", "number"] (spRep D) := by
  refine T.F_Chainrepeated.okX sc_Chainrepeated (fun vs H Q E h => ?_) (fun cdv A outer s H vs Q E hr h => ?_)
  · obtain ⟨c, a, v, rfl, _⟩ := h
    rfl
  · obtain ⟨c, a, v, rfl, hc, g, hv, kN, kL⟩ := h
    obtain ⟨X, dx, pt, rt, fs, f⟩ := hc.flds (fine_Sweep T) (fine_Chain T)
    obtain ⟨s, hs, d3⟩ := g.dir
    refine ⟨_, (pss_cons (ps_if (pt_not (pt_val (pe_call (ok_is_within T) (hr.mono (by decide)) (by rfl) T.g_is_within T.F_is_within.kp T.b_is_within .nil pass0 (pa_cons (pv 1) (pa_cons pe_int (pa_cons (pe_glob (v := .int 8) rfl T.c_MOST_TIMES.choose_spec ⟨_, rfl⟩) pa_nil))))))
    (pss_one (ps_raise rfl (takes_of rfl rfl rfl rfl) (raise_NoNumber T (hr.mono (by decide)) (pa_cons pe_str pa_nil))))
    pss_nil)
  (pss_cons (ps_set (i := 2) sc_Chainrepeated.nd rfl (Or.inl rfl) (pe_tup (pa_cons (pe_op op_mul (pv 1) (pe_ix (ix_seqC K) (pe_fldC K (pv 0)) pe_int (fun _ _ => rfl))) (pa_cons (pe_op op_mul (pv 1) (pe_ix (ix_seqC K) (pe_fldC K (pv 0)) pe_int (fun _ _ => rfl))) pa_nil))))
  (Evl.pss_cut (ps_set (i := 3) sc_Chainrepeated.nd rfl (Or.inl rfl) (pe_ifExp (pt_cmpR op_gt (pv 1) pe_int (nomark _)) (pe_fldC K (pv 0)) pe_str))
  (pss_one (ps_ret (pe_makeS (ks := ["size", "reach", "written", "direction", "times"]) (n := 2) T.mk_Chain (ok_Chain__init__ T) (hr.mono (by decide)) (by rfl) T.g_Chain (kb_Chain__init___3_size_reach_written_direction_times T).choose_spec (passAll passE) (pa_cons pe_str (pa_cons (pe_tup (pa_cons (pv 0) pa_nil)) pa_nil)) (pk_cons (pe_callB (call_maxS rfl) (by rfl) T.n_max (by decide +kernel) (pa_cons pe_int (pa_cons (pe_op op_mul (pv 1) (pe_fldC K (pv 0))) pa_nil))) (pk_cons (pv 2) (pk_cons (pe_op op_mul (pv 1) (pe_fldC K (pv 0))) (pk_cons (pv 3) (pk_cons (pv 1) pk_nil))))))))))), ?_⟩
    walk_at "rd"
    refine ⟨v, 0, 8, rfl, hv, ?_⟩
    walk_at "rd"
    cases hb : between v 0 8 with
    | false =>
      refine iteNF (raised1 (fun R R' m k => m _ _ k) ?_)
      refine ⟨.str "times", rfl, fun d hd => ?_⟩
      exact kN hb d _ (Ext.new hd) upd_same
    | true =>
      refine iteNT ?_
      obtain ⟨z, rfl, z0, z8⟩ := between_int hb
      obtain ⟨n, rfl⟩ : ∃ n : Nat, z = (n : Int) := ⟨z.toNat, by omega⟩
      obtain ⟨k, kE⟩ := kL n rfl (by omega)
      have hrt := f.rt
      walk_at "rd"
      refine r_fldV f.ins f.fine.cl f.fine.reach f.reach ?_
      walk_at "rd"
      refine r_fldV f.ins f.fine.cl f.fine.reach f.reach ?_
      walk_at "rd"
      refine r_size (by show 2 ≤ 1000; decide) fun r2 f2 => ?_
      generalize hG2 : upd H r2 (HO.tup [V.int (n * c.reach.1), V.int (n * c.reach.2)]) = G2
      obtain ⟨x2, g2⟩ : Ext H G2 ∧ G2 r2 = some (HO.tup [V.int (n * c.reach.1), V.int (n * c.reach.2)]) := by rw [← hG2]; exact ⟨Ext.new f2, upd_same⟩
      have i2 := x2 _ _ f.ins
      have hdir : ∀ s2, s2 = (if n > 0 then s else "all") → (Ch.ti n c).dir = some s2 := fun s2 h2 => by
        show (if n > 0 then c.dir else some "all") = _
        rw [hs, h2]
        split <;> rfl
      have fd : lk "direction" fs = some (.str s) := by
        rw [f.dir, hs]
        rfl
      have hc2 := hc.ext x2
      walk_at "rd"
      refine r_cut (fun σ' G => ∃ s2 : Str, s2 = (if n > 0 then s else "all") ∧ σ' = [some (.ref a), some (.int n), some (.ref r2), some (.str s2)] ∧ G = G2) ?_ ?_
      · walk_at "rd"
        refine iteD (fun h1 => ?_) (fun h1 => ?_)
        · walk_at "rd"
          refine r_fldV i2 f.fine.cl f.fine.direction fd ?_
          walk_at "rd"
          exact ⟨s, by rw [if_pos (by omega)], rfl, rfl⟩
        · walk_at "rd"
          exact ⟨"all", by rw [if_neg (by omega)], rfl, rfl⟩
      rintro σ' G ⟨s2, h2, rfl, rfl⟩
      have hd2 := hdir s2 h2
      walk_at "rd"
      refine r_size (by show 1 ≤ 1000; decide) fun p1 fp => ?_
      generalize hG3 : upd G p1 (HO.tup [V.ref a]) = G3
      obtain ⟨x3, g3⟩ : Ext G G3 ∧ G3 p1 = some (HO.tup [V.ref a]) := by rw [← hG3]; exact ⟨Ext.new fp, upd_same⟩
      have i3 := x3 _ _ i2
      have hc3 := hc2.ext x3
      walk_at "rd"
      refine r_fldV i3 f.fine.cl f.fine.size f.size ?_
      walk_at "rd"
      refine r_fldV i3 f.fine.cl f.fine.written f.written ?_
      walk_at "rd"
      obtain ⟨X', dx', pt', rt', fs', f'⟩ := hc3.flds (fine_Sweep T) (fine_Chain T)
      have hmax : (if (n : Int) * c.size > 1 then (n : Int) * c.size else 1) = max 1 (n * c.size) := by split <;> omega
      rw [hmax]
      have e0 := lim_at (Ch.ti n c) (dir := .str s2) (depth := 1 + topD [c.depth]) rfl rfl rfl rfl (by rw [hd2]; rfl)
      refine ⟨rfl, rfl, fun b d hb hd nda => mkNode T g3 (x3 _ _ g2) (ds := [c.depth]) rfl (by show 1 ≤ 1000; decide) (one_part f'.part) hb hd nda (fun p hp d H' x4 hx => kE p (e0.symm.trans hp) d H' (x2.trans (x3.trans x4)) hx) fun hn H' x4 h' => k (e0.symm.trans hn) b H' (x2.trans (x3.trans x4)) ⟨a, hc3.ext x4, d, p1, r2, ?_, x4 _ _ g3, x4 _ _ (x3 _ _ g2)⟩⟩
      rw [hd2]
      exact h'
def spJoint : Sp := fun vs H Q _ => ∃ (a b : Str), vs = [.str a, .str b] ∧ Q (optS (joint (some a) (some b))) H
theorem ok_joint_direction (T : Txt w K mg D) : FnOk P w K mg base CX0 1 D.a_joint_direction D.d_joint_direction ["first", "second"] spJoint := by
  refine T.F_joint_direction.ok sc_joint_direction (fun vs H Q E h => ?_) (fun cdv A outer s H vs Q E hr h => ?_)
  · obtain ⟨a, b, rfl, _⟩ := h
    rfl
  · obtain ⟨a, b, rfl, q⟩ := h
    refine ⟨_, (pss_cons (ps_if (PW.pt (pw_or (pt_cmpR op_eq (pv 0) pe_str (nomark _)) (pw_or1 (pt_cmpR op_eq (pv 0) (pv 1) (nomark _)))))
    (pss_one (ps_ret (pv 1)))
    pss_nil)
  (pss_cons (ps_if (pt_cmpR op_eq (pv 1) pe_str (nomark _))
    (pss_one (ps_ret (pv 0)))
    pss_nil)
  (pss_one (ps_ret pe_non)))), ?_⟩
    have j1 : a = "all" ∨ a = b → joint (some a) (some b) = some b := fun h => by
      rw [joint_eq]
      rw [if_pos (h.imp (congrArg some) (congrArg some))]
    have j2 : ¬ (a = "all" ∨ a = b) → b = "all" → joint (some a) (some b) = some a := fun h h2 => by
      rw [joint_eq]
      rw [if_neg (fun z => h (z.imp Option.some.inj Option.some.inj)), if_pos (congrArg some h2)]
    have j3 : ¬ (a = "all" ∨ a = b) → ¬ b = "all" → joint (some a) (some b) = none := fun h h2 => by
      rw [joint_eq]
      rw [if_neg (fun z => h (z.imp Option.some.inj Option.some.inj)), if_neg (fun z => h2 (Option.some.inj z))]
    walk_at "rd"
    refine r_eqS ?_
    walk_at "rd"
    refine iteD (fun h1 => ?_) (fun h1 => ?_)
    · walk_at "rd"
      rw [j1 (.inl h1)] at q
      exact q
    · walk_at "rd"
      refine r_eqS ?_
      walk_at "rd"
      refine iteD (fun h2 => ?_) (fun h2 => ?_)
      · walk_at "rd"
        rw [j1 (.inr h2)] at q
        exact q
      · have no : ¬ (a = "all" ∨ a = b) := fun z => z.elim h1 h2
        walk_at "rd"
        refine r_eqS ?_
        walk_at "rd"
        refine iteD (fun h3 => ?_) (fun h3 => ?_)
        · walk_at "rd"
          rw [j2 no h3] at q
          exact q
        · walk_at "rd"
          rw [j3 no h3] at q
          exact q
def spPair (D : Ad) : Sp := fun vs H Q E => ∃ (z x y : Ch) (a b rt : Addr), vs = [.str z.kind, .ref a, .ref b, .ref rt] ∧ (z = .th x y ∨ z = .hi x y ∨ z = .lo x y) ∧ ChAt D.c_Sweep D.c_Chain H x a ∧ ChAt D.c_Sweep D.c_Chain H y b ∧ x.good ∧ y.good ∧ H rt = some (.tup [.int z.reach.1, .int z.reach.2]) ∧ Lim D H z Q E
theorem ok_pair (T : Txt w K mg D) : FnOk P w K mg base (L2.CX P w) 5 D.a_pair D.d_pair ["kind", "first", "second", "reach"] (spPair D) := by
  refine T.F_pair.okX sc_pair (fun vs H Q E h => ?_) (fun cdv A outer s H vs Q E hr h => ?_)
  · obtain ⟨z, x, y, a, b, rt, rfl, _⟩ := h
    rfl
  · obtain ⟨z, x, y, a, b, rt, rfl, hz, hx, hy, gx, gy, hrt, k, kE⟩ := h
    obtain ⟨X, dx, pt, rx, fs, f⟩ := hx.flds (fine_Sweep T) (fine_Chain T)
    obtain ⟨Y, dy, py, ry, gs, f2⟩ := hy.flds (fine_Sweep T) (fine_Chain T)
    obtain ⟨s1, hs1, -⟩ := gx.dir
    obtain ⟨s2, hs2, -⟩ := gy.dir
    refine ⟨_, (pss_one (ps_ret (pe_makeS (ks := ["size", "reach", "written", "direction"]) (n := 2) T.mk_Chain (ok_Chain__init__ T) (hr.mono (by decide)) (by rfl) T.g_Chain (kb_Chain__init___3_size_reach_written_direction T).choose_spec (passAll passE) (pa_cons (pv 0) (pa_cons (pe_tup (pa_cons (pv 1) (pa_cons (pv 2) pa_nil))) pa_nil)) (pk_cons (pe_op op_add (pe_fldC K (pv 1)) (pe_fldC K (pv 2))) (pk_cons (pv 3) (pk_cons (pe_op op_add (pe_fldC K (pv 1)) (pe_fldC K (pv 2))) (pk_cons (pe_call (ok_joint_direction T) (hr.mono (by decide)) (by rfl) T.g_joint_direction T.F_joint_direction.kp T.b_joint_direction .nil pass0 (pa_cons (pe_fldC K (pv 1)) (pa_cons (pe_fldC K (pv 2)) pa_nil))) pk_nil))))))), ?_⟩
    have fd1 : lk "direction" fs = some (.str s1) := by
      rw [f.dir, hs1]
      rfl
    have fd2 : lk "direction" gs = some (.str s2) := by
      rw [f2.dir, hs2]
      rfl
    walk_at "rd"
    refine r_size (by show 2 ≤ 1000; decide) fun p1 fp => ?_
    generalize hG1 : upd H p1 (HO.tup [V.ref a, V.ref b]) = G1
    obtain ⟨x1, g1⟩ : Ext H G1 ∧ G1 p1 = some (HO.tup [V.ref a, V.ref b]) := by rw [← hG1]; exact ⟨Ext.new fp, upd_same⟩
    have ia := x1 _ _ f.ins
    have ib := x1 _ _ f2.ins
    have hx1 := hx.ext x1
    have hy1 := hy.ext x1
    have rt1 := x1 _ _ hrt
    walk_at "rd"
    refine r_fldV ia f.fine.cl f.fine.size f.size ?_
    walk_at "rd"
    refine r_fldV ib f2.fine.cl f2.fine.size f2.size ?_
    walk_at "rd"
    refine r_fldV ia f.fine.cl f.fine.written f.written ?_
    walk_at "rd"
    refine r_fldV ib f2.fine.cl f2.fine.written f2.written ?_
    walk_at "rd"
    refine r_fldV ia f.fine.cl f.fine.direction fd1 ?_
    walk_at "rd"
    refine r_fldV ib f2.fine.cl f2.fine.direction fd2 ?_
    walk_at "rd"
    refine ⟨s1, s2, rfl, ?_⟩
    walk_at "rd"
    obtain ⟨X', dx', pt', rx', fs', f'⟩ := hx1.flds (fine_Sweep T) (fine_Chain T)
    obtain ⟨Y', dy', py', ry', gs', f2'⟩ := hy1.flds (fine_Sweep T) (fine_Chain T)
    have td := topD2 x.depth y.depth
    have e1 : z.size = x.size + y.size := by rcases hz with rfl | rfl | rfl <;> rfl
    have e2 : z.depth = 1 + topD [x.depth, y.depth] := by rw [td]; rcases hz with rfl | rfl | rfl <;> rfl
    have e4 : z.written = x.written + y.written := by rcases hz with rfl | rfl | rfl <;> rfl
    have e5 : z.dir = joint (some s1) (some s2) := by rw [← hs1, ← hs2]; rcases hz with rfl | rfl | rfl <;> rfl
    have et : z.times = 1 := by rcases hz with rfl | rfl | rfl <;> rfl
    have e0 := lim_at z e1 e2 rfl e4 (congrArg optS e5)
    refine ⟨rfl, rfl, fun c d hb hd nda => mkNode T g1 rt1 (ds := [x.depth, y.depth]) rfl (by show 2 ≤ 1000; decide) (two_parts f'.part f2'.part) hb hd nda (fun p hp d H' x4 hx => kE p (e0.symm.trans hp) d H' (x1.trans x4) hx) fun hn H' x4 h' => k (e0.symm.trans hn) c H' (x1.trans x4) ?_⟩
    have nd : NodeAt D.c_Chain H' z c [.ref a, .ref b] := ⟨d, p1, rt, by rw [et, e1, e2, e4, e5]; exact h', x4 _ _ g1, x4 _ _ rt1⟩
    rcases hz with rfl | rfl | rfl
    · exact ⟨a, b, hx1.ext x4, hy1.ext x4, nd⟩
    · exact ⟨a, b, hx1.ext x4, hy1.ext x4, nd⟩
    · exact ⟨a, b, hx1.ext x4, hy1.ext x4, nd⟩
def spGreater (D : Ad) : Sp := fun vs H Q _ => ∃ (x y : Ch) (a b : Addr), vs = [.ref a, .ref b] ∧ ChAt D.c_Sweep D.c_Chain H x a ∧ ChAt D.c_Sweep D.c_Chain H y b ∧ ∀ q H', Ext H H' → H' q = some (.tup [.int (max x.reach.1 y.reach.1), .int (max x.reach.2 y.reach.2)]) → Q (.ref q) H'
theorem ok_greater_reach (T : Txt w K mg D) : FnOk P w K mg base CX0 1 D.a_greater_reach D.d_greater_reach ["first", "second"] (spGreater D) := by
  refine T.F_greater_reach.ok sc_greater_reach (fun vs H Q E h => ?_) (fun cdv A outer s H vs Q E hr h => ?_)
  · obtain ⟨x, y, a, b, rfl, _⟩ := h
    rfl
  · obtain ⟨x, y, a, b, rfl, hx, hy, k⟩ := h
    obtain ⟨X, dx, pt, rx, fs, f⟩ := hx.flds (fine_Sweep T) (fine_Chain T)
    obtain ⟨Y, dy, py, ry, gs, f2⟩ := hy.flds (fine_Sweep T) (fine_Chain T)
    refine ⟨_, (pss_one (ps_ret (pe_tup (pa_cons (pe_callB (call_maxS rfl) (by rfl) T.n_max (by decide +kernel) (pa_cons (pe_callTy call_intS (by rfl) T.n_int (by decide +kernel) (pa_cons (pe_ix (ix_seqC K) (pe_fldC K (pv 0)) pe_int (fun _ _ => rfl)) pa_nil)) (pa_cons (pe_ix (ix_seqC K) (pe_fldC K (pv 1)) pe_int (fun _ _ => rfl)) pa_nil))) (pa_cons (pe_callB (call_maxS rfl) (by rfl) T.n_max (by decide +kernel) (pa_cons (pe_callTy call_intS (by rfl) T.n_int (by decide +kernel) (pa_cons (pe_ix (ix_seqC K) (pe_fldC K (pv 0)) pe_int (fun _ _ => rfl)) pa_nil)) (pa_cons (pe_ix (ix_seqC K) (pe_fldC K (pv 1)) pe_int (fun _ _ => rfl)) pa_nil))) pa_nil))))), ?_⟩
    have h1 := f.rt
    have h2 := f2.rt
    walk_at "rd"
    refine r_fldV f.ins f.fine.cl f.fine.reach f.reach ?_
    walk_at "rd"
    refine r_fldV f2.ins f2.fine.cl f2.fine.reach f2.reach ?_
    walk_at "rd"
    refine r_fldV f.ins f.fine.cl f.fine.reach f.reach ?_
    walk_at "rd"
    refine r_fldV f2.ins f2.fine.cl f2.fine.reach f2.reach ?_
    walk_at "rd"
    refine r_size (by show 2 ≤ 1000; decide) fun q hq => ?_
    have m1 : ∀ i j : Int, (if j > i then j else i) = max i j := fun i j => by split <;> omega
    rw [m1, m1]
    exact k q _ (Ext.new hq) upd_same
def spNode2 (D : Ad) (z : Ch → Ch → Ch) : Sp := fun vs H Q E => ∃ (x y : Ch) (a b : Addr), vs = [.ref a, .ref b] ∧ ChAt D.c_Sweep D.c_Chain H x a ∧ ChAt D.c_Sweep D.c_Chain H y b ∧ x.good ∧ y.good ∧ Lim D H (z x y) Q E
theorem ok_Chain__rshift__ (T : Txt w K mg D) : FnOk P w K mg base (L2.CX P w) 7 D.a_Chain__rshift__ D.d_Chain__rshift__ ["self", "other"] (spNode2 D Ch.th) := by
  refine T.F_Chain__rshift__.okX sc_Chain__rshift__ (fun vs H Q E h => ?_) (fun cdv A outer s H vs Q E hr h => ?_)
  · obtain ⟨x, y, a, b, rfl, _⟩ := h
    rfl
  · obtain ⟨x, y, a, b, rfl, hx, hy, gx, gy, k⟩ := h
    obtain ⟨X, dx, pt, rx, fs, f⟩ := hx.flds (fine_Sweep T) (fine_Chain T)
    obtain ⟨Y, dy, py, ry, gs, f2⟩ := hy.flds (fine_Sweep T) (fine_Chain T)
    refine ⟨_, (pss_cons (ps_set (i := 2) sc_Chain__rshift__.nd rfl (Or.inl rfl) (pe_tup (pa_cons (pe_op op_add (pe_ix (ix_seqC K) (pe_fldC K (pv 0)) pe_int (fun _ _ => rfl)) (pe_ix (ix_seqC K) (pe_fldC K (pv 1)) pe_int (fun _ _ => rfl))) (pa_cons (pe_op op_add (pe_ix (ix_seqC K) (pe_fldC K (pv 0)) pe_int (fun _ _ => rfl)) (pe_ix (ix_seqC K) (pe_fldC K (pv 1)) pe_int (fun _ _ => rfl))) pa_nil))))
  (pss_one (ps_ret (pe_call (ok_pair T) (hr.mono (by decide)) (by rfl) T.g_pair T.F_pair.kp T.b_pair .nil passE (pa_cons pe_str (pa_cons (pv 0) (pa_cons (pv 1) (pa_cons (pv 2) pa_nil)))))))), ?_⟩
    have h1 := f.rt
    have h2 := f2.rt
    walk_at "rd"
    refine r_fldV f.ins f.fine.cl f.fine.reach f.reach ?_
    walk_at "rd"
    refine r_fldV f2.ins f2.fine.cl f2.fine.reach f2.reach ?_
    walk_at "rd"
    refine r_fldV f.ins f.fine.cl f.fine.reach f.reach ?_
    walk_at "rd"
    refine r_fldV f2.ins f2.fine.cl f2.fine.reach f2.reach ?_
    walk_at "rd"
    refine r_size (by show 2 ≤ 1000; decide) fun q hq => ?_
    generalize hG1 : upd H q (HO.tup [V.int (x.reach.1 + y.reach.1), V.int (x.reach.2 + y.reach.2)]) = G1
    obtain ⟨x1, g1⟩ : Ext H G1 ∧ G1 q = some (HO.tup [V.int (x.reach.1 + y.reach.1), V.int (x.reach.2 + y.reach.2)]) := by rw [← hG1]; exact ⟨Ext.new hq, upd_same⟩
    walk_at "rd"
    exact ⟨.th x y, x, y, a, b, q, rfl, .inl rfl, hx.ext x1, hy.ext x1, gx, gy, g1, k.ext x1⟩
theorem ok_Chain__or__ (T : Txt w K mg D) : FnOk P w K mg base (L2.CX P w) 7 D.a_Chain__or__ D.d_Chain__or__ ["self", "other"] (spNode2 D Ch.hi) := by
  refine T.F_Chain__or__.okX sc_Chain__or__ (fun vs H Q E h => ?_) (fun cdv A outer s H vs Q E hr h => ?_)
  · obtain ⟨x, y, a, b, rfl, _⟩ := h
    rfl
  · obtain ⟨x, y, a, b, rfl, hx, hy, gx, gy, k⟩ := h
    refine ⟨_, (pss_one (ps_ret (pe_call (ok_pair T) (hr.mono (by decide)) (by rfl) T.g_pair T.F_pair.kp T.b_pair .nil passE (pa_cons pe_str (pa_cons (pv 0) (pa_cons (pv 1) (pa_cons (pe_call (ok_greater_reach T) (hr.mono (by decide)) (by rfl) T.g_greater_reach T.F_greater_reach.kp T.b_greater_reach .nil pass0 (pa_cons (pv 0) (pa_cons (pv 1) pa_nil))) pa_nil))))))), ?_⟩
    walk_at "rd"
    refine ⟨x, y, a, b, rfl, hx, hy, fun q G1 x1 g1 => ?_⟩
    walk_at "rd"
    exact ⟨.hi x y, x, y, a, b, q, rfl, .inr (.inl rfl), hx.ext x1, hy.ext x1, gx, gy, g1, k.ext x1⟩
theorem ok_Chain__and__ (T : Txt w K mg D) : FnOk P w K mg base (L2.CX P w) 7 D.a_Chain__and__ D.d_Chain__and__ ["self", "other"] (spNode2 D Ch.lo) := by
  refine T.F_Chain__and__.okX sc_Chain__and__ (fun vs H Q E h => ?_) (fun cdv A outer s H vs Q E hr h => ?_)
  · obtain ⟨x, y, a, b, rfl, _⟩ := h
    rfl
  · obtain ⟨x, y, a, b, rfl, hx, hy, gx, gy, k⟩ := h
    refine ⟨_, (pss_one (ps_ret (pe_call (ok_pair T) (hr.mono (by decide)) (by rfl) T.g_pair T.F_pair.kp T.b_pair .nil passE (pa_cons pe_str (pa_cons (pv 0) (pa_cons (pv 1) (pa_cons (pe_call (ok_greater_reach T) (hr.mono (by decide)) (by rfl) T.g_greater_reach T.F_greater_reach.kp T.b_greater_reach .nil pass0 (pa_cons (pv 0) (pa_cons (pv 1) pa_nil))) pa_nil))))))), ?_⟩
    walk_at "rd"
    refine ⟨x, y, a, b, rfl, hx, hy, fun q G1 x1 g1 => ?_⟩
    walk_at "rd"
    exact ⟨.lo x y, x, y, a, b, q, rfl, .inr (.inr rfl), hx.ext x1, hy.ext x1, gx, gy, g1, k.ext x1⟩
end
end Rk

namespace Rk
open PySem ClX Own
open L2 hiding Ext
local macro_rules | `(tactic| walk_at "side") => `(tactic| first | exact trivial | (show (0:Int) < _; first | assumption | decide | omega) | exact Or.inl ⟨by decide, by decide⟩ | exact Or.inl ⟨by omega, by omega⟩ | exact Or.inr ⟨by decide, by decide⟩ | exact ⟨by decide, by decide⟩ | exact ⟨by decide, by decide, by decide⟩ | exact ⟨by omega, by omega⟩)
local macro_rules | `(tactic| walk_at "rd") => `(tactic| repeat (with_reducible first | refine r_next ?_ | refine r_ret ?_ | refine r_seq ?_ | refine r_asg ?_ | refine r_drop ?_ | refine r_call ?_ | refine r_cons ?_ | refine r_nil ?_ | refine r_cb ?_ | refine r_op ?_ | refine r_sset ?_ | refine r_var (by with_unfolding_all rfl) ?_ | refine r_c ?_ | refine r_name ?_ | refine r_I0 ?_ | (refine r_I ?_ ?_; focus (with_unfolding_all walk_at "side")) | refine r_un ?_ | refine r_U ?_ | refine r_if ?_ | refine r_ifE ?_ | refine r_test ?_ | refine r_B ?_ | refine r_bl ?_ | refine r_not ?_ | refine r_and ?_ | refine r_or ?_ | refine r_andV ?_ | refine r_orV ?_ | refine r_notV ?_ | refine r_eqI ?_ | refine r_neI ?_ | refine r_tup ?_ | refine r_lst ?_ | refine r_sub ?_ | refine r_intI ?_ | refine r_intB ?_ | refine r_abs ?_ | refine r_max ?_ | refine r_ixL (SqL.of (by assumption)) (by with_unfolding_all rfl) ?_ | refine r_ixT (SqT.of (by assumption)) (by with_unfolding_all rfl) ?_ | refine r_ixQL (by assumption) (by with_unfolding_all rfl) ?_ | refine r_ixQT (by assumption) (by with_unfolding_all rfl) ?_ | refine r_ckw ?_ | refine r_callN ?_ | refine r_makeS ?_ | refine r_make ?_ | refine r_makeK ?_ | refine r_methA ?_ | refine r_pcons ?_ | refine r_pnil ?_ | refine r_dget ?_ | refine r_isN ?_ | refine r_notN ?_ | refine r_fld ?_ | refine r_sfld ?_ | refine r_lenL (SqL.of (by assumption)) ?_ | refine r_lenT (SqT.of (by assumption)) ?_ | refine r_callS ?_ | refine r_cutnx ?_ | refine r_cutrt ?_ | refine r_chain ?_ | refine r_yes ?_ | refine iteT ?_ | refine iteF ?_ | refine iteNF ?_ | refine iteNT ?_ | refine r_truth ?_ | refine r_truI ?_ | refine r_sliceV ?_ | refine r_for ?_ | refine r_rng1 ?_ | (refine r_i1 ?_ ?_; focus (with_unfolding_all walk_at "side"))))
section
variable {P : Program} {w : World} {K : PySem.W.Frag} {mg : Str → Option Value} {base : Heap} {D : Ad}
def spMix : Sp := fun vs H Q _ => ∃ a b : Int, vs = [.int a, .int b] ∧ ∀ z : Int, 0 ≤ z → Q (.int z) H
theorem ok__law_mix (T : Txt w K mg D) : FnOk P w K mg base CX0 1 D.a__law_mix D.d__law_mix ["_law_number", "_law_k"] spMix := by
  refine T.F__law_mix.ok sc__law_mix (fun vs H Q E h => ?_) (fun cdv A outer s H vs Q E hr h => ?_)
  · obtain ⟨a, b, rfl, _⟩ := h
    rfl
  · obtain ⟨a, b, rfl, k⟩ := h
    refine ⟨_, (pss_cons (ps_set (i := 0) sc__law_mix.nd rfl (Or.inl rfl) (pe_op op_mod (pe_callTy call_intS (by rfl) T.n_int (by decide +kernel) (pa_cons (pe_op op_mul (pe_op op_add (pe_op op_add (pv 0) (pe_op op_mul pe_int (pv 1))) pe_int) pe_int) pa_nil)) pe_int))
  (pss_cons (ps_set (i := 0) sc__law_mix.nd rfl (Or.inl rfl) (pe_op op_mod (pe_callTy call_intS (by rfl) T.n_int (by decide +kernel) (pa_cons (pe_op op_mul (pv 0) (pe_op op_add (pe_op op_fdivW (pv 0) pe_int) pe_int)) pa_nil)) pe_int))
  (pss_one (ps_ret (pe_op op_mod (pe_callTy call_intS (by rfl) T.n_int (by decide +kernel) (pa_cons (pe_op op_mul (pv 0) (pe_op op_add (pe_op op_add (pe_op op_fdivW (pv 0) pe_int) pe_int) (pv 1))) pa_nil)) pe_int))))), ?_⟩
    walk_at "rd"
    exact k _ (Int.emod_nonneg _ (by decide))
/-- the pool at p -/
def Pl (H : Hp) (p c : Addr) : Prop := ∃ (ns : List Int) (i m k : Int), H p = some (.lst [.ref c, .int i, .int m, .int k]) ∧ H c = some (.lst (ns.map V.int)) ∧ c ≠ p ∧ 0 ≤ i ∧ 0 ≤ m ∧ 0 ≤ k ∧ ns.length ≤ 1000
theorem cut_mem {xs : List V} {lo hi : Option Int} {x : V} (h : x ∈ cutV xs lo hi) : x ∈ xs := List.mem_of_mem_drop (List.mem_of_mem_take h)
def spPool (K : PySem.W.Frag) : Sp := fun vs H Q _ => ∃ (a : Addr) (ns : List Int), vs = [.ref a] ∧ SqL K H a (ns.map V.int) ∧ ns.length ≤ 63 ∧ ∀ p c H', Ext H H' → H p = none → H c = none → Pl H' p c → Q (.ref p) H'
theorem ok__law_pool (T : Txt w K mg D) : FnOk P w K mg base CX0 1 D.a__law_pool D.d__law_pool ["_law_script"] (spPool K) := by
  refine T.F__law_pool.ok sc__law_pool (fun vs H Q E h => ?_) (fun cdv A outer s H vs Q E hr h => ?_)
  · obtain ⟨a, ns, rfl, _⟩ := h
    rfl
  · obtain ⟨a, ns, rfl, hs, hl, k⟩ := h
    refine ⟨_, (pss_one (ps_ret (pe_lst (pa_cons (pe_lc (own := [("_law_cell", 1)]) (g := gName 1) rfl sc__law_pool.nd (pi_list (pe_slice (sl_listC K) (pv 0) po_none (po_some pe_int))) (blkOk_by (own := [("_law_cell", 1)]) (N := ["_law_script", "_law_cell"]) (sc := defScope s__law_pool) (by decide +kernel)) (fun _ _ _ _ _ => pg_name (i := 1) sc__law_pool.nd rfl (Or.inl rfl)) (fun _ _ _ _ _ => pts_nil) (fun _ _ _ _ _ => (pe_callTy call_intS (by rfl) T.n_int (by decide +kernel) (pa_cons (pv 1) pa_nil)))) (pa_cons pe_int (pa_cons pe_int (pa_cons pe_int pa_nil))))))), ?_⟩
    walk_at "rd"
    obtain ⟨ms, hms⟩ : ∃ ms : List Int, cutV (ns.map V.int) none (some 63) = ms.map V.int := by
      refine ints_of fun x hx => ?_
      obtain ⟨n, -, e⟩ := List.mem_map.mp (cut_mem hx)
      rw [← e]
      rfl
    have hlen : ms.length ≤ 63 := by
      have q := cutV_length (ns.map V.int) none (some 63)
      rw [hms, List.length_map, List.length_map] at q
      omega
    refine tLc_map (xs := ms.map V.int) (fun v => v) ?_ ?_ ?_ (fun i x H' hx e Q q => ?_) fun L H' hL e hl' => ?_
    · exact wi_list fun Q q => ⟨.ref a, rfl, 63, rfl, a, _, rfl, hs, fun p hp => by rw [hms]; exact q p _ (Ext.new hp) upd_same⟩
    · rw [List.length_map]
      omega
    · exact fun x => rfl
    · rw [List.getElem?_map] at hx
      cases hn : ms[i]? with
      | none => rw [hn] at hx; cases hx
      | some n =>
        rw [hn] at hx
        cases (Option.some.inj hx)
        walk_at "rd"
        exact q _ (Ext.refl _)
    · rw [List.map_id'] at hl'
      walk_at "rd"
      refine r_size (by show 4 ≤ 1000; decide) fun p hp => ?_
      refine k p L _ (e.trans (Ext.new hp)) (e.free hp) hL ⟨ms, 0, 0, 0, upd_same, ?_, ne_of_none hl' hp, by decide, by decide, by decide, by omega⟩
      rw [upd_ne (ne_of_none hl' hp)]
      exact hl'
theorem at0 {α : Type} {a b c d : α} : atI [a, b, c, d] 0 = some a := rfl
theorem at1 {α : Type} {a b c d : α} : atI [a, b, c, d] 1 = some b := rfl
theorem at2 {α : Type} {a b c d : α} : atI [a, b, c, d] 2 = some c := rfl
theorem at3 {α : Type} {a b c d : α} : atI [a, b, c, d] 3 = some d := rfl
theorem at_ints {ns : List Int} {i : Int} (h0 : 0 ≤ i) (h1 : i < (ns.length : Int)) : ∃ z, atI (ns.map V.int) i = some (.int z) := by
  obtain ⟨j, rfl⟩ : ∃ j : Nat, i = (j : Int) := ⟨i.toNat, by omega⟩
  refine ⟨ns[j]'(by omega), atI_nat ?_⟩
  rw [List.getElem?_map, List.getElem?_eq_getElem (by omega)]
  rfl
def spDraw : Sp := fun vs H Q _ => ∃ (p c : Addr) (lim : Int), vs = [.ref p, .int lim] ∧ Pl H p c ∧ 0 < lim ∧ lim.natAbs.log2 < 9000 ∧ ∀ (r : Int) H', 0 ≤ r → r < lim → Pl H' p c → Ext (wo p H) (wo p H') → Q (.int r) H'
theorem ok__law_draw (T : Txt w K mg D) : FnOk P w K mg base CX0 2 D.a__law_draw D.d__law_draw ["_law_pool_here", "_law_limit"] spDraw := by
  refine T.F__law_draw.ok sc__law_draw (fun vs H Q E h => ?_) (fun cdv A outer s H vs Q E hr h => ?_)
  · obtain ⟨p, c, lim, rfl, _⟩ := h
    rfl
  · obtain ⟨p, c, lim, rfl, ⟨ns, i, m, n, hp, hc, ne, h0, h1, h2, hl⟩, l0, l1, k⟩ := h
    refine ⟨_, (pss_cons (ps_asg (pe_op op_add (pe_ix (ix_seqC K) (pv 0) pe_int (fun _ _ => rfl)) pe_int) (pg_sub (pv 0) pe_int set_list))
  (pss_cons (ps_set (i := 2) sc__law_draw.nd rfl (Or.inl rfl) (pe_ix (ix_seqC K) (pv 0) pe_int (fun _ _ => rfl)))
  (Evl.pss_cut (ps_if (PW.pt (pw_and (pt_cmpR op_eq (pe_ix (ix_seqC K) (pv 0) pe_int (fun _ _ => rfl)) pe_int (nomark _)) (pw_and1 (pt_cmpR op_lt (pe_ix (ix_seqC K) (pv 0) pe_int (fun _ _ => rfl)) (pe_callB (call_lenC K) (by rfl) T.n_len (by decide +kernel) (pa_cons (pv 2) pa_nil)) (nomark _)))))
    (pss_cons (ps_set (i := 3) sc__law_draw.nd rfl (Or.inl rfl) (pe_callTy call_intS (by rfl) T.n_int (by decide +kernel) (pa_cons (pe_ix (ix_seqC K) (pv 2) (pe_ix (ix_seqC K) (pv 0) pe_int (fun _ _ => rfl)) (fun _ _ => rfl)) pa_nil)))
    (pss_cons (ps_asg (pe_op op_add (pe_ix (ix_seqC K) (pv 0) pe_int (fun _ _ => rfl)) pe_int) (pg_sub (pv 0) pe_int set_list))
    (pss_cons (ps_if (pt_cmpR op_lt (pe_callB call_absS (by rfl) T.n_abs (by decide +kernel) (pa_cons (pv 3) pa_nil)) (pe_op op_pow pe_int pe_int) (nomark _))
      (pss_one (ps_ret (pe_op op_mod (pe_callTy call_intS (by rfl) T.n_int (by decide +kernel) (pa_cons (pe_call (ok__law_mix T) (hr.mono (by decide)) (by rfl) T.g__law_mix T.F__law_mix.kp T.b__law_mix .nil pass0 (pa_cons (pv 3) (pa_cons (pe_ix (ix_seqC K) (pv 0) pe_int (fun _ _ => rfl)) pa_nil))) pa_nil)) (pv 1))))
      pss_nil)
    (pss_one (ps_asg (pe_op op_add (pe_op op_mul pe_int (pe_callB call_absS (by rfl) T.n_abs (by decide +kernel) (pa_cons (pv 3) pa_nil))) (pe_callTy call_intS (by rfl) T.n_int (by decide +kernel) (pa_cons (pe_cmpR op_lt (pv 3) pe_int (nomark _)) pa_nil))) (pg_sub (pv 0) pe_int set_list))))))
    pss_nil)
  (pss_cons (ps_if (pt_cmpR op_gt (pe_ix (ix_seqC K) (pv 0) pe_int (fun _ _ => rfl)) pe_int (nomark _))
    (pss_cons (ps_set (i := 4) sc__law_draw.nd rfl (Or.inl rfl) (pe_op op_mod (pe_callTy call_intS (by rfl) T.n_int (by decide +kernel) (pa_cons (pe_ix (ix_seqC K) (pv 0) pe_int (fun _ _ => rfl)) pa_nil)) (pv 1)))
    (pss_cons (ps_asg (pe_op op_fdivW (pe_callTy call_intS (by rfl) T.n_int (by decide +kernel) (pa_cons (pe_ix (ix_seqC K) (pv 0) pe_int (fun _ _ => rfl)) pa_nil)) (pv 1)) (pg_sub (pv 0) pe_int set_list))
    (pss_one (ps_ret (pv 4)))))
    pss_nil)
  (pss_cons (ps_if (pt_cmpR op_eq (pe_callB (call_lenC K) (by rfl) T.n_len (by decide +kernel) (pa_cons (pv 2) pa_nil)) pe_int (nomark _))
    (pss_one (ps_ret (pe_op op_mod (pe_callTy call_intS (by rfl) T.n_int (by decide +kernel) (pa_cons (pe_call (ok__law_mix T) (hr.mono (by decide)) (by rfl) T.g__law_mix T.F__law_mix.kp T.b__law_mix .nil pass0 (pa_cons pe_int (pa_cons (pe_ix (ix_seqC K) (pv 0) pe_int (fun _ _ => rfl)) pa_nil))) pa_nil)) (pv 1))))
    pss_nil)
  (pss_one (ps_ret (pe_op op_mod (pe_callTy call_intS (by rfl) T.n_int (by decide +kernel) (pa_cons (pe_call (ok__law_mix T) (hr.mono (by decide)) (by rfl) T.g__law_mix T.F__law_mix.kp T.b__law_mix .nil pass0 (pa_cons (pe_callTy call_intS (by rfl) T.n_int (by decide +kernel) (pa_cons (pe_ix (ix_seqC K) (pv 2) (pe_op op_mod (pe_callTy call_intS (by rfl) T.n_int (by decide +kernel) (pa_cons (pe_ix (ix_seqC K) (pv 0) pe_int (fun _ _ => rfl)) pa_nil)) (pe_callB (call_lenC K) (by rfl) T.n_len (by decide +kernel) (pa_cons (pv 2) pa_nil))) (fun _ _ => rfl)) pa_nil)) (pa_cons (pe_ix (ix_seqC K) (pv 0) pe_int (fun _ _ => rfl)) pa_nil))) pa_nil)) (pv 1))))))))), ?_⟩
    walk_at "rd"
    refine r_setL hp (j := 3) rfl ?_
    have e1 : Ext (wo p H) (wo p (upd H p (.lst ([.ref c, .int i, .int m, .int n].set 3 (.int (n + 1)))))) := wo_upd
    generalize hG : upd H p (.lst ([.ref c, .int i, .int m, .int n].set 3 (.int (n + 1)))) = G at e1
    have gp : G p = some (.lst [.ref c, .int i, .int m, .int (n + 1)]) := by rw [← hG, upd_same]; rfl
    have gc : G c = some (.lst (ns.map V.int)) := by rw [← hG, upd_ne ne]; exact hc
    walk_at "rd"
    refine r_cut (fun σ' G' => ∃ (i m n : Int) (v3 v4 : Option V), σ' = [some (.ref p), some (.int lim), some (.ref c), v3, v4] ∧ G' p = some (.lst [.ref c, .int i, .int m, .int n]) ∧ G' c = some (.lst (ns.map V.int)) ∧ 0 ≤ i ∧ 0 ≤ m ∧ 0 ≤ n ∧ Ext (wo p H) (wo p G')) ?_ ?_
    · walk_at "rd"
      refine ite2 (fun hm => ?_) (fun hm => ?_)
      · walk_at "rd"
        refine ite2 (fun hi => ?_) (fun hi => ?_)
        · have hi : i < ((ns.map V.int).length : Int) := of_decide_eq_true hi
          rw [List.length_map] at hi
          obtain ⟨z, hz⟩ := at_ints h0 hi
          walk_at "rd"
          refine r_ixQL gc hz ?_
          walk_at "rd"
          refine r_setL gp (j := 1) rfl ?_
          have e2 : Ext (wo p G) (wo p (upd G p (.lst ([.ref c, .int i, .int m, .int (n + 1)].set 1 (.int (i + 1)))))) := wo_upd
          generalize hG2 : upd G p (.lst ([.ref c, .int i, .int m, .int (n + 1)].set 1 (.int (i + 1)))) = G2 at e2
          have gp2 : G2 p = some (.lst [.ref c, .int (i + 1), .int m, .int (n + 1)]) := by rw [← hG2, upd_same]; rfl
          have gc2 : G2 c = some (.lst (ns.map V.int)) := by rw [← hG2, upd_ne ne]; exact gc
          have st2 : Pl G2 p c := ⟨ns, i + 1, m, n + 1, gp2, gc2, ne, by omega, h1, by omega, hl⟩
          walk_at "rd"
          refine ite2 (fun hs => ?_) (fun hs => ?_)
          · walk_at "rd"
            refine ⟨_, _, rfl, fun q hq => ?_⟩
            walk_at "rd"
            exact k _ _ (Int.emod_nonneg _ (by omega)) (Int.emod_lt_of_pos _ l0) st2 (e1.trans e2)
          · walk_at "rd"
            refine r_setL gp2 (j := 2) rfl ?_
            refine ⟨i + 1, _, n + 1, _, _, rfl, upd_same, by rw [upd_ne ne]; exact gc2, by omega, ?_, by omega, (e1.trans e2).trans wo_upd⟩
            have a1 : (0 : Int) ≤ (if z < 0 then -z else z) := by split <;> omega
            have a2 : (0 : Int) ≤ (if decide (z < 0) = true then 1 else 0) := by split <;> omega
            omega
        · exact ⟨i, m, n + 1, _, _, rfl, gp, gc, h0, h1, by omega, e1⟩
      · refine iteF ?_
        exact ⟨i, m, n + 1, _, _, rfl, gp, gc, h0, h1, by omega, e1⟩
    · rintro σ' G' ⟨i, m, n, v3, v4, rfl, gp', gc', h0, h1, h2, e2⟩
      have st' : Pl G' p c := ⟨ns, i, m, n, gp', gc', ne, h0, h1, h2, hl⟩
      walk_at "rd"
      refine ite2 (fun hm => ?_) (fun hm => ?_)
      · walk_at "rd"
        refine r_setL gp' (j := 2) rfl ?_
        walk_at "rd"
        refine k _ _ (Int.emod_nonneg _ (by omega)) (Int.emod_lt_of_pos _ l0) ⟨ns, i, m / lim, n, upd_same, by rw [upd_ne ne]; exact gc', ne, h0, Int.ediv_nonneg h1 (by omega), h2, hl⟩ (e2.trans wo_upd)
      · walk_at "rd"
        refine ite2 (fun hz => ?_) (fun hz => ?_)
        · walk_at "rd"
          refine ⟨_, _, rfl, fun q hq => ?_⟩
          walk_at "rd"
          exact k _ _ (Int.emod_nonneg _ (by omega)) (Int.emod_lt_of_pos _ l0) st' e2
        · have hz : ¬ (((ns.map V.int).length : Int) = 0) := fun e => hz (decide_eq_true e)
          rw [List.length_map] at hz
          have hpos : (0 : Int) < (ns.length : Int) := by omega
          obtain ⟨z, hzz⟩ := at_ints (ns := ns) (i := n % (ns.length : Int)) (Int.emod_nonneg _ (by omega)) (Int.emod_lt_of_pos _ hpos)
          walk_at "rd"
          refine r_I (show (0 : Int) < _ by rw [List.length_map]; exact hpos) ?_
          refine r_ixQL gc' (by rw [List.length_map]; exact hzz) ?_
          walk_at "rd"
          refine ⟨_, _, rfl, fun q hq => ?_⟩
          walk_at "rd"
          exact k _ _ (Int.emod_nonneg _ (by omega)) (Int.emod_lt_of_pos _ l0) st' e2
theorem Pl.ext {H H' : Hp} {p c : Addr} (h : Pl H p c) (e : Ext H H') : Pl H' p c := by
  obtain ⟨ns, i, m, k, hp, hc, r⟩ := h
  exact ⟨ns, i, m, k, e _ _ hp, e _ _ hc, r⟩
theorem Pl.ne {H : Hp} {p c l : Addr} (h : Pl H p c) (e : H l = none) : l ≠ p ∧ l ≠ c := by
  obtain ⟨ns, i, m, k, hp, hc, r⟩ := h
  exact ⟨fun z => (by rw [z, hp] at e; cases e), fun z => (by rw [z, hc] at e; cases e)⟩
theorem Pl.mut {H : Hp} {p c l : Addr} {o : HO} (h : Pl H p c) (ne : l ≠ p ∧ l ≠ c) : Pl (upd H l o) p c := by
  obtain ⟨ns, i, m, k, hp, hc, r⟩ := h
  exact ⟨ns, i, m, k, by rw [upd_ne ne.1.symm]; exact hp, by rw [upd_ne ne.2.symm]; exact hc, r⟩
/-- a new object apart from the pool may change -/
theorem wo_mut {H H' : Hp} {p l : Addr} {o : HO} (e : Ext (wo p H) (wo p H')) (hl : H l = none) : Ext (wo p H) (wo p (upd H' l o)) := fun b u hb => by
  obtain ⟨nb, h2⟩ := wo_some hb
  obtain ⟨-, e4⟩ := wo_some (e b u hb)
  rw [wo_ne nb, upd_ne (fun z => by rw [z, hl] at h2; cases h2)]
  exact e4
theorem wo_free {H H' : Hp} {p c l : Addr} (e : Ext (wo p H) (wo p H')) (pl : Pl H' p c) (h : H' l = none) : H l = none := by
  cases q : H l with
  | none => rfl
  | some o =>
    have ne := (pl.ne h).1
    have z := e l o (by rw [wo_ne ne]; exact q)
    rw [wo_ne ne, h] at z
    cases z
theorem wo_get {H H' : Hp} {p l : Addr} {o : HO} (e : Ext (wo p H) (wo p H')) (ne : l ≠ p) (h : H l = some o) : H' l = some o := (wo_some (e l o (by rw [wo_ne ne]; exact h))).2
theorem wo_upd2 {p l : Addr} {H : Hp} {o : HO} : wo l (wo p (upd H l o)) = wo l (wo p H) := by
  funext b
  unfold wo
  by_cases h : b = l
  · rw [if_pos h, if_pos h]
  · rw [if_neg h, if_neg h]
    by_cases h2 : b = p
    · rw [if_pos h2, if_pos h2]
    · rw [if_neg h2, if_neg h2, upd_ne h]
end
end Rk

namespace Rk
open PySem ClX Own
open L2 hiding Ext
local macro_rules | `(tactic| walk_at "side") => `(tactic| first | exact trivial | (show (0:Int) < _; first | assumption | decide | omega) | exact Or.inl ⟨by decide, by decide⟩ | exact Or.inl ⟨by omega, by omega⟩ | exact Or.inr ⟨by decide, by decide⟩ | exact ⟨by decide, by decide⟩ | exact ⟨by decide, by decide, by decide⟩ | exact ⟨by omega, by omega⟩)
local macro_rules | `(tactic| walk_at "rd") => `(tactic| repeat (with_reducible first | refine r_next ?_ | refine r_ret ?_ | refine r_seq ?_ | refine r_asg ?_ | refine r_drop ?_ | refine r_call ?_ | refine r_cons ?_ | refine r_nil ?_ | refine r_cb ?_ | refine r_op ?_ | refine r_sset ?_ | refine r_var (by with_unfolding_all rfl) ?_ | refine r_c ?_ | refine r_name ?_ | refine r_I0 ?_ | (refine r_I ?_ ?_; focus (with_unfolding_all walk_at "side")) | refine r_un ?_ | refine r_U ?_ | refine r_if ?_ | refine r_ifE ?_ | refine r_test ?_ | refine r_B ?_ | refine r_bl ?_ | refine r_not ?_ | refine r_and ?_ | refine r_or ?_ | refine r_andV ?_ | refine r_orV ?_ | refine r_notV ?_ | refine r_eqI ?_ | refine r_neI ?_ | refine r_tup ?_ | refine r_lst ?_ | refine r_sub ?_ | refine r_intI ?_ | refine r_intB ?_ | refine r_abs ?_ | refine r_max ?_ | refine r_ixL (SqL.of (by assumption)) (by with_unfolding_all rfl) ?_ | refine r_ixT (SqT.of (by assumption)) (by with_unfolding_all rfl) ?_ | refine r_ixQL (by assumption) (by with_unfolding_all rfl) ?_ | refine r_ixQT (by assumption) (by with_unfolding_all rfl) ?_ | refine r_ckw ?_ | refine r_callN ?_ | refine r_makeS ?_ | refine r_make ?_ | refine r_makeK ?_ | refine r_methA ?_ | refine r_pcons ?_ | refine r_pnil ?_ | refine r_dget ?_ | refine r_isN ?_ | refine r_notN ?_ | refine r_fld ?_ | refine r_sfld ?_ | refine r_lenL (SqL.of (by assumption)) ?_ | refine r_lenT (SqT.of (by assumption)) ?_ | refine r_callS ?_ | refine r_cutnx ?_ | refine r_cutrt ?_ | refine r_chain ?_ | refine r_yes ?_ | refine iteT ?_ | refine iteF ?_ | refine iteNF ?_ | refine iteNT ?_ | refine r_truth ?_ | refine r_truI ?_ | refine r_sliceV ?_ | refine r_for ?_ | refine r_rng1 ?_ | (refine r_i1 ?_ ?_; focus (with_unfolding_all walk_at "side"))))
theorem sum_nn {zs : List Int} (h : ∀ z ∈ zs, 0 ≤ z ∧ z ≤ 3) : 0 ≤ zs.sum := by
  induction zs with
  | nil => exact Int.le_refl 0
  | cons a r ih =>
    have h1 := (h a List.mem_cons_self).1
    have h2 := ih fun n hn => h n (List.mem_cons_of_mem _ hn)
    rw [List.sum_cons]
    omega
theorem sum_le {zs : List Int} (h : ∀ z ∈ zs, 0 ≤ z ∧ z ≤ 3) : zs.sum ≤ 3 * zs.length := by
  induction zs with
  | nil => exact Int.le_refl 0
  | cons a r ih =>
    have h1 := (h a List.mem_cons_self).2
    have h2 := ih fun n hn => h n (List.mem_cons_of_mem _ hn)
    rw [List.sum_cons, List.length_cons]
    omega
theorem mem_set' {zs : List Int} {j : Nat} {a : Int} (h : j < zs.length) : a ∈ zs.set j a := by
  refine List.mem_of_getElem? (i := j) ?_
  rw [List.getElem?_set_self h]
theorem sum_pos {zs : List Int} {z : Int} (h : ∀ z ∈ zs, 0 ≤ z ∧ z ≤ 3) (hz : z ∈ zs) (hp : 0 < z) : 0 < zs.sum := by
  induction zs with
  | nil => cases hz
  | cons a r ih =>
    have h1 := (h a List.mem_cons_self).1
    have hr : ∀ n ∈ r, 0 ≤ n ∧ n ≤ 3 := fun n hn => h n (List.mem_cons_of_mem _ hn)
    have h2 := sum_nn hr
    rw [List.sum_cons]
    rcases List.mem_cons.mp hz with rfl | hz
    · omega
    · have := ih hr hz
      omega
section
variable {P : Program} {w : World} {K : PySem.W.Frag} {mg : Str → Option Value} {base : Heap} {D : Ad}
/-- the law draws a sweep -/
def spSweep : Sp := fun vs H Q _ => ∃ (p c m : Addr) (most : Int) (menu : List Str), vs = [.ref p, .int most, .ref m] ∧ Pl H p c ∧ 1 ≤ most ∧ most ≤ 7 ∧ H m = some (.tup (menu.map V.str)) ∧ m ≠ p ∧ 1 ≤ menu.length ∧ menu.length ≤ 5 ∧ (∀ s ∈ menu, s = "all" ∨ s = "on" ∨ s = "back") ∧
  ∀ (q : Addr) (ns : List Int) (k own : Int) (es ys : Str) H', Pl H' p c → Ext (wo p H) (wo p H') → GoodS ns k own es ys → ys ∈ menu → TreeAt (wo p H') q ns k own es ys → Q (.ref q) H'
theorem ok__law_sweep (T : Txt w K mg D) : FnOk P w K mg base CX0 3 D.a__law_sweep D.d__law_sweep ["_law_pool_here", "_law_most", "_law_menu"] spSweep := by
  refine T.F__law_sweep.ok sc__law_sweep (fun vs H Q E h => ?_) (fun cdv A outer s H vs Q E hr h => ?_)
  · obtain ⟨p, c, m, most, menu, rfl, _⟩ := h
    rfl
  · obtain ⟨p, c, m, most, menu, rfl, pl, m1, m7, hm, nm, ml1, ml5, hmenu, k⟩ := h
    refine ⟨_, (pss_cons (ps_setLc (i := 3) (own := [("_law_k", 9)]) (g := gName 9) rfl sc__law_sweep.nd rfl rfl (sw_true rfl rfl rfl (by decide +kernel)) (pi_range1 rfl T.n_range (pa_cons (pe_op op_add pe_int (pe_call (ok__law_draw T) (hr.mono (by decide)) (by rfl) T.g__law_draw T.F__law_draw.kp T.b__law_draw .nil pass0 (pa_cons (pv 0) (pa_cons (pv 1) pa_nil)))) pa_nil)) (blkOk_by (own := [("_law_k", 9)]) (N := ["_law_pool_here", "_law_most", "_law_menu", "_law_counts", "_law_place", "_law_mine", "_law_number", "_law_bounds", "_law_bound", "_law_k"]) (sc := defScope s__law_sweep) (by decide +kernel)) (fun _ _ _ _ _ => pg_name (i := 9) sc__law_sweep.nd rfl (Or.inl rfl)) (fun _ _ _ _ _ => pts_nil) (fun _ _ _ _ _ => (pe_call (ok__law_draw T) (hr.mono (by decide)) (by rfl) T.g__law_draw T.F__law_draw.kp T.b__law_draw .nil pass0 (pa_cons (pv 0) (pa_cons pe_int pa_nil)))))
  (Evl.pss_cut (ps_if (pt_cmpR op_eq (pe_callB (cr_sumQ K rfl) (by rfl) T.n_sum (by decide +kernel) (pa_cons (pv 3) pa_nil)) pe_int (nomark _))
    (pss_cons (ps_set (i := 4) sc__law_sweep.nd rfl (Or.inl rfl) (pe_call (ok__law_draw T) (hr.mono (by decide)) (by rfl) T.g__law_draw T.F__law_draw.kp T.b__law_draw .nil pass0 (pa_cons (pv 0) (pa_cons (pe_callB (call_lenC K) (by rfl) T.n_len (by decide +kernel) (pa_cons (pv 3) pa_nil)) pa_nil))))
    (pss_one (ps_asg (pe_op op_add pe_int (pe_call (ok__law_draw T) (hr.mono (by decide)) (by rfl) T.g__law_draw T.F__law_draw.kp T.b__law_draw .nil pass0 (pa_cons (pv 0) (pa_cons pe_int pa_nil)))) (pg_sub (pv 3) (pv 4) set_list))))
    pss_nil)
  (pss_cons (ps_set (i := 5) sc__law_sweep.nd rfl (Or.inl rfl) (pe_call (ok__law_draw T) (hr.mono (by decide)) (by rfl) T.g__law_draw T.F__law_draw.kp T.b__law_draw .nil pass0 (pa_cons (pv 0) (pa_cons (pe_callB (call_lenC K) (by rfl) T.n_len (by decide +kernel) (pa_cons (pv 3) pa_nil)) pa_nil))))
  (pss_cons (ps_set (i := 6) sc__law_sweep.nd rfl (Or.inl rfl) (pe_op op_add pe_int (pe_call (ok__law_draw T) (hr.mono (by decide)) (by rfl) T.g__law_draw T.F__law_draw.kp T.b__law_draw .nil pass0 (pa_cons (pv 0) (pa_cons (pe_callB (cr_sumQ K rfl) (by rfl) T.n_sum (by decide +kernel) (pa_cons (pv 3) pa_nil)) pa_nil)))))
  (pss_cons (ps_set (i := 7) sc__law_sweep.nd rfl (Or.inl rfl) (pe_tup (pa_cons pe_str (pa_cons pe_str pa_nil))))
  (pss_cons (ps_set (i := 8) sc__law_sweep.nd rfl (Or.inl rfl) (pe_ix (ix_seqC K) (pv 7) (pe_call (ok__law_draw T) (hr.mono (by decide)) (by rfl) T.g__law_draw T.F__law_draw.kp T.b__law_draw .nil pass0 (pa_cons (pv 0) (pa_cons pe_int pa_nil))) (fun _ _ => rfl)))
  (pss_one (ps_ret (pe_tup (pa_cons pe_str (pa_cons (pe_callTy (call_tupleC K) (by rfl) T.n_tuple (by decide +kernel) (pa_cons (pv 3) pa_nil)) (pa_cons (pv 6) (pa_cons (pv 5) (pa_cons (pv 8) (pa_cons (pe_ix (ix_seqC K) (pv 2) (pe_call (ok__law_draw T) (hr.mono (by decide)) (by rfl) T.g__law_draw T.F__law_draw.kp T.b__law_draw .nil pass0 (pa_cons (pv 0) (pa_cons (pe_callB (call_lenC K) (by rfl) T.n_len (by decide +kernel) (pa_cons (pv 2) pa_nil)) pa_nil))) (fun _ _ => rfl)) pa_nil))))))))))))))), ?_⟩
    walk_at "rd"
    refine r_lc ?_
    walk_at "rd"
    refine ⟨p, c, _, rfl, pl, by omega, log_small (by omega) (by omega), fun n H1 n0 n1 pl1 e1 => ?_⟩
    walk_at "rd"
    intro L hL
    refine lcin_range (n := (1 + n).toNat) (fun i G => Pl G p c ∧ Ext (wo p H1) (wo p G) ∧ ∃ zs : List Int, zs.length = i ∧ G L = some (.lst (zs.map V.int)) ∧ ∀ z ∈ zs, 0 ≤ z ∧ z ≤ 3) ⟨pl1.mut (pl1.ne hL), wo_mut (Ext.refl _) hL, [], rfl, upd_same, fun z hz => by cases hz⟩ (fun i G hi ⟨plG, eG, zs, hz, hLz, h03⟩ => ⟨rfl, ?_⟩) (fun G ⟨plG, eG, zs, hz, hLz, h03⟩ => ?_)
    · walk_at "rd"
      refine ⟨p, c, _, rfl, plG, by decide, by decide +kernel, fun z G2 z0 z1 pl2 e2 => ?_⟩
      refine ⟨zs.map V.int, wo_get e2 (pl1.ne hL).1 hLz, by rw [List.length_map, sizeLine_eq]; omega, pl2.mut (pl1.ne hL), wo_mut (eG.trans e2) hL, zs ++ [z], by rw [List.length_append, hz]; rfl, ?_, fun u hu => ?_⟩
      · rw [upd_same, List.map_append]
        rfl
      · rcases List.mem_append.mp hu with hu | hu
        · exact h03 u hu
        · rw [List.mem_singleton.mp hu]
          omega
    have nL := (pl1.ne hL).1
    have hLH : H L = none := wo_free e1 pl1 hL
    walk_at "rd"
    refine r_cut (fun τ G => ∃ (zs : List Int) (v4 : Option V), τ = [some (.ref p), some (.int most), some (.ref m), some (.ref L), v4, none, none, none, none, none] ∧ 1 ≤ zs.length ∧ zs.length ≤ 7 ∧ (∀ z ∈ zs, 0 ≤ z ∧ z ≤ 3) ∧ 0 < zs.sum ∧ G L = some (.lst (zs.map V.int)) ∧ Pl G p c ∧ Ext (wo p H) (wo p G)) ?_ ?_
    · walk_at "rd"
      refine r_sumQ (.inl hLz) ?_
      walk_at "rd"
      refine iteD (fun h1 => ?_) (fun h1 => ?_)
      · walk_at "rd"
        rw [List.length_map]
        refine ⟨p, c, _, rfl, plG, by omega, log_small (by omega) (by omega), fun i2 G2 i20 i21 pl2 e2 => ?_⟩
        walk_at "rd"
        refine ⟨p, c, _, rfl, pl2, by decide, by decide +kernel, fun z G3 z0 z1 pl3 e3 => ?_⟩
        walk_at "rd"
        have g3L := wo_get e3 nL (wo_get e2 nL hLz)
        obtain ⟨j, rfl⟩ : ∃ j : Nat, i2 = (j : Int) := ⟨i2.toNat, by omega⟩
        refine r_setL g3L (j := j) (by rw [List.length_map]; exact Evl.ixN_nat (by omega)) ?_
        have h03' : ∀ u ∈ zs.set j (1 + z), 0 ≤ u ∧ u ≤ 3 := fun u hu => by
          rcases List.mem_or_eq_of_mem_set hu with hu | rfl
          · exact h03 u hu
          · omega
        refine ⟨zs.set j (1 + z), _, rfl, by rw [List.length_set]; omega, by rw [List.length_set]; omega, h03', sum_pos h03' (mem_set' (a := 1 + z) (show j < zs.length by omega)) (by omega), ?_, pl3.mut (pl1.ne hL), ?_⟩
        · rw [upd_same, List.map_set]
        · exact wo_mut ((((e1.trans eG).trans e2).trans e3)) hLH
      · walk_at "rd"
        have hs := sum_nn h03
        exact ⟨zs, _, rfl, by omega, by omega, h03, by omega, hLz, plG, e1.trans eG⟩
    · rintro τ G1 ⟨zs, v4, rfl, z1, z7, h03, hsum, g1L, plG1, y1⟩
      walk_at "rd"
      rw [List.length_map]
      refine ⟨p, c, _, rfl, plG1, by omega, log_small (by omega) (by omega), fun own G2 o0 o1 pl2 e2 => ?_⟩
      have g2L := wo_get e2 nL g1L
      walk_at "rd"
      refine r_sumQ (.inl g2L) ?_
      walk_at "rd"
      have hs21 := sum_le h03
      refine ⟨p, c, _, rfl, pl2, by omega, log_small (by omega) (by omega), fun rk G3 r0 r1 pl3 e3 => ?_⟩
      have g3L := wo_get e3 nL g2L
      walk_at "rd"
      refine r_size (by show 2 ≤ 1000; decide) fun b0 fb => ?_
      generalize hG4 : upd G3 b0 (HO.tup [V.str "held", V.str "cut"]) = G4
      obtain ⟨x4, g4⟩ : Ext G3 G4 ∧ G4 b0 = some (HO.tup [V.str "held", V.str "cut"]) := by rw [← hG4]; exact ⟨Ext.new fb, upd_same⟩
      have nb := (pl3.ne fb).1
      walk_at "rd"
      refine ⟨p, c, _, rfl, pl3.ext x4, by decide, by decide +kernel, fun bi G5 b0' b1 pl5 e5 => ?_⟩
      have hes : ∃ es : Str, atI [V.str "held", V.str "cut"] bi = some (.str es) ∧ (es = "held" ∨ es = "cut") := by
        have hc : bi = 0 ∨ bi = 1 := by omega
        rcases hc with rfl | rfl
        · exact ⟨"held", rfl, .inl rfl⟩
        · exact ⟨"cut", rfl, .inr rfl⟩
      obtain ⟨es, hes, hes2⟩ := hes
      refine r_ixQT (wo_get e5 nb g4) hes ?_
      have g5L := wo_get e5 nL (x4 _ _ g3L)
      walk_at "rd"
      have tup : ∀ QV : VK, (∀ t, G5 t = none → QV (.ref t) (upd G5 t (.tup (zs.map V.int)))) → rTuple K [.ref L] G5 QV := fun QV q => r_tupL (SqL.of g5L) q
      refine tup _ fun t ft => ?_
      generalize hG6 : upd G5 t (HO.tup (zs.map V.int)) = G6
      obtain ⟨x6, g6⟩ : Ext G5 G6 ∧ G6 t = some (HO.tup (zs.map V.int)) := by rw [← hG6]; exact ⟨Ext.new ft, upd_same⟩
      have nt := (pl5.ne ft).1
      have y6 := (((((y1.trans e2).trans e3).trans (wo_ext x4)).trans e5).trans (wo_ext x6))
      have g6m := wo_get y6 nm hm
      walk_at "rd"
      rw [List.length_map]
      refine ⟨p, c, _, rfl, pl5.ext x6, by omega, log_small (by omega) (by omega), fun wi G7 w0 w1 pl7 e7 => ?_⟩
      obtain ⟨v, hv, mv⟩ := at_mem (xs := menu.map V.str) (i := wi) w0 (by rw [List.length_map]; exact w1)
      obtain ⟨ys, mys, rfl⟩ := List.mem_map.mp mv
      refine r_ixQT (wo_get e7 nm g6m) hv ?_
      walk_at "rd"
      refine r_size (by show 6 ≤ 1000; decide) fun q fq => ?_
      refine k q zs (1 + rk) own es ys _ (pl7.ext (Ext.new fq)) (y6.trans (e7.trans (wo_ext (Ext.new fq)))) ⟨z1, z7, h03, hsum, by omega, by omega, o0, o1, hes2, hmenu ys mys⟩ mys ⟨t, ?_, ?_⟩
      · rw [wo_ne (pl7.ne fq).1, upd_same]
      · rw [wo_ne nt, upd_ne (ne_of_none (wo_get e7 nt g6) fq)]
        exact wo_get e7 nt g6
end
end Rk

namespace Rk
open PySem ClX Own
open L2 hiding Ext
local macro_rules | `(tactic| walk_at "side") => `(tactic| first | exact trivial | (show (0:Int) < _; first | assumption | decide | omega) | exact Or.inl ⟨by decide, by decide⟩ | exact Or.inl ⟨by omega, by omega⟩ | exact Or.inr ⟨by decide, by decide⟩ | exact ⟨by decide, by decide⟩ | exact ⟨by decide, by decide, by decide⟩ | exact ⟨by omega, by omega⟩)
local macro_rules | `(tactic| walk_at "rd") => `(tactic| repeat (with_reducible first | refine r_next ?_ | refine r_ret ?_ | refine r_seq ?_ | refine r_asg ?_ | refine r_drop ?_ | refine r_call ?_ | refine r_cons ?_ | refine r_nil ?_ | refine r_cb ?_ | refine r_op ?_ | refine r_sset ?_ | refine r_var (by with_unfolding_all rfl) ?_ | refine r_c ?_ | refine r_name ?_ | refine r_I0 ?_ | (refine r_I ?_ ?_; focus (with_unfolding_all walk_at "side")) | refine r_un ?_ | refine r_U ?_ | refine r_if ?_ | refine r_ifE ?_ | refine r_test ?_ | refine r_B ?_ | refine r_bl ?_ | refine r_not ?_ | refine r_and ?_ | refine r_or ?_ | refine r_andV ?_ | refine r_orV ?_ | refine r_notV ?_ | refine r_eqI ?_ | refine r_neI ?_ | refine r_tup ?_ | refine r_lst ?_ | refine r_sub ?_ | refine r_intI ?_ | refine r_intB ?_ | refine r_abs ?_ | refine r_max ?_ | refine r_ixL (SqL.of (by assumption)) (by with_unfolding_all rfl) ?_ | refine r_ixT (SqT.of (by assumption)) (by with_unfolding_all rfl) ?_ | refine r_ixQL (by assumption) (by with_unfolding_all rfl) ?_ | refine r_ixQT (by assumption) (by with_unfolding_all rfl) ?_ | refine r_ckw ?_ | refine r_callN ?_ | refine r_makeS ?_ | refine r_make ?_ | refine r_makeK ?_ | refine r_methA ?_ | refine r_pcons ?_ | refine r_pnil ?_ | refine r_dget ?_ | refine r_isN ?_ | refine r_notN ?_ | refine r_fld ?_ | refine r_sfld ?_ | refine r_lenL (SqL.of (by assumption)) ?_ | refine r_lenT (SqT.of (by assumption)) ?_ | refine r_callS ?_ | refine r_cutnx ?_ | refine r_cutrt ?_ | refine r_chain ?_ | refine r_yes ?_ | refine iteT ?_ | refine iteF ?_ | refine iteNF ?_ | refine iteNT ?_ | refine r_truth ?_ | refine r_truI ?_ | refine r_sliceV ?_ | refine r_for ?_ | refine r_rng1 ?_ | (refine r_i1 ?_ ?_; focus (with_unfolding_all walk_at "side"))))
/-- a tree of a law, as it stands -/
def TrAt (H : Hp) : Ch → Addr → Prop
  | .sw ns k own es ys, q => TreeAt H q ns k own es ys
  | .tu c, q => ∃ b, TrAt H c b ∧ H q = some (.tup [.str "turned", .ref b])
  | .mi c, q => ∃ b, TrAt H c b ∧ H q = some (.tup [.str "mirrored", .ref b])
  | .ti n c, q => ∃ b, TrAt H c b ∧ H q = some (.tup [.str "times", .ref b, .int n])
  | .th x y, q => ∃ b b2, TrAt H x b ∧ TrAt H y b2 ∧ H q = some (.tup [.str "then", .ref b, .ref b2])
  | .hi x y, q => ∃ b b2, TrAt H x b ∧ TrAt H y b2 ∧ H q = some (.tup [.str "higher", .ref b, .ref b2])
  | .lo x y, q => ∃ b b2, TrAt H x b ∧ TrAt H y b2 ∧ H q = some (.tup [.str "lower", .ref b, .ref b2])
theorem TrAt.ext {H H' : Hp} (e : Ext H H') : ∀ {c : Ch} {q : Addr}, TrAt H c q → TrAt H' c q
  | .sw .., _, h => TreeAt.ext h e
  | .tu _, _, ⟨b, h1, h2⟩ => ⟨b, h1.ext e, e _ _ h2⟩
  | .mi _, _, ⟨b, h1, h2⟩ => ⟨b, h1.ext e, e _ _ h2⟩
  | .ti _ _, _, ⟨b, h1, h2⟩ => ⟨b, h1.ext e, e _ _ h2⟩
  | .th _ _, _, ⟨b, b2, h1, h2, h3⟩ => ⟨b, b2, h1.ext e, h2.ext e, e _ _ h3⟩
  | .hi _ _, _, ⟨b, b2, h1, h2, h3⟩ => ⟨b, b2, h1.ext e, h2.ext e, e _ _ h3⟩
  | .lo _ _, _, ⟨b, b2, h1, h2, h3⟩ => ⟨b, b2, h1.ext e, h2.ext e, e _ _ h3⟩
/-- what its tuple begins with -/
theorem TrAt.head {H : Hp} : ∀ {c : Ch} {q : Addr}, TrAt H c q → ∃ r, H q = some (.tup (.str c.kind :: r))
  | .sw .., _, ⟨t, h, _⟩ => ⟨_, h⟩
  | .tu _, _, ⟨_, _, h⟩ => ⟨_, h⟩
  | .mi _, _, ⟨_, _, h⟩ => ⟨_, h⟩
  | .ti _ _, _, ⟨_, _, h⟩ => ⟨_, h⟩
  | .th _ _, _, ⟨_, _, _, _, h⟩ => ⟨_, h⟩
  | .hi _ _, _, ⟨_, _, _, _, h⟩ => ⟨_, h⟩
  | .lo _ _, _, ⟨_, _, _, _, h⟩ => ⟨_, h⟩
def measTup (c : Ch) : List V := [.int c.size, .int c.depth, .int c.reach.1, .int c.reach.2, .int c.written, .str (dirS c.dir)]
section
variable {P : Program} {w : World} {K : PySem.W.Frag} {mg : Str → Option Value} {base : Heap} {D : Ad}
def spMixed : Sp := fun vs H Q _ => ∃ (a b : Str), vs = [.str a, .str b] ∧ Q (.str (mixS a b)) H
theorem ok__law_mixed (T : Txt w K mg D) : FnOk P w K mg base CX0 1 D.a__law_mixed D.d__law_mixed ["_law_one", "_law_other"] spMixed := by
  refine T.F__law_mixed.ok sc__law_mixed (fun vs H Q E h => ?_) (fun cdv A outer s H vs Q E hr h => ?_)
  · obtain ⟨a, b, rfl, _⟩ := h
    rfl
  · obtain ⟨a, b, rfl, q⟩ := h
    refine ⟨_, (pss_cons (ps_if (PW.pt (pw_or (pt_cmpR op_eq (pv 0) pe_str (nomark _)) (pw_or1 (pt_cmpR op_eq (pv 0) (pv 1) (nomark _)))))
    (pss_one (ps_ret (pv 1)))
    pss_nil)
  (pss_cons (ps_if (pt_cmpR op_eq (pv 1) pe_str (nomark _))
    (pss_one (ps_ret (pv 0)))
    pss_nil)
  (pss_one (ps_ret pe_str)))), ?_⟩
    unfold mixS at q
    walk_at "rd"
    refine r_eqS ?_
    walk_at "rd"
    refine iteD (fun h1 => ?_) (fun h1 => ?_)
    · walk_at "rd"
      rw [if_pos (.inl h1)] at q
      exact q
    · walk_at "rd"
      refine r_eqS ?_
      walk_at "rd"
      refine iteD (fun h2 => ?_) (fun h2 => ?_)
      · walk_at "rd"
        rw [if_pos (.inr h2)] at q
        exact q
      · rw [if_neg (fun z => z.elim h1 h2)] at q
        walk_at "rd"
        refine r_eqS ?_
        walk_at "rd"
        refine iteD (fun h3 => ?_) (fun h3 => ?_)
        · walk_at "rd"
          rw [if_pos h3] at q
          exact q
        · walk_at "rd"
          rw [if_neg h3] at q
          exact q
def spMeas (d : Nat) : Sp := fun vs H Q _ => ∃ (c : Ch) (q : Addr), vs = [.ref q] ∧ TrAt H c q ∧ c.okS ∧ c.hgt ≤ d ∧ ∀ m H', Ext H H' → H' m = some (.tup (measTup c)) → Q (.ref m) H'
theorem spMeas_zero {vs : List V} {H : Hp} {Q : VK} {E : XK} (h : spMeas 0 vs H Q E) : False := by
  obtain ⟨c, q, -, -, -, hd, -⟩ := h
  have := Ch.hgt_pos c
  omega
theorem max_if (i j : Int) : (if j > i then j else i) = max i j := by split <;> omega
theorem ok_measD (T : Txt w K mg D) : ∀ d, FnOk P w K mg base CX0 (d + 1) D.a__law_measure D.d__law_measure ["_law_tree_here"] (spMeas d)
  | 0 => ⟨fun _ _ _ _ h => (spMeas_zero h).elim, fun _ _ _ _ _ _ _ _ _ _ _ _ _ h => (spMeas_zero h).elim⟩
  | d + 1 => by
    have ih := ok_measD T d
    refine T.F__law_measure.ok (k := d + 1) sc__law_measure (fun vs H Q E h => ?_) (fun cdv A outer s H vs Q E hr h => ?_)
    · obtain ⟨c, q, rfl, _⟩ := h
      rfl
    obtain ⟨c, q, rfl, tr, ok, hd, kk⟩ := h
    refine ⟨_, (pss_cons (ps_if (pt_cmpR op_eq (pe_ix (ix_seqC K) (pv 0) pe_int (fun _ _ => rfl)) pe_str (nomark _))
    (pss_cons (ps_setLc (i := 2) (own := [("_law_k", 1)]) (g := gName 1) rfl sc__law_measure.nd rfl rfl (sw_true rfl rfl rfl (by decide +kernel)) (pi_range1 rfl T.n_range (pa_cons (pe_callB (call_lenC K) (by rfl) T.n_len (by decide +kernel) (pa_cons (pe_ix (ix_seqC K) (pv 0) pe_int (fun _ _ => rfl)) pa_nil)) pa_nil)) (blkOk_by (own := [("_law_k", 1)]) (N := ["_law_tree_here", "_law_k", "_law_used", "_law_left", "_law_right", "_law_one", "_law_going", "_law_other", "_law_depth", "_law_sides"]) (sc := defScope s__law_measure) (by decide +kernel)) (fun _ _ _ _ _ => pg_name (i := 1) sc__law_measure.nd rfl (Or.inl rfl)) (fun _ _ _ _ _ => (pts_one (pt_cmpR op_gt (pe_ix (ix_seqC K) (pe_ix (ix_seqC K) (pv 0) pe_int (fun _ _ => rfl)) (pv 1) (fun _ _ => rfl)) pe_int (nomark _)))) (fun _ _ _ _ _ => (pv 1)))
    (pss_cons (ps_set (i := 3) sc__law_measure.nd rfl (Or.inl rfl) (pe_callB (call_maxS rfl) (by rfl) T.n_max (by decide +kernel) (pa_cons pe_int (pa_cons (pe_op op_sub (pe_ix (ix_seqC K) (pv 0) pe_int (fun _ _ => rfl)) (pe_ix (ix_seqC K) (pv 2) pe_int (fun _ _ => rfl))) pa_nil))))
    (pss_cons (ps_set (i := 4) sc__law_measure.nd rfl (Or.inl rfl) (pe_callB (call_maxS rfl) (by rfl) T.n_max (by decide +kernel) (pa_cons pe_int (pa_cons (pe_op op_sub (pe_ix (ix_seqC K) (pv 2) (pe_un un_neg pe_int) (fun _ _ => rfl)) (pe_ix (ix_seqC K) (pv 0) pe_int (fun _ _ => rfl))) pa_nil))))
    (pss_one (ps_ret (pe_tup (pa_cons pe_int (pa_cons pe_int (pa_cons (pv 3) (pa_cons (pv 4) (pa_cons (pe_op op_add (pe_op op_mul (pv 3) (pe_callTy call_intS (by rfl) T.n_int (by decide +kernel) (pa_cons (pe_cmpR op_eq (pe_ix (ix_seqC K) (pv 0) pe_int (fun _ _ => rfl)) pe_str (nomark _)) pa_nil))) (pe_op op_mul (pv 4) (pe_callTy call_intS (by rfl) T.n_int (by decide +kernel) (pa_cons (pe_cmpR op_eq (pe_ix (ix_seqC K) (pv 0) pe_int (fun _ _ => rfl)) pe_str (nomark _)) pa_nil)))) (pa_cons (pe_ix (ix_seqC K) (pv 0) pe_int (fun _ _ => rfl)) pa_nil))))))))))))
    pss_nil)
  (pss_cons (ps_set (i := 5) sc__law_measure.nd rfl (Or.inl rfl) (pe_call ih (hr.mono (by omega)) (by rfl) T.g__law_measure T.F__law_measure.kp T.b__law_measure .nil pass0 (pa_cons (pe_ix (ix_seqC K) (pv 0) pe_int (fun _ _ => rfl)) pa_nil)))
  (pss_cons (ps_if (pt_cmpR op_eq (pe_ix (ix_seqC K) (pv 0) pe_int (fun _ _ => rfl)) pe_str (nomark _))
    (pss_one (ps_ret (pe_tup (pa_cons (pe_ix (ix_seqC K) (pv 5) pe_int (fun _ _ => rfl)) (pa_cons (pe_op op_add (pe_ix (ix_seqC K) (pv 5) pe_int (fun _ _ => rfl)) pe_int) (pa_cons (pe_ix (ix_seqC K) (pv 5) pe_int (fun _ _ => rfl)) (pa_cons (pe_ix (ix_seqC K) (pv 5) pe_int (fun _ _ => rfl)) (pa_cons (pe_ix (ix_seqC K) (pv 5) pe_int (fun _ _ => rfl)) (pa_cons (pe_ix (ix_seqC K) (pv 5) pe_int (fun _ _ => rfl)) pa_nil)))))))))
    pss_nil)
  (pss_cons (ps_if (pt_cmpR op_eq (pe_ix (ix_seqC K) (pv 0) pe_int (fun _ _ => rfl)) pe_str (nomark _))
    (pss_cons (ps_set (i := 6) sc__law_measure.nd rfl (Or.inl rfl) (pe_ix (ix_seqC K) (pv 5) pe_int (fun _ _ => rfl)))
    (Evl.pss_cut (ps_if (PW.pt (pw_or (pt_cmpR op_eq (pe_ix (ix_seqC K) (pv 5) pe_int (fun _ _ => rfl)) pe_str (nomark _)) (pw_or1 (pt_cmpR op_eq (pe_ix (ix_seqC K) (pv 5) pe_int (fun _ _ => rfl)) pe_str (nomark _)))))
      (pss_one (ps_set (i := 6) sc__law_measure.nd rfl (Or.inl rfl) (pe_ifExp (pt_cmpR op_eq (pe_ix (ix_seqC K) (pv 5) pe_int (fun _ _ => rfl)) pe_str (nomark _)) pe_str pe_str)))
      pss_nil)
    (pss_one (ps_ret (pe_tup (pa_cons (pe_ix (ix_seqC K) (pv 5) pe_int (fun _ _ => rfl)) (pa_cons (pe_op op_add (pe_ix (ix_seqC K) (pv 5) pe_int (fun _ _ => rfl)) pe_int) (pa_cons (pe_ix (ix_seqC K) (pv 5) pe_int (fun _ _ => rfl)) (pa_cons (pe_ix (ix_seqC K) (pv 5) pe_int (fun _ _ => rfl)) (pa_cons (pe_ix (ix_seqC K) (pv 5) pe_int (fun _ _ => rfl)) (pa_cons (pv 6) pa_nil)))))))))))
    pss_nil)
  (pss_cons (ps_if (pt_cmpR op_eq (pe_ix (ix_seqC K) (pv 0) pe_int (fun _ _ => rfl)) pe_str (nomark _))
    (pss_cons (ps_set (i := 1) sc__law_measure.nd rfl (Or.inl rfl) (pe_ix (ix_seqC K) (pv 0) pe_int (fun _ _ => rfl)))
    (pss_cons (ps_set (i := 6) sc__law_measure.nd rfl (Or.inl rfl) (pe_ifExp (pt_cmpR op_gt (pv 1) pe_int (nomark _)) (pe_ix (ix_seqC K) (pv 5) pe_int (fun _ _ => rfl)) pe_str))
    (pss_one (ps_ret (pe_tup (pa_cons (pe_callB (call_maxS rfl) (by rfl) T.n_max (by decide +kernel) (pa_cons pe_int (pa_cons (pe_op op_mul (pv 1) (pe_ix (ix_seqC K) (pv 5) pe_int (fun _ _ => rfl))) pa_nil))) (pa_cons (pe_op op_add (pe_ix (ix_seqC K) (pv 5) pe_int (fun _ _ => rfl)) pe_int) (pa_cons (pe_op op_mul (pv 1) (pe_ix (ix_seqC K) (pv 5) pe_int (fun _ _ => rfl))) (pa_cons (pe_op op_mul (pv 1) (pe_ix (ix_seqC K) (pv 5) pe_int (fun _ _ => rfl))) (pa_cons (pe_op op_mul (pv 1) (pe_ix (ix_seqC K) (pv 5) pe_int (fun _ _ => rfl))) (pa_cons (pv 6) pa_nil)))))))))))
    pss_nil)
  (pss_cons (ps_set (i := 7) sc__law_measure.nd rfl (Or.inl rfl) (pe_call ih (hr.mono (by omega)) (by rfl) T.g__law_measure T.F__law_measure.kp T.b__law_measure .nil pass0 (pa_cons (pe_ix (ix_seqC K) (pv 0) pe_int (fun _ _ => rfl)) pa_nil)))
  (pss_cons (ps_set (i := 8) sc__law_measure.nd rfl (Or.inl rfl) (pe_op op_add pe_int (pe_callB (call_maxS rfl) (by rfl) T.n_max (by decide +kernel) (pa_cons (pe_callTy call_intS (by rfl) T.n_int (by decide +kernel) (pa_cons (pe_ix (ix_seqC K) (pv 5) pe_int (fun _ _ => rfl)) pa_nil)) (pa_cons (pe_ix (ix_seqC K) (pv 7) pe_int (fun _ _ => rfl)) pa_nil)))))
  (Evl.pss_cut (ps_if (pt_cmpR op_eq (pe_ix (ix_seqC K) (pv 0) pe_int (fun _ _ => rfl)) pe_str (nomark _))
    (pss_one (ps_set (i := 9) sc__law_measure.nd rfl (Or.inl rfl) (pe_tup (pa_cons (pe_op op_add (pe_ix (ix_seqC K) (pv 5) pe_int (fun _ _ => rfl)) (pe_ix (ix_seqC K) (pv 7) pe_int (fun _ _ => rfl))) (pa_cons (pe_op op_add (pe_ix (ix_seqC K) (pv 5) pe_int (fun _ _ => rfl)) (pe_ix (ix_seqC K) (pv 7) pe_int (fun _ _ => rfl))) pa_nil)))))
    (pss_one (ps_set (i := 9) sc__law_measure.nd rfl (Or.inl rfl) (pe_tup (pa_cons (pe_callB (call_maxS rfl) (by rfl) T.n_max (by decide +kernel) (pa_cons (pe_callTy call_intS (by rfl) T.n_int (by decide +kernel) (pa_cons (pe_ix (ix_seqC K) (pv 5) pe_int (fun _ _ => rfl)) pa_nil)) (pa_cons (pe_ix (ix_seqC K) (pv 7) pe_int (fun _ _ => rfl)) pa_nil))) (pa_cons (pe_callB (call_maxS rfl) (by rfl) T.n_max (by decide +kernel) (pa_cons (pe_callTy call_intS (by rfl) T.n_int (by decide +kernel) (pa_cons (pe_ix (ix_seqC K) (pv 5) pe_int (fun _ _ => rfl)) pa_nil)) (pa_cons (pe_ix (ix_seqC K) (pv 7) pe_int (fun _ _ => rfl)) pa_nil))) pa_nil))))))
  (pss_one (ps_ret (pe_tup (pa_cons (pe_op op_add (pe_ix (ix_seqC K) (pv 5) pe_int (fun _ _ => rfl)) (pe_ix (ix_seqC K) (pv 7) pe_int (fun _ _ => rfl))) (pa_cons (pv 8) (pa_cons (pe_ix (ix_seqC K) (pv 9) pe_int (fun _ _ => rfl)) (pa_cons (pe_ix (ix_seqC K) (pv 9) pe_int (fun _ _ => rfl)) (pa_cons (pe_op op_add (pe_ix (ix_seqC K) (pv 5) pe_int (fun _ _ => rfl)) (pe_ix (ix_seqC K) (pv 7) pe_int (fun _ _ => rfl))) (pa_cons (pe_call (ok__law_mixed T) (hr.mono (by omega)) (by rfl) T.g__law_mixed T.F__law_mixed.kp T.b__law_mixed .nil pass0 (pa_cons (pe_ix (ix_seqC K) (pv 5) pe_int (fun _ _ => rfl)) (pa_cons (pe_ix (ix_seqC K) (pv 7) pe_int (fun _ _ => rfl)) pa_nil))) pa_nil))))))))))))))))), ?_⟩
    match c, tr, ok, hd, kk with
    | .sw ns k own es ys, ⟨t, hq, ht⟩, g, hd, kk =>
      have g : GoodS ns k own es ys := g
      walk_at "rd"
      refine r_eqS ?_
      walk_at "rd"
      refine iteT' (decide_eq_true rfl) ?_
      walk_at "rd"
      refine r_lc ?_
      walk_at "rd"
      rw [List.length_map]
      have l7 := g.l7
      refine r_i1 (by omega) ?_
      intro L hL
      refine lcin_range (n := (ns.length : Int).toNat) (fun i G => Ext H G ∧ G L = some (.lst ((usedN ns i).map V.int))) ⟨Ext.new hL, upd_same⟩ (fun i G hi ⟨e, hg⟩ => ?_) (fun G ⟨e, hg⟩ => ?_)
      · have hi : i < ns.length := by omega
        have hge : ns.getD i 0 = ns[i] := by simp [List.getD, hi]
        refine ⟨rfl, ?_⟩
        have gq := e _ _ hq
        have gt := e _ _ ht
        walk_at "rd"
        have hz : atI (ns.map V.int) (0 + (i : Int)) = some (.int ns[i]) := by
          rw [Int.zero_add]
          refine atI_nat ?_
          rw [List.getElem?_map, List.getElem?_eq_getElem hi]
          rfl
        refine r_ixQT gt hz ?_
        walk_at "rd"
        refine iteD (fun h1 => ?_) (fun h1 => ?_)
        · walk_at "rd"
          refine ⟨(usedN ns i).map V.int, hg, ?_, e.mut hL, ?_⟩
          · rw [List.length_map, sizeLine_eq]
            have := usedN_len ns i
            omega
          · rw [upd_same, usedN_succ, if_pos (by rw [hge]; exact h1), List.map_append]
            rw [Int.zero_add]
            rfl
        · refine ⟨e, ?_⟩
          rw [usedN_succ, if_neg (by rw [hge]; exact h1), List.append_nil]
          exact hg
      · have hg : G L = some (.lst ((used ns).map V.int)) := hg
        have ne := used_ne g.sum
        have gq := e _ _ hq
        have gt := e _ _ ht
        obtain ⟨r0, r1, r2⟩ := reach_le g.sum g.l7 g.o0 g.o1
        walk_at "rd"
        refine r_ixQL hg (used_at0 ne) ?_
        walk_at "rd"
        refine r_ixQL hg (used_at1 ne) ?_
        walk_at "rd"
        rw [show (if own - usedF ns > 0 then own - usedF ns else 0) = leftOf ns own from rfl, show (if usedL ns - own > 0 then usedL ns - own else 0) = rightOf ns own from rfl]
        have fin : ∀ (b1 b2 : Bool), b1 = decide (ys = "on") → b2 = decide (ys = "back") → leftOf ns own * (if b1 = true then 1 else 0) + rightOf ns own * (if b2 = true then 1 else 0) = writtenOf ns own ys := by
          intro b1 b2 h1 h2
          subst h1 h2
          unfold writtenOf
          rcases g.ys with rfl | rfl | rfl
          · rw [decide_eq_false (by decide), decide_eq_false (by decide), if_neg (by decide), if_neg (by decide), if_neg (by decide)]
            omega
          · rw [decide_eq_true rfl, decide_eq_false (by decide), if_pos rfl, if_neg (by decide), if_pos rfl]
            omega
          · rw [decide_eq_false (by decide), decide_eq_true rfl, if_neg (by decide), if_pos rfl, if_neg (by decide), if_pos rfl]
            omega
        refine r_eqS ?_
        walk_at "rd"
        refine r_eqS ?_
        walk_at "rd"
        rw [fin _ _ rfl rfl]
        refine r_size (by show 6 ≤ 1000; decide) fun m hm => ?_
        exact kk m _ (e.trans (Ext.new hm)) upd_same
    | .tu c, ⟨b, tb, hq⟩, ok, hd, kk =>
      have hd : c.hgt ≤ d := Nat.le_of_succ_le_succ hd
      walk_at "rd"
      refine r_eqS ?_
      walk_at "rd"
      refine iteF' (decide_eq_false (by decide)) ?_
      walk_at "rd"
      refine ⟨c, b, rfl, tb, ok, hd, fun m H1 x1 hm => ?_⟩
      have hm : H1 m = some (.tup [.int c.size, .int c.depth, .int c.reach.1, .int c.reach.2, .int c.written, .str (dirS c.dir)]) := hm
      have hq1 := x1 _ _ hq
      walk_at "rd"
      refine r_eqS ?_
      walk_at "rd"
      refine iteT' (decide_eq_true rfl) ?_
      walk_at "rd"
      refine r_size (by show 6 ≤ 1000; decide) fun m2 hm2 => ?_
      refine kk m2 _ (x1.trans (Ext.new hm2)) ?_
      rw [upd_same]
      unfold measTup
      rw [show (Ch.tu c).depth = c.depth + 1 from Int.add_comm 1 c.depth]
      rfl
    | .mi c, ⟨b, tb, hq⟩, ok, hd, kk =>
      have hd : c.hgt ≤ d := Nat.le_of_succ_le_succ hd
      walk_at "rd"
      refine r_eqS ?_
      walk_at "rd"
      refine iteF' (decide_eq_false (by decide)) ?_
      walk_at "rd"
      refine ⟨c, b, rfl, tb, ok, hd, fun m H1 x1 hm => ?_⟩
      have hm : H1 m = some (.tup [.int c.size, .int c.depth, .int c.reach.1, .int c.reach.2, .int c.written, .str (dirS c.dir)]) := hm
      have hq1 := x1 _ _ hq
      walk_at "rd"
      refine r_eqS ?_
      walk_at "rd"
      refine iteF' (decide_eq_false (by decide)) ?_
      walk_at "rd"
      refine r_eqS ?_
      walk_at "rd"
      refine iteT' (decide_eq_true rfl) ?_
      walk_at "rd"
      refine r_cut (fun σ' G => σ' = [some (.ref q), none, none, none, none, some (.ref m), some (.str (mirD (dirS c.dir))), none, none, none] ∧ G = H1) ?_ ?_
      · walk_at "rd"
        refine r_eqS ?_
        walk_at "rd"
        refine iteD (fun h1 => ?_) (fun h1 => ?_)
        · walk_at "rd"
          refine r_eqS ?_
          walk_at "rd"
          refine iteT' (decide_eq_true h1) ?_
          walk_at "rd"
          exact ⟨by rw [h1]; rfl, rfl⟩
        · walk_at "rd"
          refine r_eqS ?_
          walk_at "rd"
          refine iteD (fun h2 => ?_) (fun h2 => ?_)
          · walk_at "rd"
            refine r_eqS ?_
            walk_at "rd"
            refine iteF' (decide_eq_false h1) ?_
            walk_at "rd"
            exact ⟨by rw [h2]; rfl, rfl⟩
          · walk_at "rd"
            refine ⟨?_, rfl⟩
            rw [show mirD (dirS c.dir) = dirS c.dir by unfold mirD; rw [if_neg h1, if_neg h2]]
            rfl
      rintro σ' G ⟨rfl, rfl⟩
      walk_at "rd"
      refine r_size (by show 6 ≤ 1000; decide) fun m2 hm2 => ?_
      refine kk m2 _ (x1.trans (Ext.new hm2)) ?_
      rw [upd_same]
      unfold measTup
      rw [show (Ch.mi c).depth = c.depth + 1 from Int.add_comm 1 c.depth, show dirS (Ch.mi c).dir = mirD (dirS c.dir) from dirS_mir c.dir]
      rfl
    | .ti n c, ⟨b, tb, hq⟩, ok, hd, kk =>
      have hn8 := ok.2
      have hd : c.hgt ≤ d := Nat.le_of_succ_le_succ hd
      walk_at "rd"
      refine r_eqS ?_
      walk_at "rd"
      refine iteF' (decide_eq_false (by decide)) ?_
      walk_at "rd"
      refine ⟨c, b, rfl, tb, ok.1, hd, fun m H1 x1 hm => ?_⟩
      have hm : H1 m = some (.tup [.int c.size, .int c.depth, .int c.reach.1, .int c.reach.2, .int c.written, .str (dirS c.dir)]) := hm
      have hq1 := x1 _ _ hq
      walk_at "rd"
      refine r_eqS ?_
      walk_at "rd"
      refine iteF' (decide_eq_false (by decide)) ?_
      walk_at "rd"
      refine r_eqS ?_
      walk_at "rd"
      refine iteF' (decide_eq_false (by decide)) ?_
      walk_at "rd"
      refine r_eqS ?_
      walk_at "rd"
      refine iteT' (decide_eq_true rfl) ?_
      walk_at "rd"
      have fin : ∀ (s : Str), dirS (Ch.ti n c).dir = s → ∀ m2, H1 m2 = none → Q (.ref m2) (upd H1 m2 (.tup [.int (max 1 ((n : Int) * c.size)), .int (c.depth + 1), .int ((n : Int) * c.reach.1), .int ((n : Int) * c.reach.2), .int ((n : Int) * c.written), .str s])) := fun s hs m2 hm2 => by
        refine kk m2 _ (x1.trans (Ext.new hm2)) ?_
        rw [upd_same]
        unfold measTup
        rw [show (Ch.ti n c).depth = c.depth + 1 from Int.add_comm 1 c.depth, hs]
        rfl
      refine iteD (fun h1 => ?_) (fun h1 => ?_)
      · walk_at "rd"
        rw [max_if]
        refine r_size (by show 6 ≤ 1000; decide) (fin _ ?_)
        show dirS (if n > 0 then c.dir else some ("all" : Str)) = _
        rw [if_pos (by omega)]
      · walk_at "rd"
        rw [max_if]
        refine r_size (by show 6 ≤ 1000; decide) (fin _ ?_)
        show dirS (if n > 0 then c.dir else some ("all" : Str)) = _
        rw [if_neg (by omega)]
        rfl
    | .th x y, ⟨b, b2, tb, tb2, hq⟩, ok, hd, kk =>
      have hd : max x.hgt y.hgt ≤ d := Nat.le_of_succ_le_succ hd
      have ej := dirS_joint ok.1.nboth ok.2.nboth
      walk_at "rd"
      refine r_eqS ?_
      walk_at "rd"
      refine iteF' (decide_eq_false (by decide)) ?_
      walk_at "rd"
      refine ⟨x, b, rfl, tb, ok.1, by omega, fun m H1 x1 hm => ?_⟩
      have hq1 := x1 _ _ hq
      walk_at "rd"
      refine r_eqS ?_
      walk_at "rd"
      refine iteF' (decide_eq_false (by decide)) ?_
      walk_at "rd"
      refine r_eqS ?_
      walk_at "rd"
      refine iteF' (decide_eq_false (by decide)) ?_
      walk_at "rd"
      refine r_eqS ?_
      walk_at "rd"
      refine iteF' (decide_eq_false (by decide)) ?_
      walk_at "rd"
      refine ⟨y, b2, rfl, tb2.ext x1, ok.2, by omega, fun m2 H2 x2 hm2 => ?_⟩
      have hm : H2 m = some (.tup [.int x.size, .int x.depth, .int x.reach.1, .int x.reach.2, .int x.written, .str (dirS x.dir)]) := x2 _ _ hm
      have hm2 : H2 m2 = some (.tup [.int y.size, .int y.depth, .int y.reach.1, .int y.reach.2, .int y.written, .str (dirS y.dir)]) := hm2
      have hq2 := x2 _ _ hq1
      walk_at "rd"
      rw [max_if]
      refine r_cut (fun σ' G => ∃ s, σ' = [some (.ref q), none, none, none, none, some (.ref m), none, some (.ref m2), some (.int (1 + max x.depth y.depth)), some (.ref s)] ∧ Ext H2 G ∧ G s = some (.tup [.int (Ch.th x y).reach.1, .int (Ch.th x y).reach.2])) ?_ ?_
      · walk_at "rd"
        refine r_eqS ?_
        walk_at "rd"
        refine iteT' (decide_eq_true rfl) ?_
        walk_at "rd"
        refine r_size (by show 2 ≤ 1000; decide) fun s hs => ?_
        exact ⟨s, rfl, Ext.new hs, upd_same⟩
      rintro σ' G ⟨s, rfl, x3, hs⟩
      have gm := x3 _ _ hm
      have gm2 := x3 _ _ hm2
      walk_at "rd"
      refine ⟨dirS x.dir, dirS y.dir, rfl, ?_⟩
      walk_at "rd"
      rw [ej]
      refine r_size (by show 6 ≤ 1000; decide) fun m3 hm3 => ?_
      exact kk m3 _ (x1.trans (x2.trans (x3.trans (Ext.new hm3)))) upd_same
    | .hi x y, ⟨b, b2, tb, tb2, hq⟩, ok, hd, kk =>
      have hd : max x.hgt y.hgt ≤ d := Nat.le_of_succ_le_succ hd
      have ej := dirS_joint ok.1.nboth ok.2.nboth
      walk_at "rd"
      refine r_eqS ?_
      walk_at "rd"
      refine iteF' (decide_eq_false (by decide)) ?_
      walk_at "rd"
      refine ⟨x, b, rfl, tb, ok.1, by omega, fun m H1 x1 hm => ?_⟩
      have hq1 := x1 _ _ hq
      walk_at "rd"
      refine r_eqS ?_
      walk_at "rd"
      refine iteF' (decide_eq_false (by decide)) ?_
      walk_at "rd"
      refine r_eqS ?_
      walk_at "rd"
      refine iteF' (decide_eq_false (by decide)) ?_
      walk_at "rd"
      refine r_eqS ?_
      walk_at "rd"
      refine iteF' (decide_eq_false (by decide)) ?_
      walk_at "rd"
      refine ⟨y, b2, rfl, tb2.ext x1, ok.2, by omega, fun m2 H2 x2 hm2 => ?_⟩
      have hm : H2 m = some (.tup [.int x.size, .int x.depth, .int x.reach.1, .int x.reach.2, .int x.written, .str (dirS x.dir)]) := x2 _ _ hm
      have hm2 : H2 m2 = some (.tup [.int y.size, .int y.depth, .int y.reach.1, .int y.reach.2, .int y.written, .str (dirS y.dir)]) := hm2
      have hq2 := x2 _ _ hq1
      walk_at "rd"
      rw [max_if]
      refine r_cut (fun σ' G => ∃ s, σ' = [some (.ref q), none, none, none, none, some (.ref m), none, some (.ref m2), some (.int (1 + max x.depth y.depth)), some (.ref s)] ∧ Ext H2 G ∧ G s = some (.tup [.int (Ch.hi x y).reach.1, .int (Ch.hi x y).reach.2])) ?_ ?_
      · walk_at "rd"
        refine r_eqS ?_
        walk_at "rd"
        refine iteF' (decide_eq_false (by decide)) ?_
        walk_at "rd"
        rw [max_if, max_if]
        refine r_size (by show 2 ≤ 1000; decide) fun s hs => ?_
        exact ⟨s, rfl, Ext.new hs, upd_same⟩
      rintro σ' G ⟨s, rfl, x3, hs⟩
      have gm := x3 _ _ hm
      have gm2 := x3 _ _ hm2
      walk_at "rd"
      refine ⟨dirS x.dir, dirS y.dir, rfl, ?_⟩
      walk_at "rd"
      rw [ej]
      refine r_size (by show 6 ≤ 1000; decide) fun m3 hm3 => ?_
      exact kk m3 _ (x1.trans (x2.trans (x3.trans (Ext.new hm3)))) upd_same
    | .lo x y, ⟨b, b2, tb, tb2, hq⟩, ok, hd, kk =>
      have hd : max x.hgt y.hgt ≤ d := Nat.le_of_succ_le_succ hd
      have ej := dirS_joint ok.1.nboth ok.2.nboth
      walk_at "rd"
      refine r_eqS ?_
      walk_at "rd"
      refine iteF' (decide_eq_false (by decide)) ?_
      walk_at "rd"
      refine ⟨x, b, rfl, tb, ok.1, by omega, fun m H1 x1 hm => ?_⟩
      have hq1 := x1 _ _ hq
      walk_at "rd"
      refine r_eqS ?_
      walk_at "rd"
      refine iteF' (decide_eq_false (by decide)) ?_
      walk_at "rd"
      refine r_eqS ?_
      walk_at "rd"
      refine iteF' (decide_eq_false (by decide)) ?_
      walk_at "rd"
      refine r_eqS ?_
      walk_at "rd"
      refine iteF' (decide_eq_false (by decide)) ?_
      walk_at "rd"
      refine ⟨y, b2, rfl, tb2.ext x1, ok.2, by omega, fun m2 H2 x2 hm2 => ?_⟩
      have hm : H2 m = some (.tup [.int x.size, .int x.depth, .int x.reach.1, .int x.reach.2, .int x.written, .str (dirS x.dir)]) := x2 _ _ hm
      have hm2 : H2 m2 = some (.tup [.int y.size, .int y.depth, .int y.reach.1, .int y.reach.2, .int y.written, .str (dirS y.dir)]) := hm2
      have hq2 := x2 _ _ hq1
      walk_at "rd"
      rw [max_if]
      refine r_cut (fun σ' G => ∃ s, σ' = [some (.ref q), none, none, none, none, some (.ref m), none, some (.ref m2), some (.int (1 + max x.depth y.depth)), some (.ref s)] ∧ Ext H2 G ∧ G s = some (.tup [.int (Ch.lo x y).reach.1, .int (Ch.lo x y).reach.2])) ?_ ?_
      · walk_at "rd"
        refine r_eqS ?_
        walk_at "rd"
        refine iteF' (decide_eq_false (by decide)) ?_
        walk_at "rd"
        rw [max_if, max_if]
        refine r_size (by show 2 ≤ 1000; decide) fun s hs => ?_
        exact ⟨s, rfl, Ext.new hs, upd_same⟩
      rintro σ' G ⟨s, rfl, x3, hs⟩
      have gm := x3 _ _ hm
      have gm2 := x3 _ _ hm2
      walk_at "rd"
      refine ⟨dirS x.dir, dirS y.dir, rfl, ?_⟩
      walk_at "rd"
      rw [ej]
      refine r_size (by show 6 ≤ 1000; decide) fun m3 hm3 => ?_
      exact kk m3 _ (x1.trans (x2.trans (x3.trans (Ext.new hm3)))) upd_same
theorem ok__law_measure (T : Txt w K mg D) : FnOk P w K mg base CX0 22 D.a__law_measure D.d__law_measure ["_law_tree_here"] (spMeas 21) := ok_measD T 21
end
end Rk

namespace Rk
open PySem ClX Own
open L2 hiding Ext
local macro_rules | `(tactic| walk_at "side") => `(tactic| first | exact trivial | (show (0:Int) < _; first | assumption | decide | omega) | exact Or.inl ⟨by decide, by decide⟩ | exact Or.inl ⟨by omega, by omega⟩ | exact Or.inr ⟨by decide, by decide⟩ | exact ⟨by decide, by decide⟩ | exact ⟨by decide, by decide, by decide⟩ | exact ⟨by omega, by omega⟩)
local macro_rules | `(tactic| walk_at "rd") => `(tactic| repeat (with_reducible first | refine r_next ?_ | refine r_ret ?_ | refine r_seq ?_ | refine r_asg ?_ | refine r_drop ?_ | refine r_call ?_ | refine r_cons ?_ | refine r_nil ?_ | refine r_cb ?_ | refine r_op ?_ | refine r_sset ?_ | refine r_var (by with_unfolding_all rfl) ?_ | refine r_c ?_ | refine r_name ?_ | refine r_I0 ?_ | (refine r_I ?_ ?_; focus (with_unfolding_all walk_at "side")) | refine r_un ?_ | refine r_U ?_ | refine r_if ?_ | refine r_ifE ?_ | refine r_test ?_ | refine r_B ?_ | refine r_bl ?_ | refine r_not ?_ | refine r_and ?_ | refine r_or ?_ | refine r_andV ?_ | refine r_orV ?_ | refine r_notV ?_ | refine r_eqI ?_ | refine r_neI ?_ | refine r_tup ?_ | refine r_lst ?_ | refine r_sub ?_ | refine r_intI ?_ | refine r_intB ?_ | refine r_abs ?_ | refine r_max ?_ | refine r_ixL (SqL.of (by assumption)) (by with_unfolding_all rfl) ?_ | refine r_ixT (SqT.of (by assumption)) (by with_unfolding_all rfl) ?_ | refine r_ixQL (by assumption) (by with_unfolding_all rfl) ?_ | refine r_ixQT (by assumption) (by with_unfolding_all rfl) ?_ | refine r_ckw ?_ | refine r_callN ?_ | refine r_makeS ?_ | refine r_make ?_ | refine r_makeK ?_ | refine r_methA ?_ | refine r_pcons ?_ | refine r_pnil ?_ | refine r_dget ?_ | refine r_isN ?_ | refine r_notN ?_ | refine r_fld ?_ | refine r_sfld ?_ | refine r_lenL (SqL.of (by assumption)) ?_ | refine r_lenT (SqT.of (by assumption)) ?_ | refine r_callS ?_ | refine r_cutnx ?_ | refine r_cutrt ?_ | refine r_chain ?_ | refine r_yes ?_ | refine iteT ?_ | refine iteF ?_ | refine iteNF ?_ | refine iteNT ?_ | refine r_truth ?_ | refine r_truI ?_ | refine r_sliceV ?_ | refine r_for ?_ | refine r_rng1 ?_ | (refine r_i1 ?_ ?_; focus (with_unfolding_all walk_at "side"))))
section
variable {P : Program} {w : World} {K : PySem.W.Frag} {mg : Str → Option Value} {base : Heap} {D : Ad}
def spFits : Sp := fun vs H Q _ => ∃ (c : Ch) (q : Addr) (r wr : Int), vs = [.ref q, .int r, .int wr] ∧ TrAt H c q ∧ c.okS ∧ c.hgt ≤ 21 ∧ ∀ H', Ext H H' → Q (.bl (decide (c.fits r wr))) H'
theorem ok__law_fits (T : Txt w K mg D) : FnOk P w K mg base CX0 23 D.a__law_fits D.d__law_fits ["_law_tree_here", "_law_reach", "_law_written"] spFits := by
  refine T.F__law_fits.ok sc__law_fits (fun vs H Q E h => ?_) (fun cdv A outer s H vs Q E hr h => ?_)
  · obtain ⟨c, q, r, wr, rfl, _⟩ := h
    rfl
  · obtain ⟨c, q, r, wr, rfl, tr, ok, hd, kk⟩ := h
    refine ⟨_, (pss_cons (ps_set (i := 3) sc__law_fits.nd rfl (Or.inl rfl) (pe_call (ok__law_measure T) (hr.mono (by decide)) (by rfl) T.g__law_measure T.F__law_measure.kp T.b__law_measure .nil pass0 (pa_cons (pv 0) pa_nil)))
  (pss_cons (ps_if (PW.pt (pw_or (pt_cmpR op_gt (pe_ix (ix_seqC K) (pv 3) pe_int (fun _ _ => rfl)) pe_int (nomark _)) (pw_or (pt_cmpR op_gt (pe_ix (ix_seqC K) (pv 3) pe_int (fun _ _ => rfl)) pe_int (nomark _)) (pw_or1 (pt_cmpR op_gt (pe_op op_add (pe_ix (ix_seqC K) (pv 3) pe_int (fun _ _ => rfl)) (pe_ix (ix_seqC K) (pv 3) pe_int (fun _ _ => rfl))) (pv 1) (nomark _))))))
    (pss_one (ps_ret pe_bl))
    pss_nil)
  (pss_one (ps_ret (pe_and (pe_cmpR op_le (pe_ix (ix_seqC K) (pv 3) pe_int (fun _ _ => rfl)) (pv 2) (nomark _)) (pe_one (pe_cmpR op_ne (pe_ix (ix_seqC K) (pv 3) pe_int (fun _ _ => rfl)) pe_str (nomark _)))))))), ?_⟩
    walk_at "rd"
    refine ⟨c, q, rfl, tr, ok, hd, fun m H1 x1 hm => ?_⟩
    have hm : H1 m = some (.tup [.int c.size, .int c.depth, .int c.reach.1, .int c.reach.2, .int c.written, .str (dirS c.dir)]) := hm
    have k1 := kk H1 x1
    have no : ¬ c.fits r wr → Q (.bl false) H1 := fun h => by
      rw [decide_eq_false h] at k1
      exact k1
    walk_at "rd"
    refine iteD (fun h1 => ?_) (fun h1 => ?_)
    · walk_at "rd"
      exact no fun z => by have := z.1; omega
    · walk_at "rd"
      refine iteD (fun h2 => ?_) (fun h2 => ?_)
      · walk_at "rd"
        exact no fun z => by have := z.2.1; omega
      · walk_at "rd"
        refine iteD (fun h3 => ?_) (fun h3 => ?_)
        · walk_at "rd"
          exact no fun z => by have := z.2.2.1; omega
        · walk_at "rd"
          refine iteD (fun h4 => ?_) (fun h4 => ?_)
          · walk_at "rd"
            refine r_neS ?_
            by_cases h5 : dirS c.dir = "both"
            · rw [decide_eq_true h5]
              exact no fun z => z.2.2.2.2 h5
            · rw [decide_eq_false h5]
              rw [decide_eq_true ⟨by omega, by omega, by omega, h4, h5⟩] at k1
              exact k1
          · walk_at "rd"
            exact no fun z => h4 z.2.2.2.1
end
end Rk

namespace Rk
open PySem ClX Own
open L2 hiding Ext
local macro_rules | `(tactic| walk_at "side") => `(tactic| first | exact trivial | (show (0:Int) < _; first | assumption | decide | omega) | exact Or.inl ⟨by decide, by decide⟩ | exact Or.inl ⟨by omega, by omega⟩ | exact Or.inr ⟨by decide, by decide⟩ | exact ⟨by decide, by decide⟩ | exact ⟨by decide, by decide, by decide⟩ | exact ⟨by omega, by omega⟩)
local macro_rules | `(tactic| walk_at "rd") => `(tactic| repeat (with_reducible first | refine r_next ?_ | refine r_ret ?_ | refine r_seq ?_ | refine r_asg ?_ | refine r_drop ?_ | refine r_call ?_ | refine r_cons ?_ | refine r_nil ?_ | refine r_cb ?_ | refine r_op ?_ | refine r_sset ?_ | refine r_var (by with_unfolding_all rfl) ?_ | refine r_c ?_ | refine r_name ?_ | refine r_I0 ?_ | (refine r_I ?_ ?_; focus (with_unfolding_all walk_at "side")) | refine r_un ?_ | refine r_U ?_ | refine r_if ?_ | refine r_ifE ?_ | refine r_test ?_ | refine r_B ?_ | refine r_bl ?_ | refine r_not ?_ | refine r_and ?_ | refine r_or ?_ | refine r_andV ?_ | refine r_orV ?_ | refine r_notV ?_ | refine r_eqI ?_ | refine r_neI ?_ | refine r_tup ?_ | refine r_lst ?_ | refine r_sub ?_ | refine r_intI ?_ | refine r_intB ?_ | refine r_abs ?_ | refine r_max ?_ | refine r_ixL (SqL.of (by assumption)) (by with_unfolding_all rfl) ?_ | refine r_ixT (SqT.of (by assumption)) (by with_unfolding_all rfl) ?_ | refine r_ixQL (by assumption) (by with_unfolding_all rfl) ?_ | refine r_ixQT (by assumption) (by with_unfolding_all rfl) ?_ | refine r_ckw ?_ | refine r_callN ?_ | refine r_makeS ?_ | refine r_make ?_ | refine r_makeK ?_ | refine r_methA ?_ | refine r_pcons ?_ | refine r_pnil ?_ | refine r_dget ?_ | refine r_isN ?_ | refine r_notN ?_ | refine r_fld ?_ | refine r_sfld ?_ | refine r_lenL (SqL.of (by assumption)) ?_ | refine r_lenT (SqT.of (by assumption)) ?_ | refine r_callS ?_ | refine r_cutnx ?_ | refine r_cutrt ?_ | refine r_chain ?_ | refine r_yes ?_ | refine iteT ?_ | refine iteF ?_ | refine iteNF ?_ | refine iteNT ?_ | refine r_truth ?_ | refine r_truI ?_ | refine r_sliceV ?_ | refine r_for ?_ | refine r_rng1 ?_ | (refine r_i1 ?_ ?_; focus (with_unfolding_all walk_at "side"))))
theorem new_wo {G : Hp} {p q : Addr} {o : HO} (n : q ≠ p) : (wo p (upd G q o)) q = some o := by rw [wo_ne n, upd_same]
def inMenu (menu : List Str) (s : Str) : Prop := s ∈ menu ∨ s = "all"
section
variable {P : Program} {w : World} {K : PySem.W.Frag} {mg : Str → Option Value} {base : Heap} {D : Ad}
def spGrown : Sp := fun vs H Q _ => ∃ (p c q m : Addr) (t : Ch) (most : Int) (menu : List Str), vs = [.ref p, .ref q, .int most, .ref m] ∧ Pl H p c ∧ TrAt (wo p H) t q ∧ 1 ≤ most ∧ most ≤ 7 ∧ H m = some (.tup (menu.map V.str)) ∧ m ≠ p ∧ 1 ≤ menu.length ∧ menu.length ≤ 5 ∧ (∀ s ∈ menu, s = "all" ∨ s = "on" ∨ s = "back") ∧
  ∀ (d : Ch) (q2 : Addr) H', Pl H' p c → Ext (wo p H) (wo p H') → Ch.Grown (inMenu menu) t d → TrAt (wo p H') d q2 → Q (.ref q2) H'
theorem ok__law_grown (T : Txt w K mg D) : FnOk P w K mg base CX0 5 D.a__law_grown D.d__law_grown ["_law_pool_here", "_law_tree_here", "_law_most", "_law_menu"] spGrown := by
  refine T.F__law_grown.ok sc__law_grown (fun vs H Q E h => ?_) (fun cdv A outer s H vs Q E hr h => ?_)
  · obtain ⟨p, c, q, m, t, most, menu, rfl, _⟩ := h
    rfl
  · obtain ⟨p, c, q, m, t, most, menu, rfl, pl, tr, m1, m7, hm, nm, ml1, ml5, hmenu, kk⟩ := h
    refine ⟨_, (pss_cons (ps_set (i := 4) sc__law_grown.nd rfl (Or.inl rfl) (pe_call (ok__law_draw T) (hr.mono (by decide)) (by rfl) T.g__law_draw T.F__law_draw.kp T.b__law_draw .nil pass0 (pa_cons (pv 0) (pa_cons pe_int pa_nil))))
  (pss_cons (ps_if (pt_cmpR op_eq (pv 4) pe_int (nomark _))
    (pss_one (ps_ret (pe_tup (pa_cons pe_str (pa_cons (pv 1) pa_nil)))))
    pss_nil)
  (pss_cons (ps_if (pt_cmpR op_eq (pv 4) pe_int (nomark _))
    (pss_one (ps_ret (pe_tup (pa_cons pe_str (pa_cons (pv 1) pa_nil)))))
    pss_nil)
  (pss_cons (ps_if (pt_cmpR op_eq (pv 4) pe_int (nomark _))
    (pss_one (ps_ret (pe_tup (pa_cons pe_str (pa_cons (pv 1) (pa_cons (pe_call (ok__law_draw T) (hr.mono (by decide)) (by rfl) T.g__law_draw T.F__law_draw.kp T.b__law_draw .nil pass0 (pa_cons (pv 0) (pa_cons pe_int pa_nil))) pa_nil))))))
    pss_nil)
  (pss_cons (ps_if (pt_cmpR op_eq (pv 4) pe_int (nomark _))
    (pss_cons (ps_set (i := 5) sc__law_grown.nd rfl (Or.inl rfl) (pe_tup (pa_cons pe_str (pa_cons pe_str (pa_cons pe_str pa_nil)))))
    (pss_one (ps_ret (pe_tup (pa_cons (pe_ix (ix_seqC K) (pv 5) (pe_call (ok__law_draw T) (hr.mono (by decide)) (by rfl) T.g__law_draw T.F__law_draw.kp T.b__law_draw .nil pass0 (pa_cons (pv 0) (pa_cons pe_int pa_nil))) (fun _ _ => rfl)) (pa_cons (pv 1) (pa_cons (pv 1) pa_nil)))))))
    pss_nil)
  (pss_cons (ps_set (i := 6) sc__law_grown.nd rfl (Or.inl rfl) (pe_call (ok__law_sweep T) (hr.mono (by decide)) (by rfl) T.g__law_sweep T.F__law_sweep.kp T.b__law_sweep .nil pass0 (pa_cons (pv 0) (pa_cons (pv 2) (pa_cons (pv 3) pa_nil)))))
  (pss_cons (ps_if (pt_cmpR op_eq (pv 4) pe_int (nomark _))
    (pss_one (ps_ret (pe_tup (pa_cons pe_str (pa_cons (pv 6) (pa_cons (pv 1) pa_nil))))))
    pss_nil)
  (pss_cons (ps_if (pt_cmpR op_eq (pv 4) pe_int (nomark _))
    (pss_one (ps_ret (pe_tup (pa_cons pe_str (pa_cons (pv 1) (pa_cons (pv 6) pa_nil))))))
    pss_nil)
  (pss_cons (ps_if (pt_cmpR op_eq (pv 4) pe_int (nomark _))
    (pss_one (ps_ret (pe_tup (pa_cons pe_str (pa_cons (pv 6) (pa_cons (pv 1) pa_nil))))))
    pss_nil)
  (pss_one (ps_ret (pe_tup (pa_cons pe_str (pa_cons (pv 1) (pa_cons (pv 6) pa_nil))))))))))))))), ?_⟩
    walk_at "rd"
    refine ⟨p, c, _, rfl, pl, by decide, by decide +kernel, fun kind G1 k0 k1 pl1 e1 => ?_⟩
    have tr1 := tr.ext e1
    have hm1 := wo_get e1 nm hm
    have f1 : ∀ {G : Hp}, Pl G p c → Ext (wo p H) (wo p G) → TrAt (wo p G) t q → ∀ (f : Ch → Ch) (o : HO), Ch.Grown (inMenu menu) t (f t) → (∀ {H' : Hp} {q2 : Addr}, TrAt H' t q → H' q2 = some o → TrAt H' (f t) q2) → ∀ q2, G q2 = none → Q (.ref q2) (upd G q2 o) := fun plG eG trG f o gr st q2 f2 =>
      kk (f t) q2 _ (plG.ext (Ext.new f2)) (eG.trans (wo_ext (Ext.new f2))) gr (st (trG.ext (wo_ext (Ext.new f2))) (new_wo (plG.ne f2).1))
    walk_at "rd"
    refine iteD (fun h0 => ?_) (fun h0 => ?_)
    · walk_at "rd"
      exact r_size (by show 2 ≤ 1000; decide) (f1 pl1 e1 tr1 .tu _ (.inl rfl) fun a b => ⟨q, a, b⟩)
    walk_at "rd"
    refine iteD (fun h1 => ?_) (fun h1 => ?_)
    · walk_at "rd"
      exact r_size (by show 2 ≤ 1000; decide) (f1 pl1 e1 tr1 .mi _ (.inr (.inl rfl)) fun a b => ⟨q, a, b⟩)
    walk_at "rd"
    refine iteD (fun h2 => ?_) (fun h2 => ?_)
    · walk_at "rd"
      refine ⟨p, c, _, rfl, pl1, by decide, by decide +kernel, fun n G2 n0 n1 pl2 e2 => ?_⟩
      obtain ⟨n, rfl⟩ : ∃ k : Nat, n = (k : Int) := ⟨n.toNat, by omega⟩
      exact r_size (by show 3 ≤ 1000; decide) (f1 pl2 (e1.trans e2) (tr1.ext e2) (.ti n) _ (.inr (.inr (.inl ⟨n, by omega, rfl⟩))) fun a b => ⟨q, a, b⟩)
    walk_at "rd"
    refine iteD (fun h3 => ?_) (fun h3 => ?_)
    · walk_at "rd"
      refine r_size (by show 3 ≤ 1000; decide) fun z fz => ?_
      generalize hG2 : upd G1 z (HO.tup [V.str "then", V.str "higher", V.str "lower"]) = G2
      obtain ⟨x2, g2⟩ : Ext G1 G2 ∧ G2 z = some (HO.tup [V.str "then", V.str "higher", V.str "lower"]) := by rw [← hG2]; exact ⟨Ext.new fz, upd_same⟩
      have nz := (pl1.ne fz).1
      have e2 := e1.trans (wo_ext x2)
      have tr2 := tr1.ext (wo_ext x2)
      walk_at "rd"
      refine ⟨p, c, _, rfl, pl1.ext x2, by decide, by decide +kernel, fun i G3 i0 i1 pl3 e3 => ?_⟩
      have g3 := wo_get e3 nz g2
      have hi : i = 0 ∨ i = 1 ∨ i = 2 := by omega
      rcases hi with rfl | rfl | rfl
      · refine r_ixQT g3 (by with_unfolding_all rfl) ?_
        walk_at "rd"
        exact r_size (by show 3 ≤ 1000; decide) (f1 pl3 (e2.trans e3) (tr2.ext e3) (fun t => .th t t) _ (.inr (.inr (.inr ⟨t, .inl rfl, .inl rfl⟩))) fun a b => ⟨q, q, a, a, b⟩)
      · refine r_ixQT g3 (by with_unfolding_all rfl) ?_
        walk_at "rd"
        exact r_size (by show 3 ≤ 1000; decide) (f1 pl3 (e2.trans e3) (tr2.ext e3) (fun t => .hi t t) _ (.inr (.inr (.inr ⟨t, .inl rfl, .inr (.inr (.inl rfl))⟩))) fun a b => ⟨q, q, a, a, b⟩)
      · refine r_ixQT g3 (by with_unfolding_all rfl) ?_
        walk_at "rd"
        exact r_size (by show 3 ≤ 1000; decide) (f1 pl3 (e2.trans e3) (tr2.ext e3) (fun t => .lo t t) _ (.inr (.inr (.inr ⟨t, .inl rfl, .inr (.inr (.inr rfl))⟩))) fun a b => ⟨q, q, a, a, b⟩)
    walk_at "rd"
    refine ⟨p, c, m, most, menu, rfl, pl1, m1, m7, hm1, nm, ml1, ml5, hmenu, fun q3 ns k own es ys G2 pl2 e2 g mys tr3 => ?_⟩
    have tr3 : TrAt (wo p G2) (.sw ns k own es ys) q3 := tr3
    have tr2 := tr1.ext e2
    have y2 := e1.trans e2
    have so : ∀ (d : Ch), (d = .th t (.sw ns k own es ys) ∨ d = .th (.sw ns k own es ys) t ∨ d = .hi t (.sw ns k own es ys) ∨ d = .lo (.sw ns k own es ys) t) → Ch.Grown (inMenu menu) t d := fun d hd => .inr (.inr (.inr ⟨_, .inr ⟨ns, k, own, es, ys, rfl, g, .inl mys⟩, hd⟩))
    have f2 : ∀ (d : Ch) (o : HO), Ch.Grown (inMenu menu) t d → (∀ {H' : Hp} {q2 : Addr}, TrAt H' t q → TrAt H' (.sw ns k own es ys) q3 → H' q2 = some o → TrAt H' d q2) → ∀ q2, G2 q2 = none → Q (.ref q2) (upd G2 q2 o) := fun d o gr st q2 f2 =>
      kk d q2 _ (pl2.ext (Ext.new f2)) (y2.trans (wo_ext (Ext.new f2))) gr (st (tr2.ext (wo_ext (Ext.new f2))) (tr3.ext (wo_ext (Ext.new f2))) (new_wo (pl2.ne f2).1))
    walk_at "rd"
    refine iteD (fun h4 => ?_) (fun h4 => ?_)
    · walk_at "rd"
      exact r_size (by show 3 ≤ 1000; decide) (f2 _ _ (so _ (.inr (.inl rfl))) fun a b h => ⟨q3, q, b, a, h⟩)
    walk_at "rd"
    refine iteD (fun h5 => ?_) (fun h5 => ?_)
    · walk_at "rd"
      exact r_size (by show 3 ≤ 1000; decide) (f2 _ _ (so _ (.inr (.inr (.inl rfl)))) fun a b h => ⟨q, q3, a, b, h⟩)
    walk_at "rd"
    refine iteD (fun h6 => ?_) (fun h6 => ?_)
    · walk_at "rd"
      exact r_size (by show 3 ≤ 1000; decide) (f2 _ _ (so _ (.inr (.inr (.inr rfl)))) fun a b h => ⟨q3, q, b, a, h⟩)
    walk_at "rd"
    exact r_size (by show 3 ≤ 1000; decide) (f2 _ _ (so _ (.inl rfl)) fun a b h => ⟨q, q3, a, b, h⟩)
def spTree : Sp := fun vs H Q _ => ∃ (p c m : Addr) (rounds most reach wr : Int) (menu : List Str), vs = [.ref p, .int rounds, .int most, .int reach, .int wr, .ref m] ∧ Pl H p c ∧ 0 ≤ rounds ∧ rounds ≤ 1000 ∧ 1 ≤ most ∧ most ≤ 7 ∧ 1 ≤ reach ∧ reach ≤ 6 ∧ 0 ≤ wr ∧ wr ≤ 3 ∧ H m = some (.tup (menu.map V.str)) ∧ m ≠ p ∧ 1 ≤ menu.length ∧ menu.length ≤ 5 ∧ (∀ s ∈ menu, s = "all" ∨ s = "on" ∨ s = "back") ∧
  ∀ (d : Ch) (q : Addr) H', Pl H' p c → Ext (wo p H) (wo p H') → d.good → d.fits reach wr → (d.ways (inMenu menu) ∧ (d.hgt : Int) ≤ rounds + 1) → TrAt (wo p H') d q → Q (.ref q) H'
theorem ok__law_tree (T : Txt w K mg D) : FnOk P w K mg base CX0 25 D.a__law_tree D.d__law_tree ["_law_pool_here", "_law_rounds", "_law_most", "_law_reach", "_law_written", "_law_menu"] spTree := by
  refine T.F__law_tree.ok sc__law_tree (fun vs H Q E h => ?_) (fun cdv A outer s H vs Q E hr h => ?_)
  · obtain ⟨p, c, m, rounds, most, reach, wr, menu, rfl, _⟩ := h
    rfl
  · obtain ⟨p, c, m, rounds, most, reach, wr, menu, rfl, pl, n0, n1, m1, m7, r1, r6, w0, w3, hm, nm, ml1, ml5, hmenu, kk⟩ := h
    refine ⟨_, (pss_cons (ps_set (i := 6) sc__law_tree.nd rfl (Or.inl rfl) (pe_call (ok__law_sweep T) (hr.mono (by decide)) (by rfl) T.g__law_sweep T.F__law_sweep.kp T.b__law_sweep .nil pass0 (pa_cons (pv 0) (pa_cons (pv 2) (pa_cons (pv 5) pa_nil)))))
  (Evl.pss_cut (ps_if (pt_not (pt_val (pe_call (ok__law_fits T) (hr.mono (by decide)) (by rfl) T.g__law_fits T.F__law_fits.kp T.b__law_fits .nil pass0 (pa_cons (pv 6) (pa_cons (pv 3) (pa_cons (pv 4) pa_nil))))))
    (pss_one (ps_set (i := 6) sc__law_tree.nd rfl (Or.inl rfl) (pe_tup (pa_cons pe_str (pa_cons (pe_tup (pa_cons pe_int (pa_cons pe_int pa_nil))) (pa_cons (pe_op op_add pe_int (pe_call (ok__law_draw T) (hr.mono (by decide)) (by rfl) T.g__law_draw T.F__law_draw.kp T.b__law_draw .nil pass0 (pa_cons (pv 0) (pa_cons pe_int pa_nil)))) (pa_cons pe_int (pa_cons pe_str (pa_cons pe_str pa_nil)))))))))
    pss_nil)
  (pss_cons (ps_for PassesOwn.never rfl (pi_range1 rfl T.n_range (pa_cons (pv 1) pa_nil)) (pg_name (i := 7) sc__law_tree.nd rfl (Or.inl rfl))
    (pss_cons (ps_set (i := 8) sc__law_tree.nd rfl (Or.inl rfl) (pe_call (ok__law_grown T) (hr.mono (by decide)) (by rfl) T.g__law_grown T.F__law_grown.kp T.b__law_grown .nil pass0 (pa_cons (pv 0) (pa_cons (pv 6) (pa_cons (pv 2) (pa_cons (pv 5) pa_nil))))))
    (pss_one (ps_if (pt_val (pe_call (ok__law_fits T) (hr.mono (by decide)) (by rfl) T.g__law_fits T.F__law_fits.kp T.b__law_fits .nil pass0 (pa_cons (pv 8) (pa_cons (pv 3) (pa_cons (pv 4) pa_nil)))))
      (pss_one (ps_set (i := 6) sc__law_tree.nd rfl (Or.inl rfl) (pv 8)))
      pss_nil))))
  (pss_one (ps_ret (pv 6)))))), ?_⟩
    walk_at "rd"
    refine ⟨p, c, m, most, menu, rfl, pl, m1, m7, hm, nm, ml1, ml5, hmenu, fun q ns k own es ys G1 pl1 e1 g mys tr1 => ?_⟩
    have tr1 : TrAt (wo p G1) (.sw ns k own es ys) q := tr1
    walk_at "rd"
    refine r_cut (fun σ' G => ∃ (d : Ch) (q : Addr), σ' = [some (.ref p), some (.int rounds), some (.int most), some (.int reach), some (.int wr), some (.ref m), some (.ref q), none, none] ∧ Pl G p c ∧ Ext (wo p H) (wo p G) ∧ TrAt (wo p G) d q ∧ d.good ∧ d.fits reach wr ∧ d.ways (inMenu menu) ∧ d.hgt ≤ 1) ?_ ?_
    · walk_at "rd"
      refine ⟨.sw ns k own es ys, q, reach, wr, rfl, tr1.ext wo_back, g, by show 1 ≤ 21; decide, fun G2 x2 => ?_⟩
      walk_at "rd"
      refine iteND (fun h1 => ?_) (fun h1 => ?_)
      · walk_at "rd"
        refine r_size (by show 2 ≤ 1000; decide) fun t ft => ?_
        generalize hG3 : upd G2 t (HO.tup [V.int 1, V.int 1]) = G3
        obtain ⟨x3, g3⟩ : Ext G2 G3 ∧ G3 t = some (HO.tup [V.int 1, V.int 1]) := by rw [← hG3]; exact ⟨Ext.new ft, upd_same⟩
        have pl3 := pl1.ext (x2.trans x3)
        have nt := ((pl1.ext x2).ne ft).1
        walk_at "rd"
        refine ⟨p, c, _, rfl, pl3, by decide, by decide +kernel, fun k2 G4 k20 k21 pl4 e4 => ?_⟩
        have g4 := wo_get e4 nt g3
        walk_at "rd"
        refine r_size (by show 6 ≤ 1000; decide) fun q2 f2 => ?_
        have go : GoodS [1, 1] (1 + k2) 0 "held" "all" := ⟨by decide, by decide, by decide, by decide, by omega, by show 1 + k2 ≤ 2; omega, by decide, by decide, .inl rfl, .inl rfl⟩
        have lim := Ch.sw_limit go (by rw [writtenOf_all]; decide)
        refine ⟨.sw [1, 1] (1 + k2) 0 "held" "all", q2, rfl, pl4.ext (Ext.new f2), e1.trans ((wo_ext (x2.trans x3)).trans (e4.trans (wo_ext (Ext.new f2)))), ⟨t, new_wo (pl4.ne f2).1, ?_⟩, ⟨go, lim⟩, ?_, .inr rfl, Nat.le_refl _⟩
        · rw [wo_ne nt]
          exact Ext.new f2 _ _ g4
        · have l6 := Ch.lim_fits (c := .sw [1, 1] (1 + k2) 0 "held" "all") go lim
          refine ⟨l6.1, l6.2.1, ?_, ?_, l6.2.2.2.2⟩
          · show leftOf [1, 1] 0 + rightOf [1, 1] 0 ≤ reach
            rw [show leftOf [1, 1] 0 + rightOf [1, 1] 0 = 1 by decide]
            exact r1
          · show writtenOf [1, 1] 0 "all" ≤ wr
            rw [writtenOf_all]
            exact w0
      · walk_at "rd"
        exact ⟨_, q, rfl, pl1.ext x2, e1.trans (wo_ext x2), tr1.ext (wo_ext x2), ⟨g, h1.lim r6 w3⟩, h1, .inl mys, Nat.le_refl _⟩
    rintro σ' G ⟨d, q, rfl, plG, eG, trG, gd, fd, wd, hd⟩
    walk_at "rd"
    refine foin_range (n := rounds.toNat) (fun i τ G => ∃ (d : Ch) (q : Addr) (v7 v8 : Option V), τ = [some (.ref p), some (.int rounds), some (.int most), some (.int reach), some (.int wr), some (.ref m), some (.ref q), v7, v8] ∧ Pl G p c ∧ Ext (wo p H) (wo p G) ∧ TrAt (wo p G) d q ∧ d.good ∧ d.fits reach wr ∧ d.ways (inMenu menu) ∧ d.hgt ≤ i + 1) ⟨d, q, none, none, rfl, plG, eG, trG, gd, fd, wd, hd⟩ ?_ ?_
    · clear plG eG trG gd fd wd hd
      rintro i τ G hi ⟨d, q, v7, v8, rfl, plG, eG, trG, gd, fd, wd, hd⟩
      walk_at "rd"
      refine ⟨p, c, q, m, d, most, menu, rfl, plG, trG, m1, m7, wo_get eG nm hm, nm, ml1, ml5, hmenu, fun d2 q2 G2 pl2 e2 gr tr2 => ?_⟩
      have ok2 := gr.okS gd.okS
      have hg2 := gr.hgt
      have hg := gd.hgt
      walk_at "rd"
      refine ⟨d2, q2, reach, wr, rfl, tr2.ext wo_back, ok2, by omega, fun G3 x3 => ?_⟩
      walk_at "rd"
      have y3 := eG.trans (e2.trans (wo_ext x3))
      refine iteD (fun h1 => ?_) (fun h1 => ?_)
      · walk_at "rd"
        exact ⟨d2, q2, _, _, rfl, pl2.ext x3, y3, tr2.ext (wo_ext x3), gr.good gd (h1.lim r6 w3), h1, gr.ways wd, by omega⟩
      · walk_at "rd"
        exact ⟨d, q, _, _, rfl, pl2.ext x3, y3, trG.ext (e2.trans (wo_ext x3)), gd, fd, wd, by omega⟩
    · clear plG eG trG gd fd wd hd
      rintro τ G ⟨d, q, v7, v8, rfl, plG, eG, trG, gd, fd, wd, hd⟩
      walk_at "rd"
      exact kk d q G plG eG gd fd ⟨wd, by omega⟩ trG
end
end Rk

namespace Rk
open PySem ClX Own
open L2 hiding Ext
local macro_rules | `(tactic| walk_at "side") => `(tactic| first | exact trivial | (show (0:Int) < _; first | assumption | decide | omega) | exact Or.inl ⟨by decide, by decide⟩ | exact Or.inl ⟨by omega, by omega⟩ | exact Or.inr ⟨by decide, by decide⟩ | exact ⟨by decide, by decide⟩ | exact ⟨by decide, by decide, by decide⟩ | exact ⟨by omega, by omega⟩)
local macro_rules | `(tactic| walk_at "rd") => `(tactic| repeat (with_reducible first | refine r_next ?_ | refine r_ret ?_ | refine r_seq ?_ | refine r_asg ?_ | refine r_drop ?_ | refine r_call ?_ | refine r_cons ?_ | refine r_nil ?_ | refine r_cb ?_ | refine r_op ?_ | refine r_sset ?_ | refine r_var (by with_unfolding_all rfl) ?_ | refine r_c ?_ | refine r_name ?_ | refine r_I0 ?_ | (refine r_I ?_ ?_; focus (with_unfolding_all walk_at "side")) | refine r_un ?_ | refine r_U ?_ | refine r_if ?_ | refine r_ifE ?_ | refine r_test ?_ | refine r_B ?_ | refine r_bl ?_ | refine r_not ?_ | refine r_and ?_ | refine r_or ?_ | refine r_andV ?_ | refine r_orV ?_ | refine r_notV ?_ | refine r_eqI ?_ | refine r_neI ?_ | refine r_tup ?_ | refine r_lst ?_ | refine r_sub ?_ | refine r_intI ?_ | refine r_intB ?_ | refine r_abs ?_ | refine r_max ?_ | refine r_ixL (SqL.of (by assumption)) (by with_unfolding_all rfl) ?_ | refine r_ixT (SqT.of (by assumption)) (by with_unfolding_all rfl) ?_ | refine r_ixQL (by assumption) (by with_unfolding_all rfl) ?_ | refine r_ixQT (by assumption) (by with_unfolding_all rfl) ?_ | refine r_ckw ?_ | refine r_callN ?_ | refine r_makeS ?_ | refine r_make ?_ | refine r_makeK ?_ | refine r_methA ?_ | refine r_pcons ?_ | refine r_pnil ?_ | refine r_dget ?_ | refine r_isN ?_ | refine r_notN ?_ | refine r_fld ?_ | refine r_sfld ?_ | refine r_lenL (SqL.of (by assumption)) ?_ | refine r_lenT (SqT.of (by assumption)) ?_ | refine r_callS ?_ | refine r_cutnx ?_ | refine r_cutrt ?_ | refine r_chain ?_ | refine r_yes ?_ | refine iteT ?_ | refine iteF ?_ | refine iteNF ?_ | refine iteNT ?_ | refine r_truth ?_ | refine r_truI ?_ | refine r_sliceV ?_ | refine r_for ?_ | refine r_rng1 ?_ | (refine r_i1 ?_ ?_; focus (with_unfolding_all walk_at "side"))))
theorem wo_off {H H2 H' : Hp} {a : Addr} (h : H a = none) (x : Ext H H2) (e : Ext (wo a H2) (wo a H')) : Ext H H' := fun b o hb => by
  have ne : b ≠ a := fun z => by rw [z, h] at hb; cases hb
  exact wo_get' e ne (x b o hb)
section
variable {P : Program} {w : World} {K : PySem.W.Frag} {mg : Str → Option Value} {base : Heap} {D : Ad}
/-- a good sweep is made -/
theorem mkSweep {K : PySem.W.Frag} {mg : Str → Option Value} {D : Ad} (T : Txt w K mg D) {H : Hp} {R : Hp → Prop} {E : XK} {a d wa : Addr} {ns : List Int} {k own : Int} {es ys : Str} {o : V} (g : GoodS ns k own es ys) (hw : Sq H wa (ns.map V.int)) (ho : o = .int own ∨ (o = .non ∧ own = ((ns.length : Int) - 1) / 2))
    (wr : writtenOf ns own ys ≤ 3) (ha : H a = none) (hd : H d = none) (nda : d ≠ a) (q : ∀ H', Ext H H' → SweepAt D.c_Sweep H' a ns k own es ys → R H') :
    spSweepI K D [.ref a, .ref wa, .int k, o, .str es, .str ys] (upd (upd H d (.own a)) a (.ins D.c_Sweep d [])) (fun v H3 => v = .non ∧ R H3) E := by
  have x1 : Ext H (upd (upd H d (.own a)) a (.ins D.c_Sweep d [])) := (Ext.new hd).mut ha
  obtain ⟨w1, w2⟩ := g.right o ho
  have l7 := g.l7
  refine ⟨a, D.c_Sweep, d, .ref wa, .int k, o, .str es, .str ys, some (ns.map V.int), rfl, upd_same, fine_Sweep T, rfl, ⟨wa, rfl, hw.ext x1, by rw [List.length_map]; omega, vk_ints _⟩, .int k, ?_, .inr (.inr (.inl ⟨_, rfl⟩)), .inr (.inr (.inl ⟨_, rfl⟩)), fun p hp => ?_, fun ms k1 es1 ys1 _ hsh hrk hes hys => ?_⟩
  · rcases ho with rfl | ⟨rfl, -⟩
    · exact .int own
    · exact .inr (.inr (.inr (.inl rfl)))
  · rw [w1] at hp
    cases hp
  · cases hrk
    cases hes
    cases hys
    have : ms = ns := by
      have := Option.some.inj hsh
      have h2 := congrArg (List.map toI) this
      rw [map_toI, map_toI] at h2
      exact h2.symm
    subst this
    rw [w2]
    refine ⟨fun h3 => absurd wr (by omega), fun _ H' e hs => ⟨rfl, q H' (wo_off ha x1 e) hs⟩⟩
end
end Rk

namespace Rk
open PySem ClX Own
open L2 hiding Ext
section
variable {P : Program} {w : World} {K : PySem.W.Frag} {mg : Str → Option Value} {base : Heap} {D : Ad}
theorem written_good {ns : List Int} {k own : Int} {es ys : Str} (g : (Ch.sw ns k own es ys).good) : writtenOf ns own ys ≤ 3 := (Ch.limit_none.mp g.lim).2.2.2.1
theorem ChAt.ins {S C : Addr} {H : Hp} : ∀ {c : Ch} {a : Addr}, ChAt S C H c a → ∃ X dx fs, H a = some (.ins X dx fs) ∧ ((X = S ∧ c.kind = "sweep") ∨ X = C)
  | .sw .., _, ⟨_, _, _, _, h, _⟩ => ⟨_, _, _, h, .inl ⟨rfl, rfl⟩⟩
  | .tu _, _, ⟨_, _, _, _, _, h, _⟩ => ⟨_, _, _, h, .inr rfl⟩
  | .mi _, _, ⟨_, _, _, _, _, h, _⟩ => ⟨_, _, _, h, .inr rfl⟩
  | .ti _ _, _, ⟨_, _, _, _, _, h, _⟩ => ⟨_, _, _, h, .inr rfl⟩
  | .th _ _, _, ⟨_, _, _, _, _, _, _, h, _⟩ => ⟨_, _, _, h, .inr rfl⟩
  | .hi _ _, _, ⟨_, _, _, _, _, _, _, h, _⟩ => ⟨_, _, _, h, .inr rfl⟩
  | .lo _ _, _, ⟨_, _, _, _, _, _, _, h, _⟩ => ⟨_, _, _, h, .inr rfl⟩
theorem r_invS {K : PySem.W.Frag} {f : Addr} {sp : Sp} {W : L2.St → XK} {ta : TE} {σ : L2.St} {H : Hp} {Q : VK} (h : ta σ H fun x H1 => rInv K f sp (W σ) x H1 Q) : tInvS K f sp W ta σ H Q := h
theorem r_op2S {K : PySem.W.Frag} {on : String} {f : Addr} {sp : Sp} {W : L2.St → XK} {ta tb : TE} {σ : L2.St} {H : Hp} {Q : VK} (h : ta σ H fun x H1 => tb σ H1 fun y H2 => rTwo K on f sp (W σ) x y H2 Q) : tOp2S K on f sp W ta tb σ H Q := h
def noM (fs : List (Str × V)) : Prop := fs.lookup (Str.ofString "mirrored") = none ∧ fs.lookup (Str.ofString "repeated") = none
theorem noM_chain {kind : Str} {pt rt : Addr} {times size depth written : Int} {dir : V} : noM (chainFs kind pt times size depth rt written dir) := ⟨by with_unfolding_all rfl, by with_unfolding_all rfl⟩
theorem noM_sweep {t pt rt : Addr} {k own : Int} {es ys : Str} {ns : List Int} : noM (sweepFs t k own es ys pt rt ns) := ⟨by with_unfolding_all rfl, by with_unfolding_all rfl⟩
theorem ChAt.nom {S C : Addr} {H : Hp} {X dx : Addr} {fs : List (Str × V)} : ∀ {c : Ch} {a : Addr}, ChAt S C H c a → H a = some (.ins X dx fs) → noM fs
  | .sw .., _, ⟨_, _, _, _, h, _⟩, e => by rw [h] at e; cases e; exact noM_sweep
  | .tu _, _, ⟨_, _, _, _, _, h, _⟩, e => by rw [h] at e; cases e; exact noM_chain
  | .mi _, _, ⟨_, _, _, _, _, h, _⟩, e => by rw [h] at e; cases e; exact noM_chain
  | .ti _ _, _, ⟨_, _, _, _, _, h, _⟩, e => by rw [h] at e; cases e; exact noM_chain
  | .th _ _, _, ⟨_, _, _, _, _, _, _, h, _⟩, e => by rw [h] at e; cases e; exact noM_chain
  | .hi _ _, _, ⟨_, _, _, _, _, _, _, h, _⟩, e => by rw [h] at e; cases e; exact noM_chain
  | .lo _ _, _, ⟨_, _, _, _, _, _, _, h, _⟩, e => by rw [h] at e; cases e; exact noM_chain
/-- two chains, for an operator -/
theorem FldsAt.cls' {K : PySem.W.Frag} {S C : Addr} {H : Hp} {c : Ch} {a X dx pt rt : Addr} {fs : List (Str × V)} (f : FldsAt K S C H c a X dx pt rt fs) : X = S ∨ X = C := f.cls
theorem lim_ok {D : Ad} {H : Hp} {z : Ch} {Q : VK} (h : z.limit = none) (k : ∀ q H', Ext H H' → ChAt D.c_Sweep D.c_Chain H' z q → Q (.ref q) H') : Lim D H z Q E0 := ⟨fun _ => k, fun p hp => by rw [h] at hp; cases hp⟩
theorem inv_any (T : Txt w K mg D) {X : Addr} (h : X = D.c_Sweep ∨ X = D.c_Chain) : PySem.W.findIn K (.ref X) "__invert__" = some (some (.ref D.a_Chain__invert__)) := by
  rcases h with rfl | rfl
  · exact T.me_Sweep___invert__.at_
  · exact T.me_Chain___invert__.at_
theorem mir_any (T : Txt w K mg D) {X : Addr} (h : X = D.c_Sweep ∨ X = D.c_Chain) : Meth K X "mirrored" D.a_Chainmirrored := by
  rcases h with rfl | rfl
  · exact T.me_Sweep_mirrored
  · exact T.me_Chain_mirrored
theorem rep_any (T : Txt w K mg D) {X : Addr} (h : X = D.c_Sweep ∨ X = D.c_Chain) : Meth K X "repeated" D.a_Chainrepeated := by
  rcases h with rfl | rfl
  · exact T.me_Sweep_repeated
  · exact T.me_Chain_repeated
theorem two_rshift (T : Txt w K mg D) {X Y : Addr} (h : X = D.c_Sweep ∨ X = D.c_Chain) (h' : Y = D.c_Sweep ∨ Y = D.c_Chain) : Two K "rshift" X Y D.a_Chain__rshift__ := by
  rcases h with rfl | rfl <;> rcases h' with rfl | rfl
  · exact T.tw_rshift_Sweep_Sweep
  · exact T.tw_rshift_Sweep_Chain
  · exact T.tw_rshift_Chain_Sweep
  · exact T.tw_rshift_Chain_Chain
theorem two_or (T : Txt w K mg D) {X Y : Addr} (h : X = D.c_Sweep ∨ X = D.c_Chain) (h' : Y = D.c_Sweep ∨ Y = D.c_Chain) : Two K "or" X Y D.a_Chain__or__ := by
  rcases h with rfl | rfl <;> rcases h' with rfl | rfl
  · exact T.tw_or_Sweep_Sweep
  · exact T.tw_or_Sweep_Chain
  · exact T.tw_or_Chain_Sweep
  · exact T.tw_or_Chain_Chain
theorem two_and (T : Txt w K mg D) {X Y : Addr} (h : X = D.c_Sweep ∨ X = D.c_Chain) (h' : Y = D.c_Sweep ∨ Y = D.c_Chain) : Two K "and" X Y D.a_Chain__and__ := by
  rcases h with rfl | rfl <;> rcases h' with rfl | rfl
  · exact T.tw_and_Sweep_Sweep
  · exact T.tw_and_Sweep_Chain
  · exact T.tw_and_Chain_Sweep
  · exact T.tw_and_Chain_Chain
end
end Rk

namespace Rk
open PySem ClX Own
open L2 hiding Ext
local macro_rules | `(tactic| walk_at "side") => `(tactic| first | exact trivial | (show (0:Int) < _; first | assumption | decide | omega) | exact Or.inl ⟨by decide, by decide⟩ | exact Or.inl ⟨by omega, by omega⟩ | exact Or.inr ⟨by decide, by decide⟩ | exact ⟨by decide, by decide⟩ | exact ⟨by decide, by decide, by decide⟩ | exact ⟨by omega, by omega⟩)
local macro_rules | `(tactic| walk_at "rd") => `(tactic| repeat (with_reducible first | refine r_next ?_ | refine r_ret ?_ | refine r_seq ?_ | refine r_asg ?_ | refine r_drop ?_ | refine r_call ?_ | refine r_cons ?_ | refine r_nil ?_ | refine r_cb ?_ | refine r_op ?_ | refine r_sset ?_ | refine r_var (by with_unfolding_all rfl) ?_ | refine r_c ?_ | refine r_name ?_ | refine r_I0 ?_ | (refine r_I ?_ ?_; focus (with_unfolding_all walk_at "side")) | refine r_un ?_ | refine r_U ?_ | refine r_if ?_ | refine r_ifE ?_ | refine r_test ?_ | refine r_B ?_ | refine r_bl ?_ | refine r_not ?_ | refine r_and ?_ | refine r_or ?_ | refine r_andV ?_ | refine r_orV ?_ | refine r_notV ?_ | refine r_eqI ?_ | refine r_neI ?_ | refine r_tup ?_ | refine r_lst ?_ | refine r_sub ?_ | refine r_intI ?_ | refine r_intB ?_ | refine r_abs ?_ | refine r_max ?_ | refine r_ixL (SqL.of (by assumption)) (by with_unfolding_all rfl) ?_ | refine r_ixT (SqT.of (by assumption)) (by with_unfolding_all rfl) ?_ | refine r_ixQL (by assumption) (by with_unfolding_all rfl) ?_ | refine r_ixQT (by assumption) (by with_unfolding_all rfl) ?_ | refine r_ckw ?_ | refine r_callN ?_ | refine r_makeS ?_ | refine r_make ?_ | refine r_makeK ?_ | refine r_methA ?_ | refine r_pcons ?_ | refine r_pnil ?_ | refine r_dget ?_ | refine r_isN ?_ | refine r_notN ?_ | refine r_fld ?_ | refine r_sfld ?_ | refine r_lenL (SqL.of (by assumption)) ?_ | refine r_lenT (SqT.of (by assumption)) ?_ | refine r_callS ?_ | refine r_cutnx ?_ | refine r_cutrt ?_ | refine r_chain ?_ | refine r_yes ?_ | refine iteT ?_ | refine iteF ?_ | refine iteNF ?_ | refine iteNT ?_ | refine r_truth ?_ | refine r_truI ?_ | refine r_sliceV ?_ | refine r_for ?_ | refine r_rng1 ?_ | (refine r_i1 ?_ ?_; focus (with_unfolding_all walk_at "side"))))
section
variable {P : Program} {w : World} {K : PySem.W.Frag} {mg : Str → Option Value} {base : Heap} {D : Ad}
def spMakeC (D : Ad) (d : Nat) : Sp := fun vs H Q _ => ∃ (c : Ch) (q : Addr), vs = [.ref q] ∧ TrAt H c q ∧ c.good ∧ c.hgt ≤ d ∧ ∀ a H', Ext H H' → ChAt D.c_Sweep D.c_Chain H' c a → Q (.ref a) H'
theorem spMakeC_zero {vs : List V} {H : Hp} {Q : VK} {E : XK} (h : spMakeC D 0 vs H Q E) : False := by
  obtain ⟨c, q, -, -, -, hd, -⟩ := h
  have := Ch.hgt_pos c
  omega
theorem ok_makeD (T : Txt w K mg D) : ∀ d, FnOk P w K mg base CX0 (d + 8) D.a__law_make D.d__law_make ["_law_tree_here"] (spMakeC D d)
  | 0 => ⟨fun _ _ _ _ h => (spMakeC_zero h).elim, fun _ _ _ _ _ _ _ _ _ _ _ _ _ h => (spMakeC_zero h).elim⟩
  | d + 1 => by
    have ih := ok_makeD T d
    refine T.F__law_make.ok (k := d + 8) sc__law_make (fun vs H Q E h => ?_) (fun cdv A outer s H vs Q E hr h => ?_)
    · obtain ⟨c, q, rfl, _⟩ := h
      rfl
    obtain ⟨c, q, rfl, tr, g, hd, kk⟩ := h
    refine ⟨_, (pss_cons (ps_if (pt_cmpR op_eq (pe_ix (ix_seqC K) (pv 0) pe_int (fun _ _ => rfl)) pe_str (nomark _))
    (pss_one (ps_ret (pe_makeS (ks := ["own", "ends", "way"]) (n := 2) T.mk_Sweep (ok_Sweep__init__ T) (hr.mono (by omega)) (by rfl) T.g_Sweep (kb_Sweep__init___3_own_ends_way T).choose_spec (passAll passN) (pa_cons (pe_callTy (call_listC K) (by rfl) T.n_list (by decide +kernel) (pa_cons (pe_ix (ix_seqC K) (pv 0) pe_int (fun _ _ => rfl)) pa_nil)) (pa_cons (pe_ix (ix_seqC K) (pv 0) pe_int (fun _ _ => rfl)) pa_nil)) (pk_cons (pe_ix (ix_seqC K) (pv 0) pe_int (fun _ _ => rfl)) (pk_cons (pe_ix (ix_seqC K) (pv 0) pe_int (fun _ _ => rfl)) (pk_cons (pe_ix (ix_seqC K) (pv 0) pe_int (fun _ _ => rfl)) pk_nil))))))
    pss_nil)
  (pss_cons (ps_set (i := 1) sc__law_make.nd rfl (Or.inl rfl) (pe_call ih (hr.mono (by omega)) (by rfl) T.g__law_make T.F__law_make.kp T.b__law_make .nil pass0 (pa_cons (pe_ix (ix_seqC K) (pv 0) pe_int (fun _ _ => rfl)) pa_nil)))
  (pss_cons (ps_if (pt_cmpR op_eq (pe_ix (ix_seqC K) (pv 0) pe_int (fun _ _ => rfl)) pe_str (nomark _))
    (pss_one (ps_ret (pe_invS K (ok_Chain__invert__ T) (hr.mono (by omega)) T.me_Chain___invert__.fn T.b_Chain__invert__ (passAll passN) (pv 1))))
    pss_nil)
  (pss_cons (ps_if (pt_cmpR op_eq (pe_ix (ix_seqC K) (pv 0) pe_int (fun _ _ => rfl)) pe_str (nomark _))
    (pss_one (ps_ret (pe_methA0 K (pv 1) T.F_Chainmirrored.kp (ok_Chainmirrored T) (hr.mono (by omega)) T.b_Chainmirrored (passAll passN))))
    pss_nil)
  (pss_cons (ps_if (pt_cmpR op_eq (pe_ix (ix_seqC K) (pv 0) pe_int (fun _ _ => rfl)) pe_str (nomark _))
    (pss_one (ps_ret (pe_methA K (pv 1) T.F_Chainrepeated.kp (ok_Chainrepeated T) (hr.mono (by omega)) T.b_Chainrepeated (passAll passN) (pa_cons (pe_ix (ix_seqC K) (pv 0) pe_int (fun _ _ => rfl)) pa_nil))))
    pss_nil)
  (pss_cons (ps_set (i := 2) sc__law_make.nd rfl (Or.inl rfl) (pe_call ih (hr.mono (by omega)) (by rfl) T.g__law_make T.F__law_make.kp T.b__law_make .nil pass0 (pa_cons (pe_ix (ix_seqC K) (pv 0) pe_int (fun _ _ => rfl)) pa_nil)))
  (pss_cons (ps_if (pt_cmpR op_eq (pe_ix (ix_seqC K) (pv 0) pe_int (fun _ _ => rfl)) pe_str (nomark _))
    (pss_one (ps_ret (pe_opS K (on := "rshift") (ok_Chain__rshift__ T) (hr.mono (by omega)) hr.units rfl T.b_Chain__rshift__ (passAll passN) rfl (by decide +kernel) (pv 1) (pv 2))))
    pss_nil)
  (pss_cons (ps_if (pt_cmpR op_eq (pe_ix (ix_seqC K) (pv 0) pe_int (fun _ _ => rfl)) pe_str (nomark _))
    (pss_one (ps_ret (pe_opS K (on := "or") (ok_Chain__or__ T) (hr.mono (by omega)) hr.units rfl T.b_Chain__or__ (passAll passN) rfl (by decide +kernel) (pv 1) (pv 2))))
    pss_nil)
  (pss_one (ps_ret (pe_opS K (on := "and") (ok_Chain__and__ T) (hr.mono (by omega)) hr.units rfl T.b_Chain__and__ (passAll passN) rfl (by decide +kernel) (pv 1) (pv 2)))))))))))), ?_⟩
    match c, tr, g, hd, kk with
    | .sw ns k own es ys, ⟨t, hq, ht⟩, g, hd, kk =>
      walk_at "rd"
      refine r_eqS ?_
      walk_at "rd"
      refine iteT' (decide_eq_true rfl) ?_
      walk_at "rd"
      have ls : ∀ {QV : VK}, (∀ l, H l = none → QV (.ref l) (upd H l (.lst (ns.map V.int)))) → rList K [.ref t] H QV := fun q => ⟨t, _, rfl, .inr (SqT.of ht), q⟩
      refine ls fun l hl => ?_
      generalize hG : upd H l (HO.lst (ns.map V.int)) = G
      obtain ⟨x, gl⟩ : Ext H G ∧ G l = some (HO.lst (ns.map V.int)) := by rw [← hG]; exact ⟨Ext.new hl, upd_same⟩
      have gq := x _ _ hq
      walk_at "rd"
      exact ⟨rfl, rfl, fun a d ha hd nda => mkSweep (R := fun H' => Q (.ref a) H') (E := fun _ _ _ => False) T g.1 (.inl gl) (.inl rfl) (written_good g) ha hd nda (fun H' x' hs => kk a H' (x.trans x') hs)⟩
    | .tu c, ⟨b, tb, hq⟩, g, hd, kk =>
      have hd : c.hgt ≤ d := Nat.le_of_succ_le_succ hd
      walk_at "rd"
      refine r_eqS ?_
      walk_at "rd"
      refine iteF' (decide_eq_false (by decide)) ?_
      walk_at "rd"
      refine ⟨c, b, rfl, tb, g.1, hd, fun a1 H1 x1 h1 => ?_⟩
      have hq1 := x1 _ _ hq
      obtain ⟨X, dx, pt, rt, fs, f⟩ := h1.flds (fine_Sweep T) (fine_Chain T)
      walk_at "rd"
      refine r_eqS ?_
      walk_at "rd"
      refine iteT' (decide_eq_true rfl) ?_
      walk_at "rd"
      refine r_invS ?_
      walk_at "rd"
      exact ⟨a1, X, dx, fs, rfl, f.ins, inv_any T f.cls, c, a1, rfl, h1, g.1, lim_ok g.lim fun a2 H2 x2 h2 => kk a2 H2 (x1.trans x2) h2⟩
    | .mi c, ⟨b, tb, hq⟩, g, hd, kk =>
      have hd : c.hgt ≤ d := Nat.le_of_succ_le_succ hd
      walk_at "rd"
      refine r_eqS ?_
      walk_at "rd"
      refine iteF' (decide_eq_false (by decide)) ?_
      walk_at "rd"
      refine ⟨c, b, rfl, tb, g.1, hd, fun a1 H1 x1 h1 => ?_⟩
      have hq1 := x1 _ _ hq
      obtain ⟨X, dx, pt, rt, fs, f⟩ := h1.flds (fine_Sweep T) (fine_Chain T)
      walk_at "rd"
      refine r_eqS ?_
      walk_at "rd"
      refine iteF' (decide_eq_false (by decide)) ?_
      walk_at "rd"
      refine r_eqS ?_
      walk_at "rd"
      refine iteT' (decide_eq_true rfl) ?_
      walk_at "rd"
      refine ⟨a1, X, dx, fs, rfl, f.ins, (h1.nom f.ins).1, f.fine.cl, mir_any T f.cls, ?_⟩
      walk_at "rd"
      exact ⟨c, a1, rfl, h1, g.1, lim_ok g.lim fun a2 H2 x2 h2 => kk a2 H2 (x1.trans x2) h2⟩
    | .ti n c, ⟨b, tb, hq⟩, g, hd, kk =>
      have hd : c.hgt ≤ d := Nat.le_of_succ_le_succ hd
      have hn8 := g.2.1
      walk_at "rd"
      refine r_eqS ?_
      walk_at "rd"
      refine iteF' (decide_eq_false (by decide)) ?_
      walk_at "rd"
      refine ⟨c, b, rfl, tb, g.1, hd, fun a1 H1 x1 h1 => ?_⟩
      have hq1 := x1 _ _ hq
      obtain ⟨X, dx, pt, rt, fs, f⟩ := h1.flds (fine_Sweep T) (fine_Chain T)
      walk_at "rd"
      refine r_eqS ?_
      walk_at "rd"
      refine iteF' (decide_eq_false (by decide)) ?_
      walk_at "rd"
      refine r_eqS ?_
      walk_at "rd"
      refine iteF' (decide_eq_false (by decide)) ?_
      walk_at "rd"
      refine r_eqS ?_
      walk_at "rd"
      refine iteT' (decide_eq_true rfl) ?_
      walk_at "rd"
      refine ⟨a1, X, dx, fs, rfl, f.ins, (h1.nom f.ins).2, f.fine.cl, rep_any T f.cls, ?_⟩
      walk_at "rd"
      refine ⟨c, a1, _, rfl, h1, g.1, .int _, fun hb => ?_, fun m hm _ => ?_⟩
      · have : between (.int (n : Int)) 0 8 = true := decide_eq_true ⟨by omega, by omega⟩
        rw [this] at hb
        cases hb
      · have : m = n := by
          injection hm with hm
          omega
        subst this
        exact lim_ok g.lim fun a2 H2 x2 h2 => kk a2 H2 (x1.trans x2) h2
    | .th x y, ⟨b, b2, tb, tb2, hq⟩, g, hd, kk =>
      have hd : max x.hgt y.hgt ≤ d := Nat.le_of_succ_le_succ hd
      walk_at "rd"
      refine r_eqS ?_
      walk_at "rd"
      refine iteF' (decide_eq_false (by decide)) ?_
      walk_at "rd"
      refine ⟨x, b, rfl, tb, g.1, by omega, fun a1 H1 x1 h1 => ?_⟩
      have hq1 := x1 _ _ hq
      walk_at "rd"
      refine r_eqS ?_
      walk_at "rd"
      refine iteF' (decide_eq_false (by decide)) ?_
      walk_at "rd"
      refine r_eqS ?_
      walk_at "rd"
      refine iteF' (decide_eq_false (by decide)) ?_
      walk_at "rd"
      refine r_eqS ?_
      walk_at "rd"
      refine iteF' (decide_eq_false (by decide)) ?_
      walk_at "rd"
      refine ⟨y, b2, rfl, tb2.ext x1, g.2.1, by omega, fun a2 H2 x2 h2 => ?_⟩
      have hq2 := x2 _ _ hq1
      have h1 := h1.ext x2
      obtain ⟨X, dx, pt, rt, fs, f⟩ := h1.flds (fine_Sweep T) (fine_Chain T)
      obtain ⟨Y, dy, py, ry, gs, f2⟩ := h2.flds (fine_Sweep T) (fine_Chain T)
      walk_at "rd"
      refine r_eqS ?_
      walk_at "rd"
      refine iteT' (decide_eq_true rfl) ?_
      walk_at "rd"
      refine r_op2S ?_
      walk_at "rd"
      exact ⟨a1, a2, X, Y, dx, dy, fs, gs, rfl, rfl, f.ins, f2.ins, two_rshift T f.cls f2.cls, x, y, a1, a2, rfl, h1, h2, g.1, g.2.1, lim_ok g.lim fun a3 H3 x3 h3 => kk a3 H3 (x1.trans (x2.trans x3)) h3⟩
    | .hi x y, ⟨b, b2, tb, tb2, hq⟩, g, hd, kk =>
      have hd : max x.hgt y.hgt ≤ d := Nat.le_of_succ_le_succ hd
      walk_at "rd"
      refine r_eqS ?_
      walk_at "rd"
      refine iteF' (decide_eq_false (by decide)) ?_
      walk_at "rd"
      refine ⟨x, b, rfl, tb, g.1, by omega, fun a1 H1 x1 h1 => ?_⟩
      have hq1 := x1 _ _ hq
      walk_at "rd"
      refine r_eqS ?_
      walk_at "rd"
      refine iteF' (decide_eq_false (by decide)) ?_
      walk_at "rd"
      refine r_eqS ?_
      walk_at "rd"
      refine iteF' (decide_eq_false (by decide)) ?_
      walk_at "rd"
      refine r_eqS ?_
      walk_at "rd"
      refine iteF' (decide_eq_false (by decide)) ?_
      walk_at "rd"
      refine ⟨y, b2, rfl, tb2.ext x1, g.2.1, by omega, fun a2 H2 x2 h2 => ?_⟩
      have hq2 := x2 _ _ hq1
      have h1 := h1.ext x2
      obtain ⟨X, dx, pt, rt, fs, f⟩ := h1.flds (fine_Sweep T) (fine_Chain T)
      obtain ⟨Y, dy, py, ry, gs, f2⟩ := h2.flds (fine_Sweep T) (fine_Chain T)
      walk_at "rd"
      refine r_eqS ?_
      walk_at "rd"
      refine iteF' (decide_eq_false (by decide)) ?_
      walk_at "rd"
      refine r_eqS ?_
      walk_at "rd"
      refine iteT' (decide_eq_true rfl) ?_
      walk_at "rd"
      refine r_op2S ?_
      walk_at "rd"
      exact ⟨a1, a2, X, Y, dx, dy, fs, gs, rfl, rfl, f.ins, f2.ins, two_or T f.cls f2.cls, x, y, a1, a2, rfl, h1, h2, g.1, g.2.1, lim_ok g.lim fun a3 H3 x3 h3 => kk a3 H3 (x1.trans (x2.trans x3)) h3⟩
    | .lo x y, ⟨b, b2, tb, tb2, hq⟩, g, hd, kk =>
      have hd : max x.hgt y.hgt ≤ d := Nat.le_of_succ_le_succ hd
      walk_at "rd"
      refine r_eqS ?_
      walk_at "rd"
      refine iteF' (decide_eq_false (by decide)) ?_
      walk_at "rd"
      refine ⟨x, b, rfl, tb, g.1, by omega, fun a1 H1 x1 h1 => ?_⟩
      have hq1 := x1 _ _ hq
      walk_at "rd"
      refine r_eqS ?_
      walk_at "rd"
      refine iteF' (decide_eq_false (by decide)) ?_
      walk_at "rd"
      refine r_eqS ?_
      walk_at "rd"
      refine iteF' (decide_eq_false (by decide)) ?_
      walk_at "rd"
      refine r_eqS ?_
      walk_at "rd"
      refine iteF' (decide_eq_false (by decide)) ?_
      walk_at "rd"
      refine ⟨y, b2, rfl, tb2.ext x1, g.2.1, by omega, fun a2 H2 x2 h2 => ?_⟩
      have hq2 := x2 _ _ hq1
      have h1 := h1.ext x2
      obtain ⟨X, dx, pt, rt, fs, f⟩ := h1.flds (fine_Sweep T) (fine_Chain T)
      obtain ⟨Y, dy, py, ry, gs, f2⟩ := h2.flds (fine_Sweep T) (fine_Chain T)
      walk_at "rd"
      refine r_eqS ?_
      walk_at "rd"
      refine iteF' (decide_eq_false (by decide)) ?_
      walk_at "rd"
      refine r_eqS ?_
      walk_at "rd"
      refine iteF' (decide_eq_false (by decide)) ?_
      walk_at "rd"
      refine r_op2S ?_
      walk_at "rd"
      exact ⟨a1, a2, X, Y, dx, dy, fs, gs, rfl, rfl, f.ins, f2.ins, two_and T f.cls f2.cls, x, y, a1, a2, rfl, h1, h2, g.1, g.2.1, lim_ok g.lim fun a3 H3 x3 h3 => kk a3 H3 (x1.trans (x2.trans x3)) h3⟩
theorem ok__law_make (T : Txt w K mg D) : FnOk P w K mg base CX0 28 D.a__law_make D.d__law_make ["_law_tree_here"] (spMakeC D 20) := ok_makeD T 20
end
end Rk

namespace GQ
open PySem PySem.SeqAt
open AutoSeq1 (wpAny_loadPart')
open MeetsSeq MeetsSeq2 MeetsSeq3 SeqRoads2
section
variable {prog : Program} {w : World} {A : Around} {R : Result → Shared → Prop}
theorem tuple_eqB (l b : Addr) (items items2 : Array Value) (n n2 : Nat) (dd dd2 : Option Addr) (sl sl2 : Array (Option Value)) (hsz : items.size = items2.size) (I : Nat → Shared → Prop) (bs : Nat → Bool)
    (turn : ∀ i (h1 : i < items.size) (h2 : i < items2.size) s, I i s → wpAny (model prog w) A.in1 (eqBool items[i] items2[i]) (fun r s' => r = bs i ∧ I (i + 1) s') (fun e s' => R (.error e) s') s)
    (fin : ∀ s, I items.size s → (∀ i, i < items.size → bs i = true) → R (.ok (.ret (.bool true))) s)
    (stop : ∀ i s, i < items.size → I (i + 1) s → bs i = false → R (.ok (.ret (.bool false))) s) {s : Shared} (hl1 : s.heap.get? l = some { cls := .type "tuple", dict := dd, data := .seq items n, slots := sl }) (hb1 : s.heap.get? b = some { cls := .type "tuple", dict := dd2, data := .seq items2 n2, slots := sl2 }) (h : I 0 s) :
    wpAny (model prog w) A.in1 (Builtin.«tuple.__eq__» ⟨[.ref l, .ref b], []⟩) (FinOf prog w A R) (fun e s' => R (.error e) s') s := by
  have f2 := AutoSeq1.sub_tuple_tuple
  have hZ : (items.toList.zip items2.toList).length = items.size := by simp [hsz]
  have h0 := h
  obtain ⟨hp, g, d, tk, os⟩ := s
  wp_walk using wpAny_loadPart' hl1, wpAny_loadPart' hb1, wpAny_forIn_list _ (fun rest b s' => b.1 = none ∧ ∃ i, rest = (items.toList.zip items2.toList).drop i ∧ i ≤ items.size ∧ I i s' ∧ ∀ j, j < i → bs j = true) _
  case turn =>
    rintro ⟨y, x⟩ rest b s' ⟨hb', i, hz, hi, hI, hall⟩
    have hlt : i < (items.toList.zip items2.toList).length := by
      rcases Nat.lt_or_ge i (items.toList.zip items2.toList).length with h' | h'
      · exact h'
      · rw [List.drop_of_length_le h'] at hz; cases hz
    have h1 : i < items.size := hZ ▸ hlt
    have h2 : i < items2.size := hsz ▸ h1
    rw [List.drop_eq_getElem_cons hlt] at hz
    injection hz with hyx hrest
    have hy : y = items[i] := by have := congrArg Prod.fst hyx; simpa using this
    have hx : x = items2[i] := by have := congrArg Prod.snd hyx; simpa using this
    subst hy hx
    refine wpAny_bind (wpAny_mono (turn i h1 h2 s' hI) (fun r s2 q2 => ?_) fun _ _ x => x)
    obtain ⟨hr, q2⟩ := q2
    cases hbs : bs i with
    | true =>
      rw [hbs] at hr
      subst hr
      wp_walk
      refine ⟨rfl, i + 1, hrest, h1, q2, fun j hj => ?_⟩
      rcases Nat.lt_or_ge j i with h' | h'
      · exact hall j h'
      · have : j = i := by omega
        rw [this]
        exact hbs
    | false =>
      rw [hbs] at hr
      subst hr
      have hR := stop i s2 h1 q2 hbs
      wp_walk
      exact hR
  case fin =>
    rintro ⟨b1, b2⟩ s' ⟨hb', i, hz, hi, hI, hall⟩
    simp only at hb'
    subst hb'
    have hge : items.size ≤ i := by
      rcases Nat.lt_or_ge i (items.toList.zip items2.toList).length with h' | h'
      · rw [List.drop_eq_getElem_cons h'] at hz; cases hz
      · exact hZ ▸ h'
    have hi' : i = items.size := by omega
    have hR : R (.ok (.ret (.bool true))) s' := fin s' (hi' ▸ hI) (fun j hj => hall j (by omega))
    wp_walk
    simpa [Builtin.Tuple.tupleCompareSizes, hsz] using hR
  case h =>
    exact ⟨rfl, 0, rfl, Nat.zero_le _, h0, fun j hj => by omega⟩
theorem rc_tupB {E : Value → Shared → Prop} {s : Shared} {l b : Addr} {items items2 : Array Value} {Q : Value → Shared → Prop} (hsz : items.size = items2.size) (hu : A.units < cLine) (I : Nat → Shared → Prop) (bs : Nat → Bool)
    (hl : s.heap.IsTuple l items) (hb : s.heap.IsTuple b items2)
    (turn : ∀ i (h1 : i < items.size) (h2 : i < items2.size) s, I i s → wpAny (model prog w) A.in1 (eqBool items[i] items2[i]) (fun r s' => r = bs i ∧ I (i + 1) s') E s)
    (fin : ∀ s, I items.size s → (∀ i, i < items.size → bs i = true) → Q (.bool true) s) (stop : ∀ i s, i < items.size → I (i + 1) s → bs i = false → Q (.bool false) s) (h : I 0 s) : wpAny (model prog w) A (richCompare .Eq (.ref l) (.ref b)) Q E s := by
  obtain ⟨⟨cls, dd, data, sl⟩, ho, hc, n, hd⟩ := id hl
  obtain ⟨⟨cls2, dd2, data2, sl2⟩, ho2, hc2, n2, hd2⟩ := id hb
  simp only at hc hd hc2 hd2
  subst hc hd hc2 hd2
  refine wpAny_richCompare_same_room (op := .Eq) ⟨_, ho, rfl⟩ ⟨_, ho2, rfl⟩ F.slot_tuple_eq (call_here F.slot_tuple_eq ⟨_, ho, rfl⟩ F.entry_tuple_eq (F.args_tuple_eq_2 _ _) ?_) hu
  exact tuple_eqB (R := wants (fun v s' => v ≠ .notImplemented ∧ Q v s') E) l b items items2 n n2 dd dd2 sl sl2 hsz I bs turn (fun s' q hall => ⟨(fun x => nomatch x), fin s' q hall⟩) (fun i s' hi q hbs => ⟨(fun x => nomatch x), stop i s' hi q hbs⟩) ho ho2 h
end
end GQ
namespace Own
open PySem PySem.W PySem.Calls PyProof.Rows
section
variable {M : Model} {prog : Program} {w : World} {A : Around} {E : Value → Shared → Prop} {s : Shared} {K : Frag} {x y C C2 f : Addr} {ox oy : Obj} {od od2 : Option Obj}
/-- x == y, y an instance of a class below x's, with its own __eq__ -/
theorem eq_refl_K {h₀ : Heap} {L : Addr} {m : Str → Option Value} {Q : Value → Shared → Prop} (hu : A.units < cLine) (F : Fr h₀ L s.heap m) (X₀ : K.In h₀) (I : InstAt s.heap x ox C od) (J : InstAt s.heap y oy C2 od2) (ne : C2 ≠ C) (sub : subIn K (.ref C2) (.ref C) = some true)
    (hs : findIn K (.ref C2) "__eq__" = some (some (.ref f))) (hf : isFn K (.ref f) = true)
    (h : wpAny (model prog w) A (call (.ref f) [.ref y, .ref x]) (PySem.W.CmpBack Q) E s) : wpAny (model prog w) A (richCompare .Eq (.ref x) (.ref y)) Q E s := by
  have X := X₀.keeps F.keep
  have one : wpAny (model prog w) A (tryCompare (.ref y) (cmpInfo .Eq).2.2 (.ref x)) (fun r s' => ∃ v, r = some v ∧ Q v s') E s := by
    unfold tryCompare
    refine wpAny_bind (ifBound_K X J hs hf (wpAny_mono h (fun v s' hv => ?_) fun _ _ e => e))
    cases v <;> first | exact hv.elim | exact wpAny_pure ⟨_, rfl, hv⟩
  unfold richCompare
  simp only [oneThing_ref]
  refine wpAny_holding (wpAny_bind (wpAny_cRoomFor hu ?_))
  refine wpAny_bind (I.type.here (wpAny_bind (J.type.here ?_)))
  split
  · refine wpAny_bind ((looks_subIn X sub).here ?_)
    simp only [if_true]
    refine wpAny_bind (wpAny_mono one (fun r s' z => ?_) fun _ _ e => e)
    obtain ⟨v, rfl, hq⟩ := z
    exact wpAny_bind (wpAny_rule (wpAny_pure hq))
  · rename_i q
    exact absurd (by simp; exact fun z => ne z.symm) q
/-- x != y, y an instance of a class below x's -/
theorem ne_refl_K {h₀ : Heap} {L : Addr} {m : Str → Option Value} {Q : Value → Shared → Prop} (hu : A.units + 1 < cLine) (F1 : Fr h₀ L s.heap m) (X₀ : K.In h₀) (I : InstAt s.heap x ox C od) (J : InstAt s.heap y oy C2 od2) (ne : C2 ≠ C) (sub : subIn K (.ref C2) (.ref C) = some true)
    (hs : findIn K (.ref C2) "__eq__" = some (some (.ref f))) (hne : findIn K (.ref C2) "__ne__" = some (some (.builtin "object.__ne__"))) (hm : mroIn K C2 (.type "object") = some true) (hf : isFn K (.ref f) = true)
    (h : wpAny (model prog w) A.in1 (call (.ref f) [.ref y, .ref x]) (fun v s' => ∃ k, v = .bool k ∧ Q (.bool (!k)) s') E s) : wpAny (model prog w) A (richCompare .NotEq (.ref x) (.ref y)) Q E s := by
  have X := X₀.keeps F1.keep
  have one : wpAny (model prog w) A (tryCompare (.ref y) "__ne__" (.ref x)) (fun r s' => ∃ v, r = some v ∧ Q v s') E s := by
    unfold tryCompare
    refine wpAny_bind (ifBound_objNe X J hne (wpAny_call (codeAny_call_builtin F.cmp_object.ne.plain F.cmpEntry_ne (check_slot F.cmpKind_ne F.cmpSplit_ne (J.type.andThen (looks_mroIn X hm)) (F.cmpArgs_ne _ _)
      (entry_ne_own (A := A.in1) (by show A.units + 1 < cLine; omega) X J hs hf (wpAny_mono h (fun v s' hv => ?_) fun _ _ e => e))))))
    obtain ⟨k, rfl, hq⟩ := hv
    refine ⟨k, rfl, ?_⟩
    first | exact ⟨_, rfl, wpAny_pure ⟨_, rfl, hq⟩⟩ | exact wpAny_pure ⟨_, rfl, hq⟩
  unfold richCompare
  simp only [oneThing_ref]
  refine wpAny_holding (wpAny_bind (wpAny_cRoomFor (by omega) ?_))
  rw [cmpInfo_NotEq]
  dsimp only
  refine wpAny_bind (I.type.here (wpAny_bind (J.type.here ?_)))
  split
  · refine wpAny_bind ((looks_subIn X sub).here ?_)
    simp only [if_true]
    refine wpAny_bind (wpAny_mono one (fun r s' z => ?_) fun _ _ e => e)
    obtain ⟨v, rfl, hq⟩ := z
    exact wpAny_bind (wpAny_rule (wpAny_pure hq))
  · rename_i q
    exact absurd (by simp; exact fun z => ne z.symm) q
end
end Own
namespace Own
open PySem L2 PyProof.Rows
/-- how two values compare, by the abstract heap -/
abbrev EqvB := V → V → Bool → Hp → Prop
def MonB (D : EqvB) : Prop := ∀ x y b H H', Ext H H' → D x y b H → D x y b H'
def EqB (X : Cx) (n : Nat) (D : EqvB) : Prop :=
  ∀ (A : Around) (pins : List (Addr × Obj)) (s : Shared) (σ : L2.St) (H : Hp) (x y : V) (b : Bool) (u v : Value), Sub X n A → L2.Inv X pins σ H s → RelV x u → RelV y v → D x y b H →
    wpAny (model X.prog X.w) A (eqBool u v) (fun r s' => r = b ∧ ∃ H', L2.Inv X pins σ H' s' ∧ Ext H H') X.xe s
def RcB (X : Cx) (n : Nat) (D : EqvB) : Prop :=
  ∀ (A : Around) (pins : List (Addr × Obj)) (s : Shared) (σ : L2.St) (H : Hp) (x y : V) (b : Bool) (u v : Value), Sub X n A → L2.Inv X pins σ H s → RelV x u → RelV y v → D x y b H →
    wpAny (model X.prog X.w) A (richCompare .Eq u v) (fun r s' => r = .bool b ∧ ∃ H', L2.Inv X pins σ H' s' ∧ Ext H H') X.xe s
section
variable {X : Cx} {n m : Nat} {D D' : EqvB}
/-- item by item -/
def PrsB (D : EqvB) (xs ys : List V) (b : Bool) (H : Hp) : Prop := xs.length = ys.length ∧ ∃ bs : Nat → Bool, (∀ (i : Nat) x y, xs[i]? = some x → ys[i]? = some y → D x y (bs i) H) ∧ (b = true ↔ ∀ i, i < xs.length → bs i = true)
def DTupB (K : PySem.W.Frag) (D : EqvB) : EqvB := fun x y b H => ∃ a a2 xs ys, x = .ref a ∧ y = .ref a2 ∧ SqT K H a xs ∧ SqT K H a2 ys ∧ PrsB D xs ys b H
theorem RcB.eqB (h : RcB X n D) (hr : ∀ x y b H, D x y b H → ∃ a a2, x = .ref a ∧ y = .ref a2 ∧ (a = a2 → b = true)) : EqB X n D := by
  intro A pins s σ H x y b u v sb I rx ry d
  obtain ⟨a, a2, rfl, rfl, e⟩ := hr _ _ _ _ d
  cases rx
  cases ry
  by_cases hab : a = a2
  · subst hab
    rw [e rfl]
    exact SeqAt.EqAt.same (A := A) (s := s) (.ref a) X.prog X.w X.xe _ ⟨rfl, H, I, Ext.rfl'⟩
  · refine GQ.eqBool_refG hab (wpAny_mono (h A pins s σ H (.ref a) (.ref a2) b _ _ sb I rfl rfl d) (fun r s' q => ?_) fun _ _ x => x)
    obtain ⟨hr', q⟩ := q
    exact ⟨b, hr', rfl, q⟩
theorem rcB_tup (hD : MonB D) (h : EqB X n D) : RcB X (n + 1) (DTupB X.K D) := by
  intro A pins s σ H x y b u v sb I rx ry d
  obtain ⟨a, a2, xs, ys, rfl, rfl, ha, hb, hlen, bs, hbs, hall⟩ := d
  cases rx
  cases ry
  obtain ⟨its, r, e, z⟩ := I.tuple ha
  obtain ⟨its2, r2, e2, z2⟩ := I.tuple hb
  have hsz : its.toArray.size = its2.toArray.size := by rw [List.size_toArray, List.size_toArray, ← r.length, ← r2.length]; exact hlen
  have l1 : its.toArray.size = xs.length := by rw [List.size_toArray, ← r.length]
  refine GQ.rc_tupB hsz sb.room.units0 (fun _ s' => LoopI X pins σ H s') bs e e2 (fun i h1 h2 s' q => ?_) (fun s' q hq => ⟨?_, q⟩) (fun i s' hi q hq => ⟨?_, q⟩) ⟨H, I, Ext.rfl'⟩
  · obtain ⟨H1, I1, e1⟩ := q
    have g1 : its[i]? = some its.toArray[i] := by
      have h1' : i < its.length := by simpa using h1
      rw [List.getElem?_eq_getElem h1'] <;> simp
    have g2 : its2[i]? = some its2.toArray[i] := by
      have h2' : i < its2.length := by simpa using h2
      rw [List.getElem?_eq_getElem h2'] <;> simp
    have k1 : i < xs.length := by rw [r.length]; simpa using h1
    have k2 : i < ys.length := by rw [r2.length]; simpa using h2
    obtain ⟨u, hu, ru⟩ := r.get (List.getElem?_eq_getElem k1)
    obtain ⟨v, hv, rv⟩ := r2.get (List.getElem?_eq_getElem k2)
    rw [g1] at hu
    rw [g2] at hv
    rw [Option.some.inj hu, Option.some.inj hv]
    refine wpAny_mono (h A.in1 pins s' σ H1 _ _ _ u v sb.in1 I1 ru rv (hD _ _ _ _ _ e1 (hbs i _ _ (List.getElem?_eq_getElem k1) (List.getElem?_eq_getElem k2)))) (fun r s2 q => ?_) fun _ _ x => x
    obtain ⟨hr, H2, I2, e2⟩ := q
    exact ⟨hr, H2, I2, e1.trans e2⟩
  · rw [hall.mpr fun i hi => hq i (by rw [l1]; exact hi)]
  · cases hb2 : b with
    | false => rfl
    | true =>
      rw [hb2] at hall
      have := hall.mp rfl i (by rw [← l1]; exact hi)
      rw [hq] at this
      cases this
/-- x == y as an expression -/
def rEqB (D : EqvB) : R2 := fun x y H Q => ∃ b, D x y b H ∧ ∀ H', Ext H H' → Q (.bl b) H'
def rNeB (D : EqvB) : R2 := fun x y H Q => ∃ b, D x y b H ∧ ∀ H', Ext H H' → Q (.bl (!b)) H'
theorem op_eqB (h : RcB X n D) (hr : Room n X.A) : OpR X (compareOp .Eq) (rEqB D) := by
  intro pins s σ H x y v u Q I rx ry hq
  obtain ⟨b, d, q⟩ := hq
  show wpAny (model X.prog X.w) X.A (richCompare .Eq v u) (EP X pins σ Q) X.xe s
  refine wpAny_mono (h X.A pins s σ H x y b v u ⟨hr, rfl⟩ I rx ry d) (fun r s' z => ?_) fun _ _ x => x
  obtain ⟨hr', H', I', e⟩ := z
  subst hr'
  exact ⟨.bl b, H', I', rfl, q H' e⟩
end
end Own

noncomputable instance Own.Ch.dec : DecidableEq Own.Ch := fun _ _ => Classical.propDecidable _
namespace Rk
open PySem ClX Own
open L2 hiding Ext
local macro_rules | `(tactic| walk_at "side") => `(tactic| first | exact trivial | (show (0:Int) < _; first | assumption | decide | omega) | exact Or.inl ⟨by decide, by decide⟩ | exact Or.inl ⟨by omega, by omega⟩ | exact Or.inr ⟨by decide, by decide⟩ | exact ⟨by decide, by decide⟩ | exact ⟨by decide, by decide, by decide⟩ | exact ⟨by omega, by omega⟩)
local macro_rules | `(tactic| walk_at "rd") => `(tactic| repeat (with_reducible first | refine r_next ?_ | refine r_ret ?_ | refine r_seq ?_ | refine r_asg ?_ | refine r_drop ?_ | refine r_call ?_ | refine r_cons ?_ | refine r_nil ?_ | refine r_cb ?_ | refine r_op ?_ | refine r_sset ?_ | refine r_var (by with_unfolding_all rfl) ?_ | refine r_c ?_ | refine r_name ?_ | refine r_I0 ?_ | (refine r_I ?_ ?_; focus (with_unfolding_all walk_at "side")) | refine r_un ?_ | refine r_U ?_ | refine r_if ?_ | refine r_ifE ?_ | refine r_test ?_ | refine r_B ?_ | refine r_bl ?_ | refine r_not ?_ | refine r_and ?_ | refine r_or ?_ | refine r_andV ?_ | refine r_orV ?_ | refine r_notV ?_ | refine r_eqI ?_ | refine r_neI ?_ | refine r_tup ?_ | refine r_lst ?_ | refine r_sub ?_ | refine r_intI ?_ | refine r_intB ?_ | refine r_abs ?_ | refine r_max ?_ | refine r_ixL (SqL.of (by assumption)) (by with_unfolding_all rfl) ?_ | refine r_ixT (SqT.of (by assumption)) (by with_unfolding_all rfl) ?_ | refine r_ixQL (by assumption) (by with_unfolding_all rfl) ?_ | refine r_ixQT (by assumption) (by with_unfolding_all rfl) ?_ | refine r_ckw ?_ | refine r_callN ?_ | refine r_makeS ?_ | refine r_make ?_ | refine r_makeK ?_ | refine r_methA ?_ | refine r_pcons ?_ | refine r_pnil ?_ | refine r_dget ?_ | refine r_isN ?_ | refine r_notN ?_ | refine r_fld ?_ | refine r_sfld ?_ | refine r_lenL (SqL.of (by assumption)) ?_ | refine r_lenT (SqT.of (by assumption)) ?_ | refine r_callS ?_ | refine r_cutnx ?_ | refine r_cutrt ?_ | refine r_chain ?_ | refine r_yes ?_ | refine iteT ?_ | refine iteF ?_ | refine iteNF ?_ | refine iteNT ?_ | refine r_truth ?_ | refine r_truI ?_ | refine r_sliceV ?_ | refine r_for ?_ | refine r_rng1 ?_ | (refine r_i1 ?_ ?_; focus (with_unfolding_all walk_at "side"))))
section
variable {P : Program} {w : World} {K : PySem.W.Frag} {mg : Str → Option Value} {base : Heap} {D : Ad}
theorem ch_kinds (T : Txt w K mg D) {H : Hp} {c c2 : Ch} {a : Addr} (h : ChAt D.c_Sweep D.c_Chain H c a) (h2 : ChAt D.c_Sweep D.c_Chain H c2 a) : c.kind = c2.kind := by
  obtain ⟨X, dx, pt, rt, fs, f⟩ := h.flds (fine_Sweep T) (fine_Chain T)
  obtain ⟨X2, dx2, pt2, rt2, fs2, f2⟩ := h2.flds (fine_Sweep T) (fine_Chain T)
  have e := f.ins.symm.trans f2.ins
  injection e with e
  injection e with e1 e2 e3
  subst e3
  have k := f.kind.symm.trans f2.kind
  injection k with k
  injection k
theorem tup_inj {H : Hp} {p : Addr} {xs ys : List V} (h : H p = some (.tup xs)) (h2 : H p = some (.tup ys)) : xs = ys := by
  have e := h.symm.trans h2
  injection e with e
  injection e
theorem ref_inj {a b : Addr} (h : V.ref a = V.ref b) : a = b := by
  injection h
theorem int_inj {a b : Int} (h : V.int a = V.int b) : a = b := by
  injection h
theorem str_inj {a b : Str} (h : V.str a = V.str b) : a = b := by
  injection h
theorem ints_inj {ns ms : List Int} (h : ns.map V.int = ms.map V.int) : ns = ms := by
  have := congrArg (List.map toI) h
  rwa [map_toI, map_toI] at this
theorem node_inj {C : Addr} {H : Hp} {c c2 : Ch} {a : Addr} {ps qs : List V} (h : NodeAt C H c a ps) (h2 : NodeAt C H c2 a qs) : ps = qs ∧ c.times = c2.times := by
  obtain ⟨dx, pt, rt, e1, e2, -⟩ := h
  obtain ⟨dx2, pt2, rt2, g1, g2, -⟩ := h2
  have e := e1.symm.trans g1
  injection e with e
  injection e with _ _ e
  have hp : pt = pt2 := by
    have l1 : lk "parts" (chainFs c.kind pt c.times c.size c.depth rt c.written (optS c.dir)) = some (.ref pt) := by with_unfolding_all rfl
    have l2 : lk "parts" (chainFs c2.kind pt2 c2.times c2.size c2.depth rt2 c2.written (optS c2.dir)) = some (.ref pt2) := by with_unfolding_all rfl
    rw [e] at l1
    have := l1.symm.trans l2
    injection this with this
    exact ref_inj this
  have ht : c.times = c2.times := by
    have l1 : lk "times" (chainFs c.kind pt c.times c.size c.depth rt c.written (optS c.dir)) = some (.int c.times) := by with_unfolding_all rfl
    have l2 : lk "times" (chainFs c2.kind pt2 c2.times c2.size c2.depth rt2 c2.written (optS c2.dir)) = some (.int c2.times) := by with_unfolding_all rfl
    rw [e] at l1
    have := l1.symm.trans l2
    injection this with this
    exact int_inj this
  subst hp
  exact ⟨tup_inj e2 g2, ht⟩
theorem ch_inj (T : Txt w K mg D) {H : Hp} : ∀ (c c2 : Ch) (a : Addr), ChAt D.c_Sweep D.c_Chain H c a → ChAt D.c_Sweep D.c_Chain H c2 a → c = c2 := by
  intro c
  induction c with
  | sw ns k own es ys =>
    intro c2 a h h2
    have hk := ch_kinds T h h2
    cases c2 with
    | sw ns2 k2 own2 es2 ys2 =>
      obtain ⟨dx, t, pt, rt, e1, e2, -⟩ := h
      obtain ⟨dx2, t2, pt2, rt2, g1, g2, -⟩ := h2
      have e := e1.symm.trans g1
      injection e with e
      injection e with _ _ e
      unfold sweepFs at e
      simp only [List.cons.injEq, Prod.mk.injEq, V.int.injEq, V.str.injEq, V.ref.injEq, true_and] at e
      obtain ⟨rfl, rfl, rfl, rfl, rfl, -⟩ := e
      rw [ints_inj (tup_inj e2 g2)]
    | _ => exact absurd hk (by simp only [Ch.kind]; decide)
  | tu x ih =>
    intro c2 a h h2
    have hk := ch_kinds T h h2
    cases c2 with
    | tu y =>
      obtain ⟨b, hb, hn⟩ := h
      obtain ⟨b2, hb2, hn2⟩ := h2
      have e := (node_inj hn hn2).1
      injection e with e
      rw [ih y b hb (by rw [ref_inj e]; exact hb2)]
    | _ => exact absurd hk (by simp only [Ch.kind]; decide)
  | mi x ih =>
    intro c2 a h h2
    have hk := ch_kinds T h h2
    cases c2 with
    | mi y =>
      obtain ⟨b, hb, hn⟩ := h
      obtain ⟨b2, hb2, hn2⟩ := h2
      have e := (node_inj hn hn2).1
      injection e with e
      rw [ih y b hb (by rw [ref_inj e]; exact hb2)]
    | _ => exact absurd hk (by simp only [Ch.kind]; decide)
  | ti n x ih =>
    intro c2 a h h2
    have hk := ch_kinds T h h2
    cases c2 with
    | ti m y =>
      obtain ⟨b, hb, hn⟩ := h
      obtain ⟨b2, hb2, hn2⟩ := h2
      obtain ⟨e, t⟩ := node_inj hn hn2
      injection e with e
      have t : ((n : Nat) : Int) = ((m : Nat) : Int) := t
      obtain rfl : n = m := by omega
      rw [ih y b hb (by rw [ref_inj e]; exact hb2)]
    | _ => exact absurd hk (by simp only [Ch.kind]; decide)
  | th x x2 ih ih2 =>
    intro c2 a h h2
    have hk := ch_kinds T h h2
    cases c2 with
    | th y y2 =>
      obtain ⟨b, b', hb, hb', hn⟩ := h
      obtain ⟨b2, b2', hb2, hb2', hn2⟩ := h2
      have e := (node_inj hn hn2).1
      injection e with e e'
      injection e' with e'
      rw [ih y b hb (by rw [ref_inj e]; exact hb2), ih2 y2 b' hb' (by rw [ref_inj e']; exact hb2')]
    | _ => exact absurd hk (by simp only [Ch.kind]; decide)
  | hi x x2 ih ih2 =>
    intro c2 a h h2
    have hk := ch_kinds T h h2
    cases c2 with
    | hi y y2 =>
      obtain ⟨b, b', hb, hb', hn⟩ := h
      obtain ⟨b2, b2', hb2, hb2', hn2⟩ := h2
      have e := (node_inj hn hn2).1
      injection e with e e'
      injection e' with e'
      rw [ih y b hb (by rw [ref_inj e]; exact hb2), ih2 y2 b' hb' (by rw [ref_inj e']; exact hb2')]
    | _ => exact absurd hk (by simp only [Ch.kind]; decide)
  | lo x x2 ih ih2 =>
    intro c2 a h h2
    have hk := ch_kinds T h h2
    cases c2 with
    | lo y y2 =>
      obtain ⟨b, b', hb, hb', hn⟩ := h
      obtain ⟨b2, b2', hb2, hb2', hn2⟩ := h2
      have e := (node_inj hn hn2).1
      injection e with e e'
      injection e' with e'
      rw [ih y b hb (by rw [ref_inj e]; exact hb2), ih2 y2 b' hb' (by rw [ref_inj e']; exact hb2')]
    | _ => exact absurd hk (by simp only [Ch.kind]; decide)
/-- a chain compared with a value -/
def CmpV (D : Ad) (H : Hp) (c : Ch) (y : V) (b : Bool) : Prop := (∃ (a2 : Addr) (c2 : Ch), y = .ref a2 ∧ ChAt D.c_Sweep D.c_Chain H c2 a2 ∧ b = decide (c = c2)) ∨ (Vk H y ∧ b = false)
theorem CmpV.ext {H H' : Hp} {c : Ch} {y : V} {b : Bool} (h : CmpV D H c y b) (e : Ext H H') : CmpV D H' c y b := by
  rcases h with ⟨a2, c2, h1, h2, h3⟩ | ⟨h1, h2⟩
  · exact .inl ⟨a2, c2, h1, h2.ext e, h3⟩
  · exact .inr ⟨h1.ext e, h2⟩
def ChEq (D : Ad) (d : Nat) : EqvB := fun x y b H => ∃ (c : Ch) (a : Addr), x = .ref a ∧ ChAt D.c_Sweep D.c_Chain H c a ∧ c.hgt ≤ d ∧ CmpV D H c y b
def ChR (D : Ad) (d : Nat) : EqvB := fun x y b H => ∃ (c c2 : Ch) (a a2 : Addr), x = .ref a ∧ y = .ref a2 ∧ ChAt D.c_Sweep D.c_Chain H c a ∧ ChAt D.c_Sweep D.c_Chain H c2 a2 ∧ c.hgt ≤ d ∧ b = decide (c = c2)
theorem mon_chR {d : Nat} : MonB (ChR D d) := fun x y b H H' e ⟨c, c2, a, a2, h1, h2, h3, h4, h5⟩ => ⟨c, c2, a, a2, h1, h2, h3.ext e, h4.ext e, h5⟩
def spChEq (D : Ad) (d : Nat) : Sp := fun vs H Q _ => ∃ (c : Ch) (a : Addr) (y : V) (b : Bool), vs = [.ref a, y] ∧ ChAt D.c_Sweep D.c_Chain H c a ∧ c.kind ≠ "sweep" ∧ c.hgt ≤ d ∧ CmpV D H c y b ∧ ∀ H', Ext H H' → Q (.bl b) H'
def spSwEq (D : Ad) : Sp := fun vs H Q _ => ∃ (c : Ch) (a : Addr) (y : V) (b : Bool), vs = [.ref a, y] ∧ ChAt D.c_Sweep D.c_Chain H c a ∧ c.kind = "sweep" ∧ CmpV D H c y b ∧ ∀ H', Ext H H' → Q (.bl b) H'
theorem ok_Sweep__eq__ (T : Txt w K mg D) : FnOk P w K mg base CX0 3 D.a_Sweep__eq__ D.d_Sweep__eq__ ["self", "other"] (spSwEq D) := by
  refine T.F_Sweep__eq__.ok sc_Sweep__eq__ (fun vs H Q E h => ?_) (fun cdv A outer s H vs Q E hr h => ?_)
  · obtain ⟨c, a, y, b, rfl, _⟩ := h
    rfl
  · obtain ⟨c, a, y, b, rfl, hc, hk, hy, kk⟩ := h
    refine ⟨_, (pss_one (ps_ret (pe_and (pe_callB (call_isiC K) (by rfl) T.n_isinstance (by decide +kernel) (pa_cons (pv 1) (pa_cons (pe_glob (v := .ref D.c_Sweep) rfl T.g_Sweep rfl) pa_nil))) (pe_and (pe_cmpR (op_eqDC K hr.units) (pe_fldC K (pv 0)) (pe_fldC K (pv 1)) (nomark _)) (pe_and (pe_cmpR op_eq (pe_fldC K (pv 0)) (pe_fldC K (pv 1)) (nomark _)) (pe_and (pe_cmpR op_eq (pe_fldC K (pv 0)) (pe_fldC K (pv 1)) (nomark _)) (pe_and (pe_cmpR op_eq (pe_fldC K (pv 0)) (pe_fldC K (pv 1)) (nomark _)) (pe_one (pe_cmpR op_eq (pe_fldC K (pv 0)) (pe_fldC K (pv 1)) (nomark _)))))))))), ?_⟩
    cases c with
    | sw ns k own es ys =>
      obtain ⟨dx, t, pt, rt, h1, h2, -⟩ := id hc
      rcases hy with ⟨a2, c2, rfl, hc2, rfl⟩ | ⟨hv, rfl⟩
      · walk_at "rd"
        by_cases hk2 : c2.kind = "sweep"
        · cases c2 with
          | sw ns2 k2 own2 es2 ys2 =>
            obtain ⟨dx2, t2, pt2, rt2, g1, g2, -⟩ := id hc2
            refine r_isi (.own _) (T.oc_Sweep.ty g1) T.k_Sweep_Sweep ?_
            walk_at "rd"
            refine r_fldV h1 T.cl_Sweep T.na_Sweep_weights (by with_unfolding_all rfl) ?_
            walk_at "rd"
            refine r_fldV g1 T.cl_Sweep T.na_Sweep_weights (by with_unfolding_all rfl) ?_
            refine r_eqT h2 g2 ?_
            by_cases e1 : ns = ns2
            case neg =>
              rw [decide_eq_false e1]
              walk_at "rd"
              rw [decide_eq_false (fun z => e1 (by injection z))] at kk
              exact kk _ (Ext.refl _)
            rw [decide_eq_true e1]
            walk_at "rd"
            refine r_fldV h1 T.cl_Sweep T.na_Sweep_rank (by with_unfolding_all rfl) ?_
            walk_at "rd"
            refine r_fldV g1 T.cl_Sweep T.na_Sweep_rank (by with_unfolding_all rfl) ?_
            walk_at "rd"
            by_cases e2 : k = k2
            case neg =>
              rw [decide_eq_false e2]
              walk_at "rd"
              rw [decide_eq_false (fun z => e2 (by injection z))] at kk
              exact kk _ (Ext.refl _)
            rw [decide_eq_true e2]
            walk_at "rd"
            refine r_fldV h1 T.cl_Sweep T.na_Sweep_own (by with_unfolding_all rfl) ?_
            walk_at "rd"
            refine r_fldV g1 T.cl_Sweep T.na_Sweep_own (by with_unfolding_all rfl) ?_
            walk_at "rd"
            by_cases e3 : own = own2
            case neg =>
              rw [decide_eq_false e3]
              walk_at "rd"
              rw [decide_eq_false (fun z => e3 (by injection z))] at kk
              exact kk _ (Ext.refl _)
            rw [decide_eq_true e3]
            walk_at "rd"
            refine r_fldV h1 T.cl_Sweep T.na_Sweep_ends (by with_unfolding_all rfl) ?_
            walk_at "rd"
            refine r_fldV g1 T.cl_Sweep T.na_Sweep_ends (by with_unfolding_all rfl) ?_
            walk_at "rd"
            refine r_eqS ?_
            walk_at "rd"
            by_cases e4 : es = es2
            case neg =>
              rw [decide_eq_false e4]
              walk_at "rd"
              rw [decide_eq_false (fun z => e4 (by injection z))] at kk
              exact kk _ (Ext.refl _)
            rw [decide_eq_true e4]
            walk_at "rd"
            refine r_fldV h1 T.cl_Sweep T.na_Sweep_way (by with_unfolding_all rfl) ?_
            walk_at "rd"
            refine r_fldV g1 T.cl_Sweep T.na_Sweep_way (by with_unfolding_all rfl) ?_
            walk_at "rd"
            refine r_eqS ?_
            by_cases e5 : ys = ys2
            · rw [decide_eq_true e5]
              rw [decide_eq_true (by rw [e1, e2, e3, e4, e5])] at kk
              exact kk _ (Ext.refl _)
            · rw [decide_eq_false e5]
              rw [decide_eq_false (fun z => e5 (by injection z))] at kk
              exact kk _ (Ext.refl _)
          | _ => exact absurd hk2 (by simp only [Ch.kind]; decide)
        · obtain ⟨X, dx2, fs, hi2, hX⟩ := hc2.ins
          rcases hX with ⟨-, hk3⟩ | rfl
          · exact absurd hk3 hk2
          refine r_isi (.own _) (T.oc_Chain.ty hi2) T.k_Chain_Sweep ?_
          walk_at "rd"
          rw [decide_eq_false (fun z => hk2 (by rw [← z]; rfl))] at kk
          exact kk _ (Ext.refl _)
      · obtain ⟨ty, t1, t2⟩ := hv.nown (K := K)
        walk_at "rd"
        refine r_isi (.own _) t1 (kit_ownT T.oc_Sweep (t2 _)) ?_
        walk_at "rd"
        exact kk _ (Ext.refl _)
    | _ => exact absurd hk (by simp only [Ch.kind]; decide)
end
end Rk

namespace Own
def Ch.kids : Ch → List Ch
  | .sw .. => []
  | .tu c => [c]
  | .mi c => [c]
  | .ti _ c => [c]
  | .th a b => [a, b]
  | .hi a b => [a, b]
  | .lo a b => [a, b]
theorem Ch.eq_kids {c c2 : Ch} (hk : c.kind ≠ "sweep") (h1 : c.kind = c2.kind) (h2 : c.times = c2.times) (h3 : c.kids = c2.kids) : c = c2 := by
  cases c <;> cases c2 <;> first
    | exact absurd h1 (by simp only [Ch.kind]; decide)
    | exact absurd rfl hk
    | (injection h3 with e; rw [e]; done)
    | (injection h3 with e e2; injection e2 with e2; rw [e, e2]; done)
    | (have h2' := Int.ofNat.inj h2; injection h3 with e; rw [e, h2']; done)
theorem Ch.kids_len {c c2 : Ch} (h1 : c.kind = c2.kind) : c.kids.length = c2.kids.length := by
  cases c <;> cases c2 <;> first
    | exact absurd h1 (by simp only [Ch.kind]; decide)
    | rfl
end Own
namespace Rk
open PySem ClX Own
open L2 hiding Ext
local macro_rules | `(tactic| walk_at "side") => `(tactic| first | exact trivial | (show (0:Int) < _; first | assumption | decide | omega) | exact Or.inl ⟨by decide, by decide⟩ | exact Or.inl ⟨by omega, by omega⟩ | exact Or.inr ⟨by decide, by decide⟩ | exact ⟨by decide, by decide⟩ | exact ⟨by decide, by decide, by decide⟩ | exact ⟨by omega, by omega⟩)
local macro_rules | `(tactic| walk_at "rd") => `(tactic| repeat (with_reducible first | refine r_next ?_ | refine r_ret ?_ | refine r_seq ?_ | refine r_asg ?_ | refine r_drop ?_ | refine r_call ?_ | refine r_cons ?_ | refine r_nil ?_ | refine r_cb ?_ | refine r_op ?_ | refine r_sset ?_ | refine r_var (by with_unfolding_all rfl) ?_ | refine r_c ?_ | refine r_name ?_ | refine r_I0 ?_ | (refine r_I ?_ ?_; focus (with_unfolding_all walk_at "side")) | refine r_un ?_ | refine r_U ?_ | refine r_if ?_ | refine r_ifE ?_ | refine r_test ?_ | refine r_B ?_ | refine r_bl ?_ | refine r_not ?_ | refine r_and ?_ | refine r_or ?_ | refine r_andV ?_ | refine r_orV ?_ | refine r_notV ?_ | refine r_eqI ?_ | refine r_neI ?_ | refine r_tup ?_ | refine r_lst ?_ | refine r_sub ?_ | refine r_intI ?_ | refine r_intB ?_ | refine r_abs ?_ | refine r_max ?_ | refine r_ixL (SqL.of (by assumption)) (by with_unfolding_all rfl) ?_ | refine r_ixT (SqT.of (by assumption)) (by with_unfolding_all rfl) ?_ | refine r_ixQL (by assumption) (by with_unfolding_all rfl) ?_ | refine r_ixQT (by assumption) (by with_unfolding_all rfl) ?_ | refine r_ckw ?_ | refine r_callN ?_ | refine r_makeS ?_ | refine r_make ?_ | refine r_makeK ?_ | refine r_methA ?_ | refine r_pcons ?_ | refine r_pnil ?_ | refine r_dget ?_ | refine r_isN ?_ | refine r_notN ?_ | refine r_fld ?_ | refine r_sfld ?_ | refine r_lenL (SqL.of (by assumption)) ?_ | refine r_lenT (SqT.of (by assumption)) ?_ | refine r_callS ?_ | refine r_cutnx ?_ | refine r_cutrt ?_ | refine r_chain ?_ | refine r_yes ?_ | refine iteT ?_ | refine iteF ?_ | refine iteNF ?_ | refine iteNT ?_ | refine r_truth ?_ | refine r_truI ?_ | refine r_sliceV ?_ | refine r_for ?_ | refine r_rng1 ?_ | (refine r_i1 ?_ ?_; focus (with_unfolding_all walk_at "side"))))
theorem node_of {S C : Addr} {H : Hp} : ∀ {c : Ch} {a : Addr}, ChAt S C H c a → c.kind ≠ "sweep" → ∃ ts : List (Addr × Ch), NodeAt C H c a (ts.map fun t => .ref t.1) ∧ (∀ t ∈ ts, ChAt S C H t.2 t.1 ∧ t.2.hgt < c.hgt) ∧ ts.map (fun t => t.2) = c.kids
  | .sw .., _, _, hk => absurd rfl hk
  | .tu x, _, ⟨b, h1, h2⟩, _ => ⟨[(b, x)], h2, fun t ht => by rw [List.mem_singleton.mp ht]; exact ⟨h1, Nat.lt_succ_self _⟩, rfl⟩
  | .mi x, _, ⟨b, h1, h2⟩, _ => ⟨[(b, x)], h2, fun t ht => by rw [List.mem_singleton.mp ht]; exact ⟨h1, Nat.lt_succ_self _⟩, rfl⟩
  | .ti n x, _, ⟨b, h1, h2⟩, _ => ⟨[(b, x)], h2, fun t ht => by rw [List.mem_singleton.mp ht]; exact ⟨h1, Nat.lt_succ_self _⟩, rfl⟩
  | .th x y, _, ⟨b, b2, h1, h1', h2⟩, _ => ⟨[(b, x), (b2, y)], h2, fun t ht => by
      simp only [List.mem_cons, List.not_mem_nil, or_false] at ht
      rcases ht with rfl | rfl
      · exact ⟨h1, by show x.hgt < max x.hgt y.hgt + 1; omega⟩
      · exact ⟨h1', by show y.hgt < max x.hgt y.hgt + 1; omega⟩, rfl⟩
  | .hi x y, _, ⟨b, b2, h1, h1', h2⟩, _ => ⟨[(b, x), (b2, y)], h2, fun t ht => by
      simp only [List.mem_cons, List.not_mem_nil, or_false] at ht
      rcases ht with rfl | rfl
      · exact ⟨h1, by show x.hgt < max x.hgt y.hgt + 1; omega⟩
      · exact ⟨h1', by show y.hgt < max x.hgt y.hgt + 1; omega⟩, rfl⟩
  | .lo x y, _, ⟨b, b2, h1, h1', h2⟩, _ => ⟨[(b, x), (b2, y)], h2, fun t ht => by
      simp only [List.mem_cons, List.not_mem_nil, or_false] at ht
      rcases ht with rfl | rfl
      · exact ⟨h1, by show x.hgt < max x.hgt y.hgt + 1; omega⟩
      · exact ⟨h1', by show y.hgt < max x.hgt y.hgt + 1; omega⟩, rfl⟩
theorem sub_of_kit {K : PySem.W.Frag} {a b : Addr} {v : Bool} (o : OwnC K b) (ne : a ≠ b) (h : PySem.W.kitOne K (.ref a) (.ref b) = some v) : PySem.W.subIn K (.ref a) (.ref b) = some v := by
  unfold PySem.W.kitOne at h
  rw [if_neg (by intro z; exact ne (by injection (beq_iff_eq.mp z)))] at h
  have two : ((PySem.W.clsIn K b).isSome && PySem.W.typeIn K (.ref b) == some (.type "type")) = true := by
    have ic' : (PySem.W.clsIn K b).isSome = true := o.ic
    rw [ic', o.tc]
    rfl
  exact (if_pos two).symm.trans h
section
variable {P : Program} {w : World} {K : PySem.W.Frag} {mg : Str → Option Value} {base : Heap} {D : Ad}
theorem sw_ne (T : Txt w K mg D) : D.c_Sweep ≠ D.c_Chain := fun z => by
  have a := T.k_Chain_Sweep
  rw [z, T.k_Chain_Chain] at a
  cases a
theorem ChAt.insS {S C : Addr} {H : Hp} : ∀ {c : Ch} {a : Addr}, ChAt S C H c a → c.kind = "sweep" → ∃ dx fs, H a = some (.ins S dx fs)
  | .sw .., _, ⟨_, _, _, _, h, _⟩, _ => ⟨_, _, h⟩
  | .tu _, _, _, hk => absurd hk (by simp only [Ch.kind]; decide)
  | .mi _, _, _, hk => absurd hk (by simp only [Ch.kind]; decide)
  | .ti _ _, _, _, hk => absurd hk (by simp only [Ch.kind]; decide)
  | .th _ _, _, _, hk => absurd hk (by simp only [Ch.kind]; decide)
  | .hi _ _, _, _, hk => absurd hk (by simp only [Ch.kind]; decide)
  | .lo _ _, _, _, hk => absurd hk (by simp only [Ch.kind]; decide)
theorem ChAt.insC {S C : Addr} {H : Hp} {c : Ch} {a : Addr} (h : ChAt S C H c a) (hk : c.kind ≠ "sweep") : ∃ dx fs, H a = some (.ins C dx fs) := by
  obtain ⟨X, dx, fs, h1, ⟨-, h2⟩ | rfl⟩ := h.ins
  · exact absurd h2 hk
  · exact ⟨_, _, h1⟩
theorem back_of {X : Cx} {pins : List (Addr × Obj)} {σ : L2.St} {H : Hp} {b : Bool} {v : V} {u : Value} {H' : Hp} {s' : Shared} (I' : L2.Inv X pins σ H' s') (rv : L2.RelV v u) (q : v = .bl b ∧ Ext H H') : PySem.W.CmpBack (fun r s' => r = .bool b ∧ ∃ H', L2.Inv X pins σ H' s' ∧ Ext H H') u s' := by
  obtain ⟨rfl, e⟩ := q
  cases rv
  exact ⟨rfl, H', I', e⟩
theorem rcB_ch {X : Cx} {D : Ad} (T : Txt X.w X.K X.mg D) {d n : Nat} (F : FnOk X.prog X.w X.K X.mg X.base CX0 n D.a_Chain__eq__ D.d_Chain__eq__ ["self", "other"] (spChEq D d)) (hn : 3 ≤ n) : RcB X n (ChEq D d) := by
  intro A pins s σ H x y b u v sb I rx ry dd
  obtain ⟨c, a, rfl, hc, hd, hy⟩ := dd
  cases rx
  obtain ⟨m, Fr⟩ := I.fr
  have FS := ok_Sweep__eq__ (P := X.prog) (w := X.w) (base := X.base) T
  have hxE : ∀ {pins σ H s e s'}, L2.Inv X pins σ H s → CX0 X.stack H s E0 e s' → X.xe e s' := fun _ c => c.elim
  by_cases hk : c.kind = "sweep"
  · obtain ⟨dx, fs, hi⟩ := hc.insS hk
    obtain ⟨ox, od, J⟩ := ins_inst I hi
    have go : ∀ {tb : Value}, PySem.W.Looks (model X.prog X.w) s.heap (typeOf v) tb → PySem.W.notFirst X.K D.c_Sweep tb = true → wpAny (model X.prog X.w) A (richCompare .Eq (.ref a) v) (fun r s' => r = .bool b ∧ ∃ H', L2.Inv X pins σ H' s' ∧ Ext H H') X.xe s := fun hT nf => by
      refine PySem.W.cmp_K (op := .Eq) sb.room.units0 Fr I.ok.mod.kin J hT nf T.me_Sweep___eq__.at_ T.me_Sweep___eq__.fn ?_
      exact run_in (E := E0) FS (sb.mono hn).room sb.fr T.b_Sweep__eq__ (fun pins H s e s' I' c => c.elim) I (us := [.ref a, v]) (vs := [.ref a, y]) (.cons rfl (.cons ry .nil)) (Q := fun z H' => z = .bl b ∧ Ext H H') ⟨c, a, y, b, rfl, hc, hk, hy, fun H' e => ⟨rfl, e⟩⟩ fun v u' H' s' I' rv q => back_of I' rv q
    rcases hy with ⟨a2, c2, rfl, hc2, rfl⟩ | ⟨hv, rfl⟩
    · cases ry
      obtain ⟨X2, dx2, fs2, hi2, hX⟩ := hc2.ins
      obtain ⟨ox2, od2, J2⟩ := ins_inst I hi2
      rcases hX with ⟨rfl, -⟩ | rfl
      · exact go J2.type notFirst_self
      · exact go J2.type (notFirst_of (sub_of_kit T.oc_Sweep (Ne.symm (sw_ne T)) T.k_Chain_Sweep))
    · obtain ⟨ty, t1, t2⟩ := hv.nown (K := X.K)
      obtain ⟨P, kx, hp, -⟩ := kit_of I ry t1
      exact go (kx.ty _ _ I.kIn hp) (notFirst_of (t2 _))
  · obtain ⟨dx, fs, hi⟩ := hc.insC hk
    obtain ⟨ox, od, J⟩ := ins_inst I hi
    have go : ∀ {tb : Value}, PySem.W.Looks (model X.prog X.w) s.heap (typeOf v) tb → PySem.W.notFirst X.K D.c_Chain tb = true → wpAny (model X.prog X.w) A (richCompare .Eq (.ref a) v) (fun r s' => r = .bool b ∧ ∃ H', L2.Inv X pins σ H' s' ∧ Ext H H') X.xe s := fun hT nf => by
      refine PySem.W.cmp_K (op := .Eq) sb.room.units0 Fr I.ok.mod.kin J hT nf T.me_Chain___eq__.at_ T.me_Chain___eq__.fn ?_
      exact run_in (E := E0) F sb.room sb.fr T.b_Chain__eq__ (fun pins H s e s' I' c => c.elim) I (us := [.ref a, v]) (vs := [.ref a, y]) (.cons rfl (.cons ry .nil)) (Q := fun z H' => z = .bl b ∧ Ext H H') ⟨c, a, y, b, rfl, hc, hk, hd, hy, fun H' e => ⟨rfl, e⟩⟩ fun v u' H' s' I' rv q => back_of I' rv q
    rcases hy with ⟨a2, c2, rfl, hc2, rfl⟩ | ⟨hv, rfl⟩
    · cases ry
      by_cases hk2 : c2.kind = "sweep"
      · obtain ⟨dx2, fs2, hi2⟩ := hc2.insS hk2
        obtain ⟨ox2, od2, J2⟩ := ins_inst I hi2
        refine eq_refl_K sb.room.units0 Fr I.ok.mod.kin J J2 (sw_ne T) (sub_of_kit T.oc_Chain (sw_ne T) T.k_Sweep_Chain) T.me_Sweep___eq__.at_ T.me_Sweep___eq__.fn ?_
        exact run_in (E := E0) FS (sb.mono hn).room sb.fr T.b_Sweep__eq__ (fun pins H s e s' I' c => c.elim) I (us := [.ref a2, .ref a]) (vs := [.ref a2, .ref a]) (.cons rfl (.cons rfl .nil)) (Q := fun z H' => z = .bl (decide (c = c2)) ∧ Ext H H') ⟨c2, a2, .ref a, _, rfl, hc2, hk2, .inl ⟨a, c, rfl, hc, rfl⟩, fun H' e => ⟨by rw [decide_eq_decide.mpr eq_comm], e⟩⟩ fun v u' H' s' I' rv q => back_of I' rv q
      · obtain ⟨dx2, fs2, hi2⟩ := hc2.insC hk2
        obtain ⟨ox2, od2, J2⟩ := ins_inst I hi2
        exact go J2.type notFirst_self
    · obtain ⟨ty, t1, t2⟩ := hv.nown (K := X.K)
      obtain ⟨P, kx, hp, -⟩ := kit_of I ry t1
      exact go (kx.ty _ _ I.kIn hp) (notFirst_of (t2 _))
theorem eqB_ch {X : Cx} {D : Ad} (T : Txt X.w X.K X.mg D) {d n : Nat} (F : FnOk X.prog X.w X.K X.mg X.base CX0 n D.a_Chain__eq__ D.d_Chain__eq__ ["self", "other"] (spChEq D d)) (hn : 3 ≤ n) : EqB X n (ChR D d) := by
  have h : RcB X n (ChR D d) := fun A pins s σ H x y b u v sb I rx ry ⟨c, c2, a, a2, h1, h2, h3, h4, h5, h6⟩ => rcB_ch T F hn A pins s σ H x y b u v sb I rx ry ⟨c, a, h1, h3, h5, .inl ⟨a2, c2, h2, h4, h6⟩⟩
  refine h.eqB fun x y b H ⟨c, c2, a, a2, h1, h2, h3, h4, h5, h6⟩ => ⟨a, a2, h1, h2, fun e => ?_⟩
  subst e
  rw [h6, ch_inj T c c2 a h3 h4, decide_eq_true rfl]
theorem prs_kids {H : Hp} {d : Nat} {ts us : List (Addr × Ch)} {b : Bool} (h1 : ∀ t ∈ ts, ChAt D.c_Sweep D.c_Chain H t.2 t.1 ∧ t.2.hgt ≤ d) (h2 : ∀ t ∈ us, ChAt D.c_Sweep D.c_Chain H t.2 t.1) (hl : ts.length = us.length) (hb : b = true ↔ ts.map (fun t => t.2) = us.map (fun t => t.2)) : PrsB (ChR D d) (ts.map fun t => .ref t.1) (us.map fun t => .ref t.1) b H := by
  refine ⟨by rw [List.length_map, List.length_map]; exact hl, fun i => decide ((ts[i]?).map (fun t => t.2) = (us[i]?).map (fun t => t.2)), fun i x y hx hy => ?_, ?_⟩
  · rw [List.getElem?_map] at hx hy
    obtain ⟨t, e1, rfl⟩ := Option.map_eq_some_iff.mp hx
    obtain ⟨u, e2, rfl⟩ := Option.map_eq_some_iff.mp hy
    have m1 := h1 t (List.mem_of_getElem? e1)
    refine ⟨t.2, u.2, t.1, u.1, rfl, rfl, m1.1, h2 u (List.mem_of_getElem? e2), m1.2, ?_⟩
    show decide ((ts[i]?).map (fun t => t.2) = (us[i]?).map (fun t => t.2)) = _
    rw [e1, e2]
    exact decide_eq_decide.mpr (by simp)
  · rw [hb, List.length_map]
    constructor
    · intro e i hi
      have := congrArg (fun l : List Ch => l[i]?) e
      simp only [List.getElem?_map] at this
      exact decide_eq_true this
    · intro e
      refine List.ext_getElem? fun i => ?_
      rw [List.getElem?_map, List.getElem?_map]
      by_cases hi : i < ts.length
      · exact of_decide_eq_true (e i hi)
      · rw [List.getElem?_eq_none (by omega), List.getElem?_eq_none (by omega)]
theorem ok_ChEqD (T : Txt w K mg D) : ∀ d, FnOk P w K mg base CX0 (2 * d + 3) D.a_Chain__eq__ D.d_Chain__eq__ ["self", "other"] (spChEq D d)
  | 0 => by
    have no : ∀ {vs : List V} {H : Hp} {Q : VK} {E : XK}, ¬ spChEq D 0 vs H Q E := fun ⟨c, _, _, _, _, _, _, hd, _⟩ => by
      have := Ch.hgt_pos c
      omega
    exact ⟨fun _ _ _ _ h => (no h).elim, fun _ _ _ _ _ _ _ _ _ _ _ _ _ h => (no h).elim⟩
  | d + 1 => by
    have ih := ok_ChEqD T d
    refine T.F_Chain__eq__.ok (k := 2 * d + 4) sc_Chain__eq__ (fun vs H Q E h => ?_) (fun cdv A outer s H vs Q E hr h => ?_)
    · obtain ⟨c, a, y, b, rfl, _⟩ := h
      rfl
    obtain ⟨c, a, y, b, rfl, hc, hk, hd, hy, kk⟩ := h
    refine ⟨_, (pss_one (ps_ret (pe_and (pe_callB (call_isiC K) (by rfl) T.n_isinstance (by decide +kernel) (pa_cons (pv 1) (pa_cons (pe_glob (v := .ref D.c_Chain) rfl T.g_Chain rfl) pa_nil))) (pe_and (pe_cmpR op_eq (pe_fldC K (pv 0)) (pe_fldC K (pv 1)) (nomark _)) (pe_and (pe_cmpR op_eq (pe_fldC K (pv 0)) (pe_fldC K (pv 1)) (nomark _)) (pe_one (pe_cmpR (op_eqB (rcB_tup mon_chR (eqB_ch T ih (by omega))) (hr.mono (by omega))) (pe_fldC K (pv 0)) (pe_fldC K (pv 1)) (nomark _)))))))), ?_⟩
    obtain ⟨ts, hn, hts, htk⟩ := node_of hc hk
    obtain ⟨X, dx, pt, rt, fs, f, hp⟩ := hn.flds (S := D.c_Sweep) (fine_Chain T)
    rcases hy with ⟨a2, c2, rfl, hc2, rfl⟩ | ⟨hv, rfl⟩
    · obtain ⟨X2, dx2, pt2, rt2, fs2, f2⟩ := hc2.flds (fine_Sweep T) (fine_Chain T)
      have isi : ∀ {Q : VK}, Q (.bl true) H → rIsi K [.ref a2, .ref D.c_Chain] H Q := fun q => by
        rcases f2.cls with rfl | rfl
        · exact r_isi (.own _) (T.oc_Sweep.ty f2.ins) T.k_Sweep_Chain q
        · exact r_isi (.own _) (T.oc_Chain.ty f2.ins) T.k_Chain_Chain q
      walk_at "rd"
      refine isi ?_
      walk_at "rd"
      refine r_fldV f.ins f.fine.cl f.fine.kind f.kind ?_
      walk_at "rd"
      refine r_fldV f2.ins f2.fine.cl f2.fine.kind f2.kind ?_
      walk_at "rd"
      refine r_eqS ?_
      walk_at "rd"
      by_cases e1 : c.kind = c2.kind
      case neg =>
        rw [decide_eq_false e1]
        walk_at "rd"
        rw [decide_eq_false (fun z => e1 (by rw [z]))] at kk
        exact kk _ (Ext.refl _)
      rw [decide_eq_true e1]
      walk_at "rd"
      refine r_fldV f.ins f.fine.cl f.fine.times f.times ?_
      walk_at "rd"
      refine r_fldV f2.ins f2.fine.cl f2.fine.times f2.times ?_
      walk_at "rd"
      by_cases e2 : c.times = c2.times
      case neg =>
        rw [decide_eq_false e2]
        walk_at "rd"
        rw [decide_eq_false (fun z => e2 (by rw [z]))] at kk
        exact kk _ (Ext.refl _)
      rw [decide_eq_true e2]
      walk_at "rd"
      obtain ⟨us, hn2, hus, huk⟩ := node_of hc2 (by rw [← e1]; exact hk)
      obtain ⟨X3, dx3, pt3, rt3, fs3, f3, hp3⟩ := hn2.flds (S := D.c_Sweep) (fine_Chain T)
      refine r_fldV f.ins f.fine.cl f.fine.parts f.parts ?_
      walk_at "rd"
      refine r_fldV f3.ins f3.fine.cl f3.fine.parts f3.parts ?_
      refine ⟨decide (c = c2), ⟨pt, pt3, _, _, rfl, rfl, SqT.of hp, SqT.of hp3, prs_kids (fun t ht => ⟨(hts t ht).1, by have := (hts t ht).2; omega⟩) (fun t ht => (hus t ht).1) ?_ ?_⟩, fun H' e => kk H' e⟩
      · have := Ch.kids_len e1
        rw [← htk, ← huk, List.length_map, List.length_map] at this
        exact this
      · rw [htk, huk, decide_eq_true_eq]
        exact ⟨fun e => by rw [e], fun e => Ch.eq_kids hk e1 e2 e⟩
    · obtain ⟨ty, t1, t2⟩ := hv.nown (K := K)
      walk_at "rd"
      refine r_isi (.own _) t1 (kit_ownT T.oc_Chain (t2 _)) ?_
      walk_at "rd"
      exact kk _ (Ext.refl _)
theorem rc_chains {X : Cx} {D : Ad} (T : Txt X.w X.K X.mg D) : RcB X 45 (ChEq D 21) := rcB_ch T (ok_ChEqD T 21) (by decide)
theorem op_neCh {X : Cx} {D : Ad} (T : Txt X.w X.K X.mg D) (hr : Room 46 X.A) : OpR X (compareOp .NotEq) (rNeB (ChEq D 21)) := by
  intro pins s σ H x y v u Q I rx ry hq
  obtain ⟨b, dd, q⟩ := hq
  obtain ⟨c, a, rfl, hc, hd, hy⟩ := dd
  show wpAny (model X.prog X.w) X.A (richCompare .NotEq v u) (EP X pins σ Q) X.xe s
  cases rx
  obtain ⟨m, Fr⟩ := I.fr
  have FS := ok_Sweep__eq__ (P := X.prog) (w := X.w) (base := X.base) T
  have F := ok_ChEqD (P := X.prog) (w := X.w) (base := X.base) T 21
  have un : X.A.units + 1 < cLine := by have := hr.un; omega
  have fin : ∀ (v : V) (u' : Value) (H' : Hp) (s' : Shared), L2.Inv X pins σ H' s' → L2.RelV v u' → (v = .bl b ∧ Ext H H') → ∃ k, u' = .bool k ∧ EP X pins σ Q (.bool (!k)) s' := fun v u' H' s' I' rv ⟨e1, e2⟩ => by
    subst e1
    cases rv
    exact ⟨b, rfl, .bl (!b), H', I', rfl, q H' e2⟩
  by_cases hk : c.kind = "sweep"
  · obtain ⟨dx, fs, hi⟩ := hc.insS hk
    obtain ⟨ox, od, J⟩ := ins_inst I hi
    have go : ∀ {tb : Value}, PySem.W.Looks (model X.prog X.w) s.heap (typeOf u) tb → PySem.W.notFirst X.K D.c_Sweep tb = true → wpAny (model X.prog X.w) X.A (richCompare .NotEq (.ref a) u) (EP X pins σ Q) X.xe s := fun hT nf => by
      refine ne_K un Fr I.ok.mod.kin J hT nf T.me_Sweep___eq__.at_ T.ne_Sweep T.oc_Sweep.hm T.me_Sweep___eq__.fn ?_
      exact run_in (E := E0) FS (hr.in1.mono (by decide)) rfl T.b_Sweep__eq__ (fun pins H s e s' I' c => c.elim) I (us := [.ref a, u]) (vs := [.ref a, y]) (.cons rfl (.cons ry .nil)) (Q := fun z H' => z = .bl b ∧ Ext H H') ⟨c, a, y, b, rfl, hc, hk, hy, fun H' e => ⟨rfl, e⟩⟩ fin
    rcases hy with ⟨a2, c2, rfl, hc2, rfl⟩ | ⟨hv, rfl⟩
    · cases ry
      obtain ⟨X2, dx2, fs2, hi2, hX⟩ := hc2.ins
      obtain ⟨ox2, od2, J2⟩ := ins_inst I hi2
      rcases hX with ⟨rfl, -⟩ | rfl
      · exact go J2.type notFirst_self
      · exact go J2.type (notFirst_of (sub_of_kit T.oc_Sweep (Ne.symm (sw_ne T)) T.k_Chain_Sweep))
    · obtain ⟨ty, t1, t2⟩ := hv.nown (K := X.K)
      obtain ⟨P, kx, hp, -⟩ := kit_of I ry t1
      exact go (kx.ty _ _ I.kIn hp) (notFirst_of (t2 _))
  · obtain ⟨dx, fs, hi⟩ := hc.insC hk
    obtain ⟨ox, od, J⟩ := ins_inst I hi
    have go : ∀ {tb : Value}, PySem.W.Looks (model X.prog X.w) s.heap (typeOf u) tb → PySem.W.notFirst X.K D.c_Chain tb = true → wpAny (model X.prog X.w) X.A (richCompare .NotEq (.ref a) u) (EP X pins σ Q) X.xe s := fun hT nf => by
      refine ne_K un Fr I.ok.mod.kin J hT nf T.me_Chain___eq__.at_ T.ne_Chain T.oc_Chain.hm T.me_Chain___eq__.fn ?_
      exact run_in (E := E0) F hr.in1 rfl T.b_Chain__eq__ (fun pins H s e s' I' c => c.elim) I (us := [.ref a, u]) (vs := [.ref a, y]) (.cons rfl (.cons ry .nil)) (Q := fun z H' => z = .bl b ∧ Ext H H') ⟨c, a, y, b, rfl, hc, hk, hd, hy, fun H' e => ⟨rfl, e⟩⟩ fin
    rcases hy with ⟨a2, c2, rfl, hc2, rfl⟩ | ⟨hv, rfl⟩
    · cases ry
      by_cases hk2 : c2.kind = "sweep"
      · obtain ⟨dx2, fs2, hi2⟩ := hc2.insS hk2
        obtain ⟨ox2, od2, J2⟩ := ins_inst I hi2
        refine ne_refl_K un Fr I.ok.mod.kin J J2 (sw_ne T) (sub_of_kit T.oc_Chain (sw_ne T) T.k_Sweep_Chain) T.me_Sweep___eq__.at_ T.ne_Sweep T.oc_Sweep.hm T.me_Sweep___eq__.fn ?_
        exact run_in (E := E0) FS (hr.in1.mono (by decide)) rfl T.b_Sweep__eq__ (fun pins H s e s' I' c => c.elim) I (us := [.ref a2, .ref a]) (vs := [.ref a2, .ref a]) (.cons rfl (.cons rfl .nil)) (Q := fun z H' => z = .bl (decide (c = c2)) ∧ Ext H H') ⟨c2, a2, .ref a, _, rfl, hc2, hk2, .inl ⟨a, c, rfl, hc, rfl⟩, fun H' e => ⟨by rw [decide_eq_decide.mpr eq_comm], e⟩⟩ fin
      · obtain ⟨dx2, fs2, hi2⟩ := hc2.insC hk2
        obtain ⟨ox2, od2, J2⟩ := ins_inst I hi2
        exact go J2.type notFirst_self
    · obtain ⟨ty, t1, t2⟩ := hv.nown (K := X.K)
      obtain ⟨P, kx, hp, -⟩ := kit_of I ry t1
      exact go (kx.ty _ _ I.kIn hp) (notFirst_of (t2 _))
end
end Rk

namespace Own
open PySem L2 PySem.Spec PyProof.Rows
section
variable {X : Cx} {K : PySem.W.Frag} {H : Hp} {Q : VK}
/-! an instance of one of several classes called, what it raises wished for at the caller's slots -/
theorem run_fnRS {CX : CXT} {k : Nat} {f : Addr} {sp : Sp} {E : XK} {us : List Value} {vs : List V} {pins : List (Addr × Obj)} {σ : L2.St} {s : Shared} (F : FnR X.prog X.w X.K X.mg X.base CX k f sp) (hr : Room k X.A) (hx : PassesAt CX X σ E) (I : L2.Inv X pins σ H s) (r : Vals vs us) (h : sp vs H Q E) :
    codeAny (model X.prog X.w) X.A (.call (.ref f) ⟨us, []⟩) (fun r s' => match r with | .ok (.ret v) => EP X pins σ Q v s' | .ok _ => False | .error e => X.xe e s') s := by
  refine codeAny_mono (F X.A X.stack s H us vs Q E hr I.env0 r h) fun r s' hq => ?_
  match r, hq with
  | .error e, hq => exact hx pins H s e s' I hq
  | .ok (.ret v), hq => exact I.after hq
  | .ok .next, hq => exact hq.elim
  | .ok .brk, hq => exact hq.elim
  | .ok .cont, hq => exact hq.elim
def tCallAS (S : Addr → Prop) (sp : Sp) (W : L2.St → XK) (tf : TE) (t : TA) : TE := fun σ H Q => tf σ H fun y H1 => ∃ a, y = V.ref a ∧ t σ H1 fun vs H2 => (∃ C dx fs, S C ∧ H2 a = some (.ins C dx fs)) ∧ sp (V.ref a :: vs) H2 Q (W σ)
theorem pe_callAS {CX : CXT} {k : Nat} {S : Addr → Prop} {g : Addr} {fd : FuncData} {ps : List Str} {sp : Sp} {W : L2.St → XK} {pos : Pos} {fe e : Expr} {es : List Expr} {tf : TE} {t : TA} (hf : PE X fe tf) (c : ∀ C, S C → StX.CallO X.K C g) (F : FnOk X.prog X.w X.K X.mg X.base CX k g fd ps sp) (hb : Binds X.K fd ps []) (hr : Room k X.A) (hx : ∀ σ, PassesAt CX X σ (W σ)) (ha : PA X (e :: es) t)
    (ht : eval (.Call fe (e :: es) [] pos) X.env = (do callWith pos (← eval fe X.env) [] (backTo pos (starEach (e :: es) X.env)) (backToKw pos (keywordEach [] X.env))) := by rfl)
    (he : starEach (e :: es) X.env = (false, eval e X.env) :: starEach es X.env := by rfl) (hpl : (backTo pos (starEach es X.env)).any (·.1) = false := by rfl) : PE X (.Call fe (e :: es) [] pos) (tCallAS S sp W tf t) := by
  have e0 : (fun (vs : List V) (H : Hp) (Q : VK) (E : XK) => sp (vs ++ []) H Q E) = sp := by
    funext vs H Q E
    rw [List.append_nil]
  have F2 : FnR X.prog X.w X.K X.mg X.base CX k g sp := e0 ▸ F.raw hb .nil
  refine ⟨fun pins s σ H Q I h => ?_⟩
  refine Call_ (thn (hf.run pins s σ H _ I h) fun u s1 ⟨y, H1, I1, ry, a, ey, q⟩ => ?_) ht
  subst ey
  obtain rfl : u = Value.ref a := ry
  refine StX.callO_with (thn (ha.run pos pins s1 σ H1 _ I1 q) fun us s2 ⟨vs, H2, I2, r, ⟨C, dx, fs, hC, hi⟩, q2⟩ => ?_) he hpl
  obtain ⟨ox, od, J, hd⟩ := StX.insC_at I2 (.inr ⟨dx, fs, hi⟩)
  have c' := c C hC
  exact ⟨⟨C, ox, od, J, hd⟩, wpAny_call (PySem.W.kco_code I2.kIn J hd c'.at_ c'.fn c'.fi (run_fnRS (us := .ref a :: us) (vs := .ref a :: vs) F2 hr (hx σ) I2 (.cons rfl r) q2))⟩
theorem r_callAS {S : Addr → Prop} {sp : Sp} {W : L2.St → XK} {tf : TE} {t : TA} {σ : L2.St} (h : tf σ H fun y H1 => ∃ a, y = V.ref a ∧ t σ H1 fun vs H2 => (∃ C dx fs, S C ∧ H2 a = some (.ins C dx fs)) ∧ sp (V.ref a :: vs) H2 Q (W σ)) : tCallAS S sp W tf t σ H Q := h
end
end Own

namespace Own
open PySem L2 PySem.Spec PyProof.Rows
/-! {k: v} with a key that is a tuple of ints and texts -/
section
variable {prog : Program} {w : World} {K : Type} [DecidableEq K] {knd : HeapKind prog w K} {A : Around} {E : Value → Shared → Prop} {s : Shared}
theorem wpAny_Dict_pairsT {env : Env} {keys : List (Option Expr)} {values : List Expr} {pos : Pos} {pairs : List (Sem Value × Sem Value)} {Q : Value → Shared → Prop} (hu : knd.room A)
    (hshape : (evalEachOpt keys env).zip ((evalEach values env).map fun v => do let x ← v; standAt pos; pure x) = pairs.map fun p => (some p.1, p.2)) (h0 : pairs ≠ []) (hlen : pairs.length ≤ 15)
    (h : wpAny (model prog w) A (evalPairs pairs) (fun vs s₁ => ∃ ps, CarriesH knd s₁.heap vs ps ∧ s₁.heap.DictOfH knd s.heap.objs.size [] ∧
      ∀ h' tk, h'.DictOfH knd s.heap.objs.size (storedAllH [] ps) → Heap.SameBut s.heap.objs.size s₁.heap h' → Q (.ref s.heap.objs.size) { s₁ with heap := h', toks := tk }) E
      { s with heap := s.heap.push { cls := .type "dict", data := .dict #[] } }) :
    wpAny (model prog w) A (eval (.Dict keys values pos) env) Q E s := by
  rw [arm_eval_Dict, hshape, dictDisplay_pairs pairs h0 (by omega)]
  exact wpAny_bind (wpAny_standAt (wpAny_bind (wpAny_subDictH (knd := knd) (Q := fun d s' => wpAny (model prog w) A (pure (Value.ref d)) Q E s') hu hlen
    (wpAny_mono h (fun vs s₁ h₁ => by obtain ⟨ps, hc, hm, hq⟩ := h₁; exact ⟨ps, hc, hm, fun h' tk a b => wpAny_pure (hq h' tk a b)⟩) fun _ _ e => e))))
end
def tDisT (tk tv : TE) : TE := fun σ H Q => ∀ p, H p = none → tPairs [(tk, tv)] σ (upd H p (.dT [])) fun ps H2 => H2 p = some (.dT []) ∧ ∃ (k : List Key) (b : Addr) (v : V), ps = [(.ref b, v)] ∧ H2 b = some (.tup (k.map kV)) ∧ Q (.ref p) (upd H2 p (.dT [(k, v)]))
theorem pe_disT {X : Cx} {pos : Pos} {ke ve : Expr} {tk tv : TE} (hu : X.A.units + 1 < cLine) (hk : PE X ke tk) (hv : PE X ve tv) : PE X (.Dict [some ke] [ve] pos) (tDisT tk tv) := by
  refine ⟨fun pins s σ H Q I q => ?_⟩
  have hn := I.hok.fresh (Nat.le_refl s.heap.objs.size)
  have I1 := I.laid (a := s.heap.objs.size) (o := .dT []) (h' := s.heap.push { cls := .type "dict", data := .dict #[] }) (t' := s.toks) (fun _ _ q => Heap.get?_push_of_some _ q) (Nat.le_refl _) (dt_empty s.heap I.big)
  have PP : PPs X pos [some ke] [ve] [(tk, tv)] := pps_cons hk hv pps_nil
  refine wpAny_Dict_pairsT (knd := tupleKind (mixKind X.prog X.w)) (pairs := pairTrees [some ke] [ve] X.env pos) (show X.A.units < cLine by omega) (zip_pairTrees [some ke] [ve] X.env pos rfl rfl) (fun z => by cases z) (by show 1 ≤ 15; decide) (thn (PP.run pins _ σ _ _ I1 (q _ hn)) fun ws s2 ⟨ps, H2, I2, rel, e, k, b, v, ep, hb, q2⟩ => ?_)
  subst ep
  cases rel with
  | @cons _ pr _ _ r0 rt =>
    cases rt
    obtain ⟨u1, u2⟩ := pr
    obtain ⟨r1, r2⟩ := r0
    obtain rfl : u1 = Value.ref b := r1
    obtain ⟨z, hd, xs0, kt, dd⟩ := dt_of I2.hok e
    cases kt
    refine ⟨[(k, b, u2)], ⟨rfl, rfl, key_of I2.hok hb, trivial⟩, dd, fun h' tk' dd' hs => ⟨.ref s.heap.objs.size, _, ?_, rfl, q2⟩⟩
    obtain ⟨o, es, ep, h1, h2, h3, h4, h5, h6⟩ := dd'
    have nb : b ≠ s.heap.objs.size := fun z => by rw [z, e] at hb; cases hb
    refine d_write I2 (by rw [e]; exact True.intro) hs ⟨o, h1⟩ ?_
    exact ⟨by show 1 ≤ sizeLine; rw [sizeLine_eq]; decide, hd, [(k, b, u2)], .cons ⟨rfl, by show upd H2 _ _ b = _; rw [upd_ne nb]; exact hb, r2⟩ .nil, o, es, ep, h1, h2, h3, h4, h6⟩
theorem r_disT {σ : L2.St} {H : Hp} {Q : VK} {tk tv : TE} (h : ∀ p, H p = none → tPairs [(tk, tv)] σ (upd H p (.dT [])) fun ps H2 => H2 p = some (.dT []) ∧ ∃ (k : List Key) (b : Addr) (v : V), ps = [(.ref b, v)] ∧ H2 b = some (.tup (k.map kV)) ∧ Q (.ref p) (upd H2 p (.dT [(k, v)]))) : tDisT tk tv σ H Q := h
theorem r_din {σ : L2.St} {H : Hp} {Q : VK} {ty td : TE} (h : ty σ H fun y H1 => td σ H1 fun x H2 => ∃ a o, x = .ref a ∧ DGet H2 a y o ∧ Q (.bl o.isSome) H2) : tDIn ty td σ H Q := h
theorem r_dput {σ : L2.St} {H : Hp} {D : Ends} {td ty tv : TE} (h : tv σ H fun v H1 => td σ H1 fun x H2 => ty σ H2 fun y H3 => ∃ a H4, x = .ref a ∧ DPut H3 a y v H4 ∧ D.nx σ H4) : sDPut td ty tv D σ H := h
theorem hu1 {n : Nat} (h : n + 64 < cLine) : n + 1 < cLine := by omega
/-- the key of a row -/
def rowKey (xs : List Int) : List Key := xs.map Sum.inl
theorem rowKey_kV (xs : List Int) : (rowKey xs).map kV = xs.map V.int := by
  unfold rowKey
  rw [List.map_map]
  rfl
theorem rowKey_inj {xs ys : List Int} (h : rowKey xs = rowKey ys) : xs = ys := List.map_inj_right (fun _ _ e => Sum.inl.inj e) |>.mp h
end Own

namespace Own
open PySem L2
/-! the rows of a course, and the dict of their places -/
theorem valV_app {κ : Type} [DecidableEq κ] (l : List (κ × V)) (k k2 : κ) (v : V) : valV (l ++ [(k2, v)]) k = match valV l k with | some y => some y | none => if k2 = k then some v else none := by
  unfold valV
  rw [List.find?_append]
  cases h : List.find? (fun kv => decide (kv.1 = k)) l with
  | some p => simp
  | none =>
    by_cases e : k2 = k
    · simp [e]
    · simp [e]
theorem putK_new {κ : Type} [DecidableEq κ] {l : List (κ × V)} {k : κ} {v : V} (h : valV l k = none) : putK l k v = l ++ [(k, v)] := by
  unfold putK
  rw [if_neg]
  intro z
  unfold valV at h
  rw [Option.map_eq_none_iff, List.find?_eq_none] at h
  rw [List.any_eq_true] at z
  obtain ⟨x, hx, hd⟩ := z
  exact h x hx hd
section
variable {F : List Int → List Int} {xs : List Int}
def kvR (F : List Int → List Int) (xs : List Int) : Nat → List (List Key × V)
  | 0 => []
  | n + 1 => kvR F xs n ++ [(rowKey (itr F n xs), .int (n : Int))]
theorem kvR_len : ∀ n, (kvR F xs n).length = n
  | 0 => rfl
  | n + 1 => by
    show (kvR F xs n ++ _).length = _
    rw [List.length_append, kvR_len n]
    rfl
/-- the first n rows are different ones -/
def Dist (F : List Int → List Int) (xs : List Int) (n : Nat) : Prop := ∀ i j, i < j → j < n → itr F i xs ≠ itr F j xs
theorem kvR_val {ys : List Int} : ∀ n, (valV (kvR F xs n) (rowKey ys) = none ∧ ∀ j, j < n → itr F j xs ≠ ys) ∨ ∃ j, j < n ∧ itr F j xs = ys ∧ valV (kvR F xs n) (rowKey ys) = some (.int (j : Int)) ∧ ∀ i, i < j → itr F i xs ≠ ys
  | 0 => .inl ⟨rfl, fun j h => absurd h (Nat.not_lt_zero j)⟩
  | n + 1 => by
    have e : valV (kvR F xs (n + 1)) (rowKey ys) = _ := valV_app (kvR F xs n) (rowKey ys) (rowKey (itr F n xs)) (.int (n : Int))
    rcases kvR_val (ys := ys) n with ⟨h1, h2⟩ | ⟨j, hj, h1, h2, h3⟩
    · rw [h1] at e
      by_cases h : itr F n xs = ys
      · rw [if_pos (congrArg rowKey h)] at e
        exact .inr ⟨n, Nat.lt_succ_self n, h, e, h2⟩
      · rw [if_neg (fun z => h (rowKey_inj z))] at e
        refine .inl ⟨e, fun j hj => ?_⟩
        rcases Nat.lt_succ_iff_lt_or_eq.mp hj with hj | rfl
        · exact h2 j hj
        · exact h
    · rw [h2] at e
      exact .inr ⟨j, Nat.lt_succ_of_lt hj, h1, e, h3⟩
theorem Dist.succ {n : Nat} (h : Dist F xs n) (h2 : ∀ j, j < n → itr F j xs ≠ itr F n xs) : Dist F xs (n + 1) := fun i j hij hj => by
  rcases Nat.lt_succ_iff_lt_or_eq.mp hj with hj | rfl
  · exact h i j hij hj
  · exact h2 i hij
/-- the list at pth holds the first n rows -/
def PathAt (H : Hp) (pth : Addr) (F : List Int → List Int) (xs : List Int) (n : Nat) : Prop := ∃ as : List Addr, as.length = n ∧ H pth = some (.lst (as.map V.ref)) ∧ ∀ i b, as[i]? = some b → H b = some (.tup ((itr F i xs).map V.int))
theorem PathAt.ext {H H' : Hp} {pth : Addr} {n : Nat} (h : PathAt H pth F xs n) (e : Ext H H') : PathAt H' pth F xs n := by
  obtain ⟨as, h1, h2, h3⟩ := h
  exact ⟨as, h1, e _ _ h2, fun i b hb => e _ _ (h3 i b hb)⟩
theorem PathAt.other {H : Hp} {pth d : Addr} {n : Nat} {ob : HO} (h : PathAt H pth F xs n) (hd : ∀ zs, H d ≠ some (.tup zs)) (hl : ∀ zs, H d ≠ some (.lst zs)) : PathAt (upd H d ob) pth F xs n := by
  obtain ⟨as, h1, h2, h3⟩ := h
  refine ⟨as, h1, ?_, fun i b hb => ?_⟩
  · rw [upd_ne (fun z => hl _ (by rw [← z]; exact h2))]
    exact h2
  · rw [upd_ne (fun z => hd _ (by rw [← z]; exact h3 i b hb))]
    exact h3 i b hb
theorem PathAt.push {H : Hp} {pth b : Addr} {n : Nat} (h : PathAt H pth F xs n) (hb : H b = some (.tup ((itr F n xs).map V.int))) : ∃ acc, H pth = some (.lst acc) ∧ acc.length = n ∧ PathAt (upd H pth (.lst (acc ++ [.ref b]))) pth F xs (n + 1) := by
  obtain ⟨as, h1, h2, h3⟩ := h
  have ne : ∀ {c zs}, H c = some (.tup zs) → c ≠ pth := fun {c zs} hc z => by
    rw [z, h2] at hc
    cases hc
  refine ⟨_, h2, by rw [List.length_map, h1], as ++ [b], by rw [List.length_append, h1]; rfl, by rw [upd_same, List.map_append]; rfl, fun i c hc => ?_⟩
  by_cases hi : i < as.length
  · rw [List.getElem?_append_left hi] at hc
    rw [upd_ne (ne (h3 i c hc))]
    exact h3 i c hc
  · rw [List.getElem?_append_right (by omega)] at hc
    have hi0 : i - as.length = 0 := by
      rcases Nat.eq_zero_or_pos (i - as.length) with z | z
      · exact z
      · rw [List.getElem?_eq_none (by show 1 ≤ _; omega)] at hc
        cases hc
    rw [hi0] at hc
    obtain rfl : b = c := Option.some.inj hc
    have : i = n := by omega
    subst this
    rw [upd_ne (ne hb)]
    exact hb
end
end Own

namespace Own
open PySem L2
/-! a row in a list of rows, and its place -/
theorem op_inDC (K : PySem.W.Frag) {X : Cx} (hu : X.A.units + 65 < cLine) (h : X.K = K := by rfl) : OpR X (compareOp .In) (rInD K) := h ▸ op_inD hu
theorem mt_indexDC (K : PySem.W.Frag) {X : Cx} (hu : X.A.units + 65 < cLine) (h : X.K = K := by rfl) : MtR X "list.index" (rIndexD K) := h ▸ mt_indexD hu
theorem hu65 {k : Nat} {A : Around} (r : Room k A) : A.units + 65 < cLine := by have := r.un; omega
def tupD (ys : List Int) : PyData := .tuple (ys.map PyData.int)
section
variable {K : PySem.W.Frag} {H : Hp} {Q : VK} {F : List Int → List Int} {xs : List Int} {pth : Addr} {n : Nat}
theorem dpI : ∀ ys : List Int, DpAll K H (ys.map V.int) (ys.map PyData.int)
  | [] => .nil
  | y :: ys => .cons (.int y) (dpI ys)
theorem dpT {b : Addr} {ys : List Int} (h : H b = some (.tup (ys.map V.int))) : Dp K H (.ref b) (tupD ys) := .tup (SqT.of h) (dpI ys)
theorem shapedT (ys : List Int) : SeqAt.shaped (tupD ys) = true := shaped_ints ys
theorem dpRows : ∀ (as : List Addr) (f : Nat → List Int), (∀ i b, as[i]? = some b → H b = some (.tup ((f i).map V.int))) → DpAll K H (as.map V.ref) ((List.range as.length).map fun j => tupD (f j))
  | [], _, _ => .nil
  | a :: as, f, h => by
    rw [List.length_cons, List.range_succ_eq_map, List.map_cons, List.map_cons, List.map_map]
    exact .cons (dpT (h 0 a rfl)) (dpRows as (fun j => f (j + 1)) fun i b hb => h (i + 1) b hb)
theorem canT : ∀ (f : Nat → List Int) (l : List Nat), PyData.canLayAll0 (l.map fun j => tupD (f j)) = true
  | _, [] => rfl
  | f, j :: l => by
    show (PyData.canLayAll0 ((f j).map PyData.int) && PyData.canLayAll0 (l.map fun j => tupD (f j))) = true
    rw [canLayAll_ints, canT f l]
    rfl
theorem depT : ∀ (f : Nat → List Int) (l : List Nat), PyData.depthAll (l.map fun j => tupD (f j)) ≤ 1
  | _, [] => Nat.zero_le _
  | f, j :: l => by
    show max (PyData.depthAll ((f j).map PyData.int) + 1) (PyData.depthAll (l.map fun j => tupD (f j))) ≤ 1
    have := depT f l
    rw [depthAll_ints]
    omega
theorem shapedR (f : Nat → List Int) (l : List Nat) : SeqAt.shaped (.list (l.map fun j => tupD (f j))) = true := by
  show (PyData.canLayAll0 (l.map fun j => tupD (f j)) && decide (PyData.depthAll (l.map fun j => tupD (f j)) + 1 ≤ 64)) = true
  have := depT f l
  rw [canT, decide_eq_true (by omega)]
  rfl
theorem eqvT (ys zs : List Int) : PyData.eqv (tupD ys) (tupD zs) = decide (ys = zs) := eqv_ints ys zs
def rowsD (F : List Int → List Int) (xs : List Int) (n : Nat) : List PyData := (List.range n).map fun j => tupD (itr F j xs)
theorem path_dp (h : PathAt H pth F xs n) : Dp K H (.ref pth) (.list (rowsD F xs n)) := by
  obtain ⟨as, h1, h2, h3⟩ := h
  subst h1
  exact .lst (SqL.of h2) (dpRows as (fun j => itr F j xs) h3)
theorem rowsD_get {j : Nat} (h : j < n) : (rowsD F xs n)[j]? = some (tupD (itr F j xs)) := by
  unfold rowsD
  rw [List.getElem?_map, List.getElem?_range h]
  rfl
theorem in_rows {b : Addr} {ys : List Int} (h : PathAt H pth F xs n) (hb : H b = some (.tup (ys.map V.int))) (q0 : (∀ j, j < n → itr F j xs ≠ ys) → Q (.bl false) H) (q1 : ∀ j, j < n → itr F j xs = ys → (∀ i, i < j → itr F i xs ≠ ys) → Q (.bl true) H) : rInD K (.ref b) (.ref pth) H Q := by
  refine ⟨_, _, dpT hb, path_dp h, shapedT ys, shapedR _ _, ?_⟩
  have key : (∀ j, j < n → itr F j xs ≠ ys) ∨ ∃ j, j < n ∧ itr F j xs = ys ∧ ∀ i, i < j → itr F i xs ≠ ys := by
    rcases kvR_val (F := F) (xs := xs) (ys := ys) n with ⟨-, h2⟩ | ⟨j, h1, h2, -, h3⟩
    · exact .inl h2
    · exact .inr ⟨j, h1, h2, h3⟩
  rcases key with h1 | ⟨j, h1, h2, h3⟩
  · have : ((rowsD F xs n).any fun z => PyData.eqv z (tupD ys)) = false := by
      rw [List.any_eq_false]
      intro z hz
      obtain ⟨j, hj, rfl⟩ := List.mem_map.mp hz
      rw [eqvT, decide_eq_true_eq]
      exact h1 j (List.mem_range.mp hj)
    rw [this]
    exact q0 h1
  · have : ((rowsD F xs n).any fun z => PyData.eqv z (tupD ys)) = true := by
      rw [List.any_eq_true]
      exact ⟨_, List.mem_map.mpr ⟨j, List.mem_range.mpr h1, rfl⟩, by rw [eqvT, decide_eq_true_eq]; exact h2⟩
    rw [this]
    exact q1 j h1 h2 h3
theorem index_rows {b : Addr} {ys : List Int} {j : Nat} (h : PathAt H pth F xs n) (hb : H b = some (.tup (ys.map V.int))) (hj : j < n) (he : itr F j xs = ys) (hno : ∀ i, i < j → itr F i xs ≠ ys) (q : Q (.int (j : Int)) H) : rIndexD K (.ref pth) [.ref b] H Q := by
  refine ⟨pth, .ref b, _, _, j, _, rfl, rfl, path_dp h, dpT hb, shapedR _ _, shapedT ys, rowsD_get hj, by rw [eqvT, decide_eq_true_eq]; exact he, fun m z' hm hz => ?_, q⟩
  rw [rowsD_get (by omega)] at hz
  obtain rfl := Option.some.inj hz
  rw [eqvT, decide_eq_false_iff_not]
  exact hno m hm
end
end Own

namespace Own
open PySem L2
/-! trees as data -/
def trD : Ch → PyData
  | .sw ns k own es ys => .tuple [.str "sweep", .tuple (ns.map PyData.int), .int k, .int own, .str es, .str ys]
  | .tu c => .tuple [.str "turned", trD c]
  | .mi c => .tuple [.str "mirrored", trD c]
  | .ti n c => .tuple [.str "times", trD c, .int n]
  | .th a b => .tuple [.str "then", trD a, trD b]
  | .hi a b => .tuple [.str "higher", trD a, trD b]
  | .lo a b => .tuple [.str "lower", trD a, trD b]
theorem neK {s t : Str} {xs ys : List PyData} (h : PyData.eqv (.str s) (.str t) = false) : PyData.eqv (.tuple (.str s :: xs)) (.tuple (.str t :: ys)) = false := by
  show (PyData.eqv (.str s) (.str t) && PyData.eqvAll xs ys) = false
  rw [h]
  rfl
theorem eqK {s : Str} {xs ys : List PyData} (h : PyData.eqv (.str s) (.str s) = true) : PyData.eqv (.tuple (.str s :: xs)) (.tuple (.str s :: ys)) = PyData.eqvAll xs ys := by
  show (PyData.eqv (.str s) (.str s) && PyData.eqvAll xs ys) = _
  rw [h]
  rfl
theorem eqv_str (s t : Str) : PyData.eqv (.str s) (.str t) = decide (s = t) := by
  show (s == t) = decide (s = t)
  by_cases h : s = t
  · rw [h, decide_eq_true rfl]
    simp
  · rw [decide_eq_false h]
    simp [h]
theorem eqv_int (s t : Int) : PyData.eqv (.int s) (.int t) = decide (s = t) := by
  show (s == t) = decide (s = t)
  by_cases h : s = t
  · rw [h, decide_eq_true rfl]
    simp
  · rw [decide_eq_false h]
    simp [h]
theorem eqv_cons (x y : PyData) (xs ys : List PyData) : PyData.eqvAll (x :: xs) (y :: ys) = (PyData.eqv x y && PyData.eqvAll xs ys) := rfl
theorem eqv_nil : PyData.eqvAll [] [] = true := rfl
theorem trD_eqv : ∀ c c2 : Ch, PyData.eqv (trD c) (trD c2) = decide (c = c2) := by
  intro c
  induction c with
  | sw ns k own es ys =>
    intro c2
    cases c2 with
    | sw ns2 k2 own2 es2 ys2 =>
      refine (eqK (by decide +kernel)).trans ?_
      rw [eqv_cons, eqv_cons, eqv_cons, eqv_cons, eqv_cons, eqv_nil, eqv_ints, eqv_int, eqv_int, eqv_str, eqv_str, Bool.and_true]
      rw [← Bool.decide_and, ← Bool.decide_and, ← Bool.decide_and, ← Bool.decide_and]
      exact decide_eq_decide.mpr (by rw [Ch.sw.injEq])
    | _ => exact (neK (by decide +kernel)).trans (decide_eq_false (by intro h; cases h)).symm
  | tu x ih =>
    intro c2
    cases c2 with
    | tu y =>
      refine (eqK (by decide +kernel)).trans ?_
      rw [eqv_cons, eqv_nil, ih, Bool.and_true]
      exact decide_eq_decide.mpr (by rw [Ch.tu.injEq])
    | _ => exact (neK (by decide +kernel)).trans (decide_eq_false (by intro h; cases h)).symm
  | mi x ih =>
    intro c2
    cases c2 with
    | mi y =>
      refine (eqK (by decide +kernel)).trans ?_
      rw [eqv_cons, eqv_nil, ih, Bool.and_true]
      exact decide_eq_decide.mpr (by rw [Ch.mi.injEq])
    | _ => exact (neK (by decide +kernel)).trans (decide_eq_false (by intro h; cases h)).symm
  | ti n x ih =>
    intro c2
    cases c2 with
    | ti m y =>
      refine (eqK (by decide +kernel)).trans ?_
      rw [eqv_cons, eqv_cons, eqv_nil, ih, eqv_int, Bool.and_true, ← Bool.decide_and]
      exact decide_eq_decide.mpr (by rw [Ch.ti.injEq]; exact ⟨fun ⟨h1, h2⟩ => ⟨by omega, h1⟩, fun ⟨h1, h2⟩ => ⟨h2, by omega⟩⟩)
    | _ => exact (neK (by decide +kernel)).trans (decide_eq_false (by intro h; cases h)).symm
  | th x x2 ih ih2 =>
    intro c2
    cases c2 with
    | th y y2 =>
      refine (eqK (by decide +kernel)).trans ?_
      rw [eqv_cons, eqv_cons, eqv_nil, ih, ih2, Bool.and_true, ← Bool.decide_and]
      exact decide_eq_decide.mpr (by rw [Ch.th.injEq])
    | _ => exact (neK (by decide +kernel)).trans (decide_eq_false (by intro h; cases h)).symm
  | hi x x2 ih ih2 =>
    intro c2
    cases c2 with
    | hi y y2 =>
      refine (eqK (by decide +kernel)).trans ?_
      rw [eqv_cons, eqv_cons, eqv_nil, ih, ih2, Bool.and_true, ← Bool.decide_and]
      exact decide_eq_decide.mpr (by rw [Ch.hi.injEq])
    | _ => exact (neK (by decide +kernel)).trans (decide_eq_false (by intro h; cases h)).symm
  | lo x x2 ih ih2 =>
    intro c2
    cases c2 with
    | lo y y2 =>
      refine (eqK (by decide +kernel)).trans ?_
      rw [eqv_cons, eqv_cons, eqv_nil, ih, ih2, Bool.and_true, ← Bool.decide_and]
      exact decide_eq_decide.mpr (by rw [Ch.lo.injEq])
    | _ => exact (neK (by decide +kernel)).trans (decide_eq_false (by intro h; cases h)).symm
theorem canC {x : PyData} {xs : List PyData} (h : PyData.canLay0 x = true) (h2 : PyData.canLayAll0 xs = true) : PyData.canLayAll0 (x :: xs) = true := by
  show (PyData.canLay0 x && PyData.canLayAll0 xs) = true
  rw [h, h2]
  rfl
theorem trD_can : ∀ {c : Ch}, c.okS → PyData.canLay0 (trD c) = true
  | .sw ns k own es ys, h => by
    have g : GoodS ns k own es ys := h
    have e1 : PyData.canLay0 (.str es) = true := by rcases g.es with rfl | rfl <;> decide +kernel
    have e2 : PyData.canLay0 (.str ys) = true := by rcases g.ys with rfl | rfl | rfl <;> decide +kernel
    exact canC (by decide +kernel) (canC (canLayAll_ints ns) (canC rfl (canC rfl (canC e1 (canC e2 rfl)))))
  | .tu c, h => canC (by decide +kernel) (canC (trD_can (c := c) h) rfl)
  | .mi c, h => canC (by decide +kernel) (canC (trD_can (c := c) h) rfl)
  | .ti n c, h => canC (by decide +kernel) (canC (trD_can (c := c) h.1) (canC rfl rfl))
  | .th a b, h => canC (by decide +kernel) (canC (trD_can (c := a) h.1) (canC (trD_can (c := b) h.2) rfl))
  | .hi a b, h => canC (by decide +kernel) (canC (trD_can (c := a) h.1) (canC (trD_can (c := b) h.2) rfl))
  | .lo a b, h => canC (by decide +kernel) (canC (trD_can (c := a) h.1) (canC (trD_can (c := b) h.2) rfl))
theorem depC (x : PyData) (xs : List PyData) : PyData.depthAll (x :: xs) = max (PyData.depth x) (PyData.depthAll xs) := rfl
theorem trD_dep : ∀ c : Ch, PyData.depth (trD c) ≤ c.hgt + 1
  | .sw ns k own es ys => by
    show PyData.depthAll [.str "sweep", .tuple (ns.map PyData.int), .int k, .int own, .str es, .str ys] + 1 ≤ 1 + 1
    have e : PyData.depth (.tuple (ns.map PyData.int)) = 1 := by
      show PyData.depthAll (ns.map PyData.int) + 1 = 1
      rw [depthAll_ints]
    have r : PyData.depthAll [.int k, .int own, .str es, .str ys] = 0 := rfl
    rw [depC, depC, e, r]
    show max 0 (max 1 0) + 1 ≤ 2
    omega
  | .tu c => by
    have := trD_dep c
    show max 0 (max (PyData.depth (trD c)) 0) + 1 ≤ (c.hgt + 1) + 1
    omega
  | .mi c => by
    have := trD_dep c
    show max 0 (max (PyData.depth (trD c)) 0) + 1 ≤ (c.hgt + 1) + 1
    omega
  | .ti n c => by
    have := trD_dep c
    show max 0 (max (PyData.depth (trD c)) (max 0 0)) + 1 ≤ (c.hgt + 1) + 1
    omega
  | .th a b => by
    have h1 := trD_dep a
    have h2 := trD_dep b
    show max 0 (max (PyData.depth (trD a)) (max (PyData.depth (trD b)) 0)) + 1 ≤ (max a.hgt b.hgt + 1) + 1
    omega
  | .hi a b => by
    have h1 := trD_dep a
    have h2 := trD_dep b
    show max 0 (max (PyData.depth (trD a)) (max (PyData.depth (trD b)) 0)) + 1 ≤ (max a.hgt b.hgt + 1) + 1
    omega
  | .lo a b => by
    have h1 := trD_dep a
    have h2 := trD_dep b
    show max 0 (max (PyData.depth (trD a)) (max (PyData.depth (trD b)) 0)) + 1 ≤ (max a.hgt b.hgt + 1) + 1
    omega
theorem trD_tup : ∀ c : Ch, ∃ ds, trD c = .tuple ds
  | .sw .. => ⟨_, rfl⟩
  | .tu _ => ⟨_, rfl⟩
  | .mi _ => ⟨_, rfl⟩
  | .ti _ _ => ⟨_, rfl⟩
  | .th _ _ => ⟨_, rfl⟩
  | .hi _ _ => ⟨_, rfl⟩
  | .lo _ _ => ⟨_, rfl⟩
theorem trD_shaped {c : Ch} (h : c.okS) (hd : c.hgt ≤ 40) : SeqAt.shaped (trD c) = true := by
  have h1 := trD_can h
  have h2 := trD_dep c
  obtain ⟨ds, e⟩ := trD_tup c
  rw [e] at h1 h2 ⊢
  have h1 : PyData.canLayAll0 ds = true := h1
  have h2 : PyData.depthAll ds + 1 ≤ c.hgt + 1 := h2
  show (PyData.canLayAll0 ds && decide (PyData.depthAll ds + 1 ≤ 64)) = true
  rw [h1, decide_eq_true (by omega)]
  rfl
def Ch.leaves : Ch → List Ch
  | .sw ns k own es ys => [.sw ns k own es ys]
  | .tu c => c.leaves
  | .mi c => c.leaves
  | .ti _ c => c.leaves
  | .th a b => a.leaves ++ b.leaves
  | .hi a b => a.leaves ++ b.leaves
  | .lo a b => a.leaves ++ b.leaves
theorem Ch.leaves_sw : ∀ {c x : Ch}, x ∈ c.leaves → x.kind = "sweep" ∧ x.hgt = 1
  | .sw .., x, h => by rw [List.mem_singleton.mp h]; exact ⟨rfl, rfl⟩
  | .tu c, x, h => Ch.leaves_sw (c := c) h
  | .mi c, x, h => Ch.leaves_sw (c := c) h
  | .ti _ c, x, h => Ch.leaves_sw (c := c) h
  | .th a b, x, h => (List.mem_append.mp h).elim (Ch.leaves_sw (c := a)) (Ch.leaves_sw (c := b))
  | .hi a b, x, h => (List.mem_append.mp h).elim (Ch.leaves_sw (c := a)) (Ch.leaves_sw (c := b))
  | .lo a b, x, h => (List.mem_append.mp h).elim (Ch.leaves_sw (c := a)) (Ch.leaves_sw (c := b))
theorem Ch.leaves_good : ∀ {c x : Ch}, c.good → x ∈ c.leaves → x.good
  | .sw .., x, g, h => by rw [List.mem_singleton.mp h]; exact g
  | .tu c, x, g, h => Ch.leaves_good (c := c) g.1 h
  | .mi c, x, g, h => Ch.leaves_good (c := c) g.1 h
  | .ti _ c, x, g, h => Ch.leaves_good (c := c) g.1 h
  | .th a b, x, g, h => (List.mem_append.mp h).elim (Ch.leaves_good (c := a) g.1) (Ch.leaves_good (c := b) g.2.1)
  | .hi a b, x, g, h => (List.mem_append.mp h).elim (Ch.leaves_good (c := a) g.1) (Ch.leaves_good (c := b) g.2.1)
  | .lo a b, x, g, h => (List.mem_append.mp h).elim (Ch.leaves_good (c := a) g.1) (Ch.leaves_good (c := b) g.2.1)
theorem Ch.leaves_len : ∀ (c : Ch) (d : Nat), c.hgt ≤ d + 1 → c.leaves.length ≤ 2 ^ d
  | .sw .., d, h => Nat.one_le_two_pow
  | .tu c, 0, h => by have := c.hgt_pos; have h : c.hgt + 1 ≤ 1 := h; omega
  | .mi c, 0, h => by have := c.hgt_pos; have h : c.hgt + 1 ≤ 1 := h; omega
  | .ti _ c, 0, h => by have := c.hgt_pos; have h : c.hgt + 1 ≤ 1 := h; omega
  | .th a b, 0, h => by have := a.hgt_pos; have h : max a.hgt b.hgt + 1 ≤ 1 := h; omega
  | .hi a b, 0, h => by have := a.hgt_pos; have h : max a.hgt b.hgt + 1 ≤ 1 := h; omega
  | .lo a b, 0, h => by have := a.hgt_pos; have h : max a.hgt b.hgt + 1 ≤ 1 := h; omega
  | .tu c, d + 1, h => Nat.le_trans (Ch.leaves_len c d (Nat.le_of_succ_le_succ h)) (Nat.pow_le_pow_right (by decide) (Nat.le_succ d))
  | .mi c, d + 1, h => Nat.le_trans (Ch.leaves_len c d (Nat.le_of_succ_le_succ h)) (Nat.pow_le_pow_right (by decide) (Nat.le_succ d))
  | .ti _ c, d + 1, h => Nat.le_trans (Ch.leaves_len c d (Nat.le_of_succ_le_succ h)) (Nat.pow_le_pow_right (by decide) (Nat.le_succ d))
  | .th a b, d + 1, h => by
    have h : max a.hgt b.hgt + 1 ≤ d + 1 + 1 := h
    have h1 := Ch.leaves_len a d (by omega)
    have h2 := Ch.leaves_len b d (by omega)
    show (a.leaves ++ b.leaves).length ≤ _
    rw [List.length_append, Nat.pow_succ]
    omega
  | .hi a b, d + 1, h => by
    have h : max a.hgt b.hgt + 1 ≤ d + 1 + 1 := h
    have h1 := Ch.leaves_len a d (by omega)
    have h2 := Ch.leaves_len b d (by omega)
    show (a.leaves ++ b.leaves).length ≤ _
    rw [List.length_append, Nat.pow_succ]
    omega
  | .lo a b, d + 1, h => by
    have h : max a.hgt b.hgt + 1 ≤ d + 1 + 1 := h
    have h1 := Ch.leaves_len a d (by omega)
    have h2 := Ch.leaves_len b d (by omega)
    show (a.leaves ++ b.leaves).length ≤ _
    rw [List.length_append, Nat.pow_succ]
    omega
theorem Ch.leaves_kids {c : Ch} (h : c.kind ≠ "sweep") : c.leaves = (c.kids.map Ch.leaves).flatten := by
  cases c with
  | sw => exact absurd rfl h
  | tu x => show x.leaves = [x.leaves].flatten; simp
  | mi x => show x.leaves = [x.leaves].flatten; simp
  | ti n x => show x.leaves = [x.leaves].flatten; simp
  | th x y => show x.leaves ++ y.leaves = [x.leaves, y.leaves].flatten; simp
  | hi x y => show x.leaves ++ y.leaves = [x.leaves, y.leaves].flatten; simp
  | lo x y => show x.leaves ++ y.leaves = [x.leaves, y.leaves].flatten; simp
end Own
namespace Rk
open PySem ClX Own
open L2 hiding Ext
theorem TrAt.dp {K : PySem.W.Frag} {H : Hp} : ∀ {c : Ch} {q : Addr}, TrAt H c q → Dp K H (.ref q) (trD c)
  | .sw ns k own es ys, _, ⟨_, h, h2⟩ => .tup (SqT.of h) (.cons (.str _) (.cons (.tup (SqT.of h2) (dpAll_ints ns)) (.cons (.int _) (.cons (.int _) (.cons (.str _) (.cons (.str _) .nil))))))
  | .tu c, _, ⟨_, h1, h⟩ => .tup (SqT.of h) (.cons (.str _) (.cons h1.dp .nil))
  | .mi c, _, ⟨_, h1, h⟩ => .tup (SqT.of h) (.cons (.str _) (.cons h1.dp .nil))
  | .ti n c, _, ⟨_, h1, h⟩ => .tup (SqT.of h) (.cons (.str _) (.cons h1.dp (.cons (.int _) .nil)))
  | .th a b, _, ⟨_, _, h1, h2, h⟩ => .tup (SqT.of h) (.cons (.str _) (.cons h1.dp (.cons h2.dp .nil)))
  | .hi a b, _, ⟨_, _, h1, h2, h⟩ => .tup (SqT.of h) (.cons (.str _) (.cons h1.dp (.cons h2.dp .nil)))
  | .lo a b, _, ⟨_, _, h1, h2, h⟩ => .tup (SqT.of h) (.cons (.str _) (.cons h1.dp (.cons h2.dp .nil)))
theorem r_eqTr {K : PySem.W.Frag} {H : Hp} {Q : VK} {c c2 : Ch} {q q2 : Addr} (h : TrAt H c q) (h2 : TrAt H c2 q2) (o : c.okS) (o2 : c2.okS) (d : c.hgt ≤ 40) (d2 : c2.hgt ≤ 40) (k : Q (.bl (decide (c = c2))) H) : rEqD K (.ref q) (.ref q2) H Q :=
  ⟨_, _, h.dp, h2.dp, trD_shaped o d, trD_shaped o2 d2, by rw [trD_eqv]; exact k⟩
end Rk

namespace Rk
open PySem ClX Own
open L2 hiding Ext
/-- what is no list stays -/
def ExtN (H H' : Hp) : Prop := ∀ b o, H b = some o → (∀ xs, o ≠ .lst xs) → H' b = some o
theorem ExtN.of {H H' : Hp} (e : Ext H H') : ExtN H H' := fun b o h _ => e b o h
theorem ExtN.trans {H H' H2 : Hp} (e : ExtN H H') (e2 : ExtN H' H2) : ExtN H H2 := fun b o h n => e2 b o (e b o h n) n
theorem ExtN.wo {H : Hp} {p c : Addr} (pl : Pl H p c) : ExtN H (wo p H) := fun b o h n => by
  obtain ⟨ms, i, m, k, hp, -⟩ := pl
  rw [wo_ne (fun z => by rw [z, hp] at h; exact n _ (Option.some.inj h).symm)]
  exact h
theorem ExtN.mut {H : Hp} {l : Addr} {xs ys : List V} (h : H l = some (.lst xs)) : ExtN H (upd H l (.lst ys)) := fun b o hb n => by
  rw [upd_ne (fun z => by rw [z, h] at hb; exact n _ (Option.some.inj hb).symm)]
  exact hb
theorem SweepAt.extN {C : Addr} {H H' : Hp} {a : Addr} {ns : List Int} {k own : Int} {es ys : Str} (e : ExtN H H') (h : SweepAt C H a ns k own es ys) : SweepAt C H' a ns k own es ys := by
  obtain ⟨dx, t, pt, rt, h1, h2, h3, h4⟩ := h
  exact ⟨dx, t, pt, rt, e _ _ h1 (fun xs z => by cases z), e _ _ h2 (fun xs z => by cases z), e _ _ h3 (fun xs z => by cases z), e _ _ h4 (fun xs z => by cases z)⟩
theorem NodeAt.extN {C : Addr} {H H' : Hp} {c : Ch} {a : Addr} {ps : List V} (e : ExtN H H') (h : NodeAt C H c a ps) : NodeAt C H' c a ps := by
  obtain ⟨dx, pt, rt, h1, h2, h3⟩ := h
  exact ⟨dx, pt, rt, e _ _ h1 (fun xs z => by cases z), e _ _ h2 (fun xs z => by cases z), e _ _ h3 (fun xs z => by cases z)⟩
theorem ChAt.extN {S C : Addr} {H H' : Hp} (e : ExtN H H') : ∀ {c : Ch} {a : Addr}, ChAt S C H c a → ChAt S C H' c a
  | .sw .., _, h => SweepAt.extN e h
  | .tu _, _, ⟨b, h1, h2⟩ => ⟨b, h1.extN e, h2.extN e⟩
  | .mi _, _, ⟨b, h1, h2⟩ => ⟨b, h1.extN e, h2.extN e⟩
  | .ti _ _, _, ⟨b, h1, h2⟩ => ⟨b, h1.extN e, h2.extN e⟩
  | .th _ _, _, ⟨b, b2, h1, h2, h3⟩ => ⟨b, b2, h1.extN e, h2.extN e, h3.extN e⟩
  | .hi _ _, _, ⟨b, b2, h1, h2, h3⟩ => ⟨b, b2, h1.extN e, h2.extN e, h3.extN e⟩
  | .lo _ _, _, ⟨b, b2, h1, h2, h3⟩ => ⟨b, b2, h1.extN e, h2.extN e, h3.extN e⟩
theorem TreeAt.extN {H H' : Hp} {q : Addr} {ns : List Int} {k own : Int} {es ys : Str} (e : ExtN H H') (h : TreeAt H q ns k own es ys) : TreeAt H' q ns k own es ys := by
  obtain ⟨t, h1, h2⟩ := h
  exact ⟨t, e _ _ h1 (fun xs z => by cases z), e _ _ h2 (fun xs z => by cases z)⟩
theorem TrAt.extN {H H' : Hp} (e : ExtN H H') : ∀ {c : Ch} {q : Addr}, TrAt H c q → TrAt H' c q
  | .sw .., _, h => TreeAt.extN e h
  | .tu _, _, ⟨b, h1, h2⟩ => ⟨b, h1.extN e, e _ _ h2 (fun xs z => by cases z)⟩
  | .mi _, _, ⟨b, h1, h2⟩ => ⟨b, h1.extN e, e _ _ h2 (fun xs z => by cases z)⟩
  | .ti _ _, _, ⟨b, h1, h2⟩ => ⟨b, h1.extN e, e _ _ h2 (fun xs z => by cases z)⟩
  | .th _ _, _, ⟨b, b2, h1, h2, h3⟩ => ⟨b, b2, h1.extN e, h2.extN e, e _ _ h3 (fun xs z => by cases z)⟩
  | .hi _ _, _, ⟨b, b2, h1, h2, h3⟩ => ⟨b, b2, h1.extN e, h2.extN e, e _ _ h3 (fun xs z => by cases z)⟩
  | .lo _ _, _, ⟨b, b2, h1, h2, h3⟩ => ⟨b, b2, h1.extN e, h2.extN e, e _ _ h3 (fun xs z => by cases z)⟩
def spLaw (K : PySem.W.Frag) : Sp := fun vs H Q _ => ∃ (a : Addr) (ns : List Int), vs = [.ref a] ∧ SqL K H a (ns.map V.int) ∧ ns.length ≤ 63 ∧ ∀ H', Q (.bl true) H'
end Rk

namespace Rk
open PySem ClX Own
open L2 hiding Ext
local macro_rules | `(tactic| walk_at "side") => `(tactic| first | exact trivial | (show (0:Int) < _; first | assumption | decide | omega) | exact Or.inl ⟨by decide, by decide⟩ | exact Or.inl ⟨by omega, by omega⟩ | exact Or.inr ⟨by decide, by decide⟩ | exact ⟨by decide, by decide⟩ | exact ⟨by decide, by decide, by decide⟩ | exact ⟨by omega, by omega⟩)
local macro_rules | `(tactic| walk_at "rd") => `(tactic| repeat (with_reducible first | refine r_next ?_ | refine r_ret ?_ | refine r_seq ?_ | refine r_asg ?_ | refine r_drop ?_ | refine r_call ?_ | refine r_cons ?_ | refine r_nil ?_ | refine r_cb ?_ | refine r_op ?_ | refine r_sset ?_ | refine r_var (by with_unfolding_all rfl) ?_ | refine r_c ?_ | refine r_name ?_ | refine r_I0 ?_ | (refine r_I ?_ ?_; focus (with_unfolding_all walk_at "side")) | refine r_un ?_ | refine r_U ?_ | refine r_if ?_ | refine r_ifE ?_ | refine r_test ?_ | refine r_B ?_ | refine r_bl ?_ | refine r_not ?_ | refine r_and ?_ | refine r_or ?_ | refine r_andV ?_ | refine r_orV ?_ | refine r_notV ?_ | refine r_eqI ?_ | refine r_neI ?_ | refine r_tup ?_ | refine r_lst ?_ | refine r_sub ?_ | refine r_intI ?_ | refine r_intB ?_ | refine r_abs ?_ | refine r_max ?_ | refine r_ixL (SqL.of (by assumption)) (by with_unfolding_all rfl) ?_ | refine r_ixT (SqT.of (by assumption)) (by with_unfolding_all rfl) ?_ | refine r_ixQL (by assumption) (by with_unfolding_all rfl) ?_ | refine r_ixQT (by assumption) (by with_unfolding_all rfl) ?_ | refine r_ckw ?_ | refine r_callN ?_ | refine r_makeS ?_ | refine r_make ?_ | refine r_makeK ?_ | refine r_methA ?_ | refine r_pcons ?_ | refine r_pnil ?_ | refine r_dget ?_ | refine r_isN ?_ | refine r_notN ?_ | refine r_fld ?_ | refine r_sfld ?_ | refine r_lenL (SqL.of (by assumption)) ?_ | refine r_lenT (SqT.of (by assumption)) ?_ | refine r_callS ?_ | refine r_cutnx ?_ | refine r_cutrt ?_ | refine r_chain ?_ | refine r_yes ?_ | refine iteT ?_ | refine iteF ?_ | refine iteNF ?_ | refine iteNT ?_ | refine r_truth ?_ | refine r_truI ?_ | refine r_sliceV ?_ | refine r_for ?_ | refine r_rng1 ?_ | (refine r_i1 ?_ ?_; focus (with_unfolding_all walk_at "side"))))
theorem r_iTup {K : PySem.W.Frag} {tl : TE} {σ : L2.St} {H : Hp} {R : It → Hp → Prop} (h : tl σ H fun x H1 => ∃ a, x = .ref a ∧ (∃ xs, SqT K H1 a xs) ∧ R (Itt K a) H1) : iTup K tl σ H R := h
section
variable {P : Program} {w : World} {K : PySem.W.Frag} {mg : Str → Option Value} {base : Heap} {D : Ad}
theorem ok_Chain__pow__ (T : Txt w K mg D) : FnOk P w K mg base (L2.CX P w) 6 D.a_Chain__pow__ D.d_Chain__pow__ ["self", "other"] (spRep D) := by
  refine T.F_Chain__pow__.okX sc_Chain__pow__ (fun vs H Q E h => ?_) (fun cdv A outer s H vs Q E hr h => ?_)
  · obtain ⟨c, a, v, rfl, _⟩ := h
    rfl
  · obtain ⟨c, a, v, rfl, hc, g, h⟩ := h
    obtain ⟨X, dx, pt, rt, fs, f⟩ := hc.flds (fine_Sweep T) (fine_Chain T)
    refine ⟨_, (pss_one (ps_ret (pe_methA K (pv 0) T.F_Chainrepeated.kp (ok_Chainrepeated T) (hr.mono (by decide)) T.b_Chainrepeated (passAll passE) (pa_cons (pv 1) pa_nil)))), ?_⟩
    walk_at "rd"
    refine ⟨a, X, dx, fs, rfl, f.ins, (hc.nom f.ins).2, f.fine.cl, rep_any T f.cls, ?_⟩
    walk_at "rd"
    exact ⟨c, a, v, rfl, hc, g, h⟩
theorem pow_any (T : Txt w K mg D) {X : Addr} (h : X = D.c_Sweep ∨ X = D.c_Chain) : PowI K X D.a_Chain__pow__ := by
  rcases h with rfl | rfl
  · exact T.pw_Sweep
  · exact T.pw_Chain
theorem swp_any (T : Txt w K mg D) {X : Addr} (h : X = D.c_Sweep ∨ X = D.c_Chain) : Meth K X "sweeps" D.a_Chainsweeps := by
  rcases h with rfl | rfl
  · exact T.me_Sweep_sweeps
  · exact T.me_Chain_sweeps
theorem noS_chain {kind : Str} {pt rt : Addr} {times size depth written : Int} {dir : V} : (chainFs kind pt times size depth rt written dir).lookup (Str.ofString "sweeps") = none := by with_unfolding_all rfl
theorem noS_sweep {t pt rt : Addr} {k own : Int} {es ys : Str} {ns : List Int} : (sweepFs t k own es ys pt rt ns).lookup (Str.ofString "sweeps") = none := by with_unfolding_all rfl
theorem ChAt.nos {S C : Addr} {H : Hp} {X dx : Addr} {fs : List (Str × V)} : ∀ {c : Ch} {a : Addr}, ChAt S C H c a → H a = some (.ins X dx fs) → fs.lookup (Str.ofString "sweeps") = none
  | .sw .., _, ⟨_, _, _, _, h, _⟩, e => by rw [h] at e; cases e; exact noS_sweep
  | .tu _, _, ⟨_, _, _, _, _, h, _⟩, e => by rw [h] at e; cases e; exact noS_chain
  | .mi _, _, ⟨_, _, _, _, _, h, _⟩, e => by rw [h] at e; cases e; exact noS_chain
  | .ti _ _, _, ⟨_, _, _, _, _, h, _⟩, e => by rw [h] at e; cases e; exact noS_chain
  | .th _ _, _, ⟨_, _, _, _, _, _, _, h, _⟩, e => by rw [h] at e; cases e; exact noS_chain
  | .hi _ _, _, ⟨_, _, _, _, _, _, _, h, _⟩, e => by rw [h] at e; cases e; exact noS_chain
  | .lo _ _, _, ⟨_, _, _, _, _, _, _, h, _⟩, e => by rw [h] at e; cases e; exact noS_chain
def refs (ts : List (Addr × Ch)) : List V := ts.map fun t => .ref t.1
def chs (ts : List (Addr × Ch)) : List Ch := ts.map fun t => t.2
/-- a list of the sweeps of a chain -/
def spSweeps (D : Ad) (d : Nat) : Sp := fun vs H Q _ => ∃ (c : Ch) (a : Addr), vs = [.ref a] ∧ ChAt D.c_Sweep D.c_Chain H c a ∧ c.hgt ≤ d ∧ c.leaves.length ≤ 1000 ∧
  ∀ L ts H', Ext H H' → H L = none → H' L = some (.lst (refs ts)) → chs ts = c.leaves → (∀ t ∈ ts, ChAt D.c_Sweep D.c_Chain H' t.2 t.1) → Q (.ref L) H'
theorem ok_sweepsD (T : Txt w K mg D) : ∀ d, FnOk P w K mg base CX0 (d + 2) D.a_Chainsweeps D.d_Chainsweeps ["self"] (spSweeps D d)
  | 0 => by
    have no : ∀ {vs : List V} {H : Hp} {Q : VK} {E : XK}, ¬ spSweeps D 0 vs H Q E := fun ⟨c, _, _, _, hd, _⟩ => by
      have := Ch.hgt_pos c
      omega
    exact ⟨fun _ _ _ _ h => (no h).elim, fun _ _ _ _ _ _ _ _ _ _ _ _ _ h => (no h).elim⟩
  | d + 1 => by
    have ih := ok_sweepsD T d
    refine T.F_Chainsweeps.ok (k := d + 2) sc_Chainsweeps (fun vs H Q E h => ?_) (fun cdv A outer s H vs Q E hr h => ?_)
    · obtain ⟨c, a, rfl, _⟩ := h
      rfl
    obtain ⟨c, a, rfl, hc, hd, hl, kk⟩ := h
    refine ⟨_, (pss_cons (ps_if (pt_cmpR op_eq (pe_fldC K (pv 0)) pe_str (nomark _))
    (pss_one (ps_ret (pe_lst (pa_cons (pv 0) pa_nil))))
    pss_nil)
  (pss_cons (ps_set (i := 1) sc_Chainsweeps.nd rfl (Or.inl rfl) (pe_lst pa_nil))
  (pss_cons (ps_for PassesOwn.never rfl (pi_tup (pe_fldC K (pv 0))) (pg_name (i := 2) sc_Chainsweeps.nd rfl (Or.inl rfl))
    (pss_one (ps_expr (pe_bmC K PySem.F.plainAttrs_list PySem.F.slot_list_extend PySem.F.type_list_extend mt_extend (pv 1) (pa_cons (pe_methA0 K (pv 2) T.F_Chainsweeps.kp ih (hr.mono (by omega)) T.b_Chainsweeps (passAll pass0)) pa_nil)))))
  (pss_one (ps_ret (pv 1)))))), ?_⟩
    obtain ⟨X, dx, pt, rt, fs, f⟩ := hc.flds (fine_Sweep T) (fine_Chain T)
    walk_at "rd"
    refine r_fldV f.ins f.fine.cl f.fine.kind f.kind ?_
    walk_at "rd"
    refine r_eqS ?_
    walk_at "rd"
    by_cases hk : c.kind = "sweep"
    · refine iteT' (decide_eq_true hk) ?_
      walk_at "rd"
      refine r_size (by show 1 ≤ 1000; decide) fun L fL => ?_
      have e : c.leaves = [c] := by
        cases c with
        | sw => rfl
        | _ => exact absurd hk (by simp only [Ch.kind]; decide)
      refine kk L [(a, c)] _ (Ext.new fL) fL upd_same (by rw [e]; rfl) fun t ht => ?_
      rw [List.mem_singleton.mp ht]
      exact hc.ext (Ext.new fL)
    refine iteF' (decide_eq_false hk) ?_
    obtain ⟨ts, hn, hts, htk⟩ := node_of hc hk
    obtain ⟨X2, dx2, pt2, rt2, fs2, f2, hp⟩ := hn.flds (S := D.c_Sweep) (fine_Chain T)
    have lv : c.leaves = ((chs ts).map Ch.leaves).flatten := by
      rw [Ch.leaves_kids hk, ← htk]
      rfl
    walk_at "rd"
    refine r_size (by show 0 ≤ 1000; decide) fun L fL => ?_
    generalize hG1 : upd H L (HO.lst []) = G1
    obtain ⟨x1, gL⟩ : Ext H G1 ∧ G1 L = some (HO.lst []) := by rw [← hG1]; exact ⟨Ext.new fL, upd_same⟩
    walk_at "rd"
    refine r_iTup ?_
    walk_at "rd"
    refine r_fldV (x1 _ _ f2.ins) f2.fine.cl f2.fine.parts f2.parts ?_
    refine ⟨pt2, rfl, ⟨_, SqT.of (x1 _ _ hp)⟩, ?_⟩
    refine foin_it (walk_tup (K := K) (a := pt2) (xs := refs ts)) (fun i τ G => ∃ (us : List (Addr × Ch)) (v2 : Option V), τ = [some (.ref a), some (.ref L), v2] ∧ Ext H G ∧ G L = some (.lst (refs us)) ∧ chs us = ((chs (ts.take i)).map Ch.leaves).flatten ∧ ∀ t ∈ us, ChAt D.c_Sweep D.c_Chain G t.2 t.1) ⟨[], none, rfl, x1, gL, rfl, fun t ht => by cases ht⟩ (fun i τ G _ ⟨_, _, _, e, _⟩ => SqT.of (e _ _ hp)) ?_ ?_
    · rintro i v τ G G' hi ⟨us, v2, rfl, e, hL, hus, hall⟩ ⟨rfl, hx⟩
      have hi : i < ts.length := by
        have : (refs ts).length = ts.length := List.length_map _
        omega
      have hget : ts[i]? = some ts[i] := List.getElem?_eq_getElem hi
      have hv : v = .ref ts[i].1 := by
        unfold refs at hx
        rw [List.getElem?_map, hget] at hx
        exact (Option.some.inj hx).symm
      subst hv
      obtain ⟨m1, m2⟩ := hts ts[i] (List.getElem_mem hi)
      have hc1 := m1.ext e
      obtain ⟨Y, dy, py, ry, gs, g⟩ := hc1.flds (fine_Sweep T) (fine_Chain T)
      have tk : ts.take (i + 1) = ts.take i ++ [ts[i]] := by rw [List.take_succ, hget]; rfl
      have step : ((chs (ts.take (i + 1))).map Ch.leaves).flatten = ((chs (ts.take i)).map Ch.leaves).flatten ++ ts[i].2.leaves := by
        rw [tk]
        unfold chs
        rw [List.map_append, List.map_append, List.flatten_append]
        simp
      have tot : ((chs (ts.take (i + 1))).map Ch.leaves).flatten.length ≤ c.leaves.length := by
        rw [lv]
        have : chs ts = chs (ts.take (i + 1)) ++ chs (ts.drop (i + 1)) := by
          unfold chs
          rw [← List.map_append, List.take_append_drop]
        rw [this, List.map_append, List.flatten_append, List.length_append]
        omega
      rw [step, List.length_append, ← hus] at tot
      have lu : (chs us).length = us.length := List.length_map _
      walk_at "rd"
      refine r_bm ?_
      walk_at "rd"
      refine ⟨.inl ⟨rfl, _, SqL.of hL⟩, ?_⟩
      walk_at "rd"
      refine ⟨ts[i].1, Y, dy, gs, rfl, g.ins, hc1.nos g.ins, g.fine.cl, swp_any T g.cls, ts[i].2, ts[i].1, rfl, hc1, by omega, by omega, fun L2 ws G2 x2 fL2 hL2 hws hallw => ?_⟩
      have hL' := x2 _ _ hL
      have lw : ws.length = ts[i].2.leaves.length := by
        rw [← hws]
        exact (List.length_map _).symm
      have z1 : (refs us).length = us.length := List.length_map _
      have z2 : (refs ws).length = ws.length := List.length_map _
      refine ⟨L, L2, _, _, rfl, rfl, hL', hL2, by rw [z1, z2, sizeLine_eq]; omega, ?_⟩
      have hLH : H L = none := fL
      refine ⟨us ++ ws, _, rfl, (e.trans x2).mut hLH, ?_, ?_, fun t ht => ?_⟩
      · rw [upd_same]
        unfold refs
        rw [List.map_append]
      · rw [step, ← hus, ← hws]
        unfold chs
        rw [List.map_append]
      · have nL : ExtN G2 (upd G2 L (.lst (refs us ++ refs ws))) := ExtN.mut hL'
        rcases List.mem_append.mp ht with ht | ht
        · exact ((hall t ht).ext x2).extN nL
        · exact (hallw t ht).extN nL
    · rintro τ G ⟨us, v2, rfl, e, hL, hus, hall⟩
      have z1 : (refs ts).length = ts.length := List.length_map _
      rw [z1, List.take_length, ← lv] at hus
      walk_at "rd"
      exact kk L us _ e fL hL hus hall
theorem ok_Chainsweeps (T : Txt w K mg D) : FnOk P w K mg base CX0 24 D.a_Chainsweeps D.d_Chainsweeps ["self"] (spSweeps D 22) := ok_sweepsD T 22
def spLeaves (d : Nat) : Sp := fun vs H Q _ => ∃ (c : Ch) (q : Addr), vs = [.ref q] ∧ TrAt H c q ∧ c.hgt ≤ d ∧ c.leaves.length ≤ 1000 ∧
  ∀ L ts H', Ext H H' → H' L = some (.lst (refs ts)) → chs ts = c.leaves → (∀ t ∈ ts, TrAt H' t.2 t.1) → Q (.ref L) H'
theorem ok_leavesD (T : Txt w K mg D) : ∀ d, FnOk P w K mg base CX0 (d + 2) D.a__law_leaves D.d__law_leaves ["_law_tree_here"] (spLeaves d)
  | 0 => by
    have no : ∀ {vs : List V} {H : Hp} {Q : VK} {E : XK}, ¬ spLeaves 0 vs H Q E := fun ⟨c, _, _, _, hd, _⟩ => by
      have := Ch.hgt_pos c
      omega
    exact ⟨fun _ _ _ _ h => (no h).elim, fun _ _ _ _ _ _ _ _ _ _ _ _ _ h => (no h).elim⟩
  | d + 1 => by
    have ih := ok_leavesD T d
    refine T.F__law_leaves.ok (k := d + 2) sc__law_leaves (fun vs H Q E h => ?_) (fun cdv A outer s H vs Q E hr h => ?_)
    · obtain ⟨c, q, rfl, _⟩ := h
      rfl
    obtain ⟨c, q, rfl, tr, hd, hl, kk⟩ := h
    refine ⟨_, (pss_cons (ps_if (pt_cmpR op_eq (pe_ix (ix_seqC K) (pv 0) pe_int (fun _ _ => rfl)) pe_str (nomark _))
    (pss_one (ps_ret (pe_lst (pa_cons (pv 0) pa_nil))))
    pss_nil)
  (pss_cons (ps_if (PW.pt (pw_or (pt_cmpR op_eq (pe_ix (ix_seqC K) (pv 0) pe_int (fun _ _ => rfl)) pe_str (nomark _)) (pw_or (pt_cmpR op_eq (pe_ix (ix_seqC K) (pv 0) pe_int (fun _ _ => rfl)) pe_str (nomark _)) (pw_or1 (pt_cmpR op_eq (pe_ix (ix_seqC K) (pv 0) pe_int (fun _ _ => rfl)) pe_str (nomark _))))))
    (pss_one (ps_ret (pe_call ih (hr.mono (by omega)) (by rfl) T.g__law_leaves T.F__law_leaves.kp T.b__law_leaves .nil pass0 (pa_cons (pe_ix (ix_seqC K) (pv 0) pe_int (fun _ _ => rfl)) pa_nil))))
    pss_nil)
  (pss_one (ps_ret (pe_op op_cat (pe_call ih (hr.mono (by omega)) (by rfl) T.g__law_leaves T.F__law_leaves.kp T.b__law_leaves .nil pass0 (pa_cons (pe_ix (ix_seqC K) (pv 0) pe_int (fun _ _ => rfl)) pa_nil)) (pe_call ih (hr.mono (by omega)) (by rfl) T.g__law_leaves T.F__law_leaves.kp T.b__law_leaves .nil pass0 (pa_cons (pe_ix (ix_seqC K) (pv 0) pe_int (fun _ _ => rfl)) pa_nil))))))), ?_⟩
    have two : ∀ {x y : Ch} {b b2 : Addr}, True := trivial
    cases c with
    | sw ns k own es ys =>
      obtain ⟨t, hq, ht⟩ := id tr
      walk_at "rd"
      refine r_eqS ?_
      walk_at "rd"
      refine iteT' (decide_eq_true rfl) ?_
      walk_at "rd"
      refine r_size (by show 1 ≤ 1000; decide) fun L fL => ?_
      refine kk L [(q, .sw ns k own es ys)] _ (Ext.new fL) upd_same rfl fun t ht => ?_
      rw [List.mem_singleton.mp ht]
      exact tr.ext (Ext.new fL)
    | tu x =>
      obtain ⟨b, tb, hq⟩ := id tr
      have hd : x.hgt ≤ d := Nat.le_of_succ_le_succ hd
      walk_at "rd"
      refine r_eqS ?_
      walk_at "rd"
      refine iteF' (decide_eq_false (by decide)) ?_
      walk_at "rd"
      refine r_eqS ?_
      walk_at "rd"
      refine iteT' (decide_eq_true rfl) ?_
      walk_at "rd"
      exact ⟨x, b, rfl, tb, hd, hl, fun L ts H1 x1 h1 h2 h3 => kk L ts H1 x1 h1 h2 h3⟩
    | mi x =>
      obtain ⟨b, tb, hq⟩ := id tr
      have hd : x.hgt ≤ d := Nat.le_of_succ_le_succ hd
      walk_at "rd"
      refine r_eqS ?_
      walk_at "rd"
      refine iteF' (decide_eq_false (by decide)) ?_
      walk_at "rd"
      refine r_eqS ?_
      walk_at "rd"
      refine iteF' (decide_eq_false (by decide)) ?_
      walk_at "rd"
      refine r_eqS ?_
      walk_at "rd"
      refine iteT' (decide_eq_true rfl) ?_
      walk_at "rd"
      exact ⟨x, b, rfl, tb, hd, hl, fun L ts H1 x1 h1 h2 h3 => kk L ts H1 x1 h1 h2 h3⟩
    | ti n x =>
      obtain ⟨b, tb, hq⟩ := id tr
      have hd : x.hgt ≤ d := Nat.le_of_succ_le_succ hd
      walk_at "rd"
      refine r_eqS ?_
      walk_at "rd"
      refine iteF' (decide_eq_false (by decide)) ?_
      walk_at "rd"
      refine r_eqS ?_
      walk_at "rd"
      refine iteF' (decide_eq_false (by decide)) ?_
      walk_at "rd"
      refine r_eqS ?_
      walk_at "rd"
      refine iteF' (decide_eq_false (by decide)) ?_
      walk_at "rd"
      refine r_eqS ?_
      walk_at "rd"
      refine iteT' (decide_eq_true rfl) ?_
      walk_at "rd"
      exact ⟨x, b, rfl, tb, hd, hl, fun L ts H1 x1 h1 h2 h3 => kk L ts H1 x1 h1 h2 h3⟩
    | th x y =>
      obtain ⟨b, b2, tb, tb2, hq⟩ := id tr
      have hd : max x.hgt y.hgt + 1 ≤ d + 1 := hd
      have hl : (x.leaves ++ y.leaves).length ≤ 1000 := hl
      rw [List.length_append] at hl
      walk_at "rd"
      refine r_eqS ?_
      walk_at "rd"
      refine iteF' (decide_eq_false (by decide)) ?_
      walk_at "rd"
      refine r_eqS ?_
      walk_at "rd"
      refine iteF' (decide_eq_false (by decide)) ?_
      walk_at "rd"
      refine r_eqS ?_
      walk_at "rd"
      refine iteF' (decide_eq_false (by decide)) ?_
      walk_at "rd"
      refine r_eqS ?_
      walk_at "rd"
      refine iteF' (decide_eq_false (by decide)) ?_
      walk_at "rd"
      refine ⟨x, b, rfl, tb, by omega, by omega, fun L ts H1 x1 h1 h2 h3 => ?_⟩
      have hq1 := x1 _ _ hq
      walk_at "rd"
      refine ⟨y, b2, rfl, tb2.ext x1, by omega, by omega, fun L2 us H2 x2 g1 g2 g3 => ?_⟩
      have l1 : (refs ts).length = x.leaves.length := by rw [← h2]; exact (List.length_map _).trans (List.length_map _).symm
      have l2 : (refs us).length = y.leaves.length := by rw [← g2]; exact (List.length_map _).trans (List.length_map _).symm
      refine r_catL (x2 _ _ h1) g1 (by rw [l1, l2]; omega) fun L3 f3 => ?_
      refine kk L3 (ts ++ us) _ (x1.trans (x2.trans (Ext.new f3))) (by rw [upd_same]; unfold refs; rw [List.map_append]) ?_ fun t ht => ?_
      · show _ = x.leaves ++ y.leaves
        rw [← h2, ← g2]
        unfold chs
        rw [List.map_append]
      · rcases List.mem_append.mp ht with ht | ht
        · exact ((h3 t ht).ext x2).ext (Ext.new f3)
        · exact (g3 t ht).ext (Ext.new f3)
    | hi x y =>
      obtain ⟨b, b2, tb, tb2, hq⟩ := id tr
      have hd : max x.hgt y.hgt + 1 ≤ d + 1 := hd
      have hl : (x.leaves ++ y.leaves).length ≤ 1000 := hl
      rw [List.length_append] at hl
      walk_at "rd"
      refine r_eqS ?_
      walk_at "rd"
      refine iteF' (decide_eq_false (by decide)) ?_
      walk_at "rd"
      refine r_eqS ?_
      walk_at "rd"
      refine iteF' (decide_eq_false (by decide)) ?_
      walk_at "rd"
      refine r_eqS ?_
      walk_at "rd"
      refine iteF' (decide_eq_false (by decide)) ?_
      walk_at "rd"
      refine r_eqS ?_
      walk_at "rd"
      refine iteF' (decide_eq_false (by decide)) ?_
      walk_at "rd"
      refine ⟨x, b, rfl, tb, by omega, by omega, fun L ts H1 x1 h1 h2 h3 => ?_⟩
      have hq1 := x1 _ _ hq
      walk_at "rd"
      refine ⟨y, b2, rfl, tb2.ext x1, by omega, by omega, fun L2 us H2 x2 g1 g2 g3 => ?_⟩
      have l1 : (refs ts).length = x.leaves.length := by rw [← h2]; exact (List.length_map _).trans (List.length_map _).symm
      have l2 : (refs us).length = y.leaves.length := by rw [← g2]; exact (List.length_map _).trans (List.length_map _).symm
      refine r_catL (x2 _ _ h1) g1 (by rw [l1, l2]; omega) fun L3 f3 => ?_
      refine kk L3 (ts ++ us) _ (x1.trans (x2.trans (Ext.new f3))) (by rw [upd_same]; unfold refs; rw [List.map_append]) ?_ fun t ht => ?_
      · show _ = x.leaves ++ y.leaves
        rw [← h2, ← g2]
        unfold chs
        rw [List.map_append]
      · rcases List.mem_append.mp ht with ht | ht
        · exact ((h3 t ht).ext x2).ext (Ext.new f3)
        · exact (g3 t ht).ext (Ext.new f3)
    | lo x y =>
      obtain ⟨b, b2, tb, tb2, hq⟩ := id tr
      have hd : max x.hgt y.hgt + 1 ≤ d + 1 := hd
      have hl : (x.leaves ++ y.leaves).length ≤ 1000 := hl
      rw [List.length_append] at hl
      walk_at "rd"
      refine r_eqS ?_
      walk_at "rd"
      refine iteF' (decide_eq_false (by decide)) ?_
      walk_at "rd"
      refine r_eqS ?_
      walk_at "rd"
      refine iteF' (decide_eq_false (by decide)) ?_
      walk_at "rd"
      refine r_eqS ?_
      walk_at "rd"
      refine iteF' (decide_eq_false (by decide)) ?_
      walk_at "rd"
      refine r_eqS ?_
      walk_at "rd"
      refine iteF' (decide_eq_false (by decide)) ?_
      walk_at "rd"
      refine ⟨x, b, rfl, tb, by omega, by omega, fun L ts H1 x1 h1 h2 h3 => ?_⟩
      have hq1 := x1 _ _ hq
      walk_at "rd"
      refine ⟨y, b2, rfl, tb2.ext x1, by omega, by omega, fun L2 us H2 x2 g1 g2 g3 => ?_⟩
      have l1 : (refs ts).length = x.leaves.length := by rw [← h2]; exact (List.length_map _).trans (List.length_map _).symm
      have l2 : (refs us).length = y.leaves.length := by rw [← g2]; exact (List.length_map _).trans (List.length_map _).symm
      refine r_catL (x2 _ _ h1) g1 (by rw [l1, l2]; omega) fun L3 f3 => ?_
      refine kk L3 (ts ++ us) _ (x1.trans (x2.trans (Ext.new f3))) (by rw [upd_same]; unfold refs; rw [List.map_append]) ?_ fun t ht => ?_
      · show _ = x.leaves ++ y.leaves
        rw [← h2, ← g2]
        unfold chs
        rw [List.map_append]
      · rcases List.mem_append.mp ht with ht | ht
        · exact ((h3 t ht).ext x2).ext (Ext.new f3)
        · exact (g3 t ht).ext (Ext.new f3)
theorem ok__law_leaves (T : Txt w K mg D) : FnOk P w K mg base CX0 24 D.a__law_leaves D.d__law_leaves ["_law_tree_here"] (spLeaves 22) := ok_leavesD T 22
end
end Rk

namespace Rk
open PySem ClX Own
open L2 hiding Ext
local macro_rules | `(tactic| walk_at "side") => `(tactic| first | exact trivial | (show (0:Int) < _; first | assumption | decide | omega) | exact Or.inl ⟨by decide, by decide⟩ | exact Or.inl ⟨by omega, by omega⟩ | exact Or.inr ⟨by decide, by decide⟩ | exact ⟨by decide, by decide⟩ | exact ⟨by decide, by decide, by decide⟩ | exact ⟨by omega, by omega⟩)
local macro_rules | `(tactic| walk_at "rd") => `(tactic| repeat (with_reducible first | refine r_next ?_ | refine r_ret ?_ | refine r_seq ?_ | refine r_asg ?_ | refine r_drop ?_ | refine r_call ?_ | refine r_cons ?_ | refine r_nil ?_ | refine r_cb ?_ | refine r_op ?_ | refine r_sset ?_ | refine r_var (by with_unfolding_all rfl) ?_ | refine r_c ?_ | refine r_name ?_ | refine r_I0 ?_ | (refine r_I ?_ ?_; focus (with_unfolding_all walk_at "side")) | refine r_un ?_ | refine r_U ?_ | refine r_if ?_ | refine r_ifE ?_ | refine r_test ?_ | refine r_B ?_ | refine r_bl ?_ | refine r_not ?_ | refine r_and ?_ | refine r_or ?_ | refine r_andV ?_ | refine r_orV ?_ | refine r_notV ?_ | refine r_eqI ?_ | refine r_neI ?_ | refine r_tup ?_ | refine r_lst ?_ | refine r_sub ?_ | refine r_intI ?_ | refine r_intB ?_ | refine r_abs ?_ | refine r_max ?_ | refine r_ixL (SqL.of (by assumption)) (by with_unfolding_all rfl) ?_ | refine r_ixT (SqT.of (by assumption)) (by with_unfolding_all rfl) ?_ | refine r_ixQL (by assumption) (by with_unfolding_all rfl) ?_ | refine r_ixQT (by assumption) (by with_unfolding_all rfl) ?_ | refine r_ckw ?_ | refine r_callN ?_ | refine r_makeS ?_ | refine r_make ?_ | refine r_makeK ?_ | refine r_methA ?_ | refine r_pcons ?_ | refine r_pnil ?_ | refine r_dget ?_ | refine r_isN ?_ | refine r_notN ?_ | refine r_fld ?_ | refine r_sfld ?_ | refine r_lenL (SqL.of (by assumption)) ?_ | refine r_lenT (SqT.of (by assumption)) ?_ | refine r_callS ?_ | refine r_cutnx ?_ | refine r_cutrt ?_ | refine r_chain ?_ | refine r_yes ?_ | refine iteT ?_ | refine iteF ?_ | refine iteNF ?_ | refine iteNT ?_ | refine r_truth ?_ | refine r_truI ?_ | refine r_sliceV ?_ | refine r_for ?_ | refine r_rng1 ?_ | (refine r_i1 ?_ ?_; focus (with_unfolding_all walk_at "side"))))
section
variable {P : Program} {w : World} {K : PySem.W.Frag} {mg : Str → Option Value} {base : Heap} {D : Ad}
def spAllFit (d : Nat) : Sp := fun vs H Q _ => ∃ (c : Ch) (q : Addr), vs = [.ref q] ∧ TrAt H c q ∧ c.okS ∧ c.hgt ≤ d ∧ c.hgt ≤ 21 ∧ ∀ b H', Ext H H' → (b = true → c.good) → Q (.bl b) H'
theorem ok_allfitD (T : Txt w K mg D) : ∀ d, FnOk P w K mg base CX0 (d + 24) D.a__law_all_fit D.d__law_all_fit ["_law_tree_here"] (spAllFit d)
  | 0 => by
    have no : ∀ {vs : List V} {H : Hp} {Q : VK} {E : XK}, ¬ spAllFit 0 vs H Q E := fun ⟨c, _, _, _, _, hd, _⟩ => by
      have := Ch.hgt_pos c
      omega
    exact ⟨fun _ _ _ _ h => (no h).elim, fun _ _ _ _ _ _ _ _ _ _ _ _ _ h => (no h).elim⟩
  | d + 1 => by
    have ih := ok_allfitD T d
    refine T.F__law_all_fit.ok (k := d + 24) sc__law_all_fit (fun vs H Q E h => ?_) (fun cdv A outer s H vs Q E hr h => ?_)
    · obtain ⟨c, q, rfl, _⟩ := h
      rfl
    obtain ⟨c, q, rfl, tr, ok, hd, hd2, kk⟩ := h
    refine ⟨_, (pss_cons (ps_if (pt_not (pt_val (pe_call (ok__law_fits T) (hr.mono (by omega)) (by rfl) T.g__law_fits T.F__law_fits.kp T.b__law_fits .nil pass0 (pa_cons (pv 0) (pa_cons pe_int (pa_cons pe_int pa_nil))))))
    (pss_one (ps_ret pe_bl))
    pss_nil)
  (pss_cons (ps_if (pt_cmpR op_eq (pe_ix (ix_seqC K) (pv 0) pe_int (fun _ _ => rfl)) pe_str (nomark _))
    (pss_one (ps_ret pe_bl))
    pss_nil)
  (pss_cons (ps_if (pt_not (pt_val (pe_call ih (hr.mono (by omega)) (by rfl) T.g__law_all_fit T.F__law_all_fit.kp T.b__law_all_fit .nil pass0 (pa_cons (pe_ix (ix_seqC K) (pv 0) pe_int (fun _ _ => rfl)) pa_nil))))
    (pss_one (ps_ret pe_bl))
    pss_nil)
  (pss_one (ps_ret (pe_or (pe_cmpR (op_inC K) (pe_ix (ix_seqC K) (pv 0) pe_int (fun _ _ => rfl)) (pe_tup (pa_cons pe_str (pa_cons pe_str (pa_cons pe_str pa_nil)))) (by rfl)) (pe_one (pe_call ih (hr.mono (by omega)) (by rfl) T.g__law_all_fit T.F__law_all_fit.kp T.b__law_all_fit .nil pass0 (pa_cons (pe_ix (ix_seqC K) (pv 0) pe_int (fun _ _ => rfl)) pa_nil))))))))), ?_⟩
    walk_at "rd"
    refine ⟨c, q, 6, 3, rfl, tr, ok, hd2, fun H1 x1 => ?_⟩
    walk_at "rd"
    refine iteND (fun hf => ?_) (fun hf => ?_)
    · walk_at "rd"
      exact kk false _ x1 fun z => by cases z
    have l := hf.lim (by decide) (by decide)
    cases c with
    | sw ns k own es ys =>
      obtain ⟨t, hq, ht⟩ := id (tr.ext x1)
      walk_at "rd"
      refine r_eqS ?_
      walk_at "rd"
      refine iteT' (decide_eq_true rfl) ?_
      walk_at "rd"
      exact kk true _ x1 fun _ => ⟨ok, l⟩
    | tu x =>
      obtain ⟨b, tb, hq⟩ := id (tr.ext x1)
      have hd : x.hgt ≤ d := Nat.le_of_succ_le_succ hd
      have hd2 : x.hgt + 1 ≤ 21 := hd2
      walk_at "rd"
      refine r_eqS ?_
      walk_at "rd"
      refine iteF' (decide_eq_false (by decide)) ?_
      walk_at "rd"
      refine ⟨x, b, rfl, tb, ok, hd, by omega, fun b2 H2 x2 h3 => ?_⟩
      have hq2 := x2 _ _ hq
      walk_at "rd"
      cases b2 with
      | false =>
        walk_at "rd"
        exact kk false _ (x1.trans x2) fun z => by cases z
      | true =>
        walk_at "rd"
        refine r_size (by show 3 ≤ 1000; decide) fun t ft => ?_
        refine ⟨t, _, rfl, .inr (SqT.of upd_same), rfl, rfl, ?_⟩
        rw [if_neg (by decide), show inV (.str "turned") [.str "turned", .str "mirrored", .str "times"] = true by decide +kernel]
        walk_at "rd"
        exact kk true _ (x1.trans (x2.trans (Ext.new ft))) fun _ => ⟨h3 rfl, l⟩
    | mi x =>
      obtain ⟨b, tb, hq⟩ := id (tr.ext x1)
      have hd : x.hgt ≤ d := Nat.le_of_succ_le_succ hd
      have hd2 : x.hgt + 1 ≤ 21 := hd2
      walk_at "rd"
      refine r_eqS ?_
      walk_at "rd"
      refine iteF' (decide_eq_false (by decide)) ?_
      walk_at "rd"
      refine ⟨x, b, rfl, tb, ok, hd, by omega, fun b2 H2 x2 h3 => ?_⟩
      have hq2 := x2 _ _ hq
      walk_at "rd"
      cases b2 with
      | false =>
        walk_at "rd"
        exact kk false _ (x1.trans x2) fun z => by cases z
      | true =>
        walk_at "rd"
        refine r_size (by show 3 ≤ 1000; decide) fun t ft => ?_
        refine ⟨t, _, rfl, .inr (SqT.of upd_same), rfl, rfl, ?_⟩
        rw [if_neg (by decide), show inV (.str "mirrored") [.str "turned", .str "mirrored", .str "times"] = true by decide +kernel]
        walk_at "rd"
        exact kk true _ (x1.trans (x2.trans (Ext.new ft))) fun _ => ⟨h3 rfl, l⟩
    | ti n x =>
      obtain ⟨b, tb, hq⟩ := id (tr.ext x1)
      have hd : x.hgt ≤ d := Nat.le_of_succ_le_succ hd
      have hd2 : x.hgt + 1 ≤ 21 := hd2
      walk_at "rd"
      refine r_eqS ?_
      walk_at "rd"
      refine iteF' (decide_eq_false (by decide)) ?_
      walk_at "rd"
      refine ⟨x, b, rfl, tb, ok.1, hd, by omega, fun b2 H2 x2 h3 => ?_⟩
      have hq2 := x2 _ _ hq
      walk_at "rd"
      cases b2 with
      | false =>
        walk_at "rd"
        exact kk false _ (x1.trans x2) fun z => by cases z
      | true =>
        walk_at "rd"
        refine r_size (by show 3 ≤ 1000; decide) fun t ft => ?_
        refine ⟨t, _, rfl, .inr (SqT.of upd_same), rfl, rfl, ?_⟩
        rw [if_neg (by decide), show inV (.str "times") [.str "turned", .str "mirrored", .str "times"] = true by decide +kernel]
        walk_at "rd"
        exact kk true _ (x1.trans (x2.trans (Ext.new ft))) fun _ => ⟨h3 rfl, ok.2, l⟩
    | th x y =>
      obtain ⟨b, b', tb, tb', hq⟩ := id (tr.ext x1)
      have hd : max x.hgt y.hgt + 1 ≤ d + 1 := hd
      have hd2 : max x.hgt y.hgt + 1 ≤ 21 := hd2
      walk_at "rd"
      refine r_eqS ?_
      walk_at "rd"
      refine iteF' (decide_eq_false (by decide)) ?_
      walk_at "rd"
      refine ⟨x, b, rfl, tb, ok.1, by omega, by omega, fun b2 H2 x2 h3 => ?_⟩
      have hq2 := x2 _ _ hq
      walk_at "rd"
      cases b2 with
      | false =>
        walk_at "rd"
        exact kk false _ (x1.trans x2) fun z => by cases z
      | true =>
        walk_at "rd"
        refine r_size (by show 3 ≤ 1000; decide) fun t ft => ?_
        refine ⟨t, _, rfl, .inr (SqT.of upd_same), rfl, rfl, ?_⟩
        rw [if_neg (by decide), show inV (.str "then") [.str "turned", .str "mirrored", .str "times"] = false by decide +kernel]
        have hq3 := Ext.new (o := .tup [.str "turned", .str "mirrored", .str "times"]) ft _ _ hq2
        walk_at "rd"
        refine ⟨y, b', rfl, (tb'.ext x2).ext (Ext.new ft), ok.2, by omega, by omega, fun b3 H3 x3 h4 => ?_⟩
        exact kk b3 _ (x1.trans (x2.trans ((Ext.new ft).trans x3))) fun hb => ⟨h3 rfl, h4 hb, l⟩
    | hi x y =>
      obtain ⟨b, b', tb, tb', hq⟩ := id (tr.ext x1)
      have hd : max x.hgt y.hgt + 1 ≤ d + 1 := hd
      have hd2 : max x.hgt y.hgt + 1 ≤ 21 := hd2
      walk_at "rd"
      refine r_eqS ?_
      walk_at "rd"
      refine iteF' (decide_eq_false (by decide)) ?_
      walk_at "rd"
      refine ⟨x, b, rfl, tb, ok.1, by omega, by omega, fun b2 H2 x2 h3 => ?_⟩
      have hq2 := x2 _ _ hq
      walk_at "rd"
      cases b2 with
      | false =>
        walk_at "rd"
        exact kk false _ (x1.trans x2) fun z => by cases z
      | true =>
        walk_at "rd"
        refine r_size (by show 3 ≤ 1000; decide) fun t ft => ?_
        refine ⟨t, _, rfl, .inr (SqT.of upd_same), rfl, rfl, ?_⟩
        rw [if_neg (by decide), show inV (.str "higher") [.str "turned", .str "mirrored", .str "times"] = false by decide +kernel]
        have hq3 := Ext.new (o := .tup [.str "turned", .str "mirrored", .str "times"]) ft _ _ hq2
        walk_at "rd"
        refine ⟨y, b', rfl, (tb'.ext x2).ext (Ext.new ft), ok.2, by omega, by omega, fun b3 H3 x3 h4 => ?_⟩
        exact kk b3 _ (x1.trans (x2.trans ((Ext.new ft).trans x3))) fun hb => ⟨h3 rfl, h4 hb, l⟩
    | lo x y =>
      obtain ⟨b, b', tb, tb', hq⟩ := id (tr.ext x1)
      have hd : max x.hgt y.hgt + 1 ≤ d + 1 := hd
      have hd2 : max x.hgt y.hgt + 1 ≤ 21 := hd2
      walk_at "rd"
      refine r_eqS ?_
      walk_at "rd"
      refine iteF' (decide_eq_false (by decide)) ?_
      walk_at "rd"
      refine ⟨x, b, rfl, tb, ok.1, by omega, by omega, fun b2 H2 x2 h3 => ?_⟩
      have hq2 := x2 _ _ hq
      walk_at "rd"
      cases b2 with
      | false =>
        walk_at "rd"
        exact kk false _ (x1.trans x2) fun z => by cases z
      | true =>
        walk_at "rd"
        refine r_size (by show 3 ≤ 1000; decide) fun t ft => ?_
        refine ⟨t, _, rfl, .inr (SqT.of upd_same), rfl, rfl, ?_⟩
        rw [if_neg (by decide), show inV (.str "lower") [.str "turned", .str "mirrored", .str "times"] = false by decide +kernel]
        have hq3 := Ext.new (o := .tup [.str "turned", .str "mirrored", .str "times"]) ft _ _ hq2
        walk_at "rd"
        refine ⟨y, b', rfl, (tb'.ext x2).ext (Ext.new ft), ok.2, by omega, by omega, fun b3 H3 x3 h4 => ?_⟩
        exact kk b3 _ (x1.trans (x2.trans ((Ext.new ft).trans x3))) fun hb => ⟨h3 rfl, h4 hb, l⟩
theorem ok__law_all_fit (T : Txt w K mg D) : FnOk P w K mg base CX0 45 D.a__law_all_fit D.d__law_all_fit ["_law_tree_here"] (spAllFit 21) := ok_allfitD T 21
def spChanged (d : Nat) : Sp := fun vs H Q _ => ∃ (p c0 q : Addr) (c : Ch), vs = [.ref p, .ref q] ∧ Pl H p c0 ∧ TrAt (wo p H) c q ∧ c.okS ∧ c.hgt ≤ d ∧
  ∀ (c2 : Ch) (q2 : Addr) H', Pl H' p c0 → Ext (wo p H) (wo p H') → c2.okS → c2.hgt ≤ c.hgt + 1 → TrAt (wo p H') c2 q2 → Q (.ref q2) H'
theorem ok_changedD (T : Txt w K mg D) : ∀ d, FnOk P w K mg base CX0 (d + 4) D.a__law_changed D.d__law_changed ["_law_pool_here", "_law_tree_here"] (spChanged d)
  | 0 => by
    have no : ∀ {vs : List V} {H : Hp} {Q : VK} {E : XK}, ¬ spChanged 0 vs H Q E := fun ⟨_, _, _, c, _, _, _, _, hd, _⟩ => by
      have := Ch.hgt_pos c
      omega
    exact ⟨fun _ _ _ _ h => (no h).elim, fun _ _ _ _ _ _ _ _ _ _ _ _ _ h => (no h).elim⟩
  | d + 1 => by
    have ih := ok_changedD T d
    refine T.F__law_changed.ok (k := d + 4) sc__law_changed (fun vs H Q E h => ?_) (fun cdv A outer s H vs Q E hr h => ?_)
    · obtain ⟨p, c0, q, c, rfl, _⟩ := h
      rfl
    obtain ⟨p, c0, q, c, rfl, pl, tr, ok, hd, kk⟩ := h
    refine ⟨_, (pss_cons (ps_set (i := 2) sc__law_changed.nd rfl (Or.inl rfl) (pe_call (ok__law_draw T) (hr.mono (by omega)) (by rfl) T.g__law_draw T.F__law_draw.kp T.b__law_draw .nil pass0 (pa_cons (pv 0) (pa_cons pe_int pa_nil))))
  (pss_cons (ps_if (pt_cmpR op_eq (pv 2) pe_int (nomark _))
    (pss_one (ps_ret (pe_tup (pa_cons pe_str (pa_cons (pv 1) pa_nil)))))
    pss_nil)
  (pss_cons (ps_if (pt_cmpR op_eq (pv 2) pe_int (nomark _))
    (pss_one (ps_ret (pe_tup (pa_cons pe_str (pa_cons (pv 1) pa_nil)))))
    pss_nil)
  (pss_cons (ps_if (pt_cmpR op_eq (pv 2) pe_int (nomark _))
    (pss_one (ps_ret (pe_tup (pa_cons pe_str (pa_cons (pv 1) (pa_cons pe_int pa_nil))))))
    pss_nil)
  (pss_cons (ps_if (PW.pt (pw_and (pt_cmpR op_eq (pv 2) pe_int (nomark _)) (pw_and1 (PW.pt (pw_or (pt_cmpR op_eq (pe_ix (ix_seqC K) (pv 1) pe_int (fun _ _ => rfl)) pe_str (nomark _)) (pw_or (pt_cmpR op_eq (pe_ix (ix_seqC K) (pv 1) pe_int (fun _ _ => rfl)) pe_str (nomark _)) (pw_or1 (pt_cmpR op_eq (pe_ix (ix_seqC K) (pv 1) pe_int (fun _ _ => rfl)) pe_str (nomark _)))))))))
    (pss_one (ps_ret (pe_tup (pa_cons (pe_ix (ix_seqC K) (pv 1) pe_int (fun _ _ => rfl)) (pa_cons (pe_ix (ix_seqC K) (pv 1) pe_int (fun _ _ => rfl)) (pa_cons (pe_ix (ix_seqC K) (pv 1) pe_int (fun _ _ => rfl)) pa_nil))))))
    pss_nil)
  (pss_cons (ps_if (pt_cmpR op_eq (pe_ix (ix_seqC K) (pv 1) pe_int (fun _ _ => rfl)) pe_str (nomark _))
    (pss_one (ps_ret (pe_tup (pa_cons pe_str (pa_cons (pe_ix (ix_seqC K) (pv 1) pe_int (fun _ _ => rfl)) (pa_cons (pe_ix (ix_seqC K) (pv 1) pe_int (fun _ _ => rfl)) (pa_cons (pe_ix (ix_seqC K) (pv 1) pe_int (fun _ _ => rfl)) (pa_cons (pe_ifExp (pt_cmpR op_eq (pe_ix (ix_seqC K) (pv 1) pe_int (fun _ _ => rfl)) pe_str (nomark _)) pe_str pe_str) (pa_cons (pe_ix (ix_seqC K) (pv 1) pe_int (fun _ _ => rfl)) pa_nil)))))))))
    pss_nil)
  (pss_cons (ps_if (PW.pt (pw_or (pt_cmpR op_eq (pe_ix (ix_seqC K) (pv 1) pe_int (fun _ _ => rfl)) pe_str (nomark _)) (pw_or1 (pt_cmpR op_eq (pe_ix (ix_seqC K) (pv 1) pe_int (fun _ _ => rfl)) pe_str (nomark _)))))
    (pss_one (ps_ret (pe_tup (pa_cons (pe_ix (ix_seqC K) (pv 1) pe_int (fun _ _ => rfl)) (pa_cons (pe_call ih (hr.mono (by omega)) (by rfl) T.g__law_changed T.F__law_changed.kp T.b__law_changed .nil pass0 (pa_cons (pv 0) (pa_cons (pe_ix (ix_seqC K) (pv 1) pe_int (fun _ _ => rfl)) pa_nil))) pa_nil)))))
    pss_nil)
  (pss_cons (ps_if (pt_cmpR op_eq (pe_ix (ix_seqC K) (pv 1) pe_int (fun _ _ => rfl)) pe_str (nomark _))
    (pss_one (ps_ret (pe_tup (pa_cons pe_str (pa_cons (pe_call ih (hr.mono (by omega)) (by rfl) T.g__law_changed T.F__law_changed.kp T.b__law_changed .nil pass0 (pa_cons (pv 0) (pa_cons (pe_ix (ix_seqC K) (pv 1) pe_int (fun _ _ => rfl)) pa_nil))) (pa_cons (pe_ix (ix_seqC K) (pv 1) pe_int (fun _ _ => rfl)) pa_nil))))))
    pss_nil)
  (pss_cons (ps_if (pt_cmpR op_eq (pv 2) pe_int (nomark _))
    (pss_one (ps_ret (pe_tup (pa_cons (pe_ix (ix_seqC K) (pv 1) pe_int (fun _ _ => rfl)) (pa_cons (pe_call ih (hr.mono (by omega)) (by rfl) T.g__law_changed T.F__law_changed.kp T.b__law_changed .nil pass0 (pa_cons (pv 0) (pa_cons (pe_ix (ix_seqC K) (pv 1) pe_int (fun _ _ => rfl)) pa_nil))) (pa_cons (pe_ix (ix_seqC K) (pv 1) pe_int (fun _ _ => rfl)) pa_nil))))))
    pss_nil)
  (pss_one (ps_ret (pe_tup (pa_cons (pe_ix (ix_seqC K) (pv 1) pe_int (fun _ _ => rfl)) (pa_cons (pe_ix (ix_seqC K) (pv 1) pe_int (fun _ _ => rfl)) (pa_cons (pe_call ih (hr.mono (by omega)) (by rfl) T.g__law_changed T.F__law_changed.kp T.b__law_changed .nil pass0 (pa_cons (pv 0) (pa_cons (pe_ix (ix_seqC K) (pv 1) pe_int (fun _ _ => rfl)) pa_nil))) pa_nil))))))))))))))), ?_⟩
    walk_at "rd"
    refine ⟨p, c0, _, rfl, pl, by decide, by decide +kernel, fun kd G1 k0 k1 pl1 e1 => ?_⟩
    have tr1 := tr.ext e1
    walk_at "rd"
    refine iteD (fun h0 => ?_) (fun h0 => ?_)
    · walk_at "rd"
      refine r_size (by show 2 ≤ 1000; decide) fun q2 f2 => ?_
      exact kk (.tu c) q2 _ (pl1.ext (Ext.new f2)) (e1.trans (wo_ext (Ext.new f2))) ok (Nat.le_refl _) ⟨q, tr1.ext (wo_ext (Ext.new f2)), new_wo (pl1.ne f2).1⟩
    walk_at "rd"
    refine iteD (fun h1 => ?_) (fun h1 => ?_)
    · walk_at "rd"
      refine r_size (by show 2 ≤ 1000; decide) fun q2 f2 => ?_
      exact kk (.mi c) q2 _ (pl1.ext (Ext.new f2)) (e1.trans (wo_ext (Ext.new f2))) ok (Nat.le_refl _) ⟨q, tr1.ext (wo_ext (Ext.new f2)), new_wo (pl1.ne f2).1⟩
    walk_at "rd"
    refine iteD (fun h2 => ?_) (fun h2 => ?_)
    · walk_at "rd"
      refine r_size (by show 3 ≤ 1000; decide) fun q2 f2 => ?_
      exact kk (.ti 1 c) q2 _ (pl1.ext (Ext.new f2)) (e1.trans (wo_ext (Ext.new f2))) ⟨ok, by decide⟩ (Nat.le_refl _) ⟨q, tr1.ext (wo_ext (Ext.new f2)), new_wo (pl1.ne f2).1⟩
    cases c with
    | sw ns k own es ys =>
      obtain ⟨t, hq, ht⟩ := id tr1
      have hq1 := wo_back _ _ hq
      have g : GoodS ns k own es ys := ok
      walk_at "rd"
      refine iteD (fun h3 => ?_) (fun h3 => ?_)
      · walk_at "rd"
        refine r_eqS ?_
        walk_at "rd"
        refine iteF' (decide_eq_false (by decide)) ?_
        walk_at "rd"
        refine r_eqS ?_
        walk_at "rd"
        refine iteF' (decide_eq_false (by decide)) ?_
        walk_at "rd"
        refine r_eqS ?_
        walk_at "rd"
        refine iteF' (decide_eq_false (by decide)) ?_
        walk_at "rd"
        refine r_eqS ?_
        walk_at "rd"
        refine iteT' (decide_eq_true rfl) ?_
        walk_at "rd"
        refine r_eqS ?_
        walk_at "rd"
        refine iteD (fun h4 => ?_) (fun h4 => ?_)
        · walk_at "rd"
          refine r_size (by show 6 ≤ 1000; decide) fun q2 f2 => ?_
          have g2 : GoodS ns k own "cut" ys := ⟨g.l1, g.l7, g.w03, g.sum, g.k1, g.k2, g.o0, g.o1, .inr rfl, g.ys⟩
          exact kk (.sw ns k own "cut" ys) q2 _ (pl1.ext (Ext.new f2)) (e1.trans (wo_ext (Ext.new f2))) g2 (by show 1 ≤ 1 + 1; decide) ⟨t, new_wo (pl1.ne f2).1, (wo_ext (Ext.new f2)) _ _ ht⟩
        · walk_at "rd"
          refine r_size (by show 6 ≤ 1000; decide) fun q2 f2 => ?_
          have g2 : GoodS ns k own "held" ys := ⟨g.l1, g.l7, g.w03, g.sum, g.k1, g.k2, g.o0, g.o1, .inl rfl, g.ys⟩
          exact kk (.sw ns k own "held" ys) q2 _ (pl1.ext (Ext.new f2)) (e1.trans (wo_ext (Ext.new f2))) g2 (by show 1 ≤ 1 + 1; decide) ⟨t, new_wo (pl1.ne f2).1, (wo_ext (Ext.new f2)) _ _ ht⟩
      · walk_at "rd"
        refine r_eqS ?_
        walk_at "rd"
        refine iteT' (decide_eq_true rfl) ?_
        walk_at "rd"
        refine r_eqS ?_
        walk_at "rd"
        refine iteD (fun h4 => ?_) (fun h4 => ?_)
        · walk_at "rd"
          refine r_size (by show 6 ≤ 1000; decide) fun q2 f2 => ?_
          have g2 : GoodS ns k own "cut" ys := ⟨g.l1, g.l7, g.w03, g.sum, g.k1, g.k2, g.o0, g.o1, .inr rfl, g.ys⟩
          exact kk (.sw ns k own "cut" ys) q2 _ (pl1.ext (Ext.new f2)) (e1.trans (wo_ext (Ext.new f2))) g2 (by show 1 ≤ 1 + 1; decide) ⟨t, new_wo (pl1.ne f2).1, (wo_ext (Ext.new f2)) _ _ ht⟩
        · walk_at "rd"
          refine r_size (by show 6 ≤ 1000; decide) fun q2 f2 => ?_
          have g2 : GoodS ns k own "held" ys := ⟨g.l1, g.l7, g.w03, g.sum, g.k1, g.k2, g.o0, g.o1, .inl rfl, g.ys⟩
          exact kk (.sw ns k own "held" ys) q2 _ (pl1.ext (Ext.new f2)) (e1.trans (wo_ext (Ext.new f2))) g2 (by show 1 ≤ 1 + 1; decide) ⟨t, new_wo (pl1.ne f2).1, (wo_ext (Ext.new f2)) _ _ ht⟩
    | tu x =>
      obtain ⟨b, tb, hq⟩ := id tr1
      have hq1 := wo_back _ _ hq
      have hd : x.hgt ≤ d := Nat.le_of_succ_le_succ hd
      walk_at "rd"
      refine iteD (fun h3 => ?_) (fun h3 => ?_)
      · walk_at "rd"
        refine r_eqS ?_
        walk_at "rd"
        refine iteF' (decide_eq_false (by decide)) ?_
        walk_at "rd"
        refine r_eqS ?_
        walk_at "rd"
        refine iteF' (decide_eq_false (by decide)) ?_
        walk_at "rd"
        refine r_eqS ?_
        walk_at "rd"
        refine iteF' (decide_eq_false (by decide)) ?_
        walk_at "rd"
        refine r_eqS ?_
        walk_at "rd"
        refine iteF' (decide_eq_false (by decide)) ?_
        walk_at "rd"
        refine r_eqS ?_
        walk_at "rd"
        refine iteT' (decide_eq_true rfl) ?_
        walk_at "rd"
        refine ⟨p, c0, b, x, rfl, pl1, tb, ok, hd, fun c2 q2 G2 pl2 e2 ok2 hg2 tr2 => ?_⟩
        have hq2 := wo_back _ _ (e2 _ _ hq)
        walk_at "rd"
        refine r_size (by show 2 ≤ 1000; decide) fun q3 f3 => ?_
        exact kk (.tu c2) q3 _ (pl2.ext (Ext.new f3)) (e1.trans (e2.trans (wo_ext (Ext.new f3)))) ok2 (Nat.succ_le_succ hg2) ⟨q2, tr2.ext (wo_ext (Ext.new f3)), new_wo (pl2.ne f3).1⟩
      · walk_at "rd"
        refine r_eqS ?_
        walk_at "rd"
        refine iteF' (decide_eq_false (by decide)) ?_
        walk_at "rd"
        refine r_eqS ?_
        walk_at "rd"
        refine iteT' (decide_eq_true rfl) ?_
        walk_at "rd"
        refine ⟨p, c0, b, x, rfl, pl1, tb, ok, hd, fun c2 q2 G2 pl2 e2 ok2 hg2 tr2 => ?_⟩
        have hq2 := wo_back _ _ (e2 _ _ hq)
        walk_at "rd"
        refine r_size (by show 2 ≤ 1000; decide) fun q3 f3 => ?_
        exact kk (.tu c2) q3 _ (pl2.ext (Ext.new f3)) (e1.trans (e2.trans (wo_ext (Ext.new f3)))) ok2 (Nat.succ_le_succ hg2) ⟨q2, tr2.ext (wo_ext (Ext.new f3)), new_wo (pl2.ne f3).1⟩
    | mi x =>
      obtain ⟨b, tb, hq⟩ := id tr1
      have hq1 := wo_back _ _ hq
      have hd : x.hgt ≤ d := Nat.le_of_succ_le_succ hd
      walk_at "rd"
      refine iteD (fun h3 => ?_) (fun h3 => ?_)
      · walk_at "rd"
        refine r_eqS ?_
        walk_at "rd"
        refine iteF' (decide_eq_false (by decide)) ?_
        walk_at "rd"
        refine r_eqS ?_
        walk_at "rd"
        refine iteF' (decide_eq_false (by decide)) ?_
        walk_at "rd"
        refine r_eqS ?_
        walk_at "rd"
        refine iteF' (decide_eq_false (by decide)) ?_
        walk_at "rd"
        refine r_eqS ?_
        walk_at "rd"
        refine iteF' (decide_eq_false (by decide)) ?_
        walk_at "rd"
        refine r_eqS ?_
        walk_at "rd"
        refine iteF' (decide_eq_false (by decide)) ?_
        walk_at "rd"
        refine r_eqS ?_
        walk_at "rd"
        refine iteT' (decide_eq_true rfl) ?_
        walk_at "rd"
        refine ⟨p, c0, b, x, rfl, pl1, tb, ok, hd, fun c2 q2 G2 pl2 e2 ok2 hg2 tr2 => ?_⟩
        have hq2 := wo_back _ _ (e2 _ _ hq)
        walk_at "rd"
        refine r_size (by show 2 ≤ 1000; decide) fun q3 f3 => ?_
        exact kk (.mi c2) q3 _ (pl2.ext (Ext.new f3)) (e1.trans (e2.trans (wo_ext (Ext.new f3)))) ok2 (Nat.succ_le_succ hg2) ⟨q2, tr2.ext (wo_ext (Ext.new f3)), new_wo (pl2.ne f3).1⟩
      · walk_at "rd"
        refine r_eqS ?_
        walk_at "rd"
        refine iteF' (decide_eq_false (by decide)) ?_
        walk_at "rd"
        refine r_eqS ?_
        walk_at "rd"
        refine iteF' (decide_eq_false (by decide)) ?_
        walk_at "rd"
        refine r_eqS ?_
        walk_at "rd"
        refine iteT' (decide_eq_true rfl) ?_
        walk_at "rd"
        refine ⟨p, c0, b, x, rfl, pl1, tb, ok, hd, fun c2 q2 G2 pl2 e2 ok2 hg2 tr2 => ?_⟩
        have hq2 := wo_back _ _ (e2 _ _ hq)
        walk_at "rd"
        refine r_size (by show 2 ≤ 1000; decide) fun q3 f3 => ?_
        exact kk (.mi c2) q3 _ (pl2.ext (Ext.new f3)) (e1.trans (e2.trans (wo_ext (Ext.new f3)))) ok2 (Nat.succ_le_succ hg2) ⟨q2, tr2.ext (wo_ext (Ext.new f3)), new_wo (pl2.ne f3).1⟩
    | ti n x =>
      obtain ⟨b, tb, hq⟩ := id tr1
      have hq1 := wo_back _ _ hq
      have hd : x.hgt ≤ d := Nat.le_of_succ_le_succ hd
      walk_at "rd"
      refine iteD (fun h3 => ?_) (fun h3 => ?_)
      · walk_at "rd"
        refine r_eqS ?_
        walk_at "rd"
        refine iteF' (decide_eq_false (by decide)) ?_
        walk_at "rd"
        refine r_eqS ?_
        walk_at "rd"
        refine iteF' (decide_eq_false (by decide)) ?_
        walk_at "rd"
        refine r_eqS ?_
        walk_at "rd"
        refine iteF' (decide_eq_false (by decide)) ?_
        walk_at "rd"
        refine r_eqS ?_
        walk_at "rd"
        refine iteF' (decide_eq_false (by decide)) ?_
        walk_at "rd"
        refine r_eqS ?_
        walk_at "rd"
        refine iteF' (decide_eq_false (by decide)) ?_
        walk_at "rd"
        refine r_eqS ?_
        walk_at "rd"
        refine iteF' (decide_eq_false (by decide)) ?_
        walk_at "rd"
        refine r_eqS ?_
        walk_at "rd"
        refine iteT' (decide_eq_true rfl) ?_
        walk_at "rd"
        refine ⟨p, c0, b, x, rfl, pl1, tb, ok.1, hd, fun c2 q2 G2 pl2 e2 ok2 hg2 tr2 => ?_⟩
        have hq2 := wo_back _ _ (e2 _ _ hq)
        walk_at "rd"
        refine r_size (by show 3 ≤ 1000; decide) fun q3 f3 => ?_
        exact kk (.ti n c2) q3 _ (pl2.ext (Ext.new f3)) (e1.trans (e2.trans (wo_ext (Ext.new f3)))) ⟨ok2, ok.2⟩ (Nat.succ_le_succ hg2) ⟨q2, tr2.ext (wo_ext (Ext.new f3)), new_wo (pl2.ne f3).1⟩
      · walk_at "rd"
        refine r_eqS ?_
        walk_at "rd"
        refine iteF' (decide_eq_false (by decide)) ?_
        walk_at "rd"
        refine r_eqS ?_
        walk_at "rd"
        refine iteF' (decide_eq_false (by decide)) ?_
        walk_at "rd"
        refine r_eqS ?_
        walk_at "rd"
        refine iteF' (decide_eq_false (by decide)) ?_
        walk_at "rd"
        refine r_eqS ?_
        walk_at "rd"
        refine iteT' (decide_eq_true rfl) ?_
        walk_at "rd"
        refine ⟨p, c0, b, x, rfl, pl1, tb, ok.1, hd, fun c2 q2 G2 pl2 e2 ok2 hg2 tr2 => ?_⟩
        have hq2 := wo_back _ _ (e2 _ _ hq)
        walk_at "rd"
        refine r_size (by show 3 ≤ 1000; decide) fun q3 f3 => ?_
        exact kk (.ti n c2) q3 _ (pl2.ext (Ext.new f3)) (e1.trans (e2.trans (wo_ext (Ext.new f3)))) ⟨ok2, ok.2⟩ (Nat.succ_le_succ hg2) ⟨q2, tr2.ext (wo_ext (Ext.new f3)), new_wo (pl2.ne f3).1⟩
    | th x y =>
      obtain ⟨b, b', tb, tb', hq⟩ := id tr1
      have hq1 := wo_back _ _ hq
      have hd : max x.hgt y.hgt + 1 ≤ d + 1 := hd
      walk_at "rd"
      refine iteD (fun h3 => ?_) (fun h3 => ?_)
      · walk_at "rd"
        refine r_eqS ?_
        walk_at "rd"
        refine iteT' (decide_eq_true rfl) ?_
        walk_at "rd"
        refine r_size (by show 3 ≤ 1000; decide) fun q2 f2 => ?_
        exact kk (.th y x) q2 _ (pl1.ext (Ext.new f2)) (e1.trans (wo_ext (Ext.new f2))) ⟨ok.2, ok.1⟩ (by show max y.hgt x.hgt + 1 ≤ (max x.hgt y.hgt + 1) + 1; omega) ⟨b', b, tb'.ext (wo_ext (Ext.new f2)), tb.ext (wo_ext (Ext.new f2)), new_wo (pl1.ne f2).1⟩
      · walk_at "rd"
        refine r_eqS ?_
        walk_at "rd"
        refine iteF' (decide_eq_false (by decide)) ?_
        walk_at "rd"
        refine r_eqS ?_
        walk_at "rd"
        refine iteF' (decide_eq_false (by decide)) ?_
        walk_at "rd"
        refine r_eqS ?_
        walk_at "rd"
        refine iteF' (decide_eq_false (by decide)) ?_
        walk_at "rd"
        refine r_eqS ?_
        walk_at "rd"
        refine iteF' (decide_eq_false (by decide)) ?_
        walk_at "rd"
        refine iteD (fun h4 => ?_) (fun h4 => ?_)
        · walk_at "rd"
          refine ⟨p, c0, b, x, rfl, pl1, tb, ok.1, by omega, fun c2 q2 G2 pl2 e2 ok2 hg2 tr2 => ?_⟩
          have hq2 := wo_back _ _ (e2 _ _ hq)
          walk_at "rd"
          refine r_size (by show 3 ≤ 1000; decide) fun q3 f3 => ?_
          exact kk (.th c2 y) q3 _ (pl2.ext (Ext.new f3)) (e1.trans (e2.trans (wo_ext (Ext.new f3)))) ⟨ok2, ok.2⟩ (by show max c2.hgt y.hgt + 1 ≤ (max x.hgt y.hgt + 1) + 1; omega) ⟨q2, b', tr2.ext (wo_ext (Ext.new f3)), (tb'.ext e2).ext (wo_ext (Ext.new f3)), new_wo (pl2.ne f3).1⟩
        · walk_at "rd"
          refine ⟨p, c0, b', y, rfl, pl1, tb', ok.2, by omega, fun c2 q2 G2 pl2 e2 ok2 hg2 tr2 => ?_⟩
          have hq2 := wo_back _ _ (e2 _ _ hq)
          walk_at "rd"
          refine r_size (by show 3 ≤ 1000; decide) fun q3 f3 => ?_
          exact kk (.th x c2) q3 _ (pl2.ext (Ext.new f3)) (e1.trans (e2.trans (wo_ext (Ext.new f3)))) ⟨ok.1, ok2⟩ (by show max x.hgt c2.hgt + 1 ≤ (max x.hgt y.hgt + 1) + 1; omega) ⟨b, q2, (tb.ext e2).ext (wo_ext (Ext.new f3)), tr2.ext (wo_ext (Ext.new f3)), new_wo (pl2.ne f3).1⟩
    | hi x y =>
      obtain ⟨b, b', tb, tb', hq⟩ := id tr1
      have hq1 := wo_back _ _ hq
      have hd : max x.hgt y.hgt + 1 ≤ d + 1 := hd
      walk_at "rd"
      refine iteD (fun h3 => ?_) (fun h3 => ?_)
      · walk_at "rd"
        refine r_eqS ?_
        walk_at "rd"
        refine iteF' (decide_eq_false (by decide)) ?_
        walk_at "rd"
        refine r_eqS ?_
        walk_at "rd"
        refine iteT' (decide_eq_true rfl) ?_
        walk_at "rd"
        refine r_size (by show 3 ≤ 1000; decide) fun q2 f2 => ?_
        exact kk (.hi y x) q2 _ (pl1.ext (Ext.new f2)) (e1.trans (wo_ext (Ext.new f2))) ⟨ok.2, ok.1⟩ (by show max y.hgt x.hgt + 1 ≤ (max x.hgt y.hgt + 1) + 1; omega) ⟨b', b, tb'.ext (wo_ext (Ext.new f2)), tb.ext (wo_ext (Ext.new f2)), new_wo (pl1.ne f2).1⟩
      · walk_at "rd"
        refine r_eqS ?_
        walk_at "rd"
        refine iteF' (decide_eq_false (by decide)) ?_
        walk_at "rd"
        refine r_eqS ?_
        walk_at "rd"
        refine iteF' (decide_eq_false (by decide)) ?_
        walk_at "rd"
        refine r_eqS ?_
        walk_at "rd"
        refine iteF' (decide_eq_false (by decide)) ?_
        walk_at "rd"
        refine r_eqS ?_
        walk_at "rd"
        refine iteF' (decide_eq_false (by decide)) ?_
        walk_at "rd"
        refine iteD (fun h4 => ?_) (fun h4 => ?_)
        · walk_at "rd"
          refine ⟨p, c0, b, x, rfl, pl1, tb, ok.1, by omega, fun c2 q2 G2 pl2 e2 ok2 hg2 tr2 => ?_⟩
          have hq2 := wo_back _ _ (e2 _ _ hq)
          walk_at "rd"
          refine r_size (by show 3 ≤ 1000; decide) fun q3 f3 => ?_
          exact kk (.hi c2 y) q3 _ (pl2.ext (Ext.new f3)) (e1.trans (e2.trans (wo_ext (Ext.new f3)))) ⟨ok2, ok.2⟩ (by show max c2.hgt y.hgt + 1 ≤ (max x.hgt y.hgt + 1) + 1; omega) ⟨q2, b', tr2.ext (wo_ext (Ext.new f3)), (tb'.ext e2).ext (wo_ext (Ext.new f3)), new_wo (pl2.ne f3).1⟩
        · walk_at "rd"
          refine ⟨p, c0, b', y, rfl, pl1, tb', ok.2, by omega, fun c2 q2 G2 pl2 e2 ok2 hg2 tr2 => ?_⟩
          have hq2 := wo_back _ _ (e2 _ _ hq)
          walk_at "rd"
          refine r_size (by show 3 ≤ 1000; decide) fun q3 f3 => ?_
          exact kk (.hi x c2) q3 _ (pl2.ext (Ext.new f3)) (e1.trans (e2.trans (wo_ext (Ext.new f3)))) ⟨ok.1, ok2⟩ (by show max x.hgt c2.hgt + 1 ≤ (max x.hgt y.hgt + 1) + 1; omega) ⟨b, q2, (tb.ext e2).ext (wo_ext (Ext.new f3)), tr2.ext (wo_ext (Ext.new f3)), new_wo (pl2.ne f3).1⟩
    | lo x y =>
      obtain ⟨b, b', tb, tb', hq⟩ := id tr1
      have hq1 := wo_back _ _ hq
      have hd : max x.hgt y.hgt + 1 ≤ d + 1 := hd
      walk_at "rd"
      refine iteD (fun h3 => ?_) (fun h3 => ?_)
      · walk_at "rd"
        refine r_eqS ?_
        walk_at "rd"
        refine iteF' (decide_eq_false (by decide)) ?_
        walk_at "rd"
        refine r_eqS ?_
        walk_at "rd"
        refine iteF' (decide_eq_false (by decide)) ?_
        walk_at "rd"
        refine r_eqS ?_
        walk_at "rd"
        refine iteT' (decide_eq_true rfl) ?_
        walk_at "rd"
        refine r_size (by show 3 ≤ 1000; decide) fun q2 f2 => ?_
        exact kk (.lo y x) q2 _ (pl1.ext (Ext.new f2)) (e1.trans (wo_ext (Ext.new f2))) ⟨ok.2, ok.1⟩ (by show max y.hgt x.hgt + 1 ≤ (max x.hgt y.hgt + 1) + 1; omega) ⟨b', b, tb'.ext (wo_ext (Ext.new f2)), tb.ext (wo_ext (Ext.new f2)), new_wo (pl1.ne f2).1⟩
      · walk_at "rd"
        refine r_eqS ?_
        walk_at "rd"
        refine iteF' (decide_eq_false (by decide)) ?_
        walk_at "rd"
        refine r_eqS ?_
        walk_at "rd"
        refine iteF' (decide_eq_false (by decide)) ?_
        walk_at "rd"
        refine r_eqS ?_
        walk_at "rd"
        refine iteF' (decide_eq_false (by decide)) ?_
        walk_at "rd"
        refine r_eqS ?_
        walk_at "rd"
        refine iteF' (decide_eq_false (by decide)) ?_
        walk_at "rd"
        refine iteD (fun h4 => ?_) (fun h4 => ?_)
        · walk_at "rd"
          refine ⟨p, c0, b, x, rfl, pl1, tb, ok.1, by omega, fun c2 q2 G2 pl2 e2 ok2 hg2 tr2 => ?_⟩
          have hq2 := wo_back _ _ (e2 _ _ hq)
          walk_at "rd"
          refine r_size (by show 3 ≤ 1000; decide) fun q3 f3 => ?_
          exact kk (.lo c2 y) q3 _ (pl2.ext (Ext.new f3)) (e1.trans (e2.trans (wo_ext (Ext.new f3)))) ⟨ok2, ok.2⟩ (by show max c2.hgt y.hgt + 1 ≤ (max x.hgt y.hgt + 1) + 1; omega) ⟨q2, b', tr2.ext (wo_ext (Ext.new f3)), (tb'.ext e2).ext (wo_ext (Ext.new f3)), new_wo (pl2.ne f3).1⟩
        · walk_at "rd"
          refine ⟨p, c0, b', y, rfl, pl1, tb', ok.2, by omega, fun c2 q2 G2 pl2 e2 ok2 hg2 tr2 => ?_⟩
          have hq2 := wo_back _ _ (e2 _ _ hq)
          walk_at "rd"
          refine r_size (by show 3 ≤ 1000; decide) fun q3 f3 => ?_
          exact kk (.lo x c2) q3 _ (pl2.ext (Ext.new f3)) (e1.trans (e2.trans (wo_ext (Ext.new f3)))) ⟨ok.1, ok2⟩ (by show max x.hgt c2.hgt + 1 ≤ (max x.hgt y.hgt + 1) + 1; omega) ⟨b, q2, (tb.ext e2).ext (wo_ext (Ext.new f3)), tr2.ext (wo_ext (Ext.new f3)), new_wo (pl2.ne f3).1⟩
theorem ok__law_changed (T : Txt w K mg D) : FnOk P w K mg base CX0 25 D.a__law_changed D.d__law_changed ["_law_pool_here", "_law_tree_here"] (spChanged 21) := ok_changedD T 21
end
end Rk

namespace Rk
open PySem ClX Own
open L2 hiding Ext
local macro_rules | `(tactic| walk_at "side") => `(tactic| first | exact trivial | (show (0:Int) < _; first | assumption | decide | omega) | exact Or.inl ⟨by decide, by decide⟩ | exact Or.inl ⟨by omega, by omega⟩ | exact Or.inr ⟨by decide, by decide⟩ | exact ⟨by decide, by decide⟩ | exact ⟨by decide, by decide, by decide⟩ | exact ⟨by omega, by omega⟩)
local macro_rules | `(tactic| walk_at "rd") => `(tactic| repeat (with_reducible first | refine r_next ?_ | refine r_ret ?_ | refine r_seq ?_ | refine r_asg ?_ | refine r_drop ?_ | refine r_call ?_ | refine r_cons ?_ | refine r_nil ?_ | refine r_cb ?_ | refine r_op ?_ | refine r_sset ?_ | refine r_var (by with_unfolding_all rfl) ?_ | refine r_c ?_ | refine r_name ?_ | refine r_I0 ?_ | (refine r_I ?_ ?_; focus (with_unfolding_all walk_at "side")) | refine r_un ?_ | refine r_U ?_ | refine r_if ?_ | refine r_ifE ?_ | refine r_test ?_ | refine r_B ?_ | refine r_bl ?_ | refine r_not ?_ | refine r_and ?_ | refine r_or ?_ | refine r_andV ?_ | refine r_orV ?_ | refine r_notV ?_ | refine r_eqI ?_ | refine r_neI ?_ | refine r_tup ?_ | refine r_lst ?_ | refine r_sub ?_ | refine r_intI ?_ | refine r_intB ?_ | refine r_abs ?_ | refine r_max ?_ | refine r_ixL (SqL.of (by assumption)) (by with_unfolding_all rfl) ?_ | refine r_ixT (SqT.of (by assumption)) (by with_unfolding_all rfl) ?_ | refine r_ixQL (by assumption) (by with_unfolding_all rfl) ?_ | refine r_ixQT (by assumption) (by with_unfolding_all rfl) ?_ | refine r_ckw ?_ | refine r_callN ?_ | refine r_makeS ?_ | refine r_make ?_ | refine r_makeK ?_ | refine r_methA ?_ | refine r_pcons ?_ | refine r_pnil ?_ | refine r_dget ?_ | refine r_isN ?_ | refine r_notN ?_ | refine r_fld ?_ | refine r_sfld ?_ | refine r_lenL (SqL.of (by assumption)) ?_ | refine r_lenT (SqT.of (by assumption)) ?_ | refine r_callS ?_ | refine r_cutnx ?_ | refine r_cutrt ?_ | refine r_chain ?_ | refine r_yes ?_ | refine iteT ?_ | refine iteF ?_ | refine iteNF ?_ | refine iteNT ?_ | refine r_truth ?_ | refine r_truI ?_ | refine r_sliceV ?_ | refine r_for ?_ | refine r_rng1 ?_ | (refine r_i1 ?_ ?_; focus (with_unfolding_all walk_at "side"))))
section
variable {P : Program} {w : World} {K : PySem.W.Frag} {mg : Str → Option Value} {base : Heap} {D : Ad}
def spPower (D : Ad) : Sp := fun vs H Q _ => ∃ (c : Ch) (a : Addr) (wd : Bool), vs = [.ref a, .bl wd] ∧ ChAt D.c_Sweep D.c_Chain H c a ∧ c.good ∧ ∀ H', Ext H H' → Q (.str "times") H'
theorem ok__law_power (T : Txt w K mg D) : FnOk P w K mg base CX0 10 D.a__law_power D.d__law_power ["_law_chain", "_law_wide"] (spPower D) := by
  refine T.F__law_power.ok sc__law_power (fun vs H Q E h => ?_) (fun cdv A outer s H vs Q E hr h => ?_)
  · obtain ⟨c, a, wd, rfl, _⟩ := h
    rfl
  · obtain ⟨c, a, wd, rfl, hc, g, kk⟩ := h
    obtain ⟨X, dx, pt, rt, fs, f⟩ := hc.flds (fine_Sweep T) (fine_Chain T)
    refine ⟨_, (pss_cons (ps_set (i := 2) sc__law_power.nd rfl (Or.inl rfl) pe_str)
  (pss_cons (ps_try_names rfl rfl sc__law_power.nd takes0 (fun W pn xe tk _ => (pss_one (ps_if (pt_val (pv 1))
      (pss_one (ps_set (i := 2) sc__law_power.nd rfl (Or.inl rfl) (pe_callTy call_str_int (by rfl) T.n_str (by decide +kernel) (pa_cons (pe_fldC K (pe_powI K (ok_Chain__pow__ T) (hr.mono (by decide)) T.b_Chain__pow__ (fun σ => passAt tk σ) (pv 0) pe_int)) pa_nil))))
      (pss_one (ps_set (i := 2) sc__law_power.nd rfl (Or.inl rfl) (pe_callTy call_str_int (by rfl) T.n_str (by decide +kernel) (pa_cons (pe_fldC K (pe_powI K (ok_Chain__pow__ T) (hr.mono (by decide)) T.b_Chain__pow__ (fun σ => passAt tk σ) (pv 0) pe_int)) pa_nil)))))))
    (Clauses.more ⟨rfl, by decide, Or.inl T.g_NoNumber⟩ (i := 3) rfl rfl (fun a oe cls d pn hz hf => (pss_one (ps_set (i := 2) sc__law_power.nd rfl (Or.inl rfl) (pe_ifExp (pt_val (pe_callB (call_err_is T.e_NoNumber hz hf) (by rfl) T.n_isinstance (by decide +kernel) (pa_cons (pv 3) (pa_cons (pe_glob (v := .ref D.c_SweepError) rfl T.g_SweepError rfl) pa_nil)))) (pe_xf T.f_NoNumber T.no_NoNumber_name hz hf (pv 3)) pe_str))))
    Clauses.none))
  (pss_one (ps_ret (pv 2))))), ?_⟩
    walk_at "rd"
    cases wd with
    | true =>
      refine iteT' rfl ?_
      walk_at "rd"
      refine r_powI ?_
      walk_at "rd"
      refine ⟨a, X, dx, fs, 64, rfl, rfl, f.ins, pow_any T f.cls, c, a, _, rfl, hc, g, .int _, fun hb d H2 x2 hd2 => ?_, fun n hn h8 => ?_⟩
      · refine ⟨true, T.m_NoNumber_NoNumber, fun _ b hb => ?_, fun h => nomatch h⟩
        walk_at "rd"
        refine r_errIs T.k_NoNumber_SweepError hd2 ?_
        walk_at "rd"
        refine r_xf rfl hd2 ?_
        walk_at "rd"
        exact kk _ x2
      · have hn := int_inj hn
        omega
    | false =>
      refine iteF' rfl ?_
      walk_at "rd"
      refine r_powI ?_
      walk_at "rd"
      refine ⟨a, X, dx, fs, 9, rfl, rfl, f.ins, pow_any T f.cls, c, a, _, rfl, hc, g, .int _, fun hb d H2 x2 hd2 => ?_, fun n hn h8 => ?_⟩
      · refine ⟨true, T.m_NoNumber_NoNumber, fun _ b hb => ?_, fun h => nomatch h⟩
        walk_at "rd"
        refine r_errIs T.k_NoNumber_SweepError hd2 ?_
        walk_at "rd"
        refine r_xf rfl hd2 ?_
        walk_at "rd"
        exact kk _ x2
      · have hn := int_inj hn
        omega
def spListed (D : Ad) : Sp := fun vs H Q _ => ∃ (c : Ch) (a q : Addr), vs = [.ref a, .ref q] ∧ ChAt D.c_Sweep D.c_Chain H c a ∧ TrAt H c q ∧ c.good ∧ c.leaves.length ≤ 1000 ∧ ∀ H', Ext H H' → Q (.bl true) H'
theorem ok__law_listed (T : Txt w K mg D) : FnOk P w K mg base CX0 50 D.a__law_listed D.d__law_listed ["_law_chain", "_law_tree_here"] (spListed D) := by
  refine T.F__law_listed.ok sc__law_listed (fun vs H Q E h => ?_) (fun cdv A outer s H vs Q E hr h => ?_)
  · obtain ⟨c, a, q, rfl, _⟩ := h
    rfl
  · obtain ⟨c, a, q, rfl, hc, tr, g, hl, kk⟩ := h
    have hg := g.hgt
    refine ⟨_, (pss_cons (ps_set (i := 2) sc__law_listed.nd rfl (Or.inl rfl) (pe_call (ok__law_leaves T) (hr.mono (by decide)) (by rfl) T.g__law_leaves T.F__law_leaves.kp T.b__law_leaves .nil pass0 (pa_cons (pv 1) pa_nil)))
  (pss_cons (ps_set (i := 3) sc__law_listed.nd rfl (Or.inl rfl) (pe_methA0 K (pv 0) T.F_Chainsweeps.kp (ok_Chainsweeps T) (hr.mono (by decide)) T.b_Chainsweeps (passAll pass0)))
  (pss_cons (ps_if (PW.pt (pw_or (pt_not (pt_val (pe_callB (call_isiC K) (by rfl) T.n_isinstance (by decide +kernel) (pa_cons (pv 3) (pa_cons (pe_bltn (v := .ty "list") (by rfl) T.n_list (by decide +kernel) rfl) pa_nil))))) (pw_or1 (pt_cmpR op_ne (pe_callB (call_lenC K) (by rfl) T.n_len (by decide +kernel) (pa_cons (pv 3) pa_nil)) (pe_callB (call_lenC K) (by rfl) T.n_len (by decide +kernel) (pa_cons (pv 2) pa_nil)) (nomark _)))))
    (pss_one (ps_ret pe_bl))
    pss_nil)
  (pss_cons (ps_for PassesOwn.never rfl (pi_range1 rfl T.n_range (pa_cons (pe_callB (call_lenC K) (by rfl) T.n_len (by decide +kernel) (pa_cons (pv 2) pa_nil)) pa_nil)) (pg_name (i := 4) sc__law_listed.nd rfl (Or.inl rfl))
    (pss_one (ps_if (PW.pt (pw_or (pt_not (pt_val (pe_callB (call_isiC K) (by rfl) T.n_isinstance (by decide +kernel) (pa_cons (pe_ix (ix_seqC K) (pv 3) (pv 4) (fun _ _ => rfl)) (pa_cons (pe_glob (v := .ref D.c_Sweep) rfl T.g_Sweep rfl) pa_nil))))) (pw_or1 (pt_cmpR (op_neCh T (hr.mono (by decide))) (pe_ix (ix_seqC K) (pv 3) (pv 4) (fun _ _ => rfl)) (pe_call (ok__law_make T) (hr.mono (by decide)) (by rfl) T.g__law_make T.F__law_make.kp T.b__law_make .nil pass0 (pa_cons (pe_ix (ix_seqC K) (pv 2) (pv 4) (fun _ _ => rfl)) pa_nil)) (nomark _)))))
      (pss_one (ps_ret pe_bl))
      pss_nil)))
  (pss_cons (ps_expr (pe_bmC K PySem.F.plainAttrs_list PySem.F.slot_list_append PySem.F.type_list_append mt_append (pv 3) (pa_cons (pv 0) pa_nil)))
  (pss_one (ps_ret (pe_cmpR op_eq (pe_callB (call_lenC K) (by rfl) T.n_len (by decide +kernel) (pa_cons (pe_methA0 K (pv 0) T.F_Chainsweeps.kp (ok_Chainsweeps T) (hr.mono (by decide)) T.b_Chainsweeps (passAll pass0)) pa_nil)) (pe_callB (call_lenC K) (by rfl) T.n_len (by decide +kernel) (pa_cons (pv 2) pa_nil)) (nomark _))))))))), ?_⟩
    walk_at "rd"
    refine ⟨c, q, rfl, tr, by omega, hl, fun L ts H1 x1 h1 h2 h3 => ?_⟩
    obtain ⟨X, dx, pt, rt, fs, f⟩ := (hc.ext x1).flds (fine_Sweep T) (fine_Chain T)
    walk_at "rd"
    refine ⟨a, X, dx, fs, rfl, f.ins, (hc.ext x1).nos f.ins, f.fine.cl, swp_any T f.cls, c, a, rfl, hc.ext x1, by omega, hl, fun L2 us H2 x2 fL2 g1 g2 g3 => ?_⟩
    have x12 := x1.trans x2
    have h12 := x2 _ _ h1
    have lt : (refs ts).length = c.leaves.length := by rw [← h2]; exact (List.length_map _).trans (List.length_map _).symm
    have lu : (refs us).length = c.leaves.length := by rw [← g2]; exact (List.length_map _).trans (List.length_map _).symm
    have lt' : ts.length = c.leaves.length := (List.length_map _).symm.trans lt
    have lu' : us.length = c.leaves.length := (List.length_map _).symm.trans lu
    walk_at "rd"
    refine r_isi (.ty _) (.base (.lst g1)) (kit_ty (by decide +kernel : kitB "list" "list" = some true)) ?_
    walk_at "rd"
    rw [lt, lu]
    refine iteND (fun h => absurd rfl h) (fun _ => ?_)
    walk_at "rd"
    rw [lt]
    refine foin_range (n := (c.leaves.length : Int).toNat) (fun i τ G => Ext H2 G ∧ ∃ v4 : Option V, τ = [some (.ref a), some (.ref q), some (.ref L), some (.ref L2), v4]) ⟨Ext.refl _, none, rfl⟩ ?_ ?_
    · rintro i τ G hi ⟨e, v4, rfl⟩
      have hi : i < c.leaves.length := by omega
      have gL := e _ _ h12
      have gL2 := e _ _ g1
      have it : i < ts.length := by omega
      have iu : i < us.length := by omega
      have hzt : atI (refs ts) (0 + (i : Int)) = some (.ref ts[i].1) := by
        rw [Int.zero_add]
        refine atI_nat ?_
        unfold refs
        rw [List.getElem?_map, List.getElem?_eq_getElem it]
        rfl
      have hzu : atI (refs us) (0 + (i : Int)) = some (.ref us[i].1) := by
        rw [Int.zero_add]
        refine atI_nat ?_
        unfold refs
        rw [List.getElem?_map, List.getElem?_eq_getElem iu]
        rfl
      have et : ts[i].2 = c.leaves[i] := by
        have := congrArg (fun l : List Ch => l[i]?) h2
        unfold chs at this
        simp only [List.getElem?_map, List.getElem?_eq_getElem it, List.getElem?_eq_getElem hi] at this
        exact Option.some.inj this
      have eu : us[i].2 = c.leaves[i] := by
        have := congrArg (fun l : List Ch => l[i]?) g2
        unfold chs at this
        simp only [List.getElem?_map, List.getElem?_eq_getElem iu, List.getElem?_eq_getElem hi] at this
        exact Option.some.inj this
      have mem : c.leaves[i] ∈ c.leaves := List.getElem_mem hi
      obtain ⟨ks, k1⟩ := Ch.leaves_sw mem
      have gd := Ch.leaves_good g mem
      have cu := (g3 us[i] (List.getElem_mem iu)).ext e
      have ct := (h3 ts[i] (List.getElem_mem it)).ext (x2.trans e)
      rw [eu] at cu
      rw [et] at ct
      obtain ⟨dx2, fs2, hi2⟩ := cu.insS ks
      walk_at "rd"
      refine r_ixQL gL2 hzu ?_
      walk_at "rd"
      refine r_isi (.own _) (T.oc_Sweep.ty hi2) T.k_Sweep_Sweep ?_
      walk_at "rd"
      refine r_ixQL gL2 hzu ?_
      walk_at "rd"
      refine r_ixQL gL hzt ?_
      walk_at "rd"
      refine ⟨c.leaves[i], ts[i].1, rfl, ct, gd, by omega, fun a2 G2 x3 hc2 => ?_⟩
      refine ⟨true, ⟨c.leaves[i], us[i].1, rfl, cu.ext x3, by omega, .inl ⟨a2, c.leaves[i], rfl, hc2, (decide_eq_true rfl).symm⟩⟩, fun H' x4 => ?_⟩
      walk_at "rd"
      exact ⟨e.trans (x3.trans x4), _, rfl⟩
    · rintro τ G ⟨e, v4, rfl⟩
      have gL2 := e _ _ g1
      walk_at "rd"
      refine r_bm ?_
      walk_at "rd"
      refine ⟨.inl ⟨rfl, _, SqL.of gL2⟩, ?_⟩
      walk_at "rd"
      refine r_append gL2 (by rw [lu]; omega) ?_
      have nm : ExtN G (upd G L2 (.lst (refs us ++ [.ref a]))) := ExtN.mut gL2
      have hcG := (hc.ext (x12.trans e)).extN nm
      have L2H1 : H1 L2 = none := fL2
      have hLG : (upd G L2 (.lst (refs us ++ [.ref a]))) L = some (.lst (refs ts)) := by
        rw [upd_ne (fun z => by rw [← z, h1] at L2H1; cases L2H1)]
        exact e _ _ h12
      have L2H : H L2 = none := by
        cases h : H L2 with
        | none => rfl
        | some o => rw [x1 _ _ h] at L2H1; cases L2H1
      have eH : Ext H (upd G L2 (.lst (refs us ++ [.ref a]))) := (x12.trans e).mut L2H
      generalize (upd G L2 (.lst (refs us ++ [.ref a]))) = G3 at hcG hLG eH nm ⊢
      obtain ⟨Y, dy, py, ry, gs, f3⟩ := hcG.flds (fine_Sweep T) (fine_Chain T)
      walk_at "rd"
      refine ⟨a, Y, dy, gs, rfl, f3.ins, hcG.nos f3.ins, f3.fine.cl, swp_any T f3.cls, c, a, rfl, hcG, by omega, hl, fun L3 ws G4 x4 fL3 w1 w2 w3 => ?_⟩
      have hL4 := x4 _ _ hLG
      have lw : (refs ws).length = c.leaves.length := by rw [← w2]; exact (List.length_map _).trans (List.length_map _).symm
      walk_at "rd"
      rw [lt, lw, decide_eq_true rfl]
      exact kk _ (eH.trans x4)
end
end Rk

namespace Rk
open PySem ClX Own
open L2 hiding Ext
local macro_rules | `(tactic| walk_at "side") => `(tactic| first | exact trivial | (show (0:Int) < _; first | assumption | decide | omega) | exact Or.inl ⟨by decide, by decide⟩ | exact Or.inl ⟨by omega, by omega⟩ | exact Or.inr ⟨by decide, by decide⟩ | exact ⟨by decide, by decide⟩ | exact ⟨by decide, by decide, by decide⟩ | exact ⟨by omega, by omega⟩)
local macro_rules | `(tactic| walk_at "rd") => `(tactic| repeat (with_reducible first | refine r_next ?_ | refine r_ret ?_ | refine r_seq ?_ | refine r_asg ?_ | refine r_drop ?_ | refine r_call ?_ | refine r_cons ?_ | refine r_nil ?_ | refine r_cb ?_ | refine r_op ?_ | refine r_sset ?_ | refine r_var (by with_unfolding_all rfl) ?_ | refine r_c ?_ | refine r_name ?_ | refine r_I0 ?_ | (refine r_I ?_ ?_; focus (with_unfolding_all walk_at "side")) | refine r_un ?_ | refine r_U ?_ | refine r_if ?_ | refine r_ifE ?_ | refine r_test ?_ | refine r_B ?_ | refine r_bl ?_ | refine r_not ?_ | refine r_and ?_ | refine r_or ?_ | refine r_andV ?_ | refine r_orV ?_ | refine r_notV ?_ | refine r_eqI ?_ | refine r_neI ?_ | refine r_tup ?_ | refine r_lst ?_ | refine r_sub ?_ | refine r_intI ?_ | refine r_intB ?_ | refine r_abs ?_ | refine r_max ?_ | refine r_ixL (SqL.of (by assumption)) (by with_unfolding_all rfl) ?_ | refine r_ixT (SqT.of (by assumption)) (by with_unfolding_all rfl) ?_ | refine r_ixQL (by assumption) (by with_unfolding_all rfl) ?_ | refine r_ixQT (by assumption) (by with_unfolding_all rfl) ?_ | refine r_ckw ?_ | refine r_callN ?_ | refine r_makeS ?_ | refine r_make ?_ | refine r_makeK ?_ | refine r_methA ?_ | refine r_pcons ?_ | refine r_pnil ?_ | refine r_dget ?_ | refine r_isN ?_ | refine r_notN ?_ | refine r_fld ?_ | refine r_sfld ?_ | refine r_lenL (SqL.of (by assumption)) ?_ | refine r_lenT (SqT.of (by assumption)) ?_ | refine r_callS ?_ | refine r_cutnx ?_ | refine r_cutrt ?_ | refine r_chain ?_ | refine r_yes ?_ | refine iteT ?_ | refine iteF ?_ | refine iteNF ?_ | refine iteNT ?_ | refine r_truth ?_ | refine r_truI ?_ | refine r_sliceV ?_ | refine r_for ?_ | refine r_rng1 ?_ | (refine r_i1 ?_ ?_; focus (with_unfolding_all walk_at "side"))))
section
variable {P : Program} {w : World} {K : PySem.W.Frag} {mg : Str → Option Value} {base : Heap} {D : Ad}
theorem r_neBB {K : PySem.W.Frag} {H : Hp} {Q : VK} {b : Bool} (q : Q (.bl false) H) : rNeD K (.bl b) (.bl b) H Q := ⟨_, _, .bl b, .bl b, rfl, rfl, by cases b <;> exact q⟩
theorem r_eqBN {K : PySem.W.Frag} {H : Hp} {Q : VK} {b : Bool} (q : Q (.bl false) H) : rEqD K (.bl (!b)) (.bl b) H Q := ⟨_, _, .bl (!b), .bl b, rfl, rfl, by cases b <;> exact q⟩
theorem parts_at (T : Txt w K mg D) {H : Hp} {c : Ch} {a : Addr} (hc : ChAt D.c_Sweep D.c_Chain H c a) : ∃ X dx pt rt fs xs, FldsAt K D.c_Sweep D.c_Chain H c a X dx pt rt fs ∧ H pt = some (.tup xs) := by
  by_cases hk : c.kind = "sweep"
  · cases c with
    | sw ns k own es ys =>
      obtain ⟨dx, t, pt, rt, h1, h2, h3, h4⟩ := hc
      exact ⟨D.c_Sweep, dx, pt, rt, _, [], ⟨h1, fine_Sweep T, .inl rfl, by with_unfolding_all rfl, by with_unfolding_all rfl, by with_unfolding_all rfl, by with_unfolding_all rfl, by with_unfolding_all rfl, by with_unfolding_all rfl, by with_unfolding_all rfl, by with_unfolding_all rfl, h4⟩, h3⟩
    | _ => exact absurd hk (by simp only [Ch.kind]; decide)
  · obtain ⟨ts, hn, hts, htk⟩ := node_of hc hk
    obtain ⟨X, dx, pt, rt, fs, f, hp⟩ := hn.flds (S := D.c_Sweep) (fine_Chain T)
    exact ⟨X, dx, pt, rt, fs, _, f, hp⟩
theorem rep_of {G : Hp} {x : Ch} {a : Addr} {Q : VK} (n : Nat) {z : Int} (hz : z = (n : Int)) (hn : n ≤ 8) (hx : ChAt D.c_Sweep D.c_Chain G x a) (gx : x.good) (lim : (Ch.ti n x).limit = none) (k : ∀ c G', Ext G G' → ChAt D.c_Sweep D.c_Chain G' (.ti n x) c → Q (.ref c) G') : spRep D [.ref a, .int z] G Q E0 := by
  subst hz
  refine ⟨x, a, _, rfl, hx, gx, .int _, fun hb => ?_, fun m hm _ => ?_⟩
  · have : between (.int (n : Int)) 0 8 = true := decide_eq_true ⟨by omega, by omega⟩
    rw [this] at hb
    cases hb
  · have : m = n := by
      injection hm with hm
      omega
    subst this
    exact lim_ok lim k
theorem th_of (T : Txt w K mg D) {G : Hp} {x y : Ch} {a b : Addr} {Q : VK} (hx : ChAt D.c_Sweep D.c_Chain G x a) (hy : ChAt D.c_Sweep D.c_Chain G y b) (gx : x.good) (gy : y.good) (lim : (Ch.th x y).limit = none) (k : ∀ c G', Ext G G' → ChAt D.c_Sweep D.c_Chain G' (.th x y) c → Q (.ref c) G') : rTwo K "rshift" D.a_Chain__rshift__ (spNode2 D Ch.th) E0 (.ref a) (.ref b) G Q := by
  obtain ⟨X, dx, pt, rt, fs, f⟩ := hx.flds (fine_Sweep T) (fine_Chain T)
  obtain ⟨Y, dy, py, ry, gs, f2⟩ := hy.flds (fine_Sweep T) (fine_Chain T)
  exact ⟨a, b, X, Y, dx, dy, fs, gs, rfl, rfl, f.ins, f2.ins, two_rshift T f.cls f2.cls, x, y, a, b, rfl, hx, hy, gx, gy, lim_ok lim k⟩
theorem ti_one {c : Ch} (g : c.good) (l : (Ch.ti 2 c).limit = none) : (Ch.ti 1 c).limit = none := by
  obtain ⟨h1, h2, h3, h4, s, h5⟩ := Ch.limit_none.mp l
  obtain ⟨n1, n2, n3, n4⟩ := g.okS.nn
  have h1 : max 1 (((2 : Nat) : Int) * c.size) ≤ 8 := h1
  have h3 : ((2 : Nat) : Int) * c.reach.1 + ((2 : Nat) : Int) * c.reach.2 ≤ 6 := h3
  have h4 : ((2 : Nat) : Int) * c.written ≤ 3 := h4
  refine Ch.limit_none.mpr ⟨?_, h2, ?_, ?_, s, h5⟩
  · show max 1 (((1 : Nat) : Int) * c.size) ≤ 8
    omega
  · show ((1 : Nat) : Int) * c.reach.1 + ((1 : Nat) : Int) * c.reach.2 ≤ 6
    omega
  · show ((1 : Nat) : Int) * c.written ≤ 3
    omega
/-- the two chains and their trees -/
structure I9 (D : Ad) (G : Hp) (c c2 : Ch) (q q2 a1 a2 : Addr) : Prop where
  t1 : TrAt G c q
  t2 : TrAt G c2 q2
  h1 : ChAt D.c_Sweep D.c_Chain G c a1
  h2 : ChAt D.c_Sweep D.c_Chain G c2 a2
theorem I9.ext {G G' : Hp} {c c2 : Ch} {q q2 a1 a2 : Addr} (i : I9 D G c c2 q q2 a1 a2) (e : Ext G G') : I9 D G' c c2 q q2 a1 a2 := ⟨i.t1.ext e, i.t2.ext e, i.h1.ext e, i.h2.ext e⟩
theorem ok_law (T : Txt w K mg D) : FnOk P w K mg base CX0 90 D.a_law D.d_law ["_law_script"] (spLaw K) := by
  refine T.F_law.ok sc_law (fun vs H Q E h => ?_) (fun cdv A outer s H vs Q E hr h => ?_)
  · obtain ⟨a, ns, rfl, _⟩ := h
    rfl
  · obtain ⟨a, zs, rfl, hS, hl, kk⟩ := h
    refine ⟨_, (pss_cons (ps_set (i := 1) sc_law.nd rfl (Or.inl rfl) (pe_call (ok__law_pool T) (hr.mono (by decide)) (by rfl) T.g__law_pool T.F__law_pool.kp T.b__law_pool .nil pass0 (pa_cons (pv 0) pa_nil)))
  (pss_cons (ps_set (i := 2) sc_law.nd rfl (Or.inl rfl) (pe_tup (pa_cons (pe_tup (pa_cons pe_str (pa_cons pe_str pa_nil))) (pa_cons (pe_tup (pa_cons pe_str (pa_cons pe_str pa_nil))) (pa_cons (pe_tup (pa_cons pe_str (pa_cons pe_str pa_nil))) pa_nil)))))
  (Evl.pss_cut (ps_set (i := 3) sc_law.nd rfl (Or.inl rfl) (pe_ix (ix_seqC K) (pv 2) (pe_call (ok__law_draw T) (hr.mono (by decide)) (by rfl) T.g__law_draw T.F__law_draw.kp T.b__law_draw .nil pass0 (pa_cons (pv 1) (pa_cons pe_int pa_nil))) (fun _ _ => rfl)))
  (pss_cons (ps_set (i := 4) sc_law.nd rfl (Or.inl rfl) (pe_call (ok__law_draw T) (hr.mono (by decide)) (by rfl) T.g__law_draw T.F__law_draw.kp T.b__law_draw .nil pass0 (pa_cons (pv 1) (pa_cons pe_int pa_nil))))
  (pss_cons (ps_set (i := 5) sc_law.nd rfl (Or.inl rfl) (pe_call (ok__law_draw T) (hr.mono (by decide)) (by rfl) T.g__law_draw T.F__law_draw.kp T.b__law_draw .nil pass0 (pa_cons (pv 1) (pa_cons pe_int pa_nil))))
  (pss_cons (ps_set (i := 6) sc_law.nd rfl (Or.inl rfl) (pe_call (ok__law_tree T) (hr.mono (by decide)) (by rfl) T.g__law_tree T.F__law_tree.kp T.b__law_tree .nil pass0 (pa_cons (pv 1) (pa_cons (pv 5) (pa_cons pe_int (pa_cons pe_int (pa_cons pe_int (pa_cons (pv 3) pa_nil))))))))
  (pss_cons (ps_set (i := 7) sc_law.nd rfl (Or.inl rfl) (pv 6))
  (Evl.pss_cut (ps_if (pt_cmpR op_eq (pv 4) pe_int (nomark _))
    (pss_one (ps_set (i := 7) sc_law.nd rfl (Or.inl rfl) (pe_call (ok__law_tree T) (hr.mono (by decide)) (by rfl) T.g__law_tree T.F__law_tree.kp T.b__law_tree .nil pass0 (pa_cons (pv 1) (pa_cons (pv 5) (pa_cons pe_int (pa_cons pe_int (pa_cons pe_int (pa_cons (pv 3) pa_nil)))))))))
    (pss_one (ps_if (pt_cmpR op_lt (pv 4) pe_int (nomark _))
      (pss_cons (ps_set (i := 7) sc_law.nd rfl (Or.inl rfl) (pe_call (ok__law_changed T) (hr.mono (by decide)) (by rfl) T.g__law_changed T.F__law_changed.kp T.b__law_changed .nil pass0 (pa_cons (pv 1) (pa_cons (pv 6) pa_nil))))
      (pss_one (ps_if (pt_not (pt_val (pe_call (ok__law_all_fit T) (hr.mono (by decide)) (by rfl) T.g__law_all_fit T.F__law_all_fit.kp T.b__law_all_fit .nil pass0 (pa_cons (pv 7) pa_nil))))
        (pss_one (ps_set (i := 7) sc_law.nd rfl (Or.inl rfl) (pv 6)))
        pss_nil)))
      pss_nil)))
  (pss_cons (ps_set (i := 8) sc_law.nd rfl (Or.inl rfl) (pe_call (ok__law_make T) (hr.mono (by decide)) (by rfl) T.g__law_make T.F__law_make.kp T.b__law_make .nil pass0 (pa_cons (pv 6) pa_nil)))
  (pss_cons (ps_set (i := 9) sc_law.nd rfl (Or.inl rfl) (pe_call (ok__law_make T) (hr.mono (by decide)) (by rfl) T.g__law_make T.F__law_make.kp T.b__law_make .nil pass0 (pa_cons (pv 7) pa_nil)))
  (pss_cons (ps_set (i := 10) sc_law.nd rfl (Or.inl rfl) (pe_cmpR (op_eqDC K hr.units) (pv 6) (pv 7) (nomark _)))
  (pss_cons (ps_if (PW.pt (pw_or (pt_cmpR (op_neDC K hr.units) (pe_cmpR (op_eqB (rc_chains T) (hr.mono (by decide))) (pv 8) (pv 9) (nomark _)) (pv 10) (nomark _)) (pw_or (pt_cmpR (op_neDC K hr.units) (pe_cmpR (op_eqB (rc_chains T) (hr.mono (by decide))) (pv 9) (pv 8) (nomark _)) (pv 10) (nomark _)) (pw_or1 (pt_cmpR (op_eqDC K hr.units) (pe_cmpR (op_neCh T (hr.mono (by decide))) (pv 8) (pv 9) (nomark _)) (pv 10) (nomark _))))))
    (pss_one (ps_ret pe_bl))
    pss_nil)
  (pss_cons (ps_if (PW.pt (pw_or (pt_cmpR (op_neCh T (hr.mono (by decide))) (pv 8) (pe_call (ok__law_make T) (hr.mono (by decide)) (by rfl) T.g__law_make T.F__law_make.kp T.b__law_make .nil pass0 (pa_cons (pv 6) pa_nil)) (nomark _)) (pw_or (pt_cmpR (op_eqB (rc_chains T) (hr.mono (by decide))) (pv 8) pe_non (nomark _)) (pw_or (pt_cmpR (op_eqB (rc_chains T) (hr.mono (by decide))) (pv 8) (pe_fldC K (pv 8)) (nomark _)) (pw_or1 (pt_cmpR (op_eqB (rc_chains T) (hr.mono (by decide))) (pv 8) (pe_fldC K (pv 8)) (nomark _)))))))
    (pss_one (ps_ret pe_bl))
    pss_nil)
  (pss_cons (ps_if (PW.pt (pw_or (pt_not (pt_val (pe_call (ok__law_listed T) (hr.mono (by decide)) (by rfl) T.g__law_listed T.F__law_listed.kp T.b__law_listed .nil pass0 (pa_cons (pv 8) (pa_cons (pv 6) pa_nil))))) (pw_or1 (pt_not (pt_val (pe_call (ok__law_listed T) (hr.mono (by decide)) (by rfl) T.g__law_listed T.F__law_listed.kp T.b__law_listed .nil pass0 (pa_cons (pv 9) (pa_cons (pv 7) pa_nil))))))))
    (pss_one (ps_ret pe_bl))
    pss_nil)
  (pss_cons (ps_if (PW.pt (pw_or (pt_cmpR op_ne (pe_call (ok__law_power T) (hr.mono (by decide)) (by rfl) T.g__law_power T.F__law_power.kp T.b__law_power .nil pass0 (pa_cons (pv 8) (pa_cons pe_bl pa_nil))) pe_str (nomark _)) (pw_or1 (pt_cmpR op_ne (pe_call (ok__law_power T) (hr.mono (by decide)) (by rfl) T.g__law_power T.F__law_power.kp T.b__law_power .nil pass0 (pa_cons (pv 9) (pa_cons pe_bl pa_nil))) pe_str (nomark _)))))
    (pss_one (ps_ret pe_bl))
    pss_nil)
  (pss_cons (ps_if (pt_not (pt_val (pe_call (ok__law_fits T) (hr.mono (by decide)) (by rfl) T.g__law_fits T.F__law_fits.kp T.b__law_fits .nil pass0 (pa_cons (pe_tup (pa_cons pe_str (pa_cons (pv 6) (pa_cons pe_int pa_nil)))) (pa_cons pe_int (pa_cons pe_int pa_nil))))))
    (pss_one (ps_ret pe_bl))
    pss_nil)
  (pss_cons (ps_set (i := 11) sc_law.nd rfl (Or.inl rfl) (pe_powI K (ok_Chain__pow__ T) (hr.mono (by decide)) T.b_Chain__pow__ (passAll passN) (pv 8) pe_int))
  (pss_cons (ps_if (PW.pt (pw_or (pt_cmpR (op_neCh T (hr.mono (by decide))) (pv 11) (pe_methA K (pv 8) T.F_Chainrepeated.kp (ok_Chainrepeated T) (hr.mono (by decide)) T.b_Chainrepeated (passAll passN) (pa_cons pe_int pa_nil)) (nomark _)) (pw_or (pt_cmpR (op_eqB (rc_chains T) (hr.mono (by decide))) (pv 11) (pv 8) (nomark _)) (pw_or (pt_cmpR (op_eqB (rc_chains T) (hr.mono (by decide))) (pv 11) (pe_methA K (pv 8) T.F_Chainrepeated.kp (ok_Chainrepeated T) (hr.mono (by decide)) T.b_Chainrepeated (passAll passN) (pa_cons pe_int pa_nil)) (nomark _)) (pw_or1 (pt_cmpR (op_neCh T (hr.mono (by decide))) (pe_ix (ix_seqC K) (pe_fldC K (pv 11)) pe_int (fun _ _ => rfl)) (pv 8) (nomark _)))))))
    (pss_one (ps_ret pe_bl))
    pss_nil)
  (pss_one (ps_ret (pe_or (pe_not (pe_call (ok__law_fits T) (hr.mono (by decide)) (by rfl) T.g__law_fits T.F__law_fits.kp T.b__law_fits .nil pass0 (pa_cons (pe_tup (pa_cons pe_str (pa_cons (pv 6) (pa_cons (pv 6) pa_nil)))) (pa_cons pe_int (pa_cons pe_int pa_nil))))) (pe_one (pe_cmpR (op_neCh T (hr.mono (by decide))) (pv 11) (pe_opS K (on := "rshift") (ok_Chain__rshift__ T) (hr.mono (by decide)) hr.units rfl T.b_Chain__rshift__ (passAll passN) rfl (by decide +kernel) (pv 8) (pv 8)) (nomark _)))))))))))))))))))))))), ?_⟩
    walk_at "rd"
    refine ⟨a, zs, rfl, hS, hl, fun p c0 G0 e0 hp hc pl0 => ?_⟩
    clear hS hp hc e0
    walk_at "rd"
    refine r_size (by show 2 ≤ 1000; decide) fun m1 f1 => ?_
    generalize hG5 : upd G0 m1 (HO.tup [V.str "all", V.str "all"]) = G5
    obtain ⟨x1, g1⟩ : Ext G0 G5 ∧ G5 m1 = some (HO.tup [V.str "all", V.str "all"]) := by rw [← hG5]; exact ⟨Ext.new f1, upd_same⟩
    walk_at "rd"
    refine r_size (by show 2 ≤ 1000; decide) fun m2 f2 => ?_
    generalize hG6 : upd G5 m2 (HO.tup [V.str "all", V.str "on"]) = G6
    obtain ⟨x2, g2⟩ : Ext G5 G6 ∧ G6 m2 = some (HO.tup [V.str "all", V.str "on"]) := by rw [← hG6]; exact ⟨Ext.new f2, upd_same⟩
    walk_at "rd"
    refine r_size (by show 2 ≤ 1000; decide) fun m3 f3 => ?_
    generalize hG7 : upd G6 m3 (HO.tup [V.str "all", V.str "back"]) = G7
    obtain ⟨x3, g3⟩ : Ext G6 G7 ∧ G7 m3 = some (HO.tup [V.str "all", V.str "back"]) := by rw [← hG7]; exact ⟨Ext.new f3, upd_same⟩
    walk_at "rd"
    refine r_size (by show 3 ≤ 1000; decide) fun M fM => ?_
    generalize hG8 : upd G7 M (HO.tup [V.ref m1, V.ref m2, V.ref m3]) = G8
    obtain ⟨x5, g5⟩ : Ext G7 G8 ∧ G8 M = some (HO.tup [V.ref m1, V.ref m2, V.ref m3]) := by rw [← hG8]; exact ⟨Ext.new fM, upd_same⟩
    have pl5 := pl0.ext x1
    have pl6 := pl5.ext x2
    have pl7 := pl6.ext x3
    have pl8 := pl7.ext x5
    walk_at "rd"
    refine r_cut (fun σ' G => ∃ (m : Addr) (menu : List Str), σ' = [some (.ref a), some (.ref p), some (.ref M), some (.ref m), none, none, none, none, none, none, none, none] ∧ Pl G p c0 ∧ G m = some (.tup (menu.map V.str)) ∧ m ≠ p ∧ menu.length = 2 ∧ (∀ s ∈ menu, s = "all" ∨ s = "on" ∨ s = "back")) ?_ ?_
    · walk_at "rd"
      refine ⟨p, c0, _, rfl, pl8, by decide, by decide +kernel, fun i G9 i0 i1 pl9 e9 => ?_⟩
      have h5 := wo_get e9 (pl7.ne fM).1 g5
      have hi : i = 0 ∨ i = 1 ∨ i = 2 := by omega
      rcases hi with rfl | rfl | rfl
      · refine r_ixQT h5 (by with_unfolding_all rfl) ?_
        exact ⟨m1, ["all", "all"], rfl, pl9, wo_get e9 (pl0.ne f1).1 (x5 _ _ (x3 _ _ (x2 _ _ g1))), (pl0.ne f1).1, rfl, by decide⟩
      · refine r_ixQT h5 (by with_unfolding_all rfl) ?_
        exact ⟨m2, ["all", "on"], rfl, pl9, wo_get e9 (pl5.ne f2).1 (x5 _ _ (x3 _ _ g2)), (pl5.ne f2).1, rfl, by decide⟩
      · refine r_ixQT h5 (by with_unfolding_all rfl) ?_
        exact ⟨m3, ["all", "back"], rfl, pl9, wo_get e9 (pl6.ne f3).1 (x5 _ _ g3), (pl6.ne f3).1, rfl, by decide⟩
    clear g1 g2 g3 g5 pl0 pl5 pl6 pl7 pl8 x1 x2 x3 x5
    rintro σ' G ⟨m, menu, rfl, pl, hm, nm, ml, hmenu⟩
    walk_at "rd"
    refine ⟨p, c0, _, rfl, pl, by decide, by decide +kernel, fun kd G1 kd0 kd1 pl1 e1 => ?_⟩
    walk_at "rd"
    refine ⟨p, c0, _, rfl, pl1, by decide, by decide +kernel, fun rd G2 r0 r1 pl2 e2 => ?_⟩
    have hm2 := wo_get e2 nm (wo_get e1 nm hm)
    walk_at "rd"
    refine ⟨p, c0, m, rd, 4, 6, 3, menu, rfl, pl2, r0, by omega, by decide, by decide, by decide, by decide, by decide, by decide, hm2, nm, by omega, by omega, hmenu, fun c q G3 pl3 e3 g fd wd tr3 => ?_⟩
    have hm3 := wo_get e3 nm hm2
    have hc := wd.2
    clear hm hm2 pl pl1 pl2 e1 e2 e3 fd wd
    walk_at "rd"
    refine r_cut (fun σ' G => ∃ (q2 : Addr) (c2 : Ch), σ' = [some (.ref a), some (.ref p), some (.ref M), some (.ref m), some (.int kd), some (.int rd), some (.ref q), some (.ref q2), none, none, none, none] ∧ TrAt G c q ∧ TrAt G c2 q2 ∧ c2.good ∧ c2.hgt ≤ 8) ?_ ?_
    · walk_at "rd"
      refine iteD (fun h0 => ?_) (fun h0 => ?_)
      · walk_at "rd"
        refine ⟨p, c0, m, rd, 4, 6, 3, menu, rfl, pl3, r0, by omega, by decide, by decide, by decide, by decide, by decide, by decide, hm3, nm, by omega, by omega, hmenu, fun c2 q2 G4 pl4 e4 g2 fd2 wd2 tr4 => ?_⟩
        have := wd2.2
        exact ⟨q2, c2, rfl, (tr3.ext e4).ext wo_back, tr4.ext wo_back, g2, by omega⟩
      walk_at "rd"
      refine iteD (fun h3 => ?_) (fun h3 => ?_)
      · walk_at "rd"
        refine ⟨p, c0, q, c, rfl, pl3, tr3, g.okS, by omega, fun c2 q2 G4 pl4 e4 ok2 hg2 tr4 => ?_⟩
        walk_at "rd"
        refine ⟨c2, q2, rfl, tr4.ext wo_back, ok2, by omega, by omega, fun b G5 x5 hb => ?_⟩
        walk_at "rd"
        cases b with
        | true =>
          walk_at "rd"
          exact ⟨q2, c2, rfl, ((tr3.ext e4).ext wo_back).ext x5, (tr4.ext wo_back).ext x5, hb rfl, by omega⟩
        | false =>
          walk_at "rd"
          exact ⟨q, c, rfl, ((tr3.ext e4).ext wo_back).ext x5, ((tr3.ext e4).ext wo_back).ext x5, g, by omega⟩
      · walk_at "rd"
        exact ⟨q, c, rfl, tr3.ext wo_back, tr3.ext wo_back, g, by omega⟩
    clear pl3 tr3 hm3 nm ml hmenu
    rintro σ' G ⟨q2, c2, rfl, t1, t2, g2, hc2⟩
    have hg := g.hgt
    have hg2 := g2.hgt
    have lv1 : c.leaves.length ≤ 1000 := Nat.le_trans (Ch.leaves_len c 7 (by omega)) (by decide)
    have lv2 : c2.leaves.length ≤ 1000 := Nat.le_trans (Ch.leaves_len c2 7 (by omega)) (by decide)
    walk_at "rd"
    refine ⟨c, q, rfl, t1, g, hg, fun a1 G1 x1 h1 => ?_⟩
    walk_at "rd"
    refine ⟨c2, q2, rfl, t2.ext x1, g2, hg2, fun a2 G2 x2 h2 => ?_⟩
    have i0 : I9 D G2 c c2 q q2 a1 a2 := ⟨(t1.ext x1).ext x2, (t2.ext x1).ext x2, h1.ext x2, h2⟩
    clear t1 t2 h1 h2 x1 x2
    walk_at "rd"
    refine r_eqTr i0.t1 i0.t2 g.okS g2.okS (by omega) (by omega) ?_
    -- ==, both ways
    walk_at "rd"
    refine ⟨_, ⟨c, a1, rfl, i0.h1, by omega, .inl ⟨a2, c2, rfl, i0.h2, rfl⟩⟩, fun H1 x1 => ?_⟩
    replace i0 := i0.ext x1
    clear x1
    walk_at "rd"
    refine r_neBB ?_
    walk_at "rd"
    refine ⟨_, ⟨c2, a2, rfl, i0.h2, by omega, .inl ⟨a1, c, rfl, i0.h1, rfl⟩⟩, fun H2 x2 => ?_⟩
    replace i0 := i0.ext x2
    clear x2
    rw [show decide (c2 = c) = decide (c = c2) from decide_eq_decide.mpr eq_comm]
    walk_at "rd"
    refine r_neBB ?_
    walk_at "rd"
    refine ⟨_, ⟨c, a1, rfl, i0.h1, by omega, .inl ⟨a2, c2, rfl, i0.h2, rfl⟩⟩, fun H3 x3 => ?_⟩
    replace i0 := i0.ext x3
    clear x3
    walk_at "rd"
    refine r_eqBN ?_
    walk_at "rd"
    -- made anew; None, the parts, the size
    refine ⟨c, q, rfl, i0.t1, g, hg, fun a3 H4 x4 h3 => ?_⟩
    replace i0 := i0.ext x4
    clear x4
    refine ⟨true, ⟨c, a1, rfl, i0.h1, by omega, .inl ⟨a3, c, rfl, h3, (decide_eq_true rfl).symm⟩⟩, fun H5 x5 => ?_⟩
    replace i0 := i0.ext x5
    clear x5 h3
    walk_at "rd"
    refine ⟨false, ⟨c, a1, rfl, i0.h1, by omega, .inr ⟨.inr (.inr (.inr (.inl rfl))), rfl⟩⟩, fun H6 x6 => ?_⟩
    replace i0 := i0.ext x6
    clear x6
    walk_at "rd"
    obtain ⟨X, dx, pt, rt, fs, xs, f, hpt⟩ := parts_at T i0.h1
    refine r_fldV f.ins f.fine.cl f.fine.parts f.parts ?_
    refine ⟨false, ⟨c, a1, rfl, i0.h1, by omega, .inr ⟨.inr (.inr (.inr (.inr (.inl ⟨_, _, rfl, hpt⟩)))), rfl⟩⟩, fun H7 x7 => ?_⟩
    replace i0 := i0.ext x7
    clear x7 f hpt
    obtain ⟨X, dx, pt, rt, fs, f⟩ := i0.h1.flds (fine_Sweep T) (fine_Chain T)
    walk_at "rd"
    refine r_fldV f.ins f.fine.cl f.fine.size f.size ?_
    refine ⟨false, ⟨c, a1, rfl, i0.h1, by omega, .inr ⟨.int _, rfl⟩⟩, fun H8 x8 => ?_⟩
    replace i0 := i0.ext x8
    clear x8 f
    -- the sweeps, the powers
    walk_at "rd"
    refine ⟨c, a1, q, rfl, i0.h1, i0.t1, g, lv1, fun H9 x9 => ?_⟩
    replace i0 := i0.ext x9
    clear x9
    walk_at "rd"
    refine ⟨c2, a2, q2, rfl, i0.h2, i0.t2, g2, lv2, fun H10 x10 => ?_⟩
    replace i0 := i0.ext x10
    clear x10
    walk_at "rd"
    refine ⟨c, a1, false, rfl, i0.h1, g, fun H11 x11 => ?_⟩
    replace i0 := i0.ext x11
    clear x11
    walk_at "rd"
    refine r_neS ?_
    rw [decide_eq_true rfl]
    walk_at "rd"
    refine ⟨c2, a2, true, rfl, i0.h2, g2, fun H12 x12 => ?_⟩
    replace i0 := i0.ext x12
    clear x12
    walk_at "rd"
    refine r_neS ?_
    rw [decide_eq_true rfl]
    walk_at "rd"
    -- twice
    refine r_size (by show 3 ≤ 1000; decide) fun u fu => ?_
    replace i0 := i0.ext (Ext.new (o := .tup [.str "times", .ref q, .int 2]) fu)
    refine ⟨.ti 2 c, u, 6, 3, rfl, ⟨q, i0.t1, upd_same⟩, ⟨g.okS, by decide⟩, by show c.hgt + 1 ≤ 21; omega, fun H13 x13 => ?_⟩
    replace i0 := i0.ext x13
    clear x13
    walk_at "rd"
    refine iteND (fun hf => ?_) (fun hf => ?_)
    · walk_at "rd"
      exact kk _
    have lim2 := hf.lim (by decide) (by decide)
    have lim1 := ti_one g lim2
    have n21 : Ch.ti 2 c ≠ c := fun z => by
      have := congrArg Ch.hgt z
      have : c.hgt + 1 = c.hgt := this
      omega
    have hh : (Ch.ti 2 c).hgt ≤ 21 := by show c.hgt + 1 ≤ 21; omega
    obtain ⟨X, dx, pt, rt, fs, f⟩ := i0.h1.flds (fine_Sweep T) (fine_Chain T)
    walk_at "rd"
    refine r_powI ?_
    walk_at "rd"
    refine ⟨a1, X, dx, fs, 2, rfl, rfl, f.ins, pow_any T f.cls, rep_of 2 rfl (by decide) i0.h1 g lim2 fun a4 H14 x14 h4 => ?_⟩
    replace i0 := i0.ext x14
    clear x14 f
    obtain ⟨X, dx, pt, rt, fs, f⟩ := i0.h1.flds (fine_Sweep T) (fine_Chain T)
    walk_at "rd"
    refine ⟨a1, X, dx, fs, rfl, f.ins, (i0.h1.nom f.ins).2, f.fine.cl, rep_any T f.cls, ?_⟩
    walk_at "rd"
    refine rep_of 2 rfl (by decide) i0.h1 g lim2 fun a5 H15 x15 h5 => ?_
    replace i0 := i0.ext x15
    replace h4 := h4.ext x15
    clear x15 f
    refine ⟨true, ⟨.ti 2 c, a4, rfl, h4, hh, .inl ⟨a5, .ti 2 c, rfl, h5, (decide_eq_true rfl).symm⟩⟩, fun H16 x16 => ?_⟩
    replace i0 := i0.ext x16
    replace h4 := h4.ext x16
    clear x16 h5
    walk_at "rd"
    refine ⟨false, ⟨.ti 2 c, a4, rfl, h4, hh, .inl ⟨a1, c, rfl, i0.h1, (decide_eq_false n21).symm⟩⟩, fun H17 x17 => ?_⟩
    replace i0 := i0.ext x17
    replace h4 := h4.ext x17
    clear x17
    obtain ⟨X, dx, pt, rt, fs, f⟩ := i0.h1.flds (fine_Sweep T) (fine_Chain T)
    walk_at "rd"
    refine ⟨a1, X, dx, fs, rfl, f.ins, (i0.h1.nom f.ins).2, f.fine.cl, rep_any T f.cls, ?_⟩
    walk_at "rd"
    refine rep_of 1 rfl (by decide) i0.h1 g lim1 fun a6 H18 x18 h6 => ?_
    replace i0 := i0.ext x18
    replace h4 := h4.ext x18
    clear x18 f
    refine ⟨false, ⟨.ti 2 c, a4, rfl, h4, hh, .inl ⟨a6, .ti 1 c, rfl, h6, (decide_eq_false (fun z => by injection z with z; cases z)).symm⟩⟩, fun H19 x19 => ?_⟩
    replace i0 := i0.ext x19
    replace h4 := h4.ext x19
    clear x19 h6
    obtain ⟨b, hb, hn⟩ := id h4
    obtain ⟨X, dx, pt, rt, fs, f, hp⟩ := hn.flds (S := D.c_Sweep) (fine_Chain T)
    walk_at "rd"
    refine r_fldV f.ins f.fine.cl f.fine.parts f.parts ?_
    walk_at "rd"
    refine ⟨true, ⟨c, b, rfl, hb, by omega, .inl ⟨a1, c, rfl, i0.h1, (decide_eq_true rfl).symm⟩⟩, fun H20 x20 => ?_⟩
    replace i0 := i0.ext x20
    replace h4 := h4.ext x20
    clear x20 f hp hb hn
    walk_at "rd"
    refine r_size (by show 3 ≤ 1000; decide) fun u2 fu2 => ?_
    replace i0 := i0.ext (Ext.new (o := .tup [.str "then", .ref q, .ref q]) fu2)
    replace h4 := h4.ext (Ext.new (o := .tup [.str "then", .ref q, .ref q]) fu2)
    refine ⟨.th c c, u2, 6, 3, rfl, ⟨q, q, i0.t1, i0.t1, upd_same⟩, ⟨g.okS, g.okS⟩, by show max c.hgt c.hgt + 1 ≤ 21; omega, fun H21 x21 => ?_⟩
    replace i0 := i0.ext x21
    replace h4 := h4.ext x21
    clear x21
    walk_at "rd"
    by_cases hf2 : (Ch.th c c).fits 6 3
    · rw [decide_eq_true hf2]
      walk_at "rd"
      refine r_op2S ?_
      walk_at "rd"
      refine th_of T i0.h1 i0.h1 g g (hf2.lim (by decide) (by decide)) fun a7 H22 x22 h7 => ?_
      refine ⟨false, ⟨.ti 2 c, a4, rfl, h4.ext x22, hh, .inl ⟨a7, .th c c, rfl, h7, (decide_eq_false (fun z => by cases z)).symm⟩⟩, fun H23 x23 => ?_⟩
      exact kk _
    · rw [decide_eq_false hf2]
      walk_at "rd"
      exact kk _
end
end Rk

namespace Rk
open PySem ClX Own
open L2 hiding Ext
theorem exm_any {K : PySem.W.Frag} {C S : Addr} {b : Bool} (h1 : PySem.W.subIn K (.ref S) (.type "BaseException") = some true) (h2 : PySem.W.isClsIn K S = true) (h3 : PySem.W.typeIn K (.ref S) = some (.type "type")) (h4 : PySem.W.subIn K (.ref C) (.ref S) = some b) : PySem.W.exmOne K (.ref C) (.ref S) = some b := by
  have e1 : (PySem.W.subIn K (.ref S) (.type "BaseException") == some true) = true := by rw [h1]; rfl
  have e2 : ((PySem.W.clsIn K S).isSome && PySem.W.typeIn K (.ref S) == some (.type "type")) = true := by
    have h2' : (PySem.W.clsIn K S).isSome = true := h2
    rw [h2', h3]
    rfl
  show (if (PySem.W.subIn K (.ref S) (.type "BaseException") == some true) = true then (if ((PySem.W.clsIn K S).isSome && PySem.W.typeIn K (.ref S) == some (.type "type")) = true then PySem.W.subIn K (.ref C) (.ref S) else none) else none) = some b
  rw [if_pos e1, if_pos e2]
  exact h4
theorem all_mk {l : PySem.W.OpenLaw} {w : World} {K : PySem.W.Frag} {h : Heap} {mg : Str → Option Value} {fa c_SweepError c_NoRow a_NoRow__init__ c_NoSweep a_NoSweep__init__ c_NoNumber a_NoNumber__init__ c_TooLarge a_TooLarge__init__ c_Chain a_Chain__init__ a_Chain__call__ a_Chain__eq__ a_Chain__rshift__ a_Chain__or__ a_Chain__and__ a_Chain__invert__ a_Chain__pow__ a_Chainrepeated a_Chainmirrored a_Chainsweeps c_Sweep a_Sweep__init__ a_Sweep__eq__ a_filtered a_counted_offsets a_writing_order a_is_number a_is_within a_row_fault a_has_cells a_first_false a_row_of a_pair a_greater_reach a_joint_direction a_broken_limit a_made a_negated a_chosen a_wrong_part a_are_weights a_reach_of a__law_mix a__law_pool a__law_draw a__law_sweep a__law_mixed a__law_measure a__law_fits a__law_grown a__law_tree a__law_make a__law_leaves a__law_all_fit a__law_changed a__law_power a__law_listed a_law k_MIRRORED_DIRECTION k_ENDS k_WAYS : Addr} (X : K.In h) (G : h.Ns mainGlobals mg) (hfa : mg "law" = some (.ref fa))
    {nm_SweepError qn_SweepError : Str} {N_SweepError : Addr} {bs_SweepError : List Value} {sn_SweepError : List Str} {sub_SweepError : List Value} {ab_SweepError : Bool} {col_SweepError : Option Bool} {dd_SweepError : Option Addr} {m0_SweepError m1_SweepError m2_SweepError m3_SweepError m5_SweepError : Option Value}
    {nm_NoRow qn_NoRow : Str} {N_NoRow : Addr} {bs_NoRow : List Value} {sn_NoRow : List Str} {sub_NoRow : List Value} {ab_NoRow : Bool} {col_NoRow : Option Bool} {dd_NoRow : Option Addr} {m0_NoRow m1_NoRow m2_NoRow m3_NoRow m5_NoRow : Option Value}
    {oc0 kV0 dc0 pm0 cd0 ct0 : Value} {od0 an0 : Option Addr} {sl0 : Array (Option Value)}
    {nm_NoSweep qn_NoSweep : Str} {N_NoSweep : Addr} {bs_NoSweep : List Value} {sn_NoSweep : List Str} {sub_NoSweep : List Value} {ab_NoSweep : Bool} {col_NoSweep : Option Bool} {dd_NoSweep : Option Addr} {m0_NoSweep m1_NoSweep m2_NoSweep m3_NoSweep m5_NoSweep : Option Value}
    {oc1 kV1 dc1 pm1 cd1 ct1 : Value} {od1 an1 : Option Addr} {sl1 : Array (Option Value)}
    {nm_NoNumber qn_NoNumber : Str} {N_NoNumber : Addr} {bs_NoNumber : List Value} {sn_NoNumber : List Str} {sub_NoNumber : List Value} {ab_NoNumber : Bool} {col_NoNumber : Option Bool} {dd_NoNumber : Option Addr} {m0_NoNumber m1_NoNumber m2_NoNumber m3_NoNumber m5_NoNumber : Option Value}
    {oc2 kV2 dc2 pm2 cd2 ct2 : Value} {od2 an2 : Option Addr} {sl2 : Array (Option Value)}
    {nm_TooLarge qn_TooLarge : Str} {N_TooLarge : Addr} {bs_TooLarge : List Value} {sn_TooLarge : List Str} {sub_TooLarge : List Value} {ab_TooLarge : Bool} {col_TooLarge : Option Bool} {dd_TooLarge : Option Addr} {m0_TooLarge m1_TooLarge m2_TooLarge m3_TooLarge m5_TooLarge : Option Value}
    {oc3 kV3 dc3 pm3 cd3 ct3 : Value} {od3 an3 : Option Addr} {sl3 : Array (Option Value)}
    {kd_Chain__init__ : Addr}
    {oc4 dc4 pm4 cd4 ct4 : Value} {od4 an4 : Option Addr} {sl4 : Array (Option Value)}
    {tk_Chain__init___times : Tok}
    {oc5 kV5 dc5 pm5 cd5 ct5 : Value} {od5 an5 : Option Addr} {sl5 : Array (Option Value)}
    {oc6 kV6 dc6 pm6 cd6 ct6 : Value} {od6 an6 : Option Addr} {sl6 : Array (Option Value)}
    {oc7 kV7 dc7 pm7 cd7 ct7 : Value} {od7 an7 : Option Addr} {sl7 : Array (Option Value)}
    {oc8 kV8 dc8 pm8 cd8 ct8 : Value} {od8 an8 : Option Addr} {sl8 : Array (Option Value)}
    {oc9 kV9 dc9 pm9 cd9 ct9 : Value} {od9 an9 : Option Addr} {sl9 : Array (Option Value)}
    {oc10 kV10 dc10 pm10 cd10 ct10 : Value} {od10 an10 : Option Addr} {sl10 : Array (Option Value)}
    {oc11 kV11 dc11 pm11 cd11 ct11 : Value} {od11 an11 : Option Addr} {sl11 : Array (Option Value)}
    {oc12 kV12 dc12 pm12 cd12 ct12 : Value} {od12 an12 : Option Addr} {sl12 : Array (Option Value)}
    {oc13 kV13 dc13 pm13 cd13 ct13 : Value} {od13 an13 : Option Addr} {sl13 : Array (Option Value)}
    {oc14 kV14 dc14 pm14 cd14 ct14 : Value} {od14 an14 : Option Addr} {sl14 : Array (Option Value)}
    {kd_Sweep__init__ : Addr}
    {oc15 dc15 pm15 cd15 ct15 : Value} {od15 an15 : Option Addr} {sl15 : Array (Option Value)}
    {tk_Sweep__init___ends : Tok}
    {tk_Sweep__init___way : Tok}
    {oc16 kV16 dc16 pm16 cd16 ct16 : Value} {od16 an16 : Option Addr} {sl16 : Array (Option Value)}
    {cdt_Chain : ClassData} {obj_Chain : Obj}
    {cdt_Sweep : ClassData} {obj_Sweep : Obj}
    {oc17 kV17 dc17 pm17 cd17 ct17 : Value} {od17 an17 : Option Addr} {sl17 : Array (Option Value)}
    {oc18 kV18 dc18 pm18 cd18 ct18 : Value} {od18 an18 : Option Addr} {sl18 : Array (Option Value)}
    {oc19 kV19 dc19 pm19 cd19 ct19 : Value} {od19 an19 : Option Addr} {sl19 : Array (Option Value)}
    {oc20 kV20 dc20 pm20 cd20 ct20 : Value} {od20 an20 : Option Addr} {sl20 : Array (Option Value)}
    {oc21 kV21 dc21 pm21 cd21 ct21 : Value} {od21 an21 : Option Addr} {sl21 : Array (Option Value)}
    {oc22 kV22 dc22 pm22 cd22 ct22 : Value} {od22 an22 : Option Addr} {sl22 : Array (Option Value)}
    {oc23 kV23 dc23 pm23 cd23 ct23 : Value} {od23 an23 : Option Addr} {sl23 : Array (Option Value)}
    {oc24 kV24 dc24 pm24 cd24 ct24 : Value} {od24 an24 : Option Addr} {sl24 : Array (Option Value)}
    {oc25 kV25 dc25 pm25 cd25 ct25 : Value} {od25 an25 : Option Addr} {sl25 : Array (Option Value)}
    {oc26 kV26 dc26 pm26 cd26 ct26 : Value} {od26 an26 : Option Addr} {sl26 : Array (Option Value)}
    {oc27 kV27 dc27 pm27 cd27 ct27 : Value} {od27 an27 : Option Addr} {sl27 : Array (Option Value)}
    {oc28 kV28 dc28 pm28 cd28 ct28 : Value} {od28 an28 : Option Addr} {sl28 : Array (Option Value)}
    {oc29 kV29 dc29 pm29 cd29 ct29 : Value} {od29 an29 : Option Addr} {sl29 : Array (Option Value)}
    {oc30 kV30 dc30 pm30 cd30 ct30 : Value} {od30 an30 : Option Addr} {sl30 : Array (Option Value)}
    {oc31 kV31 dc31 pm31 cd31 ct31 : Value} {od31 an31 : Option Addr} {sl31 : Array (Option Value)}
    {oc32 kV32 dc32 pm32 cd32 ct32 : Value} {od32 an32 : Option Addr} {sl32 : Array (Option Value)}
    {oc33 kV33 dc33 pm33 cd33 ct33 : Value} {od33 an33 : Option Addr} {sl33 : Array (Option Value)}
    {oc34 kV34 dc34 pm34 cd34 ct34 : Value} {od34 an34 : Option Addr} {sl34 : Array (Option Value)}
    {oc35 kV35 dc35 pm35 cd35 ct35 : Value} {od35 an35 : Option Addr} {sl35 : Array (Option Value)}
    {oc36 kV36 dc36 pm36 cd36 ct36 : Value} {od36 an36 : Option Addr} {sl36 : Array (Option Value)}
    {oc37 kV37 dc37 pm37 cd37 ct37 : Value} {od37 an37 : Option Addr} {sl37 : Array (Option Value)}
    {oc38 kV38 dc38 pm38 cd38 ct38 : Value} {od38 an38 : Option Addr} {sl38 : Array (Option Value)}
    {oc39 kV39 dc39 pm39 cd39 ct39 : Value} {od39 an39 : Option Addr} {sl39 : Array (Option Value)}
    {oc40 kV40 dc40 pm40 cd40 ct40 : Value} {od40 an40 : Option Addr} {sl40 : Array (Option Value)}
    {oc41 kV41 dc41 pm41 cd41 ct41 : Value} {od41 an41 : Option Addr} {sl41 : Array (Option Value)}
    {oc42 kV42 dc42 pm42 cd42 ct42 : Value} {od42 an42 : Option Addr} {sl42 : Array (Option Value)}
    {oc43 kV43 dc43 pm43 cd43 ct43 : Value} {od43 an43 : Option Addr} {sl43 : Array (Option Value)}
    {oc44 kV44 dc44 pm44 cd44 ct44 : Value} {od44 an44 : Option Addr} {sl44 : Array (Option Value)}
    {oc45 kV45 dc45 pm45 cd45 ct45 : Value} {od45 an45 : Option Addr} {sl45 : Array (Option Value)}
    {oc46 kV46 dc46 pm46 cd46 ct46 : Value} {od46 an46 : Option Addr} {sl46 : Array (Option Value)}
    {oc47 kV47 dc47 pm47 cd47 ct47 : Value} {od47 an47 : Option Addr} {sl47 : Array (Option Value)}
    {oc48 kV48 dc48 pm48 cd48 ct48 : Value} {od48 an48 : Option Addr} {sl48 : Array (Option Value)}
    {oc49 kV49 dc49 pm49 cd49 ct49 : Value} {od49 an49 : Option Addr} {sl49 : Array (Option Value)}
    {oc50 kV50 dc50 pm50 cd50 ct50 : Value} {od50 an50 : Option Addr} {sl50 : Array (Option Value)}
    {oc51 kV51 dc51 pm51 cd51 ct51 : Value} {od51 an51 : Option Addr} {sl51 : Array (Option Value)}
    {tk_MOST_CELLS : Tok}
    {tk_MOST_SIZE : Tok}
    {tk_MOST_DEPTH : Tok}
    {tk_MOST_REACH : Tok}
    {tk_MOST_WRITTEN : Tok}
    {tk_MOST_TIMES : Tok}
    {des_MIRRORED_DIRECTION : Array DictEntry} {dn_MIRRORED_DIRECTION : Nat} {dsl_MIRRORED_DIRECTION : Array (Option Value)}
    {td_MIRRORED_DIRECTION_0 : Tok}
    {td_MIRRORED_DIRECTION_1 : Tok}
    {td_MIRRORED_DIRECTION_2 : Tok}
    {tk_MOST_WEIGHTS : Tok}
    {tk_MOST_WEIGHT : Tok}
    {od_ENDS : Option Addr} {n_ENDS : Nat} {sl_ENDS : Array (Option Value)} {tk_ENDS_0 tk_ENDS_1 : Tok}
    {od_WAYS : Option Addr} {n_WAYS : Nat} {sl_WAYS : Array (Option Value)} {tk_WAYS_0 tk_WAYS_1 tk_WAYS_2 : Tok}
    (g_SweepError : PySem.W.nsIn K mainGlobals "SweepError" = some (some (.ref c_SweepError)))
    (g_NoRow : PySem.W.nsIn K mainGlobals "NoRow" = some (some (.ref c_NoRow)))
    (g_NoSweep : PySem.W.nsIn K mainGlobals "NoSweep" = some (some (.ref c_NoSweep)))
    (g_NoNumber : PySem.W.nsIn K mainGlobals "NoNumber" = some (some (.ref c_NoNumber)))
    (g_TooLarge : PySem.W.nsIn K mainGlobals "TooLarge" = some (some (.ref c_TooLarge)))
    (g_Chain : PySem.W.nsIn K mainGlobals "Chain" = some (some (.ref c_Chain)))
    (g_Sweep : PySem.W.nsIn K mainGlobals "Sweep" = some (some (.ref c_Sweep)))
    (cst_MOST_CELLS : PySem.W.nsIn K mainGlobals "MOST_CELLS" = some (some (.int 200 tk_MOST_CELLS)))
    (cst_MOST_SIZE : PySem.W.nsIn K mainGlobals "MOST_SIZE" = some (some (.int 8 tk_MOST_SIZE)))
    (cst_MOST_DEPTH : PySem.W.nsIn K mainGlobals "MOST_DEPTH" = some (some (.int 20 tk_MOST_DEPTH)))
    (cst_MOST_REACH : PySem.W.nsIn K mainGlobals "MOST_REACH" = some (some (.int 6 tk_MOST_REACH)))
    (cst_MOST_WRITTEN : PySem.W.nsIn K mainGlobals "MOST_WRITTEN" = some (some (.int 3 tk_MOST_WRITTEN)))
    (cst_MOST_TIMES : PySem.W.nsIn K mainGlobals "MOST_TIMES" = some (some (.int 8 tk_MOST_TIMES)))
    (cst_MIRRORED_DIRECTION : PySem.W.nsIn K mainGlobals "MIRRORED_DIRECTION" = some (some (.ref k_MIRRORED_DIRECTION)))
    (cst_MOST_WEIGHTS : PySem.W.nsIn K mainGlobals "MOST_WEIGHTS" = some (some (.int 7 tk_MOST_WEIGHTS)))
    (cst_MOST_WEIGHT : PySem.W.nsIn K mainGlobals "MOST_WEIGHT" = some (some (.int 3 tk_MOST_WEIGHT)))
    (cst_ENDS : PySem.W.nsIn K mainGlobals "ENDS" = some (some (.ref k_ENDS)))
    (cst_WAYS : PySem.W.nsIn K mainGlobals "WAYS" = some (some (.ref k_WAYS)))
    (x_SweepError : K.lookup c_SweepError = some (excClassObj nm_SweepError qn_SweepError c_SweepError N_SweepError bs_SweepError [.type "ValueError", .type "Exception", .type "BaseException", .type "object"] true sn_SweepError sub_SweepError ab_SweepError col_SweepError dd_SweepError m0_SweepError m1_SweepError m2_SweepError m3_SweepError m5_SweepError "ValueError.__new__"))
    (sa_SweepError : PySem.W.findIn K (.ref c_SweepError) "__setattr__" = some (some (.builtin "object.__setattr__")))
    (ga_SweepError : PySem.W.findIn K (.ref c_SweepError) "__getattribute__" = some (some (.builtin "BaseException.__getattribute__")))
    (gg_SweepError : PySem.W.findIn K (.ref c_SweepError) "__getattr__" = some none)
    (sv_SweepError : PySem.W.subIn K (.ref c_SweepError) (.type "ValueError") = some true)
    (ec_SweepError : PySem.W.subIn K (.ref c_SweepError) (.type "BaseException") = some true)
    (tc_SweepError : PySem.W.typeIn K (.ref c_SweepError) = some (.type "type"))
    (kc_SweepError : PySem.W.keepIn K (.ref c_SweepError) = true)
    (hc_SweepError : PySem.W.hasDictIn K c_SweepError = true)
    (ic_SweepError : PySem.W.isClsIn K c_SweepError = true)
    (ha_SweepError : PySem.W.findIn K (.ref c_SweepError) "__class__" = some (some (.builtin "object.__class__")))
    (hm_SweepError : PySem.W.mroIn K c_SweepError (.type "object") = some true)
    (s_SweepError_SweepError : PySem.W.subIn K (.ref c_SweepError) (.ref c_SweepError) = some true)
    (s_SweepError_NoRow : PySem.W.subIn K (.ref c_SweepError) (.ref c_NoRow) = some false)
    (s_SweepError_NoSweep : PySem.W.subIn K (.ref c_SweepError) (.ref c_NoSweep) = some false)
    (s_SweepError_NoNumber : PySem.W.subIn K (.ref c_SweepError) (.ref c_NoNumber) = some false)
    (s_SweepError_TooLarge : PySem.W.subIn K (.ref c_SweepError) (.ref c_TooLarge) = some false)
    (x_NoRow : K.lookup c_NoRow = some (excClassObj nm_NoRow qn_NoRow c_NoRow N_NoRow bs_NoRow [.ref c_SweepError, .type "ValueError", .type "Exception", .type "BaseException", .type "object"] true sn_NoRow sub_NoRow ab_NoRow col_NoRow dd_NoRow m0_NoRow m1_NoRow m2_NoRow m3_NoRow m5_NoRow "ValueError.__new__"))
    (sa_NoRow : PySem.W.findIn K (.ref c_NoRow) "__setattr__" = some (some (.builtin "object.__setattr__")))
    (ga_NoRow : PySem.W.findIn K (.ref c_NoRow) "__getattribute__" = some (some (.builtin "BaseException.__getattribute__")))
    (gg_NoRow : PySem.W.findIn K (.ref c_NoRow) "__getattr__" = some none)
    (sv_NoRow : PySem.W.subIn K (.ref c_NoRow) (.type "ValueError") = some true)
    (ec_NoRow : PySem.W.subIn K (.ref c_NoRow) (.type "BaseException") = some true)
    (tc_NoRow : PySem.W.typeIn K (.ref c_NoRow) = some (.type "type"))
    (kc_NoRow : PySem.W.keepIn K (.ref c_NoRow) = true)
    (hc_NoRow : PySem.W.hasDictIn K c_NoRow = true)
    (ic_NoRow : PySem.W.isClsIn K c_NoRow = true)
    (ha_NoRow : PySem.W.findIn K (.ref c_NoRow) "__class__" = some (some (.builtin "object.__class__")))
    (hm_NoRow : PySem.W.mroIn K c_NoRow (.type "object") = some true)
    (s_NoRow_SweepError : PySem.W.subIn K (.ref c_NoRow) (.ref c_SweepError) = some true)
    (s_NoRow_NoRow : PySem.W.subIn K (.ref c_NoRow) (.ref c_NoRow) = some true)
    (s_NoRow_NoSweep : PySem.W.subIn K (.ref c_NoRow) (.ref c_NoSweep) = some false)
    (s_NoRow_NoNumber : PySem.W.subIn K (.ref c_NoRow) (.ref c_NoNumber) = some false)
    (s_NoRow_TooLarge : PySem.W.subIn K (.ref c_NoRow) (.ref c_TooLarge) = some false)
    (q0 : PySem.W.findIn K (.ref c_NoRow) "__init__" = some (some (.ref a_NoRow__init__)))
    (l0 : K.lookup a_NoRow__init__ = some ⟨oc0, od0, .func (PySem.W.fnOf "__init__" "NoRow.__init__" (defArgs s_NoRow__init__) (defBody s_NoRow__init__) (defScope s_NoRow__init__) .none kV0 dc0 pm0 an0 cd0 ct0), sl0⟩)
    (cc0 : PySem.W.codeIn K cd0 "NoRow.__init__" = true)
    (kk0 : PySem.W.keepIn K (.ref a_NoRow__init__) = true)
    (t_NoRow__init__ : PySem.W.typeIn K (.ref a_NoRow__init__) = some (.type "function"))
    (no_NoRow_index : PySem.W.findIn K (.ref c_NoRow) "index" = some none)
    (x_NoSweep : K.lookup c_NoSweep = some (excClassObj nm_NoSweep qn_NoSweep c_NoSweep N_NoSweep bs_NoSweep [.ref c_SweepError, .type "ValueError", .type "Exception", .type "BaseException", .type "object"] true sn_NoSweep sub_NoSweep ab_NoSweep col_NoSweep dd_NoSweep m0_NoSweep m1_NoSweep m2_NoSweep m3_NoSweep m5_NoSweep "ValueError.__new__"))
    (sa_NoSweep : PySem.W.findIn K (.ref c_NoSweep) "__setattr__" = some (some (.builtin "object.__setattr__")))
    (ga_NoSweep : PySem.W.findIn K (.ref c_NoSweep) "__getattribute__" = some (some (.builtin "BaseException.__getattribute__")))
    (gg_NoSweep : PySem.W.findIn K (.ref c_NoSweep) "__getattr__" = some none)
    (sv_NoSweep : PySem.W.subIn K (.ref c_NoSweep) (.type "ValueError") = some true)
    (ec_NoSweep : PySem.W.subIn K (.ref c_NoSweep) (.type "BaseException") = some true)
    (tc_NoSweep : PySem.W.typeIn K (.ref c_NoSweep) = some (.type "type"))
    (kc_NoSweep : PySem.W.keepIn K (.ref c_NoSweep) = true)
    (hc_NoSweep : PySem.W.hasDictIn K c_NoSweep = true)
    (ic_NoSweep : PySem.W.isClsIn K c_NoSweep = true)
    (ha_NoSweep : PySem.W.findIn K (.ref c_NoSweep) "__class__" = some (some (.builtin "object.__class__")))
    (hm_NoSweep : PySem.W.mroIn K c_NoSweep (.type "object") = some true)
    (s_NoSweep_SweepError : PySem.W.subIn K (.ref c_NoSweep) (.ref c_SweepError) = some true)
    (s_NoSweep_NoRow : PySem.W.subIn K (.ref c_NoSweep) (.ref c_NoRow) = some false)
    (s_NoSweep_NoSweep : PySem.W.subIn K (.ref c_NoSweep) (.ref c_NoSweep) = some true)
    (s_NoSweep_NoNumber : PySem.W.subIn K (.ref c_NoSweep) (.ref c_NoNumber) = some false)
    (s_NoSweep_TooLarge : PySem.W.subIn K (.ref c_NoSweep) (.ref c_TooLarge) = some false)
    (q1 : PySem.W.findIn K (.ref c_NoSweep) "__init__" = some (some (.ref a_NoSweep__init__)))
    (l1 : K.lookup a_NoSweep__init__ = some ⟨oc1, od1, .func (PySem.W.fnOf "__init__" "NoSweep.__init__" (defArgs s_NoSweep__init__) (defBody s_NoSweep__init__) (defScope s_NoSweep__init__) .none kV1 dc1 pm1 an1 cd1 ct1), sl1⟩)
    (cc1 : PySem.W.codeIn K cd1 "NoSweep.__init__" = true)
    (kk1 : PySem.W.keepIn K (.ref a_NoSweep__init__) = true)
    (t_NoSweep__init__ : PySem.W.typeIn K (.ref a_NoSweep__init__) = some (.type "function"))
    (no_NoSweep_part : PySem.W.findIn K (.ref c_NoSweep) "part" = some none)
    (x_NoNumber : K.lookup c_NoNumber = some (excClassObj nm_NoNumber qn_NoNumber c_NoNumber N_NoNumber bs_NoNumber [.ref c_SweepError, .type "ValueError", .type "Exception", .type "BaseException", .type "object"] true sn_NoNumber sub_NoNumber ab_NoNumber col_NoNumber dd_NoNumber m0_NoNumber m1_NoNumber m2_NoNumber m3_NoNumber m5_NoNumber "ValueError.__new__"))
    (sa_NoNumber : PySem.W.findIn K (.ref c_NoNumber) "__setattr__" = some (some (.builtin "object.__setattr__")))
    (ga_NoNumber : PySem.W.findIn K (.ref c_NoNumber) "__getattribute__" = some (some (.builtin "BaseException.__getattribute__")))
    (gg_NoNumber : PySem.W.findIn K (.ref c_NoNumber) "__getattr__" = some none)
    (sv_NoNumber : PySem.W.subIn K (.ref c_NoNumber) (.type "ValueError") = some true)
    (ec_NoNumber : PySem.W.subIn K (.ref c_NoNumber) (.type "BaseException") = some true)
    (tc_NoNumber : PySem.W.typeIn K (.ref c_NoNumber) = some (.type "type"))
    (kc_NoNumber : PySem.W.keepIn K (.ref c_NoNumber) = true)
    (hc_NoNumber : PySem.W.hasDictIn K c_NoNumber = true)
    (ic_NoNumber : PySem.W.isClsIn K c_NoNumber = true)
    (ha_NoNumber : PySem.W.findIn K (.ref c_NoNumber) "__class__" = some (some (.builtin "object.__class__")))
    (hm_NoNumber : PySem.W.mroIn K c_NoNumber (.type "object") = some true)
    (s_NoNumber_SweepError : PySem.W.subIn K (.ref c_NoNumber) (.ref c_SweepError) = some true)
    (s_NoNumber_NoRow : PySem.W.subIn K (.ref c_NoNumber) (.ref c_NoRow) = some false)
    (s_NoNumber_NoSweep : PySem.W.subIn K (.ref c_NoNumber) (.ref c_NoSweep) = some false)
    (s_NoNumber_NoNumber : PySem.W.subIn K (.ref c_NoNumber) (.ref c_NoNumber) = some true)
    (s_NoNumber_TooLarge : PySem.W.subIn K (.ref c_NoNumber) (.ref c_TooLarge) = some false)
    (q2 : PySem.W.findIn K (.ref c_NoNumber) "__init__" = some (some (.ref a_NoNumber__init__)))
    (l2 : K.lookup a_NoNumber__init__ = some ⟨oc2, od2, .func (PySem.W.fnOf "__init__" "NoNumber.__init__" (defArgs s_NoNumber__init__) (defBody s_NoNumber__init__) (defScope s_NoNumber__init__) .none kV2 dc2 pm2 an2 cd2 ct2), sl2⟩)
    (cc2 : PySem.W.codeIn K cd2 "NoNumber.__init__" = true)
    (kk2 : PySem.W.keepIn K (.ref a_NoNumber__init__) = true)
    (t_NoNumber__init__ : PySem.W.typeIn K (.ref a_NoNumber__init__) = some (.type "function"))
    (no_NoNumber_name : PySem.W.findIn K (.ref c_NoNumber) "name" = some none)
    (x_TooLarge : K.lookup c_TooLarge = some (excClassObj nm_TooLarge qn_TooLarge c_TooLarge N_TooLarge bs_TooLarge [.ref c_SweepError, .type "ValueError", .type "Exception", .type "BaseException", .type "object"] true sn_TooLarge sub_TooLarge ab_TooLarge col_TooLarge dd_TooLarge m0_TooLarge m1_TooLarge m2_TooLarge m3_TooLarge m5_TooLarge "ValueError.__new__"))
    (sa_TooLarge : PySem.W.findIn K (.ref c_TooLarge) "__setattr__" = some (some (.builtin "object.__setattr__")))
    (ga_TooLarge : PySem.W.findIn K (.ref c_TooLarge) "__getattribute__" = some (some (.builtin "BaseException.__getattribute__")))
    (gg_TooLarge : PySem.W.findIn K (.ref c_TooLarge) "__getattr__" = some none)
    (sv_TooLarge : PySem.W.subIn K (.ref c_TooLarge) (.type "ValueError") = some true)
    (ec_TooLarge : PySem.W.subIn K (.ref c_TooLarge) (.type "BaseException") = some true)
    (tc_TooLarge : PySem.W.typeIn K (.ref c_TooLarge) = some (.type "type"))
    (kc_TooLarge : PySem.W.keepIn K (.ref c_TooLarge) = true)
    (hc_TooLarge : PySem.W.hasDictIn K c_TooLarge = true)
    (ic_TooLarge : PySem.W.isClsIn K c_TooLarge = true)
    (ha_TooLarge : PySem.W.findIn K (.ref c_TooLarge) "__class__" = some (some (.builtin "object.__class__")))
    (hm_TooLarge : PySem.W.mroIn K c_TooLarge (.type "object") = some true)
    (s_TooLarge_SweepError : PySem.W.subIn K (.ref c_TooLarge) (.ref c_SweepError) = some true)
    (s_TooLarge_NoRow : PySem.W.subIn K (.ref c_TooLarge) (.ref c_NoRow) = some false)
    (s_TooLarge_NoSweep : PySem.W.subIn K (.ref c_TooLarge) (.ref c_NoSweep) = some false)
    (s_TooLarge_NoNumber : PySem.W.subIn K (.ref c_TooLarge) (.ref c_NoNumber) = some false)
    (s_TooLarge_TooLarge : PySem.W.subIn K (.ref c_TooLarge) (.ref c_TooLarge) = some true)
    (q3 : PySem.W.findIn K (.ref c_TooLarge) "__init__" = some (some (.ref a_TooLarge__init__)))
    (l3 : K.lookup a_TooLarge__init__ = some ⟨oc3, od3, .func (PySem.W.fnOf "__init__" "TooLarge.__init__" (defArgs s_TooLarge__init__) (defBody s_TooLarge__init__) (defScope s_TooLarge__init__) .none kV3 dc3 pm3 an3 cd3 ct3), sl3⟩)
    (cc3 : PySem.W.codeIn K cd3 "TooLarge.__init__" = true)
    (kk3 : PySem.W.keepIn K (.ref a_TooLarge__init__) = true)
    (t_TooLarge__init__ : PySem.W.typeIn K (.ref a_TooLarge__init__) = some (.type "function"))
    (no_TooLarge_part : PySem.W.findIn K (.ref c_TooLarge) "part" = some none)
    (hn : PySem.W.specialIn K (.builtin "object.__class__") "__get__" = some (some (.builtin "getset_descriptor.__get__")))
    (ht : PySem.W.takesIn K (.builtin "object.__class__") = some true)
    (pg_Chain : PySem.W.plainGet K c_Chain Str.empty = true)
    (hd_Chain : PySem.W.hasDictIn K c_Chain = true)
    (po_Chain : PySem.W.plainOver K c_Chain = true)
    (sa_Chain : PySem.W.findIn K (.ref c_Chain) "__setattr__" = some (some (.builtin "object.__setattr__")))
    (q4 : PySem.W.findIn K (.ref c_Chain) "__init__" = some (some (.ref a_Chain__init__)))
    (l4 : K.lookup a_Chain__init__ = some ⟨oc4, od4, .func (PySem.W.fnOf "__init__" "Chain.__init__" (defArgs s_Chain__init__) (defBody s_Chain__init__) (defScope s_Chain__init__) .none (.ref kd_Chain__init__) dc4 pm4 an4 cd4 ct4), sl4⟩)
    (cc4 : PySem.W.codeIn K cd4 "Chain.__init__" = true)
    (kk4 : PySem.W.keepIn K (.ref a_Chain__init__) = true)
    (e_Chain__init___times : PySem.W.nsIn K kd_Chain__init__ "times" = some (some (.int 1 tk_Chain__init___times)))
    (fn_Chain__init__ : PySem.W.isFn K (.ref a_Chain__init__) = true)
    (q5 : PySem.W.findIn K (.ref c_Chain) "__call__" = some (some (.ref a_Chain__call__)))
    (l5 : K.lookup a_Chain__call__ = some ⟨oc5, od5, .func (PySem.W.fnOf "__call__" "Chain.__call__" (defArgs s_Chain__call__) (defBody s_Chain__call__) (defScope s_Chain__call__) .none kV5 dc5 pm5 an5 cd5 ct5), sl5⟩)
    (cc5 : PySem.W.codeIn K cd5 "Chain.__call__" = true)
    (kk5 : PySem.W.keepIn K (.ref a_Chain__call__) = true)
    (fn_Chain__call__ : PySem.W.isFn K (.ref a_Chain__call__) = true)
    (q6 : PySem.W.findIn K (.ref c_Chain) "__eq__" = some (some (.ref a_Chain__eq__)))
    (l6 : K.lookup a_Chain__eq__ = some ⟨oc6, od6, .func (PySem.W.fnOf "__eq__" "Chain.__eq__" (defArgs s_Chain__eq__) (defBody s_Chain__eq__) (defScope s_Chain__eq__) .none kV6 dc6 pm6 an6 cd6 ct6), sl6⟩)
    (cc6 : PySem.W.codeIn K cd6 "Chain.__eq__" = true)
    (kk6 : PySem.W.keepIn K (.ref a_Chain__eq__) = true)
    (fn_Chain__eq__ : PySem.W.isFn K (.ref a_Chain__eq__) = true)
    (q7 : PySem.W.findIn K (.ref c_Chain) "__rshift__" = some (some (.ref a_Chain__rshift__)))
    (l7 : K.lookup a_Chain__rshift__ = some ⟨oc7, od7, .func (PySem.W.fnOf "__rshift__" "Chain.__rshift__" (defArgs s_Chain__rshift__) (defBody s_Chain__rshift__) (defScope s_Chain__rshift__) .none kV7 dc7 pm7 an7 cd7 ct7), sl7⟩)
    (cc7 : PySem.W.codeIn K cd7 "Chain.__rshift__" = true)
    (kk7 : PySem.W.keepIn K (.ref a_Chain__rshift__) = true)
    (fn_Chain__rshift__ : PySem.W.isFn K (.ref a_Chain__rshift__) = true)
    (q8 : PySem.W.findIn K (.ref c_Chain) "__or__" = some (some (.ref a_Chain__or__)))
    (l8 : K.lookup a_Chain__or__ = some ⟨oc8, od8, .func (PySem.W.fnOf "__or__" "Chain.__or__" (defArgs s_Chain__or__) (defBody s_Chain__or__) (defScope s_Chain__or__) .none kV8 dc8 pm8 an8 cd8 ct8), sl8⟩)
    (cc8 : PySem.W.codeIn K cd8 "Chain.__or__" = true)
    (kk8 : PySem.W.keepIn K (.ref a_Chain__or__) = true)
    (fn_Chain__or__ : PySem.W.isFn K (.ref a_Chain__or__) = true)
    (q9 : PySem.W.findIn K (.ref c_Chain) "__and__" = some (some (.ref a_Chain__and__)))
    (l9 : K.lookup a_Chain__and__ = some ⟨oc9, od9, .func (PySem.W.fnOf "__and__" "Chain.__and__" (defArgs s_Chain__and__) (defBody s_Chain__and__) (defScope s_Chain__and__) .none kV9 dc9 pm9 an9 cd9 ct9), sl9⟩)
    (cc9 : PySem.W.codeIn K cd9 "Chain.__and__" = true)
    (kk9 : PySem.W.keepIn K (.ref a_Chain__and__) = true)
    (fn_Chain__and__ : PySem.W.isFn K (.ref a_Chain__and__) = true)
    (q10 : PySem.W.findIn K (.ref c_Chain) "__invert__" = some (some (.ref a_Chain__invert__)))
    (l10 : K.lookup a_Chain__invert__ = some ⟨oc10, od10, .func (PySem.W.fnOf "__invert__" "Chain.__invert__" (defArgs s_Chain__invert__) (defBody s_Chain__invert__) (defScope s_Chain__invert__) .none kV10 dc10 pm10 an10 cd10 ct10), sl10⟩)
    (cc10 : PySem.W.codeIn K cd10 "Chain.__invert__" = true)
    (kk10 : PySem.W.keepIn K (.ref a_Chain__invert__) = true)
    (fn_Chain__invert__ : PySem.W.isFn K (.ref a_Chain__invert__) = true)
    (q11 : PySem.W.findIn K (.ref c_Chain) "__pow__" = some (some (.ref a_Chain__pow__)))
    (l11 : K.lookup a_Chain__pow__ = some ⟨oc11, od11, .func (PySem.W.fnOf "__pow__" "Chain.__pow__" (defArgs s_Chain__pow__) (defBody s_Chain__pow__) (defScope s_Chain__pow__) .none kV11 dc11 pm11 an11 cd11 ct11), sl11⟩)
    (cc11 : PySem.W.codeIn K cd11 "Chain.__pow__" = true)
    (kk11 : PySem.W.keepIn K (.ref a_Chain__pow__) = true)
    (fn_Chain__pow__ : PySem.W.isFn K (.ref a_Chain__pow__) = true)
    (q12 : PySem.W.findIn K (.ref c_Chain) "repeated" = some (some (.ref a_Chainrepeated)))
    (l12 : K.lookup a_Chainrepeated = some ⟨oc12, od12, .func (PySem.W.fnOf "repeated" "Chain.repeated" (defArgs s_Chainrepeated) (defBody s_Chainrepeated) (defScope s_Chainrepeated) .none kV12 dc12 pm12 an12 cd12 ct12), sl12⟩)
    (cc12 : PySem.W.codeIn K cd12 "Chain.repeated" = true)
    (kk12 : PySem.W.keepIn K (.ref a_Chainrepeated) = true)
    (fn_Chainrepeated : PySem.W.isFn K (.ref a_Chainrepeated) = true)
    (q13 : PySem.W.findIn K (.ref c_Chain) "mirrored" = some (some (.ref a_Chainmirrored)))
    (l13 : K.lookup a_Chainmirrored = some ⟨oc13, od13, .func (PySem.W.fnOf "mirrored" "Chain.mirrored" (defArgs s_Chainmirrored) (defBody s_Chainmirrored) (defScope s_Chainmirrored) .none kV13 dc13 pm13 an13 cd13 ct13), sl13⟩)
    (cc13 : PySem.W.codeIn K cd13 "Chain.mirrored" = true)
    (kk13 : PySem.W.keepIn K (.ref a_Chainmirrored) = true)
    (fn_Chainmirrored : PySem.W.isFn K (.ref a_Chainmirrored) = true)
    (q14 : PySem.W.findIn K (.ref c_Chain) "sweeps" = some (some (.ref a_Chainsweeps)))
    (l14 : K.lookup a_Chainsweeps = some ⟨oc14, od14, .func (PySem.W.fnOf "sweeps" "Chain.sweeps" (defArgs s_Chainsweeps) (defBody s_Chainsweeps) (defScope s_Chainsweeps) .none kV14 dc14 pm14 an14 cd14 ct14), sl14⟩)
    (cc14 : PySem.W.codeIn K cd14 "Chain.sweeps" = true)
    (kk14 : PySem.W.keepIn K (.ref a_Chainsweeps) = true)
    (fn_Chainsweeps : PySem.W.isFn K (.ref a_Chainsweeps) = true)
    (pg_Sweep : PySem.W.plainGet K c_Sweep Str.empty = true)
    (hd_Sweep : PySem.W.hasDictIn K c_Sweep = true)
    (po_Sweep : PySem.W.plainOver K c_Sweep = true)
    (sa_Sweep : PySem.W.findIn K (.ref c_Sweep) "__setattr__" = some (some (.builtin "object.__setattr__")))
    (q15 : PySem.W.findIn K (.ref c_Sweep) "__init__" = some (some (.ref a_Sweep__init__)))
    (l15 : K.lookup a_Sweep__init__ = some ⟨oc15, od15, .func (PySem.W.fnOf "__init__" "Sweep.__init__" (defArgs s_Sweep__init__) (defBody s_Sweep__init__) (defScope s_Sweep__init__) .none (.ref kd_Sweep__init__) dc15 pm15 an15 cd15 ct15), sl15⟩)
    (cc15 : PySem.W.codeIn K cd15 "Sweep.__init__" = true)
    (kk15 : PySem.W.keepIn K (.ref a_Sweep__init__) = true)
    (e_Sweep__init___own : PySem.W.nsIn K kd_Sweep__init__ "own" = some (some (.none)))
    (e_Sweep__init___ends : PySem.W.nsIn K kd_Sweep__init__ "ends" = some (some (.str "held" tk_Sweep__init___ends)))
    (e_Sweep__init___way : PySem.W.nsIn K kd_Sweep__init__ "way" = some (some (.str "all" tk_Sweep__init___way)))
    (fn_Sweep__init__ : PySem.W.isFn K (.ref a_Sweep__init__) = true)
    (q16 : PySem.W.findIn K (.ref c_Sweep) "__eq__" = some (some (.ref a_Sweep__eq__)))
    (l16 : K.lookup a_Sweep__eq__ = some ⟨oc16, od16, .func (PySem.W.fnOf "__eq__" "Sweep.__eq__" (defArgs s_Sweep__eq__) (defBody s_Sweep__eq__) (defScope s_Sweep__eq__) .none kV16 dc16 pm16 an16 cd16 ct16), sl16⟩)
    (cc16 : PySem.W.codeIn K cd16 "Sweep.__eq__" = true)
    (kk16 : PySem.W.keepIn K (.ref a_Sweep__eq__) = true)
    (fn_Sweep__eq__ : PySem.W.isFn K (.ref a_Sweep__eq__) = true)
    (mk_Chain : PySem.W.makesIn K c_Chain = true)
    (kc_Chain : PySem.W.keepIn K (.ref c_Chain) = true)
    (rd_Chain : PySem.W.readsIn K c_Chain (.type "type") = true)
    (gs_Chain : PySem.W.specialIn K (.ref c_Chain) "__getattribute__" = some (some (.builtin "type.__getattribute__")))
    (ci_Chain : PySem.W.findCls K (.ref c_Chain) (.type "type") "__init__" = some (.val (.ref a_Chain__init__)))
    (fi_Chain__call__ : PySem.W.fnIn K a_Chain__call__ = true)
    (na_Chain_depth : PySem.W.findIn K (.ref c_Chain) "depth" = some none)
    (na_Chain_direction : PySem.W.findIn K (.ref c_Chain) "direction" = some none)
    (na_Chain_ends : PySem.W.findIn K (.ref c_Chain) "ends" = some none)
    (na_Chain_kind : PySem.W.findIn K (.ref c_Chain) "kind" = some none)
    (na_Chain_own : PySem.W.findIn K (.ref c_Chain) "own" = some none)
    (na_Chain_parts : PySem.W.findIn K (.ref c_Chain) "parts" = some none)
    (na_Chain_rank : PySem.W.findIn K (.ref c_Chain) "rank" = some none)
    (na_Chain_reach : PySem.W.findIn K (.ref c_Chain) "reach" = some none)
    (na_Chain_size : PySem.W.findIn K (.ref c_Chain) "size" = some none)
    (na_Chain_times : PySem.W.findIn K (.ref c_Chain) "times" = some none)
    (na_Chain_way : PySem.W.findIn K (.ref c_Chain) "way" = some none)
    (na_Chain_weights : PySem.W.findIn K (.ref c_Chain) "weights" = some none)
    (na_Chain_written : PySem.W.findIn K (.ref c_Chain) "written" = some none)
    (ic_Chain : PySem.W.isClsIn K c_Chain = true)
    (tc_Chain : PySem.W.typeIn K (.ref c_Chain) = some (.type "type"))
    (ha_Chain : PySem.W.findIn K (.ref c_Chain) "__class__" = some (some (.builtin "object.__class__")))
    (hm_Chain : PySem.W.mroIn K c_Chain (.type "object") = some true)
    (ne_Chain : PySem.W.findIn K (.ref c_Chain) "__ne__" = some (some (.builtin "object.__ne__")))
    (s_Chain_Chain : PySem.W.subIn K (.ref c_Chain) (.ref c_Chain) = some true)
    (s_Chain_Sweep : PySem.W.subIn K (.ref c_Chain) (.ref c_Sweep) = some false)
    (mk_Sweep : PySem.W.makesIn K c_Sweep = true)
    (kc_Sweep : PySem.W.keepIn K (.ref c_Sweep) = true)
    (rd_Sweep : PySem.W.readsIn K c_Sweep (.type "type") = true)
    (gs_Sweep : PySem.W.specialIn K (.ref c_Sweep) "__getattribute__" = some (some (.builtin "type.__getattribute__")))
    (ci_Sweep : PySem.W.findCls K (.ref c_Sweep) (.type "type") "__init__" = some (.val (.ref a_Sweep__init__)))
    (me_Sweep___and__ : PySem.W.findIn K (.ref c_Sweep) "__and__" = some (some (.ref a_Chain__and__)))
    (me_Sweep___call__ : PySem.W.findIn K (.ref c_Sweep) "__call__" = some (some (.ref a_Chain__call__)))
    (me_Sweep___invert__ : PySem.W.findIn K (.ref c_Sweep) "__invert__" = some (some (.ref a_Chain__invert__)))
    (me_Sweep___or__ : PySem.W.findIn K (.ref c_Sweep) "__or__" = some (some (.ref a_Chain__or__)))
    (me_Sweep___pow__ : PySem.W.findIn K (.ref c_Sweep) "__pow__" = some (some (.ref a_Chain__pow__)))
    (me_Sweep___rshift__ : PySem.W.findIn K (.ref c_Sweep) "__rshift__" = some (some (.ref a_Chain__rshift__)))
    (me_Sweep_mirrored : PySem.W.findIn K (.ref c_Sweep) "mirrored" = some (some (.ref a_Chainmirrored)))
    (me_Sweep_repeated : PySem.W.findIn K (.ref c_Sweep) "repeated" = some (some (.ref a_Chainrepeated)))
    (me_Sweep_sweeps : PySem.W.findIn K (.ref c_Sweep) "sweeps" = some (some (.ref a_Chainsweeps)))
    (na_Sweep_depth : PySem.W.findIn K (.ref c_Sweep) "depth" = some none)
    (na_Sweep_direction : PySem.W.findIn K (.ref c_Sweep) "direction" = some none)
    (na_Sweep_ends : PySem.W.findIn K (.ref c_Sweep) "ends" = some none)
    (na_Sweep_kind : PySem.W.findIn K (.ref c_Sweep) "kind" = some none)
    (na_Sweep_own : PySem.W.findIn K (.ref c_Sweep) "own" = some none)
    (na_Sweep_parts : PySem.W.findIn K (.ref c_Sweep) "parts" = some none)
    (na_Sweep_rank : PySem.W.findIn K (.ref c_Sweep) "rank" = some none)
    (na_Sweep_reach : PySem.W.findIn K (.ref c_Sweep) "reach" = some none)
    (na_Sweep_size : PySem.W.findIn K (.ref c_Sweep) "size" = some none)
    (na_Sweep_times : PySem.W.findIn K (.ref c_Sweep) "times" = some none)
    (na_Sweep_way : PySem.W.findIn K (.ref c_Sweep) "way" = some none)
    (na_Sweep_weights : PySem.W.findIn K (.ref c_Sweep) "weights" = some none)
    (na_Sweep_written : PySem.W.findIn K (.ref c_Sweep) "written" = some none)
    (ic_Sweep : PySem.W.isClsIn K c_Sweep = true)
    (tc_Sweep : PySem.W.typeIn K (.ref c_Sweep) = some (.type "type"))
    (ha_Sweep : PySem.W.findIn K (.ref c_Sweep) "__class__" = some (some (.builtin "object.__class__")))
    (hm_Sweep : PySem.W.mroIn K c_Sweep (.type "object") = some true)
    (ne_Sweep : PySem.W.findIn K (.ref c_Sweep) "__ne__" = some (some (.builtin "object.__ne__")))
    (s_Sweep_Chain : PySem.W.subIn K (.ref c_Sweep) (.ref c_Chain) = some true)
    (s_Sweep_Sweep : PySem.W.subIn K (.ref c_Sweep) (.ref c_Sweep) = some true)
    (noG : PySem.W.findIn K (.type "type") "__getattr__" = some none)
    (noT_and : PySem.W.findIn K (.type "type") "__rand__" = some none)
    (noT_rshift : PySem.W.findIn K (.type "type") "__rrshift__" = some none)
    (sf_Chain : PySem.W.selfFirst K c_Chain = true)
    (cdl_Chain : PySem.W.clsIn K c_Chain = some cdt_Chain)
    (cdn_Chain : cdt_Chain.name = "Chain")
    (obl_Chain : K.lookup c_Chain = some obj_Chain)
    (obc_Chain : obj_Chain.cls = .type "type")
    (rn_Chain_and : PySem.W.findIn K (.ref c_Chain) "__rand__" = some none)
    (rn_Chain_or : PySem.W.findIn K (.ref c_Chain) "__ror__" = some none)
    (rn_Chain_rshift : PySem.W.findIn K (.ref c_Chain) "__rrshift__" = some none)
    (ro_Chain : PySem.W.findCls K (.ref c_Chain) (.type "type") "__ror__" = some (.get (.builtin "wrapper_descriptor.__get__") (.builtin "type.__ror__") (.ref c_Chain) (.type "type")))
    (sf_Sweep : PySem.W.selfFirst K c_Sweep = true)
    (cdl_Sweep : PySem.W.clsIn K c_Sweep = some cdt_Sweep)
    (cdn_Sweep : cdt_Sweep.name = "Sweep")
    (obl_Sweep : K.lookup c_Sweep = some obj_Sweep)
    (obc_Sweep : obj_Sweep.cls = .type "type")
    (rn_Sweep_and : PySem.W.findIn K (.ref c_Sweep) "__rand__" = some none)
    (rn_Sweep_or : PySem.W.findIn K (.ref c_Sweep) "__ror__" = some none)
    (rn_Sweep_rshift : PySem.W.findIn K (.ref c_Sweep) "__rrshift__" = some none)
    (ro_Sweep : PySem.W.findCls K (.ref c_Sweep) (.type "type") "__ror__" = some (.get (.builtin "wrapper_descriptor.__get__") (.builtin "type.__ror__") (.ref c_Sweep) (.type "type")))
    (ip1 : PySem.W.findIn K (.type "int") "__pow__" = some (some (.builtin "int.__pow__")))
    (ip2 : PySem.W.findIn K (.type "int") "__rpow__" = some (some (.builtin "int.__rpow__")))
    (rp_Chain : PySem.W.findIn K (.ref c_Chain) "__rpow__" = some none)
    (rp_Sweep : PySem.W.findIn K (.ref c_Sweep) "__rpow__" = some none)
    (q17 : PySem.W.nsIn K mainGlobals "filtered" = some (some (.ref a_filtered)))
    (l17 : K.lookup a_filtered = some ⟨oc17, od17, .func (PySem.W.fnOf "filtered" "filtered" (defArgs s_filtered) (defBody s_filtered) (defScope s_filtered) .none kV17 dc17 pm17 an17 cd17 ct17), sl17⟩)
    (cc17 : PySem.W.codeIn K cd17 "filtered" = true)
    (kk17 : PySem.W.keepIn K (.ref a_filtered) = true)
    (q18 : PySem.W.nsIn K mainGlobals "counted_offsets" = some (some (.ref a_counted_offsets)))
    (l18 : K.lookup a_counted_offsets = some ⟨oc18, od18, .func (PySem.W.fnOf "counted_offsets" "counted_offsets" (defArgs s_counted_offsets) (defBody s_counted_offsets) (defScope s_counted_offsets) .none kV18 dc18 pm18 an18 cd18 ct18), sl18⟩)
    (cc18 : PySem.W.codeIn K cd18 "counted_offsets" = true)
    (kk18 : PySem.W.keepIn K (.ref a_counted_offsets) = true)
    (q19 : PySem.W.nsIn K mainGlobals "writing_order" = some (some (.ref a_writing_order)))
    (l19 : K.lookup a_writing_order = some ⟨oc19, od19, .func (PySem.W.fnOf "writing_order" "writing_order" (defArgs s_writing_order) (defBody s_writing_order) (defScope s_writing_order) .none kV19 dc19 pm19 an19 cd19 ct19), sl19⟩)
    (cc19 : PySem.W.codeIn K cd19 "writing_order" = true)
    (kk19 : PySem.W.keepIn K (.ref a_writing_order) = true)
    (q20 : PySem.W.nsIn K mainGlobals "is_number" = some (some (.ref a_is_number)))
    (l20 : K.lookup a_is_number = some ⟨oc20, od20, .func (PySem.W.fnOf "is_number" "is_number" (defArgs s_is_number) (defBody s_is_number) (defScope s_is_number) .none kV20 dc20 pm20 an20 cd20 ct20), sl20⟩)
    (cc20 : PySem.W.codeIn K cd20 "is_number" = true)
    (kk20 : PySem.W.keepIn K (.ref a_is_number) = true)
    (q21 : PySem.W.nsIn K mainGlobals "is_within" = some (some (.ref a_is_within)))
    (l21 : K.lookup a_is_within = some ⟨oc21, od21, .func (PySem.W.fnOf "is_within" "is_within" (defArgs s_is_within) (defBody s_is_within) (defScope s_is_within) .none kV21 dc21 pm21 an21 cd21 ct21), sl21⟩)
    (cc21 : PySem.W.codeIn K cd21 "is_within" = true)
    (kk21 : PySem.W.keepIn K (.ref a_is_within) = true)
    (q22 : PySem.W.nsIn K mainGlobals "row_fault" = some (some (.ref a_row_fault)))
    (l22 : K.lookup a_row_fault = some ⟨oc22, od22, .func (PySem.W.fnOf "row_fault" "row_fault" (defArgs s_row_fault) (defBody s_row_fault) (defScope s_row_fault) .none kV22 dc22 pm22 an22 cd22 ct22), sl22⟩)
    (cc22 : PySem.W.codeIn K cd22 "row_fault" = true)
    (kk22 : PySem.W.keepIn K (.ref a_row_fault) = true)
    (q23 : PySem.W.nsIn K mainGlobals "has_cells" = some (some (.ref a_has_cells)))
    (l23 : K.lookup a_has_cells = some ⟨oc23, od23, .func (PySem.W.fnOf "has_cells" "has_cells" (defArgs s_has_cells) (defBody s_has_cells) (defScope s_has_cells) .none kV23 dc23 pm23 an23 cd23 ct23), sl23⟩)
    (cc23 : PySem.W.codeIn K cd23 "has_cells" = true)
    (kk23 : PySem.W.keepIn K (.ref a_has_cells) = true)
    (q24 : PySem.W.nsIn K mainGlobals "first_false" = some (some (.ref a_first_false)))
    (l24 : K.lookup a_first_false = some ⟨oc24, od24, .func (PySem.W.fnOf "first_false" "first_false" (defArgs s_first_false) (defBody s_first_false) (defScope s_first_false) .none kV24 dc24 pm24 an24 cd24 ct24), sl24⟩)
    (cc24 : PySem.W.codeIn K cd24 "first_false" = true)
    (kk24 : PySem.W.keepIn K (.ref a_first_false) = true)
    (q25 : PySem.W.nsIn K mainGlobals "row_of" = some (some (.ref a_row_of)))
    (l25 : K.lookup a_row_of = some ⟨oc25, od25, .func (PySem.W.fnOf "row_of" "row_of" (defArgs s_row_of) (defBody s_row_of) (defScope s_row_of) .none kV25 dc25 pm25 an25 cd25 ct25), sl25⟩)
    (cc25 : PySem.W.codeIn K cd25 "row_of" = true)
    (kk25 : PySem.W.keepIn K (.ref a_row_of) = true)
    (q26 : PySem.W.nsIn K mainGlobals "pair" = some (some (.ref a_pair)))
    (l26 : K.lookup a_pair = some ⟨oc26, od26, .func (PySem.W.fnOf "pair" "pair" (defArgs s_pair) (defBody s_pair) (defScope s_pair) .none kV26 dc26 pm26 an26 cd26 ct26), sl26⟩)
    (cc26 : PySem.W.codeIn K cd26 "pair" = true)
    (kk26 : PySem.W.keepIn K (.ref a_pair) = true)
    (q27 : PySem.W.nsIn K mainGlobals "greater_reach" = some (some (.ref a_greater_reach)))
    (l27 : K.lookup a_greater_reach = some ⟨oc27, od27, .func (PySem.W.fnOf "greater_reach" "greater_reach" (defArgs s_greater_reach) (defBody s_greater_reach) (defScope s_greater_reach) .none kV27 dc27 pm27 an27 cd27 ct27), sl27⟩)
    (cc27 : PySem.W.codeIn K cd27 "greater_reach" = true)
    (kk27 : PySem.W.keepIn K (.ref a_greater_reach) = true)
    (q28 : PySem.W.nsIn K mainGlobals "joint_direction" = some (some (.ref a_joint_direction)))
    (l28 : K.lookup a_joint_direction = some ⟨oc28, od28, .func (PySem.W.fnOf "joint_direction" "joint_direction" (defArgs s_joint_direction) (defBody s_joint_direction) (defScope s_joint_direction) .none kV28 dc28 pm28 an28 cd28 ct28), sl28⟩)
    (cc28 : PySem.W.codeIn K cd28 "joint_direction" = true)
    (kk28 : PySem.W.keepIn K (.ref a_joint_direction) = true)
    (q29 : PySem.W.nsIn K mainGlobals "broken_limit" = some (some (.ref a_broken_limit)))
    (l29 : K.lookup a_broken_limit = some ⟨oc29, od29, .func (PySem.W.fnOf "broken_limit" "broken_limit" (defArgs s_broken_limit) (defBody s_broken_limit) (defScope s_broken_limit) .none kV29 dc29 pm29 an29 cd29 ct29), sl29⟩)
    (cc29 : PySem.W.codeIn K cd29 "broken_limit" = true)
    (kk29 : PySem.W.keepIn K (.ref a_broken_limit) = true)
    (q30 : PySem.W.nsIn K mainGlobals "made" = some (some (.ref a_made)))
    (l30 : K.lookup a_made = some ⟨oc30, od30, .func (PySem.W.fnOf "made" "made" (defArgs s_made) (defBody s_made) (defScope s_made) .none kV30 dc30 pm30 an30 cd30 ct30), sl30⟩)
    (cc30 : PySem.W.codeIn K cd30 "made" = true)
    (kk30 : PySem.W.keepIn K (.ref a_made) = true)
    (q31 : PySem.W.nsIn K mainGlobals "negated" = some (some (.ref a_negated)))
    (l31 : K.lookup a_negated = some ⟨oc31, od31, .func (PySem.W.fnOf "negated" "negated" (defArgs s_negated) (defBody s_negated) (defScope s_negated) .none kV31 dc31 pm31 an31 cd31 ct31), sl31⟩)
    (cc31 : PySem.W.codeIn K cd31 "negated" = true)
    (kk31 : PySem.W.keepIn K (.ref a_negated) = true)
    (q32 : PySem.W.nsIn K mainGlobals "chosen" = some (some (.ref a_chosen)))
    (l32 : K.lookup a_chosen = some ⟨oc32, od32, .func (PySem.W.fnOf "chosen" "chosen" (defArgs s_chosen) (defBody s_chosen) (defScope s_chosen) .none kV32 dc32 pm32 an32 cd32 ct32), sl32⟩)
    (cc32 : PySem.W.codeIn K cd32 "chosen" = true)
    (kk32 : PySem.W.keepIn K (.ref a_chosen) = true)
    (q33 : PySem.W.nsIn K mainGlobals "wrong_part" = some (some (.ref a_wrong_part)))
    (l33 : K.lookup a_wrong_part = some ⟨oc33, od33, .func (PySem.W.fnOf "wrong_part" "wrong_part" (defArgs s_wrong_part) (defBody s_wrong_part) (defScope s_wrong_part) .none kV33 dc33 pm33 an33 cd33 ct33), sl33⟩)
    (cc33 : PySem.W.codeIn K cd33 "wrong_part" = true)
    (kk33 : PySem.W.keepIn K (.ref a_wrong_part) = true)
    (q34 : PySem.W.nsIn K mainGlobals "are_weights" = some (some (.ref a_are_weights)))
    (l34 : K.lookup a_are_weights = some ⟨oc34, od34, .func (PySem.W.fnOf "are_weights" "are_weights" (defArgs s_are_weights) (defBody s_are_weights) (defScope s_are_weights) .none kV34 dc34 pm34 an34 cd34 ct34), sl34⟩)
    (cc34 : PySem.W.codeIn K cd34 "are_weights" = true)
    (kk34 : PySem.W.keepIn K (.ref a_are_weights) = true)
    (q35 : PySem.W.nsIn K mainGlobals "reach_of" = some (some (.ref a_reach_of)))
    (l35 : K.lookup a_reach_of = some ⟨oc35, od35, .func (PySem.W.fnOf "reach_of" "reach_of" (defArgs s_reach_of) (defBody s_reach_of) (defScope s_reach_of) .none kV35 dc35 pm35 an35 cd35 ct35), sl35⟩)
    (cc35 : PySem.W.codeIn K cd35 "reach_of" = true)
    (kk35 : PySem.W.keepIn K (.ref a_reach_of) = true)
    (q36 : PySem.W.nsIn K mainGlobals "_law_mix" = some (some (.ref a__law_mix)))
    (l36 : K.lookup a__law_mix = some ⟨oc36, od36, .func (PySem.W.fnOf "_law_mix" "_law_mix" (defArgs s__law_mix) (defBody s__law_mix) (defScope s__law_mix) .none kV36 dc36 pm36 an36 cd36 ct36), sl36⟩)
    (cc36 : PySem.W.codeIn K cd36 "_law_mix" = true)
    (kk36 : PySem.W.keepIn K (.ref a__law_mix) = true)
    (q37 : PySem.W.nsIn K mainGlobals "_law_pool" = some (some (.ref a__law_pool)))
    (l37 : K.lookup a__law_pool = some ⟨oc37, od37, .func (PySem.W.fnOf "_law_pool" "_law_pool" (defArgs s__law_pool) (defBody s__law_pool) (defScope s__law_pool) .none kV37 dc37 pm37 an37 cd37 ct37), sl37⟩)
    (cc37 : PySem.W.codeIn K cd37 "_law_pool" = true)
    (kk37 : PySem.W.keepIn K (.ref a__law_pool) = true)
    (q38 : PySem.W.nsIn K mainGlobals "_law_draw" = some (some (.ref a__law_draw)))
    (l38 : K.lookup a__law_draw = some ⟨oc38, od38, .func (PySem.W.fnOf "_law_draw" "_law_draw" (defArgs s__law_draw) (defBody s__law_draw) (defScope s__law_draw) .none kV38 dc38 pm38 an38 cd38 ct38), sl38⟩)
    (cc38 : PySem.W.codeIn K cd38 "_law_draw" = true)
    (kk38 : PySem.W.keepIn K (.ref a__law_draw) = true)
    (q39 : PySem.W.nsIn K mainGlobals "_law_sweep" = some (some (.ref a__law_sweep)))
    (l39 : K.lookup a__law_sweep = some ⟨oc39, od39, .func (PySem.W.fnOf "_law_sweep" "_law_sweep" (defArgs s__law_sweep) (defBody s__law_sweep) (defScope s__law_sweep) .none kV39 dc39 pm39 an39 cd39 ct39), sl39⟩)
    (cc39 : PySem.W.codeIn K cd39 "_law_sweep" = true)
    (kk39 : PySem.W.keepIn K (.ref a__law_sweep) = true)
    (q40 : PySem.W.nsIn K mainGlobals "_law_mixed" = some (some (.ref a__law_mixed)))
    (l40 : K.lookup a__law_mixed = some ⟨oc40, od40, .func (PySem.W.fnOf "_law_mixed" "_law_mixed" (defArgs s__law_mixed) (defBody s__law_mixed) (defScope s__law_mixed) .none kV40 dc40 pm40 an40 cd40 ct40), sl40⟩)
    (cc40 : PySem.W.codeIn K cd40 "_law_mixed" = true)
    (kk40 : PySem.W.keepIn K (.ref a__law_mixed) = true)
    (q41 : PySem.W.nsIn K mainGlobals "_law_measure" = some (some (.ref a__law_measure)))
    (l41 : K.lookup a__law_measure = some ⟨oc41, od41, .func (PySem.W.fnOf "_law_measure" "_law_measure" (defArgs s__law_measure) (defBody s__law_measure) (defScope s__law_measure) .none kV41 dc41 pm41 an41 cd41 ct41), sl41⟩)
    (cc41 : PySem.W.codeIn K cd41 "_law_measure" = true)
    (kk41 : PySem.W.keepIn K (.ref a__law_measure) = true)
    (q42 : PySem.W.nsIn K mainGlobals "_law_fits" = some (some (.ref a__law_fits)))
    (l42 : K.lookup a__law_fits = some ⟨oc42, od42, .func (PySem.W.fnOf "_law_fits" "_law_fits" (defArgs s__law_fits) (defBody s__law_fits) (defScope s__law_fits) .none kV42 dc42 pm42 an42 cd42 ct42), sl42⟩)
    (cc42 : PySem.W.codeIn K cd42 "_law_fits" = true)
    (kk42 : PySem.W.keepIn K (.ref a__law_fits) = true)
    (q43 : PySem.W.nsIn K mainGlobals "_law_grown" = some (some (.ref a__law_grown)))
    (l43 : K.lookup a__law_grown = some ⟨oc43, od43, .func (PySem.W.fnOf "_law_grown" "_law_grown" (defArgs s__law_grown) (defBody s__law_grown) (defScope s__law_grown) .none kV43 dc43 pm43 an43 cd43 ct43), sl43⟩)
    (cc43 : PySem.W.codeIn K cd43 "_law_grown" = true)
    (kk43 : PySem.W.keepIn K (.ref a__law_grown) = true)
    (q44 : PySem.W.nsIn K mainGlobals "_law_tree" = some (some (.ref a__law_tree)))
    (l44 : K.lookup a__law_tree = some ⟨oc44, od44, .func (PySem.W.fnOf "_law_tree" "_law_tree" (defArgs s__law_tree) (defBody s__law_tree) (defScope s__law_tree) .none kV44 dc44 pm44 an44 cd44 ct44), sl44⟩)
    (cc44 : PySem.W.codeIn K cd44 "_law_tree" = true)
    (kk44 : PySem.W.keepIn K (.ref a__law_tree) = true)
    (q45 : PySem.W.nsIn K mainGlobals "_law_make" = some (some (.ref a__law_make)))
    (l45 : K.lookup a__law_make = some ⟨oc45, od45, .func (PySem.W.fnOf "_law_make" "_law_make" (defArgs s__law_make) (defBody s__law_make) (defScope s__law_make) .none kV45 dc45 pm45 an45 cd45 ct45), sl45⟩)
    (cc45 : PySem.W.codeIn K cd45 "_law_make" = true)
    (kk45 : PySem.W.keepIn K (.ref a__law_make) = true)
    (q46 : PySem.W.nsIn K mainGlobals "_law_leaves" = some (some (.ref a__law_leaves)))
    (l46 : K.lookup a__law_leaves = some ⟨oc46, od46, .func (PySem.W.fnOf "_law_leaves" "_law_leaves" (defArgs s__law_leaves) (defBody s__law_leaves) (defScope s__law_leaves) .none kV46 dc46 pm46 an46 cd46 ct46), sl46⟩)
    (cc46 : PySem.W.codeIn K cd46 "_law_leaves" = true)
    (kk46 : PySem.W.keepIn K (.ref a__law_leaves) = true)
    (q47 : PySem.W.nsIn K mainGlobals "_law_all_fit" = some (some (.ref a__law_all_fit)))
    (l47 : K.lookup a__law_all_fit = some ⟨oc47, od47, .func (PySem.W.fnOf "_law_all_fit" "_law_all_fit" (defArgs s__law_all_fit) (defBody s__law_all_fit) (defScope s__law_all_fit) .none kV47 dc47 pm47 an47 cd47 ct47), sl47⟩)
    (cc47 : PySem.W.codeIn K cd47 "_law_all_fit" = true)
    (kk47 : PySem.W.keepIn K (.ref a__law_all_fit) = true)
    (q48 : PySem.W.nsIn K mainGlobals "_law_changed" = some (some (.ref a__law_changed)))
    (l48 : K.lookup a__law_changed = some ⟨oc48, od48, .func (PySem.W.fnOf "_law_changed" "_law_changed" (defArgs s__law_changed) (defBody s__law_changed) (defScope s__law_changed) .none kV48 dc48 pm48 an48 cd48 ct48), sl48⟩)
    (cc48 : PySem.W.codeIn K cd48 "_law_changed" = true)
    (kk48 : PySem.W.keepIn K (.ref a__law_changed) = true)
    (q49 : PySem.W.nsIn K mainGlobals "_law_power" = some (some (.ref a__law_power)))
    (l49 : K.lookup a__law_power = some ⟨oc49, od49, .func (PySem.W.fnOf "_law_power" "_law_power" (defArgs s__law_power) (defBody s__law_power) (defScope s__law_power) .none kV49 dc49 pm49 an49 cd49 ct49), sl49⟩)
    (cc49 : PySem.W.codeIn K cd49 "_law_power" = true)
    (kk49 : PySem.W.keepIn K (.ref a__law_power) = true)
    (q50 : PySem.W.nsIn K mainGlobals "_law_listed" = some (some (.ref a__law_listed)))
    (l50 : K.lookup a__law_listed = some ⟨oc50, od50, .func (PySem.W.fnOf "_law_listed" "_law_listed" (defArgs s__law_listed) (defBody s__law_listed) (defScope s__law_listed) .none kV50 dc50 pm50 an50 cd50 ct50), sl50⟩)
    (cc50 : PySem.W.codeIn K cd50 "_law_listed" = true)
    (kk50 : PySem.W.keepIn K (.ref a__law_listed) = true)
    (q51 : PySem.W.nsIn K mainGlobals "law" = some (some (.ref a_law)))
    (l51 : K.lookup a_law = some ⟨oc51, od51, .func (PySem.W.fnOf "law" "law" (defArgs s_law) (defBody s_law) (defScope s_law) .none kV51 dc51 pm51 an51 cd51 ct51), sl51⟩)
    (cc51 : PySem.W.codeIn K cd51 "law" = true)
    (kk51 : PySem.W.keepIn K (.ref a_law) = true)
    (dl_MIRRORED_DIRECTION : K.lookup k_MIRRORED_DIRECTION = some ⟨.type "dict", none, .dict des_MIRRORED_DIRECTION dn_MIRRORED_DIRECTION, dsl_MIRRORED_DIRECTION⟩)
    (dh_MIRRORED_DIRECTION : des_MIRRORED_DIRECTION.toList.map He.keyOf = He.keysIn w.params ["all", "on", "back"])
    (ds_MIRRORED_DIRECTION : (dsl_MIRRORED_DIRECTION.isEmpty && !(k_MIRRORED_DIRECTION == sysModules)) = true)
    (dv_MIRRORED_DIRECTION_all : PySem.W.nsIn K k_MIRRORED_DIRECTION "all" = some (some (.str "all" td_MIRRORED_DIRECTION_0)))
    (dv_MIRRORED_DIRECTION_on : PySem.W.nsIn K k_MIRRORED_DIRECTION "on" = some (some (.str "back" td_MIRRORED_DIRECTION_1)))
    (dv_MIRRORED_DIRECTION_back : PySem.W.nsIn K k_MIRRORED_DIRECTION "back" = some (some (.str "on" td_MIRRORED_DIRECTION_2)))
    (cv_ENDS : K.lookup k_ENDS = some ⟨.type "tuple", od_ENDS, .seq #[.str "held" tk_ENDS_0, .str "cut" tk_ENDS_1] n_ENDS, sl_ENDS⟩)
    (cv_WAYS : K.lookup k_WAYS = some ⟨.type "tuple", od_WAYS, .seq #[.str "all" tk_WAYS_0, .str "on" tk_WAYS_1, .str "back" tk_WAYS_2] n_WAYS, sl_WAYS⟩)
    (z_abs : PySem.W.nsIn K mainGlobals "abs" = some none)
    (z_all : PySem.W.nsIn K mainGlobals "all" = some none)
    (z_bool : PySem.W.nsIn K mainGlobals "bool" = some none)
    (z_enumerate : PySem.W.nsIn K mainGlobals "enumerate" = some none)
    (z_int : PySem.W.nsIn K mainGlobals "int" = some none)
    (z_isinstance : PySem.W.nsIn K mainGlobals "isinstance" = some none)
    (z_len : PySem.W.nsIn K mainGlobals "len" = some none)
    (z_list : PySem.W.nsIn K mainGlobals "list" = some none)
    (z_max : PySem.W.nsIn K mainGlobals "max" = some none)
    (z_min : PySem.W.nsIn K mainGlobals "min" = some none)
    (z_range : PySem.W.nsIn K mainGlobals "range" = some none)
    (z_reversed : PySem.W.nsIn K mainGlobals "reversed" = some none)
    (z_sorted : PySem.W.nsIn K mainGlobals "sorted" = some none)
    (z_str : PySem.W.nsIn K mainGlobals "str" = some none)
    (z_sum : PySem.W.nsIn K mainGlobals "sum" = some none)
    (z_tuple : PySem.W.nsIn K mainGlobals "tuple" = some none)
    (z_zip : PySem.W.nsIn K mainGlobals "zip" = some none)
    : ∃ fd : FuncData, (∀ (s : Shared) (v : Value), BindsTo s fd ⟨[v], []⟩ [("_law_script", v)]) ∧ ∀ base : Heap, K.In base → base.Ns mainGlobals mg → FnOk l.prog w K mg base CX0 90 fa fd ["_law_script"] (spLaw K) := by
  have e := hfa.symm.trans (PySem.W.mg_of X G q51)
  cases e
  have F0 := fun_mk (st := s_NoRow__init__) l0 cc0 kk0
  have b0 := F0.binds (ps := ["self", "index"]) fun _ _ _ _ _ _ us hl => match us, hl with | [_, _], _ => rfl
  have F1 := fun_mk (st := s_NoSweep__init__) l1 cc1 kk1
  have b1 := F1.binds (ps := ["self", "part"]) fun _ _ _ _ _ _ us hl => match us, hl with | [_, _], _ => rfl
  have F2 := fun_mk (st := s_NoNumber__init__) l2 cc2 kk2
  have b2 := F2.binds (ps := ["self", "name"]) fun _ _ _ _ _ _ us hl => match us, hl with | [_, _], _ => rfl
  have F3 := fun_mk (st := s_TooLarge__init__) l3 cc3 kk3
  have b3 := F3.binds (ps := ["self", "part"]) fun _ _ _ _ _ _ us hl => match us, hl with | [_, _], _ => rfl
  have F4 : FunD K "__init__" "Chain.__init__" (defArgs s_Chain__init__) (defBody s_Chain__init__) (defScope s_Chain__init__) [] [("times", .int 1)] a_Chain__init__ (PySem.W.fnOf "__init__" "Chain.__init__" (defArgs s_Chain__init__) (defBody s_Chain__init__) (defScope s_Chain__init__) .none (.ref kd_Chain__init__) dc4 pm4 an4 cd4 ct4) := ⟨⟨_, _, _, _, _, _, _, _, _, _, rfl, l4, cc4, .inl ⟨rfl, rfl⟩, .inr ⟨_, rfl, fun q hq => by
    simp only [List.mem_cons, List.not_mem_nil, or_false] at hq
    rcases hq with rfl
    · exact ⟨_, e_Chain__init___times, ⟨_, rfl⟩⟩⟩⟩, kk4⟩
  have F5 := fun_mk (st := s_Chain__call__) l5 cc5 kk5
  have b5 := F5.binds (ps := ["self", "row"]) fun _ _ _ _ _ _ us hl => match us, hl with | [_, _], _ => rfl
  have F6 := fun_mk (st := s_Chain__eq__) l6 cc6 kk6
  have b6 := F6.binds (ps := ["self", "other"]) fun _ _ _ _ _ _ us hl => match us, hl with | [_, _], _ => rfl
  have F7 := fun_mk (st := s_Chain__rshift__) l7 cc7 kk7
  have b7 := F7.binds (ps := ["self", "other"]) fun _ _ _ _ _ _ us hl => match us, hl with | [_, _], _ => rfl
  have F8 := fun_mk (st := s_Chain__or__) l8 cc8 kk8
  have b8 := F8.binds (ps := ["self", "other"]) fun _ _ _ _ _ _ us hl => match us, hl with | [_, _], _ => rfl
  have F9 := fun_mk (st := s_Chain__and__) l9 cc9 kk9
  have b9 := F9.binds (ps := ["self", "other"]) fun _ _ _ _ _ _ us hl => match us, hl with | [_, _], _ => rfl
  have F10 := fun_mk (st := s_Chain__invert__) l10 cc10 kk10
  have b10 := F10.binds (ps := ["self"]) fun _ _ _ _ _ _ us hl => match us, hl with | [_], _ => rfl
  have F11 := fun_mk (st := s_Chain__pow__) l11 cc11 kk11
  have b11 := F11.binds (ps := ["self", "other"]) fun _ _ _ _ _ _ us hl => match us, hl with | [_, _], _ => rfl
  have F12 := fun_mk (st := s_Chainrepeated) l12 cc12 kk12
  have b12 := F12.binds (ps := ["self", "number"]) fun _ _ _ _ _ _ us hl => match us, hl with | [_, _], _ => rfl
  have F13 := fun_mk (st := s_Chainmirrored) l13 cc13 kk13
  have b13 := F13.binds (ps := ["self"]) fun _ _ _ _ _ _ us hl => match us, hl with | [_], _ => rfl
  have F14 := fun_mk (st := s_Chainsweeps) l14 cc14 kk14
  have b14 := F14.binds (ps := ["self"]) fun _ _ _ _ _ _ us hl => match us, hl with | [_], _ => rfl
  have F15 : FunD K "__init__" "Sweep.__init__" (defArgs s_Sweep__init__) (defBody s_Sweep__init__) (defScope s_Sweep__init__) [] [("own", .non), ("ends", .str "held"), ("way", .str "all")] a_Sweep__init__ (PySem.W.fnOf "__init__" "Sweep.__init__" (defArgs s_Sweep__init__) (defBody s_Sweep__init__) (defScope s_Sweep__init__) .none (.ref kd_Sweep__init__) dc15 pm15 an15 cd15 ct15) := ⟨⟨_, _, _, _, _, _, _, _, _, _, rfl, l15, cc15, .inl ⟨rfl, rfl⟩, .inr ⟨_, rfl, fun q hq => by
    simp only [List.mem_cons, List.not_mem_nil, or_false] at hq
    rcases hq with rfl | rfl | rfl
    · exact ⟨_, e_Sweep__init___own, rfl⟩
    · exact ⟨_, e_Sweep__init___ends, ⟨_, rfl⟩⟩
    · exact ⟨_, e_Sweep__init___way, ⟨_, rfl⟩⟩⟩⟩, kk15⟩
  have F16 := fun_mk (st := s_Sweep__eq__) l16 cc16 kk16
  have b16 := F16.binds (ps := ["self", "other"]) fun _ _ _ _ _ _ us hl => match us, hl with | [_, _], _ => rfl
  have F17 := fun_mk (st := s_filtered) l17 cc17 kk17
  have b17 := F17.binds (ps := ["sweep", "row"]) fun _ _ _ _ _ _ us hl => match us, hl with | [_, _], _ => rfl
  have F18 := fun_mk (st := s_counted_offsets) l18 cc18 kk18
  have b18 := F18.binds (ps := ["sweep"]) fun _ _ _ _ _ _ us hl => match us, hl with | [_], _ => rfl
  have F19 := fun_mk (st := s_writing_order) l19 cc19 kk19
  have b19 := F19.binds (ps := ["way", "start", "end"]) fun _ _ _ _ _ _ us hl => match us, hl with | [_, _, _], _ => rfl
  have F20 := fun_mk (st := s_is_number) l20 cc20 kk20
  have b20 := F20.binds (ps := ["value"]) fun _ _ _ _ _ _ us hl => match us, hl with | [_], _ => rfl
  have F21 := fun_mk (st := s_is_within) l21 cc21 kk21
  have b21 := F21.binds (ps := ["value", "least", "most"]) fun _ _ _ _ _ _ us hl => match us, hl with | [_, _, _], _ => rfl
  have F22 := fun_mk (st := s_row_fault) l22 cc22 kk22
  have b22 := F22.binds (ps := ["value"]) fun _ _ _ _ _ _ us hl => match us, hl with | [_], _ => rfl
  have F23 := fun_mk (st := s_has_cells) l23 cc23 kk23
  have b23 := F23.binds (ps := ["value"]) fun _ _ _ _ _ _ us hl => match us, hl with | [_], _ => rfl
  have F24 := fun_mk (st := s_first_false) l24 cc24 kk24
  have b24 := F24.binds (ps := ["flags"]) fun _ _ _ _ _ _ us hl => match us, hl with | [_], _ => rfl
  have F25 := fun_mk (st := s_row_of) l25 cc25 kk25
  have b25 := F25.binds (ps := ["value"]) fun _ _ _ _ _ _ us hl => match us, hl with | [_], _ => rfl
  have F26 := fun_mk (st := s_pair) l26 cc26 kk26
  have b26 := F26.binds (ps := ["kind", "first", "second", "reach"]) fun _ _ _ _ _ _ us hl => match us, hl with | [_, _, _, _], _ => rfl
  have F27 := fun_mk (st := s_greater_reach) l27 cc27 kk27
  have b27 := F27.binds (ps := ["first", "second"]) fun _ _ _ _ _ _ us hl => match us, hl with | [_, _], _ => rfl
  have F28 := fun_mk (st := s_joint_direction) l28 cc28 kk28
  have b28 := F28.binds (ps := ["first", "second"]) fun _ _ _ _ _ _ us hl => match us, hl with | [_, _], _ => rfl
  have F29 := fun_mk (st := s_broken_limit) l29 cc29 kk29
  have b29 := F29.binds (ps := ["chain"]) fun _ _ _ _ _ _ us hl => match us, hl with | [_], _ => rfl
  have F30 := fun_mk (st := s_made) l30 cc30 kk30
  have b30 := F30.binds (ps := ["chain", "row", "step"]) fun _ _ _ _ _ _ us hl => match us, hl with | [_, _, _], _ => rfl
  have F31 := fun_mk (st := s_negated) l31 cc31 kk31
  have b31 := F31.binds (ps := ["row"]) fun _ _ _ _ _ _ us hl => match us, hl with | [_], _ => rfl
  have F32 := fun_mk (st := s_chosen) l32 cc32 kk32
  have b32 := F32.binds (ps := ["kind", "row", "other"]) fun _ _ _ _ _ _ us hl => match us, hl with | [_, _, _], _ => rfl
  have F33 := fun_mk (st := s_wrong_part) l33 cc33 kk33
  have b33 := F33.binds (ps := ["weights", "rank", "own", "ends", "way"]) fun _ _ _ _ _ _ us hl => match us, hl with | [_, _, _, _, _], _ => rfl
  have F34 := fun_mk (st := s_are_weights) l34 cc34 kk34
  have b34 := F34.binds (ps := ["value"]) fun _ _ _ _ _ _ us hl => match us, hl with | [_], _ => rfl
  have F35 := fun_mk (st := s_reach_of) l35 cc35 kk35
  have b35 := F35.binds (ps := ["weights", "own"]) fun _ _ _ _ _ _ us hl => match us, hl with | [_, _], _ => rfl
  have F36 := fun_mk (st := s__law_mix) l36 cc36 kk36
  have b36 := F36.binds (ps := ["_law_number", "_law_k"]) fun _ _ _ _ _ _ us hl => match us, hl with | [_, _], _ => rfl
  have F37 := fun_mk (st := s__law_pool) l37 cc37 kk37
  have b37 := F37.binds (ps := ["_law_script"]) fun _ _ _ _ _ _ us hl => match us, hl with | [_], _ => rfl
  have F38 := fun_mk (st := s__law_draw) l38 cc38 kk38
  have b38 := F38.binds (ps := ["_law_pool_here", "_law_limit"]) fun _ _ _ _ _ _ us hl => match us, hl with | [_, _], _ => rfl
  have F39 := fun_mk (st := s__law_sweep) l39 cc39 kk39
  have b39 := F39.binds (ps := ["_law_pool_here", "_law_most", "_law_menu"]) fun _ _ _ _ _ _ us hl => match us, hl with | [_, _, _], _ => rfl
  have F40 := fun_mk (st := s__law_mixed) l40 cc40 kk40
  have b40 := F40.binds (ps := ["_law_one", "_law_other"]) fun _ _ _ _ _ _ us hl => match us, hl with | [_, _], _ => rfl
  have F41 := fun_mk (st := s__law_measure) l41 cc41 kk41
  have b41 := F41.binds (ps := ["_law_tree_here"]) fun _ _ _ _ _ _ us hl => match us, hl with | [_], _ => rfl
  have F42 := fun_mk (st := s__law_fits) l42 cc42 kk42
  have b42 := F42.binds (ps := ["_law_tree_here", "_law_reach", "_law_written"]) fun _ _ _ _ _ _ us hl => match us, hl with | [_, _, _], _ => rfl
  have F43 := fun_mk (st := s__law_grown) l43 cc43 kk43
  have b43 := F43.binds (ps := ["_law_pool_here", "_law_tree_here", "_law_most", "_law_menu"]) fun _ _ _ _ _ _ us hl => match us, hl with | [_, _, _, _], _ => rfl
  have F44 := fun_mk (st := s__law_tree) l44 cc44 kk44
  have b44 := F44.binds (ps := ["_law_pool_here", "_law_rounds", "_law_most", "_law_reach", "_law_written", "_law_menu"]) fun _ _ _ _ _ _ us hl => match us, hl with | [_, _, _, _, _, _], _ => rfl
  have F45 := fun_mk (st := s__law_make) l45 cc45 kk45
  have b45 := F45.binds (ps := ["_law_tree_here"]) fun _ _ _ _ _ _ us hl => match us, hl with | [_], _ => rfl
  have F46 := fun_mk (st := s__law_leaves) l46 cc46 kk46
  have b46 := F46.binds (ps := ["_law_tree_here"]) fun _ _ _ _ _ _ us hl => match us, hl with | [_], _ => rfl
  have F47 := fun_mk (st := s__law_all_fit) l47 cc47 kk47
  have b47 := F47.binds (ps := ["_law_tree_here"]) fun _ _ _ _ _ _ us hl => match us, hl with | [_], _ => rfl
  have F48 := fun_mk (st := s__law_changed) l48 cc48 kk48
  have b48 := F48.binds (ps := ["_law_pool_here", "_law_tree_here"]) fun _ _ _ _ _ _ us hl => match us, hl with | [_, _], _ => rfl
  have F49 := fun_mk (st := s__law_power) l49 cc49 kk49
  have b49 := F49.binds (ps := ["_law_chain", "_law_wide"]) fun _ _ _ _ _ _ us hl => match us, hl with | [_, _], _ => rfl
  have F50 := fun_mk (st := s__law_listed) l50 cc50 kk50
  have b50 := F50.binds (ps := ["_law_chain", "_law_tree_here"]) fun _ _ _ _ _ _ us hl => match us, hl with | [_, _], _ => rfl
  have F51 := fun_mk (st := s_law) l51 cc51 kk51
  have b51 := F51.binds (ps := ["_law_script"]) fun _ _ _ _ _ _ us hl => match us, hl with | [_], _ => rfl
  have T : Txt w K mg ⟨c_SweepError, c_NoRow, a_NoRow__init__, (PySem.W.fnOf "__init__" "NoRow.__init__" (defArgs s_NoRow__init__) (defBody s_NoRow__init__) (defScope s_NoRow__init__) .none kV0 dc0 pm0 an0 cd0 ct0), c_NoSweep, a_NoSweep__init__, (PySem.W.fnOf "__init__" "NoSweep.__init__" (defArgs s_NoSweep__init__) (defBody s_NoSweep__init__) (defScope s_NoSweep__init__) .none kV1 dc1 pm1 an1 cd1 ct1), c_NoNumber, a_NoNumber__init__, (PySem.W.fnOf "__init__" "NoNumber.__init__" (defArgs s_NoNumber__init__) (defBody s_NoNumber__init__) (defScope s_NoNumber__init__) .none kV2 dc2 pm2 an2 cd2 ct2), c_TooLarge, a_TooLarge__init__, (PySem.W.fnOf "__init__" "TooLarge.__init__" (defArgs s_TooLarge__init__) (defBody s_TooLarge__init__) (defScope s_TooLarge__init__) .none kV3 dc3 pm3 an3 cd3 ct3), c_Chain, a_Chain__init__, (PySem.W.fnOf "__init__" "Chain.__init__" (defArgs s_Chain__init__) (defBody s_Chain__init__) (defScope s_Chain__init__) .none (.ref kd_Chain__init__) dc4 pm4 an4 cd4 ct4), a_Chain__call__, (PySem.W.fnOf "__call__" "Chain.__call__" (defArgs s_Chain__call__) (defBody s_Chain__call__) (defScope s_Chain__call__) .none kV5 dc5 pm5 an5 cd5 ct5), a_Chain__eq__, (PySem.W.fnOf "__eq__" "Chain.__eq__" (defArgs s_Chain__eq__) (defBody s_Chain__eq__) (defScope s_Chain__eq__) .none kV6 dc6 pm6 an6 cd6 ct6), a_Chain__rshift__, (PySem.W.fnOf "__rshift__" "Chain.__rshift__" (defArgs s_Chain__rshift__) (defBody s_Chain__rshift__) (defScope s_Chain__rshift__) .none kV7 dc7 pm7 an7 cd7 ct7), a_Chain__or__, (PySem.W.fnOf "__or__" "Chain.__or__" (defArgs s_Chain__or__) (defBody s_Chain__or__) (defScope s_Chain__or__) .none kV8 dc8 pm8 an8 cd8 ct8), a_Chain__and__, (PySem.W.fnOf "__and__" "Chain.__and__" (defArgs s_Chain__and__) (defBody s_Chain__and__) (defScope s_Chain__and__) .none kV9 dc9 pm9 an9 cd9 ct9), a_Chain__invert__, (PySem.W.fnOf "__invert__" "Chain.__invert__" (defArgs s_Chain__invert__) (defBody s_Chain__invert__) (defScope s_Chain__invert__) .none kV10 dc10 pm10 an10 cd10 ct10), a_Chain__pow__, (PySem.W.fnOf "__pow__" "Chain.__pow__" (defArgs s_Chain__pow__) (defBody s_Chain__pow__) (defScope s_Chain__pow__) .none kV11 dc11 pm11 an11 cd11 ct11), a_Chainrepeated, (PySem.W.fnOf "repeated" "Chain.repeated" (defArgs s_Chainrepeated) (defBody s_Chainrepeated) (defScope s_Chainrepeated) .none kV12 dc12 pm12 an12 cd12 ct12), a_Chainmirrored, (PySem.W.fnOf "mirrored" "Chain.mirrored" (defArgs s_Chainmirrored) (defBody s_Chainmirrored) (defScope s_Chainmirrored) .none kV13 dc13 pm13 an13 cd13 ct13), a_Chainsweeps, (PySem.W.fnOf "sweeps" "Chain.sweeps" (defArgs s_Chainsweeps) (defBody s_Chainsweeps) (defScope s_Chainsweeps) .none kV14 dc14 pm14 an14 cd14 ct14), c_Sweep, a_Sweep__init__, (PySem.W.fnOf "__init__" "Sweep.__init__" (defArgs s_Sweep__init__) (defBody s_Sweep__init__) (defScope s_Sweep__init__) .none (.ref kd_Sweep__init__) dc15 pm15 an15 cd15 ct15), a_Sweep__eq__, (PySem.W.fnOf "__eq__" "Sweep.__eq__" (defArgs s_Sweep__eq__) (defBody s_Sweep__eq__) (defScope s_Sweep__eq__) .none kV16 dc16 pm16 an16 cd16 ct16), a_filtered, (PySem.W.fnOf "filtered" "filtered" (defArgs s_filtered) (defBody s_filtered) (defScope s_filtered) .none kV17 dc17 pm17 an17 cd17 ct17), a_counted_offsets, (PySem.W.fnOf "counted_offsets" "counted_offsets" (defArgs s_counted_offsets) (defBody s_counted_offsets) (defScope s_counted_offsets) .none kV18 dc18 pm18 an18 cd18 ct18), a_writing_order, (PySem.W.fnOf "writing_order" "writing_order" (defArgs s_writing_order) (defBody s_writing_order) (defScope s_writing_order) .none kV19 dc19 pm19 an19 cd19 ct19), a_is_number, (PySem.W.fnOf "is_number" "is_number" (defArgs s_is_number) (defBody s_is_number) (defScope s_is_number) .none kV20 dc20 pm20 an20 cd20 ct20), a_is_within, (PySem.W.fnOf "is_within" "is_within" (defArgs s_is_within) (defBody s_is_within) (defScope s_is_within) .none kV21 dc21 pm21 an21 cd21 ct21), a_row_fault, (PySem.W.fnOf "row_fault" "row_fault" (defArgs s_row_fault) (defBody s_row_fault) (defScope s_row_fault) .none kV22 dc22 pm22 an22 cd22 ct22), a_has_cells, (PySem.W.fnOf "has_cells" "has_cells" (defArgs s_has_cells) (defBody s_has_cells) (defScope s_has_cells) .none kV23 dc23 pm23 an23 cd23 ct23), a_first_false, (PySem.W.fnOf "first_false" "first_false" (defArgs s_first_false) (defBody s_first_false) (defScope s_first_false) .none kV24 dc24 pm24 an24 cd24 ct24), a_row_of, (PySem.W.fnOf "row_of" "row_of" (defArgs s_row_of) (defBody s_row_of) (defScope s_row_of) .none kV25 dc25 pm25 an25 cd25 ct25), a_pair, (PySem.W.fnOf "pair" "pair" (defArgs s_pair) (defBody s_pair) (defScope s_pair) .none kV26 dc26 pm26 an26 cd26 ct26), a_greater_reach, (PySem.W.fnOf "greater_reach" "greater_reach" (defArgs s_greater_reach) (defBody s_greater_reach) (defScope s_greater_reach) .none kV27 dc27 pm27 an27 cd27 ct27), a_joint_direction, (PySem.W.fnOf "joint_direction" "joint_direction" (defArgs s_joint_direction) (defBody s_joint_direction) (defScope s_joint_direction) .none kV28 dc28 pm28 an28 cd28 ct28), a_broken_limit, (PySem.W.fnOf "broken_limit" "broken_limit" (defArgs s_broken_limit) (defBody s_broken_limit) (defScope s_broken_limit) .none kV29 dc29 pm29 an29 cd29 ct29), a_made, (PySem.W.fnOf "made" "made" (defArgs s_made) (defBody s_made) (defScope s_made) .none kV30 dc30 pm30 an30 cd30 ct30), a_negated, (PySem.W.fnOf "negated" "negated" (defArgs s_negated) (defBody s_negated) (defScope s_negated) .none kV31 dc31 pm31 an31 cd31 ct31), a_chosen, (PySem.W.fnOf "chosen" "chosen" (defArgs s_chosen) (defBody s_chosen) (defScope s_chosen) .none kV32 dc32 pm32 an32 cd32 ct32), a_wrong_part, (PySem.W.fnOf "wrong_part" "wrong_part" (defArgs s_wrong_part) (defBody s_wrong_part) (defScope s_wrong_part) .none kV33 dc33 pm33 an33 cd33 ct33), a_are_weights, (PySem.W.fnOf "are_weights" "are_weights" (defArgs s_are_weights) (defBody s_are_weights) (defScope s_are_weights) .none kV34 dc34 pm34 an34 cd34 ct34), a_reach_of, (PySem.W.fnOf "reach_of" "reach_of" (defArgs s_reach_of) (defBody s_reach_of) (defScope s_reach_of) .none kV35 dc35 pm35 an35 cd35 ct35), a__law_mix, (PySem.W.fnOf "_law_mix" "_law_mix" (defArgs s__law_mix) (defBody s__law_mix) (defScope s__law_mix) .none kV36 dc36 pm36 an36 cd36 ct36), a__law_pool, (PySem.W.fnOf "_law_pool" "_law_pool" (defArgs s__law_pool) (defBody s__law_pool) (defScope s__law_pool) .none kV37 dc37 pm37 an37 cd37 ct37), a__law_draw, (PySem.W.fnOf "_law_draw" "_law_draw" (defArgs s__law_draw) (defBody s__law_draw) (defScope s__law_draw) .none kV38 dc38 pm38 an38 cd38 ct38), a__law_sweep, (PySem.W.fnOf "_law_sweep" "_law_sweep" (defArgs s__law_sweep) (defBody s__law_sweep) (defScope s__law_sweep) .none kV39 dc39 pm39 an39 cd39 ct39), a__law_mixed, (PySem.W.fnOf "_law_mixed" "_law_mixed" (defArgs s__law_mixed) (defBody s__law_mixed) (defScope s__law_mixed) .none kV40 dc40 pm40 an40 cd40 ct40), a__law_measure, (PySem.W.fnOf "_law_measure" "_law_measure" (defArgs s__law_measure) (defBody s__law_measure) (defScope s__law_measure) .none kV41 dc41 pm41 an41 cd41 ct41), a__law_fits, (PySem.W.fnOf "_law_fits" "_law_fits" (defArgs s__law_fits) (defBody s__law_fits) (defScope s__law_fits) .none kV42 dc42 pm42 an42 cd42 ct42), a__law_grown, (PySem.W.fnOf "_law_grown" "_law_grown" (defArgs s__law_grown) (defBody s__law_grown) (defScope s__law_grown) .none kV43 dc43 pm43 an43 cd43 ct43), a__law_tree, (PySem.W.fnOf "_law_tree" "_law_tree" (defArgs s__law_tree) (defBody s__law_tree) (defScope s__law_tree) .none kV44 dc44 pm44 an44 cd44 ct44), a__law_make, (PySem.W.fnOf "_law_make" "_law_make" (defArgs s__law_make) (defBody s__law_make) (defScope s__law_make) .none kV45 dc45 pm45 an45 cd45 ct45), a__law_leaves, (PySem.W.fnOf "_law_leaves" "_law_leaves" (defArgs s__law_leaves) (defBody s__law_leaves) (defScope s__law_leaves) .none kV46 dc46 pm46 an46 cd46 ct46), a__law_all_fit, (PySem.W.fnOf "_law_all_fit" "_law_all_fit" (defArgs s__law_all_fit) (defBody s__law_all_fit) (defScope s__law_all_fit) .none kV47 dc47 pm47 an47 cd47 ct47), a__law_changed, (PySem.W.fnOf "_law_changed" "_law_changed" (defArgs s__law_changed) (defBody s__law_changed) (defScope s__law_changed) .none kV48 dc48 pm48 an48 cd48 ct48), a__law_power, (PySem.W.fnOf "_law_power" "_law_power" (defArgs s__law_power) (defBody s__law_power) (defScope s__law_power) .none kV49 dc49 pm49 an49 cd49 ct49), a__law_listed, (PySem.W.fnOf "_law_listed" "_law_listed" (defArgs s__law_listed) (defBody s__law_listed) (defScope s__law_listed) .none kV50 dc50 pm50 an50 cd50 ct50), fa, (PySem.W.fnOf "law" "law" (defArgs s_law) (defBody s_law) (defScope s_law) .none kV51 dc51 pm51 an51 cd51 ct51), k_MIRRORED_DIRECTION, k_ENDS, k_WAYS⟩ :=
    { kv_SweepError := kit_ve sv_SweepError
      g_SweepError := PySem.W.mg_of X G g_SweepError
      x_SweepError := ⟨⟨_, _, _, _, _, _, _, _, _, _, _, _, _, _, _, x_SweepError, rfl⟩, sa_SweepError, ec_SweepError, tc_SweepError, kc_SweepError⟩
      e_SweepError := ⟨ga_SweepError, gg_SweepError, ec_SweepError, hc_SweepError, ha_SweepError, hn, ht, hm_SweepError⟩
      f_SweepError := ⟨ga_SweepError, gg_SweepError, ec_SweepError, hc_SweepError⟩
      k_SweepError_SweepError := kit_any ic_SweepError tc_SweepError s_SweepError_SweepError s_SweepError_SweepError
      m_SweepError_SweepError := exm_any ec_SweepError ic_SweepError tc_SweepError s_SweepError_SweepError
      k_SweepError_NoRow := kit_any ic_NoRow tc_NoRow s_SweepError_NoRow s_SweepError_SweepError
      m_SweepError_NoRow := exm_any ec_NoRow ic_NoRow tc_NoRow s_SweepError_NoRow
      k_SweepError_NoSweep := kit_any ic_NoSweep tc_NoSweep s_SweepError_NoSweep s_SweepError_SweepError
      m_SweepError_NoSweep := exm_any ec_NoSweep ic_NoSweep tc_NoSweep s_SweepError_NoSweep
      k_SweepError_NoNumber := kit_any ic_NoNumber tc_NoNumber s_SweepError_NoNumber s_SweepError_SweepError
      m_SweepError_NoNumber := exm_any ec_NoNumber ic_NoNumber tc_NoNumber s_SweepError_NoNumber
      k_SweepError_TooLarge := kit_any ic_TooLarge tc_TooLarge s_SweepError_TooLarge s_SweepError_SweepError
      m_SweepError_TooLarge := exm_any ec_TooLarge ic_TooLarge tc_TooLarge s_SweepError_TooLarge
      kv_NoRow := kit_ve sv_NoRow
      g_NoRow := PySem.W.mg_of X G g_NoRow
      x_NoRow := ⟨⟨_, _, _, _, _, _, _, _, _, _, _, _, _, _, _, x_NoRow, rfl⟩, sa_NoRow, ec_NoRow, tc_NoRow, kc_NoRow⟩
      e_NoRow := ⟨ga_NoRow, gg_NoRow, ec_NoRow, hc_NoRow, ha_NoRow, hn, ht, hm_NoRow⟩
      f_NoRow := ⟨ga_NoRow, gg_NoRow, ec_NoRow, hc_NoRow⟩
      k_NoRow_SweepError := kit_any ic_SweepError tc_SweepError s_NoRow_SweepError s_NoRow_NoRow
      m_NoRow_SweepError := exm_any ec_SweepError ic_SweepError tc_SweepError s_NoRow_SweepError
      k_NoRow_NoRow := kit_any ic_NoRow tc_NoRow s_NoRow_NoRow s_NoRow_NoRow
      m_NoRow_NoRow := exm_any ec_NoRow ic_NoRow tc_NoRow s_NoRow_NoRow
      k_NoRow_NoSweep := kit_any ic_NoSweep tc_NoSweep s_NoRow_NoSweep s_NoRow_NoRow
      m_NoRow_NoSweep := exm_any ec_NoSweep ic_NoSweep tc_NoSweep s_NoRow_NoSweep
      k_NoRow_NoNumber := kit_any ic_NoNumber tc_NoNumber s_NoRow_NoNumber s_NoRow_NoRow
      m_NoRow_NoNumber := exm_any ec_NoNumber ic_NoNumber tc_NoNumber s_NoRow_NoNumber
      k_NoRow_TooLarge := kit_any ic_TooLarge tc_TooLarge s_NoRow_TooLarge s_NoRow_NoRow
      m_NoRow_TooLarge := exm_any ec_TooLarge ic_TooLarge tc_TooLarge s_NoRow_TooLarge
      F_NoRow__init__ := F0
      b_NoRow__init__ := b0
      i_NoRow__init__ := q0
      t_NoRow__init__ := t_NoRow__init__
      no_NoRow_index := no_NoRow_index
      kv_NoSweep := kit_ve sv_NoSweep
      g_NoSweep := PySem.W.mg_of X G g_NoSweep
      x_NoSweep := ⟨⟨_, _, _, _, _, _, _, _, _, _, _, _, _, _, _, x_NoSweep, rfl⟩, sa_NoSweep, ec_NoSweep, tc_NoSweep, kc_NoSweep⟩
      e_NoSweep := ⟨ga_NoSweep, gg_NoSweep, ec_NoSweep, hc_NoSweep, ha_NoSweep, hn, ht, hm_NoSweep⟩
      f_NoSweep := ⟨ga_NoSweep, gg_NoSweep, ec_NoSweep, hc_NoSweep⟩
      k_NoSweep_SweepError := kit_any ic_SweepError tc_SweepError s_NoSweep_SweepError s_NoSweep_NoSweep
      m_NoSweep_SweepError := exm_any ec_SweepError ic_SweepError tc_SweepError s_NoSweep_SweepError
      k_NoSweep_NoRow := kit_any ic_NoRow tc_NoRow s_NoSweep_NoRow s_NoSweep_NoSweep
      m_NoSweep_NoRow := exm_any ec_NoRow ic_NoRow tc_NoRow s_NoSweep_NoRow
      k_NoSweep_NoSweep := kit_any ic_NoSweep tc_NoSweep s_NoSweep_NoSweep s_NoSweep_NoSweep
      m_NoSweep_NoSweep := exm_any ec_NoSweep ic_NoSweep tc_NoSweep s_NoSweep_NoSweep
      k_NoSweep_NoNumber := kit_any ic_NoNumber tc_NoNumber s_NoSweep_NoNumber s_NoSweep_NoSweep
      m_NoSweep_NoNumber := exm_any ec_NoNumber ic_NoNumber tc_NoNumber s_NoSweep_NoNumber
      k_NoSweep_TooLarge := kit_any ic_TooLarge tc_TooLarge s_NoSweep_TooLarge s_NoSweep_NoSweep
      m_NoSweep_TooLarge := exm_any ec_TooLarge ic_TooLarge tc_TooLarge s_NoSweep_TooLarge
      F_NoSweep__init__ := F1
      b_NoSweep__init__ := b1
      i_NoSweep__init__ := q1
      t_NoSweep__init__ := t_NoSweep__init__
      no_NoSweep_part := no_NoSweep_part
      kv_NoNumber := kit_ve sv_NoNumber
      g_NoNumber := PySem.W.mg_of X G g_NoNumber
      x_NoNumber := ⟨⟨_, _, _, _, _, _, _, _, _, _, _, _, _, _, _, x_NoNumber, rfl⟩, sa_NoNumber, ec_NoNumber, tc_NoNumber, kc_NoNumber⟩
      e_NoNumber := ⟨ga_NoNumber, gg_NoNumber, ec_NoNumber, hc_NoNumber, ha_NoNumber, hn, ht, hm_NoNumber⟩
      f_NoNumber := ⟨ga_NoNumber, gg_NoNumber, ec_NoNumber, hc_NoNumber⟩
      k_NoNumber_SweepError := kit_any ic_SweepError tc_SweepError s_NoNumber_SweepError s_NoNumber_NoNumber
      m_NoNumber_SweepError := exm_any ec_SweepError ic_SweepError tc_SweepError s_NoNumber_SweepError
      k_NoNumber_NoRow := kit_any ic_NoRow tc_NoRow s_NoNumber_NoRow s_NoNumber_NoNumber
      m_NoNumber_NoRow := exm_any ec_NoRow ic_NoRow tc_NoRow s_NoNumber_NoRow
      k_NoNumber_NoSweep := kit_any ic_NoSweep tc_NoSweep s_NoNumber_NoSweep s_NoNumber_NoNumber
      m_NoNumber_NoSweep := exm_any ec_NoSweep ic_NoSweep tc_NoSweep s_NoNumber_NoSweep
      k_NoNumber_NoNumber := kit_any ic_NoNumber tc_NoNumber s_NoNumber_NoNumber s_NoNumber_NoNumber
      m_NoNumber_NoNumber := exm_any ec_NoNumber ic_NoNumber tc_NoNumber s_NoNumber_NoNumber
      k_NoNumber_TooLarge := kit_any ic_TooLarge tc_TooLarge s_NoNumber_TooLarge s_NoNumber_NoNumber
      m_NoNumber_TooLarge := exm_any ec_TooLarge ic_TooLarge tc_TooLarge s_NoNumber_TooLarge
      F_NoNumber__init__ := F2
      b_NoNumber__init__ := b2
      i_NoNumber__init__ := q2
      t_NoNumber__init__ := t_NoNumber__init__
      no_NoNumber_name := no_NoNumber_name
      kv_TooLarge := kit_ve sv_TooLarge
      g_TooLarge := PySem.W.mg_of X G g_TooLarge
      x_TooLarge := ⟨⟨_, _, _, _, _, _, _, _, _, _, _, _, _, _, _, x_TooLarge, rfl⟩, sa_TooLarge, ec_TooLarge, tc_TooLarge, kc_TooLarge⟩
      e_TooLarge := ⟨ga_TooLarge, gg_TooLarge, ec_TooLarge, hc_TooLarge, ha_TooLarge, hn, ht, hm_TooLarge⟩
      f_TooLarge := ⟨ga_TooLarge, gg_TooLarge, ec_TooLarge, hc_TooLarge⟩
      k_TooLarge_SweepError := kit_any ic_SweepError tc_SweepError s_TooLarge_SweepError s_TooLarge_TooLarge
      m_TooLarge_SweepError := exm_any ec_SweepError ic_SweepError tc_SweepError s_TooLarge_SweepError
      k_TooLarge_NoRow := kit_any ic_NoRow tc_NoRow s_TooLarge_NoRow s_TooLarge_TooLarge
      m_TooLarge_NoRow := exm_any ec_NoRow ic_NoRow tc_NoRow s_TooLarge_NoRow
      k_TooLarge_NoSweep := kit_any ic_NoSweep tc_NoSweep s_TooLarge_NoSweep s_TooLarge_TooLarge
      m_TooLarge_NoSweep := exm_any ec_NoSweep ic_NoSweep tc_NoSweep s_TooLarge_NoSweep
      k_TooLarge_NoNumber := kit_any ic_NoNumber tc_NoNumber s_TooLarge_NoNumber s_TooLarge_TooLarge
      m_TooLarge_NoNumber := exm_any ec_NoNumber ic_NoNumber tc_NoNumber s_TooLarge_NoNumber
      k_TooLarge_TooLarge := kit_any ic_TooLarge tc_TooLarge s_TooLarge_TooLarge s_TooLarge_TooLarge
      m_TooLarge_TooLarge := exm_any ec_TooLarge ic_TooLarge tc_TooLarge s_TooLarge_TooLarge
      F_TooLarge__init__ := F3
      b_TooLarge__init__ := b3
      i_TooLarge__init__ := q3
      t_TooLarge__init__ := t_TooLarge__init__
      no_TooLarge_part := no_TooLarge_part
      g_Chain := PySem.W.mg_of X G g_Chain
      cl_Chain := ⟨pg_Chain, hd_Chain, po_Chain, sa_Chain⟩
      F_Chain__init__ := F4
      F_Chain__call__ := F5
      b_Chain__call__ := b5
      F_Chain__eq__ := F6
      b_Chain__eq__ := b6
      F_Chain__rshift__ := F7
      b_Chain__rshift__ := b7
      F_Chain__or__ := F8
      b_Chain__or__ := b8
      F_Chain__and__ := F9
      b_Chain__and__ := b9
      F_Chain__invert__ := F10
      b_Chain__invert__ := b10
      F_Chain__pow__ := F11
      b_Chain__pow__ := b11
      F_Chainrepeated := F12
      b_Chainrepeated := b12
      F_Chainmirrored := F13
      b_Chainmirrored := b13
      F_Chainsweeps := F14
      b_Chainsweeps := b14
      g_Sweep := PySem.W.mg_of X G g_Sweep
      cl_Sweep := ⟨pg_Sweep, hd_Sweep, po_Sweep, sa_Sweep⟩
      F_Sweep__init__ := F15
      F_Sweep__eq__ := F16
      b_Sweep__eq__ := b16
      mk_Chain := ⟨mk_Chain, q4, fn_Chain__init__, kc_Chain⟩
      rd_Chain := ⟨rd_Chain, gs_Chain⟩
      ci_Chain := ⟨ci_Chain, rfl⟩
      me_Chain___and__ := ⟨q9, fn_Chain__and__, kk9⟩
      me_Chain___call__ := ⟨q5, fn_Chain__call__, kk5⟩
      co_Chain := ⟨q5, fn_Chain__call__, fi_Chain__call__⟩
      me_Chain___eq__ := ⟨q6, fn_Chain__eq__, kk6⟩
      me_Chain___invert__ := ⟨q10, fn_Chain__invert__, kk10⟩
      me_Chain___or__ := ⟨q8, fn_Chain__or__, kk8⟩
      me_Chain___pow__ := ⟨q11, fn_Chain__pow__, kk11⟩
      me_Chain___rshift__ := ⟨q7, fn_Chain__rshift__, kk7⟩
      me_Chain_mirrored := ⟨q13, fn_Chainmirrored, kk13⟩
      me_Chain_repeated := ⟨q12, fn_Chainrepeated, kk12⟩
      me_Chain_sweeps := ⟨q14, fn_Chainsweeps, kk14⟩
      na_Chain_depth := na_Chain_depth
      na_Chain_direction := na_Chain_direction
      na_Chain_ends := na_Chain_ends
      na_Chain_kind := na_Chain_kind
      na_Chain_own := na_Chain_own
      na_Chain_parts := na_Chain_parts
      na_Chain_rank := na_Chain_rank
      na_Chain_reach := na_Chain_reach
      na_Chain_size := na_Chain_size
      na_Chain_times := na_Chain_times
      na_Chain_way := na_Chain_way
      na_Chain_weights := na_Chain_weights
      na_Chain_written := na_Chain_written
      oc_Chain := ⟨⟨pg_Chain, hd_Chain, po_Chain, sa_Chain⟩, ic_Chain, tc_Chain, ha_Chain, hn, ht, hm_Chain⟩
      ne_Chain := ne_Chain
      k_Chain_Chain := kit_any ic_Chain tc_Chain s_Chain_Chain s_Chain_Chain
      k_Chain_Sweep := kit_any ic_Sweep tc_Sweep s_Chain_Sweep s_Chain_Chain
      mk_Sweep := ⟨mk_Sweep, q15, fn_Sweep__init__, kc_Sweep⟩
      rd_Sweep := ⟨rd_Sweep, gs_Sweep⟩
      ci_Sweep := ⟨ci_Sweep, rfl⟩
      me_Sweep___and__ := ⟨me_Sweep___and__, fn_Chain__and__, kk9⟩
      me_Sweep___call__ := ⟨me_Sweep___call__, fn_Chain__call__, kk5⟩
      co_Sweep := ⟨me_Sweep___call__, fn_Chain__call__, fi_Chain__call__⟩
      me_Sweep___eq__ := ⟨q16, fn_Sweep__eq__, kk16⟩
      me_Sweep___invert__ := ⟨me_Sweep___invert__, fn_Chain__invert__, kk10⟩
      me_Sweep___or__ := ⟨me_Sweep___or__, fn_Chain__or__, kk8⟩
      me_Sweep___pow__ := ⟨me_Sweep___pow__, fn_Chain__pow__, kk11⟩
      me_Sweep___rshift__ := ⟨me_Sweep___rshift__, fn_Chain__rshift__, kk7⟩
      me_Sweep_mirrored := ⟨me_Sweep_mirrored, fn_Chainmirrored, kk13⟩
      me_Sweep_repeated := ⟨me_Sweep_repeated, fn_Chainrepeated, kk12⟩
      me_Sweep_sweeps := ⟨me_Sweep_sweeps, fn_Chainsweeps, kk14⟩
      na_Sweep_depth := na_Sweep_depth
      na_Sweep_direction := na_Sweep_direction
      na_Sweep_ends := na_Sweep_ends
      na_Sweep_kind := na_Sweep_kind
      na_Sweep_own := na_Sweep_own
      na_Sweep_parts := na_Sweep_parts
      na_Sweep_rank := na_Sweep_rank
      na_Sweep_reach := na_Sweep_reach
      na_Sweep_size := na_Sweep_size
      na_Sweep_times := na_Sweep_times
      na_Sweep_way := na_Sweep_way
      na_Sweep_weights := na_Sweep_weights
      na_Sweep_written := na_Sweep_written
      oc_Sweep := ⟨⟨pg_Sweep, hd_Sweep, po_Sweep, sa_Sweep⟩, ic_Sweep, tc_Sweep, ha_Sweep, hn, ht, hm_Sweep⟩
      ne_Sweep := ne_Sweep
      k_Sweep_Chain := kit_any ic_Chain tc_Chain s_Sweep_Chain s_Sweep_Sweep
      k_Sweep_Sweep := kit_any ic_Sweep tc_Sweep s_Sweep_Sweep s_Sweep_Sweep
      tw_and_Chain_Chain := ⟨sf_Chain, sf_Chain, q9, ⟨_, q9⟩, fn_Chain__and__, rn_Chain_and, rn_Chain_and, .inl rfl⟩
      tw_and_Chain_Sweep := ⟨sf_Chain, sf_Sweep, q9, ⟨_, me_Sweep___and__⟩, fn_Chain__and__, rn_Chain_and, rn_Sweep_and, .inr (.inr ⟨s_Sweep_Chain, .inl ⟨rd_Sweep, rn_Sweep_and, noT_and, noG, _, cdl_Sweep, by rw [cdn_Sweep]; exact ⟨by decide +kernel, by decide +kernel⟩⟩⟩)⟩
      tw_and_Sweep_Chain := ⟨sf_Sweep, sf_Chain, me_Sweep___and__, ⟨_, q9⟩, fn_Chain__and__, rn_Sweep_and, rn_Chain_and, .inr (.inl s_Chain_Sweep)⟩
      tw_and_Sweep_Sweep := ⟨sf_Sweep, sf_Sweep, me_Sweep___and__, ⟨_, me_Sweep___and__⟩, fn_Chain__and__, rn_Sweep_and, rn_Sweep_and, .inl rfl⟩
      tw_or_Chain_Chain := ⟨sf_Chain, sf_Chain, q8, ⟨_, q8⟩, fn_Chain__or__, rn_Chain_or, rn_Chain_or, .inl rfl⟩
      tw_or_Chain_Sweep := ⟨sf_Chain, sf_Sweep, q8, ⟨_, me_Sweep___or__⟩, fn_Chain__or__, rn_Chain_or, rn_Sweep_or, .inr (.inr ⟨s_Sweep_Chain, .inr ⟨rfl, fun z => by cases z; exact absurd (cdn_Sweep.symm.trans ((congrArg ClassData.name (Option.some.inj (cdl_Sweep.symm.trans cdl_Chain))).trans cdn_Chain)) (by decide), ⟨_, obl_Chain, by rw [obc_Chain]; decide⟩, ⟨_, obl_Sweep, by rw [obc_Sweep]; decide⟩, rd_Chain, rd_Sweep, ro_Chain, ro_Sweep⟩⟩)⟩
      tw_or_Sweep_Chain := ⟨sf_Sweep, sf_Chain, me_Sweep___or__, ⟨_, q8⟩, fn_Chain__or__, rn_Sweep_or, rn_Chain_or, .inr (.inl s_Chain_Sweep)⟩
      tw_or_Sweep_Sweep := ⟨sf_Sweep, sf_Sweep, me_Sweep___or__, ⟨_, me_Sweep___or__⟩, fn_Chain__or__, rn_Sweep_or, rn_Sweep_or, .inl rfl⟩
      tw_rshift_Chain_Chain := ⟨sf_Chain, sf_Chain, q7, ⟨_, q7⟩, fn_Chain__rshift__, rn_Chain_rshift, rn_Chain_rshift, .inl rfl⟩
      tw_rshift_Chain_Sweep := ⟨sf_Chain, sf_Sweep, q7, ⟨_, me_Sweep___rshift__⟩, fn_Chain__rshift__, rn_Chain_rshift, rn_Sweep_rshift, .inr (.inr ⟨s_Sweep_Chain, .inl ⟨rd_Sweep, rn_Sweep_rshift, noT_rshift, noG, _, cdl_Sweep, by rw [cdn_Sweep]; exact ⟨by decide +kernel, by decide +kernel⟩⟩⟩)⟩
      tw_rshift_Sweep_Chain := ⟨sf_Sweep, sf_Chain, me_Sweep___rshift__, ⟨_, q7⟩, fn_Chain__rshift__, rn_Sweep_rshift, rn_Chain_rshift, .inr (.inl s_Chain_Sweep)⟩
      tw_rshift_Sweep_Sweep := ⟨sf_Sweep, sf_Sweep, me_Sweep___rshift__, ⟨_, me_Sweep___rshift__⟩, fn_Chain__rshift__, rn_Sweep_rshift, rn_Sweep_rshift, .inl rfl⟩
      pw_Chain := ⟨sf_Chain, q11, fn_Chain__pow__, rp_Chain, ip1, ip2⟩
      pw_Sweep := ⟨sf_Sweep, me_Sweep___pow__, fn_Chain__pow__, rp_Sweep, ip1, ip2⟩
      F_filtered := F17
      g_filtered := PySem.W.mg_of X G q17
      b_filtered := b17
      F_counted_offsets := F18
      g_counted_offsets := PySem.W.mg_of X G q18
      b_counted_offsets := b18
      F_writing_order := F19
      g_writing_order := PySem.W.mg_of X G q19
      b_writing_order := b19
      F_is_number := F20
      g_is_number := PySem.W.mg_of X G q20
      b_is_number := b20
      F_is_within := F21
      g_is_within := PySem.W.mg_of X G q21
      b_is_within := b21
      F_row_fault := F22
      g_row_fault := PySem.W.mg_of X G q22
      b_row_fault := b22
      F_has_cells := F23
      g_has_cells := PySem.W.mg_of X G q23
      b_has_cells := b23
      F_first_false := F24
      g_first_false := PySem.W.mg_of X G q24
      b_first_false := b24
      F_row_of := F25
      g_row_of := PySem.W.mg_of X G q25
      b_row_of := b25
      F_pair := F26
      g_pair := PySem.W.mg_of X G q26
      b_pair := b26
      F_greater_reach := F27
      g_greater_reach := PySem.W.mg_of X G q27
      b_greater_reach := b27
      F_joint_direction := F28
      g_joint_direction := PySem.W.mg_of X G q28
      b_joint_direction := b28
      F_broken_limit := F29
      g_broken_limit := PySem.W.mg_of X G q29
      b_broken_limit := b29
      F_made := F30
      g_made := PySem.W.mg_of X G q30
      b_made := b30
      F_negated := F31
      g_negated := PySem.W.mg_of X G q31
      b_negated := b31
      F_chosen := F32
      g_chosen := PySem.W.mg_of X G q32
      b_chosen := b32
      F_wrong_part := F33
      g_wrong_part := PySem.W.mg_of X G q33
      b_wrong_part := b33
      F_are_weights := F34
      g_are_weights := PySem.W.mg_of X G q34
      b_are_weights := b34
      F_reach_of := F35
      g_reach_of := PySem.W.mg_of X G q35
      b_reach_of := b35
      F__law_mix := F36
      g__law_mix := PySem.W.mg_of X G q36
      b__law_mix := b36
      F__law_pool := F37
      g__law_pool := PySem.W.mg_of X G q37
      b__law_pool := b37
      F__law_draw := F38
      g__law_draw := PySem.W.mg_of X G q38
      b__law_draw := b38
      F__law_sweep := F39
      g__law_sweep := PySem.W.mg_of X G q39
      b__law_sweep := b39
      F__law_mixed := F40
      g__law_mixed := PySem.W.mg_of X G q40
      b__law_mixed := b40
      F__law_measure := F41
      g__law_measure := PySem.W.mg_of X G q41
      b__law_measure := b41
      F__law_fits := F42
      g__law_fits := PySem.W.mg_of X G q42
      b__law_fits := b42
      F__law_grown := F43
      g__law_grown := PySem.W.mg_of X G q43
      b__law_grown := b43
      F__law_tree := F44
      g__law_tree := PySem.W.mg_of X G q44
      b__law_tree := b44
      F__law_make := F45
      g__law_make := PySem.W.mg_of X G q45
      b__law_make := b45
      F__law_leaves := F46
      g__law_leaves := PySem.W.mg_of X G q46
      b__law_leaves := b46
      F__law_all_fit := F47
      g__law_all_fit := PySem.W.mg_of X G q47
      b__law_all_fit := b47
      F__law_changed := F48
      g__law_changed := PySem.W.mg_of X G q48
      b__law_changed := b48
      F__law_power := F49
      g__law_power := PySem.W.mg_of X G q49
      b__law_power := b49
      F__law_listed := F50
      g__law_listed := PySem.W.mg_of X G q50
      b__law_listed := b50
      F_law := F51
      g_law := PySem.W.mg_of X G q51
      b_law := b51
      c_MOST_CELLS := ⟨_, PySem.W.mg_of X G cst_MOST_CELLS⟩
      c_MOST_SIZE := ⟨_, PySem.W.mg_of X G cst_MOST_SIZE⟩
      c_MOST_DEPTH := ⟨_, PySem.W.mg_of X G cst_MOST_DEPTH⟩
      c_MOST_REACH := ⟨_, PySem.W.mg_of X G cst_MOST_REACH⟩
      c_MOST_WRITTEN := ⟨_, PySem.W.mg_of X G cst_MOST_WRITTEN⟩
      c_MOST_TIMES := ⟨_, PySem.W.mg_of X G cst_MOST_TIMES⟩
      c_MIRRORED_DIRECTION := PySem.W.mg_of X G cst_MIRRORED_DIRECTION
      d_MIRRORED_DIRECTION_all := kdct_of (dicW_of dl_MIRRORED_DIRECTION dh_MIRRORED_DIRECTION ds_MIRRORED_DIRECTION) dv_MIRRORED_DIRECTION_all ⟨_, rfl⟩
      d_MIRRORED_DIRECTION_on := kdct_of (dicW_of dl_MIRRORED_DIRECTION dh_MIRRORED_DIRECTION ds_MIRRORED_DIRECTION) dv_MIRRORED_DIRECTION_on ⟨_, rfl⟩
      d_MIRRORED_DIRECTION_back := kdct_of (dicW_of dl_MIRRORED_DIRECTION dh_MIRRORED_DIRECTION ds_MIRRORED_DIRECTION) dv_MIRRORED_DIRECTION_back ⟨_, rfl⟩
      c_MOST_WEIGHTS := ⟨_, PySem.W.mg_of X G cst_MOST_WEIGHTS⟩
      c_MOST_WEIGHT := ⟨_, PySem.W.mg_of X G cst_MOST_WEIGHT⟩
      c_ENDS := PySem.W.mg_of X G cst_ENDS
      v_ENDS := fun _ => .inr ⟨_, _, _, cv_ENDS, rfl, rfl, (by show 2 ≤ sizeLine; rw [sizeLine_eq]; decide), .cons ⟨_, rfl⟩ (.cons ⟨_, rfl⟩ (.nil))⟩
      c_WAYS := PySem.W.mg_of X G cst_WAYS
      v_WAYS := fun _ => .inr ⟨_, _, _, cv_WAYS, rfl, rfl, (by show 3 ≤ sizeLine; rw [sizeLine_eq]; decide), .cons ⟨_, rfl⟩ (.cons ⟨_, rfl⟩ (.cons ⟨_, rfl⟩ (.nil)))⟩
      n_abs := PySem.W.mg_none_of X G z_abs
      n_all := PySem.W.mg_none_of X G z_all
      n_bool := PySem.W.mg_none_of X G z_bool
      n_enumerate := PySem.W.mg_none_of X G z_enumerate
      n_int := PySem.W.mg_none_of X G z_int
      n_isinstance := PySem.W.mg_none_of X G z_isinstance
      n_len := PySem.W.mg_none_of X G z_len
      n_list := PySem.W.mg_none_of X G z_list
      n_max := PySem.W.mg_none_of X G z_max
      n_min := PySem.W.mg_none_of X G z_min
      n_range := PySem.W.mg_none_of X G z_range
      n_reversed := PySem.W.mg_none_of X G z_reversed
      n_sorted := PySem.W.mg_none_of X G z_sorted
      n_str := PySem.W.mg_none_of X G z_str
      n_sum := PySem.W.mg_none_of X G z_sum
      n_tuple := PySem.W.mg_none_of X G z_tuple
      n_zip := PySem.W.mg_none_of X G z_zip }
  exact ⟨_, fun s v => .of_eq rfl, fun base _ _ => ok_law T⟩
theorem walk {l : PySem.W.OpenLaw} {q : Program} {loose : List Str} {XP : (Str → Option Value) → Heap → Prop} {YP : World → Heap → Prop} {d : DefRec} {K : Params → PySem.W.Frag} (hn : l.most = some 63) (hdf : d.params.defaults = [])
    (hY : ∀ (w : World) (h : Heap), YP w h → (K w.params).In h)
    (F : ∀ (w : World) (mg : Str → Option Value) (fa : Addr) (h : Heap), (K w.params).In h → h.Ns mainGlobals mg → mg d.name = some (.ref fa) →
      ∃ fd : FuncData, (∀ (s : Shared) (u : Value), BindsTo s fd ⟨[u], []⟩ [("_law_script", u)]) ∧ ∀ base : Heap, (K w.params).In base → base.Ns mainGlobals mg → FnOk l.prog w (K w.params) mg base CX0 90 fa fd ["_law_script"] (spLaw (K w.params))) :
    PySem.W.WalkO q loose XP YP l.row.toRowW d [] (fun f vs => PySem.call f vs) :=
  L2.walk_of (n := 63) (k := 90) (x := "_law_script") (CX := fun _ => CX0) (sp := fun w => spLaw (K w.params)) hn (by decide) hdf ⟨rfl, by decide, by decide⟩ hY F (fun _ _ a ns hl _ hS => ⟨a, ns, rfl, hS, hl, fun _ => rfl⟩) fun _ _ _ _ _ z => z
end Rk
open PySem PySem.W PyProof.Rows in
set_option maxRecDepth 100000 in
set_option maxHeartbeats 0 in
theorem PySem.Challenge.cw_ranksweeps_k09_equal_chains_holds : PySem.Challenge.rw_ranksweeps_k09_equal_chains.Holds := by
  w_on; o_law; k_head; (case hw => w_witness2)
  k_fill
  refine Rk.walk (l := PySem.Challenge.rw_ranksweeps_k09_equal_chains) rfl rfl (fun w h Y => PySem.W.kIn_of Y) ?F
  case F =>
    intro w mg fa h KX G hmg
    refine' Rk.all_mk KX G hmg ?g_SweepError ?g_NoRow ?g_NoSweep ?g_NoNumber ?g_TooLarge ?g_Chain ?g_Sweep ?cst_MOST_CELLS ?cst_MOST_SIZE ?cst_MOST_DEPTH ?cst_MOST_REACH ?cst_MOST_WRITTEN ?cst_MOST_TIMES ?cst_MIRRORED_DIRECTION ?cst_MOST_WEIGHTS ?cst_MOST_WEIGHT ?cst_ENDS ?cst_WAYS ?x_SweepError ?sa_SweepError ?ga_SweepError ?gg_SweepError ?sv_SweepError ?ec_SweepError ?tc_SweepError ?kc_SweepError ?hc_SweepError ?ic_SweepError ?ha_SweepError ?hm_SweepError ?s_SweepError_SweepError ?s_SweepError_NoRow ?s_SweepError_NoSweep ?s_SweepError_NoNumber ?s_SweepError_TooLarge ?x_NoRow ?sa_NoRow ?ga_NoRow ?gg_NoRow ?sv_NoRow ?ec_NoRow ?tc_NoRow ?kc_NoRow ?hc_NoRow ?ic_NoRow ?ha_NoRow ?hm_NoRow ?s_NoRow_SweepError ?s_NoRow_NoRow ?s_NoRow_NoSweep ?s_NoRow_NoNumber ?s_NoRow_TooLarge ?q0 ?l0 ?cc0 ?kk0 ?t_NoRow__init__ ?no_NoRow_index ?x_NoSweep ?sa_NoSweep ?ga_NoSweep ?gg_NoSweep ?sv_NoSweep ?ec_NoSweep ?tc_NoSweep ?kc_NoSweep ?hc_NoSweep ?ic_NoSweep ?ha_NoSweep ?hm_NoSweep ?s_NoSweep_SweepError ?s_NoSweep_NoRow ?s_NoSweep_NoSweep ?s_NoSweep_NoNumber ?s_NoSweep_TooLarge ?q1 ?l1 ?cc1 ?kk1 ?t_NoSweep__init__ ?no_NoSweep_part ?x_NoNumber ?sa_NoNumber ?ga_NoNumber ?gg_NoNumber ?sv_NoNumber ?ec_NoNumber ?tc_NoNumber ?kc_NoNumber ?hc_NoNumber ?ic_NoNumber ?ha_NoNumber ?hm_NoNumber ?s_NoNumber_SweepError ?s_NoNumber_NoRow ?s_NoNumber_NoSweep ?s_NoNumber_NoNumber ?s_NoNumber_TooLarge ?q2 ?l2 ?cc2 ?kk2 ?t_NoNumber__init__ ?no_NoNumber_name ?x_TooLarge ?sa_TooLarge ?ga_TooLarge ?gg_TooLarge ?sv_TooLarge ?ec_TooLarge ?tc_TooLarge ?kc_TooLarge ?hc_TooLarge ?ic_TooLarge ?ha_TooLarge ?hm_TooLarge ?s_TooLarge_SweepError ?s_TooLarge_NoRow ?s_TooLarge_NoSweep ?s_TooLarge_NoNumber ?s_TooLarge_TooLarge ?q3 ?l3 ?cc3 ?kk3 ?t_TooLarge__init__ ?no_TooLarge_part ?hn ?ht ?pg_Chain ?hd_Chain ?po_Chain ?sa_Chain ?q4 ?l4 ?cc4 ?kk4 ?e_Chain__init___times ?fn_Chain__init__ ?q5 ?l5 ?cc5 ?kk5 ?fn_Chain__call__ ?q6 ?l6 ?cc6 ?kk6 ?fn_Chain__eq__ ?q7 ?l7 ?cc7 ?kk7 ?fn_Chain__rshift__ ?q8 ?l8 ?cc8 ?kk8 ?fn_Chain__or__ ?q9 ?l9 ?cc9 ?kk9 ?fn_Chain__and__ ?q10 ?l10 ?cc10 ?kk10 ?fn_Chain__invert__ ?q11 ?l11 ?cc11 ?kk11 ?fn_Chain__pow__ ?q12 ?l12 ?cc12 ?kk12 ?fn_Chainrepeated ?q13 ?l13 ?cc13 ?kk13 ?fn_Chainmirrored ?q14 ?l14 ?cc14 ?kk14 ?fn_Chainsweeps ?pg_Sweep ?hd_Sweep ?po_Sweep ?sa_Sweep ?q15 ?l15 ?cc15 ?kk15 ?e_Sweep__init___own ?e_Sweep__init___ends ?e_Sweep__init___way ?fn_Sweep__init__ ?q16 ?l16 ?cc16 ?kk16 ?fn_Sweep__eq__ ?mk_Chain ?kc_Chain ?rd_Chain ?gs_Chain ?ci_Chain ?fi_Chain__call__ ?na_Chain_depth ?na_Chain_direction ?na_Chain_ends ?na_Chain_kind ?na_Chain_own ?na_Chain_parts ?na_Chain_rank ?na_Chain_reach ?na_Chain_size ?na_Chain_times ?na_Chain_way ?na_Chain_weights ?na_Chain_written ?ic_Chain ?tc_Chain ?ha_Chain ?hm_Chain ?ne_Chain ?s_Chain_Chain ?s_Chain_Sweep ?mk_Sweep ?kc_Sweep ?rd_Sweep ?gs_Sweep ?ci_Sweep ?me_Sweep___and__ ?me_Sweep___call__ ?me_Sweep___invert__ ?me_Sweep___or__ ?me_Sweep___pow__ ?me_Sweep___rshift__ ?me_Sweep_mirrored ?me_Sweep_repeated ?me_Sweep_sweeps ?na_Sweep_depth ?na_Sweep_direction ?na_Sweep_ends ?na_Sweep_kind ?na_Sweep_own ?na_Sweep_parts ?na_Sweep_rank ?na_Sweep_reach ?na_Sweep_size ?na_Sweep_times ?na_Sweep_way ?na_Sweep_weights ?na_Sweep_written ?ic_Sweep ?tc_Sweep ?ha_Sweep ?hm_Sweep ?ne_Sweep ?s_Sweep_Chain ?s_Sweep_Sweep ?noG ?noT_and ?noT_rshift ?sf_Chain ?cdl_Chain ?cdn_Chain ?obl_Chain ?obc_Chain ?rn_Chain_and ?rn_Chain_or ?rn_Chain_rshift ?ro_Chain ?sf_Sweep ?cdl_Sweep ?cdn_Sweep ?obl_Sweep ?obc_Sweep ?rn_Sweep_and ?rn_Sweep_or ?rn_Sweep_rshift ?ro_Sweep ?ip1 ?ip2 ?rp_Chain ?rp_Sweep ?q17 ?l17 ?cc17 ?kk17 ?q18 ?l18 ?cc18 ?kk18 ?q19 ?l19 ?cc19 ?kk19 ?q20 ?l20 ?cc20 ?kk20 ?q21 ?l21 ?cc21 ?kk21 ?q22 ?l22 ?cc22 ?kk22 ?q23 ?l23 ?cc23 ?kk23 ?q24 ?l24 ?cc24 ?kk24 ?q25 ?l25 ?cc25 ?kk25 ?q26 ?l26 ?cc26 ?kk26 ?q27 ?l27 ?cc27 ?kk27 ?q28 ?l28 ?cc28 ?kk28 ?q29 ?l29 ?cc29 ?kk29 ?q30 ?l30 ?cc30 ?kk30 ?q31 ?l31 ?cc31 ?kk31 ?q32 ?l32 ?cc32 ?kk32 ?q33 ?l33 ?cc33 ?kk33 ?q34 ?l34 ?cc34 ?kk34 ?q35 ?l35 ?cc35 ?kk35 ?q36 ?l36 ?cc36 ?kk36 ?q37 ?l37 ?cc37 ?kk37 ?q38 ?l38 ?cc38 ?kk38 ?q39 ?l39 ?cc39 ?kk39 ?q40 ?l40 ?cc40 ?kk40 ?q41 ?l41 ?cc41 ?kk41 ?q42 ?l42 ?cc42 ?kk42 ?q43 ?l43 ?cc43 ?kk43 ?q44 ?l44 ?cc44 ?kk44 ?q45 ?l45 ?cc45 ?kk45 ?q46 ?l46 ?cc46 ?kk46 ?q47 ?l47 ?cc47 ?kk47 ?q48 ?l48 ?cc48 ?kk48 ?q49 ?l49 ?cc49 ?kk49 ?q50 ?l50 ?cc50 ?kk50 ?q51 ?l51 ?cc51 ?kk51 ?dl_MIRRORED_DIRECTION ?dh_MIRRORED_DIRECTION ?ds_MIRRORED_DIRECTION ?dv_MIRRORED_DIRECTION_all ?dv_MIRRORED_DIRECTION_on ?dv_MIRRORED_DIRECTION_back ?cv_ENDS ?cv_WAYS ?z_abs ?z_all ?z_bool ?z_enumerate ?z_int ?z_isinstance ?z_len ?z_list ?z_max ?z_min ?z_range ?z_reversed ?z_sorted ?z_str ?z_sum ?z_tuple ?z_zip
    (case g_SweepError => k_is)
    (case g_NoRow => k_is)
    (case g_NoSweep => k_is)
    (case g_NoNumber => k_is)
    (case g_TooLarge => k_is)
    (case g_Chain => k_is)
    (case g_Sweep => k_is)
    (case cst_MOST_CELLS => k_is)
    (case cst_MOST_SIZE => k_is)
    (case cst_MOST_DEPTH => k_is)
    (case cst_MOST_REACH => k_is)
    (case cst_MOST_WRITTEN => k_is)
    (case cst_MOST_TIMES => k_is)
    (case cst_MIRRORED_DIRECTION => k_is)
    (case cst_MOST_WEIGHTS => k_is)
    (case cst_MOST_WEIGHT => k_is)
    (case cst_ENDS => k_is)
    (case cst_WAYS => k_is)
    (case x_SweepError => k_is)
    (case sa_SweepError => k_is)
    (case ga_SweepError => k_is)
    (case gg_SweepError => k_is)
    (case sv_SweepError => k_is)
    (case ec_SweepError => k_is)
    (case tc_SweepError => k_is)
    (case kc_SweepError => k_is)
    (case hc_SweepError => k_is)
    (case ic_SweepError => k_is)
    (case ha_SweepError => k_is)
    (case hm_SweepError => k_is)
    (case s_SweepError_SweepError => k_is)
    (case s_SweepError_NoRow => k_is)
    (case s_SweepError_NoSweep => k_is)
    (case s_SweepError_NoNumber => k_is)
    (case s_SweepError_TooLarge => k_is)
    (case x_NoRow => k_is)
    (case sa_NoRow => k_is)
    (case ga_NoRow => k_is)
    (case gg_NoRow => k_is)
    (case sv_NoRow => k_is)
    (case ec_NoRow => k_is)
    (case tc_NoRow => k_is)
    (case kc_NoRow => k_is)
    (case hc_NoRow => k_is)
    (case ic_NoRow => k_is)
    (case ha_NoRow => k_is)
    (case hm_NoRow => k_is)
    (case s_NoRow_SweepError => k_is)
    (case s_NoRow_NoRow => k_is)
    (case s_NoRow_NoSweep => k_is)
    (case s_NoRow_NoNumber => k_is)
    (case s_NoRow_TooLarge => k_is)
    (case q0 => k_is)
    (case l0 => k_is)
    (case cc0 => k_is)
    (case kk0 => k_is)
    (case t_NoRow__init__ => k_is)
    (case no_NoRow_index => k_is)
    (case x_NoSweep => k_is)
    (case sa_NoSweep => k_is)
    (case ga_NoSweep => k_is)
    (case gg_NoSweep => k_is)
    (case sv_NoSweep => k_is)
    (case ec_NoSweep => k_is)
    (case tc_NoSweep => k_is)
    (case kc_NoSweep => k_is)
    (case hc_NoSweep => k_is)
    (case ic_NoSweep => k_is)
    (case ha_NoSweep => k_is)
    (case hm_NoSweep => k_is)
    (case s_NoSweep_SweepError => k_is)
    (case s_NoSweep_NoRow => k_is)
    (case s_NoSweep_NoSweep => k_is)
    (case s_NoSweep_NoNumber => k_is)
    (case s_NoSweep_TooLarge => k_is)
    (case q1 => k_is)
    (case l1 => k_is)
    (case cc1 => k_is)
    (case kk1 => k_is)
    (case t_NoSweep__init__ => k_is)
    (case no_NoSweep_part => k_is)
    (case x_NoNumber => k_is)
    (case sa_NoNumber => k_is)
    (case ga_NoNumber => k_is)
    (case gg_NoNumber => k_is)
    (case sv_NoNumber => k_is)
    (case ec_NoNumber => k_is)
    (case tc_NoNumber => k_is)
    (case kc_NoNumber => k_is)
    (case hc_NoNumber => k_is)
    (case ic_NoNumber => k_is)
    (case ha_NoNumber => k_is)
    (case hm_NoNumber => k_is)
    (case s_NoNumber_SweepError => k_is)
    (case s_NoNumber_NoRow => k_is)
    (case s_NoNumber_NoSweep => k_is)
    (case s_NoNumber_NoNumber => k_is)
    (case s_NoNumber_TooLarge => k_is)
    (case q2 => k_is)
    (case l2 => k_is)
    (case cc2 => k_is)
    (case kk2 => k_is)
    (case t_NoNumber__init__ => k_is)
    (case no_NoNumber_name => k_is)
    (case x_TooLarge => k_is)
    (case sa_TooLarge => k_is)
    (case ga_TooLarge => k_is)
    (case gg_TooLarge => k_is)
    (case sv_TooLarge => k_is)
    (case ec_TooLarge => k_is)
    (case tc_TooLarge => k_is)
    (case kc_TooLarge => k_is)
    (case hc_TooLarge => k_is)
    (case ic_TooLarge => k_is)
    (case ha_TooLarge => k_is)
    (case hm_TooLarge => k_is)
    (case s_TooLarge_SweepError => k_is)
    (case s_TooLarge_NoRow => k_is)
    (case s_TooLarge_NoSweep => k_is)
    (case s_TooLarge_NoNumber => k_is)
    (case s_TooLarge_TooLarge => k_is)
    (case q3 => k_is)
    (case l3 => k_is)
    (case cc3 => k_is)
    (case kk3 => k_is)
    (case t_TooLarge__init__ => k_is)
    (case no_TooLarge_part => k_is)
    (case hn => k_is)
    (case ht => k_is)
    (case pg_Chain => k_is)
    (case hd_Chain => k_is)
    (case po_Chain => k_is)
    (case sa_Chain => k_is)
    (case q4 => k_is)
    (case l4 => k_is)
    (case cc4 => k_is)
    (case kk4 => k_is)
    (case e_Chain__init___times => k_is)
    (case fn_Chain__init__ => k_is)
    (case q5 => k_is)
    (case l5 => k_is)
    (case cc5 => k_is)
    (case kk5 => k_is)
    (case fn_Chain__call__ => k_is)
    (case q6 => k_is)
    (case l6 => k_is)
    (case cc6 => k_is)
    (case kk6 => k_is)
    (case fn_Chain__eq__ => k_is)
    (case q7 => k_is)
    (case l7 => k_is)
    (case cc7 => k_is)
    (case kk7 => k_is)
    (case fn_Chain__rshift__ => k_is)
    (case q8 => k_is)
    (case l8 => k_is)
    (case cc8 => k_is)
    (case kk8 => k_is)
    (case fn_Chain__or__ => k_is)
    (case q9 => k_is)
    (case l9 => k_is)
    (case cc9 => k_is)
    (case kk9 => k_is)
    (case fn_Chain__and__ => k_is)
    (case q10 => k_is)
    (case l10 => k_is)
    (case cc10 => k_is)
    (case kk10 => k_is)
    (case fn_Chain__invert__ => k_is)
    (case q11 => k_is)
    (case l11 => k_is)
    (case cc11 => k_is)
    (case kk11 => k_is)
    (case fn_Chain__pow__ => k_is)
    (case q12 => k_is)
    (case l12 => k_is)
    (case cc12 => k_is)
    (case kk12 => k_is)
    (case fn_Chainrepeated => k_is)
    (case q13 => k_is)
    (case l13 => k_is)
    (case cc13 => k_is)
    (case kk13 => k_is)
    (case fn_Chainmirrored => k_is)
    (case q14 => k_is)
    (case l14 => k_is)
    (case cc14 => k_is)
    (case kk14 => k_is)
    (case fn_Chainsweeps => k_is)
    (case pg_Sweep => k_is)
    (case hd_Sweep => k_is)
    (case po_Sweep => k_is)
    (case sa_Sweep => k_is)
    (case q15 => k_is)
    (case l15 => k_is)
    (case cc15 => k_is)
    (case kk15 => k_is)
    (case e_Sweep__init___own => k_is)
    (case e_Sweep__init___ends => k_is)
    (case e_Sweep__init___way => k_is)
    (case fn_Sweep__init__ => k_is)
    (case q16 => k_is)
    (case l16 => k_is)
    (case cc16 => k_is)
    (case kk16 => k_is)
    (case fn_Sweep__eq__ => k_is)
    (case mk_Chain => k_is)
    (case kc_Chain => k_is)
    (case rd_Chain => k_is)
    (case gs_Chain => k_is)
    (case ci_Chain => k_is)
    (case fi_Chain__call__ => k_is)
    (case na_Chain_depth => k_is)
    (case na_Chain_direction => k_is)
    (case na_Chain_ends => k_is)
    (case na_Chain_kind => k_is)
    (case na_Chain_own => k_is)
    (case na_Chain_parts => k_is)
    (case na_Chain_rank => k_is)
    (case na_Chain_reach => k_is)
    (case na_Chain_size => k_is)
    (case na_Chain_times => k_is)
    (case na_Chain_way => k_is)
    (case na_Chain_weights => k_is)
    (case na_Chain_written => k_is)
    (case ic_Chain => k_is)
    (case tc_Chain => k_is)
    (case ha_Chain => k_is)
    (case hm_Chain => k_is)
    (case ne_Chain => k_is)
    (case s_Chain_Chain => k_is)
    (case s_Chain_Sweep => k_is)
    (case mk_Sweep => k_is)
    (case kc_Sweep => k_is)
    (case rd_Sweep => k_is)
    (case gs_Sweep => k_is)
    (case ci_Sweep => k_is)
    (case me_Sweep___and__ => k_is)
    (case me_Sweep___call__ => k_is)
    (case me_Sweep___invert__ => k_is)
    (case me_Sweep___or__ => k_is)
    (case me_Sweep___pow__ => k_is)
    (case me_Sweep___rshift__ => k_is)
    (case me_Sweep_mirrored => k_is)
    (case me_Sweep_repeated => k_is)
    (case me_Sweep_sweeps => k_is)
    (case na_Sweep_depth => k_is)
    (case na_Sweep_direction => k_is)
    (case na_Sweep_ends => k_is)
    (case na_Sweep_kind => k_is)
    (case na_Sweep_own => k_is)
    (case na_Sweep_parts => k_is)
    (case na_Sweep_rank => k_is)
    (case na_Sweep_reach => k_is)
    (case na_Sweep_size => k_is)
    (case na_Sweep_times => k_is)
    (case na_Sweep_way => k_is)
    (case na_Sweep_weights => k_is)
    (case na_Sweep_written => k_is)
    (case ic_Sweep => k_is)
    (case tc_Sweep => k_is)
    (case ha_Sweep => k_is)
    (case hm_Sweep => k_is)
    (case ne_Sweep => k_is)
    (case s_Sweep_Chain => k_is)
    (case s_Sweep_Sweep => k_is)
    (case noG => k_is)
    (case noT_and => k_is)
    (case noT_rshift => k_is)
    (case sf_Chain => k_is)
    (case cdl_Chain => first | k_is | exact rfl | (with_unfolding_all rfl) | decide +kernel)
    (case cdn_Chain => first | k_is | exact rfl | (with_unfolding_all rfl) | decide +kernel)
    (case obl_Chain => first | k_is | exact rfl | (with_unfolding_all rfl) | decide +kernel)
    (case obc_Chain => first | k_is | exact rfl | (with_unfolding_all rfl) | decide +kernel)
    (case rn_Chain_and => k_is)
    (case rn_Chain_or => k_is)
    (case rn_Chain_rshift => k_is)
    (case ro_Chain => k_is)
    (case sf_Sweep => k_is)
    (case cdl_Sweep => first | k_is | exact rfl | (with_unfolding_all rfl) | decide +kernel)
    (case cdn_Sweep => first | k_is | exact rfl | (with_unfolding_all rfl) | decide +kernel)
    (case obl_Sweep => first | k_is | exact rfl | (with_unfolding_all rfl) | decide +kernel)
    (case obc_Sweep => first | k_is | exact rfl | (with_unfolding_all rfl) | decide +kernel)
    (case rn_Sweep_and => k_is)
    (case rn_Sweep_or => k_is)
    (case rn_Sweep_rshift => k_is)
    (case ro_Sweep => k_is)
    (case ip1 => k_is)
    (case ip2 => k_is)
    (case rp_Chain => k_is)
    (case rp_Sweep => k_is)
    (case q17 => k_is)
    (case l17 => k_is)
    (case cc17 => k_is)
    (case kk17 => k_is)
    (case q18 => k_is)
    (case l18 => k_is)
    (case cc18 => k_is)
    (case kk18 => k_is)
    (case q19 => k_is)
    (case l19 => k_is)
    (case cc19 => k_is)
    (case kk19 => k_is)
    (case q20 => k_is)
    (case l20 => k_is)
    (case cc20 => k_is)
    (case kk20 => k_is)
    (case q21 => k_is)
    (case l21 => k_is)
    (case cc21 => k_is)
    (case kk21 => k_is)
    (case q22 => k_is)
    (case l22 => k_is)
    (case cc22 => k_is)
    (case kk22 => k_is)
    (case q23 => k_is)
    (case l23 => k_is)
    (case cc23 => k_is)
    (case kk23 => k_is)
    (case q24 => k_is)
    (case l24 => k_is)
    (case cc24 => k_is)
    (case kk24 => k_is)
    (case q25 => k_is)
    (case l25 => k_is)
    (case cc25 => k_is)
    (case kk25 => k_is)
    (case q26 => k_is)
    (case l26 => k_is)
    (case cc26 => k_is)
    (case kk26 => k_is)
    (case q27 => k_is)
    (case l27 => k_is)
    (case cc27 => k_is)
    (case kk27 => k_is)
    (case q28 => k_is)
    (case l28 => k_is)
    (case cc28 => k_is)
    (case kk28 => k_is)
    (case q29 => k_is)
    (case l29 => k_is)
    (case cc29 => k_is)
    (case kk29 => k_is)
    (case q30 => k_is)
    (case l30 => k_is)
    (case cc30 => k_is)
    (case kk30 => k_is)
    (case q31 => k_is)
    (case l31 => k_is)
    (case cc31 => k_is)
    (case kk31 => k_is)
    (case q32 => k_is)
    (case l32 => k_is)
    (case cc32 => k_is)
    (case kk32 => k_is)
    (case q33 => k_is)
    (case l33 => k_is)
    (case cc33 => k_is)
    (case kk33 => k_is)
    (case q34 => k_is)
    (case l34 => k_is)
    (case cc34 => k_is)
    (case kk34 => k_is)
    (case q35 => k_is)
    (case l35 => k_is)
    (case cc35 => k_is)
    (case kk35 => k_is)
    (case q36 => k_is)
    (case l36 => k_is)
    (case cc36 => k_is)
    (case kk36 => k_is)
    (case q37 => k_is)
    (case l37 => k_is)
    (case cc37 => k_is)
    (case kk37 => k_is)
    (case q38 => k_is)
    (case l38 => k_is)
    (case cc38 => k_is)
    (case kk38 => k_is)
    (case q39 => k_is)
    (case l39 => k_is)
    (case cc39 => k_is)
    (case kk39 => k_is)
    (case q40 => k_is)
    (case l40 => k_is)
    (case cc40 => k_is)
    (case kk40 => k_is)
    (case q41 => k_is)
    (case l41 => k_is)
    (case cc41 => k_is)
    (case kk41 => k_is)
    (case q42 => k_is)
    (case l42 => k_is)
    (case cc42 => k_is)
    (case kk42 => k_is)
    (case q43 => k_is)
    (case l43 => k_is)
    (case cc43 => k_is)
    (case kk43 => k_is)
    (case q44 => k_is)
    (case l44 => k_is)
    (case cc44 => k_is)
    (case kk44 => k_is)
    (case q45 => k_is)
    (case l45 => k_is)
    (case cc45 => k_is)
    (case kk45 => k_is)
    (case q46 => k_is)
    (case l46 => k_is)
    (case cc46 => k_is)
    (case kk46 => k_is)
    (case q47 => k_is)
    (case l47 => k_is)
    (case cc47 => k_is)
    (case kk47 => k_is)
    (case q48 => k_is)
    (case l48 => k_is)
    (case cc48 => k_is)
    (case kk48 => k_is)
    (case q49 => k_is)
    (case l49 => k_is)
    (case cc49 => k_is)
    (case kk49 => k_is)
    (case q50 => k_is)
    (case l50 => k_is)
    (case cc50 => k_is)
    (case kk50 => k_is)
    (case q51 => k_is)
    (case l51 => k_is)
    (case cc51 => k_is)
    (case kk51 => k_is)
    (case dl_MIRRORED_DIRECTION => first | k_is | exact rfl | (with_unfolding_all rfl) | decide +kernel)
    (case dh_MIRRORED_DIRECTION => first | k_is | exact rfl | (with_unfolding_all rfl) | decide +kernel)
    (case ds_MIRRORED_DIRECTION => first | k_is | exact rfl | (with_unfolding_all rfl) | decide +kernel)
    (case dv_MIRRORED_DIRECTION_all => k_is)
    (case dv_MIRRORED_DIRECTION_on => k_is)
    (case dv_MIRRORED_DIRECTION_back => k_is)
    (case cv_ENDS => k_is)
    (case cv_WAYS => k_is)
    (case z_abs => k_is)
    (case z_all => k_is)
    (case z_bool => k_is)
    (case z_enumerate => k_is)
    (case z_int => k_is)
    (case z_isinstance => k_is)
    (case z_len => k_is)
    (case z_list => k_is)
    (case z_max => k_is)
    (case z_min => k_is)
    (case z_range => k_is)
    (case z_reversed => k_is)
    (case z_sorted => k_is)
    (case z_str => k_is)
    (case z_sum => k_is)
    (case z_tuple => k_is)
    (case z_zip => k_is)
