import PyProof.Rows.All
import Wide.All
import OpenK.AllK
import Wide.FinOn
import HandS.ForMost
import HandS.ForExc
import HandS.Evl
import HandS.IsInst
import HandS.TupAny
import HandS.Wide
import HandS.WideBits
import HandS.Zip
import HandS.ExcValue
import HandS.ExcIs
import HandS.Lambda
import HandS.Codes
import HandS.Conv
import PyProof.ReprRoads
import HandS.Style
import KE.GoesMore
import PyProof.ReprLen
import HandS.RaiseMore
import HandS.Head0
import HandS.Head1
import HandS.Head2
import HandS.HeadEnd
import HandS.HeadHook1
import HandS.HeadHook2
import HandS.EndTab
import KE.KDictZip
import HandS.RevTup
import KE.KDictPairs
import PyProof.NeData
import HandS.SetTxt0
import HandS.SetFor
import PyProof.Rows.SortShellAny
import HandS.Strs
import HandS.Text
import PyProof.Rows.StrFit
import HandS.TupLe
import HandS.Replace
import HandS.ExcInit
import KE.KExcIs
import HandS.ExcSuper
import HandS.Nested
import KE.KSuper
import KE.KExcSuper
import PyProof.Rows.RegFStrParts
import PyProof.Rows.StrReprFit
import HandS.More
import HandS.WordsExc
import HandS.Defaults
import Lean
import PySem.Challenge.RW_samewriting_k51_word_machines_and_scribe
set_option Elab.async false
set_option linter.all false
set_option maxRecDepth 100000
set_option maxHeartbeats 1000000
/-! W0: data (PyData) over the hand layer: what an expression, a test, a block comes to, on a heap that only grows. -/
namespace Sx
open PySem PySem.Spec PyProof.Rows L2

/-! ### frozen and whole heaps that grow together -/
structure Grow (F H F' H' : Hp) : Prop where
  f : Same F F'
  h : Same H H'
  i : Same F' H'
  n : ∀ a o, F' a = some o → F a = none → H a = none
theorem Grow.same {F H F' H' : Hp} (g : Grow F H F' H') : Same F H' := g.f.trans g.i
theorem Grow.start {F H : Hp} (s : Same F H) : Grow F H F H := ⟨Same.refl _, Same.refl _, s, fun a o e n => by rw [n] at e; cases e⟩
theorem Grow.trans {F H F1 H1 F2 H2 : Hp} (a : Grow F H F1 H1) (b : Grow F1 H1 F2 H2) : Grow F H F2 H2 where
  f := a.f.trans b.f
  h := a.h.trans b.h
  i := b.i
  n := fun x o e n => by
    cases q : F1 x with
    | none => exact a.h.free (b.n x o e q)
    | some u => exact a.n x u q n
theorem same_upd {H : Hp} {p : Addr} {o : HO} (h : H p = none) : Same H (upd H p o) := fun b x e => by
  rw [upd_ne (ne_of_none e h)]
  exact e
/-- a new object that is known from now on -/
theorem Grow.known {F H : Hp} {p : Addr} {o : HO} (s : Same F H) (hp : H p = none) : Grow F H (upd F p o) (upd H p o) where
  f := same_upd (s.free hp)
  h := same_upd hp
  i := fun b x e => by
    by_cases hb : b = p
    · rw [hb, upd_same] at e ⊢
      exact e
    · rw [upd_ne hb] at e ⊢
      exact s b x e
  n := fun a x e n => by
    by_cases hb : a = p
    · rw [hb]
      exact hp
    · rw [upd_ne hb, n] at e
      cases e
/-- a new object that is nobody's business -/
theorem Grow.own {F H : Hp} {p : Addr} {o : HO} (s : Same F H) (hp : H p = none) : Grow F H F (upd H p o) :=
  ⟨Same.refl _, same_upd hp, s.trans (same_upd hp), fun a x e n => by rw [n] at e; cases e⟩
/-- what was known before the growing is known beside it too -/
theorem Grow.widen {F F2 H F' H' : Hp} (g : Grow F H F' H') (a : Same F F2) (b : Same F2 H) : ∃ G, Same F' G ∧ Grow F2 H G H' := by
  refine ⟨fun x => match F' x with | some o => some o | none => F2 x, fun x o e => by show (match F' x with | some o => some o | none => F2 x) = some o; rw [e], ⟨fun x o e => ?_, g.h, fun x o e => ?_, fun x o e n => ?_⟩⟩
  · show (match F' x with | some o => some o | none => F2 x) = some o
    cases q : F' x with
    | none => exact e
    | some u =>
      have h1 := g.i x u q
      have h2 := g.h x o (b x o e)
      rw [h1] at h2
      exact h2
  · have e' : (match F' x with | some o => some o | none => F2 x) = some o := e
    cases q : F' x with
    | none =>
      rw [q] at e'
      exact g.h x o (b x o e')
    | some u =>
      rw [q] at e'
      exact g.i x o (q.trans e')
  · have e' : (match F' x with | some o => some o | none => F2 x) = some o := e
    cases q : F' x with
    | none =>
      rw [q] at e'
      have e2 : F2 x = some o := e'
      rw [n] at e2
      cases e2
    | some u => exact g.n x u q (a.free n)

/-! ### data, an empty dict among it -/
mutual
inductive Dq (K : PySem.W.Frag) (H : Hp) : V → PyData → Prop
  | non : Dq K H .non .none
  | bl (b : Bool) : Dq K H (.bl b) (.bool b)
  | int (i : Int) : Dq K H (.int i) (.int i)
  | str (x : Str) : Dq K H (.str x) (.str x)
  | lst {a : Addr} {xs : List V} {ds : List PyData} : SqL K H a xs → DqAll K H xs ds → Dq K H (.ref a) (.list ds)
  | tup {a : Addr} {xs : List V} {ds : List PyData} : SqT K H a xs → DqAll K H xs ds → Dq K H (.ref a) (.tuple ds)
  | emp {a : Addr} : H a = some (.dK []) → Dq K H (.ref a) (.dict [])
inductive DqAll (K : PySem.W.Frag) (H : Hp) : List V → List PyData → Prop
  | nil : DqAll K H [] []
  | cons {v : V} {vs : List V} {d : PyData} {ds : List PyData} : Dq K H v d → DqAll K H vs ds → DqAll K H (v :: vs) (d :: ds)
end
/-! ### data stays data -/
theorem same_seqT {K : PySem.W.Frag} {H H' : Hp} {a : Addr} {xs : List V} (e : Same H H') (h : SqT K H a xs) : SqT K H' a xs := by
  rcases h with (h | ⟨o, h⟩) | h
  · exact .inl (.inl (e _ _ h))
  · exact .inl (.inr ⟨o, e _ _ h⟩)
  · exact .inr h
section
variable {K : PySem.W.Frag} {F G : Hp}
mutual
theorem dp_mono (s : Same F G) : ∀ (d : PyData) (v : V), Dq K F v d → Dq K G v d
  | .none, _, h => by cases h; exact .non
  | .bool b, _, h => by cases h; exact .bl b
  | .int i, _, h => by cases h; exact .int i
  | .str x, _, h => by cases h; exact .str x
  | .list ds, _, h => by
    cases h with
    | lst a b => exact .lst (s.seq a) (dps_mono s ds _ b)
  | .tuple ds, _, h => by
    cases h with
    | tup a b => exact .tup (same_seqT s a) (dps_mono s ds _ b)
  | .dict _, _, h => by
    cases h with
    | emp e => exact .emp (s _ _ e)
theorem dps_mono (s : Same F G) : ∀ (ds : List PyData) (vs : List V), DqAll K F vs ds → DqAll K G vs ds
  | [], _, h => by cases h; exact .nil
  | d :: ds, _, h => by
    cases h with
    | cons a b => exact .cons (dp_mono s d _ a) (dps_mono s ds _ b)
end
end
end Sx
namespace Sx
open PySem PySem.Spec PyProof.Rows L2
theorem Dq.up {K : PySem.W.Frag} {F G : Hp} {v : V} {d : PyData} (h : Dq K F v d) (s : Same F G) : Dq K G v d := dp_mono s d v h
theorem DqAll.up {K : PySem.W.Frag} {F G : Hp} {v : List V} {d : List PyData} (h : DqAll K F v d) (s : Same F G) : DqAll K G v d := dps_mono s d v h
theorem DqAll.len {K : PySem.W.Frag} {F : Hp} : ∀ {vs : List V} {ds : List PyData}, DqAll K F vs ds → vs.length = ds.length
  | _, _, .nil => rfl
  | _, _, .cons _ b => congrArg (· + 1) (DqAll.len b)
theorem DqAll.get {K : PySem.W.Frag} {F : Hp} : ∀ {vs : List V} {ds : List PyData} {i : Nat} {d : PyData}, DqAll K F vs ds → ds[i]? = some d → ∃ v, vs[i]? = some v ∧ Dq K F v d
  | _, _, _, _, .nil, e => by simp at e
  | _, _, 0, _, .cons a _, e => by simp at e; subst e; exact ⟨_, rfl, a⟩
  | _, _, i + 1, _, .cons _ b, e => by
    obtain ⟨v, h1, h2⟩ := DqAll.get (i := i) b (by simpa using e)
    exact ⟨v, by simpa using h1, h2⟩
theorem DqAll.getV {K : PySem.W.Frag} {F : Hp} : ∀ {vs : List V} {ds : List PyData} {i : Nat} {v : V}, DqAll K F vs ds → vs[i]? = some v → ∃ d, ds[i]? = some d ∧ Dq K F v d
  | _, _, _, _, .nil, e => by simp at e
  | _, _, 0, _, .cons a _, e => by simp at e; subst e; exact ⟨_, rfl, a⟩
  | _, _, i + 1, _, .cons _ b, e => by
    obtain ⟨v, h1, h2⟩ := DqAll.getV (i := i) b (by simpa using e)
    exact ⟨v, by simpa using h1, h2⟩
theorem DqAll.app {K : PySem.W.Frag} {F : Hp} : ∀ {vs ws : List V} {ds es : List PyData}, DqAll K F vs ds → DqAll K F ws es → DqAll K F (vs ++ ws) (ds ++ es)
  | _, _, _, _, .nil, h => h
  | _, _, _, _, .cons a b, h => .cons a (DqAll.app b h)
theorem DqAll.drop {K : PySem.W.Frag} {F : Hp} : ∀ {vs : List V} {ds : List PyData} (n : Nat), DqAll K F vs ds → DqAll K F (vs.drop n) (ds.drop n)
  | _, _, 0, h => h
  | _, _, _ + 1, .nil => .nil
  | _, _, n + 1, .cons _ b => DqAll.drop n b
theorem DqAll.take {K : PySem.W.Frag} {F : Hp} : ∀ {vs : List V} {ds : List PyData} (n : Nat), DqAll K F vs ds → DqAll K F (vs.take n) (ds.take n)
  | _, _, 0, _ => .nil
  | _, _, _ + 1, .nil => .nil
  | _, _, n + 1, .cons a b => .cons a (DqAll.take n b)

end Sx
namespace Sx
open PySem PySem.Spec PyProof.Rows L2
section
variable {K : PySem.W.Frag} {F : Hp}
mutual
/-- without dicts it is the layer's own data -/
theorem dq_dp : ∀ (d : PyData) (v : V), Dq K F v d → PyData.hasDict d = false → L2.Dp K F v d
  | .none, _, h, _ => by cases h; exact .non
  | .bool b, _, h, _ => by cases h; exact .bl b
  | .int i, _, h, _ => by cases h; exact .int i
  | .str x, _, h, _ => by cases h; exact .str x
  | .list ds, _, h, e => by
    cases h with
    | lst a b => exact .lst a (dqs_dps ds _ b e)
  | .tuple ds, _, h, e => by
    cases h with
    | tup a b => exact .tup a (dqs_dps ds _ b e)
  | .dict _, _, _, e => by cases e
theorem dqs_dps : ∀ (ds : List PyData) (vs : List V), DqAll K F vs ds → PyData.hasDictAll ds = false → L2.DpAll K F vs ds
  | [], _, h, _ => by cases h; exact .nil
  | d :: ds, _, h, e => by
    have e' : (PyData.hasDict d || PyData.hasDictAll ds) = false := e
    rw [Bool.or_eq_false_iff] at e'
    cases h with
    | cons a b => exact .cons (dq_dp d _ a e'.1) (dqs_dps ds _ b e'.2)
end
mutual
theorem dp_dq : ∀ (d : PyData) (v : V), L2.Dp K F v d → Dq K F v d
  | .none, _, h => by cases h; exact .non
  | .bool b, _, h => by cases h; exact .bl b
  | .int i, _, h => by cases h; exact .int i
  | .str x, _, h => by cases h; exact .str x
  | .list ds, _, h => by
    cases h with
    | lst a b => exact .lst a (dps_dqs ds _ b)
  | .tuple ds, _, h => by
    cases h with
    | tup a b => exact .tup a (dps_dqs ds _ b)
  | .dict _, _, h => by cases h
theorem dps_dqs : ∀ (ds : List PyData) (vs : List V), L2.DpAll K F vs ds → DqAll K F vs ds
  | [], _, h => by cases h; exact .nil
  | d :: ds, _, h => by
    cases h with
    | cons a b => exact .cons (dp_dq d _ a) (dps_dqs ds _ b)
end
end
/-! ### what comes of an expression, a test, arguments -/
variable {K : PySem.W.Frag}
def EvD (K : PySem.W.Frag) (te : TE) (σ : L2.St) (F : Hp) (d : PyData) : Prop := ∀ H, Same F H → ∀ Q : VK, (∀ v F' H', Grow F H F' H' → Dq K F' v d → Q v H') → te σ H Q
def EvB (tt : TT) (σ : L2.St) (F : Hp) (b : Bool) : Prop := ∀ H, Same F H → ∀ Q : Bool → Hp → Prop, (∀ F' H', Grow F H F' H' → Q b H') → tt σ H Q
def EvS (K : PySem.W.Frag) (ta : TA) (σ : L2.St) (F : Hp) (ds : List PyData) : Prop := ∀ H, Same F H → ∀ Q : List V → Hp → Prop, (∀ vs F' H', Grow F H F' H' → DqAll K F' vs ds → Q vs H') → ta σ H Q
def Slot (K : PySem.W.Frag) (σ : L2.St) (F : Hp) (i : Nat) (d : PyData) : Prop := ∃ v, σ[i]? = some (some v) ∧ Dq K F v d
section
variable {σ : L2.St} {F G : Hp} {te ta tb : TE} {t u : TT} {d d1 d2 : PyData} {b : Bool}
theorem Slot.up {i : Nat} (h : Slot K σ F i d) (s : Same F G) : Slot K σ G i d := let ⟨v, a, b⟩ := h; ⟨v, a, b.up s⟩
theorem EvD.up (h : EvD K te σ F d) (s : Same F G) : EvD K te σ G d := fun H sH Q q => h H (s.trans sH) Q fun v F' H' g r => by
  obtain ⟨G', a, b⟩ := g.widen s sH
  exact q v G' H' b (r.up a)
theorem EvB.up (h : EvB t σ F b) (s : Same F G) : EvB t σ G b := fun H sH Q q => h H (s.trans sH) Q fun F' H' g => by
  obtain ⟨G', a, b⟩ := g.widen s sH
  exact q G' H' b
theorem EvS.up {ta : TA} {ds : List PyData} (h : EvS K ta σ F ds) (s : Same F G) : EvS K ta σ G ds := fun H sH Q q => h H (s.trans sH) Q fun v F' H' g r => by
  obtain ⟨G', a, b⟩ := g.widen s sH
  exact q v G' H' b (r.up a)
theorem ev_var {i : Nat} (h : Slot K σ F i d) : EvD K (tVar i) σ F d := fun H s Q q => let ⟨v, a, r⟩ := h; ⟨v, a, q v F H (.start s) r⟩
theorem ev_of {v : V} (r : ∀ F, Dq K F v d) : EvD K (tC v) σ F d := fun H s Q q => q v F H (.start s) (r F)
theorem ev_int {i : Int} : EvD K (tC (.int i)) σ F (.int i) := ev_of fun _ => .int i
theorem ev_str {x : Str} : EvD K (tC (.str x)) σ F (.str x) := ev_of fun _ => .str x
theorem ev_bl {x : Bool} : EvD K (tC (.bl x)) σ F (.bool x) := ev_of fun _ => .bl x
theorem ev_non : EvD K (tC .non) σ F .none := ev_of fun _ => .non
theorem ev_cd {v : V} (r : Dq K F v d) : EvD K (tC v) σ F d := fun H s Q q => q v F H (.start s) r
theorem EvD.is (h : EvD K te σ F d) (e : d = d1) : EvD K te σ F d1 := e ▸ h
theorem EvB.is {c : Bool} (h : EvB t σ F b) (e : b = c) : EvB t σ F c := e ▸ h
/-- a two-place operation -/
def RvD (K : PySem.W.Frag) (r : R2) (d1 d2 d : PyData) : Prop := ∀ F x y H, Same F H → Dq K F x d1 → Dq K F y d2 → ∀ Q : VK, (∀ v F' H', Grow F H F' H' → Dq K F' v d → Q v H') → r x y H Q
theorem ev_op {r : R2} (ha : EvD K ta σ F d1) (hb : EvD K tb σ F d2) (hr : RvD K r d1 d2 d) : EvD K (tOp r ta tb) σ F d := fun H s Q q =>
  ha H s _ fun x F1 H1 g1 r1 => hb.up g1.f H1 g1.i _ fun y F2 H2 g2 r2 => hr F2 x y H2 g2.i (r1.up g2.f) r2 Q fun v F' H' g r => q v F' H' ((g1.trans g2).trans g) r
theorem rv_now {r : R2} {v : V} (h : ∀ F x y H, Dq K F x d1 → Dq K F y d2 → Same F H → ∀ Q : VK, Q v H → r x y H Q) (hv : ∀ F, Dq K F v d) : RvD K r d1 d2 d := fun F x y H s a b Q q => h F x y H a b s Q (q v F H (.start s) (hv F))
theorem ea_nil : EvS K tNil σ F [] := fun H s Q q => q [] F H (.start s) .nil
theorem ea_cons {ta : TA} {ds : List PyData} (h : EvD K te σ F d) (hr : EvS K ta σ F ds) : EvS K (tCons te ta) σ F (d :: ds) := fun H s Q q =>
  h H s _ fun x F1 H1 g1 r1 => hr.up g1.f H1 g1.i _ fun xs F2 H2 g2 r2 => q _ F2 H2 (g1.trans g2) (.cons (r1.up g2.f) r2)
/-! tests -/
theorem eb_val (h : EvD K te σ F (.bool b)) : EvB (tB te) σ F b := fun H s Q q => h H s _ fun v F1 H1 g r => by
  cases r
  exact ⟨b, rfl, q F1 H1 g⟩
theorem eb_test (h : EvD K te σ F (.bool b)) : EvB (tTest te) σ F b := fun H s Q q => h H s _ fun v F1 H1 g r => by
  cases r
  exact ⟨b, rfl, q F1 H1 g⟩
theorem eb_and {c : Bool} (h1 : EvB t σ F b) (h2 : b = true → EvB u σ F c) : EvB (tAnd t u) σ F (b && c) := fun H s Q q => h1 H s _ fun F1 H1 g1 => by
  cases b with
  | true => exact (h2 rfl).up g1.f H1 g1.i _ fun F2 H2 g2 => q F2 H2 (g1.trans g2)
  | false => exact q F1 H1 g1
theorem eb_or {c : Bool} (h1 : EvB t σ F b) (h2 : b = false → EvB u σ F c) : EvB (tOr t u) σ F (b || c) := fun H s Q q => h1 H s _ fun F1 H1 g1 => by
  cases b with
  | false => exact (h2 rfl).up g1.f H1 g1.i _ fun F2 H2 g2 => q F2 H2 (g1.trans g2)
  | true => exact q F1 H1 g1
theorem eb_not (h : EvB t σ F b) : EvB (tNot t) σ F (!b) := fun H s Q q => h H s _ fun F1 H1 g => q F1 H1 g
theorem ev_and {c : Bool} (h1 : EvD K ta σ F (.bool b)) (h2 : b = true → EvD K tb σ F (.bool c)) : EvD K (tAndV ta tb) σ F (.bool (b && c)) := fun H s Q q => h1 H s _ fun v F1 H1 g1 r => by
  cases r
  refine ⟨b, rfl, ?_⟩
  cases b with
  | true => exact (h2 rfl).up g1.f H1 g1.i _ fun v F2 H2 g2 r => q v F2 H2 (g1.trans g2) r
  | false => exact q _ F1 H1 g1 (.bl false)
theorem ev_or {c : Bool} (h1 : EvD K ta σ F (.bool b)) (h2 : b = false → EvD K tb σ F (.bool c)) : EvD K (tOrV ta tb) σ F (.bool (b || c)) := fun H s Q q => h1 H s _ fun v F1 H1 g1 r => by
  cases r
  refine ⟨b, rfl, ?_⟩
  cases b with
  | false => exact (h2 rfl).up g1.f H1 g1.i _ fun v F2 H2 g2 r => q v F2 H2 (g1.trans g2) r
  | true => exact q _ F1 H1 g1 (.bl true)
theorem ev_not (h : EvD K ta σ F (.bool b)) : EvD K (tNotV ta) σ F (.bool (!b)) := fun H s Q q => h H s _ fun v F1 H1 g r => by
  cases r
  exact ⟨b, rfl, q _ F1 H1 g (.bl _)⟩
theorem ev_if (h : EvB t σ F b) (h1 : b = true → EvD K ta σ F d) (h2 : b = false → EvD K tb σ F d) : EvD K (tIf t ta tb) σ F d := fun H s Q q => h H s _ fun F1 H1 g1 => by
  cases b with
  | true => exact (h1 rfl).up g1.f H1 g1.i _ fun v F2 H2 g2 r => q v F2 H2 (g1.trans g2) r
  | false => exact (h2 rfl).up g1.f H1 g1.i _ fun v F2 H2 g2 r => q v F2 H2 (g1.trans g2) r
/-! displays -/
theorem ev_tup {ta : TA} {ds : List PyData} (h : EvS K ta σ F ds) (hl : ds.length ≤ sizeLine) : EvD K (tTup ta) σ F (.tuple ds) := fun H s Q q => h H s _ fun vs F1 H1 g1 r =>
  ⟨by rw [r.len]; exact hl, fun p hp => q _ _ _ (g1.trans (.known g1.i hp)) (.tup (.inl (.inl upd_same)) (r.up (same_upd (g1.i.free hp))))⟩
theorem ev_lst {ta : TA} {ds : List PyData} (h : EvS K ta σ F ds) (hl : ds.length ≤ sizeLine) : EvD K (tLst ta) σ F (.list ds) := fun H s Q q => h H s _ fun vs F1 H1 g1 r =>
  ⟨by rw [r.len]; exact hl, fun p hp => q _ _ _ (g1.trans (.known g1.i hp)) (.lst (.inl (.inl upd_same)) (r.up (same_upd (g1.i.free hp))))⟩
/-! calls of built-ins by values -/
def RcD (K : PySem.W.Frag) (r : List V → Hp → VK → Prop) (ds : List PyData) (d : PyData) : Prop := ∀ F xs H, Same F H → DqAll K F xs ds → ∀ Q : VK, (∀ v F' H', Grow F H F' H' → Dq K F' v d → Q v H') → r xs H Q
theorem ev_cb {r : List V → Hp → VK → Prop} {ta : TA} {ds : List PyData} (h : EvS K ta σ F ds) (hr : RcD K r ds d) : EvD K (tCB r ta) σ F d := fun H s Q q =>
  h H s _ fun xs F1 H1 g1 r1 => hr F1 xs H1 g1.i r1 Q fun v F2 H2 g2 r2 => q v F2 H2 (g1.trans g2) r2
/-! promises of defs over data: what comes back, or nothing is said -/
def spD (K : PySem.W.Frag) (f : List PyData → Option PyData) : Sp := fun vs H Q _ => ∃ F ds d, Same F H ∧ DqAll K F vs ds ∧ f ds = some d ∧ ∀ v F' H', Grow F H F' H' → Dq K F' v d → Q v H'
theorem ev_call {f : List PyData → Option PyData} {E : XK} {ta : TA} {ds : List PyData} (h : EvS K ta σ F ds) (e : f ds = some d) : EvD K (tCall (spD K f) [] E ta) σ F d := fun H s Q q =>
  h H s _ fun vs F1 H1 g1 r1 => ⟨F1, ds, d, g1.i, by rw [List.append_nil]; exact r1, e, fun v F2 H2 g2 r2 => q v F2 H2 (g1.trans g2) r2⟩
/-! blocks that come back with a value -/
def Ret (K : PySem.W.Frag) (ts : TS) (σ : L2.St) (F : Hp) (d : PyData) : Prop := ∀ H, Same F H → ∀ D : Ends, (∀ v F' H', Grow F H F' H' → Dq K F' v d → D.rt v H') → ts D σ H
theorem Ret.up {ts : TS} (h : Ret K ts σ F d) (s : Same F G) : Ret K ts σ G d := fun H sH D q => h H (s.trans sH) D fun v F' H' g r => by
  obtain ⟨G', a, b⟩ := g.widen s sH
  exact q v G' H' b (r.up a)
theorem Ret.is' {ts : TS} (h : Ret K ts σ F d) (e : d = d1) : Ret K ts σ F d1 := e ▸ h
variable {ts tu tw : TS}
theorem r_ret (h : EvD K te σ F d) : Ret K (tRet te) σ F d := fun H s D q => h H s _ q
theorem r_if (h : EvB t σ F b) (h1 : b = true → Ret K ts σ F d) (h2 : b = false → Ret K tu σ F d) : Ret K (tIfS t ts tu) σ F d := fun H s D q => h H s _ fun F1 H1 g1 => by
  cases b with
  | true => exact (h1 rfl).up g1.f H1 g1.i D fun v F2 H2 g2 r => q v F2 H2 (g1.trans g2) r
  | false => exact (h2 rfl).up g1.f H1 g1.i D fun v F2 H2 g2 r => q v F2 H2 (g1.trans g2) r
/-- if c: (comes back); the rest -/
theorem r_when (h : EvB t σ F b) (h1 : b = true → Ret K ts σ F d) (h2 : b = false → Ret K tw σ F d) : Ret K (tSeq (tIfS t ts tNext) tw) σ F d := fun H s D q => h H s _ fun F1 H1 g1 => by
  cases b with
  | true => exact (h1 rfl).up g1.f H1 g1.i { D with nx := tw D } fun v F2 H2 g2 r => q v F2 H2 (g1.trans g2) r
  | false => exact (h2 rfl).up g1.f H1 g1.i D fun v F2 H2 g2 r => q v F2 H2 (g1.trans g2) r
theorem r_set {i : Nat} (h : EvD K te σ F d1) (k : ∀ v F', Same F F' → Dq K F' v d1 → Ret K tw (σ.set i (some v)) F' d) : Ret K (tSeq (tAsg te (gName i)) tw) σ F d := fun H s D q => h H s _ fun v F1 H1 g1 r1 =>
  k v F1 g1.f r1 H1 g1.i D fun w F2 H2 g2 r2 => q w F2 H2 (g1.trans g2) r2
theorem r_drop (h : EvD K te σ F d1) (k : ∀ F', Same F F' → Ret K tw σ F' d) : Ret K (tSeq (tDrop te) tw) σ F d := fun H s D q => h H s _ fun v F1 H1 g1 r1 =>
  k F1 g1.f H1 g1.i D fun w F2 H2 g2 r2 => q w F2 H2 (g1.trans g2) r2
end
end Sx
set_option Elab.async false
set_option linter.all false
set_option maxRecDepth 100000
set_option maxHeartbeats 1000000
/-! W1: walks, comprehensions, loops over data. -/
namespace Sx
open PySem PySem.Spec PyProof.Rows L2
variable {K : PySem.W.Frag}
/-! ### what is walked -/
def WkD (K : PySem.W.Frag) (J : It) (ds : List PyData) (F : Hp) : Prop := ∀ i H, Same F H →
  (∀ d, ds[i]? = some d → J.go i H ∧ ∀ x H', J.yld i H x H' → ∃ F', Grow F H F' H' ∧ Dq K F' x d) ∧ (i = ds.length → J.stop i H)
theorem WkD.up {J : It} {ds : List PyData} {F G : Hp} (h : WkD K J ds F) (s : Same F G) : WkD K J ds G := fun i H sH => by
  obtain ⟨h1, h2⟩ := h i H (s.trans sH)
  refine ⟨fun d hd => ⟨(h1 d hd).1, fun x H' y => ?_⟩, h2⟩
  obtain ⟨F', g, r⟩ := (h1 d hd).2 x H' y
  obtain ⟨G', a, b⟩ := g.widen s sH
  exact ⟨G', b, r.up a⟩
def EvW (K : PySem.W.Frag) (wi : TI) (σ : L2.St) (F : Hp) (ds : List PyData) : Prop := ∀ H, Same F H → ∀ R : It → Hp → Prop, (∀ J F' H', Grow F H F' H' → WkD K J ds F' → R J H') → wi σ H R
section
variable {σ : L2.St} {F G : Hp} {te : TE} {ds es : List PyData}
theorem wk_list {a : Addr} {vs : List V} {F : Hp} (h : SqL K F a vs) (r : DqAll K F vs ds) : WkD K (Itl K a) ds F := fun i H s => by
  have hs := s.seq h
  refine ⟨fun d hd => ?_, fun e => ⟨vs, hs, by rw [r.len, e]; exact Nat.le_refl _⟩⟩
  obtain ⟨v, hv, rv⟩ := r.get hd
  refine ⟨⟨vs, v, hs, hv⟩, fun x H' y => ?_⟩
  obtain ⟨rfl, y⟩ := y
  have e := Option.some.inj ((y vs hs).symm.trans hv)
  subst e
  exact ⟨F, .start s, rv⟩
theorem wk_tup {a : Addr} {vs : List V} {F : Hp} (h : SqT K F a vs) (r : DqAll K F vs ds) : WkD K (Itt K a) ds F := fun i H s => by
  have hs := same_seqT s h
  refine ⟨fun d hd => ?_, fun e => ⟨vs, hs, by rw [r.len, e]; exact Nat.le_refl _⟩⟩
  obtain ⟨v, hv, rv⟩ := r.get hd
  refine ⟨⟨vs, v, hs, hv⟩, fun x H' y => ?_⟩
  obtain ⟨rfl, y⟩ := y
  have e := Option.some.inj ((y vs hs).symm.trans hv)
  subst e
  exact ⟨F, .start s, rv⟩
theorem ew_list (h : EvD K te σ F (.list ds)) : EvW K (iList K te) σ F ds := fun H s R q => h H s _ fun v F1 H1 g r => by
  cases r with
  | lst a b => exact ⟨_, rfl, ⟨_, g.i.seq a⟩, q _ F1 H1 g (wk_list a b)⟩
theorem ew_tup (h : EvD K te σ F (.tuple ds)) : EvW K (iTup K te) σ F ds := fun H s R q => h H s _ fun v F1 H1 g r => by
  cases r with
  | tup a b => exact ⟨_, rfl, ⟨_, same_seqT g.i a⟩, q _ F1 H1 g (wk_tup a b)⟩
def rgs (lo : Int) (n : Nat) : List PyData := (List.range n).map fun (i : Nat) => PyData.int (lo + (i : Int))
theorem rgs_len (lo : Int) (n : Nat) : (rgs lo n).length = n := by
  unfold rgs
  rw [List.length_map, List.length_range]
theorem rgs_get {lo : Int} {n i : Nat} {d : PyData} (h : (rgs lo n)[i]? = some d) : i < n ∧ d = .int (lo + (i : Int)) := by
  have hi : i < n := by
    have := (List.getElem?_eq_some_iff.mp h).1
    rw [rgs_len] at this
    exact this
  unfold rgs at h
  rw [List.getElem?_map, List.getElem?_range hi] at h
  exact ⟨hi, (Option.some.inj h).symm⟩
theorem wk_rng {lo : Int} {n : Nat} : WkD K (Itr lo n) (rgs lo n) F := fun i H s => by
  refine ⟨fun d hd => ?_, fun e => by rw [rgs_len] at e; exact Nat.le_of_eq e.symm⟩
  obtain ⟨hi, rfl⟩ := rgs_get hd
  refine ⟨hi, fun x H' y => ?_⟩
  obtain ⟨rfl, rfl⟩ := y
  exact ⟨F, .start s, .int _⟩
theorem ew_rng1 {ta : TA} {n : Int} (h : EvS K ta σ F [.int n]) (hn : -(2 ^ 62) ≤ n ∧ n < 2 ^ 62) : EvW K (iRng1 ta) σ F (rgs 0 n.toNat) := fun H s R q => h H s _ fun vs F1 H1 g r => by
  cases r with
  | cons a b =>
    cases a
    cases b
    exact ⟨n, rfl, hn.1, hn.2, q _ F1 H1 g wk_rng⟩
theorem ew_rng2 {ta : TA} {m n : Int} (h : EvS K ta σ F [.int m, .int n]) (hm : -(2 ^ 62) ≤ m ∧ m < 2 ^ 62) (hn : -(2 ^ 62) ≤ n ∧ n < 2 ^ 62) : EvW K (iRng2 ta) σ F (rgs m (n - m).toNat) := fun H s R q => h H s _ fun vs F1 H1 g r => by
  cases r with
  | cons a b =>
    cases a
    cases b with
    | cons a b =>
      cases a
      cases b
      exact ⟨m, n, rfl, ⟨hm.1, hm.2, hn.1, hn.2⟩, q _ F1 H1 g wk_rng⟩
def pairs (ds es : List PyData) : List PyData := List.zipWith (fun a b => .tuple [a, b]) ds es
theorem pairs_get {i : Nat} {d : PyData} (h : (pairs ds es)[i]? = some d) : ∃ a b, ds[i]? = some a ∧ es[i]? = some b ∧ d = .tuple [a, b] := by
  unfold pairs at h
  rw [List.getElem?_zipWith] at h
  cases ha : ds[i]? with
  | none => rw [ha] at h; cases h
  | some a =>
    cases hb : es[i]? with
    | none => rw [ha, hb] at h; cases h
    | some b =>
      rw [ha, hb] at h
      exact ⟨a, b, rfl, rfl, (Option.some.inj h).symm⟩
theorem pairs_len : (pairs ds es).length = min ds.length es.length := by
  unfold pairs
  rw [List.length_zipWith]
theorem grow_pair {F H : Hp} {x y : V} {a b : PyData} {T : Addr} (s : Same F H) (hT : H T = none) (ra : Dq K F x a) (rb : Dq K F y b) : ∃ F', Grow F H F' (upd H T (.tup [x, y])) ∧ Dq K F' (.ref T) (.tuple [a, b]) :=
  ⟨_, .known s hT, .tup (.inl (.inl upd_same)) (.cons (ra.up (same_upd (s.free hT))) (.cons (rb.up (same_upd (s.free hT))) .nil))⟩
theorem wk_zip {a b : Addr} {vs ws : List V} {F : Hp} (h : SqL K F a vs) (r : DqAll K F vs ds) (h' : SqL K F b ws) (r' : DqAll K F ws es) : WkD K (Itz K a b) (pairs ds es) F := fun i H s => by
  have hs := s.seq h
  have hs' := s.seq h'
  refine ⟨fun d hd => ?_, fun e => ⟨vs, ws, hs, hs', ?_⟩⟩
  · obtain ⟨p, q, hp, hq, rfl⟩ := pairs_get hd
    obtain ⟨v, hv, rv⟩ := r.get hp
    obtain ⟨w, hw, rw'⟩ := r'.get hq
    refine ⟨⟨vs, ws, v, w, hs, hs', hv, hw⟩, fun x H' y => ?_⟩
    obtain ⟨T, x1, x2, rfl, hT, rfl, y1, y2⟩ := y
    have e1 := Option.some.inj ((y1 vs hs).symm.trans hv)
    have e2 := Option.some.inj ((y2 ws hs').symm.trans hw)
    subst e1 e2
    exact grow_pair s hT rv rw'
  · rw [r.len, r'.len]
    rw [pairs_len] at e
    omega
theorem wk_zipT {a b : Addr} {vs ws : List V} {F : Hp} (h : SqT K F a vs) (r : DqAll K F vs ds) (h' : SqT K F b ws) (r' : DqAll K F ws es) : WkD K (RZ.ItzT K a b) (pairs ds es) F := fun i H s => by
  have hs := same_seqT s h
  have hs' := same_seqT s h'
  refine ⟨fun d hd => ?_, fun e => ⟨vs, ws, hs, hs', ?_⟩⟩
  · obtain ⟨p, q, hp, hq, rfl⟩ := pairs_get hd
    obtain ⟨v, hv, rv⟩ := r.get hp
    obtain ⟨w, hw, rw'⟩ := r'.get hq
    refine ⟨⟨vs, ws, v, w, hs, hs', hv, hw⟩, fun x H' y => ?_⟩
    obtain ⟨T, x1, x2, rfl, hT, rfl, y1, y2⟩ := y
    have e1 := Option.some.inj ((y1 vs hs).symm.trans hv)
    have e2 := Option.some.inj ((y2 ws hs').symm.trans hw)
    subst e1 e2
    exact grow_pair s hT rv rw'
  · rw [r.len, r'.len]
    rw [pairs_len] at e
    omega
theorem ew_zipL {ta : TA} (h : EvS K ta σ F [.list ds, .list es]) : EvW K (iZip K ta) σ F (pairs ds es) := fun H s R q => h H s _ fun vs F1 H1 g r => by
  cases r with
  | cons a b =>
    cases b with
    | cons b c =>
      cases c
      cases a with
      | lst a1 a2 =>
        cases b with
        | lst b1 b2 => exact ⟨_, _, _, _, rfl, g.i.seq a1, g.i.seq b1, q _ F1 H1 g (wk_zip a1 a2 b1 b2)⟩
theorem ew_zipAL {ta : TA} (h : EvS K ta σ F [.list ds, .list es]) : EvW K (RZ.iZipA K ta) σ F (pairs ds es) := fun H s R q => h H s _ fun vs F1 H1 g r => by
  cases r with
  | cons a b =>
    cases b with
    | cons b c =>
      cases c
      cases a with
      | lst a1 a2 =>
        cases b with
        | lst b1 b2 => exact ⟨_, _, _, _, rfl, .inl ⟨g.i.seq a1, g.i.seq b1, q _ F1 H1 g (wk_zip a1 a2 b1 b2)⟩⟩
theorem ew_zipAT {ta : TA} (h : EvS K ta σ F [.tuple ds, .tuple es]) : EvW K (RZ.iZipA K ta) σ F (pairs ds es) := fun H s R q => h H s _ fun vs F1 H1 g r => by
  cases r with
  | cons a b =>
    cases b with
    | cons b c =>
      cases c
      cases a with
      | tup a1 a2 =>
        cases b with
        | tup b1 b2 => exact ⟨_, _, _, _, rfl, .inr ⟨same_seqT g.i a1, same_seqT g.i b1, q _ F1 H1 g (wk_zipT a1 a2 b1 b2)⟩⟩
def numbered (ds : List PyData) : List PyData := pairs (rgs 0 ds.length) ds
theorem numbered_get {i : Nat} {d : PyData} (h : (numbered ds)[i]? = some d) : ∃ b, ds[i]? = some b ∧ d = .tuple [.int (i : Int), b] := by
  obtain ⟨a, b, h1, h2, rfl⟩ := pairs_get h
  obtain ⟨_, rfl⟩ := rgs_get h1
  exact ⟨b, h2, by rw [Int.zero_add]⟩
theorem numbered_len : (numbered ds).length = ds.length := by
  unfold numbered
  rw [pairs_len, rgs_len, Nat.min_self]
theorem wk_enum {a : Addr} {vs : List V} {F : Hp} (h : SqL K F a vs) (r : DqAll K F vs ds) : WkD K (Ite K a) (numbered ds) F := fun i H s => by
  have hs := s.seq h
  refine ⟨fun d hd => ?_, fun e => ⟨vs, hs, by rw [r.len]; rw [numbered_len] at e; exact Nat.le_of_eq e.symm⟩⟩
  obtain ⟨b, hb, rfl⟩ := numbered_get hd
  obtain ⟨v, hv, rv⟩ := r.get hb
  refine ⟨⟨vs, v, hs, hv⟩, fun x H' y => ?_⟩
  obtain ⟨T, x1, rfl, hT, rfl, y1⟩ := y
  have e1 := Option.some.inj ((y1 vs hs).symm.trans hv)
  subst e1
  exact grow_pair s hT (.int _) rv
theorem ew_enum {ta : TA} (h : EvS K ta σ F [.list ds]) : EvW K (iEnum K ta) σ F (numbered ds) := fun H s R q => h H s _ fun vs F1 H1 g r => by
  cases r with
  | cons a b =>
    cases b
    cases a with
    | lst a1 a2 => exact ⟨_, _, rfl, g.i.seq a1, q _ F1 H1 g (wk_enum a1 a2)⟩
def signs (x : Str) : List PyData := x.cps.toList.map fun c => .str ⟨#[c]⟩
theorem ew_str {x : Str} (h : EvD K te σ F (.str x)) : EvW K (iStr te) σ F (signs x) := fun H s R q => h H s _ fun v F1 H1 g r => by
  cases r
  refine ⟨x, rfl, q _ F1 H1 g fun i H s => ⟨fun d hd => ?_, fun e => ?_⟩⟩
  · have hi : i < x.cps.size := by
      have z := (List.getElem?_eq_some_iff.mp hd).1
      unfold signs at z
      rw [List.length_map, Array.length_toList] at z
      exact z
    refine ⟨hi, fun y H' hy => ?_⟩
    obtain ⟨rfl, c, hc, rfl⟩ := hy
    unfold signs at hd
    rw [List.getElem?_map, Array.getElem?_toList, hc] at hd
    cases hd
    exact ⟨F1, .start s, .str _⟩
  · unfold signs at e
    rw [List.length_map, Array.length_toList] at e
    exact Nat.le_of_eq e.symm
end

/-! ### a target takes an item -/
def Tk (K : PySem.W.Frag) (g : TG) (d : PyData) (σ : L2.St) (F : Hp) (P : L2.St → Prop) : Prop := ∀ v H, Same F H → Dq K F v d → ∀ Q : L2.St → Hp → Prop, (∀ σ2, P σ2 → Q σ2 H) → g v σ H Q
theorem tk_name {i : Nat} {d : PyData} {σ : L2.St} {F : Hp} : Tk K (gName i) d σ F (fun σ2 => ∃ v, σ2 = σ.set i (some v) ∧ Dq K F v d) := fun v H s r Q q => q _ ⟨v, rfl, r⟩
theorem tk_two {i j : Nat} {d e : PyData} {σ : L2.St} {F : Hp} : Tk K (gTup K 2 (gCons (gName i) (gCons (gName j) gNil))) (.tuple [d, e]) σ F
    (fun σ2 => ∃ v w, σ2 = (σ.set i (some v)).set j (some w) ∧ Dq K F v d ∧ Dq K F w e) := fun v H s r Q q => by
  cases r with
  | tup a b =>
    cases b with
    | cons b1 b2 =>
      cases b2 with
      | cons b2 b3 =>
        cases b3
        exact ⟨_, _, rfl, same_seqT s a, rfl, _, _, rfl, _, _, rfl, rfl, q _ ⟨_, _, rfl, b1, b2⟩⟩

theorem Tk.imp {g : TG} {d : PyData} {σ : L2.St} {F : Hp} {P P' : L2.St → Prop} (h : Tk K g d σ F P) (k : ∀ σ2, P σ2 → P' σ2) : Tk K g d σ F P' := fun v H s r Q q => h v H s r Q fun σ2 p => q σ2 (k σ2 p)
theorem eb_yes {σ : L2.St} {F : Hp} : EvB tYes σ F true := fun H s Q q => q F H (.start s)

/-! ### comprehensions -/
section
variable {σ : L2.St} {F : Hp} {te : TE} {tt : TT} {g : TG} {wi : TI} {vs : List Nat} {ds : List PyData}
def made (f : PyData → Bool) (e : PyData → PyData) (ds : List PyData) : List PyData := (ds.filter f).map e
theorem lc_new (f : PyData → Bool) (e : PyData → PyData) (hw : EvW K wi σ F ds) (hl : ds.length < sizeLine)
    (hT : ∀ d F', d ∈ ds → Same F F' → Tk K g d (wipe σ vs) F' fun σ2 => wipe σ2 vs = wipe σ vs ∧ EvB tt σ2 F' (f d) ∧ (f d = true → EvD K te σ2 F' (e d))) :
    ∀ H, Same F H → ∀ Q : VK, (∀ D F' acc H', Grow F H F' H' → H D = none → F' D = none → H' D = some (.lst acc) → DqAll K F' acc (made f e ds) → Q (.ref D) H') → tLc wi g tt te vs σ H Q := fun H s Q q => hw H s _ fun J F1 H1 g1 wk => by
  intro D hD
  refine ⟨fun i m H2 => m = ds.length - i ∧ i ≤ ds.length ∧ ∃ F2 acc, Grow F1 H1 F2 H2 ∧ F2 D = none ∧ H2 D = some (.lst acc) ∧ DqAll K F2 acc (made f e (ds.take i)) ∧ acc.length ≤ i,
    ⟨ds.length, by simp, Nat.zero_le _, F1, [], .own g1.i hD, g1.i.free hD, upd_same, .nil, Nat.le_refl _⟩, fun i m H2 hW => ?_⟩
  obtain ⟨rfl, hi, F2, acc, g2, nD, eD, ra, la⟩ := hW
  have wk2 := wk.up g2.f
  by_cases hlt : i < ds.length
  · have hd : ds[i]? = some ds[i] := List.getElem?_eq_getElem hlt
    obtain ⟨go, yl⟩ := (wk2 i H2 g2.i).1 _ hd
    refine .inr ⟨go, fun H3 => ∃ F3 acc, Grow F1 H1 F3 H3 ∧ F3 D = none ∧ H3 D = some (.lst acc) ∧ DqAll K F3 acc (made f e (ds.take (i + 1))) ∧ acc.length ≤ i + 1, fun H3 h3 => ⟨_, ?_, rfl, hlt, h3⟩, fun x H3 hy => ?_⟩
    · show ds.length - (i + 1) < ds.length - i
      omega
    · obtain ⟨F3, g3, rx⟩ := yl x H3 hy
      have nD3 : F3 D = none := by
        cases z : F3 D with
        | none => rfl
        | some o =>
          have := g3.n D o z nD
          rw [eD] at this
          cases this
      have eT : ds.take (i + 1) = ds.take i ++ [ds[i]] := by rw [List.take_add_one, hd]; rfl
      refine hT ds[i] F3 (List.getElem_mem hlt) (((g1.trans g2).trans g3).f) x H3 g3.i rx _ fun σ2 hσ => ?_
      obtain ⟨w2, hb, he⟩ := hσ
      refine ⟨w2, hb H3 g3.i _ fun F4 H4 g4 => ?_⟩
      have g14 := (g2.trans g3).trans g4
      have eD4 : H4 D = some (.lst acc) := g4.h _ _ (g3.h _ _ eD)
      have nD4 : F4 D = none := by
        cases z : F4 D with
        | none => rfl
        | some o =>
          have := g4.n D o z nD3
          rw [g3.h _ _ eD] at this
          cases this
      cases hf : f ds[i] with
      | true =>
        show te σ2 H4 _
        refine ((he hf).up g4.f) H4 g4.i _ fun y F5 H5 g5 ry => ?_
        have eD5 : H5 D = some (.lst acc) := g5.h _ _ eD4
        have nD5 : F5 D = none := by
          cases z : F5 D with
          | none => rfl
          | some o =>
            have := g5.n D o z nD4
            rw [eD4] at this
            cases this
        refine ⟨acc, eD5, by omega, F5, acc ++ [y], ⟨(g14.trans g5).f, fun b o z => ?_, fun b o z => ?_, (g14.trans g5).n⟩, nD5, upd_same, ?_, by rw [List.length_append]; show acc.length + 1 ≤ i + 1; omega⟩
        · have nb : b ≠ D := ne_of_none z hD
          rw [upd_ne nb]
          exact (g14.trans g5).h b o z
        · have nb : b ≠ D := ne_of_none z nD5
          rw [upd_ne nb]
          exact g5.i b o z
        · have e2 : made f e (ds.take (i + 1)) = made f e (ds.take i) ++ [e ds[i]] := by
            unfold made
            rw [eT, List.filter_append, List.map_append, List.filter_cons, if_pos hf]
            rfl
          rw [e2]
          exact (ra.up ((g3.trans (g4.trans g5)).f)).app (.cons ry .nil)
      | false =>
        refine ⟨F4, acc, g14, nD4, eD4, ?_, by omega⟩
        have e2 : made f e (ds.take (i + 1)) = made f e (ds.take i) := by
          unfold made
          rw [eT, List.filter_append, List.map_append, List.filter_cons, if_neg (by rw [hf]; decide)]
          show _ ++ [] = _
          rw [List.append_nil]
        rw [e2]
        exact ra.up (g3.trans g4).f
  · have ei : i = ds.length := by omega
    refine .inl ⟨(wk2 i H2 g2.i).2 ei, ?_⟩
    rw [ei, List.take_length] at ra
    exact q D F2 acc H2 (g1.trans g2) (g1.h.free hD) nD eD ra
theorem ev_lc (f : PyData → Bool) (e : PyData → PyData) (hw : EvW K wi σ F ds) (hl : ds.length < sizeLine)
    (hT : ∀ d F', d ∈ ds → Same F F' → Tk K g d (wipe σ vs) F' fun σ2 => wipe σ2 vs = wipe σ vs ∧ EvB tt σ2 F' (f d) ∧ (f d = true → EvD K te σ2 F' (e d))) :
    EvD K (tLc wi g tt te vs) σ F (.list (made f e ds)) := fun H s Q q => lc_new f e hw hl hT H s Q fun D F2 acc H2 g2 hD nD eD ra => by
  refine q _ (upd F2 D (.lst acc)) H2 ⟨g2.f.trans (same_upd nD), g2.h, fun b o z => ?_, fun b o z n => ?_⟩ (.lst (.inl (.inl upd_same)) (ra.up (same_upd nD)))
  · by_cases hb : b = D
    · rw [hb, upd_same] at z
      rw [hb, eD]
      exact z
    · rw [upd_ne hb] at z
      exact g2.i b o z
  · by_cases hb : b = D
    · rw [hb]
      exact hD
    · rw [upd_ne hb] at z
      exact g2.n b o z n
end

/-! ### loops -/
section
variable {σ : L2.St} {F : Hp} {g : TG} {wi : TI} {ds : List PyData} {tb : TS} {D : Ends}
/-- for: I says what holds ahead of turn i: the slots, what is known, the heap -/
theorem s_for {H : Hp} (s : Same F H) (hw : EvW K wi σ F ds)
    (hb : ∀ F1 H1, Grow F H F1 H1 → ∃ I : Nat → L2.St → Hp → Hp → Prop, I 0 σ F1 H1 ∧ (∀ i σ' F' H', I i σ' F' H' → Same F1 F' ∧ Same F' H') ∧
      (∀ i d σ' F' H', ds[i]? = some d → I i σ' F' H' → ∀ F2 H2 x, Grow F' H' F2 H2 → Dq K F2 x d → g x σ' H2 fun σ2 H3 => tb { D with nx := fun σ3 H4 => ∃ F4, I (i + 1) σ3 F4 H4, ct := fun σ3 H4 => ∃ F4, I (i + 1) σ3 F4 H4, bk := D.nx } σ2 H3) ∧
      ∀ σ' F' H', I ds.length σ' F' H' → D.nx σ' H') : tFor wi g tb D σ H := by
  refine hw H s _ fun J F1 H1 g1 wk => ?_
  obtain ⟨I, h0, hI, hs, hd⟩ := hb F1 H1 g1
  refine ⟨fun i m σ' H' => m = ds.length - i ∧ i ≤ ds.length ∧ ∃ F', I i σ' F' H', ⟨ds.length, by simp, Nat.zero_le _, F1, h0⟩, fun i m σ' H' hW' => ?_⟩
  obtain ⟨rfl, hi, F', hIi⟩ := hW'
  have s2 := hI _ _ _ _ hIi
  have wk2 := wk.up s2.1
  by_cases hlt : i < ds.length
  · have hdd : ds[i]? = some ds[i] := List.getElem?_eq_getElem hlt
    obtain ⟨go, yl⟩ := (wk2 i H' s2.2).1 _ hdd
    refine .inr ⟨go, fun σ3 H4 => ∃ F4, I (i + 1) σ3 F4 H4, fun σ3 H4 h4 => ⟨_, ?_, rfl, hlt, h4⟩, fun x H2 hy => ?_⟩
    · show ds.length - (i + 1) < ds.length - i
      omega
    · obtain ⟨F2, g2, rx⟩ := yl x H2 hy
      exact hs i _ σ' F' H' hdd hIi F2 H2 x g2 rx
  · have ei : i = ds.length := by omega
    refine .inl ⟨(wk2 i H' s2.2).2 ei, ?_⟩
    rw [ei] at hIi
    exact hd σ' F' H' hIi
end
end Sx
set_option Elab.async false
set_option linter.all false
set_option maxRecDepth 100000
set_option maxHeartbeats 1000000
/-! W2: operations and built-ins on data. -/
namespace Sx
open PySem PySem.Spec PyProof.Rows L2
variable {K : PySem.W.Frag}
section
variable {σ : L2.St} {F G : Hp} {te ta tb tc : TE} {d d1 d2 d3 : PyData} {ds es : List PyData}
/-! ints -/
theorem rv_i0 {g : Int → Int → V} {i j : Int} (hv : ∀ F, Dq K F (g i j) d) : RvD K (rI0 g) (.int i) (.int j) d := fun F x y H s a b Q q => by
  cases a
  cases b
  exact ⟨i, j, rfl, rfl, q _ F H (.start s) (hv F)⟩
theorem rv_i {C : Int → Int → Prop} {g : Int → Int → V} {i j : Int} (hc : C i j) (hv : ∀ F, Dq K F (g i j) d) : RvD K (rI C g) (.int i) (.int j) d := fun F x y H s a b Q q => by
  cases a
  cases b
  exact ⟨i, j, rfl, rfl, hc, q _ F H (.start s) (hv F)⟩
theorem rv_int {g : Int → Int → Int} {i j : Int} : RvD K (rI0 fun i j => .int (g i j)) (.int i) (.int j) (.int (g i j)) := rv_i0 fun _ => .int _
theorem rv_bl {g : Int → Int → Bool} {i j : Int} : RvD K (rI0 fun i j => .bl (g i j)) (.int i) (.int j) (.bool (g i j)) := rv_i0 fun _ => .bl _
theorem rv_intC {C : Int → Int → Prop} {g : Int → Int → Int} {i j : Int} (hc : C i j) : RvD K (rI C fun i j => .int (g i j)) (.int i) (.int j) (.int (g i j)) := rv_i hc fun _ => .int _
theorem rv_or1 {r r' : R2} (h : RvD K r d1 d2 d) : RvD K (fun x y H Q => r x y H Q ∨ r' x y H Q) d1 d2 d := fun F x y H s a b Q q => .inl (h F x y H s a b Q q)
theorem rv_or2 {r r' : R2} (h : RvD K r' d1 d2 d) : RvD K (fun x y H Q => r x y H Q ∨ r' x y H Q) d1 d2 d := fun F x y H s a b Q q => .inr (h F x y H s a b Q q)
theorem rv_eqD (h1 : SeqAt.shaped d1 = true) (h2 : SeqAt.shaped d2 = true) (n1 : PyData.hasDict d1 = false) (n2 : PyData.hasDict d2 = false) : RvD K (rEqD K) d1 d2 (.bool (PyData.eqv d1 d2)) := fun F x y H s a b Q q => ⟨d1, d2, dq_dp _ _ (a.up s) n1, dq_dp _ _ (b.up s) n2, h1, h2, q _ F H (.start s) (.bl _)⟩
theorem rv_neD (h1 : SeqAt.shaped d1 = true) (h2 : SeqAt.shaped d2 = true) (n1 : PyData.hasDict d1 = false) (n2 : PyData.hasDict d2 = false) : RvD K (rNeD K) d1 d2 (.bool (!PyData.eqv d1 d2)) := fun F x y H s a b Q q => ⟨d1, d2, dq_dp _ _ (a.up s) n1, dq_dp _ _ (b.up s) n2, h1, h2, q _ F H (.start s) (.bl _)⟩
theorem rv_eqS {x y : Str} : RvD K rEq (.str x) (.str y) (.bool (decide (x = y))) := fun F u v H s a b Q q => by
  cases a
  cases b
  refine ⟨rfl, ?_⟩
  rw [show decide (V.str x = V.str y) = decide (x = y) from decide_eq_decide.mpr ⟨fun h => V.str.inj h, fun h => congrArg _ h⟩]
  exact q _ F H (.start s) (.bl _)
theorem rv_eqI {x y : Int} : RvD K rEq (.int x) (.int y) (.bool (decide (x = y))) := fun F u v H s a b Q q => by
  cases a
  cases b
  refine ⟨rfl, ?_⟩
  rw [show decide (V.int x = V.int y) = decide (x = y) from decide_eq_decide.mpr ⟨fun h => V.int.inj h, fun h => congrArg _ h⟩]
  exact q _ F H (.start s) (.bl _)
theorem rv_ltS {x y : Str} : RvD K (fun x y H Q => ∃ i j : Str, x = .str i ∧ y = .str j ∧ Q (.bl (decide (i.cps.toList < j.cps.toList))) H) (.str x) (.str y) (.bool (decide (x.cps.toList < y.cps.toList))) := fun F u v H s a b Q q => by
  cases a
  cases b
  exact ⟨x, y, rfl, rfl, q _ F H (.start s) (.bl _)⟩
theorem rv_addS {x y : Str} (h : x.length + y.length ≤ sizeLine) : RvD K (fun x y H Q => ∃ i j : Str, x = .str i ∧ y = .str j ∧ i.length + j.length ≤ sizeLine ∧ Q (.str (i ++ j)) H) (.str x) (.str y) (.str (x ++ y)) := fun F u v H s a b Q q => by
  cases a
  cases b
  exact ⟨x, y, rfl, rfl, h, q _ F H (.start s) (.str _)⟩
/-- a <= b <= c -/
theorem ev_chain {r r' : R2} {b c : Bool} (ha : EvD K ta σ F d1) (hb : EvD K tb σ F d2) (hr : RvD K r d1 d2 (.bool b)) (hc : b = true → EvD K tc σ F d3) (hr' : b = true → RvD K r' d2 d3 (.bool c)) : EvD K (tChain r r' ta tb tc) σ F (.bool (b && c)) := fun H s Q q =>
  ha H s _ fun x F1 H1 g1 r1 => hb.up g1.f H1 g1.i _ fun y F2 H2 g2 r2 => hr F2 x y H2 g2.i (r1.up g2.f) r2 _ fun z F3 H3 g3 r3 => by
    cases r3
    refine ⟨b, rfl, ?_⟩
    have g := (g1.trans g2).trans g3
    cases b with
    | true => exact ((hc rfl).up g.f) H3 g3.i _ fun w F4 H4 g4 r4 => hr' rfl F4 y w H4 g4.i (r2.up (g3.trans g4).f) r4 Q fun v F5 H5 g5 r5 => q v F5 H5 ((g.trans g4).trans g5) r5
    | false => exact q _ F3 H3 g (.bl false)
/-! isinstance -/
def tyD : PyData → String
  | .none => "NoneType"
  | .bool _ => "bool"
  | .int _ => "int"
  | .str _ => "str"
  | .list _ => "list"
  | .tuple _ => "tuple"
  | .dict _ => "dict"
theorem ty_data {F H : Hp} {x : V} (r : Dq K F x d) (s : Same F H) : TyX K H x (.type (tyD d)) := by
  cases r with
  | non => exact .base .non
  | bl b => exact .base (.bl b)
  | int i => exact .base (.int i)
  | str z => exact .base (.str z)
  | lst a b =>
    rcases s.seq a with (h | ⟨o, h⟩) | ⟨o, its, n, h1, h2, _⟩
    · exact .base (.lst h)
    · exact .base (.frz h)
    · exact .kList h1 h2
  | tup a b =>
    rcases same_seqT s a with (h | ⟨o, h⟩) | ⟨o, its, n, h1, h2, _⟩
    · exact .base (.tup h)
    · exact .fTuple h
    · exact .kTuple h1 h2
  | emp e => exact .base (.dK (s _ _ e))
theorem ev_isi {T : String} {b : Bool} (h : EvD K te σ F d) (hk : kitB (tyD d) T = some b) : EvD K (tCB (rIsi K) (tCons te (tCons (tC (.ty T)) tNil))) σ F (.bool b) := fun H s Q q => h H s _ fun x F1 H1 g1 r1 =>
  ⟨x, .ty T, .type (tyD d), .type T, b, rfl, .ty T, ty_data r1 g1.i, kit_ty hk, q _ F1 H1 g1 (.bl b)⟩
def isInt : PyData → Bool
  | .int _ => true
  | .bool _ => true
  | _ => false
def isBool : PyData → Bool
  | .bool _ => true
  | _ => false
def isStr : PyData → Bool
  | .str _ => true
  | _ => false
def isTup : PyData → Bool
  | .tuple _ => true
  | _ => false
def isLst : PyData → Bool
  | .list _ => true
  | _ => false
theorem kit_int : ∀ d, kitB (tyD d) "int" = some (isInt d)
  | .none => (by decide +kernel : kitB "NoneType" "int" = some false)
  | .bool _ => (by decide +kernel : kitB "bool" "int" = some true)
  | .int _ => (by decide +kernel : kitB "int" "int" = some true)
  | .str _ => (by decide +kernel : kitB "str" "int" = some false)
  | .list _ => (by decide +kernel : kitB "list" "int" = some false)
  | .tuple _ => (by decide +kernel : kitB "tuple" "int" = some false)
  | .dict _ => (by decide +kernel : kitB "dict" "int" = some false)
theorem kit_bool : ∀ d, kitB (tyD d) "bool" = some (isBool d)
  | .none => (by decide +kernel : kitB "NoneType" "bool" = some false)
  | .bool _ => (by decide +kernel : kitB "bool" "bool" = some true)
  | .int _ => (by decide +kernel : kitB "int" "bool" = some false)
  | .str _ => (by decide +kernel : kitB "str" "bool" = some false)
  | .list _ => (by decide +kernel : kitB "list" "bool" = some false)
  | .tuple _ => (by decide +kernel : kitB "tuple" "bool" = some false)
  | .dict _ => (by decide +kernel : kitB "dict" "bool" = some false)
theorem kit_str : ∀ d, kitB (tyD d) "str" = some (isStr d)
  | .none => (by decide +kernel : kitB "NoneType" "str" = some false)
  | .bool _ => (by decide +kernel : kitB "bool" "str" = some false)
  | .int _ => (by decide +kernel : kitB "int" "str" = some false)
  | .str _ => (by decide +kernel : kitB "str" "str" = some true)
  | .list _ => (by decide +kernel : kitB "list" "str" = some false)
  | .tuple _ => (by decide +kernel : kitB "tuple" "str" = some false)
  | .dict _ => (by decide +kernel : kitB "dict" "str" = some false)
theorem kit_tup : ∀ d, kitB (tyD d) "tuple" = some (isTup d)
  | .none => (by decide +kernel : kitB "NoneType" "tuple" = some false)
  | .bool _ => (by decide +kernel : kitB "bool" "tuple" = some false)
  | .int _ => (by decide +kernel : kitB "int" "tuple" = some false)
  | .str _ => (by decide +kernel : kitB "str" "tuple" = some false)
  | .list _ => (by decide +kernel : kitB "list" "tuple" = some false)
  | .tuple _ => (by decide +kernel : kitB "tuple" "tuple" = some true)
  | .dict _ => (by decide +kernel : kitB "dict" "tuple" = some false)
theorem kit_lst : ∀ d, kitB (tyD d) "list" = some (isLst d)
  | .none => (by decide +kernel : kitB "NoneType" "list" = some false)
  | .bool _ => (by decide +kernel : kitB "bool" "list" = some false)
  | .int _ => (by decide +kernel : kitB "int" "list" = some false)
  | .str _ => (by decide +kernel : kitB "str" "list" = some false)
  | .list _ => (by decide +kernel : kitB "list" "list" = some true)
  | .tuple _ => (by decide +kernel : kitB "tuple" "list" = some false)
  | .dict _ => (by decide +kernel : kitB "dict" "list" = some false)
/-! len, items, slices -/
abbrev rLen0 (K : PySem.W.Frag) : List V → Hp → VK → Prop := fun xs H Q => ∃ x n, xs = [x] ∧ LenV K x H n ∧ Q (.int n) H
theorem rc_lenT : RcD K (rLen0 K) [.tuple ds] (.int ds.length) := fun F xs H s r Q q => by
  cases r with
  | cons a b =>
    cases b
    cases a with
    | tup a1 a2 => exact ⟨_, ds.length, rfl, .inr ⟨_, same_seqT s a1, a2.len.symm⟩, q _ F H (.start s) (.int _)⟩
theorem rc_lenL : RcD K (rLen0 K) [.list ds] (.int ds.length) := fun F xs H s r Q q => by
  cases r with
  | cons a b =>
    cases b
    cases a with
    | lst a1 a2 => exact ⟨_, ds.length, rfl, .inl ⟨_, s.seq a1, a2.len.symm⟩, q _ F H (.start s) (.int _)⟩
theorem rc_lenS {z : Str} (hz : z.length ≤ sizeLine) : RcD K (rLen0 K) [.str z] (.int z.length) := fun F xs H s r Q q => by
  cases r with
  | cons a b =>
    cases b
    cases a
    exact ⟨_, z.length, rfl, ⟨hz, rfl⟩, q _ F H (.start s) (.int _)⟩
theorem ev1 {r : List V → Hp → VK → Prop} (h : EvD K te σ F d1) (hr : RcD K r [d1] d) : EvD K (tCB r (tCons te tNil)) σ F d := ev_cb (ea_cons h ea_nil) hr
theorem rv_ixT {k : Nat} (h : ds[k]? = some d) : RvD K (rIxT K) (.tuple ds) (.int (k : Int)) d := fun F x y H s a b Q q => by
  cases b
  cases a with
  | tup a1 a2 =>
    obtain ⟨v, hv, rv⟩ := a2.get h
    exact ⟨_, _, _, v, rfl, rfl, same_seqT s a1, atI_nat hv, q v F H (.start s) rv⟩
theorem rv_ixL {k : Nat} (h : ds[k]? = some d) : RvD K (rIxL K) (.list ds) (.int (k : Int)) d := fun F x y H s a b Q q => by
  cases b
  cases a with
  | lst a1 a2 =>
    obtain ⟨v, hv, rv⟩ := a2.get h
    exact ⟨_, _, _, v, rfl, rfl, s.seq a1, atI_nat hv, q v F H (.start s) rv⟩
def cutD (xs : List PyData) (lo hi : Option Int) : List PyData := (xs.drop (HT.sIx xs.length 0 lo)).take (HT.sIx xs.length xs.length hi - HT.sIx xs.length 0 lo)
def EvO (K : PySem.W.Frag) (to : TO) (σ : L2.St) (F : Hp) (o : Option Int) : Prop := ∀ H, Same F H → ∀ Q : Option Int → Hp → Prop, (∀ F' H', Grow F H F' H' → Q o H') → to σ H Q
theorem eo_none : EvO K tNoPart σ F none := fun H s Q q => q F H (.start s)
theorem eo_some {i : Int} (h : EvD K te σ F (.int i)) : EvO K (tPart te) σ F (some i) := fun H s Q q => h H s _ fun v F1 H1 g r => by
  cases r
  exact ⟨i, rfl, q F1 H1 g⟩
theorem EvO.up {to : TO} {o : Option Int} (h : EvO K to σ F o) (s : Same F G) : EvO K to σ G o := fun H sH Q q => h H (s.trans sH) Q fun F' H' g => by
  obtain ⟨G', a, b⟩ := g.widen s sH
  exact q G' H' b
theorem cut_rel {F : Hp} {vs : List V} (r : DqAll K F vs ds) (lo hi : Option Int) : DqAll K F (cutV vs lo hi) (cutD ds lo hi) := by
  unfold cutV cutD
  rw [r.len]
  exact (r.drop _).take _
/-- slices by values -/
def RsD (K : PySem.W.Frag) (r : V → Option Int → Option Int → Hp → VK → Prop) (d : PyData) (lo hi : Option Int) (d' : PyData) : Prop := ∀ F x H, Same F H → Dq K F x d → ∀ Q : VK, (∀ v F' H', Grow F H F' H' → Dq K F' v d' → Q v H') → r x lo hi H Q
theorem ev_sl {r : V → Option Int → Option Int → Hp → VK → Prop} {tl th : TO} {lo hi : Option Int} (h : EvD K te σ F d) (h1 : EvO K tl σ F lo) (h2 : EvO K th σ F hi) (hr : RsD K r d lo hi d1) : EvD K (tSl r te tl th) σ F d1 := fun H s Q q =>
  h H s _ fun x F1 H1 g1 r1 => h1.up g1.f H1 g1.i _ fun F2 H2 g2 => h2.up (g1.trans g2).f H2 g2.i _ fun F3 H3 g3 =>
    hr F3 x H3 g3.i (r1.up (g2.trans g3).f) Q fun v F4 H4 g4 r4 => q v F4 H4 (((g1.trans g2).trans g3).trans g4) r4
theorem rs_tup {lo hi : Option Int} : RsD K (rSlA K) (.tuple ds) lo hi (.tuple (cutD ds lo hi)) := fun F x H s r Q q => by
  cases r with
  | tup a b =>
    rename_i p vs
    refine ⟨p, vs, rfl, same_seqT s a, fun hw => ?_, fun _ t ht => ?_⟩
    · have e : cutD ds lo hi = ds := by
        unfold cutD
        rw [← b.len, hw.1, hw.2, Nat.sub_zero, List.drop_zero, b.len, List.take_length]
      rw [e] at q
      exact q _ F H (.start s) (.tup a b)
    · exact q _ _ _ (.known s ht) (.tup (.inl (.inl upd_same)) ((cut_rel b lo hi).up (same_upd (s.free ht))))
theorem rs_list {lo hi : Option Int} : RsD K (rSlL K) (.list ds) lo hi (.list (cutD ds lo hi)) := fun F x H s r Q q => by
  cases r with
  | lst a b =>
    rename_i p vs
    exact ⟨p, vs, rfl, s.seq a, fun t ht => q _ _ _ (.known s ht) (.lst (.inl (.inl upd_same)) ((cut_rel b lo hi).up (same_upd (s.free ht))))⟩
theorem rs_or1 {r r' : V → Option Int → Option Int → Hp → VK → Prop} {lo hi : Option Int} (h : RsD K r d lo hi d1) : RsD K (fun x lo hi H Q => r x lo hi H Q ∨ r' x lo hi H Q) d lo hi d1 := fun F x H s a Q q => .inl (h F x H s a Q q)
theorem rs_or2 {r r' : V → Option Int → Option Int → Hp → VK → Prop} {lo hi : Option Int} (h : RsD K r' d lo hi d1) : RsD K (fun x lo hi H Q => r x lo hi H Q ∨ r' x lo hi H Q) d lo hi d1 := fun F x H s a Q q => .inr (h F x H s a Q q)
theorem cut_from (k : Nat) (xs : List PyData) : cutD xs (some (k : Int)) none = xs.drop k := by
  unfold cutD
  rw [HT.sIx_nat, HT.sIx_none, List.take_of_length_le (by rw [List.length_drop]; exact Nat.le_refl _)]
  by_cases h : k ≤ xs.length
  · rw [Nat.min_eq_left h]
  · rw [Nat.min_eq_right (by omega), List.drop_eq_nil_of_le (Nat.le_refl _), List.drop_eq_nil_of_le (by omega)]
theorem cut_to (k : Nat) (xs : List PyData) : cutD xs none (some (k : Int)) = xs.take k := by
  unfold cutD
  rw [HT.sIx_none, HT.sIx_nat, List.drop_zero, Nat.sub_zero]
  by_cases h : k ≤ xs.length
  · rw [Nat.min_eq_left h]
  · rw [Nat.min_eq_right (by omega), List.take_length, List.take_of_length_le (by omega)]
/-! all, any, min, sum, tuple, list -/
theorem dps_bl {F : Hp} : ∀ {vs : List V} {bs : List Bool}, DqAll K F vs (bs.map PyData.bool) → vs = bs.map V.bl
  | _, [], .nil => rfl
  | _, _ :: _, .cons a b => by cases a; rw [dps_bl b]; rfl
theorem dps_int {F : Hp} : ∀ {vs : List V} {ns : List Int}, DqAll K F vs (ns.map PyData.int) → vs = ns.map V.int
  | _, [], .nil => rfl
  | _, _ :: _, .cons a b => by cases a; rw [dps_int b]; rfl
theorem dps_str {F : Hp} : ∀ {vs : List V} {ns : List Str}, DqAll K F vs (ns.map PyData.str) → vs = ns.map V.str
  | _, [], .nil => rfl
  | _, _ :: _, .cons a b => by cases a; rw [dps_str b]; rfl
theorem dps_ofInt {F : Hp} : ∀ (ns : List Int), DqAll K F (ns.map V.int) (ns.map PyData.int)
  | [] => .nil
  | _ :: r => .cons (.int _) (dps_ofInt r)
theorem dps_ofStr {F : Hp} : ∀ (ns : List Str), DqAll K F (ns.map V.str) (ns.map PyData.str)
  | [] => .nil
  | _ :: r => .cons (.str _) (dps_ofStr r)
theorem rc_all {bs : List Bool} : RcD K (rAll K) [.list (bs.map .bool)] (.bool (bs.all id)) := fun F xs H s r Q q => by
  cases r with
  | cons a b =>
    cases b
    cases a with
    | lst a1 a2 =>
      rw [dps_bl a2] at a1
      exact ⟨_, bs, rfl, s.seq a1, q _ F H (.start s) (.bl _)⟩
theorem rc_any {bs : List Bool} : RcD K (rAny K) [.list (bs.map .bool)] (.bool (bs.any id)) := fun F xs H s r Q q => by
  cases r with
  | cons a b =>
    cases b
    cases a with
    | lst a1 a2 =>
      rw [dps_bl a2] at a1
      exact ⟨_, bs, rfl, s.seq a1, q _ F H (.start s) (.bl _)⟩
theorem rc_sum {ns : List Int} : RcD K (rSum K) [.list (ns.map .int)] (.int ns.sum) := fun F xs H s r Q q => by
  cases r with
  | cons a b =>
    cases b
    cases a with
    | lst a1 a2 =>
      rw [dps_int a2] at a1
      exact ⟨_, ns, rfl, s.seq a1, q _ F H (.start s) (.int _)⟩
theorem rc_min {ns : List Int} {m : Int} (h0 : ns ≠ []) (hm : ∀ k, k ∈ ns → (∀ y, y ∈ ns → k ≤ y) → k = m) : RcD K (rMin K) [.list (ns.map .int)] (.int m) := fun F xs H s r Q q => by
  cases r with
  | cons a b =>
    cases b
    cases a with
    | lst a1 a2 =>
      rw [dps_int a2] at a1
      refine ⟨_, ns, rfl, s.seq a1, List.length_pos_iff.mpr h0, fun k hk hy => ?_⟩
      rw [hm k hk hy]
      exact q _ F H (.start s) (.int _)
theorem ev_tupleL (h : EvD K te σ F (.list ds)) : EvD K (tThen te (kTup K)) σ F (.tuple ds) := fun H s Q q => h H s _ fun x F1 H1 g1 r1 => by
  cases r1 with
  | lst a b => exact .inl ⟨_, _, rfl, g1.i.seq a, fun t ht => q _ _ _ (g1.trans (.known g1.i ht)) (.tup (.inl (.inl upd_same)) (b.up (same_upd (g1.i.free ht))))⟩
/-! membership -/
theorem rv_inT {b : Bool} (h : ∀ F x xs, Dq K F x d → DqAll K F xs ds → flatV x = true ∧ xs.all flatV = true ∧ inV x xs = b) : RvD K (rIn K false) d (.tuple ds) (.bool b) := fun F x y H s a c Q q => by
  cases c with
  | tup c1 c2 =>
    obtain ⟨h1, h2, h3⟩ := h F x _ a c2
    refine ⟨_, _, rfl, .inr (same_seqT s c1), h1, h2, ?_⟩
    show Q (.bl (inV _ _)) H
    rw [h3]
    exact q _ F H (.start s) (.bl b)
theorem rv_niT {b : Bool} (h : ∀ F x xs, Dq K F x d → DqAll K F xs ds → flatV x = true ∧ xs.all flatV = true ∧ inV x xs = b) : RvD K (rIn K true) d (.tuple ds) (.bool (!b)) := fun F x y H s a c Q q => by
  cases c with
  | tup c1 c2 =>
    obtain ⟨h1, h2, h3⟩ := h F x _ a c2
    refine ⟨_, _, rfl, .inr (same_seqT s c1), h1, h2, ?_⟩
    show Q (.bl (!inV _ _)) H
    rw [h3]
    exact q _ F H (.start s) (.bl _)
theorem rv_inL {b : Bool} (h : ∀ F x xs, Dq K F x d → DqAll K F xs ds → flatV x = true ∧ xs.all flatV = true ∧ inV x xs = b) : RvD K (rIn K false) d (.list ds) (.bool b) := fun F x y H s a c Q q => by
  cases c with
  | lst c1 c2 =>
    obtain ⟨h1, h2, h3⟩ := h F x _ a c2
    refine ⟨_, _, rfl, .inl (s.seq c1), h1, h2, ?_⟩
    show Q (.bl (inV _ _)) H
    rw [h3]
    exact q _ F H (.start s) (.bl b)
theorem inv_str (z : Str) (ws : List Str) : inV (.str z) (ws.map V.str) = decide (z ∈ ws) := by
  unfold inV
  rw [List.any_map, Bool.eq_iff_iff, List.any_eq_true, decide_eq_true_iff]
  constructor
  · rintro ⟨w, hw, e⟩
    have e' : (w == z) = true := e
    rw [← eq_of_beq e']
    exact hw
  · intro h
    exact ⟨z, h, (show (z == z) = true from beq_self_eq_true z)⟩
theorem inv_int (z : Int) (ws : List Int) : inV (.int z) (ws.map V.int) = decide (z ∈ ws) := by
  unfold inV
  rw [List.any_map, Bool.eq_iff_iff, List.any_eq_true, decide_eq_true_iff]
  constructor
  · rintro ⟨w, hw, e⟩
    have e' : (w == z) = true := e
    rw [← eq_of_beq e']
    exact hw
  · intro h
    exact ⟨z, h, (show (z == z) = true from beq_self_eq_true z)⟩
theorem flat_str (ws : List Str) : (ws.map V.str).all flatV = true := by
  rw [List.all_map, List.all_eq_true]
  intro _ _
  rfl
theorem flat_int (ws : List Int) : (ws.map V.int).all flatV = true := by
  rw [List.all_map, List.all_eq_true]
  intro _ _
  rfl
theorem mem_str {z : Str} {ws : List Str} : ∀ F x xs, Dq K F x (.str z) → DqAll K F xs (ws.map .str) → flatV x = true ∧ xs.all flatV = true ∧ inV x xs = decide (z ∈ ws) := fun F x xs a b => by
  cases a
  rw [dps_str b]
  exact ⟨rfl, flat_str ws, inv_str z ws⟩
theorem mem_int {z : Int} {ws : List Int} : ∀ F x xs, Dq K F x (.int z) → DqAll K F xs (ws.map .int) → flatV x = true ∧ xs.all flatV = true ∧ inV x xs = decide (z ∈ ws) := fun F x xs a b => by
  cases a
  rw [dps_int b]
  exact ⟨rfl, flat_int ws, inv_int z ws⟩
abbrev rSign : R2 := fun x y H Q => ∃ (c : Nat) (z : Str), x = .str ⟨#[c]⟩ ∧ y = .str z ∧ Q (.bl (decide (c ∈ z.cps.toList))) H
theorem rv_sign {c : Nat} {z : Str} : RvD K rSign (.str ⟨#[c]⟩) (.str z) (.bool (decide (c ∈ z.cps.toList))) := fun F x y H s a b Q q => by
  cases a
  cases b
  exact ⟨c, z, rfl, rfl, q _ F H (.start s) (.bl _)⟩
theorem made_map (e : PyData → PyData) (ds : List PyData) : made (fun _ => true) e ds = ds.map e := by
  unfold made
  rw [List.filter_eq_self.mpr (fun _ _ => rfl)]
end
/-! int(x), abs(x) -/
section
variable {σ : L2.St} {F : Hp} {te : TE}
abbrev rInt1 : List V → Hp → VK → Prop := fun xs H Q => (∃ i, xs = [V.int i] ∧ Q (.int i) H) ∨ ∃ k, xs = [V.bl k] ∧ Q (.int (if k then 1 else 0)) H
theorem rc_int {i : Int} : RcD K rInt1 [.int i] (.int i) := fun F xs H s r Q q => by
  cases r with
  | cons a b =>
    cases b
    cases a
    exact .inl ⟨i, rfl, q _ F H (.start s) (.int _)⟩
theorem rc_intB {k : Bool} : RcD K rInt1 [.bool k] (.int (if k then 1 else 0)) := fun F xs H s r Q q => by
  cases r with
  | cons a b =>
    cases b
    cases a
    exact .inr ⟨k, rfl, q _ F H (.start s) (.int _)⟩
abbrev rAbs : List V → Hp → VK → Prop := fun xs H Q => ∃ i, xs = [V.int i] ∧ Q (.int (if i < 0 then -i else i)) H
theorem rc_abs {i : Int} : RcD K rAbs [.int i] (.int (if i < 0 then -i else i)) := fun F xs H s r Q q => by
  cases r with
  | cons a b =>
    cases b
    cases a
    exact ⟨i, rfl, q _ F H (.start s) (.int _)⟩
end
end Sx
set_option Elab.async false
set_option linter.all false
set_option maxRecDepth 100000
set_option maxHeartbeats 1000000
/-! W3: defs by name, defs that raise, built-ins that nobody covers. -/
namespace Sx
open PySem PySem.Spec PyProof.Rows L2
open C8 (Cal pe_c pe_gc)

/-- the built-ins' names stand for the built-ins -/
structure BI (mg : Str → Option Value) : Prop where
  len : mg "len" = none
  abs : mg "abs" = none
  all : mg "all" = none
  any : mg "any" = none
  sum : mg "sum" = none
  min : mg "min" = none
  max : mg "max" = none
  sorted : mg "sorted" = none
  divmod : mg "divmod" = none
  isinstance : mg "isinstance" = none
  int_ : mg "int" = none
  list_ : mg "list" = none
  str_ : mg "str" = none
  bool_ : mg "bool" = none
  tuple : mg "tuple" = none
  range : mg "range" = none
  zip : mg "zip" = none
  enumerate : mg "enumerate" = none
  repr : mg "repr" = none
def f1 (g : PyData → Option PyData) : List PyData → Option PyData
  | [a] => g a
  | _ => none
def f2 (g : PyData → PyData → Option PyData) : List PyData → Option PyData
  | [a, b] => g a b
  | _ => none
def f3 (g : PyData → PyData → PyData → Option PyData) : List PyData → Option PyData
  | [a, b, c] => g a b c
  | _ => none
section
variable {K : PySem.W.Frag}
theorem len_f1 {g : PyData → Option PyData} {vs : List V} {H : Hp} {Q : VK} {E : XK} (h : spD K (f1 g) vs H Q E) : vs.length = 1 := by
  obtain ⟨F, ds, d, _, r, e, _⟩ := h
  match ds, e with
  | [_], _ => exact r.len
theorem len_f2 {g : PyData → PyData → Option PyData} {vs : List V} {H : Hp} {Q : VK} {E : XK} (h : spD K (f2 g) vs H Q E) : vs.length = 2 := by
  obtain ⟨F, ds, d, _, r, e, _⟩ := h
  match ds, e with
  | [_, _], _ => exact r.len
theorem len_f3 {g : PyData → PyData → PyData → Option PyData} {vs : List V} {H : Hp} {Q : VK} {E : XK} (h : spD K (f3 g) vs H Q E) : vs.length = 3 := by
  obtain ⟨F, ds, d, _, r, e, _⟩ := h
  match ds, e with
  | [_, _, _], _ => exact r.len
/-- what a body of one, two, three parameters may begin with -/
theorem go1 {g : PyData → Option PyData} {vs : List V} {H : Hp} {Q : VK} {E : XK} {G : Prop} (h : spD K (f1 g) vs H Q E)
    (k : ∀ F a x d, Same F H → Dq K F x a → g a = some d → vs = [x] → (∀ v F' H', Grow F H F' H' → Dq K F' v d → Q v H') → G) : G := by
  obtain ⟨F, ds, d, s, r, e, q⟩ := h
  match ds, e, r with
  | [_], e, .cons ra .nil => exact k F _ _ d s ra e rfl q
theorem go2 {g : PyData → PyData → Option PyData} {vs : List V} {H : Hp} {Q : VK} {E : XK} {G : Prop} (h : spD K (f2 g) vs H Q E)
    (k : ∀ F a b x y d, Same F H → Dq K F x a → Dq K F y b → g a b = some d → vs = [x, y] → (∀ v F' H', Grow F H F' H' → Dq K F' v d → Q v H') → G) : G := by
  obtain ⟨F, ds, d, s, r, e, q⟩ := h
  match ds, e, r with
  | [_, _], e, .cons ra (.cons rb .nil) => exact k F _ _ _ _ d s ra rb e rfl q
theorem go3 {g : PyData → PyData → PyData → Option PyData} {vs : List V} {H : Hp} {Q : VK} {E : XK} {G : Prop} (h : spD K (f3 g) vs H Q E)
    (k : ∀ F a b c x y z d, Same F H → Dq K F x a → Dq K F y b → Dq K F z c → g a b c = some d → vs = [x, y, z] → (∀ v F' H', Grow F H F' H' → Dq K F' v d → Q v H') → G) : G := by
  obtain ⟨F, ds, d, s, r, e, q⟩ := h
  match ds, e, r with
  | [_, _, _], e, .cons ra (.cons rb (.cons rc .nil)) => exact k F _ _ _ _ _ _ d s ra rb rc e rfl q
end
/-- a def that may raise, by its name -/
structure CalX (P : Program) (w : World) (K : PySem.W.Frag) (mg : Str → Option Value) (base : Heap) (k : Nat) (x : Str) (ps : List Str) (sp : Sp) : Prop where
  ex : ∃ (f : Addr) (fd : FuncData), FnOk P w K mg base (L2.CX P w) k f fd ps sp ∧ mg x = some (.ref f) ∧ PySem.W.keepIn K (.ref f) = true ∧ Binds K fd ps [] ∧
    ∀ us : List Value, us.length = ps.length → bindArgs fd ⟨us, []⟩ = pure (ps.zip us)
section
variable {X : Cx} {x : Str} {p pos : Pos} {e : Expr} {es : List Expr} {t : TA} {sp : Sp} {k j : Nat} {E : XK} {ps : List Str}
theorem pe_cx (c : CalX X.prog X.w X.K X.mg X.base k x ps sp) (hr : Room j X.A) (hk : k ≤ j) (hg : Gl X x) (hx : Passes (L2.CX X.prog X.w) X E) (ha : PA X (e :: es) t)
    (hdb : (x == ("__debug__" : Str)) = false := by decide) (he : starEach (e :: es) X.env = (false, eval e X.env) :: starEach es X.env := by rfl) (hpl : (backTo pos (starEach es X.env)).any (·.1) = false := by rfl) :
    PE X (.Call (.Name x p) (e :: es) [] pos) (tCall sp [] E t) := by
  obtain ⟨f, fd, F, hm, kp, b, _⟩ := c.ex
  exact pe_call F (hr.mono hk) hg hm kp b .nil hx ha hdb he hpl
end
end Sx
set_option Elab.async false
set_option linter.all false
set_option maxRecDepth 100000
set_option maxHeartbeats 1000000
/-! W4: lists of one's own that are changed; defs that raise. -/
namespace Sx
open PySem PySem.Spec PyProof.Rows L2
open C8 (Cal pe_c pe_gc)
section
variable {K : PySem.W.Frag} {σ : L2.St} {F H : Hp} {te ta tb to : TE} {d : PyData} {D : Ends} {v : V} {tz : TS}
/-- a value told at once -/
def Now (te : TE) (σ : L2.St) (H : Hp) (v : V) : Prop := ∀ Q : VK, Q v H → te σ H Q
theorem now_var {i : Nat} (h : σ[i]? = some (some v)) : Now (tVar i) σ H v := fun Q q => ⟨v, h, q⟩
theorem now_c : Now (tC v) σ H v := fun Q q => q
theorem now_ixL {a : Addr} {xs : List V} {k : Nat} (ha : Now ta σ H (.ref a)) (hx : SqL K H a xs) (hb : Now tb σ H (.int (k : Int))) (hk : xs[k]? = some v) : Now (tOp (rIxL K) ta tb) σ H v := fun Q q =>
  ha _ (hb _ ⟨a, xs, (k : Int), v, rfl, rfl, hx, atI_nat hk, q⟩)
/-- l.append(e): e is reckoned on the heap as it stands -/
theorem s_app {l : Addr} {xs : List V} (ho : Now to σ H (.ref l)) (hl : H l = some (.lst xs)) (hn : xs.length < sizeLine) (he : EvD K te σ H d)
    (k : ∀ v F' H', Grow H H F' H' → Dq K F' v d → D.nx σ (upd H' l (.lst (xs ++ [v])))) : tDrop (tBM K "list" rAppend to (tCons te tNil)) D σ H :=
  ho _ ⟨.inl ⟨rfl, xs, .inl (.inl hl)⟩, he H (Same.refl H) _ fun v F' H' g r => ⟨l, xs, v, rfl, rfl, g.h _ _ hl, hn, k v F' H' g r⟩⟩
/-- what was known stands beside a change of one's own -/
theorem same_own {G H' : Hp} {l : Addr} {o : HO} (s : Same G H') (h : G l = none) : Same G (upd H' l o) := fun b x e => by
  rw [upd_ne (ne_of_none e h)]
  exact s b x e
theorem upd_at {H' : Hp} {l b : Addr} {o x : HO} (h : b ≠ l) (e : H' b = some x) : upd H' l o b = some x := by
  rw [upd_ne h]
  exact e
theorem free_grow {F H F' H' : Hp} {l : Addr} {o : HO} (g : Grow F H F' H') (hF : F l = none) (hH : H l = some o) : F' l = none := by
  cases z : F' l with
  | none => rfl
  | some u =>
    have := g.n l u z hF
    rw [hH] at this
    cases this
/-- x = e, e reckoned on the heap as it stands -/
theorem s_set {i : Nat} (he : EvD K te σ F d) (s : Same F H) (k : ∀ v F' H', Grow F H F' H' → Dq K F' v d → D.nx (σ.set i (some v)) H') : tAsg te (gName i) D σ H := he H s _ fun v F' H' g r => k v F' H' g r
theorem s_if {b : Bool} {t : TT} {ts tu : TS} (h : EvB t σ F b) (s : Same F H) (k1 : b = true → ∀ F' H', Grow F H F' H' → ts D σ H') (k2 : b = false → ∀ F' H', Grow F H F' H' → tu D σ H') : tIfS t ts tu D σ H := h H s _ fun F1 H1 g => by
  cases b with
  | true => exact k1 rfl F1 H1 g
  | false => exact k2 rfl F1 H1 g
theorem s_when {b : Bool} {t : TT} {ts tw : TS} (h : EvB t σ F b) (s : Same F H) (k1 : b = true → ∀ F' H', Grow F H F' H' → ts { D with nx := tw D } σ H') (k2 : b = false → ∀ F' H', Grow F H F' H' → tw D σ H') : tSeq (tIfS t ts tNext) tw D σ H := h H s _ fun F1 H1 g => by
  cases b with
  | true => exact k1 rfl F1 H1 g
  | false => exact k2 rfl F1 H1 g
/-- x = a new list: nobody else knows it -/
theorem s_newL {i : Nat} {ta : TA} {ds : List PyData} (he : EvS K ta σ F ds) (s : Same F H) (hl : ds.length ≤ sizeLine) (k : ∀ p vs F' H', Grow F H F' H' → H' p = none → DqAll K F' vs ds → D.nx (σ.set i (some (.ref p))) (upd H' p (.lst vs))) :
    tAsg (tLst ta) (gName i) D σ H := he H s _ fun vs F' H' g r => ⟨by rw [r.len]; exact hl, fun p hp => k p vs F' H' g hp r⟩
theorem s_ret (he : EvD K te σ F d) (s : Same F H) (k : ∀ v F' H', Grow F H F' H' → Dq K F' v d → D.rt v H') : tRet te D σ H := he H s _ k
/-- a block of pure steps, read from the heap as it stands -/
theorem s_retNow (h : Now te σ H v) (k : D.rt v H) : tRet te D σ H := h _ k
end
/-! ### defs that may raise an error without fields -/
/-- the promise of such a def: a value, or an error of the class at C -/
def spX (K : PySem.W.Frag) (g : List PyData → Option (Except Addr PyData)) : Sp := fun vs H Q E => ∃ F ds r, Same F H ∧ DqAll K F vs ds ∧ g ds = some r ∧
  (∀ d, r = .ok d → ∀ v F' H', Grow F H F' H' → Dq K F' v d → Q v H') ∧ ∀ C, r = .error C → ∀ H', Same H H' → E (.ref C) none H'
section
variable {K : PySem.W.Frag} {σ : L2.St} {F : Hp} {d : PyData}
def x1 (g : PyData → Option (Except Addr PyData)) : List PyData → Option (Except Addr PyData)
  | [a] => g a
  | _ => none
def x2 (g : PyData → PyData → Option (Except Addr PyData)) : List PyData → Option (Except Addr PyData)
  | [a, b] => g a b
  | _ => none
theorem len_x1 {g : PyData → Option (Except Addr PyData)} {vs : List V} {H : Hp} {Q : VK} {E : XK} (h : spX K (x1 g) vs H Q E) : vs.length = 1 := by
  obtain ⟨F, ds, r, _, ra, e, _⟩ := h
  match ds, e with
  | [_], _ => exact ra.len
theorem len_x2 {g : PyData → PyData → Option (Except Addr PyData)} {vs : List V} {H : Hp} {Q : VK} {E : XK} (h : spX K (x2 g) vs H Q E) : vs.length = 2 := by
  obtain ⟨F, ds, r, _, ra, e, _⟩ := h
  match ds, e with
  | [_, _], _ => exact ra.len
/-- a call that comes back -/
theorem ev_callX {g : List PyData → Option (Except Addr PyData)} {E : XK} {ta : TA} {ds : List PyData} (h : EvS K ta σ F ds) (e : g ds = some (.ok d)) : EvD K (tCall (spX K g) [] E ta) σ F d := fun H s Q q =>
  h H s _ fun vs F1 H1 g1 r1 => ⟨F1, ds, _, g1.i, by rw [List.append_nil]; exact r1, e, fun d' hd v F2 H2 g2 r2 => by
    cases hd
    exact q v F2 H2 (g1.trans g2) r2, fun C hC => nomatch hC⟩
/-- a call that raises -/
theorem call_raises {g : List PyData → Option (Except Addr PyData)} {E : XK} {ta : TA} {ds : List PyData} {C : Addr} {H : Hp} {Q : VK} (h : EvS K ta σ F ds) (s : Same F H) (e : g ds = some (.error C)) (k : ∀ H', Same H H' → E (.ref C) none H') : tCall (spX K g) [] E ta σ H Q := by
  refine h H s _ fun vs F1 H1 g1 r1 => ⟨F1, ds, _, g1.i, (by rw [List.append_nil]; exact r1), e, (fun d' hd => nomatch hd), fun C' hC H' s' => ?_⟩
  cases hC
  exact k H' (g1.h.trans s')
/-- raise C('..') -/
def tRse (E : XK) (C : Addr) : TS := fun _ σ H => E (.ref C) none H
/-- the class at C can be raised by its name -/
structure Rse (K : PySem.W.Frag) (mg : Str → Option Value) (x : Str) (C : Addr) : Prop where
  e : PySem.W.excIn K C [.type "ValueError", .type "Exception", .type "BaseException", .type "object"] "ValueError.__new__" = true
  g : mg x = some (.ref C)
  k : PySem.W.keepIn K (.ref C) = true
  b : PySem.W.subIn K (.ref C) (.type "BaseException") = some true
  t : PySem.W.typeIn K (.ref C) = some (.type "type")
end
end Sx
set_option Elab.async false
set_option linter.all false
set_option maxRecDepth 100000
set_option maxHeartbeats 400000
/-! W5: slices with a step, xs[i] op= e, enumerate of a tuple, two-fold comprehensions, more operations. -/
namespace Sx
open PySem PySem.Spec PyProof.Rows L2
open C8 (Cal pe_c pe_gc)
/-! ### xs[i:j:k] of a list -/
/-- the places that a slice means -/
def places (n : Nat) (lo hi st : Option Int) : List Nat := let b := sliceBounds lo hi st n; sliceRange b.1 b.2.1 b.2.2
theorem vals_at {xs : List V} {us : List Value} (r : Vals xs us) : ∀ js : List Nat, Vals (js.filterMap fun j => xs[j]?) (js.filterMap fun j => us[j]?)
  | [] => .nil
  | j :: js => by
    cases e : xs[j]? with
    | none =>
      rw [List.filterMap_cons_none e, List.filterMap_cons_none (r.none_of e)]
      exact vals_at r js
    | some x =>
      obtain ⟨u, hu, ru⟩ := r.get e
      rw [List.filterMap_cons_some e, List.filterMap_cons_some hu]
      exact .cons ru (vals_at r js)
theorem dps_at {K : PySem.W.Frag} {F : Hp} {xs : List V} {ds : List PyData} (r : DqAll K F xs ds) : ∀ js : List Nat, DqAll K F (js.filterMap fun j => xs[j]?) (js.filterMap fun j => ds[j]?)
  | [] => .nil
  | j :: js => by
    cases e : ds[j]? with
    | none =>
      have hl := r.len
      have h2 : ds.length ≤ j := List.getElem?_eq_none_iff.mp e
      have e2 : xs[j]? = none := List.getElem?_eq_none_iff.mpr (by omega)
      rw [List.filterMap_cons_none e, List.filterMap_cons_none e2]
      exact dps_at r js
    | some d =>
      obtain ⟨v, hv, rv⟩ := r.get e
      rw [List.filterMap_cons_some e, List.filterMap_cons_some hv]
      exact .cons rv (dps_at r js)
def tStep (K : PySem.W.Frag) (te : TE) (tl th ts : TO) : TE := fun σ H Q => te σ H fun x H1 => tl σ H1 fun l H2 => th σ H2 fun u H3 => ts σ H3 fun c H4 => ∃ a xs, x = .ref a ∧ SqL K H4 a xs ∧ c ≠ some 0 ∧
  ∀ p, H4 p = none → Q (.ref p) (upd H4 p (.lst ((places xs.length l u c).filterMap fun j => xs[j]?)))
section
variable {X : Cx} {e : Expr} {te : TE} {lo hi st : Option Expr} {tl th ts : TO} {p2 pos : Pos}
theorem pe_step (he : PE X e te) (hl : PO X lo tl) (hu : PO X hi th) (hs : PO X st ts) (hsub : ∀ v i, subscripted (.Slice lo hi st p2) false v i = operate [v, i] (getItem v i) := by intros; with_unfolding_all rfl) : PE X (.Subscript e (.Slice lo hi st p2) pos) (tStep X.K te tl th ts) := by
  refine ⟨fun pins s σ H Q I h => Subscript_ (thn (he.run pins s σ H _ I h) fun v s1 hq => ?_)⟩
  obtain ⟨x, H1, I1, r1, q1⟩ := hq
  refine wpAny_Slice (thn (hl.run pins s1 σ H1 _ I1 q1) fun vl s2 hq2 => ?_)
  obtain ⟨l, H2, I2, pl, q2⟩ := hq2
  refine thn (hu.run pins s2 σ H2 _ I2 q2) fun vu s3 hq3 => ?_
  obtain ⟨u, H3, I3, pu, q3⟩ := hq3
  refine thn (hs.run pins s3 σ H3 _ I3 q3) fun vs s4 hq4 => ?_
  obtain ⟨c, H4, I4, pc, a, xs, ex, hx, hc, q⟩ := hq4
  subst ex
  cases r1
  generalize hob : ({ cls := .type "slice", data := .fields #[vl, vu, vs] } : Obj) = ob
  have I5 : Inv X pins σ H4 { s4 with heap := s4.heap.push ob } := I4.kept (t' := s4.toks) fun b o z => Heap.get?_push_of_some _ z
  obtain ⟨its, rv, pt, hz⟩ := I5.list hx
  have hlen := rv.length
  have hsl : (s4.heap.push ob).IsSliceOf s4.heap.objs.size vl vu vs := by
    rw [← hob]
    exact .new ..
  have fin : wpAny (model X.prog X.w) X.A (getItem (.ref a) (.ref s4.heap.objs.size)) (EP X pins σ Q) X.xe { s4 with heap := s4.heap.push ob } := by
    refine wpAny_getItem_list_slice pt.isList hsl pl pu pc hc ?_ (by rw [List.size_toArray]; omega)
    have ep : slicePick its.toArray l u c = ((places xs.length l u c).filterMap fun j => its[j]?).toArray := by
      unfold slicePick places
      rw [List.size_toArray, ← hlen]
      refine congrArg List.toArray (congrArg (fun g => List.filterMap g _) (funext fun j => ?_))
      simp
    rw [ep]
    refine ⟨.ref _, _, I5.laid (t' := s4.toks) (o := .lst ((places xs.length l u c).filterMap fun j => xs[j]?)) (fun b o z => Heap.get?_push_of_some _ z) (Nat.le_refl _) ?_, rfl, q _ (I5.hok.fresh (Nat.le_refl _))⟩
    refine ⟨?_, _, 0, vals_at rv _, Heap.get?_push_size _ rfl⟩
    have w1 := (vals_at rv (places xs.length l u c)).length
    have w2 := slicePick_size_le its.toArray l u c
    rw [ep, List.size_toArray, List.size_toArray] at w2
    omega
  exact tail_any (ops := [.ref a, .ref s4.heap.objs.size]) pt.isList.typeIs PySem.slot_list_getitem.lookup fin (hsub _ _)
end

/-! ### enumerate(t), t a tuple -/
/-- the tuple at a: turn i gives the pair (i, its item) -/
def ItE (K : PySem.W.Frag) (a : Addr) : It where
  go := fun i H => ∃ (xs : List V) (x : V), SqT K H a xs ∧ xs[i]? = some x
  yld := fun i H v H' => ∃ T x, v = .ref T ∧ H T = none ∧ H' = upd H T (.tup [.int (i : Nat), x]) ∧ ∀ xs, SqT K H a xs → xs[i]? = some x
  stop := fun i H => ∃ xs : List V, SqT K H a xs ∧ xs.length = i
def stE (a e it : Addr) (i : Nat) (h : Heap) : Prop := (∃ old, IsEnum h e it ((i : Nat) : Int) old) ∧ h.IsTupleIter it a i ∧ e ≠ it ∧ e ≠ a ∧ a ≠ it
theorem two_mem {b e it : Addr} (h : b ∈ [e, it]) : b = e ∨ b = it := by simpa using h
theorem turn_enumT {P : Program} {w : World} {K : PySem.W.Frag} {elts : List Expr} {kk : Nat} {tpos : Pos} (a e it : Addr) : Turn P w K (.Tuple elts kk tpos) (ItE K a) [e, it] e (stE a e it) where
  mem := List.mem_cons_self
  obj := fun i h st b hb => by
    obtain ⟨⟨o1, h1⟩, ⟨o2, h2, _, h4⟩, _⟩ := st
    rcases two_mem hb with rfl | rfl
    · exact ⟨_, h1, fun v q => nomatch q⟩
    · exact ⟨o2, h2, fun v q => by
        rw [h4] at q
        cases q⟩
  keep := fun i h h' st k => by
    obtain ⟨⟨o1, h1⟩, ⟨o2, h2, h3⟩, ne⟩ := st
    exact ⟨⟨o1, k e List.mem_cons_self _ h1⟩, ⟨o2, k it (by simp) _ h2, h3⟩, ne⟩
  item := by
    rintro X rfl rfl rfl hc i pins s σ H E I hf ⟨⟨o1, h1⟩, h2, n1, n2, n3⟩ ⟨xs, x, hx, hi⟩
    obtain ⟨its, rv, pt, _⟩ := I.tuple hx
    obtain ⟨u, hu, ru⟩ := rv.get hi
    have l1 : e < s.heap.objs.size := Heap.lt_size h1
    have l2 : it < s.heap.objs.size := by
      obtain ⟨_, z, _⟩ := h2
      exact Heap.lt_size z
    have hlt : i < its.toArray.size := by
      rw [List.size_toArray]
      exact (List.getElem?_eq_some_iff.mp hu).1
    refine wpAny_pyNext_enum_itemD (Draws.tuple (prog := X.prog) (w := X.w) (A := X.A.in1) (I.ok.hd hc) it a n3 its.toArray) h1 ⟨h2, pt⟩ hlt n1 (by simp [n1, n2]) fun y h' tk hy ho hs hT hz hk => ?_
    have ey : y = u := by
      have hy' : its.toArray[i]? = some y := hy
      rw [List.getElem?_toArray, hu] at hy'
      exact (Option.some.inj hy').symm
    subst ey
    refine ⟨_, rfl, wpAny_letOwnedTupleGo_enum (s := { s with heap := h', toks := tk + 1 }) ho fun h3 he3 sb => ?_⟩
    have hT3 := (sb.2 _ (Nat.ne_of_gt l1)).trans hT
    have mk : ObjOk X.prog X.w (upd H s.heap.objs.size (.tup [.int (i : Nat), x])) h3 s.heap.objs.size (.tup [.int (i : Nat), x]) :=
      ⟨(by show 2 ≤ sizeLine; decide), [.int i tk, y], .cons ⟨_, rfl⟩ (.cons ru .nil), ⟨_, hT3, rfl, _, rfl⟩⟩
    have kp : ∀ b o, b ∉ [e, it] → s.heap.get? b = some o → h3.get? b = some o := fun b o hb z => by
      have b1 : b ≠ e := fun w => hb (by rw [w]; exact List.mem_cons_self)
      have b2 : b ≠ it := fun w => hb (by rw [w]; simp)
      exact (sb.2 b b1).trans (hk b o b1 b2 z)
    have J := I.turnedNew (t' := tk + 1) kp hf (Nat.le_refl _) mk
    refine ⟨.ref s.heap.objs.size, _, J, rfl, ⟨_, x, rfl, I.hok.fresh (Nat.le_refl _), rfl, fun ys hys => ?_⟩, ⟨⟨y, ?_⟩, ?_, n1, n2, n3⟩, fun b hb => ?_⟩
    · rw [I.tuple_inj hys hx]
      exact hi
    · rw [show ((i + 1 : Nat) : Int) = (i : Int) + 1 by omega]
      exact he3
    · obtain ⟨o, z1, z2⟩ := hs.1
      exact ⟨o, (sb.2 it (Ne.symm n1)).trans z1, z2⟩
    · have lb : b < s.heap.objs.size := by
        rcases two_mem hb with rfl | rfl
        · exact l1
        · exact l2
      rw [upd_ne (Nat.ne_of_lt lb)]
      exact (hf b hb).1
  done := by
    rintro X rfl rfl rfl hc i pins s σ H E I hf ⟨⟨o1, h1⟩, h2, n1, n2, n3⟩ ⟨xs, hx, hi⟩
    obtain ⟨its, rv, pt, _⟩ := I.tuple hx
    have hl : its.toArray.size = i := by
      rw [List.size_toArray, ← rv.length]
      exact hi
    have h2' : s.heap.IsTupleIter it a its.toArray.size := by
      rw [hl]
      exact h2
    obtain ⟨f0, f1, f2, f3, f4, f5⟩ := hf it (by simp)
    exact wpAny_pyNext_enum_endD (Draws.tuple (prog := X.prog) (w := X.w) (A := X.A.in1) (I.ok.hd hc) it a n3 its.toArray) h1 ⟨h2', pt⟩ fun h' hb => ⟨rfl, I.turned (t' := s.toks) (fun b o z q => hb b o z q) f0 f1 f3 f4 f5⟩
  self := fun A i s Q E st h => by
    obtain ⟨⟨_, he⟩, _⟩ := st
    exact wpAny_pyIter_enum he h

/-- enumerate(x) begins: its two new cells -/
theorem meets_enum1 {v : Value} {o : Obj} {G : Heap → Prop} (B : Begins v o G) : Meets (Builtin.«enumerate.__new__» ⟨[.type "enumerate", v], []⟩) (fun _ R s => G s.heap ∧
    R (.ok (.ret (.ref (s.heap.push o).objs.size))) { s with heap := (s.heap.push o).push { cls := .type "enumerate", data := .fields #[.none, .bool false, .ref s.heap.objs.size, rawInt 0, .none, .none] } }) :=
  .of_wp fun prog w A R s h => by
    obtain ⟨hp, g, d, tk, os⟩ := s
    obtain ⟨hG, h⟩ := h
    have sub := sub_enumerate
    have it1 : ∀ {A' : Around} {E' : Value → Shared → Prop} {Q' : Value → Shared → Prop}, Q' (.ref hp.objs.size) ⟨hp.push o, g, d, tk, os⟩ → wpAny (model prog w) A' (pyIter v) Q' E' ⟨hp, g, d, tk, os⟩ := fun q => B.iter prog w _ _ ⟨hp, g, d, tk, os⟩ _ hG q
    wp_walk using it1
    refine wpAny_stack_any fun st => wpAny_pure ?_
    split
    case h_1 c _ _ _ _ _ =>
      cases (c == Value.type "enumerate") <;>
      · wp_walk using it1
        exact ⟨_, rfl, h⟩
    all_goals
      wp_walk using it1
      exact ⟨_, rfl, h⟩
theorem call_enumT {prog : Program} {w : World} {A : Around} {E : Value → Shared → Prop} {s : Shared} {a : Addr} {its : Array Value} {Q : Value → Shared → Prop} (ht : s.heap.IsTuple a its)
    (h : ∀ h', IsEnum h' (s.heap.objs.size + 1) s.heap.objs.size 0 .none → h'.IsTupleIter s.heap.objs.size a 0 → (∀ b o, s.heap.get? b = some o → h'.get? b = some o) → Q (.ref (s.heap.objs.size + 1)) { s with heap := h' }) :
    wpAny (model prog w) A (call (.type "enumerate") [.ref a]) Q E s := by
  refine callType_new F.called_enumerate (by decide) (F.typeCall_enumerate_1 _) (F.newCall_enumerate_1 _) (fun obj => F.args_object_init_2 obj _) F.entry_enumerate_new (meets_enum1 (begins_tuple a its)) ⟨ht, ?_⟩
  generalize hoi : ({ cls := .type "tuple_iterator", data := .fields #[.ref a, .int 0 0] } : Obj) = oi
  have hz : (s.heap.push oi).objs.size = s.heap.objs.size + 1 := Heap.size_push ..
  show _ ∧ _
  rw [hz]
  have he := Heap.get?_push_size (s.heap.push oi) (o := { cls := .type "enumerate", data := .fields #[.none, .bool false, .ref s.heap.objs.size, rawInt 0, .none, .none] }) rfl
  rw [hz] at he
  refine ⟨⟨_, he, rfl⟩, h _ he ⟨oi, Heap.get?_push_of_some _ (Heap.get?_push_size _ (by rw [← hoi]; rfl)), by rw [← hoi], by subst hoi; rfl⟩ fun b o z => Heap.get?_push_of_some _ (Heap.get?_push_of_some _ z)⟩
def iEnumT (K : PySem.W.Frag) (ta : TA) : TI := fun σ H R => ta σ H fun vs H1 => ∃ a xs, vs = [.ref a] ∧ SqT K H1 a xs ∧ R (ItE K a) H1
theorem pi_enumT {X : Cx} {e : Expr} {ta : TA} {p pos tpos : Pos} {elts : List Expr} {kk : Nat} (hg : Gl X "enumerate") (hm : X.mg "enumerate" = none) (ha : PA X [e] ta) (hs : starEach [e] X.env = [(false, eval e X.env)] := by rfl) :
    PI X (.Tuple elts kk tpos) (.Call (.Name "enumerate" p) [e] [] pos) (iEnumT X.K ta) := by
  refine ⟨fun pins s σ H R I h => Call_ (ld_blt I hg hm boot_enumerate (PyProof.Rows.callWith_type1 (thn (ha.run pos pins s σ H _ I h) fun us s1 hq => ?_) hs rfl))⟩
  obtain ⟨vs, H1, I1, r1, a, xs, ex, hx, q⟩ := hq
  subst ex
  cases r1 with
  | cons r rr =>
    cases rr
    cases r
    obtain ⟨its, rv, pt, _⟩ := I1.tuple hx
    refine call_enumT pt fun h' h1 h2 hk => wpAny_pyIter_enum h1 ?_
    have la : a < s1.heap.objs.size := pt.lt
    have I2 : Inv X pins σ H1 { s1 with heap := h' } := I1.kept (t' := s1.toks) hk
    refine ⟨s1.heap.objs.size + 1, [s1.heap.objs.size + 1, s1.heap.objs.size], _, _, H1, rfl, I2, turn_enumT a (s1.heap.objs.size + 1) s1.heap.objs.size, ⟨⟨_, h1⟩, h2, Nat.succ_ne_self _, Nat.ne_of_gt (Nat.lt_succ_of_lt la), Nat.ne_of_lt la⟩, fun b hb => ?_, q⟩
    have hle : s1.heap.objs.size ≤ b := by
      rcases two_mem hb with rfl | rfl
      · exact Nat.le_succ _
      · exact Nat.le_refl _
    exact I1.fpOk hle (I1.hok.fresh hle)

section
variable {K : PySem.W.Frag} {σ : L2.St} {F G H : Hp} {te ta tb to ti : TE} {d d1 d2 : PyData} {ds es : List PyData}
theorem wk_enumT {a : Addr} {vs : List V} (h : SqT K F a vs) (r : DqAll K F vs ds) : WkD K (ItE K a) (numbered ds) F := fun i H s => by
  have hs := same_seqT s h
  refine ⟨fun d hd => ?_, fun e => ⟨vs, hs, ?_⟩⟩
  · obtain ⟨b, hb, rfl⟩ := numbered_get hd
    obtain ⟨v, hv, rv⟩ := r.get hb
    refine ⟨⟨vs, v, hs, hv⟩, fun x H' y => ?_⟩
    obtain ⟨T, x1, rfl, hT, rfl, y1⟩ := y
    have e1 := Option.some.inj ((y1 vs hs).symm.trans hv)
    subst e1
    exact grow_pair s hT (.int _) rv
  · rw [numbered_len] at e
    rw [r.len]
    exact e.symm
theorem ew_enumT {ta : TA} (h : EvS K ta σ F [.tuple ds]) : EvW K (iEnumT K ta) σ F (numbered ds) := fun H s R q => h H s _ fun vs F1 H1 g r => by
  cases r with
  | cons a b =>
    cases b
    cases a with
    | tup a1 a2 => exact ⟨_, _, rfl, same_seqT g.i a1, q _ F1 H1 g (wk_enumT a1 a2)⟩
/-! ### slices with a step, as data -/
theorem ev_step {tl th ts : TO} {lo hi st : Option Int} (h : EvD K te σ F (.list ds)) (h1 : EvO K tl σ F lo) (h2 : EvO K th σ F hi) (h3 : EvO K ts σ F st) (hst : st ≠ some 0) :
    EvD K (tStep K te tl th ts) σ F (.list ((places ds.length lo hi st).filterMap fun j => ds[j]?)) := fun H s Q q =>
  h H s _ fun x F1 H1 g1 r1 => h1.up g1.f H1 g1.i _ fun F2 H2 g2 => h2.up (g1.trans g2).f H2 g2.i _ fun F3 H3 g3 => h3.up ((g1.trans g2).trans g3).f H3 g3.i _ fun F4 H4 g4 => by
    have g := ((g1.trans g2).trans g3).trans g4
    cases r1.up ((g2.trans g3).trans g4).f with
    | lst a b =>
      refine ⟨_, _, rfl, g4.i.seq a, hst, fun p hp => ?_⟩
      rw [b.len]
      exact q _ _ _ (g.trans (.known g4.i hp)) (.lst (.inl (.inl upd_same)) ((dps_at b _).up (same_upd (g4.i.free hp))))
/-! ### xs[k] += j -/
def rIxP (K : PySem.W.Frag) : V → V → Hp → VK → Prop := fun x y H Q => ∃ p xs k v, x = .ref p ∧ y = .int ((k : Nat) : Int) ∧ SqL K H p xs ∧ xs[k]? = some v ∧ Q v H
theorem get_L {X : Cx} : PGet X (rIxP X.K) := by
  intro pins s σ H o i ov iv Q I ro ri h
  obtain ⟨p, xs, k, v, rfl, rfl, hq, he, q⟩ := h
  cases ro
  obtain ⟨t, rfl⟩ := ri
  obtain ⟨its, r, pl, hz⟩ := I.list hq
  obtain ⟨u, hu, ru⟩ := r.get he
  have hk := (List.getElem?_eq_some_iff.mp he).1
  have hn := line63
  exact wpAny_getItem_list pl.isList (by omega) (by omega) (by simpa using hu) ⟨v, H, I, ru, q⟩
theorem s_augL {D : Ends} {l : Addr} {xs : List V} {k : Nat} {i j : Int} (ho : Now to σ H (.ref l)) (hl : H l = some (.lst xs)) (hi : Now ti σ H (.int (k : Int))) (hk : xs[k]? = some (.int i)) (he : EvD K te σ H (.int j))
    (kk : ∀ F' H', Grow H H F' H' → D.nx σ (upd H' l (.lst (xs.set k (.int (i + j)))))) : tAugS to ti te (rIxP K) (ipI fun i j => i + j) rSetL D σ H :=
  ho _ (hi _ ⟨l, xs, k, .int i, rfl, rfl, .inl (.inl hl), hk, he H (Same.refl H) _ fun v F' H' g r => by
    cases r
    refine ⟨i, j, rfl, rfl, l, xs, (k : Int), k, rfl, rfl, g.h _ _ hl, ?_, kk F' H' g⟩
    have hlt := (List.getElem?_eq_some_iff.mp hk).1
    unfold ixN
    rw [if_pos (Int.natCast_nonneg k), if_pos (by omega), Int.toNat_natCast]⟩)
/-! ### xs * n, t + u, divmod -/
theorem s_setRep {D : Ends} {i : Nat} {n : Nat} {j : Int} (h : EvD K tb σ F (.int (n : Int))) (s : Same F H) (hn : n < 2 ^ 62) (hz : n ≤ sizeLine) (k : ∀ p F' H' H2, Grow F H F' H' → H' p = none → H2 = upd H' p (.lst (List.replicate n (.int j))) → D.nx (σ.set i (some (.ref p))) H2) :
    tAsg (tOp rRep (tLst (tCons (tC (.int j)) tNil)) tb) (gName i) D σ H := by
  refine ⟨(by show 1 ≤ sizeLine; decide), fun a ha => ?_⟩
  have s1 : Same F (upd H a (.lst [.int j])) := s.trans (same_upd ha)
  refine h _ s1 _ fun v F1 H1 g1 r1 => ?_
  cases r1
  have ha1 : H1 a = some (.lst [.int j]) := g1.h _ _ upd_same
  refine ⟨a, (n : Int), [.int j], rfl, rfl, ha1, by omega, by omega, by simpa using hz, fun p hp => ?_⟩
  refine k p F1 H1 _ ⟨g1.f, (same_upd ha).trans g1.h, g1.i, fun b o e0 e1 => ?_⟩ hp ?_
  · have z := g1.n b o e0 e1
    by_cases hb : b = a
    · rw [hb, upd_same] at z
      cases z
    · rw [upd_ne hb] at z
      exact z
  · rw [Int.toNat_natCast]
    congr 2
    generalize n = m
    induction m with
    | zero => rfl
    | succ m ih => rw [List.replicate_succ, List.flatten_cons, ih, List.replicate_succ]; rfl
theorem rv_catT (hl : ds.length + es.length ≤ sizeLine) : RvD K (rCatA K) (.tuple ds) (.tuple es) (.tuple (ds ++ es)) := fun F x y H s a b Q q => by
  cases a with
  | tup a1 a2 =>
    cases b with
    | tup b1 b2 =>
      refine ⟨_, _, _, _, rfl, rfl, same_seqT s a1, same_seqT s b1, (by rw [a2.len, b2.len]; exact hl), fun e => ?_, fun _ e => ?_, fun _ _ p hp => ?_⟩
      · have e2 : ds = [] := by
          have := a2.len
          rw [e] at this
          exact List.eq_nil_of_length_eq_zero this.symm
        rw [e2, List.nil_append] at q
        exact q _ F H (.start s) (.tup b1 b2)
      · have e2 : es = [] := by
          have := b2.len
          rw [e] at this
          exact List.eq_nil_of_length_eq_zero this.symm
        rw [e2, List.append_nil] at q
        exact q _ F H (.start s) (.tup a1 a2)
      · exact q _ _ _ (.known s hp) (.tup (.inl (.inl upd_same)) ((a2.app b2).up (same_upd (s.free hp))))
abbrev rDivmod : List V → Hp → VK → Prop := fun xs H Q => ∃ i j, xs = [.int i, .int j] ∧ CDiv i j ∧ ∀ p, H p = none → Q (.ref p) (upd H p (.tup [.int (i / j), .int (i % j)]))
theorem rc_divmod {i j : Int} (h : CDiv i j) : RcD K rDivmod [.int i, .int j] (.tuple [.int (i / j), .int (i % j)]) := fun F xs H s r Q q => by
  cases r with
  | cons a b =>
    cases a
    cases b with
    | cons b c =>
      cases b
      cases c
      exact ⟨i, j, rfl, h, fun p hp => q _ _ _ (.known s hp) (.tup (.inl (.inl upd_same)) (.cons (.int _) (.cons (.int _) .nil)))⟩
/-! ### [e for x in xs for y in ys] -/
theorem grow_own {F H F' H' : Hp} {D : Addr} {o : HO} (g : Grow F H F' H') (hD : H D = none) (nD : F' D = none) : Grow F H F' (upd H' D o) := ⟨g.f, fun b x z => by
  rw [upd_ne (ne_of_none z hD)]
  exact g.h b x z, fun b x z => by
  rw [upd_ne (ne_of_none z nD)]
  exact g.i b x z, g.n⟩
/-- the new list gets known -/
theorem grow_tell {F H F' H' : Hp} {D : Addr} {o : HO} (g : Grow F H F' H') (hD : H D = none) (nD : F' D = none) (eD : H' D = some o) : Grow F H (upd F' D o) H' := ⟨g.f.trans (same_upd nD), g.h, fun b x z => by
  by_cases hb : b = D
  · rw [hb, upd_same] at z
    rw [hb, eD]
    exact z
  · rw [upd_ne hb] at z
    exact g.i b x z, fun b x z n => by
  by_cases hb : b = D
  · rw [hb]
    exact hD
  · rw [upd_ne hb] at z
    exact g.n b x z n⟩
theorem free_of {F H F' H' : Hp} {D : Addr} {o : HO} (g : Grow F H F' H') (nD : F D = none) (eD : H D = some o) : F' D = none := free_grow g nD eD
def made2 (es : PyData → List PyData) (e : PyData → PyData → PyData) (ds : List PyData) : List PyData := ds.flatMap fun d => (es d).map (e d)
theorem yes_then {σ : L2.St} {H : Hp} {A B : Hp → Prop} (h : A H) : tYes σ H (fun b H' => if b = true then A H' else B H') := by
  show (if true = true then A H else B H)
  rw [if_pos rfl]
  exact h
theorem ev_lc2 {wi wi1 : TI} {g g1 : TG} {vs vs1 : List Nat} (es : PyData → List PyData) (e : PyData → PyData → PyData) (hw : EvW K wi σ F ds) (hl : (made2 es e ds).length < sizeLine)
    (hT : ∀ d F', d ∈ ds → Same F F' → Tk K g d (wipe σ vs) F' fun σ2 => wipe σ2 vs = wipe σ vs ∧ EvW K wi1 σ2 F' (es d) ∧
      ∀ c F2, c ∈ es d → Same F' F2 → Tk K g1 c (wipe σ2 vs1) F2 fun σ3 => wipe σ3 vs1 = wipe σ2 vs1 ∧ EvD K te σ3 F2 (e d c)) :
    EvD K (tLc2 wi g tYes wi1 g1 tYes te vs vs1) σ F (.list (made2 es e ds)) := fun H s Q q => hw H s _ fun J F1 H1 k1 wk => by
  intro D hD
  refine ⟨fun i m H2 => m = ds.length - i ∧ i ≤ ds.length ∧ ∃ F2 acc, Grow F1 H1 F2 H2 ∧ F2 D = none ∧ H2 D = some (.lst acc) ∧ DqAll K F2 acc (made2 es e (ds.take i)),
    ⟨ds.length, by simp, Nat.zero_le _, F1, [], .own k1.i hD, k1.i.free hD, upd_same, .nil⟩, fun i m H2 hW => ?_⟩
  obtain ⟨rfl, hi, F2, acc, k2, nD, eD, ra⟩ := hW
  have wk2 := wk.up k2.f
  by_cases hlt : i < ds.length
  · have hd : ds[i]? = some ds[i] := List.getElem?_eq_getElem hlt
    obtain ⟨go, yl⟩ := (wk2 i H2 k2.i).1 _ hd
    have eT : made2 es e (ds.take (i + 1)) = made2 es e (ds.take i) ++ (es ds[i]).map (e ds[i]) := by
      unfold made2
      rw [List.take_add_one, hd, List.flatMap_append]
      show _ ++ (_ ++ []) = _
      rw [List.append_nil]
    have eL : (made2 es e (ds.take i)).length + (es ds[i]).length ≤ (made2 es e ds).length := by
      have z : made2 es e ds = made2 es e (ds.take (i + 1)) ++ made2 es e (ds.drop (i + 1)) := by
        unfold made2
        rw [← List.flatMap_append, List.take_append_drop]
      rw [z, eT, List.length_append, List.length_append, List.length_map]
      omega
    refine .inr ⟨go, fun H3 => ∃ F3 acc, Grow F1 H1 F3 H3 ∧ F3 D = none ∧ H3 D = some (.lst acc) ∧ DqAll K F3 acc (made2 es e (ds.take (i + 1))), fun H3 h3 => ⟨_, ?_, rfl, hlt, h3⟩, fun x H3 hy => ?_⟩
    · show ds.length - (i + 1) < ds.length - i
      omega
    obtain ⟨F3, k3, rx⟩ := yl x H3 hy
    have k13 := (k2.trans k3)
    have nD3 : F3 D = none := free_of k3 nD eD
    refine hT ds[i] F3 (List.getElem_mem hlt) ((k1.trans k13).f) x H3 k3.i rx _ fun σ2 hσ => ?_
    obtain ⟨w2, hw1, hT1⟩ := hσ
    refine ⟨w2, yes_then ?_⟩
    refine hw1 H3 k3.i _ fun J1 F4 H4 k4 wk1 => ?_
    have eD4 : H4 D = some (.lst acc) := k4.h _ _ (k3.h _ _ eD)
    have nD4 : F4 D = none := free_of k4 nD3 (k3.h _ _ eD)
    refine ⟨fun j k H5 => k = (es ds[i]).length - j ∧ j ≤ (es ds[i]).length ∧ ∃ F5 acc, Grow F1 H1 F5 H5 ∧ Same F4 F5 ∧ F5 D = none ∧ H5 D = some (.lst acc) ∧ DqAll K F5 acc (made2 es e (ds.take i) ++ ((es ds[i]).take j).map (e ds[i])),
      ⟨_, rfl, Nat.zero_le _, F4, acc, k13.trans k4, Same.refl _, nD4, eD4, ?_⟩, fun j k H5 hW => ?_⟩
    · rw [List.take_zero, List.map_nil, List.append_nil]
      exact ra.up (k3.trans k4).f
    obtain ⟨rfl, hj, F5, acc5, k5, s5, nD5, eD5, ra5⟩ := hW
    have wk5 := wk1.up s5
    by_cases hjt : j < (es ds[i]).length
    · have hc : (es ds[i])[j]? = some (es ds[i])[j] := List.getElem?_eq_getElem hjt
      obtain ⟨go1, yl1⟩ := (wk5 j H5 k5.i).1 _ hc
      refine .inr ⟨go1, fun H6 => ∃ F5 acc, Grow F1 H1 F5 H6 ∧ Same F4 F5 ∧ F5 D = none ∧ H6 D = some (.lst acc) ∧ DqAll K F5 acc (made2 es e (ds.take i) ++ ((es ds[i]).take (j + 1)).map (e ds[i])), fun H6 h6 => ⟨_, ?_, rfl, hjt, h6⟩, fun y H6 hy1 => ?_⟩
      · show (es ds[i]).length - (j + 1) < (es ds[i]).length - j
        omega
      obtain ⟨F6, k6, ry⟩ := yl1 y H6 hy1
      have nD6 : F6 D = none := free_of k6 nD5 eD5
      refine hT1 _ F6 (List.getElem_mem hjt) ((k4.f.trans s5).trans k6.f) y H6 k6.i ry _ fun σ3 hσ3 => ?_
      obtain ⟨w3, he⟩ := hσ3
      refine ⟨w3, yes_then ?_⟩
      refine he H6 k6.i _ fun z F7 H7 k7 rz => ?_
      have eD7 : H7 D = some (.lst acc5) := k7.h _ _ (k6.h _ _ eD5)
      have nD7 : F7 D = none := free_of k7 nD6 (k6.h _ _ eD5)
      have la := ra5.len
      rw [List.length_append, List.length_map, List.length_take] at la
      refine ⟨acc5, eD7, by omega, F7, acc5 ++ [z], grow_own ((k5.trans k6).trans k7) hD nD7, s5.trans (k6.trans k7).f, nD7, upd_same, ?_⟩
      rw [List.take_add_one, hc, List.map_append, ← List.append_assoc]
      exact (ra5.up (k6.trans k7).f).app (.cons rz .nil)
    · have ej : j = (es ds[i]).length := by omega
      refine .inl ⟨(wk5 j H5 k5.i).2 ej, F5, acc5, k5, nD5, eD5, ?_⟩
      rw [eT]
      rw [ej, List.take_length] at ra5
      exact ra5
  · have ei : i = ds.length := by omega
    refine .inl ⟨(wk2 i H2 k2.i).2 ei, ?_⟩
    rw [ei, List.take_length] at ra
    exact q _ _ H2 (k1.trans (grow_tell k2 hD nD eD)) (.lst (.inl (.inl upd_same)) (ra.up (same_upd nD)))
end

section
variable {K : PySem.W.Frag} {σ : L2.St} {F : Hp} {te : TE} {g : TG} {tw : TS}
theorem tk_four {i j k l : Nat} {a b c d : PyData} : Tk K (gTup K 4 (gCons (gName i) (gCons (gName j) (gCons (gName k) (gCons (gName l) gNil))))) (.tuple [a, b, c, d]) σ F
    (fun σ2 => ∃ v w x y, σ2 = (((σ.set i (some v)).set j (some w)).set k (some x)).set l (some y) ∧ Dq K F v a ∧ Dq K F w b ∧ Dq K F x c ∧ Dq K F y d) := fun v H s r Q q => by
  cases r with
  | tup a b =>
    cases b with
    | cons b1 c1 =>
      cases c1 with
      | cons b2 c2 =>
        cases c2 with
        | cons b3 c3 =>
          cases c3 with
          | cons b4 c4 =>
            cases c4
            exact ⟨_, _, rfl, same_seqT s a, rfl, _, _, rfl, _, _, rfl, _, _, rfl, _, _, rfl, rfl, q _ ⟨_, _, _, _, rfl, b1, b2, b3, b4⟩⟩
theorem r_asg {d1 d : PyData} {P : Hp → L2.St → Prop} (h : EvD K te σ F d1) (hg : ∀ F', Same F F' → Tk K g d1 σ F' (P F')) (k : ∀ σ2 F', Same F F' → P F' σ2 → Ret K tw σ2 F' d) : Ret K (tSeq (tAsg te g) tw) σ F d := fun H s D q => h H s _ fun v F1 H1 g1 r1 =>
  hg F1 g1.f v H1 g1.i r1 _ fun σ2 p => k σ2 F1 g1.f p H1 g1.i D fun w F2 H2 g2 r2 => q w F2 H2 (g1.trans g2) r2
end
end Sx
set_option Elab.async false
set_option linter.all false
set_option maxRecDepth 100000
set_option maxHeartbeats 400000
/-! W6: own lists of own lists, walks over them. -/
namespace Sx
open PySem PySem.Spec PyProof.Rows L2
open C8 (Cal pe_c pe_gc)
section
variable {K : PySem.W.Frag} {σ : L2.St} {F H : Hp} {te ta : TE} {d : PyData} {D : Ends} {g : TG} {tb : TS}
/-- a, b = e -/
theorem s_asg {P : Hp → L2.St → Prop} (h : EvD K te σ F d) (s : Same F H) (hg : ∀ F', Same F F' → Tk K g d σ F' (P F')) (k : ∀ σ2 F' H', Grow F H F' H' → P F' σ2 → D.nx σ2 H') : tAsg te g D σ H :=
  h H s _ fun v F1 H1 g1 r1 => hg F1 g1.f v H1 g1.i r1 _ fun σ2 p => k σ2 F1 H1 g1 p
/-- [[0] for _ in one thing]: both lists are one's own -/
theorem lc_own {wi : TI} {vs : List Nat} {j : Int} {Q : VK} (hw : EvW K wi σ F [d]) (s : Same F H) (hT : ∀ F', Same F F' → Tk K g d (wipe σ vs) F' fun σ2 => wipe σ2 vs = wipe σ vs)
    (k : ∀ a b F' H', Grow F H F' H' → a ≠ b → F' a = none → F' b = none → H a = none → H b = none → H' a = some (.lst [.ref b]) → H' b = some (.lst [.int j]) → Q (.ref a) H') :
    tLc wi g tYes (tLst (tCons (tC (.int j)) tNil)) vs σ H Q := hw H s _ fun J F1 H1 g1 wk => by
  intro a ha
  refine ⟨fun i m H2 => (i = 0 ∧ m = 1 ∧ H2 = upd H1 a (.lst [])) ∨ (i = 1 ∧ m = 0 ∧ ∃ b F2, Grow F1 H1 F2 H2 ∧ a ≠ b ∧ F2 a = none ∧ F2 b = none ∧ H1 b = none ∧ H2 a = some (.lst [.ref b]) ∧ H2 b = some (.lst [.int j])), ⟨1, .inl ⟨rfl, rfl, rfl⟩⟩, fun i m H2 hW => ?_⟩
  rcases hW with ⟨rfl, rfl, rfl⟩ | ⟨rfl, rfl, b, F2, g2, n1, n2, n3, n4, e1, e2⟩
  · have s1 : Same F1 (upd H1 a (.lst [])) := g1.i.trans (same_upd ha)
    obtain ⟨go, yl⟩ := (wk 0 _ s1).1 d rfl
    refine .inr ⟨go, fun H3 => ∃ b F2, Grow F1 H1 F2 H3 ∧ a ≠ b ∧ F2 a = none ∧ F2 b = none ∧ H1 b = none ∧ H3 a = some (.lst [.ref b]) ∧ H3 b = some (.lst [.int j]), fun H3 h3 => ⟨0, by omega, .inr ⟨rfl, rfl, h3⟩⟩, fun x H3 hy => ?_⟩
    obtain ⟨F3, g3, rx⟩ := yl x H3 hy
    have gg : Grow F1 H1 F3 H3 := (Grow.own g1.i ha).trans g3
    refine hT F3 (g1.f.trans gg.f) x H3 g3.i rx _ fun σ2 w2 => ⟨w2, yes_then ?_⟩
    refine ⟨(by show 1 ≤ sizeLine; decide), fun b hb => ?_⟩
    have ea : H3 a = some (.lst []) := g3.h _ _ upd_same
    have nab : a ≠ b := fun z => by
      rw [z, hb] at ea
      cases ea
    have na : F3 a = none := free_of g3 (g1.i.free ha) upd_same
    have nb : F3 b = none := g3.i.free hb
    have hb1 : H1 b = none := gg.h.free hb
    refine ⟨[], upd_at nab ea, (by show 0 < sizeLine; decide), b, F3, grow_own (grow_own gg hb1 nb) ha na, nab, na, nb, hb1, upd_same, ?_⟩
    rw [upd_ne nab.symm]
    exact upd_same
  · exact .inl ⟨(wk 1 H2 g2.same |> fun _ => (wk.up g2.f 1 H2 g2.i).2 rfl), k a b F2 H2 (g1.trans g2) n1 n2 n3 (g1.h.free ha) (g1.h.free n4) e1 e2⟩
theorem s_lcOwn {wi : TI} {vs : List Nat} {j : Int} {i : Nat} (hw : EvW K wi σ F [d]) (s : Same F H) (hT : ∀ F', Same F F' → Tk K g d (wipe σ vs) F' fun σ2 => wipe σ2 vs = wipe σ vs)
    (k : ∀ a b F' H', Grow F H F' H' → a ≠ b → F' a = none → F' b = none → H a = none → H b = none → H' a = some (.lst [.ref b]) → H' b = some (.lst [.int j]) → D.nx (σ.set i (some (.ref a))) H') :
    tAsg (tLc wi g tYes (tLst (tCons (tC (.int j)) tNil)) vs) (gName i) D σ H := lc_own hw s hT k
theorem s_ifV {tt : TT} {ta tb : TE} {b : Bool} {i : Nat} (h : EvB tt σ F b) (s : Same F H) (k : ∀ F' H', Grow F H F' H' → if b = true then ta σ H' (fun v H2 => D.nx (σ.set i (some v)) H2) else tb σ H' (fun v H2 => D.nx (σ.set i (some v)) H2)) : tAsg (tIf tt ta tb) (gName i) D σ H :=
  h H s _ k
/-- for (i, x) in enumerate(l), l one's own -/
theorem s_forE {a : Addr} {xs : List V} {i0 : Nat} (h : σ[i0]? = some (some (.ref a))) (I : Nat → L2.St → Hp → Prop) (hI0 : I 0 σ H) (hk : ∀ i σ' H', I i σ' H' → H' a = some (.lst xs))
    (hs : ∀ i x σ' H', xs[i]? = some x → I i σ' H' → ∀ T, H' T = none → g (.ref T) σ' (upd H' T (.tup [.int (i : Int), x])) fun σ2 H3 => tb { D with nx := fun σ3 H4 => I (i + 1) σ3 H4, ct := fun σ3 H4 => I (i + 1) σ3 H4, bk := D.nx } σ2 H3)
    (he : ∀ σ' H', I xs.length σ' H' → D.nx σ' H') : tFor (iEnum K (tCons (tVar i0) tNil)) g tb D σ H := by
  refine ⟨.ref a, h, a, xs, rfl, .inl (.inl (hk _ _ _ hI0)), ?_⟩
  refine ⟨fun i m σ' H' => m = xs.length - i ∧ i ≤ xs.length ∧ I i σ' H', ⟨xs.length, by simp, Nat.zero_le _, hI0⟩, fun i m σ' H' hW => ?_⟩
  obtain ⟨rfl, hi, hIi⟩ := hW
  have hq : SqL K H' a xs := .inl (.inl (hk _ _ _ hIi))
  by_cases hlt : i < xs.length
  · have hx : xs[i]? = some xs[i] := List.getElem?_eq_getElem hlt
    refine .inr ⟨⟨xs, _, hq, hx⟩, fun σ3 H4 => I (i + 1) σ3 H4, fun σ3 H4 h4 => ⟨_, ?_, rfl, hlt, h4⟩, fun v H2 hy => ?_⟩
    · show xs.length - (i + 1) < xs.length - i
      omega
    · obtain ⟨T, x, rfl, hT, rfl, hx2⟩ := hy
      have ex : xs[i] = x := Option.some.inj (hx.symm.trans (hx2 xs hq))
      subst ex
      exact hs i _ σ' H' hx hIi T hT
  · have ei : i = xs.length := by omega
    refine .inl ⟨⟨xs, hq, by omega⟩, ?_⟩
    rw [ei] at hIi
    exact he σ' H' hIi
end
end Sx
set_option Elab.async false
set_option linter.all false
set_option maxRecDepth 100000
set_option maxHeartbeats 400000
/-! W7: the law's own numbers (a dict with a list that gets shorter). -/
namespace Sx
open PySem PySem.Spec PyProof.Rows L2
open C8 (Cal pe_c pe_gc)
theorem k_wide_cells : ¬ ((.inr "wide" : Key) = .inr "cells") := by decide +kernel
theorem k_wide_rest : ¬ ((.inr "wide" : Key) = .inr "rest") := by decide +kernel
theorem k_wide_turn : ¬ ((.inr "wide" : Key) = .inr "turn") := by decide +kernel
theorem k_cells_rest : ¬ ((.inr "cells" : Key) = .inr "rest") := by decide +kernel
theorem k_cells_turn : ¬ ((.inr "cells" : Key) = .inr "turn") := by decide +kernel
theorem k_rest_turn : ¬ ((.inr "rest" : Key) = .inr "turn") := by decide +kernel
theorem k_turn_rest : ¬ ((.inr "turn" : Key) = .inr "rest") := by decide +kernel
def drawK (l c : Addr) (rest turn : Int) : List (Key × V) := [(.inr "wide", .ref l), (.inr "cells", .ref c), (.inr "rest", .int rest), (.inr "turn", .int turn)]
structure Draw (H : Hp) (a l c : Addr) (ws cs : List Int) (rest turn : Int) : Prop where
  d : H a = some (.dK (drawK l c rest turn))
  w : H l = some (.lst (ws.map .int))
  cl : H c = some (.lst (cs.map .int))
  al : a ≠ l
  ac : a ≠ c
  lc : l ≠ c
def DrawAt (H : Hp) (a l c : Addr) (n : Nat) : Prop := ∃ ws cs rest turn, Draw H a l c ws cs rest turn ∧ 0 ≤ turn ∧ turn ≤ (n : Int)
/-- nothing else has changed -/
def Keeps (a l : Addr) (H H' : Hp) : Prop := ∀ b o, b ≠ a → b ≠ l → H b = some o → H' b = some o
theorem Keeps.refl {a l : Addr} (H : Hp) : Keeps a l H H := fun _ _ _ _ h => h
theorem Keeps.trans {a l : Addr} {H1 H2 H3 : Hp} (x : Keeps a l H1 H2) (y : Keeps a l H2 H3) : Keeps a l H1 H3 := fun b o h1 h2 e => y b o h1 h2 (x b o h1 h2 e)
theorem Keeps.of {a l : Addr} {H1 H2 : Hp} (s : Same H1 H2) : Keeps a l H1 H2 := fun b o _ _ e => s b o e
theorem Keeps.put {a l : Addr} {H1 H2 : Hp} {o : HO} (x : Keeps a l H1 H2) : Keeps a l H1 (upd H2 a o) := fun b u h1 h2 e => by
  rw [upd_ne h1]
  exact x b u h1 h2 e
theorem Keeps.putl {a l : Addr} {H1 H2 : Hp} {o : HO} (x : Keeps a l H1 H2) : Keeps a l H1 (upd H2 l o) := fun b u h1 h2 e => by
  rw [upd_ne h2]
  exact x b u h1 h2 e
theorem Keeps.same {a l : Addr} {F H H' : Hp} (x : Keeps a l H H') (s : Same F H) (ha : F a = none) (hl : F l = none) : Same F H' := fun b o e => x b o (ne_of_none e ha) (ne_of_none e hl) (s b o e)
section
variable {H H' : Hp} {a l c : Addr} {ws cs : List Int} {rest turn : Int}
theorem Draw.same (D : Draw H a l c ws cs rest turn) (s : Same H H') : Draw H' a l c ws cs rest turn := ⟨s _ _ D.d, s _ _ D.w, s _ _ D.cl, D.al, D.ac, D.lc⟩
theorem Draw.put (D : Draw H a l c ws cs rest turn) {r t : Int} : Draw (upd H a (.dK (drawK l c r t))) a l c ws cs r t := ⟨upd_same, upd_at D.al.symm D.w, upd_at D.ac.symm D.cl, D.al, D.ac, D.lc⟩
theorem Draw.putl (D : Draw H a l c ws cs rest turn) {us : List Int} : Draw (upd H l (.lst (us.map .int))) a l c us cs rest turn := ⟨upd_at D.al D.d, upd_same, upd_at D.lc.symm D.cl, D.al, D.ac, D.lc⟩
theorem put_rest {r : Int} : putK (drawK l c rest turn) (.inr "rest") (.int r) = drawK l c r turn := by
  unfold drawK putK
  rw [if_pos (List.any_eq_true.mpr ⟨(.inr "rest", .int rest), by simp, decide_eq_true rfl⟩)]
  rw [List.map_cons, List.map_cons, List.map_cons, List.map_cons, List.map_nil, if_neg k_wide_rest, if_neg k_cells_rest, if_pos rfl, if_neg k_turn_rest]
theorem put_turn {t : Int} : putK (drawK l c rest turn) (.inr "turn") (.int t) = drawK l c rest t := by
  unfold drawK putK
  rw [if_pos (List.any_eq_true.mpr ⟨(.inr "turn", .int turn), by simp, decide_eq_true rfl⟩)]
  rw [List.map_cons, List.map_cons, List.map_cons, List.map_cons, List.map_nil, if_neg k_wide_turn, if_neg k_cells_turn, if_neg k_rest_turn, if_pos rfl]
theorem get_wide : valV (drawK l c rest turn) (.inr "wide") = some (.ref l) := valV_pos rfl
theorem get_cells : valV (drawK l c rest turn) (.inr "cells") = some (.ref c) := (valV_neg k_wide_cells).trans (valV_pos rfl)
theorem get_rest : valV (drawK l c rest turn) (.inr "rest") = some (.int rest) := (valV_neg k_wide_rest).trans ((valV_neg k_cells_rest).trans (valV_pos rfl))
theorem get_turn : valV (drawK l c rest turn) (.inr "turn") = some (.int turn) := (valV_neg k_wide_turn).trans ((valV_neg k_cells_turn).trans ((valV_neg k_rest_turn).trans (valV_pos rfl)))
variable {σ : L2.St} {td : TE}
theorem now_wide (D : Draw H a l c ws cs rest turn) (h : Now td σ H (.ref a)) : Now (tDGet td (tC (.str "wide"))) σ H (.ref l) := fun Q q => h _ ⟨a, .ref l, rfl, get_wide ▸ DGet.k (k := .inr "wide") D.d, q⟩
theorem now_cells (D : Draw H a l c ws cs rest turn) (h : Now td σ H (.ref a)) : Now (tDGet td (tC (.str "cells"))) σ H (.ref c) := fun Q q => h _ ⟨a, .ref c, rfl, get_cells ▸ DGet.k (k := .inr "cells") D.d, q⟩
theorem now_rest (D : Draw H a l c ws cs rest turn) (h : Now td σ H (.ref a)) : Now (tDGet td (tC (.str "rest"))) σ H (.int rest) := fun Q q => h _ ⟨a, .int rest, rfl, get_rest ▸ DGet.k (k := .inr "rest") D.d, q⟩
theorem now_turn (D : Draw H a l c ws cs rest turn) (h : Now td σ H (.ref a)) : Now (tDGet td (tC (.str "turn"))) σ H (.int turn) := fun Q q => h _ ⟨a, .int turn, rfl, get_turn ▸ DGet.k (k := .inr "turn") D.d, q⟩
end
theorem shaped_ints (ns : List Int) : SeqAt.shaped (.list (ns.map .int)) = true := by
  have h1 : ∀ ns : List Int, PyData.canLayAll0 (ns.map .int) = true := fun ns => by
    induction ns with
    | nil => rfl
    | cons a r ih =>
      show (PyData.canLay0 (.int a) && PyData.canLayAll0 (r.map .int)) = true
      rw [ih]
      rfl
  have h2 : ∀ ns : List Int, PyData.depthAll (ns.map .int) = 0 := fun ns => by
    induction ns with
    | nil => rfl
    | cons a r ih =>
      show max (PyData.depth (.int a)) (PyData.depthAll (r.map .int)) = 0
      rw [ih]
      rfl
  show (PyData.canLayAll0 (ns.map .int) && decide (PyData.depthAll (ns.map .int) + 1 ≤ 64)) = true
  rw [h1, h2]
  rfl
theorem no_ints (ns : List Int) : PyData.hasDict (.list (ns.map .int)) = false := by
  show PyData.hasDictAll (ns.map .int) = false
  induction ns with
  | nil => rfl
  | cons a r ih =>
    show (PyData.hasDict (.int a) || PyData.hasDictAll (r.map .int)) = false
    rw [ih]
    rfl
theorem no_strs (ns : List Str) : PyData.hasDict (.list (ns.map .str)) = false := by
  show PyData.hasDictAll (ns.map .str) = false
  induction ns with
  | nil => rfl
  | cons a r ih =>
    show (PyData.hasDict (.str a) || PyData.hasDictAll (r.map .str)) = false
    rw [ih]
    rfl
theorem eqv_nil (ns : List Int) : PyData.eqv (.list (ns.map .int)) (.list []) = ns.isEmpty := by
  cases ns with
  | nil => rfl
  | cons a r => rfl
end Sx
set_option Elab.async false
set_option linter.all false
set_option maxRecDepth 100000
set_option maxHeartbeats 1000000
/-! W8: try: .. except x as n: suite, where the error is kept beyond the suite. -/
namespace Sx
open PySem PySem.Spec PyProof.Rows L2
open C8 (Cal pe_c pe_gc)
/-- a caught error of the class cls, kept at a -/
def ExT (cls : Value) (d : Option Addr) (a : Addr) : HO := .ext fun h => ∃ (oe : Obj) (vs : Array Value), h.get? a = some oe ∧ Zc cls d oe ∧ oe.data = .fields vs
section
variable {X : Cx} {pins : List (Addr × Obj)} {σ : L2.St} {H : Hp} {s : Shared}
/-- a pinned error, new since the def began, gets tracked -/
theorem inv_track {a : Addr} {oe : Obj} {vs : Array Value} {cls : Value} {d : Option Addr} (I : Inv X ((a, oe) :: pins) σ H s) (z : Zc cls d oe) (hd : oe.data = .fields vs) (h0 : X.s_0.heap.get? a = none) (hp : ∀ p ∈ X.pn ++ pins, p.1 ≠ a) : Inv X pins σ (upd H a (ExT cls d a)) s := by
  obtain ⟨e1, e2, e3, e4, e5⟩ := I.pin (a, oe) (List.mem_append_right _ List.mem_cons_self)
  have ne : ∀ {b : Addr} {u : HO}, H b = some u → b ≠ a := fun h => ne_of_none h e2
  refine ⟨I.ok, I.os, I.bare, ⟨I.base.keep, I.base.slot, fun b o q n x => ?_, I.base.there, fun b xs q => ?_, fun b o u q => ?_, fun b ps q => ?_⟩, I.loc, I.cell, ?_, fun y c q => ?_, fun p hm => ?_, ?_, I.len⟩
  · have hb : b ≠ a := fun w => by rw [w, h0] at q; cases q
    rw [upd_ne hb]
    exact I.base.free b o q n x
  · have w := I.base.tups b xs q
    rw [upd_ne (ne w)]
    exact w
  · have w := I.base.frzs b o u q
    rw [upd_ne (ne w)]
    exact w
  · obtain ⟨more, w⟩ := I.base.tbls b ps q
    exact ⟨more, by rw [upd_ne (ne w)]; exact w⟩
  · rw [upd_ne (Ne.symm e3)]
    exact I.free
  · have hb : c ≠ a := fun w => by
      obtain ⟨v, k⟩ := I.cell y c q
      obtain ⟨o, k1, k2⟩ := k
      rw [w, e1] at k1
      cases k1
      first
        | exact e5 v k2
        | exact e5 v k2.2
        | exact e5 v k2.1
    rw [upd_ne hb]
    exact I.freeC y c q
  · have hm2 : p ∈ X.pn ++ (a, oe) :: pins := by
      rcases List.mem_append.mp hm with w | w
      · exact List.mem_append_left _ w
      · exact List.mem_append_right _ (List.mem_cons_of_mem _ w)
    obtain ⟨k1, k2, k3⟩ := I.pin p hm2
    refine ⟨k1, ?_, k3⟩
    rw [upd_ne (hp p hm)]
    exact k2
  · exact I.hok.laidN (fun _ _ q => q) e2 ⟨⟨oe, vs, e1, z, hd⟩, ⟨oe, e1⟩, fun _ _ ⟨o, v, q, r⟩ k => ⟨o, v, k o q, r⟩⟩
/-- out of a suite: the error stays pinned -/
theorem inv_held {a : Addr} {oe : Obj} (I : Inv (X.suite a ((a, oe) :: (X.pn ++ pins))) [] σ H s) (ok : X.Ok) : Inv X ((a, oe) :: pins) σ H s :=
  ⟨ok, I.os, I.bare, I.base, I.loc, I.cell, I.free, I.freeC, fun p hp => I.pin p (List.mem_append_left _ (by
    rcases List.mem_append.mp hp with w | w
    · exact List.mem_cons_of_mem _ (List.mem_append_left _ w)
    · rcases List.mem_cons.mp w with w | w
      · rw [w]; exact List.mem_cons_self
      · exact List.mem_cons_of_mem _ (List.mem_append_right _ w))), I.hok, I.len⟩
end
def wKeep (K : PySem.W.Frag) (c : Value) (i : Nat) (ts : Addr → Value → Option Addr → TS) (D : Ends) : WX := fun cls d σ H => PySem.W.exmOne K cls c = some true ∧
  ∀ a, H a = none → ts a cls d { nx := fun σ' H' => D.nx (σ'.set i none) (upd H' a (ExT cls d a)), rt := fun _ _ => False, bk := fun _ _ => False, ct := fun _ _ => False } (σ.set i (some (.ref a))) H

section
variable {X : Cx} {x n : Str} {c : Value} {i : Nat} {body suite : List Stmt} {b₀ : Stmt} {np pos pos' : Pos} {tb : WX → TS} {ts : Addr → Value → Option Addr → TS}
theorem ps_try_keep (hs : X.stack = X.env :: X.outer) (hf : X.env.frame = some X.env.locals) (hN : X.N.Nodup) (hi : X.N[i]? = some n) (hln : X.env.kindOf n = some .local) (hc : Names X x c) (hx : X.ex = [])
    (hb : ∀ (W : WX) (pn : List (Addr × Obj)) (xe : Value → Shared → Prop), Takes (X.tr pn xe) W → PassesOwn (model X.prog X.w) X.A X.env xe → PSs (X.tr pn xe) body (tb W))
    (hsu : ∀ (a : Addr) (oe : Obj) (cls : Value) (d : Option Addr) (pn : List (Addr × Obj)), Zc cls d oe → (∃ vs, oe.data = .fields vs) → PSs (X.suite a ((a, oe) :: pn)) (b₀ :: suite) (ts a cls d)) :
    PS X (.Try body [.ExceptHandler (some (.Name x np)) (some n) (b₀ :: suite) pos'] [] [] pos) (fun D σ H => tb (wKeep X.K c i ts D) D σ H) := ⟨fun pins s σ H D I h => by
  have okX := I.ok
  have frames : X.A.frames = some (X.env :: X.outer) := by
    rw [okX.frames, hs]
  refine wpAny_Try_except (wpAny_mono ((hb (wKeep X.K c i ts D) (X.pn ++ pins)
      (fun e t1 => wpAny (model X.prog X.w) X.A (noteFrame e X.env) (fun _ t2 => wpAny (model X.prog X.w) X.A (setFlight e none) (fun _ t3 => wpAny (model X.prog X.w) X.A (handleBy e X.env [.ExceptHandler (some (.Name x np)) (some n) (b₀ :: suite) pos']) (SP X pins D) X.xe t3) X.xe t2) X.xe t1)
      (fun u t caught => ?_) PassesOwn.looking).run [] s σ H D (I.toTry _) h) (fun fl t done => ?_) (fun _ _ z => z))
  · obtain ⟨a, Bh, tI, ps, σa, Ha, cls, dd, rfl, Ja, below, rise, aloft, untr, sameOs, quiet, match1, todo⟩ := caught
    have Jx : Inv X pins σa Ha tI := Ja.ofTry okX
    have aloft' : Sky Bh (X.env :: X.outer) a (Zc cls dd) X.env.locals t.heap := by
      rw [← hs]
      exact aloft
    show wpAny _ X.A (noteFrame (.ref a) X.env) _ _ _
    refine Sky.land Zc.steady frames hf aloft' fun g3 land3 rise3 => ?_
    have J3 := Jx.landed (s' := { t with heap := g3 }) below land3.1 (rise.trans rise3) sameOs quiet
    obtain ⟨o3, v3, at3, z3, d3⟩ := land3.there
    have apart : a ∉ frs (X.env :: X.outer) := fun hm => by
      obtain ⟨_, o', e', hnf⟩ := land3.2.2.1.mem hm
      rw [at3] at e'
      cases e'
      exact hnf _ d3
    have noL : a ≠ X.env.locals := fun w => apart (List.mem_filterMap.mpr ⟨X.env, List.mem_cons_self, by rw [hf, w]⟩)
    have noF : a ∉ X.fs := fun hm => by
      obtain ⟨e, he, q⟩ := List.mem_filterMap.mp hm
      exact apart (List.mem_filterMap.mpr ⟨e, List.mem_cons_of_mem _ he, q⟩)
    have fresh : ∀ o, tI.heap.get? a = some o → False := fun o e => by
      have w := below a o e (by rw [hs]; exact apart)
      rw [land3.2.1] at w
      cases w
    have new0 : X.s_0.heap.get? a = none := by
      cases w : X.s_0.heap.get? a with
      | none => rfl
      | some o =>
        obtain ⟨o', e'⟩ := Jx.base.there a o w (by rw [hx]; exact List.not_mem_nil)
        exact (fresh o' e').elim
    have pinNe : ∀ p ∈ X.pn ++ pins, p.1 ≠ a := fun p hp w => fresh p.2 (w ▸ (Jx.pin p hp).1)
    have S3 := J3.suite at3 d3 untr noL noF
    refine wpAny_handleBy_cons (codeAny_handlers_test ?_) (fun q => nomatch q)
    have kind : PySem.W.Looks (model X.prog X.w) g3 (typeOf (.ref a)) cls := fun A Q E t' k q => wpAny_typeOf_ref (k _ _ at3) (by rw [z3.1]; exact q)
    have fits := PySem.W.exm_one (M := model X.prog X.w) J3.kIn kind match1
    have named : ∀ {Q : Value → Shared → Prop} {E : Value → Shared → Prop}, Q c { t with heap := g3 } → wpAny (model X.prog X.w) (X.A.mark (some (.ref a))) (eval (.Name x np) X.env) Q E { t with heap := g3 } := fun {Q E} q => by
      obtain ⟨c1, c2, c3 | ⟨c3, c4, c5⟩⟩ := hc
      · exact ld_glob S3 c1 c3 q c2
      · exact ld_blt S3 c1 c3 c4 q c5 c2
    refine named (fits.here (codeAny_handlers_suite_as (HandSPX.lands_againZ land3 fun g4 land4 rise4 => ?_)))
    have J4 := Jx.landed (s' := { t with heap := g4 }) below land4.1 ((rise.trans rise3).trans rise4) sameOs quiet
    obtain ⟨o4, v4, at4, z4, d4⟩ := land4.there
    have S4 := J4.suite at4 d4 untr noL noF
    refine store_ok (X := X.suite a ((a, o4) :: (X.pn ++ pins))) (v := .ref a) S4 hN hi (.inl hln) rfl (fun t5 S5 => ?_) (.inr hln)
    refine wpAny_mono ((hsu a o4 cls dd (X.pn ++ pins) z4 ⟨_, d4⟩).run [] t5 _ Ha _ S5 (todo a untr)) (fun f t6 ended => ?_) (fun _ _ w => w.elim)
    cases f with
    | next =>
      obtain ⟨σ6, H6, S6, q6⟩ := ended
      exact gone_ok (inv_held S6 okX) hN hi hln fun t7 J7 => ⟨_, _, inv_track J7 z4 d4 new0 pinNe, q6⟩
    | brk =>
      obtain ⟨_, _, _, w⟩ := ended
      exact w.elim
    | cont =>
      obtain ⟨_, _, _, w⟩ := ended
      exact w.elim
    | ret u =>
      obtain ⟨_, _, _, _, _, w⟩ := ended
      exact w.elim
  · cases fl with
    | next =>
      obtain ⟨σ1, H1, J1, q1⟩ := done
      exact wpAny_execs_nil ⟨σ1, H1, J1.ofTry okX, q1⟩
    | brk =>
      obtain ⟨σ1, H1, J1, q1⟩ := done
      exact ⟨σ1, H1, J1.ofTry okX, q1⟩
    | cont =>
      obtain ⟨σ1, H1, J1, q1⟩ := done
      exact ⟨σ1, H1, J1.ofTry okX, q1⟩
    | ret u =>
      obtain ⟨v1, σ1, H1, J1, r1, q1⟩ := done
      exact ⟨v1, σ1, H1, J1.ofTry okX, r1, q1⟩⟩
end

/-! ### f(k = v, ..), by keywords alone -/
section
variable {X : Cx} {CX : CXT} {k : Nat} {f : Addr} {fd : FuncData} {ps ks : List Str} {sp : Sp} {E : XK} {x : Str} {p pos : Pos} {kws : List Keyword} {tk : TA} {g : List Value → List Value → List Value} {gV : List V → List V → List V}
theorem pe_ckw (F : FnOk X.prog X.w X.K X.mg X.base CX k f fd ps sp) (hr : Room k X.A) (hg : Gl X x) (hm : X.mg x = some (.ref f)) (hk : PySem.W.keepIn X.K (.ref f) = true) (hb : KBinds X.K fd ps ks g gV) (hx : Passes CX X E) (hkw : PK X kws tk)
    (hall : (backToKw pos (keywordEach kws X.env)).all (·.1.isSome) = true := by rfl) (hks : (backToKw pos (keywordEach kws X.env)).filterMap (·.1) = ks := by rfl) (hdb : (x == ("__debug__" : Str)) = false := by decide)
    (hpl : ((backTo pos (starEach [] X.env)).any (·.1) || (backToKw pos (keywordEach kws X.env)).any (·.1.isNone)) = false := by rfl) : PE X (.Call (.Name x p) [] kws pos) (tCallK sp gV E tNil tk) :=
  ⟨fun pins s σ H Q I h => wpAny_Call_Name_kw (ld_glob I hg hm (PySem.W.callWith_KW0 (h₀ := X.base) I.ok.mod.kin hk hall (thn (hkw.run pos pins s σ H _ I h) fun ws s2 hq => by
    obtain ⟨zs, H2, I2, rz, q2⟩ := hq
    refine ⟨I2.kIn, ?_⟩
    rw [hks]
    exact run_fnk (us := []) (vs := []) F hr hb hx I2 .nil rz q2) hpl) hdb)⟩
end
end Sx
set_option Elab.async false
set_option linter.all false
set_option maxRecDepth 100000
set_option maxHeartbeats 1000000
set_option exponentiation.threshold 3000
/-! Y9: repr of lists and tuples of data. -/
namespace Sx
open PySem PySem.Spec PyProof.Rows L2
/-- what repr takes here: lists and tuples without dicts, not too deep, not too long -/
structure Showy (d : PyData) : Prop where
  ref : isTup d = true ∨ isLst d = true
  ok : d.showable = true
  no : d.hasDict = false
  dep : d.depth ≤ 40
  len : d.shown.length ≤ sizeLine
def rReprD (K : PySem.W.Frag) : List V → Hp → VK → Prop := fun xs H Q => ∃ v d, xs = [v] ∧ Dq K H v d ∧ Showy d ∧ Q (.str d.shown) H
theorem call_reprD {X : Cx} (hg : X.A.guards = some []) (hu : X.A.units + 64 < cLine) : CallR X (.builtin "repr") (rReprD X.K) := by
  intro pins s σ H xs us Q I r h
  obtain ⟨v, d, rfl, rv, hd, q⟩ := h
  obtain ⟨u, rfl, ru⟩ := vals1 r
  have hdep := hd.dep
  obtain ⟨as, rd⟩ := L2.Dp.reads I d v u (dq_dp _ _ rv hd.no) ru
  have key : ∀ a, u = .ref a → wpAny (model X.prog X.w) X.A (call (.builtin "repr") [u]) (EP X pins σ Q) X.xe s := fun a e => by
    subst e
    exact repr_of_reads' rd hd.ok (fun z => by rw [hd.no] at z; cases z) hg (by omega) (fun _ _ e => e) (fun h' u tk hk => ⟨.str d.shown, H, I.kept hk, ⟨_, rfl⟩, q⟩) hd.len
  cases rv with
  | lst a b => exact key _ ru
  | tup a b => exact key _ ru
  | non => rcases hd.ref with z | z <;> cases z
  | bl b => rcases hd.ref with z | z <;> cases z
  | int i => rcases hd.ref with z | z <;> cases z
  | str x => rcases hd.ref with z | z <;> cases z
  | emp e => rcases hd.ref with z | z <;> cases z
theorem rc_reprD {K : PySem.W.Frag} {d : PyData} (hd : Showy d) : RcD K (rReprD K) [d] (.str d.shown) := fun F xs H s r Q q => by
  cases r with
  | cons a b =>
    cases b
    exact ⟨_, d, rfl, a.up s, hd, q _ F H (.start s) (.str _)⟩
end Sx
set_option Elab.async false
set_option linter.all false
set_option maxRecDepth 100000
set_option maxHeartbeats 1000000
/-! W10: the law's call, told by its run at the caller (so that the caller's guards are known). -/
namespace Sx
open PySem PySem.Spec PyProof.Rows L2
section
variable {P : Program} {w : World} {K : PySem.W.Frag} {mg mb : Str → Option Value} {CX : CXT} {fa a : Addr} {s1 : Shared} {vs : List Value} {ns : List Int}
/-- how the law is left -/
abbrev Left (s1 : Shared) : Result → Shared → Prop := fun r t => r = .ok (.ret (.bool true)) ∧ OldK s1.heap t.heap ∧ t.os = s1.os ∧ AllBare t.gens
/-- H tracks nothing but the script -/
theorem run_core {H : Hp} (kIn : K.In s1.heap) (glo : s1.heap.Ns mainGlobals mg) (blt : s1.heap.Ns builtinsNs mb) (boot : ∀ x : Str, x ≠ "__name__" → mb x = bootBuiltins x) (lim : s1.heap.NoLimit) (gens : s1.gens = #[])
    (at_ : s1.heap.get? a = some { cls := .type "list", data := .seq vs.toArray }) (only : Only H) (seq : SqL K H a (ns.map V.int)) (hok : HOk P w H s1.heap) (one : ∀ b, H b ≠ none → b = a) (out : H a ≠ none → K.lookup a = none)
    (run : ∀ base : Heap, K.In base → base.Ns mainGlobals mg → Env0 P w K mg base callerA [] s1 H → codeAny (model P w) callerA (.call (.ref fa) ⟨[.ref a], []⟩) (CR CX [] P w H s1 (fun v _ => v = .bl true) (fun _ _ _ => False)) s1)
    (fin : ∀ e t, CX [] H s1 (fun _ _ _ => False) e t → False) : codeAny (model P w) callerA (.call (.ref fa) ⟨[.ref a], []⟩) (Left s1) s1 := by
  have up : ∀ {b : Addr} {o : Obj}, s1.heap.get? b = some o → H b = none → (hidT s1.heap H).get? b = some o := fun e n => hidT_get e n
  have not_a : ∀ {b : Addr}, H b ≠ none → b = a := fun h => one _ h
  have dict_free : ∀ {b : Addr} {o : Obj} {es : Array DictEntry} {ep : Nat}, s1.heap.get? b = some o → o.data = .dict es ep → H b = none := fun {b o es ep} e d => by
    apply Classical.byContradiction
    intro q
    have eb := not_a q
    rw [eb, at_] at e
    cases e
    exact nomatch d
  have nsB : ∀ {b : Addr} {m : Str → Option Value}, s1.heap.Ns b m → (hidT s1.heap H).Ns b m := fun {b m} h => by
    obtain ⟨o, es, ep, e, d, r⟩ := h
    exact ⟨o, es, ep, up e (dict_free e d), d, r⟩
  have kB : K.In (hidT s1.heap H) := fun b o e => up (kIn b o e) (by
    apply Classical.byContradiction
    intro q
    have eb := not_a q
    rw [eb] at e q
    rw [out q] at e
    cases e)
  obtain ⟨mc, l1, l2⟩ := lim
  have e0 : Env0 P w K mg (hidT s1.heap H) callerA [] s1 H := ⟨rfl, ⟨kB, nsB glo, ⟨mb, nsB blt, boot⟩, mc, nsB l1, l2⟩, fun b o e => of_hidT e, Nat.le_of_eq (hidT_size _ _), trivial, fun b hb => (List.not_mem_nil (show b ∈ ([] : List Addr) from hb)).elim, hok, .of_eq gens⟩
  refine codeAny_mono (run _ kB (nsB glo) e0) fun r t h => ?_
  cases r with
  | error e => exact (fin e t h).elim
  | ok fl =>
    cases fl with
    | ret u =>
      obtain ⟨v, H2, os2, bare2, un, ok2, rel, isT⟩ := h
      have isT' : v = .bl true := isT
      subst isT'
      obtain rfl : u = Value.bool true := rel
      refine ⟨rfl, OldK.of_keep fun b o e => ?_, os2, bare2⟩
      rcases only b with z | ⟨ob, xs, z⟩
      · exact un.keep b o e z (fun q => (List.not_mem_nil (show b ∈ ([] : List Addr) from q)).elim) (by simp)
      · have z2 := un.frzs b ob _ z
        obtain ⟨k1, _⟩ := hok b _ z
        obtain ⟨k2, _⟩ := ok2 b _ z2
        rw [e] at k1
        cases k1
        exact k2
    | next => exact h.elim
    | brk => exact h.elim
    | cont => exact h.elim
theorem law_run (kIn : K.In s1.heap) (glo : s1.heap.Ns mainGlobals mg) (blt : s1.heap.Ns builtinsNs mb) (boot : ∀ x : Str, x ≠ "__name__" → mb x = bootBuiltins x) (lim : s1.heap.NoLimit) (gens : s1.gens = #[])
    (at_ : s1.heap.get? a = some { cls := .type "list", data := .seq vs.toArray }) (hi : IntsAre vs ns) (hl : ns.length ≤ sizeLine)
    (run : ∀ (base : Heap) (H : Hp), K.In base → base.Ns mainGlobals mg → Only H → SqL K H a (ns.map V.int) → Env0 P w K mg base callerA [] s1 H → codeAny (model P w) callerA (.call (.ref fa) ⟨[.ref a], []⟩) (CR CX [] P w H s1 (fun v _ => v = .bl true) (fun _ _ _ => False)) s1)
    (fin : ∀ H e t, CX [] H s1 (fun _ _ _ => False) e t → False) : codeAny (model P w) callerA (.call (.ref fa) ⟨[.ref a], []⟩) (Left s1) s1 := by
  have rv := vals_ints hi
  have lenV := hi.length
  cases hk : K.lookup a with
  | some o =>
    have e := kIn a o hk
    rw [at_] at e
    cases e
    have only : Only (fun _ => none) := fun _ => .inl rfl
    have seq : SqL K (fun _ => none) a (ns.map V.int) := .inr ⟨_, vs.toArray, _, hk, rfl, rfl, rfl, by rw [List.size_toArray, lenV]; exact hl, by simpa using rv⟩
    exact run_core kIn glo blt boot lim gens at_ only seq (fun b u z => by cases (show (none : Option HO) = some u from z)) (fun b z => absurd rfl z) (fun z => absurd rfl z) (fun base h1 h2 h3 => run base _ h1 h2 only seq h3) (fin _)
  | none =>
    generalize hH : (upd (fun _ => none) a (.frz { cls := .type "list", data := .seq vs.toArray } (.lst (ns.map V.int))) : Hp) = H
    have eA : H a = some (.frz { cls := .type "list", data := .seq vs.toArray } (.lst (ns.map V.int))) := by rw [← hH]; exact upd_same
    have eB : ∀ b, b ≠ a → H b = none := fun b hb => by rw [← hH, upd_ne hb]
    have only : Only H := fun b => by
      by_cases hb : b = a
      · rw [hb]
        exact .inr ⟨_, _, eA⟩
      · exact .inl (eB b hb)
    have seq : SqL K H a (ns.map V.int) := .inl (.inr ⟨_, eA⟩)
    have hok : HOk P w H s1.heap := fun b u z => by
      by_cases hb : b = a
      · subst hb
        rw [eA] at z
        cases z
        exact ⟨at_, by rw [List.length_map]; exact hl, vs, _, rv, at_⟩
      · rw [eB b hb] at z
        cases z
    exact run_core kIn glo blt boot lim gens at_ only seq hok (fun b z => Classical.byContradiction fun w => z (eB b w)) (fun _ => hk) (fun base h1 h2 h3 => run base _ h1 h2 only seq h3) (fin _)
end
/-- the goal that the head leaves, from the law's run at the caller -/
theorem walk_run {l : PySem.W.OpenLaw} {n : Nat} {q : Program} {loose : List Str} {XP : (Str → Option Value) → Heap → Prop} {YP : World → Heap → Prop} {d : DefRec} {CX : CXT} (hn : l.most = some n) (hn2 : n ≤ sizeLine) (hdf : d.params.defaults = [])
    (F : ∀ (w : World) (mg : Str → Option Value) (fa : Addr) (h : Heap), YP w h → h.Ns mainGlobals mg → mg d.name = some (.ref fa) → ∃ K : PySem.W.Frag, K.In h ∧ ∀ (t : Shared) (base : Heap) (H : Hp) (a : Addr) (ns : List Int), ns.length ≤ n → K.In base → base.Ns mainGlobals mg → Only H → SqL K H a (ns.map V.int) →
      Env0 l.prog w K mg base callerA [] t H → codeAny (model l.prog w) callerA (.call (.ref fa) ⟨[.ref a], []⟩) (CR CX [] l.prog w H t (fun v _ => v = .bl true) (fun _ _ _ => False)) t)
    (fin : ∀ (H : Hp) (t : Shared) (e : Value) (t' : Shared), CX [] H t (fun _ _ _ => False) e t' → False) : PySem.W.WalkO q loose XP YP l.row.toRowW d [] (fun f vs => PySem.call f vs) := by
  refine Att.attach_call hn hdf fun w s₀ s₁ mg mb fa o pm cd doc a vs ns G Y ho hd hcd hmg hobj hints hlen hg => ?_
  obtain ⟨K, kIn, run⟩ := F w mg fa _ Y G.T.g hmg
  exact law_run kIn G.T.g G.T.b G.T.builtins G.T.nolimit hg hobj hints (Nat.le_trans hlen hn2) (fun base H h1 h2 h3 h4 h5 => run s₁ base H a ns hlen h1 h2 h3 h4 h5) fun H e t => fin H s₁ e t
end Sx
set_option Elab.async false
set_option linter.all false
set_option maxRecDepth 100000
set_option maxHeartbeats 1000000
/-! W11: the same where the law makes lambdas: the table P0 of its code object c0 is tracked. -/
namespace Sx
open PySem PySem.Spec PyProof.Rows L2 LamX
section
variable {P : Program} {w : World} {K : PySem.W.Frag} {mg mb : Str → Option Value} {CX : CXT} {fa a c0 P0 : Addr} {s1 : Shared} {vs : List Value} {ns : List Int}
abbrev Empty0 : Obj := { cls := .none, data := .fields #[] }
abbrev Script (vs : List Value) : Obj := { cls := .type "list", data := .seq vs.toArray }
theorem run_coreT {H : Hp} (kIn : K.In s1.heap) (glo : s1.heap.Ns mainGlobals mg) (blt : s1.heap.Ns builtinsNs mb) (boot : ∀ x : Str, x ≠ "__name__" → mb x = bootBuiltins x) (lim : s1.heap.NoLimit) (gens : s1.gens = #[])
    (tab : s1.heap.get? P0 = some Empty0) (noK : K.lookup P0 = none) (code : PySem.W.CodeHd s1.heap c0 P0)
    (mod : ∃ (bm : Addr) (ob : Obj), mg "__builtins__" = some (.ref bm) ∧ bm ≠ builtinsNs ∧ s1.heap.get? bm = some ob ∧ ob.cls = .type "module" ∧ ob.dict = some builtinsNs ∧ ob.data = .plain)
    (at_ : s1.heap.get? a = some (Script vs)) (hP : H P0 = some (.tbl #[])) (only : ∀ b, H b = none ∨ b = P0 ∨ ∃ o xs, H b = some (.frz o (.lst xs))) (hok : HOk P w H s1.heap) (one : ∀ b, H b ≠ none → b = a ∨ b = P0) (out : H a ≠ none → K.lookup a = none)
    (run : ∀ base : Heap, K.In base → base.Ns mainGlobals mg → TabB base mg c0 P0 → Env0 P w K mg base callerA [] s1 H → codeAny (model P w) callerA (.call (.ref fa) ⟨[.ref a], []⟩) (CR CX [] P w H s1 (fun v _ => v = .bl true) (fun _ _ _ => False)) s1)
    (fin : ∀ e t, CX [] H s1 (fun _ _ _ => False) e t → False) : codeAny (model P w) callerA (.call (.ref fa) ⟨[.ref a], []⟩) (Left s1) s1 := by
  have up : ∀ {b : Addr} {o : Obj}, s1.heap.get? b = some o → H b = none → (hidT s1.heap H).get? b = some o := fun e n => hidT_get e n
  have free : ∀ {b : Addr} {o : Obj}, s1.heap.get? b = some o → (∀ us n, o.data ≠ .seq us n) → o.data ≠ .fields #[] → H b = none := fun {b o} e h1 h2 => by
    apply Classical.byContradiction
    intro q
    rcases one b q with eb | eb
    · rw [eb, at_] at e
      cases e
      exact h1 _ _ rfl
    · rw [eb, tab] at e
      cases e
      exact h2 rfl
  have dict_free : ∀ {b : Addr} {o : Obj} {es : Array DictEntry} {ep : Nat}, s1.heap.get? b = some o → o.data = .dict es ep → H b = none := fun {b o es ep} e d => free e (fun us n z => by rw [d] at z; cases z) fun z => by rw [d] at z; cases z
  have nsB : ∀ {b : Addr} {m : Str → Option Value}, s1.heap.Ns b m → (hidT s1.heap H).Ns b m := fun {b m} h => by
    obtain ⟨o, es, ep, e, d, r⟩ := h
    exact ⟨o, es, ep, up e (dict_free e d), d, r⟩
  have kB : K.In (hidT s1.heap H) := fun b o e => up (kIn b o e) (by
    apply Classical.byContradiction
    intro q
    rcases one b q with eb | eb
    · rw [eb] at e q
      rw [out q] at e
      cases e
    · rw [eb, noK] at e
      cases e)
  have tb : TabB (hidT s1.heap H) mg c0 P0 := by
    refine ⟨?_, ?_, fun z => ?_⟩
    · obtain ⟨o, us, file, tf, flags, tg, inF, text, tt, e1, r1, r2, r3, rest⟩ := code
      refine ⟨o, us, file, tf, flags, tg, inF, text, tt, up e1 (free e1 (fun us n z => ?_) fun z => ?_), r1, r2, r3, rest⟩
      · rw [r2] at z
        cases z
      · rw [r2] at z
        cases z
        simp at r3
    · obtain ⟨bm, ob, b1, b2, b3, b4, b5, b6⟩ := mod
      refine ⟨bm, ob, b1, b2, fun q => ?_, fun q => ?_, up b3 (free b3 (fun us n z => ?_) fun z => ?_), b4, b5, b6⟩
      · obtain ⟨o, es, ep, e, hd, _⟩ := glo
        rw [q, e] at b3
        cases b3
        rw [hd] at b6
        cases b6
      · rw [q, tab] at b3
        cases b3
        cases b6
      · rw [b6] at z
        cases z
      · rw [b6] at z
        cases z
    · obtain ⟨o, es, ep, e, hd, _⟩ := glo
      rw [z, tab] at e
      cases e
      cases hd
  obtain ⟨mc, l1, l2⟩ := lim
  have e0 : Env0 P w K mg (hidT s1.heap H) callerA [] s1 H := ⟨rfl, ⟨kB, nsB glo, ⟨mb, nsB blt, boot⟩, mc, nsB l1, l2⟩, fun b o e => of_hidT e, Nat.le_of_eq (hidT_size _ _), trivial, fun b hb => (List.not_mem_nil (show b ∈ ([] : List Addr) from hb)).elim, hok, .of_eq gens⟩
  refine codeAny_mono (run _ kB (nsB glo) tb e0) fun r t h => ?_
  cases r with
  | error e => exact (fin e t h).elim
  | ok fl =>
    cases fl with
    | ret u =>
      obtain ⟨v, H2, os2, bare2, un, ok2, rel, isT⟩ := h
      have isT' : v = .bl true := isT
      subst isT'
      obtain rfl : u = Value.bool true := rel
      have kept : ∀ b o, b ≠ P0 → s1.heap.get? b = some o → t.heap.get? b = some o := fun b o nb e => by
        rcases only b with z | z | ⟨ob, xs, z⟩
        · exact un.keep b o e z (fun q => (List.not_mem_nil (show b ∈ ([] : List Addr) from q)).elim) (by simp)
        · exact absurd z nb
        · have z2 := un.frzs b ob _ z
          obtain ⟨k1, _⟩ := hok b _ z
          obtain ⟨k2, _⟩ := ok2 b _ z2
          rw [e] at k1
          cases k1
          exact k2
      obtain ⟨more, zt⟩ := un.tbls P0 #[] hP
      have grown : t.heap.get? P0 = some { cls := .none, data := .fields (#[] ++ more) } := ok2 P0 _ zt
      rw [Array.empty_append] at grown
      refine ⟨rfl, ⟨fun b o e => ?_, fun b o e => ?_⟩, os2, bare2⟩
      · by_cases hb : b = P0
        · rw [hb] at e ⊢
          rw [tab] at e
          cases e
          exact .inr (.inl ⟨(code.tab tab).isCodeTable, rfl, #[], more, rfl, by rw [Array.empty_append]; exact grown⟩)
        · exact .inl (kept b o hb e)
      · by_cases hb : b = P0
        · rw [hb]
          exact ⟨_, grown⟩
        · exact ⟨o, kept b o hb e⟩
    | next => exact h.elim
    | brk => exact h.elim
    | cont => exact h.elim
theorem law_runT (kIn : K.In s1.heap) (glo : s1.heap.Ns mainGlobals mg) (blt : s1.heap.Ns builtinsNs mb) (boot : ∀ x : Str, x ≠ "__name__" → mb x = bootBuiltins x) (lim : s1.heap.NoLimit) (gens : s1.gens = #[])
    (tab : s1.heap.get? P0 = some Empty0) (noK : K.lookup P0 = none) (code : PySem.W.CodeHd s1.heap c0 P0)
    (mod : ∃ (bm : Addr) (ob : Obj), mg "__builtins__" = some (.ref bm) ∧ bm ≠ builtinsNs ∧ s1.heap.get? bm = some ob ∧ ob.cls = .type "module" ∧ ob.dict = some builtinsNs ∧ ob.data = .plain)
    (at_ : s1.heap.get? a = some (Script vs)) (hi : IntsAre vs ns) (hl : ns.length ≤ sizeLine)
    (run : ∀ (base : Heap) (H : Hp), K.In base → base.Ns mainGlobals mg → TabB base mg c0 P0 → H P0 = some (.tbl #[]) → SqL K H a (ns.map V.int) → Env0 P w K mg base callerA [] s1 H → codeAny (model P w) callerA (.call (.ref fa) ⟨[.ref a], []⟩) (CR CX [] P w H s1 (fun v _ => v = .bl true) (fun _ _ _ => False)) s1)
    (fin : ∀ H e t, CX [] H s1 (fun _ _ _ => False) e t → False) : codeAny (model P w) callerA (.call (.ref fa) ⟨[.ref a], []⟩) (Left s1) s1 := by
  have rv := vals_ints hi
  have lenV := hi.length
  have ne : a ≠ P0 := fun z => by
    rw [z, tab] at at_
    have := congrArg Obj.data (Option.some.inj at_)
    cases this
  have mk : ∀ H : Hp, H P0 = some (.tbl #[]) → (∀ b, b ≠ a → b ≠ P0 → H b = none) → ((H a = none ∧ K.lookup a ≠ none) ∨ (H a = some (.frz (Script vs) (.lst (ns.map V.int))) ∧ K.lookup a = none)) → SqL K H a (ns.map V.int) → codeAny (model P w) callerA (.call (.ref fa) ⟨[.ref a], []⟩) (Left s1) s1 := fun H hP hN hA seq => by
    refine run_coreT kIn glo blt boot lim gens tab noK code mod at_ hP (fun b => ?_) (fun b u z => ?_) (fun b z => ?_) (fun z => ?_) (fun base h1 h2 h3 h4 => run base H h1 h2 h3 hP seq h4) (fin H)
    · by_cases hb : b = P0
      · exact .inr (.inl hb)
      · by_cases ha : b = a
        · rw [ha]
          rcases hA with k | k
          · exact .inl k.1
          · exact .inr (.inr ⟨_, _, k.1⟩)
        · exact .inl (hN b ha hb)
    · by_cases hb : b = P0
      · subst hb
        rw [hP] at z
        cases z
        exact tab
      · by_cases ha : b = a
        · subst ha
          rcases hA with k | k
          · rw [k.1] at z
            cases z
          · rw [k.1] at z
            cases z
            exact ⟨at_, by rw [List.length_map]; exact hl, vs, _, rv, at_⟩
        · rw [hN b ha hb] at z
          cases z
    · by_cases hb : b = P0
      · exact .inr hb
      · by_cases ha : b = a
        · exact .inl ha
        · exact absurd (hN b ha hb) z
    · rcases hA with k | k
      · exact absurd k.1 z
      · exact k.2
  cases hk : K.lookup a with
  | some o =>
    have e := kIn a o hk
    rw [at_] at e
    cases e
    refine mk (upd (fun _ => none) P0 (.tbl #[])) upd_same (fun b _ hb => by rw [upd_ne hb]) (.inl ⟨by rw [upd_ne ne], by rw [hk]; simp⟩) (.inr ⟨_, vs.toArray, _, hk, rfl, rfl, rfl, by rw [List.size_toArray, lenV]; exact hl, by simpa using rv⟩)
  | none =>
    refine mk (upd (upd (fun _ => none) P0 (.tbl #[])) a (.frz (Script vs) (.lst (ns.map V.int)))) (by rw [upd_ne ne.symm]; exact upd_same) (fun b ha hb => by rw [upd_ne ha, upd_ne hb]) (.inr ⟨upd_same, hk⟩) (.inl (.inr ⟨_, upd_same⟩))
end
/-- the goal that the head leaves, from the law's run at the caller, its table known -/
theorem walk_runT {l : PySem.W.OpenLaw} {n : Nat} {q : Program} {loose : List Str} {XP : (Str → Option Value) → Heap → Prop} {YP : World → Heap → Prop} {d : DefRec} {CX : CXT} (hn : l.most = some n) (hn2 : n ≤ sizeLine) (hdf : d.params.defaults = [])
    (hrec : ((recsOf q).any fun e => e.name == d.name) = true)
    (F : ∀ (w : World) (mg : Str → Option Value) (fa : Addr) (h : Heap), YP w h → h.Ns mainGlobals mg → mg d.name = some (.ref fa) → ∃ K : PySem.W.Frag, K.In h ∧ ∀ (c t : Addr) (o : Obj) (fd : FuncData), h.get? fa = some o → o.data = .func fd → fd.code = .ref c → PySem.W.CodeHd h c t → h.get? t = some Empty0 →
      K.lookup t = none ∧ ∀ (s : Shared) (base : Heap) (H : Hp) (a : Addr) (ns : List Int), ns.length ≤ n → K.In base → base.Ns mainGlobals mg → TabB base mg c t → H t = some (.tbl #[]) → SqL K H a (ns.map V.int) → Env0 l.prog w K mg base callerA [] s H →
        codeAny (model l.prog w) callerA (.call (.ref fa) ⟨[.ref a], []⟩) (CR CX [] l.prog w H s (fun v _ => v = .bl true) (fun _ _ _ => False)) s)
    (fin : ∀ (H : Hp) (s : Shared) (e : Value) (s' : Shared), CX [] H s (fun _ _ _ => False) e s' → False) : PySem.W.WalkO q loose XP YP l.row.toRowW d [] (fun f vs => PySem.call f vs) := by
  refine Att.attach_call hn hdf fun w s₀ s₁ mg mb fa o pm cd doc a vs ns G Y ho hd hcd hmg hobj hints hlen hg => ?_
  obtain ⟨dL, mem, same⟩ := List.any_eq_true.mp hrec
  obtain ⟨a', o', fd', c', t', g1, g2, g3, g4, g5, g6⟩ := G.T.tab dL mem
  rw [beq_iff_eq.mp same, hmg] at g1
  cases g1
  obtain ⟨K, kIn, F2⟩ := F w mg fa _ Y G.T.g hmg
  have head := PySem.W.CodeHd.of g5 g6
  have tab : s₁.heap.get? t' = some Empty0 := g6.2
  obtain ⟨noK, run⟩ := F2 c' t' o' fd' g2 g3 g4 head tab
  exact law_runT kIn G.T.g G.T.b G.T.builtins G.T.nolimit hg tab noK head G.T.bmain hobj hints (Nat.le_trans hlen hn2) (fun base H h1 h2 h3 h4 h5 h6 => run s₁ base H a ns hlen h1 h2 h3 h4 h5 h6) fun H e t => fin H s₁ e t
end Sx
set_option Elab.async false
set_option linter.all false
set_option maxRecDepth 100000
set_option maxHeartbeats 1000000
/-! W12: tuple(zip(l1, l2)), two lists of one length. -/
namespace Sx
open PySem PySem.Spec PyProof.Rows L2
/-- pairs are laid, one behind the other -/
inductive LayZ : Hp → List V → List V → List Addr → Hp → Prop
  | nil {H : Hp} : LayZ H [] [] [] H
  | cons {H H' : Hp} {x y : V} {xs ys : List V} {T : Addr} {ts : List Addr} : H T = none → LayZ (upd H T (.tup [x, y])) xs ys ts H' → LayZ H (x :: xs) (y :: ys) (T :: ts) H'
theorem LayZ.len : ∀ {H H' : Hp} {xs ys : List V} {ts : List Addr}, LayZ H xs ys ts H' → ts.length = xs.length
  | _, _, _, _, _, .nil => rfl
  | _, _, _, _, _, .cons _ h => congrArg (· + 1) (LayZ.len h)
structure ZSt (h : Heap) (z TI TO i1 i2 l1 l2 S : Addr) (i : Nat) (xs ys : Array Value) : Prop where
  hTI : IsPair h TI (.ref i1) (.ref i2)
  h1 : h.IsListIter i1 l1 i
  h2 : h.IsListIter i2 l2 i
  hl1 : h.IsList l1 xs
  hl2 : h.IsList l2 ys
  hz : (IsZip h z TI TO .none ∧ ∃ a b, IsPair h TO a b) ∨ ∃ T f oT, IsZipHeld h z TI TO T f ∧ h.get? T = some oT ∧ T ≠ z ∧ T ≠ i1 ∧ T ≠ i2 ∧ T ≠ S
theorem ZSt.keep {h h' : Heap} {z TI TO i1 i2 l1 l2 S : Addr} {i : Nat} {xs ys : Array Value} (st : ZSt h z TI TO i1 i2 l1 l2 S i xs ys) (hS : S ∉ [z, TI, TO, i1, i2, l1, l2]) (hk : ∀ b o, b ≠ S → h.get? b = some o → h'.get? b = some o) : ZSt h' z TI TO i1 i2 l1 l2 S i xs ys := by
  simp only [List.mem_cons, List.not_mem_nil, or_false, not_or] at hS
  obtain ⟨dz, dTI, dTO, di1, di2, dl1, dl2⟩ := hS
  obtain ⟨hTI, h1, h2, hl1, hl2, hz⟩ := st
  refine ⟨hk _ _ (Ne.symm dTI) hTI, h1.at fun o e => hk _ o (Ne.symm di1) e, h2.at fun o e => hk _ o (Ne.symm di2) e, hl1.at fun o e => hk _ o (Ne.symm dl1) e, hl2.at fun o e => hk _ o (Ne.symm dl2) e, ?_⟩
  rcases hz with ⟨hz, a, b, hTO⟩ | ⟨T, f, oT, hz, hT, r1, r2, r3, r4⟩
  · exact .inl ⟨hk _ _ (Ne.symm dz) hz, a, b, hk _ _ (Ne.symm dTO) hTO⟩
  · exact .inr ⟨T, f, oT, hk _ _ (Ne.symm dz) hz, hk _ _ r4 hT, r1, r2, r3, r4⟩
section
variable {X : Cx} {pins : List (Addr × Obj)} {σ : L2.St} {z TI TO i1 i2 l1 l2 S : Addr} {xs ys : Array Value} {us ws : List V}
/-- the next pair, the list S beside it -/
theorem zip_item {A : Around} {E : Value → Shared → Prop} {s : Shared} {i : Nat} {x y : Value} {Q : Option Value → Shared → Prop} (D : ZipApart z TI TO i1 i2 l1 l2) (st : ZSt s.heap z TI TO i1 i2 l1 l2 S i xs ys) (hS : S ∉ [z, TI, TO, i1, i2, l1, l2]) (hSl : S < s.heap.objs.size) (hx : xs[i]? = some x) (hy : ys[i]? = some y)
    (hQ : ∀ h', ZSt h' z TI TO i1 i2 l1 l2 S (i + 1) xs ys → IsPair h' s.heap.objs.size x y → (∀ c o, c ≠ z → c ≠ TO → c ≠ i1 → c ≠ i2 → s.heap.get? c = some o → h'.get? c = some o) → Q (some (.ref s.heap.objs.size)) { s with heap := h' }) :
    wpAny (model X.prog X.w) A (pyNext (.ref z)) Q E s := by
  obtain ⟨hTI, h1, h2, hl1, hl2, hz⟩ := st
  have lt : ∀ {c o}, s.heap.get? c = some o → s.heap.objs.size ≠ c := fun e => Nat.ne_of_gt (Heap.lt_size e)
  have n1 : s.heap.objs.size ≠ i1 := let ⟨_, e, _⟩ := h1; lt e
  have n2 : s.heap.objs.size ≠ i2 := let ⟨_, e, _⟩ := h2; lt e
  rcases hz with ⟨hz, a, b, hTO⟩ | ⟨T, f, oT, hz, hT, r1, r2, r3, r4⟩
  · refine wpAny_pyNext_zip_item D hz hTI hTO h1 h2 hl1 hl2 hx hy fun h' a1 a2 a3 a4 a5 a6 hk => ?_
    exact hQ h' ⟨hk _ _ D.TIz D.TITO D.TIi1 D.TIi2 hTI, a3, a4, hl1.at fun o e => hk _ o D.l1z D.l1TO D.l1i1 D.l1i2 e, hl2.at fun o e => hk _ o D.l2z D.l2TO D.l2i1 D.l2i2 e,
      .inr ⟨s.heap.objs.size, false, _, a1, a5, lt hz, n1, n2, Nat.ne_of_gt hSl⟩⟩ a5 hk
  · refine wpAny_pyNext_zip_item_held D hz hT hTI h1 h2 hl1 hl2 hx hy fun h' a1 a3 a4 a5 a6 hk => ?_
    exact hQ h' ⟨hk _ _ D.TIz D.TIi1 D.TIi2 hTI, a3, a4, hl1.at fun o e => hk _ o D.l1z D.l1i1 D.l1i2 e, hl2.at fun o e => hk _ o D.l2z D.l2i1 D.l2i2 e,
      .inr ⟨T, true, oT, a1, hk _ _ r1 r2 r3 hT, r1, r2, r3, r4⟩⟩ a5 fun c o c1 _ c3 c4 e => hk c o c1 c3 c4 e
theorem zip_end {A : Around} {E : Value → Shared → Prop} {s : Shared} {i : Nat} {Q : Option Value → Shared → Prop} (hh : A.handled = none) (D : ZipApart z TI TO i1 i2 l1 l2) (st : ZSt s.heap z TI TO i1 i2 l1 l2 S i xs ys) (hx : xs[i]? = none)
    (hQ : ∀ h', (∀ c o, c ≠ z → c ≠ TO → c ≠ i1 → c ≠ i2 → s.heap.get? c = some o → h'.get? c = some o) → Q none { s with heap := h' }) :
    wpAny (model X.prog X.w) A (pyNext (.ref z)) Q E s := by
  obtain ⟨hTI, h1, h2, hl1, hl2, hz⟩ := st
  rcases hz with ⟨hz, a, b, hTO⟩ | ⟨T, f, oT, hz, hT, r1, r2, r3, r4⟩
  · exact wpAny_pyNext_zip_end hh D hz hTI hTO h1 h2 hl1 hl2 (.inl hx) fun h' hk => hQ h' hk
  · exact wpAny_pyNext_zip_end_held hh D hz hT hTI h1 h2 hl1 hl2 (.inl hx) fun h' hk => hQ h' fun c o c1 _ c3 c4 e => hk c o c1 c3 c4 e
abbrev fpZ (z TI TO i1 i2 S : Addr) : List Addr := [z, TI, TO, i1, i2, S]
theorem ext_zip {A : Around} {res : Value} {R : Result → Shared → Prop} (hh : A.handled = none) (D : ZipApart z TI TO i1 i2 l1 l2) (hS : S ∉ [z, TI, TO, i1, i2, l1, l2]) (rx : Vals us xs.toList) (ry : Vals ws ys.toList) (hl : us.length = ws.length) (hn : us.length ≤ sizeLine) :
    ∀ (k i : Nat) (s : Shared) (H : Hp) (acc : Array Value) (c : Nat), us.length - i = k → i ≤ us.length → acc.size = i → Inv X pins σ H s → (∀ b ∈ fpZ z TI TO i1 i2 S, FpOk X pins H b ∧ b < s.heap.objs.size) → ZSt s.heap z TI TO i1 i2 l1 l2 S i xs ys →
      s.heap.get? S = some { cls := .type "list", dict := none, data := .seq acc c, slots := #[] } →
      (∀ s' H' ts acc' c', Inv X pins σ H' s' → LayZ H (us.drop i) (ws.drop i) ts H' → s'.heap.get? S = some { cls := .type "list", dict := none, data := .seq acc' c', slots := #[] } → acc'.toList = acc.toList ++ ts.map Value.ref → R (.ok (.ret res)) s') →
      codeAny (model X.prog X.w) A (.builtin "list.extend.loop" ⟨[.ref S, .ref z, res], []⟩) R s := by
  have lx : xs.size = us.length := by rw [← Array.length_toList, ← rx.length]
  have ly : ys.size = us.length := by rw [← Array.length_toList, ← ry.length, hl]
  have hS' := hS
  simp only [List.mem_cons, List.not_mem_nil, or_false, not_or] at hS'
  obtain ⟨dz, dTI, dTO, di1, di2, dl1, dl2⟩ := hS'
  intro k
  induction k with
  | zero =>
    intro i s H acc c hk hi hacc I hf st hSo hR
    have hin : i = us.length := by omega
    refine codeAny_builtin F.entry_extend_loop ?_
    rw [Around.under_plainId F.plain_extend_loop _]
    show wpAny _ A.in1 (pyNext (.ref z) >>= _) _ _ s
    refine wpAny_bind (zip_end (A := A.in1) hh D st (Array.getElem?_eq_none (by omega)) fun h' hk' => ?_)
    refine wpAny_pure (hR _ H [] acc c (I.turnedL (t' := s.toks) (ch := [z, TO, i1, i2]) (fun b o hb q => hk' b o (fun e => hb (by simp [e])) (fun e => hb (by simp [e])) (fun e => hb (by simp [e])) (fun e => hb (by simp [e])) q) (fun b hb => (hf b ?_).1)) ?_ (hk' S _ dz dTO di1 di2 hSo) (by simp))
    · simp only [List.mem_cons, List.not_mem_nil, or_false] at hb ⊢
      rcases hb with e | e | e | e <;> simp [e]
    · rw [hin, List.drop_of_length_le (Nat.le_refl _), List.drop_of_length_le (by omega)]
      exact .nil
  | succ k ih =>
    intro i s H acc c hk hi hacc I hf st hSo hR
    have hlt : i < us.length := by omega
    have hxi : xs[i]? = some xs[i] := Array.getElem?_eq_getElem (by omega)
    have hyi : ys[i]? = some ys[i] := Array.getElem?_eq_getElem (by omega)
    have hu : us[i]? = some us[i] := List.getElem?_eq_getElem hlt
    have hw : ws[i]? = some ws[i] := List.getElem?_eq_getElem (by omega)
    have ru : L2.RelV us[i] xs[i] := by
      obtain ⟨v, hv, r⟩ := rx.get hu
      rw [Array.getElem?_toList, hxi] at hv
      cases hv
      exact r
    have rw' : L2.RelV ws[i] ys[i] := by
      obtain ⟨v, hv, r⟩ := ry.get hw
      rw [Array.getElem?_toList, hyi] at hv
      cases hv
      exact r
    refine codeAny_builtin F.entry_extend_loop ?_
    rw [Around.under_plainId F.plain_extend_loop _]
    show wpAny _ A.in1 (pyNext (.ref z) >>= _) _ _ s
    refine wpAny_bind (zip_item (A := A.in1) D st hS (Heap.lt_size hSo) hxi hyi fun h' st' hT hk' => ?_)
    have hS1 := hk' S _ dz dTO di1 di2 hSo
    have nTS : s.heap.objs.size ≠ S := Nat.ne_of_gt (Heap.lt_size hSo)
    show wpAny _ A.in1 (updateSeq S (·.push (.ref s.heap.objs.size)) >>= _) _ _ _
    refine wpAny_bind ?_
    have oth : ∀ b o, b ≠ S → h'.get? b = some o → (h'.update S (Obj.mapSeq (·.push (Value.ref s.heap.objs.size)))).get? b = some o := fun b o hb e => (Heap.get?_update_other _ _ (Ne.symm hb)).trans e
    have new : ObjOk X.prog X.w (upd H s.heap.objs.size (.tup [us[i], ws[i]])) (h'.update S (Obj.mapSeq (·.push (Value.ref s.heap.objs.size)))) s.heap.objs.size (.tup [us[i], ws[i]]) :=
      ⟨by show 2 ≤ sizeLine; decide, [xs[i], ys[i]], .cons ru (.cons rw' .nil), ⟨_, oth _ _ nTS hT, rfl, _, rfl⟩⟩
    have I1 : Inv X pins σ (upd H s.heap.objs.size (.tup [us[i], ws[i]])) { s with heap := h'.update S (Obj.mapSeq (·.push (Value.ref s.heap.objs.size))) } :=
      I.turnedNew (t' := s.toks) (ch := fpZ z TI TO i1 i2 S) (fun b o hb q => oth b o (fun e => hb (by simp [fpZ, e])) (hk' b o (fun e => hb (by simp [fpZ, e])) (fun e => hb (by simp [fpZ, e])) (fun e => hb (by simp [fpZ, e])) (fun e => hb (by simp [fpZ, e])) q)) (fun b hb => (hf b hb).1) (Nat.le_refl _) new
    refine wpAny_updateSeq hS1 rfl (wpAny_pure ⟨plainId_quiet F.plain_extend_loop _, ih (i + 1) _ _ (acc.push (.ref s.heap.objs.size)) _ (by omega) hlt (by rw [Array.size_push, hacc]) I1 (fun b hb => ?_) (st'.keep hS oth) (Heap.get?_update_self _ hS1 rfl) fun s'' H'' ts acc' c' I2 lay hS'' hacc' => ?_⟩)
      (by rw [hacc]; omega) (by show (acc.push _).size ≤ sizeLine + 1; rw [Array.size_push, hacc]; omega)
    · have hlt2 : b ≠ s.heap.objs.size := Nat.ne_of_lt (hf b hb).2
      have h0 := hf b hb
      exact ⟨⟨by rw [upd_ne hlt2]; exact h0.1.1, h0.1.2⟩, Nat.lt_trans h0.2 (Heap.lt_size (oth _ _ nTS hT))⟩
    · refine hR s'' H'' (s.heap.objs.size :: ts) acc' c' I2 ?_ hS'' ?_
      · rw [List.drop_eq_getElem_cons hlt, List.drop_eq_getElem_cons (show i < ws.length by omega)]
        exact .cons (I.hok.fresh (Nat.le_refl _)) lay
      · rw [hacc', Array.toList_push, List.append_assoc]
        rfl
theorem zip_no_len : typeLookup (.type "zip") "__len__" = pure none := by rw [typeLookup_type, builtinLookup_eq_fast]; kernel_rfl
theorem zip_no_hint : typeLookup (.type "zip") "__length_hint__" = pure none := by rw [typeLookup_type, builtinLookup_eq_fast]; kernel_rfl
theorem ZSt.typeIs {s : Shared} {i : Nat} (st : ZSt s.heap z TI TO i1 i2 l1 l2 S i xs ys) : s.TypeIs (.ref z) "zip" := by
  rcases st.hz with ⟨hz, _⟩ | ⟨T, f, oT, hz, _⟩
  · exact ⟨_, hz, rfl⟩
  · exact ⟨_, hz, rfl⟩
theorem ZSt.iter {A : Around} {E : Value → Shared → Prop} {s : Shared} {Q : Value → Shared → Prop} (hz : IsZip s.heap z TI TO .none) (h : Q (.ref z) s) : wpAny (model X.prog X.w) A (pyIter (.ref z)) Q E s := wpAny_pyIter_zip hz h
theorem collect_zip {A : Around} {E : Value → Shared → Prop} {s : Shared} {H : Hp} {Q : List Value → Shared → Prop} (hh : A.handled = none) (D : ZipApart z TI TO i1 i2 l1 l2) (rx : Vals us xs.toList) (ry : Vals ws ys.toList) (hl : us.length = ws.length) (hn : us.length ≤ sizeLine)
    (I : Inv X pins σ H s) (hf : ∀ b ∈ [z, TI, TO, i1, i2], FpOk X pins H b ∧ b < s.heap.objs.size) (hlt : l1 < s.heap.objs.size ∧ l2 < s.heap.objs.size)
    (hz : IsZip s.heap z TI TO .none) (hTO : ∃ a b, IsPair s.heap TO a b) (hTI : IsPair s.heap TI (.ref i1) (.ref i2)) (h1 : s.heap.IsListIter i1 l1 0) (h2 : s.heap.IsListIter i2 l2 0) (hl1 : s.heap.IsList l1 xs) (hl2 : s.heap.IsList l2 ys)
    (hQ : ∀ s' H' ts, Inv X pins σ H' s' → LayZ H us ws ts H' → Q (ts.map Value.ref) s') : wpAny (model X.prog X.w) A (collect (.ref z)) Q E s := by
  obtain ⟨S, eS⟩ : ∃ S, S = s.heap.objs.size := ⟨_, rfl⟩
  have hS : S ∉ [z, TI, TO, i1, i2, l1, l2] := by
    intro hm
    simp only [List.mem_cons, List.not_mem_nil, or_false] at hm
    have k : ∀ b ∈ [z, TI, TO, i1, i2], S ≠ b := fun b hb => by rw [eS]; exact Nat.ne_of_gt (hf b hb).2
    rcases hm with e | e | e | e | e | e | e
    · exact k z (by simp) e
    · exact k TI (by simp) e
    · exact k TO (by simp) e
    · exact k i1 (by simp) e
    · exact k i2 (by simp) e
    · rw [eS] at e; exact Nat.ne_of_gt hlt.1 e
    · rw [eS] at e; exact Nat.ne_of_gt hlt.2 e
  have st0 : ZSt s.heap z TI TO i1 i2 l1 l2 S 0 xs ys := ⟨hTI, h1, h2, hl1, hl2, .inl ⟨hz, hTO⟩⟩
  have push : ∀ b o, s.heap.get? b = some o → (s.heap.push { cls := .type "list", data := .seq ([] : List Value).toArray }).get? b = some o := fun b o e => Heap.get?_push_of_some _ e
  have st1 : ZSt (s.heap.push { cls := .type "list", data := .seq ([] : List Value).toArray }) z TI TO i1 i2 l1 l2 S 0 xs ys := st0.keep hS fun b o _ e => push b o e
  have hz1 : IsZip (s.heap.push { cls := .type "list", data := .seq ([] : List Value).toArray }) z TI TO .none := push _ _ hz
  have hS₁ : (s.heap.push { cls := .type "list", data := .seq ([] : List Value).toArray }).get? S = some { cls := .type "list", data := .seq ([] : List Value).toArray } := by rw [eS]; exact Heap.get?_push_size _ rfl
  have hSz : S ≠ z := fun e => hS (by simp [e])
  have hT : ({ s with heap := s.heap.push { cls := .type "list", data := .seq ([] : List Value).toArray } } : Shared).TypeIs (.ref z) "zip" := ZSt.typeIs (s := { s with heap := s.heap.push { cls := .type "list", data := .seq ([] : List Value).toArray } }) st1
  unfold collect
  refine wpAny_bind (wpAny_runValue (codeAny_builtin F.entry_proto_collect ?_))
  rw [Around.under_plainId F.plain_proto_collect _]
  show wpAny _ A.in1 (newList [] >>= fun l => again (.builtin "list.__iadd__" ⟨[l, .ref z], []⟩)) _ _ s
  refine wpAny_bind (wpAny_newObj_type ?_)
  rw [← eS]
  refine wpAny_pure ⟨plainId_quiet F.plain_list_iadd _, codeAny_builtin F.entry_list_iadd ?_⟩
  rw [Around.under_plainId F.plain_list_iadd _]
  show wpAny _ A.in1 (Builtin.List.listExtendWith (.ref S) (.ref z) (.ref S)) _ _ _
  unfold Builtin.List.listExtendWith
  refine wpAny_bind (wpAny_typeOf hT ?_)
  have k1 : Builtin.List.listSameRef (.ref S) (.ref z) = false := by simp [Builtin.List.listSameRef, hSz]
  have k2 : (Value.type "zip" == Value.type "list") = false := by decide
  have k3 : (Value.type "zip" == Value.type "tuple") = false := by decide
  simp only [k1, k2, k3, Bool.or_false, Bool.false_eq_true, if_false]
  refine wpAny_bind (wpAny_pyIter_zip (s := { s with heap := s.heap.push { cls := .type "list", data := .seq ([] : List Value).toArray } }) hz1 ?_)
  refine wpAny_bind (wpAny_holding ?_)
  unfold Builtin.List.listLengthHint
  refine wpAny_bind (wpAny_specialOf hT zip_no_len ?_)
  show wpAny _ A.in1 (specialOf (Value.ref z) (Str.ofString "__length_hint__") >>= _) _ _ _
  refine wpAny_bind (wpAny_specialOf hT zip_no_hint ?_)
  refine wpAny_pure ?_
  show wpAny _ A.in1 (rule "list.extend.makes-room" >>= fun _ => Builtin.List.listTouch (.ref S) >>= fun _ => again (.builtin "list.extend.loop" ⟨[.ref S, .ref z, .ref S], []⟩)) _ _ _
  refine wpAny_bind (wpAny_rule ?_)
  refine wpAny_bind ?_
  show wpAny _ A.in1 (updateSeq S (·.push .none) >>= fun _ => updateSeq S (·.pop)) _ _ _
  refine wpAny_bind (wpAny_updateSeq hS₁ rfl ?_)
  have hS₂ := Heap.get?_update_self (Obj.mapSeq (·.push Value.none)) hS₁ rfl
  refine wpAny_updateSeq hS₂ rfl ?_
  have hS₃ := Heap.get?_update_self (Obj.mapSeq (·.pop)) hS₂ rfl
  have oth : ∀ b o, b ≠ S → (s.heap.push { cls := .type "list", data := .seq ([] : List Value).toArray }).get? b = some o →
      (((s.heap.push { cls := .type "list", data := .seq ([] : List Value).toArray }).update S (Obj.mapSeq (·.push Value.none))).update S (Obj.mapSeq (·.pop))).get? b = some o :=
    fun b o hb e => (Heap.get?_update_other _ _ (Ne.symm hb)).trans ((Heap.get?_update_other _ _ (Ne.symm hb)).trans e)
  have all : ∀ b o, s.heap.get? b = some o → (((s.heap.push { cls := .type "list", data := .seq ([] : List Value).toArray }).update S (Obj.mapSeq (·.push Value.none))).update S (Obj.mapSeq (·.pop))).get? b = some o := fun b o e =>
    oth b o (fun q => by rw [q, eS] at e; exact Nat.lt_irrefl _ (Heap.lt_size e)) (push b o e)
  have I1 := I.kept (t' := s.toks) all
  refine wpAny_pure ⟨plainId_quiet F.plain_extend_loop _, ext_zip (X := X) (pins := pins) (σ := σ) (us := us) (ws := ws) (xs := xs) (ys := ys) hh D hS rx ry hl hn us.length 0 _ H _ _ rfl (Nat.zero_le _) rfl I1 (fun b hb => ?_) (st1.keep hS oth) hS₃ fun s' H' ts acc' c' I2 lay hS' hacc => ?_⟩
  · simp only [fpZ, List.mem_cons, List.not_mem_nil, or_false] at hb
    have up : ∀ {b : Addr}, b < s.heap.objs.size → b < (((s.heap.push { cls := .type "list", data := .seq ([] : List Value).toArray }).update S (Obj.mapSeq (·.push Value.none))).update S (Obj.mapSeq (·.pop))).objs.size := fun {b} h => Nat.lt_trans h (by rw [← eS]; exact Heap.lt_size hS₃)
    rcases hb with e | e | e | e | e | e
    · rw [e]; exact ⟨(hf z (by simp)).1, up (hf z (by simp)).2⟩
    · rw [e]; exact ⟨(hf TI (by simp)).1, up (hf TI (by simp)).2⟩
    · rw [e]; exact ⟨(hf TO (by simp)).1, up (hf TO (by simp)).2⟩
    · rw [e]; exact ⟨(hf i1 (by simp)).1, up (hf i1 (by simp)).2⟩
    · rw [e]; exact ⟨(hf i2 (by simp)).1, up (hf i2 (by simp)).2⟩
    · rw [e]; exact ⟨I.fpOk (Nat.le_of_eq eS.symm) (I.hok.fresh (Nat.le_of_eq eS.symm)), Heap.lt_size hS₃⟩
  · show wpAny _ A (load S >>= _) _ _ s'
    refine wpAny_bind (wpAny_load hS' ?_)
    refine wpAny_pure ?_
    show Q acc'.toList s'
    rw [hacc]
    exact hQ s' H' ts I2 lay
theorem code_tuple_new_zip {A : Around} {E : Value → Shared → Prop} {s : Shared} {H : Hp} {Q₁ : Value → Shared → Prop} (hh : A.handled = none) (D : ZipApart z TI TO i1 i2 l1 l2) (rx : Vals us xs.toList) (ry : Vals ws ys.toList) (hl : us.length = ws.length) (hn : us.length ≤ sizeLine)
    (I : Inv X pins σ H s) (hf : ∀ b ∈ [z, TI, TO, i1, i2], FpOk X pins H b ∧ b < s.heap.objs.size) (hlt : l1 < s.heap.objs.size ∧ l2 < s.heap.objs.size)
    (hz : IsZip s.heap z TI TO .none) (hTO : ∃ a b, IsPair s.heap TO a b) (hTI : IsPair s.heap TI (.ref i1) (.ref i2)) (h1 : s.heap.IsListIter i1 l1 0) (h2 : s.heap.IsListIter i2 l2 0) (hl1 : s.heap.IsList l1 xs) (hl2 : s.heap.IsList l2 ys)
    (h : ∀ s' H' ts, Inv X pins σ H' s' → LayZ H us ws ts H' → Q₁ (.ref s'.heap.objs.size) { s' with heap := s'.heap.push { cls := .type "tuple", data := .seq (ts.map Value.ref).toArray } }) :
    codeAny (model X.prog X.w) A (.call (.builtin "tuple.__new__") ⟨[.type "tuple", .ref z], []⟩) (wants Q₁ E) s := by
  refine codeAny_of_tree ?_
  show wpAny _ A.in1 (do checkBuiltinCall "tuple.__new__" ⟨[.type "tuple", .ref z], []⟩; again (.builtin "tuple.__new__" ⟨[.type "tuple", .ref z], []⟩)) _ _ s
  refine wpAny_bind (wpAny_of_eq (F.newCall_tuple_1 _) (wpAny_pure ⟨plainId_quiet F.plain_tuple_new _, codeAny_builtin F.entry_tuple_new ?_⟩))
  rw [Around.under_plainId F.plain_tuple_new _]
  have hsub := sub_tuple_self
  have hinit := init_tuple_lookup
  have hmh := madeHere_tuple
  have hTI' : s.TypeIs (.ref z) "zip" := ⟨_, hz, rfl⟩
  have hh1 : A.in1.handled = none := hh
  wp_walk using wpAny_typeOf hTI', collect_zip (A := A.in1) hh1 D rx ry hl hn I hf hlt hz hTO hTI h1 h2 hl1 hl2
  intro s' H' ts I2 lay
  show wpAny _ _ (Builtin.Tuple.tupleExact (ts.map Value.ref).toArray >>= fun v => ret v) _ _ _
  unfold Builtin.Tuple.tupleExact
  refine wpAny_bind (wpAny_newObj_type ?_ (by show (ts.map Value.ref).toArray.size ≤ sizeLine; rw [List.size_toArray, List.length_map, lay.len]; exact hn))
  exact wpAny_pure (h s' H' ts I2 lay)
theorem call_tuple_zip {A : Around} {E : Value → Shared → Prop} {s : Shared} {H : Hp} {Q : Value → Shared → Prop} (hh : A.handled = none) (D : ZipApart z TI TO i1 i2 l1 l2) (rx : Vals us xs.toList) (ry : Vals ws ys.toList) (hl : us.length = ws.length) (hn : us.length ≤ sizeLine)
    (I : Inv X pins σ H s) (hf : ∀ b ∈ [z, TI, TO, i1, i2], FpOk X pins H b ∧ b < s.heap.objs.size) (hlt : l1 < s.heap.objs.size ∧ l2 < s.heap.objs.size)
    (hz : IsZip s.heap z TI TO .none) (hTO : ∃ a b, IsPair s.heap TO a b) (hTI : IsPair s.heap TI (.ref i1) (.ref i2)) (h1 : s.heap.IsListIter i1 l1 0) (h2 : s.heap.IsListIter i2 l2 0) (hl1 : s.heap.IsList l1 xs) (hl2 : s.heap.IsList l2 ys)
    (h : ∀ s' H' ts, Inv X pins σ H' s' → LayZ H us ws ts H' → Q (.ref s'.heap.objs.size) { s' with heap := s'.heap.push { cls := .type "tuple", data := .seq (ts.map Value.ref).toArray } }) :
    wpAny (model X.prog X.w) A (call (.type "tuple") [.ref z]) Q E s := by
  refine callType_codes (Q₁ := fun obj s₁ => s₁.TypeIs obj "tuple" ∧ Q obj s₁) F.called_tuple (F.typeCall_tuple_1 _) F.entry_object_init
    (code_tuple_new_zip (A := A.in1) hh D rx ry hl hn I hf hlt hz hTO hTI h1 h2 hl1 hl2 fun s' H' ts I2 lay => ⟨⟨_, Heap.get?_push_size _ rfl, rfl⟩, h s' H' ts I2 lay⟩) fun obj s₁ h₁ => ?_
  exact ⟨h₁.1, F.args_object_init_2 obj _, object_init_meets F.called_tuple.init.lookup F.called_tuple.made (by decide) X.prog X.w A.in1 _ s₁ ⟨h₁.1, rfl, h₁.2⟩⟩
end
def tTupZip (K : PySem.W.Frag) (ta : TA) : TE := fun σ H Q => ta σ H fun vs H1 => ∃ a b us ws, vs = [.ref a, .ref b] ∧ SqL K H1 a us ∧ SqL K H1 b ws ∧ us.length = ws.length ∧ ∀ ts H2, LayZ H1 us ws ts H2 → ∀ p, H2 p = none → Q (.ref p) (upd H2 p (.tup (ts.map V.ref)))
theorem vals_refsZ : ∀ ts : List Addr, Vals (ts.map V.ref) (ts.map Value.ref)
  | [] => .nil
  | _ :: r => .cons rfl (vals_refsZ r)
theorem pe_tupZip {X : Cx} {e e2 : Expr} {ta : TA} {p p2 q pos : Pos} (hc : X.calm = true) (hg : Gl X "tuple") (hm : X.mg "tuple" = none) (hg2 : Gl X "zip") (hm2 : X.mg "zip" = none) (ha : PA X [e, e2] ta)
    (na : starEach [Expr.Call (.Name "zip" p2) [e, e2] [] q] X.env = (false, eval (Expr.Call (.Name "zip" p2) [e, e2] [] q) X.env) :: starEach [] X.env := by rfl)
    (hs : starEach [e, e2] X.env = (false, eval e X.env) :: starEach [e2] X.env := by rfl) (hpl : (backTo q (starEach [e2] X.env)).any (·.1) = false := by rfl) :
    PE X (.Call (.Name "tuple" p) [.Call (.Name "zip" p2) [e, e2] [] q] [] pos) (tTupZip X.K ta) := by
  refine ⟨fun pins s σ H Q I h => ?_⟩
  refine Call_ (ld_blt I hg hm boot_tuple (PyProof.Rows.callWith_type1 (PyProof.Rows.args_cons (Call_ (ld_blt I hg2 hm2 PyProof.Rows.boot_zip (PyProof.Rows.callWith_type1 (thn (ha.run q pins s σ H _ I h) fun us0 s1 ⟨vs, H1, I1, r1, q1⟩ => ?_) hs hpl))) na) na rfl))
  obtain ⟨a, b, us, ws, ex, hx, hy, hl, q1⟩ := q1
  subst ex
  cases r1 with
  | cons r rr =>
    cases rr with
    | cons r' rr =>
      cases rr
      cases r
      cases r'
      obtain ⟨its, rv, p1, hz1⟩ := I1.list hx
      obtain ⟨its2, rv2, p2', _⟩ := I1.list hy
      have hle : ∀ c, s1.heap.objs.size ≤ c → FpOk X pins H1 c := fun c h => I1.fpOk h (I1.hok.fresh h)
      refine call_zip_2 p1.isList p2'.isList fun h' hz hTI hTO h1 h2 hsz hk => PyProof.Rows.args_nil ?_
      have I2 : Inv X pins σ H1 { s1 with heap := h' } := I1.kept (t' := s1.toks) hk
      refine call_tuple_zip (X := X) (pins := pins) (σ := σ) (us := us) (ws := ws) (xs := its.toArray) (ys := its2.toArray) (I1.ok.hd hc) (PySem.W.ktu_apart s1.heap.objs.size a b p1.lt p2'.lt) (by simpa using rv) (by simpa using rv2) hl hz1 I2 (fun c hcm => ?_)
        ⟨Nat.lt_of_lt_of_le p1.lt (by show s1.heap.objs.size ≤ h'.objs.size; rw [hsz]; exact Nat.le_add_right _ _), Nat.lt_of_lt_of_le p2'.lt (by show s1.heap.objs.size ≤ h'.objs.size; rw [hsz]; exact Nat.le_add_right _ _)⟩ hz ⟨_, _, hTO⟩ hTI h1 h2 (p1.isList.at fun o e => hk _ o e) (p2'.isList.at fun o e => hk _ o e) fun s' H' ts I3 lay => ?_
      · have e' : c = s1.heap.objs.size + 4 ∨ c = s1.heap.objs.size + 2 ∨ c = s1.heap.objs.size + 3 ∨ c = s1.heap.objs.size ∨ c = s1.heap.objs.size + 1 := by simpa using hcm
        show FpOk X pins H1 c ∧ c < h'.objs.size
        rw [hsz]
        have hle' : ∀ k, FpOk X pins H1 (s1.heap.objs.size + k) := fun k => hle _ (Nat.le_add_right _ _)
        rcases e' with e | e | e | e | e <;> rw [e]
        · exact ⟨hle' 4, Nat.add_lt_add_left (by decide) _⟩
        · exact ⟨hle' 2, Nat.add_lt_add_left (by decide) _⟩
        · exact ⟨hle' 3, Nat.add_lt_add_left (by decide) _⟩
        · exact ⟨hle' 0, Nat.lt_add_of_pos_right (by decide)⟩
        · exact ⟨hle' 1, Nat.add_lt_add_left (by decide) _⟩
      · refine ⟨.ref s'.heap.objs.size, upd H' s'.heap.objs.size (.tup (ts.map V.ref)), I3.laid (t' := s'.toks) (fun c o e => Heap.get?_push_of_some _ e) (Nat.le_refl _) (show ObjOk X.prog X.w _ _ _ (.tup (ts.map V.ref)) from ⟨?_, _, vals_refsZ ts, IsTup.new _ _⟩), rfl, q1 ts H' lay _ (I3.hok.fresh (Nat.le_refl _))⟩
        rw [List.length_map, lay.len]
        exact hz1
/-- as data -/
theorem lay_grow {K : PySem.W.Frag} : ∀ {H H' : Hp} {us ws : List V} {ts : List Addr} {ds es : List PyData} {F : Hp}, LayZ H us ws ts H' → Same F H → DqAll K F us ds → DqAll K F ws es → ∃ F', Grow F H F' H' ∧ DqAll K F' (ts.map V.ref) (pairs ds es)
  | _, _, _, _, _, _, _, F, .nil, s, .nil, .nil => ⟨F, .start s, .nil⟩
  | H, H', _, _, _, _, _, F, .cons hT lay, s, .cons a b, .cons c d => by
    obtain ⟨F1, g1, r1⟩ := grow_pair s hT a c
    obtain ⟨F2, g2, r2⟩ := lay_grow lay g1.i (b.up g1.f) (d.up g1.f)
    exact ⟨F2, g1.trans g2, .cons (r1.up g2.f) r2⟩
theorem ev_tupZip {K : PySem.W.Frag} {σ : L2.St} {F : Hp} {ta : TA} {ds es : List PyData} (h : EvS K ta σ F [.list ds, .list es]) (hl : ds.length = es.length) : EvD K (tTupZip K ta) σ F (.tuple (pairs ds es)) := fun H s Q q => h H s _ fun vs F1 H1 g1 r1 => by
  cases r1 with
  | cons a b =>
    cases b with
    | cons b c =>
      cases c
      cases a with
      | lst a1 a2 =>
        cases b with
        | lst b1 b2 =>
          refine ⟨_, _, _, _, rfl, g1.i.seq a1, g1.i.seq b1, by rw [a2.len, b2.len]; exact hl, fun ts H2 lay p hp => ?_⟩
          obtain ⟨F2, g2, r2⟩ := lay_grow lay g1.i a2 b2
          exact q _ _ _ (g1.trans (g2.trans (.known g2.i hp))) (.tup (.inl (.inl upd_same)) (r2.up (same_upd (g2.i.free hp))))
end Sx
set_option Elab.async false
set_option linter.all false
set_option maxRecDepth 100000
set_option maxHeartbeats 1000000
/-! W13: isinstance of a kept error. -/
namespace Sx
open PySem PySem.Spec PyProof.Rows L2
def rIsT (D : Addr) : List V → Hp → VK → Prop := fun xs H Q => ∃ a, xs = [.ref a, .ref D] ∧ H a = some (ExT (.ref D) none a) ∧ Q (.bl true) H
theorem call_isT {X : Cx} {D : Addr} (C : ExcC X.K D) : CallR X (.builtin "isinstance") (rIsT D) := by
  intro pins s σ H xs us Q I r h
  obtain ⟨a, rfl, eA, q⟩ := h
  cases r with
  | cons rx rr =>
    cases rr with
    | cons rt rr =>
      cases rr
      cases rx
      cases rt
      obtain ⟨⟨oe, vs, hget, hz, hv⟩, _⟩ := I.hok a _ eA
      have J : PySem.W.InstAt s.heap a oe D none := by
        obtain ⟨oc, od, oda, osl⟩ := oe
        obtain ⟨h1, h2⟩ := hz
        dsimp only at h1 h2 hv
        subst h1 h2 hv
        exact ⟨hget, rfl, rfl, trivial⟩
      have e : PySem.W.kitOne X.K (.ref D) (.ref D) = some true := if_pos (beq_self_eq_true _)
      exact PySem.W.kia_one (PySem.W.handS_kitx_exc C.hg C.hk C.hs C.hd C.ha C.hn C.ht C.hm) I.kIn J e (fun z => nomatch z) fun tk => ⟨.bl true, H, I.kept (t' := tk) fun _ _ z => z, rfl, q⟩
end Sx
set_option Elab.async false
set_option linter.all false
set_option maxRecDepth 100000
set_option maxHeartbeats 1000000
/-! Y14: dict(t), t a tuple of pairs whose object is known. -/
namespace Sx
open PySem PySem.Spec PyProof.Rows L2
open C8 (Cal pe_c pe_gc)
/-- a tuple whose object is known to be plain -/
def PlT (H : Hp) (a : Addr) (xs : List V) : Prop := ∃ o, H a = some (.frz o (.tup xs)) ∧ o.dict = none
theorem PlT.seq {K : PySem.W.Frag} {H : Hp} {a : Addr} {xs : List V} (h : PlT H a xs) : SqT K H a xs := let ⟨o, e, _⟩ := h; .inl (.inr ⟨o, e⟩)
theorem PlT.up {H G : Hp} {a : Addr} {xs : List V} (h : PlT H a xs) (s : Same H G) : PlT G a xs := let ⟨o, e, d⟩ := h; ⟨o, s _ _ e, d⟩
abbrev rDictF (K : PySem.W.Frag) : List V → Hp → VK → Prop := fun xs H Q => ∃ (a : Addr) (ps : List Addr) (kvs : List (Key × V)), xs = [.ref a] ∧ PlT H a (ps.map V.ref) ∧ Paired (fun p kv => SqT K H p [kV kv.1, kv.2]) ps kvs ∧
    ∀ p, H p = none → Q (.ref p) (upd H p (.dK (mergeK [] kvs)))
theorem call_dictF {X : Cx} (hcalm : X.calm = true) : CallR X (.type "dict") (rDictF X.K) := by
  intro pins s σ H xs us Q I r q
  obtain ⟨a, ps, kvs, ex, hq, hp, q⟩ := q
  subst ex
  obtain ⟨u, eu, rx⟩ := vals1 r
  subst eu
  cases rx
  obtain ⟨o, eo, hd⟩ := hq
  obtain ⟨ho, hz, its, rv, o2, ho2, hc, n, hdat⟩ := (show ObjOk X.prog X.w H s.heap a (.frz o (.tup (ps.map V.ref))) from I.hok a _ eo)
  have e2 : o2 = o := by
    rw [ho] at ho2
    exact (Option.some.inj ho2).symm
  subst e2
  have ei := refs_at rv
  subst ei
  rw [List.length_map] at hz
  obtain ⟨prs, rel, hl, hpr⟩ := pairs_of I hp
  have hk : ∀ (j : Nat) (q' : Key × Value), prs[j]? = some q' → ∃ u, s.heap.IsTuple (ps[j]?.getD 0) #[u, q'.2] ∧ keyIs q'.1 u = true ∧ ps[j]? = some (ps[j]?.getD 0) := fun j q' e => by
    obtain ⟨b, u, e1, e2, e3⟩ := hpr j q' e
    rw [e1]
    exact ⟨u, e2, e3, rfl⟩
  have hex : ∃ us : List Value, us.length = prs.length ∧ ∀ (j : Nat) (q' : Key × Value) (u : Value), prs[j]? = some q' → us[j]? = some u → s.heap.IsTuple (ps[j]?.getD 0) #[u, q'.2] ∧ keyIs q'.1 u = true := by
    have gen : ∀ (l : List (Key × Value)) (m : List Addr), (∀ (j : Nat) (q' : Key × Value), l[j]? = some q' → ∃ u, s.heap.IsTuple (m[j]?.getD 0) #[u, q'.2] ∧ keyIs q'.1 u = true) → ∃ us : List Value, us.length = l.length ∧ ∀ (j : Nat) (q' : Key × Value) (u : Value), l[j]? = some q' → us[j]? = some u → s.heap.IsTuple (m[j]?.getD 0) #[u, q'.2] ∧ keyIs q'.1 u = true := by
      intro l
      induction l with
      | nil => exact fun m _ => ⟨[], rfl, fun j q' u e => by simp at e⟩
      | cons p l ih =>
        intro m h
        obtain ⟨us, h1, h2⟩ := ih (m.drop 1) fun j q' e => by
          obtain ⟨u, a1, a2⟩ := h (j + 1) q' (by simpa using e)
          refine ⟨u, ?_, a2⟩
          rw [List.getElem?_drop, Nat.add_comm]
          exact a1
        obtain ⟨u, a1, a2⟩ := h 0 p rfl
        refine ⟨u :: us, by simp [h1], fun j q' v e e' => ?_⟩
        cases j with
        | zero =>
          simp at e e'
          subst e e'
          exact ⟨a1, a2⟩
        | succ j =>
          have z := h2 j q' v (by simpa using e) (by simpa using e')
          rw [List.getElem?_drop, Nat.add_comm] at z
          exact z
    exact gen prs ps fun j q' e => let ⟨u, a1, a2, _⟩ := hk j q' e; ⟨u, a1, a2⟩
  obtain ⟨us, ul, hus⟩ := hex
  refine PySem.call_dict_pairs (knd := mixKind X.prog X.w) (kvs := prs) (PySem.PairArg.tuple a (ps.map Value.ref).toArray (fun j => ps[j]?.getD 0) (us.zip (prs.map (·.2)))) (I.ok.hd hcalm) ⟨⟨_, n, ho, hc, hd, hdat⟩, ?_, fun j k v e => ?_⟩ ⟨?_, fun i key v e => ?_⟩ ?_ fun h' tk hd' k => ?_
  · simp [ul, hl]
  · obtain ⟨e1, e2⟩ := List.getElem?_zip_eq_some.mp e
    rw [List.getElem?_map] at e2
    obtain ⟨q', hq', rfl⟩ := Option.map_eq_some_iff.mp e2
    obtain ⟨t1, _⟩ := hus j q' k hq' e1
    obtain ⟨_, _, _, t4⟩ := hk j q' hq'
    refine ⟨?_, .inl t1⟩
    show (ps.map Value.ref).toArray[j]? = _
    rw [List.getElem?_toArray, List.getElem?_map, t4]
    rfl
  · simp [ul]
  · obtain ⟨e1, e2⟩ := List.getElem?_zip_eq_some.mp e
    rw [List.getElem?_map] at e2
    obtain ⟨q', hq', rfl⟩ := Option.map_eq_some_iff.mp e2
    obtain ⟨_, t2⟩ := hus i q' key hq' e1
    exact ⟨q'.1, hq', t2⟩
  · rw [List.length_zip, List.length_map, ul, Nat.min_self, hl]
    exact hz
  · have hm : (s.heap.objs.size == sysModules) = false := beq_eq_false_iff_ne.mpr (Nat.ne_of_gt I.big)
    have hlen : (mergeK [] kvs).length ≤ sizeLine := by
      refine Nat.le_trans (length_mergeK kvs []) ?_
      rw [List.length_nil, Nat.zero_add, rel.length, hl]
      exact hz
    exact ⟨.ref s.heap.objs.size, upd H s.heap.objs.size (.dK (mergeK [] kvs)), I.laid (t' := tk) (fun b o e => k b o (by simp) e) (Nat.le_refl _) (show ObjOk X.prog X.w _ _ _ (.dK (mergeK [] kvs)) from ⟨hlen, hm, merged [] prs, KV.merge rel .nil, hd'⟩), rfl, q _ (I.hok.fresh (Nat.le_refl _))⟩
end Sx
set_option Elab.async false
set_option linter.all false
set_option maxRecDepth 100000
set_option maxHeartbeats 1000000
/-! Y15: t == () and l != [], whatever is in t and l. -/
namespace Sx
open PySem PySem.Spec PyProof.Rows L2
open C8 (Cal pe_c pe_gc)
abbrev rEqE (K : PySem.W.Frag) : R2 := fun x y H Q => ∃ a b xs, x = .ref a ∧ y = .ref b ∧ SqT K H a xs ∧ SqT K H b [] ∧ Q (.bl xs.isEmpty) H
abbrev rEqEL (K : PySem.W.Frag) : R2 := fun x y H Q => ∃ a b xs, x = .ref a ∧ y = .ref b ∧ SqL K H a xs ∧ SqL K H b [] ∧ Q (.bl xs.isEmpty) H
abbrev rNeEL (K : PySem.W.Frag) : R2 := fun x y H Q => ∃ a b xs, x = .ref a ∧ y = .ref b ∧ SqL K H a xs ∧ SqL K H b [] ∧ Q (.bl (!xs.isEmpty)) H
section
variable {X : Cx}
theorem op_eqE (hu : X.A.units + 64 < cLine) : OpR X (compareOp .Eq) (rEqE X.K) := by
  intro pins s σ H x y v u Q I rx ry h
  obtain ⟨a, b, xs, rfl, rfl, ha, hb, q⟩ := h
  cases rx
  cases ry
  obtain ⟨us, r1, p1, _⟩ := I.tuple ha
  obtain ⟨ws, r2, p2, _⟩ := I.tuple hb
  cases r2
  refine SeqAt.eq_tupleAt (e := fun _ => true) p1 p2 (by omega) (fun j _ h2 => absurd h2 (Nat.not_lt_zero j)) ?_
  have e : ((List.range (min us.toArray.size (#[] : Array Value).size)).all (fun _ => true) && us.toArray.size == (#[] : Array Value).size) = xs.isEmpty := by
    have := r1.length
    cases xs with
    | nil =>
      cases r1
      rfl
    | cons a r =>
      cases r1 with
      | cons _ _ => simp
  show EP X pins σ Q (.bool _) s
  rw [e]
  exact ⟨.bl _, H, I, rfl, q⟩
theorem op_eqEL (hu : X.A.units + 64 < cLine) : OpR X (compareOp .Eq) (rEqEL X.K) := by
  intro pins s σ H x y v u Q I rx ry h
  obtain ⟨a, b, xs, rfl, rfl, ha, hb, q⟩ := h
  cases rx
  cases ry
  obtain ⟨us, r1, p1, _⟩ := I.list ha
  obtain ⟨ws, r2, p2, _⟩ := I.list hb
  cases r2
  cases xs with
  | nil =>
    cases r1
    exact SeqAt.RcAt.lists (e := fun _ => true) p1.isList p2.isList rfl (by omega) (fun j _ h2 => absurd h2 (Nat.not_lt_zero j)) _ _ _ _ ⟨.bl true, H, I, rfl, q⟩
  | cons c r =>
    refine SeqAt.RcAt.lists_lengths p1.isList p2.isList ?_ (by omega) _ _ _ _ ⟨.bl false, H, I, rfl, q⟩
    cases r1 with
    | cons _ _ => simp
theorem op_neEL (hu : X.A.units + 64 < cLine) : OpR X (compareOp .NotEq) (rNeEL X.K) := by
  intro pins s σ H x y v u Q I rx ry h
  obtain ⟨a, b, xs, rfl, rfl, ha, hb, q⟩ := h
  cases rx
  cases ry
  obtain ⟨us, r1, p1, _⟩ := I.list ha
  obtain ⟨ws, r2, p2, _⟩ := I.list hb
  cases r2
  cases xs with
  | nil =>
    cases r1
    exact SeqAt.RcNeAt.lists (e := fun _ => true) p1.isList p2.isList rfl (by omega) (fun j _ h2 => absurd h2 (Nat.not_lt_zero j)) _ _ _ _ ⟨.bl false, H, I, rfl, q⟩
  | cons c r =>
    refine SeqAt.RcNeAt.lists_lengths p1.isList p2.isList ?_ (by omega) _ _ _ _ ⟨.bl true, H, I, rfl, q⟩
    cases r1 with
    | cons _ _ => simp
end
section
variable {K : PySem.W.Frag} {ds : List PyData}
theorem rv_eqE : RvD K (rEqE K) (.tuple ds) (.tuple []) (.bool ds.isEmpty) := fun F x y H s a b Q q => by
  cases a with
  | tup a1 a2 =>
    cases b with
    | tup b1 b2 =>
      cases b2
      refine ⟨_, _, _, rfl, rfl, same_seqT s a1, same_seqT s b1, ?_⟩
      have e : ∀ {vs : List V} {ds : List PyData}, DqAll K F vs ds → vs.isEmpty = ds.isEmpty := fun h => by cases h <;> rfl
      rw [e a2]
      exact q _ F H (.start s) (.bl _)
theorem rv_eqEL : RvD K (rEqEL K) (.list ds) (.list []) (.bool ds.isEmpty) := fun F x y H s a b Q q => by
  cases a with
  | lst a1 a2 =>
    cases b with
    | lst b1 b2 =>
      cases b2
      refine ⟨_, _, _, rfl, rfl, s.seq a1, s.seq b1, ?_⟩
      have e : ∀ {vs : List V} {ds : List PyData}, DqAll K F vs ds → vs.isEmpty = ds.isEmpty := fun h => by cases h <;> rfl
      rw [e a2]
      exact q _ F H (.start s) (.bl _)
theorem rv_neEL : RvD K (rNeEL K) (.list ds) (.list []) (.bool (!ds.isEmpty)) := fun F x y H s a b Q q => by
  cases a with
  | lst a1 a2 =>
    cases b with
    | lst b1 b2 =>
      cases b2
      refine ⟨_, _, _, rfl, rfl, s.seq a1, s.seq b1, ?_⟩
      have e : ∀ {vs : List V} {ds : List PyData}, DqAll K F vs ds → vs.isEmpty = ds.isEmpty := fun h => by cases h <;> rfl
      rw [e a2]
      exact q _ F H (.start s) (.bl _)
end
end Sx
set_option Elab.async false
set_option linter.all false
set_option maxRecDepth 100000
set_option maxHeartbeats 1000000
/-! Y16: truth of tuples and lists, dicts with texts as keys, ints that grow. -/
namespace Sx
open PySem PySem.Spec PyProof.Rows L2
open C8 (Cal pe_c pe_gc)
def tTru (K : PySem.W.Frag) (ta : TE) : TT := fun σ H Q => ta σ H fun x H' => ∃ k, TruV K x H' k ∧ Q k H'
theorem pt_tru {X : Cx} {a : Expr} {ta : TE} (ha : PE X a ta) (he : ∀ whole, isTrue a X.env whole = (do let v ← whole; standAt a.pos; holding [v] (truthy v)) := by intro _; rfl) : PT X a (tTru X.K ta) := pt_truth ha he
theorem pi_tupK {X : Cx} {K : PySem.W.Frag} {tg l : Expr} {tl : TE} (hl : PE X l tl) (hK : X.K = K := by rfl) : PI X tg l (iTup K tl) := hK ▸ pi_tup hl
theorem pi_listK {X : Cx} {K : PySem.W.Frag} {tg l : Expr} {tl : TE} (hl : PE X l tl) (hK : X.K = K := by rfl) : PI X tg l (iList K tl) := hK ▸ pi_list hl
structure BI2 (mg : Str → Option Value) : Prop where
  dict : mg "dict" = none
  set : mg "set" = none
section
variable {K : PySem.W.Frag} {σ : L2.St} {F H : Hp} {te ta : TE} {ds : List PyData} {D : Ends}
theorem isEmpty_dq {F : Hp} : ∀ {vs : List V} {ds : List PyData}, DqAll K F vs ds → vs.isEmpty = ds.isEmpty
  | _, _, .nil => rfl
  | _, _, .cons _ _ => rfl
theorem eb_truT (h : EvD K te σ F (.tuple ds)) : EvB (tTru K te) σ F (!ds.isEmpty) := fun H s Q q => h H s _ fun v F1 H1 g r => by
  cases r with
  | tup a b => exact ⟨!ds.isEmpty, .inr (.inl ⟨_, same_seqT g.i a, by rw [isEmpty_dq b]⟩), q F1 H1 g⟩
theorem eb_truL (h : EvD K te σ F (.list ds)) : EvB (tTru K te) σ F (!ds.isEmpty) := fun H s Q q => h H s _ fun v F1 H1 g r => by
  cases r with
  | lst a b => exact ⟨!ds.isEmpty, .inl ⟨_, g.i.seq a, by rw [isEmpty_dq b]⟩, q F1 H1 g⟩
theorem ev_din {i : Nat} {p : Addr} {kvs : List (Key × V)} {n : Str} (h : EvD K te σ F (.str n)) (hi : σ[i]? = some (some (.ref p))) (hp : F p = some (.dK kvs)) : EvD K (tDIn te (tVar i)) σ F (.bool (valV kvs (.inr n)).isSome) := fun H s Q q => h H s _ fun v F1 H1 g r => by
  cases r
  exact ⟨.ref p, hi, p, _, rfl, DGet.k (k := .inr n) (g.i _ _ (g.f _ _ hp)), q _ F1 H1 g (.bl _)⟩
theorem ev_dgetS {i : Nat} {p : Addr} {kvs : List (Key × V)} {n : Str} {v : V} {d : PyData} (h : EvD K te σ F (.str n)) (hi : σ[i]? = some (some (.ref p))) (hp : F p = some (.dK kvs)) (hv : valV kvs (.inr n) = some v) (hd : ∀ F, Dq K F v d) : EvD K (tDGet (tVar i) te) σ F d := fun H s Q q =>
  ⟨.ref p, hi, h H s _ fun u F1 H1 g r => by
    cases r
    exact ⟨p, v, rfl, hv ▸ DGet.k (k := .inr n) (g.i _ _ (g.f _ _ hp)), q v F1 H1 g (hd F1)⟩⟩
theorem s_augI {i : Nat} {m k : Int} (hi : σ[i]? = some (some (.int m))) (he : EvD K te σ F (.int k)) (s : Same F H) (kk : ∀ F' H', Grow F H F' H' → D.nx (σ.set i (some (.int (m + k)))) H') : tAug i te (ipI fun i j => i + j) D σ H :=
  ⟨.int m, hi, he H s _ fun v F1 H1 g r => by
    cases r
    exact ⟨m, k, rfl, rfl, kk F1 H1 g⟩⟩
end
end Sx
set_option Elab.async false
set_option linter.all false
set_option maxRecDepth 100000
set_option maxHeartbeats 1000000
/-! Y17: set(list of texts), sorted(set), set(tuple of ints). -/
namespace Sx
open PySem PySem.Spec PyProof.Rows L2
open C8 (Cal pe_c pe_gc)
theorem perm_same {α : Type} [DecidableEq α] : ∀ {l m : List α}, l.Nodup → (∀ x ∈ l, x ∈ m) → m.length ≤ l.length → m.Perm l
  | [], m, _, _, h => by
    have : m = [] := List.eq_nil_of_length_eq_zero (Nat.le_zero.mp h)
    rw [this]
  | a :: l, m, hn, hs, hl => by
    rw [List.nodup_cons] at hn
    have ha : a ∈ m := hs a List.mem_cons_self
    have p := List.perm_cons_erase ha
    refine p.trans (List.Perm.cons a (perm_same hn.2 (fun x hx => ?_) ?_))
    · exact (List.mem_erase_of_ne (fun (z : x = a) => hn.1 (z ▸ hx))).mpr (hs x (List.mem_cons_of_mem _ hx))
    · rw [List.length_erase_of_mem ha]
      rw [List.length_cons] at hl
      omega
/-- the table's own order -/
def Walkable (w : World) (D : Froz.SD) : Prop := Ris D.2.2.place.toList ∧ (w.params.followText "set-order" = true ∨ D.2.2.led = true)
/-- a set of the texts l -/
def SetTx (P : Program) (w : World) (h : Heap) (a : Addr) (l : List Str) : Prop := ∃ D, h.get? a = some (Froz.sObj "set" D) ∧ Froz.TxOk P w D l ∧ l.Nodup ∧ l.length < scanBound ∧ Walkable w D
theorem tail_walks {w : World} {ep : Nat} {es : Array (Int × Value)} {t : SetTable} {b : Bool} (h : Walkable w (es, ep, t)) : Walkable w (Froz.tailTx ep es t b) := by
  unfold Froz.tailTx
  split
  · exact ⟨relayAll_ris _ _ _, h.2.imp id fun z => (relayAll_led _ _ _).trans z⟩
  · exact h
theorem add_walks {w : World} {D : Froz.SD} (k : Int) (v : Value) (h : Walkable w D) : Walkable w (Froz.addTx k v D) := by
  obtain ⟨es, ep, t⟩ := D
  have h1 := layNew_ris t es k v h.1
  have h2 := h.2.imp id fun z => (layNew_led t es k v).trans z
  unfold Froz.addTx
  refine tail_walks ?_
  split
  · exact ⟨h1, h2⟩
  · exact ⟨h1, h2⟩
section
variable {P : Program} {w : World} {A : Around} {E : Value → Shared → Prop} {s : Shared}
theorem add_has {a : Addr} {T : String} {D : Froz.SD} {l : List Str} {k : Str} {u : Tok} {Q : Bool → Shared → Prop} (ho : s.heap.get? a = some (Froz.sObj T D)) (F : Froz.TxOk P w D l) (hk : k ∈ l) (hb : l.length < scanBound)
    (h : Q false s) : wpAny (model P w) A (setAddHashed a (.str k u) (hashStr w k)) Q E s := by
  obtain ⟨es, ep, t⟩ := D
  have hd : (Froz.sObj T (es, ep, t)).data = .set es ep t := rfl
  have hb0 : es.size < scanBound := by rw [show es.size = l.length from F.sz]; exact hb
  unfold setAddHashed setAddHashedIn
  refine wpAny_holding (wpAny_bind (wpAny_setState_of ho hd F.fit ?_))
  dsimp only
  rw [byScan_of rfl hb0 F.el, if_pos rfl]
  unfold setAddByScan
  refine wpAny_bind (wpAny_bind (wpAny_rule ?_))
  refine wpAny_bind (wpAny_setScan_of (knd := strKind P w) (k := k) (Froz.is_str k u) ho hd F.fit F.el ?_)
  obtain ⟨e, he, hke⟩ := (F.mem k).mp hk
  cases hr : List.findIdx? (fun e => (strKind P w).is k e.2) es.toList with
  | none => exact absurd hke (by simpa using (List.findIdx?_eq_none_iff.mp hr) e he)
  | some j =>
    dsimp only
    exact wpAny_pure (wpAny_pure h)
/-- the loop of set(..) over texts: those met so far are in the set -/
theorem strs_loop {I S : Addr} {fp wr : List Addr} {G : Array GenState → Array GenState → Prop} {n : Nat} {Pv : Nat → Value → Prop} {St : Nat → Shared → Prop} {R : Result → Shared → Prop}
    (W : WalksS P w A.in1 I fp wr G n Pv St) (hS : S ∉ fp) (ss : List Str) (hn : n = ss.length) (hb : ss.length + 1 < scanBound) (hv : ∀ i v, Pv i v → ∃ z t, ss[i]? = some z ∧ v = .str z t) :
    ∀ (k i : Nat) (s : Shared), n = i + k → St i s → (∃ l, SetTx P w s.heap S l ∧ l.length ≤ i ∧ ∀ x, x ∈ l ↔ x ∈ ss.take i) →
      (∀ s' l, Moved (S :: wr) G s s' → SetTx P w s'.heap S l → (∀ x, x ∈ l ↔ x ∈ ss) → R (.ok (.ret .none)) s') → codeAny (model P w) A (.builtin "set.update.loop" ⟨[.ref S, .ref I], []⟩) R s := by
  have hSw : S ∉ wr := fun h => hS (W.sub _ h)
  have up : ∀ {s s' : Shared}, Moved wr G s s' → Moved (S :: wr) G s s' := fun h => h.mono fun b hb => List.mem_cons_of_mem _ hb
  have keep : ∀ {s s' : Shared} {l : List Str}, Moved wr G s s' → SetTx P w s.heap S l → SetTx P w s'.heap S l := fun hm ⟨D, ho, r⟩ => ⟨D, hm.heap S _ hSw ho, r⟩
  intro k
  induction k with
  | zero =>
    intro i s e st ⟨l, hl, _, hm⟩ q
    rw [Nat.add_zero] at e
    subst e
    refine codeAny_builtin PyProof.Rows.F.entry_set_update_loop ?_
    rw [Around.under_plainId PyProof.Rows.F.plain_set_update_loop _]
    show wpAny _ A.in1 (pyNext (.ref I) >>= _) _ _ s
    refine wpAny_bind (W.done s _ _ st fun s' hmv => ?_)
    show wpAny _ A.in1 (ret Value.none) _ _ s'
    rw [List.take_of_length_le (by omega)] at hm
    exact wpAny_pure (q s' l (up hmv) (keep hmv hl) hm)
  | succ k ih =>
    intro i s e st ⟨l, hl, hli, hm⟩ q
    refine codeAny_builtin PyProof.Rows.F.entry_set_update_loop ?_
    rw [Around.under_plainId PyProof.Rows.F.plain_set_update_loop _]
    show wpAny _ A.in1 (pyNext (.ref I) >>= _) _ _ s
    refine wpAny_bind (W.item i s _ _ (by omega) st fun v s' hP st' hmv => ?_)
    obtain ⟨z, t, hz, rfl⟩ := hv i v hP
    obtain ⟨D, ho, hok, hnd, hlb, hwk⟩ := keep hmv hl
    show wpAny _ A.in1 (holding [Value.str z t] (setAdd S (.str z t)) >>= _) _ _ s'
    refine wpAny_bind (wpAny_holding ?_)
    unfold setAdd
    refine wpAny_holding ?_
    refine wpAny_bind ((strKind P w).pyHash (k := z) (Froz.is_str z t) ?_)
    have et : ss.take (i + 1) = ss.take i ++ [z] := by rw [List.take_add_one, hz]; rfl
    have go : ∀ (h' : Heap) (l' : List Str), Heap.SameBut S s'.heap h' → SetTx P w h' S l' → l'.length ≤ i + 1 → (∀ x, x ∈ l' ↔ x ∈ ss.take (i + 1)) → codeAny (model P w) A (.builtin "set.update.loop" ⟨[.ref S, .ref I], []⟩) R { s' with heap := h', toks := s'.toks + 1 } := fun h' l' hsb hl' hli' hm' =>
      ih (i + 1) _ (by omega) (W.frame _ s' _ _ st' (Nat.le_succ _) fun b hb o e => by rw [hsb.2 b (fun h : b = S => hS (h ▸ hb))]; exact e) ⟨l', hl', hli', hm'⟩ fun s'' l'' hm2 hl2 hall =>
        q s'' l'' (Moved.trans W.gtrans ((up hmv).then_heap (Nat.le_succ _) fun b o hb e => by rw [hsb.2 b (fun h : b = S => hb (by rw [h]; exact List.mem_cons_self))]; exact e) hm2) hl2 hall
    by_cases hin : z ∈ l
    · refine add_has (s := { s' with toks := s'.toks + 1 }) ho hok hin hlb ?_
      refine wpAny_pure ⟨plainId_quiet PyProof.Rows.F.plain_set_update_loop _, go s'.heap l ⟨rfl, fun _ _ => rfl⟩ ⟨D, ho, hok, hnd, hlb, hwk⟩ (by omega) fun x => ?_⟩
      rw [et, List.mem_append, ← hm x, List.mem_singleton]
      exact ⟨.inl, fun h => h.elim id fun h => h ▸ hin⟩
    · refine Froz.add_x (s := { s' with toks := s'.toks + 1 }) ho hok hin (by omega) ?_
      have hsb : Heap.SameBut S s'.heap (s'.heap.update S fun _ => Froz.sObj "set" (Froz.addTx (hashStr w z) (.str z t) D)) := ⟨by rw [Heap.size_after_update], fun b hb => Heap.get?_update_other _ _ (Ne.symm hb)⟩
      refine wpAny_pure ⟨plainId_quiet PyProof.Rows.F.plain_set_update_loop _, go _ (z :: l) hsb ⟨_, Froz.get_upd _ ho rfl, Froz.add_ok t hok, List.nodup_cons.mpr ⟨hin, hnd⟩, by rw [List.length_cons]; omega, add_walks _ _ hwk⟩ (by rw [List.length_cons]; omega) fun x => ?_⟩
      rw [et, List.mem_append, ← hm x, List.mem_singleton, List.mem_cons]
      exact Or.comm
def freshSet (w : World) : Obj := { cls := .type "set", dict := none, data := .set #[] 0 (.fresh 0 0 (!w.params.followText "set-order")) }
theorem fresh_tx {h : Heap} {a : Addr} (ho : h.get? a = some (freshSet w)) : SetTx P w h a [] := by
  refine ⟨(#[], 0, .fresh 0 0 (!w.params.followText "set-order")), ho, Froz.TxOk.nil rfl, List.nodup_nil, by decide, List.Pairwise.nil, ?_⟩
  show _ ∨ (!w.params.followText "set-order") = true
  cases w.params.followText "set-order"
  · exact .inr rfl
  · exact .inl rfl
set_option maxHeartbeats 3200000 in
theorem call_setStr {l : Addr} {items : Array Value} {ss : List Str} {Q : Value → Shared → Prop} (hh : A.handled = none) (hl : s.heap.IsList l items) (hit : StrsAre items.toList ss) (hb : ss.length + 1 < scanBound)
    (h : ∀ (h' : Heap) (tk : Nat) (ls : List Str), SetTx P w h' s.heap.objs.size ls → (∀ x, x ∈ ls ↔ x ∈ ss) → (∀ b o, s.heap.get? b = some o → h'.get? b = some o) → Q (.ref s.heap.objs.size) { s with heap := h', toks := tk }) :
    wpAny (model P w) A (call (.type "set") [.ref l]) Q E s := by
  have hlen : items.size = ss.length := by
    have : ∀ {us : List Value} {ss : List Str}, StrsAre us ss → us.length = ss.length := fun h => by
      induction h with
      | nil => rfl
      | cons _ _ _ ih => exact congrArg (· + 1) ih
    have e := this hit
    rw [Array.length_toList] at e
    exact e
  have hat : ∀ (i : Nat) (v : Value), items[i]? = some v → ∃ z t, ss[i]? = some z ∧ v = .str z t := by
    have : ∀ {us : List Value} {ss : List Str}, StrsAre us ss → ∀ (i : Nat) (v : Value), us[i]? = some v → ∃ z t, ss[i]? = some z ∧ v = .str z t := fun h => by
      induction h with
      | nil => exact fun i v e => by simp at e
      | cons y t _ ih =>
        intro i v e
        cases i with
        | zero =>
          simp at e
          exact ⟨y, t, rfl, e.symm⟩
        | succ i => exact ih i v (by simpa using e)
    exact fun i v e => this hit i v (by rw [Array.getElem?_toList]; exact e)
  obtain ⟨c, tl, hmro⟩ := PySem.F.called_set.mro
  have hmade := PySem.F.called_set.made
  have hsub := PySem.F.called_set.sub
  refine wpAny_call (codeAny_of_tree ?_)
  show wpAny _ _ (callAny (.type "set") _) _ _ _
  refine wpAny_pure ⟨Code.quiet_builtin _ (by decide +kernel), codeAny_builtin PySem.F.entry_type_call ?_⟩
  rw [Around.under_plain (weight_type_call_type "set" [.ref l] []) rfl]
  have h1 := PySem.F.called_set.notType
  have h2 := PySem.F.called_set.canCreate
  have hct := PySem.F.typeCall_set_1 (.ref l)
  repeat (any_goals (first | assumption | wp_step))
  refine codeAny_mono (code_set_led1 (.ref l) (E := E) (Q₁ := fun obj s₁ => obj = .ref s.heap.objs.size ∧ s₁ = { s with heap := s.heap.push (freshSet w) }) ⟨rfl, rfl⟩) fun r s₁ hr => ?_
  cases r with
  | error e => exact hr
  | ok fl =>
    cases fl with
    | ret obj =>
      obtain ⟨rfl, rfl⟩ := hr
      have hS : (s.heap.push (freshSet w)).get? s.heap.objs.size = some (freshSet w) := Heap.get?_push_size _ rfl
      have hT : Shared.TypeIs { s with heap := s.heap.push (freshSet w) } (.ref s.heap.objs.size) "set" := ⟨_, hS, rfl⟩
      have hli := PySem.F.called_set.init.lookup
      have hbi := PySem.F.called_set.init.bind (.ref s.heap.objs.size)
      repeat (any_goals (first | assumption | wp_step))
      refine codeAny_mono (codeAny_call_builtin (R := wants (fun r s₂ => r = .none ∧ ∃ h' tk ls, s₂ = { s with heap := h', toks := tk } ∧ SetTx P w h' s.heap.objs.size ls ∧ (∀ x, x ∈ ls ↔ x ∈ ss) ∧
          (∀ b o, s.heap.get? b = some o → h'.get? b = some o)) E) PySem.F.called_set.init.plain PySem.F.entry_set_init (PySem.check_set_init_1 hT ?_)) fun r₂ s₂ hr₂ => ?_
      · obtain ⟨⟨ocls, odict, odata, oslots⟩, hol, hcl, nl, hdl⟩ := hl
        simp only at hcl hdl
        subst hcl; subst hdl
        have hol' : (s.heap.push (freshSet w)).get? l = some { cls := .type "list", dict := odict, data := .seq items nl, slots := oslots } := Heap.get?_push_of_some _ hol
        have hsls := PySem.F.sub_list_set
        have hslf := PySem.F.sub_list_frozenset
        have hne : (Value.type "list" == Value.type "dict") = false := by decide
        have hl1 : (s.heap.push (freshSet w)).IsList l items := ⟨_, hol', rfl, nl, rfl⟩
        unfold Builtin.«set.__init__» noKeywords Builtin.Frozenset.updateFrom
        generalize hPI : pyIter = PI
        wp_walk
        subst hPI
        refine wpAny_pyIter_list hl1 ?_
        refine wpAny_bind (wpAny_runValue ?_)
        have hlS : l < s.heap.objs.size := Heap.lt_size hol
        have hz1 : (s.heap.push (freshSet w)).objs.size = s.heap.objs.size + 1 := Heap.size_push ..
        have hneI : l ≠ (s.heap.push (freshSet w)).objs.size := by
          rw [hz1]
          exact Nat.ne_of_lt (Nat.lt_succ_of_lt hlS)
        have hSf : s.heap.objs.size ∉ [(s.heap.push (freshSet w)).objs.size, l] := by
          rw [hz1]
          simp only [List.mem_cons, List.not_mem_nil, or_false, not_or]
          exact ⟨Nat.ne_of_lt (Nat.lt_succ_self _), Nat.ne_of_gt hlS⟩
        refine strs_loop ((Walks.list (by simp [hh]) _ l hneI items).toS) hSf ss hlen hb hat items.size 0 _ (Nat.zero_add _).symm ⟨⟨_, Heap.get?_push_size _ rfl, rfl, rfl⟩, hl1.push _⟩
          ⟨[], fresh_tx (Heap.get?_push_of_some _ hS), Nat.le_refl _, fun x => by simp⟩ fun s' ls hm hls hall => ?_
        obtain ⟨h', g2, d', tk', os'⟩ := s'
        have eg : g2 = s.gens := hm.gens
        have ed : d' = s.drawn := hm.drawn
        have eo : os' = s.os := hm.os
        subst eg; subst ed; subst eo
        show wpAny _ _ _ _ _ _
        refine wpAny_pure ?_
        show wpAny _ _ (ret Value.none) _ _ _
        refine wpAny_pure ⟨rfl, h', tk', ls, rfl, hls, hall, fun b o e => ?_⟩
        have hb0 : b < s.heap.objs.size := Heap.lt_size e
        refine hm.heap b o ?_ (Heap.get?_push_of_some _ (Heap.get?_push_of_some _ e))
        rw [hz1]
        simp only [List.mem_cons, List.not_mem_nil, or_false, not_or]
        exact ⟨Nat.ne_of_lt hb0, Nat.ne_of_lt (Nat.lt_succ_of_lt hb0)⟩
      · cases r₂ with
        | error e => exact hr₂
        | ok fl₂ =>
          cases fl₂ with
          | ret r =>
            obtain ⟨rfl, h', tk, ls, rfl, hls, hall, hk'⟩ := hr₂
            repeat (any_goals (first | assumption | wp_step))
            exact h _ _ ls hls hall hk'
          | _ => exact hr₂.elim
    | _ => exact hr.elim
end
end Sx
set_option Elab.async false
set_option linter.all false
set_option maxRecDepth 100000
set_option maxHeartbeats 1000000
/-! Y18: sorted(set of texts); the rules. -/
namespace Sx
open PySem PySem.Spec PyProof.Rows L2
open C8 (Cal pe_c pe_gc)
def strV : Value → Str
  | .str x _ => x
  | _ => ""
theorem strs_map : ∀ (l : List Value), (∀ v ∈ l, ∃ x t, v = Value.str x t) → StrsAre l (l.map strV)
  | [], _ => .nil
  | v :: r, h => by
    obtain ⟨x, t, rfl⟩ := h v List.mem_cons_self
    exact .cons x t (strs_map r fun v hv => h v (List.mem_cons_of_mem _ hv))
section
variable {P : Program} {w : World} {A : Around} {E : Value → Shared → Prop} {s : Shared}
theorem sorted_setTx {a : Addr} {l : List Str} {Q : Value → Shared → Prop} (R : SetTx P w s.heap a l) (hh : A.handled = none) (h64 : l.length < 64)
    (hQ : ∀ s' p (out : Array Value) (c : Nat) (ys : List Str), (∀ b o, s.heap.get? b = some o → s'.heap.get? b = some o) → s'.gens = s.gens → s'.os = s.os → s.heap.objs.size ≤ p →
      s'.heap.get? p = some (seqObj "list" out c) → StrsAre out.toList ys → ys.Perm l → sortedS ys = true → Q (.ref p) s') :
    wpAny (model P w) A (call (.builtin "sorted") [.ref a]) Q E s := by
  obtain ⟨⟨es, ep, t⟩, ho, hok, hnd, hlb, hr, hl⟩ := R
  have hsz : es.size = l.length := hok.sz
  refine Calls.call_function_entry kind_sorted plain_sorted entry_sorted (args_sorted1 _) ?_
  unfold Builtin.«sorted»
  refine wpAny_bind (m := checkCount "sorted" 1 1 _) (wpAny_pure ?_)
  refine wpAny_bind (collect_set (A := A.in1) hh ⟨_, ho, rfl, rfl⟩ hok.fit (by rw [hsz]; exact hlb) hr hl fun s1 vs k1 hz g1 o1 pm => ?_)
  have hvl : vs.length = l.length := by rw [pm.length_eq, List.length_map, Array.length_toList, hsz]
  have isS : ∀ v ∈ vs, ∃ x t, v = Value.str x t := fun v hv => by
    obtain ⟨e, he, q⟩ := List.mem_map.mp (pm.mem_iff.mp hv)
    obtain ⟨⟨k, hk, _⟩, _⟩ := hok.el e he
    have hk' : Value.isStrOf k e.2 = true := hk
    rw [q] at hk'
    cases v with
    | str x t => exact ⟨x, t, rfl⟩
    | _ => cases hk'
  have hS := strs_map vs isS
  have pk : (vs.map strV).Perm l := by
    refine perm_same hnd (fun x hx => ?_) (by rw [List.length_map, hvl]; exact Nat.le_refl _)
    obtain ⟨e, he, hke⟩ := (hok.mem x).mp hx
    have hke' : Value.isStrOf x e.2 = true := hke
    refine List.mem_map.mpr ⟨e.2, pm.mem_iff.mpr (List.mem_map.mpr ⟨e, he, rfl⟩), ?_⟩
    obtain ⟨y, t, hy⟩ := isS e.2 (pm.mem_iff.mpr (List.mem_map.mpr ⟨e, he, rfl⟩))
    rw [hy] at hke' ⊢
    show y = x
    simpa [Value.isStrOf] using hke'
  refine wpAny_bind (wpAny_newList ?_ (by rw [hvl, sizeLine_eq]; omega))
  have hoL : (s1.heap.push (seqObj "list" vs.toArray 0)).get? s1.heap.objs.size = some (seqObj "list" vs.toArray 0) := Heap.get?_push_size _ rfl
  refine wpAny_bind (wpAny_holding (wpAny_call_entry slot_list_sort ⟨_, hoL, rfl⟩ entry_list_sort (list_sort_treeKAny strKind_oneLt hoL hS.keysOf (fun v₁ v₂ rest e => keyKind_strs (by rw [← e]; exact hS)) (by rw [hvl, sizeLine_eq]; omega) fun st' hp hs => ⟨_, rfl, ?_⟩) (args_list_sort _)))
  obtain ⟨ys, a1, a2, a3⟩ := sorted_out_str hS hp hs
  obtain ⟨c, hc⟩ := sortedHeap_at (vs := vs) (out := (arrOf st').map (·.2)) hoL
  refine wpAny_pure ⟨_, rfl, hQ _ s1.heap.objs.size _ c ys (fun b u e => ?_) g1 o1 hz hc a1 (a2.trans pk) a3⟩
  have q := k1 b u e
  have hlt := Heap.lt_size q
  show (sortedHeap (s1.heap.push (seqObj "list" vs.toArray 0)) s1.heap.objs.size vs _).get? b = some u
  rw [sortedHeap_old (Nat.ne_of_lt hlt) (by rw [Heap.size_push]; exact Nat.lt_succ_of_lt hlt)]
  exact Heap.get?_push_of_some _ q
end
/-! ### the rules -/
def SetSO (P : Program) (w : World) (a : Addr) (l : List Str) : HO := .ext fun h => SetTx P w h a l
section
variable {X : Cx}
theorem setSO_new {P : Program} {w : World} {H : Hp} {h : Heap} {a : Addr} {l : List Str} (R : SetTx P w h a l) : ObjOk P w H h a (SetSO P w a l) :=
  ⟨R, let ⟨D, ho, _⟩ := R; ⟨_, ho⟩, fun _ _ ⟨D, ho, r⟩ k => ⟨D, k _ ho, r⟩⟩
abbrev rSetStr (K : PySem.W.Frag) (P : Program) (w : World) : List V → Hp → VK → Prop := fun xs H Q => ∃ (a : Addr) (ss : List Str), xs = [V.ref a] ∧ SqL K H a (ss.map V.str) ∧ ss.length ≤ 60 ∧
  ∀ (p : Addr) (l : List Str), H p = none → l.Nodup → (∀ x, x ∈ l ↔ x ∈ ss) → Q (.ref p) (upd H p (SetSO P w p l))
theorem call_setStrL (hc : X.calm = true) : CallR X (.type "set") (rSetStr X.K X.prog X.w) := by
  intro pins s σ H xs us Q I r h
  obtain ⟨a, ss, rfl, hs, h60, q⟩ := h
  obtain ⟨its, rv, hl, _⟩ := I.list hs
  rw [Vals.ref1 r]
  refine call_setStr (I.ok.hd hc) hl.isList (by rw [Array.toArray_toList] <;> first | exact rv.strs | simpa using rv.strs) (by unfold scanBound; omega) fun h' tk ls hls hall hk => ?_
  have hnd : ls.Nodup := let ⟨_, _, _, h, _⟩ := hls; h
  exact ⟨.ref _, upd H s.heap.objs.size (SetSO X.prog X.w s.heap.objs.size ls), I.laid (t' := tk) hk (Nat.le_refl _) (setSO_new hls), rfl, q _ ls (I.hok.fresh (Nat.le_refl _)) hnd hall⟩
abbrev rSortedSS (P : Program) (w : World) : List V → Hp → VK → Prop := fun vs H Q => ∃ (a : Addr) (l : List Str), vs = [V.ref a] ∧ H a = some (SetSO P w a l) ∧ l.length < 64 ∧
  ∀ (ys : List Str) (p : Addr), ys.Perm l → sortedS ys = true → H p = none → Q (.ref p) (upd H p (.lst (ys.map V.str)))
theorem cr_sortedSS (hc : X.calm = true) : CallR X (.builtin "sorted") (rSortedSS X.prog X.w) := by
  intro pins s σ H vs us Q I r h
  obtain ⟨a, l, rfl, ha, h64, q⟩ := h
  obtain ⟨R, _, _⟩ := (show ObjOk X.prog X.w H s.heap a (SetSO X.prog X.w a l) from I.hok a _ ha)
  rw [Vals.ref1 r]
  refine sorted_setTx R (I.ok.hd hc) h64 fun s' p out c ys k g o hp hg hi hs hm => ?_
  have hlen : (ys.map V.str).length ≤ sizeLine := by rw [List.length_map, hs.length_eq, sizeLine_eq]; omega
  have hn : H p = none := I.hok.fresh hp
  have J : Inv X pins σ (upd H p (.lst (ys.map V.str))) { s with heap := s'.heap, gens := s'.gens, drawn := s'.drawn, toks := s'.toks } :=
    I.call (ch := []) (Un.laid k hp hn) (I.hok.laid k hp ⟨hlen, out.toList, c, vals_of_strs hi, hg⟩) (by rw [g]; exact I.bare) (fun _ z => nomatch z)
  have e : s' = { s with heap := s'.heap, gens := s'.gens, drawn := s'.drawn, toks := s'.toks } := by
    cases s'
    cases s
    cases o
    rfl
  rw [e]
  exact ⟨.ref p, _, J, rfl, q ys p hs hm hn⟩
/-- set(t) of a tuple of ints -/
abbrev rSetIntT (K : PySem.W.Frag) (w : World) : List V → Hp → VK → Prop := fun xs H Q => ∃ (a : Addr) (ns : List Int), xs = [V.ref a] ∧ SqT K H a (ns.map V.int) ∧ ns.length ≤ 60 ∧
  ∀ (p : Addr) (n : Nat), H p = none → n ≤ ns.length → Q (.ref p) (upd H p (SetO w p (fun j => decide (j ∈ ns)) n))
theorem call_setIntT (hc : X.calm = true) : CallR X (.type "set") (rSetIntT X.K X.w) := by
  intro pins s σ H xs us Q I r h
  obtain ⟨a, ns, rfl, hs, h60, q⟩ := h
  obtain ⟨its, rv, hl, _⟩ := I.tuple hs
  rw [Vals.ref1 r]
  refine call_set_tupI (P := X.prog) ns (I.ok.hd hc) hl (by simpa using rv.ints) (by unfold scanBound; omega) fun h' tk c hc' hle hk => ?_
  exact ⟨.ref _, upd H s.heap.objs.size (SetO X.w s.heap.objs.size (fun j => decide (j ∈ ns)) c), I.laid (t' := tk) hk (Nat.le_refl _) (setO_new hc'), rfl, q _ c (I.hok.fresh (Nat.le_refl _)) hle⟩
end
end Sx
set_option Elab.async false
set_option linter.all false
set_option maxRecDepth 100000
set_option maxHeartbeats 1000000
/-! Y19: l == sorted(set(l)); list(t); x <= y of texts. -/
namespace Sx
open PySem PySem.Spec PyProof.Rows L2
open C8 (Cal pe_c pe_gc)
/-! ### lists that rise -/
theorem pair_eq {α : Type} {R : α → α → Prop} (as : ∀ a b, R a b → R b a → False) : ∀ {l m : List α}, l.Pairwise R → m.Pairwise R → l.Perm m → l = m
  | [], m, _, _, p => (List.nil_perm.mp p).symm
  | a :: l, [], _, _, p => absurd p.length_eq (by simp)
  | a :: l, b :: m, hl, hm, p => by
    rw [List.pairwise_cons] at hl hm
    have e : a = b := by
      rcases List.mem_cons.mp (p.mem_iff.mp List.mem_cons_self) with e | e
      · exact e
      rcases List.mem_cons.mp (p.mem_iff.mpr List.mem_cons_self) with e2 | e2
      · exact e2.symm
      · exact (as a b (hl.1 b e2) (hm.1 a e)).elim
    subst e
    rw [pair_eq as hl.2 hm.2 (List.perm_cons a |>.mp p)]
abbrev ltS (a b : Str) : Prop := a.cps.toList < b.cps.toList
theorem ltS_as (a b : Str) (h1 : ltS a b) (h2 : ltS b a) : False := List.lt_irrefl _ (List.lt_trans h1 h2)
theorem str_ext {a b : Str} (h : a.cps.toList = b.cps.toList) : a = b := by
  obtain ⟨x⟩ := a
  obtain ⟨y⟩ := b
  have h' : x.toList = y.toList := h
  rw [Array.toList_inj] at h'
  rw [h']
theorem ltS_tri {a b : Str} (h : ¬ ltS b a) (hne : a ≠ b) : ltS a b := by
  rcases List.le_total (l₁ := a.cps.toList) (l₂ := b.cps.toList) with z | z
  · apply Classical.byContradiction
    intro q
    exact hne (str_ext (List.le_antisymm (List.not_lt.mp h) (List.not_lt.mp q)))
  · apply Classical.byContradiction
    intro q
    exact hne (str_ext (List.le_antisymm (List.not_lt.mp h) (List.not_lt.mp q)))
theorem sorted_pair : ∀ {ys : List Str}, sortedS ys = true → ys.Nodup → ys.Pairwise ltS
  | [], _, _ => .nil
  | [a], _, _ => by simp
  | a :: b :: r, h, hn => by
    have h' : (!ltCps b.cps.toList a.cps.toList && risingS b r) = true := h
    rw [Bool.and_eq_true, Bool.not_eq_true', ltCps_eq] at h'
    rw [List.nodup_cons] at hn
    have ih := sorted_pair (ys := b :: r) h'.2 hn.2
    have ab : ltS a b := ltS_tri (of_decide_eq_false h'.1) fun z => hn.1 (z ▸ List.mem_cons_self)
    refine List.pairwise_cons.mpr ⟨fun y hy => ?_, ih⟩
    rcases List.mem_cons.mp hy with e | e
    · rw [e]
      exact ab
    · exact List.lt_trans ab ((List.pairwise_cons.mp ih).1 y e)
theorem nodup_le {α : Type} [DecidableEq α] : ∀ {l m : List α}, l.Nodup → (∀ x ∈ l, x ∈ m) → l.length ≤ m.length
  | [], _, _, _ => Nat.zero_le _
  | a :: l, m, hn, hs => by
    rw [List.nodup_cons] at hn
    have ha : a ∈ m := hs a List.mem_cons_self
    have ih := nodup_le (m := m.erase a) hn.2 fun x hx => (List.mem_erase_of_ne (fun (z : x = a) => hn.1 (z ▸ hx))).mpr (hs x (List.mem_cons_of_mem _ hx))
    rw [List.length_erase_of_mem ha] at ih
    have : 0 < m.length := List.length_pos_of_mem ha
    rw [List.length_cons]
    omega
theorem eqv_strs : ∀ a b : List Str, PyData.eqv (.list (a.map .str)) (.list (b.map .str)) = decide (a = b)
  | [], [] => rfl
  | [], _ :: _ => rfl
  | _ :: _, [] => rfl
  | x :: a, y :: b => by
    show ((x == y) && PyData.eqv (.list (a.map .str)) (.list (b.map .str))) = _
    rw [eqv_strs a b, Bool.eq_iff_iff, Bool.and_eq_true, beq_iff_eq, decide_eq_true_iff, decide_eq_true_iff, List.cons.injEq]
theorem eqv_ints : ∀ a b : List Int, PyData.eqv (.list (a.map .int)) (.list (b.map .int)) = decide (a = b)
  | [], [] => rfl
  | [], _ :: _ => rfl
  | _ :: _, [] => rfl
  | x :: a, y :: b => by
    show ((x == y) && PyData.eqv (.list (a.map .int)) (.list (b.map .int))) = _
    rw [eqv_ints a b, Bool.eq_iff_iff, Bool.and_eq_true, beq_iff_eq, decide_eq_true_iff, decide_eq_true_iff, List.cons.injEq]
theorem shaped_strsL {ss : List Str} (h : ∀ s ∈ ss, PyData.canLay0 (.str s) = true) : SeqAt.shaped (.list (ss.map .str)) = true := by
  have h1 : ∀ ss : List Str, (∀ s ∈ ss, PyData.canLay0 (.str s) = true) → PyData.canLayAll0 (ss.map .str) = true ∧ PyData.depthAll (ss.map .str) = 0 := fun ss => by
    induction ss with
    | nil => exact fun _ => ⟨rfl, rfl⟩
    | cons a r ih =>
      intro hs
      obtain ⟨i1, i2⟩ := ih fun s hm => hs s (List.mem_cons_of_mem _ hm)
      refine ⟨?_, ?_⟩
      · show (PyData.canLay0 (.str a) && PyData.canLayAll0 (r.map .str)) = true
        rw [i1, hs a List.mem_cons_self]
        rfl
      · show max (PyData.depth (.str a)) (PyData.depthAll (r.map .str)) = 0
        rw [i2]
        rfl
  obtain ⟨i1, i2⟩ := h1 ss h
  show (PyData.canLayAll0 (ss.map .str) && decide (PyData.depthAll (ss.map .str) + 1 ≤ 64)) = true
  rw [i1, i2]
  rfl
section
variable {K : PySem.W.Frag} {P : Program} {w : World} {σ : L2.St} {F : Hp} {tn te : TE}
theorem ev_eqSortS {ns : List Str} {b : Bool} (h : EvD K tn σ F (.list (ns.map .str))) (h' : EvD K te σ F (.list (ns.map .str))) (h60 : ns.length ≤ 60) (hlay : ∀ s ∈ ns, PyData.canLay0 (.str s) = true) (hb : b = true ↔ ns.Pairwise ltS) :
    EvD K (tOp (rEqD K) tn (tCB (rSortedSS P w) (tCons (tCB (rSetStr K P w) (tCons te tNil)) tNil))) σ F (.bool b) := fun H s Q q => h H s _ fun v1 F1 H1 g1 r1 => h'.up g1.f H1 g1.i _ fun v2 F2 H2 g2 r2 => by
  cases r2 with
  | lst a1 a2 =>
    rename_i p0 vs
    rw [dps_str a2] at a1
    refine ⟨p0, ns, rfl, g2.i.seq a1, h60, fun p l hp hnd hl => ⟨p, l, rfl, upd_same, ?_, fun ys p2 hys hsort hp2 => ?_⟩⟩
    · have := nodup_le hnd fun x hx => (hl x).mp hx
      omega
    have gg := g1.trans g2
    have hp0 : H p = none := gg.h.free hp
    have hpF : F2 p = none := g2.i.free hp
    have hne : p2 ≠ p := fun z => by rw [z, upd_same] at hp2; cases hp2
    have hp20 : H2 p2 = none := by rw [upd_ne hne] at hp2; exact hp2
    have g3 : Grow F2 H2 F2 (upd H2 p (SetSO P w p l)) := .own g2.i hp
    have g4 : Grow F2 (upd H2 p (SetSO P w p l)) F2 (upd (upd H2 p (SetSO P w p l)) p2 (.lst (ys.map V.str))) := .own g3.i hp2
    refine ⟨.list (ns.map .str), .list (ys.map .str), dq_dp _ _ (r1.up (g2.f.trans g4.i)) (no_strs _), .lst (.inl (.inl upd_same)) (dps_dqs' ys), shaped_strsL hlay, shaped_strsL fun s hs => hlay s ((hl s).mp (hys.mem_iff.mp hs)), ?_⟩
    rw [eqv_strs]
    have e : decide (ns = ys) = b := by
      rw [Bool.eq_iff_iff, decide_eq_true_iff, hb]
      have hyn : ys.Nodup := hys.nodup_iff.mpr hnd
      have hyp := sorted_pair hsort hyn
      constructor
      · intro z
        rw [z]
        exact hyp
      · intro hn
        have nn : ns.Nodup := hn.imp fun {x y} hxy z => by
          subst z
          exact ltS_as _ _ hxy hxy
        refine pair_eq ltS_as hn hyp ((perm_same hyn (fun x hx => (hl x).mp (hys.mem_iff.mp hx)) ?_))
        rw [hys.length_eq]
        exact nodup_le nn fun x hx => (hl x).mpr hx
    rw [e]
    exact q _ F2 _ ((gg.trans g3).trans g4) (.bl b)
where dps_dqs' {K : PySem.W.Frag} {F : Hp} : ∀ ys : List Str, L2.DpAll K F (ys.map V.str) (ys.map .str)
  | [] => .nil
  | y :: r => .cons (.str y) (dps_dqs' r)
theorem dps_ints {K : PySem.W.Frag} {F : Hp} : ∀ ys : List Int, L2.DpAll K F (ys.map V.int) (ys.map .int)
  | [] => .nil
  | y :: r => .cons (.int y) (dps_ints r)
theorem ev_eqSortI {ns : List Int} {b : Bool} (h : EvD K tn σ F (.list (ns.map .int))) (h' : EvD K te σ F (.tuple (ns.map .int))) (h60 : ns.length ≤ 60) (hb : b = true ↔ ns.Pairwise (· < ·)) :
    EvD K (tOp (rEqD K) tn (tCB (rSortedSet w) (tCons (tCB (rSetIntT K w) (tCons te tNil)) tNil))) σ F (.bool b) := fun H s Q q => h H s _ fun v1 F1 H1 g1 r1 => h'.up g1.f H1 g1.i _ fun v2 F2 H2 g2 r2 => by
  cases r2 with
  | tup a1 a2 =>
    rename_i p0 vs
    rw [dps_int a2] at a1
    refine ⟨p0, ns, rfl, same_seqT g2.i a1, h60, fun p n hp hn => ⟨p, _, n, rfl, upd_same, by omega, fun ys p2 hys hall hlen hp2 => ?_⟩⟩
    have gg := g1.trans g2
    have hne : p2 ≠ p := fun z => by rw [z, upd_same] at hp2; cases hp2
    have g3 : Grow F2 H2 F2 (upd H2 p (SetO w p (fun j => decide (j ∈ ns)) n)) := .own g2.i hp
    have g4 : Grow F2 (upd H2 p (SetO w p (fun j => decide (j ∈ ns)) n)) F2 (upd (upd H2 p (SetO w p (fun j => decide (j ∈ ns)) n)) p2 (.lst (ys.map V.int))) := .own g3.i hp2
    refine ⟨.list (ns.map .int), .list (ys.map .int), dq_dp _ _ (r1.up (g2.f.trans g4.i)) (no_ints _), .lst (.inl (.inl upd_same)) (dps_ints ys), shaped_ints ns, shaped_ints ys, ?_⟩
    rw [eqv_ints]
    have e : decide (ns = ys) = b := by
      rw [Bool.eq_iff_iff, decide_eq_true_iff, hb]
      constructor
      · intro z
        rw [z]
        exact hys
      · intro hn
        have nn : ns.Nodup := hn.imp fun {x y} hxy z => by omega
        have hyn : ys.Nodup := hys.imp fun {x y} hxy z => by omega
        have hm : ∀ x, x ∈ ys ↔ x ∈ ns := fun x => (hall x).trans decide_eq_true_iff
        refine pair_eq (fun a b h1 h2 => by omega) hn hys (perm_same hyn (fun x hx => (hm x).mp hx) (nodup_le nn fun x hx => (hm x).mpr hx))
    rw [e]
    exact q _ F2 _ ((gg.trans g3).trans g4) (.bl b)
abbrev rListOf (K : PySem.W.Frag) : List V → Hp → VK → Prop := fun xs H Q => ∃ p ys, xs = [.ref p] ∧ (SqL K H p ys ∨ SqT K H p ys) ∧ ∀ l, H l = none → Q (.ref l) (upd H l (.lst ys))
theorem rc_listT {ds : List PyData} : RcD K (rListOf K) [.tuple ds] (.list ds) := fun F xs H s r Q q => by
  cases r with
  | cons a b =>
    cases b
    cases a with
    | tup a1 a2 => exact ⟨_, _, rfl, .inr (same_seqT s a1), fun l hl => q _ _ _ (.known s hl) (.lst (.inl (.inl upd_same)) (a2.up (same_upd (s.free hl))))⟩
abbrev rLeS : R2 := fun x y H Q => ∃ i j : Str, x = .str i ∧ y = .str j ∧ Q (.bl (!decide (j.cps.toList < i.cps.toList))) H
theorem rv_leS {x y : Str} : RvD K rLeS (.str x) (.str y) (.bool (!decide (y.cps.toList < x.cps.toList))) := fun F u v H s a b Q q => by
  cases a
  cases b
  exact ⟨x, y, rfl, rfl, q _ F H (.start s) (.bl _)⟩
end
end Sx
set_option Elab.async false
set_option linter.all false
set_option maxRecDepth 100000
set_option maxHeartbeats 1000000
/-! Y20: tuples whose object stays known: tuple(zip(..)) and displays. -/
namespace Sx
open PySem PySem.Spec PyProof.Rows L2
open C8 (Cal pe_c pe_gc)
def tTupZipF (K : PySem.W.Frag) (ta : TA) : TE := fun σ H Q => ta σ H fun vs H1 => ∃ a b us ws, vs = [.ref a, .ref b] ∧ SqL K H1 a us ∧ SqL K H1 b ws ∧ us.length = ws.length ∧ ∀ ts H2, LayZ H1 us ws ts H2 → ∀ p, H2 p = none → ∀ o : Obj, o.dict = none → Q (.ref p) (upd H2 p (.frz o (.tup (ts.map V.ref))))
theorem pe_tupZipF {X : Cx} {e e2 : Expr} {ta : TA} {p p2 q pos : Pos} (hc : X.calm = true) (hg : Gl X "tuple") (hm : X.mg "tuple" = none) (hg2 : Gl X "zip") (hm2 : X.mg "zip" = none) (ha : PA X [e, e2] ta)
    (na : starEach [Expr.Call (.Name "zip" p2) [e, e2] [] q] X.env = (false, eval (Expr.Call (.Name "zip" p2) [e, e2] [] q) X.env) :: starEach [] X.env := by rfl)
    (hs : starEach [e, e2] X.env = (false, eval e X.env) :: starEach [e2] X.env := by rfl) (hpl : (backTo q (starEach [e2] X.env)).any (·.1) = false := by rfl) :
    PE X (.Call (.Name "tuple" p) [.Call (.Name "zip" p2) [e, e2] [] q] [] pos) (tTupZipF X.K ta) := by
  refine ⟨fun pins s σ H Q I h => ?_⟩
  refine Call_ (ld_blt I hg hm boot_tuple (PyProof.Rows.callWith_type1 (PyProof.Rows.args_cons (Call_ (ld_blt I hg2 hm2 PyProof.Rows.boot_zip (PyProof.Rows.callWith_type1 (thn (ha.run q pins s σ H _ I h) fun us0 s1 ⟨vs, H1, I1, r1, q1⟩ => ?_) hs hpl))) na) na rfl))
  obtain ⟨a, b, us, ws, ex, hx, hy, hl, q1⟩ := q1
  subst ex
  cases r1 with
  | cons r rr =>
    cases rr with
    | cons r' rr =>
      cases rr
      cases r
      cases r'
      obtain ⟨its, rv, p1, hz1⟩ := I1.list hx
      obtain ⟨its2, rv2, p2', _⟩ := I1.list hy
      have hle : ∀ c, s1.heap.objs.size ≤ c → FpOk X pins H1 c := fun c h => I1.fpOk h (I1.hok.fresh h)
      refine call_zip_2 p1.isList p2'.isList fun h' hz hTI hTO h1 h2 hsz hk => PyProof.Rows.args_nil ?_
      have I2 : Inv X pins σ H1 { s1 with heap := h' } := I1.kept (t' := s1.toks) hk
      refine call_tuple_zip (X := X) (pins := pins) (σ := σ) (us := us) (ws := ws) (xs := its.toArray) (ys := its2.toArray) (I1.ok.hd hc) (PySem.W.ktu_apart s1.heap.objs.size a b p1.lt p2'.lt) (by simpa using rv) (by simpa using rv2) hl hz1 I2 (fun c hcm => ?_)
        ⟨Nat.lt_of_lt_of_le p1.lt (by show s1.heap.objs.size ≤ h'.objs.size; rw [hsz]; exact Nat.le_add_right _ _), Nat.lt_of_lt_of_le p2'.lt (by show s1.heap.objs.size ≤ h'.objs.size; rw [hsz]; exact Nat.le_add_right _ _)⟩ hz ⟨_, _, hTO⟩ hTI h1 h2 (p1.isList.at fun o e => hk _ o e) (p2'.isList.at fun o e => hk _ o e) fun s' H' ts I3 lay => ?_
      · have e' : c = s1.heap.objs.size + 4 ∨ c = s1.heap.objs.size + 2 ∨ c = s1.heap.objs.size + 3 ∨ c = s1.heap.objs.size ∨ c = s1.heap.objs.size + 1 := by simpa using hcm
        show FpOk X pins H1 c ∧ c < h'.objs.size
        rw [hsz]
        have hle' : ∀ k, FpOk X pins H1 (s1.heap.objs.size + k) := fun k => hle _ (Nat.le_add_right _ _)
        rcases e' with e | e | e | e | e <;> rw [e]
        · exact ⟨hle' 4, Nat.add_lt_add_left (by decide) _⟩
        · exact ⟨hle' 2, Nat.add_lt_add_left (by decide) _⟩
        · exact ⟨hle' 3, Nat.add_lt_add_left (by decide) _⟩
        · exact ⟨hle' 0, Nat.lt_add_of_pos_right (by decide)⟩
        · exact ⟨hle' 1, Nat.add_lt_add_left (by decide) _⟩
      · refine ⟨.ref s'.heap.objs.size, upd H' s'.heap.objs.size (.frz { cls := .type "tuple", data := .seq (ts.map Value.ref).toArray } (.tup (ts.map V.ref))), I3.laid (t' := s'.toks) (fun c o e => Heap.get?_push_of_some _ e) (Nat.le_refl _) (show ObjOk X.prog X.w _ _ _ (.frz { cls := .type "tuple", data := .seq (ts.map Value.ref).toArray } (.tup (ts.map V.ref))) from ⟨Heap.get?_push_size _ rfl, ?_, _, vals_refsZ ts, IsTup.new _ _⟩), rfl, q1 ts H' lay _ (I3.hok.fresh (Nat.le_refl _)) _ rfl⟩
        rw [List.length_map, lay.len]
        exact hz1

def tTupF (t : TA) : TE := fun σ H Q => t σ H fun xs H1 => xs.length ≤ sizeLine ∧ ∀ p, H1 p = none → ∀ o : Obj, o.dict = none → Q (.ref p) (upd H1 p (.frz o (.tup xs)))
theorem pe_tupF {X : Cx} {es : List Expr} {t : TA} {x1} {pos : Pos} (h : PA X es t) : PE X (.Tuple es x1 pos) (tTupF t) := by
  refine ⟨fun pins s σ H Q I hq => ?_⟩
  refine wpAny_Tuple_spliced (thn (h.run pos pins s σ H _ I hq) fun us s1 ⟨xs, H1, I1, r, z, q⟩ => ⟨by rw [← r.length]; exact z, ?_⟩)
  have hf : H1 s1.heap.objs.size = none := I1.hok.fresh (Nat.le_refl _)
  refine ⟨.ref s1.heap.objs.size, upd H1 s1.heap.objs.size (.frz { cls := .type "tuple", data := .seq us.toArray } (.tup xs)), I1.laid (t' := s1.toks) (fun b u e => Heap.get?_push_of_some _ e) (Nat.le_refl _) ?_, rfl, q _ hf _ rfl⟩
  exact ⟨Heap.get?_push_size _ rfl, z, us, r, ⟨_, Heap.get?_push_size _ rfl, rfl, _, rfl⟩⟩
/-- a plain tuple of data -/
def PlD (K : PySem.W.Frag) (F : Hp) (v : V) (ds : List PyData) : Prop := ∃ a vs, v = .ref a ∧ PlT F a vs ∧ DqAll K F vs ds
theorem PlD.up {K : PySem.W.Frag} {F G : Hp} {v : V} {ds : List PyData} (h : PlD K F v ds) (s : Same F G) : PlD K G v ds := let ⟨a, vs, e, p, d⟩ := h; ⟨a, vs, e, p.up s, d.up s⟩
theorem PlD.dq {K : PySem.W.Frag} {F : Hp} {v : V} {ds : List PyData} (h : PlD K F v ds) : Dq K F v (.tuple ds) := by
  obtain ⟨a, vs, rfl, p, d⟩ := h
  exact .tup p.seq d
section
variable {K : PySem.W.Frag} {σ : L2.St} {F : Hp} {ta : TA} {ds es : List PyData}
theorem tupF_new (h : EvS K ta σ F ds) (hl : ds.length ≤ sizeLine) {H : Hp} (s : Same F H) {Q : VK} (q : ∀ v F' H', Grow F H F' H' → PlD K F' v ds → Q v H') : tTupF ta σ H Q := h H s _ fun vs F1 H1 g1 r1 =>
  ⟨by rw [r1.len]; exact hl, fun p hp o ho => q _ _ _ (g1.trans (.known g1.i hp)) ⟨p, vs, rfl, ⟨o, upd_same, ho⟩, r1.up (same_upd (g1.i.free hp))⟩⟩
theorem tupZipF_new (h : EvS K ta σ F [.list ds, .list es]) (hl : ds.length = es.length) {H : Hp} (s : Same F H) {Q : VK} (q : ∀ v F' H', Grow F H F' H' → PlD K F' v (pairs ds es) → Q v H') : tTupZipF K ta σ H Q := h H s _ fun vs F1 H1 g1 r1 => by
  cases r1 with
  | cons a b =>
    cases b with
    | cons b c =>
      cases c
      cases a with
      | lst a1 a2 =>
        cases b with
        | lst b1 b2 =>
          refine ⟨_, _, _, _, rfl, g1.i.seq a1, g1.i.seq b1, by rw [a2.len, b2.len]; exact hl, fun ts H2 lay p hp o ho => ?_⟩
          obtain ⟨F2, g2, r2⟩ := lay_grow lay g1.i a2 b2
          exact q _ _ _ (g1.trans (g2.trans (.known g2.i hp))) ⟨p, _, rfl, ⟨o, upd_same, ho⟩, r2.up (same_upd (g2.i.free hp))⟩
end
end Sx
set_option Elab.async false
set_option linter.all false
set_option maxRecDepth 100000
set_option maxHeartbeats 1000000
/-! Y21: t[::-1] of a tuple. -/
namespace Sx
open PySem PySem.Spec PyProof.Rows L2
open C8 (Cal pe_c pe_gc)
section
variable {prog : Program} {w : World} {A : Around} {E : Value → Shared → Prop} {s : Shared}
theorem pick_rev (xs : Array Value) : ((List.range xs.size).filterMap fun (m : Nat) => xs[(((xs.size : Int) - 1) + (m : Int) * (-1)).toNat]?).toArray = xs.toList.reverse.toArray := by
  refine congrArg List.toArray (List.ext_getElem? fun i => ?_)
  have gen : ∀ (k : Nat), k ≤ xs.size → (List.range k).filterMap (fun (m : Nat) => xs[(((xs.size : Int) - 1) + (m : Int) * (-1)).toNat]?) = xs.toList.reverse.take k := fun k => by
    induction k with
    | zero => intro _; rfl
    | succ k ih =>
      intro hk
      rw [List.range_succ, List.filterMap_append, ih (by omega), List.take_add_one]
      have e : (((xs.size : Int) - 1) + (k : Int) * (-1)).toNat = xs.size - 1 - k := by omega
      have hr : xs.toList.reverse[k]? = xs[xs.size - 1 - k]? := by
        rw [List.getElem?_reverse (by rw [Array.length_toList]; omega), Array.length_toList, Array.getElem?_toList]
      rw [hr]
      have hx : xs[xs.size - 1 - k]? = some (xs[xs.size - 1 - k]'(by omega)) := Array.getElem?_eq_getElem (by omega)
      have hf : (List.filterMap (fun (m : Nat) => xs[(((xs.size : Int) - 1) + (m : Int) * (-1)).toNat]?) [k]) = [xs[xs.size - 1 - k]'(by omega)] := by
        rw [List.filterMap_cons_some (b := xs[xs.size - 1 - k]'(by omega)) (by rw [e]; exact hx)]
        rfl
      rw [hf, hx]
      rfl
  rw [gen xs.size (Nat.le_refl _), List.take_of_length_le (by rw [List.length_reverse, Array.length_toList]; exact Nat.le_refl _)]
theorem sliceApplied_rev {sl : Addr} {t : Tok} {n : Nat} {Q : Int × Int × Nat → Shared → Prop} (hs : s.heap.IsSliceOf sl .none .none (.int (-1) t))
    (h : Q ((n : Int) - 1, -1, n) s) : wpAny (model prog w) A (Builtin.Slice.sliceApplied (.ref sl) (pure (n : Int))) Q E s := by
  obtain ⟨os, hos, hcs, hds⟩ := id hs
  unfold Builtin.Slice.sliceApplied Builtin.Slice.sliceFields
  refine wpAny_bind (wpAny_bind (wpAny_field hos hds (x := .none) rfl (wpAny_bind (wpAny_field hos hds (x := .none) rfl (wpAny_bind (wpAny_field hos hds (x := .int (-1) t) rfl (wpAny_pure ?_)))))))
  refine wpAny_bind (HT.slicePart_ (.int (-1) t) ?_)
  show wpAny _ _ (if ((-1 : Int) == 0) = true then _ else _) _ _ s
  rw [if_neg (by decide)]
  refine wpAny_bind (HT.slicePart_ .none (wpAny_bind (HT.slicePart_ .none (wpAny_bind (wpAny_pure ?_)))))
  show wpAny _ _ (match Builtin.Slice.sliceAdjust none none (-1) (n : Int) with | (lo, hi) => pure (lo, (-1 : Int), Builtin.Slice.slicePlaces lo hi (-1))) _ _ s
  have e1 : Builtin.Slice.sliceAdjust none none (-1) (n : Int) = ((n : Int) - 1, -1) := by
    unfold Builtin.Slice.sliceAdjust
    simp
  rw [e1]
  have e2 : Builtin.Slice.slicePlaces ((n : Int) - 1) (-1) (-1) = n := by
    unfold Builtin.Slice.slicePlaces
    simp
    omega
  show wpAny _ _ (pure ((n : Int) - 1, (-1 : Int), Builtin.Slice.slicePlaces ((n : Int) - 1) (-1) (-1))) _ _ s
  rw [e2]
  exact wpAny_pure h
theorem getItem_tuple_rev {t sl : Addr} {items : Array Value} {u : Tok} {Q : Value → Shared → Prop} (ht : IsTup s.heap t items) (hs : s.heap.IsSliceOf sl .none .none (.int (-1) u))
    (h : Q (.ref s.heap.objs.size) { s with heap := s.heap.push { cls := .type "tuple", data := .seq items.toList.reverse.toArray } }) (hsz : items.size ≤ sizeLine) : wpAny (model prog w) A (getItem (.ref t) (.ref sl)) Q E s := by
  have hlen : sizeOk (.seq items.toList.reverse.toArray) := by
    show items.toList.reverse.toArray.size ≤ sizeLine
    rw [List.size_toArray, List.length_reverse, Array.length_toList]
    exact hsz
  obtain ⟨os, hos, hcs, hds⟩ := id hs
  have hTs : s.TypeIs (.ref sl) "slice" := ⟨os, hos, hcs⟩
  unfold getItem
  try with_reducible refine wpAny_holding ?_
  first | refine wpAny_bind (wpAny_pure ?_) | skip
  refine wpAny_bind (wpAny_sequenceKey ht.typeIs (by decide) ?_)
  refine wpAny_bind (wpAny_callSpecial?_slot (name := Str.ofString "__getitem__") ht.typeIs PyProof.Rows.slot_tuple_getitem
    (wpAny_call_entry PyProof.Rows.slot_tuple_getitem ht.typeIs entry_tuple_getitem ?_ (args_tuple_getitem _ _)))
  show wpAny _ _ (Builtin.Tuple.tupleItemsOf (.ref t) >>= _) _ _ s
  refine wpAny_bind (tupleItemsOf_ ht ?_)
  refine wpAny_bind (wpAny_typeOf hTs ?_)
  rw [if_pos (by decide)]
  refine wpAny_bind (sliceApplied_rev hs ?_)
  have hno : ¬ ((((items.size : Int) - 1) == 0 && (-1 : Int) == 1 && items.size == items.size) = true) := by
    intro q
    rw [Bool.and_eq_true, Bool.and_eq_true] at q
    have q1 : (-1 : Int) = 1 := eq_of_beq q.1.2
    omega
  show wpAny _ _ (if (((items.size : Int) - 1) == 0 && (-1 : Int) == 1 && items.size == items.size) = true then _ else _) _ _ s
  rw [if_neg hno, pick_rev]
  first
    | exact wpAny_bind (m := Builtin.Tuple.tupleExact _) (wpAny_newObj_type (wpAny_pure ⟨_, rfl, wpAny_pure h⟩) hlen)
    | exact wpAny_bind (m := Builtin.Tuple.tupleExact _) (wpAny_newObj_type (wpAny_bind (wpAny_pure (wpAny_pure ⟨_, rfl, wpAny_pure h⟩))) hlen)
    | exact wpAny_bind (wpAny_bind (m := Builtin.Tuple.tupleExact _) (wpAny_newObj_type (wpAny_pure (wpAny_pure ⟨_, rfl, wpAny_pure h⟩)) hlen))
    | exact wpAny_bind (wpAny_bind (m := Builtin.Tuple.tupleExact _) (wpAny_newObj_type (wpAny_pure ⟨_, rfl, wpAny_pure h⟩) hlen))
end
def tRevT (K : PySem.W.Frag) (te : TE) (ts : TO) : TE := fun σ H Q => te σ H fun x H1 => ts σ H1 fun c H2 => ∃ a xs, x = .ref a ∧ SqT K H2 a xs ∧ c = some (-1) ∧ ∀ p, H2 p = none → Q (.ref p) (upd H2 p (.tup xs.reverse))
theorem pe_revT {X : Cx} {e : Expr} {te : TE} {st : Option Expr} {ts : TO} {p2 pos : Pos} (he : PE X e te) (hs : PO X st ts) (hsub : ∀ v i, subscripted (.Slice none none st p2) false v i = operate [v, i] (getItem v i) := by intros; with_unfolding_all rfl) : PE X (.Subscript e (.Slice none none st p2) pos) (tRevT X.K te ts) := by
  refine ⟨fun pins s σ H Q I h => Subscript_ (thn (he.run pins s σ H _ I h) fun v s1 hq => ?_)⟩
  obtain ⟨x, H1, I1, r1, q1⟩ := hq
  have pn : PO X (none : Option Expr) tNoPart := po_none
  refine wpAny_Slice (thn (pn.run pins s1 σ H1 (fun o H2 => o = none ∧ H2 = H1) I1 ⟨rfl, rfl⟩) fun vl s2 hq2 => ?_)
  obtain ⟨l, H2, I2, pl, rfl, rfl⟩ := hq2
  refine thn (pn.run pins s2 σ H2 (fun o H3 => o = none ∧ H3 = H2) I2 ⟨rfl, rfl⟩) fun vu s3 hq3 => ?_
  obtain ⟨u, H3, I3, pu, rfl, rfl⟩ := hq3
  refine thn (hs.run pins s3 σ H3 _ I3 q1) fun vs s4 hq4 => ?_
  obtain ⟨c, H4, I4, pc, a, xs, ex, hx, hc, q⟩ := hq4
  subst ex
  subst hc
  cases r1
  cases pl
  cases pu
  cases pc with
  | int i tk =>
    generalize hob : ({ cls := .type "slice", data := .fields #[.none, .none, .int (-1) tk] } : Obj) = ob
    have I5 : Inv X pins σ H4 { s4 with heap := s4.heap.push ob } := I4.kept (t' := s4.toks) fun b o z => Heap.get?_push_of_some _ z
    obtain ⟨its, rv, pt, hz⟩ := I5.tuple hx
    have hlen := rv.length
    have hsl : (s4.heap.push ob).IsSliceOf s4.heap.objs.size .none .none (.int (-1) tk) := by
      rw [← hob]
      exact .new ..
    have rr : Vals xs.reverse its.reverse := by
      have : ∀ {xs : List V} {us : List Value}, Vals xs us → Vals xs.reverse us.reverse := fun h => by
        induction h with
        | nil => exact .nil
        | cons a b ih =>
          rw [List.reverse_cons, List.reverse_cons]
          exact Paired.snoc ih a
      exact this rv
    have fin : wpAny (model X.prog X.w) X.A (getItem (.ref a) (.ref s4.heap.objs.size)) (EP X pins σ Q) X.xe { s4 with heap := s4.heap.push ob } := by
      refine getItem_tuple_rev pt hsl ?_ (by rw [List.size_toArray, ← hlen]; exact hz)
      refine ⟨.ref _, _, I5.laid (t' := s4.toks) (o := .tup xs.reverse) (fun b o z => Heap.get?_push_of_some _ z) (Nat.le_refl _) ⟨by rw [List.length_reverse]; exact hz, its.reverse, rr, ?_⟩, rfl, q _ (I5.hok.fresh (Nat.le_refl _))⟩
      exact ⟨_, Heap.get?_push_size _ rfl, rfl, _, rfl⟩
    exact tail_any (ops := [.ref a, .ref s4.heap.objs.size]) pt.typeIs PyProof.Rows.slot_tuple_getitem.lookup fin (hsub _ _)
section
variable {K : PySem.W.Frag} {σ : L2.St} {F : Hp} {te : TE} {ts : TO} {ds : List PyData}
theorem dqs_rev {F : Hp} : ∀ {vs : List V} {ds : List PyData}, DqAll K F vs ds → DqAll K F vs.reverse ds.reverse
  | _, _, .nil => .nil
  | _, _, .cons a b => by
    rw [List.reverse_cons, List.reverse_cons]
    exact (dqs_rev b).app (.cons a .nil)
theorem ev_revT (h : EvD K te σ F (.tuple ds)) (h2 : EvO K ts σ F (some (-1))) : EvD K (tRevT K te ts) σ F (.tuple ds.reverse) := fun H s Q q =>
  h H s _ fun x F1 H1 g1 r1 => h2.up g1.f H1 g1.i _ fun F2 H2 g2 => by
    cases r1.up g2.f with
    | tup a b => exact ⟨_, _, rfl, same_seqT g2.i a, rfl, fun p hp => q _ _ _ ((g1.trans g2).trans (.known g2.i hp)) (.tup (.inl (.inl upd_same)) ((dqs_rev b).up (same_upd (g2.i.free hp))))⟩
end
end Sx
set_option Elab.async false
set_option linter.all false
set_option maxRecDepth 100000
set_option maxHeartbeats 1000000
/-! Y22: repr of True and False; x is not True. -/
namespace Sx
open PySem PySem.Spec PyProof.Rows L2
def boolS (b : Bool) : Str := if b then "True" else "False"
theorem boolS_inj {a b : Bool} (h : boolS a = boolS b) : a = b := by
  cases a <;> cases b <;> first | rfl | exact absurd h (by decide +kernel)
abbrev rReprB : List V → Hp → VK → Prop := fun xs H Q => ∃ b, xs = [.bl b] ∧ Q (.str (boolS b)) H
theorem call_reprB {X : Cx} : CallR X (.builtin "repr") rReprB := by
  intro pins s σ H xs us Q I r h
  obtain ⟨b, rfl, q⟩ := h
  obtain ⟨u, rfl, ru⟩ := vals1 r
  cases (show u = Value.bool b from ru)
  refine PySem.P.repr_of_bool ?_
  exact ⟨.str (boolS b), H, I.tok _, ⟨s.toks, by cases b <;> rfl⟩, q⟩
theorem rc_reprB {K : PySem.W.Frag} {b : Bool} : RcD K rReprB [.bool b] (.str (boolS b)) := fun F xs H s r Q q => by
  cases r with
  | cons a c =>
    cases c
    cases a
    exact ⟨b, rfl, q _ F H (.start s) (.str _)⟩
theorem rv_notB {K : PySem.W.Frag} {a b : Bool} : RvD K rNotB (.bool a) (.bool b) (.bool (!decide (a = b))) := fun F x y H s r1 r2 Q q => by
  cases r1
  cases r2
  exact ⟨a, b, rfl, rfl, q _ F H (.start s) (.bl _)⟩
end Sx
set_option Elab.async false
set_option linter.all false
set_option maxRecDepth 100000
set_option maxHeartbeats 4000000
set_option exponentiation.threshold 3000
namespace Sx
open PySem PySem.Spec PyProof.Rows L2 LamX
open C8 (Cal pe_c pe_gc)
section
variable {P : Program} {w : World} {K : PySem.W.Frag} {mg : Str → Option Value} {base : Heap} {f : Addr} {fd : FuncData} {aK : Addr}
theorem map_bools (g : PyData → Bool) (xs : List PyData) : xs.map (fun x => PyData.bool (g x)) = (xs.map g).map .bool := by
  rw [List.map_map]
  rfl
theorem all_bools (g : PyData → Bool) (xs : List PyData) : (xs.map g).all id = xs.all g := by
  rw [List.all_map]
  rfl
end
section
variable {P : Program} {w : World} {K : PySem.W.Frag} {mg : Str → Option Value} {base : Heap} {f : Addr} {fd : FuncData} {aK CK CN CS : Addr}
theorem map_erase {α β : Type} (g : α → β) : ∀ (l : List α) (i : Nat), (l.map g).eraseIdx i = (l.eraseIdx i).map g
  | [], _ => rfl
  | _ :: _, 0 => rfl
  | a :: r, i + 1 => congrArg (g a :: ·) (map_erase g r i)
end
section
variable {P : Program} {w : World} {K : PySem.W.Frag} {mg : Str → Option Value} {base : Heap} {f : Addr} {fd : FuncData} {aK CK CN CS : Addr}
theorem DrawAt.fresh {H : Hp} {a l c b : Addr} {n : Nat} (D : DrawAt H a l c n) (h : H b = none) : b ≠ a ∧ b ≠ l ∧ b ≠ c := by
  obtain ⟨ws, cs, r, t, D, _⟩ := D
  refine ⟨fun z => ?_, fun z => ?_, fun z => ?_⟩
  · rw [z, D.d] at h; cases h
  · rw [z, D.w] at h; cases h
  · rw [z, D.cl] at h; cases h
theorem DrawAt.other {H : Hp} {a l c b : Addr} {n : Nat} {o : HO} (D : DrawAt H a l c n) (h : b ≠ a ∧ b ≠ l ∧ b ≠ c) : DrawAt (upd H b o) a l c n := by
  obtain ⟨ws, cs, r, t, D, e1, e2⟩ := D
  exact ⟨ws, cs, r, t, ⟨upd_at h.1.symm D.d, upd_at h.2.1.symm D.w, upd_at h.2.2.symm D.cl, D.al, D.ac, D.lc⟩, e1, e2⟩
theorem DrawAt.same {H H' : Hp} {a l c : Addr} {n : Nat} (D : DrawAt H a l c n) (s : Same H H') : DrawAt H' a l c n := by
  obtain ⟨ws, cs, r, t, D, e1, e2⟩ := D
  exact ⟨ws, cs, r, t, D.same s, e1, e2⟩
theorem Keeps.other {H H' : Hp} {a l b : Addr} {o : HO} (k : Keeps a l H H') (hb : H b = none) : Keeps a l H (upd H' b o) := fun x u h1 h2 e => by
  rw [upd_ne (ne_of_none e hb)]
  exact k x u h1 h2 e
/-- one list alone is known -/
theorem same_one {H : Hp} {p : Addr} {o : HO} (h : H p = some o) : Same (upd (fun _ => none) p o) H := fun b x e => by
  by_cases hb : b = p
  · rw [hb, upd_same] at e
    rw [hb, h]
    exact e
  · rw [upd_ne hb] at e
    cases e
theorem one_free {p b : Addr} {o : HO} (h : b ≠ p) : upd (fun _ => none : Hp) p o b = none := by
  rw [upd_ne h]
theorem Keeps.free {H H' : Hp} {a l b : Addr} (k : Keeps a l H H') (ha : b ≠ a) (hl : b ≠ l) (h : H' b = none) : H b = none := by
  cases z : H b with
  | none => rfl
  | some o =>
    rw [k b o ha hl z] at h
    cases h
abbrev rAddS : R2 := fun x y H Q => ∃ i j : Str, x = .str i ∧ y = .str j ∧ i.length + j.length ≤ sizeLine ∧ Q (.str (i ++ j)) H
end
theorem three {σ : L2.St} (h : σ.length = 3) : ∃ x y z, σ = [x, y, z] := by
  match σ, h with
  | [x, y, z], _ => exact ⟨x, y, z, rfl⟩
section
variable {P : Program} {w : World} {K : PySem.W.Frag} {mg : Str → Option Value} {base : Heap} {f : Addr} {fd : FuncData} {aK CK CN CS : Addr}
theorem filter_none (g : PyData → Bool) (xs : List PyData) : (!(xs.filter fun d => !g d).isEmpty) = !xs.all g := by
  refine congrArg (!·) ?_
  rw [Bool.eq_iff_iff, List.isEmpty_iff, List.filter_eq_nil_iff, List.all_eq_true]
  refine forall_congr' fun d => imp_congr_right fun _ => ?_
  cases g d <;> simp
end
theorem DrawAt.more {H : Hp} {a l c : Addr} {n m : Nat} (D : DrawAt H a l c n) (h : n ≤ m) : DrawAt H a l c m := by
  obtain ⟨ws, cs, r, t, D, e1, e2⟩ := D
  exact ⟨ws, cs, r, t, D, e1, by omega⟩
theorem same_two {H : Hp} {p q : Addr} {o u : HO} (hp : H p = some o) (hq : H q = some u) : Same (upd (upd (fun _ => none) p o) q u) H := fun b x e => by
  by_cases hb : b = q
  · rw [hb, upd_same] at e
    rw [hb, hq]
    exact e
  · rw [upd_ne hb] at e
    exact same_one hp b x e
theorem cons_one {te : TE} {σ : L2.St} {H : Hp} {Q : List V → Hp → Prop} (h : te σ H fun x H1 => Q [x] H1) : tCons te tNil σ H Q := h
theorem lst_int {K : PySem.W.Frag} {ta : TA} {σ : L2.St} {F H : Hp} {Q : VK} {ns : List Int} (h : EvS K ta σ F (ns.map .int)) (s : Same F H) (hl : ns.length ≤ sizeLine) (k : ∀ p H', Same H H' → H' p = none → Q (.ref p) (upd H' p (.lst (ns.map V.int)))) : tLst ta σ H Q := by
  refine h H s _ fun vs F1 H1 g1 r1 => ?_
  rw [dps_int r1]
  exact ⟨by rw [List.length_map]; exact hl, fun p hp => k p H1 g1.h hp⟩
theorem DrawAt.frees {F H F' H' : Hp} {a l c : Addr} {n : Nat} (D : DrawAt H a l c n) (g : Grow F H F' H') (ha : F a = none) (hl : F l = none) : F' a = none ∧ F' l = none := by
  obtain ⟨ws, cs, r, t, D, _, _⟩ := D
  exact ⟨free_grow g ha D.d, free_grow g hl D.w⟩
/-- nothing but three things has changed -/
def Keeps3 (a l e : Addr) (H H' : Hp) : Prop := ∀ b o, b ≠ a → b ≠ l → b ≠ e → H b = some o → H' b = some o
theorem Keeps3.trans {a l e : Addr} {H1 H2 H3 : Hp} (x : Keeps3 a l e H1 H2) (y : Keeps3 a l e H2 H3) : Keeps3 a l e H1 H3 := fun b o h1 h2 h3 k => y b o h1 h2 h3 (x b o h1 h2 h3 k)
theorem Keeps3.of {a l e : Addr} {H1 H2 : Hp} (s : Same H1 H2) : Keeps3 a l e H1 H2 := fun b o _ _ _ k => s b o k
theorem Keeps3.ofK {a l e : Addr} {H1 H2 : Hp} (s : Keeps a l H1 H2) : Keeps3 a l e H1 H2 := fun b o h1 h2 _ k => s b o h1 h2 k
theorem Keeps3.put {a l e : Addr} {H1 H2 : Hp} {o : HO} (x : Keeps3 a l e H1 H2) : Keeps3 a l e H1 (upd H2 e o) := fun b u h1 h2 h3 k => by
  rw [upd_ne h3]
  exact x b u h1 h2 h3 k
theorem Keeps3.same {a l e : Addr} {F H H' : Hp} (x : Keeps3 a l e H H') (s : Same F H) (ha : F a = none) (hl : F l = none) (he : F e = none) : Same F H' := fun b o k => x b o (ne_of_none k ha) (ne_of_none k hl) (ne_of_none k he) (s b o k)
theorem Keeps3.other {a l e b : Addr} {H H' : Hp} {o : HO} (k : Keeps3 a l e H H') (hb : H b = none) : Keeps3 a l e H (upd H' b o) := fun x u h1 h2 h3 z => by
  rw [upd_ne (ne_of_none z hb)]
  exact k x u h1 h2 h3 z
theorem Keeps3.free {a l e b : Addr} {H H' : Hp} (k : Keeps3 a l e H H') (ha : b ≠ a) (hl : b ≠ l) (he : b ≠ e) (h : H' b = none) : H b = none := by
  cases z : H b with
  | none => rfl
  | some o =>
    rw [k b o ha hl he z] at h
    cases h
def NewIn (F H G : Hp) : Prop := ∀ a o, G a = some o → F a = none → H a = none
theorem new_step {d l ll : Addr} {F F' G H H' : Hp} (k : Keeps3 d l ll H H') (hF : NewIn F H F') (hG : NewIn F' H' G) (gd : G d = none) (gl : G l = none) (gll : G ll = none) : NewIn F H G := fun a o e n => by
  cases z : F' a with
  | some u => exact hF a u z n
  | none => exact k.free (ne_of_none e gd) (ne_of_none e gl) (ne_of_none e gll) (hG a o e z)
theorem new_two {d l : Addr} {F F' G H H' : Hp} (k : Keeps d l H H') (hF : NewIn F H F') (hG : NewIn F' H' G) (gd : G d = none) (gl : G l = none) : NewIn F H G := new_step (Keeps3.ofK (e := l) k) hF hG gd gl gl
theorem new_refl {F H : Hp} : NewIn F H F := fun a o e z => by rw [z] at e; cases e
theorem get_snoc {α : Type} {l : List α} {x : α} {j : Nat} {y : α} (h : (l ++ [x])[j]? = some y) : l[j]? = some y ∨ (j = l.length ∧ y = x) := by
  by_cases hj : j < l.length
  · rw [List.getElem?_append_left hj] at h
    exact .inl h
  · rw [List.getElem?_append_right (by omega)] at h
    have : j - l.length = 0 := by
      cases z : j - l.length with
      | zero => rfl
      | succ k => rw [z] at h; cases h
    rw [this] at h
    exact .inr ⟨by omega, (Option.some.inj h).symm⟩
theorem ev_listRg {K : PySem.W.Frag} {σ : L2.St} {F : Hp} {te : TE} {n : Nat} (h : EvD K te σ F (.int (n : Int))) (hn : n ≤ 1000) : EvD K (tLstRg (tRg1 te)) σ F (.list (rgs 0 n)) := fun H s Q q => h H s _ fun v F1 H1 g r => by
  cases r
  refine ⟨(n : Int), rfl, RgOk.of_le (by decide) (by omega) (by decide) (by omega), fun p hp => q _ _ _ (g.trans (.known g.i hp)) (.lst (.inl (.inl upd_same)) ?_)⟩
  unfold rgV rgs
  rw [Int.sub_zero, Int.toNat_natCast]
  have : ∀ (F : Hp) (l : List Nat), DqAll K F (l.map fun (i : Nat) => V.int (0 + (i : Int))) (l.map fun (i : Nat) => PyData.int (0 + (i : Int))) := fun F l => by
    induction l with
    | nil => exact .nil
    | cons a l ih => exact .cons (.int _) ih
  exact this _ _
theorem s_then {σ : L2.St} {H : Hp} {D : Ends} {i : Nat} {te : TE} {k : V → Hp → VK → Prop} (h : te σ H fun x H1 => k x H1 fun v H2 => D.nx (σ.set i (some v)) H2) : tAsg (tThen te k) (gName i) D σ H := h
theorem small {n : Nat} (h : n ≤ 40 := by decide) : n ≤ sizeLine := Nat.le_of_lt (small1000 (by omega))
/-- x + [..], x one's own -/
theorem cat_own {K : PySem.W.Frag} {σ : L2.St} {F H : Hp} {i : Nat} {p : Addr} {vs : List V} {ds es : List PyData} {ta : TA} {Q : VK} (hi : σ[i]? = some (some (.ref p))) (s : Same F H) (hp : H p = some (.lst vs)) (rv : DqAll K F vs ds) (hds : ds.length ≤ 100) (h : EvS K ta σ F es) (hes : es.length ≤ 40)
    (k : ∀ p3 ws F3 H3, Grow F H F3 H3 → H3 p3 = none → DqAll K F3 ws (ds ++ es) → Q (.ref p3) (upd H3 p3 (.lst ws))) : tOp rCat (tVar i) (tLst ta) σ H Q :=
  ⟨.ref p, hi, h H s _ fun us F1 H1 g1 r1 => ⟨by rw [r1.len]; exact small hes, fun p2 hp2 => by
    have h2 : H p2 = none := g1.h.free hp2
    have ne : p ≠ p2 := fun z => by rw [z, h2] at hp; cases hp
    refine ⟨p, p2, vs, us, rfl, rfl, upd_at ne (g1.h _ _ hp), upd_same, ?_, fun p3 hp3 => ?_⟩
    · rw [rv.len, r1.len]
      exact Nat.le_of_lt (small1000 (by omega))
    · exact k p3 (vs ++ us) F1 _ (grow_own g1 h2 (g1.i.free hp2)) hp3 ((rv.up g1.f).app r1)⟩⟩
/-- what stands while one draws -/
structure StD (F0 H0 : Hp) (d l c : Addr) (F H : Hp) (n : Nat) : Prop where
  same : Same F H
  fd : F d = none
  fl : F l = none
  dr : DrawAt H d l c n
  kp : Keeps d l H0 H
  nw : NewIn F0 H0 F
  sf : Same F0 F
section
variable {K : PySem.W.Frag} {σ : L2.St} {F0 H0 F H : Hp} {d l c : Addr} {n : Nat}
theorem StD.grow {F' H' : Hp} (S : StD F0 H0 d l c F H n) (g : Grow F H F' H') : StD F0 H0 d l c F' H' n := by
  obtain ⟨a, b⟩ := S.dr.frees g S.fd S.fl
  exact ⟨g.i, a, b, S.dr.same g.h, S.kp.trans (.of g.h), new_two S.kp S.nw g.n a b, S.sf.trans g.f⟩
theorem StD.draw {H' : Hp} {m : Nat} (S : StD F0 H0 d l c F H n) (k : Keeps d l H H') (D : DrawAt H' d l c m) : StD F0 H0 d l c F H' m :=
  ⟨k.same S.same S.fd S.fl, S.fd, S.fl, D, S.kp.trans k, S.nw, S.sf⟩
theorem StD.more {m : Nat} (S : StD F0 H0 d l c F H n) (h : n ≤ m) : StD F0 H0 d l c F H m := ⟨S.same, S.fd, S.fl, S.dr.more h, S.kp, S.nw, S.sf⟩
end
theorem s_asgC {σ : L2.St} {H : Hp} {D : Ends} {i : Nat} {te : TE} (h : te σ H fun v H' => D.nx (σ.set i (some v)) H') : tAsg te (gName i) D σ H := h
theorem DrawAt.ext {H H' : Hp} {a l c : Addr} {n : Nat} (D : DrawAt H a l c n) (e : ExtN H H') : DrawAt H' a l c n := by
  obtain ⟨ws, cs, r, t, D, e1, e2⟩ := D
  exact ⟨ws, cs, r, t, ⟨e _ _ D.d (fun ps z => by cases z), e _ _ D.w (fun ps z => by cases z), e _ _ D.cl (fun ps z => by cases z), D.al, D.ac, D.lc⟩, e1, e2⟩
theorem tabs_same {T : List (Addr × Str)} {H H' : Hp} (t : Tabs T H) (s : Same H H') : Tabs T H' := t.ext fun b o e => s b o e
theorem tabs_keeps {T : List (Addr × Str)} {H H' : Hp} {a l c : Addr} {n : Nat} (t : Tabs T H) (D : DrawAt H a l c n) (k : Keeps a l H H') : Tabs T H' := fun p hp => by
  obtain ⟨ps, h1, h2, h3⟩ := t p hp
  obtain ⟨ws, cs, r, tt, D, _, _⟩ := D
  have nt : ∀ (b : Addr) (o : HO), H b = some o → (∀ ks, o ≠ .dK ks) → (∀ xs, o ≠ .lst xs) → b ≠ a ∧ b ≠ l := fun b o e n1 n2 => by
    refine ⟨fun z => ?_, fun z => ?_⟩
    · rw [z, D.d] at e
      cases e
      exact n1 _ rfl
    · rw [z, D.w] at e
      cases e
      exact n2 _ rfl
  have n1 := nt _ _ h1 (fun ks z => by cases z) (fun xs z => by cases z)
  refine ⟨ps, k _ _ n1.1 n1.2 h1, h2, fun pos cv hc => ?_⟩
  obtain ⟨c', e1, e2⟩ := h3 pos cv hc
  have n2 := nt _ _ e2 (fun ks z => by unfold CodeO at z; cases z) (fun xs z => by unfold CodeO at z; cases z)
  exact ⟨c', e1, k _ _ n2.1 n2.2 e2⟩
/-- what is known, without tables -/
def noT (F : Hp) : Hp := fun b => match F b with
  | some (.tbl _) => none
  | o => o
theorem noT_of {F : Hp} {b : Addr} {o : HO} (h : F b = some o) (n : ∀ ps, o ≠ .tbl ps) : noT F b = some o := by
  show (match F b with | some (.tbl _) => none | o => o) = some o
  rw [h]
  cases o <;> first | rfl | exact absurd rfl (n _)
theorem noT_is {F : Hp} {b : Addr} {o : HO} (h : noT F b = some o) : F b = some o ∧ ∀ ps, o ≠ .tbl ps := by
  have h' : (match F b with | some (.tbl _) => none | o => o) = some o := h
  cases e : F b with
  | none => rw [e] at h'; cases h'
  | some u =>
    rw [e] at h'
    cases u <;> first | (cases h'; done) | (cases h'; exact ⟨rfl, fun ps z => by cases z⟩)
theorem noT_ext {F H H' : Hp} (s : Same F H) (e : ExtN H H') : Same (noT F) H' := fun b o h => by
  obtain ⟨h1, h2⟩ := noT_is h
  exact e b o (s b o h1) h2
theorem noT_same {F H : Hp} (s : Same F H) : Same (noT F) H := fun b o h => s b o (noT_is h).1
theorem noT_none {F : Hp} {b : Addr} (h : F b = none) : noT F b = none := by
  show (match F b with | some (.tbl _) => none | o => o) = none
  rw [h]
section
variable {K : PySem.W.Frag} {F : Hp}
mutual
theorem dp_noT : ∀ (d : PyData) (v : V), Dq K F v d → Dq K (noT F) v d
  | .none, _, h => by cases h; exact .non
  | .bool b, _, h => by cases h; exact .bl b
  | .int i, _, h => by cases h; exact .int i
  | .str x, _, h => by cases h; exact .str x
  | .list ds, _, h => by
    cases h with
    | lst a b =>
      refine .lst ?_ (dps_noT ds _ b)
      rcases a with (a | ⟨o, a⟩) | a
      · exact .inl (.inl (noT_of a fun ps z => by cases z))
      · exact .inl (.inr ⟨o, noT_of a fun ps z => by cases z⟩)
      · exact .inr a
  | .tuple ds, _, h => by
    cases h with
    | tup a b =>
      refine .tup ?_ (dps_noT ds _ b)
      rcases a with (a | ⟨o, a⟩) | a
      · exact .inl (.inl (noT_of a fun ps z => by cases z))
      · exact .inl (.inr ⟨o, noT_of a fun ps z => by cases z⟩)
      · exact .inr a
  | .dict _, _, h => by
    cases h with
    | emp e => exact .emp (noT_of e fun ps z => by cases z)
theorem dps_noT : ∀ (ds : List PyData) (vs : List V), DqAll K F vs ds → DqAll K (noT F) vs ds
  | [], _, h => by cases h; exact .nil
  | d :: ds, _, h => by
    cases h with
    | cons a b => exact .cons (dp_noT d _ a) (dps_noT ds _ b)
end
end
abbrev rMin2 : List V → Hp → VK → Prop := fun xs H Q => ∃ i j, xs = [.int i, .int j] ∧ Q (.int (if j < i then j else i)) H
theorem rc_min2 {K : PySem.W.Frag} {i j : Int} : RcD K rMin2 [.int i, .int j] (.int (if j < i then j else i)) := fun F xs H s r Q q => by
  cases r with
  | cons a b =>
    cases b with
    | cons b c =>
      cases c
      cases a
      cases b
      exact ⟨i, j, rfl, q _ F H (.start s) (.int _)⟩
/-- for i in range(n), read from the heap as it stands -/
theorem for_rng {K : PySem.W.Frag} {ta : TA} {g : TG} {tb : TS} {D : Ends} {σ : L2.St} {F H : Hp} {kk : Int} (h : EvS K ta σ F [.int kk]) (s : Same F H) (hb : 0 ≤ kk ∧ kk < 2 ^ 62) (I : Nat → L2.St → Hp → Prop) (h0 : ∀ H', Same H H' → I 0 σ H')
    (hs : ∀ (i : Nat) σ' H', i < kk.toNat → I i σ' H' → g (.int (0 + (i : Int))) σ' H' fun σ2 H2 => tb { D with nx := I (i + 1), ct := I (i + 1), bk := D.nx } σ2 H2) (hd : ∀ σ' H', I kk.toNat σ' H' → D.nx σ' H') : tFor (iRng1 ta) g tb D σ H := by
  refine h H s _ fun vs F2 H2 g2 r2 => ?_
  have ev : vs = [.int kk] := by
    cases r2 with
    | cons ra rb =>
      cases ra
      cases rb
      rfl
  subst ev
  refine ⟨kk, rfl, by omega, by omega, fun i m σ' H' => m = kk.toNat - i ∧ i ≤ kk.toNat ∧ I i σ' H', ⟨kk.toNat, by simp, Nat.zero_le _, h0 H2 g2.h⟩, fun i m σ' H' hW => ?_⟩
  obtain ⟨rfl, hi, hI⟩ := hW
  by_cases hlt : i < kk.toNat
  · refine .inr ⟨hlt, I (i + 1), fun σ3 H3 h3 => ⟨kk.toNat - (i + 1), by omega, rfl, hlt, h3⟩, fun v Hx hy => ?_⟩
    obtain ⟨rfl, rfl⟩ := hy
    exact hs i σ' _ hlt hI
  · have e : i = kk.toNat := by omega
    subst e
    exact .inl ⟨by show kk.toNat ≤ kk.toNat; omega, hd σ' H' hI⟩
theorem tabs_put {T : List (Addr × Str)} {H : Hp} {b : Addr} {xs : List V} {o : HO} (t : Tabs T H) (h : H b = some (.lst xs)) : Tabs T (upd H b o) := fun p hp => by
  obtain ⟨ps, h1, h2, h3⟩ := t p hp
  have n1 : p.1 ≠ b := fun z => by
    rw [z, h] at h1
    cases h1
  refine ⟨ps, by rw [upd_ne n1]; exact h1, h2, fun pos cv hc => ?_⟩
  obtain ⟨c', e1, e2⟩ := h3 pos cv hc
  have n2 : c' ≠ b := fun z => by
    rw [z, h] at e2
    unfold CodeO at e2
    cases e2
  exact ⟨c', e1, by rw [upd_ne n2]; exact e2⟩
theorem tabs_keeps3 {T : List (Addr × Str)} {H H' : Hp} {a l c e : Addr} {n : Nat} {xs : List V} (t : Tabs T H) (D : DrawAt H a l c n) (he : H e = some (.lst xs)) (k : Keeps3 a l e H H') : Tabs T H' := fun p hp => by
  obtain ⟨ps, h1, h2, h3⟩ := t p hp
  obtain ⟨ws, cs, r, tt, D, _, _⟩ := D
  have nt : ∀ (b : Addr) (o : HO), H b = some o → (∀ ks, o ≠ .dK ks) → (∀ xs, o ≠ .lst xs) → b ≠ a ∧ b ≠ l ∧ b ≠ e := fun b o z n1 n2 => by
    refine ⟨fun y => ?_, fun y => ?_, fun y => ?_⟩
    · rw [y, D.d] at z
      cases z
      exact n1 _ rfl
    · rw [y, D.w] at z
      cases z
      exact n2 _ rfl
    · rw [y, he] at z
      cases z
      exact n2 _ rfl
  have n1 := nt _ _ h1 (fun ks z => by cases z) (fun xs z => by cases z)
  refine ⟨ps, k _ _ n1.1 n1.2.1 n1.2.2 h1, h2, fun pos cv hc => ?_⟩
  obtain ⟨c', e1, e2⟩ := h3 pos cv hc
  have n2 := nt _ _ e2 (fun ks z => by unfold CodeO at z; cases z) (fun xs z => by unfold CodeO at z; cases z)
  exact ⟨c', e1, k _ _ n2.1 n2.2.1 n2.2.2 e2⟩
theorem stD_start {F H : Hp} {d l c : Addr} {n : Nat} (s : Same F H) (Fd : F d = none) (Fl : F l = none) (D : DrawAt H d l c n) : StD F H d l c F H n := ⟨s, Fd, Fl, D, .refl H, new_refl, Same.refl F⟩
theorem same_put {G H : Hp} {L : Addr} {o : HO} (s : Same G H) (h : H L = some o) : Same (upd G L o) H := fun b x e => by
  by_cases hb : b = L
  · rw [hb, upd_same] at e
    rw [hb, h]
    exact e
  · rw [upd_ne hb] at e
    exact s b x e
section
variable {K : PySem.W.Frag} {d l c : Addr} {CK CS P0 : Addr}
theorem par3_open {i j k : Nat} {ta : TA} {D : Ends} {σ : L2.St} {H : Hp} (h : ta σ H fun vs H1 => ∃ u v w, vs = [u, v, w] ∧ D.nx (((σ.set i (some u)).set j (some v)).set k (some w)) H1) : tPar3 i j k ta D σ H := h
theorem par_open {i j : Nat} {ta : TA} {D : Ends} {σ : L2.St} {H : Hp} (h : ta σ H fun vs H1 => ∃ u v, vs = [u, v] ∧ D.nx ((σ.set i (some u)).set j (some v)) H1) : tPar i j ta D σ H := h
theorem cons_open {te : TE} {ta : TA} {σ : L2.St} {H : Hp} {Q : List V → Hp → Prop} (h : te σ H fun x H1 => ta σ H1 fun xs H2 => Q (x :: xs) H2) : tCons te ta σ H Q := h
end
end Sx
set_option Elab.async false
set_option linter.all false
set_option maxRecDepth 100000
set_option maxHeartbeats 4000000
set_option exponentiation.threshold 3000
namespace Sx
open PySem PySem.Spec PyProof.Rows L2 LamX
open C8 (Cal pe_c pe_gc)
def top (i : Nat) : Stmt := PySem.Challenge.pw_samewriting_k51_word_machines_and_scribe.main.body.getD i (.Pass ⟨0, 0, 0, 0⟩)
section
variable {P : Program} {w : World} {K : PySem.W.Frag} {mg : Str → Option Value} {base : Heap} {f : Addr} {fd : FuncData}
abbrev s_is_whole : Stmt := top 7
theorem sc_is_whole : FnScope ["thing"] ["thing"] (defScope s_is_whole) := ⟨rfl, rfl, rfl, by decide +kernel, rfl, by decide +kernel, by decide +kernel⟩
def isWhole (d : PyData) : Bool := isInt d && !isBool d
theorem isWhole_iff (d : PyData) : isWhole d = true ↔ ∃ i, d = .int i := by
  cases d <;> simp [isWhole, isInt, isBool]
abbrev p_is_whole (K : PySem.W.Frag) : Sp := spD K (f1 fun a => some (.bool (isWhole a)))
theorem ok_is_whole (F : Fun K "is_whole" "is_whole" s_is_whole f fd) (B : BI mg) : FnOk P w K mg base CX0 1 f fd ["thing"] (p_is_whole K) := by
  refine F.ok sc_is_whole (fun vs H Q E h => len_f1 h) (fun cdv A outer s H vs Q E hr h => go1 h fun F0 a x d sm ra e ev q => ?_)
  subst ev
  cases e
  refine ⟨_, (pss_one (ps_ret (pe_and (pe_callB (r := rIsi K) (call_isi) (by rfl) B.isinstance (by decide +kernel) (pa_cons (pv 0) (pa_cons (pe_bltn (v := .ty "int") (by rfl) B.int_ (by decide +kernel) rfl) pa_nil))) (pe_one (pe_not (pe_callB (r := rIsi K) (call_isi) (by rfl) B.isinstance (by decide +kernel) (pa_cons (pv 0) (pa_cons (pe_bltn (v := .ty "bool") (by rfl) B.bool_ (by decide +kernel) rfl) pa_nil)))))))), ?_⟩
  have s0 : Slot K (start ["thing"] [x]) F0 0 a := ⟨x, rfl, ra⟩
  exact (r_ret (ev_and (ev_isi (ev_var s0) (kit_int a)) fun _ => ev_not (ev_isi (ev_var s0) (kit_bool a))) : Ret K _ _ F0 _) H sm _ q
abbrev s_is_between : Stmt := top 8
theorem sc_is_between : FnScope ["thing", "low", "high"] ["thing", "low", "high"] (defScope s_is_between) := ⟨rfl, rfl, rfl, by decide +kernel, rfl, by decide +kernel, by decide +kernel⟩
def isBetween (d : PyData) (l h : Int) : Bool := match d with
  | .int i => decide (l ≤ i) && decide (i ≤ h)
  | _ => false
def g_is_between (d l h : PyData) : Option PyData := match l, h with
  | .int l, .int h => some (.bool (isBetween d l h))
  | _, _ => none
abbrev p_is_between (K : PySem.W.Frag) : Sp := spD K (f3 g_is_between)
theorem ok_is_between (F : Fun K "is_between" "is_between" s_is_between f fd) (c_is_whole : Cal P w K mg base 1 "is_whole" (p_is_whole K) []) : FnOk P w K mg base CX0 2 f fd ["thing", "low", "high"] (p_is_between K) := by
  refine F.ok sc_is_between (fun vs H Q E h => len_f3 h) (fun cdv A outer s H vs Q E hr h => go3 h fun F0 a b c x y z d sm ra rb rc e ev q => ?_)
  subst ev
  match b, c, e with
  | .int l, .int u, e =>
    cases e
    refine ⟨_, (pss_one (ps_ret (pe_and (pe_c c_is_whole hr (by first | decide | omega) (by rfl) (pa_cons (pv 0) pa_nil)) (pe_one (pe_chain (op_le) (op_le) (pv 1) (pv 0) (pv 2)))))), ?_⟩
    have s0 : Slot K (start ["thing", "low", "high"] [x, y, z]) F0 0 a := ⟨x, rfl, ra⟩
    have s1 : Slot K (start ["thing", "low", "high"] [x, y, z]) F0 1 (.int l) := ⟨y, rfl, rb⟩
    have s2 : Slot K (start ["thing", "low", "high"] [x, y, z]) F0 2 (.int u) := ⟨z, rfl, rc⟩
    refine (r_ret ?_ : Ret K _ _ F0 _) H sm _ q
    have hw := ev_call (K := K) (f := f1 fun a => some (.bool (isWhole a))) (E := E0) (ea_cons (ev_var s0) ea_nil) rfl
    cases a with
    | int i => exact (ev_and hw fun _ => ev_chain (ev_var s1) (ev_var s0) rv_bl (fun _ => ev_var s2) fun _ => rv_bl).is rfl
    | _ => exact (ev_and (c := false) hw fun z => nomatch z).is rfl
abbrev s_is_word : Stmt := top 9
theorem sc_is_word : FnScope ["thing", "word"] ["thing", "word"] (defScope s_is_word) := ⟨rfl, rfl, rfl, by decide +kernel, rfl, by decide +kernel, by decide +kernel⟩
def isWord (d : PyData) (z : Str) : Bool := match d with
  | .str x => decide (x = z)
  | _ => false
def g_is_word (d z : PyData) : Option PyData := match z with
  | .str z => some (.bool (isWord d z))
  | _ => none
abbrev p_is_word (K : PySem.W.Frag) : Sp := spD K (f2 g_is_word)
theorem ok_is_word (F : Fun K "is_word" "is_word" s_is_word f fd) (B : BI mg) : FnOk P w K mg base CX0 1 f fd ["thing", "word"] (p_is_word K) := by
  refine F.ok sc_is_word (fun vs H Q E h => len_f2 h) (fun cdv A outer s H vs Q E hr h => go2 h fun F0 a b x y d sm ra rb e ev q => ?_)
  subst ev
  match b, e with
  | .str l, e =>
    cases e
    refine ⟨_, (pss_one (ps_ret (pe_and (pe_callB (r := rIsi K) (call_isi) (by rfl) B.isinstance (by decide +kernel) (pa_cons (pv 0) (pa_cons (pe_bltn (v := .ty "str") (by rfl) B.str_ (by decide +kernel) rfl) pa_nil))) (pe_one (pe_cmpR (op_eq) (pv 0) (pv 1) (nomark _)))))), ?_⟩
    have s0 : Slot K (start ["thing", "word"] [x, y]) F0 0 a := ⟨x, rfl, ra⟩
    have s1 : Slot K (start ["thing", "word"] [x, y]) F0 1 (.str l) := ⟨y, rfl, rb⟩
    refine (r_ret ?_ : Ret K _ _ F0 _) H sm _ q
    have hw := ev_isi (ev_var s0) (kit_str a)
    cases a with
    | str i => exact (ev_and hw fun _ => ev_op (ev_var s0) (ev_var s1) rv_eqS).is rfl
    | _ => exact (ev_and (c := false) hw fun z => nomatch z).is rfl
abbrev s_is_row : Stmt := top 10
theorem sc_is_row : FnScope ["thing", "many"] ["thing", "many"] (defScope s_is_row) := ⟨rfl, rfl, rfl, by decide +kernel, rfl, by decide +kernel, by decide +kernel⟩
def isRow (d : PyData) (n : Int) : Bool := match d with
  | .tuple xs => decide ((xs.length : Int) = n)
  | _ => false
def g_is_row (d z : PyData) : Option PyData := match z with
  | .int z => some (.bool (isRow d z))
  | _ => none
abbrev p_is_row (K : PySem.W.Frag) : Sp := spD K (f2 g_is_row)
theorem ok_is_row (F : Fun K "is_row" "is_row" s_is_row f fd) (B : BI mg) : FnOk P w K mg base CX0 1 f fd ["thing", "many"] (p_is_row K) := by
  refine F.ok sc_is_row (fun vs H Q E h => len_f2 h) (fun cdv A outer s H vs Q E hr h => go2 h fun F0 a b x y d sm ra rb e ev q => ?_)
  subst ev
  match b, e with
  | .int l, e =>
    cases e
    refine ⟨_, (pss_one (ps_ret (pe_and (pe_callB (r := rIsi K) (call_isi) (by rfl) B.isinstance (by decide +kernel) (pa_cons (pv 0) (pa_cons (pe_bltn (v := .ty "tuple") (by rfl) B.tuple (by decide +kernel) rfl) pa_nil))) (pe_one (pe_cmpR (op_eq) (pe_callB (r := rLen0 K) (call_len) (by rfl) B.len (by decide +kernel) (pa_cons (pv 0) pa_nil)) (pv 1) (nomark _)))))), ?_⟩
    have s0 : Slot K (start ["thing", "many"] [x, y]) F0 0 a := ⟨x, rfl, ra⟩
    have s1 : Slot K (start ["thing", "many"] [x, y]) F0 1 (.int l) := ⟨y, rfl, rb⟩
    refine (r_ret ?_ : Ret K _ _ F0 _) H sm _ q
    have hw := ev_isi (ev_var s0) (kit_tup a)
    cases a with
    | tuple xs => exact (ev_and hw fun _ => ev_op (ev1 (ev_var s0) rc_lenT) (ev_var s1) rv_eqI).is rfl
    | _ => exact (ev_and (c := false) hw fun z => nomatch z).is rfl
abbrev s_is_rising : Stmt := top 11
theorem sc_is_rising : FnScope ["items", "before", "after"] ["items"] (defScope s_is_rising) := ⟨rfl, rfl, rfl, by decide +kernel, rfl, by decide +kernel, by decide +kernel⟩
def lt2 : PyData → PyData → Bool
  | .str x, .str y => decide (x.cps.toList < y.cps.toList)
  | .int i, .int j => decide (i < j)
  | _, _ => false
def risesD (xs : List PyData) : Bool := (List.zipWith lt2 xs (xs.drop 1)).all id
def plainItems (xs : List PyData) : Bool := xs.all isStr || xs.all isWhole
def g_is_rising : PyData → Option PyData
  | .list xs => if plainItems xs && decide (xs.length < sizeLine) then some (.bool (risesD xs)) else none
  | .tuple xs => if plainItems xs && decide (xs.length < sizeLine) then some (.bool (risesD xs)) else none
  | _ => none
abbrev p_is_rising (K : PySem.W.Frag) : Sp := spD K (f1 g_is_rising)
def ltPair : PyData → PyData
  | .tuple [a, b] => .bool (lt2 a b)
  | _ => .none
theorem ltPairs : ∀ xs ys : List PyData, (pairs xs ys).map ltPair = (List.zipWith lt2 xs ys).map .bool
  | [], _ => rfl
  | _ :: _, [] => rfl
  | a :: xs, b :: ys => congrArg (PyData.bool (lt2 a b) :: ·) (ltPairs xs ys)
theorem pair_cases {xs : List PyData} (hp : plainItems xs = true) {a b : PyData} (ha : a ∈ xs) (hb : b ∈ xs) : (∃ x y, a = .str x ∧ b = .str y) ∨ ∃ i j, a = .int i ∧ b = .int j := by
  unfold plainItems at hp
  rw [Bool.or_eq_true, List.all_eq_true, List.all_eq_true] at hp
  rcases hp with h | h
  · have h1 := h a ha
    have h2 := h b hb
    cases a <;> simp [isStr] at h1
    cases b <;> simp [isStr] at h2
    exact .inl ⟨_, _, rfl, rfl⟩
  · obtain ⟨i, h1⟩ := (isWhole_iff a).mp (h a ha)
    obtain ⟨j, h2⟩ := (isWhole_iff b).mp (h b hb)
    exact .inr ⟨i, j, h1, h2⟩
theorem mem_pairs {xs ys : List PyData} {d : PyData} (h : d ∈ pairs xs ys) : ∃ a b, a ∈ xs ∧ b ∈ ys ∧ d = .tuple [a, b] := by
  obtain ⟨i, hi, e⟩ := List.mem_iff_getElem.mp h
  have q : (pairs xs ys)[i]? = some d := by rw [List.getElem?_eq_getElem hi, e]
  obtain ⟨a, b, h1, h2, h3⟩ := pairs_get q
  exact ⟨a, b, List.mem_of_getElem? h1, List.mem_of_getElem? h2, h3⟩
theorem ok_is_rising (F : Fun K "is_rising" "is_rising" s_is_rising f fd) (B : BI mg) : FnOk P w K mg base CX0 1 f fd ["items"] (p_is_rising K) := by
  refine F.ok sc_is_rising (fun vs H Q E h => len_f1 h) (fun cdv A outer s H vs Q E hr h => go1 h fun F0 a x d sm ra e ev q => ?_)
  subst ev
  refine ⟨_, (pss_one (ps_ret (pe_callB (r := rAll K) (cr_all rfl) (by rfl) B.all (by decide +kernel) (pa_cons (pe_lc (own := [("before", 1), ("after", 2)]) (g := (gTup K 2 (gCons (gName 1) (gCons (gName 2) gNil)))) rfl sc_is_rising.nd (RZ.pi_zipA (by rfl) B.zip (pa_cons (pv 0) (pa_cons (pe_slice (SlR.or sl_list sl_tupA) (pv 0) (po_some pe_int) po_none) pa_nil))) (blkOk_by (own := [("before", 1), ("after", 2)]) (N := ["items", "before", "after"]) (sc := defScope s_is_rising) (by decide +kernel)) (fun _ _ _ _ _ => (pg_tup rfl (pgs_cons (pg_name (i := 1) sc_is_rising.nd rfl (Or.inl rfl) (hf := (Or.inr rfl))) (pgs_cons (pg_name (i := 2) sc_is_rising.nd rfl (Or.inl rfl) (hf := (Or.inr rfl))) pgs_nil)))) (fun _ _ _ _ _ => pts_nil) (fun _ _ _ _ _ => (pe_cmpR (OpR.or op_lt op_lt_str) (pv 1) (pv 2) (nomark _)))) pa_nil)))), ?_⟩
  have s0 : Slot K (start ["items", "before", "after"] [x]) F0 0 a := ⟨x, rfl, ra⟩
  have turn : ∀ (xs : List PyData) (d : PyData) (F' : Hp), plainItems xs = true → d ∈ pairs xs (xs.drop 1) → Tk K (gTup K 2 (gCons (gName 1) (gCons (gName 2) gNil))) d (wipe (start ["items", "before", "after"] [x]) [1, 2]) F' fun σ2 => wipe σ2 [1, 2] = wipe (start ["items", "before", "after"] [x]) [1, 2] ∧
      EvB tYes σ2 F' true ∧ (true = true → EvD K (tOp (fun x y H Q => rI0 (fun i j => V.bl (decide (i < j))) x y H Q ∨ (fun x y H Q => ∃ i j : Str, x = V.str i ∧ y = V.str j ∧ Q (V.bl (decide (i.cps.toList < j.cps.toList))) H) x y H Q) (tVar 1) (tVar 2)) σ2 F' (ltPair d)) := fun xs d F' hp hd => by
    obtain ⟨a, b, h1, h2, rfl⟩ := mem_pairs hd
    refine tk_two.imp fun σ2 hσ => ?_
    obtain ⟨v, w, rfl, rv, rw'⟩ := hσ
    refine ⟨rfl, eb_yes, fun _ => ?_⟩
    rcases pair_cases hp h1 (List.mem_of_mem_drop h2) with ⟨y, z, rfl, rfl⟩ | ⟨i, j, rfl, rfl⟩
    · exact ev_op (ev_var ⟨v, rfl, rv⟩) (ev_var ⟨w, rfl, rw'⟩) (rv_or2 rv_ltS)
    · exact ev_op (ev_var ⟨v, rfl, rv⟩) (ev_var ⟨w, rfl, rw'⟩) (rv_or1 rv_bl)
  have size : ∀ {xs : List PyData}, xs.length < sizeLine → (pairs xs (xs.drop 1)).length < sizeLine := fun {xs} h => by
    rw [pairs_len]
    exact Nat.lt_of_le_of_lt (Nat.min_le_left _ _) h
  match a, e, s0 with
  | .list xs, e, s0 =>
    have e' : (if plainItems xs && decide (xs.length < sizeLine) then some (PyData.bool (risesD xs)) else none) = some d := e
    split at e'
    · rename_i hp
      rw [Bool.and_eq_true, decide_eq_true_iff] at hp
      cases e'
      refine (r_ret (ev1 ((ev_lc (fun _ => true) ltPair (ew_zipAL (ea_cons (ev_var s0) (ea_cons (ev_sl (ev_var s0) (eo_some ev_int) eo_none (rs_or1 rs_list)) ea_nil))) ?_ fun d F' hd _ => ?_).is ?_) rc_all) : Ret K _ _ F0 _) H sm _ q
      · rw [show (1 : Int) = ((1 : Nat) : Int) from rfl, cut_from]
        exact size hp.2
      · rw [show (1 : Int) = ((1 : Nat) : Int) from rfl, cut_from] at hd
        exact turn xs d F' hp.1 hd
      · rw [show (1 : Int) = ((1 : Nat) : Int) from rfl, cut_from, made_map, ltPairs]
    · cases e'
  | .tuple xs, e, s0 =>
    have e' : (if plainItems xs && decide (xs.length < sizeLine) then some (PyData.bool (risesD xs)) else none) = some d := e
    split at e'
    · rename_i hp
      rw [Bool.and_eq_true, decide_eq_true_iff] at hp
      cases e'
      refine (r_ret (ev1 ((ev_lc (fun _ => true) ltPair (ew_zipAT (ea_cons (ev_var s0) (ea_cons (ev_sl (ev_var s0) (eo_some ev_int) eo_none (rs_or2 rs_tup)) ea_nil))) ?_ fun d F' hd _ => ?_).is ?_) rc_all) : Ret K _ _ F0 _) H sm _ q
      · rw [show (1 : Int) = ((1 : Nat) : Int) from rfl, cut_from]
        exact size hp.2
      · rw [show (1 : Int) = ((1 : Nat) : Int) from rfl, cut_from] at hd
        exact turn xs d F' hp.1 hd
      · rw [show (1 : Int) = ((1 : Nat) : Int) from rfl, cut_from, made_map, ltPairs]
    · cases e'
end
section
variable {P : Program} {w : World} {K : PySem.W.Frag} {mg : Str → Option Value} {base : Heap} {f : Addr} {fd : FuncData} {aK : Addr}
abbrev s_is_rising_below : Stmt := top 12
theorem sc_is_rising_below : FnScope ["thing", "many", "number"] ["thing", "many"] (defScope s_is_rising_below) := ⟨rfl, rfl, rfl, by decide +kernel, rfl, by decide +kernel, by decide +kernel⟩
def isRisingBelow (d : PyData) (n : Int) : Bool := match d with
  | .tuple xs => xs.all (fun x => isBetween x 0 (n - 1)) && risesD xs
  | _ => false
def fitsT (d : PyData) : Bool := match d with
  | .tuple xs => decide (xs.length < sizeLine)
  | .str x => decide (x.length ≤ sizeLine)
  | _ => true
def g_is_rising_below (d z : PyData) : Option PyData := match z with
  | .int n => if fitsT d then some (.bool (isRisingBelow d n)) else none
  | _ => none
abbrev p_is_rising_below (K : PySem.W.Frag) : Sp := spD K (f2 g_is_rising_below)
theorem isBetween_whole {d : PyData} {l h : Int} (e : isBetween d l h = true) : isWhole d = true := by
  cases d <;> first | rfl | exact nomatch e
theorem ok_is_rising_below (F : Fun K "is_rising_below" "is_rising_below" s_is_rising_below f fd) (B : BI mg) (c_is_between : Cal P w K mg base 2 "is_between" (p_is_between K) []) (c_is_rising : Cal P w K mg base 1 "is_rising" (p_is_rising K) []) :
    FnOk P w K mg base CX0 3 f fd ["thing", "many"] (p_is_rising_below K) := by
  refine F.ok sc_is_rising_below (fun vs H Q E h => len_f2 h) (fun cdv A outer s H vs Q E hr h => go2 h fun F0 a b x y d sm ra rb e ev q => ?_)
  subst ev
  match b, e with
  | .int n, e =>
    have e' : (if fitsT a then some (PyData.bool (isRisingBelow a n)) else none) = some d := e
    split at e'
    · rename_i hz
      cases e'
      refine ⟨_, (pss_cons (ps_if (pt_not (pt_val (pe_callB (r := rIsi K) (call_isi) (by rfl) B.isinstance (by decide +kernel) (pa_cons (pv 0) (pa_cons (pe_bltn (v := .ty "tuple") (by rfl) B.tuple (by decide +kernel) rfl) pa_nil))))) (pss_one (ps_ret pe_bl)) pss_nil)
        (pss_one (ps_ret (pe_and (pe_callB (r := rAll K) (cr_all rfl) (by rfl) B.all (by decide +kernel) (pa_cons (pe_lc (own := [("number", 2)]) (g := (gName 2)) rfl sc_is_rising_below.nd (pi_tup (pv 0)) (blkOk_by (own := [("number", 2)]) (N := ["thing", "many", "number"]) (sc := defScope s_is_rising_below) (by decide +kernel)) (fun _ _ _ _ _ => (pg_name (i := 2) sc_is_rising_below.nd rfl (Or.inl rfl) (hf := (Or.inr rfl)))) (fun _ _ _ _ _ => pts_nil) (fun _ _ _ _ _ => (pe_c c_is_between hr (by first | decide | omega) (by rfl) (pa_cons (pv 2) (pa_cons pe_int (pa_cons (pe_op (op_sub) (pv 1) pe_int) pa_nil)))))) pa_nil)) (pe_one (pe_c c_is_rising hr (by first | decide | omega) (by rfl) (pa_cons (pv 0) pa_nil))))))), ?_⟩
      have s0 : Slot K (start ["thing", "many", "number"] [x, y]) F0 0 a := ⟨x, rfl, ra⟩
      have s1 : Slot K (start ["thing", "many", "number"] [x, y]) F0 1 (.int n) := ⟨y, rfl, rb⟩
      refine (?_ : Ret K _ _ F0 _) H sm _ q
      have hw := eb_not (eb_val (ev_isi (ev_var s0) (kit_tup a)))
      cases a with
      | tuple xs =>
        refine r_when hw (fun z => nomatch z) fun _ => r_ret ?_
        have hl := of_decide_eq_true hz
        have q1 := ev_lc (K := K) (te := tCall (p_is_between K) [] C8.E0 (tCons (tVar 2) (tCons (tC (.int 0)) (tCons (tOp (rI0 fun i j => V.int (i - j)) (tVar 1) (tC (.int 1))) tNil)))) (tt := tYes) (g := gName 2) (vs := [2]) (fun _ => true) (fun d => .bool (isBetween d 0 (n - 1))) (ew_tup (ev_var s0)) hl fun d F' hd sF => by
          refine tk_name.imp fun σ2 hσ => ?_
          obtain ⟨v, rfl, rv⟩ := hσ
          exact ⟨rfl, eb_yes, fun _ => ev_call (ea_cons (ev_var ⟨v, rfl, rv⟩) (ea_cons ev_int (ea_cons (ev_op (ev_var ⟨y, rfl, rb.up sF⟩) ev_int rv_int) ea_nil))) rfl⟩
        rw [made_map, map_bools] at q1
        have q2 := ev1 q1 rc_all
        rw [all_bools] at q2
        refine (ev_and q2 fun hall => ev_call (d := .bool (risesD xs)) (ea_cons (ev_var s0) ea_nil) ?_ : EvD K _ _ F0 _)
        show (if plainItems xs && decide (xs.length < sizeLine) then some (PyData.bool (risesD xs)) else none) = _
        rw [if_pos]
        rw [Bool.and_eq_true, decide_eq_true_iff]
        refine ⟨?_, hl⟩
        unfold plainItems
        rw [Bool.or_eq_true]
        refine .inr (List.all_eq_true.mpr fun z hz => isBetween_whole (List.all_eq_true.mp hall z hz))
      | _ => exact r_when hw (fun _ => r_ret ev_bl) fun z => nomatch z
    · cases e'
def fstD : PyData → PyData
  | .tuple [a, _] => a
  | _ => .none
def sndD : PyData → PyData
  | .tuple [_, b] => b
  | _ => .none
def intD : PyData → Int
  | .int i => i
  | _ => 0
end
section
variable {P : Program} {w : World} {K : PySem.W.Frag} {mg : Str → Option Value} {base : Heap} {f : Addr} {fd : FuncData} {aK CK CN CS : Addr}
theorem ev_cells {σ : L2.St} {F : Hp} {i0 : Nat} {a l c : Addr} {ws cs : List Int} {rest turn : Int} (D : Draw F a l c ws cs rest turn) (h : σ[i0]? = some (some (.ref a))) : EvD K (tDGet (tVar i0) (tC (.str "cells"))) σ F (.list (cs.map .int)) := fun H s Q q =>
  now_cells (D.same s) (now_var h) _ (q _ F H (.start s) (.lst (.inl (.inl D.cl)) (dps_ofInt cs)))
theorem mulL {i j : Int} (h : -(2 ^ 64) < i ∧ i < 2 ^ 64) : CMul i j := .inl h
theorem mulR {i j : Int} (h : -(2 ^ 64) < j ∧ j < 2 ^ 64) : CMul i j := .inr h
abbrev s__law_mixed : Stmt := top 37
theorem sc__law_mixed : FnScope ["draw", "prime", "turn", "found", "blend", "grain"] ["draw"] (defScope s__law_mixed) := ⟨rfl, rfl, rfl, by decide +kernel, rfl, by decide +kernel, by decide +kernel⟩
def spMixed : Sp := fun vs H Q _ => ∃ a l c n, vs = [.ref a] ∧ DrawAt H a l c n ∧ n ≤ 2 ^ 40 ∧ ∀ (i : Int) H', Keeps a l H H' → DrawAt H' a l c (n + 1) → Q (.int i) H'
def primes : List PyData := [.int 2147483647, .int 2147483629, .int 2147483587, .int 2147483579]
theorem ok__law_mixed (F : Fun K "_law_mixed" "_law_mixed" s__law_mixed f fd) (B : BI mg) : FnOk P w K mg base CX0 1 f fd ["draw"] spMixed := by
  refine F.ok sc__law_mixed (fun vs H Q E h => by obtain ⟨a, _, _, _, e, _⟩ := h; rw [e]; rfl) (fun cdv A outer s H vs Q E hr h => ?_)
  obtain ⟨a, l, c, n, ev, ⟨ws, cs, rest, turn, D, ht0, ht1⟩, hn, q⟩ := h
  subst ev
  refine ⟨_, (pss_cons (ps_par (i := 2) (j := 3) rfl sc__law_mixed.nd rfl rfl (by decide) rfl rfl (pa_cons (pe_op (op_add) (pe_dget (hu_of hr) (pv 0) pe_str (fun _ _ => rfl)) pe_int) (pa_cons pe_int pa_nil)) (by rfl))
        (pss_cons (ps_dput (hu_of hr) (pv 0) pe_str (pv 2) rfl)
        (pss_cons (ps_for PassesOwn.never rfl (pi_list (pe_lst (pa_cons pe_int (pa_cons pe_int (pa_cons pe_int (pa_cons pe_int pa_nil)))))) (pg_name (i := 1) sc__law_mixed.nd rfl (Or.inl rfl) (hf := (Or.inr rfl))) (pss_cons (ps_set (i := 4) sc__law_mixed.nd rfl (Or.inl rfl) (pe_op (op_add) (pe_op (op_mul) pe_int (pv 2)) (pe_op (op_fdiv) (pv 1) pe_int)))
        (pss_cons (ps_for PassesOwn.never rfl (pi_list (pe_dget (hu_of hr) (pv 0) pe_str (fun _ _ => rfl))) (pg_name (i := 5) sc__law_mixed.nd rfl (Or.inl rfl) (hf := (Or.inr rfl))) (pss_one (ps_set (i := 4) sc__law_mixed.nd rfl (Or.inl rfl) (pe_op (op_mod) (pe_callTy (call_int1) (by rfl) B.int_ (by decide +kernel) (pa_cons (pe_op (op_add) (pe_op (op_add) (pe_op (op_mul) (pv 4) pe_int) (pv 5)) (pv 2)) pa_nil)) (pv 1)))))
        (pss_one (ps_set (i := 3) sc__law_mixed.nd rfl (Or.inl rfl) (pe_op (op_add) (pe_op (op_mul) (pv 3) pe_int) (pe_op (op_mod) (pe_callTy (call_int1) (by rfl) B.int_ (by decide +kernel) (pa_cons (pe_op (op_pow) (pv 4) pe_int) pa_nil)) (pv 1))))))))
        (pss_one (ps_ret (pv 3)))))), ?_⟩
  refine now_turn D (now_var rfl) _ ⟨turn, 1, rfl, rfl, _, _, rfl, ?_⟩
  refine ⟨.int (turn + 1), rfl, ⟨.ref a, rfl, ⟨a, _, rfl, DPut.k (k := .inr "turn") D.d (by show 4 < sizeLine; decide), ?_⟩⟩⟩
  rw [put_turn]
  have D1 := D.put (r := rest) (t := turn + 1)
  have k1 : Keeps a l H (upd H a (.dK (drawK l c rest (turn + 1)))) := (Keeps.refl H).put
  generalize upd H a (.dK (drawK l c rest (turn + 1))) = H1 at D1 k1
  refine s_for (K := K) (F := H1) (ds := primes) (Same.refl H1) (ew_list (ev_lst (ea_cons ev_int (ea_cons ev_int (ea_cons ev_int (ea_cons ev_int ea_nil)))) (by show 4 ≤ sizeLine; decide))) fun F2 H2 g2 =>
    ⟨fun i σ' F' H' => F' = F2 ∧ Same F2 H' ∧ (∃ y1 y3 y4 y5, σ' = [some (.ref a), y1, some (.int (turn + 1)), some (.int y3), y4, y5]),
      ⟨rfl, g2.i, ⟨_, _, _, _, rfl⟩⟩, fun i σ' F' H' h => ⟨by rw [h.1]; exact Same.refl _, by rw [h.1]; exact h.2.1⟩, fun i d σ' F' H' hd hI F3 H3 v g3 rv => ?_, fun σ' F' H' hI => ?_⟩
  · obtain ⟨rfl, sF, ⟨y1, y3, y4, y5, rfl⟩⟩ := hI
    have hp : ∃ p : Int, d = .int p ∧ 2147483579 ≤ p ∧ p ≤ 2147483647 := by
      match i, hd with
      | 0, hd => cases hd; exact ⟨_, rfl, by decide, by decide⟩
      | 1, hd => cases hd; exact ⟨_, rfl, by decide, by decide⟩
      | 2, hd => cases hd; exact ⟨_, rfl, by decide, by decide⟩
      | 3, hd => cases hd; exact ⟨_, rfl, by decide, by decide⟩
      | i + 4, hd => cases hd
    obtain ⟨p, rfl, p1, p2⟩ := hp
    cases rv
    have s3 : Same F' H3 := sF.trans g3.h
    have D3 := (D1.same g2.f).same s3
    refine s_set (K := K) (F := H3) (d := .int (48271 * (turn + 1) + p / 37)) (ev_op (ev_op (ev_int (i := 48271)) (ev_var (i := 2) ⟨_, rfl, .int (turn + 1)⟩) (rv_intC (C := CMul) (g := fun i j => i * j) (mulL (by decide)))) (ev_op (ev_var (i := 1) ⟨_, rfl, .int p⟩) (ev_int (i := 37)) (rv_intC (C := CDiv) (g := fun i j => i / j) ⟨by decide, by decide⟩)) (rv_int (g := fun i j => i + j))) (Same.refl H3) fun v F4 H4 g4 r4 => ?_
    cases r4
    have D4 := D3.same g4.f
    refine s_for (K := K) (F := F4) (ds := cs.map .int) g4.i (ew_list (ev_cells D4 rfl)) fun F5 H5 g5 =>
      ⟨fun j σ' G' H' => G' = F5 ∧ Same F5 H' ∧ ∃ b y5, σ' = [some (.ref a), some (.int p), some (.int (turn + 1)), some (.int y3), some (.int b), y5] ∧ -(2 ^ 63) < b ∧ b < 2 ^ 63,
        ⟨rfl, g5.i, _, _, rfl, by omega, by omega⟩, fun j σ' G' H' h => ⟨by rw [h.1]; exact Same.refl _, by rw [h.1]; exact h.2.1⟩, fun j d σ' G' H' hd hI F6 H6 v g6 rv => ?_, fun σ' G' H' hI => ?_⟩
    · obtain ⟨rfl, s5, b, z5, rfl, b1, b2⟩ := hI
      obtain ⟨x, _, rfl⟩ := List.mem_map.mp (List.mem_of_getElem? hd)
      cases rv
      have q1 := ev_op (K := K) (F := F6) (σ := [some (.ref a), some (.int p), some (.int (turn + 1)), some (.int y3), some (.int b), some (.int x)]) (ev_op (ev_op (ev_var (i := 4) ⟨_, rfl, .int b⟩) (ev_int (i := 69621)) (rv_intC (C := CMul) (g := fun i j => i * j) (mulR (by decide)))) (ev_var (i := 5) ⟨_, rfl, .int x⟩) (rv_int (g := fun i j => i + j))) (ev_var (i := 2) ⟨_, rfl, .int (turn + 1)⟩) (rv_int (g := fun i j => i + j))
      refine s_set (K := K) (F := F6) (d := .int ((b * 69621 + x + (turn + 1)) % p)) (ev_op (ev1 q1 rc_int) (ev_var (i := 1) ⟨_, rfl, .int p⟩) (rv_intC (C := fun _ j => 0 < j) (g := fun i j => i % j) (by omega))) g6.i fun v F7 H7 g7 r7 => ?_
      cases r7
      have m1 := Int.emod_nonneg (b * 69621 + x + (turn + 1)) (show p ≠ 0 by omega)
      have m2 := Int.emod_lt_of_pos (b * 69621 + x + (turn + 1)) (show 0 < p by omega)
      exact ⟨_, rfl, s5.trans (g6.h.trans g7.h), _, _, rfl, by omega, by omega⟩
    · obtain ⟨rfl, s5, b, z5, rfl, b1, b2⟩ := hI
      have q1 := ev_op (K := K) (F := G') (σ := [some (.ref a), some (.int p), some (.int (turn + 1)), some (.int y3), some (.int b), z5]) (ev1 (ev_op (ev_var (i := 4) ⟨_, rfl, .int b⟩) (ev_int (i := 5)) (rv_intC (C := CPow) (g := fun i j => i ^ j.toNat) ⟨by decide, by decide, by omega⟩)) rc_int) (ev_var (i := 1) ⟨_, rfl, .int p⟩) (rv_intC (C := fun _ j => 0 < j) (g := fun i j => i % j) (by omega))
      refine s_set (K := K) (F := G') (ev_op (ev_op (ev_var (i := 3) ⟨_, rfl, .int y3⟩) (ev_int (i := 2147483647)) (rv_intC (C := CMul) (g := fun i j => i * j) (mulR (by decide)))) q1 (rv_int (g := fun i j => i + j))) s5 fun v F7 H7 g7 r7 => ?_
      cases r7
      exact ⟨_, rfl, s3.trans (g4.f.trans (g5.f.trans (s5.trans g7.h))), ⟨_, _, _, _, rfl⟩⟩
  · obtain ⟨rfl, sF, ⟨y1, y3, y4, y5, rfl⟩⟩ := hI
    refine now_var rfl _ ?_
    have D3 := (D1.same g2.f).same sF
    exact q y3 H' (k1.trans (.of (g2.f.trans sF))) ⟨ws, cs, rest, turn + 1, D3, by omega, by omega⟩
theorem ev_rest {σ : L2.St} {F : Hp} {i0 : Nat} {a l c : Addr} {ws cs : List Int} {rest turn : Int} (D : Draw F a l c ws cs rest turn) (h : σ[i0]? = some (some (.ref a))) : EvD K (tDGet (tVar i0) (tC (.str "rest"))) σ F (.int rest) := fun H s Q q =>
  now_rest (D.same s) (now_var h) _ (q _ F H (.start s) (.int _))
theorem ev_wide {σ : L2.St} {F : Hp} {i0 : Nat} {a l c : Addr} {ws cs : List Int} {rest turn : Int} (D : Draw F a l c ws cs rest turn) (h : σ[i0]? = some (some (.ref a))) : EvD K (tDGet (tVar i0) (tC (.str "wide"))) σ F (.list (ws.map .int)) := fun H s Q q =>
  now_wide (D.same s) (now_var h) _ (q _ F H (.start s) (.lst (.inl (.inl D.w)) (dps_ofInt ws)))
theorem s_whenI {σ : L2.St} {F H : Hp} {b : Bool} {t : TT} {ts tw : TS} {D : Ends} (I : Hp → Prop) (h : EvB t σ F b) (s : Same F H) (k1 : b = true → ∀ F' H', Grow F H F' H' → ∀ D' : Ends, (∀ H2, I H2 → D'.nx σ H2) → ts D' σ H') (k2 : b = false → ∀ F' H', Grow F H F' H' → I H') (k : ∀ H2, I H2 → tw D σ H2) :
    tSeq (tIfS t ts tNext) tw D σ H := s_when h s (fun hb F' H' g => k1 hb F' H' g _ k) fun hb F' H' g => k _ (k2 hb F' H' g)
abbrev s__law_take : Stmt := top 38
theorem sc__law_take : FnScope ["draw", "many", "found"] ["draw", "many"] (defScope s__law_take) := ⟨rfl, rfl, rfl, by decide +kernel, rfl, by decide +kernel, by decide +kernel⟩
def spTake : Sp := fun vs H Q _ => ∃ a l c n m, vs = [.ref a, .int m] ∧ DrawAt H a l c n ∧ n ≤ 2 ^ 40 ∧ 1 ≤ m ∧ m ≤ 2 ^ 40 ∧ ∀ (i : Nat) H', (i : Int) < m → Keeps a l H H' → DrawAt H' a l c (n + 1) → Q (.int (i : Int)) H'
theorem ok__law_take (F : Fun K "_law_take" "_law_take" s__law_take f fd) (B : BI mg) (c__law_mixed : Cal P w K mg base 1 "_law_mixed" spMixed []) : FnOk P w K mg base CX0 2 f fd ["draw", "many"] spTake := by
  refine F.ok sc__law_take (fun vs H Q E h => by obtain ⟨a, _, _, _, m, e, _⟩ := h; rw [e]; rfl) (fun cdv A outer s H vs Q E hr h => ?_)
  obtain ⟨a, l, c, n, m, ev, ⟨ws, cs, rest, turn, D, ht0, ht1⟩, hn, hm1, hm2, q⟩ := h
  subst ev
  refine ⟨_, (pss_cons (ps_if (pt_cmpR (op_eq) (pe_dget (hu_of hr) (pv 0) pe_str (fun _ _ => rfl)) pe_int (nomark _)) (pss_one (ps_dput (hu_of hr) (pv 0) pe_str (pe_ifExp (pt_cmpR (r := rNeD K) (op_neD hr.units) (pe_dget (hu_of hr) (pv 0) pe_str (fun _ _ => rfl)) (pe_lst pa_nil) (nomark _)) (pe_bm PySem.F.plainAttrs_list PySem.F.slot_list_pop PySem.F.type_list_pop mt_popAt (pe_dget (hu_of hr) (pv 0) pe_str (fun _ _ => rfl)) (pa_cons pe_int pa_nil)) (pe_c c__law_mixed hr (by first | decide | omega) (by rfl) (pa_cons (pv 0) pa_nil))) rfl)) pss_nil)
        (pss_cons (ps_set (i := 2) sc__law_take.nd rfl (Or.inl rfl) (pe_op (op_mod) (pe_callTy (call_int1) (by rfl) B.int_ (by decide +kernel) (pa_cons (pe_dget (hu_of hr) (pv 0) pe_str (fun _ _ => rfl)) pa_nil)) (pv 1)))
        (pss_cons (ps_dput (hu_of hr) (pv 0) pe_str (pe_op (op_fdivW) (pe_dget (hu_of hr) (pv 0) pe_str (fun _ _ => rfl)) (pv 1)) rfl)
        (pss_one (ps_ret (pv 2)))))), ?_⟩
  refine s_whenI (F := H) (fun H2 => Keeps a l H H2 ∧ DrawAt H2 a l c (n + 1)) (eb_test (K := K) (ev_op (ev_rest D rfl) (ev_int (i := 0)) rv_eqI)) (Same.refl H) (fun _ F1 H1 g1 D' k => ?_) (fun _ F1 H1 g1 => ⟨.of g1.h, ws, cs, rest, turn, D.same g1.h, ht0, by omega⟩) fun H1 hI => ?_
  · have D1 := D.same g1.h
    have k1 : Keeps a l H H1 := .of g1.h
    refine eb_test (K := K) (ev_op (ev_wide D1 rfl) (ev_lst ea_nil (Nat.zero_le _)) (rv_neD (shaped_ints ws) (by decide +kernel) (no_ints ws) rfl)) H1 (Same.refl H1) _ fun F2 H2 g2 => ?_
    have D2 := D1.same g2.h
    have k2 := k1.trans (.of g2.h)
    rw [eqv_nil]
    cases ws with
    | nil =>
      refine ⟨.ref a, rfl, a, l, c, n, rfl, ⟨_, _, _, _, D2, ht0, ht1⟩, hn, fun i H3 k3 D3 => ?_⟩
      obtain ⟨us, cs2, r2, t2, D4, h1, h2⟩ := D3
      refine ⟨.ref a, rfl, a, _, rfl, DPut.k (k := .inr "rest") D4.d (by show 4 < sizeLine; decide), ?_⟩
      rw [put_rest]
      exact k _ ⟨(k2.trans k3).put, us, cs2, i, t2, D4.put, h1, h2⟩
    | cons x ws =>
      refine now_wide D2 (now_var rfl) _ ⟨.inl ⟨rfl, _, .inl (.inl D2.w)⟩, ⟨l, _, 0, 0, .int x, rfl, rfl, D2.w, by decide, by decide, ?_, rfl, ?_⟩⟩
      · show seqIndex? 0 ((V.int x :: ws.map V.int).length) = some 0
        exact seqIndex_of (by decide) (by show (0 : Int) < (((ws.map V.int).length + 1 : Nat) : Int); omega)
      · have D4 := D2.putl (us := ws)
        refine ⟨.ref a, rfl, a, _, rfl, DPut.k (k := .inr "rest") D4.d (by show 4 < sizeLine; decide), ?_⟩
        rw [put_rest]
        exact k _ ⟨k2.putl.put, ws, cs, x, turn, D4.put, ht0, by omega⟩
  · obtain ⟨k1, us, cs1, r, t, D1, h0, h1⟩ := hI
    refine s_set (K := K) (F := H1) (d := .int (r % m)) (ev_op (ev1 (ev_rest D1 rfl) rc_int) (ev_var (i := 1) ⟨_, rfl, .int m⟩) (rv_intC (C := fun _ j => 0 < j) (g := fun i j => i % j) (by omega))) (Same.refl H1) fun v F2 H2 g2 r2 => ?_
    cases r2
    have D2 := D1.same g2.h
    refine ev_op (K := K) (F := H2) (ev_rest D2 rfl) (ev_var (i := 1) ⟨_, rfl, .int m⟩) (rv_intC (C := CDivW) (g := fun i j => i / j) (wide_div (b := 64) (by omega) (by omega) (by decide) (by decide))) H2 (Same.refl H2) _ fun v F3 H3 g3 r3 => ?_
    cases r3
    have D3 := D2.same g3.h
    refine ⟨.ref a, rfl, a, _, rfl, DPut.k (k := .inr "rest") D3.d (by show 4 < sizeLine; decide), ?_⟩
    rw [put_rest]
    have m1 := Int.emod_nonneg r (show m ≠ 0 by omega)
    have m2 := Int.emod_lt_of_pos r (show 0 < m by omega)
    refine ⟨.int (r % m), rfl, ?_⟩
    have := q (r % m).toNat _ (by omega) ((k1.trans (.of (g2.h.trans g3.h))).put) ⟨us, cs1, r / m, t, D3.put, h0, by omega⟩
    rw [Int.toNat_of_nonneg m1] at this
    exact this
end
section
variable {P : Program} {w : World} {K : PySem.W.Frag} {mg : Str → Option Value} {base : Heap} {f : Addr} {fd : FuncData} {aK CK CN CS : Addr}
abbrev s__law_pick : Stmt := top 39
theorem sc__law_pick : FnScope ["draw", "some"] ["draw", "some"] (defScope s__law_pick) := ⟨rfl, rfl, rfl, by decide +kernel, rfl, by decide +kernel, by decide +kernel⟩
def spPick (K : PySem.W.Frag) : Sp := fun vs H Q _ => ∃ F a l c n y ds, Same F H ∧ F a = none ∧ F l = none ∧ vs = [.ref a, y] ∧ Dq K F y (.list ds) ∧ 1 ≤ ds.length ∧ ds.length ≤ 1000 ∧ DrawAt H a l c n ∧ n ≤ 2 ^ 40 ∧
  ∀ d v H', d ∈ ds → Dq K F v d → Keeps a l H H' → DrawAt H' a l c (n + 1) → Q v H'
theorem ok__law_pick (F : Fun K "_law_pick" "_law_pick" s__law_pick f fd) (B : BI mg) (c__law_take : Cal P w K mg base 2 "_law_take" spTake []) : FnOk P w K mg base CX0 3 f fd ["draw", "some"] (spPick K) := by
  refine F.ok sc__law_pick (fun vs H Q E h => by obtain ⟨_, a, _, _, _, y, _, _, _, _, e, _⟩ := h; rw [e]; rfl) (fun cdv A outer s H vs Q E hr h => ?_)
  obtain ⟨F0, a, l, c, n, y, ds, sm, na, nl, ev, ra, hd1, hd2, D, hn, q⟩ := h
  subst ev
  refine ⟨_, (pss_one (ps_ret (pe_ix (r := rIxL K) ix_list (pv 1) (pe_c c__law_take hr (by first | decide | omega) (by rfl) (pa_cons (pv 0) (pa_cons (pe_callB (r := rLen0 K) (call_len) (by rfl) B.len (by decide +kernel) (pa_cons (pv 1) pa_nil)) pa_nil))) (fun _ _ => rfl)))), ?_⟩
  obtain ⟨ws, cs, rest, turn, D, h0, h1⟩ := D
  cases ra with
  | lst ha hv =>
    rename_i p vs
    refine ⟨.ref p, rfl, .ref a, rfl, ev1 (K := K) (F := F0) (ev_var (i := 1) ⟨.ref p, rfl, .lst ha hv⟩) rc_lenL H sm _ fun u F1 H1 g1 r1 => ?_⟩
    cases r1
    refine ⟨a, l, c, n, (ds.length : Int), rfl, ⟨ws, cs, rest, turn, D.same g1.h, h0, h1⟩, hn, by omega, by omega, fun i H2 hi k2 D2 => ?_⟩
    have hi' : i < ds.length := by omega
    obtain ⟨v, hv1, hv2⟩ := hv.get (List.getElem?_eq_getElem hi')
    have kk := (Keeps.of (a := a) (l := l) g1.h).trans k2
    exact ⟨p, vs, (i : Int), v, rfl, rfl, (kk.same sm na nl).seq ha, atI_nat hv1, q _ v H2 (List.getElem_mem hi') hv2 kk D2⟩
end
section
variable {P : Program} {w : World} {K : PySem.W.Frag} {mg : Str → Option Value} {base : Heap} {f : Addr} {fd : FuncData} {aK CK CN CS : Addr}
abbrev s__law_begun : Stmt := top 36
theorem sc__law_begun : FnScope ["script", "wide", "grain"] ["script"] (defScope s__law_begun) := ⟨rfl, rfl, rfl, by decide +kernel, rfl, by decide +kernel, by decide +kernel⟩
theorem merge_draw (l c : Addr) (r t : Int) : mergeK [] (drawK l c r t) = drawK l c r t := by
  have h1 : putK ([] : List (Key × V)) (.inr "wide") (.ref l) = [(.inr "wide", .ref l)] := rfl
  have h2 : putK [((.inr "wide" : Key), V.ref l)] (.inr "cells") (.ref c) = [(.inr "wide", .ref l), (.inr "cells", .ref c)] := by
    unfold putK
    rw [if_neg]
    · rfl
    · intro h
      obtain ⟨x, hx, e⟩ := List.any_eq_true.mp h
      simp at hx
      subst hx
      exact k_wide_cells (of_decide_eq_true e)
  have h3 : putK [((.inr "wide" : Key), V.ref l), (.inr "cells", .ref c)] (.inr "rest") (.int r) = [(.inr "wide", .ref l), (.inr "cells", .ref c), (.inr "rest", .int r)] := by
    unfold putK
    rw [if_neg]
    · rfl
    · intro h
      obtain ⟨x, hx, e⟩ := List.any_eq_true.mp h
      simp at hx
      rcases hx with rfl | rfl
      · exact k_wide_rest (of_decide_eq_true e)
      · exact k_cells_rest (of_decide_eq_true e)
  have h4 : putK [((.inr "wide" : Key), V.ref l), (.inr "cells", .ref c), (.inr "rest", .int r)] (.inr "turn") (.int t) = drawK l c r t := by
    unfold putK
    rw [if_neg]
    · rfl
    · intro h
      obtain ⟨x, hx, e⟩ := List.any_eq_true.mp h
      simp at hx
      rcases hx with rfl | rfl | rfl
      · exact k_wide_turn (of_decide_eq_true e)
      · exact k_cells_turn (of_decide_eq_true e)
      · exact k_rest_turn (of_decide_eq_true e)
  have h0 : mergeK [] (drawK l c r t) = putK (putK (putK (putK ([] : List (Key × V)) (.inr "wide") (.ref l)) (.inr "cells") (.ref c)) (.inr "rest") (.int r)) (.inr "turn") (.int t) := rfl
  rw [h0, h1, h2, h3, h4]
theorem s_lcNew {σ : L2.St} {F H : Hp} {D : Ends} {te : TE} {tt : TT} {g : TG} {wi : TI} {vs : List Nat} {ds : List PyData} {i : Nat} (f : PyData → Bool) (e : PyData → PyData) (hw : EvW K wi σ F ds) (hl : ds.length < sizeLine)
    (hT : ∀ d F', d ∈ ds → Same F F' → Tk K g d (wipe σ vs) F' fun σ2 => wipe σ2 vs = wipe σ vs ∧ EvB tt σ2 F' (f d) ∧ (f d = true → EvD K te σ2 F' (e d))) (s : Same F H)
    (k : ∀ D' F' acc H', Grow F H F' H' → H D' = none → F' D' = none → H' D' = some (.lst acc) → DqAll K F' acc (made f e ds) → D.nx (σ.set i (some (.ref D'))) H') : tAsg (tLc wi g tt te vs) (gName i) D σ H := lc_new f e hw hl hT H s _ k
theorem pairs_c {v : V} {te : TE} {r : List (TE × TE)} {σ : L2.St} {H : Hp} {Q : List (V × V) → Hp → Prop} (h : te σ H fun y H2 => tPairs r σ H2 fun ps H3 => Q ((v, y) :: ps) H3) : tPairs ((tC v, te) :: r) σ H Q := h
def absI (i : Int) : Int := if i < 0 then -i else i
def spBegun (K : PySem.W.Frag) : Sp := fun vs H Q _ => ∃ (F : Hp) (x : V) (ns : List Int), Same F H ∧ vs = [x] ∧ Dq K F x (.list (ns.map .int)) ∧ ns.length < sizeLine ∧ ∀ a l c H', Same H H' → H a = none → H l = none → H c = none → DrawAt H' a l c 0 → Q (.ref a) H'
theorem ok__law_begun (F : Fun K "_law_begun" "_law_begun" s__law_begun f fd) (B : BI mg) : FnOk P w K mg base CX0 1 f fd ["script"] (spBegun K) := by
  refine F.ok sc__law_begun (fun vs H Q E h => by obtain ⟨_, x, _, _, e, _⟩ := h; rw [e]; rfl) (fun cdv A outer s H vs Q E hr h => ?_)
  obtain ⟨F0, x, ns, sm, ev, rx, hl, q⟩ := h
  subst ev
  refine ⟨_, (pss_cons (ps_setLc (i := 1) (own := [("grain", 2)]) (g := (gName 2)) rfl sc__law_begun.nd rfl rfl (sw_true rfl rfl rfl (by decide +kernel)) (pi_list (pv 0)) (blkOk_by (own := [("grain", 2)]) (N := ["script", "wide", "grain"]) (sc := defScope s__law_begun) (by decide +kernel)) (fun _ _ _ _ _ => (pg_name (i := 2) sc__law_begun.nd rfl (Or.inl rfl) (hf := (Or.inr rfl)))) (fun _ _ _ _ _ => (pts_one (pt_cmpR (op_ge) (pe_callB (call_abs) (by rfl) B.abs (by decide +kernel) (pa_cons (pv 2) pa_nil)) (pe_op (op_pow) pe_int pe_int) (nomark _)))) (fun _ _ _ _ _ => (pe_op (op_sub) (pe_callB (call_abs) (by rfl) B.abs (by decide +kernel) (pa_cons (pv 2) pa_nil)) (pe_op (op_pow) pe_int pe_int))))
        (pss_one (ps_ret (pe_disp (pps_cons pe_str (pv 1) (pps_cons pe_str (pe_lc (own := [("grain", 2)]) (g := (gName 2)) rfl sc__law_begun.nd (pi_list (pv 0)) (blkOk_by (own := [("grain", 2)]) (N := ["script", "wide", "grain"]) (sc := defScope s__law_begun) (by decide +kernel)) (fun _ _ _ _ _ => (pg_name (i := 2) sc__law_begun.nd rfl (Or.inl rfl) (hf := (Or.inr rfl)))) (fun _ _ _ _ _ => pts_nil) (fun _ _ _ _ _ => (pe_op (op_mod) (pe_callTy (call_int1) (by rfl) B.int_ (by decide +kernel) (pa_cons (pe_callB (call_abs) (by rfl) B.abs (by decide +kernel) (pa_cons (pv 2) pa_nil)) pa_nil)) pe_int))) (pps_cons pe_str pe_int (pps_cons pe_str pe_int pps_nil)))) (by rfl) (by rfl) (fun z => by cases z) (by decide))))), ?_⟩
  have ea : ∀ {y0 y1 : Option V} {i : Int} {F' : Hp}, EvD K (tCB rAbs (tCons (tVar 2) tNil)) [y0, y1, some (.int i)] F' (.int (absI i)) := fun {y0 y1 i F'} => ev1 (ev_var (i := 2) ⟨_, rfl, .int i⟩) rc_abs
  have e18 : ∀ {σ : L2.St} {F' : Hp}, EvD K (tOp (rI CPow fun i j => .int (i ^ j.toNat)) (tC (.int 10)) (tC (.int 18))) σ F' (.int (10 ^ 18)) := fun {σ F'} => ev_op ev_int ev_int (rv_intC (g := fun i j => i ^ j.toNat) ⟨by decide, by decide, by decide⟩)
  refine s_lcNew (K := K) (F := F0) (vs := [2]) (fun d => decide (absI (intD d) ≥ 10 ^ 18)) (fun d => .int (absI (intD d) - 10 ^ 18)) (ew_list (ev_var (i := 0) ⟨x, rfl, rx⟩)) (by rw [List.length_map]; exact hl) (fun d F' hd sF => ?_) sm fun l F1 acc H1 g1 n1 n2 e1 ra => ?_
  · obtain ⟨i, _, rfl⟩ := List.mem_map.mp hd
    refine (tk_name (i := 2)).imp fun σ2 hσ => ?_
    obtain ⟨v, rfl, rv⟩ := hσ
    cases rv
    exact ⟨rfl, eb_test (ev_op ea e18 (rv_bl (g := fun i j => decide (i ≥ j)))), fun _ => ev_op ea e18 (rv_int (g := fun i j => i - j))⟩
  · have mi : ∀ (f : PyData → Bool) (g : PyData → Int) (ds : List PyData), made f (fun d => .int (g d)) ds = ((ds.filter f).map g).map .int := fun f g ds => by
      unfold made
      rw [List.map_map]
      rfl
    rw [mi] at ra
    rw [dps_int ra] at e1
    refine fun p hp => ⟨.ref l, rfl, ?_⟩
    have hpl : p ≠ l := fun z => by
      rw [z, e1] at hp
      cases hp
    refine pairs_c ?_
    refine lc_new (K := K) (F := F1) (σ := [some x, some (.ref l), none]) (vs := [2]) (tt := tYes) (fun _ => true) (fun d => .int (absI (intD d) % 2147483629)) (ew_list (ev_var (i := 0) ⟨x, rfl, rx.up g1.f⟩)) (by rw [List.length_map]; exact hl) (fun d F' hd sF => ?_) _ (g1.i.trans (same_upd hp)) _ fun c F2 acc2 H2 g2 m1 m2 e2 ra2 => ?_
    · obtain ⟨i, _, rfl⟩ := List.mem_map.mp hd
      refine (tk_name (i := 2)).imp fun σ2 hσ => ?_
      obtain ⟨v, rfl, rv⟩ := hσ
      cases rv
      exact ⟨rfl, eb_yes, fun _ => ev_op (ev1 (ea (y0 := some x) (y1 := some (.ref l))) rc_int) (ev_int (i := 2147483629)) (rv_intC (C := fun _ j => 0 < j) (g := fun i j => i % j) (by decide))⟩
    · rw [mi] at ra2
      rw [dps_int ra2] at e2
      have hpc : p ≠ c := fun z => by
        rw [← z, upd_same] at m1
        cases m1
      have hlc : l ≠ c := fun z => by
        rw [← z, upd_at hpl.symm e1] at m1
        cases m1
      refine ⟨g2.h _ _ upd_same, drawK l c 0 0, rfl, by show 4 ≤ 15; decide, ?_⟩
      rw [merge_draw]
      have hp0 : H p = none := g1.h.free hp
      refine q p l c _ (same_own (g1.h.trans ((same_upd hp).trans g2.h)) hp0) hp0 n1 (g1.h.free ?_) ⟨_, _, 0, 0, ⟨upd_same, upd_at hpl.symm (g2.h _ _ (upd_at hpl.symm e1)), upd_at hpc.symm e2, hpl, hpc, hlc⟩, Int.le_refl _, by decide⟩
      have := m1
      rw [upd_ne hpc.symm] at this
      exact this
end
section
variable {P : Program} {w : World} {K : PySem.W.Frag} {mg : Str → Option Value} {base : Heap} {f : Addr} {fd : FuncData} {aK CK CN CS : Addr}
def consS : Str := "bcdfghklmnprstvwxz"
def vowS : Str := "aeiou"
def chS (z : Str) : List Str := z.cps.toList.map fun c => ⟨#[c]⟩
def stemsTo (i : Nat) : List Str := ((chS consS).take i).flatMap fun c => (chS vowS).map fun v => c ++ v
def sufs : List Str := ["q", "k", "x", "mu"]
structure Names (m : Nat) (out : List Str) : Prop where
  ex : ∃ fs us : List Str, fs.Perm (stemsTo 18) ∧ us.length = out.length ∧ (∀ u ∈ us, u ∈ sufs) ∧ out = List.zipWith (· ++ ·) fs us ∧ out.length = min m 90
end
abbrev s__law_caught : Stmt := top 40
theorem sc__law_caught : FnScope ["work", "error", "caught"] ["work"] (defScope s__law_caught) := ⟨rfl, rfl, rfl, by decide +kernel, rfl, by decide +kernel, by decide +kernel⟩
/-- told: what comes back, None, or the error -/
def TTc (K : PySem.W.Frag) (CS : Addr) : (XK → Hp → VK → Prop) → Hp → VK → Prop := fun tl H Q =>
  tl (fun cls d H' => PySem.W.exmOne K cls (.ref CS) = some true ∧ ∀ a, H' a = none → Q (.ref a) (upd H' a (ExT cls d a))) H (fun _ H' => Q .non H')
theorem takes_len {X : Cx} {W : WX} (t : Takes X W) : Takes X (fun cls d σ H => σ.length = X.N.length → W cls d σ H) := fun u s' h => by
  obtain ⟨a, B, sI, pins, σ, H, cls, d, e, I, nb, up, sky, na, os, ag, w⟩ := h
  exact t u s' ⟨a, B, sI, pins, σ, H, cls, d, e, I, nb, up, sky, na, os, ag, w I.len⟩
theorem caught_gives {X : Cx} {q : Str} {g CS : Addr} {cdg : Value} (hme : X.mg "WritingError" = some (.ref CS)) :
    GivesTo X ["work", "error", "caught"] "_law_caught" (defScope s__law_caught) g cdg (defBody s__law_caught) "work" q (TTc X.K CS) := by
  intro f c' s H Q tl act hc h
  refine ⟨_, pss_cons (ps_set (i := 1) sc__law_caught.nd rfl (Or.inl rfl) pe_non)
    (pss_cons (ps_try_keep (X := (cxOf C8.CX0 X.prog X.w X.K X.mg X.base ["work", "error", "caught"] "_law_caught" (defScope s__law_caught) g cdg X.A X.stack s H C8.E0).nox) (i := 2) (c := .ref CS)
      (tb := fun W D σ H => ∃ Ech : XK, (∀ cls d σ' H', Ech cls d H' → σ'.length = 3 → W cls d σ' H') ∧ σ[0]? = some (some (.ref f)) ∧ H c' = some (CodeO c' q) ∧ tl Ech H fun _ H' => D.nx σ H')
      rfl rfl sc__law_caught.nd rfl rfl ⟨by rfl, by decide, .inl hme⟩ rfl (fun W pn xe tk _ => ?_) (fun a oe cls d pn _ _ => pss_one (ps_set (i := 1) sc__law_caught.nd rfl (Or.inl rfl) (pv 2))))
    (pss_one (ps_ret (pv 1)))), ?_⟩
  · refine ⟨fun pins s' σ H' D I h' => ?_⟩
    obtain ⟨Ech, hW, h1, h2, h3⟩ := h'
    exact (pss_one (ps_expr (act (fun cls d σ H => σ.length = 3 → W cls d σ H) pn xe Ech _ _ (takes_len tk) hW))).run pins s' σ H' D I ⟨h1, h2, h3⟩
  · refine ⟨fun cls d H' => PySem.W.exmOne X.K cls (.ref CS) = some true ∧ ∀ a, H' a = none → Q (.ref a) (upd H' a (ExT cls d a)), fun cls d σ' H' ⟨e1, e2⟩ hl => ⟨e1, fun a ha => ?_⟩, rfl, hc, ?_⟩
    · obtain ⟨x, y, z, rfl⟩ := three hl
      exact ⟨.ref a, rfl, .ref a, rfl, e2 a ha⟩
    · have e : (fun (_ : V) (H' : Hp) => Q V.non H') = fun (_ : V) (H' : Hp) => ∃ v, ([some (V.ref f), some V.non, none] : L2.St)[1]? = some (some v) ∧ Q v H' := by
        funext _ H'
        refine propext ⟨fun q => ⟨.non, rfl, q⟩, fun ⟨v, e, q⟩ => ?_⟩
        cases e
        exact q
      have h' := h
      unfold TTc at h'
      rw [e] at h'
      exact h'
mutual
def weight : PyData → Nat
  | .str x => 1 + x.length
  | .list ds => 1 + weights ds
  | .tuple ds => 1 + weights ds
  | _ => 1
def weights : List PyData → Nat
  | [] => 0
  | d :: ds => weight d + weights ds
end
theorem weight_pos (d : PyData) : 1 ≤ weight d := by cases d <;> simp only [weight] <;> omega
theorem weights_mem : ∀ {ds : List PyData} {d : PyData}, d ∈ ds → weight d ≤ weights ds
  | [], _, h => nomatch h
  | a :: r, d, h => by
    simp only [weights]
    rcases List.mem_cons.mp h with e | e
    · rw [e]; omega
    · have := weights_mem e
      omega
theorem weights_len : ∀ ds : List PyData, ds.length ≤ weights ds
  | [] => Nat.le_refl _
  | a :: r => by
    have := weights_len r
    have := weight_pos a
    simp only [weights, List.length_cons]
    omega
theorem weights_app : ∀ ds es : List PyData, weights (ds ++ es) = weights ds + weights es
  | [], es => by simp only [List.nil_append, weights, Nat.zero_add]
  | a :: r, es => by simp only [List.cons_append, weights, weights_app r es, Nat.add_assoc]
/-- not large -/
def fitsA (d : PyData) : Bool := decide (weight d ≤ 100000)
theorem fitsA_iff {d : PyData} : fitsA d = true ↔ weight d ≤ 100000 := decide_eq_true_iff
theorem fits_tup {ds : List PyData} (h : fitsA (.tuple ds) = true) : ds.length < sizeLine ∧ ∀ d ∈ ds, fitsA d = true := by
  rw [fitsA_iff] at h
  simp only [weight] at h
  refine ⟨?_, fun d hd => fitsA_iff.mpr ?_⟩
  · have := weights_len ds
    have : sizeLine ≥ 1000000 := by rw [sizeLine_eq]; decide
    omega
  · have := weights_mem hd
    omega
theorem fits_T {d : PyData} (h : fitsA d = true) : fitsT d = true := by
  cases d with
  | tuple ds => exact decide_eq_true (fits_tup h).1
  | str x =>
    rw [fitsA_iff] at h
    simp only [weight] at h
    have : sizeLine ≥ 1000000 := by rw [sizeLine_eq]; decide
    exact decide_eq_true (by omega)
  | _ => rfl
section
variable {P : Program} {w : World} {K : PySem.W.Frag} {mg : Str → Option Value} {base : Heap} {f : Addr} {fd : FuncData} {aK CK CN CS : Addr}
def isNode (tab : Str → Option Int) (d : PyData) : Bool := match d with
  | .tuple (.str n :: cs) => match tab n with
    | some r => decide ((cs.length : Int) + 1 = r + 1)
    | none => false
  | _ => false
end
def strD : PyData → Str
  | .str x => x
  | _ => ""
def nameD (d : PyData) : Str := strD (fstD d)
def rankOf (xs : List PyData) (n : Str) : Option Int := (xs.find? fun d => decide (nameD d = n)).map fun d => intD (sndD d)
section
variable {P : Program} {w : World} {K : PySem.W.Frag} {mg : Str → Option Value} {base : Heap} {f : Addr} {fd : FuncData} {aK CK CN CS : Addr}
abbrev s__law_is_number : Stmt := top 46
theorem sc__law_is_number : FnScope ["thing", "end"] ["thing", "end"] (defScope s__law_is_number) := ⟨rfl, rfl, rfl, by decide +kernel, rfl, by decide +kernel, by decide +kernel⟩
def g_law_is_number (d z : PyData) : Option PyData := match z with
  | .int n => some (.bool (isBetween d 0 (n - 1)))
  | _ => none
abbrev p__law_is_number (K : PySem.W.Frag) : Sp := spD K (f2 g_law_is_number)
theorem ok__law_is_number (F : Fun K "_law_is_number" "_law_is_number" s__law_is_number f fd) (B : BI mg) : FnOk P w K mg base CX0 1 f fd ["thing", "end"] (p__law_is_number K) := by
  refine F.ok sc__law_is_number (fun vs H Q E h => len_f2 h) (fun cdv A outer s H vs Q E hr h => go2 h fun F0 a b x y d sm ra rb e ev q => ?_)
  subst ev
  match b, e with
  | .int n, e =>
    cases e
    refine ⟨_, (pss_one (ps_ret (pe_and (pe_callB (r := rIsi K) (call_isi) (by rfl) B.isinstance (by decide +kernel) (pa_cons (pv 0) (pa_cons (pe_bltn (v := .ty "int") (by rfl) B.int_ (by decide +kernel) rfl) pa_nil))) (pe_and (pe_not (pe_callB (r := rIsi K) (call_isi) (by rfl) B.isinstance (by decide +kernel) (pa_cons (pv 0) (pa_cons (pe_bltn (v := .ty "bool") (by rfl) B.bool_ (by decide +kernel) rfl) pa_nil)))) (pe_one (pe_chain (op_le) (op_lt) pe_int (pv 0) (pv 1))))))), ?_⟩
    have s0 : Slot K (start ["thing", "end"] [x, y]) F0 0 a := ⟨x, rfl, ra⟩
    have s1 : Slot K (start ["thing", "end"] [x, y]) F0 1 (.int n) := ⟨y, rfl, rb⟩
    refine (r_ret ?_ : Ret K _ _ F0 _) H sm _ q
    have h1 := ev_isi (ev_var s0) (kit_int a)
    have h2 := ev_not (ev_isi (ev_var s0) (kit_bool a))
    cases a with
    | int i =>
      refine (ev_and h1 fun _ => ev_and h2 fun _ => ev_chain ev_int (ev_var s0) (rv_bl (i := 0) (g := fun i j => decide (i ≤ j))) (fun _ => ev_var s1) fun _ => rv_bl (g := fun i j => decide (i < j))).is (congrArg PyData.bool ?_)
      show (true && (!false && (decide (0 ≤ i) && decide (i < n)))) = (decide (0 ≤ i) && decide (i ≤ n - 1))
      rw [Bool.true_and, Bool.not_false, Bool.true_and]
      refine congrArg (decide (0 ≤ i) && ·) (decide_eq_decide.mpr ?_)
      omega
    | bool b => exact (ev_and h1 fun _ => ev_and (c := false) h2 fun z => nomatch z).is rfl
    | _ => exact (ev_and (c := false) h1 fun z => nomatch z).is rfl
end
mutual
def sizeT : PyData → Nat
  | .tuple ds => 1 + sizeTail ds
  | _ => 1
def sizeTail : List PyData → Nat
  | [] => 0
  | _ :: cs => sizesT cs
def sizesT : List PyData → Nat
  | [] => 0
  | d :: ds => sizeT d + sizesT ds
end
mutual
def depT : PyData → Nat
  | .tuple ds => 1 + depTail ds
  | _ => 1
def depTail : List PyData → Nat
  | [] => 0
  | _ :: cs => depsT cs
def depsT : List PyData → Nat
  | [] => 0
  | d :: ds => max (depT d) (depsT ds)
end
mutual
def allT (tab : Str → Option Int) : PyData → Bool
  | .tuple ds => isNode tab (.tuple ds) && allTail tab ds
  | _ => false
def allTail (tab : Str → Option Int) : List PyData → Bool
  | [] => true
  | _ :: cs => allsT tab cs
def allsT (tab : Str → Option Int) : List PyData → Bool
  | [] => true
  | d :: ds => allT tab d && allsT tab ds
end
section
variable {P : Program} {w : World} {K : PySem.W.Frag} {mg : Str → Option Value} {base : Heap} {f : Addr} {fd : FuncData} {aK CK CN CS : Addr}
theorem mkCal {k : Nat} {x : Str} {f : Addr} {fd : FuncData} {ps : List Str} {sp : Sp} (ok : FnOk P w K mg base CX0 k f fd ps sp) (m : mg x = some (.ref f)) (kp : PySem.W.keepIn K (.ref f) = true) (b : L2.Binds K fd ps []) : Cal P w K mg base k x sp [] := ⟨f, fd, ps, [], ok, m, kp, b, .nil⟩
end
def pot (i : Int) : Int := if i ≤ 1 then 0 else i - 1
structure Good (m : Nat) (xs : List PyData) (L L' : Int) (t : PyData) : Prop where
  node : allT (rankOf xs) t = true
  dep : depT t ≤ m
  size : ((sizeT t : Nat) : Int) ≤ 1 + 3 * (pot L - pot L')
  le : L' ≤ L
  wt : weight t ≤ 10 * sizeT t
/-- a list whose items are drawn, one behind the other -/
theorem lc_draw {K : PySem.W.Frag} {σ : L2.St} {F H : Hp} {d l c : Addr} {n0 B : Nat} {wi : TI} {g : TG} {te : TE} {vs : List Nat} {ds : List PyData} {Q : VK} (E : Nat → PyData → Prop) (hw : EvW K wi σ F ds) (s : Same F H) (Fd : F d = none) (Fl : F l = none) (D : DrawAt H d l c n0) (hl : ds.length < sizeLine)
    (hT : ∀ (i : Nat) (dd : PyData) (v : V) (G H' : Hp) (R : V → Hp → Prop) (N0 : Hp → Prop), ds[i]? = some dd → Same F G → Same G H' → G d = none → G l = none → DrawAt H' d l c (n0 + i * B) → Dq K G v dd →
      (∀ (x : V) (e : PyData) (G' H3 : Hp), E i e → Dq K G' x e → Same G G' → Same G' H3 → G' d = none → G' l = none → NewIn G H' G' → Keeps d l H' H3 → DrawAt H3 d l c (n0 + i * B + B) → R x H3) →
      g v (wipe σ vs) H' fun σ2 H2 => wipe σ2 vs = wipe σ vs ∧ tYes σ2 H2 fun b H3 => if b = true then te σ2 H3 R else N0 H3)
    (q : ∀ (L : Addr) (acc : List V) (es : List PyData) (G H' : Hp), H L = none → H' L = some (.lst acc) → DqAll K G acc es → es.length = ds.length → (∀ i e, es[i]? = some e → E i e) → Same F G → Same G H' → G d = none → G l = none → G L = none → NewIn F H G → Keeps d l H H' → DrawAt H' d l c (n0 + ds.length * B) → Q (.ref L) H') :
    tLc wi g tYes te vs σ H Q := hw H s _ fun J F1 H1 g1 wk => by
  intro L hL
  obtain ⟨F1d, F1l⟩ := D.frees g1 Fd Fl
  have D1 := D.same g1.h
  have fL := D1.fresh hL
  have hL0 : H L = none := g1.h.free hL
  refine ⟨fun i m H6 => m = ds.length - i ∧ i ≤ ds.length ∧ ∃ (acc : List V) (es : List PyData) (G : Hp), H6 L = some (.lst acc) ∧ DqAll K G acc es ∧ es.length = i ∧ (∀ j e, es[j]? = some e → E j e) ∧ Same F1 G ∧ Same G H6 ∧ G d = none ∧ G l = none ∧ G L = none ∧ NewIn F H G ∧ Keeps d l H H6 ∧ DrawAt H6 d l c (n0 + i * B),
    ⟨ds.length, by simp, Nat.zero_le _, [], [], F1, upd_same, .nil, rfl, (fun j e z => by simp at z), Same.refl _, g1.i.trans (same_upd hL), F1d, F1l, g1.i.free hL, fun a o e z => g1.n a o e z, (Keeps.of g1.h).other hL0, by rw [Nat.zero_mul]; exact D1.other fL⟩, fun i m H6 hW => ?_⟩
  obtain ⟨rfl, hi, acc, es, G, eL, racc, el, hE, sG, sH, Gd, Gl, GL, NG, k6, D6⟩ := hW
  have wk2 := wk.up sG
  by_cases hlt : i < ds.length
  · have hd : ds[i]? = some ds[i] := List.getElem?_eq_getElem hlt
    obtain ⟨go, yl⟩ := (wk2 i H6 sH).1 _ hd
    refine .inr ⟨go, fun H6 => ∃ (acc : List V) (es : List PyData) (G : Hp), H6 L = some (.lst acc) ∧ DqAll K G acc es ∧ es.length = i + 1 ∧ (∀ j e, es[j]? = some e → E j e) ∧ Same F1 G ∧ Same G H6 ∧ G d = none ∧ G l = none ∧ G L = none ∧ NewIn F H G ∧ Keeps d l H H6 ∧ DrawAt H6 d l c (n0 + (i + 1) * B), fun H7 h7 => ⟨ds.length - (i + 1), by show ds.length - (i + 1) < ds.length - i; omega, rfl, hlt, h7⟩, fun x H7 hy => ?_⟩
    obtain ⟨F7, g7, rx⟩ := yl x H7 hy
    obtain ⟨F7d, F7l⟩ := D6.frees g7 Gd Gl
    have eL7 := g7.h _ _ eL
    have F7L : F7 L = none := free_grow g7 GL eL
    refine hT i ds[i] x F7 H7 _ _ hd ((g1.f.trans sG).trans g7.f) g7.i F7d F7l (D6.same g7.h) rx fun y e G' H3 he ry sG' sH3 G'd G'l N3 k3 D3 => by
        have eL3 := k3 _ _ fL.1 fL.2.1 eL7
        have G'L : G' L = none := by
          cases z : G' L with
          | none => rfl
          | some u =>
            have := N3 L u z F7L
            rw [eL7] at this
            cases this
        have la := racc.len
        have k37 : Keeps d l H H3 := (k6.trans (.of g7.h)).trans k3
        refine ⟨acc, eL3, by omega, acc ++ [y], es ++ [e], G', upd_same, (racc.up (g7.f.trans sG')).app (.cons ry .nil), by rw [List.length_append, el]; rfl, fun j e' hj => ?_, (sG.trans g7.f).trans sG', same_own sH3 G'L, G'd, G'l, G'L, ?_, k37.other hL0, ?_⟩
        · rcases get_snoc hj with h | ⟨h1, h2⟩
          · exact hE j e' h
          · rw [h1, el, h2]
            exact he
        · exact new_two (k6.trans (.of g7.h)) (new_two k6 NG g7.n F7d F7l) N3 G'd G'l
        · rw [show n0 + (i + 1) * B = n0 + i * B + B by rw [Nat.succ_mul]; omega]
          exact D3.other fL
  · have ei : i = ds.length := by omega
    subst ei
    exact .inl ⟨(wk2 _ H6 sH).2 rfl, q L acc es G H6 hL0 eL racc el hE (g1.f.trans sG) sH Gd Gl GL NG k6 D6⟩
section
variable {P : Program} {w : World} {K : PySem.W.Frag} {mg : Str → Option Value} {base : Heap} {f : Addr} {fd : FuncData} {aK CK CN CS : Addr}
theorem weights_one : ∀ es : List PyData, (∀ e ∈ es, weight e = 1) → weights es = es.length
  | [], _ => rfl
  | e :: r, h => by
    simp only [weights, List.length_cons]
    rw [h e List.mem_cons_self, weights_one r fun e he => h e (List.mem_cons_of_mem _ he)]
    omega
theorem weights_le {B : Nat} : ∀ es : List PyData, (∀ e ∈ es, weight e ≤ B) → weights es ≤ es.length * B
  | [], _ => Nat.zero_le _
  | e :: r, h => by
    simp only [weights, List.length_cons]
    have h1 := h e List.mem_cons_self
    have h2 := weights_le r fun e he => h e (List.mem_cons_of_mem _ he)
    rw [Nat.succ_mul]
    omega
end
def partAt : PyData → List Nat → Option PyData
  | d, [] => some d
  | .tuple ds, k :: p => match ds[k]? with
    | some d => partAt d p
    | none => none
  | _, _ :: _ => none
def putAt : PyData → List Nat → PyData → PyData
  | _, [], e => e
  | .tuple ds, k :: p, e => .tuple (ds.take k ++ [putAt (ds.getD k .none) p e] ++ ds.drop (k + 1))
  | d, _ :: _, _ => d
def pathD (p : List Nat) : PyData := .tuple (p.map fun (k : Nat) => PyData.int (k : Int))
theorem part_cons {d e : PyData} {k : Nat} {p : List Nat} (h : partAt d (k :: p) = some e) : ∃ ds d', d = .tuple ds ∧ ds[k]? = some d' ∧ partAt d' p = some e := by
  cases d with
  | tuple ds =>
    have h' : (match ds[k]? with | some d => partAt d p | none => none) = some e := h
    cases hd : ds[k]? with
    | none => rw [hd] at h'; cases h'
    | some d' =>
      rw [hd] at h'
      exact ⟨ds, d', rfl, hd, h'⟩
  | _ => cases h
theorem put_cons {ds : List PyData} {d' e : PyData} {k : Nat} {p : List Nat} (h : ds[k]? = some d') : putAt (.tuple ds) (k :: p) e = .tuple (ds.take k ++ [putAt d' p e] ++ ds.drop (k + 1)) := by
  show PyData.tuple (ds.take k ++ [putAt (ds.getD k .none) p e] ++ ds.drop (k + 1)) = _
  rw [List.getD_eq_getElem?_getD, h]
  rfl
theorem path_tail (k : Nat) (p : List Nat) : PyData.tuple (cutD ((k :: p).map fun (k : Nat) => PyData.int (k : Int)) (some 1) none) = pathD p := by
  rw [show (1 : Int) = ((1 : Nat) : Int) from rfl, cut_from]
  rfl
section
variable {P : Program} {w : World} {K : PySem.W.Frag} {mg : Str → Option Value} {base : Heap} {f : Addr} {fd : FuncData} {aK CK CN CS : Addr}
abbrev s__law_part : Stmt := top 42
theorem sc__law_part : FnScope ["thing", "path"] ["thing", "path"] (defScope s__law_part) := ⟨rfl, rfl, rfl, by decide +kernel, rfl, by decide +kernel, by decide +kernel⟩
def spPart (K : PySem.W.Frag) (n : Nat) : Sp := fun vs H Q _ => ∃ (F : Hp) (x y : V) (d : PyData) (p : List Nat) (e : PyData), Same F H ∧ vs = [x, y] ∧ Dq K F x d ∧ Dq K F y (pathD p) ∧ p.length < n ∧ partAt d p = some e ∧ ∀ v F' H', Grow F H F' H' → Dq K F' v e → Q v H'
theorem ok__law_part (F : Fun K "_law_part" "_law_part" s__law_part f fd) (B : BI mg) (hg : mg "_law_part" = some (.ref f)) : ∀ n : Nat, FnOk P w K mg base CX0 (n + 1) f fd ["thing", "path"] (spPart K n)
  | 0 => F.ok sc__law_part (fun vs H Q E h => by obtain ⟨_, _, _, _, _, _, _, _, _, _, z, _⟩ := h; omega) (fun cdv A outer s H vs Q E hr h => by obtain ⟨_, _, _, _, _, _, _, _, _, _, z, _⟩ := h; omega)
  | n + 1 => by
    have c__law_part : Cal P w K mg base (n + 1) "_law_part" (spPart K n) [] := mkCal (ok__law_part F B hg n) hg F.kp (F.binds fun _ _ _ _ _ _ us hl => match us, hl with | [_, _], _ => rfl)
    refine F.ok sc__law_part (fun vs H Q E h => by obtain ⟨_, _, _, _, _, _, _, e, _⟩ := h; rw [e]; rfl) (fun cdv A outer s H vs Q E hr h => ?_)
    obtain ⟨F0, x, y, d, p, e, sm, ev, rx, ry, hpn, hpe, q⟩ := h
    subst ev
    refine ⟨_, (pss_one (ps_ret (pe_ifExp (pt_cmpR (r := rEqE K) (op_eqE hr.units) (pv 1) (pe_tup pa_nil) (nomark _)) (pv 0) (pe_c c__law_part hr (by first | decide | omega) (by rfl) (pa_cons (pe_ix (r := rIxT K) ix_tup (pv 0) (pe_ix (r := rIxT K) ix_tup (pv 1) pe_int (fun _ _ => rfl)) (fun _ _ => rfl)) (pa_cons (pe_slice (r := rSlA K) sl_tupA (pv 1) (po_some pe_int) po_none) pa_nil)))))), ?_⟩
    have t1 := eb_test (ev_op (ev_var (K := K) (σ := start ["thing", "path"] [x, y]) (F := F0) (i := 1) ⟨y, rfl, ry⟩) (ev_tup ea_nil (Nat.zero_le _)) rv_eqE)
    refine (r_ret ?_ : Ret K _ _ F0 e) H sm _ q
    cases p with
    | nil =>
      cases hpe
      exact ev_if t1 (fun _ => ev_var ⟨x, rfl, rx⟩) fun z => nomatch z
    | cons k p =>
      obtain ⟨ds, d', rfl, hd, hp'⟩ := part_cons hpe
      refine ev_if t1 (fun z => nomatch z) fun _ => ?_
      have a1 : EvD K (tOp (rIxT K) (tVar 0) (tOp (rIxT K) (tVar 1) (tC (.int 0)))) (start ["thing", "path"] [x, y]) F0 d' := ev_op (ev_var (i := 0) ⟨x, rfl, rx⟩) (ev_op (ev_var (i := 1) ⟨y, rfl, ry⟩) ev_int (rv_ixT (k := 0) (d := .int (k : Int)) rfl)) (rv_ixT (k := k) hd)
      have a2 := (ev_sl (ev_var (K := K) (σ := start ["thing", "path"] [x, y]) (F := F0) (i := 1) ⟨y, rfl, ry⟩) (eo_some (i := 1) ev_int) eo_none rs_tup).is (path_tail k p)
      exact fun H s Q q => a1 H s _ fun u F1 H1 g1 r1 => a2.up g1.f H1 g1.i _ fun v F2 H2 g2 r2 => ⟨F2, u, v, d', p, e, g2.i, rfl, r1.up g2.f, r2, by rw [List.length_cons] at hpn; omega, hp', fun w F3 H3 g3 r3 => q w F3 H3 ((g1.trans g2).trans g3) r3⟩
abbrev s__law_put : Stmt := top 43
theorem sc__law_put : FnScope ["thing", "path", "part"] ["thing", "path", "part"] (defScope s__law_put) := ⟨rfl, rfl, rfl, by decide +kernel, rfl, by decide +kernel, by decide +kernel⟩
def spPut (K : PySem.W.Frag) (n : Nat) : Sp := fun vs H Q _ => ∃ (F : Hp) (x y z : V) (d : PyData) (p : List Nat) (o e : PyData), Same F H ∧ vs = [x, y, z] ∧ Dq K F x d ∧ Dq K F y (pathD p) ∧ Dq K F z e ∧ p.length < n ∧ partAt d p = some o ∧ weight d ≤ 100000 ∧ ∀ v F' H', Grow F H F' H' → Dq K F' v (putAt d p e) → Q v H'
theorem ok__law_put (F : Fun K "_law_put" "_law_put" s__law_put f fd) (B : BI mg) (hg : mg "_law_put" = some (.ref f)) : ∀ n : Nat, FnOk P w K mg base CX0 (n + 1) f fd ["thing", "path", "part"] (spPut K n)
  | 0 => F.ok sc__law_put (fun vs H Q E h => by obtain ⟨_, _, _, _, _, _, _, _, _, _, _, _, _, z, _⟩ := h; omega) (fun cdv A outer s H vs Q E hr h => by obtain ⟨_, _, _, _, _, _, _, _, _, _, _, _, _, z, _⟩ := h; omega)
  | n + 1 => by
    have c__law_put : Cal P w K mg base (n + 1) "_law_put" (spPut K n) [] := mkCal (ok__law_put F B hg n) hg F.kp (F.binds fun _ _ _ _ _ _ us hl => match us, hl with | [_, _, _], _ => rfl)
    refine F.ok sc__law_put (fun vs H Q E h => by obtain ⟨_, _, _, _, _, _, _, _, _, e, _⟩ := h; rw [e]; rfl) (fun cdv A outer s H vs Q E hr h => ?_)
    obtain ⟨F0, x, y, z, d, p, o, e, sm, ev, rx, ry, rz, hpn, hpe, hwt, q⟩ := h
    subst ev
    refine ⟨_, (pss_one (ps_ret (pe_ifExp (pt_cmpR (r := rEqE K) (op_eqE hr.units) (pv 1) (pe_tup pa_nil) (nomark _)) (pv 2) (pe_op (r := rCatA K) op_catA (pe_op (r := rCatA K) op_catA (pe_slice (r := rSlA K) sl_tupA (pv 0) po_none (po_some (pe_ix (r := rIxT K) ix_tup (pv 1) pe_int (fun _ _ => rfl)))) (pe_tup (pa_cons (pe_c c__law_put hr (by first | decide | omega) (by rfl) (pa_cons (pe_ix (r := rIxT K) ix_tup (pv 0) (pe_ix (r := rIxT K) ix_tup (pv 1) pe_int (fun _ _ => rfl)) (fun _ _ => rfl)) (pa_cons (pe_slice (r := rSlA K) sl_tupA (pv 1) (po_some pe_int) po_none) (pa_cons (pv 2) pa_nil)))) pa_nil))) (pe_slice (r := rSlA K) sl_tupA (pv 0) (po_some (pe_op (op_add) (pe_ix (r := rIxT K) ix_tup (pv 1) pe_int (fun _ _ => rfl)) pe_int)) po_none))))), ?_⟩
    have t1 := eb_test (ev_op (ev_var (K := K) (σ := start ["thing", "path", "part"] [x, y, z]) (F := F0) (i := 1) ⟨y, rfl, ry⟩) (ev_tup ea_nil (Nat.zero_le _)) rv_eqE)
    refine (r_ret ?_ : Ret K _ _ F0 (putAt d p e)) H sm _ q
    cases p with
    | nil => exact (ev_if t1 (fun _ => ev_var (d := e) ⟨z, rfl, rz⟩) fun z => nomatch z)
    | cons k p =>
      obtain ⟨ds, d', rfl, hd, hp'⟩ := part_cons hpe
      rw [put_cons hd]
      refine ev_if t1 (fun z => nomatch z) fun _ => ?_
      have e0 : ∀ {F : Hp}, Same F0 F → EvD K (tOp (rIxT K) (tVar 1) (tC (.int 0))) (start ["thing", "path", "part"] [x, y, z]) F (.int (k : Int)) := fun s => ev_op (ev_var (i := 1) ⟨y, rfl, ry.up s⟩) ev_int (rv_ixT (k := 0) (d := .int (k : Int)) rfl)
      have a1 : EvD K (tOp (rIxT K) (tVar 0) (tOp (rIxT K) (tVar 1) (tC (.int 0)))) (start ["thing", "path", "part"] [x, y, z]) F0 d' := ev_op (ev_var (i := 0) ⟨x, rfl, rx⟩) (e0 (Same.refl _)) (rv_ixT (k := k) hd)
      have a2 := (ev_sl (ev_var (K := K) (σ := start ["thing", "path", "part"] [x, y, z]) (F := F0) (i := 1) ⟨y, rfl, ry⟩) (eo_some (i := 1) ev_int) eo_none rs_tup).is (path_tail k p)
      have hwd : weight d' ≤ 100000 := by
        have h1 := weights_mem (List.mem_of_getElem? hd)
        simp only [weight] at hwt
        omega
      have hl : ds.length ≤ 100000 := by
        have := weights_len ds
        simp only [weight] at hwt
        omega
      have hk : k < ds.length := (List.getElem?_eq_some_iff.mp hd).1
      have big : 200000 ≤ sizeLine := by rw [sizeLine_eq]; decide
      have call : EvD K (tCall (spPut K n) [] C8.E0 (tCons (tOp (rIxT K) (tVar 0) (tOp (rIxT K) (tVar 1) (tC (.int 0)))) (tCons (tSl (rSlA K) (tVar 1) (tPart (tC (.int 1))) tNoPart) (tCons (tVar 2) tNil)))) (start ["thing", "path", "part"] [x, y, z]) F0 (putAt d' p e) := fun H s Q q =>
        a1 H s _ fun u F1 H1 g1 r1 => a2.up g1.f H1 g1.i _ fun v F2 H2 g2 r2 => ⟨z, rfl, F2, u, v, z, d', p, o, e, g2.i, rfl, r1.up g2.f, r2, rz.up (g1.trans g2).f, by rw [List.length_cons] at hpn; omega, hp', hwd, fun w F3 H3 g3 r3 => q w F3 H3 ((g1.trans g2).trans g3) r3⟩
      have s1 := (ev_sl (ev_var (K := K) (σ := start ["thing", "path", "part"] [x, y, z]) (F := F0) (i := 0) ⟨x, rfl, rx⟩) eo_none (eo_some (e0 (Same.refl _))) rs_tup).is (congrArg PyData.tuple (cut_to k ds))
      have s2 := (ev_sl (ev_var (K := K) (σ := start ["thing", "path", "part"] [x, y, z]) (F := F0) (i := 0) ⟨x, rfl, rx⟩) (eo_some (ev_op (e0 (Same.refl _)) (ev_int (i := 1)) (rv_int (g := fun i j => i + j)))) eo_none rs_tup).is (d1 := .tuple (ds.drop (k + 1))) (congrArg PyData.tuple (by rw [show (k : Int) + 1 = ((k + 1 : Nat) : Int) from rfl, cut_from]))
      refine ev_op (ev_op s1 (ev_tup (ea_cons call ea_nil) (by show 1 ≤ sizeLine; decide)) (rv_catT ?_)) s2 (rv_catT ?_)
      · rw [List.length_take]
        show min k ds.length + 1 ≤ sizeLine
        omega
      · rw [List.length_append, List.length_take, List.length_drop]
        show min k ds.length + 1 + (ds.length - (k + 1)) ≤ sizeLine
        omega
end
mutual
def pathsOf : PyData → List (List Nat)
  | .tuple ds => [] :: pathsIn 0 ds
  | _ => [[]]
def pathsIn : Nat → List PyData → List (List Nat)
  | _, [] => []
  | k, d :: ds => (pathsOf d).map (k :: ·) ++ pathsIn (k + 1) ds
end
theorem pathsIn_app (e : PyData) : ∀ (ds : List PyData) (k : Nat), pathsIn k (ds ++ [e]) = pathsIn k ds ++ (pathsOf e).map ((k + ds.length) :: ·)
  | [], k => by
    simp only [List.nil_append, pathsIn, List.append_nil]
    rfl
  | d :: ds, k => by
    simp only [List.cons_append, pathsIn, pathsIn_app e ds (k + 1), List.append_assoc, List.length_cons]
    rw [show k + 1 + ds.length = k + (ds.length + 1) by omega]
mutual
theorem paths_len : ∀ d : PyData, (pathsOf d).length ≤ weight d
  | .tuple ds => by
    simp only [pathsOf, weight, List.length_cons]
    have := pathsIn_len ds 0
    omega
  | .none => Nat.le_refl _
  | .bool _ => Nat.le_refl _
  | .int _ => Nat.le_refl _
  | .str _ => by simp only [pathsOf, weight]; exact Nat.le_add_right _ _
  | .list _ => by simp only [pathsOf, weight]; exact Nat.le_add_right _ _
  | .dict _ => Nat.le_refl _
theorem pathsIn_len : ∀ (ds : List PyData) (k : Nat), (pathsIn k ds).length ≤ weights ds
  | [], _ => Nat.le_refl _
  | d :: ds, k => by
    simp only [pathsIn, weights, List.length_append, List.length_map]
    have h1 := paths_len d
    have h2 := pathsIn_len ds (k + 1)
    omega
end
theorem paths_ne (d : PyData) : 1 ≤ (pathsOf d).length := by
  cases d <;> simp only [pathsOf, List.length_cons] <;> omega
mutual
theorem paths_part : ∀ (d : PyData) (p : List Nat), p ∈ pathsOf d → ∃ e, partAt d p = some e
  | .tuple ds, p, h => by
    simp only [pathsOf] at h
    rcases List.mem_cons.mp h with e | e
    · rw [e]
      exact ⟨_, rfl⟩
    · obtain ⟨k, q, d', rfl, h1, h2⟩ := pathsIn_part ds 0 p e
      obtain ⟨e2, h3⟩ := h2
      refine ⟨e2, ?_⟩
      show (match ds[0 + k]? with | some d => partAt d q | none => none) = some e2
      rw [h1]
      exact h3
  | .none, p, h => by rw [List.mem_singleton.mp h]; exact ⟨_, rfl⟩
  | .bool _, p, h => by rw [List.mem_singleton.mp h]; exact ⟨_, rfl⟩
  | .int _, p, h => by rw [List.mem_singleton.mp h]; exact ⟨_, rfl⟩
  | .str _, p, h => by rw [List.mem_singleton.mp h]; exact ⟨_, rfl⟩
  | .list _, p, h => by rw [List.mem_singleton.mp h]; exact ⟨_, rfl⟩
  | .dict _, p, h => by rw [List.mem_singleton.mp h]; exact ⟨_, rfl⟩
theorem pathsIn_part : ∀ (ds : List PyData) (j : Nat) (p : List Nat), p ∈ pathsIn j ds → ∃ k q d', p = (j + k) :: q ∧ ds[0 + k]? = some d' ∧ ∃ e, partAt d' q = some e
  | [], j, p, h => by simp only [pathsIn] at h; cases h
  | d :: ds, j, p, h => by
    simp only [pathsIn] at h
    rcases List.mem_append.mp h with e | e
    · obtain ⟨q, hq, rfl⟩ := List.mem_map.mp e
      exact ⟨0, q, d, rfl, rfl, paths_part d q hq⟩
    · obtain ⟨k, q, d', rfl, h1, h2⟩ := pathsIn_part ds (j + 1) p e
      refine ⟨k + 1, q, d', by rw [show j + 1 + k = j + (k + 1) by omega], ?_, h2⟩
      rw [Nat.zero_add] at h1 ⊢
      exact h1
end
/-- nested less than n deep -/
def nestOk : Nat → PyData → Bool
  | 0, _ => false
  | n + 1, .tuple ds => ds.all (nestOk n)
  | _ + 1, _ => true
theorem path_len : ∀ (n : Nat) (d : PyData) (p : List Nat) (e : PyData), nestOk n d = true → partAt d p = some e → p.length < n
  | 0, _, _, _, h, _ => by cases h
  | n + 1, d, [], e, _, _ => by simp
  | n + 1, d, k :: p, e, h, hp => by
    obtain ⟨ds, d', rfl, h1, h2⟩ := part_cons hp
    have h' : ds.all (nestOk n) = true := h
    have := path_len n d' p e (List.all_eq_true.mp h' d' (List.mem_of_getElem? h1)) h2
    rw [List.length_cons]
    omega
theorem path_wt : ∀ (p : List Nat) (d e : PyData), partAt d p = some e → p.length < weight d
  | [], d, _, _ => weight_pos d
  | k :: p, d, e, hp => by
    obtain ⟨ds, d', rfl, h1, h2⟩ := part_cons hp
    have h3 := path_wt p d' e h2
    have h4 := weights_mem (List.mem_of_getElem? h1)
    simp only [weight, List.length_cons]
    omega
def headD (k : Nat) : PyData → PyData
  | .tuple xs => .tuple (.int (k : Int) :: xs)
  | d => d
section
variable {P : Program} {w : World} {K : PySem.W.Frag} {mg : Str → Option Value} {base : Heap} {f : Addr} {fd : FuncData} {aK CK CN CS : Addr}
abbrev s__law_paths : Stmt := top 41
theorem sc__law_paths : FnScope ["thing", "found", "k", "part", "path"] ["thing"] (defScope s__law_paths) := ⟨rfl, rfl, rfl, by decide +kernel, rfl, by decide +kernel, by decide +kernel⟩
def g_law_paths (n : Nat) (d : PyData) : Option PyData := if nestOk n d && decide (weight d ≤ 1000) then some (.list ((pathsOf d).map pathD)) else none
theorem ok__law_paths (F : Fun K "_law_paths" "_law_paths" s__law_paths f fd) (B : BI mg) (hg : mg "_law_paths" = some (.ref f)) : ∀ n : Nat, FnOk P w K mg base CX0 (n + 1) f fd ["thing"] (spD K (f1 (g_law_paths n)))
  | 0 => F.ok sc__law_paths (fun vs H Q E h => len_f1 h) (fun cdv A outer s H vs Q E hr h => go1 h fun F0 a x d sm ra e ev q => by
    have e' : (if nestOk 0 a && decide (weight a ≤ 1000) then some (PyData.list ((pathsOf a).map pathD)) else none) = some d := e
    rw [if_neg (by intro z; cases z)] at e'
    cases e')
  | n + 1 => by
    have c__law_paths : Cal P w K mg base (n + 1) "_law_paths" (spD K (f1 (g_law_paths n))) [] := mkCal (ok__law_paths F B hg n) hg F.kp (F.binds fun _ _ _ _ _ _ us hl => match us, hl with | [_], _ => rfl)
    refine F.ok sc__law_paths (fun vs H Q E h => len_f1 h) (fun cdv A outer s H vs Q E hr h => go1 h fun F0 a x d sm ra e ev q => ?_)
    subst ev
    have e' : (if nestOk (n + 1) a && decide (weight a ≤ 1000) then some (PyData.list ((pathsOf a).map pathD)) else none) = some d := e
    split at e'
    case isFalse => cases e'
    rename_i hc
    cases e'
    rw [Bool.and_eq_true, decide_eq_true_iff] at hc
    obtain ⟨hn, hwt⟩ := hc
    refine ⟨_, (pss_cons (ps_set (i := 1) sc__law_paths.nd rfl (Or.inl rfl) (pe_lst (pa_cons (pe_tup pa_nil) pa_nil)))
        (pss_cons (ps_for PassesOwn.never rfl (pi_enumT (by rfl) B.enumerate (pa_cons (pe_ifExp (pt_val (pe_callB (r := rIsi K) (call_isi) (by rfl) B.isinstance (by decide +kernel) (pa_cons (pv 0) (pa_cons (pe_bltn (v := .ty "tuple") (by rfl) B.tuple (by decide +kernel) rfl) pa_nil)))) (pv 0) (pe_tup pa_nil)) pa_nil)) (pg_tup rfl (pgs_cons (pg_name (i := 2) sc__law_paths.nd rfl (Or.inr rfl) (hf := (Or.inl rfl))) (pgs_cons (pg_name (i := 3) sc__law_paths.nd rfl (Or.inl rfl) (hf := (Or.inr rfl))) pgs_nil))) (pss_one (ps_set (i := 1) sc__law_paths.nd rfl (Or.inl rfl) (pe_op op_cat (pv 1) (pe_lc (own := [("path", 4)]) (g := (gName 4)) rfl sc__law_paths.nd (pi_list (pe_c c__law_paths hr (by first | decide | omega) (by rfl) (pa_cons (pv 3) pa_nil))) (blkOk_by (own := [("path", 4)]) (N := ["thing", "found", "k", "part", "path"]) (sc := defScope s__law_paths) (by decide +kernel)) (fun _ _ _ _ _ => (pg_name (i := 4) sc__law_paths.nd rfl (Or.inl rfl) (hf := (Or.inr rfl)))) (fun _ _ _ _ _ => pts_nil) (fun _ _ _ _ _ => (pe_op (r := rCatA K) op_catA (pe_tup (pa_cons (pv 2) pa_nil)) (pv 4))))))))
        (pss_one (ps_ret (pv 1))))), ?_⟩
    -- what is gone through
    obtain ⟨ds, hds, hpa, hall, hwd⟩ : ∃ ds : List PyData, (∀ {σ : L2.St} {F : Hp}, σ[0]? = some (some x) → Same F0 F → EvD K (tIf (tB (tCB (rIsi K) (tCons (tVar 0) (tCons (tC (.ty "tuple")) tNil)))) (tVar 0) (tTup tNil)) σ F (.tuple ds)) ∧ pathsOf a = [] :: pathsIn 0 ds ∧ (∀ d ∈ ds, nestOk n d = true) ∧ weights ds ≤ 1000 := by
      have hif : ∀ {σ : L2.St} {F : Hp}, σ[0]? = some (some x) → Same F0 F → EvB (tB (tCB (rIsi K) (tCons (tVar 0) (tCons (tC (.ty "tuple")) tNil)))) σ F (isTup a) := fun h s => eb_val (ev_isi (ev_var (i := 0) ⟨x, h, ra.up s⟩) (kit_tup a))
      cases a with
      | tuple ds => exact ⟨ds, fun {_ _} h s => ev_if (hif h s) (fun _ => ev_var (i := 0) ⟨x, h, ra.up s⟩) (fun z => nomatch z), rfl, fun d hd => List.all_eq_true.mp hn d hd, by simp only [weight] at hwt; omega⟩
      | _ => exact ⟨[], fun {_ _} h s => ev_if (hif h s) (fun z => nomatch z) (fun _ => ev_tup ea_nil (Nat.zero_le _)), rfl, fun d hd => (by cases hd), Nat.zero_le _⟩
    rw [hpa] at q
    have hsl : ds.length ≤ 1000 := Nat.le_trans (weights_len ds) hwd
    refine s_newL (K := K) (F := F0) (ds := [.tuple []]) (ea_cons (ev_tup ea_nil (Nat.zero_le _)) ea_nil) sm (by show 1 ≤ sizeLine; decide) fun p0 vs0 F1 H1 g1 hp0 r1 => ?_
    have hp0H : H p0 = none := g1.h.free hp0
    have G1 : Grow F0 H F1 (upd H1 p0 (.lst vs0)) := grow_own g1 hp0H (g1.i.free hp0)
    refine s_for (K := K) (F := F1) (ds := numbered ds) G1.i (ew_enumT (ea_cons (hds rfl G1.f) ea_nil)) fun F2 H2 g2 =>
      ⟨fun i σ' F' H' => Same F2 F' ∧ Grow F0 H F' H' ∧ ∃ (p : Addr) (acc : List V) (y2 y3 y4 : Option V), σ' = [some x, some (.ref p), y2, y3, y4] ∧ H p = none ∧ F' p = none ∧ H' p = some (.lst acc) ∧ DqAll K F' acc (([] :: pathsIn 0 (ds.take i)).map pathD),
        ⟨Same.refl _, G1.trans g2, p0, vs0, _, _, _, rfl, hp0H, free_grow g2 (g1.i.free hp0) upd_same, g2.h _ _ upd_same, r1.up g2.f⟩, fun i σ' F' H' h => ⟨h.1, h.2.1.i⟩, fun i d σ' F' H' hd hI F3 H3 v g3 rv => ?_, fun σ' F' H' hI => ?_⟩
    · obtain ⟨sI, gI, p, acc, y2, y3, y4, rfl, hp, nF, eP, racc⟩ := hI
      obtain ⟨b, hb, rfl⟩ := numbered_get hd
      have hbm := List.mem_of_getElem? hb
      refine tk_two v H3 g3.i rv _ fun σ2 hσ => ?_
      obtain ⟨u1, u2, rfl, ru1, ru2⟩ := hσ
      cases ru1
      have e3 := g3.h _ _ eP
      have n3 : F3 p = none := free_grow g3 nF eP
      have hwb : weight b ≤ 1000 := Nat.le_trans (weights_mem hbm) hwd
      have hpl := paths_len b
      refine ⟨.ref p, rfl, ?_⟩
      refine lc_new (K := K) (F := F3) (σ := [some x, some (.ref p), some (.int (i : Int)), some u2, y4]) (vs := [4]) (tt := tYes) (te := tOp (rCatA K) (tTup (tCons (tVar 2) tNil)) (tVar 4)) (g := gName 4) (fun _ => true) (headD i) (ds := (pathsOf b).map pathD)
        (ew_list (ev_call (K := K) (f := f1 (g_law_paths n)) (E := C8.E0) (ea_cons (ev_var (i := 3) ⟨u2, rfl, ru2⟩) ea_nil) (if_pos (by rw [hall b hbm, decide_eq_true hwb]; rfl)))) (by rw [List.length_map]; exact Nat.lt_of_le_of_lt (Nat.le_trans hpl hwb) (by rw [sizeLine_eq]; decide)) (fun c F' hc sF => ?_) H3 g3.i _ fun D F7 acc2 H7 g7 hD nD eD ra7 => ?_
      · obtain ⟨pp, hpp, rfl⟩ := List.mem_map.mp hc
        obtain ⟨ee, hpe⟩ := paths_part b pp hpp
        have hlen := path_len n b pp ee (hall b hbm) hpe
        refine tk_name.imp fun σ3 hσ => ?_
        obtain ⟨u3, rfl, ru3⟩ := hσ
        refine ⟨rfl, eb_yes, fun _ => ev_op (ev_tup (ea_cons (ev_var (i := 2) ⟨_, rfl, .int (i : Int)⟩) ea_nil) (by show 1 ≤ sizeLine; decide)) (ev_var (i := 4) ⟨u3, rfl, ru3⟩) (rv_catT ?_)⟩
        rw [List.length_map]
        have hw := path_wt pp b ee hpe
        rw [sizeLine_eq]
        show 1 + pp.length ≤ _
        omega
      rw [made_map] at ra7
      have l1 := racc.len
      have l2 := ra7.len
      have ht : (pathsIn 0 (ds.take i)).length ≤ 1000 := Nat.le_trans (pathsIn_len _ 0) (by
        have h := weights_app (ds.take i) (ds.drop i)
        rw [List.take_append_drop] at h
        omega)
      rw [List.length_map, List.length_cons] at l1
      rw [List.length_map, List.length_map] at l2
      refine ⟨p, D, acc, acc2, rfl, rfl, g7.h _ _ e3, eD, by rw [l1, l2, sizeLine_eq]; omega, fun p2 hp2 => ?_⟩
      have G7 := (gI.trans g3).trans g7
      refine ⟨F7, sI.trans (g3.f.trans g7.f), grow_own G7 (G7.h.free hp2) (g7.i.free hp2), p2, acc ++ acc2, _, _, _, rfl, G7.h.free hp2, g7.i.free hp2, upd_same, ?_⟩
      have et : ds.take (i + 1) = ds.take i ++ [b] := by rw [List.take_add_one, hb]; rfl
      have htl : (ds.take i).length = i := by
        rw [List.length_take]
        have := (List.getElem?_eq_some_iff.mp hb).1
        omega
      rw [et, pathsIn_app, htl, Nat.zero_add, ← List.cons_append, List.map_append, List.map_map]
      have er : (pathsOf b).map (pathD ∘ (i :: ·)) = ((pathsOf b).map pathD).map (headD i) := by
        rw [List.map_map]
        rfl
      rw [er]
      exact (racc.up (g3.f.trans g7.f)).app ra7
    · obtain ⟨sI, gI, p, acc, y2, y3, y4, rfl, hp, nF, eP, racc⟩ := hI
      rw [numbered_len, List.take_length] at racc
      refine now_var rfl _ ?_
      exact q (.ref p) _ H' (grow_tell gI hp nF eP) (.lst (.inl (.inl upd_same)) (racc.up (same_upd nF)))
end
section
variable {K : PySem.W.Frag} {σ : L2.St} {F0 H0 F H : Hp} {d l c : Addr} {n : Nat}
abbrev tDraw (K : PySem.W.Frag) (m : Int) : TT := tTest (tOp (rI0 fun i j => .bl (decide (i > j))) (tCall spTake [] C8.E0 (tCons (tVar 0) (tCons (tC (.int m)) tNil))) (tC (.int 0)))
theorem s_condD {D : Ends} {tt : TT} {ts tw : TS} {b : Bool} (S : StD F0 H0 d l c F H n) (h0 : σ[0]? = some (some (.ref d))) (hn : n ≤ 2 ^ 40) (hb : EvB tt σ F b)
    (k1 : b = true → ∀ F' H', StD F0 H0 d l c F' H' (n + 1) → Same F F' → ts { D with nx := tw D } σ H') (k2 : ∀ F' H', StD F0 H0 d l c F' H' (n + 1) → Same F F' → tw D σ H') :
    tSeq (tIfS (tAnd tt (tDraw K 3)) ts tNext) tw D σ H := hb H S.same _ fun F1 H1 g1 => by
  have S1 := S.grow g1
  cases b with
  | false => exact k2 F1 H1 (S1.more (Nat.le_succ _)) g1.f
  | true =>
    refine ⟨.ref d, h0, d, l, c, n, 3, rfl, S1.dr, hn, by decide, by decide, fun i H2 hi k D2 => ⟨(i : Int), 0, rfl, rfl, _, rfl, ?_⟩⟩
    dsimp only
    split
    · exact k1 rfl F1 H2 (S1.draw k D2) g1.f
    · exact k2 F1 H2 (S1.draw k D2) g1.f
theorem pick_ev {te : TE} {es : List PyData} {Q : VK} (S : StD F0 H0 d l c F H n) (h0 : σ[0]? = some (some (.ref d))) (hn : n ≤ 2 ^ 40) (h : EvD K te σ F (.list es)) (h1 : 1 ≤ es.length) (h2 : es.length ≤ 1000)
    (k : ∀ e v G H', e ∈ es → Dq K G v e → StD F0 H0 d l c G H' (n + 1) → Same F G → Q v H') : tCall (spPick K) [] C8.E0 (tCons (tVar 0) (tCons te tNil)) σ H Q :=
  ⟨.ref d, h0, h H S.same _ fun y F1 H1 g1 r1 => by
    have S1 := S.grow g1
    exact ⟨F1, d, l, c, n, y, es, S1.same, S1.fd, S1.fl, rfl, r1, h1, h2, S1.dr, hn, fun e v H' he hv k' D' => k e v F1 H' he hv (S1.draw k' D') g1.f⟩⟩
theorem ev_catF {i : Nat} {wa : Addr} {ws : List V} {ds es : List PyData} {ta : TA} (hi : σ[i]? = some (some (.ref wa))) (hF : F wa = some (.lst ws)) (rw_ : DqAll K F ws ds) (hds : ds.length ≤ 100) (h : EvS K ta σ F es) (hes : es.length ≤ 40) : EvD K (tOp rCat (tVar i) (tLst ta)) σ F (.list (ds ++ es)) := fun H s Q q =>
  cat_own (K := K) (F := F) hi s (s _ _ hF) rw_ hds h hes fun p3 ws3 F3 H3 g3 hp3 r3 => q _ _ _ (g3.trans (.known g3.i hp3)) (.lst (.inl (.inl upd_same)) (r3.up (same_upd (g3.i.free hp3))))
theorem ev_emp : EvD K tDNewK σ F (.dict []) := fun H s Q q => fun p hp => q _ _ _ (.known s hp) (.emp upd_same)
theorem ev_neg {te : TE} {i : Int} (h : EvD K te σ F (.int i)) : EvD K (tUn (rU fun i => .int (-i)) te) σ F (.int (-i)) := fun H s Q q => h H s _ fun v F1 H1 g r => by
  cases r
  exact ⟨i, rfl, q _ F1 H1 g (.int _)⟩
end
def oddT (ds : List PyData) (a : Nat) : List PyData := [.tuple (ds.take a ++ ds.drop (a + 1)), .tuple ((ds.take a ++ (ds.drop a).take 1) ++ ds.drop a), .tuple ds.reverse, .list ds, .tuple (ds ++ [.none]), .tuple []]
def oddS (z : Str) : List PyData := [.str (z ++ "a"), .str (cutS z none (some (-1))), .str (Txt.upper z), .tuple [.str z], .str "a b", .str "a1", .str "abcdefghi", .str ""]
def oddI (i : Int) : List PyData := [.int (i + 1), .int (i - 1), .int 0, .int 1, .int 2, .int 3, .int 7, .int 300, .int 301, .int (-1), .bool true, .bool false, .str (toString i), .tuple [.int i]]
def oddC : List PyData := [.none, .int 0, .int 5, .bool true, .str "a", .str "", .tuple [], .list [], .dict [], .tuple [.str "a"], .tuple [.str "yes"], .int (-1)]
def Odd (words : List Str) (p e : PyData) : Prop := (∃ ds a, p = .tuple ds ∧ a ≤ ds.length ∧ e ∈ oddT ds a) ∨ (∃ z, p = .str z ∧ e ∈ words.map .str ++ oddS z) ∨ (∃ i, p = .int i ∧ e ∈ oddI i) ∨ e ∈ oddC
theorem s_condD3 {K : PySem.W.Frag} {σ : L2.St} {F0 H0 F H : Hp} {d l c : Addr} {n : Nat} {D : Ends} {t1 t2 : TT} {ts tw : TS} {b1 b2 : Bool} (S : StD F0 H0 d l c F H n) (h0 : σ[0]? = some (some (.ref d))) (hn : n ≤ 2 ^ 40) (hb1 : EvB t1 σ F b1) (hb2 : EvB t2 σ F b2)
    (k1 : b1 = true → b2 = true → ∀ F' H', StD F0 H0 d l c F' H' (n + 1) → Same F F' → ts { D with nx := tw D } σ H') (k2 : ∀ F' H', StD F0 H0 d l c F' H' (n + 1) → Same F F' → tw D σ H') :
    tSeq (tIfS (tAnd t1 (tAnd t2 (tDraw K 3))) ts tNext) tw D σ H := hb1 H S.same _ fun F1 H1 g1 => by
  have S1 := S.grow g1
  cases b1 with
  | false => exact k2 F1 H1 (S1.more (Nat.le_succ _)) g1.f
  | true =>
    refine hb2.up g1.f H1 g1.i _ fun F2 H2 g2 => ?_
    have S2 := S1.grow g2
    cases b2 with
    | false => exact k2 F2 H2 (S2.more (Nat.le_succ _)) (g1.f.trans g2.f)
    | true =>
      refine ⟨.ref d, h0, d, l, c, n, 3, rfl, S2.dr, hn, by decide, by decide, fun i H3 hi k D2 => ⟨(i : Int), 0, rfl, rfl, _, rfl, ?_⟩⟩
      dsimp only
      split
      · exact k1 rfl rfl F2 H3 (S2.draw k D2) (g1.f.trans g2.f)
      · exact k2 F2 H3 (S2.draw k D2) (g1.f.trans g2.f)
theorem ev_strI {K : PySem.W.Frag} {σ : L2.St} {F : Hp} {te : TE} {i : Int} (h : EvD K te σ F (.int i)) (hi : i.natAbs.log2 < 1920) : EvD K (tCB (fun xs H Q => ∃ i, xs = [V.int i] ∧ i.natAbs.log2 < 1920 ∧ Q (.str (toString i)) H) (tCons te tNil)) σ F (.str (toString i)) := fun H s Q q => h H s _ fun v F1 H1 g r => by
  cases r
  exact ⟨i, rfl, hi, q _ F1 H1 g (.str _)⟩
section
variable {P : Program} {w : World} {K : PySem.W.Frag} {mg : Str → Option Value} {base : Heap} {f : Addr} {fd : FuncData} {aK CK CN CS : Addr}
abbrev s__law_odd : Stmt := top 44
theorem sc__law_odd : FnScope ["draw", "part", "words", "at", "some"] ["draw", "part", "words"] (defScope s__law_odd) := ⟨rfl, rfl, rfl, by decide +kernel, rfl, by decide +kernel, by decide +kernel⟩
def spOdd (K : PySem.W.Frag) : Sp := fun vs H Q _ => ∃ (F0 H0 F : Hp) (d l c wa : Addr) (n : Nat) (y : V) (p : PyData) (ws : List V) (words : List Str), StD F0 H0 d l c F H n ∧ n + 10 ≤ 2 ^ 40 ∧ vs = [.ref d, y, .ref wa] ∧ Dq K F y p ∧ weight p ≤ 1000 ∧ (∀ i, p = .int i → i.natAbs ≤ 1000) ∧ F wa = some (.lst ws) ∧ DqAll K F ws (words.map .str) ∧ words.length ≤ 20 ∧
  ∀ e v G H', Odd words p e → Dq K G v e → StD F0 H0 d l c G H' (n + 5) → Same F G → Q v H'
theorem ok__law_odd (F : Fun K "_law_odd" "_law_odd" s__law_odd f fd) (B : BI mg) (c__law_take : Cal P w K mg base 2 "_law_take" spTake []) (c__law_pick : Cal P w K mg base 3 "_law_pick" (spPick K) []) : FnOk P w K mg base CX0 4 f fd ["draw", "part", "words"] (spOdd K) := by
  refine F.ok sc__law_odd (fun vs H Q E h => by obtain ⟨_, _, _, d, _, _, _, _, _, _, _, _, _, _, e, _⟩ := h; rw [e]; rfl) (fun cdv A outer s H vs Q E hr h => ?_)
  obtain ⟨F0, H0, Fa, d, l, c, wa, n, y, p, ws, words, S, hn, ev, ry, hwt, hint, hwa, rws, hwl, q⟩ := h
  subst ev
  refine ⟨_, (pss_cons (ps_if (PW.pt (pw_and (pt_val (pe_callB (r := rIsi K) (call_isi) (by rfl) B.isinstance (by decide +kernel) (pa_cons (pv 1) (pa_cons (pe_bltn (v := .ty "tuple") (by rfl) B.tuple (by decide +kernel) rfl) pa_nil)))) (pw_and1 (pt_cmpR (op_gt) (pe_c c__law_take hr (by first | decide | omega) (by rfl) (pa_cons (pv 0) (pa_cons pe_int pa_nil))) pe_int (nomark _))))) (pss_cons (ps_set (i := 3) sc__law_odd.nd rfl (Or.inl rfl) (pe_c c__law_take hr (by first | decide | omega) (by rfl) (pa_cons (pv 0) (pa_cons (pe_op (op_add) (pe_callB (r := rLen0 K) (call_len) (by rfl) B.len (by decide +kernel) (pa_cons (pv 1) pa_nil)) pe_int) pa_nil))))
        (pss_cons (ps_set (i := 4) sc__law_odd.nd rfl (Or.inl rfl) (pe_lst (pa_cons (pe_op (r := rCatA K) op_catA (pe_slice (r := rSlA K) sl_tupA (pv 1) po_none (po_some (pv 3))) (pe_slice (r := rSlA K) sl_tupA (pv 1) (po_some (pe_op (op_add) (pv 3) pe_int)) po_none)) (pa_cons (pe_op (r := rCatA K) op_catA (pe_op (r := rCatA K) op_catA (pe_slice (r := rSlA K) sl_tupA (pv 1) po_none (po_some (pv 3))) (pe_slice (r := rSlA K) sl_tupA (pv 1) (po_some (pv 3)) (po_some (pe_op (op_add) (pv 3) pe_int)))) (pe_slice (r := rSlA K) sl_tupA (pv 1) (po_some (pv 3)) po_none)) (pa_cons (pe_revT (pv 1) (po_some (pe_un un_neg pe_int))) (pa_cons (pe_callTy (r := rListOf K) (call_list_of) (by rfl) B.list_ (by decide +kernel) (pa_cons (pv 1) pa_nil)) (pa_cons (pe_op (r := rCatA K) op_catA (pv 1) (pe_tup (pa_cons pe_non pa_nil))) (pa_cons (pe_tup pa_nil) pa_nil))))))))
        (pss_one (ps_ret (pe_c c__law_pick hr (by first | decide | omega) (by rfl) (pa_cons (pv 0) (pa_cons (pv 4) pa_nil))))))) pss_nil)
        (pss_cons (ps_if (PW.pt (pw_and (pt_val (pe_callB (r := rIsi K) (call_isi) (by rfl) B.isinstance (by decide +kernel) (pa_cons (pv 1) (pa_cons (pe_bltn (v := .ty "str") (by rfl) B.str_ (by decide +kernel) rfl) pa_nil)))) (pw_and1 (pt_cmpR (op_gt) (pe_c c__law_take hr (by first | decide | omega) (by rfl) (pa_cons (pv 0) (pa_cons pe_int pa_nil))) pe_int (nomark _))))) (pss_one (ps_ret (pe_c c__law_pick hr (by first | decide | omega) (by rfl) (pa_cons (pv 0) (pa_cons (pe_op op_cat (pv 2) (pe_lst (pa_cons (pe_op op_add_str (pv 1) pe_str) (pa_cons (pe_slice (r := rSlS) sl_str (pv 1) po_none (po_some (pe_un un_neg pe_int))) (pa_cons (pe_upper (pv 1)) (pa_cons (pe_tup (pa_cons (pv 1) pa_nil)) (pa_cons pe_str (pa_cons pe_str (pa_cons pe_str (pa_cons pe_str pa_nil)))))))))) pa_nil))))) pss_nil)
        (pss_cons (ps_if (PW.pt (pw_and (pt_val (pe_callB (r := rIsi K) (call_isi) (by rfl) B.isinstance (by decide +kernel) (pa_cons (pv 1) (pa_cons (pe_bltn (v := .ty "int") (by rfl) B.int_ (by decide +kernel) rfl) pa_nil)))) (pw_and (pt_not (pt_val (pe_callB (r := rIsi K) (call_isi) (by rfl) B.isinstance (by decide +kernel) (pa_cons (pv 1) (pa_cons (pe_bltn (v := .ty "bool") (by rfl) B.bool_ (by decide +kernel) rfl) pa_nil))))) (pw_and1 (pt_cmpR (op_gt) (pe_c c__law_take hr (by first | decide | omega) (by rfl) (pa_cons (pv 0) (pa_cons pe_int pa_nil))) pe_int (nomark _)))))) (pss_one (ps_ret (pe_c c__law_pick hr (by first | decide | omega) (by rfl) (pa_cons (pv 0) (pa_cons (pe_lst (pa_cons (pe_op (op_add) (pv 1) pe_int) (pa_cons (pe_op (op_sub) (pv 1) pe_int) (pa_cons pe_int (pa_cons pe_int (pa_cons pe_int (pa_cons pe_int (pa_cons pe_int (pa_cons pe_int (pa_cons pe_int (pa_cons (pe_un un_neg pe_int) (pa_cons pe_bl (pa_cons pe_bl (pa_cons (pe_callTy (call_str_int) (by rfl) B.str_ (by decide +kernel) (pa_cons (pv 1) pa_nil)) (pa_cons (pe_tup (pa_cons (pv 1) pa_nil)) pa_nil))))))))))))))) pa_nil))))) pss_nil)
        (pss_one (ps_ret (pe_c c__law_pick hr (by first | decide | omega) (by rfl) (pa_cons (pv 0) (pa_cons (pe_lst (pa_cons pe_non (pa_cons pe_int (pa_cons pe_int (pa_cons pe_bl (pa_cons pe_str (pa_cons pe_str (pa_cons (pe_tup pa_nil) (pa_cons (pe_lst pa_nil) (pa_cons pe_dnewK (pa_cons (pe_tup (pa_cons pe_str pa_nil)) (pa_cons (pe_tup (pa_cons pe_str pa_nil)) (pa_cons (pe_un un_neg pe_int) pa_nil))))))))))))) pa_nil)))))))), ?_⟩
  have e1 : ∀ {σ : L2.St} {G : Hp}, σ[1]? = some (some y) → Same Fa G → EvD K (tVar 1) σ G p := fun {_ _} h s => ev_var (i := 1) ⟨y, h, ry.up s⟩
  refine s_condD (K := K) (F := Fa) S rfl (by omega) (eb_val (ev_isi (e1 rfl (Same.refl _)) (kit_tup p))) (fun hb F1 H1 S1 s1 => ?_) fun F1 H1 S1 s1 => ?_
  · obtain ⟨ds, rfl⟩ : ∃ ds, p = .tuple ds := by
      cases p with
      | tuple ds => exact ⟨ds, rfl⟩
      | _ => cases hb
    have hdl : ds.length ≤ 1000 := by
      have := weights_len ds
      simp only [weight] at hwt
      omega
    have big : 3000 ≤ sizeLine := by rw [sizeLine_eq]; decide
    -- at
    refine ⟨.ref d, rfl, ?_⟩
    show tCons (tOp _ _ _) tNil _ _ _
    refine cons_one ?_
    refine ev_op (ev1 (e1 (σ := start ["draw", "part", "words", "at", "some"] [.ref d, y, .ref wa]) rfl s1) rc_lenT) (ev_int (i := 1)) (rv_int (g := fun i j => i + j)) H1 S1.same _ fun u F2 H2 g2 r2 => ?_
    cases r2
    have S2 := S1.grow g2
    refine ⟨d, l, c, n + 1, (ds.length : Int) + 1, rfl, S2.dr, by omega, by omega, by omega, fun a H3 ha k3 D3 => ?_⟩
    have S3 := S2.draw k3 D3
    have s3 : Same Fa F2 := s1.trans g2.f
    dsimp only
    have ea : ∀ {G : Hp}, EvD K (tVar 3) [some (.ref d), some y, some (.ref wa), some (.int (a : Int)), none] G (.int (a : Int)) := fun {_} => ev_var (i := 3) ⟨_, rfl, .int (a : Int)⟩
    have ea1 : ∀ {G : Hp}, EvD K (tOp (rI0 fun i j => V.int (i + j)) (tVar 3) (tC (.int 1))) [some (.ref d), some y, some (.ref wa), some (.int (a : Int)), none] G (.int (((a + 1 : Nat) : Nat) : Int)) := fun {_} => ev_op ea (ev_int (i := 1)) (rv_int (g := fun i j => i + j))
    have ep := e1 (σ := [some (.ref d), some y, some (.ref wa), some (.int (a : Int)), none]) rfl s3
    have c1 := (ev_sl ep eo_none (eo_some ea) rs_tup).is (congrArg PyData.tuple (cut_to a ds))
    have c2 := (ev_sl ep (eo_some ea1) eo_none rs_tup).is (congrArg PyData.tuple (cut_from (a + 1) ds))
    have c3 := (ev_sl ep (eo_some ea) (eo_some ea1) rs_tup).is (d1 := .tuple ((ds.drop a).take 1)) (congrArg PyData.tuple (by
      unfold cutD
      have m1 : min a ds.length = a := Nat.min_eq_left (by omega)
      rw [HT.sIx_nat, HT.sIx_nat, m1]
      by_cases h : a + 1 ≤ ds.length
      · rw [Nat.min_eq_left h, show a + 1 - a = 1 by omega]
      · rw [List.drop_eq_nil_of_le (show ds.length ≤ a by omega)]
        simp))
    have c4 := (ev_sl ep (eo_some ea) eo_none rs_tup).is (congrArg PyData.tuple (cut_from a ds))
    have lt : (ds.take a).length ≤ 1000 := by rw [List.length_take]; omega
    have ld : ∀ k, (ds.drop k).length ≤ 1000 := fun k => by rw [List.length_drop]; omega
    have lu : ((ds.drop a).take 1).length ≤ 1 := by rw [List.length_take]; omega
    have ex : EvS K _ _ F2 (oddT ds a) := ea_cons (ev_op c1 c2 (rv_catT (by have := ld (a + 1); omega)))
      (ea_cons (ev_op (ev_op c1 c3 (rv_catT (by omega))) c4 (rv_catT (by have := ld a; rw [List.length_append]; omega)))
      (ea_cons (ev_revT ep (eo_some (ev_neg (ev_int (i := 1))))) (ea_cons (ev1 ep rc_listT) (ea_cons (ev_op ep (ev_tup (ea_cons ev_non ea_nil) (by show 1 ≤ sizeLine; omega)) (rv_catT (by show ds.length + 1 ≤ sizeLine; omega))) (ea_cons (ev_tup ea_nil (Nat.zero_le _)) ea_nil)))))
    refine s_set (K := K) (F := F2) (d := .list (oddT ds a)) (ev_lst ex (by show 6 ≤ sizeLine; omega)) S3.same fun v F4 H4 g4 r4 => ?_
    have S4 := S3.grow g4
    refine pick_ev S4 rfl (by omega) (ev_var (i := 4) ⟨v, rfl, r4⟩) (by show 1 ≤ 6; decide) (by show 6 ≤ 1000; decide) fun e v G H' he hv S5 s5 => ?_
    exact q e v G H' (.inl ⟨ds, a, rfl, by omega, he⟩) hv (S5.more (by omega)) ((s3.trans g4.f).trans s5)
  refine s_condD (K := K) (F := F1) S1 rfl (by omega) (eb_val (ev_isi (e1 rfl s1) (kit_str p))) (fun hb F2 H2 S2 s2 => ?_) fun F2 H2 S2 s2 => ?_
  · obtain ⟨z, rfl⟩ : ∃ z, p = .str z := by
      cases p with
      | str z => exact ⟨z, rfl⟩
      | _ => cases hb
    have hzl : z.length ≤ 1000 := by
      simp only [weight] at hwt
      omega
    have big : 10000 ≤ sizeLine := by rw [sizeLine_eq]; decide
    have s12 := s1.trans s2
    have ep := e1 (σ := start ["draw", "part", "words", "at", "some"] [.ref d, y, .ref wa]) rfl s12
    have eu : EvD K (tM0 (fun x xs H Q => ∃ a, x = .str a ∧ xs = [] ∧ a.length ≤ 5592405 ∧ Q (.str (Txt.upper a)) H) (tVar 1)) (start ["draw", "part", "words", "at", "some"] [.ref d, y, .ref wa]) F2 (.str (Txt.upper z)) := fun H s Q q => ep H s _ fun v F' H' g r => by
      cases r
      exact ⟨⟨z, rfl⟩, z, rfl, rfl, by omega, q _ F' H' g (.str _)⟩
    have es : EvD K (tSl rSlS (tVar 1) tNoPart (tPart (tUn (rU fun i => .int (-i)) (tC (.int 1))))) (start ["draw", "part", "words", "at", "some"] [.ref d, y, .ref wa]) F2 (.str (cutS z none (some (-1)))) := ev_sl ep eo_none (eo_some (ev_neg (ev_int (i := 1)))) fun F x H s r Q q => by
      cases r
      exact ⟨z, rfl, by omega, q _ F H (.start s) (.str _)⟩
    refine pick_ev S2 rfl (by omega) (ev_catF (i := 2) (wa := wa) (es := oddS z) rfl (s12 _ _ hwa) (rws.up s12) (by rw [List.length_map]; omega) (ea_cons (ev_op ep (ev_str (x := "a")) (rv_addS (by show z.length + 1 ≤ sizeLine; omega))) (ea_cons es (ea_cons eu (ea_cons (ev_tup (ea_cons ep ea_nil) (by show 1 ≤ sizeLine; omega)) (ea_cons ev_str (ea_cons ev_str (ea_cons ev_str (ea_cons ev_str ea_nil)))))))) (by show 8 ≤ 40; decide)) (by rw [List.length_append]; show 1 ≤ _ + 8; omega) (by rw [List.length_append, List.length_map]; show _ + 8 ≤ 1000; omega) fun e v G H' he hv S5 s5 => ?_
    exact q e v G H' (.inr (.inl ⟨z, rfl, he⟩)) hv (S5.more (by omega)) (s12.trans s5)
  refine s_condD3 (K := K) (F := F2) S2 rfl (by omega) (eb_val (ev_isi (e1 rfl (s1.trans s2)) (kit_int p))) (eb_not (eb_val (ev_isi (e1 rfl (s1.trans s2)) (kit_bool p)))) (fun hb hb2 F3 H3 S3 s3 => ?_) fun F3 H3 S3 s3 => ?_
  · obtain ⟨i, rfl⟩ : ∃ i, p = .int i := by
      cases p with
      | int i => exact ⟨i, rfl⟩
      | bool b => cases hb2
      | _ => cases hb
    have s13 := (s1.trans s2).trans s3
    have ep := e1 (σ := start ["draw", "part", "words", "at", "some"] [.ref d, y, .ref wa]) rfl s13
    have hlog : i.natAbs.log2 < 1920 := by
      have h1 := hint i rfl
      by_cases h0 : i.natAbs = 0
      · rw [h0]
        decide
      · refine (Nat.log2_lt h0).mpr (Nat.lt_of_le_of_lt h1 ?_)
        exact Nat.lt_of_lt_of_le (show 1000 < 2 ^ 10 by decide) (Nat.pow_le_pow_right (by decide) (by decide))
    refine pick_ev S3 rfl (by omega) (ev_lst (ds := oddI i) (ea_cons (ev_op ep (ev_int (i := 1)) (rv_int (g := fun i j => i + j))) (ea_cons (ev_op ep (ev_int (i := 1)) (rv_int (g := fun i j => i - j))) (ea_cons ev_int (ea_cons ev_int (ea_cons ev_int (ea_cons ev_int (ea_cons ev_int (ea_cons ev_int (ea_cons ev_int (ea_cons (ev_neg (ev_int (i := 1))) (ea_cons ev_bl (ea_cons ev_bl (ea_cons (ev_strI ep hlog) (ea_cons (ev_tup (ea_cons ep ea_nil) (small (n := 1))) ea_nil)))))))))))))) (small (n := 14))) (by show 1 ≤ 14; decide) (by show 14 ≤ 1000; decide) fun e v G H' he hv S5 s5 => ?_
    exact q e v G H' (.inr (.inr (.inl ⟨i, rfl, he⟩))) hv (S5.more (by omega)) (s13.trans s5)
  refine pick_ev S3 rfl (by omega) (ev_lst (ds := oddC) (ea_cons ev_non (ea_cons ev_int (ea_cons ev_int (ea_cons ev_bl (ea_cons ev_str (ea_cons ev_str (ea_cons (ev_tup ea_nil (Nat.zero_le _)) (ea_cons (ev_lst ea_nil (Nat.zero_le _)) (ea_cons ev_emp (ea_cons (ev_tup (ea_cons ev_str ea_nil) small) (ea_cons (ev_tup (ea_cons ev_str ea_nil) small) (ea_cons (ev_neg (ev_int (i := 1))) ea_nil)))))))))))) small) (by show 1 ≤ 12; decide) (by show 12 ≤ 1000; decide) fun e v G H' he hv S5 s5 => ?_
  exact q e v G H' (.inr (.inr (.inr he))) hv (S5.more (by omega)) (((s1.trans s2).trans s3).trans s5)
end
theorem part_wt : ∀ (p : List Nat) (d e : PyData), partAt d p = some e → weight e ≤ weight d
  | [], d, e, h => by
    cases h
    exact Nat.le_refl _
  | k :: p, d, e, h => by
    obtain ⟨ds, d', rfl, h1, h2⟩ := part_cons h
    have h3 := part_wt p d' e h2
    have h4 := weights_mem (List.mem_of_getElem? h1)
    simp only [weight]
    omega
section
variable {P : Program} {w : World} {K : PySem.W.Frag} {mg : Str → Option Value} {base : Heap} {f : Addr} {fd : FuncData} {aK CK CN CS : Addr}
abbrev s__law_bent : Stmt := top 45
theorem sc__law_bent : FnScope ["draw", "thing", "words", "path"] ["draw", "thing", "words"] (defScope s__law_bent) := ⟨rfl, rfl, rfl, by decide +kernel, rfl, by decide +kernel, by decide +kernel⟩
def spBent (K : PySem.W.Frag) : Sp := fun vs H Q _ => ∃ (F0 H0 F : Hp) (d l c wa : Addr) (n : Nat) (x : V) (t : PyData) (ws : List V) (words : List Str), StD F0 H0 d l c F H n ∧ n + 20 ≤ 2 ^ 40 ∧ vs = [.ref d, x, .ref wa] ∧ Dq K F x t ∧ weight t ≤ 1000 ∧ nestOk 40 t = true ∧ (∀ p i, partAt t p = some (.int i) → i.natAbs ≤ 1000) ∧ F wa = some (.lst ws) ∧ DqAll K F ws (words.map .str) ∧ words.length ≤ 20 ∧
  ∀ p o e v G H', p ∈ pathsOf t → partAt t p = some o → Odd words o e → Dq K G v (putAt t p e) → StD F0 H0 d l c G H' (n + 10) → Same F G → Q v H'
theorem ok__law_bent (F : Fun K "_law_bent" "_law_bent" s__law_bent f fd) (B : BI mg) (c__law_pick : Cal P w K mg base 3 "_law_pick" (spPick K) []) (c__law_paths : Cal P w K mg base 41 "_law_paths" (spD K (f1 (g_law_paths 40))) []) (c__law_part : Cal P w K mg base 41 "_law_part" (spPart K 40) []) (c__law_put : Cal P w K mg base 41 "_law_put" (spPut K 40) []) (c__law_odd : Cal P w K mg base 4 "_law_odd" (spOdd K) []) : FnOk P w K mg base CX0 42 f fd ["draw", "thing", "words"] (spBent K) := by
  refine F.ok sc__law_bent (fun vs H Q E h => by obtain ⟨_, _, _, d, _, _, _, _, _, _, _, _, _, _, e, _⟩ := h; rw [e]; rfl) (fun cdv A outer s H vs Q E hr h => ?_)
  obtain ⟨F0, H0, Fa, d, l, c, wa, n, x, t, ws, words, S, hn, ev, rx, hwt, hnest, hint, hwa, rws, hwl, q⟩ := h
  subst ev
  refine ⟨_, (pss_cons (ps_set (i := 3) sc__law_bent.nd rfl (Or.inl rfl) (pe_c c__law_pick hr (by first | decide | omega) (by rfl) (pa_cons (pv 0) (pa_cons (pe_c c__law_paths hr (by first | decide | omega) (by rfl) (pa_cons (pv 1) pa_nil)) pa_nil))))
        (pss_one (ps_ret (pe_c c__law_put hr (by first | decide | omega) (by rfl) (pa_cons (pv 1) (pa_cons (pv 3) (pa_cons (pe_c c__law_odd hr (by first | decide | omega) (by rfl) (pa_cons (pv 0) (pa_cons (pe_c c__law_part hr (by first | decide | omega) (by rfl) (pa_cons (pv 1) (pa_cons (pv 3) pa_nil))) (pa_cons (pv 2) pa_nil)))) pa_nil))))))), ?_⟩
  refine s_asgC ?_
  refine pick_ev (K := K) (F := Fa) (es := (pathsOf t).map pathD) S rfl (by omega) (ev_call (f := f1 (g_law_paths 40)) (ea_cons (ev_var (i := 1) ⟨x, rfl, rx⟩) ea_nil) (if_pos (by rw [hnest, decide_eq_true hwt]; rfl))) (by rw [List.length_map]; exact paths_ne t) (by rw [List.length_map]; exact Nat.le_trans (paths_len t) hwt) fun e1 pv F1 H1 he1 rp S1 s1 => ?_
  obtain ⟨p, hp, rfl⟩ := List.mem_map.mp he1
  obtain ⟨o, hpo⟩ := paths_part t p hp
  have hpl := path_len 40 t p o hnest hpo
  have hwo := part_wt p t o hpo
  dsimp only
  refine ⟨x, rfl, pv, rfl, .ref d, rfl, x, rfl, pv, rfl, F1, x, pv, t, p, o, S1.same, rfl, rx.up s1, rp, hpl, hpo, fun v2 F2 H2 g2 r2 => ?_⟩
  have S2 := S1.grow g2
  refine ⟨.ref wa, rfl, F0, H0, F2, d, l, c, wa, n + 1, v2, o, ws, words, S2, by omega, rfl, r2, by omega, fun i hi => hint p i (hi ▸ hpo), (s1.trans g2.f) _ _ hwa, rws.up (s1.trans g2.f), hwl, fun e v3 G H3 hodd rv3 S3 s3 => ?_⟩
  have sG := (s1.trans g2.f).trans s3
  exact ⟨G, x, pv, v3, t, p, o, e, S3.same, rfl, rx.up sG, rp.up (g2.f.trans s3), rv3, hpl, hpo, by omega, fun v F' H' g r => q p o e v F' H' hp hpo hodd r ((S3.grow g).more (by omega)) (sG.trans g.f)⟩
end
theorem weights_rev : ∀ ds : List PyData, weights ds.reverse = weights ds
  | [] => rfl
  | d :: ds => by
    rw [List.reverse_cons, weights_app, weights_rev ds]
    simp only [weights]
    omega
theorem weights_cut (ds : List PyData) (k : Nat) : weights (ds.take k) + weights (ds.drop k) = weights ds := by
  have h := weights_app (ds.take k) (ds.drop k)
  rw [List.take_append_drop] at h
  exact h.symm
theorem num_len : ∀ n : Nat, n < 1001 → (Str.ofString (toString (Int.ofNat n))).length ≤ 10 ∧ (Str.ofString (toString (-(Int.ofNat n)))).length ≤ 10 := by
  have h : ((List.range 1001).all fun n => decide ((Str.ofString (toString (Int.ofNat n))).length ≤ 10) && decide ((Str.ofString (toString (-(Int.ofNat n)))).length ≤ 10)) = true := by decide +kernel
  intro n hn
  have := List.all_eq_true.mp h n (List.mem_range.mpr hn)
  rw [Bool.and_eq_true, decide_eq_true_iff, decide_eq_true_iff] at this
  exact this
theorem num_len' {i : Int} (h : i.natAbs ≤ 1000) : (Str.ofString (toString i)).length ≤ 10 := by
  rcases Int.natAbs_eq i with e | e
  · rw [e]
    exact (num_len i.natAbs (by omega)).1
  · rw [e]
    exact (num_len i.natAbs (by omega)).2
theorem odd_wt {words : List Str} {o e : PyData} (h : Odd words o e) (hw : ∀ s ∈ words, s.length ≤ 20) (hi : ∀ i, o = .int i → i.natAbs ≤ 1000) : weight e ≤ 3 * weight o + 100 := by
  rcases h with ⟨ds, a, rfl, ha, he⟩ | ⟨z, rfl, he⟩ | ⟨i, rfl, he⟩ | he
  · have c1 := weights_cut ds a
    have c2 := weights_cut ds (a + 1)
    have c3 := weights_cut (ds.drop a) 1
    have c4 : weights (ds.take (a + 1)) ≥ weights (ds.take a) := by
      rw [List.take_add_one, weights_app]
      omega
    unfold oddT at he
    simp only [List.mem_cons, List.not_mem_nil, or_false] at he
    rcases he with rfl | rfl | rfl | rfl | rfl | rfl <;> simp only [weight, weights_app, weights_rev, weights] <;> omega
  · rcases List.mem_append.mp he with he | he
    · obtain ⟨s, hs, rfl⟩ := List.mem_map.mp he
      have := hw s hs
      simp only [weight]
      omega
    · have h1 := len_upper z
      have h2 := cutS_length z none (some (-1))
      have h3 : (z ++ "a").length = z.length + 1 := by
        show (z.cps ++ _).size = _
        rw [Array.size_append]
        rfl
      unfold oddS at he
      simp only [List.mem_cons, List.not_mem_nil, or_false] at he
      rcases he with rfl | rfl | rfl | rfl | rfl | rfl | rfl | rfl
      · simp only [weight, h3]; omega
      · simp only [weight]; omega
      · simp only [weight]; omega
      · simp only [weight, weights]; omega
      · exact Nat.le_trans (show weight (.str "a b") ≤ 100 by decide +kernel) (by omega)
      · exact Nat.le_trans (show weight (.str "a1") ≤ 100 by decide +kernel) (by omega)
      · exact Nat.le_trans (show weight (.str "abcdefghi") ≤ 100 by decide +kernel) (by omega)
      · exact Nat.le_trans (show weight (.str "") ≤ 100 by decide +kernel) (by omega)
  · have h1 := num_len' (hi i rfl)
    unfold oddI at he
    simp only [List.mem_cons, List.not_mem_nil, or_false] at he
    rcases he with rfl | rfl | rfl | rfl | rfl | rfl | rfl | rfl | rfl | rfl | rfl | rfl | rfl | rfl <;> simp only [weight, weights] <;> first | omega | (show 1 + (Str.ofString (toString i)).length ≤ _; omega)
  · have hc : ∀ d ∈ oddC, weight d ≤ 100 := by decide +kernel
    exact Nat.le_trans (hc e he) (by omega)
theorem put_wt : ∀ (p : List Nat) (d o e : PyData), partAt d p = some o → weight (putAt d p e) ≤ weight d + weight e
  | [], d, o, e, _ => by
    show weight e ≤ _
    omega
  | k :: p, d, o, e, h => by
    obtain ⟨ds, d', rfl, h1, h2⟩ := part_cons h
    rw [put_cons h1]
    have h3 := put_wt p d' o e h2
    have c1 := weights_cut ds k
    have hd : ds.drop k = d' :: ds.drop (k + 1) := by
      rw [List.drop_eq_getElem_cons (List.getElem?_eq_some_iff.mp h1).1]
      rw [(List.getElem?_eq_some_iff.mp h1).2]
    rw [hd] at c1
    simp only [weights] at c1
    simp only [weight, weights_app, weights]
    omega
mutual
def smallI : PyData → Bool
  | .int i => decide (i.natAbs ≤ 1000)
  | .tuple ds => smallAll ds
  | _ => true
def smallAll : List PyData → Bool
  | [] => true
  | d :: ds => smallI d && smallAll ds
end
theorem smallAll_iff : ∀ ds : List PyData, smallAll ds = true ↔ ∀ d ∈ ds, smallI d = true
  | [] => by simp [smallAll]
  | d :: ds => by
    simp only [smallAll, Bool.and_eq_true, smallAll_iff ds, List.mem_cons, forall_eq_or_imp]
theorem small_part : ∀ (p : List Nat) (d : PyData) (i : Int), smallI d = true → partAt d p = some (.int i) → i.natAbs ≤ 1000
  | [], d, i, h, e => by
    cases e
    simpa [smallI] using h
  | k :: p, d, i, h, e => by
    obtain ⟨ds, d', rfl, h1, h2⟩ := part_cons e
    simp only [smallI] at h
    exact small_part p d' i ((smallAll_iff ds).mp h d' (List.mem_of_getElem? h1)) h2
theorem nest_up : ∀ (n : Nat) (d : PyData), nestOk n d = true → nestOk (n + 1) d = true
  | 0, _, h => by cases h
  | n + 1, d, h => by
    cases d with
    | tuple ds =>
      have h' : ds.all (nestOk n) = true := h
      show ds.all (nestOk (n + 1)) = true
      exact List.all_eq_true.mpr fun e he => nest_up n e (List.all_eq_true.mp h' e he)
    | _ => rfl
theorem nest_more {n m : Nat} (h : n ≤ m) {d : PyData} (hd : nestOk n d = true) : nestOk m d = true := by
  induction m with
  | zero =>
    have : n = 0 := by omega
    rw [this] at hd
    exact hd
  | succ m ih =>
    by_cases e : n = m + 1
    · rw [← e]
      exact hd
    · exact nest_up m d (ih (by omega))
theorem odd_len {words : List Str} {ts ys : List PyData} (h : Odd words (.tuple ts) (.tuple ys)) : ys.length ≤ ts.length + 1 := by
  rcases h with ⟨ds, a, e, ha, he⟩ | ⟨z, e, he⟩ | ⟨i, e, he⟩ | he
  · cases e
    unfold oddT at he
    simp only [List.mem_cons, List.not_mem_nil, or_false, PyData.tuple.injEq, reduceCtorEq, false_or] at he
    rcases he with rfl | rfl | rfl | rfl | rfl
    · rw [List.length_append, List.length_take, List.length_drop]; omega
    · rw [List.length_append, List.length_append, List.length_take, List.length_take, List.length_drop]; omega
    · rw [List.length_reverse]; omega
    · rw [List.length_append]; exact Nat.le_refl _
    · exact Nat.zero_le _
  · cases e
  · cases e
  · have hc : ∀ d ∈ oddC, (match d with | .tuple ys => decide (ys.length ≤ 1) | _ => true) = true := by decide +kernel
    have := of_decide_eq_true (hc _ he)
    omega
/-- a kept error is asked for -/
theorem caught_is {K : PySem.W.Frag} {CS CN : Addr} {T : List (Addr × Str)} {t : XK → TE} {σ : L2.St} {H F : Hp} {D : Ends} {tw : TS} {a l c : Addr} {n : Nat} (hsub : PySem.W.exmOne K (.ref CN) (.ref CS) = some true) (hT : Tabs T H) (s : Same F H) (Dr : DrawAt H a l c n)
    (ht : ∀ (E : XK) (H1 : Hp) (Q : VK), Same (noT F) H1 → (∀ H', Same H1 H' → E (.ref CN) none H') → t E σ H1 Q)
    (k : ∀ H', Same (noT F) H' → Tabs T H' → DrawAt H' a l c n → tw D σ H') :
    tSeq (tIfS (tNot (tB (tCB (rIsT CN) (tCons (tLam T (TTc K CS) t) (tCons (tC (.ref CN)) tNil))))) (tRet (tC (.bl false))) tNext) tw D σ H := by
  refine ⟨hT, fun H1 eN T1 => ?_⟩
  have s1 := noT_ext s eN
  refine ht _ H1 _ s1 fun H2 s2 => ⟨hsub, fun x hx => ⟨x, rfl, upd_same, true, rfl, ?_⟩⟩
  have s3 : Same H1 (upd H2 x (ExT (.ref CN) none x)) := s2.trans (same_upd hx)
  exact k _ (s1.trans s3) (tabs_same T1 s3) ((Dr.ext eN).same s3)
theorem caught_is1 {K : PySem.W.Frag} {CS CN : Addr} {T : List (Addr × Str)} {t : XK → TE} {σ : L2.St} {H F : Hp} {D : Ends} {a l c : Addr} {n : Nat} (hsub : PySem.W.exmOne K (.ref CN) (.ref CS) = some true) (hT : Tabs T H) (s : Same F H) (Dr : DrawAt H a l c n)
    (ht : ∀ (E : XK) (H1 : Hp) (Q : VK), Same (noT F) H1 → (∀ H', Same H1 H' → E (.ref CN) none H') → t E σ H1 Q)
    (k : ∀ H', Same (noT F) H' → Tabs T H' → DrawAt H' a l c n → D.nx σ H') :
    tIfS (tNot (tB (tCB (rIsT CN) (tCons (tLam T (TTc K CS) t) (tCons (tC (.ref CN)) tNil))))) (tRet (tC (.bl false))) tNext D σ H := by
  refine ⟨hT, fun H1 eN T1 => ?_⟩
  have s1 := noT_ext s eN
  refine ht _ H1 _ s1 fun H2 s2 => ⟨hsub, fun x hx => ⟨x, rfl, upd_same, true, rfl, ?_⟩⟩
  have s3 : Same H1 (upd H2 x (ExT (.ref CN) none x)) := s2.trans (same_upd hx)
  exact k _ (s1.trans s3) (tabs_same T1 s3) ((Dr.ext eN).same s3)
section
variable {K : PySem.W.Frag} {σ : L2.St} {F : Hp} {CK : Addr} {E : XK} {i : Nat} {v : V} {xs : List PyData} {d : PyData} {te : TE}
/-- f(k = v) over data -/
theorem ev_callK1 {gV : List V → List V → List V} {f : List PyData → Option PyData} {e : PyData} (hg : ∀ x, gV [] [x] = [x]) (h : EvD K te σ F d) (hf : f [d] = some e) : EvD K (tCallK (spD K f) gV E tNil (tCons te tNil)) σ F e := fun H s Q q =>
  h H s _ fun x F1 H1 g1 r1 => by
    show spD K f (gV [] [x]) H1 Q E
    rw [hg]
    exact ⟨F1, [d], e, g1.i, .cons r1 .nil, hf, fun v F2 H2 g2 r2 => q v F2 H2 (g1.trans g2) r2⟩
/-- x is not y, both True or False -/
theorem eb_notB {a b : Bool} (h : EvD K te σ F (.bool a)) : EvB (tTest (tOp rNotB te (tC (.bl b)))) σ F (!decide (a = b)) := eb_test (K := K) (ev_op h (ev_bl (x := b)) rv_notB)
end
end Sx
set_option Elab.async false
set_option linter.all false
set_option maxRecDepth 100000
set_option maxHeartbeats 2000000
/-! Y24: all([..]), [1 for ..] == [], text.index(sign), sep.join(list), signs in a text; without program text. -/
namespace Sx
open PySem PySem.Spec PyProof.Rows L2 LamX
open C8 (Cal pe_c pe_gc)
section
variable {K : PySem.W.Frag} {σ : L2.St} {F : Hp} {te tb to : TE} {tt : TT} {g : TG} {wi : TI} {vs : List Nat} {ds : List PyData}
theorem ev_allP (b : PyData → Bool) (hw : EvW K wi σ F ds) (hl : ds.length < sizeLine)
    (hT : ∀ d F', d ∈ ds → Same F F' → Tk K g d (wipe σ vs) F' fun σ2 => wipe σ2 vs = wipe σ vs ∧ EvD K te σ2 F' (.bool (b d))) :
    EvD K (tCB (rAll K) (tCons (tLc wi g tYes te vs) tNil)) σ F (.bool (ds.all b)) := by
  have q1 := ev_lc (K := K) (tt := tYes) (fun _ => true) (fun d => .bool (b d)) hw hl fun d F' hd sF => (hT d F' hd sF).imp fun σ2 h => ⟨h.1, eb_yes, fun _ => h.2⟩
  rw [made_map, map_bools] at q1
  exact (ev1 q1 rc_all).is (congrArg PyData.bool (all_bools _ _))
theorem none_is (b : PyData → Bool) (e : PyData → PyData) (ds : List PyData) : (made (fun d => !b d) e ds).isEmpty = ds.all b := by
  rw [Bool.eq_iff_iff, List.isEmpty_iff, List.all_eq_true]
  unfold made
  rw [List.map_eq_nil_iff, List.filter_eq_nil_iff]
  refine forall_congr' fun d => imp_congr_right fun _ => ?_
  cases b d <;> simp
theorem ev_lc1 (b : PyData → Bool) (hw : EvW K wi σ F ds) (hl : ds.length < sizeLine)
    (hT : ∀ d F', d ∈ ds → Same F F' → Tk K g d (wipe σ vs) F' fun σ2 => wipe σ2 vs = wipe σ vs ∧ EvB tt σ2 F' (!b d)) :
    EvD K (tLc wi g tt (tC (.int 1)) vs) σ F (.list (made (fun d => !b d) (fun _ => .int 1) ds)) := ev_lc (K := K) (fun d => !b d) (fun _ => .int 1) hw hl fun d F' hd sF => (hT d F' hd sF).imp fun σ2 h => ⟨h.1, h.2, fun _ => ev_int⟩
/-- [1 for x in xs if not ..] != [] -/
theorem ev_noneN (b : PyData → Bool) (hw : EvW K wi σ F ds) (hl : ds.length < sizeLine)
    (hT : ∀ d F', d ∈ ds → Same F F' → Tk K g d (wipe σ vs) F' fun σ2 => wipe σ2 vs = wipe σ vs ∧ EvB tt σ2 F' (!b d)) :
    EvD K (tOp (rNeEL K) (tLc wi g tt (tC (.int 1)) vs) (tLst tNil)) σ F (.bool (!ds.all b)) :=
  (ev_op (ev_lc1 b hw hl hT) (ev_lst ea_nil (Nat.zero_le _)) rv_neEL).is (congrArg (fun x => PyData.bool (!x)) (none_is b _ ds))
theorem ev_noneE (b : PyData → Bool) (hw : EvW K wi σ F ds) (hl : ds.length < sizeLine)
    (hT : ∀ d F', d ∈ ds → Same F F' → Tk K g d (wipe σ vs) F' fun σ2 => wipe σ2 vs = wipe σ vs ∧ EvB tt σ2 F' (!b d)) :
    EvD K (tOp (rEqEL K) (tLc wi g tt (tC (.int 1)) vs) (tLst tNil)) σ F (.bool (ds.all b)) :=
  (ev_op (ev_lc1 b hw hl hT) (ev_lst ea_nil (Nat.zero_le _)) rv_eqEL).is (congrArg PyData.bool (none_is b _ ds))
/-! signs -/
abbrev rNotSign : R2 := fun x y H Q => ∃ (c : Nat) (z : Str), x = .str ⟨#[c]⟩ ∧ y = .str z ∧ Q (.bl (!decide (c ∈ z.cps.toList))) H
theorem rv_notSign {c : Nat} {z : Str} : RvD K rNotSign (.str ⟨#[c]⟩) (.str z) (.bool (!decide (c ∈ z.cps.toList))) := fun F x y H s a b Q q => by
  cases a
  cases b
  exact ⟨c, z, rfl, rfl, q _ F H (.start s) (.bl _)⟩
def abcS : Str := "abc"
def isAbc : PyData → Bool
  | .str y => decide (y.cps.toList.headD 0 ∈ abcS.cps.toList)
  | _ => false
def isText : PyData → Bool
  | .str z => (signs z).all isAbc
  | _ => false
theorem sign_is {z : Str} {d : PyData} (h : d ∈ signs z) : ∃ c, c ∈ z.cps.toList ∧ d = .str ⟨#[c]⟩ := by
  unfold signs at h
  obtain ⟨c, hc, rfl⟩ := List.mem_map.mp h
  exact ⟨c, hc, rfl⟩
theorem signs_len (z : Str) : (signs z).length = z.length := by
  unfold signs
  rw [List.length_map, Array.length_toList]
  rfl
theorem ev_inAbc {c : Nat} (h : EvD K te σ F (.str ⟨#[c]⟩)) : EvD K (tOp rSign te (tC (.str "abc"))) σ F (.bool (isAbc (.str ⟨#[c]⟩))) := ev_op h (ev_str (x := abcS)) rv_sign
theorem ev_notAbc {c : Nat} (h : EvD K te σ F (.str ⟨#[c]⟩)) : EvD K (tOp rNotSign te (tC (.str "abc"))) σ F (.bool (!isAbc (.str ⟨#[c]⟩))) := ev_op h (ev_str (x := abcS)) rv_notSign
/-- the place of a sign of 'abc' -/
def idxD : PyData → Nat
  | .str y => y.cps.toList.headD 0 - 97
  | _ => 0
theorem abc_cases {c : Nat} (h : isAbc (.str ⟨#[c]⟩) = true) : c = 97 ∨ c = 98 ∨ c = 99 := by
  have h' : c ∈ abcS.cps.toList := of_decide_eq_true h
  have e : abcS.cps.toList = [97, 98, 99] := by decide +kernel
  rw [e] at h'
  simpa using h'
theorem idx_lt {d : PyData} (h : isAbc d = true) : idxD d < 3 := by
  cases d with
  | str y =>
    have h' : y.cps.toList.headD 0 ∈ abcS.cps.toList := of_decide_eq_true h
    have e : abcS.cps.toList = [97, 98, 99] := by decide +kernel
    rw [e] at h'
    simp at h'
    show y.cps.toList.headD 0 - 97 < 3
    simp
    omega
  | _ => cases h
abbrev rIdx : V → List V → Hp → VK → Prop := fun x xs H Q => ∃ a b i rest, x = .str a ∧ xs = [.str b] ∧ Builtin.Str.occurrences a b 0 a.length 1 = i :: rest ∧ Q (.int (i : Nat)) H
theorem pe_idx {X : Cx} {o e : Expr} {to te : TE} {apos pos : Pos} (ho : PE X o to) (he : PE X e te) (hs : starEach [e] X.env = [(false, eval e X.env)] := by rfl) (hbase : attributeBase o "index" X.env (eval o X.env) = eval o X.env := by rfl) (hline : (apos.endLine == pos.line) = true := by rfl) :
    PE X (.Call (.Attribute o "index" apos) [e] [] pos) (tM1 rIdx to te) := pe_m1 PySem.F.slot_str_index PySem.F.type_str_index mt_sindex ho he hs hbase hline
theorem occ_abc {c : Nat} (h : isAbc (.str ⟨#[c]⟩) = true) : Builtin.Str.occurrences abcS ⟨#[c]⟩ 0 abcS.length 1 = [c - 97] := by
  rcases abc_cases h with rfl | rfl | rfl <;> decide +kernel
theorem ev_idx {d : PyData} {z : Str} (h : EvD K te σ F d) (hd : d ∈ signs z) (hc : isAbc d = true) : EvD K (tM1 rIdx (tC (.str "abc")) te) σ F (.int (idxD d : Nat)) := fun H s Q q => by
  obtain ⟨c, _, rfl⟩ := sign_is hd
  refine ⟨⟨_, rfl⟩, h H s _ fun v F1 H1 g1 r => ?_⟩
  cases r
  exact ⟨abcS, ⟨#[c]⟩, c - 97, [], rfl, rfl, occ_abc hc, q _ F1 H1 g1 (.int _)⟩
/-! is None -/
def isNone' : PyData → Bool
  | .none => true
  | _ => false
abbrev rIsN : R2 := fun x y H Q => y = .non ∧ Q (.bl (decide (x = .non))) H
abbrev rNotN : R2 := fun x y H Q => y = .non ∧ Q (.bl (!decide (x = .non))) H
theorem none_v {v : V} {d : PyData} (r : Dq K F v d) : decide (v = .non) = isNone' d := by
  cases r <;> rfl
theorem ev_isN {d : PyData} (h : EvD K te σ F d) : EvD K (tOp rIsN te (tC .non)) σ F (.bool (isNone' d)) := fun H s Q q => h H s _ fun v F1 H1 g r => ⟨rfl, by rw [none_v r]; exact q _ F1 H1 g (.bl _)⟩
theorem ev_notN {d : PyData} (h : EvD K te σ F d) : EvD K (tOp rNotN te (tC .non)) σ F (.bool (!isNone' d)) := fun H s Q q => h H s _ fun v F1 H1 g r => ⟨rfl, by rw [none_v r]; exact q _ F1 H1 g (.bl _)⟩
/-! joined texts -/
abbrev rJoin (K : PySem.W.Frag) : V → List V → Hp → VK → Prop := fun x xs H Q => ∃ a p, ∃ ys : List Str, x = .str a ∧ xs = [.ref p] ∧ (SqL K H p (ys.map V.str) ∨ SqT K H p (ys.map V.str)) ∧
      (ys.map (·.length)).sum + ys.length * a.length ≤ 16777216 ∧ Q (.str (Txt.join a ys)) H
/-- texts one behind the other -/
def catS : List Str → Str
  | [] => Str.empty
  | x :: r => x ++ catS r
theorem str_eq {x y : Str} (h : TL.tl x = TL.tl y) : x = y := by
  cases x
  cases y
  exact congrArg Str.mk (Array.toList_inj.mp h)
theorem cat_nil (x : Str) : x ++ (Str.empty : Str) = x := str_eq (by rw [TL.tl_append]; exact List.append_nil _)
theorem nil_cat (x : Str) : (Str.empty : Str) ++ x = x := str_eq (by rw [TL.tl_append]; rfl)
theorem cat_assoc (x y z : Str) : x ++ y ++ z = x ++ (y ++ z) := str_eq (by rw [TL.tl_append, TL.tl_append, TL.tl_append, TL.tl_append, List.append_assoc])
theorem join_cat : ∀ ys : List Str, Txt.join Str.empty ys = catS ys
  | [] => rfl
  | [x] => (cat_nil x).symm
  | x :: y :: r => by
    rw [TL.join_eq]
    show x ++ Str.empty ++ Str.join Str.empty (y :: r) = x ++ catS (y :: r)
    rw [cat_nil, ← join_cat (y :: r), TL.join_eq]
theorem cat_snoc : ∀ (ys : List Str) (z : Str), catS (ys ++ [z]) = catS ys ++ z
  | [], z => by
    show z ++ Str.empty = Str.empty ++ z
    rw [cat_nil, nil_cat]
  | x :: r, z => by
    show x ++ catS (r ++ [z]) = x ++ catS r ++ z
    rw [cat_snoc r z, cat_assoc]
theorem cat_len (x y : Str) : (x ++ y).length = x.length + y.length := by
  have h : (TL.tl (x ++ y)).length = (TL.tl x).length + (TL.tl y).length := by rw [TL.tl_append, List.length_append]
  exact h
theorem ev_join {ys : List Str} (h : EvD K te σ F (.list (ys.map .str))) (hs : (ys.map (·.length)).sum ≤ 16777216) : EvD K (tM1 (rJoin K) (tC (.str "")) te) σ F (.str (catS ys)) := fun H s Q q => by
  refine ⟨⟨_, rfl⟩, h H s _ fun v F1 H1 g1 r => ?_⟩
  cases r with
  | lst a b =>
    refine ⟨Str.empty, _, ys, rfl, rfl, .inl (by have e := dps_str b; rw [e] at a; exact g1.i.seq a), ?_, ?_⟩
    · show _ + ys.length * 0 ≤ _
      omega
    · rw [join_cat]
      exact q _ F1 H1 g1 (.str _)
end
end Sx
set_option Elab.async false
set_option linter.all false
set_option maxRecDepth 100000
set_option maxHeartbeats 2000000
namespace Sx
open PySem PySem.Spec PyProof.Rows L2
open C8 (Cal pe_c pe_gc)
structure CsW (mg : Str → Option Value) : Prop where
  c_LETTERS : ∃ u, mg "LETTERS" = some u ∧ RelV (.str "abc") u
  c_MOST_ROWS : ∃ u, mg "MOST_ROWS" = some u ∧ RelV (.int 8) u
theorem fits_len {xs : List PyData} (h : fitsA (.tuple xs) = true) : xs.length < sizeLine := (fits_tup h).1
theorem fits_str {z : Str} (h : fitsA (.str z) = true) : z.length < sizeLine := by
  rw [fitsA_iff] at h
  simp only [weight] at h
  have : sizeLine ≥ 1000000 := by rw [sizeLine_eq]; decide
  omega
theorem abc_small : (Str.ofString "abc").length ≤ sizeLine := by
  have h : (Str.ofString "abc").length ≤ 1000000 := by decide
  exact Nat.le_trans h (by rw [sizeLine_eq]; decide)
section
variable {P : Program} {w : World} {K : PySem.W.Frag} {mg : Str → Option Value} {base : Heap} {f : Addr} {fd : FuncData}
theorem g_row (d : PyData) (n : Int) : g_is_row d (.int n) = some (.bool (isRow d n)) := rfl
theorem row_is {d : PyData} {n : Int} (h : isRow d n = true) : ∃ xs, d = .tuple xs ∧ (xs.length : Int) = n := by
  cases d with
  | tuple xs => exact ⟨xs, rfl, of_decide_eq_true h⟩
  | _ => cases h
/-! ### is_text -/
abbrev s_is_text : Stmt := top 14
theorem sc_is_text : FnScope ["thing", "letter"] ["thing"] (defScope s_is_text) := ⟨rfl, rfl, rfl, by decide +kernel, rfl, by decide +kernel, by decide +kernel⟩
def g_is_text (d : PyData) : Option PyData := if fitsA d then some (.bool (isText d)) else none
abbrev p_is_text (K : PySem.W.Frag) : Sp := spD K (f1 g_is_text)
theorem ok_is_text (F : Fun K "is_text" "is_text" s_is_text f fd) (B : BI mg) : FnOk P w K mg base CX0 1 f fd ["thing"] (p_is_text K) := by
  refine F.ok sc_is_text (fun vs H Q E h => len_f1 h) (fun cdv A outer s H vs Q E hr h => go1 h fun F0 a x d sm ra e ev q => ?_)
  subst ev
  have e' : (if fitsA a then some (PyData.bool (isText a)) else none) = some d := e
  split at e'
  case isFalse => cases e'
  rename_i hz
  cases e'
  refine ⟨_, (pss_one (ps_ret (pe_and (pe_callB (r := rIsi K) (call_isi) (by rfl) B.isinstance (by decide +kernel) (pa_cons (pv 0) (pa_cons (pe_bltn (v := .ty "str") (by rfl) B.str_ (by decide +kernel) rfl) pa_nil))) (pe_one (pe_callB (r := rAll K) (cr_all rfl) (by rfl) B.all (by decide +kernel) (pa_cons (pe_lc (own := [("letter", 1)]) (g := (gName 1)) rfl sc_is_text.nd (pi_str (pv 0)) (blkOk_by (own := [("letter", 1)]) (N := ["thing", "letter"]) (sc := defScope s_is_text) (by decide +kernel)) (fun _ _ _ _ _ => (pg_name (i := 1) sc_is_text.nd rfl (Or.inl rfl) (hf := (Or.inr rfl)))) (fun _ _ _ _ _ => pts_nil) (fun _ _ _ _ _ => (pe_cmpR (op_in_sign) (pv 1) pe_str (by rfl)))) pa_nil)))))), ?_⟩
  have s0 : Slot K (start ["thing", "letter"] [x]) F0 0 a := ⟨x, rfl, ra⟩
  refine (r_ret ?_ : Ret K _ _ F0 _) H sm _ q
  have hw := ev_isi (ev_var s0) (kit_str a)
  cases a with
  | str z =>
    refine (ev_and hw fun _ => ev_allP (K := K) isAbc (ew_str (ev_var s0)) (by rw [signs_len]; exact fits_str hz) fun d F' hd sF => ?_).is rfl
    obtain ⟨c, _, rfl⟩ := sign_is hd
    refine tk_name.imp fun σ2 hσ => ?_
    obtain ⟨v, rfl, rv⟩ := hσ
    exact ⟨rfl, ev_inAbc (ev_var ⟨v, rfl, rv⟩)⟩
  | _ => exact (ev_and (c := false) hw fun z => nomatch z).is rfl
/-! ### _is_row_below -/
abbrev s__is_row_below : Stmt := top 18
theorem sc__is_row_below : FnScope ["thing", "many", "goal"] ["thing", "many"] (defScope s__is_row_below) := ⟨rfl, rfl, rfl, by decide +kernel, rfl, by decide +kernel, by decide +kernel⟩
def isRowBelow (d : PyData) (n : Int) : Bool := match d with
  | .tuple xs => decide ((xs.length : Int) = 3) && xs.all (fun x => isBetween x 0 (n - 1))
  | _ => false
def g__is_row_below (d n : PyData) : Option PyData := match n with
  | .int n => if fitsA d then some (.bool (isRowBelow d n)) else none
  | _ => none
abbrev p__is_row_below (K : PySem.W.Frag) : Sp := spD K (f2 g__is_row_below)
theorem ok__is_row_below (F : Fun K "_is_row_below" "_is_row_below" s__is_row_below f fd) (B : BI mg) (T : CsW mg) (c_is_row : Cal P w K mg base 1 "is_row" (p_is_row K) []) (c_is_between : Cal P w K mg base 2 "is_between" (p_is_between K) []) : FnOk P w K mg base CX0 3 f fd ["thing", "many"] (p__is_row_below K) := by
  refine F.ok sc__is_row_below (fun vs H Q E h => len_f2 h) (fun cdv A outer s H vs Q E hr h => go2 h fun F0 a b x y d sm ra rb e ev q => ?_)
  subst ev
  match b, e with
  | .int n, e =>
    have e' : (if fitsA a then some (PyData.bool (isRowBelow a n)) else none) = some d := e
    split at e'
    case isFalse => cases e'
    rename_i hz
    cases e'
    refine ⟨_, (pss_one (ps_ret (pe_and (pe_c c_is_row hr (by first | decide | omega) (by rfl) (pa_cons (pv 0) (pa_cons (pe_callB (r := rLen0 K) (call_len) (by rfl) B.len (by decide +kernel) (pa_cons (pe_gc (by rfl) T.c_LETTERS) pa_nil)) pa_nil))) (pe_one (pe_callB (r := rAll K) (cr_all rfl) (by rfl) B.all (by decide +kernel) (pa_cons (pe_lc (own := [("goal", 2)]) (g := (gName 2)) rfl sc__is_row_below.nd (pi_tup (pv 0)) (blkOk_by (own := [("goal", 2)]) (N := ["thing", "many", "goal"]) (sc := defScope s__is_row_below) (by decide +kernel)) (fun _ _ _ _ _ => (pg_name (i := 2) sc__is_row_below.nd rfl (Or.inl rfl) (hf := (Or.inr rfl)))) (fun _ _ _ _ _ => pts_nil) (fun _ _ _ _ _ => (pe_c c_is_between hr (by first | decide | omega) (by rfl) (pa_cons (pv 2) (pa_cons pe_int (pa_cons (pe_op (op_sub) (pv 1) pe_int) pa_nil)))))) pa_nil)))))), ?_⟩
    have s0 : Slot K (start ["thing", "many", "goal"] [x, y]) F0 0 a := ⟨x, rfl, ra⟩
    refine (r_ret ?_ : Ret K _ _ F0 _) H sm _ q
    have hw := ev_call (K := K) (f := f2 g_is_row) (E := C8.E0) (ea_cons (ev_var s0) (ea_cons (ev1 (ev_str (x := "abc")) (rc_lenS abc_small)) ea_nil)) (g_row a 3)
    cases a with
    | tuple xs =>
      refine (ev_and hw fun _ => ev_allP (K := K) (fun x => isBetween x 0 (n - 1)) (ew_tup (ev_var s0)) (fits_len hz) fun d F' hd sF => ?_).is rfl
      refine tk_name.imp fun σ2 hσ => ?_
      obtain ⟨v, rfl, rv⟩ := hσ
      exact ⟨rfl, ev_call (ea_cons (ev_var ⟨v, rfl, rv⟩) (ea_cons ev_int (ea_cons (ev_op (ev_var ⟨y, rfl, rb.up sF⟩) ev_int rv_int) ea_nil))) rfl⟩
    | _ => exact (ev_and (c := false) hw fun z => nomatch z).is rfl
/-! ### is_words -/
abbrev s_is_words : Stmt := top 17
theorem sc_is_words : FnScope ["thing", "rows", "takes", "row"] ["thing"] (defScope s_is_words) := ⟨rfl, rfl, rfl, by decide +kernel, rfl, by decide +kernel, by decide +kernel⟩
def isWords (d : PyData) : Bool := match d with
  | .tuple [a, .tuple rs, t] => isWord a "words" && ((decide (1 ≤ (rs.length : Int)) && decide ((rs.length : Int) ≤ 8)) && (rs.all (fun r => isRowBelow r (rs.length : Int)) && isRisingBelow t (rs.length : Int)))
  | _ => false
def g_is_words (d : PyData) : Option PyData := if fitsA d then some (.bool (isWords d)) else none
abbrev p_is_words (K : PySem.W.Frag) : Sp := spD K (f1 g_is_words)
theorem tri {xs : List PyData} (h : xs.length = 3) : ∃ a b c, xs = [a, b, c] := by
  match xs, h with
  | [a, b, c], _ => exact ⟨a, b, c, rfl⟩
theorem words_tup {a r t : PyData} (h : isTup r = false) : isWords (.tuple [a, r, t]) = false := by
  cases r <;> first | rfl | cases h
theorem ok_is_words (F : Fun K "is_words" "is_words" s_is_words f fd) (B : BI mg) (T : CsW mg) (c_is_row : Cal P w K mg base 1 "is_row" (p_is_row K) []) (c_is_word : Cal P w K mg base 1 "is_word" (p_is_word K) [])
    (c__is_row_below : Cal P w K mg base 3 "_is_row_below" (p__is_row_below K) []) (c_is_rising_below : Cal P w K mg base 3 "is_rising_below" (p_is_rising_below K) []) :
    FnOk P w K mg base CX0 4 f fd ["thing"] (p_is_words K) := by
  refine F.ok sc_is_words (fun vs H Q E h => len_f1 h) (fun cdv A outer s H vs Q E hr h => go1 h fun F0 a x d sm ra e ev q => ?_)
  subst ev
  have e' : (if fitsA a then some (PyData.bool (isWords a)) else none) = some d := e
  split at e'
  case isFalse => cases e'
  rename_i hf
  cases e'
  refine ⟨_, (pss_cons (ps_if (PW.pt (pw_or (pt_not (pt_val (pe_c c_is_row hr (by first | decide | omega) (by rfl) (pa_cons (pv 0) (pa_cons pe_int pa_nil))))) (pw_or1 (pt_not (pt_val (pe_c c_is_word hr (by first | decide | omega) (by rfl) (pa_cons (pe_ix (r := rIxT K) ix_tup (pv 0) pe_int (fun _ _ => rfl)) (pa_cons pe_str pa_nil)))))))) (pss_one (ps_ret pe_bl)) pss_nil)
        (pss_cons (ps_asg (pe_slice (r := rSlA K) sl_tupA (pv 0) (po_some pe_int) po_none) (pg_tup rfl (pgs_cons (pg_name (i := 1) sc_is_words.nd rfl (Or.inr rfl) (hf := (Or.inl rfl))) (pgs_cons (pg_name (i := 2) sc_is_words.nd rfl (Or.inl rfl) (hf := (Or.inr rfl))) pgs_nil))))
        (pss_cons (ps_if (PW.pt (pw_or (pt_not (pt_val (pe_callB (r := rIsi K) (call_isi) (by rfl) B.isinstance (by decide +kernel) (pa_cons (pv 1) (pa_cons (pe_bltn (v := .ty "tuple") (by rfl) B.tuple (by decide +kernel) rfl) pa_nil))))) (pw_or1 (pt_not (pt_chain (op_le) (op_le) pe_int (pe_callB (r := rLen0 K) (call_len) (by rfl) B.len (by decide +kernel) (pa_cons (pv 1) pa_nil)) (pe_gc (by rfl) T.c_MOST_ROWS)))))) (pss_one (ps_ret pe_bl)) pss_nil)
        (pss_one (ps_ret (pe_and (pe_callB (r := rAll K) (cr_all rfl) (by rfl) B.all (by decide +kernel) (pa_cons (pe_lc (own := [("row", 3)]) (g := (gName 3)) rfl sc_is_words.nd (pi_tup (pv 1)) (blkOk_by (own := [("row", 3)]) (N := ["thing", "rows", "takes", "row"]) (sc := defScope s_is_words) (by decide +kernel)) (fun _ _ _ _ _ => (pg_name (i := 3) sc_is_words.nd rfl (Or.inl rfl) (hf := (Or.inr rfl)))) (fun _ _ _ _ _ => pts_nil) (fun _ _ _ _ _ => (pe_c c__is_row_below hr (by first | decide | omega) (by rfl) (pa_cons (pv 3) (pa_cons (pe_callB (r := rLen0 K) (call_len) (by rfl) B.len (by decide +kernel) (pa_cons (pv 1) pa_nil)) pa_nil))))) pa_nil)) (pe_one (pe_c c_is_rising_below hr (by first | decide | omega) (by rfl) (pa_cons (pv 2) (pa_cons (pe_callB (r := rLen0 K) (call_len) (by rfl) B.len (by decide +kernel) (pa_cons (pv 1) pa_nil)) pa_nil)))))))))), ?_⟩
  have s0 : Slot K (start ["thing", "rows", "takes", "row"] [x]) F0 0 a := ⟨x, rfl, ra⟩
  have hw1 := eb_val (ev_call (K := K) (f := f2 g_is_row) (E := C8.E0) (ea_cons (ev_var s0) (ea_cons (ev_int (i := 3)) ea_nil)) (g_row a 3))
  refine (?_ : Ret K _ _ F0 _) H sm _ q
  by_cases h5 : isRow a 3 = true
  case neg =>
    have h5' : isRow a 3 = false := Bool.eq_false_iff.mpr h5
    rw [h5'] at hw1
    have ea : isWords a = false := by
      unfold isWords
      split
      · exact absurd h5' (by intro z; cases z)
      · rfl
    rw [ea]
    exact r_when (eb_or (c := false) (eb_not hw1) fun z => nomatch z) (fun _ => r_ret ev_bl) fun z => nomatch z
  rw [h5] at hw1
  obtain ⟨a0, r, t, rfl⟩ : ∃ a0 r t, a = .tuple [a0, r, t] := by
    obtain ⟨ys, rfl, hl⟩ := row_is h5
    obtain ⟨a0, r, t, rfl⟩ := tri (show ys.length = 3 by omega)
    exact ⟨a0, r, t, rfl⟩
  have fa := (fits_tup hf).2
  have hw2 := eb_val (ev_call (K := K) (f := f2 g_is_word) (E := C8.E0) (ea_cons (ev_op (ev_var s0) ev_int (rv_ixT (k := 0) rfl)) (ea_cons (ev_str (x := "words")) ea_nil)) (show _ = some (PyData.bool (isWord a0 "words")) from rfl))
  refine r_when (eb_or (eb_not hw1) fun _ => eb_not hw2) (fun h => ?_) fun h => ?_
  · have h' : isWord a0 "words" = false := by
      have z : (false || !isWord a0 "words") = true := h
      rw [Bool.false_or, Bool.not_eq_true'] at z
      exact z
    have e0 : isWords (.tuple [a0, r, t]) = false := by
      cases r with
      | tuple rs =>
        show (isWord a0 "words" && _) = false
        rw [h', Bool.false_and]
      | _ => rfl
    rw [e0]
    exact r_ret ev_bl
  have hword : isWord a0 "words" = true := by
    have z : (false || !isWord a0 "words") = false := h
    rw [Bool.false_or, Bool.not_eq_false'] at z
    exact z
  have hs : EvD K (tSl (rSlA K) (tVar 0) (tPart (tC (.int 1))) tNoPart) (start ["thing", "rows", "takes", "row"] [x]) F0 (.tuple [r, t]) := ev_sl (ev_var s0) (eo_some ev_int) eo_none (rs_tup (lo := some 1) (hi := none))
  refine r_asg hs (fun F' _ => tk_two) fun σ2 F1 g1 hσ => ?_
  obtain ⟨v1, v2, rfl, r1, r2⟩ := hσ
  have e1 : EvD K (tVar 1) [some x, some v1, some v2, none] F1 r := ev_var ⟨v1, rfl, r1⟩
  have e2 : EvD K (tVar 2) [some x, some v1, some v2, none] F1 t := ev_var ⟨v2, rfl, r2⟩
  have t1 := eb_val (ev_isi e1 (kit_tup r))
  by_cases ht : isTup r = true
  case neg =>
    have ht' : isTup r = false := Bool.eq_false_iff.mpr ht
    rw [ht'] at t1
    rw [words_tup ht']
    exact r_when (eb_or (c := false) (eb_not t1) fun z => nomatch z) (fun _ => r_ret ev_bl) fun z => nomatch z
  rw [ht] at t1
  obtain ⟨rs, rfl⟩ : ∃ rs, r = .tuple rs := by
    cases r with
    | tuple rs => exact ⟨rs, rfl⟩
    | _ => cases ht
  have t2 := eb_test (ev_chain (K := K) ev_int (ev1 e1 rc_lenT) (rv_bl (i := 1) (g := fun i j => decide (i ≤ j))) (fun _ => ev_int) fun _ => rv_bl (j := 8) (g := fun i j => decide (i ≤ j)))
  have hform : isWords (.tuple [a0, .tuple rs, t]) = ((decide (1 ≤ (rs.length : Int)) && decide ((rs.length : Int) ≤ 8)) && (rs.all (fun r => isRowBelow r (rs.length : Int)) && isRisingBelow t (rs.length : Int))) := by
    show (isWord a0 "words" && _) = _
    rw [hword, Bool.true_and]
  rw [hform]
  refine r_when (eb_or (eb_not t1) fun _ => eb_not t2) (fun h => ?_) fun h => ?_
  · have h' : (decide (1 ≤ (rs.length : Int)) && decide ((rs.length : Int) ≤ 8)) = false := by
      have z : (false || !(decide (1 ≤ (rs.length : Int)) && decide ((rs.length : Int) ≤ 8))) = true := h
      rw [Bool.false_or, Bool.not_eq_true'] at z
      exact z
    rw [h', Bool.false_and]
    exact r_ret ev_bl
  have h' : (decide (1 ≤ (rs.length : Int)) && decide ((rs.length : Int) ≤ 8)) = true := by
    have z : (false || !(decide (1 ≤ (rs.length : Int)) && decide ((rs.length : Int) ≤ 8))) = false := h
    rw [Bool.false_or, Bool.not_eq_false'] at z
    exact z
  rw [h', Bool.true_and]
  have fr : fitsA (.tuple rs) = true := fa _ (by simp)
  refine r_ret (ev_and (ev_allP (K := K) (fun r => isRowBelow r (rs.length : Int)) (ew_tup e1) (fits_len fr) fun d F' hd sF => ?_) fun _ => ev_call (K := K) (f := f2 g_is_rising_below) (ea_cons e2 (ea_cons (ev1 e1 rc_lenT) ea_nil)) (show _ = some (PyData.bool (isRisingBelow t (rs.length : Int))) from if_pos (fits_T (fa t (by simp)))))
  refine tk_name.imp fun σ2 hσ => ?_
  obtain ⟨v, rfl, rv⟩ := hσ
  exact ⟨rfl, ev_call (f := f2 g__is_row_below) (ea_cons (ev_var ⟨v, rfl, rv⟩) (ea_cons (ev1 (ev_var ⟨v1, rfl, r1.up sF⟩) rc_lenT) ea_nil)) (if_pos ((fits_tup fr).2 d hd))⟩
end
end Sx
set_option Elab.async false
set_option linter.all false
set_option maxRecDepth 100000
set_option maxHeartbeats 2000000
namespace Sx
open PySem PySem.Spec PyProof.Rows L2
open C8 (Cal pe_c pe_gc)
structure CsP (mg : Str → Option Value) : Prop where
  c_LETTERS : ∃ u, mg "LETTERS" = some u ∧ RelV (.str "abc") u
  c_MOST_ROWS : ∃ u, mg "_MOST_ROWS" = some u ∧ RelV (.int 4) u
  c_MOST_LETTERS : ∃ u, mg "_MOST_LETTERS" = some u ∧ RelV (.int 8) u
section
variable {P : Program} {w : World} {K : PySem.W.Frag} {mg : Str → Option Value} {base : Heap} {f : Addr} {fd : FuncData}
/-! ### _is_told -/
abbrev s__is_told : Stmt := top 30
theorem sc__is_told : FnScope ["thing"] ["thing"] (defScope s__is_told) := ⟨rfl, rfl, rfl, by decide +kernel, rfl, by decide +kernel, by decide +kernel⟩
def isTold (d : PyData) : Bool := match d with
  | .str z => (signs z).all isAbc && decide ((z.length : Int) ≤ 8)
  | _ => false
def g__is_told (d : PyData) : Option PyData := if fitsA d then some (.bool (isTold d)) else none
abbrev p__is_told (K : PySem.W.Frag) : Sp := spD K (f1 g__is_told)
theorem ok__is_told (F : Fun K "_is_told" "_is_told" s__is_told f fd) (B : BI mg) (T : CsP mg) (c_is_text : Cal P w K mg base 1 "is_text" (p_is_text K) []) : FnOk P w K mg base CX0 2 f fd ["thing"] (p__is_told K) := by
  refine F.ok sc__is_told (fun vs H Q E h => len_f1 h) (fun cdv A outer s H vs Q E hr h => go1 h fun F0 a x d sm ra e ev q => ?_)
  subst ev
  have e' : (if fitsA a then some (PyData.bool (isTold a)) else none) = some d := e
  split at e'
  case isFalse => cases e'
  rename_i hz
  cases e'
  refine ⟨_, (pss_one (ps_ret (pe_and (pe_c c_is_text hr (by first | decide | omega) (by rfl) (pa_cons (pv 0) pa_nil)) (pe_one (pe_cmpR (op_le) (pe_callB (r := rLen0 K) (call_len) (by rfl) B.len (by decide +kernel) (pa_cons (pv 0) pa_nil)) (pe_gc (by rfl) T.c_MOST_LETTERS) (nomark _)))))), ?_⟩
  have s0 : Slot K (start ["thing"] [x]) F0 0 a := ⟨x, rfl, ra⟩
  refine (r_ret ?_ : Ret K _ _ F0 _) H sm _ q
  have hw := ev_call (K := K) (f := f1 g_is_text) (E := C8.E0) (ea_cons (ev_var s0) ea_nil) (show _ = some (PyData.bool (isText a)) from if_pos hz)
  cases a with
  | str z => exact (ev_and hw fun _ => ev_op (ev1 (ev_var s0) (rc_lenS (Nat.le_of_lt (fits_str hz)))) (ev_int (i := 8)) (rv_bl (g := fun i j => decide (i ≤ j)))).is rfl
  | _ => exact (ev_and (c := false) hw fun z => nomatch z).is rfl
/-! ### _is_row_of -/
abbrev s__is_row_of : Stmt := top 29
theorem sc__is_row_of : FnScope ["thing", "many", "goal", "letters", "pair"] ["thing", "many"] (defScope s__is_row_of) := ⟨rfl, rfl, rfl, by decide +kernel, rfl, by decide +kernel, by decide +kernel⟩
def isPair (n : Int) (d : PyData) : Bool := match d with
  | .tuple [g, z] => isBetween g 0 (n - 1) && isTold z
  | _ => false
def isRowOf (d : PyData) (n : Int) : Bool := match d with
  | .tuple xs => decide ((xs.length : Int) = 3) && xs.all (isPair n)
  | _ => false
def g__is_row_of (d n : PyData) : Option PyData := match n with
  | .int n => if fitsA d then some (.bool (isRowOf d n)) else none
  | _ => none
abbrev p__is_row_of (K : PySem.W.Frag) : Sp := spD K (f2 g__is_row_of)
theorem duo {xs : List PyData} (h : xs.length = 2) : ∃ a b, xs = [a, b] := by
  match xs, h with
  | [a, b], _ => exact ⟨a, b, rfl⟩
theorem pair_row {n : Int} {d : PyData} (h : isPair n d = true) : isRow d 2 = true := by
  unfold isPair at h
  split at h
  · rfl
  · cases h
theorem ok__is_row_of (F : Fun K "_is_row_of" "_is_row_of" s__is_row_of f fd) (B : BI mg) (T : CsP mg) (c_is_row : Cal P w K mg base 1 "is_row" (p_is_row K) []) (c_is_between : Cal P w K mg base 2 "is_between" (p_is_between K) []) (c__is_told : Cal P w K mg base 2 "_is_told" (p__is_told K) []) : FnOk P w K mg base CX0 3 f fd ["thing", "many"] (p__is_row_of K) := by
  refine F.ok sc__is_row_of (fun vs H Q E h => len_f2 h) (fun cdv A outer s H vs Q E hr h => go2 h fun F0 a b x y d sm ra rb e ev q => ?_)
  subst ev
  match b, e with
  | .int n, e =>
    have e' : (if fitsA a then some (PyData.bool (isRowOf a n)) else none) = some d := e
    split at e'
    case isFalse => cases e'
    rename_i hz
    cases e'
    refine ⟨_, (pss_cons (ps_if (PW.pt (pw_or (pt_not (pt_val (pe_c c_is_row hr (by first | decide | omega) (by rfl) (pa_cons (pv 0) (pa_cons (pe_callB (r := rLen0 K) (call_len) (by rfl) B.len (by decide +kernel) (pa_cons (pe_gc (by rfl) T.c_LETTERS) pa_nil)) pa_nil))))) (pw_or1 (pt_not (pt_val (pe_callB (r := rAll K) (cr_all rfl) (by rfl) B.all (by decide +kernel) (pa_cons (pe_lc (own := [("pair", 4)]) (g := (gName 4)) rfl sc__is_row_of.nd (pi_tup (pv 0)) (blkOk_by (own := [("pair", 4)]) (N := ["thing", "many", "goal", "letters", "pair"]) (sc := defScope s__is_row_of) (by decide +kernel)) (fun _ _ _ _ _ => (pg_name (i := 4) sc__is_row_of.nd rfl (Or.inl rfl) (hf := (Or.inr rfl)))) (fun _ _ _ _ _ => pts_nil) (fun _ _ _ _ _ => (pe_c c_is_row hr (by first | decide | omega) (by rfl) (pa_cons (pv 4) (pa_cons pe_int pa_nil))))) pa_nil))))))) (pss_one (ps_ret pe_bl)) pss_nil)
        (pss_one (ps_ret (pe_callB (r := rAll K) (cr_all rfl) (by rfl) B.all (by decide +kernel) (pa_cons (pe_lc (own := [("goal", 2), ("letters", 3)]) (g := (gTup K 2 (gCons (gName 2) (gCons (gName 3) gNil)))) rfl sc__is_row_of.nd (pi_tup (pv 0)) (blkOk_by (own := [("goal", 2), ("letters", 3)]) (N := ["thing", "many", "goal", "letters", "pair"]) (sc := defScope s__is_row_of) (by decide +kernel)) (fun _ _ _ _ _ => (pg_tup rfl (pgs_cons (pg_name (i := 2) sc__is_row_of.nd rfl (Or.inl rfl) (hf := (Or.inr rfl))) (pgs_cons (pg_name (i := 3) sc__is_row_of.nd rfl (Or.inl rfl) (hf := (Or.inr rfl))) pgs_nil)))) (fun _ _ _ _ _ => pts_nil) (fun _ _ _ _ _ => (pe_and (pe_c c_is_between hr (by first | decide | omega) (by rfl) (pa_cons (pv 2) (pa_cons pe_int (pa_cons (pe_op (op_sub) (pv 1) pe_int) pa_nil)))) (pe_one (pe_c c__is_told hr (by first | decide | omega) (by rfl) (pa_cons (pv 3) pa_nil)))))) pa_nil))))), ?_⟩
    have s0 : Slot K (start ["thing", "many", "goal", "letters", "pair"] [x, y]) F0 0 a := ⟨x, rfl, ra⟩
    have hw := eb_not (eb_val (ev_call (K := K) (f := f2 g_is_row) (E := C8.E0) (ea_cons (ev_var s0) (ea_cons (ev1 (ev_str (x := "abc")) (rc_lenS abc_small)) ea_nil)) (g_row a 3)))
    refine (?_ : Ret K _ _ F0 _) H sm _ q
    cases a with
    | tuple xs =>
      have fx := (fits_tup hz).2
      have hl := fits_len hz
      have e0 : isRowOf (.tuple xs) n = (decide ((xs.length : Int) = 3) && xs.all (isPair n)) := rfl
      rw [e0]
      have t2 := eb_not (eb_val (ev_allP (K := K) (te := tCall (p_is_row K) [] C8.E0 (tCons (tVar 4) (tCons (tC (.int 2)) tNil))) (g := gName 4) (vs := [4]) (fun d => isRow d 2) (ew_tup (ev_var s0)) hl fun d F' hd sF => by
        refine tk_name.imp fun σ2 hσ => ?_
        obtain ⟨v, rfl, rv⟩ := hσ
        exact ⟨rfl, ev_call (ea_cons (ev_var ⟨v, rfl, rv⟩) (ea_cons (ev_int (i := 2)) ea_nil)) (g_row d 2)⟩))
      refine r_when (eb_or hw fun _ => t2) (fun h => ?_) fun h => ?_
      · have e1 : (decide ((xs.length : Int) = 3) && xs.all (isPair n)) = false := by
          rw [Bool.eq_false_iff]
          intro z
          rw [Bool.and_eq_true] at z
          have h1 : isRow (.tuple xs) 3 = true := z.1
          have h2 : xs.all (fun d => isRow d 2) = true := List.all_eq_true.mpr fun d hd => pair_row (List.all_eq_true.mp z.2 d hd)
          rw [h1, h2] at h
          cases h
        rw [e1]
        exact r_ret ev_bl
      have h1 : isRow (.tuple xs) 3 = true := by
        cases z : isRow (.tuple xs) 3 with
        | true => rfl
        | false =>
          rw [z] at h
          cases h
      have h2 : xs.all (fun d => isRow d 2) = true := by
        rw [h1] at h
        have h' : (false || !xs.all fun d => isRow d 2) = false := h
        rw [Bool.false_or, Bool.not_eq_false'] at h'
        exact h'
      have h1' : decide ((xs.length : Int) = 3) = true := h1
      rw [h1', Bool.true_and]
      refine r_ret (ev_allP (K := K) (isPair n) (ew_tup (ev_var s0)) hl fun d F' hd sF => ?_)
      obtain ⟨ys, rfl, hy⟩ := row_is (List.all_eq_true.mp h2 d hd)
      obtain ⟨g, z, rfl⟩ := duo (show ys.length = 2 by omega)
      refine tk_two.imp fun σ2 hσ => ?_
      obtain ⟨v, u, rfl, rv, ru⟩ := hσ
      have fz : fitsA z = true := (fits_tup (fx _ hd)).2 z (by simp)
      exact ⟨rfl, (ev_and (ev_call (f := f3 g_is_between) (d := .bool (isBetween g 0 (n - 1))) (ea_cons (ev_var ⟨v, rfl, rv⟩) (ea_cons (ev_int (i := 0)) (ea_cons (ev_op (ev_var ⟨y, rfl, rb.up sF⟩) (ev_int (i := 1)) rv_int) ea_nil))) rfl) fun _ => ev_call (f := f1 g__is_told) (ea_cons (ev_var ⟨u, rfl, ru⟩) ea_nil) (if_pos fz)).is rfl⟩
    | _ => exact r_when (eb_or (c := false) hw fun z => nomatch z) (fun _ => r_ret ev_bl) fun z => nomatch z
/-! ### is_scribe -/
abbrev s_is_scribe : Stmt := top 28
theorem sc_is_scribe : FnScope ["thing", "rows", "ends", "row", "end"] ["thing"] (defScope s_is_scribe) := ⟨rfl, rfl, rfl, by decide +kernel, rfl, by decide +kernel, by decide +kernel⟩
def itemsD : PyData → List PyData
  | .tuple xs => xs
  | _ => []
def isEnd (d : PyData) : Bool := match d with
  | .none => true
  | .str z => isTold (.str z)
  | _ => false
def isScribe (d : PyData) : Bool := match d with
  | .tuple [a, .tuple rs, t] => isWord a "scribe" && (((decide (1 ≤ (rs.length : Int)) && decide ((rs.length : Int) ≤ 4)) && isRow t (rs.length : Int)) && (rs.all (fun r => isRowOf r (rs.length : Int)) && (itemsD t).all isEnd))
  | _ => false
def g_is_scribe (d : PyData) : Option PyData := if fitsA d then some (.bool (isScribe d)) else none
abbrev p_is_scribe (K : PySem.W.Frag) : Sp := spD K (f1 g_is_scribe)
theorem scribe_tup {a r t : PyData} (h : isTup r = false) : isScribe (.tuple [a, r, t]) = false := by
  cases r <;> first | rfl | cases h
theorem ok_is_scribe (F : Fun K "is_scribe" "is_scribe" s_is_scribe f fd) (B : BI mg) (T : CsP mg) (c_is_row : Cal P w K mg base 1 "is_row" (p_is_row K) []) (c_is_word : Cal P w K mg base 1 "is_word" (p_is_word K) [])
    (c__is_row_of : Cal P w K mg base 3 "_is_row_of" (p__is_row_of K) []) (c__is_told : Cal P w K mg base 2 "_is_told" (p__is_told K) []) :
    FnOk P w K mg base CX0 4 f fd ["thing"] (p_is_scribe K) := by
  refine F.ok sc_is_scribe (fun vs H Q E h => len_f1 h) (fun cdv A outer s H vs Q E hr h => go1 h fun F0 a x d sm ra e ev q => ?_)
  subst ev
  have e' : (if fitsA a then some (PyData.bool (isScribe a)) else none) = some d := e
  split at e'
  case isFalse => cases e'
  rename_i hf
  cases e'
  refine ⟨_, (pss_cons (ps_if (PW.pt (pw_or (pt_not (pt_val (pe_c c_is_row hr (by first | decide | omega) (by rfl) (pa_cons (pv 0) (pa_cons pe_int pa_nil))))) (pw_or1 (pt_not (pt_val (pe_c c_is_word hr (by first | decide | omega) (by rfl) (pa_cons (pe_ix (r := rIxT K) ix_tup (pv 0) pe_int (fun _ _ => rfl)) (pa_cons pe_str pa_nil)))))))) (pss_one (ps_ret pe_bl)) pss_nil)
        (pss_cons (ps_asg (pe_slice (r := rSlA K) sl_tupA (pv 0) (po_some pe_int) po_none) (pg_tup rfl (pgs_cons (pg_name (i := 1) sc_is_scribe.nd rfl (Or.inr rfl) (hf := (Or.inl rfl))) (pgs_cons (pg_name (i := 2) sc_is_scribe.nd rfl (Or.inl rfl) (hf := (Or.inr rfl))) pgs_nil))))
        (pss_cons (ps_if (PW.pt (pw_or (pt_not (pt_val (pe_callB (r := rIsi K) (call_isi) (by rfl) B.isinstance (by decide +kernel) (pa_cons (pv 1) (pa_cons (pe_bltn (v := .ty "tuple") (by rfl) B.tuple (by decide +kernel) rfl) pa_nil))))) (pw_or (pt_not (pt_chain (op_le) (op_le) pe_int (pe_callB (r := rLen0 K) (call_len) (by rfl) B.len (by decide +kernel) (pa_cons (pv 1) pa_nil)) (pe_gc (by rfl) T.c_MOST_ROWS))) (pw_or1 (pt_not (pt_val (pe_c c_is_row hr (by first | decide | omega) (by rfl) (pa_cons (pv 2) (pa_cons (pe_callB (r := rLen0 K) (call_len) (by rfl) B.len (by decide +kernel) (pa_cons (pv 1) pa_nil)) pa_nil))))))))) (pss_one (ps_ret pe_bl)) pss_nil)
        (pss_one (ps_ret (pe_and (pe_callB (r := rAll K) (cr_all rfl) (by rfl) B.all (by decide +kernel) (pa_cons (pe_lc (own := [("row", 3)]) (g := (gName 3)) rfl sc_is_scribe.nd (pi_tup (pv 1)) (blkOk_by (own := [("row", 3)]) (N := ["thing", "rows", "ends", "row", "end"]) (sc := defScope s_is_scribe) (by decide +kernel)) (fun _ _ _ _ _ => (pg_name (i := 3) sc_is_scribe.nd rfl (Or.inl rfl) (hf := (Or.inr rfl)))) (fun _ _ _ _ _ => pts_nil) (fun _ _ _ _ _ => (pe_c c__is_row_of hr (by first | decide | omega) (by rfl) (pa_cons (pv 3) (pa_cons (pe_callB (r := rLen0 K) (call_len) (by rfl) B.len (by decide +kernel) (pa_cons (pv 1) pa_nil)) pa_nil))))) pa_nil)) (pe_one (pe_callB (r := rAll K) (cr_all rfl) (by rfl) B.all (by decide +kernel) (pa_cons (pe_lc (own := [("end", 4)]) (g := (gName 4)) rfl sc_is_scribe.nd (pi_tup (pv 2)) (blkOk_by (own := [("end", 4)]) (N := ["thing", "rows", "ends", "row", "end"]) (sc := defScope s_is_scribe) (by decide +kernel)) (fun _ _ _ _ _ => (pg_name (i := 4) sc_is_scribe.nd rfl (Or.inl rfl) (hf := (Or.inr rfl)))) (fun _ _ _ _ _ => pts_nil) (fun _ _ _ _ _ => (pe_or (pe_cmpR (op_isN) (pv 4) pe_non (nomark _)) (pe_one (pe_c c__is_told hr (by first | decide | omega) (by rfl) (pa_cons (pv 4) pa_nil)))))) pa_nil))))))))), ?_⟩
  have s0 : Slot K (start ["thing", "rows", "ends", "row", "end"] [x]) F0 0 a := ⟨x, rfl, ra⟩
  have hw1 := eb_val (ev_call (K := K) (f := f2 g_is_row) (E := C8.E0) (ea_cons (ev_var s0) (ea_cons (ev_int (i := 3)) ea_nil)) (g_row a 3))
  refine (?_ : Ret K _ _ F0 _) H sm _ q
  by_cases h5 : isRow a 3 = true
  case neg =>
    have h5' : isRow a 3 = false := Bool.eq_false_iff.mpr h5
    rw [h5'] at hw1
    have ea : isScribe a = false := by
      unfold isScribe
      split
      · exact absurd h5' (by intro z; cases z)
      · rfl
    rw [ea]
    exact r_when (eb_or (c := false) (eb_not hw1) fun z => nomatch z) (fun _ => r_ret ev_bl) fun z => nomatch z
  rw [h5] at hw1
  obtain ⟨a0, r, t, rfl⟩ : ∃ a0 r t, a = .tuple [a0, r, t] := by
    obtain ⟨ys, rfl, hl⟩ := row_is h5
    obtain ⟨a0, r, t, rfl⟩ := tri (show ys.length = 3 by omega)
    exact ⟨a0, r, t, rfl⟩
  have fa := (fits_tup hf).2
  have hw2 := eb_val (ev_call (K := K) (f := f2 g_is_word) (E := C8.E0) (ea_cons (ev_op (ev_var s0) ev_int (rv_ixT (k := 0) rfl)) (ea_cons (ev_str (x := "scribe")) ea_nil)) (show _ = some (PyData.bool (isWord a0 "scribe")) from rfl))
  refine r_when (eb_or (eb_not hw1) fun _ => eb_not hw2) (fun h => ?_) fun h => ?_
  · have h' : isWord a0 "scribe" = false := by
      have z : (false || !isWord a0 "scribe") = true := h
      rw [Bool.false_or, Bool.not_eq_true'] at z
      exact z
    have e0 : isScribe (.tuple [a0, r, t]) = false := by
      cases r with
      | tuple rs =>
        show (isWord a0 "scribe" && _) = false
        rw [h', Bool.false_and]
      | _ => rfl
    rw [e0]
    exact r_ret ev_bl
  have hword : isWord a0 "scribe" = true := by
    have z : (false || !isWord a0 "scribe") = false := h
    rw [Bool.false_or, Bool.not_eq_false'] at z
    exact z
  have hs : EvD K (tSl (rSlA K) (tVar 0) (tPart (tC (.int 1))) tNoPart) (start ["thing", "rows", "ends", "row", "end"] [x]) F0 (.tuple [r, t]) := ev_sl (ev_var s0) (eo_some ev_int) eo_none (rs_tup (lo := some 1) (hi := none))
  refine r_asg hs (fun F' _ => tk_two) fun σ2 F1 g1 hσ => ?_
  obtain ⟨v1, v2, rfl, r1, r2⟩ := hσ
  have e1 : EvD K (tVar 1) [some x, some v1, some v2, none, none] F1 r := ev_var ⟨v1, rfl, r1⟩
  have e2 : EvD K (tVar 2) [some x, some v1, some v2, none, none] F1 t := ev_var ⟨v2, rfl, r2⟩
  have t1 := eb_val (ev_isi e1 (kit_tup r))
  by_cases ht : isTup r = true
  case neg =>
    have ht' : isTup r = false := Bool.eq_false_iff.mpr ht
    rw [ht'] at t1
    rw [scribe_tup ht']
    exact r_when (eb_or (c := false) (eb_not t1) fun z => nomatch z) (fun _ => r_ret ev_bl) fun z => nomatch z
  rw [ht] at t1
  obtain ⟨rs, rfl⟩ : ∃ rs, r = .tuple rs := by
    cases r with
    | tuple rs => exact ⟨rs, rfl⟩
    | _ => cases ht
  have t2 := eb_test (ev_chain (K := K) ev_int (ev1 e1 rc_lenT) (rv_bl (i := 1) (g := fun i j => decide (i ≤ j))) (fun _ => ev_int) fun _ => rv_bl (j := 4) (g := fun i j => decide (i ≤ j)))
  have t3 := eb_val (ev_call (K := K) (f := f2 g_is_row) (E := C8.E0) (ea_cons e2 (ea_cons (ev1 e1 rc_lenT) ea_nil)) (g_row t (rs.length : Int)))
  have hform : isScribe (.tuple [a0, .tuple rs, t]) = (((decide (1 ≤ (rs.length : Int)) && decide ((rs.length : Int) ≤ 4)) && isRow t (rs.length : Int)) && (rs.all (fun r => isRowOf r (rs.length : Int)) && (itemsD t).all isEnd)) := by
    show (isWord a0 "scribe" && _) = _
    rw [hword, Bool.true_and]
  rw [hform]
  refine r_when (eb_or (eb_not t1) fun _ => eb_or (eb_not t2) fun _ => eb_not t3) (fun h => ?_) fun h => ?_
  · have h' : ((decide (1 ≤ (rs.length : Int)) && decide ((rs.length : Int) ≤ 4)) && isRow t (rs.length : Int)) = false := by
      have z : (false || (!(decide (1 ≤ (rs.length : Int)) && decide ((rs.length : Int) ≤ 4)) || !isRow t (rs.length : Int))) = true := h
      rw [Bool.false_or, ← Bool.not_and, Bool.not_eq_true'] at z
      exact z
    rw [h', Bool.false_and]
    exact r_ret ev_bl
  have h' : ((decide (1 ≤ (rs.length : Int)) && decide ((rs.length : Int) ≤ 4)) && isRow t (rs.length : Int)) = true := by
    have z : (false || (!(decide (1 ≤ (rs.length : Int)) && decide ((rs.length : Int) ≤ 4)) || !isRow t (rs.length : Int))) = false := h
    rw [Bool.false_or, ← Bool.not_and, Bool.not_eq_false'] at z
    exact z
  rw [h', Bool.true_and]
  rw [Bool.and_eq_true] at h'
  obtain ⟨ts, rfl, hts⟩ := row_is h'.2
  have fr : fitsA (.tuple rs) = true := fa _ (by simp)
  have ft : fitsA (.tuple ts) = true := fa _ (by simp)
  refine r_ret (ev_and (ev_allP (K := K) (fun r => isRowOf r (rs.length : Int)) (ew_tup e1) (fits_len fr) fun d F' hd sF => ?_) fun _ => ev_allP (K := K) isEnd (ew_tup e2) (fits_len ft) fun d F' hd sF => ?_)
  · refine tk_name.imp fun σ2 hσ => ?_
    obtain ⟨v, rfl, rv⟩ := hσ
    exact ⟨rfl, ev_call (f := f2 g__is_row_of) (ea_cons (ev_var ⟨v, rfl, rv⟩) (ea_cons (ev1 (ev_var ⟨v1, rfl, r1.up sF⟩) rc_lenT) ea_nil)) (if_pos ((fits_tup fr).2 d hd))⟩
  · refine tk_name.imp fun σ2 hσ => ?_
    obtain ⟨v, rfl, rv⟩ := hσ
    refine ⟨rfl, ?_⟩
    have q1 := ev_call (K := K) (f := f1 g__is_told) (E := C8.E0) (ea_cons (ev_var (σ := (wipe [some x, some v1, some v2, none, none] [4]).set 4 (some v)) (i := 4) ⟨v, rfl, rv⟩) ea_nil) (show _ = some (PyData.bool (isTold d)) from if_pos ((fits_tup ft).2 d hd))
    have q0 := ev_isN (K := K) (ev_var (σ := (wipe [some x, some v1, some v2, none, none] [4]).set 4 (some v)) (i := 4) ⟨v, rfl, rv⟩)
    cases d with
    | none => exact (ev_or (c := true) q0 fun z => nomatch z).is rfl
    | _ => exact (ev_or q0 fun _ => q1).is rfl
end
end Sx
set_option Elab.async false
set_option linter.all false
set_option maxRecDepth 100000
set_option maxHeartbeats 2000000
/-! Y25: defs that may raise own errors with or without fields; isinstance of such a kept error; without program text. -/
namespace Sx
open PySem PySem.Spec PyProof.Rows L2 LamX
open C8 (Cal pe_c pe_gc)
/-- an error of the class at C may be raised now: of its fields nothing is said but that their dict is known -/
def ErrD (E : XK) (C : Addr) (H : Hp) : Prop := ∀ dd H', Same H H' → (∀ d, dd = some d → ∃ fs, H' d = some (.xd fs)) → E (.ref C) dd H'
theorem ErrD.up {E : XK} {C : Addr} {H H' : Hp} (h : ErrD E C H) (s : Same H H') : ErrD E C H' := fun dd G sG k => h dd G (s.trans sG) k
theorem ErrD.plain {E : XK} {C : Addr} {H : Hp} (h : ErrD E C H) : ∀ H', Same H H' → E (.ref C) none H' := fun H' s => h none H' s fun d e => nomatch e
def spY (K : PySem.W.Frag) (g : List PyData → Option (Except Addr PyData)) : Sp := fun vs H Q E => ∃ F ds r, Same F H ∧ DqAll K F vs ds ∧ g ds = some r ∧
  (∀ d, r = .ok d → ∀ v F' H', Grow F H F' H' → Dq K F' v d → Q v H') ∧ ∀ C, r = .error C → ErrD E C H
section
variable {K : PySem.W.Frag} {σ : L2.St} {F : Hp} {d : PyData} {te : TE}
theorem len_y1 {g : PyData → Option (Except Addr PyData)} {vs : List V} {H : Hp} {Q : VK} {E : XK} (h : spY K (x1 g) vs H Q E) : vs.length = 1 := by
  obtain ⟨F, ds, r, _, ra, e, _⟩ := h
  match ds, e with
  | [_], _ => exact ra.len
theorem len_y2 {g : PyData → PyData → Option (Except Addr PyData)} {vs : List V} {H : Hp} {Q : VK} {E : XK} (h : spY K (x2 g) vs H Q E) : vs.length = 2 := by
  obtain ⟨F, ds, r, _, ra, e, _⟩ := h
  match ds, e with
  | [_, _], _ => exact ra.len
theorem ev_callY {g : List PyData → Option (Except Addr PyData)} {E : XK} {ta : TA} {ds : List PyData} (h : EvS K ta σ F ds) (e : g ds = some (.ok d)) : EvD K (tCall (spY K g) [] E ta) σ F d := fun H s Q q =>
  h H s _ fun vs F1 H1 g1 r1 => ⟨F1, ds, _, g1.i, by rw [List.append_nil]; exact r1, e, fun d' hd v F2 H2 g2 r2 => by
    cases hd
    exact q v F2 H2 (g1.trans g2) r2, fun C hC => nomatch hC⟩
theorem call_raisesY {g : List PyData → Option (Except Addr PyData)} {E : XK} {ta : TA} {ds : List PyData} {C : Addr} {H : Hp} {Q : VK} (h : EvS K ta σ F ds) (s : Same F H) (e : g ds = some (.error C)) (k : ErrD E C H) : tCall (spY K g) [] E ta σ H Q := by
  refine h H s _ fun vs F1 H1 g1 r1 => ⟨F1, ds, _, g1.i, (by rw [List.append_nil]; exact r1), e, (fun d' hd => nomatch hd), fun C' hC => ?_⟩
  cases hC
  exact k.up g1.h
/-! isinstance of a kept error -/
def rIsX (D : Addr) : List V → Hp → VK → Prop := fun xs H Q => ∃ a dd, xs = [.ref a, .ref D] ∧ H a = some (ExT (.ref D) dd a) ∧ (∀ d, dd = some d → ∃ fs, H d = some (.xd fs)) ∧ Q (.bl true) H
theorem call_isX {X : Cx} {D : Addr} (C : ExcC X.K D) : CallR X (.builtin "isinstance") (rIsX D) := by
  intro pins s σ H xs us Q I r h
  obtain ⟨a, dd, rfl, eA, hdd, q⟩ := h
  cases dd with
  | none => exact call_isT C pins s σ H _ us Q I r ⟨a, rfl, eA, q⟩
  | some dx =>
    obtain ⟨fs, hx⟩ := hdd dx rfl
    cases r with
    | cons rx rr =>
      cases rr with
      | cons rt rr =>
        cases rr
        cases rx
        cases rt
        obtain ⟨⟨oe, vs, hget, hz, hv⟩, _⟩ := I.hok a _ eA
        obtain ⟨mA, ⟨od, es, ep, ho, _⟩, _⟩ := I.hok dx _ hx
        have J : PySem.W.InstAt s.heap a oe D (some od) := by
          obtain ⟨oc, odd, oda, osl⟩ := oe
          obtain ⟨h1, h2⟩ := hz
          dsimp only at h1 h2 hv
          subst h1 h2 hv
          exact ⟨hget, rfl, rfl, ho⟩
        have e : PySem.W.kitOne X.K (.ref D) (.ref D) = some true := if_pos (beq_self_eq_true _)
        have hcl : (PySem.W.clsIn X.K D).isSome = true := by
          obtain ⟨cd, hc, _⟩ := PySem.W.any_some C.hd
          rw [hc]
          rfl
        exact PySem.W.kia_one (PySem.W.kitx_exc (od := some od) hcl C.hg C.hk C.hs C.ha C.hn C.ht C.hm) I.kIn J e (fun z => nomatch z) fun tk => ⟨.bl true, H, I.kept (t' := tk) fun _ _ z => z, rfl, q⟩
end
end Sx
set_option Elab.async false
set_option linter.all false
set_option maxRecDepth 100000
set_option maxHeartbeats 2000000
/-! Z0: an own error whose __init__ says super().__init__(..): the base is ValueError, with own classes between. -/
namespace Sz
open PySem PySem.Spec PyProof.Rows L2
/-! ### ValueError.__init__, bound to the error, called -/
section
variable {prog : Program} {w : World} {A : Around} {E : Value → Shared → Prop} {h : Heap} {g : Array GenState} {d : Drawn} {t : Nat} {os : OsState}
variable {nm q : Str} {C N : Addr} {bs bm : List Value} {hdct : Bool} {sn : List Str} {sub : List Value} {ab : Bool} {col : Option Bool} {dd : Option Addr} {k0 k1 k2 k3 k5 : Option Value}
theorem call_bw {u e t0 : Addr} {rest : List Value} {Q : Value → Shared → Prop}
    (hC : h.get? C = some (excClassObj nm q C N bs bm hdct sn sub ab col dd k0 k1 k2 k3 k5 "ValueError.__new__")) (he : h.get? e = some (HandSPX.excO C t0)) (hu : h.get? u = some (PySem.W.kxs_mw "ValueError.__init__" e)) (hrest : rest.length ≤ sizeLine)
    (hq : ∀ h' t1, (∀ b o, b ≠ e → h.get? b = some o → h'.get? b = some o) → h'.get? e = some (HandSPX.excO C t1) → Q .none ⟨h', g, d, t, os⟩) :
    wpAny (model prog w) A (call (.ref u) rest) Q E ⟨h, g, d, t, os⟩ := by
  refine wpAny_call (codeAny_of_tree ?_)
  show wpAny _ A.in1 (callAny (.ref u) ⟨rest, []⟩) _ _ _
  simp only [callAny]
  refine wpAny_bind (wpAny_load hu ?_)
  simp only [PySem.W.kxs_mw, show (Value.type "method-wrapper" == Value.type "method" || Value.type "method-wrapper" == Value.type "builtin_function_or_method" || Value.type "method-wrapper" == Value.type "method-wrapper") = true by decide, if_true]
  refine PySem.W.KFB.if_so (by decide) ?_
  refine wpAny_bind (ESX.check_bound F.excBase_ValueError hC he rfl ?_)
  refine wpAny_bind (wpAny_pure (wpAny_pure ?_))
  refine ⟨Code.quiet_builtin _ (by decide +kernel), codeAny_builtin F.excBase_ValueError.initEntry ?_⟩
  rw [Around.under_plainId F.excBase_ValueError.init.plain _]
  wp_walk
  refine hq _ h.objs.size (fun b o hb ho => ?_) ?_
  · rw [Heap.get?_update_other _ _ (Ne.symm hb)]
    exact Heap.get?_push_of_some _ ho
  · rw [Heap.get?_update_self _ (Heap.get?_push_of_some _ he) rfl]
    rfl
end
/-! ### super().__init__(e) in the activation of the def -/
section
variable {X : Cx} {pins : List (Addr × Obj)} {σ : L2.St} {H : Hp} {s : Shared}
/-- what the written part says of the def -/
structure SupC (X : Cx) (C : Addr) (selfN : Str) : Prop where
  T : OexC X.K C
  hks : X.env.kindOf "super" = some .globalImplicit
  hkc : X.env.kindOf "__class__" = some .free
  hka : X.env.kindOf selfN = some .local
  fn : ∃ (f : Addr) (oc : Value) (od : Option Addr) (fd : FuncData) (osl : Array (Option Value)) (ar : Arg), X.env.func = some f ∧ X.K.lookup f = some ⟨oc, od, .func fd, osl⟩ ∧ (fd.params.posonlyargs ++ fd.params.args).head? = some ar ∧ ar.arg = selfN
  code : ∃ (cda : Addr) (ccl : Value) (cdd : Option Addr) (vs : Array Value) (ccs : Array (Option Value)) (file : Str) (tf : Tok), X.env.code = .ref cda ∧ X.K.lookup cda = some ⟨ccl, cdd, .fields vs, ccs⟩ ∧ vs[2]? = some (.str file tf) ∧ ((X.prog.main.file : Str) == file) = true
  cell : ∃ (cc : Addr) (cl : Value) (cld : Option Addr) (csl : Array (Option Value)), X.env.cells.lookup ("__class__" : Str) = some cc ∧ X.K.lookup cc = some ⟨cl, cld, .cell (some (.ref C)), csl⟩
  hsub : PySem.W.mroIn X.K C (.ref C) = some true
  hsuper : X.mg "super" = none
  htop : (X.prog.main.scope.names.lookup ("super" : Str)).isSome = false
  hm : PySem.W.ks_superIn X.K C C "__init__" = some (some (.builtin "ValueError.__init__"))
  ho : PySem.W.nsIn X.K PySem.cStatics "thirdparty.any" = some none
  hB : PySem.W.subIn X.K (.ref C) (.type "ValueError") = some true
theorem pin_new {u : Addr} {o : Obj} (I : Inv X pins σ H s) (hu : H u = none) (hs : s.heap.get? u = some o) (new : X.s_0.heap.get? u = none) (hl : u ≠ X.env.locals) (hd : ∀ v, o.data ≠ .cell v) : Inv X ((u, o) :: pins) σ H s :=
  I.pins_of fun p hp => by
    rcases List.mem_cons.mp hp with rfl | hp
    · refine ⟨hs, hu, hl, fun hm => ?_, hd⟩
      obtain ⟨_, o', e', _⟩ := I.ok.funs.mem hm
      rw [new] at e'
      cases e'
    · exact I.pin p (List.mem_append_right _ hp)
theorem unpin {p : Addr × Obj} (I : Inv X (p :: pins) σ H s) : Inv X pins σ H s := I.pins_of fun q hq => I.pin q (List.mem_append_right _ (List.mem_cons_of_mem _ hq))
theorem super_init {self : Str} {C a : Addr} {body : List Stmt} {e : Expr} {te : TE} {p0 p1 p2 pos : Pos} {Q : VK} (S : SupC X C self) (hex : X.ex = []) (I : Inv X pins σ H s) (hN : X.N[0]? = some self) (h0 : σ[0]? = some (some (.ref a))) (ea : H a = some (exo a C none))
    (he : PE X e te) (h : te σ H fun _ H1 => H1 a = some (exo a C none) ∧ Q .non H1)
    (hst : starEach [e] X.env = [(false, eval e X.env)] := by rfl) {pl : Sem Bool}
    (hcall : eval (.Call (.Attribute (.Call (.Name "super" p0) [] [] p1) "__init__" p2) [e] [] pos) X.env = (do
      let ov ← attributeBase (.Call (.Name "super" p0) [] [] p1) "__init__" X.env (eval (.Call (.Name "super" p0) [] [] p1) X.env)
      standAt p2.atName
      let (f, first) ← holding [ov] (getMethod ov "__init__" pl)
      callWith pos f first (backTo pos (starEach [e] X.env)) []) := by rfl) :
    PySem.wpAt (model X.prog X.w) X.A (.func body X.env) (eval (.Call (.Attribute (.Call (.Name "super" p0) [] [] p1) "__init__" p2) [e] [] pos) X.env) (EP X pins σ Q) X.xe s := by
  obtain ⟨T, hks, hkc, hka, ⟨f, oc, od, fd, osl, ar, hfu, hf, hp, har⟩, ⟨cda, ccl, cdd, vs, ccs, file, tf, hco, hcode, hvs, hfile⟩, ⟨cc, cl, cld, csl, hcells, hcell⟩, hsub, hsuper, htop, hm, ho, hB⟩ := S
  have T' := T
  obtain ⟨nm, q, N, bs, bm, sn, sub, ab, col, dd, k0, k1, k2, k3, k5, hC, hbm⟩ := T.cls
  have hcl : PySem.W.clsIn X.K C = some { name := nm, bases := bs, mro := .ref C :: bm, ns := N, qualname := q, hasDict := true, slotNames := sn, subclasses := sub, abstract := ab, collection := col, hasDel := false } := by unfold PySem.W.clsIn; rw [hC] <;> rfl
  obtain ⟨m, hns, hloc⟩ := I.loc
  obtain ⟨u0, ru, lk⟩ := hloc 0 self (.ref a) hN h0 (.inl hka)
  have ru' : u0 = Value.ref a := ru
  subst ru'
  have hmx : m self = some (.ref a) := by
    rcases lk with ⟨_, z⟩ | ⟨z, _⟩
    · exact z
    · rw [hka] at z
      rcases z with z | z <;> cases z
  obtain ⟨mb, hmb, hboot⟩ := I.mod.blt
  refine PySem.ks_wpAt_MethodCall (pl := pl) ?_ hcall
  refine PySem.ks_wpAt_super_base hks hkc rfl hfu (I.kIn _ _ hf) rfl hp hco (I.kIn _ _ hcode) rfl hvs hfile htop ?_
  refine PySem.W.ks_loadName_global I.ok.kind hks (PySem.Calls.loadGlobal_builtin (env := X.env) (mg := X.mg) (mb := mb) (by rw [I.ok.glob]; exact I.mod.glob.keeps I.bk) hsuper (by rw [I.ok.blt]; exact hmb.keeps I.bk) ((hboot _ (by decide +kernel)).trans (by rfl)) ⟨rfl, ?_⟩)
  refine wpAny_loadName_free I.ok.kind hkc hcells ⟨_, I.kIn _ _ hcell, rfl⟩ ?_
  rw [har]
  refine wpAny_loadName_local I.ok.kind hka hns hmx ?_
  obtain ⟨t1, hx⟩ := exo_at I.hok ea
  refine PySem.ks_wpAny_isType_cls (I.kIn _ _ hC) rfl ⟨rfl, ?_⟩
  obtain ⟨hh, g, d, t, os⟩ := s
  refine PySem.ks_wpAny_call_super (I.kIn _ _ hC) rfl hx rfl (fun c z => by cases z) (PySem.W.looks_mroIn I.kIn hsub) (fun h' e' k => ?_)
  have I1 : Inv X pins σ H ⟨h', g, d, t, os⟩ := I.kept (t' := t) k
  obtain ⟨t2, hx1⟩ := exo_at I1.hok ea
  have IA : PySem.W.InstAt h' a { cls := .ref C, dict := none, data := .fields #[.ref t2, .none, .none, .none, .bool false, .none] } C none := ⟨hx1, rfl, rfl, trivial⟩
  have hm' := hm
  unfold PySem.W.ks_superIn at hm'
  rw [hcl] at hm'
  refine PySem.W.kxs_getMethod PySem.W.kxs_ValueError e' (PySem.W.looks_opaque I1.kIn ho) (l₀ := .ref C :: bm) (fun A Q E s k' q' => wpAny_bind ((PySem.W.looks_clsIn I1.kIn hcl) A _ E s k' (wpAny_pure q'))) rfl I1.kIn hm' (IA.type.andThen (PySem.W.looks_subIn I1.kIn hB)) (PySem.W.ks_ne I1.kIn IA hcl) (by decide +kernel) ?_
  have I2 : Inv X pins σ H ⟨h'.push (PySem.W.kxs_mw "ValueError.__init__" a), g, d, t + 1, os⟩ := I1.kept (t' := t + 1) fun b o z => Heap.get?_push_of_some _ z
  have hnew : h'.get? h'.objs.size = none := by
    cases z : h'.get? h'.objs.size with
    | none => rfl
    | some o => exact absurd (Heap.lt_size z) (Nat.lt_irrefl _)
  have hu2 : (h'.push (PySem.W.kxs_mw "ValueError.__init__" a)).get? h'.objs.size = some (PySem.W.kxs_mw "ValueError.__init__" a) := Heap.get?_push_size _ rfl
  have n0 : X.s_0.heap.get? h'.objs.size = none := by
    cases z : X.s_0.heap.get? h'.objs.size with
    | none => rfl
    | some o =>
      obtain ⟨o', e2⟩ := I1.base.there _ o z (by rw [hex]; exact List.not_mem_nil)
      rw [hnew] at e2
      cases e2
  have nl : h'.objs.size ≠ X.env.locals := fun z => by
    obtain ⟨m2, ⟨oL, _, _, hL, _⟩, _⟩ := I1.loc
    rw [← z, hnew] at hL
    cases hL
  have I3 := pin_new I2 (I1.hok.fresh (Nat.le_refl _)) hu2 n0 nl (fun v z => by cases z)
  show wpAny _ _ (callWith pos (.ref h'.objs.size) [] (backTo pos (starEach [e] X.env)) []) _ _ _
  rw [hst]
  refine PySem.W.kxs_callWith (i := "ValueError.__init__") (x := a) rfl (PySem.Calls.evalArgs_plain ?_)
  refine Calls.spliced_cons (thn (he.run _ _ σ H _ I3 h) fun v s3 ⟨y, H1, I4, r1, ea1, q⟩ => ?_)
  refine Calls.spliced_nil ⟨(I4.pin (h'.objs.size, _) (List.mem_append_right _ List.mem_cons_self)).1, ?_⟩
  obtain ⟨t4, hx4⟩ := exo_at I4.hok ea1
  have hu4 := (I4.pin (h'.objs.size, PySem.W.kxs_mw "ValueError.__init__" a) (List.mem_append_right _ List.mem_cons_self)).1
  obtain ⟨h4, g4, d4, t4', os4⟩ := s3
  refine call_bw (I4.kIn _ _ hC) hx4 hu4 (by show 1 ≤ sizeLine; rw [sizeLine_eq]; decide) fun h5 t5 k5 hx5 => ?_
  have J := (unpin I4).write (t' := t4') (x := a) (e := a) (o := exo a C none) (by rw [ea1]; exact True.intro) (.inl rfl) k5 ⟨_, hx5⟩ (exo_ok hx5)
  have eu : upd H1 a (exo a C none) = H1 := by
    funext b
    by_cases hb : b = a
    · rw [hb, upd_same, ea1]
    · rw [upd_ne hb]
  rw [eu] at J
  exact ⟨.non, H1, J, rfl, q⟩
end
/-! ### the whole def -/
open NdefX
section
variable {CX : CXT} {P : Program} {w : World} {K : PySem.W.Frag} {mg : Str → Option Value} {base : Heap}
theorem sup_run {k : Nat} {F : NF} {f cc C a : Addr} {oc dV kV doc pm ct : Value} {od an : Option Addr} {osl : Array (Option Value)} {N ps : List Str} {self : Str} {e : Expr} {p0 p1 p2 p3 p4 : Pos} {rest : List Stmt}
    (lk : K.lookup f = some ⟨oc, od, .func (PySem.W.fnX F.name F.qual F.params F.body F.scope F.cl dV kV doc pm an (.ref F.c) ct), osl⟩) (hcd : PySem.W.codeIn K (.ref F.c) F.qual = true) (hcl : F.cl = [(("__class__" : Str), cc)])
    (hbd : F.body = .Expr (.Call (.Attribute (.Call (.Name "super" p0) [] [] p1) "__init__" p2) [e] [] p3) p4 :: rest) (S : NScope N ps ["__class__"] F.scope)
    {A : Around} {outer : List Env} {s : Shared} {H : Hp} {args : Args} {us : List Value} {vs : List V} {Q : VK} {E : XK} (hr : Room (k + 1) A) (e0 : Env0 P w K mg base A outer s H) (hb : BindsTo s (PySem.W.fnX F.name F.qual F.params F.body F.scope F.cl dV kV doc pm an (.ref F.c) ct) args (ps.zip us)) (r : Vals vs us) (hl : vs.length = ps.length)
    (hN : N[0]? = some self) (h0 : vs[0]? = some (.ref a)) (ea : H a = some (exo a C none)) (U : SupC (ncx CX P w K mg base N F f A outer s H E) C self)
    (hst : starEach [e] (envF F f s.heap.objs.size) = [(false, eval e (envF F f s.heap.objs.size))]) {pl : Sem Bool}
    (hcall : eval (.Call (.Attribute (.Call (.Name "super" p0) [] [] p1) "__init__" p2) [e] [] p3) (envF F f s.heap.objs.size) = (do
      let ov ← attributeBase (.Call (.Name "super" p0) [] [] p1) "__init__" (envF F f s.heap.objs.size) (eval (.Call (.Name "super" p0) [] [] p1) (envF F f s.heap.objs.size))
      standAt p2.atName
      let (f', first) ← holding [ov] (getMethod ov "__init__" pl)
      callWith p3 f' first (backTo p3 (starEach [e] (envF F f s.heap.objs.size))) []))
    (hi : interactive (envF F f s.heap.objs.size) = false) (hs : swapsWith (.Call (.Attribute (.Call (.Name "super" p0) [] [] p1) "__init__" p2) [e] [] p3) none p4.line (envF F f s.heap.objs.size) = pure false)
    (hbody : Room k (A.deeper (envF F f s.heap.objs.size)) → ∃ te t, PE (ncx CX P w K mg base N F f A outer s H E) e te ∧ PSs (ncx CX P w K mg base N F f A outer s H E) rest t ∧
      te (startF N vs [none]) H fun _ H1 => H1 a = some (exo a C none) ∧ t { nx := fun _ H' => Q .non H', rt := Q } (startF N vs [none]) H1) :
    codeAny (model P w) A (.call (.ref f) args) (CR CX outer P w H s Q E) s := by
  have KX : K.In s.heap := e0.mod.kin.keeps fun b o z => (e0.bs b o z).1
  have lim : s.heap.NoLimit := e0.mod.nolimit.keeps fun b o z => (e0.bs b o z).1
  obtain ⟨cc', cl', cld, csl, hcc, hcell⟩ := U.cell
  have ecc : cc' = cc := by
    have z : F.cl.lookup ("__class__" : Str) = some cc' := hcc
    rw [hcl] at z
    simpa using z.symm
  subst ecc
  have hcc2 : base.get? cc' = _ := e0.mod.kin _ _ hcell
  have hC : CellsAt F.cl ["__class__"] [none] s.heap H := by
    have look : ∀ y c, F.cl.lookup y = some c → y = ("__class__" : Str) ∧ c = cc' := fun y c z => by
      rw [hcl] at z
      by_cases hy : y = ("__class__" : Str)
      · subst hy
        exact ⟨rfl, by simpa using z.symm⟩
      · rw [List.lookup_cons] at z
        have : (y == ("__class__" : Str)) = false := by simpa using hy
        rw [this] at z
        cases z
    refine ⟨rfl, fun y c z => ?_, fun x y c z1 z2 => (look x c z1).1.trans (look y c z2).1.symm, fun i y hi => ?_⟩
    · obtain ⟨_, rfl⟩ := look y c z
      exact ⟨(e0.bs _ _ hcc2).2, _, _, (e0.bs _ _ hcc2).1, rfl⟩
    · match i, hi with
      | 0, hi =>
        cases hi
        exact ⟨cc', hcc, fun v z => by cases z⟩
  refine PySem.ks_codeAny_call_defAt (fd := PySem.W.fnX F.name F.qual F.params F.body F.scope F.cl dV kV doc pm an (.ref F.c) ct) (body := F.body) (binds := ps.zip us) hr.depth (KX _ _ lk) rfl lim (PySem.W.codeRec_of KX hcd) rfl hb S.nocell (fun ⟨n, _⟩ hy => S.par n (List.of_mem_zip hy).1) (fun h₁ hns kp => ?_) S.co S.gen S.kind
  have I : Inv (ncx CX P w K mg base N F f A outer s H E) [] (startF N vs [none]) H { s with heap := h₁, toks := s.toks + (ps.zip us).length } := inv_startN S hr.hd e0 hl r hC hns kp
  obtain ⟨te, t, he, ht, hq⟩ := hbody (hr.deeper _)
  show PySem.wpAt (model P w) (A.deeper (envF F f s.heap.objs.size)) (.func F.body (envF F f s.heap.objs.size)) (execs F.body (envF F f s.heap.objs.size)) _ _ _
  rw [hbd]
  have hσ : (startF N vs [none])[0]? = some (some (.ref a)) := by
    unfold startF
    match vs, h0 with
    | v :: vs, h0 =>
      cases h0
      rfl
  refine PySem.ks_wpAt_execs_cons (PySem.ks_wpAt_Expr_any (PySem.ks_wpAt_mono (super_init (X := ncx CX P w K mg base N F f A outer s H E) (Q := fun _ H1 => t { nx := fun _ H' => Q .non H', rt := Q } (startF N vs [none]) H1) U rfl I hN hσ ea he hq hst hcall) (fun u s' hs' => ?_) fun _ _ z => z) hi hs)
  obtain ⟨v, H1, I1, _, q⟩ := hs'
  refine PySem.wpAt_of_wpAny (wpAny_mono (ht.run [] _ _ H1 _ I1 q) (fun fl s' hs => ?_) fun e s' hs => hs)
  have fin : ∀ {σ' : L2.St} {H' : Hp} {v : V} {u : Value}, Inv (ncx CX P w K mg base N F f A outer s H E) [] σ' H' s' → L2.RelV v u → Q v H' → CE outer P w H s Q u s' :=
    fun {σ' H' v u} J rv q => ⟨v, H', J.os, J.bare, J.base, J.hok, rv, q⟩
  cases fl with
  | ret u =>
    obtain ⟨v, σ', H', J, rv, q⟩ := hs
    exact fin J rv q
  | next =>
    obtain ⟨σ', H', J, q⟩ := hs
    exact fin (v := V.non) (u := Value.none) J rfl q
  | brk =>
    obtain ⟨_, _, _, q⟩ := hs
    exact False.elim q
  | cont =>
    obtain ⟨_, _, _, q⟩ := hs
    exact False.elim q
end
end Sz
set_option Elab.async false
set_option linter.all false
set_option maxRecDepth 100000
set_option maxHeartbeats 2000000
namespace Sx
open PySem PySem.Spec PyProof.Rows L2 NdefX
open C8 (Cal pe_c pe_gc)
/-! ### BadText: its __init__ -/
def clsBody : Stmt → List Stmt
  | .ClassDef _ _ _ b _ _ _ _ _ _ _ => b
  | _ => []
abbrev s_init : Stmt := (clsBody (top 3)).getD 0 (.Pass ⟨0, 0, 0, 0⟩)
/-- what stands behind the top of the class BadText at C -/
structure InitC (P : Program) (K : PySem.W.Frag) (mg : Str → Option Value) (C fI : Addr) : Prop where
  T : OexC K C
  g : mg "BadText" = some (.ref C)
  iC : PySem.W.findIn K (.ref C) "__init__" = some (some (.ref fI))
  tI : PySem.W.typeIn K (.ref fI) = some (.type "function")
  noat : PySem.W.findIn K (.ref C) "at" = some none
  fn : ∃ (c cc : Addr) (oc kV doc pm ct : Value) (od an : Option Addr) (osl : Array (Option Value)),
    K.lookup fI = some ⟨oc, od, .func (PySem.W.fnX "__init__" "BadText.__init__" (defArgs s_init) (defBody s_init) (defScope s_init) [("__class__", cc)] .none kV doc pm an (.ref c) ct), osl⟩ ∧ PySem.W.codeIn K (.ref c) "BadText.__init__" = true ∧
    (∃ (ccl : Value) (cdd : Option Addr) (vs : Array Value) (ccs : Array (Option Value)) (file : Str) (tf : Tok), K.lookup c = some ⟨ccl, cdd, .fields vs, ccs⟩ ∧ vs[2]? = some (.str file tf) ∧ ((P.main.file : Str) == file) = true) ∧
    ∃ (cl : Value) (cld : Option Addr) (csl : Array (Option Value)), K.lookup cc = some ⟨cl, cld, .cell (some (.ref C)), csl⟩
  hsub : PySem.W.mroIn K C (.ref C) = some true
  hsuper : mg "super" = none
  htop : (P.main.scope.names.lookup ("super" : Str)).isSome = false
  hm : PySem.W.ks_superIn K C C "__init__" = some (some (.builtin "ValueError.__init__"))
  ho : PySem.W.nsIn K PySem.cStatics "thirdparty.any" = some none
  hB : PySem.W.subIn K (.ref C) (.type "ValueError") = some true
/-- the promise of BadText.__init__(self, at) -/
def spInit (C : Addr) : Sp := fun vs H Q _ => ∃ (a : Addr) (y : V), vs = [.ref a, y] ∧ H a = some (exo a C none) ∧ ∀ dx, H dx = none → dx ≠ a → Q .non (upd (upd H dx (exd dx [("at", y)])) a (exo a C (some dx)))
section
variable {P : Program} {w : World} {K : PySem.W.Frag} {mg : Str → Option Value} {base : Heap} {f : Addr} {fd : FuncData} {C fI : Addr}
theorem nsc_init : NScope ["self", "at", "__class__"] ["self", "at"] ["__class__"] (defScope s_init) := nscope_by (by decide +kernel)
theorem ok_init {CX : CXT} (U : InitC P K mg C fI) : ∃ fd, FnOk P w K mg base CX 1 fI fd ["self", "at"] (spInit C) ∧ Binds K fd ["self", "at"] [] := by
  obtain ⟨c, cc, oc, kV, doc, pm, ct, od, an, osl, lk, hcd, hcode, hcell⟩ := U.fn
  refine ⟨PySem.W.fnX "__init__" "BadText.__init__" (defArgs s_init) (defBody s_init) (defScope s_init) [("__class__", cc)] .none kV doc pm an (.ref c) ct, ⟨fun vs H Q E h => ?_, fun A outer s H args us vs Q E hr e0 hb r h => ?_⟩, .all fun us hl => ?_⟩
  · obtain ⟨a, y, rfl, _⟩ := h
    rfl
  · obtain ⟨a, y, rfl, ea, q⟩ := h
    refine Sz.sup_run (P := P) (w := w) (k := 0) (F := ⟨"__init__", "BadText.__init__", defArgs s_init, defBody s_init, defScope s_init, [("__class__", cc)], c⟩) (cc := cc) (C := C) (a := a) (self := "self") (N := ["self", "at", "__class__"]) lk hcd rfl rfl nsc_init hr e0 hb r rfl rfl rfl ea ?_ rfl rfl rfl rfl fun _ => ?_
    · obtain ⟨ccl, cdd, vs, ccs, file, tf, l1, l2, l3⟩ := hcode
      obtain ⟨cl, cld, csl, l4⟩ := hcell
      exact ⟨U.T, rfl, rfl, rfl, ⟨fI, oc, od, _, osl, _, rfl, lk, rfl, rfl⟩, ⟨c, ccl, cdd, vs, ccs, file, tf, rfl, l1, l2, l3⟩, ⟨cc, cl, cld, csl, rfl, l4⟩, U.hsub, U.hsuper, U.htop, U.hm, U.ho, U.hB⟩
    · refine ⟨_, _, pe_str, pss_one (ps_ost (pv 0) (pv 1)), ea, ?_⟩
      refine ⟨y, rfl, .ref a, rfl, a, C, rfl, U.T, U.noat, .inl ⟨ea, fun dx n ne => q dx n ne⟩⟩
  · match us, hl with
    | [_, _], _ => rfl
end
end Sx
set_option Elab.async false
set_option linter.all false
set_option maxRecDepth 100000
set_option maxHeartbeats 2000000
namespace Sx
open PySem PySem.Spec PyProof.Rows L2
open C8 (Cal pe_c pe_gc)
section
variable {P : Program} {w : World} {K : PySem.W.Frag} {mg : Str → Option Value} {base : Heap} {f : Addr} {fd : FuncData} {CW CT CP fI : Addr}
/-! ### check_words -/
abbrev s_check_words : Stmt := top 19
theorem sc_check_words : FnScope ["words"] ["words"] (defScope s_check_words) := ⟨rfl, rfl, rfl, by decide +kernel, rfl, by decide +kernel, by decide +kernel⟩
def g_check (b : PyData → Bool) (C : Addr) (d : PyData) : Option (Except Addr PyData) := if fitsA d then some (if b d then .ok .none else .error C) else none
theorem check_ok {b : PyData → Bool} {C : Addr} {d : PyData} (h : fitsA d = true) (hb : b d = true) : x1 (g_check b C) [d] = some (.ok .none) := by
  show (if fitsA d then _ else _) = _
  rw [if_pos h, hb]
  rfl
theorem check_no {b : PyData → Bool} {C : Addr} {d : PyData} (h : fitsA d = true) (hb : b d = false) : x1 (g_check b C) [d] = some (.error C) := by
  show (if fitsA d then _ else _) = _
  rw [if_pos h, hb]
  rfl
abbrev p_check_words (K : PySem.W.Frag) (C : Addr) : Sp := spY K (x1 (g_check isWords C))
theorem ok_check_words (F : Fun K "check_words" "check_words" s_check_words f fd) (c_is_words : Cal P w K mg base 4 "is_words" (p_is_words K) []) (X_BadWords : Rse K mg "BadWords" CW) : FnOk P w K mg base (L2.CX P w) 5 f fd ["words"] (p_check_words K CW) := by
  refine F.okX sc_check_words (fun vs H Q E h => len_y1 h) (fun cdv A outer s H vs Q E hr h => ?_)
  obtain ⟨F0, ds, r, sm, ra, e, q, qe⟩ := h
  match ds, ra, e with
  | [a], .cons (v := x) ra .nil, e =>
    have e' : (if fitsA a then some (if isWords a then Except.ok PyData.none else .error CW) else none) = some r := e
    split at e'
    case isFalse => cases e'
    rename_i hz
    cases e'
    refine ⟨_, (pss_one (ps_if (pt_not (pt_val (pe_c c_is_words hr (by first | decide | omega) (by rfl) (pa_cons (pv 0) pa_nil)))) (pss_one (ps_raise rfl (takes_of rfl rfl rfl rfl) (pmk_own PySem.F.excBase_ValueError X_BadWords.e X_BadWords.g X_BadWords.k (raises_own X_BadWords.b X_BadWords.t) (by exact rfl)))) pss_nil)), ?_⟩
    have s0 : Slot K (start ["words"] [x]) F0 0 a := ⟨x, rfl, ra⟩
    have hw : EvB _ _ F0 _ := eb_not (eb_val (ev_call (K := K) (f := f1 g_is_words) (E := E0) (ea_cons (ev_var s0) ea_nil) (if_pos hz)))
    refine hw H sm _ fun F1 H1 g1 => ?_
    by_cases hk : isWords a = true
    · rw [hk]
      exact q .none (by rw [if_pos hk]) .non F1 H1 g1 .non
    · have hk' : isWords a = false := Bool.eq_false_iff.mpr hk
      rw [hk']
      exact (qe CW (by rw [if_neg hk])).plain H1 g1.h
/-! ### check_scribe -/
abbrev s_check_scribe : Stmt := top 31
theorem sc_check_scribe : FnScope ["scribe"] ["scribe"] (defScope s_check_scribe) := ⟨rfl, rfl, rfl, by decide +kernel, rfl, by decide +kernel, by decide +kernel⟩
abbrev p_check_scribe (K : PySem.W.Frag) (C : Addr) : Sp := spY K (x1 (g_check isScribe C))
theorem ok_check_scribe (F : Fun K "check_scribe" "check_scribe" s_check_scribe f fd) (c_is_scribe : Cal P w K mg base 4 "is_scribe" (p_is_scribe K) []) (X_BadScribe : Rse K mg "BadScribe" CP) : FnOk P w K mg base (L2.CX P w) 5 f fd ["scribe"] (p_check_scribe K CP) := by
  refine F.okX sc_check_scribe (fun vs H Q E h => len_y1 h) (fun cdv A outer s H vs Q E hr h => ?_)
  obtain ⟨F0, ds, r, sm, ra, e, q, qe⟩ := h
  match ds, ra, e with
  | [a], .cons (v := x) ra .nil, e =>
    have e' : (if fitsA a then some (if isScribe a then Except.ok PyData.none else .error CP) else none) = some r := e
    split at e'
    case isFalse => cases e'
    rename_i hz
    cases e'
    refine ⟨_, (pss_one (ps_if (pt_not (pt_val (pe_c c_is_scribe hr (by first | decide | omega) (by rfl) (pa_cons (pv 0) pa_nil)))) (pss_one (ps_raise rfl (takes_of rfl rfl rfl rfl) (pmk_own PySem.F.excBase_ValueError X_BadScribe.e X_BadScribe.g X_BadScribe.k (raises_own X_BadScribe.b X_BadScribe.t) (by exact rfl)))) pss_nil)), ?_⟩
    have s0 : Slot K (start ["scribe"] [x]) F0 0 a := ⟨x, rfl, ra⟩
    have hw : EvB _ _ F0 _ := eb_not (eb_val (ev_call (K := K) (f := f1 g_is_scribe) (E := E0) (ea_cons (ev_var s0) ea_nil) (if_pos hz)))
    refine hw H sm _ fun F1 H1 g1 => ?_
    by_cases hk : isScribe a = true
    · rw [hk]
      exact q .none (by rw [if_pos hk]) .non F1 H1 g1 .non
    · have hk' : isScribe a = false := Bool.eq_false_iff.mpr hk
      rw [hk']
      exact (qe CP (by rw [if_neg hk])).plain H1 g1.h
/-! ### check_text -/
abbrev s_check_text : Stmt := top 20
theorem sc_check_text : FnScope ["text"] ["text"] (defScope s_check_text) := ⟨rfl, rfl, rfl, by decide +kernel, rfl, by decide +kernel, by decide +kernel⟩
abbrev p_check_text (K : PySem.W.Frag) (C : Addr) : Sp := spY K (x1 (g_check isText C))
theorem ok_check_text (F : Fun K "check_text" "check_text" s_check_text f fd) (c_is_text : Cal P w K mg base 1 "is_text" (p_is_text K) []) (U : InitC P K mg CT fI) : FnOk P w K mg base (L2.CX P w) 4 f fd ["text"] (p_check_text K CT) := by
  obtain ⟨fdI, UF, UB⟩ := ok_init (P := P) (w := w) (base := base) (CX := C8.CX0) U
  refine F.okX sc_check_text (fun vs H Q E h => len_y1 h) (fun cdv A outer s H vs Q E hr h => ?_)
  obtain ⟨F0, ds, r, sm, ra, e, q, qe⟩ := h
  match ds, ra, e with
  | [a], .cons (v := x) ra .nil, e =>
    have e' : (if fitsA a then some (if isText a then Except.ok PyData.none else .error CT) else none) = some r := e
    split at e'
    case isFalse => cases e'
    rename_i hz
    cases e'
    refine ⟨_, (pss_one (ps_if (pt_not (pt_val (pe_c c_is_text hr (by first | decide | omega) (by rfl) (pa_cons (pv 0) pa_nil)))) (pss_one (ps_raise rfl (takes_of rfl rfl rfl rfl) (pmk_oex U.T U.iC U.tI UF (hr.mono (by decide)) UB .nil C8.pass0 (by rfl) U.g (pa_cons pe_non pa_nil)))) pss_nil)), ?_⟩
    have s0 : Slot K (start ["text"] [x]) F0 0 a := ⟨x, rfl, ra⟩
    have hw : EvB _ _ F0 _ := eb_not (eb_val (ev_call (K := K) (f := f1 g_is_text) (E := E0) (ea_cons (ev_var s0) ea_nil) (if_pos hz)))
    refine hw H sm _ fun F1 H1 g1 => ?_
    by_cases hk : isText a = true
    · rw [hk]
      exact q .none (by rw [if_pos hk]) .non F1 H1 g1 .non
    · have hk' : isText a = false := Bool.eq_false_iff.mpr hk
      rw [hk']
      refine ⟨by decide, fun e0 he0 => ⟨e0, .non, rfl, upd_same, fun dx hdx hne => ⟨rfl, dx, [("at", .non)], upd_same, ?_, ?_, ?_⟩⟩⟩
      · rw [upd_ne hne, upd_same]
      · rw [upd_ne hne] at hdx
        exact hdx
      · have hd1 : H1 dx = none := by rw [upd_ne hne] at hdx; exact hdx
        refine qe CT (by rw [if_neg hk]) (some dx) _ (fun b o z => ?_) fun d hd => ?_
        · have nb : b ≠ e0 := ne_of_none (g1.h b o z) he0
          have nd : b ≠ dx := ne_of_none (g1.h b o z) hd1
          rw [upd_ne nd, L2.del_ne nb, upd_ne nb, upd_ne nd, upd_ne nb]
          exact g1.h b o z
        · cases hd
          exact ⟨_, upd_same⟩
end
end Sx
set_option Elab.async false
set_option linter.all false
set_option maxRecDepth 100000
set_option maxHeartbeats 2000000
namespace Sx
open PySem PySem.Spec PyProof.Rows L2
open C8 (Cal pe_c pe_gc)
/-! ### how a machine of words runs -/
def goTo (rs : List PyData) (i k : Nat) : Nat := (intD ((itemsD (rs.getD i .none)).getD k .none)).toNat
def runR (rs : List PyData) : Nat → List PyData → Nat
  | i, [] => i
  | i, d :: r => runR rs (goTo rs i (idxD d)) r
theorem runR_snoc (rs : List PyData) (d : PyData) : ∀ (ls : List PyData) (i : Nat), runR rs i (ls ++ [d]) = goTo rs (runR rs i ls) (idxD d)
  | [], _ => rfl
  | e :: r, i => runR_snoc rs d r (goTo rs i (idxD e))
theorem betw_int {d : PyData} {l u : Int} (e : isBetween d l u = true) : ∃ i, d = .int i ∧ l ≤ i ∧ i ≤ u := by
  cases d with
  | int i =>
    have e' : (decide (l ≤ i) && decide (i ≤ u)) = true := e
    rw [Bool.and_eq_true, decide_eq_true_iff, decide_eq_true_iff] at e'
    exact ⟨i, rfl, e'.1, e'.2⟩
  | _ => cases e
theorem getD_is {ds : List PyData} {i : Nat} {d : PyData} (h : ds[i]? = some d) : ds.getD i .none = d := by
  rw [List.getD_eq_getElem?_getD, h]
  rfl
def rowsOk (rs : List PyData) : Bool := rs.all fun r => isRowBelow r (rs.length : Int)
theorem row_step {rs : List PyData} (h : rowsOk rs = true) {i k : Nat} (hi : i < rs.length) (hk : k < 3) : ∃ xs, rs[i]? = some (.tuple xs) ∧ xs[k]? = some (.int (goTo rs i k : Nat)) ∧ goTo rs i k < rs.length := by
  have e1 : rs[i]? = some rs[i] := List.getElem?_eq_getElem hi
  have h1 := List.all_eq_true.mp h rs[i] (List.getElem_mem hi)
  cases q : rs[i] with
  | tuple xs =>
    rw [q] at h1 e1
    have h2 : (decide ((xs.length : Int) = 3) && xs.all fun x => isBetween x 0 ((rs.length : Int) - 1)) = true := h1
    rw [Bool.and_eq_true, decide_eq_true_iff] at h2
    have hk' : k < xs.length := by omega
    have e2 : xs[k]? = some xs[k] := List.getElem?_eq_getElem hk'
    have h3 := List.all_eq_true.mp h2.2 xs[k] (List.getElem_mem hk')
    obtain ⟨j, hj, j0, j1⟩ := betw_int h3
    have eg : goTo rs i k = j.toNat := by
      unfold goTo
      rw [getD_is e1]
      show (intD (xs.getD k .none)).toNat = _
      rw [getD_is e2, hj]
      rfl
    refine ⟨xs, e1, ?_, by omega⟩
    rw [e2, hj, eg]
    exact congrArg (fun z => some (PyData.int z)) (by omega)
  | _ =>
    rw [q] at h1
    cases h1
theorem runR_lt {rs : List PyData} (h : rowsOk rs = true) : ∀ {ls : List PyData} {i : Nat}, (∀ d ∈ ls, isAbc d = true) → i < rs.length → runR rs i ls < rs.length
  | [], _, _, hi => hi
  | d :: r, i, hd, hi => by
    obtain ⟨_, _, _, hlt⟩ := row_step h hi (idx_lt (hd d List.mem_cons_self))
    exact runR_lt h (ls := r) (fun e he => hd e (List.mem_cons_of_mem _ he)) hlt
section
variable {P : Program} {w : World} {K : PySem.W.Frag} {mg : Str → Option Value} {base : Heap} {f : Addr} {fd : FuncData} {CW CT CP fI : Addr} {F : Hp}
abbrev tRun (K : PySem.W.Frag) : TS := tSeq (tFor (iStr (tVar 2)) (gName 3) (tAsg (tOp (rIxT K) (tOp (rIxT K) (tVar 0) (tVar 1)) (tM1 rIdx (tC (.str "abc")) (tVar 3))) (gName 1))) (tRet (tVar 1))
theorem run_reads {x u : V} {rs : List PyData} {i : Nat} {z : Str} (rx : Dq K F x (.tuple rs)) (ru : Dq K F u (.str z)) (h : rowsOk rs = true) (hi : i < rs.length) (hz : (signs z).all isAbc = true) :
    Ret K (tRun K) [some x, some (.int (i : Int)), some u, none] F (.int (runR rs i (signs z) : Nat)) := fun H s D q => by
  have hz' := List.all_eq_true.mp hz
  refine s_for (K := K) (F := F) (ds := signs z) s (ew_str (ev_var ⟨u, rfl, ru⟩)) fun F1 H1 g1 =>
    ⟨fun t σ' F' H' => Grow F H F' H' ∧ Same F1 F' ∧ ∃ y, σ' = [some x, some (.int (runR rs i ((signs z).take t) : Nat)), some u, y], ⟨g1, Same.refl _, none, rfl⟩, fun t σ' F' H' hI => ⟨hI.2.1, hI.1.i⟩, fun t d σ' F' H' hd hI F2 H2 v g2 rv => ?_, fun σ' F' H' hI => ?_⟩
  · obtain ⟨gI, sI, y, rfl⟩ := hI
    have hmem := List.mem_of_getElem? hd
    have habc := hz' d hmem
    refine tk_name v H2 g2.i rv _ fun σ2 hσ => ?_
    obtain ⟨v', rfl, rv'⟩ := hσ
    have S2 : Same F F2 := gI.f.trans g2.f
    have hlt : runR rs i ((signs z).take t) < rs.length := runR_lt h (fun e he => hz' e (List.mem_of_mem_take he)) hi
    obtain ⟨xs, e1, e2, hlt2⟩ := row_step h hlt (idx_lt habc)
    refine s_set (K := K) (F := F2) (d := .int (goTo rs (runR rs i ((signs z).take t)) (idxD d) : Nat)) (ev_op (ev_op (ev_var (i := 0) ⟨x, rfl, rx.up S2⟩) (ev_var (i := 1) ⟨_, rfl, .int _⟩) (rv_ixT e1)) (ev_idx (z := z) (ev_var (i := 3) ⟨v', rfl, rv'⟩) hmem habc) (rv_ixT e2)) g2.i fun v3 F3 H3 g3 r3 => ?_
    refine ⟨F3, (gI.trans g2).trans g3, sI.trans (g2.f.trans g3.f), some v', ?_⟩
    have eT : (signs z).take (t + 1) = (signs z).take t ++ [d] := by rw [List.take_add_one, hd]; rfl
    rw [eT, runR_snoc]
    cases r3
    rfl
  · obtain ⟨gI, sI, y, rfl⟩ := hI
    rw [List.take_length]
    refine s_ret (K := K) (F := F') (ev_var (i := 1) ⟨_, rfl, .int _⟩) gI.i fun v F3 H3 g3 r3 => q v F3 H3 (gI.trans g3) r3
/-! ### row_from -/
abbrev s_row_from : Stmt := top 21
theorem sc_row_from : FnScope ["rows", "row", "text", "letter"] ["rows", "row", "text"] (defScope s_row_from) := ⟨rfl, rfl, rfl, by decide +kernel, rfl, by decide +kernel, by decide +kernel⟩
def g_row_from (a b c : PyData) : Option PyData := match a, b, c with
  | .tuple rs, .int i, .str z => if rowsOk rs && ((decide (0 ≤ i) && decide (i < (rs.length : Int))) && (signs z).all isAbc) then some (.int (runR rs i.toNat (signs z) : Nat)) else none
  | _, _, _ => none
abbrev p_row_from (K : PySem.W.Frag) : Sp := spD K (f3 g_row_from)
theorem row_from_is {rs : List PyData} {i : Nat} {z : Str} (h : rowsOk rs = true) (hi : i < rs.length) (hz : (signs z).all isAbc = true) : f3 g_row_from [.tuple rs, .int (i : Int), .str z] = some (.int (runR rs i (signs z) : Nat)) := by
  show (if rowsOk rs && ((decide (0 ≤ (i : Int)) && decide ((i : Int) < (rs.length : Int))) && (signs z).all isAbc) then some (PyData.int (runR rs (i : Int).toNat (signs z) : Nat)) else none) = _
  rw [h, hz, decide_eq_true (show 0 ≤ (i : Int) by omega), decide_eq_true (show (i : Int) < (rs.length : Int) by omega)]
  rfl
theorem ok_row_from (F : Fun K "row_from" "row_from" s_row_from f fd) (B : BI mg) (T : CsW mg) : FnOk P w K mg base CX0 1 f fd ["rows", "row", "text"] (p_row_from K) := by
  refine F.ok sc_row_from (fun vs H Q E h => len_f3 h) (fun cdv A outer s H vs Q E hr h => go3 h fun F0 a b c x y z d sm ra rb rc e ev q => ?_)
  subst ev
  match a, b, c, e with
  | .tuple rs, .int i, .str t, e =>
    have e' : (if rowsOk rs && ((decide (0 ≤ i) && decide (i < (rs.length : Int))) && (signs t).all isAbc) then some (PyData.int (runR rs i.toNat (signs t) : Nat)) else none) = some d := e
    split at e'
    case isFalse => cases e'
    rename_i hc
    cases e'
    rw [Bool.and_eq_true, Bool.and_eq_true, Bool.and_eq_true, decide_eq_true_iff, decide_eq_true_iff] at hc
    obtain ⟨h1, ⟨h2, h3⟩, h4⟩ := hc
    refine ⟨_, (pss_cons (ps_for PassesOwn.never rfl (pi_str (pv 2)) (pg_name (i := 3) sc_row_from.nd rfl (Or.inl rfl) (hf := (Or.inr rfl))) (pss_one (ps_set (i := 1) sc_row_from.nd rfl (Or.inl rfl) (pe_ix (r := rIxT K) ix_tup (pe_ix (r := rIxT K) ix_tup (pv 0) (pv 1) (fun _ _ => rfl)) (pe_idx (pe_gc (by rfl) T.c_LETTERS) (pv 3)) (fun _ _ => rfl)))))
        (pss_one (ps_ret (pv 1)))), ?_⟩
    have ei : y = .int (i.toNat : Int) := by
      cases rb
      exact congrArg V.int (by omega)
    subst ei
    exact (run_reads ra rc h1 (by omega) h4 : Ret K (tRun K) _ F0 _) H sm _ q
/-! ### _law_run -/
abbrev s__law_run : Stmt := top 48
theorem sc__law_run : FnScope ["rows", "row", "letters", "letter"] ["rows", "row", "letters"] (defScope s__law_run) := ⟨rfl, rfl, rfl, by decide +kernel, rfl, by decide +kernel, by decide +kernel⟩
theorem ok__law_run (F : Fun K "_law_run" "_law_run" s__law_run f fd) (B : BI mg) : FnOk P w K mg base CX0 1 f fd ["rows", "row", "letters"] (p_row_from K) := by
  refine F.ok sc__law_run (fun vs H Q E h => len_f3 h) (fun cdv A outer s H vs Q E hr h => go3 h fun F0 a b c x y z d sm ra rb rc e ev q => ?_)
  subst ev
  match a, b, c, e with
  | .tuple rs, .int i, .str t, e =>
    have e' : (if rowsOk rs && ((decide (0 ≤ i) && decide (i < (rs.length : Int))) && (signs t).all isAbc) then some (PyData.int (runR rs i.toNat (signs t) : Nat)) else none) = some d := e
    split at e'
    case isFalse => cases e'
    rename_i hc
    cases e'
    rw [Bool.and_eq_true, Bool.and_eq_true, Bool.and_eq_true, decide_eq_true_iff, decide_eq_true_iff] at hc
    obtain ⟨h1, ⟨h2, h3⟩, h4⟩ := hc
    refine ⟨_, (pss_cons (ps_for PassesOwn.never rfl (pi_str (pv 2)) (pg_name (i := 3) sc__law_run.nd rfl (Or.inl rfl) (hf := (Or.inr rfl))) (pss_one (ps_set (i := 1) sc__law_run.nd rfl (Or.inl rfl) (pe_ix (r := rIxT K) ix_tup (pe_ix (r := rIxT K) ix_tup (pv 0) (pv 1) (fun _ _ => rfl)) (pe_idx pe_str (pv 3)) (fun _ _ => rfl)))))
        (pss_one (ps_ret (pv 1)))), ?_⟩
    have ei : y = .int (i.toNat : Int) := by
      cases rb
      exact congrArg V.int (by omega)
    subst ei
    exact (run_reads ra rc h1 (by omega) h4 : Ret K (tRun K) _ F0 _) H sm _ q
/-! ### row_behind -/
abbrev s_row_behind : Stmt := top 22
theorem sc_row_behind : FnScope ["words", "text"] ["words", "text"] (defScope s_row_behind) := ⟨rfl, rfl, rfl, by decide +kernel, rfl, by decide +kernel, by decide +kernel⟩
def rowsD (d : PyData) : List PyData := match d with
  | .tuple [_, .tuple rs, _] => rs
  | _ => []
def takesD (d : PyData) : List PyData := match d with
  | .tuple [_, _, .tuple ts] => ts
  | _ => []
def strOf : PyData → Str
  | .str z => z
  | _ => ""
/-- checked in this order, then told -/
def g_two (b : PyData → Bool) (CW CT : Addr) (e : PyData → PyData → PyData) (a t : PyData) : Option (Except Addr PyData) :=
  if fitsA a && fitsA t then some (if b a then (if isText t then .ok (e a t) else .error CT) else .error CW) else none
def behindD (a t : PyData) : PyData := .int (runR (rowsD a) 0 (signs (strOf t)) : Nat)
theorem words_are {d : PyData} (h : isWords d = true) : ∃ rs ts, d = .tuple [.str "words", .tuple rs, .tuple ts] ∧ rowsOk rs = true ∧ 1 ≤ rs.length ∧ rs.length ≤ 8 ∧ isRisingBelow (.tuple ts) (rs.length : Int) = true := by
  unfold isWords at h
  split at h
  · rename_i a rs t
    rw [Bool.and_eq_true, Bool.and_eq_true, Bool.and_eq_true, Bool.and_eq_true, decide_eq_true_iff, decide_eq_true_iff] at h
    obtain ⟨h1, ⟨h2, h3⟩, h4, h5⟩ := h
    cases t with
    | tuple ts =>
      cases a with
      | str y =>
        have e : y = "words" := of_decide_eq_true h1
        subst e
        exact ⟨rs, ts, rfl, h4, by omega, by omega, h5⟩
      | _ => cases h1
    | _ => cases h5
  · cases h
theorem text_is {d : PyData} (h : isText d = true) : ∃ z, d = .str z ∧ (signs z).all isAbc = true := by
  cases d with
  | str z => exact ⟨z, rfl, h⟩
  | _ => cases h
abbrev p_row_behind (K : PySem.W.Frag) (CW CT : Addr) : Sp := spY K (x2 (g_two isWords CW CT behindD))
theorem s_drop {σ : L2.St} {F H : Hp} {te : TE} {D : Ends} {d : PyData} (h : EvD K te σ F d) (s : Same F H) (k : ∀ F' H', Grow F H F' H' → D.nx σ H') : tDrop te D σ H := h H s _ fun v F1 H1 g1 _ => k F1 H1 g1
theorem ok_row_behind (F : Fun K "row_behind" "row_behind" s_row_behind f fd) (c_check_words : CalX P w K mg base 5 "check_words" ["words"] (p_check_words K CW)) (c_check_text : CalX P w K mg base 4 "check_text" ["text"] (p_check_text K CT)) (c_row_from : Cal P w K mg base 1 "row_from" (p_row_from K) []) :
    FnOk P w K mg base (L2.CX P w) 6 f fd ["words", "text"] (p_row_behind K CW CT) := by
  refine F.okX sc_row_behind (fun vs H Q E h => len_y2 h) (fun cdv A outer s H vs Q E hr h => ?_)
  obtain ⟨F0, ds, r, sm, ra, e, q, qe⟩ := h
  match ds, ra, e with
  | [a, t], .cons (v := x) ra (.cons (v := y) rb .nil), e =>
    have e' : (if fitsA a && fitsA t then some (if isWords a then (if isText t then Except.ok (behindD a t) else .error CT) else .error CW) else none) = some r := e
    split at e'
    case isFalse => cases e'
    rename_i hz
    cases e'
    rw [Bool.and_eq_true] at hz
    refine ⟨_, (pss_cons (ps_expr (pe_cx c_check_words hr (by first | decide | omega) (by rfl) (passes_call (takes_of rfl rfl rfl rfl) (fun _ _ _ _ h => h)) (pa_cons (pv 0) pa_nil)))
        (pss_cons (ps_expr (pe_cx c_check_text hr (by first | decide | omega) (by rfl) (passes_call (takes_of rfl rfl rfl rfl) (fun _ _ _ _ h => h)) (pa_cons (pv 1) pa_nil)))
        (pss_one (ps_ret (pe_c c_row_from hr (by first | decide | omega) (by rfl) (pa_cons (pe_ix (r := rIxT K) ix_tup (pv 0) pe_int (fun _ _ => rfl)) (pa_cons pe_int (pa_cons (pv 1) pa_nil)))))))), ?_⟩
    have s0 : Slot K (start ["words", "text"] [x, y]) F0 0 a := ⟨x, rfl, ra⟩
    by_cases hk : isWords a = true
    case neg =>
      have hk' : isWords a = false := Bool.eq_false_iff.mpr hk
      exact call_raisesY (K := K) (ea_cons (ev_var s0) ea_nil) sm (check_no hz.1 hk') (qe CW (by rw [if_neg hk]))
    refine s_drop (ev_callY (K := K) (ea_cons (ev_var s0) ea_nil) (check_ok hz.1 hk)) sm fun F1 H1 g1 => ?_
    have s1 : Slot K (start ["words", "text"] [x, y]) F1 1 t := ⟨y, rfl, rb.up g1.f⟩
    by_cases ht : isText t = true
    case neg =>
      have ht' : isText t = false := Bool.eq_false_iff.mpr ht
      exact call_raisesY (K := K) (ea_cons (ev_var s1) ea_nil) g1.i (check_no hz.2 ht') ((qe CT (by rw [if_pos hk, if_neg ht])).up g1.h)
    refine s_drop (ev_callY (K := K) (ea_cons (ev_var s1) ea_nil) (check_ok hz.2 ht)) g1.i fun F2 H2 g2 => ?_
    obtain ⟨rs, ts, rfl, hrs, l1, l8, _⟩ := words_are hk
    obtain ⟨z, rfl, hzz⟩ := text_is ht
    have S2 : Same F0 F2 := g1.f.trans g2.f
    have q1 := ev_call (K := K) (f := f3 g_row_from) (E := C8.E0) (σ := start ["words", "text"] [x, y]) (F := F2) (ea_cons (ev_op (ev_var (i := 0) ⟨x, rfl, ra.up S2⟩) (ev_int (i := 1)) (rv_ixT (k := 1) rfl)) (ea_cons (ev_int (i := 0)) (ea_cons (ev_var (i := 1) ⟨y, rfl, rb.up S2⟩) ea_nil))) (row_from_is (i := 0) hrs (by omega) hzz)
    exact s_ret (K := K) q1 g2.i fun v F3 H3 g3 r3 => q _ (by rw [if_pos hk, if_pos ht]; rfl) v F3 H3 ((g1.trans g2).trans g3) r3
end
end Sx
set_option Elab.async false
set_option linter.all false
set_option maxRecDepth 100000
set_option maxHeartbeats 2000000
namespace Sx
open PySem PySem.Spec PyProof.Rows L2
open C8 (Cal pe_c pe_gc)
section
variable {P : Program} {w : World} {K : PySem.W.Frag} {mg : Str → Option Value} {base : Heap} {f : Addr} {fd : FuncData} {CW CT CP fI : Addr} {F : Hp}
/-! ### takes_text -/
abbrev s_takes_text : Stmt := top 23
theorem sc_takes_text : FnScope ["words", "text"] ["words", "text"] (defScope s_takes_text) := ⟨rfl, rfl, rfl, by decide +kernel, rfl, by decide +kernel, by decide +kernel⟩
def takenD (a t : PyData) : PyData := .bool (decide (((runR (rowsD a) 0 (signs (strOf t)) : Nat) : Int) ∈ (takesD a).map intD))
theorem rising_ints {ts : List PyData} {n : Int} (h : isRisingBelow (.tuple ts) n = true) : ts = (ts.map intD).map .int := by
  have h' : (ts.all (fun x => isBetween x 0 (n - 1)) && risesD ts) = true := h
  rw [Bool.and_eq_true] at h'
  rw [List.map_map]
  refine (List.map_id ts).symm.trans (List.map_congr_left fun d hd => ?_)
  obtain ⟨i, rfl, _⟩ := betw_int (List.all_eq_true.mp h'.1 d hd)
  rfl
theorem two_ok {b : PyData → Bool} {CW CT : Addr} {e : PyData → PyData → PyData} {a t : PyData} (h : fitsA a = true) (h2 : fitsA t = true) (hb : b a = true) (ht : isText t = true) : x2 (g_two b CW CT e) [a, t] = some (.ok (e a t)) := by
  show (if fitsA a && fitsA t then _ else _) = _
  rw [h, h2, hb, ht]
  rfl
theorem two_no1 {b : PyData → Bool} {CW CT : Addr} {e : PyData → PyData → PyData} {a t : PyData} (h : fitsA a = true) (h2 : fitsA t = true) (hb : b a = false) : x2 (g_two b CW CT e) [a, t] = some (.error CW) := by
  show (if fitsA a && fitsA t then _ else _) = _
  rw [h, h2, hb]
  rfl
theorem two_no2 {b : PyData → Bool} {CW CT : Addr} {e : PyData → PyData → PyData} {a t : PyData} (h : fitsA a = true) (h2 : fitsA t = true) (hb : b a = true) (ht : isText t = false) : x2 (g_two b CW CT e) [a, t] = some (.error CT) := by
  show (if fitsA a && fitsA t then _ else _) = _
  rw [h, h2, hb, ht]
  rfl
/-- how a def of (words, text) is entered: checked, or the due error -/
theorem two_in {b : PyData → Bool} {e : PyData → PyData → PyData} {vs : List V} {H : Hp} {Q : VK} {E : XK} {G : Prop} (h : spY K (x2 (g_two b CW CT e)) vs H Q E)
    (k : ∀ F a t x y, Same F H → Dq K F x a → Dq K F y t → vs = [x, y] → fitsA a = true → fitsA t = true →
      ((b a = false ∧ ErrD E CW H) ∨ (b a = true ∧ isText t = false ∧ ErrD E CT H) ∨ (b a = true ∧ isText t = true ∧ ∀ v F' H', Grow F H F' H' → Dq K F' v (e a t) → Q v H')) → G) : G := by
  obtain ⟨F0, ds, r, sm, ra, e0, q, qe⟩ := h
  match ds, ra, e0 with
  | [a, t], .cons (v := x) ra (.cons (v := y) rb .nil), e' =>
    have e2 : (if fitsA a && fitsA t then some (if b a then (if isText t then Except.ok (e a t) else .error CT) else .error CW) else none) = some r := e'
    split at e2
    case isFalse => cases e2
    rename_i hz
    cases e2
    rw [Bool.and_eq_true] at hz
    refine k F0 a t x y sm ra rb rfl hz.1 hz.2 ?_
    by_cases hk : b a = true
    case neg => exact .inl ⟨Bool.eq_false_iff.mpr hk, qe CW (by rw [if_neg hk])⟩
    by_cases ht : isText t = true
    case neg => exact .inr (.inl ⟨hk, Bool.eq_false_iff.mpr ht, qe CT (by rw [if_pos hk, if_neg ht])⟩)
    exact .inr (.inr ⟨hk, ht, q _ (by rw [if_pos hk, if_pos ht])⟩)
abbrev p_takes_text (K : PySem.W.Frag) (CW CT : Addr) : Sp := spY K (x2 (g_two isWords CW CT takenD))
theorem ok_takes_text (F : Fun K "takes_text" "takes_text" s_takes_text f fd) (c_row_behind : CalX P w K mg base 6 "row_behind" ["words", "text"] (p_row_behind K CW CT)) :
    FnOk P w K mg base (L2.CX P w) 7 f fd ["words", "text"] (p_takes_text K CW CT) := by
  refine F.okX sc_takes_text (fun vs H Q E h => len_y2 h) (fun cdv A outer s H vs Q E hr h => two_in h fun F0 a t x y sm ra rb ev fa ft hcase => ?_)
  subst ev
  refine ⟨_, (pss_one (ps_ret (pe_cmpR (r := rIn K false) (op_in_seq) (pe_cx c_row_behind hr (by first | decide | omega) (by rfl) (passes_call (takes_of rfl rfl rfl rfl) (fun _ _ _ _ h => h)) (pa_cons (pv 0) (pa_cons (pv 1) pa_nil))) (pe_ix (r := rIxT K) ix_tup (pv 0) pe_int (fun _ _ => rfl)) (by rfl)))), ?_⟩
  have s0 : Slot K (start ["words", "text"] [x, y]) F0 0 a := ⟨x, rfl, ra⟩
  have s1 : Slot K (start ["words", "text"] [x, y]) F0 1 t := ⟨y, rfl, rb⟩
  have args := ea_cons (ev_var s0) (ea_cons (ev_var s1) (ea_nil (K := K)))
  rcases hcase with ⟨h1, qe⟩ | ⟨h1, h2, qe⟩ | ⟨h1, h2, q⟩
  · exact call_raisesY (K := K) args sm (two_no1 fa ft h1) qe
  · exact call_raisesY (K := K) args sm (two_no2 fa ft h1 h2) qe
  · obtain ⟨rs, ts, rfl, hrs, l1, l8, hts⟩ := words_are h1
    obtain ⟨z, rfl, hzz⟩ := text_is h2
    have q1 := ev_callY (K := K) (g := x2 (g_two isWords CW CT behindD)) (E := fun cls d H => E cls d H) args (two_ok fa ft h1 h2)
    have e4 : EvD K (tOp (rIxT K) (tVar 0) (tC (.int 2))) (start ["words", "text"] [x, y]) F0 (.tuple ((ts.map intD).map .int)) := (ev_op (ev_var s0) (ev_int (i := 2)) (rv_ixT (k := 2) rfl)).is (congrArg PyData.tuple (rising_ints hts))
    exact s_ret (K := K) (ev_op q1 e4 (rv_inT mem_int)) sm fun v F3 H3 g3 r3 => q v F3 H3 g3 r3
/-! ### effect -/
abbrev s_effect : Stmt := top 24
theorem sc_effect : FnScope ["words", "text", "row"] ["words", "text"] (defScope s_effect) := ⟨rfl, rfl, rfl, by decide +kernel, rfl, by decide +kernel, by decide +kernel⟩
def effD (a t : PyData) : PyData := .tuple ((rgs 0 (rowsD a).length).map fun d => .int (runR (rowsD a) (intD d).toNat (signs (strOf t)) : Nat))
abbrev p_effect (K : PySem.W.Frag) (CW CT : Addr) : Sp := spY K (x2 (g_two isWords CW CT effD))
theorem ok_effect (F : Fun K "effect" "effect" s_effect f fd) (B : BI mg) (c_check_words : CalX P w K mg base 5 "check_words" ["words"] (p_check_words K CW)) (c_check_text : CalX P w K mg base 4 "check_text" ["text"] (p_check_text K CT)) (c_row_from : Cal P w K mg base 1 "row_from" (p_row_from K) []) :
    FnOk P w K mg base (L2.CX P w) 6 f fd ["words", "text"] (p_effect K CW CT) := by
  refine F.okX sc_effect (fun vs H Q E h => len_y2 h) (fun cdv A outer s H vs Q E hr h => two_in h fun F0 a t x y sm ra rb ev fa ft hcase => ?_)
  subst ev
  refine ⟨_, (pss_cons (ps_expr (pe_cx c_check_words hr (by first | decide | omega) (by rfl) (passes_call (takes_of rfl rfl rfl rfl) (fun _ _ _ _ h => h)) (pa_cons (pv 0) pa_nil)))
        (pss_cons (ps_expr (pe_cx c_check_text hr (by first | decide | omega) (by rfl) (passes_call (takes_of rfl rfl rfl rfl) (fun _ _ _ _ h => h)) (pa_cons (pv 1) pa_nil)))
        (pss_one (ps_ret (pe_tupleOf (by rfl) B.tuple (pe_lc (own := [("row", 2)]) (g := (gName 2)) rfl sc_effect.nd (pi_range1 (by rfl) B.range (pa_cons (pe_callB (r := rLen0 K) (call_len) (by rfl) B.len (by decide +kernel) (pa_cons (pe_ix (r := rIxT K) ix_tup (pv 0) pe_int (fun _ _ => rfl)) pa_nil)) pa_nil)) (blkOk_by (own := [("row", 2)]) (N := ["words", "text", "row"]) (sc := defScope s_effect) (by decide +kernel)) (fun _ _ _ _ _ => (pg_name (i := 2) sc_effect.nd rfl (Or.inl rfl) (hf := (Or.inr rfl)))) (fun _ _ _ _ _ => pts_nil) (fun _ _ _ _ _ => (pe_c c_row_from hr (by first | decide | omega) (by rfl) (pa_cons (pe_ix (r := rIxT K) ix_tup (pv 0) pe_int (fun _ _ => rfl)) (pa_cons (pv 2) (pa_cons (pv 1) pa_nil))))))))))), ?_⟩
  have s0 : Slot K (start ["words", "text", "row"] [x, y]) F0 0 a := ⟨x, rfl, ra⟩
  rcases hcase with ⟨h1, qe⟩ | ⟨h1, h2, qe⟩ | ⟨h1, h2, q⟩
  · exact call_raisesY (K := K) (ea_cons (ev_var s0) ea_nil) sm (check_no fa h1) qe
  · refine s_drop (ev_callY (K := K) (ea_cons (ev_var s0) ea_nil) (check_ok fa h1)) sm fun F1 H1 g1 => ?_
    have s1 : Slot K (start ["words", "text", "row"] [x, y]) F1 1 t := ⟨y, rfl, rb.up g1.f⟩
    exact call_raisesY (K := K) (ea_cons (ev_var s1) ea_nil) g1.i (check_no ft h2) (qe.up g1.h)
  · refine s_drop (ev_callY (K := K) (ea_cons (ev_var s0) ea_nil) (check_ok fa h1)) sm fun F1 H1 g1 => ?_
    have s1 : Slot K (start ["words", "text", "row"] [x, y]) F1 1 t := ⟨y, rfl, rb.up g1.f⟩
    refine s_drop (ev_callY (K := K) (ea_cons (ev_var s1) ea_nil) (check_ok ft h2)) g1.i fun F2 H2 g2 => ?_
    obtain ⟨rs, ts, rfl, hrs, l1, l8, hts⟩ := words_are h1
    obtain ⟨z, rfl, hzz⟩ := text_is h2
    have S2 : Same F0 F2 := g1.f.trans g2.f
    have q1 := ev_lc (K := K) (σ := start ["words", "text", "row"] [x, y]) (F := F2) (te := tCall (p_row_from K) [] C8.E0 (tCons (tOp (rIxT K) (tVar 0) (tC (.int 1))) (tCons (tVar 2) (tCons (tVar 1) tNil)))) (tt := tYes) (g := gName 2) (vs := [2]) (fun _ => true) (fun d => .int (runR rs (intD d).toNat (signs z) : Nat))
      (ew_rng1 (n := (rs.length : Int)) (ea_cons (ev1 (ev_op (ev_var (i := 0) ⟨x, rfl, ra.up S2⟩) (ev_int (i := 1)) (rv_ixT (k := 1) rfl)) rc_lenT) ea_nil) ⟨by omega, by omega⟩) (by rw [rgs_len]; exact small1000 (by omega)) fun d F' hd sF => by
        obtain ⟨j, hj⟩ := List.mem_iff_getElem?.mp hd
        obtain ⟨hj1, rfl⟩ := rgs_get hj
        refine tk_name.imp fun σ2 hσ => ?_
        obtain ⟨v, rfl, rv⟩ := hσ
        refine ⟨rfl, eb_yes, fun _ => ?_⟩
        have ej : (0 + (j : Int)) = ((j : Nat) : Int) := by omega
        have rv' : Dq K F' v (.int ((j : Nat) : Int)) := ej ▸ rv
        exact (ev_call (f := f3 g_row_from) (ea_cons (ev_op (ev_var (i := 0) ⟨x, rfl, ra.up (S2.trans sF)⟩) (ev_int (i := 1)) (rv_ixT (k := 1) rfl)) (ea_cons (ev_var (i := 2) ⟨v, rfl, rv'⟩) (ea_cons (ev_var (i := 1) ⟨y, rfl, rb.up (S2.trans sF)⟩) ea_nil))) (row_from_is hrs (by omega) hzz)).is (by
          show PyData.int _ = .int (runR rs (0 + (j : Int)).toNat (signs z) : Nat)
          rw [ej, Int.toNat_natCast])
    rw [made_map, Int.toNat_natCast] at q1
    exact s_ret (K := K) (ev_tupleL q1) g2.i fun v F3 H3 g3 r3 => q v F3 H3 ((g1.trans g2).trans g3) r3
end
end Sx
set_option Elab.async false
set_option linter.all false
set_option maxRecDepth 100000
set_option maxHeartbeats 2000000
namespace Sx
open PySem PySem.Spec PyProof.Rows L2
open C8 (Cal pe_c pe_gc)
/-! ### one's own object beside what is known -/
theorem grow_put {F H F' H' : Hp} {p : Addr} {o : HO} (g : Grow F H F' H') (hF : F' p = none) (hH : H p = none) : Grow F H F' (upd H' p o) :=
  ⟨g.f, fun b x e => by rw [upd_ne (ne_of_none e hH)]; exact g.h b x e, same_own g.i hF, g.n⟩
theorem grow_wide {F H F' H' H2 : Hp} (g : Grow F H F' H') (s : Same H' H2) : Grow F H F' H2 := ⟨g.f, g.h.trans s, g.i.trans s, g.n⟩
theorem grow_thaw {F H F' H' : Hp} {p : Addr} {o : HO} (g : Grow F H F' H') (hF : F' p = none) (hp : H' p = some o) (hH : H p = none) : Grow F H (upd F' p o) H' :=
  ⟨g.f.trans (same_upd hF), g.h, fun b x e => by
    by_cases hb : b = p
    · rw [hb, upd_same] at e
      rw [hb, hp]
      exact e
    · rw [upd_ne hb] at e
      exact g.i b x e, fun b x e n => by
    by_cases hb : b = p
    · rw [hb]
      exact hH
    · rw [upd_ne hb] at e
      exact g.n b x e n⟩
/-! ### how a scribe runs -/
def cellP (rs : List PyData) (i k : Nat) : PyData := (itemsD (rs.getD i .none)).getD k .none
def penGo (rs : List PyData) (i k : Nat) : Nat := (intD (fstD (cellP rs i k))).toNat
def penSay (rs : List PyData) (i k : Nat) : Str := strOf (sndD (cellP rs i k))
def rowP (rs : List PyData) : Nat → List PyData → Nat
  | i, [] => i
  | i, d :: r => rowP rs (penGo rs i (idxD d)) r
def sayP (rs : List PyData) : Nat → List PyData → List Str
  | _, [] => []
  | i, d :: r => penSay rs i (idxD d) :: sayP rs (penGo rs i (idxD d)) r
theorem rowP_snoc (rs : List PyData) (d : PyData) : ∀ (ls : List PyData) (i : Nat), rowP rs i (ls ++ [d]) = penGo rs (rowP rs i ls) (idxD d)
  | [], _ => rfl
  | e :: r, i => rowP_snoc rs d r (penGo rs i (idxD e))
theorem sayP_snoc (rs : List PyData) (d : PyData) : ∀ (ls : List PyData) (i : Nat), sayP rs i (ls ++ [d]) = sayP rs i ls ++ [penSay rs (rowP rs i ls) (idxD d)]
  | [], _ => rfl
  | e :: r, i => congrArg (penSay rs i (idxD e) :: ·) (sayP_snoc rs d r (penGo rs i (idxD e)))
theorem sayP_len (rs : List PyData) : ∀ (ls : List PyData) (i : Nat), (sayP rs i ls).length = ls.length
  | [], _ => rfl
  | e :: r, i => congrArg (· + 1) (sayP_len rs r (penGo rs i (idxD e)))
def pensOk (rs : List PyData) : Bool := rs.all fun r => isRowOf r (rs.length : Int)
theorem pen_step {rs : List PyData} (h : pensOk rs = true) {i k : Nat} (hi : i < rs.length) (hk : k < 3) : ∃ xs, rs[i]? = some (.tuple xs) ∧ xs[k]? = some (.tuple [.int (penGo rs i k : Nat), .str (penSay rs i k)]) ∧ penGo rs i k < rs.length ∧ (penSay rs i k).length ≤ 8 := by
  have e1 : rs[i]? = some rs[i] := List.getElem?_eq_getElem hi
  have h1 := List.all_eq_true.mp h rs[i] (List.getElem_mem hi)
  cases q : rs[i] with
  | tuple xs =>
    rw [q] at h1 e1
    have h2 : (decide ((xs.length : Int) = 3) && xs.all (isPair (rs.length : Int))) = true := h1
    rw [Bool.and_eq_true, decide_eq_true_iff] at h2
    have hk' : k < xs.length := by omega
    have e2 : xs[k]? = some xs[k] := List.getElem?_eq_getElem hk'
    have h3 := List.all_eq_true.mp h2.2 xs[k] (List.getElem_mem hk')
    have ec : cellP rs i k = xs[k] := by
      unfold cellP
      rw [getD_is e1]
      exact getD_is e2
    unfold isPair at h3
    split at h3
    · rename_i g z hg
      rw [Bool.and_eq_true] at h3
      obtain ⟨j, rfl, j0, j1⟩ := betw_int h3.1
      cases z with
      | str z =>
        have h4 : ((signs z).all isAbc && decide ((z.length : Int) ≤ 8)) = true := h3.2
        rw [Bool.and_eq_true, decide_eq_true_iff] at h4
        have eg : penGo rs i k = j.toNat := by
          unfold penGo
          rw [ec, hg]
          rfl
        have es : penSay rs i k = z := by
          unfold penSay
          rw [ec, hg]
          rfl
        refine ⟨xs, e1, ?_, by omega, by rw [es]; omega⟩
        rw [e2, hg, eg, es]
        exact congrArg (fun x => some (PyData.tuple [.int x, .str z])) (by omega)
      | _ => cases h3.2
    · cases h3
  | _ =>
    rw [q] at h1
    cases h1
theorem rowP_lt {rs : List PyData} (h : pensOk rs = true) : ∀ {ls : List PyData} {i : Nat}, (∀ d ∈ ls, isAbc d = true) → i < rs.length → rowP rs i ls < rs.length
  | [], _, _, hi => hi
  | d :: r, i, hd, hi => by
    obtain ⟨_, _, _, hlt, _⟩ := pen_step h hi (idx_lt (hd d List.mem_cons_self))
    exact rowP_lt h (ls := r) (fun e he => hd e (List.mem_cons_of_mem _ he)) hlt
theorem catS_len : ∀ ys : List Str, (catS ys).length = (ys.map (·.length)).sum
  | [] => rfl
  | x :: r => by
    show (x ++ catS r).length = x.length + (r.map (·.length)).sum
    rw [cat_len, catS_len r]
theorem sayP_sum {rs : List PyData} (h : pensOk rs = true) : ∀ {ls : List PyData} {i : Nat}, (∀ d ∈ ls, isAbc d = true) → i < rs.length → ((sayP rs i ls).map (·.length)).sum ≤ 8 * ls.length
  | [], _, _, _ => Nat.zero_le _
  | d :: r, i, hd, hi => by
    obtain ⟨_, _, _, hlt, hs⟩ := pen_step h hi (idx_lt (hd d List.mem_cons_self))
    have := sayP_sum h (ls := r) (fun e he => hd e (List.mem_cons_of_mem _ he)) hlt
    show (penSay rs i (idxD d)).length + ((sayP rs (penGo rs i (idxD d)) r).map (·.length)).sum ≤ 8 * (r.length + 1)
    omega
theorem two_small : 2 ≤ sizeLine := by rw [sizeLine_eq]; decide
theorem line_big : 1000000 ≤ sizeLine := by rw [sizeLine_eq]; decide
section
variable {P : Program} {w : World} {K : PySem.W.Frag} {mg : Str → Option Value} {base : Heap} {f : Addr} {fd : FuncData} {CW CT CP fI : Addr} {F : Hp}
def g_pen (a b c : PyData) : Option PyData := match a, b, c with
  | .tuple [_, .tuple rs, _], .int i, .str z => if pensOk rs && ((decide (0 ≤ i) && decide (i < (rs.length : Int))) && ((signs z).all isAbc && decide (z.length ≤ 100000))) then some (.tuple [.int (rowP rs i.toNat (signs z) : Nat), .str (catS (sayP rs i.toNat (signs z)))]) else none
  | _, _, _ => none
abbrev p_read_from (K : PySem.W.Frag) : Sp := spD K (f3 g_pen)
theorem pen_is {a0 t : PyData} {rs : List PyData} {i : Nat} {z : Str} (h : pensOk rs = true) (hi : i < rs.length) (hz : (signs z).all isAbc = true) (hl : z.length ≤ 100000) : f3 g_pen [.tuple [a0, .tuple rs, t], .int (i : Int), .str z] = some (.tuple [.int (rowP rs i (signs z) : Nat), .str (catS (sayP rs i (signs z)))]) := by
  show (if pensOk rs && ((decide (0 ≤ (i : Int)) && decide ((i : Int) < (rs.length : Int))) && ((signs z).all isAbc && decide (z.length ≤ 100000))) then some (PyData.tuple [.int (rowP rs (i : Int).toNat (signs z) : Nat), .str (catS (sayP rs (i : Int).toNat (signs z)))]) else none) = _
  rw [h, hz, decide_eq_true (show 0 ≤ (i : Int) by omega), decide_eq_true (show (i : Int) < (rs.length : Int) by omega), decide_eq_true hl]
  rfl
theorem pen_in {a b c d : PyData} (e : g_pen a b c = some d) : ∃ a0 rs t, ∃ i : Nat, ∃ z, a = .tuple [a0, .tuple rs, t] ∧ b = .int (i : Int) ∧ c = .str z ∧ pensOk rs = true ∧ i < rs.length ∧ (signs z).all isAbc = true ∧ z.length ≤ 100000 ∧ d = .tuple [.int (rowP rs i (signs z) : Nat), .str (catS (sayP rs i (signs z)))] := by
  unfold g_pen at e
  split at e
  · rename_i a0 rs t i z
    split at e
    case isFalse => cases e
    rename_i hc
    cases e
    rw [Bool.and_eq_true, Bool.and_eq_true, Bool.and_eq_true, Bool.and_eq_true, decide_eq_true_iff, decide_eq_true_iff, decide_eq_true_iff] at hc
    obtain ⟨h1, ⟨h2, h3⟩, h4, h5⟩ := hc
    exact ⟨a0, rs, t, i.toNat, z, rfl, congrArg PyData.int (by omega), rfl, h1, by omega, h4, h5, rfl⟩
  · cases e
abbrev tCell (K : PySem.W.Frag) : TE := tOp (rIxT K) (tOp (rIxT K) (tOp (rIxT K) (tVar 0) (tC (.int 1))) (tVar 1)) (tM1 rIdx (tC (.str "abc")) (tVar 4))
theorem ev_cell {σ : L2.St} {F : Hp} {x v : V} {a0 t d : PyData} {rs : List PyData} {i : Nat} {z : Str} (h0 : σ[0]? = some (some x)) (rx : Dq K F x (.tuple [a0, .tuple rs, t])) (h1 : σ[1]? = some (some (.int (i : Int)))) (h4 : σ[4]? = some (some v)) (rv : Dq K F v d) (h : pensOk rs = true) (hi : i < rs.length) (hd : d ∈ signs z) (hc : isAbc d = true) :
    EvD K (tCell K) σ F (.tuple [.int (penGo rs i (idxD d) : Nat), .str (penSay rs i (idxD d))]) := by
  obtain ⟨xs, e1, e2, _, _⟩ := pen_step h hi (idx_lt hc)
  exact ev_op (ev_op (ev_op (ev_var ⟨x, h0, rx⟩) (ev_int (i := 1)) (rv_ixT (k := 1) rfl)) (ev_var ⟨_, h1, .int _⟩) (rv_ixT e1)) (ev_idx (z := z) (ev_var ⟨v, h4, rv⟩) hd hc) (rv_ixT e2)
/-! ### _law_penned -/
abbrev s__law_penned : Stmt := top 51
theorem sc__law_penned : FnScope ["pen", "row", "letters", "found", "letter", "more"] ["pen", "row", "letters"] (defScope s__law_penned) := ⟨rfl, rfl, rfl, by decide +kernel, rfl, by decide +kernel, by decide +kernel⟩
theorem ok__law_penned (F : Fun K "_law_penned" "_law_penned" s__law_penned f fd) (B : BI mg) : FnOk P w K mg base CX0 1 f fd ["pen", "row", "letters"] (p_read_from K) := by
  refine F.ok sc__law_penned (fun vs H Q E h => len_f3 h) (fun cdv A outer s H vs Q E hr h => go3 h fun F0 a b c x y u d sm ra rb rc e ev q => ?_)
  subst ev
  obtain ⟨a0, rs, t, i, z, rfl, rfl, rfl, hrs, hi, hz, hl, rfl⟩ := pen_in e
  cases rb
  refine ⟨_, (pss_cons (ps_set (i := 3) sc__law_penned.nd rfl (Or.inl rfl) pe_str)
        (pss_cons (ps_for PassesOwn.never rfl (pi_str (pv 2)) (pg_name (i := 4) sc__law_penned.nd rfl (Or.inl rfl) (hf := (Or.inr rfl))) (pss_cons (ps_asg (pe_ix (r := rIxT K) ix_tup (pe_ix (r := rIxT K) ix_tup (pe_ix (r := rIxT K) ix_tup (pv 0) pe_int (fun _ _ => rfl)) (pv 1) (fun _ _ => rfl)) (pe_idx pe_str (pv 4)) (fun _ _ => rfl)) (pg_tup rfl (pgs_cons (pg_name (i := 1) sc__law_penned.nd rfl (Or.inl rfl) (hf := (Or.inr rfl))) (pgs_cons (pg_name (i := 5) sc__law_penned.nd rfl (Or.inl rfl) (hf := (Or.inr rfl))) pgs_nil))))
        (pss_one (ps_set (i := 3) sc__law_penned.nd rfl (Or.inl rfl) (pe_op op_add_str (pv 3) (pv 5))))))
        (pss_one (ps_ret (pe_tup (pa_cons (pv 1) (pa_cons (pv 3) pa_nil))))))), ?_⟩
  have hz' := List.all_eq_true.mp hz
  refine s_set (K := K) (F := F0) (ev_str (x := "")) sm fun v0 F1 H1 g1 r1 => ?_
  cases r1
  refine s_for (K := K) (F := F1) (ds := signs z) g1.i (ew_str (ev_var ⟨u, rfl, rc.up g1.f⟩)) fun F2 H2 g2 =>
    ⟨fun t σ' F' H' => Grow F0 H F' H' ∧ Same F2 F' ∧ ∃ y4 y5, σ' = [some x, some (.int (rowP rs i ((signs z).take t) : Nat)), some u, some (.str (catS (sayP rs i ((signs z).take t)))), y4, y5], ⟨g1.trans g2, Same.refl _, none, none, rfl⟩, fun t σ' F' H' hI => ⟨hI.2.1, hI.1.i⟩, fun t d σ' F' H' hd hI F3 H3 v g3 rv => ?_, fun σ' F' H' hI => ?_⟩
  · obtain ⟨gI, sI, y4, y5, rfl⟩ := hI
    have hmem := List.mem_of_getElem? hd
    have habc := hz' d hmem
    have ht : ∀ e ∈ (signs z).take t, isAbc e = true := fun e he => hz' e (List.mem_of_mem_take he)
    refine tk_name v H3 g3.i rv _ fun σ2 hσ => ?_
    obtain ⟨v', rfl, rv'⟩ := hσ
    have S3 : Same F0 F3 := gI.f.trans g3.f
    have hlt := rowP_lt hrs ht hi
    refine ev_cell (K := K) (F := F3) (x := x) (v := v') (z := z) rfl (ra.up S3) rfl rfl rv' hrs hlt hmem habc H3 g3.i _ fun v4 F4 H4 g4 r4 => ?_
    refine tk_two v4 H4 g4.i r4 _ fun σ3 hσ3 => ?_
    obtain ⟨w1, w2, rfl, q1, q2⟩ := hσ3
    cases q1
    cases q2
    have h8 := (pen_step hrs hlt (idx_lt habc)).choose_spec.2.2.2
    have hsum := sayP_sum hrs (ls := (signs z).take t) ht hi
    have htl : ((signs z).take t).length ≤ 100000 := by
      rw [List.length_take, signs_len]
      omega
    have hcl := catS_len (sayP rs i ((signs z).take t))
    refine s_set (K := K) (σ := [some x, some (.int (penGo rs (rowP rs i ((signs z).take t)) (idxD d) : Nat)), some u, some (.str (catS (sayP rs i ((signs z).take t)))), some v', some (.str (penSay rs (rowP rs i ((signs z).take t)) (idxD d)))]) (F := F4) (ev_op (ev_var (i := 3) ⟨_, rfl, .str _⟩) (ev_var (i := 5) ⟨_, rfl, .str _⟩) (rv_addS (x := catS (sayP rs i ((signs z).take t))) (y := penSay rs (rowP rs i ((signs z).take t)) (idxD d)) (by have := line_big; omega))) g4.i fun v5 F5 H5 g5 r5 => ?_
    cases r5
    refine ⟨F5, ((gI.trans g3).trans g4).trans g5, sI.trans ((g3.f.trans g4.f).trans g5.f), some v', some (.str (penSay rs (rowP rs i ((signs z).take t)) (idxD d))), ?_⟩
    have eT : (signs z).take (t + 1) = (signs z).take t ++ [d] := by rw [List.take_add_one, hd]; rfl
    rw [eT, rowP_snoc, sayP_snoc, cat_snoc]
    rfl
  · obtain ⟨gI, sI, y4, y5, rfl⟩ := hI
    rw [List.take_length]
    exact s_ret (K := K) (F := F') (ev_tup (ea_cons (ev_var (i := 1) ⟨_, rfl, .int _⟩) (ea_cons (ev_var (i := 3) ⟨_, rfl, .str _⟩) ea_nil)) two_small) gI.i fun v F3 H3 g3 r3 => q v F3 H3 (gI.trans g3) r3
/-! ### read_from -/
abbrev s_read_from : Stmt := top 32
theorem sc_read_from : FnScope ["scribe", "row", "text", "told", "letter", "letters"] ["scribe", "row", "text"] (defScope s_read_from) := ⟨rfl, rfl, rfl, by decide +kernel, rfl, by decide +kernel, by decide +kernel⟩
theorem ok_read_from (F : Fun K "read_from" "read_from" s_read_from f fd) (B : BI mg) (T : CsP mg) : FnOk P w K mg base CX0 1 f fd ["scribe", "row", "text"] (p_read_from K) := by
  refine F.ok sc_read_from (fun vs H Q E h => len_f3 h) (fun cdv A outer s H vs Q E hr h => go3 h fun F0 a b c x y u d sm ra rb rc e ev q => ?_)
  subst ev
  obtain ⟨a0, rs, t, i, z, rfl, rfl, rfl, hrs, hi, hz, hl, rfl⟩ := pen_in e
  cases rb
  refine ⟨_, (pss_cons (ps_set (i := 3) sc_read_from.nd rfl (Or.inl rfl) (pe_lst pa_nil))
        (pss_cons (ps_for PassesOwn.never rfl (pi_str (pv 2)) (pg_name (i := 4) sc_read_from.nd rfl (Or.inl rfl) (hf := (Or.inr rfl))) (pss_cons (ps_asg (pe_ix (r := rIxT K) ix_tup (pe_ix (r := rIxT K) ix_tup (pe_ix (r := rIxT K) ix_tup (pv 0) pe_int (fun _ _ => rfl)) (pv 1) (fun _ _ => rfl)) (pe_idx (pe_gc (by rfl) T.c_LETTERS) (pv 4)) (fun _ _ => rfl)) (pg_tup rfl (pgs_cons (pg_name (i := 1) sc_read_from.nd rfl (Or.inl rfl) (hf := (Or.inr rfl))) (pgs_cons (pg_name (i := 5) sc_read_from.nd rfl (Or.inl rfl) (hf := (Or.inr rfl))) pgs_nil))))
        (pss_one (ps_expr (pe_bm PySem.F.plainAttrs_list PySem.F.slot_list_append PySem.F.type_list_append mt_append (pv 3) (pa_cons (pv 5) pa_nil))))))
        (pss_one (ps_ret (pe_tup (pa_cons (pv 1) (pa_cons (pe_join pe_str (pv 3)) pa_nil))))))), ?_⟩
  have hz' := List.all_eq_true.mp hz
  refine s_newL (K := K) (F := F0) (ds := []) ea_nil sm (Nat.zero_le _) fun p vs F1 H1 g1 hp rvs => ?_
  cases rvs
  have hHp : H p = none := by
    cases e0 : H p with
    | none => rfl
    | some o =>
      rw [g1.h p o e0] at hp
      cases hp
  have hFp : F1 p = none := g1.i.free hp
  have G1 : Grow F0 H F1 (upd H1 p (.lst [])) := grow_put g1 hFp hHp
  refine s_for (K := K) (F := F1) (ds := signs z) G1.i (ew_str (ev_var ⟨u, rfl, rc.up g1.f⟩)) fun F2 H2 g2 =>
    ⟨fun t σ' F' H' => Grow F0 H F' H' ∧ Same F2 F' ∧ F' p = none ∧ H' p = some (.lst ((sayP rs i ((signs z).take t)).map V.str)) ∧ ∃ y4 y5, σ' = [some x, some (.int (rowP rs i ((signs z).take t) : Nat)), some u, some (.ref p), y4, y5],
      ⟨G1.trans g2, Same.refl _, free_grow g2 hFp upd_same, g2.h _ _ upd_same, none, none, rfl⟩, fun t σ' F' H' hI => ⟨hI.2.1, hI.1.i⟩, fun t d σ' F' H' hd hI F3 H3 v g3 rv => ?_, fun σ' F' H' hI => ?_⟩
  · obtain ⟨gI, sI, fp, hp', y4, y5, rfl⟩ := hI
    have hmem := List.mem_of_getElem? hd
    have habc := hz' d hmem
    have ht : ∀ e ∈ (signs z).take t, isAbc e = true := fun e he => hz' e (List.mem_of_mem_take he)
    refine tk_name v H3 g3.i rv _ fun σ2 hσ => ?_
    obtain ⟨v', rfl, rv'⟩ := hσ
    have S3 : Same F0 F3 := gI.f.trans g3.f
    have hlt := rowP_lt hrs ht hi
    have fp3 := free_grow g3 fp hp'
    have hp3 := g3.h _ _ hp'
    refine ev_cell (K := K) (F := F3) (x := x) (v := v') (z := z) rfl (ra.up S3) rfl rfl rv' hrs hlt hmem habc H3 g3.i _ fun v4 F4 H4 g4 r4 => ?_
    have fp4 := free_grow g4 fp3 hp3
    have hp4 := g4.h _ _ hp3
    refine tk_two v4 H4 g4.i r4 _ fun σ3 hσ3 => ?_
    obtain ⟨w1, w2, rfl, q1, q2⟩ := hσ3
    cases q1
    cases q2
    have htl : ((signs z).take t).length ≤ 100000 := by
      rw [List.length_take, signs_len]
      omega
    refine s_app (K := K) (d := .str (penSay rs (rowP rs i ((signs z).take t)) (idxD d))) (now_var (v := .ref p) rfl) hp4 (by rw [List.length_map, sayP_len]; have := line_big; omega) (ev_var (σ := [some x, some (.int (penGo rs (rowP rs i ((signs z).take t)) (idxD d) : Nat)), some u, some (.ref p), some v', some (.str (penSay rs (rowP rs i ((signs z).take t)) (idxD d)))]) (i := 5) ⟨_, rfl, .str _⟩) fun v5 F5 H5 g5 r5 => ?_
    cases r5
    have G4 : Grow F0 H F4 H5 := grow_wide ((gI.trans g3).trans g4) g5.h
    refine ⟨F4, grow_put G4 fp4 hHp, sI.trans (g3.f.trans g4.f), fp4, ?_, some v', some (.str (penSay rs (rowP rs i ((signs z).take t)) (idxD d))), ?_⟩
    · have eT : (signs z).take (t + 1) = (signs z).take t ++ [d] := by rw [List.take_add_one, hd]; rfl
      rw [upd_same, eT, sayP_snoc, List.map_append]
      rfl
    · have eT : (signs z).take (t + 1) = (signs z).take t ++ [d] := by rw [List.take_add_one, hd]; rfl
      rw [eT, rowP_snoc]
      rfl
  · obtain ⟨gI, sI, fp, hp', y4, y5, rfl⟩ := hI
    rw [List.take_length] at hp' ⊢
    have G2 := grow_thaw gI fp hp' hHp
    have hsum := sayP_sum hrs hz' hi
    have e3 : EvD K (tVar 3) [some x, some (.int (rowP rs i (signs z) : Nat)), some u, some (.ref p), y4, y5] (upd F' p (.lst ((sayP rs i (signs z)).map V.str))) (.list ((sayP rs i (signs z)).map .str)) := ev_var ⟨_, rfl, .lst (.inl (.inl upd_same)) (dps_ofStr _)⟩
    exact s_ret (K := K) (ev_tup (ea_cons (ev_var (i := 1) ⟨_, rfl, .int _⟩) (ea_cons (ev_join e3 (by rw [signs_len] at hsum; omega)) ea_nil)) two_small) G2.i fun v F3 H3 g3 r3 => q v F3 H3 (G2.trans g3) r3
end
end Sx
set_option Elab.async false
set_option linter.all false
set_option maxRecDepth 100000
set_option maxHeartbeats 2000000
namespace Sx
open PySem PySem.Spec PyProof.Rows L2
open C8 (Cal pe_c pe_gc)
/-! ### what a scribe writes -/
def endAt (ts : List PyData) (i : Nat) (told : Str) : PyData := match ts.getD i .none with
  | .str e => .str (told ++ e)
  | _ => .none
def copyD (rs ts : List PyData) (i : Nat) (z : Str) : PyData := endAt ts (rowP rs i (signs z)) (catS (sayP rs i (signs z)))
theorem scribe_are {d : PyData} (h : isScribe d = true) : ∃ rs ts, d = .tuple [.str "scribe", .tuple rs, .tuple ts] ∧ pensOk rs = true ∧ 1 ≤ rs.length ∧ rs.length ≤ 4 ∧ ts.length = rs.length ∧ ts.all isEnd = true := by
  unfold isScribe at h
  split at h
  · rename_i a rs t
    rw [Bool.and_eq_true, Bool.and_eq_true, Bool.and_eq_true, Bool.and_eq_true, Bool.and_eq_true, decide_eq_true_iff, decide_eq_true_iff] at h
    obtain ⟨h1, ⟨⟨h2, h3⟩, h4⟩, h5, h6⟩ := h
    obtain ⟨ts, rfl, hts⟩ := row_is h4
    cases a with
    | str y =>
      have e : y = "scribe" := of_decide_eq_true h1
      subst e
      exact ⟨rs, ts, rfl, h5, by omega, by omega, by omega, h6⟩
    | _ => cases h1
  · cases h
def g_end (a b c : PyData) : Option PyData := match a, b, c with
  | .tuple [_, .tuple rs, .tuple ts], .int i, .str z => if (pensOk rs && (decide (ts.length = rs.length) && ts.all isEnd)) && ((decide (0 ≤ i) && decide (i < (rs.length : Int))) && ((signs z).all isAbc && decide (z.length ≤ 100000))) then some (copyD rs ts i.toNat z) else none
  | _, _, _ => none
theorem end_is {a0 : PyData} {rs ts : List PyData} {i : Nat} {z : Str} (h : pensOk rs = true) (hl : ts.length = rs.length) (he : ts.all isEnd = true) (hi : i < rs.length) (hz : (signs z).all isAbc = true) (hzl : z.length ≤ 100000) : g_end (.tuple [a0, .tuple rs, .tuple ts]) (.int (i : Int)) (.str z) = some (copyD rs ts i z) := by
  show (if (pensOk rs && (decide (ts.length = rs.length) && ts.all isEnd)) && ((decide (0 ≤ (i : Int)) && decide ((i : Int) < (rs.length : Int))) && ((signs z).all isAbc && decide (z.length ≤ 100000))) then some (copyD rs ts (i : Int).toNat z) else none) = _
  rw [h, hz, decide_eq_true hl, he, decide_eq_true (show 0 ≤ (i : Int) by omega), decide_eq_true (show (i : Int) < (rs.length : Int) by omega), decide_eq_true hzl]
  rfl
theorem end_in {a b c d : PyData} (e : g_end a b c = some d) : ∃ a0 rs ts, ∃ i : Nat, ∃ z, a = .tuple [a0, .tuple rs, .tuple ts] ∧ b = .int (i : Int) ∧ c = .str z ∧ pensOk rs = true ∧ ts.length = rs.length ∧ ts.all isEnd = true ∧ i < rs.length ∧ (signs z).all isAbc = true ∧ z.length ≤ 100000 ∧ d = copyD rs ts i z := by
  unfold g_end at e
  split at e
  · rename_i a0 rs ts i z
    split at e
    case isFalse => cases e
    rename_i hc
    cases e
    simp only [Bool.and_eq_true, decide_eq_true_iff] at hc
    obtain ⟨⟨h1, h2, h3⟩, ⟨h4, h5⟩, h6, h7⟩ := hc
    exact ⟨a0, rs, ts, i.toNat, z, rfl, congrArg PyData.int (by omega), rfl, h1, h2, h3, by omega, h6, h7, rfl⟩
  · cases e
def isStr2 : PyData → Bool
  | .str z => decide (z.length ≤ 8)
  | _ => false
theorem end_cases {d : PyData} (h : isEnd d = true) : d = .none ∨ ∃ z, d = .str z ∧ z.length ≤ 8 := by
  cases d with
  | none => exact .inl rfl
  | str z =>
    have h' : ((signs z).all isAbc && decide ((z.length : Int) ≤ 8)) = true := h
    rw [Bool.and_eq_true, decide_eq_true_iff] at h'
    exact .inr ⟨z, rfl, by omega⟩
  | _ => cases h
section
variable {P : Program} {w : World} {K : PySem.W.Frag} {mg : Str → Option Value} {base : Heap} {f : Addr} {fd : FuncData} {CW CT CP fI : Addr} {F : Hp}
/-- None if the end is None, else told + the end -/
theorem ev_end {σ : L2.St} {F : Hp} {x : V} {a0 : PyData} {rs ts : List PyData} {i kr kt : Nat} {told : Str} (h0 : σ[0]? = some (some x)) (rx : Dq K F x (.tuple [a0, .tuple rs, .tuple ts])) (hr : σ[kr]? = some (some (.int (i : Int)))) (ht : σ[kt]? = some (some (.str told))) (hi : i < ts.length) (he : ts.all isEnd = true) (hl : told.length ≤ 800000) :
    EvD K (tIf (tTest (tOp rIsN (tOp (rIxT K) (tOp (rIxT K) (tVar 0) (tC (.int 2))) (tVar kr)) (tC .non))) (tC .non) (tOp rAddS (tVar kt) (tOp (rIxT K) (tOp (rIxT K) (tVar 0) (tC (.int 2))) (tVar kr)))) σ F (endAt ts i told) := by
  have e1 : ts[i]? = some ts[i] := List.getElem?_eq_getElem hi
  have q1 : EvD K (tOp (rIxT K) (tOp (rIxT K) (tVar 0) (tC (.int 2))) (tVar kr)) σ F ts[i] := ev_op (ev_op (ev_var ⟨x, h0, rx⟩) (ev_int (i := 2)) (rv_ixT (k := 2) rfl)) (ev_var ⟨_, hr, .int _⟩) (rv_ixT e1)
  have hd := List.all_eq_true.mp he ts[i] (List.getElem_mem hi)
  have ee : endAt ts i told = match ts[i] with | .str e => .str (told ++ e) | _ => .none := by
    unfold endAt
    rw [getD_is e1]
  rcases end_cases hd with e | ⟨z, e, hz⟩
  · rw [ee, e]
    rw [e] at q1
    exact ev_if (eb_test (ev_isN q1)) (fun _ => ev_non) fun z => nomatch z
  · rw [ee, e]
    rw [e] at q1
    exact ev_if (b := false) (eb_test (ev_isN q1)) (fun z => nomatch z) fun _ => ev_op (ev_var ⟨_, ht, .str _⟩) q1 (rv_addS (by have := line_big; omega))
/-! ### read_to_end -/
abbrev s_read_to_end : Stmt := top 33
theorem sc_read_to_end : FnScope ["scribe", "row", "text", "behind", "told"] ["scribe", "row", "text"] (defScope s_read_to_end) := ⟨rfl, rfl, rfl, by decide +kernel, rfl, by decide +kernel, by decide +kernel⟩
abbrev p_read_to_end (K : PySem.W.Frag) : Sp := spD K (f3 g_end)
theorem say_small {rs : List PyData} {i : Nat} {z : Str} (h : pensOk rs = true) (hi : i < rs.length) (hz : (signs z).all isAbc = true) (hzl : z.length ≤ 100000) : (catS (sayP rs i (signs z))).length ≤ 800000 := by
  have := sayP_sum h (ls := signs z) (List.all_eq_true.mp hz) hi
  rw [catS_len]
  rw [signs_len] at this
  omega
theorem ok_read_to_end (F : Fun K "read_to_end" "read_to_end" s_read_to_end f fd) (c_read_from : Cal P w K mg base 1 "read_from" (p_read_from K) []) : FnOk P w K mg base CX0 2 f fd ["scribe", "row", "text"] (p_read_to_end K) := by
  refine F.ok sc_read_to_end (fun vs H Q E h => len_f3 h) (fun cdv A outer s H vs Q E hr h => go3 h fun F0 a b c x y u d sm ra rb rc e ev q => ?_)
  subst ev
  obtain ⟨a0, rs, ts, i, z, rfl, rfl, rfl, hrs, hl, he, hi, hz, hzl, rfl⟩ := end_in e
  refine ⟨_, (pss_cons (ps_asg (pe_c c_read_from hr (by first | decide | omega) (by rfl) (pa_cons (pv 0) (pa_cons (pv 1) (pa_cons (pv 2) pa_nil)))) (pg_tup rfl (pgs_cons (pg_name (i := 3) sc_read_to_end.nd rfl (Or.inl rfl) (hf := (Or.inr rfl))) (pgs_cons (pg_name (i := 4) sc_read_to_end.nd rfl (Or.inl rfl) (hf := (Or.inr rfl))) pgs_nil))))
        (pss_one (ps_ret (pe_ifExp (pt_cmpR (op_isN) (pe_ix (r := rIxT K) ix_tup (pe_ix (r := rIxT K) ix_tup (pv 0) pe_int (fun _ _ => rfl)) (pv 3) (fun _ _ => rfl)) pe_non (nomark _)) pe_non (pe_op op_add_str (pv 4) (pe_ix (r := rIxT K) ix_tup (pe_ix (r := rIxT K) ix_tup (pv 0) pe_int (fun _ _ => rfl)) (pv 3) (fun _ _ => rfl))))))), ?_⟩
  refine (?_ : Ret K _ _ F0 _) H sm _ q
  have q1 := ev_call (K := K) (f := f3 g_pen) (E := C8.E0) (σ := start ["scribe", "row", "text", "behind", "told"] [x, y, u]) (F := F0) (ea_cons (ev_var (i := 0) ⟨x, rfl, ra⟩) (ea_cons (ev_var (i := 1) ⟨y, rfl, rb⟩) (ea_cons (ev_var (i := 2) ⟨u, rfl, rc⟩) ea_nil))) (pen_is (i := i) hrs hi hz hzl)
  refine r_asg q1 (fun F' _ => tk_two) fun σ2 F1 g1 hσ => ?_
  obtain ⟨v1, v2, rfl, r1, r2⟩ := hσ
  cases r1
  cases r2
  exact r_ret (ev_end (rs := rs) (kr := 3) (kt := 4) rfl (ra.up g1) rfl rfl (by rw [hl]; exact rowP_lt hrs (List.all_eq_true.mp hz) hi) he (say_small hrs hi hz hzl))
/-! ### _law_copied -/
abbrev s__law_copied : Stmt := top 52
theorem sc__law_copied : FnScope ["pen", "letters", "row", "found"] ["pen", "letters"] (defScope s__law_copied) := ⟨rfl, rfl, rfl, by decide +kernel, rfl, by decide +kernel, by decide +kernel⟩
def g_copied (a c : PyData) : Option PyData := g_end a (.int 0) c
abbrev p__law_copied (K : PySem.W.Frag) : Sp := spD K (f2 g_copied)
theorem ok__law_copied (F : Fun K "_law_copied" "_law_copied" s__law_copied f fd) (c__law_penned : Cal P w K mg base 1 "_law_penned" (p_read_from K) []) : FnOk P w K mg base CX0 2 f fd ["pen", "letters"] (p__law_copied K) := by
  refine F.ok sc__law_copied (fun vs H Q E h => len_f2 h) (fun cdv A outer s H vs Q E hr h => go2 h fun F0 a c x u d sm ra rc e ev q => ?_)
  subst ev
  obtain ⟨a0, rs, ts, i, z, rfl, ei, rfl, hrs, hl, he, hi, hz, hzl, rfl⟩ := end_in e
  have ei' : i = 0 := by
    have := PyData.int.inj ei
    omega
  subst ei'
  refine ⟨_, (pss_cons (ps_asg (pe_c c__law_penned hr (by first | decide | omega) (by rfl) (pa_cons (pv 0) (pa_cons pe_int (pa_cons (pv 1) pa_nil)))) (pg_tup rfl (pgs_cons (pg_name (i := 2) sc__law_copied.nd rfl (Or.inl rfl) (hf := (Or.inr rfl))) (pgs_cons (pg_name (i := 3) sc__law_copied.nd rfl (Or.inl rfl) (hf := (Or.inr rfl))) pgs_nil))))
        (pss_one (ps_ret (pe_ifExp (pt_cmpR (op_isN) (pe_ix (r := rIxT K) ix_tup (pe_ix (r := rIxT K) ix_tup (pv 0) pe_int (fun _ _ => rfl)) (pv 2) (fun _ _ => rfl)) pe_non (nomark _)) pe_non (pe_op op_add_str (pv 3) (pe_ix (r := rIxT K) ix_tup (pe_ix (r := rIxT K) ix_tup (pv 0) pe_int (fun _ _ => rfl)) (pv 2) (fun _ _ => rfl))))))), ?_⟩
  refine (?_ : Ret K _ _ F0 _) H sm _ q
  have q1 := ev_call (K := K) (f := f3 g_pen) (E := C8.E0) (σ := start ["pen", "letters", "row", "found"] [x, u]) (F := F0) (ea_cons (ev_var (i := 0) ⟨x, rfl, ra⟩) (ea_cons (ev_int (i := 0)) (ea_cons (ev_var (i := 1) ⟨u, rfl, rc⟩) ea_nil))) (pen_is (i := 0) hrs hi hz hzl)
  refine r_asg q1 (fun F' _ => tk_two) fun σ2 F1 g1 hσ => ?_
  obtain ⟨v1, v2, rfl, r1, r2⟩ := hσ
  cases r1
  cases r2
  exact r_ret (ev_end (rs := rs) (kr := 2) (kt := 3) rfl (ra.up g1) rfl rfl (by rw [hl]; exact rowP_lt hrs (List.all_eq_true.mp hz) hi) he (say_small hrs hi hz hzl))
/-! ### scribed -/
abbrev s_scribed : Stmt := top 34
theorem sc_scribed : FnScope ["scribe", "text"] ["scribe", "text"] (defScope s_scribed) := ⟨rfl, rfl, rfl, by decide +kernel, rfl, by decide +kernel, by decide +kernel⟩
def endsD (d : PyData) : List PyData := match d with
  | .tuple [_, _, .tuple ts] => ts
  | _ => []
def scribedD (a t : PyData) : PyData := copyD (rowsD a) (endsD a) 0 (strOf t)
abbrev p_scribed (K : PySem.W.Frag) (CP CT : Addr) : Sp := spY K (x2 (g_two isScribe CP CT scribedD))
theorem fits_100 {z : Str} (h : fitsA (.str z) = true) : z.length ≤ 100000 := by
  rw [fitsA_iff] at h
  simp only [weight] at h
  omega
theorem ok_scribed (F : Fun K "scribed" "scribed" s_scribed f fd) (c_check_scribe : CalX P w K mg base 5 "check_scribe" ["scribe"] (p_check_scribe K CP)) (c_check_text : CalX P w K mg base 4 "check_text" ["text"] (p_check_text K CT)) (c_read_to_end : Cal P w K mg base 2 "read_to_end" (p_read_to_end K) []) :
    FnOk P w K mg base (L2.CX P w) 6 f fd ["scribe", "text"] (p_scribed K CP CT) := by
  refine F.okX sc_scribed (fun vs H Q E h => len_y2 h) (fun cdv A outer s H vs Q E hr h => two_in h fun F0 a t x y sm ra rb ev fa ft hcase => ?_)
  subst ev
  refine ⟨_, (pss_cons (ps_expr (pe_cx c_check_scribe hr (by first | decide | omega) (by rfl) (passes_call (takes_of rfl rfl rfl rfl) (fun _ _ _ _ h => h)) (pa_cons (pv 0) pa_nil)))
        (pss_cons (ps_expr (pe_cx c_check_text hr (by first | decide | omega) (by rfl) (passes_call (takes_of rfl rfl rfl rfl) (fun _ _ _ _ h => h)) (pa_cons (pv 1) pa_nil)))
        (pss_one (ps_ret (pe_c c_read_to_end hr (by first | decide | omega) (by rfl) (pa_cons (pv 0) (pa_cons pe_int (pa_cons (pv 1) pa_nil)))))))), ?_⟩
  have s0 : Slot K (start ["scribe", "text"] [x, y]) F0 0 a := ⟨x, rfl, ra⟩
  rcases hcase with ⟨h1, qe⟩ | ⟨h1, h2, qe⟩ | ⟨h1, h2, q⟩
  · exact call_raisesY (K := K) (ea_cons (ev_var s0) ea_nil) sm (check_no fa h1) qe
  · refine s_drop (ev_callY (K := K) (ea_cons (ev_var s0) ea_nil) (check_ok fa h1)) sm fun F1 H1 g1 => ?_
    have s1 : Slot K (start ["scribe", "text"] [x, y]) F1 1 t := ⟨y, rfl, rb.up g1.f⟩
    exact call_raisesY (K := K) (ea_cons (ev_var s1) ea_nil) g1.i (check_no ft h2) (qe.up g1.h)
  · refine s_drop (ev_callY (K := K) (ea_cons (ev_var s0) ea_nil) (check_ok fa h1)) sm fun F1 H1 g1 => ?_
    have s1 : Slot K (start ["scribe", "text"] [x, y]) F1 1 t := ⟨y, rfl, rb.up g1.f⟩
    refine s_drop (ev_callY (K := K) (ea_cons (ev_var s1) ea_nil) (check_ok ft h2)) g1.i fun F2 H2 g2 => ?_
    obtain ⟨rs, ts, rfl, hrs, l1, l4, hl, he⟩ := scribe_are h1
    obtain ⟨z, rfl, hzz⟩ := text_is h2
    have S2 : Same F0 F2 := g1.f.trans g2.f
    have q1 := ev_call (K := K) (f := f3 g_end) (E := C8.E0) (σ := start ["scribe", "text"] [x, y]) (F := F2) (ea_cons (ev_var (i := 0) ⟨x, rfl, ra.up S2⟩) (ea_cons (ev_int (i := 0)) (ea_cons (ev_var (i := 1) ⟨y, rfl, rb.up S2⟩) ea_nil))) (show f3 g_end _ = some (copyD rs ts 0 z) from end_is (a0 := .str "scribe") (i := 0) hrs hl he (by omega) hzz (fits_100 ft))
    exact s_ret (K := K) q1 g2.i fun v F3 H3 g3 r3 => q v F3 H3 ((g1.trans g2).trans g3) r3
end
end Sx
set_option Elab.async false
set_option linter.all false
set_option maxRecDepth 100000
set_option maxHeartbeats 4000000
namespace Sx
open PySem PySem.Spec PyProof.Rows L2
open C8 (Cal pe_c pe_gc)
theorem rv_neI {K : PySem.W.Frag} {x y : Int} : RvD K rNe (.int x) (.int y) (.bool (!decide (x = y))) := fun F u v H s a b Q q => by
  cases a
  cases b
  refine ⟨rfl, ?_⟩
  have e : (!decide (V.int x = V.int y)) = (!decide (x = y)) := congrArg (!·) (decide_eq_decide.mpr ⟨fun h => V.int.inj h, fun h => congrArg _ h⟩)
  rw [e]
  exact q _ F H (.start s) (.bl _)
theorem rv_neS {K : PySem.W.Frag} {x y : Str} : RvD K rNe (.str x) (.str y) (.bool (!decide (x = y))) := fun F u v H s a b Q q => by
  cases a
  cases b
  refine ⟨rfl, ?_⟩
  have e : (!decide (V.str x = V.str y)) = (!decide (x = y)) := congrArg (!·) (decide_eq_decide.mpr ⟨fun h => V.str.inj h, fun h => congrArg _ h⟩)
  rw [e]
  exact q _ F H (.start s) (.bl _)
theorem risesI_iff : ∀ ns : List Int, risesD (ns.map .int) = true ↔ ns.Pairwise (· < ·)
  | [] => ⟨fun _ => .nil, fun _ => rfl⟩
  | [a] => ⟨fun _ => by simp, fun _ => rfl⟩
  | a :: b :: r => by
    have ih := risesI_iff (b :: r)
    have e : risesD ((a :: b :: r).map .int) = (decide (a < b) && risesD ((b :: r).map .int)) := rfl
    rw [e, Bool.and_eq_true, ih, decide_eq_true_iff, List.pairwise_cons (l := b :: r)]
    constructor
    · rintro ⟨h1, h2⟩
      refine ⟨fun y hy => ?_, h2⟩
      rcases List.mem_cons.mp hy with z | z
      · rw [z]
        exact h1
      · have := (List.pairwise_cons.mp h2).1 y z
        omega
    · rintro ⟨h1, h2⟩
      exact ⟨h1 b List.mem_cons_self, h2⟩
def headOk (word : Str) (a : PyData) : Bool := match a with
  | .tuple [a0, _, _] => isWord a0 word
  | _ => false
theorem head_is {word : Str} {a : PyData} (h : headOk word a = true) : ∃ r t, a = .tuple [.str word, r, t] := by
  unfold headOk at h
  split at h
  · rename_i a0 r t
    cases a0 with
    | str y =>
      have e : y = word := of_decide_eq_true h
      subst e
      exact ⟨r, t, rfl⟩
    | _ => cases h
  · cases h
theorem words_head {a : PyData} (h : headOk "words" a = false) : isWords a = false := by
  unfold isWords
  split
  · rename_i a0 rs t
    have h' : isWord a0 "words" = false := h
    rw [h', Bool.false_and]
  · rfl
theorem scribe_head {a : PyData} (h : headOk "scribe" a = false) : isScribe a = false := by
  unfold isScribe
  split
  · rename_i a0 rs t
    have h' : isWord a0 "scribe" = false := h
    rw [h', Bool.false_and]
  · rfl
theorem tup_of {d : PyData} (h : isTup d = true) : ∃ xs, d = .tuple xs := by
  cases d with
  | tuple xs => exact ⟨xs, rfl⟩
  | _ => cases h
section
variable {P : Program} {w : World} {K : PySem.W.Frag} {mg : Str → Option Value} {base : Heap} {f : Addr} {fd : FuncData} {CW CT CP fI : Addr} {F : Hp} {σ : L2.St}
theorem head_test {word : Str} {a : PyData} {x : V} (h0 : σ[0]? = some (some x)) (ra : Dq K F x a) :
    EvB (tOr (tNot (tB (tCB (rIsi K) (tCons (tVar 0) (tCons (tC (.ty "tuple")) tNil))))) (tOr (tTest (tOp rNe (tCB (rLen0 K) (tCons (tVar 0) tNil)) (tC (.int 3)))) (tOr (tNot (tB (tCB (rIsi K) (tCons (tOp (rIxT K) (tVar 0) (tC (.int 0))) (tCons (tC (.ty "str")) tNil))))) (tTest (tOp rNe (tOp (rIxT K) (tVar 0) (tC (.int 0))) (tC (.str word))))))) σ F (!headOk word a) := by
  have hw := eb_not (eb_val (ev_isi (ev_var (K := K) (F := F) (σ := σ) ⟨x, h0, ra⟩) (kit_tup a)))
  by_cases ht : isTup a = true
  case neg =>
    have ht' : isTup a = false := Bool.eq_false_iff.mpr ht
    rw [ht'] at hw
    have e0 : headOk word a = false := by cases a <;> first | rfl | exact absurd rfl ht
    rw [e0]
    exact eb_or (c := false) hw fun z => nomatch z
  obtain ⟨xs, rfl⟩ := tup_of ht
  have hw2 := eb_test (ev_op (ev1 (ev_var (K := K) (F := F) (σ := σ) ⟨x, h0, ra⟩) rc_lenT) (ev_int (i := 3)) rv_neI)
  by_cases h3 : xs.length = 3
  case neg =>
    have e5 : (!decide ((xs.length : Int) = 3)) = true := by
      rw [Bool.not_eq_true', decide_eq_false_iff_not]
      omega
    rw [e5] at hw2
    have e0 : headOk word (.tuple xs) = false := by
      unfold headOk
      split
      · rename_i e
        cases e
        exact absurd rfl h3
      · rfl
    rw [e0]
    exact eb_or hw fun _ => eb_or (c := false) hw2 fun z => nomatch z
  obtain ⟨a0, r, t, rfl⟩ := tri h3
  have ix : EvD K (tOp (rIxT K) (tVar 0) (tC (.int 0))) σ F a0 := ev_op (ev_var ⟨x, h0, ra⟩) (ev_int (i := 0)) (rv_ixT (k := 0) rfl)
  have hw3 := eb_not (eb_val (ev_isi ix (kit_str a0)))
  show EvB _ σ F (!isWord a0 word)
  cases a0 with
  | str z => exact (eb_or hw fun _ => eb_or hw2 fun _ => eb_or hw3 fun _ => eb_test (ev_op ix (ev_str (x := word)) rv_neS)).is rfl
  | _ => exact (eb_or hw fun _ => eb_or hw2 fun _ => eb_or (c := false) hw3 fun z => nomatch z).is rfl
/-! ### _law_is_short -/
abbrev s__law_is_short : Stmt := top 54
theorem sc__law_is_short : FnScope ["thing", "letter"] ["thing"] (defScope s__law_is_short) := ⟨rfl, rfl, rfl, by decide +kernel, rfl, by decide +kernel, by decide +kernel⟩
theorem ok__law_is_short (F : Fun K "_law_is_short" "_law_is_short" s__law_is_short f fd) (B : BI mg) : FnOk P w K mg base CX0 1 f fd ["thing"] (p__is_told K) := by
  refine F.ok sc__law_is_short (fun vs H Q E h => len_f1 h) (fun cdv A outer s H vs Q E hr h => go1 h fun F0 a x d sm ra e ev q => ?_)
  subst ev
  have e' : (if fitsA a then some (PyData.bool (isTold a)) else none) = some d := e
  split at e'
  case isFalse => cases e'
  rename_i hz
  cases e'
  refine ⟨_, (pss_one (ps_ret (pe_and (pe_callB (r := rIsi K) (call_isi) (by rfl) B.isinstance (by decide +kernel) (pa_cons (pv 0) (pa_cons (pe_bltn (v := .ty "str") (by rfl) B.str_ (by decide +kernel) rfl) pa_nil))) (pe_and (pe_cmpR (op_le) (pe_callB (r := rLen0 K) (call_len) (by rfl) B.len (by decide +kernel) (pa_cons (pv 0) pa_nil)) pe_int (nomark _)) (pe_one (pe_cmpR (r := rEqEL K) (op_eqEL hr.units) (pe_lc (own := [("letter", 1)]) (g := (gName 1)) rfl sc__law_is_short.nd (pi_str (pv 0)) (blkOk_by (own := [("letter", 1)]) (N := ["thing", "letter"]) (sc := defScope s__law_is_short) (by decide +kernel)) (fun _ _ _ _ _ => (pg_name (i := 1) sc__law_is_short.nd rfl (Or.inl rfl) (hf := (Or.inr rfl)))) (fun _ _ _ _ _ => (pts_one (pt_cmpR (op_notIn_sign) (pv 1) pe_str (by rfl)))) (fun _ _ _ _ _ => pe_int)) (pe_lst pa_nil) (nomark _))))))), ?_⟩
  have s0 : Slot K (start ["thing", "letter"] [x]) F0 0 a := ⟨x, rfl, ra⟩
  refine (r_ret ?_ : Ret K _ _ F0 _) H sm _ q
  have hw := ev_isi (ev_var s0) (kit_str a)
  cases a with
  | str z =>
    refine (ev_and hw fun _ => ev_and (ev_op (ev1 (ev_var s0) (rc_lenS (Nat.le_of_lt (fits_str hz)))) (ev_int (i := 8)) (rv_bl (g := fun i j => decide (i ≤ j)))) fun _ => ev_noneE (K := K) isAbc (ew_str (ev_var s0)) (by rw [signs_len]; exact fits_str hz) fun d F' hd sF => ?_).is (congrArg PyData.bool ?_)
    · obtain ⟨c, _, rfl⟩ := sign_is hd
      refine tk_name.imp fun σ2 hσ => ?_
      obtain ⟨v, rfl, rv⟩ := hσ
      exact ⟨rfl, eb_test (ev_notAbc (ev_var ⟨v, rfl, rv⟩))⟩
    · show (true && (decide ((z.length : Int) ≤ 8) && (signs z).all isAbc)) = ((signs z).all isAbc && decide ((z.length : Int) ≤ 8))
      rw [Bool.true_and, Bool.and_comm]
  | _ => exact (ev_and (c := false) hw fun z => nomatch z).is rfl
/-! ### _law_is_machine -/
abbrev s__law_is_machine : Stmt := top 53
theorem sc__law_is_machine : FnScope ["thing", "row", "rows", "last", "goal"] ["thing"] (defScope s__law_is_machine) := ⟨rfl, rfl, rfl, by decide +kernel, rfl, by decide +kernel, by decide +kernel⟩
def fewW (d : PyData) : Bool := match d with
  | .tuple [_, _, .tuple ts] => decide (ts.length ≤ 60)
  | _ => true
def g_law_is_machine (d : PyData) : Option PyData := if fitsA d && fewW d then some (.bool (isWords d)) else none
abbrev p__law_is_machine (K : PySem.W.Frag) : Sp := spD K (f1 g_law_is_machine)
/-- a row of a machine, asked as the law asks it -/
theorem row_test {i j : Nat} {vr vb : V} {b : PyData} {rs : List PyData} (hi : σ[i]? = some (some vb)) (hj : σ[2]? = some (some vr)) (rb : Dq K F vb b) (rr : Dq K F vr (.tuple rs)) (hb : fitsA b = true) (h2 : ∀ v, ((wipe σ [j]).set j (some v))[2]? = some (some vr)) (hjl : ∀ v, ((wipe σ [j]).set j (some v))[j]? = some (some v)) (hwp : ∀ v, wipe ((wipe σ [j]).set j (some v)) [j] = wipe σ [j]) :
    EvB (tOr (tNot (tB (tCB (rIsi K) (tCons (tVar i) (tCons (tC (.ty "tuple")) tNil))))) (tOr (tTest (tOp rNe (tCB (rLen0 K) (tCons (tVar i) tNil)) (tC (.int 3)))) (tTest (tOp (rNeEL K) (tLc (iTup K (tVar i)) (gName j) (tNot (tB (tCall (p__law_is_number K) [] C8.E0 (tCons (tVar j) (tCons (tCB (rLen0 K) (tCons (tVar 2) tNil)) tNil))))) (tC (.int 1)) [j]) (tLst tNil))))) σ F (!isRowBelow b (rs.length : Int)) := by
  have t1 := eb_not (eb_val (ev_isi (ev_var (K := K) (F := F) (σ := σ) (i := i) ⟨vb, hi, rb⟩) (kit_tup b)))
  by_cases ht : isTup b = true
  case neg =>
    have ht' : isTup b = false := Bool.eq_false_iff.mpr ht
    rw [ht'] at t1
    have e0 : isRowBelow b (rs.length : Int) = false := by cases b <;> first | rfl | exact absurd rfl ht
    rw [e0]
    exact eb_or (c := false) t1 fun z => nomatch z
  obtain ⟨bs, rfl⟩ := tup_of ht
  have t2 := eb_test (ev_op (ev1 (ev_var (K := K) (F := F) (σ := σ) (i := i) ⟨vb, hi, rb⟩) rc_lenT) (ev_int (i := 3)) rv_neI)
  have t3 := eb_test (ev_noneN (K := K) (σ := σ) (F := F) (tt := tNot (tB (tCall (p__law_is_number K) [] C8.E0 (tCons (tVar j) (tCons (tCB (rLen0 K) (tCons (tVar 2) tNil)) tNil))))) (g := gName j) (vs := [j]) (fun d => isBetween d 0 ((rs.length : Int) - 1)) (ew_tup (ev_var (i := i) ⟨vb, hi, rb⟩)) (fits_len hb) fun d F' hd sF => by
    refine tk_name.imp fun σ2 hσ => ?_
    obtain ⟨v, rfl, rv⟩ := hσ
    exact ⟨hwp v, eb_not (eb_val (ev_call (f := f2 g_law_is_number) (ea_cons (ev_var (i := j) ⟨v, hjl v, rv⟩) (ea_cons (ev1 (ev_var (i := 2) ⟨vr, h2 v, rr.up sF⟩) rc_lenT) ea_nil)) rfl))⟩)
  refine (eb_or t1 fun _ => eb_or t2 fun _ => t3).is ?_
  show (false || ((!decide ((bs.length : Int) = 3)) || !bs.all fun d => isBetween d 0 ((rs.length : Int) - 1))) = !(decide ((bs.length : Int) = 3) && bs.all fun d => isBetween d 0 ((rs.length : Int) - 1))
  rw [Bool.false_or, Bool.not_and]
theorem ok__law_is_machine (F : Fun K "_law_is_machine" "_law_is_machine" s__law_is_machine f fd) (B : BI mg) (B2 : BI2 mg) (c__law_is_number : Cal P w K mg base 1 "_law_is_number" (p__law_is_number K) []) :
    FnOk P w K mg base CX0 2 f fd ["thing"] (p__law_is_machine K) := by
  refine F.ok sc__law_is_machine (fun vs H Q E h => len_f1 h) (fun cdv A outer s H vs Q E hr h => go1 h fun F0 a x d sm ra e ev q => ?_)
  subst ev
  have e' : (if fitsA a && fewW a then some (PyData.bool (isWords a)) else none) = some d := e
  split at e'
  case isFalse => cases e'
  rename_i hz
  cases e'
  rw [Bool.and_eq_true] at hz
  obtain ⟨hf, h60⟩ := hz
  refine ⟨_, (pss_cons (ps_if (PW.pt (pw_or (pt_not (pt_val (pe_callB (r := rIsi K) (call_isi) (by rfl) B.isinstance (by decide +kernel) (pa_cons (pv 0) (pa_cons (pe_bltn (v := .ty "tuple") (by rfl) B.tuple (by decide +kernel) rfl) pa_nil))))) (pw_or (pt_cmpR (op_ne) (pe_callB (r := rLen0 K) (call_len) (by rfl) B.len (by decide +kernel) (pa_cons (pv 0) pa_nil)) pe_int (nomark _)) (pw_or (pt_not (pt_val (pe_callB (r := rIsi K) (call_isi) (by rfl) B.isinstance (by decide +kernel) (pa_cons (pe_ix (r := rIxT K) ix_tup (pv 0) pe_int (fun _ _ => rfl)) (pa_cons (pe_bltn (v := .ty "str") (by rfl) B.str_ (by decide +kernel) rfl) pa_nil))))) (pw_or1 (pt_cmpR (op_ne) (pe_ix (r := rIxT K) ix_tup (pv 0) pe_int (fun _ _ => rfl)) pe_str (nomark _))))))) (pss_one (ps_ret pe_bl)) pss_nil)
        (pss_cons (ps_asg (pe_slice (r := rSlA K) sl_tupA (pv 0) (po_some pe_int) po_none) (pg_tup rfl (pgs_cons (pg_name (i := 2) sc__law_is_machine.nd rfl (Or.inr rfl) (hf := (Or.inl rfl))) (pgs_cons (pg_name (i := 3) sc__law_is_machine.nd rfl (Or.inl rfl) (hf := (Or.inr rfl))) pgs_nil))))
        (pss_cons (ps_if (PW.pt (pw_or (pt_not (pt_val (pe_callB (r := rIsi K) (call_isi) (by rfl) B.isinstance (by decide +kernel) (pa_cons (pv 2) (pa_cons (pe_bltn (v := .ty "tuple") (by rfl) B.tuple (by decide +kernel) rfl) pa_nil))))) (pw_or (pt_not (pt_chain (op_le) (op_le) pe_int (pe_callB (r := rLen0 K) (call_len) (by rfl) B.len (by decide +kernel) (pa_cons (pv 2) pa_nil)) pe_int)) (pw_or1 (pt_not (pt_val (pe_callB (r := rIsi K) (call_isi) (by rfl) B.isinstance (by decide +kernel) (pa_cons (pv 3) (pa_cons (pe_bltn (v := .ty "tuple") (by rfl) B.tuple (by decide +kernel) rfl) pa_nil))))))))) (pss_one (ps_ret pe_bl)) pss_nil)
        (pss_cons (ps_for PassesOwn.never rfl (pi_tup (pv 2)) (pg_name (i := 1) sc__law_is_machine.nd rfl (Or.inl rfl) (hf := (Or.inr rfl))) (pss_one (ps_if (PW.pt (pw_or (pt_not (pt_val (pe_callB (r := rIsi K) (call_isi) (by rfl) B.isinstance (by decide +kernel) (pa_cons (pv 1) (pa_cons (pe_bltn (v := .ty "tuple") (by rfl) B.tuple (by decide +kernel) rfl) pa_nil))))) (pw_or (pt_cmpR (op_ne) (pe_callB (r := rLen0 K) (call_len) (by rfl) B.len (by decide +kernel) (pa_cons (pv 1) pa_nil)) pe_int (nomark _)) (pw_or1 (pt_cmpR (r := rNeEL K) (op_neEL hr.units) (pe_lc (own := [("goal", 4)]) (g := (gName 4)) rfl sc__law_is_machine.nd (pi_tup (pv 1)) (blkOk_by (own := [("goal", 4)]) (N := ["thing", "row", "rows", "last", "goal"]) (sc := defScope s__law_is_machine) (by decide +kernel)) (fun _ _ _ _ _ => (pg_name (i := 4) sc__law_is_machine.nd rfl (Or.inl rfl) (hf := (Or.inr rfl)))) (fun _ _ _ _ _ => (pts_one (pt_not (pt_val (pe_c c__law_is_number hr (by first | decide | omega) (by rfl) (pa_cons (pv 4) (pa_cons (pe_callB (r := rLen0 K) (call_len) (by rfl) B.len (by decide +kernel) (pa_cons (pv 2) pa_nil)) pa_nil))))))) (fun _ _ _ _ _ => pe_int)) (pe_lst pa_nil) (nomark _)))))) (pss_one (ps_ret pe_bl)) pss_nil)))
        (pss_cons (ps_if (pt_cmpR (r := rNeEL K) (op_neEL hr.units) (pe_lc (own := [("row", 1)]) (g := (gName 1)) rfl sc__law_is_machine.nd (pi_tup (pv 3)) (blkOk_by (own := [("row", 1)]) (N := ["thing", "row", "rows", "last", "goal"]) (sc := defScope s__law_is_machine) (by decide +kernel)) (fun _ _ _ _ _ => (pg_name (i := 1) sc__law_is_machine.nd rfl (Or.inl rfl) (hf := (Or.inr rfl)))) (fun _ _ _ _ _ => (pts_one (pt_not (pt_val (pe_c c__law_is_number hr (by first | decide | omega) (by rfl) (pa_cons (pv 1) (pa_cons (pe_callB (r := rLen0 K) (call_len) (by rfl) B.len (by decide +kernel) (pa_cons (pv 2) pa_nil)) pa_nil))))))) (fun _ _ _ _ _ => pe_int)) (pe_lst pa_nil) (nomark _)) (pss_one (ps_ret pe_bl)) pss_nil)
        (pss_one (ps_ret (pe_cmpR (r := rEqD K) (op_eqD hr.units) (pe_callTy (r := rListOf K) (call_list_of) (by rfl) B.list_ (by decide +kernel) (pa_cons (pv 3) pa_nil)) (pe_callB (r := rSortedSet w) (cr_sortedSet rfl) (by rfl) B.sorted (by decide +kernel) (pa_cons (pe_callTy (r := rSetIntT K w) (call_setIntT rfl) (by rfl) B2.set (by decide +kernel) (pa_cons (pv 3) pa_nil)) pa_nil)) (nomark _))))))))), ?_⟩
  refine (?_ : Ret K _ _ F0 _) H sm _ q
  refine r_when (head_test (word := "words") (x := x) rfl ra) (fun h => ?_) fun h => ?_
  · rw [Bool.not_eq_true'] at h
    rw [words_head h]
    exact r_ret ev_bl
  rw [Bool.not_eq_false'] at h
  obtain ⟨r, t, rfl⟩ := head_is h
  have fa := (fits_tup hf).2
  have hs : EvD K (tSl (rSlA K) (tVar 0) (tPart (tC (.int 1))) tNoPart) (start ["thing", "row", "rows", "last", "goal"] [x]) F0 (.tuple [r, t]) := ev_sl (ev_var ⟨x, rfl, ra⟩) (eo_some ev_int) eo_none (rs_tup (lo := some 1) (hi := none))
  refine r_asg hs (fun F' _ => tk_two) fun σ2 F1 g1 hσ => ?_
  obtain ⟨v1, v2, rfl, r1, r2⟩ := hσ
  have e1 : EvD K (tVar 2) [some x, none, some v1, some v2, none] F1 r := ev_var ⟨v1, rfl, r1⟩
  have e2 : EvD K (tVar 3) [some x, none, some v1, some v2, none] F1 t := ev_var ⟨v2, rfl, r2⟩
  have t1 := eb_not (eb_val (ev_isi e1 (kit_tup r)))
  by_cases ht : isTup r = true
  case neg =>
    have ht' : isTup r = false := Bool.eq_false_iff.mpr ht
    rw [ht'] at t1
    rw [words_tup ht']
    exact r_when (eb_or (c := false) t1 fun z => nomatch z) (fun _ => r_ret ev_bl) fun z => nomatch z
  rw [ht] at t1
  obtain ⟨rs, rfl⟩ := tup_of ht
  have t2 := eb_not (eb_test (ev_chain (K := K) ev_int (ev1 e1 rc_lenT) (rv_bl (i := 1) (g := fun i j => decide (i ≤ j))) (fun _ => ev_int) fun _ => rv_bl (j := 8) (g := fun i j => decide (i ≤ j))))
  have t3 := eb_not (eb_val (ev_isi e2 (kit_tup t)))
  have hform : isWords (.tuple [.str "words", .tuple rs, t]) = ((decide (1 ≤ (rs.length : Int)) && decide ((rs.length : Int) ≤ 8)) && (rowsOk rs && isRisingBelow t (rs.length : Int))) := Bool.true_and _
  rw [hform]
  refine r_when (eb_or t1 fun _ => eb_or t2 fun _ => t3) (fun h => ?_) fun h => ?_
  · have h' : (false || ((!(decide (1 ≤ (rs.length : Int)) && decide ((rs.length : Int) ≤ 8))) || !isTup t)) = true := h
    rw [Bool.false_or, ← Bool.not_and, Bool.not_eq_true', Bool.and_eq_false_iff] at h'
    rcases h' with h' | h'
    · rw [h', Bool.false_and]
      exact r_ret ev_bl
    · have e0 : isRisingBelow t (rs.length : Int) = false := by cases t <;> first | rfl | cases h'
      rw [e0, Bool.and_false, Bool.and_false]
      exact r_ret ev_bl
  have h' : (false || ((!(decide (1 ≤ (rs.length : Int)) && decide ((rs.length : Int) ≤ 8))) || !isTup t)) = false := h
  rw [Bool.false_or, ← Bool.not_and, Bool.not_eq_false', Bool.and_eq_true] at h'
  obtain ⟨hlen, htt⟩ := h'
  obtain ⟨ts, rfl⟩ := tup_of htt
  rw [hlen, Bool.true_and]
  have fr : fitsA (.tuple rs) = true := fa _ (by simp)
  have ft : fitsA (.tuple ts) = true := fa _ (by simp)
  have h60' : ts.length ≤ 60 := of_decide_eq_true h60
  intro H1 s1 D q1
  refine s_for (K := K) (F := F1) (ds := rs) s1 (ew_tup e1) fun F2 H2 g2 =>
    ⟨fun i σ' F' H' => Grow F1 H1 F' H' ∧ Same F2 F' ∧ (∃ y, σ' = [some x, y, some v1, some v2, none]) ∧ ∀ d ∈ rs.take i, isRowBelow d (rs.length : Int) = true,
      ⟨g2, Same.refl _, ⟨_, rfl⟩, fun d hd => by simp at hd⟩, fun i σ' F' H' h => ⟨h.2.1, h.1.i⟩, fun i d σ' F' H' hd hI F3 H3 v g3 rv => ?_, fun σ' F' H' hI => ?_⟩
  · obtain ⟨gI, sI, ⟨y, rfl⟩, hall⟩ := hI
    have hmem := List.mem_of_getElem? hd
    refine tk_name v H3 g3.i rv _ fun σ2 hσ => ?_
    obtain ⟨v', rfl, rv'⟩ := hσ
    have S3 : Same F1 F3 := gI.f.trans g3.f
    refine s_if (row_test (K := K) (F := F3) (i := 1) (j := 4) (vr := v1) (vb := v') (b := d) (rs := rs) rfl rfl rv' (r1.up S3) ((fits_tup fr).2 d hmem) (fun _ => rfl) (fun _ => rfl) (fun _ => rfl)) g3.i (fun hb F4 H4 g4 => ?_) fun hb F4 H4 g4 => ?_
    · rw [Bool.not_eq_true'] at hb
      have e0 : rowsOk rs = false := by
        rw [Bool.eq_false_iff]
        intro z
        rw [List.all_eq_true.mp z d hmem] at hb
        cases hb
      rw [e0, Bool.false_and] at q1
      exact q1 _ F4 H4 ((gI.trans g3).trans g4) (.bl false)
    · rw [Bool.not_eq_false'] at hb
      refine ⟨F4, (gI.trans g3).trans g4, sI.trans (g3.f.trans g4.f), ⟨_, rfl⟩, fun d' hd' => ?_⟩
      rw [List.take_add_one, hd] at hd'
      rcases List.mem_append.mp hd' with h | h
      · exact hall d' h
      · rw [List.mem_singleton.mp h]
        exact hb
  · obtain ⟨gI, sI, ⟨y, rfl⟩, hall⟩ := hI
    rw [List.take_length] at hall
    have hall' : rowsOk rs = true := List.all_eq_true.mpr hall
    rw [hall', Bool.true_and] at q1
    have e4 : EvD K (tVar 3) [some x, y, some v1, some v2, none] F' (.tuple ts) := ev_var ⟨v2, rfl, r2.up gI.f⟩
    have t3 := eb_test (ev_noneN (K := K) (σ := [some x, y, some v1, some v2, none]) (F := F') (tt := tNot (tB (tCall (p__law_is_number K) [] C8.E0 (tCons (tVar 1) (tCons (tCB (rLen0 K) (tCons (tVar 2) tNil)) tNil))))) (g := gName 1) (vs := [1]) (fun d => isBetween d 0 ((rs.length : Int) - 1)) (ew_tup e4) (fits_len ft) fun d F3 hd sF => by
      refine tk_name.imp fun σ2 hσ => ?_
      obtain ⟨v, rfl, rv⟩ := hσ
      exact ⟨rfl, eb_not (eb_val (ev_call (f := f2 g_law_is_number) (ea_cons (ev_var (i := 1) ⟨v, rfl, rv⟩) (ea_cons (ev1 (ev_var (i := 2) ⟨v1, rfl, r1.up (gI.f.trans sF)⟩) rc_lenT) ea_nil)) rfl))⟩)
    have e5 : isRisingBelow (.tuple ts) (rs.length : Int) = (ts.all (fun x => isBetween x 0 ((rs.length : Int) - 1)) && risesD ts) := rfl
    rw [e5] at q1
    refine s_when t3 gI.i (fun hb2 F8 H8 g8 => ?_) fun hb2 F8 H8 g8 => ?_
    · rw [Bool.not_eq_true'] at hb2
      rw [hb2, Bool.false_and] at q1
      exact q1 _ F8 H8 (gI.trans g8) (.bl false)
    rw [Bool.not_eq_false'] at hb2
    rw [hb2, Bool.true_and] at q1
    have eints : ts = (ts.map intD).map .int := by
      rw [List.map_map]
      refine (List.map_id ts).symm.trans (List.map_congr_left fun d hd => ?_)
      obtain ⟨i, rfl, _⟩ := betw_int (List.all_eq_true.mp hb2 d hd)
      rfl
    have e6 : EvD K (tVar 3) [some x, y, some v1, some v2, none] F8 (.tuple ((ts.map intD).map .int)) := (e4.up g8.f).is (congrArg PyData.tuple eints)
    refine ev_eqSortI (K := K) (w := w) (b := risesD ts) (ev1 e6 rc_listT) e6 (by rw [List.length_map]; exact h60') ?_ H8 g8.i _ fun u F9 H9 g9 r9 => q1 u F9 H9 ((gI.trans g8).trans g9) r9
    rw [eints]
    have : ((ts.map intD).map PyData.int).map intD = ts.map intD := by
      rw [List.map_map]
      exact List.map_id _
    first
      | exact risesI_iff _
      | (rw [this]; exact risesI_iff _)
end
end Sx
set_option Elab.async false
set_option linter.all false
set_option maxRecDepth 100000
set_option maxHeartbeats 4000000
namespace Sx
open PySem PySem.Spec PyProof.Rows L2
open C8 (Cal pe_c pe_gc)
section
variable {P : Program} {w : World} {K : PySem.W.Frag} {mg : Str → Option Value} {base : Heap} {f : Addr} {fd : FuncData} {CW CT CP fI : Addr} {F : Hp} {σ : L2.St}
/-! ### _law_is_pen -/
abbrev s__law_is_pen : Stmt := top 55
theorem sc__law_is_pen : FnScope ["thing", "row", "rows", "last", "pair", "end"] ["thing"] (defScope s__law_is_pen) := ⟨rfl, rfl, rfl, by decide +kernel, rfl, by decide +kernel, by decide +kernel⟩
theorem end_form (d : PyData) : isEnd d = (isNone' d || isTold d) := by cases d <;> rfl
/-- a pair of a scribe, asked as the law asks it -/
theorem pair_test {vr vb : V} {b : PyData} {rs : List PyData} (hi : σ[4]? = some (some vb)) (hj : σ[2]? = some (some vr)) (rb : Dq K F vb b) (rr : Dq K F vr (.tuple rs)) (hb : fitsA b = true) :
    EvB (tOr (tNot (tB (tCB (rIsi K) (tCons (tVar 4) (tCons (tC (.ty "tuple")) tNil))))) (tOr (tTest (tOp rNe (tCB (rLen0 K) (tCons (tVar 4) tNil)) (tC (.int 2)))) (tOr (tNot (tB (tCall (p__law_is_number K) [] C8.E0 (tCons (tOp (rIxT K) (tVar 4) (tC (.int 0))) (tCons (tCB (rLen0 K) (tCons (tVar 2) tNil)) tNil))))) (tNot (tB (tCall (p__is_told K) [] C8.E0 (tCons (tOp (rIxT K) (tVar 4) (tC (.int 1))) tNil))))))) σ F (!isPair (rs.length : Int) b) := by
  have ev : EvD K (tVar 4) σ F b := ev_var ⟨vb, hi, rb⟩
  have t1 := eb_not (eb_val (ev_isi ev (kit_tup b)))
  by_cases ht : isTup b = true
  case neg =>
    have ht' : isTup b = false := Bool.eq_false_iff.mpr ht
    rw [ht'] at t1
    have e0 : isPair (rs.length : Int) b = false := by cases b <;> first | rfl | exact absurd rfl ht
    rw [e0]
    exact eb_or (c := false) t1 fun z => nomatch z
  obtain ⟨bs, rfl⟩ := tup_of ht
  have t2 := eb_test (ev_op (ev1 ev rc_lenT) (ev_int (i := 2)) rv_neI)
  by_cases h2 : bs.length = 2
  case neg =>
    have e5 : (!decide ((bs.length : Int) = 2)) = true := by
      rw [Bool.not_eq_true', decide_eq_false_iff_not]
      omega
    rw [e5] at t2
    have e0 : isPair (rs.length : Int) (.tuple bs) = false := by
      unfold isPair
      split
      · rename_i e
        cases e
        exact absurd rfl h2
      · rfl
    rw [e0]
    exact eb_or t1 fun _ => eb_or (c := false) t2 fun z => nomatch z
  obtain ⟨g, z, rfl⟩ := duo h2
  have t3 := eb_not (eb_val (ev_call (K := K) (f := f2 g_law_is_number) (E := C8.E0) (d := .bool (isBetween g 0 ((rs.length : Int) - 1))) (ea_cons (ev_op ev (ev_int (i := 0)) (rv_ixT (k := 0) rfl)) (ea_cons (ev1 (ev_var (i := 2) ⟨vr, hj, rr⟩) rc_lenT) ea_nil)) rfl))
  have t4 := eb_not (eb_val (ev_call (K := K) (f := f1 g__is_told) (E := C8.E0) (ea_cons (ev_op ev (ev_int (i := 1)) (rv_ixT (k := 1) rfl)) ea_nil) (show _ = some (PyData.bool (isTold z)) from if_pos ((fits_tup hb).2 z (by simp)))))
  refine (eb_or t1 fun _ => eb_or t2 fun _ => eb_or t3 fun _ => t4).is ?_
  show (false || (false || ((!isBetween g 0 ((rs.length : Int) - 1)) || !isTold z))) = !(isBetween g 0 ((rs.length : Int) - 1) && isTold z)
  rw [Bool.false_or, Bool.false_or, Bool.not_and]
theorem ok__law_is_pen (F : Fun K "_law_is_pen" "_law_is_pen" s__law_is_pen f fd) (B : BI mg) (c__law_is_number : Cal P w K mg base 1 "_law_is_number" (p__law_is_number K) []) (c__law_is_short : Cal P w K mg base 1 "_law_is_short" (p__is_told K) []) :
    FnOk P w K mg base CX0 2 f fd ["thing"] (p_is_scribe K) := by
  refine F.ok sc__law_is_pen (fun vs H Q E h => len_f1 h) (fun cdv A outer s H vs Q E hr h => go1 h fun F0 a x d sm ra e ev q => ?_)
  subst ev
  have e' : (if fitsA a then some (PyData.bool (isScribe a)) else none) = some d := e
  split at e'
  case isFalse => cases e'
  rename_i hf
  cases e'
  refine ⟨_, (pss_cons (ps_if (PW.pt (pw_or (pt_not (pt_val (pe_callB (r := rIsi K) (call_isi) (by rfl) B.isinstance (by decide +kernel) (pa_cons (pv 0) (pa_cons (pe_bltn (v := .ty "tuple") (by rfl) B.tuple (by decide +kernel) rfl) pa_nil))))) (pw_or (pt_cmpR (op_ne) (pe_callB (r := rLen0 K) (call_len) (by rfl) B.len (by decide +kernel) (pa_cons (pv 0) pa_nil)) pe_int (nomark _)) (pw_or (pt_not (pt_val (pe_callB (r := rIsi K) (call_isi) (by rfl) B.isinstance (by decide +kernel) (pa_cons (pe_ix (r := rIxT K) ix_tup (pv 0) pe_int (fun _ _ => rfl)) (pa_cons (pe_bltn (v := .ty "str") (by rfl) B.str_ (by decide +kernel) rfl) pa_nil))))) (pw_or1 (pt_cmpR (op_ne) (pe_ix (r := rIxT K) ix_tup (pv 0) pe_int (fun _ _ => rfl)) pe_str (nomark _))))))) (pss_one (ps_ret pe_bl)) pss_nil)
        (pss_cons (ps_asg (pe_slice (r := rSlA K) sl_tupA (pv 0) (po_some pe_int) po_none) (pg_tup rfl (pgs_cons (pg_name (i := 2) sc__law_is_pen.nd rfl (Or.inl rfl) (hf := (Or.inr rfl))) (pgs_cons (pg_name (i := 3) sc__law_is_pen.nd rfl (Or.inl rfl) (hf := (Or.inr rfl))) pgs_nil))))
        (pss_cons (ps_if (PW.pt (pw_or (pt_not (pt_val (pe_callB (r := rIsi K) (call_isi) (by rfl) B.isinstance (by decide +kernel) (pa_cons (pv 2) (pa_cons (pe_bltn (v := .ty "tuple") (by rfl) B.tuple (by decide +kernel) rfl) pa_nil))))) (pw_or (pt_not (pt_chain (op_le) (op_le) pe_int (pe_callB (r := rLen0 K) (call_len) (by rfl) B.len (by decide +kernel) (pa_cons (pv 2) pa_nil)) pe_int)) (pw_or (pt_not (pt_val (pe_callB (r := rIsi K) (call_isi) (by rfl) B.isinstance (by decide +kernel) (pa_cons (pv 3) (pa_cons (pe_bltn (v := .ty "tuple") (by rfl) B.tuple (by decide +kernel) rfl) pa_nil))))) (pw_or1 (pt_cmpR (op_ne) (pe_callB (r := rLen0 K) (call_len) (by rfl) B.len (by decide +kernel) (pa_cons (pv 3) pa_nil)) (pe_callB (r := rLen0 K) (call_len) (by rfl) B.len (by decide +kernel) (pa_cons (pv 2) pa_nil)) (nomark _))))))) (pss_one (ps_ret pe_bl)) pss_nil)
        (pss_cons (ps_if (pt_cmpR (r := rNeEL K) (op_neEL hr.units) (pe_lc (own := [("end", 5)]) (g := (gName 5)) rfl sc__law_is_pen.nd (pi_tup (pv 3)) (blkOk_by (own := [("end", 5)]) (N := ["thing", "row", "rows", "last", "pair", "end"]) (sc := defScope s__law_is_pen) (by decide +kernel)) (fun _ _ _ _ _ => (pg_name (i := 5) sc__law_is_pen.nd rfl (Or.inl rfl) (hf := (Or.inr rfl)))) (fun _ _ _ _ _ => (pts_one (PW.pt (pw_and (pt_cmpR (op_notN) (pv 5) pe_non (nomark _)) (pw_and1 (pt_not (pt_val (pe_c c__law_is_short hr (by first | decide | omega) (by rfl) (pa_cons (pv 5) pa_nil))))))))) (fun _ _ _ _ _ => pe_int)) (pe_lst pa_nil) (nomark _)) (pss_one (ps_ret pe_bl)) pss_nil)
        (pss_cons (ps_for PassesOwn.never rfl (pi_tup (pv 2)) (pg_name (i := 1) sc__law_is_pen.nd rfl (Or.inl rfl) (hf := (Or.inr rfl))) (pss_cons (ps_if (PW.pt (pw_or (pt_not (pt_val (pe_callB (r := rIsi K) (call_isi) (by rfl) B.isinstance (by decide +kernel) (pa_cons (pv 1) (pa_cons (pe_bltn (v := .ty "tuple") (by rfl) B.tuple (by decide +kernel) rfl) pa_nil))))) (pw_or1 (pt_cmpR (op_ne) (pe_callB (r := rLen0 K) (call_len) (by rfl) B.len (by decide +kernel) (pa_cons (pv 1) pa_nil)) pe_int (nomark _))))) (pss_one (ps_ret pe_bl)) pss_nil)
        (pss_one (ps_for PassesOwn.never rfl (pi_tupK (K := K) (pv 1)) (pg_name (i := 4) sc__law_is_pen.nd rfl (Or.inl rfl) (hf := (Or.inr rfl))) (pss_one (ps_if (PW.pt (pw_or (pt_not (pt_val (pe_callB (r := rIsi K) (call_isi) (by rfl) B.isinstance (by decide +kernel) (pa_cons (pv 4) (pa_cons (pe_bltn (v := .ty "tuple") (by rfl) B.tuple (by decide +kernel) rfl) pa_nil))))) (pw_or (pt_cmpR (op_ne) (pe_callB (r := rLen0 K) (call_len) (by rfl) B.len (by decide +kernel) (pa_cons (pv 4) pa_nil)) pe_int (nomark _)) (pw_or (pt_not (pt_val (pe_c c__law_is_number hr (by first | decide | omega) (by rfl) (pa_cons (pe_ix (r := rIxT K) ix_tup (pv 4) pe_int (fun _ _ => rfl)) (pa_cons (pe_callB (r := rLen0 K) (call_len) (by rfl) B.len (by decide +kernel) (pa_cons (pv 2) pa_nil)) pa_nil))))) (pw_or1 (pt_not (pt_val (pe_c c__law_is_short hr (by first | decide | omega) (by rfl) (pa_cons (pe_ix (r := rIxT K) ix_tup (pv 4) pe_int (fun _ _ => rfl)) pa_nil))))))))) (pss_one (ps_ret pe_bl)) pss_nil))))))
        (pss_one (ps_ret pe_bl))))))), ?_⟩
  refine (?_ : Ret K _ _ F0 _) H sm _ q
  refine r_when (head_test (word := "scribe") (x := x) rfl ra) (fun h => ?_) fun h => ?_
  · rw [Bool.not_eq_true'] at h
    rw [scribe_head h]
    exact r_ret ev_bl
  rw [Bool.not_eq_false'] at h
  obtain ⟨r, t, rfl⟩ := head_is h
  have fa := (fits_tup hf).2
  have hs : EvD K (tSl (rSlA K) (tVar 0) (tPart (tC (.int 1))) tNoPart) (start ["thing", "row", "rows", "last", "pair", "end"] [x]) F0 (.tuple [r, t]) := ev_sl (ev_var ⟨x, rfl, ra⟩) (eo_some ev_int) eo_none (rs_tup (lo := some 1) (hi := none))
  refine r_asg hs (fun F' _ => tk_two) fun σ2 F1 g1 hσ => ?_
  obtain ⟨v1, v2, rfl, r1, r2⟩ := hσ
  have e1 : EvD K (tVar 2) [some x, none, some v1, some v2, none, none] F1 r := ev_var ⟨v1, rfl, r1⟩
  have e2 : EvD K (tVar 3) [some x, none, some v1, some v2, none, none] F1 t := ev_var ⟨v2, rfl, r2⟩
  have t1 := eb_not (eb_val (ev_isi e1 (kit_tup r)))
  by_cases ht : isTup r = true
  case neg =>
    have ht' : isTup r = false := Bool.eq_false_iff.mpr ht
    rw [ht'] at t1
    rw [scribe_tup ht']
    exact r_when (eb_or (c := false) t1 fun z => nomatch z) (fun _ => r_ret ev_bl) fun z => nomatch z
  rw [ht] at t1
  obtain ⟨rs, rfl⟩ := tup_of ht
  have t2 := eb_not (eb_test (ev_chain (K := K) ev_int (ev1 e1 rc_lenT) (rv_bl (i := 1) (g := fun i j => decide (i ≤ j))) (fun _ => ev_int) fun _ => rv_bl (j := 4) (g := fun i j => decide (i ≤ j))))
  have t3 := eb_not (eb_val (ev_isi e2 (kit_tup t)))
  have hform : isScribe (.tuple [.str "scribe", .tuple rs, t]) = (((decide (1 ≤ (rs.length : Int)) && decide ((rs.length : Int) ≤ 4)) && isRow t (rs.length : Int)) && (pensOk rs && (itemsD t).all isEnd)) := Bool.true_and _
  rw [hform]
  have key : EvB (tOr (tNot (tB (tCB (rIsi K) (tCons (tVar 2) (tCons (tC (.ty "tuple")) tNil))))) (tOr (tNot (tTest (tChain (rI0 fun i j => V.bl (decide (i ≤ j))) (rI0 fun i j => V.bl (decide (i ≤ j))) (tC (.int 1)) (tCB (rLen0 K) (tCons (tVar 2) tNil)) (tC (.int 4))))) (tOr (tNot (tB (tCB (rIsi K) (tCons (tVar 3) (tCons (tC (.ty "tuple")) tNil))))) (tTest (tOp rNe (tCB (rLen0 K) (tCons (tVar 3) tNil)) (tCB (rLen0 K) (tCons (tVar 2) tNil))))))) [some x, none, some v1, some v2, none, none] F1 (!((decide (1 ≤ (rs.length : Int)) && decide ((rs.length : Int) ≤ 4)) && isRow t (rs.length : Int))) := by
    by_cases htt : isTup t = true
    case neg =>
      have htt' : isTup t = false := Bool.eq_false_iff.mpr htt
      rw [htt'] at t3
      have e0 : isRow t (rs.length : Int) = false := by cases t <;> first | rfl | exact absurd rfl htt
      rw [e0, Bool.and_false]
      refine (eb_or t1 fun _ => eb_or t2 fun _ => eb_or (c := false) t3 fun z => nomatch z).is ?_
      show (false || (_ || true)) = true
      rw [Bool.or_true, Bool.or_true]
    obtain ⟨ts, rfl⟩ := tup_of htt
    refine (eb_or t1 fun _ => eb_or t2 fun _ => eb_or t3 fun _ => eb_test (ev_op (ev1 e2 rc_lenT) (ev1 e1 rc_lenT) rv_neI)).is ?_
    show (false || ((!(decide (1 ≤ (rs.length : Int)) && decide ((rs.length : Int) ≤ 4))) || (false || !decide ((ts.length : Int) = (rs.length : Int))))) = !((decide (1 ≤ (rs.length : Int)) && decide ((rs.length : Int) ≤ 4)) && decide ((ts.length : Int) = (rs.length : Int)))
    rw [Bool.false_or, Bool.false_or, ← Bool.not_and]
  refine r_when key (fun h => ?_) fun h => ?_
  · rw [Bool.not_eq_true'] at h
    rw [h, Bool.false_and]
    exact r_ret ev_bl
  rw [Bool.not_eq_false'] at h
  rw [h, Bool.true_and]
  rw [Bool.and_eq_true] at h
  obtain ⟨ts, rfl, hts⟩ := row_is h.2
  have fr : fitsA (.tuple rs) = true := fa _ (by simp)
  have ft : fitsA (.tuple ts) = true := fa _ (by simp)
  have te := eb_test (ev_noneN (K := K) (σ := [some x, none, some v1, some v2, none, none]) (F := F1) (tt := tAnd (tTest (tOp rNotN (tVar 5) (tC .non))) (tNot (tB (tCall (p__is_told K) [] C8.E0 (tCons (tVar 5) tNil))))) (g := gName 5) (vs := [5]) isEnd (ew_tup e2) (fits_len ft) fun d F3 hd sF => by
    refine tk_name.imp fun σ2 hσ => ?_
    obtain ⟨v, rfl, rv⟩ := hσ
    have e5 : EvD K (tVar 5) ((wipe [some x, none, some v1, some v2, none, none] [5]).set 5 (some v)) F3 d := ev_var ⟨v, rfl, rv⟩
    refine ⟨rfl, (eb_and (eb_test (ev_notN e5)) fun _ => eb_not (eb_val (ev_call (K := K) (f := f1 g__is_told) (E := C8.E0) (ea_cons e5 ea_nil) (show _ = some (PyData.bool (isTold d)) from if_pos ((fits_tup ft).2 d hd))))).is ?_⟩
    rw [end_form, Bool.not_or])
  refine r_when te (fun h => ?_) fun h => ?_
  · rw [Bool.not_eq_true'] at h
    have e0 : (itemsD (.tuple ts)).all isEnd = false := h
    rw [e0, Bool.and_false]
    exact r_ret ev_bl
  rw [Bool.not_eq_false'] at h
  have e0 : (itemsD (.tuple ts)).all isEnd = true := h
  rw [e0, Bool.and_true]
  intro H1 s1 D q1
  refine s_for (K := K) (F := F1) (ds := rs) s1 (ew_tup e1) fun F2 H2 g2 =>
    ⟨fun i σ' F' H' => Grow F1 H1 F' H' ∧ Same F2 F' ∧ (∃ y y4, σ' = [some x, y, some v1, some v2, y4, none]) ∧ ∀ d ∈ rs.take i, isRowOf d (rs.length : Int) = true,
      ⟨g2, Same.refl _, ⟨_, _, rfl⟩, fun d hd => by simp at hd⟩, fun i σ' F' H' h => ⟨h.2.1, h.1.i⟩, fun i d σ' F' H' hd hI F3 H3 v g3 rv => ?_, fun σ' F' H' hI => ?_⟩
  · obtain ⟨gI, sI, ⟨y, y4, rfl⟩, hall⟩ := hI
    have hmem := List.mem_of_getElem? hd
    refine tk_name v H3 g3.i rv _ fun σ2 hσ => ?_
    obtain ⟨v', rfl, rv'⟩ := hσ
    have S3 : Same F1 F3 := gI.f.trans g3.f
    have fd := (fits_tup fr).2 d hmem
    have bad : ∀ {F' H' : Hp}, Grow F3 H3 F' H' → isRowOf d (rs.length : Int) = false → D.rt (.bl false) H' := fun g e => by
      have e0 : pensOk rs = false := by
        rw [Bool.eq_false_iff]
        intro z
        rw [List.all_eq_true.mp z d hmem] at e
        cases e
      rw [e0] at q1
      exact q1 _ _ _ ((gI.trans g3).trans g) (.bl false)
    have ev1' : EvD K (tVar 1) [some x, some v', some v1, some v2, y4, none] F3 d := ev_var ⟨v', rfl, rv'⟩
    have u1 := eb_not (eb_val (ev_isi ev1' (kit_tup d)))
    by_cases htd : isTup d = true
    case neg =>
      have htd' : isTup d = false := Bool.eq_false_iff.mpr htd
      rw [htd'] at u1
      have e0 : isRowOf d (rs.length : Int) = false := by cases d <;> first | rfl | exact absurd rfl htd
      exact s_when (eb_or (c := false) u1 fun z => nomatch z) g3.i (fun _ F4 H4 g4 => bad g4 e0) fun z => nomatch z
    obtain ⟨bs, rfl⟩ := tup_of htd
    have u2 := eb_test (ev_op (ev1 ev1' rc_lenT) (ev_int (i := 3)) rv_neI)
    have hrow : isRowOf (.tuple bs) (rs.length : Int) = (decide ((bs.length : Int) = 3) && bs.all (isPair (rs.length : Int))) := rfl
    refine s_when (eb_or u1 fun _ => u2) g3.i (fun hb F4 H4 g4 => ?_) fun hb F4 H4 g4 => ?_
    · have hb' : (!decide ((bs.length : Int) = 3)) = true := hb
      rw [Bool.not_eq_true'] at hb'
      exact bad g4 (by rw [hrow, hb', Bool.false_and])
    have hb' : (!decide ((bs.length : Int) = 3)) = false := hb
    rw [Bool.not_eq_false'] at hb'
    refine s_for (K := K) (F := F4) (ds := bs) g4.i (ew_tup (ev1'.up g4.f)) fun F5 H5 g5 =>
      ⟨fun j σ' F' H' => Grow F4 H4 F' H' ∧ Same F5 F' ∧ (∃ y4, σ' = [some x, some v', some v1, some v2, y4, none]) ∧ ∀ b ∈ bs.take j, isPair (rs.length : Int) b = true,
        ⟨g5, Same.refl _, ⟨_, rfl⟩, fun d hd => by simp at hd⟩, fun i σ' F' H' h => ⟨h.2.1, h.1.i⟩, fun j b σ' F' H' hbj hJ F6 H6 u g6 ru => ?_, fun σ' F' H' hJ => ?_⟩
    · obtain ⟨gJ, sJ, ⟨z4, rfl⟩, hallb⟩ := hJ
      have hbm := List.mem_of_getElem? hbj
      refine tk_name u H6 g6.i ru _ fun σ2 hσ => ?_
      obtain ⟨u', rfl, ru'⟩ := hσ
      have S6 : Same F1 F6 := ((S3.trans g4.f).trans gJ.f).trans g6.f
      refine s_if (pair_test (K := K) (F := F6) (vr := v1) (vb := u') (b := b) (rs := rs) rfl rfl ru' (r1.up S6) ((fits_tup fd).2 b hbm)) g6.i (fun hp F7 H7 g7 => ?_) fun hp F7 H7 g7 => ?_
      · rw [Bool.not_eq_true'] at hp
        refine bad (((g4.trans gJ).trans g6).trans g7) ?_
        rw [hrow, Bool.eq_false_iff]
        intro z
        rw [Bool.and_eq_true] at z
        rw [List.all_eq_true.mp z.2 b hbm] at hp
        cases hp
      · rw [Bool.not_eq_false'] at hp
        refine ⟨F7, (gJ.trans g6).trans g7, sJ.trans (g6.f.trans g7.f), ⟨_, rfl⟩, fun d' hd' => ?_⟩
        rw [List.take_add_one, hbj] at hd'
        rcases List.mem_append.mp hd' with h | h
        · exact hallb d' h
        · rw [List.mem_singleton.mp h]
          exact hp
    · obtain ⟨gJ, sJ, ⟨z4, rfl⟩, hallb⟩ := hJ
      rw [List.take_length] at hallb
      refine ⟨F', ((gI.trans g3).trans g4).trans gJ, sI.trans ((g3.f.trans g4.f).trans gJ.f), ⟨_, _, rfl⟩, fun d' hd' => ?_⟩
      rw [List.take_add_one, hd] at hd'
      rcases List.mem_append.mp hd' with h | h
      · exact hall d' h
      · rw [List.mem_singleton.mp h, hrow, hb', Bool.true_and]
        exact List.all_eq_true.mpr hallb
  · obtain ⟨gI, sI, ⟨y, y4, rfl⟩, hall⟩ := hI
    rw [List.take_length] at hall
    have hall' : pensOk rs = true := List.all_eq_true.mpr hall
    rw [hall'] at q1
    exact s_ret (K := K) (σ := [some x, y, some v1, some v2, y4, none]) (F := F') ev_bl gI.i fun v F3 H3 g3 r3 => q1 v F3 H3 (gI.trans g3) r3
end
end Sx
set_option Elab.async false
set_option linter.all false
set_option maxRecDepth 100000
set_option maxHeartbeats 2000000
set_option exponentiation.threshold 3000
/-! Y26: expressions that draw: what may come of them, a judgement with rules; without program text. -/
namespace Sx
open PySem PySem.Spec PyProof.Rows L2 LamX
open C8 (Cal pe_c pe_gc)
section
variable {K : PySem.W.Frag} {σ : L2.St} {F F0 H0 F1 H1 H : Hp} {d l c L : Addr} {n m B B1 B2 : Nat} {te ta tb : TE} {o : HO} {E E1 E2 : PyData → Prop}
theorem StD.trans {F' H' : Hp} (S : StD F0 H0 d l c F H n) (T : StD F H d l c F' H' m) : StD F0 H0 d l c F' H' m :=
  ⟨T.same, T.fd, T.fl, T.dr, S.kp.trans T.kp, new_two S.kp S.nw T.nw T.fd T.fl, S.sf.trans T.sf⟩
theorem StD.begin (S : StD F0 H0 d l c F H n) : StD F H d l c F H n := stD_start S.same S.fd S.fl S.dr
theorem StD.gone (S : StD F0 H0 d l c F H n) (hd : L ≠ d) (hl : L ≠ l) (h : H L = none) : H0 L = none := by
  cases z : H0 L with
  | none => rfl
  | some o =>
    rw [S.kp L o hd hl z] at h
    cases h
theorem StD.put (S : StD F0 H0 d l c F H n) (h : F L = none) (h0 : H0 L = none) (ap : L ≠ d ∧ L ≠ l ∧ L ≠ c) : StD F0 H0 d l c F (upd H L o) n :=
  ⟨same_own S.same h, S.fd, S.fl, S.dr.other ap, fun b x h1 h2 e => by rw [upd_ne (ne_of_none e h0)]; exact S.kp b x h1 h2 e, S.nw, S.sf⟩
theorem StD.thaw (S : StD F0 H0 d l c F H n) (h : F L = none) (hL : H L = some o) (h0 : H0 L = none) (hd : L ≠ d) (hl : L ≠ l) : StD F0 H0 d l c (upd F L o) H n :=
  ⟨fun b x e => by
    by_cases hb : b = L
    · rw [hb, upd_same] at e
      rw [hb, hL]
      exact e
    · rw [upd_ne hb] at e
      exact S.same b x e, by rw [upd_ne (Ne.symm hd)]; exact S.fd, by rw [upd_ne (Ne.symm hl)]; exact S.fl, S.dr, S.kp, fun b x e z => by
    by_cases hb : b = L
    · rw [hb]
      exact h0
    · rw [upd_ne hb] at e
      exact S.nw b x e z, S.sf.trans (same_upd h)⟩
/-- what a drawing expression may come to -/
def EvR (K : PySem.W.Frag) (te : TE) (σ : L2.St) (F : Hp) (d l c : Addr) (B : Nat) (E : PyData → Prop) : Prop :=
  ∀ F0 H0 G H n, Same F G → StD F0 H0 d l c G H n → n + B ≤ 2 ^ 40 → ∀ Q : VK, (∀ v e G' H', E e → Dq K G' v e → StD F0 H0 d l c G' H' (n + B) → Same G G' → Q v H') → te σ H Q
def EvRB (tt : TT) (σ : L2.St) (F : Hp) (d l c : Addr) (B : Nat) (P : Bool → Prop) : Prop :=
  ∀ F0 H0 G H n, Same F G → StD F0 H0 d l c G H n → n + B ≤ 2 ^ 40 → ∀ Q : Bool → Hp → Prop, (∀ b G' H', P b → StD F0 H0 d l c G' H' (n + B) → Same G G' → Q b H') → tt σ H Q
def EvRs (K : PySem.W.Frag) (ta : TA) (σ : L2.St) (F : Hp) (d l c : Addr) (B : Nat) (E : List PyData → Prop) : Prop :=
  ∀ F0 H0 G H n, Same F G → StD F0 H0 d l c G H n → n + B ≤ 2 ^ 40 → ∀ Q : List V → Hp → Prop, (∀ vs es G' H', E es → DqAll K G' vs es → StD F0 H0 d l c G' H' (n + B) → Same G G' → Q vs H') → ta σ H Q
theorem EvR.up {G : Hp} (h : EvR K te σ F d l c B E) (s : Same F G) : EvR K te σ G d l c B E := fun F0 H0 G' H n s' => h F0 H0 G' H n (s.trans s')
theorem EvR.imp {E' : PyData → Prop} (h : EvR K te σ F d l c B E) (k : ∀ e, E e → E' e) : EvR K te σ F d l c B E' := fun F0 H0 G H n s S hn Q q => h F0 H0 G H n s S hn Q fun v e G' H' he => q v e G' H' (k e he)
theorem EvR.more {B' : Nat} (h : EvR K te σ F d l c B E) (hB : B ≤ B') : EvR K te σ F d l c B' E := fun F0 H0 G H n s S hn Q q => h F0 H0 G H n s S (by omega) Q fun v e G' H' he r S' => q v e G' H' he r (S'.more (by omega))
theorem EvRB.up {G : Hp} {tt : TT} {P : Bool → Prop} (h : EvRB tt σ F d l c B P) (s : Same F G) : EvRB tt σ G d l c B P := fun F0 H0 G' H n s' => h F0 H0 G' H n (s.trans s')
theorem EvRs.up {G : Hp} {ta : TA} {E : List PyData → Prop} (h : EvRs K ta σ F d l c B E) (s : Same F G) : EvRs K ta σ G d l c B E := fun F0 H0 G' H n s' => h F0 H0 G' H n (s.trans s')
theorem er_pure {x : PyData} (h : EvD K te σ F x) : EvR K te σ F d l c 0 (· = x) := fun F0 H0 G H n s S hn Q q => h.up s H S.same Q fun v G' H' g r => q v x G' H' rfl r (S.grow g) g.f
theorem er_is {x : PyData} (h : EvD K te σ F x) (he : E x) : EvR K te σ F d l c 0 E := (er_pure h).imp fun e he' => he' ▸ he
theorem erb_pure {tt : TT} {b : Bool} (h : EvB tt σ F b) : EvRB tt σ F d l c 0 (· = b) := fun F0 H0 G H n s S hn Q q => (h.up s) H S.same Q fun G' H' g => q b G' H' rfl (S.grow g) g.f
theorem er_op {r : R2} (ha : EvR K ta σ F d l c B1 E1) (hb : EvR K tb σ F d l c B2 E2) (hr : ∀ x y, E1 x → E2 y → ∃ z, RvD K r x y z ∧ E z) : EvR K (tOp r ta tb) σ F d l c (B1 + B2) E := fun F0 H0 G H n s S hn Q q =>
  ha F0 H0 G H n s S (by omega) _ fun x e1 G1 H1 he1 r1 S1 s1 => hb F0 H0 G1 H1 (n + B1) (s.trans s1) S1 (by omega) _ fun y e2 G2 H2 he2 r2 S2 s2 => by
    obtain ⟨z, hz, he⟩ := hr e1 e2 he1 he2
    refine hz G2 x y H2 S2.same (r1.up s2) r2 Q fun v G3 H3 g3 r3 => q v z G3 H3 he r3 ?_ ((s1.trans s2).trans g3.f)
    rw [← Nat.add_assoc]
    exact S2.grow g3
theorem er_nil : EvRs K tNil σ F d l c 0 (· = []) := fun F0 H0 G H n s S hn Q q => q [] [] G H rfl .nil S (Same.refl _)
theorem er_cons {ts : TA} {Es : List PyData → Prop} (h : EvR K te σ F d l c B1 E) (hs : EvRs K ts σ F d l c B2 Es) : EvRs K (tCons te ts) σ F d l c (B1 + B2) (fun xs => ∃ x ys, xs = x :: ys ∧ E x ∧ Es ys) := fun F0 H0 G H n s S hn Q q =>
  h F0 H0 G H n s S (by omega) _ fun x e G1 H1 he r1 S1 s1 => hs F0 H0 G1 H1 (n + B1) (s.trans s1) S1 (by omega) _ fun xs es G2 H2 hes r2 S2 s2 =>
    q _ (e :: es) G2 H2 ⟨e, es, rfl, he, hes⟩ (.cons (r1.up s2) r2) (by rw [← Nat.add_assoc]; exact S2) (s1.trans s2)
theorem er_lst {ts : TA} {Es : List PyData → Prop} (h : EvRs K ts σ F d l c B Es) (hl : ∀ es, Es es → es.length ≤ 1000) : EvR K (tLst ts) σ F d l c B (fun e => ∃ es, e = .list es ∧ Es es) := fun F0 H0 G H n s S hn Q q =>
  h F0 H0 G H n s S hn _ fun vs es G1 H1 hes r S1 s1 => ⟨by rw [r.len]; exact Nat.le_of_lt (small1000 (hl es hes)), fun p hp =>
    q _ _ (upd G1 p (.lst vs)) _ ⟨es, rfl, hes⟩ (.lst (.inl (.inl upd_same)) (r.up (same_upd (S1.same.free hp)))) (S1.grow (.known S1.same hp)) (s1.trans (same_upd (S1.same.free hp)))⟩
theorem er_tup {ts : TA} {Es : List PyData → Prop} (h : EvRs K ts σ F d l c B Es) (hl : ∀ es, Es es → es.length ≤ 1000) : EvR K (tTup ts) σ F d l c B (fun e => ∃ es, e = .tuple es ∧ Es es) := fun F0 H0 G H n s S hn Q q =>
  h F0 H0 G H n s S hn _ fun vs es G1 H1 hes r S1 s1 => ⟨by rw [r.len]; exact Nat.le_of_lt (small1000 (hl es hes)), fun p hp =>
    q _ _ (upd G1 p (.tup vs)) _ ⟨es, rfl, hes⟩ (.tup (.inl (.inl upd_same)) (r.up (same_upd (S1.same.free hp)))) (S1.grow (.known S1.same hp)) (s1.trans (same_upd (S1.same.free hp)))⟩
/-- a pure operation behind a drawing one -/
theorem er_then {tw : TE → TE} (h : EvR K te σ F d l c B E1) (hw : ∀ (v : V) (x : PyData) (G H : Hp) (Q : VK), E1 x → Dq K G v x → Same G H → (∀ u e G' H', E e → Grow G H G' H' → Dq K G' u e → Q u H') → tw (tC v) σ H Q)
    (ht : ∀ H Q, te σ H (fun v H' => tw (tC v) σ H' Q) → tw te σ H Q) : EvR K (tw te) σ F d l c B E := fun F0 H0 G H n s S hn Q q =>
  ht H Q (h F0 H0 G H n s S hn _ fun v x G1 H1 hx r S1 s1 => hw v x G1 H1 Q hx r S1.same fun u e G2 H2 he g2 r2 => q u e G2 H2 he r2 (S1.grow g2) (s1.trans g2.f))
/-- tests over a drawn value -/
theorem erb_test {P : Bool → Prop} (h : EvR K te σ F d l c B (fun e => ∃ b, e = .bool b ∧ P b)) : EvRB (tTest te) σ F d l c B P := fun F0 H0 G H n s S hn Q q =>
  h F0 H0 G H n s S hn _ fun v e G1 H1 he r S1 s1 => by
    obtain ⟨b, rfl, hb⟩ := he
    cases r
    exact ⟨b, rfl, q b G1 H1 hb S1 s1⟩
theorem erb_and {t u : TT} {P : Bool → Prop} {b : Bool} (h1 : EvB t σ F b) (h2 : b = true → EvRB u σ F d l c B P) (h0 : b = false → P false) : EvRB (tAnd t u) σ F d l c B P := fun F0 H0 G H n s S hn Q q =>
  h1.up s H S.same _ fun G1 H1 g1 => by
    cases b with
    | true => exact h2 rfl F0 H0 G1 H1 n (s.trans g1.f) (S.grow g1) hn _ fun b G2 H2 hb S2 s2 => q b G2 H2 hb S2 (g1.f.trans s2)
    | false => exact q false G1 H1 (h0 rfl) ((S.grow g1).more (by omega)) g1.f
theorem er_if {t : TT} {P : Bool → Prop} {B3 : Nat} (h : EvRB t σ F d l c B1 P) (h1 : P true → EvR K ta σ F d l c B2 E) (h2 : P false → EvR K tb σ F d l c B3 E) : EvR K (tIf t ta tb) σ F d l c (B1 + (B2 + B3)) E := fun F0 H0 G H n s S hn Q q =>
  h F0 H0 G H n s S (by omega) _ fun b G1 H1 hb S1 s1 => by
    cases b with
    | true => exact h1 hb F0 H0 G1 H1 (n + B1) (s.trans s1) S1 (by omega) _ fun v e G2 H2 he r S2 s2 => q v e G2 H2 he r (S2.more (by omega)) (s1.trans s2)
    | false => exact h2 hb F0 H0 G1 H1 (n + B1) (s.trans s1) S1 (by omega) _ fun v e G2 H2 he r S2 s2 => q v e G2 H2 he r (S2.more (by omega)) (s1.trans s2)
theorem ew_up {wi : TI} {ds : List PyData} {G : Hp} (h : EvW K wi σ F ds) (s : Same F G) : EvW K wi σ G ds := fun H sH R q => h H (s.trans sH) R fun J F' H' g wk => by
  obtain ⟨G', a, b⟩ := g.widen s sH
  exact q J G' H' b (wk.up a)
/-- items and what was made of them -/
inductive All2 (R : PyData → PyData → Prop) : List PyData → List PyData → Prop
  | nil : All2 R [] []
  | cons {a b : PyData} {as bs : List PyData} : R a b → All2 R as bs → All2 R (a :: as) (b :: bs)
theorem All2.len {R : PyData → PyData → Prop} : ∀ {as bs : List PyData}, All2 R as bs → as.length = bs.length
  | _, _, .nil => rfl
  | _, _, .cons _ h => congrArg (· + 1) h.len
theorem All2.snoc {R : PyData → PyData → Prop} {a b : PyData} : ∀ {as bs : List PyData}, All2 R as bs → R a b → All2 R (as ++ [a]) (bs ++ [b])
  | _, _, .nil, h => .cons h .nil
  | _, _, .cons x xs, h => .cons x (xs.snoc h)
theorem All2.all {R : PyData → PyData → Prop} {P : PyData → Prop} (h : ∀ a b, R a b → P b) : ∀ {as bs : List PyData}, All2 R as bs → ∀ b ∈ bs, P b
  | _, _, .nil, b, hb => nomatch hb
  | _, _, .cons x xs, b, hb => by
    rcases List.mem_cons.mp hb with e | e
    · rw [e]
      exact h _ _ x
    · exact xs.all h b e
theorem All2.same : ∀ {as bs : List PyData}, All2 (fun a b => b = a) as bs → bs = as
  | _, _, .nil => rfl
  | _, _, .cons x xs => by rw [x, xs.same]
/-- [e for x in w if t], drawing -/
theorem er_lc {wi : TI} {g : TG} {tt : TT} {vs : List Nat} {ds : List PyData} {Bt : Nat} (full : Bool) (R : PyData → PyData → Prop) (hw : EvW K wi σ F ds) (hl : ds.length < sizeLine)
    (hT : ∀ dd G, dd ∈ ds → Same F G → Tk K g dd (wipe σ vs) G fun σ2 => wipe σ2 vs = wipe σ vs ∧ EvRB tt σ2 G d l c Bt (fun b => full = true → b = true) ∧ EvR K te σ2 G d l c B (R dd)) :
    EvR K (tLc wi g tt te vs) σ F d l c (ds.length * (Bt + B)) (fun e => ∃ es, e = .list es ∧ ∃ sub, List.Sublist sub ds ∧ (full = true → sub = ds) ∧ All2 R sub es) := fun F0 H0 F' H n s S hn Q q => (ew_up hw s) H S.same _ fun J F1 H1 g1 wk => by
  intro L hL
  have S1 := S.grow g1
  have s1 := s.trans g1.f
  have ap := S1.dr.fresh hL
  have hL0 : H0 L = none := S1.gone ap.1 ap.2.1 hL
  have hF1 : F1 L = none := S1.same.free hL
  refine ⟨fun i m H2 => m = ds.length - i ∧ i ≤ ds.length ∧ ∃ acc es sub G, H2 L = some (.lst acc) ∧ DqAll K G acc es ∧ All2 R sub es ∧ List.Sublist sub (ds.take i) ∧ (full = true → sub = ds.take i) ∧ StD F0 H0 d l c G H2 (n + i * (Bt + B)) ∧ Same F1 G ∧ G L = none,
    ⟨ds.length, by simp, Nat.zero_le _, [], [], [], F1, upd_same, .nil, .nil, List.Sublist.refl _, fun _ => rfl, by rw [Nat.zero_mul]; exact S1.put hF1 hL0 ap, Same.refl _, hF1⟩, fun i m H2 hW => ?_⟩
  obtain ⟨rfl, hi, acc, es, sub, G, eL, ra, r2, hsub, hfull, S2, s2, gL⟩ := hW
  have wk2 := wk.up s2
  by_cases hlt : i < ds.length
  · have hd : ds[i]? = some ds[i] := List.getElem?_eq_getElem hlt
    have eT : ds.take (i + 1) = ds.take i ++ [ds[i]] := by rw [List.take_add_one, hd]; rfl
    have hmul : i * (Bt + B) + (Bt + B) ≤ ds.length * (Bt + B) := by
      rw [← Nat.succ_mul]
      exact Nat.mul_le_mul_right _ hlt
    have hacc : acc.length ≤ i := by
      rw [ra.len, ← r2.len]
      have := hsub.length_le
      rw [List.length_take] at this
      omega
    obtain ⟨go, yl⟩ := (wk2 i H2 S2.same).1 _ hd
    refine .inr ⟨go, fun H3 => ∃ acc es sub G, H3 L = some (.lst acc) ∧ DqAll K G acc es ∧ All2 R sub es ∧ List.Sublist sub (ds.take (i + 1)) ∧ (full = true → sub = ds.take (i + 1)) ∧ StD F0 H0 d l c G H3 (n + (i + 1) * (Bt + B)) ∧ Same F1 G ∧ G L = none, fun H3 h3 => ⟨_, ?_, rfl, hlt, h3⟩, fun x H3 hy => ?_⟩
    · show ds.length - (i + 1) < ds.length - i
      omega
    · obtain ⟨F3, g3, rx⟩ := yl x H3 hy
      have S3 := S2.grow g3
      have gL3 : F3 L = none := free_grow g3 gL eL
      have eL3 := g3.h _ _ eL
      refine hT ds[i] F3 (List.getElem_mem hlt) (s1.trans (s2.trans g3.f)) x H3 g3.i rx _ fun σ2 hσ => ?_
      obtain ⟨w2, hb, he⟩ := hσ
      refine ⟨w2, hb F3 H3 F3 H3 (n + i * (Bt + B)) (Same.refl _) S3.begin (by omega) _ fun b G4 H4 hbf T4 s4 => ?_⟩
      have S4 := S3.trans T4
      have eL4 : H4 L = some (.lst acc) := T4.kp L _ ap.1 ap.2.1 eL3
      have gL4 : G4 L = none := by
        cases z : G4 L with
        | none => rfl
        | some o =>
          have := T4.nw L o z gL3
          rw [eL3] at this
          cases this
      cases b with
      | true =>
        show te σ2 H4 _
        refine he.up s4 G4 H4 G4 H4 (n + i * (Bt + B) + Bt) (Same.refl _) S4.begin (by omega) _ fun y e G5 H5 hE ry T5 s5 => ?_
        have S5 := S4.trans T5
        have eL5 : H5 L = some (.lst acc) := T5.kp L _ ap.1 ap.2.1 eL4
        have gL5 : G5 L = none := by
          cases z : G5 L with
          | none => rfl
          | some o =>
            have := T5.nw L o z gL4
            rw [eL4] at this
            cases this
        have hm : n + i * (Bt + B) + Bt + B = n + (i + 1) * (Bt + B) := by rw [Nat.succ_mul]; omega
        refine ⟨acc, eL5, by omega, acc ++ [y], es ++ [e], sub ++ [ds[i]], G5, upd_same, (ra.up (((g3.f).trans s4).trans s5)).app (.cons ry .nil), r2.snoc hE, ?_, ?_, ?_, ((s2.trans g3.f).trans s4).trans s5, gL5⟩
        · rw [eT]
          exact hsub.append (List.Sublist.refl _)
        · intro hf
          rw [hfull hf, eT]
        · rw [← hm]
          exact S5.put gL5 hL0 ap
      | false =>
        refine ⟨acc, es, sub, G4, eL4, ra.up (g3.f.trans s4), r2, ?_, ?_, ?_, (s2.trans g3.f).trans s4, gL4⟩
        · rw [eT]
          exact hsub.trans (List.sublist_append_left _ _)
        · intro hf
          exact absurd (hbf hf) Bool.false_ne_true
        · exact S4.more (by rw [Nat.succ_mul]; omega)
  · have ei : i = ds.length := by omega
    refine .inl ⟨(wk2 i H2 S2.same).2 ei, ?_⟩
    rw [ei, List.take_length] at hsub hfull
    have ST := S2.thaw gL eL hL0 ap.1 ap.2.1
    refine q _ _ (upd G L (.lst acc)) H2 ⟨es, rfl, sub, hsub, hfull, r2⟩ (.lst (.inl (.inl upd_same)) (ra.up (same_upd gL))) (by rw [← ei]; exact ST) ((g1.f.trans s2).trans (same_upd gL))
/-- defs that draw: the draw is the first argument -/
def spR (K : PySem.W.Frag) (B : Nat) (pre : List PyData → Option (PyData → Prop)) : Sp := fun vs H Q _ => ∃ (F0 H0 F : Hp) (d l c : Addr) (n : Nat) (ws : List V) (ds : List PyData) (E : PyData → Prop),
  StD F0 H0 d l c F H n ∧ n + B ≤ 2 ^ 40 ∧ vs = .ref d :: ws ∧ DqAll K F ws ds ∧ pre ds = some E ∧ ∀ v e G H', E e → Dq K G v e → StD F0 H0 d l c G H' (n + B) → Same F G → Q v H'
theorem er_call {i : Nat} {ts : TA} {ds : List PyData} {pre : List PyData → Option (PyData → Prop)} (hi : σ[i]? = some (some (.ref d))) (h : EvS K ts σ F ds) (he : pre ds = some E) : EvR K (tCall (spR K B pre) [] C8.E0 (tCons (tVar i) ts)) σ F d l c B E := fun F0 H0 G H n s S hn Q q =>
  ⟨.ref d, hi, h.up s H S.same _ fun ws G1 H1 g1 r => ⟨F0, H0, G1, d, l, c, n, ws, ds, E, S.grow g1, hn, by rw [List.append_nil], r, he, fun v e G2 H2 hE rv S2 s2 => q v e G2 H2 hE rv S2 (g1.f.trans s2)⟩⟩
theorem s_setR {D : Ends} {i : Nat} (h : EvR K te σ F d l c B E) (S : StD F0 H0 d l c F H n) (hn : n + B ≤ 2 ^ 40) (k : ∀ v e G H', E e → Dq K G v e → StD F0 H0 d l c G H' (n + B) → Same F G → D.nx (σ.set i (some v)) H') : tAsg te (gName i) D σ H := h F0 H0 F H n (Same.refl _) S hn _ k
theorem s_retR {D : Ends} (h : EvR K te σ F d l c B E) (S : StD F0 H0 d l c F H n) (hn : n + B ≤ 2 ^ 40) (k : ∀ v e G H', E e → Dq K G v e → StD F0 H0 d l c G H' (n + B) → Same F G → D.rt v H') : tRet te D σ H := h F0 H0 F H n (Same.refl _) S hn _ k
end
end Sx
set_option Elab.async false
set_option linter.all false
set_option maxRecDepth 100000
set_option maxHeartbeats 4000000
set_option exponentiation.threshold 3000
namespace Sx
open PySem PySem.Spec PyProof.Rows L2
open C8 (Cal pe_c pe_gc)
section
variable {K : PySem.W.Frag} {σ : L2.St} {F F0 H0 F1 H1 H : Hp} {d l c L : Addr} {n m B B1 B2 : Nat} {te ta tb : TE} {o : HO} {E E1 E2 : PyData → Prop}
/-- take(draw, m) -/
theorem er_take {i : Nat} {k : Int} (hi : σ[i]? = some (some (.ref d))) (h : EvD K te σ F (.int k)) (h1 : 1 ≤ k) (h2 : k ≤ 2 ^ 40) : EvR K (tCall spTake [] C8.E0 (tCons (tVar i) (tCons te tNil))) σ F d l c 1 (fun e => ∃ j : Nat, (j : Int) < k ∧ e = .int (j : Int)) := fun F0 H0 G H n s S hn Q q =>
  ⟨.ref d, hi, h.up s H S.same _ fun v G1 H1 g1 r => by
    cases r
    have S1 := S.grow g1
    exact ⟨d, l, c, n, k, rfl, S1.dr, by omega, h1, h2, fun j H2 hj k2 D2 => q _ _ G1 H2 ⟨j, hj, rfl⟩ (.int _) (S1.draw k2 D2) g1.f⟩⟩
/-- pick(draw, [..]) -/
theorem er_pick {i : Nat} {Es : List PyData → Prop} (hi : σ[i]? = some (some (.ref d))) (h : EvR K te σ F d l c B (fun e => ∃ es, e = .list es ∧ Es es)) (hE : ∀ es, Es es → 1 ≤ es.length ∧ es.length ≤ 1000 ∧ ∀ x ∈ es, E x) : EvR K (tCall (spPick K) [] C8.E0 (tCons (tVar i) (tCons te tNil))) σ F d l c (B + 1) E := fun F0 H0 G H n s S hn Q q =>
  ⟨.ref d, hi, h F0 H0 G H n s S (by omega) _ fun v e G1 H1 he r S1 s1 => by
    obtain ⟨es, rfl, hes⟩ := he
    obtain ⟨h1, h2, h3⟩ := hE es hes
    exact ⟨G1, d, l, c, n + B, v, es, S1.same, S1.fd, S1.fl, rfl, r, h1, h2, S1.dr, by omega, fun x u H2 hx ru k2 D2 => q u x G1 H2 (h3 x hx) ru (S1.draw k2 D2) s1⟩⟩
/-- pick(draw, a list that is known) -/
theorem er_pickL {i : Nat} {es : List PyData} (hi : σ[i]? = some (some (.ref d))) (h : EvD K te σ F (.list es)) (h1 : 1 ≤ es.length) (h2 : es.length ≤ 1000) : EvR K (tCall (spPick K) [] C8.E0 (tCons (tVar i) (tCons te tNil))) σ F d l c 1 (· ∈ es) := er_pick (B := 0) (Es := (· = es)) hi (er_is h ⟨es, rfl, rfl⟩) fun es' e => by
  rw [show es' = es from e]
  exact ⟨h1, h2, fun x hx => hx⟩
theorem erb_yes {full : Bool} : EvRB tYes σ F d l c 0 (fun b => full = true → b = true) := fun F0 H0 G H n s S hn Q q => (erb_pure eb_yes) F0 H0 G H n s S hn Q fun b G' H' hb => q b G' H' (fun _ => hb)
/-- what follows a drawn value -/
theorem er_bind {tw : TE → TE} (h : EvR K te σ F d l c B1 E1) (ht : ∀ H Q, te σ H (fun v H' => tw (tC v) σ H' Q) → tw te σ H Q) (hw : ∀ v x G, E1 x → Dq K G v x → Same F G → EvR K (tw (tC v)) σ G d l c B2 E) : EvR K (tw te) σ F d l c (B1 + B2) E := fun F0 H0 G H n s S hn Q q =>
  ht H Q (h F0 H0 G H n s S (by omega) _ fun v x G1 H1 hx r S1 s1 => hw v x G1 hx r (s.trans s1) F0 H0 G1 H1 (n + B1) (Same.refl _) S1 (by omega) Q fun u e G2 H2 he r2 S2 s2 => q u e G2 H2 he r2 (by rw [← Nat.add_assoc]; exact S2) (s1.trans s2))
theorem er_join {P : List Str → Prop} (h : EvR K te σ F d l c B (fun e => ∃ ys : List Str, e = .list (ys.map .str) ∧ P ys)) (hs : ∀ ys, P ys → (ys.map (·.length)).sum ≤ 16777216) : EvR K (tM1 (rJoin K) (tC (.str "")) te) σ F d l c B (fun e => ∃ ys, e = .str (catS ys) ∧ P ys) := fun F0 H0 G H n s S hn Q q =>
  ⟨⟨_, rfl⟩, h F0 H0 G H n s S hn _ fun v e G1 H1 he r S1 s1 => by
    obtain ⟨ys, rfl, hy⟩ := he
    cases r with
    | lst a b =>
      have e0 := dps_str b
      refine ⟨Str.empty, _, ys, rfl, rfl, .inl (by rw [e0] at a; exact S1.same.seq a), ?_, ?_⟩
      · show _ + ys.length * 0 ≤ _
        have := hs ys hy
        omega
      · rw [join_cat]
        exact q _ _ G1 H1 ⟨ys, rfl, hy⟩ (.str _) S1 s1⟩
theorem er_tupOf {P : List PyData → Prop} (h : EvR K te σ F d l c B (fun e => ∃ es, e = .list es ∧ P es)) : EvR K (tThen te (kTup K)) σ F d l c B (fun e => ∃ es, e = .tuple es ∧ P es) := fun F0 H0 G H n s S hn Q q =>
  h F0 H0 G H n s S hn _ fun v e G1 H1 he r S1 s1 => by
    obtain ⟨es, rfl, hes⟩ := he
    cases r with
    | lst a b => exact .inl ⟨_, _, rfl, S1.same.seq a, fun t ht => q _ _ (upd G1 t (.tup _)) _ ⟨es, rfl, hes⟩ (.tup (.inl (.inl upd_same)) (b.up (same_upd (S1.same.free ht)))) (S1.grow (.known S1.same ht)) (s1.trans (same_upd (S1.same.free ht)))⟩
/-- if t: (a branch); the rest -/
theorem s_whenR {t : TT} {ts tw : TS} {D : Ends} {P : Bool → Prop} (h : EvRB t σ F d l c B P) (S : StD F0 H0 d l c F H n) (hn : n + B ≤ 2 ^ 40) (k1 : P true → ∀ G H', StD F0 H0 d l c G H' (n + B) → Same F G → ts { D with nx := tw D } σ H') (k2 : P false → ∀ G H', StD F0 H0 d l c G H' (n + B) → Same F G → tw D σ H') :
    tSeq (tIfS t ts tNext) tw D σ H := h F0 H0 F H n (Same.refl _) S hn _ fun b G H' hb S' s' => by
  cases b with
  | true => exact k1 hb G H' S' s'
  | false => exact k2 hb G H' S' s'
/-- x % m of a drawn count, as a test -/
theorem erb_eq0 (K : PySem.W.Frag) {i : Nat} {k : Int} (hi : σ[i]? = some (some (.ref d))) (h1 : 1 ≤ k) (h2 : k ≤ 2 ^ 40) : EvRB (tTest (tOp rEq (tCall spTake [] C8.E0 (tCons (tVar i) (tCons (tC (.int k)) tNil))) (tC (.int 0)))) σ F d l c 1 (fun _ => True) :=
  erb_test (K := K) (er_op (B2 := 0) (er_take hi ev_int h1 h2) (er_pure (ev_int (i := 0))) fun x y ⟨j, _, ex⟩ ey => by
    subst ex
    subst ey
    exact ⟨_, rv_eqI, _, rfl, trivial⟩)
theorem erb_gt0 (K : PySem.W.Frag) {i : Nat} {k : Int} (hi : σ[i]? = some (some (.ref d))) (h1 : 1 ≤ k) (h2 : k ≤ 2 ^ 40) : EvRB (tTest (tOp (rI0 fun i j => .bl (decide (i > j))) (tCall spTake [] C8.E0 (tCons (tVar i) (tCons (tC (.int k)) tNil))) (tC (.int 0)))) σ F d l c 1 (fun _ => True) :=
  erb_test (K := K) (er_op (B2 := 0) (er_take hi ev_int h1 h2) (er_pure (ev_int (i := 0))) fun x y ⟨j, _, ex⟩ ey => by
    subst ex
    subst ey
    exact ⟨_, rv_bl (g := fun i j => decide (i > j)), _, rfl, trivial⟩)
end
theorem signs_app (x y : Str) : signs (x ++ y) = signs x ++ signs y := by
  unfold signs
  have h : (x ++ y).cps.toList = x.cps.toList ++ y.cps.toList := TL.tl_append x y
  rw [h, List.map_append]
theorem cat_abc : ∀ ys : List Str, (∀ y ∈ ys, y = "a" ∨ y = "b" ∨ y = "c") → (signs (catS ys)).all isAbc = true ∧ (catS ys).length = ys.length
  | [], _ => ⟨rfl, rfl⟩
  | x :: r, h => by
    obtain ⟨h1, h2⟩ := cat_abc r fun y hy => h y (List.mem_cons_of_mem _ hy)
    have hx : (signs x).all isAbc = true ∧ x.length = 1 := by
      rcases h x List.mem_cons_self with rfl | rfl | rfl <;> decide +kernel
    refine ⟨?_, ?_⟩
    · show (signs (x ++ catS r)).all isAbc = true
      rw [signs_app, List.all_append, hx.1, h1]
      rfl
    · show (x ++ catS r).length = r.length + 1
      rw [cat_len, hx.2, h2]
      omega
theorem strs_of {ys : List PyData} (h : ∀ e ∈ ys, ∃ z, e = .str z) : ys = (ys.map strOf).map .str := by
  rw [List.map_map]
  refine (List.map_id ys).symm.trans (List.map_congr_left fun d hd => ?_)
  obtain ⟨z, rfl⟩ := h d hd
  rfl
section
variable {P : Program} {w : World} {K : PySem.W.Frag} {mg : Str → Option Value} {base : Heap} {f : Addr} {fd : FuncData} {CW CT CP fI : Addr} {F : Hp} {σ : L2.St}
/-! ### _law_string -/
abbrev s__law_string : Stmt := top 49
theorem sc__law_string : FnScope ["draw", "most", "lap"] ["draw", "most"] (defScope s__law_string) := ⟨rfl, rfl, rfl, by decide +kernel, rfl, by decide +kernel, by decide +kernel⟩
def abcOf (m : Nat) (e : PyData) : Prop := ∃ z, e = .str z ∧ (signs z).all isAbc = true ∧ z.length ≤ m
def pre_string (ds : List PyData) : Option (PyData → Prop) := match ds with
  | [.int m] => if 0 ≤ m ∧ m ≤ 12 then some (abcOf m.toNat) else none
  | _ => none
abbrev p__law_string (K : PySem.W.Frag) : Sp := spR K 20 pre_string
theorem len_r1 {B : Nat} {pre : List PyData → Option (PyData → Prop)} {vs : List V} {H : Hp} {Q : VK} {E : XK} {k : Nat} (h : spR K B pre vs H Q E) (hp : ∀ ds E, pre ds = some E → ds.length = k) : vs.length = k + 1 := by
  obtain ⟨_, _, _, _, _, _, _, ws, ds, E', _, _, rfl, r, e, _⟩ := h
  rw [List.length_cons, r.len, hp ds E' e]
theorem ok__law_string (F : Fun K "_law_string" "_law_string" s__law_string f fd) (B : BI mg) (c__law_take : Cal P w K mg base 2 "_law_take" spTake []) (c__law_pick : Cal P w K mg base 3 "_law_pick" (spPick K) []) : FnOk P w K mg base CX0 4 f fd ["draw", "most"] (p__law_string K) := by
  refine F.ok sc__law_string (fun vs H Q E h => len_r1 (k := 1) h fun ds E e => by
    match ds, e with
    | [.int m], _ => rfl) (fun cdv A outer s H vs Q E hr h => ?_)
  obtain ⟨F0, H0, G0, d, l, c, n, ws, ds, E', S, hn, ev, r, e, q⟩ := h
  match ds, r, e with
  | [.int m], .cons (v := v) rm .nil, e =>
  have e' : (if 0 ≤ m ∧ m ≤ 12 then some (abcOf m.toNat) else none) = some E' := e
  split at e'
  case isFalse => cases e'
  rename_i hm
  cases e'
  subst ev
  refine ⟨_, (pss_one (ps_ret (pe_join pe_str (pe_lc (own := [("lap", 2)]) (g := (gName 2)) rfl sc__law_string.nd (pi_range1 (by rfl) B.range (pa_cons (pe_c c__law_take hr (by first | decide | omega) (by rfl) (pa_cons (pv 0) (pa_cons (pe_op (op_add) (pv 1) pe_int) pa_nil))) pa_nil)) (blkOk_by (own := [("lap", 2)]) (N := ["draw", "most", "lap"]) (sc := defScope s__law_string) (by decide +kernel)) (fun _ _ _ _ _ => (pg_name (i := 2) sc__law_string.nd rfl (Or.inl rfl) (hf := (Or.inr rfl)))) (fun _ _ _ _ _ => pts_nil) (fun _ _ _ _ _ => (pe_c c__law_pick hr (by first | decide | omega) (by rfl) (pa_cons (pv 0) (pa_cons (pe_lst (pa_cons pe_str (pa_cons pe_str (pa_cons pe_str pa_nil)))) pa_nil)))))))), ?_⟩
  have h0 : (start ["draw", "most", "lap"] [V.ref d, v])[0]? = some (some (.ref d)) := rfl
  have q1 : EvR K (tCall spTake [] C8.E0 (tCons (tVar 0) (tCons (tOp (rI0 fun i j => .int (i + j)) (tVar 1) (tC (.int 1))) tNil))) (start ["draw", "most", "lap"] [V.ref d, v]) G0 d l c 1 _ := er_take h0 (ev_op (ev_var (i := 1) ⟨v, rfl, rm⟩) (ev_int (i := 1)) (rv_int (g := fun i j => i + j))) (by omega) (by omega)
  have q2 : EvR K (tLc (iRng1 (tCons (tCall spTake [] C8.E0 (tCons (tVar 0) (tCons (tOp (rI0 fun i j => .int (i + j)) (tVar 1) (tC (.int 1))) tNil))) tNil)) (gName 2) tYes (tCall (spPick K) [] C8.E0 (tCons (tVar 0) (tCons (tLst (tCons (tC (.str "a")) (tCons (tC (.str "b")) (tCons (tC (.str "c")) tNil)))) tNil))) [2]) (start ["draw", "most", "lap"] [V.ref d, v]) G0 d l c (1 + 12) (fun e => ∃ ys : List Str, e = .list (ys.map .str) ∧ (∀ y ∈ ys, y = "a" ∨ y = "b" ∨ y = "c") ∧ ys.length ≤ m.toNat) := by
    refine er_bind (tw := fun t => tLc (iRng1 (tCons t tNil)) (gName 2) tYes (tCall (spPick K) [] C8.E0 (tCons (tVar 0) (tCons (tLst (tCons (tC (.str "a")) (tCons (tC (.str "b")) (tCons (tC (.str "c")) tNil)))) tNil))) [2]) q1 (fun H Q h => h) fun u x G ⟨j, hj, ex⟩ ru sG => ?_
    subst ex
    cases ru
    have hj' : j ≤ 12 := by omega
    refine ((er_lc (K := K) (Bt := 0) (B := 1) (tt := tYes) (g := gName 2) (vs := [2]) (ds := rgs 0 (j : Int).toNat) true (fun _ e => e ∈ [PyData.str "a", .str "b", .str "c"]) (ew_rng1 (ea_cons ev_int ea_nil) (by omega)) (by rw [rgs_len, Int.toNat_natCast]; exact small1000 (by omega)) fun dd G2 hd s2 => ?_).more (by rw [rgs_len, Int.toNat_natCast]; omega)).imp fun e he => ?_
    · refine tk_name.imp fun σ2 hσ => ?_
      obtain ⟨u', rfl, _⟩ := hσ
      exact ⟨rfl, erb_yes, er_pickL rfl (ev_lst (ea_cons (ev_str (x := "a")) (ea_cons (ev_str (x := "b")) (ea_cons (ev_str (x := "c")) ea_nil))) (by have := line_big; show 3 ≤ _; omega)) (by decide) (by decide)⟩
    · obtain ⟨es, rfl, sub, _, hfull, ha⟩ := he
      have hel : es.length ≤ m.toNat := by
        rw [← ha.len, hfull rfl, rgs_len, Int.toNat_natCast]
        omega
      have hes := ha.all (P := fun e => e ∈ [PyData.str "a", .str "b", .str "c"]) (fun _ _ h => h)
      refine ⟨es.map strOf, congrArg PyData.list (strs_of fun e he => ?_), fun y hy => ?_, by rw [List.length_map]; exact hel⟩
      · have := hes e he
        simp only [List.mem_cons, List.not_mem_nil, or_false] at this
        rcases this with rfl | rfl | rfl <;> exact ⟨_, rfl⟩
      · obtain ⟨e, he, rfl⟩ := List.mem_map.mp hy
        have := hes e he
        simp only [List.mem_cons, List.not_mem_nil, or_false] at this
        rcases this with rfl | rfl | rfl
        · exact .inl rfl
        · exact .inr (.inl rfl)
        · exact .inr (.inr rfl)
  have q3 := er_join (P := fun ys => (∀ y ∈ ys, y = ("a" : Str) ∨ y = "b" ∨ y = "c") ∧ ys.length ≤ m.toNat) q2 fun ys hy => by
    rw [← catS_len, (cat_abc ys hy.1).2]
    omega
  refine s_retR (K := K) ((q3.more (B' := 20) (by decide)).imp (E' := abcOf m.toNat) fun e he => ?_) S hn q
  obtain ⟨ys, rfl, h1, h2⟩ := he
  obtain ⟨h3, h4⟩ := cat_abc ys h1
  exact ⟨catS ys, rfl, h3, by omega⟩
end
end Sx
set_option Elab.async false
set_option linter.all false
set_option maxRecDepth 100000
set_option maxHeartbeats 4000000
set_option exponentiation.threshold 3000
namespace Sx
open PySem PySem.Spec PyProof.Rows L2
open C8 (Cal pe_c pe_gc)
theorem pe_tupleOfK {X : Cx} {K : PySem.W.Frag} {a : Expr} {ta : TE} {p pos : Pos} (hg : Gl X "tuple") (hm : X.mg "tuple" = none) (ha : PE X a ta) (hK : X.K = K := by rfl) (na : starEach [a] X.env = (false, eval a X.env) :: starEach [] X.env := by rfl) :
    PE X (.Call (.Name "tuple" p) [a] [] pos) (tThen ta (kTup K)) := hK ▸ pe_tupleOf hg hm ha na
theorem rgs_rise (n : Nat) : ((rgs 0 n).map intD).Pairwise (· < ·) := by
  unfold rgs
  rw [List.map_map, List.pairwise_map]
  refine List.Pairwise.imp (fun {a b} h => ?_) List.pairwise_lt_range
  show (0 + (a : Int)) < (0 + (b : Int))
  omega
theorem sub_rises {n : Nat} {sub : List PyData} (h : List.Sublist sub (rgs 0 n)) : isRisingBelow (.tuple sub) (n : Int) = true := by
  have hin : ∀ e ∈ sub, ∃ j : Nat, j < n ∧ e = .int (j : Int) := fun e he => by
    obtain ⟨j, hj⟩ := List.mem_iff_getElem?.mp (h.mem he)
    obtain ⟨h1, rfl⟩ := rgs_get hj
    exact ⟨j, h1, congrArg PyData.int (by omega)⟩
  show (sub.all (fun x => isBetween x 0 ((n : Int) - 1)) && risesD sub) = true
  rw [Bool.and_eq_true]
  refine ⟨List.all_eq_true.mpr fun e he => ?_, ?_⟩
  · obtain ⟨j, hj, rfl⟩ := hin e he
    show (decide (0 ≤ (j : Int)) && decide ((j : Int) ≤ (n : Int) - 1)) = true
    rw [decide_eq_true (show 0 ≤ (j : Int) by omega), decide_eq_true (show (j : Int) ≤ (n : Int) - 1 by omega)]
    rfl
  · have e1 : sub = (sub.map intD).map .int := by
      rw [List.map_map]
      refine (List.map_id sub).symm.trans (List.map_congr_left fun d hd => ?_)
      obtain ⟨j, _, rfl⟩ := hin d hd
      rfl
    rw [e1]
    exact (risesI_iff _).mpr ((rgs_rise n).sublist (h.map intD))
theorem one_rises {n j : Nat} (h : j < n) : isRisingBelow (.tuple [.int (j : Int)]) (n : Int) = true := by
  show (([PyData.int (j : Int)].all fun x => isBetween x 0 ((n : Int) - 1)) && true) = true
  rw [Bool.and_true, List.all_cons, List.all_nil, Bool.and_true]
  show (decide (0 ≤ (j : Int)) && decide ((j : Int) ≤ (n : Int) - 1)) = true
  rw [decide_eq_true (show 0 ≤ (j : Int) by omega), decide_eq_true (show (j : Int) ≤ (n : Int) - 1 by omega)]
  rfl
theorem betw_nat {n j : Nat} (h : j < n) : isBetween (.int (j : Int)) 0 ((n : Int) - 1) = true := by
  show (decide (0 ≤ (j : Int)) && decide ((j : Int) ≤ (n : Int) - 1)) = true
  rw [decide_eq_true (show 0 ≤ (j : Int) by omega), decide_eq_true (show (j : Int) ≤ (n : Int) - 1 by omega)]
  rfl
theorem row_below {n : Nat} {xs : List PyData} (hl : xs.length = 3) (h : ∀ x ∈ xs, ∃ j : Nat, j < n ∧ x = .int (j : Int)) : isRowBelow (.tuple xs) (n : Int) = true := by
  show (decide ((xs.length : Int) = 3) && xs.all fun x => isBetween x 0 ((n : Int) - 1)) = true
  rw [decide_eq_true (show (xs.length : Int) = 3 by omega), Bool.true_and]
  refine List.all_eq_true.mpr fun x hx => ?_
  obtain ⟨j, hj, rfl⟩ := h x hx
  exact betw_nat hj
def natIn (n : Nat) (e : PyData) : Prop := ∃ j : Nat, j < n ∧ e = .int (j : Int)
def rowsGood (n : Nat) (e : PyData) : Prop := ∃ rs, e = .list rs ∧ rs.length = n ∧ ∀ r ∈ rs, isRowBelow r (n : Int) = true
def lastGood (n : Nat) (e : PyData) : Prop := ∃ ts, e = .list ts ∧ ts.length ≤ 8 ∧ isRisingBelow (.tuple ts) (n : Int) = true
def machineE (e : PyData) : Prop := ∃ rs ts, e = .tuple [.str "words", .tuple rs, .tuple ts] ∧ isWords e = true ∧ ts.length ≤ 8
def pre_machine (ds : List PyData) : Option (PyData → Prop) := match ds with
  | [.int m] => if m = 8 then some machineE else none
  | _ => none
section
variable {P : Program} {w : World} {K : PySem.W.Frag} {mg : Str → Option Value} {base : Heap} {f : Addr} {fd : FuncData} {CW CT CP fI : Addr} {F : Hp} {σ : L2.St}
/-! ### _law_machine -/
abbrev tTake0 (k : Int) : TE := tCall spTake [] C8.E0 (tCons (tVar 0) (tCons (tC (.int k)) tNil))
abbrev tLast (K : PySem.W.Frag) : TS := tSeq (tAsg (tLc (iRng1 (tCons (tVar 2) tNil)) (gName 7) (tTest (tOp rEq (tTake0 2) (tC (.int 0)))) (tVar 7) [7]) (gName 5)) (tSeq (tAsg (tIf (tAnd (tTest (tOp (rI0 fun i j => .bl (decide (i > j))) (tVar 2) (tC (.int 1)))) (tAnd (tTest (tOp (rIn K false) (tCB (rLen0 K) (tCons (tVar 5) tNil)) (tLst (tCons (tC (.int 0)) (tCons (tVar 2) tNil))))) (tTest (tOp (rI0 fun i j => .bl (decide (i > j))) (tTake0 5) (tC (.int 0)))))) (tLst (tCons (tCall spTake [] C8.E0 (tCons (tVar 0) (tCons (tVar 2) tNil))) tNil)) (tVar 5)) (gName 5)) (tRet (tTup (tCons (tC (.str "words")) (tCons (tThen (tVar 4) (kTup K)) (tCons (tThen (tVar 5) (kTup K)) tNil))))))
theorem last_reads {D : Ends} {F0 H0 G H : Hp} {d l c : Addr} {n many : Nat} {rs : List PyData} {v4 : V} {x3 x5 x6 x7 x8 : Option V} (S : StD F0 H0 d l c G H n) (hn : n + 40 ≤ 2 ^ 40) (m1 : 1 ≤ many) (m8 : many ≤ 8) (rv : Dq K G v4 (.list rs)) (hl : rs.length = many) (hrs : ∀ r ∈ rs, isRowBelow r (many : Int) = true)
    (q : ∀ v e G' H', machineE e → Dq K G' v e → StD F0 H0 d l c G' H' (n + 40) → Same G G' → D.rt v H') : tLast K D [some (.ref d), some (.int 8), some (.int (many : Int)), x3, some v4, x5, x6, x7, x8] H := by
  refine s_setR (K := K) (B := 10) (E := lastGood many) (EvR.more (B := (rgs 0 many).length * (1 + 0)) ((er_lc (σ := [some (.ref d), some (.int 8), some (.int (many : Int)), x3, some v4, x5, x6, x7, x8]) false (fun a b => b = a) (by have := ew_rng1 (K := K) (n := (many : Int)) (F := G) (σ := [some (.ref d), some (.int 8), some (.int (many : Int)), x3, some v4, x5, x6, x7, x8]) (ea_cons (ev_var (i := 2) ⟨_, rfl, .int _⟩) ea_nil) (by omega); rw [Int.toNat_natCast] at this; exact this) (by rw [rgs_len]; exact small1000 (by omega)) fun dd G2 hd sG => ?_).imp fun e he => ?_) (by rw [rgs_len]; omega)) S (by omega) fun v5 e5 G5 H5 hE5 r5 S5 s5 => ?_
  · refine tk_name.imp fun σ2 hσ => ?_
    obtain ⟨u, rfl, ru⟩ := hσ
    refine ⟨rfl, fun F0 H0 G H n s S hn Q q => erb_eq0 K rfl (by decide) (by decide) F0 H0 G H n s S hn Q fun b G' H' _ => q b G' H' (fun z => nomatch z), er_pure (ev_var (i := 7) ⟨u, rfl, ru⟩)⟩
  · obtain ⟨es, rfl, sub, hsub, _, ha⟩ := he
    have e0 := ha.same
    subst e0
    refine ⟨es, rfl, ?_, sub_rises hsub⟩
    have := hsub.length_le
    rw [rgs_len] at this
    omega
  obtain ⟨ts, rfl, ht8, htr⟩ := hE5
  refine s_setR (K := K) (B := 10) (E := lastGood many) (EvR.more (B := 1 + ((1 + 0) + 0)) (er_if (P := fun _ => True) (σ := [some (.ref d), some (.int 8), some (.int (many : Int)), x3, some v4, some v5, x6, x7, x8]) (erb_and (eb_test (ev_op (ev_var (K := K) (i := 2) ⟨_, rfl, .int (many : Int)⟩) (ev_int (i := 1)) (rv_bl (g := fun i j => decide (i > j))))) (fun _ => erb_and (eb_test (ev_op (ev1 (ev_var (i := 5) ⟨v5, rfl, r5⟩) rc_lenL) ((ev_lst (ea_cons (ev_int (i := 0)) (ea_cons (ev_var (i := 2) ⟨_, rfl, .int (many : Int)⟩) ea_nil)) two_small).is (show _ = PyData.list (([0, (many : Int)] : List Int).map .int) from rfl)) (rv_inL mem_int))) (fun _ => erb_gt0 K rfl (by decide) (by decide)) fun _ => trivial) fun _ => trivial) (fun _ => ((er_lst (er_cons (er_take rfl (ev_var (i := 2) ⟨_, rfl, .int _⟩) (by omega) (by omega)) er_nil) fun es he => ?_).imp fun e he => ?_)) fun _ => er_is (ev_var (i := 5) ⟨v5, rfl, r5⟩) ⟨ts, rfl, ht8, htr⟩) (by decide)) S5 (by omega) fun v6 e6 G6 H6 hE6 r6 S6 s6 => ?_
  · obtain ⟨x, ys, rfl, _, rfl⟩ := he
    show 1 ≤ 1000
    decide
  · obtain ⟨es, rfl, x, ys, rfl, ⟨j, hj, rfl⟩, rfl⟩ := he
    exact ⟨_, rfl, by show 1 ≤ 8; decide, one_rises (by omega)⟩
  obtain ⟨us, rfl, hu8, hur⟩ := hE6
  refine s_retR (K := K) (B := 0) (E := machineE) (er_is (σ := [some (.ref d), some (.int 8), some (.int (many : Int)), x3, some v4, some v6, x6, x7, x8]) (ev_tup (ea_cons (ev_str (x := "words")) (ea_cons (ev_tupleL (ev_var (i := 4) ⟨v4, rfl, rv.up (s5.trans s6)⟩)) (ea_cons (ev_tupleL (ev_var (i := 5) ⟨v6, rfl, r6⟩)) ea_nil))) (by have := line_big; show 3 ≤ _; omega)) ⟨rs, us, rfl, ?_, hu8⟩) S6 (by omega) fun v e G' H' hE rv S' s' => q v e G' H' hE rv (S'.more (by omega)) ((s5.trans s6).trans s')
  show ((true) && ((decide (1 ≤ (rs.length : Int)) && decide ((rs.length : Int) ≤ 8)) && (rs.all (fun r => isRowBelow r (rs.length : Int)) && isRisingBelow (.tuple us) (rs.length : Int)))) = true
  rw [hl, hur, decide_eq_true (show 1 ≤ (many : Int) by omega), decide_eq_true (show (many : Int) ≤ 8 by omega), Bool.and_true, List.all_eq_true.mpr hrs]
  rfl
abbrev s__law_machine : Stmt := top 47
theorem sc__law_machine : FnScope ["draw", "most", "many", "steps", "rows", "last", "letter", "row", "step"] ["draw", "most"] (defScope s__law_machine) := ⟨rfl, rfl, rfl, by decide +kernel, rfl, by decide +kernel, by decide +kernel⟩
abbrev p__law_machine (K : PySem.W.Frag) : Sp := spR K 100 pre_machine
theorem ok__law_machine (F : Fun K "_law_machine" "_law_machine" s__law_machine f fd) (B : BI mg) (c__law_take : Cal P w K mg base 2 "_law_take" spTake []) (c__law_pick : Cal P w K mg base 3 "_law_pick" (spPick K) []) : FnOk P w K mg base CX0 4 f fd ["draw", "most"] (p__law_machine K) := by
  refine F.ok sc__law_machine (fun vs H Q E h => len_r1 (k := 1) h fun ds E e => by
    match ds, e with
    | [.int m], _ => rfl) (fun cdv A outer s H vs Q E hr h => ?_)
  obtain ⟨F0, H0, G0, d, l, c, n, ws, ds, E', S, hn, ev, r, e, q⟩ := h
  match ds, r, e with
  | [.int m], .cons (v := v) rm .nil, e =>
  have e' : (if m = 8 then some machineE else none) = some E' := e
  split at e'
  case isFalse => cases e'
  rename_i hm
  cases e'
  subst ev
  subst hm
  cases rm
  refine ⟨_, (pss_cons (ps_set (i := 2) sc__law_machine.nd rfl (Or.inr rfl) (pe_op (op_add) pe_int (pe_c c__law_pick hr (by first | decide | omega) (by rfl) (pa_cons (pv 0) (pa_cons (pe_lst (pa_cons (pe_c c__law_take hr (by first | decide | omega) (by rfl) (pa_cons (pv 0) (pa_cons (pv 1) pa_nil))) (pa_cons (pe_op (op_sub) (pv 1) pe_int) (pa_cons (pe_callB (call_min2 rfl) (by rfl) B.min (by decide +kernel) (pa_cons pe_int (pa_cons (pe_op (op_sub) (pv 1) pe_int) pa_nil))) pa_nil)))) pa_nil)))))
        (pss_cons (ps_set (i := 3) sc__law_machine.nd rfl (Or.inr rfl) (pe_lc (own := [("letter", 6)]) (g := (gName 6)) rfl sc__law_machine.nd (pi_str pe_str) (blkOk_by (own := [("letter", 6)]) (N := ["draw", "most", "many", "steps", "rows", "last", "letter", "row", "step"]) (sc := defScope s__law_machine) (by decide +kernel)) (fun _ _ _ _ _ => (pg_name (i := 6) sc__law_machine.nd rfl (Or.inl rfl) (hf := (Or.inr rfl)))) (fun _ _ _ _ _ => pts_nil) (fun _ _ _ _ _ => (pe_c c__law_take hr (by first | decide | omega) (by rfl) (pa_cons (pv 0) (pa_cons (pv 2) pa_nil))))))
        (pss_cons (ps_setLc (i := 4) (own := [("row", 7)]) (g := (gName 7)) rfl sc__law_machine.nd rfl rfl (sw_true rfl rfl rfl (by decide +kernel)) (pi_range1 (by rfl) B.range (pa_cons (pv 2) pa_nil)) (blkOk_by (own := [("row", 7)]) (N := ["draw", "most", "many", "steps", "rows", "last", "letter", "row", "step"]) (sc := defScope s__law_machine) (by decide +kernel)) (fun _ _ _ _ _ => (pg_name (i := 7) sc__law_machine.nd rfl (Or.inr rfl) (hf := (Or.inl rfl)))) (fun _ _ _ _ _ => pts_nil) (fun _ _ _ _ _ => (pe_tupleOfK (K := K) (by rfl) B.tuple (pe_lc (own := [("step", 8)]) (g := (gName 8)) rfl sc__law_machine.nd (pi_listK (K := K) (pv 3)) (by refine blkOk_by ?_; show blkC ["draw", "most", "many", "steps", "rows", "last", "letter", "row", "step"] { kind := .function, names := [(".0", .local), ("row", .cell), ("tuple", .globalImplicit), ("many", .cell), ("steps", .cell)], isGenerator := false, isCoroutine := false } _ [("step", 8)] = true; decide +kernel) (fun _ _ _ _ _ => (pg_name (i := 8) sc__law_machine.nd rfl (Or.inl rfl) (hf := (Or.inr rfl)))) (fun _ _ _ _ _ => pts_nil) (fun _ _ _ _ _ => (pe_op (op_mod) (pe_callTy (call_int1) (by rfl) B.int_ (by decide +kernel) (pa_cons (pe_op (op_add) (pv 7) (pv 8)) pa_nil)) (pv 2)))))))
        (pss_cons (ps_if (pt_cmpR (op_eq) (pe_c c__law_take hr (by first | decide | omega) (by rfl) (pa_cons (pv 0) (pa_cons pe_int pa_nil))) pe_int (nomark _)) (pss_one (ps_setLc (i := 4) (own := [("row", 7)]) (g := (gName 7)) rfl sc__law_machine.nd rfl rfl (sw_true rfl rfl rfl (by decide +kernel)) (pi_range1 (by rfl) B.range (pa_cons (pv 2) pa_nil)) (blkOk_by (own := [("row", 7)]) (N := ["draw", "most", "many", "steps", "rows", "last", "letter", "row", "step"]) (sc := defScope s__law_machine) (by decide +kernel)) (fun _ _ _ _ _ => (pg_name (i := 7) sc__law_machine.nd rfl (Or.inl rfl) (hf := (Or.inr rfl)))) (fun _ _ _ _ _ => pts_nil) (fun _ _ _ _ _ => (pe_tupleOfK (K := K) (by rfl) B.tuple (pe_lc (own := [("letter", 6)]) (g := (gName 6)) rfl sc__law_machine.nd (pi_str pe_str) (by refine blkOk_by ?_; show blkC ["draw", "most", "many", "steps", "rows", "last", "letter", "row", "step"] { kind := .function, names := [(".0", .local), ("row", .local), ("tuple", .globalImplicit), ("draw", .cell), ("many", .cell)], isGenerator := false, isCoroutine := false } _ [("letter", 6)] = true; decide +kernel) (fun _ _ _ _ _ => (pg_name (i := 6) sc__law_machine.nd rfl (Or.inl rfl) (hf := (Or.inr rfl)))) (fun _ _ _ _ _ => pts_nil) (fun _ _ _ _ _ => (pe_c c__law_take hr (by first | decide | omega) (by rfl) (pa_cons (pv 0) (pa_cons (pv 2) pa_nil))))))))) pss_nil)
        (pss_cons (ps_setLc (i := 5) (own := [("row", 7)]) (g := (gName 7)) rfl sc__law_machine.nd rfl rfl (sw_true rfl rfl rfl (by decide +kernel)) (pi_range1 (by rfl) B.range (pa_cons (pv 2) pa_nil)) (blkOk_by (own := [("row", 7)]) (N := ["draw", "most", "many", "steps", "rows", "last", "letter", "row", "step"]) (sc := defScope s__law_machine) (by decide +kernel)) (fun _ _ _ _ _ => (pg_name (i := 7) sc__law_machine.nd rfl (Or.inl rfl) (hf := (Or.inr rfl)))) (fun _ _ _ _ _ => (pts_one (pt_cmpR (op_eq) (pe_c c__law_take hr (by first | decide | omega) (by rfl) (pa_cons (pv 0) (pa_cons pe_int pa_nil))) pe_int (nomark _)))) (fun _ _ _ _ _ => (pv 7)))
        (pss_cons (ps_set (i := 5) sc__law_machine.nd rfl (Or.inl rfl) (pe_ifExp (PW.pt (pw_and (pt_cmpR (op_gt) (pv 2) pe_int (nomark _)) (pw_and (pt_cmpR (r := rIn K false) (op_in_seq) (pe_callB (r := rLen0 K) (call_len) (by rfl) B.len (by decide +kernel) (pa_cons (pv 5) pa_nil)) (pe_lst (pa_cons pe_int (pa_cons (pv 2) pa_nil))) (by rfl)) (pw_and1 (pt_cmpR (op_gt) (pe_c c__law_take hr (by first | decide | omega) (by rfl) (pa_cons (pv 0) (pa_cons pe_int pa_nil))) pe_int (nomark _)))))) (pe_lst (pa_cons (pe_c c__law_take hr (by first | decide | omega) (by rfl) (pa_cons (pv 0) (pa_cons (pv 2) pa_nil))) pa_nil)) (pv 5)))
        (pss_one (ps_ret (pe_tup (pa_cons pe_str (pa_cons (pe_tupleOf (by rfl) B.tuple (pv 4)) (pa_cons (pe_tupleOf (by rfl) B.tuple (pv 5)) pa_nil)))))))))))), ?_⟩
  -- many
  refine s_setR (K := K) (B := 10) (E := fun e => ∃ j : Nat, 1 ≤ j ∧ j ≤ 8 ∧ e = .int (j : Int)) (EvR.more (B := 0 + ((1 + (0 + (0 + 0))) + 1)) (er_op (er_pure (ev_int (i := 1))) (er_pick (E := natIn 8) (σ := start ["draw", "most", "many", "steps", "rows", "last", "letter", "row", "step"] [V.ref d, .int 8]) rfl (er_lst (er_cons (er_take rfl (ev_var (i := 1) ⟨_, rfl, .int 8⟩) (by decide) (by decide)) (er_cons (er_pure (ev_op (ev_var (i := 1) ⟨_, rfl, .int 8⟩) (ev_int (i := 1)) (rv_int (g := fun i j => i - j)))) (er_cons (er_pure (ev_cb (ea_cons (ev_int (i := 1)) (ea_cons (ev_op (ev_var (i := 1) ⟨_, rfl, .int 8⟩) (ev_int (i := 1)) (rv_int (g := fun i j => i - j))) ea_nil)) rc_min2)) er_nil))) fun es he => ?_) fun es he => ?_) fun x y hx hy => ?_) (by decide)) S (by omega) fun v2 e2 G1 H1 hE1 r1 S1 s1 => ?_
  · obtain ⟨x, ys, rfl, _, y, zs, rfl, _, z, us, rfl, _, rfl⟩ := he
    show 3 ≤ 1000
    decide
  · obtain ⟨x, ys, rfl, hx, y, zs, rfl, hy, z, us, rfl, hz, rfl⟩ := he
    refine ⟨by show 1 ≤ 3; decide, by show 3 ≤ 1000; decide, fun e he => ?_⟩
    obtain ⟨j, hj, rfl⟩ := hx
    simp only [List.mem_cons, List.not_mem_nil, or_false] at he
    rcases he with rfl | rfl | rfl
    · exact ⟨j, by omega, rfl⟩
    · exact ⟨7, by decide, hy⟩
    · exact ⟨1, by decide, hz⟩
  · obtain ⟨j, hj, rfl⟩ := hy
    refine ⟨_, by rw [show x = PyData.int 1 from hx]; exact rv_int (g := fun i j => i + j), j + 1, by omega, by omega, congrArg PyData.int (by omega)⟩
  obtain ⟨many, m1, m8, rfl⟩ := hE1
  cases r1
  -- steps
  refine s_setR (K := K) (B := 10) (E := fun e => ∃ es, e = .list es ∧ es.length = 3 ∧ ∀ x ∈ es, natIn many x) (EvR.more (B := (signs "abc").length * (0 + 1)) ((er_lc (tt := tYes) true (fun _ e => natIn many e) (ew_str (ev_str (x := "abc"))) (by decide) fun dd G hd sG => ?_).imp fun e he => ?_) (by decide)) S1 (by omega) fun v3 e3 G2 H2 hE2 r2 S2 s2 => ?_
  · refine tk_name.imp fun σ2 hσ => ?_
    obtain ⟨u, rfl, _⟩ := hσ
    exact ⟨rfl, erb_yes, (er_take rfl (ev_var (i := 2) ⟨_, rfl, .int _⟩) (by omega) (by omega)).imp fun e ⟨j, hj, ee⟩ => ⟨j, by omega, ee⟩⟩
  · obtain ⟨es, rfl, sub, _, hfull, ha⟩ := he
    refine ⟨es, rfl, ?_, ha.all (P := natIn many) fun _ _ h => h⟩
    rw [← ha.len, hfull rfl]
    decide
  obtain ⟨steps, rfl, hs3, hst⟩ := hE2
  -- rows
  have q1 : EvD K _ [some (.ref d), some (.int 8), some (.int (many : Int)), some v3, none, none, none, none, none] G2 _ := ev_lc (K := K) (σ := [some (.ref d), some (.int 8), some (.int (many : Int)), some v3, none, none, none, none, none]) (F := G2) (te := tThen (tLc (iList K (tVar 3)) (gName 8) tYes (tOp (rI (fun _ j => 0 < j) fun i j => .int (i % j)) (tCB rInt1 (tCons (tOp (rI0 fun i j => .int (i + j)) (tVar 7) (tVar 8)) tNil)) (tVar 2)) [8]) (kTup K)) (tt := tYes) (g := gName 7) (vs := [7]) (fun _ => true) (fun r => .tuple (steps.map fun s => .int ((intD r + intD s) % (many : Int)))) (ew_rng1 (n := (many : Int)) (ea_cons (ev_var (i := 2) ⟨_, rfl, .int _⟩) ea_nil) (by omega)) (by rw [rgs_len, Int.toNat_natCast]; exact small1000 (by omega)) fun dd G hd sG => by
    obtain ⟨j, hj⟩ := List.mem_iff_getElem?.mp hd
    obtain ⟨hj1, rfl⟩ := rgs_get hj
    refine tk_name.imp fun σ2 hσ => ?_
    obtain ⟨u, rfl, ru⟩ := hσ
    cases ru
    refine ⟨rfl, eb_yes, fun _ => ?_⟩
    have q2 := ev_lc (K := K) (σ := [some (.ref d), some (.int 8), some (.int (many : Int)), some v3, none, none, none, some (.int (0 + (j : Int))), none]) (F := G) (te := tOp (rI (fun _ j => 0 < j) fun i j => .int (i % j)) (tCB rInt1 (tCons (tOp (rI0 fun i j => .int (i + j)) (tVar 7) (tVar 8)) tNil)) (tVar 2)) (tt := tYes) (g := gName 8) (vs := [8]) (fun _ => true) (fun s => .int ((0 + (j : Int) + intD s) % (many : Int))) (ew_list (ev_var (i := 3) ⟨v3, rfl, r2.up sG⟩)) (by rw [hs3]; exact small1000 (by decide)) fun ss G' hs' sG' => by
      obtain ⟨k, hk, rfl⟩ := hst ss hs'
      refine tk_name.imp fun σ2 hσ => ?_
      obtain ⟨u, rfl, ru⟩ := hσ
      cases ru
      refine ⟨rfl, eb_yes, fun _ => ev_op (ev1 (ev_op (ev_var (i := 7) ⟨_, rfl, .int _⟩) (ev_var (i := 8) ⟨_, rfl, .int _⟩) (rv_int (g := fun i j => i + j))) rc_int) (ev_var (i := 2) ⟨_, rfl, .int _⟩) (rv_intC (C := fun _ j => 0 < j) (g := fun i j => i % j) (by omega))⟩
    rw [made_map] at q2
    exact ev_tupleL q2
  rw [made_map, Int.toNat_natCast] at q1
  refine s_setR (K := K) (B := 0) (E := rowsGood many) (er_is q1 ⟨_, rfl, by rw [List.length_map, rgs_len], fun r hr' => ?_⟩) S2 (by omega) fun v4 e4 G3 H3 hE3 r3 S3 s3 => ?_
  · obtain ⟨r0, hr0, rfl⟩ := List.mem_map.mp hr'
    refine row_below (by rw [List.length_map]; exact hs3) fun x hx => ?_
    obtain ⟨s0, hs0, rfl⟩ := List.mem_map.mp hx
    have h1 := Int.emod_nonneg (intD r0 + intD s0) (show (many : Int) ≠ 0 by omega)
    have h2 := Int.emod_lt_of_pos (intD r0 + intD s0) (show 0 < (many : Int) by omega)
    exact ⟨((intD r0 + intD s0) % (many : Int)).toNat, by omega, congrArg PyData.int (by omega)⟩
  refine s_whenR (erb_eq0 K rfl (by decide) (by decide)) S3 (by omega) (fun _ G4 H4 S4 s4 => ?_) fun _ G4 H4 S4 s4 => ?_
  · refine s_setR (K := K) (B := 24) (E := rowsGood many) (EvR.more (B := (rgs 0 many).length * (0 + (signs "abc").length * (0 + 1))) ((er_lc (tt := tYes) true (fun _ e => isRowBelow e (many : Int) = true) (by have := ew_rng1 (K := K) (n := (many : Int)) (F := G4) (σ := [some (.ref d), some (.int 8), some (.int (many : Int)), some v3, some v4, none, none, none, none]) (ea_cons (ev_var (i := 2) ⟨_, rfl, .int _⟩) ea_nil) (by omega); rw [Int.toNat_natCast] at this; exact this) (by rw [rgs_len]; exact small1000 (by omega)) fun dd G hd sG => ?_).imp fun e he => ?_) (by rw [rgs_len, show (signs "abc").length = 3 by decide]; omega)) S4 (by omega) fun v5 e5 G5 H5 hE5 r5 S5 s5 => ?_
    · refine tk_name.imp fun σ2 hσ => ?_
      obtain ⟨u, rfl, _⟩ := hσ
      refine ⟨rfl, erb_yes, (er_tupOf (P := fun es => es.length = 3 ∧ ∀ x ∈ es, natIn many x) ((er_lc (tt := tYes) true (fun _ e => natIn many e) (ew_str (ev_str (x := "abc"))) (by decide) fun dd G hd sG => ?_).imp fun e he => ?_)).imp fun e he => ?_⟩
      · refine tk_name.imp fun σ2 hσ => ?_
        obtain ⟨u, rfl, _⟩ := hσ
        exact ⟨rfl, erb_yes, (er_take rfl (ev_var (i := 2) ⟨_, rfl, .int _⟩) (by omega) (by omega)).imp fun e ⟨j, hj, ee⟩ => ⟨j, by omega, ee⟩⟩
      · obtain ⟨es, rfl, sub, _, hfull, ha⟩ := he
        refine ⟨es, rfl, ?_, ha.all (P := natIn many) fun _ _ h => h⟩
        rw [← ha.len, hfull rfl]
        decide
      · obtain ⟨es, rfl, h3, hall⟩ := he
        exact row_below h3 hall
    · obtain ⟨es, rfl, sub, _, hfull, ha⟩ := he
      refine ⟨es, rfl, ?_, ha.all (P := fun e => isRowBelow e (many : Int) = true) fun _ _ h => h⟩
      rw [← ha.len, hfull rfl, rgs_len]
    obtain ⟨rs, rfl, hl, hrs⟩ := hE5
    exact last_reads S5 (by omega) m1 m8 r5 hl hrs fun v e G' H' hE rv S' s' => q v e G' H' hE rv (S'.more (by omega)) (((((s1.trans s2).trans s3).trans s4).trans s5).trans s')
  · obtain ⟨rs, rfl, hl, hrs⟩ := hE3
    exact last_reads S4 (by omega) m1 m8 (r3.up s4) hl hrs fun v e G' H' hE rv S' s' => q v e G' H' hE rv (S'.more (by omega)) ((((s1.trans s2).trans s3).trans s4).trans s')
end
end Sx
set_option Elab.async false
set_option linter.all false
set_option maxRecDepth 100000
set_option maxHeartbeats 4000000
set_option exponentiation.threshold 3000
namespace Sx
open PySem PySem.Spec PyProof.Rows L2
open C8 (Cal pe_c pe_gc)
def penE (e : PyData) : Prop := ∃ rs ts, e = .tuple [.str "scribe", .tuple rs, .tuple ts] ∧ isScribe e = true
def pre_pen (ds : List PyData) : Option (PyData → Prop) := match ds with
  | [.int m, .int k] => if m = 4 ∧ k = 8 then some penE else none
  | _ => none
theorem told_abc {e : PyData} (h : abcOf 8 e) : isTold e = true := by
  obtain ⟨z, rfl, h1, h2⟩ := h
  show ((signs z).all isAbc && decide ((z.length : Int) ≤ 8)) = true
  rw [h1, decide_eq_true (show (z.length : Int) ≤ 8 by omega)]
  rfl
theorem row_of {n : Nat} {xs : List PyData} (hl : xs.length = 3) (h : ∀ x ∈ xs, isPair (n : Int) x = true) : isRowOf (.tuple xs) (n : Int) = true := by
  show (decide ((xs.length : Int) = 3) && xs.all (isPair (n : Int))) = true
  rw [decide_eq_true (show (xs.length : Int) = 3 by omega), Bool.true_and]
  exact List.all_eq_true.mpr h
section
variable {P : Program} {w : World} {K : PySem.W.Frag} {mg : Str → Option Value} {base : Heap} {f : Addr} {fd : FuncData} {CW CT CP fI : Addr} {σ : L2.St}
variable {F F0 H0 H : Hp} {d l c p : Addr} {n B : Nat} {te to : TE} {E : PyData → Prop} {D : Ends}
theorem asg_tup2 {t1 t2 : TE} {g : TG} (h : t1 σ H fun x H1 => t2 σ H1 fun y H2 => ([x, y] : List V).length ≤ sizeLine ∧ ∀ T, H2 T = none → g (.ref T) σ (upd H2 T (.tup [x, y])) D.nx) : tAsg (tTup (tCons t1 (tCons t2 tNil))) g D σ H := h
/-- l.append(e), e drawn -/
theorem s_appR {xs : List V} (ho : Now to σ H (.ref p)) (hp : H p = some (.lst xs)) (hn : xs.length < sizeLine) (he : EvR K te σ F d l c B E) (S : StD F0 H0 d l c F H n) (hF : F p = none) (ap : p ≠ d ∧ p ≠ l ∧ p ≠ c) (hB : n + B ≤ 2 ^ 40)
    (k : ∀ v e G H', E e → Dq K G v e → StD F0 H0 d l c G H' (n + B) → Same F G → G p = none → H' p = some (.lst xs) → D.nx σ (upd H' p (.lst (xs ++ [v])))) : tDrop (tBM K "list" rAppend to (tCons te tNil)) D σ H :=
  ho _ ⟨.inl ⟨rfl, xs, .inl (.inl hp)⟩, he F H F H n (Same.refl F) S.begin hB _ fun v e G H' hE r T s' => ⟨p, xs, v, rfl, rfl, T.kp p _ ap.1 ap.2.1 hp, hn, k v e G H' hE r (S.trans T) s' (by
    cases z : G p with
    | none => rfl
    | some o =>
      have := T.nw p o z hF
      rw [hp] at this
      cases this) (T.kp p _ ap.1 ap.2.1 hp)⟩⟩
/-! ### _law_pen -/
abbrev s__law_pen : Stmt := top 50
theorem sc__law_pen : FnScope ["draw", "most", "long", "row", "ends", "many", "rows", "letter"] ["draw", "most", "long"] (defScope s__law_pen) := ⟨rfl, rfl, rfl, by decide +kernel, rfl, by decide +kernel, by decide +kernel⟩
abbrev p__law_pen (K : PySem.W.Frag) : Sp := spR K 400 pre_pen
theorem ok__law_pen (F : Fun K "_law_pen" "_law_pen" s__law_pen f fd) (B : BI mg) (c__law_take : Cal P w K mg base 2 "_law_take" spTake []) (c__law_string : Cal P w K mg base 4 "_law_string" (p__law_string K) []) : FnOk P w K mg base CX0 5 f fd ["draw", "most", "long"] (p__law_pen K) := by
  refine F.ok sc__law_pen (fun vs H Q E h => len_r1 (k := 2) h fun ds E e => by
    match ds, e with
    | [.int m, .int k], _ => rfl) (fun cdv A outer s H vs Q E hr h => ?_)
  obtain ⟨F0, H0, G0, d, l, c, n, ws, ds, E', S, hn, ev, r, e, q⟩ := h
  match ds, r, e with
  | [.int m, .int k], .cons (v := v) rm (.cons (v := u) rk .nil), e =>
  have e' : (if m = 4 ∧ k = 8 then some penE else none) = some E' := e
  split at e'
  case isFalse => cases e'
  rename_i hm
  cases e'
  subst ev
  obtain ⟨rfl, rfl⟩ := hm
  cases rm
  cases rk
  refine ⟨_, (pss_cons (ps_asg (pe_tup (pa_cons (pe_op (op_add) pe_int (pe_c c__law_take hr (by first | decide | omega) (by rfl) (pa_cons (pv 0) (pa_cons (pv 1) pa_nil)))) (pa_cons (pe_lst pa_nil) pa_nil))) (pg_tup rfl (pgs_cons (pg_name (i := 5) sc__law_pen.nd rfl (Or.inr rfl) (hf := (Or.inl rfl))) (pgs_cons (pg_name (i := 6) sc__law_pen.nd rfl (Or.inl rfl) (hf := (Or.inr rfl))) pgs_nil))))
        (pss_cons (ps_for PassesOwn.never rfl (pi_range1 (by rfl) B.range (pa_cons (pv 5) pa_nil)) (pg_name (i := 3) sc__law_pen.nd rfl (Or.inl rfl) (hf := (Or.inr rfl))) (pss_one (ps_expr (pe_bm PySem.F.plainAttrs_list PySem.F.slot_list_append PySem.F.type_list_append mt_append (pv 6) (pa_cons (pe_tupleOfK (K := K) (by rfl) B.tuple (pe_lc (own := [("letter", 7)]) (g := (gName 7)) rfl sc__law_pen.nd (pi_str pe_str) (blkOk_by (own := [("letter", 7)]) (N := ["draw", "most", "long", "row", "ends", "many", "rows", "letter"]) (sc := defScope s__law_pen) (by decide +kernel)) (fun _ _ _ _ _ => (pg_name (i := 7) sc__law_pen.nd rfl (Or.inl rfl) (hf := (Or.inr rfl)))) (fun _ _ _ _ _ => pts_nil) (fun _ _ _ _ _ => (pe_tup (pa_cons (pe_c c__law_take hr (by first | decide | omega) (by rfl) (pa_cons (pv 0) (pa_cons (pv 5) pa_nil))) (pa_cons (pe_c c__law_string hr (by first | decide | omega) (by rfl) (pa_cons (pv 0) (pa_cons (pv 2) pa_nil))) pa_nil)))))) pa_nil)))))
        (pss_cons (ps_set (i := 4) sc__law_pen.nd rfl (Or.inl rfl) (pe_tupleOf (by rfl) B.tuple (pe_lc (own := [("row", 3)]) (g := (gName 3)) rfl sc__law_pen.nd (pi_range1 (by rfl) B.range (pa_cons (pv 5) pa_nil)) (blkOk_by (own := [("row", 3)]) (N := ["draw", "most", "long", "row", "ends", "many", "rows", "letter"]) (sc := defScope s__law_pen) (by decide +kernel)) (fun _ _ _ _ _ => (pg_name (i := 3) sc__law_pen.nd rfl (Or.inl rfl) (hf := (Or.inr rfl)))) (fun _ _ _ _ _ => pts_nil) (fun _ _ _ _ _ => (pe_ifExp (pt_cmpR (op_eq) (pe_c c__law_take hr (by first | decide | omega) (by rfl) (pa_cons (pv 0) (pa_cons pe_int pa_nil))) pe_int (nomark _)) pe_non (pe_c c__law_string hr (by first | decide | omega) (by rfl) (pa_cons (pv 0) (pa_cons (pv 2) pa_nil))))))))
        (pss_one (ps_ret (pe_tup (pa_cons pe_str (pa_cons (pe_tupleOf (by rfl) B.tuple (pv 6)) (pa_cons (pv 4) pa_nil))))))))), ?_⟩
  have h1 : EvR K (tOp (rI0 fun i j => .int (i + j)) (tC (.int 1)) (tCall spTake [] C8.E0 (tCons (tVar 0) (tCons (tVar 1) tNil)))) (start ["draw", "most", "long", "row", "ends", "many", "rows", "letter"] [V.ref d, .int 4, .int 8]) G0 d l c (0 + 1) (fun e => ∃ j : Nat, 1 ≤ j ∧ j ≤ 4 ∧ e = .int (j : Int)) := er_op (er_pure (ev_int (i := 1))) (er_take rfl (ev_var (i := 1) ⟨_, rfl, .int 4⟩) (by decide) (by decide)) fun x y hx hy => by
    obtain ⟨j, hj, rfl⟩ := hy
    exact ⟨_, by rw [show x = PyData.int 1 from hx]; exact rv_int (g := fun i j => i + j), j + 1, by omega, by omega, congrArg PyData.int (by omega)⟩
  refine asg_tup2 (h1 F0 H0 G0 H n (Same.refl _) S (by omega) _ fun v1 e1 G1 H1 hE1 r1 S1 s1 => ?_)
  obtain ⟨many, m1, m4, rfl⟩ := hE1
  cases r1
  refine ⟨Nat.zero_le _, fun p hp => ⟨two_small, fun T hT => ?_⟩⟩
  have ap := S1.dr.fresh hp
  have h0p : H0 p = none := S1.gone ap.1 ap.2.1 hp
  have gp : G1 p = none := S1.same.free hp
  have S2 : StD F0 H0 d l c G1 (upd H1 p (.lst [])) (n + (0 + 1)) := S1.put gp h0p ap
  have aT := S2.dr.fresh hT
  have S3 : StD F0 H0 d l c G1 (upd (upd H1 p (.lst [])) T (.tup [.int (many : Int), .ref p])) (n + (0 + 1)) := S2.put (S2.same.free hT) (S2.gone aT.1 aT.2.1 hT) aT
  have hpT : p ≠ T := fun z => by
    rw [← z, upd_same] at hT
    cases hT
  have hp3 : upd (upd H1 p (.lst [])) T (.tup [.int (many : Int), .ref p]) p = some (.lst []) := by rw [upd_ne hpT, upd_same]
  refine ⟨T, [.int (many : Int), .ref p], rfl, .inl (.inl upd_same), rfl, _, _, rfl, _, _, rfl, rfl, ?_⟩
  generalize upd (upd H1 p (.lst [])) T (.tup [.int (many : Int), .ref p]) = H3 at S3 hp3
  refine for_rng (K := K) (F := G1) (kk := (many : Int)) (ea_cons (ev_var (i := 5) ⟨_, rfl, .int _⟩) ea_nil) S3.same (by omega) (fun i σ' H' => ∃ G acc es y3, σ' = [some (.ref d), some (.int 4), some (.int 8), y3, none, some (.int (many : Int)), some (.ref p), none] ∧ StD F0 H0 d l c G H' (n + 1 + i * 70) ∧ Same G1 G ∧ G p = none ∧ H' p = some (.lst acc) ∧ DqAll K G acc es ∧ es.length = i ∧ ∀ r ∈ es, isRowOf r (many : Int) = true)
    (fun H' s' => ⟨G1, [], [], none, rfl, ⟨S3.same.trans s', S3.fd, S3.fl, S3.dr.same s', S3.kp.trans (.of s'), S3.nw, S3.sf⟩, Same.refl _, gp, s' _ _ hp3, .nil, rfl, fun r hr' => by cases hr'⟩) (fun i σ' H' hi hI => ?_) fun σ' H' hI => ?_
  · obtain ⟨G, acc, es, y3, rfl, SI, sI, gI, hI, ra, hel, hes⟩ := hI
    have hi4 : i < 4 := by omega
    have hacc : acc.length = i := by rw [ra.len, hel]
    have hrow : EvR K (tThen (tLc (iStr (tC (.str "abc"))) (gName 7) tYes (tTup (tCons (tCall spTake [] C8.E0 (tCons (tVar 0) (tCons (tVar 5) tNil))) (tCons (tCall (p__law_string K) [] C8.E0 (tCons (tVar 0) (tCons (tVar 2) tNil))) tNil))) [7]) (kTup K)) [some (.ref d), some (.int 4), some (.int 8), some (.int (0 + (i : Int))), none, some (.int (many : Int)), some (.ref p), none] G d l c ((signs "abc").length * (0 + (1 + (20 + 0)))) (fun e => ∃ xs, e = .tuple xs ∧ xs.length = 3 ∧ ∀ x ∈ xs, isPair (many : Int) x = true) := by
      refine er_tupOf (P := fun xs => xs.length = 3 ∧ ∀ x ∈ xs, isPair (many : Int) x = true) ((er_lc (tt := tYes) true (fun _ e => isPair (many : Int) e = true) (ew_str (ev_str (x := "abc"))) (by decide) fun dd G hd sG => ?_).imp fun e he => ?_)
      · refine tk_name.imp fun σ2 hσ => ?_
        obtain ⟨u, rfl, _⟩ := hσ
        refine ⟨rfl, erb_yes, (er_tup (er_cons (er_take rfl (ev_var (i := 5) ⟨_, rfl, .int _⟩) (by omega) (by omega)) (er_cons (er_call (E := abcOf 8) rfl (ea_cons (ev_var (i := 2) ⟨_, rfl, .int 8⟩) ea_nil) rfl) er_nil)) fun es he => ?_).imp fun e he => ?_⟩
        · obtain ⟨x, ys, rfl, _, y, zs, rfl, _, rfl⟩ := he
          show 2 ≤ 1000
          decide
        · obtain ⟨es, rfl, x, ys, rfl, ⟨j, hj, rfl⟩, y, zs, rfl, hy, rfl⟩ := he
          show (isBetween (.int (j : Int)) 0 ((many : Int) - 1) && isTold y) = true
          rw [betw_nat (by omega), told_abc hy]
          rfl
      · obtain ⟨es, rfl, sub, _, hfull, ha⟩ := he
        refine ⟨es, rfl, ?_, ha.all (P := fun e => isPair (many : Int) e = true) fun _ _ h => h⟩
        rw [← ha.len, hfull rfl]
        decide
    refine s_appR (K := K) (p := p) (now_var rfl) hI (by rw [hacc]; exact small1000 (by omega)) (hrow.more (B' := 70) (by decide)) SI gI ap (by omega) fun v e G5 H5 hE r5 S5 s5 g5 h5 => ?_
    obtain ⟨xs, rfl, hx3, hxp⟩ := hE
    refine ⟨G5, acc ++ [v], es ++ [.tuple xs], _, rfl, ?_, sI.trans s5, g5, upd_same, (ra.up s5).app (.cons r5 .nil), by rw [List.length_append, hel]; rfl, fun r hr' => ?_⟩
    · rw [Nat.succ_mul, ← Nat.add_assoc]
      exact S5.put g5 h0p ap
    · rcases List.mem_append.mp hr' with h | h
      · exact hes r h
      · rw [List.mem_singleton.mp h]
        exact row_of hx3 hxp
  · obtain ⟨G, acc, es, y3, rfl, SI, sI, gI, hI, ra, hel, hes⟩ := hI
    rw [Int.toNat_natCast] at SI hel
    have ST := (SI.thaw gI hI h0p ap.1 ap.2.1).more (m := n + 300) (by omega)
    have rp : Dq K (upd G p (.lst acc)) (.ref p) (.list es) := .lst (.inl (.inl upd_same)) (ra.up (same_upd gI))
    have sT : Same G0 (upd G p (.lst acc)) := (s1.trans sI).trans (same_upd gI)
    generalize upd G p (.lst acc) = G6 at ST rp sT
    have hends : EvR K (tThen (tLc (iRng1 (tCons (tVar 5) tNil)) (gName 3) tYes (tIf (tTest (tOp rEq (tCall spTake [] C8.E0 (tCons (tVar 0) (tCons (tC (.int 4)) tNil))) (tC (.int 0)))) (tC .non) (tCall (p__law_string K) [] C8.E0 (tCons (tVar 0) (tCons (tVar 2) tNil)))) [3]) (kTup K)) [some (.ref d), some (.int 4), some (.int 8), y3, none, some (.int (many : Int)), some (.ref p), none] G6 d l c ((rgs 0 many).length * (0 + (1 + (0 + 20)))) (fun e => ∃ xs, e = .tuple xs ∧ xs.length = many ∧ ∀ x ∈ xs, isEnd x = true) := by
      refine er_tupOf (P := fun xs => xs.length = many ∧ ∀ x ∈ xs, isEnd x = true) ((er_lc (tt := tYes) true (fun _ e => isEnd e = true) (by have := ew_rng1 (K := K) (n := (many : Int)) (F := G6) (σ := [some (.ref d), some (.int 4), some (.int 8), y3, none, some (.int (many : Int)), some (.ref p), none]) (ea_cons (ev_var (i := 5) ⟨_, rfl, .int _⟩) ea_nil) (by omega); rw [Int.toNat_natCast] at this; exact this) (by rw [rgs_len]; exact small1000 (by omega)) fun dd G hd sG => ?_).imp fun e he => ?_)
      · refine tk_name.imp fun σ2 hσ => ?_
        obtain ⟨u, rfl, _⟩ := hσ
        exact ⟨rfl, erb_yes, er_if (P := fun _ => True) (erb_eq0 K rfl (by decide) (by decide)) (fun _ => er_is ev_non rfl) fun _ => (er_call (E := abcOf 8) rfl (ea_cons (ev_var (i := 2) ⟨_, rfl, .int 8⟩) ea_nil) rfl).imp fun e he => by rw [end_form, told_abc he, Bool.or_true]⟩
      · obtain ⟨es, rfl, sub, _, hfull, ha⟩ := he
        refine ⟨es, rfl, ?_, ha.all (P := fun e => isEnd e = true) fun _ _ h => h⟩
        rw [← ha.len, hfull rfl, rgs_len]
    refine s_setR (K := K) (B := 90) (hends.more (by rw [rgs_len]; omega)) ST (by omega) fun v7 e7 G7 H7 hE7 r7 S7 s7 => ?_
    obtain ⟨ts, rfl, htl, hts⟩ := hE7
    refine s_retR (K := K) (B := 0) (E := penE) (er_is (σ := [some (.ref d), some (.int 4), some (.int 8), y3, some v7, some (.int (many : Int)), some (.ref p), none]) (ev_tup (ea_cons (ev_str (x := "scribe")) (ea_cons (ev_tupleL (ev_var (i := 6) ⟨_, rfl, rp.up s7⟩)) (ea_cons (ev_var (i := 4) ⟨v7, rfl, r7⟩) ea_nil))) (by have := line_big; show 3 ≤ _; omega)) ⟨es, ts, rfl, ?_⟩) S7 (by omega) fun v e G' H' hE rv S' s' => q v e G' H' hE rv (S'.more (by omega)) ((sT.trans s7).trans s')
    show (true && (((decide (1 ≤ (es.length : Int)) && decide ((es.length : Int) ≤ 4)) && decide ((ts.length : Int) = (es.length : Int))) && (es.all (fun r => isRowOf r (es.length : Int)) && ts.all isEnd))) = true
    rw [hel, htl, decide_eq_true (show 1 ≤ (many : Int) by omega), decide_eq_true (show (many : Int) ≤ 4 by omega), List.all_eq_true.mpr hes, List.all_eq_true.mpr hts]
    simp
end
end Sx
set_option Elab.async false
set_option linter.all false
set_option maxRecDepth 100000
set_option maxHeartbeats 2000000
set_option exponentiation.threshold 3000
/-! Y27: repr of texts and None; what may be shown; a local name that holds a def that may raise, called; without program text. -/
namespace Sx
open PySem PySem.Spec PyProof.Rows L2 LamX
open C8 (Cal pe_c pe_gc)
/-! repr(a text), repr(None) -/
def reprS : PyData → Str
  | .str z => reprText z
  | _ => "None"
def rReprS : List V → Hp → VK → Prop := fun xs H Q => (∃ z, xs = [.str z] ∧ PyData.layable0 (.str z) = true ∧ Q (.str (reprText z)) H) ∨ (xs = [.non] ∧ Q (.str "None") H)
theorem call_reprS {X : Cx} : CallR X (.builtin "repr") rReprS := by
  intro pins s σ H xs us Q I r h
  rcases h with ⟨z, rfl, hz, q⟩ | ⟨rfl, q⟩
  · obtain ⟨u, rfl, ru⟩ := vals1 r
    obtain ⟨t, rfl⟩ := (ru : ∃ t, u = Value.str z t)
    refine PySem.P.repr_of_str ?_ (fits_repr_of_layable hz)
    exact ⟨.str (reprText z), H, I.tok _, ⟨s.toks, rfl⟩, q⟩
  · obtain ⟨u, rfl, ru⟩ := vals1 r
    cases (show u = Value.none from ru)
    refine PySem.P.repr_of_none ?_
    exact ⟨.str "None", H, I.tok _, ⟨s.toks, rfl⟩, q⟩
section
variable {K : PySem.W.Frag}
def noneOrStr (d : PyData) : Prop := d = .none ∨ ∃ z, d = .str z ∧ PyData.layable0 (.str z) = true
theorem rc_reprS {d : PyData} (h : noneOrStr d) : RcD K rReprS [d] (.str (reprS d)) := fun F xs H s r Q q => by
  cases r with
  | cons a b =>
    cases b
    rcases h with rfl | ⟨z, rfl, hz⟩
    · cases a
      exact .inr ⟨rfl, q _ F H (.start s) (.str _)⟩
    · cases a
      exact .inl ⟨z, rfl, hz, q _ F H (.start s) (.str _)⟩
end
/-! what may be shown -/
def flatD : PyData → Bool
  | .int i => decide (0 ≤ i) && decide (i < 8)
  | .bool _ => true
  | _ => false
theorem flat_leaf {d : PyData} (h : flatD d = true) : PyData.canLay0 d = true ∧ PyData.depth d ≤ 0 ∧ PyData.weight d ≤ 5 ∧ PyData.intsShort 13 d = true ∧ PyData.showable d = true ∧ PyData.hasDict d = false := by
  cases d with
  | bool b => cases b <;> decide +kernel
  | int i =>
    have h' : (decide (0 ≤ i) && decide (i < 8)) = true := h
    rw [Bool.and_eq_true, decide_eq_true_iff, decide_eq_true_iff] at h'
    have : i = 0 ∨ i = 1 ∨ i = 2 ∨ i = 3 ∨ i = 4 ∨ i = 5 ∨ i = 6 ∨ i = 7 := by omega
    rcases this with rfl | rfl | rfl | rfl | rfl | rfl | rfl | rfl <;> decide +kernel
  | _ => cases h
theorem flat_all : ∀ ds : List PyData, (∀ d ∈ ds, flatD d = true) → PyData.canLayAll0 ds = true ∧ PyData.depthAll ds ≤ 0 ∧ PyData.weightAll ds ≤ 6 * ds.length ∧ PyData.intsShortAll 13 ds = true ∧ PyData.showableAll ds = true ∧ PyData.hasDictAll ds = false
  | [], _ => by simp [PyData.canLayAll0, PyData.depthAll, PyData.weightAll, PyData.intsShortAll, PyData.showableAll, PyData.hasDictAll]
  | d :: r, h => by
    obtain ⟨a1, a2, a3, a4, a5, a6⟩ := flat_leaf (h d List.mem_cons_self)
    obtain ⟨b1, b2, b3, b4, b5, b6⟩ := flat_all r fun e he => h e (List.mem_cons_of_mem _ he)
    simp only [PyData.canLayAll0, PyData.depthAll, PyData.weightAll, PyData.intsShortAll, PyData.showableAll, PyData.hasDictAll, a1, a4, a5, a6, b1, b4, b5, b6, List.length_cons]
    refine ⟨rfl, by omega, by omega, rfl, rfl, rfl⟩
theorem line_is : 15728653 ≤ sizeLine := by rw [sizeLine_eq]; decide
theorem showy_tup {ds : List PyData} (h : ∀ d ∈ ds, flatD d = true) (hl : ds.length ≤ 100) : Showy (.tuple ds) := by
  obtain ⟨b1, b2, b3, b4, b5, b6⟩ := flat_all ds h
  have hlay : PyData.layable0 (.tuple ds) = true := by
    have e1 : PyData.depth (.tuple ds) ≤ 64 := by
      simp only [PyData.depth]
      omega
    have e2 : PyData.weight (.tuple ds) ≤ 2 ^ 20 := by
      simp only [PyData.weight]
      omega
    have e3 : PyData.canLay0 (.tuple ds) = true := by simpa only [PyData.canLay0] using b1
    show (PyData.canLay0 (.tuple ds) && decide (PyData.depth (.tuple ds) ≤ 64) && decide (PyData.weight (.tuple ds) ≤ 2 ^ 20)) = true
    rw [e3, decide_eq_true e1, decide_eq_true e2]
    rfl
  exact ⟨.inl rfl, by simpa only [PyData.showable] using b5, by simpa only [PyData.hasDict] using b6, by simp only [PyData.depth]; omega, Nat.le_trans (shown_le13 hlay (by simpa only [PyData.intsShort] using b4)) line_is⟩
theorem showy_lst {ds : List PyData} (h : ∀ d ∈ ds, flatD d = true) (hl : ds.length ≤ 100) : Showy (.list ds) := by
  obtain ⟨b1, b2, b3, b4, b5, b6⟩ := flat_all ds h
  have hlay : PyData.layable0 (.list ds) = true := by
    have e1 : PyData.depth (.list ds) ≤ 64 := by
      simp only [PyData.depth]
      omega
    have e2 : PyData.weight (.list ds) ≤ 2 ^ 20 := by
      simp only [PyData.weight]
      omega
    have e3 : PyData.canLay0 (.list ds) = true := by simpa only [PyData.canLay0] using b1
    show (PyData.canLay0 (.list ds) && decide (PyData.depth (.list ds) ≤ 64) && decide (PyData.weight (.list ds) ≤ 2 ^ 20)) = true
    rw [e3, decide_eq_true e1, decide_eq_true e2]
    rfl
  exact ⟨.inr rfl, by simpa only [PyData.showable] using b5, by simpa only [PyData.hasDict] using b6, by simp only [PyData.depth]; omega, Nat.le_trans (shown_le13 hlay (by simpa only [PyData.intsShort] using b4)) line_is⟩
/-! a local name that holds a def, called -/
def tCallV3 (i : Nat) (R : Addr → Sp → Prop) (E : XK) (t : TA) : TE := fun σ H Q => ∃ f sp, R f sp ∧ σ[i]? = some (some (.ref f)) ∧ t σ H fun vs H1 => sp vs H1 Q E
def AskOk (P : Program) (w : World) (K : PySem.W.Frag) (mg : Str → Option Value) (base : Heap) (j : Nat) (f : Addr) (sp : Sp) : Prop := ∃ (k : Nat) (fd : FuncData) (ps : List Str), FnOk P w K mg base (L2.CX P w) k f fd ps sp ∧ k ≤ j ∧ PySem.W.keepIn K (.ref f) = true ∧ Binds K fd ps []
theorem pe_cv3 {X : Cx} {x : Str} {p pos : Pos} {e : Expr} {es : List Expr} {t : TA} {j i : Nat} {E : XK} {R : Addr → Sp → Prop} (c : ∀ f sp, R f sp → AskOk X.prog X.w X.K X.mg X.base j f sp) (hr : Room j X.A) (hN : X.N[i]? = some x) (hv : Vis X.env.scope x) (hx : Passes (L2.CX X.prog X.w) X E) (ha : PA X (e :: es) t)
    (hd : (x == ("__debug__" : Str)) = false := by decide) (hcd : (x == ("__classdict__" : Str)) = false := by decide)
    (he : starEach (e :: es) X.env = (false, eval e X.env) :: starEach es X.env := by rfl) (hpl : (backTo pos (starEach es X.env)).any (·.1) = false := by rfl) :
    PE X (.Call (.Name x p) (e :: es) [] pos) (tCallV3 i R E t) := by
  refine ⟨fun pins s σ H Q I h => ?_⟩
  obtain ⟨f, sp, hR, hs, ht⟩ := h
  obtain ⟨k, fd, ps, F, hk, kp, b⟩ := c f sp hR
  refine wpAny_Call_Name_kw (thn ((pe_var (pos := p) hN hv hd hcd).run pins s σ H (fun v H1 => v = .ref f ∧ H1 = H) I ⟨.ref f, hs, rfl, rfl⟩) fun u s1 ⟨v, H1, I1, r1, q1⟩ => ?_)
  obtain ⟨rfl, rfl⟩ := q1
  cases r1
  refine PySem.W.callWith_K (h₀ := X.base) I.ok.mod.kin kp (thn (ha.run pos pins s1 σ _ _ I1 ht) fun us s2 ⟨vs, H2, I2, r, q⟩ => ⟨I2.kIn, ?_⟩) he hpl
  exact run_fn F (hr.mono hk) b .nil hx I2 r (by rw [List.append_nil]; exact q)
end Sx
set_option Elab.async false
set_option linter.all false
set_option maxRecDepth 100000
set_option maxHeartbeats 4000000
set_option exponentiation.threshold 3000
namespace Sx
open PySem PySem.Spec PyProof.Rows L2
open C8 (Cal pe_c pe_gc)
/-! ### how large what is bent may become -/
mutual
def okM (B W : Nat) : PyData → Bool
  | .int i => decide (i.natAbs ≤ B)
  | .tuple ds => decide (ds.length ≤ W) && okMs B W ds
  | _ => true
def okMs (B W : Nat) : List PyData → Bool
  | [] => true
  | d :: ds => okM B W d && okMs B W ds
end
theorem okMs_iff {B W : Nat} : ∀ ds : List PyData, okMs B W ds = true ↔ ∀ d ∈ ds, okM B W d = true
  | [] => by simp [okMs]
  | d :: ds => by
    simp only [okMs, Bool.and_eq_true, okMs_iff ds, List.mem_cons, forall_eq_or_imp]
theorem okM_tup {B W : Nat} {ds : List PyData} : okM B W (.tuple ds) = true ↔ ds.length ≤ W ∧ ∀ d ∈ ds, okM B W d = true := by
  simp only [okM, Bool.and_eq_true, decide_eq_true_iff, okMs_iff]
mutual
theorem okM_more {B W B' W' : Nat} (hB : B ≤ B') (hW : W ≤ W') : ∀ d : PyData, okM B W d = true → okM B' W' d = true
  | .int i, h => by
    simp only [okM, decide_eq_true_iff] at h ⊢
    omega
  | .tuple ds, h => by
    simp only [okM, Bool.and_eq_true, decide_eq_true_iff] at h ⊢
    exact ⟨by omega, okMs_more hB hW ds h.2⟩
  | .none, _ => rfl
  | .bool _, _ => rfl
  | .str _, _ => rfl
  | .list _, _ => rfl
  | .dict _, _ => rfl
theorem okMs_more {B W B' W' : Nat} (hB : B ≤ B') (hW : W ≤ W') : ∀ ds : List PyData, okMs B W ds = true → okMs B' W' ds = true
  | [], _ => rfl
  | d :: ds, h => by
    simp only [okMs, Bool.and_eq_true] at h ⊢
    exact ⟨okM_more hB hW d h.1, okMs_more hB hW ds h.2⟩
end
theorem okM_part {B W : Nat} : ∀ (p : List Nat) (d o : PyData), partAt d p = some o → okM B W d = true → okM B W o = true
  | [], d, o, e, h => by
    cases e
    exact h
  | k :: p, d, o, e, h => by
    obtain ⟨ds, d', rfl, h1, h2⟩ := part_cons e
    exact okM_part p d' o h2 ((okM_tup.mp h).2 d' (List.mem_of_getElem? h1))
theorem okM_put {B W : Nat} : ∀ (p : List Nat) (d o e : PyData), partAt d p = some o → okM B W d = true → okM B W e = true → okM B W (putAt d p e) = true
  | [], _, _, _, _, _, h => h
  | k :: p, d, o, e, hp, h, he => by
    obtain ⟨ds, d', rfl, h1, h2⟩ := part_cons hp
    rw [put_cons h1]
    obtain ⟨hl, ha⟩ := okM_tup.mp h
    have hk := (List.getElem?_eq_some_iff.mp h1).1
    refine okM_tup.mpr ⟨?_, fun x hx => ?_⟩
    · rw [List.length_append, List.length_append, List.length_take, List.length_drop]
      show min k ds.length + 1 + (ds.length - (k + 1)) ≤ W
      omega
    · rcases List.mem_append.mp hx with hx | hx
      · rcases List.mem_append.mp hx with hx | hx
        · exact ha x (List.mem_of_mem_take hx)
        · rw [List.mem_singleton.mp hx]
          exact okM_put p d' o e h2 (ha d' (List.mem_of_getElem? h1)) he
      · exact ha x (List.mem_of_mem_drop hx)
theorem okM_odd {B W : Nat} {words : List Str} {o e : PyData} (h : Odd words o e) (ho : okM B W o = true) (hB : 301 ≤ B) : okM (B + 1) (W + 1) e = true := by
  rcases h with ⟨ds, a, rfl, ha, he⟩ | ⟨z, rfl, he⟩ | ⟨i, rfl, he⟩ | he
  · obtain ⟨hl, hall⟩ := okM_tup.mp ho
    have key : ∀ ys : List PyData, ys.length ≤ ds.length + 1 → (∀ y ∈ ys, y ∈ ds ∨ y = .none) → okM (B + 1) (W + 1) (.tuple ys) = true := fun ys h1 h2 => okM_tup.mpr ⟨by omega, fun y hy => by
      rcases h2 y hy with z | z
      · exact okM_more (Nat.le_succ _) (Nat.le_succ _) y (hall y z)
      · rw [z]
        rfl⟩
    unfold oddT at he
    simp only [List.mem_cons, List.not_mem_nil, or_false] at he
    rcases he with rfl | rfl | rfl | rfl | rfl | rfl
    · refine key _ (by rw [List.length_append, List.length_take, List.length_drop]; omega) fun y hy => ?_
      rcases List.mem_append.mp hy with h | h
      · exact .inl (List.mem_of_mem_take h)
      · exact .inl (List.mem_of_mem_drop h)
    · refine key _ (by rw [List.length_append, List.length_append, List.length_take, List.length_take, List.length_drop]; omega) fun y hy => ?_
      rcases List.mem_append.mp hy with h | h
      · rcases List.mem_append.mp h with h | h
        · exact .inl (List.mem_of_mem_take h)
        · exact .inl (List.mem_of_mem_drop (List.mem_of_mem_take h))
      · exact .inl (List.mem_of_mem_drop h)
    · exact key _ (by rw [List.length_reverse]; omega) fun y hy => .inl (List.mem_reverse.mp hy)
    · rfl
    · refine key _ (by rw [List.length_append]; exact Nat.le_refl _) fun y hy => ?_
      rcases List.mem_append.mp hy with h | h
      · exact .inl h
      · exact .inr (List.mem_singleton.mp h)
    · exact key _ (Nat.zero_le _) fun y hy => nomatch hy
  · rcases List.mem_append.mp he with h | h
    · obtain ⟨s, _, rfl⟩ := List.mem_map.mp h
      rfl
    · unfold oddS at h
      simp only [List.mem_cons, List.not_mem_nil, or_false] at h
      rcases h with rfl | rfl | rfl | rfl | rfl | rfl | rfl | rfl <;> first | rfl | exact okM_tup.mpr ⟨by show 1 ≤ W + 1; omega, fun d hd => by rw [List.mem_singleton.mp hd]; rfl⟩
  · simp only [okM, decide_eq_true_iff] at ho
    unfold oddI at he
    simp only [List.mem_cons, List.not_mem_nil, or_false] at he
    rcases he with rfl | rfl | rfl | rfl | rfl | rfl | rfl | rfl | rfl | rfl | rfl | rfl | rfl | rfl <;> first | rfl | (simp only [okM, decide_eq_true_iff]; omega) | exact okM_tup.mpr ⟨by show 1 ≤ W + 1; omega, fun d hd => by rw [List.mem_singleton.mp hd]; simp only [okM, decide_eq_true_iff]; omega⟩
  · have hc : ∀ d ∈ oddC, okM 5 1 d = true := by decide +kernel
    exact okM_more (by omega) (by omega) e (hc e he)
theorem nest_part : ∀ (p : List Nat) (n : Nat) (d o : PyData), partAt d p = some o → nestOk n d = true → nestOk n o = true
  | [], n, d, o, e, h => by
    cases e
    exact h
  | k :: p, 0, d, o, e, h => by cases h
  | k :: p, n + 1, d, o, e, h => by
    obtain ⟨ds, d', rfl, h1, h2⟩ := part_cons e
    have h' : ds.all (nestOk n) = true := h
    exact nest_more (Nat.le_succ n) (nest_part p n d' o h2 (List.all_eq_true.mp h' d' (List.mem_of_getElem? h1)))
theorem nest_put : ∀ (p : List Nat) (n m : Nat) (d o e : PyData), partAt d p = some o → nestOk n d = true → nestOk m e = true → nestOk (n + m) (putAt d p e) = true
  | [], n, m, d, o, e, _, _, h => nest_more (by omega) h
  | k :: p, 0, m, d, o, e, _, h, _ => by cases h
  | k :: p, n + 1, m, d, o, e, hp, h, he => by
    obtain ⟨ds, d', rfl, h1, h2⟩ := part_cons hp
    have h' : ds.all (nestOk n) = true := h
    rw [put_cons h1, show n + 1 + m = (n + m) + 1 by omega]
    show (ds.take k ++ [putAt d' p e] ++ ds.drop (k + 1)).all (nestOk (n + m)) = true
    refine List.all_eq_true.mpr fun x hx => ?_
    have old : ∀ y ∈ ds, nestOk (n + m) y = true := fun y hy => nest_more (by omega) (List.all_eq_true.mp h' y hy)
    rcases List.mem_append.mp hx with hx | hx
    · rcases List.mem_append.mp hx with hx | hx
      · exact old x (List.mem_of_mem_take hx)
      · rw [List.mem_singleton.mp hx]
        exact nest_put p n m d' o e h2 (List.all_eq_true.mp h' d' (List.mem_of_getElem? h1)) he
    · exact old x (List.mem_of_mem_drop hx)
theorem nest_odd {n : Nat} {words : List Str} {o e : PyData} (h : Odd words o e) (ho : nestOk (n + 1) o = true) : nestOk (n + 3) e = true := by
  rcases h with ⟨ds, a, rfl, ha, he⟩ | ⟨z, rfl, he⟩ | ⟨i, rfl, he⟩ | he
  · have h' : ds.all (nestOk n) = true := ho
    have key : ∀ ys : List PyData, (∀ y ∈ ys, y ∈ ds ∨ y = .none) → nestOk (n + 3) (.tuple ys) = true := fun ys h2 => by
      show ys.all (nestOk (n + 2)) = true
      refine List.all_eq_true.mpr fun y hy => ?_
      rcases h2 y hy with z | z
      · exact nest_more (by omega) (List.all_eq_true.mp h' y z)
      · rw [z]
        rfl
    unfold oddT at he
    simp only [List.mem_cons, List.not_mem_nil, or_false] at he
    rcases he with rfl | rfl | rfl | rfl | rfl | rfl
    · refine key _ fun y hy => ?_
      rcases List.mem_append.mp hy with h | h
      · exact .inl (List.mem_of_mem_take h)
      · exact .inl (List.mem_of_mem_drop h)
    · refine key _ fun y hy => ?_
      rcases List.mem_append.mp hy with h | h
      · rcases List.mem_append.mp h with h | h
        · exact .inl (List.mem_of_mem_take h)
        · exact .inl (List.mem_of_mem_drop (List.mem_of_mem_take h))
      · exact .inl (List.mem_of_mem_drop h)
    · exact key _ fun y hy => .inl (List.mem_reverse.mp hy)
    · rfl
    · refine key _ fun y hy => ?_
      rcases List.mem_append.mp hy with h | h
      · exact .inl h
      · exact .inr (List.mem_singleton.mp h)
    · exact key _ fun y hy => nomatch hy
  · rcases List.mem_append.mp he with h | h
    · obtain ⟨s, _, rfl⟩ := List.mem_map.mp h
      rfl
    · unfold oddS at h
      simp only [List.mem_cons, List.not_mem_nil, or_false] at h
      rcases h with rfl | rfl | rfl | rfl | rfl | rfl | rfl | rfl <;> rfl
  · unfold oddI at he
    simp only [List.mem_cons, List.not_mem_nil, or_false] at he
    rcases he with rfl | rfl | rfl | rfl | rfl | rfl | rfl | rfl | rfl | rfl | rfl | rfl | rfl | rfl <;> rfl
  · have hc : ∀ d ∈ oddC, nestOk 2 d = true := by decide +kernel
    exact nest_more (by omega) (hc e he)
/-- what is tame: whole numbers, lengths, nesting, weight -/
structure Tame (B W N wt : Nat) (d : PyData) : Prop where
  m : okM B W d = true
  n : nestOk N d = true
  w : weight d ≤ wt
theorem Tame.ints {B W N wt : Nat} {d : PyData} (h : Tame B W N wt d) (hB : B ≤ 1000) : ∀ p i, partAt d p = some (.int i) → i.natAbs ≤ 1000 := fun p i e => by
  have := okM_part p d _ e h.m
  simp only [okM, decide_eq_true_iff] at this
  omega
theorem bent_tame {B W N wt : Nat} {words : List Str} {t o e : PyData} {p : List Nat} (h : Tame B W (N + 1) wt t) (hp : partAt t p = some o) (ho : Odd words o e) (hw : ∀ s ∈ words, s.length ≤ 20) (hB : 301 ≤ B) (hB2 : B ≤ 1000) : Tame (B + 1) (W + 1) (N + 1 + (N + 3)) (wt + (3 * wt + 100)) (putAt t p e) where
  m := okM_put p t o e hp (okM_more (Nat.le_succ _) (Nat.le_succ _) t h.m) (okM_odd ho (okM_part p t o hp h.m) hB)
  n := nest_put p _ _ t o e hp h.n (nest_odd ho (nest_part p _ t o hp h.n))
  w := by
    have h1 := put_wt p t o e hp
    have h2 := odd_wt ho hw fun i hi => h.ints hB2 p i (hi ▸ hp)
    have h3 := part_wt p t o hp
    have := h.w
    omega
theorem tame_few {B W N wt : Nat} {d : PyData} (h : Tame B W N wt d) (hW : W ≤ 60) (hwt : wt ≤ 100000) : fitsA d = true ∧ fewW d = true := by
  refine ⟨fitsA_iff.mpr (Nat.le_trans h.w hwt), ?_⟩
  unfold fewW
  split
  · rename_i a b ts
    have h1 := (okM_tup.mp ((okM_tup.mp h.m).2 (.tuple ts) (by simp))).1
    exact decide_eq_true (by omega)
  · rfl
theorem wt_le {k : Nat} {ds : List PyData} (h : ∀ d ∈ ds, weight d ≤ k) : weight (.tuple ds) ≤ 1 + ds.length * k := by
  have := weights_le (B := k) ds h
  simp only [weight]
  omega
/-- a row of a machine of words -/
theorem tame_row {n : Nat} {r : PyData} (hn : n ≤ 8) (h : isRowBelow r (n : Int) = true) : okM 301 8 r = true ∧ nestOk 2 r = true ∧ weight r ≤ 4 := by
  cases r with
  | tuple xs =>
    have h2 : (decide ((xs.length : Int) = 3) && xs.all fun x => isBetween x 0 ((n : Int) - 1)) = true := h
    rw [Bool.and_eq_true, decide_eq_true_iff] at h2
    have hx : ∀ x ∈ xs, okM 301 8 x = true ∧ nestOk 1 x = true ∧ weight x ≤ 1 := fun x hx => by
      obtain ⟨i, rfl, i0, i1⟩ := betw_int (List.all_eq_true.mp h2.2 x hx)
      refine ⟨?_, rfl, Nat.le_refl _⟩
      simp only [okM, decide_eq_true_iff]
      omega
    refine ⟨okM_tup.mpr ⟨by omega, fun x h => (hx x h).1⟩, List.all_eq_true.mpr fun x h => (hx x h).2.1, ?_⟩
    have := wt_le (k := 1) fun x h => (hx x h).2.2
    omega
  | _ => cases h
theorem tame_rowP {n : Nat} {r : PyData} (hn : n ≤ 4) (h : isRowOf r (n : Int) = true) : okM 301 8 r = true ∧ nestOk 3 r = true ∧ weight r ≤ 34 := by
  cases r with
  | tuple xs =>
    have h2 : (decide ((xs.length : Int) = 3) && xs.all (isPair (n : Int))) = true := h
    rw [Bool.and_eq_true, decide_eq_true_iff] at h2
    have hx : ∀ x ∈ xs, okM 301 8 x = true ∧ nestOk 2 x = true ∧ weight x ≤ 11 := fun x hx => by
      have hp := List.all_eq_true.mp h2.2 x hx
      unfold isPair at hp
      split at hp
      · rename_i g z
        rw [Bool.and_eq_true] at hp
        obtain ⟨i, rfl, i0, i1⟩ := betw_int hp.1
        cases z with
        | str z =>
          have h4 : ((signs z).all isAbc && decide ((z.length : Int) ≤ 8)) = true := hp.2
          rw [Bool.and_eq_true, decide_eq_true_iff] at h4
          refine ⟨okM_tup.mpr ⟨by show 2 ≤ 8; decide, fun d hd => ?_⟩, rfl, ?_⟩
          · simp only [List.mem_cons, List.not_mem_nil, or_false] at hd
            rcases hd with rfl | rfl
            · simp only [okM, decide_eq_true_iff]
              omega
            · rfl
          · simp only [weight, weights]
            omega
        | _ => cases hp.2
      · cases hp
    refine ⟨okM_tup.mpr ⟨by omega, fun x h => (hx x h).1⟩, List.all_eq_true.mpr fun x h => (hx x h).2.1, ?_⟩
    have := wt_le (k := 11) fun x h => (hx x h).2.2
    omega
  | _ => cases h
theorem tame_three {w0 : Str} {rs ts : List PyData} {kr kt a b : Nat} (ha : a ≤ 8) (hb : b ≤ 8) (hw : w0.length ≤ 10) (hr : ∀ r ∈ rs, okM 301 8 r = true ∧ nestOk 3 r = true ∧ weight r ≤ kr) (hrl : rs.length ≤ a) (ht : ∀ r ∈ ts, okM 301 8 r = true ∧ nestOk 3 r = true ∧ weight r ≤ kt) (htl : ts.length ≤ b) : Tame 301 8 5 (1 + 11 + (1 + a * kr) + (1 + b * kt)) (.tuple [.str w0, .tuple rs, .tuple ts]) where
  m := okM_tup.mpr ⟨by show 3 ≤ 8; decide, fun d hd => by
    simp only [List.mem_cons, List.not_mem_nil, or_false] at hd
    rcases hd with rfl | rfl | rfl
    · rfl
    · exact okM_tup.mpr ⟨by omega, fun x h => (hr x h).1⟩
    · exact okM_tup.mpr ⟨by omega, fun x h => (ht x h).1⟩⟩
  n := by
    show (true && (rs.all (nestOk 3) && (ts.all (nestOk 3) && true))) = true
    rw [List.all_eq_true.mpr fun x h => (hr x h).2.1, List.all_eq_true.mpr fun x h => (ht x h).2.1]
    rfl
  w := by
    have h1 := wt_le (k := kr) fun x h => (hr x h).2.2
    have h2 := wt_le (k := kt) fun x h => (ht x h).2.2
    have h3 : rs.length * kr ≤ a * kr := Nat.mul_le_mul_right _ hrl
    have h4 : ts.length * kt ≤ b * kt := Nat.mul_le_mul_right _ htl
    show 1 + (weight (.str w0) + (weight (.tuple rs) + (weight (.tuple ts) + 0))) ≤ _
    simp only [weight] at h1 h2 ⊢
    omega
/-- drawn machines and scribes are tame, also under the other's word -/
theorem tame_words {w0 : Str} {rs ts : List PyData} (hw : w0.length ≤ 10) (h : isWords (.tuple [.str "words", .tuple rs, .tuple ts]) = true) (ht : ts.length ≤ 8) : Tame 301 8 5 100 (.tuple [.str w0, .tuple rs, .tuple ts]) := by
  obtain ⟨rs', ts', e, h1, _, h3, h4⟩ := words_are h
  cases e
  have h5 : (ts.all (fun x => isBetween x 0 ((rs.length : Int) - 1)) && risesD ts) = true := h4
  rw [Bool.and_eq_true] at h5
  have t := tame_three (w0 := w0) (rs := rs) (ts := ts) (kr := 4) (kt := 1) (a := 8) (b := 8) (by decide) (by decide) hw (fun r hr => by
    obtain ⟨a, b, c⟩ := tame_row h3 (List.all_eq_true.mp h1 r hr)
    exact ⟨a, nest_more (by decide) b, c⟩) h3 (fun r hr => by
    obtain ⟨i, rfl, i0, i1⟩ := betw_int (List.all_eq_true.mp h5.1 r hr)
    refine ⟨?_, rfl, Nat.le_refl _⟩
    simp only [okM, decide_eq_true_iff]
    omega) ht
  exact ⟨t.m, t.n, Nat.le_trans t.w (by decide)⟩
theorem tame_pen {w0 : Str} {rs ts : List PyData} (hw : w0.length ≤ 10) (h : isScribe (.tuple [.str "scribe", .tuple rs, .tuple ts]) = true) : Tame 301 8 5 190 (.tuple [.str w0, .tuple rs, .tuple ts]) := by
  obtain ⟨rs', ts', e, h1, _, h3, h4, h5⟩ := scribe_are h
  cases e
  have t := tame_three (w0 := w0) (rs := rs) (ts := ts) (kr := 34) (kt := 9) (a := 4) (b := 4) (by decide) (by decide) hw (fun r hr => tame_rowP h3 (List.all_eq_true.mp h1 r hr)) (by omega) (fun r hr => by
    rcases end_cases (List.all_eq_true.mp h5 r hr) with rfl | ⟨z, rfl, hz⟩
    · exact ⟨rfl, rfl, by simp only [weight]; omega⟩
    · exact ⟨rfl, rfl, by simp only [weight]; omega⟩) (by omega)
  exact ⟨t.m, t.n, Nat.le_trans t.w (by decide)⟩
end Sx
set_option Elab.async false
set_option linter.all false
set_option maxRecDepth 100000
set_option maxHeartbeats 4000000
set_option exponentiation.threshold 3000
namespace Sx
open PySem PySem.Spec PyProof.Rows L2 LamX
open C8 (Cal pe_c pe_gc)
section
variable {K : PySem.W.Frag} {σ : L2.St} {F F0 H0 H G : Hp} {d l c p : Addr} {n B : Nat} {te tb : TE} {ts : TA} {tS : TS} {g : TG} {D : Ends} {E : PyData → Prop}
/-- bent(draw, t, [words]) -/
theorem er_bent {i : Nat} {t : PyData} {words : List Str} (hi : σ[i]? = some (some (.ref d))) (h : EvD K te σ F t) (hw : EvS K ts σ F (words.map .str)) (hwl : words.length ≤ 20) (h1 : weight t ≤ 1000) (h2 : nestOk 40 t = true) (h3 : ∀ p i, partAt t p = some (.int i) → i.natAbs ≤ 1000) :
    EvR K (tCall (spBent K) [] C8.E0 (tCons (tVar i) (tCons te (tCons (tLst ts) tNil)))) σ F d l c 20 (fun e => ∃ p o e', partAt t p = some o ∧ Odd words o e' ∧ e = putAt t p e') := fun F0 H0 G H n s S hn Q q =>
  ⟨.ref d, hi, h.up s H S.same _ fun x G1 H1 g1 r1 => (hw.up (s.trans g1.f)) H1 g1.i _ fun ws G2 H2 g2 r2 => ⟨by rw [r2.len, List.length_map]; exact Nat.le_of_lt (small1000 (by omega)), fun p hp => by
    have S2 := (S.grow g1).grow g2
    have S3 := S2.grow (Grow.known (o := .lst ws) S2.same hp)
    have s3 : Same G2 (upd G2 p (.lst ws)) := same_upd (S2.same.free hp)
    exact ⟨F0, H0, upd G2 p (.lst ws), d, l, c, p, n, x, t, ws, words, S3, hn, rfl, (r1.up g2.f).up s3, h1, h2, h3, upd_same, r2.up s3, hwl, fun pp o e v G' H' _ hpo hodd rv S' s' => q v _ G' H' ⟨pp, o, e, hpo, hodd, rfl⟩ rv (S'.more (by omega)) ((g1.f.trans g2.f).trans (s3.trans s'))⟩⟩⟩
/-- a list that is known + a drawn display -/
theorem er_cat {i : Nat} {vs : List V} {as : List PyData} {Es : List PyData → Prop} (hi : σ[i]? = some (some (.ref p))) (hp : F p = some (.lst vs)) (rv : DqAll K F vs as) (h : EvRs K ts σ F d l c B Es) (hl : ∀ es, Es es → es.length ≤ 100) (ha : as.length ≤ 100) :
    EvR K (tOp rCat (tVar i) (tLst ts)) σ F d l c B (fun e => ∃ es, e = .list (as ++ es) ∧ Es es) := fun F0 H0 G H n s S hn Q q =>
  ⟨.ref p, hi, h F0 H0 G H n s S hn _ fun us es G1 H1 hes r S1 s1 => by
    have l1 := hl es hes
    have lu : us.length = es.length := r.len
    have lv : vs.length = as.length := rv.len
    refine ⟨by rw [lu]; exact Nat.le_of_lt (small1000 (by omega)), fun p2 hp2 => ?_⟩
    have e1 : G1 p = some (.lst vs) := s1 _ _ (s _ _ hp)
    have ne : p ≠ p2 := ne_of_none (S1.same _ _ e1) hp2
    have n2 : G1 p2 = none := S1.same.free hp2
    refine ⟨p, p2, vs, us, rfl, rfl, by rw [upd_ne ne]; exact S1.same _ _ e1, upd_same, Nat.le_of_lt (small1000 (by omega)), fun p3 hp3 => ?_⟩
    have S2 := S1.grow (Grow.known (o := .lst us) S1.same hp2)
    have S3 := S2.grow (Grow.known (o := .lst (vs ++ us)) S2.same hp3)
    have s3 : Same G1 (upd (upd G1 p2 (.lst us)) p3 (.lst (vs ++ us))) := (same_upd n2).trans (same_upd (S2.same.free hp3))
    exact q _ _ _ _ ⟨es, rfl, hes⟩ (.lst (.inl (.inl upd_same)) (((rv.up (s.trans s1)).app r).up s3)) S3 (s1.trans s3)⟩
/-- for x in (a drawn list): .. -/
theorem for_R {P : List PyData → Prop} (h : EvR K te σ F d l c B (fun e => ∃ es, e = .list es ∧ P es)) (S : StD F0 H0 d l c F H n) (hn : n + B ≤ 2 ^ 40) (k : ∀ v es G H', P es → Dq K G v (.list es) → StD F0 H0 d l c G H' (n + B) → Same F G → tFor (iList K (tC v)) g tS D σ H') : tFor (iList K te) g tS D σ H :=
  h F0 H0 F H n (Same.refl _) S hn _ fun v e G H' he r S' s' => by
    obtain ⟨es, rfl, hes⟩ := he
    exact k v es G H' hes r S' s'
/-- two reprs of the same -/
theorem eb_sameD {x : PyData} (hx : Showy x) (h1 : EvD K te σ F x) (h2 : EvD K tb σ F x) : EvB (tTest (tOp rNe (tCB (rReprD K) (tCons te tNil)) (tCB (rReprD K) (tCons tb tNil)))) σ F false :=
  (eb_test (ev_op (ev1 h1 (rc_reprD hx)) (ev1 h2 (rc_reprD hx)) rv_neS)).is (by rw [decide_eq_true rfl]; rfl)
theorem eb_sameS {x : PyData} (hx : noneOrStr x) (h1 : EvD K te σ F x) (h2 : EvD K tb σ F x) : EvB (tTest (tOp rNe (tCB rReprS (tCons te tNil)) (tCB rReprS (tCons tb tNil)))) σ F false :=
  (eb_test (ev_op (ev1 h1 (rc_reprS hx)) (ev1 h2 (rc_reprS hx)) rv_neS)).is (by rw [decide_eq_true rfl]; rfl)
/-- f(a = .., b = ..), by keywords in the other order, that may raise -/
theorem ev_callKY2 {gV : List V → List V → List V} {f : List PyData → Option (Except Addr PyData)} {E : XK} {d1 d2 e : PyData} (hg : ∀ x y, gV [] [x, y] = [y, x]) (h1 : EvD K te σ F d1) (h2 : EvD K tb σ F d2) (hf : f [d2, d1] = some (.ok e)) : EvD K (tCallK (spY K f) gV E tNil (tCons te (tCons tb tNil))) σ F e := fun H s Q q =>
  h1 H s _ fun v F1 H1 g1 r1 => h2.up g1.f H1 g1.i _ fun u F2 H2 g2 r2 => by
    show spY K f (gV [] [v, u]) H2 Q E
    rw [hg]
    exact ⟨F2, [d2, d1], _, g2.i, .cons r2 (.cons (r1.up g2.f) .nil), hf, fun d' hd' w F3 H3 g3 r3 => by
      cases hd'
      exact q w F3 H3 ((g1.trans g2).trans g3) r3, fun C hC => nomatch hC⟩
end
def kw1V : List V → List V → List V := fun us ws => match us, ws with
  | [], [a] => [a]
  | _, _ => []
def kw2V : List V → List V → List V := fun us ws => match us, ws with
  | [], [a, b] => [b, a]
  | _, _ => []
section
variable {K : PySem.W.Frag} {F F0 H0 H : Hp} {d l c : Addr} {n : Nat} {D : Ends} {y0 y2 y3 y4 y5 y6 y7 y8 y9 y10 y11 y12 : Option V}
def machD (rs ts : List PyData) : PyData := .tuple [.str "words", .tuple rs, .tuple ts]
def penD (rs ts : List PyData) : PyData := .tuple [.str "scribe", .tuple rs, .tuple ts]
theorem pm8 : pre_machine [.int 8] = some machineE := by
  show (if (8 : Int) = 8 then some machineE else none) = _
  rw [if_pos rfl]
theorem pp8 : pre_pen [.int 4, .int 8] = some penE := by
  show (if (4 : Int) = 4 ∧ (8 : Int) = 8 then some penE else none) = _
  rw [if_pos ⟨rfl, rfl⟩]
theorem asg_lst {σ : L2.St} {H : Hp} {D : Ends} {i : Nat} {ts : TA} (h : ts σ H fun vs H1 => vs.length ≤ sizeLine ∧ ∀ p, H1 p = none → D.nx (σ.set i (some (.ref p))) (upd H1 p (.lst vs))) : tAsg (tLst ts) (gName i) D σ H := h
/-! ### machine, pen -/
def A1 (K : PySem.W.Frag) : TS := tAsg (tTup (tCons (tCall (p__law_machine K) [] C8.E0 (tCons (tVar 1) (tCons (tC (.int 8)) tNil))) (tCons (tCall (p__law_pen K) [] C8.E0 (tCons (tVar 1) (tCons (tC (.int 4)) (tCons (tC (.int 8)) tNil)))) tNil))) (gTup K 2 (gCons (gName 10) (gCons (gName 11) gNil)))
theorem a1_by (S : StD F0 H0 d l c F H n) (hn : n + 500 ≤ 2 ^ 40)
    (k : ∀ vm vp rs ts rp tp G H', isWords (machD rs ts) = true → ts.length ≤ 8 → isScribe (penD rp tp) = true → Dq K G vm (machD rs ts) → Dq K G vp (penD rp tp) → StD F0 H0 d l c G H' (n + 500) → Same F G → D.nx [y0, some (.ref d), y2, y3, y4, y5, y6, y7, y8, y9, some vm, some vp, y12] H') :
    A1 K D [y0, some (.ref d), y2, y3, y4, y5, y6, y7, y8, y9, y10, y11, y12] H := by
  have h : EvR K (tTup (tCons (tCall (p__law_machine K) [] C8.E0 (tCons (tVar 1) (tCons (tC (.int 8)) tNil))) (tCons (tCall (p__law_pen K) [] C8.E0 (tCons (tVar 1) (tCons (tC (.int 4)) (tCons (tC (.int 8)) tNil)))) tNil))) [y0, some (.ref d), y2, y3, y4, y5, y6, y7, y8, y9, y10, y11, y12] F d l c (100 + (400 + 0)) _ :=
    er_tup (er_cons (er_call (E := machineE) (pre := pre_machine) rfl (ea_cons ev_int ea_nil) pm8) (er_cons (er_call (E := penE) (pre := pre_pen) rfl (ea_cons ev_int (ea_cons ev_int ea_nil)) pp8) er_nil)) fun es he => by
      obtain ⟨x, ys, rfl, _, y, zs, rfl, _, rfl⟩ := he
      show 2 ≤ 1000
      decide
  unfold A1
  refine h F0 H0 F H n (Same.refl _) S (by omega) _ fun v e G H' hE r S' s' => ?_
  obtain ⟨es, rfl, x, ys, rfl, ⟨rs, ts, rfl, h1, h2⟩, y, zs, rfl, ⟨rp, tp, rfl, h3⟩, rfl⟩ := hE
  refine tk_two v H' S'.same r _ fun σ2 hσ => ?_
  obtain ⟨vm, vp, rfl, r1, r2⟩ := hσ
  exact k vm vp rs ts rp tp G H' h1 h2 h3 r1 r2 S' s'
/-! ### some -/
def A2 (K : PySem.W.Frag) : TS := tAsg (tLst (tCons (tVar 10) (tCons (tVar 11) (tCons (tCall (spBent K) [] C8.E0 (tCons (tVar 1) (tCons (tVar 10) (tCons (tLst (tCons (tC (.str "words")) (tCons (tC (.str "scribe")) tNil))) tNil)))) (tCons (tCall (spBent K) [] C8.E0 (tCons (tVar 1) (tCons (tVar 11) (tCons (tLst (tCons (tC (.str "words")) (tCons (tC (.str "scribe")) (tCons (tC (.str "abc")) tNil)))) tNil)))) tNil))))) (gName 3)
theorem a2_by {vm vp : V} {rs ts rp tp : List PyData} (S : StD F0 H0 d l c F H n) (hn : n + 40 ≤ 2 ^ 40) (hm : isWords (machD rs ts) = true) (ht : ts.length ≤ 8) (hp : isScribe (penD rp tp) = true) (rm : Dq K F vm (machD rs ts)) (rpn : Dq K F vp (penD rp tp))
    (k : ∀ p vs b1 b2 G H', G p = some (.lst vs) → DqAll K G vs [machD rs ts, penD rp tp, b1, b2] → Tame 302 9 12 860 b1 → Tame 302 9 12 860 b2 → StD F0 H0 d l c G H' (n + 40) → Same F G → D.nx [y0, some (.ref d), y2, some (.ref p), y4, y5, y6, y7, y8, y9, some vm, some vp, y12] H') :
    A2 K D [y0, some (.ref d), y2, y3, y4, y5, y6, y7, y8, y9, some vm, some vp, y12] H := by
  have tm := tame_words (w0 := "words") (by decide) hm ht
  have tp' := tame_pen (w0 := "scribe") (by decide) hp
  have ws2 : ∀ s ∈ (["words", "scribe"] : List Str), s.length ≤ 20 := by decide
  have ws3 : ∀ s ∈ (["words", "scribe", "abc"] : List Str), s.length ≤ 20 := by decide
  have h := er_cons (er_pure (d := d) (l := l) (c := c) (ev_var (K := K) (F := F) (σ := [y0, some (.ref d), y2, y3, y4, y5, y6, y7, y8, y9, some vm, some vp, y12]) (i := 10) ⟨vm, rfl, rm⟩)) (er_cons (er_pure (ev_var (i := 11) ⟨vp, rfl, rpn⟩)) (er_cons (er_bent (i := 1) (words := ["words", "scribe"]) rfl (ev_var (i := 10) ⟨vm, rfl, rm⟩) (ea_cons (ev_str (x := "words")) (ea_cons (ev_str (x := "scribe")) ea_nil)) (by decide) (Nat.le_trans tm.w (by decide)) (nest_more (by decide) tm.n) (tm.ints (by decide)))
    (er_cons (er_bent (i := 1) (words := ["words", "scribe", "abc"]) rfl (ev_var (i := 11) ⟨vp, rfl, rpn⟩) (ea_cons (ev_str (x := "words")) (ea_cons (ev_str (x := "scribe")) (ea_cons (ev_str (x := "abc")) ea_nil))) (by decide) (Nat.le_trans tp'.w (by decide)) (nest_more (by decide) tp'.n) (tp'.ints (by decide))) er_nil)))
  unfold A2
  refine asg_lst (h F0 H0 F H n (Same.refl _) S (by omega) _ fun vs es G1 H1 hes r S1 s1 => ?_)
  obtain ⟨x1, ys1, rfl, rfl, x2, ys2, rfl, rfl, x3, ys3, rfl, ⟨p1, o1, e1, hp1, ho1, rfl⟩, x4, ys4, rfl, ⟨p2, o2, e2, hp2, ho2, rfl⟩, rfl⟩ := hes
  have t1 := bent_tame (N := 4) tm hp1 ho1 ws2 (by decide) (by decide)
  have t2 := bent_tame (N := 4) tp' hp2 ho2 ws3 (by decide) (by decide)
  refine ⟨by rw [r.len]; have := line_big; show 4 ≤ _; omega, fun p hpp => ?_⟩
  have s2 : Same G1 (upd G1 p (.lst vs)) := same_upd (S1.same.free hpp)
  exact k p vs _ _ _ _ upd_same (r.up s2) ⟨t1.m, t1.n, Nat.le_trans t1.w (by decide)⟩ ⟨t2.m, t2.n, Nat.le_trans t2.w (by decide)⟩ (S1.grow (.known S1.same hpp)) (s1.trans s2)
/-! ### for thing in .. -/
def judgeT (K : PySem.W.Frag) : TS := tIfS (tTest (tOp rNe (tCB (rReprD K) (tCons (tLst (tCons (tCall (p_is_words K) [] C8.E0 (tCons (tVar 4) tNil)) (tCons (tCallK (p_is_scribe K) kw1V L2.E0 tNil (tCons (tVar 4) tNil)) tNil))) tNil)) (tCB (rReprD K) (tCons (tLst (tCons (tCall (p__law_is_machine K) [] C8.E0 (tCons (tVar 4) tNil)) (tCons (tCall (p_is_scribe K) [] C8.E0 (tCons (tVar 4) tNil)) tNil))) tNil)))) (tRet (tC (.bl false))) tNext
def A3 (K : PySem.W.Frag) : TS := tFor (iList K (tOp rCat (tVar 3) (tLst (tCons (tCall (spBent K) [] C8.E0 (tCons (tVar 1) (tCons (tOp (rIxL K) (tVar 3) (tC (.int 3))) (tCons (tLst (tCons (tC (.str "abcabcabc")) (tCons (tC (.str "d")) tNil))) tNil)))) (tCons (tOp (rCatA K) (tTup (tCons (tC (.str "words")) tNil)) (tSl (rSlA K) (tVar 11) (tPart (tC (.int 1))) tNoPart)) (tCons (tOp (rCatA K) (tTup (tCons (tC (.str "scribe")) tNil)) (tSl (rSlA K) (tVar 10) (tPart (tC (.int 1))) tNoPart)) tNil)))))) (gName 4) (judgeT K)
theorem a3_by {vm vp : V} {p : Addr} {vs : List V} {rs ts rp tp : List PyData} {b1 b2 : PyData} (S : StD F0 H0 d l c F H n) (hn : n + 40 ≤ 2 ^ 40) (hm : isWords (machD rs ts) = true) (ht : ts.length ≤ 8) (hp : isScribe (penD rp tp) = true) (rm : Dq K F vm (machD rs ts)) (rpn : Dq K F vp (penD rp tp))
    (hs : F p = some (.lst vs)) (rs' : DqAll K F vs [machD rs ts, penD rp tp, b1, b2]) (t1 : Tame 302 9 12 860 b1) (t2 : Tame 302 9 12 860 b2)
    (k : ∀ z4 G H', StD F0 H0 d l c G H' (n + 40) → Same F G → D.nx [y0, some (.ref d), y2, some (.ref p), z4, y5, y6, y7, y8, y9, some vm, some vp, y12] H') :
    A3 K D [y0, some (.ref d), y2, some (.ref p), y4, y5, y6, y7, y8, y9, some vm, some vp, y12] H := by
  have tm := tame_words (w0 := "words") (by decide) hm ht
  have tm' := tame_words (w0 := "scribe") (by decide) hm ht
  have tp1 := tame_pen (w0 := "scribe") (by decide) hp
  have tp2 := tame_pen (w0 := "words") (by decide) hp
  have ws2 : ∀ s ∈ (["abcabcabc", "d"] : List Str), s.length ≤ 20 := by decide
  have e3 : EvD K (tVar 3) [y0, some (.ref d), y2, some (.ref p), y4, y5, y6, y7, y8, y9, some vm, some vp, y12] F (.list [machD rs ts, penD rp tp, b1, b2]) := ev_var ⟨_, rfl, .lst (.inl (.inl hs)) rs'⟩
  have cut : ∀ (a : PyData) (xs : List PyData), cutD (a :: xs) (some 1) none = xs := fun a xs => by
    rw [show (1 : Int) = ((1 : Nat) : Int) from rfl, cut_from]
    rfl
  have two : ∀ {w0 w1 : Str} {i : Nat} {v : V} {as bs : List PyData}, ([y0, some (.ref d), y2, some (.ref p), y4, y5, y6, y7, y8, y9, some vm, some vp, y12] : L2.St)[i]? = some (some v) → Dq K F v (.tuple [.str w1, .tuple as, .tuple bs]) → EvD K (tOp (rCatA K) (tTup (tCons (tC (.str w0)) tNil)) (tSl (rSlA K) (tVar i) (tPart (tC (.int 1))) tNoPart)) [y0, some (.ref d), y2, some (.ref p), y4, y5, y6, y7, y8, y9, some vm, some vp, y12] F (.tuple [.str w0, .tuple as, .tuple bs]) := fun {w0 w1 i v as bs} hi r =>
    (ev_op (ev_tup (ea_cons (ev_str (x := w0)) ea_nil) (by have := line_big; show 1 ≤ _; omega)) ((ev_sl (ev_var ⟨v, hi, r⟩) (eo_some (i := 1) ev_int) eo_none rs_tup).is (congrArg PyData.tuple (cut _ _))) (rv_catT (by have := line_big; show 1 + 2 ≤ _; omega))).is rfl
  have h := er_cat (K := K) (d := d) (l := l) (c := c) (i := 3) (p := p) (vs := vs) rfl hs rs' (er_cons (er_bent (i := 1) (words := ["abcabcabc", "d"]) rfl (ev_op e3 (ev_int (i := ((3 : Nat) : Int))) (rv_ixL (k := 3) rfl)) (ea_cons (ev_str (x := "abcabcabc")) (ea_cons (ev_str (x := "d")) ea_nil)) (by decide) (Nat.le_trans t2.w (by decide)) (nest_more (by decide) t2.n) (t2.ints (by decide))) (er_cons (er_pure (two (w0 := "words") (i := 11) rfl rpn)) (er_cons (er_pure (two (w0 := "scribe") (i := 10) rfl rm)) er_nil))) (fun es he => by
    obtain ⟨x1, ys1, rfl, _, x2, ys2, rfl, _, x3, ys3, rfl, _, rfl⟩ := he
    show 3 ≤ 100
    decide) (by show 4 ≤ 100; decide)
  unfold A3
  refine for_R (P := fun es => ∀ e ∈ es, fitsA e = true ∧ fewW e = true) ((h.more (B' := 40) (by decide)).imp fun e he => ?_) S hn fun v es G H' hes r S' s' => ?_
  · obtain ⟨es, rfl, x1, ys1, rfl, ⟨p1, o1, e1, hp1, ho1, rfl⟩, x2, ys2, rfl, rfl, x3, ys3, rfl, rfl, rfl⟩ := he
    refine ⟨_, rfl, fun e he => ?_⟩
    have t3 := bent_tame (N := 11) t2 hp1 ho1 ws2 (by decide) (by decide)
    simp only [List.cons_append, List.nil_append, List.mem_cons, List.not_mem_nil, or_false] at he
    rcases he with rfl | rfl | rfl | rfl | rfl | rfl | rfl
    · exact tame_few tm (by decide) (by decide)
    · exact tame_few tp1 (by decide) (by decide)
    · exact tame_few t1 (by decide) (by decide)
    · exact tame_few t2 (by decide) (by decide)
    · exact tame_few t3 (by decide) (by decide)
    · exact tame_few tp2 (by decide) (by decide)
    · exact tame_few tm' (by decide) (by decide)
  refine s_for (K := K) (F := G) (ds := es) S'.same (ew_list (ev_cd r)) fun F2 H2 g2 =>
    ⟨fun i σ' F' H'' => Grow G H' F' H'' ∧ Same F2 F' ∧ ∃ z4, σ' = [y0, some (.ref d), y2, some (.ref p), z4, y5, y6, y7, y8, y9, some vm, some vp, y12], ⟨g2, Same.refl _, _, rfl⟩, fun i σ' F' H'' hI => ⟨hI.2.1, hI.1.i⟩, fun i e σ' F' H'' he hI F3 H3 u g3 ru => ?_, fun σ' F' H'' hI => ?_⟩
  · obtain ⟨gI, sI, z4, rfl⟩ := hI
    obtain ⟨h1, h2⟩ := hes e (List.mem_of_getElem? he)
    refine tk_name u H3 g3.i ru _ fun σ2 hσ => ?_
    obtain ⟨u', rfl, ru'⟩ := hσ
    have ev4 : EvD K (tVar 4) [y0, some (.ref d), y2, some (.ref p), some u', y5, y6, y7, y8, y9, some vm, some vp, y12] F3 e := ev_var ⟨u', rfl, ru'⟩
    have hb : EvB _ [y0, some (.ref d), y2, some (.ref p), some u', y5, y6, y7, y8, y9, some vm, some vp, y12] F3 false := eb_sameD (K := K) (x := .list [.bool (isWords e), .bool (isScribe e)]) (showy_lst (fun x hx => by
      simp only [List.mem_cons, List.not_mem_nil, or_false] at hx
      rcases hx with rfl | rfl <;> rfl) (by show 2 ≤ 100; decide))
      (ev_lst (ea_cons (ev_call (f := f1 g_is_words) (E := C8.E0) (ea_cons ev4 ea_nil) (if_pos h1)) (ea_cons (ev_callK1 (f := f1 g_is_scribe) (gV := kw1V) (E := L2.E0) (fun _ => rfl) ev4 (if_pos h1)) ea_nil)) two_small)
      (ev_lst (ea_cons (ev_call (f := f1 g_law_is_machine) (E := C8.E0) (ea_cons ev4 ea_nil) (if_pos (by rw [h1, h2]; rfl))) (ea_cons (ev_call (f := f1 g_is_scribe) (E := C8.E0) (ea_cons ev4 ea_nil) (if_pos h1)) ea_nil)) two_small)
    unfold judgeT
    refine s_if hb g3.i (fun z => nomatch z) fun _ F4 H4 g4 => ?_
    exact ⟨F4, (gI.trans g3).trans g4, sI.trans (g3.f.trans g4.f), _, rfl⟩
  · obtain ⟨gI, sI, z4, rfl⟩ := hI
    exact k z4 F' H'' (S'.grow gI) (s'.trans gI.f)
end
end Sx
set_option Elab.async false
set_option linter.all false
set_option maxRecDepth 100000
set_option maxHeartbeats 4000000
set_option exponentiation.threshold 3000
namespace Sx
open PySem PySem.Spec PyProof.Rows L2 LamX
open C8 (Cal pe_c pe_gc)
theorem penSay_abc {rs : List PyData} (h : pensOk rs = true) {i k : Nat} (hi : i < rs.length) (hk : k < 3) : (signs (penSay rs i k)).all isAbc = true := by
  have e1 : rs[i]? = some rs[i] := List.getElem?_eq_getElem hi
  have h1 := List.all_eq_true.mp h rs[i] (List.getElem_mem hi)
  cases q : rs[i] with
  | tuple xs =>
    rw [q] at h1 e1
    have h2 : (decide ((xs.length : Int) = 3) && xs.all (isPair (rs.length : Int))) = true := h1
    rw [Bool.and_eq_true, decide_eq_true_iff] at h2
    have hk' : k < xs.length := by omega
    have e2 : xs[k]? = some xs[k] := List.getElem?_eq_getElem hk'
    have h3 := List.all_eq_true.mp h2.2 xs[k] (List.getElem_mem hk')
    have ec : cellP rs i k = xs[k] := by
      unfold cellP
      rw [getD_is e1]
      exact getD_is e2
    unfold penSay
    rw [ec]
    unfold isPair at h3
    split at h3
    · rename_i g z hg
      rw [hg]
      rw [Bool.and_eq_true] at h3
      cases z with
      | str z =>
        have h4 : ((signs z).all isAbc && decide ((z.length : Int) ≤ 8)) = true := h3.2
        rw [Bool.and_eq_true] at h4
        exact h4.1
      | _ => cases h3.2
    · cases h3
  | _ =>
    rw [q] at h1
    cases h1
theorem say_abc {rs : List PyData} (h : pensOk rs = true) : ∀ {ls : List PyData} {i : Nat}, (∀ d ∈ ls, isAbc d = true) → i < rs.length → (signs (catS (sayP rs i ls))).all isAbc = true
  | [], _, _, _ => rfl
  | d :: r, i, hd, hi => by
    have hk := idx_lt (hd d List.mem_cons_self)
    obtain ⟨_, _, _, hlt, _⟩ := pen_step h hi hk
    show (signs (penSay rs i (idxD d) ++ catS (sayP rs (penGo rs i (idxD d)) r))).all isAbc = true
    rw [signs_app, List.all_append, penSay_abc h hi hk, say_abc h (ls := r) (fun e he => hd e (List.mem_cons_of_mem _ he)) hlt]
    rfl
theorem abc_lay {z : Str} (h : (signs z).all isAbc = true) (hl : z.length ≤ 10000) : PyData.layable0 (.str z) = true := by
  have h1 : PyData.canLay0 (.str z) = true := by
    show z.cps.all (· < 0x110000) = true
    rw [← Array.all_toList, List.all_eq_true]
    intro c hc
    have hm : PyData.str ⟨#[c]⟩ ∈ signs z := List.mem_map.mpr ⟨c, hc, rfl⟩
    rcases abc_cases (List.all_eq_true.mp h _ hm) with rfl | rfl | rfl <;> decide
  have h2 : PyData.weight (.str z) ≤ 2 ^ 20 := by
    have e : z.length = z.cps.size := rfl
    simp only [PyData.weight]
    omega
  show (PyData.canLay0 (.str z) && decide (PyData.depth (.str z) ≤ 64) && decide (PyData.weight (.str z) ≤ 2 ^ 20)) = true
  rw [h1, decide_eq_true h2]
  rfl
theorem copy_show {rp tp : List PyData} {z : Str} (h : pensOk rp = true) (hl : tp.length = rp.length) (h0 : 0 < rp.length) (he : tp.all isEnd = true) (hz : (signs z).all isAbc = true) (hzl : z.length ≤ 12) : noneOrStr (copyD rp tp 0 z) := by
  have hz' := List.all_eq_true.mp hz
  have hlt : rowP rp 0 (signs z) < tp.length := by rw [hl]; exact rowP_lt h hz' h0
  have e1 : tp[rowP rp 0 (signs z)]? = some tp[rowP rp 0 (signs z)] := List.getElem?_eq_getElem hlt
  have hd := List.all_eq_true.mp he _ (List.getElem_mem hlt)
  unfold copyD endAt
  rw [getD_is e1]
  have hs := sayP_sum h (ls := signs z) hz' h0
  rw [signs_len] at hs
  cases hx : tp[rowP rp 0 (signs z)] with
  | none => exact .inl rfl
  | str e =>
    rw [hx] at hd
    have h4 : ((signs e).all isAbc && decide ((e.length : Int) ≤ 8)) = true := hd
    rw [Bool.and_eq_true, decide_eq_true_iff] at h4
    refine .inr ⟨_, rfl, abc_lay ?_ ?_⟩
    · rw [signs_app, List.all_append, say_abc h hz' h0, h4.1]
      rfl
    · rw [cat_len, catS_len]
      omega
  | _ =>
    rw [hx] at hd
    cases hd
section
variable {K : PySem.W.Frag} {F F0 H0 H : Hp} {d l c CW CT CP : Addr} {n : Nat} {D : Ends} {y0 y2 y3 y4 y5 y6 y7 y8 y9 y10 y11 y12 : Option V}
abbrev mx (K : PySem.W.Frag) (k : Int) : TE := tOp (rIxT K) (tVar 10) (tC (.int k))
def B1 (K : PySem.W.Frag) : TS := tAsg (tCall (p__law_string K) [] C8.E0 (tCons (tVar 1) (tCons (tC (.int 12)) tNil))) (gName 5)
def B2 (K : PySem.W.Frag) : TS := tAsg (tCall (p_row_from K) [] C8.E0 (tCons (mx K 1) (tCons (tC (.int 0)) (tCons (tVar 5) tNil)))) (gName 6)
def B3 (K : PySem.W.Frag) (CW CT : Addr) : TS := tIfS (tTest (tOp rNe (tCB (rReprD K) (tCons (tLst (tCons (tCallK (p_row_behind K CW CT) kw2V L2.E0 tNil (tCons (tVar 5) (tCons (tVar 10) tNil))) (tCons (tCall (p_takes_text K CW CT) [] L2.E0 (tCons (tVar 10) (tCons (tVar 5) tNil))) tNil))) tNil)) (tCB (rReprD K) (tCons (tLst (tCons (tVar 6) (tCons (tOp (rIn K false) (tVar 6) (mx K 2)) tNil))) tNil)))) (tRet (tC (.bl false))) tNext
def B4 (K : PySem.W.Frag) (CW CT : Addr) : TS := tIfS (tTest (tOp rNe (tCB (rReprD K) (tCons (tCallK (p_effect K CW CT) kw2V L2.E0 tNil (tCons (tVar 5) (tCons (tVar 10) tNil))) tNil)) (tCB (rReprD K) (tCons (tThen (tLc (iRng1 (tCons (tCB (rLen0 K) (tCons (mx K 1) tNil)) tNil)) (gName 12) tYes (tCall (p_row_from K) [] C8.E0 (tCons (mx K 1) (tCons (tVar 12) (tCons (tVar 5) tNil)))) [12]) (kTup K)) tNil)))) (tRet (tC (.bl false))) tNext
def B5 (K : PySem.W.Frag) (CP CT : Addr) : TS := tIfS (tTest (tOp rNe (tCB rReprS (tCons (tCallK (p_scribed K CP CT) kw2V L2.E0 tNil (tCons (tVar 5) (tCons (tVar 11) tNil))) tNil)) (tCB rReprS (tCons (tCall (p__law_copied K) [] C8.E0 (tCons (tVar 11) (tCons (tVar 5) tNil))) tNil)))) (tRet (tC (.bl false))) tNext
def LZ (z : Str) : Prop := (signs z).all isAbc = true ∧ z.length ≤ 12
theorem fits_z {z : Str} (h : LZ z) : fitsA (.str z) = true := fitsA_iff.mpr (by simp only [weight]; have := h.2; omega)
theorem b1_by (S : StD F0 H0 d l c F H n) (hn : n + 20 ≤ 2 ^ 40) (k : ∀ z G H', LZ z → StD F0 H0 d l c G H' (n + 20) → Same F G → D.nx [y0, some (.ref d), y2, y3, y4, some (.str z), y6, y7, y8, y9, y10, y11, y12] H') : B1 K D [y0, some (.ref d), y2, y3, y4, y5, y6, y7, y8, y9, y10, y11, y12] H := by
  unfold B1
  refine s_setR (K := K) (B := 20) (E := abcOf 12) (er_call (pre := pre_string) rfl (ea_cons (ev_int (i := 12)) ea_nil) (by
    show (if (0 : Int) ≤ 12 ∧ (12 : Int) ≤ 12 then some (abcOf (12 : Int).toNat) else none) = _
    rw [if_pos ⟨by decide, by decide⟩]
    rfl)) S hn fun v e G H' hE r S' s' => ?_
  obtain ⟨z, rfl, h1, h2⟩ := hE
  cases r
  exact k z G H' ⟨h1, h2⟩ S' s'
theorem b2_by {vm : V} {rs ts : List PyData} {z : Str} (S : StD F0 H0 d l c F H n) (hm : isWords (machD rs ts) = true) (rm : Dq K F vm (machD rs ts)) (hz : LZ z) (k : ∀ G H', StD F0 H0 d l c G H' n → Same F G → D.nx [y0, some (.ref d), y2, y3, y4, some (.str z), some (.int (runR rs 0 (signs z) : Nat)), y7, y8, y9, some vm, y11, y12] H') : B2 K D [y0, some (.ref d), y2, y3, y4, some (.str z), y6, y7, y8, y9, some vm, y11, y12] H := by
  unfold B2
  obtain ⟨rs', ts', e, h1, h2, h3, h4⟩ := words_are hm
  cases e
  refine s_set (K := K) (F := F) (ev_call (f := f3 g_row_from) (ea_cons (ev_op (ev_var (i := 10) ⟨vm, rfl, rm⟩) (ev_int (i := 1)) (rv_ixT (k := 1) rfl)) (ea_cons (ev_int (i := 0)) (ea_cons (ev_var (i := 5) ⟨_, rfl, .str z⟩) ea_nil))) (row_from_is (i := 0) h1 (by omega) hz.1)) S.same fun v F' H' g r => ?_
  cases r
  exact k F' H' (S.grow g) g.f
theorem b3_by {vm : V} {rs ts : List PyData} {z : Str} (S : StD F0 H0 d l c F H n) (hm : isWords (machD rs ts) = true) (ht : ts.length ≤ 8) (rm : Dq K F vm (machD rs ts)) (hz : LZ z) (k : ∀ G H', StD F0 H0 d l c G H' n → Same F G → D.nx [y0, some (.ref d), y2, y3, y4, some (.str z), some (.int (runR rs 0 (signs z) : Nat)), y7, y8, y9, some vm, y11, y12] H') : B3 K CW CT D [y0, some (.ref d), y2, y3, y4, some (.str z), some (.int (runR rs 0 (signs z) : Nat)), y7, y8, y9, some vm, y11, y12] H := by
  unfold B3
  have fm := (tame_few (tame_words (w0 := "words") (by decide) hm ht) (by decide) (by decide)).1
  obtain ⟨rs', ts', e, h1, h2, h3, h4⟩ := words_are hm
  cases e
  have hlt : runR rs 0 (signs z) < rs.length := runR_lt h1 (List.all_eq_true.mp hz.1) (by omega)
  have e5 : EvD K (tVar 5) [y0, some (.ref d), y2, y3, y4, some (.str z), some (.int (runR rs 0 (signs z) : Nat)), y7, y8, y9, some vm, y11, y12] F (.str z) := ev_var ⟨_, rfl, .str z⟩
  have e6 : EvD K (tVar 6) [y0, some (.ref d), y2, y3, y4, some (.str z), some (.int (runR rs 0 (signs z) : Nat)), y7, y8, y9, some vm, y11, y12] F (.int (runR rs 0 (signs z) : Nat)) := ev_var ⟨_, rfl, .int _⟩
  have e10 : EvD K (tVar 10) [y0, some (.ref d), y2, y3, y4, some (.str z), some (.int (runR rs 0 (signs z) : Nat)), y7, y8, y9, some vm, y11, y12] F (machD rs ts) := ev_var ⟨vm, rfl, rm⟩
  have q2 : EvD K (mx K 2) [y0, some (.ref d), y2, y3, y4, some (.str z), some (.int (runR rs 0 (signs z) : Nat)), y7, y8, y9, some vm, y11, y12] F (.tuple ((ts.map intD).map .int)) := (ev_op e10 (ev_int (i := 2)) (rv_ixT (k := 2) rfl)).is (congrArg PyData.tuple (rising_ints h4))
  refine s_if (eb_sameD (K := K) (x := .list [behindD (machD rs ts) (.str z), takenD (machD rs ts) (.str z)]) (showy_lst (fun x hx => by
      simp only [List.mem_cons, List.not_mem_nil, or_false] at hx
      rcases hx with rfl | rfl
      · show (decide (0 ≤ ((runR rs 0 (signs z) : Nat) : Int)) && decide (((runR rs 0 (signs z) : Nat) : Int) < 8)) = true
        rw [decide_eq_true (by omega), decide_eq_true (by omega)]
        rfl
      · rfl) (by show 2 ≤ 100; decide))
      (ev_lst (ea_cons (ev_callKY2 (fun _ _ => rfl) e5 e10 (two_ok fm (fits_z hz) hm hz.1)) (ea_cons (ev_callY (ea_cons e10 (ea_cons e5 ea_nil)) (two_ok fm (fits_z hz) hm hz.1)) ea_nil)) two_small)
      (ev_lst (ea_cons e6 (ea_cons (ev_op e6 q2 (rv_inT mem_int)) ea_nil)) two_small)) S.same (fun z => nomatch z) fun _ F' H' g => k F' H' (S.grow g) g.f
theorem b4_by {vm : V} {rs ts : List PyData} {z : Str} (S : StD F0 H0 d l c F H n) (hm : isWords (machD rs ts) = true) (ht : ts.length ≤ 8) (rm : Dq K F vm (machD rs ts)) (hz : LZ z) (k : ∀ G H', StD F0 H0 d l c G H' n → Same F G → D.nx [y0, some (.ref d), y2, y3, y4, some (.str z), y6, y7, y8, y9, some vm, y11, y12] H') : B4 K CW CT D [y0, some (.ref d), y2, y3, y4, some (.str z), y6, y7, y8, y9, some vm, y11, y12] H := by
  unfold B4
  have fm := (tame_few (tame_words (w0 := "words") (by decide) hm ht) (by decide) (by decide)).1
  obtain ⟨rs', ts', e, h1, h2, h3, h4⟩ := words_are hm
  cases e
  have e5 : EvD K (tVar 5) [y0, some (.ref d), y2, y3, y4, some (.str z), y6, y7, y8, y9, some vm, y11, y12] F (.str z) := ev_var ⟨_, rfl, .str z⟩
  have e10 : EvD K (tVar 10) [y0, some (.ref d), y2, y3, y4, some (.str z), y6, y7, y8, y9, some vm, y11, y12] F (machD rs ts) := ev_var ⟨vm, rfl, rm⟩
  have q1 := ev_lc (K := K) (σ := [y0, some (.ref d), y2, y3, y4, some (.str z), y6, y7, y8, y9, some vm, y11, y12]) (F := F) (te := tCall (p_row_from K) [] C8.E0 (tCons (mx K 1) (tCons (tVar 12) (tCons (tVar 5) tNil)))) (tt := tYes) (g := gName 12) (vs := [12]) (fun _ => true) (fun d => .int (runR rs (intD d).toNat (signs z) : Nat))
    (ew_rng1 (n := (rs.length : Int)) (ea_cons (ev1 (ev_op e10 (ev_int (i := 1)) (rv_ixT (k := 1) rfl)) rc_lenT) ea_nil) ⟨by omega, by omega⟩) (by rw [rgs_len]; exact small1000 (by omega)) fun dd F' hd sF => by
      obtain ⟨j, hj⟩ := List.mem_iff_getElem?.mp hd
      obtain ⟨hj1, rfl⟩ := rgs_get hj
      refine tk_name.imp fun σ2 hσ => ?_
      obtain ⟨v, rfl, rv⟩ := hσ
      refine ⟨rfl, eb_yes, fun _ => ?_⟩
      have ej : (0 + (j : Int)) = ((j : Nat) : Int) := by omega
      have rv' : Dq K F' v (.int ((j : Nat) : Int)) := ej ▸ rv
      exact (ev_call (f := f3 g_row_from) (ea_cons (ev_op (ev_var (i := 10) ⟨vm, rfl, rm.up sF⟩) (ev_int (i := 1)) (rv_ixT (k := 1) rfl)) (ea_cons (ev_var (i := 12) ⟨v, rfl, rv'⟩) (ea_cons (ev_var (i := 5) ⟨_, rfl, .str z⟩) ea_nil))) (row_from_is h1 (by omega) hz.1)).is (by
        show PyData.int _ = .int (runR rs (0 + (j : Int)).toNat (signs z) : Nat)
        rw [ej, Int.toNat_natCast])
  rw [made_map, Int.toNat_natCast] at q1
  refine s_if (eb_sameD (K := K) (x := effD (machD rs ts) (.str z)) (showy_tup (fun x hx => by
      obtain ⟨e, he, rfl⟩ := List.mem_map.mp hx
      obtain ⟨j, hj⟩ := List.mem_iff_getElem?.mp he
      obtain ⟨hj1, rfl⟩ := rgs_get hj
      have hj2 : (intD (.int (0 + (j : Int)))).toNat < rs.length := by
        show (0 + (j : Int)).toNat < rs.length
        have : j < rs.length := hj1
        omega
      have hlt : runR rs (intD (.int (0 + (j : Int)))).toNat (signs z) < rs.length := runR_lt h1 (List.all_eq_true.mp hz.1) hj2
      show (decide (0 ≤ ((runR rs (intD (.int (0 + (j : Int)))).toNat (signs z) : Nat) : Int)) && decide (((runR rs (intD (.int (0 + (j : Int)))).toNat (signs z) : Nat) : Int) < 8)) = true
      rw [decide_eq_true (by omega), decide_eq_true (by omega)]
      rfl) (by rw [List.length_map, rgs_len]; show rs.length ≤ 100; omega))
      (ev_callKY2 (fun _ _ => rfl) e5 e10 (two_ok fm (fits_z hz) hm hz.1)) (ev_tupleL q1)) S.same (fun z => nomatch z) fun _ F' H' g => k F' H' (S.grow g) g.f
theorem b5_by {vp : V} {rp tp : List PyData} {z : Str} (S : StD F0 H0 d l c F H n) (hp : isScribe (penD rp tp) = true) (rpn : Dq K F vp (penD rp tp)) (hz : LZ z) (k : ∀ G H', StD F0 H0 d l c G H' n → Same F G → D.nx [y0, some (.ref d), y2, y3, y4, some (.str z), y6, y7, y8, y9, y10, some vp, y12] H') : B5 K CP CT D [y0, some (.ref d), y2, y3, y4, some (.str z), y6, y7, y8, y9, y10, some vp, y12] H := by
  unfold B5
  have fp := (tame_few (tame_pen (w0 := "scribe") (by decide) hp) (by decide) (by decide)).1
  obtain ⟨rs', ts', e, h1, h2, h3, h4, h5⟩ := scribe_are hp
  cases e
  have e5 : EvD K (tVar 5) [y0, some (.ref d), y2, y3, y4, some (.str z), y6, y7, y8, y9, y10, some vp, y12] F (.str z) := ev_var ⟨_, rfl, .str z⟩
  have e11 : EvD K (tVar 11) [y0, some (.ref d), y2, y3, y4, some (.str z), y6, y7, y8, y9, y10, some vp, y12] F (penD rp tp) := ev_var ⟨vp, rfl, rpn⟩
  refine s_if (eb_sameS (K := K) (x := copyD rp tp 0 z) (copy_show h1 h4 (by omega) h5 hz.1 hz.2) (ev_callKY2 (fun _ _ => rfl) e5 e11 (two_ok fp (fits_z hz) hp hz.1)) (ev_call (f := f2 g_copied) (ea_cons e11 (ea_cons e5 ea_nil)) (end_is (a0 := .str "scribe") (i := 0) h1 h4 h5 (by omega) hz.1 (by have := hz.2; omega)))) S.same (fun z => nomatch z) fun _ F' H' g => k F' H' (S.grow g) g.f
end
end Sx
set_option Elab.async false
set_option linter.all false
set_option maxRecDepth 100000
set_option maxHeartbeats 4000000
set_option exponentiation.threshold 3000
namespace Sx
open PySem PySem.Spec PyProof.Rows L2 LamX
open C8 (Cal pe_c pe_gc)
theorem noT_idem (F : Hp) : noT (noT F) = noT F := by
  funext b
  show (match noT F b with | some (.tbl _) => none | o => o) = noT F b
  cases h : noT F b with
  | none => rfl
  | some o =>
    obtain ⟨_, h2⟩ := noT_is h
    cases o <;> first | rfl | exact absurd rfl (h2 _)
def oddE (e : PyData) : Prop := fitsA e = true ∧ isText e = false
def noneE (e : PyData) : Prop := fitsA e = true ∧ isWords e = false ∧ isScribe e = false
theorem text_app {z u : Str} (h : (signs u).all isAbc = false) : isText (.str (z ++ u)) = false := by
  show (signs (z ++ u)).all isAbc = false
  rw [signs_app, List.all_append, h, Bool.and_false]
section
variable {K : PySem.W.Frag} {F F0 H0 H : Hp} {d l c CW CT CP CS P0 fr ft fe : Addr} {q : Str} {n : Nat} {D : Ends} {σ : L2.St} {y0 y2 y3 y4 y5 y6 y7 y8 y9 y10 y11 y12 : Option V}
def C1 (K : PySem.W.Frag) : TS := tAsg (tCall (spPick K) [] C8.E0 (tCons (tVar 1) (tCons (tLst (tCons (tC .non) (tCons (tC (.int 5)) (tCons (tC (.str "d")) (tCons (tC (.str "A")) (tCons (tOp rAddS (tVar 5) (tC (.str " "))) (tCons (tTup (tCons (tVar 5) tNil)) (tCons (tLst (tCons (tVar 5) tNil)) (tCons (tOp rAddS (tVar 5) (tC (.str "abz"))) tNil))))))))) tNil))) (gName 7)
theorem c1_by {z : Str} (S : StD F0 H0 d l c F H n) (hn : n + 10 ≤ 2 ^ 40) (hz : LZ z) (k : ∀ v e G H', oddE e → Dq K G v e → StD F0 H0 d l c G H' (n + 10) → Same F G → D.nx [y0, some (.ref d), y2, y3, y4, some (.str z), y6, some v, y8, y9, y10, y11, y12] H') : C1 K D [y0, some (.ref d), y2, y3, y4, some (.str z), y6, y7, y8, y9, y10, y11, y12] H := by
  unfold C1
  have hl := hz.2
  have hbig := line_big
  have e5 : EvD K (tVar 5) [y0, some (.ref d), y2, y3, y4, some (.str z), y6, y7, y8, y9, y10, y11, y12] F (.str z) := ev_var ⟨_, rfl, .str z⟩
  have l1 : (" " : Str).length = 1 := by decide
  have l3 : ("abz" : Str).length = 3 := by decide
  have h := er_pickL (K := K) (d := d) (l := l) (c := c) (i := 1) (F := F) (σ := [y0, some (.ref d), y2, y3, y4, some (.str z), y6, y7, y8, y9, y10, y11, y12]) rfl (ev_lst (ea_cons ev_non (ea_cons (ev_int (i := 5)) (ea_cons (ev_str (x := "d")) (ea_cons (ev_str (x := "A")) (ea_cons (ev_op e5 (ev_str (x := " ")) (rv_addS (x := z) (y := " ") (by omega))) (ea_cons (ev_tup (ea_cons e5 ea_nil) (by show 1 ≤ _; omega)) (ea_cons (ev_lst (ea_cons e5 ea_nil) (by show 1 ≤ _; omega)) (ea_cons (ev_op e5 (ev_str (x := "abz")) (rv_addS (x := z) (y := "abz") (by omega))) ea_nil)))))))) (by show 8 ≤ _; omega)) (by show 1 ≤ 8; decide) (by show 8 ≤ 1000; decide)
  refine s_setR (K := K) (B := 10) (E := oddE) ((h.imp fun e he => ?_).more (by decide)) S hn k
  simp only [List.mem_cons, List.not_mem_nil, or_false] at he
  rcases he with rfl | rfl | rfl | rfl | rfl | rfl | rfl | rfl
  · exact ⟨rfl, rfl⟩
  · exact ⟨rfl, rfl⟩
  · exact ⟨by decide +kernel, by decide +kernel⟩
  · exact ⟨by decide +kernel, by decide +kernel⟩
  · exact ⟨fitsA_iff.mpr (by simp only [weight]; rw [cat_len, l1]; omega), text_app (by decide +kernel)⟩
  · exact ⟨fitsA_iff.mpr (by simp only [weight, weights]; omega), rfl⟩
  · exact ⟨fitsA_iff.mpr (by simp only [weight, weights]; omega), rfl⟩
  · exact ⟨fitsA_iff.mpr (by simp only [weight]; rw [cat_len, l3]; omega), text_app (by decide +kernel)⟩
def C2 (K : PySem.W.Frag) : TS := tAsg (tCall (spPick K) [] C8.E0 (tCons (tVar 1) (tCons (tLst (tCons (tC .non) (tCons (tC (.int 5)) (tCons (tTup tNil) (tCons (tTup (tCons (tC (.str "words")) (tCons (tTup tNil) (tCons (tTup tNil) tNil)))) (tCons (tTup (tCons (tC (.str "words")) (tCons (tTup (tCons (tTup (tCons (tC (.int 0)) (tCons (tC (.int 0)) tNil))) tNil)) (tCons (tTup tNil) tNil)))) (tCons (tCB (rListOf K) (tCons (tVar 10) tNil)) (tCons (tSl (rSlA K) (tVar 10) tNoPart (tPart (tC (.int 2)))) tNil)))))))) tNil))) (gName 8)
theorem c2_by {vm : V} {rs ts : List PyData} (S : StD F0 H0 d l c F H n) (hn : n + 10 ≤ 2 ^ 40) (hm : isWords (machD rs ts) = true) (ht : ts.length ≤ 8) (rm : Dq K F vm (machD rs ts)) (k : ∀ v e G H', noneE e → Dq K G v e → StD F0 H0 d l c G H' (n + 10) → Same F G → D.nx [y0, some (.ref d), y2, y3, y4, y5, y6, y7, some v, y9, some vm, y11, y12] H') : C2 K D [y0, some (.ref d), y2, y3, y4, y5, y6, y7, y8, y9, some vm, y11, y12] H := by
  unfold C2
  have hbig := line_big
  have tw := (tame_words (w0 := "words") (by decide) hm ht).w
  have e10 : EvD K (tVar 10) [y0, some (.ref d), y2, y3, y4, y5, y6, y7, y8, y9, some vm, y11, y12] F (machD rs ts) := ev_var ⟨vm, rfl, rm⟩
  have cut : cutD [PyData.str "words", .tuple rs, .tuple ts] none (some 2) = [PyData.str "words", .tuple rs] := by
    rw [show (2 : Int) = ((2 : Nat) : Int) from rfl, cut_to]
    rfl
  have h := er_pickL (K := K) (d := d) (l := l) (c := c) (i := 1) (F := F) (σ := [y0, some (.ref d), y2, y3, y4, y5, y6, y7, y8, y9, some vm, y11, y12]) rfl (ev_lst (ea_cons ev_non (ea_cons (ev_int (i := 5)) (ea_cons (ev_tup ea_nil (Nat.zero_le _)) (ea_cons (ev_tup (ea_cons (ev_str (x := "words")) (ea_cons (ev_tup ea_nil (Nat.zero_le _)) (ea_cons (ev_tup ea_nil (Nat.zero_le _)) ea_nil))) (by show 3 ≤ _; omega)) (ea_cons (ev_tup (ea_cons (ev_str (x := "words")) (ea_cons (ev_tup (ea_cons (ev_tup (ea_cons (ev_int (i := 0)) (ea_cons (ev_int (i := 0)) ea_nil)) two_small) ea_nil) (by show 1 ≤ _; omega)) (ea_cons (ev_tup ea_nil (Nat.zero_le _)) ea_nil))) (by show 3 ≤ _; omega)) (ea_cons (ev1 e10 rc_listT) (ea_cons ((ev_sl e10 eo_none (eo_some (i := 2) ev_int) rs_tup).is (congrArg PyData.tuple cut)) ea_nil))))))) (by show 7 ≤ _; omega)) (by show 1 ≤ 7; decide) (by show 7 ≤ 1000; decide)
  refine s_setR (K := K) (B := 10) (E := noneE) ((h.imp fun e he => ?_).more (by decide)) S hn k
  simp only [List.mem_cons, List.not_mem_nil, or_false] at he
  rcases he with rfl | rfl | rfl | rfl | rfl | rfl | rfl
  · exact ⟨rfl, rfl, rfl⟩
  · exact ⟨rfl, rfl, rfl⟩
  · exact ⟨rfl, rfl, rfl⟩
  · exact ⟨by decide +kernel, by decide +kernel, by decide +kernel⟩
  · exact ⟨by decide +kernel, by decide +kernel, by decide +kernel⟩
  · exact ⟨fitsA_iff.mpr (by simp only [weight, weights] at tw ⊢; omega), rfl, rfl⟩
  · exact ⟨fitsA_iff.mpr (by simp only [weight, weights] at tw ⊢; omega), rfl, rfl⟩
/-! ### what must be refused -/
def askR (K : PySem.W.Frag) (CW CT fr ft fe : Addr) (f : Addr) (sp : Sp) : Prop := (f = fr ∧ sp = p_row_behind K CW CT) ∨ (f = ft ∧ sp = p_takes_text K CW CT) ∨ (f = fe ∧ sp = p_effect K CW CT)
/-- why (a, t) is refused with an error of C -/
def whyT (b : PyData → Bool) (CW CT : Addr) (a t : PyData) (C : Addr) : Prop := fitsA a = true ∧ fitsA t = true ∧ ((b a = false ∧ C = CW) ∨ (b a = true ∧ isText t = false ∧ C = CT))
theorem two_why {b : PyData → Bool} {e : PyData → PyData → PyData} {a t : PyData} {C : Addr} {x y : V} {E : XK} {Q : VK} (h : whyT b CW CT a t C) (s : Same F H) (rx : Dq K F x a) (ry : Dq K F y t) (he : ErrD E C H) : spY K (x2 (g_two b CW CT e)) [x, y] H Q E := by
  obtain ⟨h1, h2, h3⟩ := h
  refine ⟨F, [a, t], .error C, s, .cons rx (.cons ry .nil), ?_, fun d hd => (nomatch hd), fun C' hC => ?_⟩
  · rcases h3 with ⟨h3, rfl⟩ | ⟨h3, h4, rfl⟩
    · exact two_no1 h1 h2 h3
    · exact two_no2 h1 h2 h3 h4
  · cases hC
    exact he
theorem ask_why {f : Addr} (hf : f = fr ∨ f = ft ∨ f = fe) : ∃ sp, askR K CW CT fr ft fe f sp ∧ ∀ (F H : Hp) (x y : V) (a t : PyData) (C : Addr) (Q : VK) (E : XK), whyT isWords CW CT a t C → Same F H → Dq K F x a → Dq K F y t → ErrD E C H → sp [x, y] H Q E := by
  rcases hf with h | h | h
  · exact ⟨_, .inl ⟨h, rfl⟩, fun F H x y a t C Q E hw s rx ry he => two_why hw s rx ry he⟩
  · exact ⟨_, .inr (.inl ⟨h, rfl⟩), fun F H x y a t C Q E hw s rx ry he => two_why hw s rx ry he⟩
  · exact ⟨_, .inr (.inr ⟨h, rfl⟩), fun F H x y a t C Q E hw s rx ry he => two_why hw s rx ry he⟩
theorem caughtX {CN : Addr} {T : List (Addr × Str)} {t : XK → TE} (hsub : PySem.W.exmOne K (.ref CN) (.ref CS) = some true) (hT : Tabs T H) (s : Same (noT F) H) (Dr : DrawAt H d l c n)
    (ht : ∀ (E : XK) (H1 : Hp) (Q : VK), Same (noT F) H1 → ErrD E CN H1 → t E σ H1 Q)
    (k : ∀ H', Same (noT F) H' → Tabs T H' → DrawAt H' d l c n → D.nx σ H') :
    tIfS (tNot (tB (tCB (rIsX CN) (tCons (tLam T (TTc K CS) t) (tCons (tC (.ref CN)) tNil))))) (tRet (tC (.bl false))) tNext D σ H := by
  refine ⟨hT, fun H1 eN T1 => ?_⟩
  have s1 : Same (noT F) H1 := by
    have := noT_ext s eN
    rw [noT_idem] at this
    exact this
  refine ht _ H1 _ s1 fun dd H2 s2 hdd => ⟨hsub, fun x hx => ⟨x, dd, rfl, upd_same, fun dx hd => ?_, true, rfl, ?_⟩⟩
  · obtain ⟨fs, hfs⟩ := hdd dx hd
    refine ⟨fs, ?_⟩
    rw [upd_ne (ne_of_none hfs hx)]
    exact hfs
  · have s3 : Same H1 (upd H2 x (ExT (.ref CN) dd x)) := s2.trans (same_upd hx)
    exact k _ (s1.trans s3) (tabs_same T1 s3) ((Dr.ext eN).same s3)
/-- for x in [refs]: .. -/
theorem for_refs {p : Addr} {vs : List V} {g : TG} {tS : TS} (I : Nat → L2.St → Hp → Prop) (h0 : I 0 σ H) (hp : ∀ i σ' H', I i σ' H' → H' p = some (.lst vs)) (hs : ∀ i v σ' H', vs[i]? = some v → I i σ' H' → g v σ' H' fun σ2 H2 => tS { D with nx := I (i + 1), ct := I (i + 1), bk := D.nx } σ2 H2) (hd : ∀ σ' H', I vs.length σ' H' → D.nx σ' H') : tFor (iList K (tC (.ref p))) g tS D σ H := by
  refine ⟨p, rfl, ⟨vs, .inl (.inl (hp 0 σ H h0))⟩, fun i m σ' H' => m = vs.length - i ∧ i ≤ vs.length ∧ I i σ' H', ⟨vs.length, by simp, Nat.zero_le _, h0⟩, fun i m σ' H' hW => ?_⟩
  obtain ⟨rfl, hi, hI⟩ := hW
  have e1 := hp i σ' H' hI
  by_cases hlt : i < vs.length
  · have hv : vs[i]? = some vs[i] := List.getElem?_eq_getElem hlt
    refine .inr ⟨⟨vs, vs[i], .inl (.inl e1), hv⟩, I (i + 1), fun σ3 H3 h3 => ⟨vs.length - (i + 1), by omega, rfl, hlt, h3⟩, fun x H3 hy => ?_⟩
    obtain ⟨rfl, hy⟩ := hy
    have e := Option.some.inj ((hy vs (.inl (.inl e1))).symm.trans hv)
    subst e
    exact hs i _ σ' _ hv hI
  · have ei : i = vs.length := by omega
    subst ei
    exact .inl ⟨⟨vs, .inl (.inl e1), Nat.le_refl _⟩, hd σ' H' hI⟩
def askT (K : PySem.W.Frag) (CS CW CT P0 fr ft fe : Addr) (q : Str) (i : Nat) (C : Addr) : TS := tIfS (tNot (tB (tCB (rIsX C) (tCons (tLam [(P0, q)] (TTc K CS) fun E => tCallV3 9 (askR K CW CT fr ft fe) E (tCons (tVar i) (tCons (tVar 7) tNil))) (tCons (tC (.ref C)) tNil))))) (tRet (tC (.bl false))) tNext
def C3 (K : PySem.W.Frag) (CS CW CT P0 fr ft fe : Addr) (q : Str) : TS := tFor (iList K (tLst (tCons (tC (.ref fr)) (tCons (tC (.ref ft)) (tCons (tC (.ref fe)) tNil))))) (gName 9) (tSeq (askT K CS CW CT P0 fr ft fe q 10 CT) (askT K CS CW CT P0 fr ft fe q 8 CW))
theorem c3_by {vm v7 v8 : V} {rs ts : List PyData} {e7 e8 : PyData} (hsT : PySem.W.exmOne K (.ref CT) (.ref CS) = some true) (hsW : PySem.W.exmOne K (.ref CW) (.ref CS) = some true) (s : Same F H) (T0 : Tabs [(P0, q)] H) (D0 : DrawAt H d l c n)
    (hm : isWords (machD rs ts) = true) (ht : ts.length ≤ 8) (rm : Dq K F vm (machD rs ts)) (h7 : oddE e7) (r7 : Dq K F v7 e7) (h8 : noneE e8) (r8 : Dq K F v8 e8)
    (k : ∀ z9 G H', Same F G → Same (noT G) H' → Tabs [(P0, q)] H' → DrawAt H' d l c n → D.nx [y0, some (.ref d), y2, y3, y4, y5, y6, some v7, some v8, z9, some vm, y11, y12] H') :
    C3 K CS CW CT P0 fr ft fe q D [y0, some (.ref d), y2, y3, y4, y5, y6, some v7, some v8, y9, some vm, y11, y12] H := by
  unfold C3
  have fm := (tame_few (tame_words (w0 := "words") (by decide) hm ht) (by decide) (by decide)).1
  refine ⟨by have := line_big; show 3 ≤ _; omega, fun p hp => ?_⟩
  have sp : Same F (upd F p (.lst [.ref fr, .ref ft, .ref fe])) := same_upd (s.free hp)
  have g1 := Grow.known (o := HO.lst [.ref fr, .ref ft, .ref fe]) s hp
  have T1 := tabs_same T0 g1.h
  have D1 := D0.same g1.h
  have rm' := rm.up sp
  have r7' := r7.up sp
  have r8' := r8.up sp
  have ep : noT (upd F p (.lst [.ref fr, .ref ft, .ref fe])) p = some (.lst [.ref fr, .ref ft, .ref fe]) := noT_of upd_same fun ps z => by cases z
  have s1 : Same (noT (upd F p (.lst [.ref fr, .ref ft, .ref fe]))) (upd H p (.lst [.ref fr, .ref ft, .ref fe])) := noT_same g1.i
  have fin := fun z9 H' => k z9 (upd F p (.lst [.ref fr, .ref ft, .ref fe])) H' sp
  generalize upd F p (.lst [.ref fr, .ref ft, .ref fe]) = G at rm' r7' r8' ep s1 fin
  generalize upd H p (.lst [.ref fr, .ref ft, .ref fe]) = H1 at T1 D1 s1
  show tFor (iList K (tC (.ref p))) _ _ _ _ H1
  refine for_refs (K := K) (p := p) (vs := [.ref fr, .ref ft, .ref fe]) (fun i σ' H' => (∃ z9, σ' = [y0, some (.ref d), y2, y3, y4, y5, y6, some v7, some v8, z9, some vm, y11, y12]) ∧ Same (noT G) H' ∧ Tabs [(P0, q)] H' ∧ DrawAt H' d l c n) ⟨⟨_, rfl⟩, s1, T1, D1⟩ (fun i σ' H' hI => hI.2.1 _ _ ep) (fun i v σ' H' hv hI => ?_) fun σ' H' hI => ?_
  · obtain ⟨⟨z9, rfl⟩, sI, TI, DI⟩ := hI
    obtain ⟨f, rfl, hf⟩ : ∃ f, v = .ref f ∧ (f = fr ∨ f = ft ∨ f = fe) := by
      match i, hv with
      | 0, hv => cases hv; exact ⟨_, rfl, .inl rfl⟩
      | 1, hv => cases hv; exact ⟨_, rfl, .inr (.inl rfl)⟩
      | 2, hv => cases hv; exact ⟨_, rfl, .inr (.inr rfl)⟩
    obtain ⟨sp', hR, hsp⟩ := ask_why (K := K) (CW := CW) (CT := CT) (fr := fr) (ft := ft) (fe := fe) hf
    show tSeq (askT K CS CW CT P0 fr ft fe q 10 CT) (askT K CS CW CT P0 fr ft fe q 8 CW) _ [y0, some (.ref d), y2, y3, y4, y5, y6, some v7, some v8, some (.ref f), some vm, y11, y12] H'
    refine caughtX (K := K) (F := G) hsT TI sI DI (fun E H2 Q s2 hE => ?_) fun H2 s2 T2 D2 => ?_
    · refine ⟨f, sp', hR, rfl, vm, rfl, v7, rfl, ?_⟩
      exact hsp (noT G) H2 vm v7 _ e7 CT Q E ⟨fm, h7.1, .inr ⟨hm, h7.2, rfl⟩⟩ s2 (dp_noT _ _ rm') (dp_noT _ _ r7') hE
    · refine caughtX (K := K) (F := G) hsW T2 s2 D2 (fun E H3 Q s3 hE => ?_) fun H3 s3 T3 D3 => ⟨⟨_, rfl⟩, s3, T3, D3⟩
      refine ⟨f, sp', hR, rfl, v8, rfl, v7, rfl, ?_⟩
      exact hsp (noT G) H3 v8 v7 e8 e7 CW Q E ⟨h8.1, h7.1, .inl ⟨h8.2.1, rfl⟩⟩ s3 (dp_noT _ _ r8') (dp_noT _ _ r7') hE
  · obtain ⟨⟨z9, rfl⟩, sI, TI, DI⟩ := hI
    exact fin z9 H' sI TI DI
def C4 (K : PySem.W.Frag) (CS CP CT P0 : Addr) (q : Str) (i : Nat) (C : Addr) : TS := tIfS (tNot (tB (tCB (rIsX C) (tCons (tLam [(P0, q)] (TTc K CS) fun E => tCall (p_scribed K CP CT) [] E (tCons (tVar i) (tCons (tVar 7) tNil))) (tCons (tC (.ref C)) tNil))))) (tRet (tC (.bl false))) tNext
theorem c4_by {i : Nat} {C : Addr} {v v7 : V} {a e7 : PyData} (hs : PySem.W.exmOne K (.ref C) (.ref CS) = some true) (s : Same (noT F) H) (T0 : Tabs [(P0, q)] H) (D0 : DrawAt H d l c n) (hi : σ[i]? = some (some v)) (h7 : σ[7]? = some (some v7)) (r : Dq K (noT F) v a) (r7 : Dq K (noT F) v7 e7) (hw : whyT isScribe CP CT a e7 C)
    (k : ∀ H', Same (noT F) H' → Tabs [(P0, q)] H' → DrawAt H' d l c n → D.nx σ H') : C4 K CS CP CT P0 q i C D σ H := by
  unfold C4
  refine caughtX (K := K) (F := F) hs T0 s D0 (fun E H2 Q s2 hE => ?_) k
  exact ⟨v, hi, v7, h7, two_why hw s2 r r7 hE⟩
/-! ### a turn -/
def turnT (K : PySem.W.Frag) (CS CW CT CP P0 fr ft fe : Addr) (q : Str) : TS := tSeq (A1 K) (tSeq (A2 K) (tSeq (A3 K) (tSeq (B1 K) (tSeq (B2 K) (tSeq (B3 K CW CT) (tSeq (B4 K CW CT) (tSeq (B5 K CP CT) (tSeq (C1 K) (tSeq (C2 K) (tSeq (C3 K CS CW CT P0 fr ft fe q) (tSeq (C4 K CS CP CT P0 q 11 CT) (C4 K CS CP CT P0 q 8 CP))))))))))))
theorem turn_by (hsT : PySem.W.exmOne K (.ref CT) (.ref CS) = some true) (hsW : PySem.W.exmOne K (.ref CW) (.ref CS) = some true) (hsP : PySem.W.exmOne K (.ref CP) (.ref CS) = some true) (T0 : Tabs [(P0, q)] H) (D0 : DrawAt H d l c n) (hn : n + 1000 ≤ 2 ^ 40)
    (k : ∀ z3 z4 z5 z6 z7 z8 z9 z10 z11 z12 H', Tabs [(P0, q)] H' → DrawAt H' d l c (n + 1000) → D.nx [y0, some (.ref d), y2, z3, z4, z5, z6, z7, z8, z9, z10, z11, z12] H') :
    turnT K CS CW CT CP P0 fr ft fe q D [y0, some (.ref d), y2, y3, y4, y5, y6, y7, y8, y9, y10, y11, y12] H := by
  have S0 : StD (fun _ => none) H d l c (fun _ => none) H n := stD_start (fun b o e => by cases e) rfl rfl D0
  unfold turnT
  refine a1_by S0 (by omega) fun vm vp rs ts rp tp G1 H1 hm ht hp rm rpn S1 s1 => ?_
  refine a2_by S1 (by omega) hm ht hp rm rpn fun p vs b1 b2 G2 H2 ep rvs t1 t2 S2 s2 => ?_
  refine a3_by S2 (by omega) hm ht hp (rm.up s2) (rpn.up s2) ep rvs t1 t2 fun z4 G3 H3 S3 s3 => ?_
  refine b1_by S3 (by omega) fun z G4 H4 hz S4 s4 => ?_
  have rm4 := ((rm.up s2).up s3).up s4
  have rp4 := ((rpn.up s2).up s3).up s4
  refine b2_by S4 hm rm4 hz fun G5 H5 S5 s5 => ?_
  refine b3_by S5 hm ht (rm4.up s5) hz fun G6 H6 S6 s6 => ?_
  refine b4_by S6 hm ht ((rm4.up s5).up s6) hz fun G7 H7 S7 s7 => ?_
  have rm7 := ((rm4.up s5).up s6).up s7
  have rp7 := ((rp4.up s5).up s6).up s7
  refine b5_by S7 hp rp7 hz fun G8 H8 S8 s8 => ?_
  refine c1_by S8 (by omega) hz fun v7 e7 G9 H9 h7 r7 S9 s9 => ?_
  have rm9 := (rm7.up s8).up s9
  have rp9 := (rp7.up s8).up s9
  refine c2_by S9 (by omega) hm ht rm9 fun v8 e8 GA HA h8 r8 SA sA => ?_
  have TA := tabs_keeps T0 D0 SA.kp
  have fp := (tame_few (tame_pen (w0 := "scribe") (by decide) hp) (by decide) (by decide)).1
  refine c3_by hsT hsW SA.same TA SA.dr hm ht (rm9.up sA) h7 (r7.up sA) h8 r8 fun z9 GB HB sB sB' TB DB => ?_
  have rpB := dp_noT _ _ ((rp9.up sA).up sB)
  have r7B := dp_noT _ _ ((r7.up sA).up sB)
  have r8B := dp_noT _ _ (r8.up sB)
  refine c4_by hsT sB' TB DB rfl rfl rpB r7B ⟨fp, h7.1, .inr ⟨hp, h7.2, rfl⟩⟩ fun HC sC TC DC => ?_
  refine c4_by hsP sC TC DC rfl rfl r8B r7B ⟨h8.1, h7.1, .inl ⟨h8.2.2, rfl⟩⟩ fun HD sD TD DD => ?_
  exact k _ _ _ _ _ _ _ _ _ _ HD TD (DD.more (by omega))
end
end Sx
set_option Elab.async false
set_option linter.all false
set_option maxRecDepth 100000
set_option maxHeartbeats 4000000
set_option exponentiation.threshold 3000
namespace Sx
open PySem PySem.Spec PyProof.Rows L2 LamX
open C8 (Cal pe_c pe_gc)
/-! ### law -/
abbrev s_law : Stmt := top 56
theorem sc_law : FnScope ["script", "draw", "turn", "some", "thing", "letters", "row", "odd", "none", "ask", "machine", "pen", "one"] ["script"] (defScope s_law) := ⟨rfl, rfl, rfl, by decide +kernel, rfl, by decide +kernel, by decide +kernel⟩
def qL : Str := (envOfC "law" (defScope s_law) 0 0 .none).qual ++ "<lambda>"
def kw1G : List Value → List Value → List Value := fun us ws => match us, ws with
  | [], [a] => [a]
  | _, _ => []
def kw2G : List Value → List Value → List Value := fun us ws => match us, ws with
  | [], [a, b] => [b, a]
  | _, _ => []
theorem kb_two {K : PySem.W.Frag} {x p1 p2 : Str} {st : Stmt} {f : Addr} {fd : FuncData} (F : Fun K x x st f fd) (hb : ∀ (s : Shared) (a b : Value), bindArgs fd ⟨[], [(p2, a), (p1, b)]⟩ = pure ([(p1, b), (p2, a)] : List (Str × Value))) : KBinds K fd [p1, p2] [p2, p1] kw2G kw2V := by
  refine ⟨fun s us ws _ hl => ?_, fun r1 r2 => ?_⟩
  · match us, ws, hl with
    | [], [a, b], _ => exact .of_eq (hb s a b)
  · match r1, r2 with
    | .nil, .nil => exact .nil
    | .nil, .cons _ .nil => exact .nil
    | .nil, .cons a (.cons b .nil) => exact .cons b (.cons a .nil)
    | .nil, .cons _ (.cons _ (.cons _ _)) => exact .nil
    | .cons _ _, .nil => exact .nil
    | .cons _ _, .cons _ _ => exact .nil
theorem kb_one {K : PySem.W.Frag} {x : Str} {st : Stmt} {f : Addr} {fd : FuncData} (F : Fun K x x st f fd) (hb : ∀ (s : Shared) (u : Value), bindArgs fd ⟨[], [(("thing" : Str), u)]⟩ = pure ([(("thing" : Str), u)] : List (Str × Value))) : KBinds K fd ["thing"] ["thing"] kw1G kw1V := by
  refine ⟨fun s us ws _ hl => ?_, fun r1 r2 => ?_⟩
  · match us, ws, hl with
    | [], [a], _ => exact .of_eq (hb s a)
  · match r1, r2 with
    | .nil, .nil => exact .nil
    | .nil, .cons a .nil => exact .cons a .nil
    | .nil, .cons _ (.cons _ _) => exact .nil
    | .cons _ _, .nil => exact .nil
    | .cons _ _, .cons _ _ => exact .nil
section
variable {P : Program} {w : World} {K : PySem.W.Frag} {mg : Str → Option Value} {base : Heap} {f fp fr ft fe fs g c0 P0 CS CW CT CP fI : Addr} {fd fdp fdr fdt fde fds : FuncData}
structure LawCs (P : Program) (w : World) (K : PySem.W.Frag) (mg : Str → Option Value) (base : Heap) (c0 P0 f fp fr ft fe fs g CS CW CT CP fI : Addr) (fd fdp fdr fdt fde fds fdg : FuncData) : Prop where
  B : BI mg
  F : Fun K "law" "law" s_law f fd
  hcode : fd.code = .ref c0
  TB : TabB base mg c0 P0
  Fg : Fun K "_law_caught" "_law_caught" s__law_caught g fdg
  mg' : mg "_law_caught" = some (.ref g)
  hCS : mg "WritingError" = some (.ref CS)
  subT : PySem.W.exmOne K (.ref CT) (.ref CS) = some true
  subW : PySem.W.exmOne K (.ref CW) (.ref CS) = some true
  subP : PySem.W.exmOne K (.ref CP) (.ref CS) = some true
  Fp : FnOk P w K mg base CX0 4 fp fdp ["thing"] (p_is_scribe K)
  mp : mg "is_scribe" = some (.ref fp)
  kp : PySem.W.keepIn K (.ref fp) = true
  kbp : KBinds K fdp ["thing"] ["thing"] kw1G kw1V
  Fr : FnOk P w K mg base (L2.CX P w) 6 fr fdr ["words", "text"] (p_row_behind K CW CT)
  mr : mg "row_behind" = some (.ref fr)
  kr : PySem.W.keepIn K (.ref fr) = true
  kbr : KBinds K fdr ["words", "text"] ["text", "words"] kw2G kw2V
  br : L2.Binds K fdr ["words", "text"] []
  Ft : FnOk P w K mg base (L2.CX P w) 7 ft fdt ["words", "text"] (p_takes_text K CW CT)
  mt : mg "takes_text" = some (.ref ft)
  kt : PySem.W.keepIn K (.ref ft) = true
  bt : L2.Binds K fdt ["words", "text"] []
  Fe : FnOk P w K mg base (L2.CX P w) 6 fe fde ["words", "text"] (p_effect K CW CT)
  me : mg "effect" = some (.ref fe)
  ke : PySem.W.keepIn K (.ref fe) = true
  kbe : KBinds K fde ["words", "text"] ["text", "words"] kw2G kw2V
  be : L2.Binds K fde ["words", "text"] []
  Fs : FnOk P w K mg base (L2.CX P w) 6 fs fds ["scribe", "text"] (p_scribed K CP CT)
  ms : mg "scribed" = some (.ref fs)
  ks : PySem.W.keepIn K (.ref fs) = true
  kbs : KBinds K fds ["scribe", "text"] ["text", "scribe"] kw2G kw2V
  U : InitC P K mg CT fI
  X_BadWords : Rse K mg "BadWords" CW
  X_BadScribe : Rse K mg "BadScribe" CP
  CT0 : ExcC K CT
  CW0 : ExcC K CW
  CP0 : ExcC K CP
  c_is_words : Cal P w K mg base 4 "is_words" (p_is_words K) []
  c_takes_text : CalX P w K mg base 7 "takes_text" ["words", "text"] (p_takes_text K CW CT)
  c_scribed : CalX P w K mg base 6 "scribed" ["scribe", "text"] (p_scribed K CP CT)
  c__law_begun : Cal P w K mg base 1 "_law_begun" (spBegun K) []
  c__law_pick : Cal P w K mg base 3 "_law_pick" (spPick K) []
  c__law_machine : Cal P w K mg base 4 "_law_machine" (p__law_machine K) []
  c__law_pen : Cal P w K mg base 5 "_law_pen" (p__law_pen K) []
  c__law_bent : Cal P w K mg base 42 "_law_bent" (spBent K) []
  c__law_string : Cal P w K mg base 4 "_law_string" (p__law_string K) []
  c__law_run : Cal P w K mg base 1 "_law_run" (p_row_from K) []
  c__law_copied : Cal P w K mg base 2 "_law_copied" (p__law_copied K) []
  c__law_is_machine : Cal P w K mg base 2 "_law_is_machine" (p__law_is_machine K) []
  c__law_is_pen : Cal P w K mg base 2 "_law_is_pen" (p_is_scribe K) []
abbrev lawN : List Str := ["script", "draw", "turn", "some", "thing", "letters", "row", "odd", "none", "ask", "machine", "pen", "one"]
/-- the law's run, from its reading -/
theorem law_by {fdg : FuncData} (L : LawCs P w K mg base c0 P0 f fp fr ft fe fs g CS CW CT CP fI fd fdp fdr fdt fde fds fdg) (hroom : Room 60 callerA) {t : Shared} {H : Hp} {a : Addr} {ns : List Int} (hl : ns.length ≤ 63) (hs : SqL K H a (ns.map V.int)) (hP : H P0 = some (.tbl #[])) (e0 : Env0 P w K mg base callerA [] t H) :
    codeAny (model P w) callerA (.call (.ref f) ⟨[.ref a], []⟩) (CR CX0 [] P w H t (fun v _ => v = .bl true) (fun _ _ _ => False)) t := by
  obtain ⟨B, F, hcode, TB, Fg, mC, hCS, hsT, hsW, hsP, Fp, mp, kp, kbp, Fr, mr, kr, kbr, br, Ft, mt, kt, bt, Fe, me, ke, kbe, be, Fs, ms, ks, kbs, U, X_BadWords, X_BadScribe, CT0, CW0, CP0, c_is_words, c_takes_text, c_scribed, c__law_begun, c__law_pick, c__law_machine, c__law_pen, c__law_bent, c__law_string, c__law_run, c__law_copied, c__law_is_machine, c__law_is_pen⟩ := L
  have c_ask : ∀ f sp, askR K CW CT fr ft fe f sp → AskOk P w K mg base 57 f sp := fun f sp h => by
    rcases h with ⟨rfl, rfl⟩ | ⟨rfl, rfl⟩ | ⟨rfl, rfl⟩
    · exact ⟨6, fdr, _, Fr, by decide, kr, br⟩
    · exact ⟨7, fdt, _, Ft, by decide, kt, bt⟩
    · exact ⟨6, fde, _, Fe, by decide, ke, be⟩
  have kC := Fg.kp
  have bC : L2.Binds K fdg ["work"] [] := Fg.binds fun _ _ _ _ _ _ us hl => match us, hl with | [_], _ => rfl
  obtain ⟨ocg, odg, kVg, docg, pmg, ang, cdvg, ctg, oslg, rfl, lC, cC⟩ := Fg.ex
  have bL : L2.Binds K fd ["script"] [] := F.binds fun _ _ _ _ _ _ us hl => match us, hl with | [_], _ => rfl
  obtain ⟨oc, od, kV, doc, pm, an, cdv, ct, osl, rfl, lk, hcd⟩ := F.ex
  have hcode' : cdv = .ref c0 := hcode
  subst hcode'
  have kIn : K.In t.heap := e0.mod.kin.keeps fun b o e => (e0.bs b o e).1
  have hmT : (P0, qL) ∈ [(P0, qL)] := List.mem_singleton.mpr rfl
  have huT : ∀ p ∈ [(P0, qL)], p.1 = P0 → p.2 = qL := fun p hp _ => by rw [List.mem_singleton.mp hp]
  refine run_ofS (N := lawN) (ps := ["script"]) (us := [.ref a]) (vs := [.ref a]) (k := 59) lk hcd sc_law hroom e0 (bL t [.ref a] kIn rfl) (.cons rfl .nil) rfl fun hr => ?_
  have main : ∃ tt, PSs (cxOf CX0 P w K mg base lawN "law" (defScope s_law) f (.ref c0) callerA [] t H (fun _ _ _ => False)).nox (defBody s_law) tt ∧ tt { nx := fun _ H' => (V.non = .bl true), rt := fun v _ => v = .bl true } (L2.start lawN [.ref a]) H := by
    refine ⟨_, (pss_cons (ps_set (i := 1) sc_law.nd rfl (Or.inl rfl) (pe_c c__law_begun hr (by first | decide | omega) (by rfl) (pa_cons (pv 0) pa_nil)))
        (pss_cons (ps_for PassesOwn.never rfl (pi_range1 (by rfl) B.range (pa_cons (pe_op (op_add) pe_int (pe_callB (call_min2 rfl) (by rfl) B.min (by decide +kernel) (pa_cons (pe_callB (r := rLen0 K) (call_len) (by rfl) B.len (by decide +kernel) (pa_cons (pv 0) pa_nil)) (pa_cons pe_int pa_nil)))) pa_nil)) (pg_name (i := 2) sc_law.nd rfl (Or.inl rfl) (hf := (Or.inr rfl))) (pss_cons (ps_asg (pe_tup (pa_cons (pe_c c__law_machine hr (by first | decide | omega) (by rfl) (pa_cons (pv 1) (pa_cons pe_int pa_nil))) (pa_cons (pe_c c__law_pen hr (by first | decide | omega) (by rfl) (pa_cons (pv 1) (pa_cons pe_int (pa_cons pe_int pa_nil)))) pa_nil))) (pg_tup rfl (pgs_cons (pg_name (i := 10) sc_law.nd rfl (Or.inr rfl) (hf := (Or.inl rfl))) (pgs_cons (pg_name (i := 11) sc_law.nd rfl (Or.inr rfl) (hf := (Or.inl rfl))) pgs_nil))))
        (pss_cons (ps_set (i := 3) sc_law.nd rfl (Or.inl rfl) (pe_lst (pa_cons (pv 10) (pa_cons (pv 11) (pa_cons (pe_c c__law_bent hr (by first | decide | omega) (by rfl) (pa_cons (pv 1) (pa_cons (pv 10) (pa_cons (pe_lst (pa_cons pe_str (pa_cons pe_str pa_nil))) pa_nil)))) (pa_cons (pe_c c__law_bent hr (by first | decide | omega) (by rfl) (pa_cons (pv 1) (pa_cons (pv 11) (pa_cons (pe_lst (pa_cons pe_str (pa_cons pe_str (pa_cons pe_str pa_nil)))) pa_nil)))) pa_nil))))))
        (pss_cons (ps_for PassesOwn.never rfl (pi_list (pe_op op_cat (pv 3) (pe_lst (pa_cons (pe_c c__law_bent hr (by first | decide | omega) (by rfl) (pa_cons (pv 1) (pa_cons (pe_ix (r := rIxL K) ix_list (pv 3) pe_int (fun _ _ => rfl)) (pa_cons (pe_lst (pa_cons pe_str (pa_cons pe_str pa_nil))) pa_nil)))) (pa_cons (pe_op (r := rCatA K) op_catA (pe_tup (pa_cons pe_str pa_nil)) (pe_slice (r := rSlA K) sl_tupA (pv 11) (po_some pe_int) po_none)) (pa_cons (pe_op (r := rCatA K) op_catA (pe_tup (pa_cons pe_str pa_nil)) (pe_slice (r := rSlA K) sl_tupA (pv 10) (po_some pe_int) po_none)) pa_nil)))))) (pg_name (i := 4) sc_law.nd rfl (Or.inl rfl) (hf := (Or.inr rfl))) (pss_one (ps_if (pt_cmpR (op_ne) (pe_callB (call_reprD (by rfl) hr.units) (by rfl) B.repr (by decide +kernel) (pa_cons (pe_lst (pa_cons (pe_c c_is_words hr (by first | decide | omega) (by rfl) (pa_cons (pv 4) pa_nil)) (pa_cons (pe_ckw Fp (hr.mono (by decide)) (by rfl) mp kp kbp pass0 (pk_cons (pv 4) pk_nil)) pa_nil))) pa_nil)) (pe_callB (call_reprD (by rfl) hr.units) (by rfl) B.repr (by decide +kernel) (pa_cons (pe_lst (pa_cons (pe_c c__law_is_machine hr (by first | decide | omega) (by rfl) (pa_cons (pv 4) pa_nil)) (pa_cons (pe_c c__law_is_pen hr (by first | decide | omega) (by rfl) (pa_cons (pv 4) pa_nil)) pa_nil))) pa_nil)) (nomark _)) (pss_one (ps_ret pe_bl)) pss_nil)))
        (pss_cons (ps_set (i := 5) sc_law.nd rfl (Or.inr rfl) (pe_c c__law_string hr (by first | decide | omega) (by rfl) (pa_cons (pv 1) (pa_cons pe_int pa_nil))))
        (pss_cons (ps_set (i := 6) sc_law.nd rfl (Or.inl rfl) (pe_c c__law_run hr (by first | decide | omega) (by rfl) (pa_cons (pe_ix (r := rIxT K) ix_tup (pv 10) pe_int (fun _ _ => rfl)) (pa_cons pe_int (pa_cons (pv 5) pa_nil)))))
        (pss_cons (ps_if (pt_cmpR (op_ne) (pe_callB (call_reprD (by rfl) hr.units) (by rfl) B.repr (by decide +kernel) (pa_cons (pe_lst (pa_cons (pe_ckw Fr (hr.mono (by decide)) (by rfl) mr kr kbr passL (pk_cons (pv 5) (pk_cons (pv 10) pk_nil))) (pa_cons (pe_cx c_takes_text hr (by first | decide | omega) (by rfl) passL (pa_cons (pv 10) (pa_cons (pv 5) pa_nil))) pa_nil))) pa_nil)) (pe_callB (call_reprD (by rfl) hr.units) (by rfl) B.repr (by decide +kernel) (pa_cons (pe_lst (pa_cons (pv 6) (pa_cons (pe_cmpR (r := rIn K false) (op_in_seq) (pv 6) (pe_ix (r := rIxT K) ix_tup (pv 10) pe_int (fun _ _ => rfl)) (by rfl)) pa_nil))) pa_nil)) (nomark _)) (pss_one (ps_ret pe_bl)) pss_nil)
        (pss_cons (ps_if (pt_cmpR (op_ne) (pe_callB (call_reprD (by rfl) hr.units) (by rfl) B.repr (by decide +kernel) (pa_cons (pe_ckw Fe (hr.mono (by decide)) (by rfl) me ke kbe passL (pk_cons (pv 5) (pk_cons (pv 10) pk_nil))) pa_nil)) (pe_callB (call_reprD (by rfl) hr.units) (by rfl) B.repr (by decide +kernel) (pa_cons (pe_tupleOf (by rfl) B.tuple (pe_lc (own := [("one", 12)]) (g := (gName 12)) rfl sc_law.nd (pi_range1 (by rfl) B.range (pa_cons (pe_callB (r := rLen0 K) (call_len) (by rfl) B.len (by decide +kernel) (pa_cons (pe_ix (r := rIxT K) ix_tup (pv 10) pe_int (fun _ _ => rfl)) pa_nil)) pa_nil)) (blkOk_by (own := [("one", 12)]) (N := ["script", "draw", "turn", "some", "thing", "letters", "row", "odd", "none", "ask", "machine", "pen", "one"]) (sc := defScope s_law) (by decide +kernel)) (fun _ _ _ _ _ => (pg_name (i := 12) sc_law.nd rfl (Or.inl rfl) (hf := (Or.inr rfl)))) (fun _ _ _ _ _ => pts_nil) (fun _ _ _ _ _ => (pe_c c__law_run hr (by first | decide | omega) (by rfl) (pa_cons (pe_ix (r := rIxT K) ix_tup (pv 10) pe_int (fun _ _ => rfl)) (pa_cons (pv 12) (pa_cons (pv 5) pa_nil))))))) pa_nil)) (nomark _)) (pss_one (ps_ret pe_bl)) pss_nil)
        (pss_cons (ps_if (pt_cmpR (op_ne) (pe_callB (call_reprS) (by rfl) B.repr (by decide +kernel) (pa_cons (pe_ckw Fs (hr.mono (by decide)) (by rfl) ms ks kbs passL (pk_cons (pv 5) (pk_cons (pv 11) pk_nil))) pa_nil)) (pe_callB (call_reprS) (by rfl) B.repr (by decide +kernel) (pa_cons (pe_c c__law_copied hr (by first | decide | omega) (by rfl) (pa_cons (pv 11) (pa_cons (pv 5) pa_nil))) pa_nil)) (nomark _)) (pss_one (ps_ret pe_bl)) pss_nil)
        (pss_cons (ps_set (i := 7) sc_law.nd rfl (Or.inr rfl) (pe_c c__law_pick hr (by first | decide | omega) (by rfl) (pa_cons (pv 1) (pa_cons (pe_lst (pa_cons pe_non (pa_cons pe_int (pa_cons pe_str (pa_cons pe_str (pa_cons (pe_op op_add_str (pv 5) pe_str) (pa_cons (pe_tup (pa_cons (pv 5) pa_nil)) (pa_cons (pe_lst (pa_cons (pv 5) pa_nil)) (pa_cons (pe_op op_add_str (pv 5) pe_str) pa_nil))))))))) pa_nil))))
        (pss_cons (ps_set (i := 8) sc_law.nd rfl (Or.inr rfl) (pe_c c__law_pick hr (by first | decide | omega) (by rfl) (pa_cons (pv 1) (pa_cons (pe_lst (pa_cons pe_non (pa_cons pe_int (pa_cons (pe_tup pa_nil) (pa_cons (pe_tup (pa_cons pe_str (pa_cons (pe_tup pa_nil) (pa_cons (pe_tup pa_nil) pa_nil)))) (pa_cons (pe_tup (pa_cons pe_str (pa_cons (pe_tup (pa_cons (pe_tup (pa_cons pe_int (pa_cons pe_int pa_nil))) pa_nil)) (pa_cons (pe_tup pa_nil) pa_nil)))) (pa_cons (pe_callTy (r := rListOf K) (call_list_of) (by rfl) B.list_ (by decide +kernel) (pa_cons (pv 10) pa_nil)) (pa_cons (pe_slice (r := rSlA K) sl_tupA (pv 10) po_none (po_some pe_int)) pa_nil)))))))) pa_nil))))
        (pss_cons (ps_for PassesOwn.never rfl (pi_list (pe_lst (pa_cons (pe_glob (v := .ref fr) (by rfl) mr rfl) (pa_cons (pe_glob (v := .ref ft) (by rfl) mt rfl) (pa_cons (pe_glob (v := .ref fe) (by rfl) me rfl) pa_nil))))) (pg_name (i := 9) sc_law.nd rfl (Or.inr rfl) (hf := (Or.inl rfl))) (pss_cons (ps_if (pt_not (pt_val (pe_callB (call_isX CT0) (by rfl) B.isinstance (by decide +kernel) (pa_cons (pe_lamcall (T := [(P0, qL)]) (TT := TTc K CS) (x := "_law_caught") (a := "work") (c := c0) (P := P0) (k := 57) (t := fun E => tCallV3 9 (askR K CW CT fr ft fe) E (tCons (tVar 10) (tCons (tVar 7) tNil))) (by rfl) mC kC lC cC bC sc__law_caught rfl (Or.inl rfl) (caught_gives hCS) TB rfl hmT huT hr (lamS_by (sc := defScope s_law) (by decide +kernel)) rfl (fun _ _ _ _ _ => rfl) (fun A outer s H E f c2 hr2 => pe_cv3 (i := 9) (R := askR K CW CT fr ft fe) c_ask hr2 (by rfl) (Or.inr (Or.inr rfl)) (passes_call (takes_of rfl rfl rfl rfl) (fun _ _ _ _ h => h)) (pa_cons (pv 10) (pa_cons (pv 7) pa_nil)))) (pa_cons (pe_glob (v := .ref CT) (by rfl) U.g rfl) pa_nil))))) (pss_one (ps_ret pe_bl)) pss_nil)
        (pss_one (ps_if (pt_not (pt_val (pe_callB (call_isX CW0) (by rfl) B.isinstance (by decide +kernel) (pa_cons (pe_lamcall (T := [(P0, qL)]) (TT := TTc K CS) (x := "_law_caught") (a := "work") (c := c0) (P := P0) (k := 57) (t := fun E => tCallV3 9 (askR K CW CT fr ft fe) E (tCons (tVar 8) (tCons (tVar 7) tNil))) (by rfl) mC kC lC cC bC sc__law_caught rfl (Or.inl rfl) (caught_gives hCS) TB rfl hmT huT hr (lamS_by (sc := defScope s_law) (by decide +kernel)) rfl (fun _ _ _ _ _ => rfl) (fun A outer s H E f c2 hr2 => pe_cv3 (i := 9) (R := askR K CW CT fr ft fe) c_ask hr2 (by rfl) (Or.inr (Or.inr rfl)) (passes_call (takes_of rfl rfl rfl rfl) (fun _ _ _ _ h => h)) (pa_cons (pv 8) (pa_cons (pv 7) pa_nil)))) (pa_cons (pe_glob (v := .ref CW) (by rfl) X_BadWords.g rfl) pa_nil))))) (pss_one (ps_ret pe_bl)) pss_nil))))
        (pss_cons (ps_if (pt_not (pt_val (pe_callB (call_isX CT0) (by rfl) B.isinstance (by decide +kernel) (pa_cons (pe_lamcall (T := [(P0, qL)]) (TT := TTc K CS) (x := "_law_caught") (a := "work") (c := c0) (P := P0) (k := 57) (t := fun E => tCall (p_scribed K CP CT) [] E (tCons (tVar 11) (tCons (tVar 7) tNil))) (by rfl) mC kC lC cC bC sc__law_caught rfl (Or.inl rfl) (caught_gives hCS) TB rfl hmT huT hr (lamS_by (sc := defScope s_law) (by decide +kernel)) rfl (fun _ _ _ _ _ => rfl) (fun A outer s H E f c2 hr2 => pe_cx c_scribed hr2 (by decide) (by rfl) (passes_call (takes_of rfl rfl rfl rfl) (fun _ _ _ _ h => h)) (pa_cons (pv 11) (pa_cons (pv 7) pa_nil)))) (pa_cons (pe_glob (v := .ref CT) (by rfl) U.g rfl) pa_nil))))) (pss_one (ps_ret pe_bl)) pss_nil)
        (pss_one (ps_if (pt_not (pt_val (pe_callB (call_isX CP0) (by rfl) B.isinstance (by decide +kernel) (pa_cons (pe_lamcall (T := [(P0, qL)]) (TT := TTc K CS) (x := "_law_caught") (a := "work") (c := c0) (P := P0) (k := 57) (t := fun E => tCall (p_scribed K CP CT) [] E (tCons (tVar 8) (tCons (tVar 7) tNil))) (by rfl) mC kC lC cC bC sc__law_caught rfl (Or.inl rfl) (caught_gives hCS) TB rfl hmT huT hr (lamS_by (sc := defScope s_law) (by decide +kernel)) rfl (fun _ _ _ _ _ => rfl) (fun A outer s H E f c2 hr2 => pe_cx c_scribed hr2 (by decide) (by rfl) (passes_call (takes_of rfl rfl rfl rfl) (fun _ _ _ _ h => h)) (pa_cons (pv 8) (pa_cons (pv 7) pa_nil)))) (pa_cons (pe_glob (v := .ref CP) (by rfl) X_BadScribe.g rfl) pa_nil))))) (pss_one (ps_ret pe_bl)) pss_nil)))))))))))))))
        (pss_one (ps_ret pe_bl)))), ?_⟩
    show tSeq (tAsg (tCall (spBegun K) [] C8.E0 (tCons (tVar 0) tNil)) (gName 1)) (tSeq (tFor (iRng1 (tCons (tOp (rI0 fun i j => V.int (i + j)) (tC (V.int 3)) (tCB rMin2 (tCons (tCB (rLen0 K) (tCons (tVar 0) tNil)) (tCons (tC (V.int 6)) tNil)))) tNil)) (gName 2) (turnT K CS CW CT CP P0 fr ft fe qL)) (tRet (tC (.bl true)))) _ _ H
    refine s_asgC ?_
    refine ⟨.ref a, rfl, H, .ref a, ns, Same.refl H, rfl, .lst hs (dps_ofInt ns), small1000 (by omega), fun d l c H1 s1 nd nl nc D1 => ?_⟩
    have T1 : Tabs [(P0, qL)] H1 := tabs_same (fun p hp => by rw [List.mem_singleton.mp hp]; exact TabS.nil hP) s1
    obtain ⟨kk, hkk⟩ : ∃ kk : Int, kk = 3 + (if (6 : Int) < (ns.length : Int) then 6 else (ns.length : Int)) := ⟨_, rfl⟩
    have hk3 : 0 ≤ kk ∧ kk ≤ 9 := by
      rw [hkk]
      split <;> omega
    have evs : EvS K (tCons (tOp (rI0 fun i j => .int (i + j)) (tC (.int 3)) (tCB rMin2 (tCons (tCB (rLen0 K) (tCons (tVar 0) tNil)) (tCons (tC (.int 6)) tNil)))) tNil) [some (.ref a), some (.ref d), none, none, none, none, none, none, none, none, none, none, none] H1 [.int kk] := by
      rw [hkk]
      have q := ev1 (ev_var (K := K) (σ := [some (.ref a), some (.ref d), none, none, none, none, none, none, none, none, none, none, none]) (F := H1) (i := 0) ⟨.ref a, rfl, .lst (s1.seq hs) (dps_ofInt ns)⟩) rc_lenL
      rw [List.length_map] at q
      exact ea_cons (ev_op (ev_int (i := 3)) (ev_cb (ea_cons q (ea_cons (ev_int (i := 6)) ea_nil)) rc_min2) (rv_int (g := fun i j => i + j))) ea_nil
    dsimp only
    show tSeq (tFor _ _ _) _ _ [some (.ref a), some (.ref d), none, none, none, none, none, none, none, none, none, none, none] H1
    refine for_rng (K := K) (F := H1) (kk := kk) evs (Same.refl _) (by omega) (fun i σ' H' => (∃ y2 y3 y4 y5 y6 y7 y8 y9 y10 y11 y12, σ' = [some (.ref a), some (.ref d), y2, y3, y4, y5, y6, y7, y8, y9, y10, y11, y12]) ∧ Tabs [(P0, qL)] H' ∧ DrawAt H' d l c (1000 * i))
      (fun H' s2 => ⟨⟨_, _, _, _, _, _, _, _, _, _, _, rfl⟩, tabs_same T1 s2, D1.same s2⟩) (fun i σ' Hx hlt hW => ?_) (fun σ' H' hW => ?_)
    · obtain ⟨⟨y2, y3, y4, y5, y6, y7, y8, y9, y10, y11, y12, rfl⟩, T0, D0⟩ := hW
      have hi : i < 9 := by omega
      show turnT K CS CW CT CP P0 fr ft fe qL _ [some (.ref a), some (.ref d), some (.int (0 + (i : Int))), y3, y4, y5, y6, y7, y8, y9, y10, y11, y12] Hx
      exact turn_by hsT hsW hsP T0 D0 (by omega) fun z3 z4 z5 z6 z7 z8 z9 z10 z11 z12 H' T' D' => ⟨⟨_, _, _, _, _, _, _, _, _, _, _, rfl⟩, T', D'.more (by omega)⟩
    · exact rfl
  obtain ⟨tt, h1, h2⟩ := main
  exact ⟨tt, h1.nox, h2⟩
end
end Sx
set_option Elab.async false
set_option linter.all false
set_option maxRecDepth 100000
set_option maxHeartbeats 0
/-! the head: what stands behind the module's top -/
namespace Sx
open PySem PySem.Spec PyProof.Rows L2
def d_is_whole : He.FnD := ⟨("is_whole", none), "is_whole", "is_whole", defArgs (top 7), defBody (top 7), defScope (top 7)⟩
def d_is_between : He.FnD := ⟨("is_between", none), "is_between", "is_between", defArgs (top 8), defBody (top 8), defScope (top 8)⟩
def d_is_word : He.FnD := ⟨("is_word", none), "is_word", "is_word", defArgs (top 9), defBody (top 9), defScope (top 9)⟩
def d_is_row : He.FnD := ⟨("is_row", none), "is_row", "is_row", defArgs (top 10), defBody (top 10), defScope (top 10)⟩
def d_is_rising : He.FnD := ⟨("is_rising", none), "is_rising", "is_rising", defArgs (top 11), defBody (top 11), defScope (top 11)⟩
def d_is_rising_below : He.FnD := ⟨("is_rising_below", none), "is_rising_below", "is_rising_below", defArgs (top 12), defBody (top 12), defScope (top 12)⟩
def d_is_text : He.FnD := ⟨("is_text", none), "is_text", "is_text", defArgs (top 14), defBody (top 14), defScope (top 14)⟩
def d_is_words : He.FnD := ⟨("is_words", none), "is_words", "is_words", defArgs (top 17), defBody (top 17), defScope (top 17)⟩
def d__is_row_below : He.FnD := ⟨("_is_row_below", none), "_is_row_below", "_is_row_below", defArgs (top 18), defBody (top 18), defScope (top 18)⟩
def d_check_words : He.FnD := ⟨("check_words", none), "check_words", "check_words", defArgs (top 19), defBody (top 19), defScope (top 19)⟩
def d_check_text : He.FnD := ⟨("check_text", none), "check_text", "check_text", defArgs (top 20), defBody (top 20), defScope (top 20)⟩
def d_row_from : He.FnD := ⟨("row_from", none), "row_from", "row_from", defArgs (top 21), defBody (top 21), defScope (top 21)⟩
def d_row_behind : He.FnD := ⟨("row_behind", none), "row_behind", "row_behind", defArgs (top 22), defBody (top 22), defScope (top 22)⟩
def d_takes_text : He.FnD := ⟨("takes_text", none), "takes_text", "takes_text", defArgs (top 23), defBody (top 23), defScope (top 23)⟩
def d_effect : He.FnD := ⟨("effect", none), "effect", "effect", defArgs (top 24), defBody (top 24), defScope (top 24)⟩
def d_is_scribe : He.FnD := ⟨("is_scribe", none), "is_scribe", "is_scribe", defArgs (top 28), defBody (top 28), defScope (top 28)⟩
def d__is_row_of : He.FnD := ⟨("_is_row_of", none), "_is_row_of", "_is_row_of", defArgs (top 29), defBody (top 29), defScope (top 29)⟩
def d__is_told : He.FnD := ⟨("_is_told", none), "_is_told", "_is_told", defArgs (top 30), defBody (top 30), defScope (top 30)⟩
def d_check_scribe : He.FnD := ⟨("check_scribe", none), "check_scribe", "check_scribe", defArgs (top 31), defBody (top 31), defScope (top 31)⟩
def d_read_from : He.FnD := ⟨("read_from", none), "read_from", "read_from", defArgs (top 32), defBody (top 32), defScope (top 32)⟩
def d_read_to_end : He.FnD := ⟨("read_to_end", none), "read_to_end", "read_to_end", defArgs (top 33), defBody (top 33), defScope (top 33)⟩
def d_scribed : He.FnD := ⟨("scribed", none), "scribed", "scribed", defArgs (top 34), defBody (top 34), defScope (top 34)⟩
def d__law_begun : He.FnD := ⟨("_law_begun", none), "_law_begun", "_law_begun", defArgs (top 36), defBody (top 36), defScope (top 36)⟩
def d__law_mixed : He.FnD := ⟨("_law_mixed", none), "_law_mixed", "_law_mixed", defArgs (top 37), defBody (top 37), defScope (top 37)⟩
def d__law_take : He.FnD := ⟨("_law_take", none), "_law_take", "_law_take", defArgs (top 38), defBody (top 38), defScope (top 38)⟩
def d__law_pick : He.FnD := ⟨("_law_pick", none), "_law_pick", "_law_pick", defArgs (top 39), defBody (top 39), defScope (top 39)⟩
def d__law_caught : He.FnD := ⟨("_law_caught", none), "_law_caught", "_law_caught", defArgs (top 40), defBody (top 40), defScope (top 40)⟩
def d__law_paths : He.FnD := ⟨("_law_paths", none), "_law_paths", "_law_paths", defArgs (top 41), defBody (top 41), defScope (top 41)⟩
def d__law_part : He.FnD := ⟨("_law_part", none), "_law_part", "_law_part", defArgs (top 42), defBody (top 42), defScope (top 42)⟩
def d__law_put : He.FnD := ⟨("_law_put", none), "_law_put", "_law_put", defArgs (top 43), defBody (top 43), defScope (top 43)⟩
def d__law_odd : He.FnD := ⟨("_law_odd", none), "_law_odd", "_law_odd", defArgs (top 44), defBody (top 44), defScope (top 44)⟩
def d__law_bent : He.FnD := ⟨("_law_bent", none), "_law_bent", "_law_bent", defArgs (top 45), defBody (top 45), defScope (top 45)⟩
def d__law_is_number : He.FnD := ⟨("_law_is_number", none), "_law_is_number", "_law_is_number", defArgs (top 46), defBody (top 46), defScope (top 46)⟩
def d__law_machine : He.FnD := ⟨("_law_machine", none), "_law_machine", "_law_machine", defArgs (top 47), defBody (top 47), defScope (top 47)⟩
def d__law_run : He.FnD := ⟨("_law_run", none), "_law_run", "_law_run", defArgs (top 48), defBody (top 48), defScope (top 48)⟩
def d__law_string : He.FnD := ⟨("_law_string", none), "_law_string", "_law_string", defArgs (top 49), defBody (top 49), defScope (top 49)⟩
def d__law_pen : He.FnD := ⟨("_law_pen", none), "_law_pen", "_law_pen", defArgs (top 50), defBody (top 50), defScope (top 50)⟩
def d__law_penned : He.FnD := ⟨("_law_penned", none), "_law_penned", "_law_penned", defArgs (top 51), defBody (top 51), defScope (top 51)⟩
def d__law_copied : He.FnD := ⟨("_law_copied", none), "_law_copied", "_law_copied", defArgs (top 52), defBody (top 52), defScope (top 52)⟩
def d__law_is_machine : He.FnD := ⟨("_law_is_machine", none), "_law_is_machine", "_law_is_machine", defArgs (top 53), defBody (top 53), defScope (top 53)⟩
def d__law_is_short : He.FnD := ⟨("_law_is_short", none), "_law_is_short", "_law_is_short", defArgs (top 54), defBody (top 54), defScope (top 54)⟩
def d__law_is_pen : He.FnD := ⟨("_law_is_pen", none), "_law_is_pen", "_law_is_pen", defArgs (top 55), defBody (top 55), defScope (top 55)⟩
def d_law : He.FnD := ⟨("law", none), "law", "law", defArgs (top 56), defBody (top 56), defScope (top 56)⟩
def fnL : List He.FnD := [d_is_whole, d_is_between, d_is_word, d_is_row, d_is_rising, d_is_rising_below, d_is_text, d_is_words, d__is_row_below, d_check_words, d_check_text, d_row_from, d_row_behind, d_takes_text, d_effect, d_is_scribe, d__is_row_of, d__is_told, d_check_scribe, d_read_from, d_read_to_end, d_scribed, d__law_begun, d__law_mixed, d__law_take, d__law_pick, d__law_caught, d__law_paths, d__law_part, d__law_put, d__law_odd, d__law_bent, d__law_is_number, d__law_machine, d__law_run, d__law_string, d__law_pen, d__law_penned, d__law_copied, d__law_is_machine, d__law_is_short, d__law_is_pen, d_law]
def faL : List He.Fa := [.glo "is_whole", .glo "is_between", .glo "is_word", .glo "is_row", .glo "is_rising", .glo "is_rising_below", .glo "is_text", .glo "is_words", .glo "_is_row_below", .glo "check_words", .glo "check_text", .glo "row_from", .glo "row_behind", .glo "takes_text", .glo "effect", .glo "is_scribe", .glo "_is_row_of", .glo "_is_told", .glo "check_scribe", .glo "read_from", .glo "read_to_end", .glo "scribed", .glo "_law_begun", .glo "_law_mixed", .glo "_law_take", .glo "_law_pick", .glo "_law_caught", .glo "_law_paths", .glo "_law_part", .glo "_law_put", .glo "_law_odd", .glo "_law_bent", .glo "_law_is_number", .glo "_law_machine", .glo "_law_run", .glo "_law_string", .glo "_law_pen", .glo "_law_penned", .glo "_law_copied", .glo "_law_is_machine", .glo "_law_is_short", .glo "_law_is_pen", .glo "law", .keep "is_whole", .keep "is_between", .keep "is_word", .keep "is_row", .keep "is_rising", .keep "is_rising_below", .keep "is_text", .keep "is_words", .keep "_is_row_below", .keep "check_words", .keep "check_text", .keep "row_from", .keep "row_behind", .keep "takes_text", .keep "effect", .keep "is_scribe", .keep "_is_row_of", .keep "_is_told", .keep "check_scribe", .keep "read_from", .keep "read_to_end", .keep "scribed", .keep "_law_begun", .keep "_law_mixed", .keep "_law_take", .keep "_law_pick", .keep "_law_caught", .keep "_law_paths", .keep "_law_part", .keep "_law_put", .keep "_law_odd", .keep "_law_bent", .keep "_law_is_number", .keep "_law_machine", .keep "_law_run", .keep "_law_string", .keep "_law_pen", .keep "_law_penned", .keep "_law_copied", .keep "_law_is_machine", .keep "_law_is_short", .keep "_law_is_pen", .keep "law", .free "abs", .free "all", .free "any", .free "bool", .free "dict", .free "divmod", .free "enumerate", .free "int", .free "isinstance", .free "len", .free "list", .free "max", .free "min", .free "range", .free "repr", .free "set", .free "sorted", .free "str", .free "sum", .free "super", .free "tuple", .free "zip", .glo "WritingError", .glo "BadScribe", .glo "BadText", .glo "BadWords", .exc "BadScribe", .exc "BadWords", .keep "WritingError", .keep "BadScribe", .keep "BadText", .keep "BadWords", .exm "BadScribe" "WritingError" true, .exm "BadText" "WritingError" true, .exm "BadWords" "WritingError" true, .str "LETTERS" "abc", .int "MOST_ROWS" 8, .int "_MOST_ROWS" 4, .int "_MOST_LETTERS" 8]
def looseL : List PySem.Str := ([("WritingError" : PySem.Str), ("BadScribe" : PySem.Str), ("BadText" : PySem.Str), ("BadWords" : PySem.Str), ("LETTERS" : PySem.Str), ("MOST_ROWS" : PySem.Str), ("_MOST_ROWS" : PySem.Str), ("_MOST_LETTERS" : PySem.Str), ("is_whole" : PySem.Str), ("is_between" : PySem.Str), ("is_word" : PySem.Str), ("is_row" : PySem.Str)] : List PySem.Str) ++ ([("is_rising" : PySem.Str), ("is_rising_below" : PySem.Str), ("is_text" : PySem.Str), ("is_words" : PySem.Str), ("_is_row_below" : PySem.Str), ("check_words" : PySem.Str), ("check_text" : PySem.Str), ("row_from" : PySem.Str), ("row_behind" : PySem.Str), ("takes_text" : PySem.Str), ("effect" : PySem.Str), ("is_scribe" : PySem.Str)] : List PySem.Str) ++ ([("_is_row_of" : PySem.Str), ("_is_told" : PySem.Str), ("check_scribe" : PySem.Str), ("read_from" : PySem.Str), ("read_to_end" : PySem.Str), ("scribed" : PySem.Str), ("_law_begun" : PySem.Str), ("_law_mixed" : PySem.Str), ("_law_take" : PySem.Str), ("_law_pick" : PySem.Str), ("_law_caught" : PySem.Str), ("_law_paths" : PySem.Str)] : List PySem.Str) ++ ([("_law_part" : PySem.Str), ("_law_put" : PySem.Str), ("_law_odd" : PySem.Str), ("_law_bent" : PySem.Str), ("_law_is_number" : PySem.Str), ("_law_machine" : PySem.Str), ("_law_run" : PySem.Str), ("_law_string" : PySem.Str), ("_law_pen" : PySem.Str), ("_law_penned" : PySem.Str), ("_law_copied" : PySem.Str), ("_law_is_machine" : PySem.Str)] : List PySem.Str) ++ ([("_law_is_short" : PySem.Str), ("_law_is_pen" : PySem.Str)] : List PySem.Str)
-- law stands at 56
/-- what an own error's class says (for isinstance) -/
def excCB (K : PySem.W.Frag) (D : Addr) : Bool :=
  (decide (PySem.W.findIn K (.ref D) "__getattribute__" = some (some (.builtin "BaseException.__getattribute__"))) && decide (PySem.W.findIn K (.ref D) "__getattr__" = some none)) &&
  (decide (PySem.W.subIn K (.ref D) (.type "BaseException") = some true) && decide (PySem.W.hasDictIn K D = true)) &&
  (decide (PySem.W.findIn K (.ref D) "__class__" = some (some (.builtin "object.__class__"))) && decide (PySem.W.specialIn K (.builtin "object.__class__") "__get__" = some (some (.builtin "getset_descriptor.__get__")))) &&
  (decide (PySem.W.takesIn K (.builtin "object.__class__") = some true) && decide (PySem.W.mroIn K D (.type "object") = some true))
/-- the law's own table of code objects is not among what is kept -/
def tabOut (K : PySem.W.Frag) : Bool := match K.lookup (He.ga K "law") with
  | some ⟨_, _, .func fd, _⟩ => (match fd.code with
    | .ref c => (match K.lookup c with
      | some ⟨_, _, .fields vs, _⟩ => (match (vs[11]? : Option Value) with
        | some (Value.ref t) => (K.lookup t).isNone
        | _ => false)
      | _ => false)
    | _ => false)
  | _ => false
/-- an own error over ValueError, as an object -/
def oexB (K : PySem.W.Frag) (C : Addr) : Bool := match K.lookup C with
  | some ⟨.type "type", _, .cls cd, sl⟩ => (match cd.mro, sl.toList with
    | .ref C' :: bm, [_, _, _, _, some (.builtin n), _] => decide (C' = C) && (decide (n = "ValueError.__new__") && (!cd.hasDel && (cd.hasDict && PySem.HandSPX.refsVE bm)))
    | _, _ => false)
  | _ => false
def initP : Str × Option Str := ("BadText", some "__init__")
/-- the code object and the cell of BadText.__init__ -/
def initC (K : PySem.W.Frag) : Bool := match K.lookup (He.fAd K initP) with
  | some ⟨_, _, .func fd, _⟩ => (match fd.code, fd.closure with
    | .ref c, [(_, cc)] => PySem.W.codeIn K (.ref c) "BadText.__init__" && ((match K.lookup c with
      | some ⟨_, _, .fields vs, _⟩ => (match (vs[2]? : Option Value) with
        | some (.str file _) => (PySem.Challenge.pw_samewriting_k51_word_machines_and_scribe.main.file : Str) == file
        | _ => false)
      | _ => false) && (match K.lookup cc with
      | some ⟨_, _, .cell (some (.ref C')), _⟩ => decide (C' = He.ga K "BadText")
      | _ => false))
    | _, _ => false)
  | _ => false
def initB (K : PySem.W.Frag) : Bool :=
  (oexB K (He.ga K "BadText") && decide (PySem.W.findIn K (.ref (He.ga K "BadText")) "__setattr__" = some (some (.builtin "object.__setattr__")))) &&
  (decide (PySem.W.subIn K (.ref (He.ga K "BadText")) (.type "BaseException") = some true) && decide (PySem.W.typeIn K (.ref (He.ga K "BadText")) = some (.type "type"))) &&
  (decide (PySem.W.findIn K (.ref (He.ga K "BadText")) "__init__" = some (some (.ref (He.fAd K initP)))) && decide (PySem.W.typeIn K (.ref (He.fAd K initP)) = some (.type "function"))) &&
  (decide (PySem.W.findIn K (.ref (He.ga K "BadText")) "at" = some none) && decide (PySem.W.mroIn K (He.ga K "BadText") (.ref (He.ga K "BadText")) = some true)) &&
  (decide (PySem.W.ks_superIn K (He.ga K "BadText") (He.ga K "BadText") "__init__" = some (some (.builtin "ValueError.__init__"))) && decide (PySem.W.nsIn K PySem.cStatics "thirdparty.any" = some none)) &&
  (decide (PySem.W.subIn K (.ref (He.ga K "BadText")) (.type "ValueError") = some true) && initC K)
def moreB (K : PySem.W.Frag) : Bool := ((excCB K (He.ga K "BadText") && (excCB K (He.ga K "BadWords") && excCB K (He.ga K "BadScribe"))) && tabOut K) && initB K
abbrev FnX : Type := Option (Str × Str × Arguments × FuncBody × Scope × Addr × List Str × Value × Addr)
def initObs (K : PySem.W.Frag) : FnX := match K.lookup (He.fAd K initP) with
  | some ⟨_, _, .func fd, _⟩ => some (fd.name, fd.qualname, fd.params, fd.body, fd.scope, fd.globals, fd.closure.map Prod.fst, fd.defaults, fd.builtins)
  | _ => none
def initVal : FnX := some ("__init__", "BadText.__init__", defArgs s_init, .stmts (defBody s_init), defScope s_init, mainGlobals, ["__class__"], .none, builtinsNs)
/-- what is kept: what the names reach in two steps, and what BadText.__init__ is made of -/
def asX (g : Addr → Option Obj) : List Addr :=
  let as0 := He.asG g 2
  let as1 := He.growG g (He.growG g (He.growG g [He.ga (He.frG g as0) "BadText"]))
  let K1 := He.frG g (as0 ++ as1)
  as0 ++ (as1 ++ (PySem.cStatics :: match K1.lookup (He.fAd K1 initP) with
    | some ⟨_, _, .func fd, _⟩ => fd.closure.map Prod.snd
    | _ => []))
def obsX (g : Addr → Option Obj) : (He.Al × Bool) × FnX :=
  let K := He.frG g (asX g)
  ((He.obsE faL fnL K, moreB K), initObs K)
def hookX : PySem.W.Hook where
  α := (He.Al × Bool) × FnX
  obs := fun s => obsX s.heap.get?
  val := fun _ => ((He.valE fnL, true), initVal)
  says := fun _ h => ∃ K : PySem.W.Frag, K.In h ∧ He.SaysE faL fnL K ∧ moreB K = true ∧ initObs K = initVal
  of := fun _ _ e => ⟨_, He.frG_in, (Prod.ext_iff.mp (Prod.ext_iff.mp e).1).1, (Prod.ext_iff.mp (Prod.ext_iff.mp e).1).2, (Prod.ext_iff.mp e).2⟩
  keeps := fun _ _ _ ⟨K, hK, c⟩ k => ⟨K, PySem.W.Frag.In.keeps hK k, c⟩
abbrev R : PySem.W.OpenRow := PySem.W.OpenLaw.row PySem.Challenge.rw_samewriting_k51_word_machines_and_scribe
abbrev hk : PySem.W.Hook := hookX
def obH (s : PySem.W.SharedT) : (He.Al × Bool) × FnX := obsX (HandSHeadRun.getT s)
theorem ob_eq (s : PySem.W.SharedT) : obH s = hk.obs s.abs := by
  have e : HandSHeadRun.getT s = s.abs.heap.get? := funext (HandSHeadRun.getT_eq s)
  show obsX (HandSHeadRun.getT s) = obsX s.abs.heap.get?
  rw [e]
theorem runH (w : World) : HandSHeadRun.RunEq R (PySem.W.view R.prog [56]) hk obH 12000 looseL w := by
  intro os
  kernel_rfl
end Sx
set_option Elab.async false
set_option linter.all false
set_option maxRecDepth 100000
set_option maxHeartbeats 4000000
set_option exponentiation.threshold 3000
/-! the end -/
namespace Sx
open PySem PySem.Spec PyProof.Rows L2 LamX
open C8 (Cal pe_c pe_gc)
section
variable {P : Program} {w : World} {K : PySem.W.Frag} {mg : Str → Option Value} {base : Heap}
theorem mkFun {x : Str} {st : Stmt} {a : Addr} (c : ∃ (oc : Value) (od : Option Addr) (osl : Array (Option Value)) (kV doc pm : Value) (an : Option Addr) (cdv ct : Value), K.lookup a = some ⟨oc, od, .func (PySem.W.fnOf x x (defArgs st) (defBody st) (defScope st) .none kV doc pm an cdv ct), osl⟩ ∧ PySem.W.codeIn K cdv x = true) (k : PySem.W.keepIn K (.ref a) = true) : ∃ fd, Fun K x x st a fd := by
  obtain ⟨oc, od, osl, kV, doc, pm, an, cdv, ct, l, cc⟩ := c
  exact ⟨_, fun_mk l cc k⟩
theorem mkCalX {k : Nat} {x : Str} {f : Addr} {fd : FuncData} {ps : List Str} {sp : Sp} (ok : FnOk P w K mg base (L2.CX P w) k f fd ps sp) (m : mg x = some (.ref f)) (kp : PySem.W.keepIn K (.ref f) = true) (b : L2.Binds K fd ps []) (al : ∀ us : List Value, us.length = ps.length → bindArgs fd ⟨us, []⟩ = pure (ps.zip us)) : CalX P w K mg base k x ps sp := ⟨f, fd, ok, m, kp, b, al⟩
end
theorem all_check_text {K : PySem.W.Frag} {f : Addr} {fd : FuncData} (F : Fun K "check_text" "check_text" s_check_text f fd) : ∀ us : List Value, us.length = 1 → bindArgs fd ⟨us, []⟩ = pure ((["text"] : List Str).zip us) := by
  obtain ⟨oc, od, kV, doc, pm, an, cdv, ct, osl, rfl, lk, hcd⟩ := F.ex
  exact fun us hl => match us, hl with | [_], _ => rfl
theorem all_check_words {K : PySem.W.Frag} {f : Addr} {fd : FuncData} (F : Fun K "check_words" "check_words" s_check_words f fd) : ∀ us : List Value, us.length = 1 → bindArgs fd ⟨us, []⟩ = pure ((["words"] : List Str).zip us) := by
  obtain ⟨oc, od, kV, doc, pm, an, cdv, ct, osl, rfl, lk, hcd⟩ := F.ex
  exact fun us hl => match us, hl with | [_], _ => rfl
theorem all_check_scribe {K : PySem.W.Frag} {f : Addr} {fd : FuncData} (F : Fun K "check_scribe" "check_scribe" s_check_scribe f fd) : ∀ us : List Value, us.length = 1 → bindArgs fd ⟨us, []⟩ = pure ((["scribe"] : List Str).zip us) := by
  obtain ⟨oc, od, kV, doc, pm, an, cdv, ct, osl, rfl, lk, hcd⟩ := F.ex
  exact fun us hl => match us, hl with | [_], _ => rfl
theorem all_scribed {K : PySem.W.Frag} {f : Addr} {fd : FuncData} (F : Fun K "scribed" "scribed" s_scribed f fd) : ∀ us : List Value, us.length = 2 → bindArgs fd ⟨us, []⟩ = pure ((["scribe", "text"] : List Str).zip us) := by
  obtain ⟨oc, od, kV, doc, pm, an, cdv, ct, osl, rfl, lk, hcd⟩ := F.ex
  exact fun us hl => match us, hl with | [_, _], _ => rfl
theorem all_row_behind {K : PySem.W.Frag} {f : Addr} {fd : FuncData} (F : Fun K "row_behind" "row_behind" s_row_behind f fd) : ∀ us : List Value, us.length = 2 → bindArgs fd ⟨us, []⟩ = pure ((["words", "text"] : List Str).zip us) := by
  obtain ⟨oc, od, kV, doc, pm, an, cdv, ct, osl, rfl, lk, hcd⟩ := F.ex
  exact fun us hl => match us, hl with | [_, _], _ => rfl
theorem all_effect {K : PySem.W.Frag} {f : Addr} {fd : FuncData} (F : Fun K "effect" "effect" s_effect f fd) : ∀ us : List Value, us.length = 2 → bindArgs fd ⟨us, []⟩ = pure ((["words", "text"] : List Str).zip us) := by
  obtain ⟨oc, od, kV, doc, pm, an, cdv, ct, osl, rfl, lk, hcd⟩ := F.ex
  exact fun us hl => match us, hl with | [_, _], _ => rfl
theorem all_takes_text {K : PySem.W.Frag} {f : Addr} {fd : FuncData} (F : Fun K "takes_text" "takes_text" s_takes_text f fd) : ∀ us : List Value, us.length = 2 → bindArgs fd ⟨us, []⟩ = pure ((["words", "text"] : List Str).zip us) := by
  obtain ⟨oc, od, kV, doc, pm, an, cdv, ct, osl, rfl, lk, hcd⟩ := F.ex
  exact fun us hl => match us, hl with | [_, _], _ => rfl
theorem exc_of {K : PySem.W.Frag} {D : Addr} (h : excCB K D = true) : ExcC K D := by
  unfold excCB at h
  simp only [Bool.and_eq_true, decide_eq_true_eq] at h
  obtain ⟨⟨⟨⟨h1, h2⟩, h3, h4⟩, h5, h6⟩, h7, h8⟩ := h
  exact ⟨h1, h2, h3, h4, h5, h6, h7, h8⟩
theorem tab_of {K : PySem.W.Frag} {h : Heap} {c t : Addr} {o : Obj} {fd : FuncData} (KX : K.In h) (hb : tabOut K = true) (ho : h.get? (He.ga K "law") = some o) (hd : o.data = .func fd) (hc : fd.code = .ref c) (hh : PySem.W.CodeHd h c t) : K.lookup t = none := by
  unfold tabOut at hb
  split at hb
  · rename_i c1 d1 fd1 s1 e1
    have z := KX _ _ e1
    rw [ho] at z
    cases z
    cases hd
    rw [hc] at hb
    dsimp only at hb
    split at hb
    · rename_i c2 d2 vs s2 e2
      obtain ⟨o2, vs2, _, _, _, _, _, _, _, f1, _, f2, f3, _⟩ := hh
      have z2 := KX _ _ e2
      rw [f1] at z2
      cases z2
      cases f2
      rw [f3] at hb
      exact Option.isNone_iff_eq_none.mp hb
    · cases hb
  · cases hb
theorem oex_obj {K : PySem.W.Frag} {C : Addr} (q : oexB K C = true) : ∃ nm qn N bs bm sn sub ab col dd k0 k1 k2 k3 k5, K.lookup C = some (excClassObj nm qn C N bs bm true sn sub ab col dd k0 k1 k2 k3 k5 "ValueError.__new__") ∧ PySem.HandSPX.refsVE bm = true := by
  unfold oexB at q
  split at q
  · rename_i dd cd sl ho
    split at q
    · rename_i C' bm k0 k1 k2 k3 n k5 hm hs
      simp only [Bool.and_eq_true, decide_eq_true_iff, Bool.not_eq_true'] at q
      obtain ⟨rfl, rfl, hdel, hdct, ht⟩ := q
      obtain ⟨nm, bs, mro, ns, qn, hd, sn, sub, ab, col, del⟩ := cd
      dsimp only at hm hdel hdct
      subst hm hdel hdct
      have hsl : sl = #[k0, k1, k2, k3, some (.builtin "ValueError.__new__"), k5] := by
        obtain ⟨l⟩ := sl
        simp only at hs
        rw [hs]
      subst hsl
      exact ⟨nm, qn, ns, bs, bm, sn, sub, ab, col, dd, k0, k1, k2, k3, k5, ho, ht⟩
    · cases q
  · cases q
theorem init_fn {K : PySem.W.Frag} (hc : initC K = true) (io : initObs K = initVal) : ∃ (c cc : Addr) (oc kV doc pm ct : Value) (od an : Option Addr) (osl : Array (Option Value)),
    K.lookup (He.fAd K initP) = some ⟨oc, od, .func (PySem.W.fnX "__init__" "BadText.__init__" (defArgs s_init) (defBody s_init) (defScope s_init) [("__class__", cc)] .none kV doc pm an (.ref c) ct), osl⟩ ∧ PySem.W.codeIn K (.ref c) "BadText.__init__" = true ∧
    (∃ (ccl : Value) (cdd : Option Addr) (vs : Array Value) (ccs : Array (Option Value)) (file : Str) (tf : Tok), K.lookup c = some ⟨ccl, cdd, .fields vs, ccs⟩ ∧ vs[2]? = some (.str file tf) ∧ ((PySem.Challenge.pw_samewriting_k51_word_machines_and_scribe.main.file : Str) == file) = true) ∧
    ∃ (cl : Value) (cld : Option Addr) (csl : Array (Option Value)), K.lookup cc = some ⟨cl, cld, .cell (some (.ref (He.ga K "BadText"))), csl⟩ := by
  unfold initC at hc
  unfold initObs at io
  cases q : K.lookup (He.fAd K initP) with
  | none =>
    rw [q] at hc
    cases hc
  | some o =>
    obtain ⟨oc, od, dt, osl⟩ := o
    rw [q] at hc io
    cases dt with
    | func fd =>
      obtain ⟨n1, n2, n3, n4, n5, n6, n7, n8, n9, n10, n11, n12, n13, n14, n15⟩ := fd
      have e2 : (some (n1, n2, n3, n4, n5, n6, n7.map Prod.fst, n8, n15) : FnX) = (some (("__init__" : Str), ("BadText.__init__" : Str), defArgs s_init, FuncBody.stmts (defBody s_init), defScope s_init, mainGlobals, [("__class__" : Str)], Value.none, builtinsNs) : FnX) := io
      simp only [Option.some.injEq, Prod.mk.injEq] at e2
      obtain ⟨h1, h2, h3, h4, h5, h6, h7, h8, h9⟩ := e2
      subst h1 h2 h3 h4 h5 h6 h8 h9
      dsimp only at hc
      split at hc
      · rename_i c y cc
        have hy : y = "__class__" := by simpa using h7
        subst hy
        rw [Bool.and_eq_true, Bool.and_eq_true] at hc
        obtain ⟨hc1, hc2, hc3⟩ := hc
        refine ⟨c, cc, oc, _, _, _, _, od, _, osl, rfl, hc1, ?_, ?_⟩
        · split at hc2
          · rename_i ccl cdd vs ccs e4
            split at hc2
            · rename_i file tf e5
              exact ⟨ccl, cdd, vs, ccs, file, tf, e4, e5, hc2⟩
            · cases hc2
          · cases hc2
        · split at hc3
          · rename_i cl cld C' csl e4
            rw [of_decide_eq_true hc3] at e4
            exact ⟨cl, cld, csl, e4⟩
          · cases hc3
      · cases hc
    | _ => cases hc
theorem init_of {K : PySem.W.Frag} {h : Heap} {mg : Str → Option Value} (KX : K.In h) (ini : initB K = true) (io : initObs K = initVal) (g : mg "BadText" = some (.ref (He.ga K "BadText"))) (kC : PySem.W.keepIn K (.ref (He.ga K "BadText")) = true) (hsuper : mg "super" = none) : InitC PySem.Challenge.rw_samewriting_k51_word_machines_and_scribe.prog K mg (He.ga K "BadText") (He.fAd K initP) := by
  unfold initB at ini
  simp only [Bool.and_eq_true, decide_eq_true_eq] at ini
  obtain ⟨⟨⟨⟨⟨⟨h1, h2⟩, h3, h4⟩, h5, h6⟩, h7, h8⟩, h9, h10⟩, h11, h12⟩ := ini
  exact ⟨⟨oex_obj h1, h2, h3, h4, kC⟩, g, h5, h6, h7, init_fn h12 io, h8, hsuper, by kernel_rfl, h9, h10, h11⟩
theorem bind_scribe {K : PySem.W.Frag} {f : Addr} {fd : FuncData} (F : Fun K "is_scribe" "is_scribe" s_is_scribe f fd) : ∀ (s : Shared) (u : Value), bindArgs fd ⟨[], [(("thing" : Str), u)]⟩ = pure ([(("thing" : Str), u)] : List (Str × Value)) := by
  obtain ⟨oc, od, kV, doc, pm, an, cdv, ct, osl, rfl, lk, hcd⟩ := F.ex
  exact fun _ _ => rfl
theorem bind_row {K : PySem.W.Frag} {f : Addr} {fd : FuncData} (F : Fun K "row_behind" "row_behind" s_row_behind f fd) : ∀ (s : Shared) (a b : Value), bindArgs fd ⟨[], [(("text" : Str), a), (("words" : Str), b)]⟩ = pure ([(("words" : Str), b), (("text" : Str), a)] : List (Str × Value)) := by
  obtain ⟨oc, od, kV, doc, pm, an, cdv, ct, osl, rfl, lk, hcd⟩ := F.ex
  exact fun _ _ _ => rfl
theorem bind_effect {K : PySem.W.Frag} {f : Addr} {fd : FuncData} (F : Fun K "effect" "effect" s_effect f fd) : ∀ (s : Shared) (a b : Value), bindArgs fd ⟨[], [(("text" : Str), a), (("words" : Str), b)]⟩ = pure ([(("words" : Str), b), (("text" : Str), a)] : List (Str × Value)) := by
  obtain ⟨oc, od, kV, doc, pm, an, cdv, ct, osl, rfl, lk, hcd⟩ := F.ex
  exact fun _ _ _ => rfl
theorem bind_scribed {K : PySem.W.Frag} {f : Addr} {fd : FuncData} (F : Fun K "scribed" "scribed" s_scribed f fd) : ∀ (s : Shared) (a b : Value), bindArgs fd ⟨[], [(("text" : Str), a), (("scribe" : Str), b)]⟩ = pure ([(("scribe" : Str), b), (("text" : Str), a)] : List (Str × Value)) := by
  obtain ⟨oc, od, kV, doc, pm, an, cdv, ct, osl, rfl, lk, hcd⟩ := F.ex
  exact fun _ _ _ => rfl
theorem facts {w : World} {K : PySem.W.Frag} {h base : Heap} {mg : Str → Option Value} {c0 P0 : Addr} {o : Obj} {fd : FuncData} (KX : K.In h) (G : h.Ns mainGlobals mg) (c : He.SaysE faL fnL K) (mo : moreB K = true) (io : initObs K = initVal)
    (ho : h.get? (He.ga K "law") = some o) (hd : o.data = .func fd) (hc : fd.code = .ref c0) (TB : TabB base mg c0 P0) : ∃ (fp fr ft fe fs g fI : Addr) (fdl fdp fdr fdt fde fds fdg : FuncData), LawCs PySem.Challenge.rw_samewriting_k51_word_machines_and_scribe.prog w K mg base c0 P0 (He.ga K "law") fp fr ft fe fs g (He.ga K "WritingError") (He.ga K "BadWords") (He.ga K "BadText") (He.ga K "BadScribe") fI fdl fdp fdr fdt fde fds fdg := by
  obtain ⟨P, hP⟩ : ∃ P, P = PySem.Challenge.rw_samewriting_k51_word_machines_and_scribe.prog := ⟨_, rfl⟩
  have hb := mo
  unfold moreB at hb
  simp only [Bool.and_eq_true] at hb
  obtain ⟨⟨⟨hxT, hxW, hxP⟩, _⟩, ini⟩ := hb
  obtain ⟨fd_is_whole, F_is_whole⟩ := mkFun (x := "is_whole") (st := s_is_whole) (c.def_ 0 (d := d_is_whole) rfl) (He.keep_ok (c.fact 43 (f := .keep "is_whole") rfl))
  have g_is_whole := He.glo_ok KX G (c.fact 0 (f := .glo "is_whole") rfl)
  obtain ⟨fd_is_between, F_is_between⟩ := mkFun (x := "is_between") (st := s_is_between) (c.def_ 1 (d := d_is_between) rfl) (He.keep_ok (c.fact 44 (f := .keep "is_between") rfl))
  have g_is_between := He.glo_ok KX G (c.fact 1 (f := .glo "is_between") rfl)
  obtain ⟨fd_is_word, F_is_word⟩ := mkFun (x := "is_word") (st := s_is_word) (c.def_ 2 (d := d_is_word) rfl) (He.keep_ok (c.fact 45 (f := .keep "is_word") rfl))
  have g_is_word := He.glo_ok KX G (c.fact 2 (f := .glo "is_word") rfl)
  obtain ⟨fd_is_row, F_is_row⟩ := mkFun (x := "is_row") (st := s_is_row) (c.def_ 3 (d := d_is_row) rfl) (He.keep_ok (c.fact 46 (f := .keep "is_row") rfl))
  have g_is_row := He.glo_ok KX G (c.fact 3 (f := .glo "is_row") rfl)
  obtain ⟨fd_is_rising, F_is_rising⟩ := mkFun (x := "is_rising") (st := s_is_rising) (c.def_ 4 (d := d_is_rising) rfl) (He.keep_ok (c.fact 47 (f := .keep "is_rising") rfl))
  have g_is_rising := He.glo_ok KX G (c.fact 4 (f := .glo "is_rising") rfl)
  obtain ⟨fd_is_rising_below, F_is_rising_below⟩ := mkFun (x := "is_rising_below") (st := s_is_rising_below) (c.def_ 5 (d := d_is_rising_below) rfl) (He.keep_ok (c.fact 48 (f := .keep "is_rising_below") rfl))
  have g_is_rising_below := He.glo_ok KX G (c.fact 5 (f := .glo "is_rising_below") rfl)
  obtain ⟨fd_is_text, F_is_text⟩ := mkFun (x := "is_text") (st := s_is_text) (c.def_ 6 (d := d_is_text) rfl) (He.keep_ok (c.fact 49 (f := .keep "is_text") rfl))
  have g_is_text := He.glo_ok KX G (c.fact 6 (f := .glo "is_text") rfl)
  obtain ⟨fd_is_words, F_is_words⟩ := mkFun (x := "is_words") (st := s_is_words) (c.def_ 7 (d := d_is_words) rfl) (He.keep_ok (c.fact 50 (f := .keep "is_words") rfl))
  have g_is_words := He.glo_ok KX G (c.fact 7 (f := .glo "is_words") rfl)
  obtain ⟨fd__is_row_below, F__is_row_below⟩ := mkFun (x := "_is_row_below") (st := s__is_row_below) (c.def_ 8 (d := d__is_row_below) rfl) (He.keep_ok (c.fact 51 (f := .keep "_is_row_below") rfl))
  have g__is_row_below := He.glo_ok KX G (c.fact 8 (f := .glo "_is_row_below") rfl)
  obtain ⟨fd_check_words, F_check_words⟩ := mkFun (x := "check_words") (st := s_check_words) (c.def_ 9 (d := d_check_words) rfl) (He.keep_ok (c.fact 52 (f := .keep "check_words") rfl))
  have g_check_words := He.glo_ok KX G (c.fact 9 (f := .glo "check_words") rfl)
  obtain ⟨fd_check_text, F_check_text⟩ := mkFun (x := "check_text") (st := s_check_text) (c.def_ 10 (d := d_check_text) rfl) (He.keep_ok (c.fact 53 (f := .keep "check_text") rfl))
  have g_check_text := He.glo_ok KX G (c.fact 10 (f := .glo "check_text") rfl)
  obtain ⟨fd_row_from, F_row_from⟩ := mkFun (x := "row_from") (st := s_row_from) (c.def_ 11 (d := d_row_from) rfl) (He.keep_ok (c.fact 54 (f := .keep "row_from") rfl))
  have g_row_from := He.glo_ok KX G (c.fact 11 (f := .glo "row_from") rfl)
  obtain ⟨fd_row_behind, F_row_behind⟩ := mkFun (x := "row_behind") (st := s_row_behind) (c.def_ 12 (d := d_row_behind) rfl) (He.keep_ok (c.fact 55 (f := .keep "row_behind") rfl))
  have g_row_behind := He.glo_ok KX G (c.fact 12 (f := .glo "row_behind") rfl)
  obtain ⟨fd_takes_text, F_takes_text⟩ := mkFun (x := "takes_text") (st := s_takes_text) (c.def_ 13 (d := d_takes_text) rfl) (He.keep_ok (c.fact 56 (f := .keep "takes_text") rfl))
  have g_takes_text := He.glo_ok KX G (c.fact 13 (f := .glo "takes_text") rfl)
  obtain ⟨fd_effect, F_effect⟩ := mkFun (x := "effect") (st := s_effect) (c.def_ 14 (d := d_effect) rfl) (He.keep_ok (c.fact 57 (f := .keep "effect") rfl))
  have g_effect := He.glo_ok KX G (c.fact 14 (f := .glo "effect") rfl)
  obtain ⟨fd_is_scribe, F_is_scribe⟩ := mkFun (x := "is_scribe") (st := s_is_scribe) (c.def_ 15 (d := d_is_scribe) rfl) (He.keep_ok (c.fact 58 (f := .keep "is_scribe") rfl))
  have g_is_scribe := He.glo_ok KX G (c.fact 15 (f := .glo "is_scribe") rfl)
  obtain ⟨fd__is_row_of, F__is_row_of⟩ := mkFun (x := "_is_row_of") (st := s__is_row_of) (c.def_ 16 (d := d__is_row_of) rfl) (He.keep_ok (c.fact 59 (f := .keep "_is_row_of") rfl))
  have g__is_row_of := He.glo_ok KX G (c.fact 16 (f := .glo "_is_row_of") rfl)
  obtain ⟨fd__is_told, F__is_told⟩ := mkFun (x := "_is_told") (st := s__is_told) (c.def_ 17 (d := d__is_told) rfl) (He.keep_ok (c.fact 60 (f := .keep "_is_told") rfl))
  have g__is_told := He.glo_ok KX G (c.fact 17 (f := .glo "_is_told") rfl)
  obtain ⟨fd_check_scribe, F_check_scribe⟩ := mkFun (x := "check_scribe") (st := s_check_scribe) (c.def_ 18 (d := d_check_scribe) rfl) (He.keep_ok (c.fact 61 (f := .keep "check_scribe") rfl))
  have g_check_scribe := He.glo_ok KX G (c.fact 18 (f := .glo "check_scribe") rfl)
  obtain ⟨fd_read_from, F_read_from⟩ := mkFun (x := "read_from") (st := s_read_from) (c.def_ 19 (d := d_read_from) rfl) (He.keep_ok (c.fact 62 (f := .keep "read_from") rfl))
  have g_read_from := He.glo_ok KX G (c.fact 19 (f := .glo "read_from") rfl)
  obtain ⟨fd_read_to_end, F_read_to_end⟩ := mkFun (x := "read_to_end") (st := s_read_to_end) (c.def_ 20 (d := d_read_to_end) rfl) (He.keep_ok (c.fact 63 (f := .keep "read_to_end") rfl))
  have g_read_to_end := He.glo_ok KX G (c.fact 20 (f := .glo "read_to_end") rfl)
  obtain ⟨fd_scribed, F_scribed⟩ := mkFun (x := "scribed") (st := s_scribed) (c.def_ 21 (d := d_scribed) rfl) (He.keep_ok (c.fact 64 (f := .keep "scribed") rfl))
  have g_scribed := He.glo_ok KX G (c.fact 21 (f := .glo "scribed") rfl)
  obtain ⟨fd__law_begun, F__law_begun⟩ := mkFun (x := "_law_begun") (st := s__law_begun) (c.def_ 22 (d := d__law_begun) rfl) (He.keep_ok (c.fact 65 (f := .keep "_law_begun") rfl))
  have g__law_begun := He.glo_ok KX G (c.fact 22 (f := .glo "_law_begun") rfl)
  obtain ⟨fd__law_mixed, F__law_mixed⟩ := mkFun (x := "_law_mixed") (st := s__law_mixed) (c.def_ 23 (d := d__law_mixed) rfl) (He.keep_ok (c.fact 66 (f := .keep "_law_mixed") rfl))
  have g__law_mixed := He.glo_ok KX G (c.fact 23 (f := .glo "_law_mixed") rfl)
  obtain ⟨fd__law_take, F__law_take⟩ := mkFun (x := "_law_take") (st := s__law_take) (c.def_ 24 (d := d__law_take) rfl) (He.keep_ok (c.fact 67 (f := .keep "_law_take") rfl))
  have g__law_take := He.glo_ok KX G (c.fact 24 (f := .glo "_law_take") rfl)
  obtain ⟨fd__law_pick, F__law_pick⟩ := mkFun (x := "_law_pick") (st := s__law_pick) (c.def_ 25 (d := d__law_pick) rfl) (He.keep_ok (c.fact 68 (f := .keep "_law_pick") rfl))
  have g__law_pick := He.glo_ok KX G (c.fact 25 (f := .glo "_law_pick") rfl)
  obtain ⟨fd__law_caught, F__law_caught⟩ := mkFun (x := "_law_caught") (st := s__law_caught) (c.def_ 26 (d := d__law_caught) rfl) (He.keep_ok (c.fact 69 (f := .keep "_law_caught") rfl))
  have g__law_caught := He.glo_ok KX G (c.fact 26 (f := .glo "_law_caught") rfl)
  obtain ⟨fd__law_paths, F__law_paths⟩ := mkFun (x := "_law_paths") (st := s__law_paths) (c.def_ 27 (d := d__law_paths) rfl) (He.keep_ok (c.fact 70 (f := .keep "_law_paths") rfl))
  have g__law_paths := He.glo_ok KX G (c.fact 27 (f := .glo "_law_paths") rfl)
  obtain ⟨fd__law_part, F__law_part⟩ := mkFun (x := "_law_part") (st := s__law_part) (c.def_ 28 (d := d__law_part) rfl) (He.keep_ok (c.fact 71 (f := .keep "_law_part") rfl))
  have g__law_part := He.glo_ok KX G (c.fact 28 (f := .glo "_law_part") rfl)
  obtain ⟨fd__law_put, F__law_put⟩ := mkFun (x := "_law_put") (st := s__law_put) (c.def_ 29 (d := d__law_put) rfl) (He.keep_ok (c.fact 72 (f := .keep "_law_put") rfl))
  have g__law_put := He.glo_ok KX G (c.fact 29 (f := .glo "_law_put") rfl)
  obtain ⟨fd__law_odd, F__law_odd⟩ := mkFun (x := "_law_odd") (st := s__law_odd) (c.def_ 30 (d := d__law_odd) rfl) (He.keep_ok (c.fact 73 (f := .keep "_law_odd") rfl))
  have g__law_odd := He.glo_ok KX G (c.fact 30 (f := .glo "_law_odd") rfl)
  obtain ⟨fd__law_bent, F__law_bent⟩ := mkFun (x := "_law_bent") (st := s__law_bent) (c.def_ 31 (d := d__law_bent) rfl) (He.keep_ok (c.fact 74 (f := .keep "_law_bent") rfl))
  have g__law_bent := He.glo_ok KX G (c.fact 31 (f := .glo "_law_bent") rfl)
  obtain ⟨fd__law_is_number, F__law_is_number⟩ := mkFun (x := "_law_is_number") (st := s__law_is_number) (c.def_ 32 (d := d__law_is_number) rfl) (He.keep_ok (c.fact 75 (f := .keep "_law_is_number") rfl))
  have g__law_is_number := He.glo_ok KX G (c.fact 32 (f := .glo "_law_is_number") rfl)
  obtain ⟨fd__law_machine, F__law_machine⟩ := mkFun (x := "_law_machine") (st := s__law_machine) (c.def_ 33 (d := d__law_machine) rfl) (He.keep_ok (c.fact 76 (f := .keep "_law_machine") rfl))
  have g__law_machine := He.glo_ok KX G (c.fact 33 (f := .glo "_law_machine") rfl)
  obtain ⟨fd__law_run, F__law_run⟩ := mkFun (x := "_law_run") (st := s__law_run) (c.def_ 34 (d := d__law_run) rfl) (He.keep_ok (c.fact 77 (f := .keep "_law_run") rfl))
  have g__law_run := He.glo_ok KX G (c.fact 34 (f := .glo "_law_run") rfl)
  obtain ⟨fd__law_string, F__law_string⟩ := mkFun (x := "_law_string") (st := s__law_string) (c.def_ 35 (d := d__law_string) rfl) (He.keep_ok (c.fact 78 (f := .keep "_law_string") rfl))
  have g__law_string := He.glo_ok KX G (c.fact 35 (f := .glo "_law_string") rfl)
  obtain ⟨fd__law_pen, F__law_pen⟩ := mkFun (x := "_law_pen") (st := s__law_pen) (c.def_ 36 (d := d__law_pen) rfl) (He.keep_ok (c.fact 79 (f := .keep "_law_pen") rfl))
  have g__law_pen := He.glo_ok KX G (c.fact 36 (f := .glo "_law_pen") rfl)
  obtain ⟨fd__law_penned, F__law_penned⟩ := mkFun (x := "_law_penned") (st := s__law_penned) (c.def_ 37 (d := d__law_penned) rfl) (He.keep_ok (c.fact 80 (f := .keep "_law_penned") rfl))
  have g__law_penned := He.glo_ok KX G (c.fact 37 (f := .glo "_law_penned") rfl)
  obtain ⟨fd__law_copied, F__law_copied⟩ := mkFun (x := "_law_copied") (st := s__law_copied) (c.def_ 38 (d := d__law_copied) rfl) (He.keep_ok (c.fact 81 (f := .keep "_law_copied") rfl))
  have g__law_copied := He.glo_ok KX G (c.fact 38 (f := .glo "_law_copied") rfl)
  obtain ⟨fd__law_is_machine, F__law_is_machine⟩ := mkFun (x := "_law_is_machine") (st := s__law_is_machine) (c.def_ 39 (d := d__law_is_machine) rfl) (He.keep_ok (c.fact 82 (f := .keep "_law_is_machine") rfl))
  have g__law_is_machine := He.glo_ok KX G (c.fact 39 (f := .glo "_law_is_machine") rfl)
  obtain ⟨fd__law_is_short, F__law_is_short⟩ := mkFun (x := "_law_is_short") (st := s__law_is_short) (c.def_ 40 (d := d__law_is_short) rfl) (He.keep_ok (c.fact 83 (f := .keep "_law_is_short") rfl))
  have g__law_is_short := He.glo_ok KX G (c.fact 40 (f := .glo "_law_is_short") rfl)
  obtain ⟨fd__law_is_pen, F__law_is_pen⟩ := mkFun (x := "_law_is_pen") (st := s__law_is_pen) (c.def_ 41 (d := d__law_is_pen) rfl) (He.keep_ok (c.fact 84 (f := .keep "_law_is_pen") rfl))
  have g__law_is_pen := He.glo_ok KX G (c.fact 41 (f := .glo "_law_is_pen") rfl)
  obtain ⟨fd_law, F_law⟩ := mkFun (x := "law") (st := s_law) (c.def_ 42 (d := d_law) rfl) (He.keep_ok (c.fact 85 (f := .keep "law") rfl))
  have g_law := He.glo_ok KX G (c.fact 42 (f := .glo "law") rfl)
  have B : BI mg := ⟨He.free_ok KX G (c.fact 95 (f := .free "len") rfl), He.free_ok KX G (c.fact 86 (f := .free "abs") rfl), He.free_ok KX G (c.fact 87 (f := .free "all") rfl), He.free_ok KX G (c.fact 88 (f := .free "any") rfl), He.free_ok KX G (c.fact 104 (f := .free "sum") rfl), He.free_ok KX G (c.fact 98 (f := .free "min") rfl), He.free_ok KX G (c.fact 97 (f := .free "max") rfl), He.free_ok KX G (c.fact 102 (f := .free "sorted") rfl), He.free_ok KX G (c.fact 91 (f := .free "divmod") rfl), He.free_ok KX G (c.fact 94 (f := .free "isinstance") rfl), He.free_ok KX G (c.fact 93 (f := .free "int") rfl), He.free_ok KX G (c.fact 96 (f := .free "list") rfl), He.free_ok KX G (c.fact 103 (f := .free "str") rfl), He.free_ok KX G (c.fact 89 (f := .free "bool") rfl), He.free_ok KX G (c.fact 106 (f := .free "tuple") rfl), He.free_ok KX G (c.fact 99 (f := .free "range") rfl), He.free_ok KX G (c.fact 107 (f := .free "zip") rfl), He.free_ok KX G (c.fact 92 (f := .free "enumerate") rfl), He.free_ok KX G (c.fact 100 (f := .free "repr") rfl)⟩
  have B2 : BI2 mg := ⟨He.free_ok KX G (c.fact 90 (f := .free "dict") rfl), He.free_ok KX G (c.fact 101 (f := .free "set") rfl)⟩
  obtain ⟨xe0, xk0, xb0, xt0⟩ := He.exc_ok (c.fact 112 (f := .exc "BadScribe") rfl)
  have X_BadScribe : Rse K mg "BadScribe" (He.ga K "BadScribe") := ⟨xe0, He.glo_ok KX G (c.fact 109 (f := .glo "BadScribe") rfl), xk0, xb0, xt0⟩
  have sub_BadScribe := He.exm_ok (c.fact 118 (f := .exm "BadScribe" "WritingError" true) rfl)
  have gl_BadText := He.glo_ok KX G (c.fact 110 (f := .glo "BadText") rfl)
  have kp_BadText := He.keep_ok (c.fact 116 (f := .keep "BadText") rfl)
  have sub_BadText := He.exm_ok (c.fact 119 (f := .exm "BadText" "WritingError" true) rfl)
  obtain ⟨xe2, xk2, xb2, xt2⟩ := He.exc_ok (c.fact 113 (f := .exc "BadWords") rfl)
  have X_BadWords : Rse K mg "BadWords" (He.ga K "BadWords") := ⟨xe2, He.glo_ok KX G (c.fact 111 (f := .glo "BadWords") rfl), xk2, xb2, xt2⟩
  have sub_BadWords := He.exm_ok (c.fact 120 (f := .exm "BadWords" "WritingError" true) rfl)
  have gWE := He.glo_ok KX G (c.fact 108 (f := .glo "WritingError") rfl)
  have TW : CsW mg := ⟨(by
    obtain ⟨t, e⟩ := He.str_ok KX G (c.fact 121 (f := .str "LETTERS" "abc") rfl)
    exact ⟨_, e, ⟨t, rfl⟩⟩), (by
    obtain ⟨t, e⟩ := He.int_ok KX G (c.fact 122 (f := .int "MOST_ROWS" 8) rfl)
    exact ⟨_, e, ⟨t, rfl⟩⟩)⟩
  have TP : CsP mg := ⟨(by
    obtain ⟨t, e⟩ := He.str_ok KX G (c.fact 121 (f := .str "LETTERS" "abc") rfl)
    exact ⟨_, e, ⟨t, rfl⟩⟩), (by
    obtain ⟨t, e⟩ := He.int_ok KX G (c.fact 123 (f := .int "_MOST_ROWS" 4) rfl)
    exact ⟨_, e, ⟨t, rfl⟩⟩), (by
    obtain ⟨t, e⟩ := He.int_ok KX G (c.fact 124 (f := .int "_MOST_LETTERS" 8) rfl)
    exact ⟨_, e, ⟨t, rfl⟩⟩)⟩
  have U : InitC P K mg (He.ga K "BadText") (He.fAd K initP) := by
    rw [hP]
    exact init_of KX ini io gl_BadText kp_BadText (He.free_ok KX G (c.fact 105 (f := .free "super") rfl))
  have o__law_is_short : FnOk P w K mg base CX0 1 (He.ga K "_law_is_short") fd__law_is_short ["thing"] (p__is_told K) := ok__law_is_short F__law_is_short B
  have c__law_is_short : Cal P w K mg base 1 "_law_is_short" (p__is_told K) [] := mkCal o__law_is_short g__law_is_short F__law_is_short.kp (F__law_is_short.binds fun _ _ _ _ _ _ us hl => match us, hl with | [_], _ => rfl)
  have o_row_from : FnOk P w K mg base CX0 1 (He.ga K "row_from") fd_row_from ["rows", "row", "text"] (p_row_from K) := ok_row_from F_row_from B TW
  have c_row_from : Cal P w K mg base 1 "row_from" (p_row_from K) [] := mkCal o_row_from g_row_from F_row_from.kp (F_row_from.binds fun _ _ _ _ _ _ us hl => match us, hl with | [_, _, _], _ => rfl)
  have o__law_run : FnOk P w K mg base CX0 1 (He.ga K "_law_run") fd__law_run ["rows", "row", "letters"] (p_row_from K) := ok__law_run F__law_run B
  have c__law_run : Cal P w K mg base 1 "_law_run" (p_row_from K) [] := mkCal o__law_run g__law_run F__law_run.kp (F__law_run.binds fun _ _ _ _ _ _ us hl => match us, hl with | [_, _, _], _ => rfl)
  have o__law_penned : FnOk P w K mg base CX0 1 (He.ga K "_law_penned") fd__law_penned ["pen", "row", "letters"] (p_read_from K) := ok__law_penned F__law_penned B
  have c__law_penned : Cal P w K mg base 1 "_law_penned" (p_read_from K) [] := mkCal o__law_penned g__law_penned F__law_penned.kp (F__law_penned.binds fun _ _ _ _ _ _ us hl => match us, hl with | [_, _, _], _ => rfl)
  have o_read_from : FnOk P w K mg base CX0 1 (He.ga K "read_from") fd_read_from ["scribe", "row", "text"] (p_read_from K) := ok_read_from F_read_from B TP
  have c_read_from : Cal P w K mg base 1 "read_from" (p_read_from K) [] := mkCal o_read_from g_read_from F_read_from.kp (F_read_from.binds fun _ _ _ _ _ _ us hl => match us, hl with | [_, _, _], _ => rfl)
  have o_is_whole : FnOk P w K mg base CX0 1 (He.ga K "is_whole") fd_is_whole ["thing"] (p_is_whole K) := ok_is_whole F_is_whole B
  have c_is_whole : Cal P w K mg base 1 "is_whole" (p_is_whole K) [] := mkCal o_is_whole g_is_whole F_is_whole.kp (F_is_whole.binds fun _ _ _ _ _ _ us hl => match us, hl with | [_], _ => rfl)
  have o_is_word : FnOk P w K mg base CX0 1 (He.ga K "is_word") fd_is_word ["thing", "word"] (p_is_word K) := ok_is_word F_is_word B
  have c_is_word : Cal P w K mg base 1 "is_word" (p_is_word K) [] := mkCal o_is_word g_is_word F_is_word.kp (F_is_word.binds fun _ _ _ _ _ _ us hl => match us, hl with | [_, _], _ => rfl)
  have o_is_row : FnOk P w K mg base CX0 1 (He.ga K "is_row") fd_is_row ["thing", "many"] (p_is_row K) := ok_is_row F_is_row B
  have c_is_row : Cal P w K mg base 1 "is_row" (p_is_row K) [] := mkCal o_is_row g_is_row F_is_row.kp (F_is_row.binds fun _ _ _ _ _ _ us hl => match us, hl with | [_, _], _ => rfl)
  have o_is_rising : FnOk P w K mg base CX0 1 (He.ga K "is_rising") fd_is_rising ["items"] (p_is_rising K) := ok_is_rising F_is_rising B
  have c_is_rising : Cal P w K mg base 1 "is_rising" (p_is_rising K) [] := mkCal o_is_rising g_is_rising F_is_rising.kp (F_is_rising.binds fun _ _ _ _ _ _ us hl => match us, hl with | [_], _ => rfl)
  have o__law_mixed : FnOk P w K mg base CX0 1 (He.ga K "_law_mixed") fd__law_mixed ["draw"] spMixed := ok__law_mixed F__law_mixed B
  have c__law_mixed : Cal P w K mg base 1 "_law_mixed" spMixed [] := mkCal o__law_mixed g__law_mixed F__law_mixed.kp (F__law_mixed.binds fun _ _ _ _ _ _ us hl => match us, hl with | [_], _ => rfl)
  have o__law_begun : FnOk P w K mg base CX0 1 (He.ga K "_law_begun") fd__law_begun ["script"] (spBegun K) := ok__law_begun F__law_begun B
  have c__law_begun : Cal P w K mg base 1 "_law_begun" (spBegun K) [] := mkCal o__law_begun g__law_begun F__law_begun.kp (F__law_begun.binds fun _ _ _ _ _ _ us hl => match us, hl with | [_], _ => rfl)
  have o__law_is_number : FnOk P w K mg base CX0 1 (He.ga K "_law_is_number") fd__law_is_number ["thing", "end"] (p__law_is_number K) := ok__law_is_number F__law_is_number B
  have c__law_is_number : Cal P w K mg base 1 "_law_is_number" (p__law_is_number K) [] := mkCal o__law_is_number g__law_is_number F__law_is_number.kp (F__law_is_number.binds fun _ _ _ _ _ _ us hl => match us, hl with | [_, _], _ => rfl)
  have o__law_part : FnOk P w K mg base CX0 41 (He.ga K "_law_part") fd__law_part ["thing", "path"] (spPart K 40) := ok__law_part F__law_part B g__law_part 40
  have c__law_part : Cal P w K mg base 41 "_law_part" (spPart K 40) [] := mkCal o__law_part g__law_part F__law_part.kp (F__law_part.binds fun _ _ _ _ _ _ us hl => match us, hl with | [_, _], _ => rfl)
  have o__law_put : FnOk P w K mg base CX0 41 (He.ga K "_law_put") fd__law_put ["thing", "path", "part"] (spPut K 40) := ok__law_put F__law_put B g__law_put 40
  have c__law_put : Cal P w K mg base 41 "_law_put" (spPut K 40) [] := mkCal o__law_put g__law_put F__law_put.kp (F__law_put.binds fun _ _ _ _ _ _ us hl => match us, hl with | [_, _, _], _ => rfl)
  have o__law_paths : FnOk P w K mg base CX0 41 (He.ga K "_law_paths") fd__law_paths ["thing"] (spD K (f1 (g_law_paths 40))) := ok__law_paths F__law_paths B g__law_paths 40
  have c__law_paths : Cal P w K mg base 41 "_law_paths" (spD K (f1 (g_law_paths 40))) [] := mkCal o__law_paths g__law_paths F__law_paths.kp (F__law_paths.binds fun _ _ _ _ _ _ us hl => match us, hl with | [_], _ => rfl)
  have o_is_text : FnOk P w K mg base CX0 1 (He.ga K "is_text") fd_is_text ["thing"] (p_is_text K) := ok_is_text F_is_text B
  have c_is_text : Cal P w K mg base 1 "is_text" (p_is_text K) [] := mkCal o_is_text g_is_text F_is_text.kp (F_is_text.binds fun _ _ _ _ _ _ us hl => match us, hl with | [_], _ => rfl)
  have o_read_to_end : FnOk P w K mg base CX0 2 (He.ga K "read_to_end") fd_read_to_end ["scribe", "row", "text"] (p_read_to_end K) := ok_read_to_end F_read_to_end c_read_from
  have c_read_to_end : Cal P w K mg base 2 "read_to_end" (p_read_to_end K) [] := mkCal o_read_to_end g_read_to_end F_read_to_end.kp (F_read_to_end.binds fun _ _ _ _ _ _ us hl => match us, hl with | [_, _, _], _ => rfl)
  have o__law_copied : FnOk P w K mg base CX0 2 (He.ga K "_law_copied") fd__law_copied ["pen", "letters"] (p__law_copied K) := ok__law_copied F__law_copied c__law_penned
  have c__law_copied : Cal P w K mg base 2 "_law_copied" (p__law_copied K) [] := mkCal o__law_copied g__law_copied F__law_copied.kp (F__law_copied.binds fun _ _ _ _ _ _ us hl => match us, hl with | [_, _], _ => rfl)
  have o__law_is_pen : FnOk P w K mg base CX0 2 (He.ga K "_law_is_pen") fd__law_is_pen ["thing"] (p_is_scribe K) := ok__law_is_pen F__law_is_pen B c__law_is_number c__law_is_short
  have c__law_is_pen : Cal P w K mg base 2 "_law_is_pen" (p_is_scribe K) [] := mkCal o__law_is_pen g__law_is_pen F__law_is_pen.kp (F__law_is_pen.binds fun _ _ _ _ _ _ us hl => match us, hl with | [_], _ => rfl)
  have o__law_is_machine : FnOk P w K mg base CX0 2 (He.ga K "_law_is_machine") fd__law_is_machine ["thing"] (p__law_is_machine K) := ok__law_is_machine F__law_is_machine B B2 c__law_is_number
  have c__law_is_machine : Cal P w K mg base 2 "_law_is_machine" (p__law_is_machine K) [] := mkCal o__law_is_machine g__law_is_machine F__law_is_machine.kp (F__law_is_machine.binds fun _ _ _ _ _ _ us hl => match us, hl with | [_], _ => rfl)
  have o_check_text : FnOk P w K mg base (L2.CX P w) 4 (He.ga K "check_text") fd_check_text ["text"] (p_check_text K (He.ga K "BadText")) := ok_check_text F_check_text c_is_text U
  have c_check_text : CalX P w K mg base 4 "check_text" ["text"] (p_check_text K (He.ga K "BadText")) := mkCalX o_check_text g_check_text F_check_text.kp (F_check_text.binds fun _ _ _ _ _ _ us hl => match us, hl with | [_], _ => rfl) (all_check_text F_check_text)
  have o_is_between : FnOk P w K mg base CX0 2 (He.ga K "is_between") fd_is_between ["thing", "low", "high"] (p_is_between K) := ok_is_between F_is_between c_is_whole
  have c_is_between : Cal P w K mg base 2 "is_between" (p_is_between K) [] := mkCal o_is_between g_is_between F_is_between.kp (F_is_between.binds fun _ _ _ _ _ _ us hl => match us, hl with | [_, _, _], _ => rfl)
  have o__law_take : FnOk P w K mg base CX0 2 (He.ga K "_law_take") fd__law_take ["draw", "many"] spTake := ok__law_take F__law_take B c__law_mixed
  have c__law_take : Cal P w K mg base 2 "_law_take" spTake [] := mkCal o__law_take g__law_take F__law_take.kp (F__law_take.binds fun _ _ _ _ _ _ us hl => match us, hl with | [_, _], _ => rfl)
  have o__is_told : FnOk P w K mg base CX0 2 (He.ga K "_is_told") fd__is_told ["thing"] (p__is_told K) := ok__is_told F__is_told B TP c_is_text
  have c__is_told : Cal P w K mg base 2 "_is_told" (p__is_told K) [] := mkCal o__is_told g__is_told F__is_told.kp (F__is_told.binds fun _ _ _ _ _ _ us hl => match us, hl with | [_], _ => rfl)
  have o_is_rising_below : FnOk P w K mg base CX0 3 (He.ga K "is_rising_below") fd_is_rising_below ["thing", "many"] (p_is_rising_below K) := ok_is_rising_below F_is_rising_below B c_is_between c_is_rising
  have c_is_rising_below : Cal P w K mg base 3 "is_rising_below" (p_is_rising_below K) [] := mkCal o_is_rising_below g_is_rising_below F_is_rising_below.kp (F_is_rising_below.binds fun _ _ _ _ _ _ us hl => match us, hl with | [_, _], _ => rfl)
  have o__law_pick : FnOk P w K mg base CX0 3 (He.ga K "_law_pick") fd__law_pick ["draw", "some"] (spPick K) := ok__law_pick F__law_pick B c__law_take
  have c__law_pick : Cal P w K mg base 3 "_law_pick" (spPick K) [] := mkCal o__law_pick g__law_pick F__law_pick.kp (F__law_pick.binds fun _ _ _ _ _ _ us hl => match us, hl with | [_, _], _ => rfl)
  have o__is_row_below : FnOk P w K mg base CX0 3 (He.ga K "_is_row_below") fd__is_row_below ["thing", "many"] (p__is_row_below K) := ok__is_row_below F__is_row_below B TW c_is_row c_is_between
  have c__is_row_below : Cal P w K mg base 3 "_is_row_below" (p__is_row_below K) [] := mkCal o__is_row_below g__is_row_below F__is_row_below.kp (F__is_row_below.binds fun _ _ _ _ _ _ us hl => match us, hl with | [_, _], _ => rfl)
  have o__is_row_of : FnOk P w K mg base CX0 3 (He.ga K "_is_row_of") fd__is_row_of ["thing", "many"] (p__is_row_of K) := ok__is_row_of F__is_row_of B TP c_is_row c_is_between c__is_told
  have c__is_row_of : Cal P w K mg base 3 "_is_row_of" (p__is_row_of K) [] := mkCal o__is_row_of g__is_row_of F__is_row_of.kp (F__is_row_of.binds fun _ _ _ _ _ _ us hl => match us, hl with | [_, _], _ => rfl)
  have o__law_machine : FnOk P w K mg base CX0 4 (He.ga K "_law_machine") fd__law_machine ["draw", "most"] (p__law_machine K) := ok__law_machine F__law_machine B c__law_take c__law_pick
  have c__law_machine : Cal P w K mg base 4 "_law_machine" (p__law_machine K) [] := mkCal o__law_machine g__law_machine F__law_machine.kp (F__law_machine.binds fun _ _ _ _ _ _ us hl => match us, hl with | [_, _], _ => rfl)
  have o__law_string : FnOk P w K mg base CX0 4 (He.ga K "_law_string") fd__law_string ["draw", "most"] (p__law_string K) := ok__law_string F__law_string B c__law_take c__law_pick
  have c__law_string : Cal P w K mg base 4 "_law_string" (p__law_string K) [] := mkCal o__law_string g__law_string F__law_string.kp (F__law_string.binds fun _ _ _ _ _ _ us hl => match us, hl with | [_, _], _ => rfl)
  have o__law_odd : FnOk P w K mg base CX0 4 (He.ga K "_law_odd") fd__law_odd ["draw", "part", "words"] (spOdd K) := ok__law_odd F__law_odd B c__law_take c__law_pick
  have c__law_odd : Cal P w K mg base 4 "_law_odd" (spOdd K) [] := mkCal o__law_odd g__law_odd F__law_odd.kp (F__law_odd.binds fun _ _ _ _ _ _ us hl => match us, hl with | [_, _, _], _ => rfl)
  have o_is_words : FnOk P w K mg base CX0 4 (He.ga K "is_words") fd_is_words ["thing"] (p_is_words K) := ok_is_words F_is_words B TW c_is_row c_is_word c__is_row_below c_is_rising_below
  have c_is_words : Cal P w K mg base 4 "is_words" (p_is_words K) [] := mkCal o_is_words g_is_words F_is_words.kp (F_is_words.binds fun _ _ _ _ _ _ us hl => match us, hl with | [_], _ => rfl)
  have o_is_scribe : FnOk P w K mg base CX0 4 (He.ga K "is_scribe") fd_is_scribe ["thing"] (p_is_scribe K) := ok_is_scribe F_is_scribe B TP c_is_row c_is_word c__is_row_of c__is_told
  have c_is_scribe : Cal P w K mg base 4 "is_scribe" (p_is_scribe K) [] := mkCal o_is_scribe g_is_scribe F_is_scribe.kp (F_is_scribe.binds fun _ _ _ _ _ _ us hl => match us, hl with | [_], _ => rfl)
  have o__law_pen : FnOk P w K mg base CX0 5 (He.ga K "_law_pen") fd__law_pen ["draw", "most", "long"] (p__law_pen K) := ok__law_pen F__law_pen B c__law_take c__law_string
  have c__law_pen : Cal P w K mg base 5 "_law_pen" (p__law_pen K) [] := mkCal o__law_pen g__law_pen F__law_pen.kp (F__law_pen.binds fun _ _ _ _ _ _ us hl => match us, hl with | [_, _, _], _ => rfl)
  have o_check_words : FnOk P w K mg base (L2.CX P w) 5 (He.ga K "check_words") fd_check_words ["words"] (p_check_words K (He.ga K "BadWords")) := ok_check_words F_check_words c_is_words X_BadWords
  have c_check_words : CalX P w K mg base 5 "check_words" ["words"] (p_check_words K (He.ga K "BadWords")) := mkCalX o_check_words g_check_words F_check_words.kp (F_check_words.binds fun _ _ _ _ _ _ us hl => match us, hl with | [_], _ => rfl) (all_check_words F_check_words)
  have o_check_scribe : FnOk P w K mg base (L2.CX P w) 5 (He.ga K "check_scribe") fd_check_scribe ["scribe"] (p_check_scribe K (He.ga K "BadScribe")) := ok_check_scribe F_check_scribe c_is_scribe X_BadScribe
  have c_check_scribe : CalX P w K mg base 5 "check_scribe" ["scribe"] (p_check_scribe K (He.ga K "BadScribe")) := mkCalX o_check_scribe g_check_scribe F_check_scribe.kp (F_check_scribe.binds fun _ _ _ _ _ _ us hl => match us, hl with | [_], _ => rfl) (all_check_scribe F_check_scribe)
  have o__law_bent : FnOk P w K mg base CX0 42 (He.ga K "_law_bent") fd__law_bent ["draw", "thing", "words"] (spBent K) := ok__law_bent F__law_bent B c__law_pick c__law_paths c__law_part c__law_put c__law_odd
  have c__law_bent : Cal P w K mg base 42 "_law_bent" (spBent K) [] := mkCal o__law_bent g__law_bent F__law_bent.kp (F__law_bent.binds fun _ _ _ _ _ _ us hl => match us, hl with | [_, _, _], _ => rfl)
  have o_scribed : FnOk P w K mg base (L2.CX P w) 6 (He.ga K "scribed") fd_scribed ["scribe", "text"] (p_scribed K (He.ga K "BadScribe") (He.ga K "BadText")) := ok_scribed F_scribed c_check_scribe c_check_text c_read_to_end
  have c_scribed : CalX P w K mg base 6 "scribed" ["scribe", "text"] (p_scribed K (He.ga K "BadScribe") (He.ga K "BadText")) := mkCalX o_scribed g_scribed F_scribed.kp (F_scribed.binds fun _ _ _ _ _ _ us hl => match us, hl with | [_, _], _ => rfl) (all_scribed F_scribed)
  have o_row_behind : FnOk P w K mg base (L2.CX P w) 6 (He.ga K "row_behind") fd_row_behind ["words", "text"] (p_row_behind K (He.ga K "BadWords") (He.ga K "BadText")) := ok_row_behind F_row_behind c_check_words c_check_text c_row_from
  have c_row_behind : CalX P w K mg base 6 "row_behind" ["words", "text"] (p_row_behind K (He.ga K "BadWords") (He.ga K "BadText")) := mkCalX o_row_behind g_row_behind F_row_behind.kp (F_row_behind.binds fun _ _ _ _ _ _ us hl => match us, hl with | [_, _], _ => rfl) (all_row_behind F_row_behind)
  have o_effect : FnOk P w K mg base (L2.CX P w) 6 (He.ga K "effect") fd_effect ["words", "text"] (p_effect K (He.ga K "BadWords") (He.ga K "BadText")) := ok_effect F_effect B c_check_words c_check_text c_row_from
  have c_effect : CalX P w K mg base 6 "effect" ["words", "text"] (p_effect K (He.ga K "BadWords") (He.ga K "BadText")) := mkCalX o_effect g_effect F_effect.kp (F_effect.binds fun _ _ _ _ _ _ us hl => match us, hl with | [_, _], _ => rfl) (all_effect F_effect)
  have o_takes_text : FnOk P w K mg base (L2.CX P w) 7 (He.ga K "takes_text") fd_takes_text ["words", "text"] (p_takes_text K (He.ga K "BadWords") (He.ga K "BadText")) := ok_takes_text F_takes_text c_row_behind
  have c_takes_text : CalX P w K mg base 7 "takes_text" ["words", "text"] (p_takes_text K (He.ga K "BadWords") (He.ga K "BadText")) := mkCalX o_takes_text g_takes_text F_takes_text.kp (F_takes_text.binds fun _ _ _ _ _ _ us hl => match us, hl with | [_, _], _ => rfl) (all_takes_text F_takes_text)
  have ed : fd_law = fd := by
    obtain ⟨oc, od, kV, doc, pm, an, cdv, ct, osl, e, lk, _⟩ := F_law.ex
    have z : h.get? (He.ga K "law") = _ := KX _ _ lk
    rw [ho] at z
    cases z
    cases hd
    rfl
  have b_row := F_row_behind.binds (ps := ["words", "text"]) fun _ _ _ _ _ _ us hl => match us, hl with | [_, _], _ => rfl
  have b_take := F_takes_text.binds (ps := ["words", "text"]) fun _ _ _ _ _ _ us hl => match us, hl with | [_, _], _ => rfl
  have b_eff := F_effect.binds (ps := ["words", "text"]) fun _ _ _ _ _ _ us hl => match us, hl with | [_, _], _ => rfl
  rw [← hP]
  exact ⟨He.ga K "is_scribe", He.ga K "row_behind", He.ga K "takes_text", He.ga K "effect", He.ga K "scribed", He.ga K "_law_caught", He.fAd K initP, fd_law, fd_is_scribe, fd_row_behind, fd_takes_text, fd_effect, fd_scribed, fd__law_caught,
    { B := B, F := F_law, hcode := by rw [ed]; exact hc, TB := TB, Fg := F__law_caught, mg' := g__law_caught, hCS := gWE, subT := sub_BadText, subW := sub_BadWords, subP := sub_BadScribe,
      Fp := o_is_scribe, mp := g_is_scribe, kp := F_is_scribe.kp, kbp := kb_one F_is_scribe (bind_scribe F_is_scribe),
      Fr := o_row_behind, mr := g_row_behind, kr := F_row_behind.kp, kbr := kb_two F_row_behind (bind_row F_row_behind), br := b_row,
      Ft := o_takes_text, mt := g_takes_text, kt := F_takes_text.kp, bt := b_take,
      Fe := o_effect, me := g_effect, ke := F_effect.kp, kbe := kb_two F_effect (bind_effect F_effect), be := b_eff,
      Fs := o_scribed, ms := g_scribed, ks := F_scribed.kp, kbs := kb_two F_scribed (bind_scribed F_scribed),
      U := U, X_BadWords := X_BadWords, X_BadScribe := X_BadScribe, CT0 := exc_of hxT, CW0 := exc_of hxW, CP0 := exc_of hxP,
      c_is_words := c_is_words, c_takes_text := c_takes_text, c_scribed := c_scribed, c__law_begun := c__law_begun, c__law_pick := c__law_pick, c__law_machine := c__law_machine, c__law_pen := c__law_pen, c__law_bent := c__law_bent, c__law_string := c__law_string, c__law_run := c__law_run, c__law_copied := c__law_copied, c__law_is_machine := c__law_is_machine, c__law_is_pen := c__law_is_pen }⟩
theorem law_room : Room 60 callerA := ⟨rfl, by decide, by decide⟩
end Sx
open PySem PySem.W PySem.Calls PyProof.Rows
theorem PySem.Challenge.cw_samewriting_k51_word_machines_and_scribe_holds : PySem.Challenge.rw_samewriting_k51_word_machines_and_scribe.Holds := by
  w_on; o_law
  refine HandSHeadRun.head_any (r := OpenLaw.row PySem.Challenge.rw_samewriting_k51_word_machines_and_scribe) (q := view (OpenLaw.row PySem.Challenge.rw_samewriting_k51_word_machines_and_scribe).prog [56]) (H := Sx.hk) (ob := Sx.obH) (M := 12000) (loose := Sx.looseL) (d := HandSHeadRun.topDef (OpenLaw.row PySem.Challenge.rw_samewriting_k51_word_machines_and_scribe).prog 56) (kwd := []) Sx.ob_eq
    (by kernel_rfl) (fun s => by kernel_rfl) Sx.runH (by kernel_rfl) (by kernel_rfl) (by kernel_rfl) (by rfl) (by first | assumption | decide +kernel) (by decide +kernel) ⟨rfl, rfl, rfl, rfl, rfl, by decide +kernel⟩ ?hw ?hc
  case hw => w_witness2
  case hc =>
    refine Sx.walk_runT (l := PySem.Challenge.rw_samewriting_k51_word_machines_and_scribe) (n := 63) (CX := L2.CX0) rfl (by decide) (by kernel_rfl) (by kernel_rfl) ?F (fun _ _ _ _ z => z)
    intro w mg fa h Y G hmg0
    obtain ⟨K, KX, c, mo, io⟩ := Y
    have hmg : mg ("law" : PySem.Str) = some (.ref fa) := by
      have e : (HandSHeadRun.topDef (OpenLaw.row PySem.Challenge.rw_samewriting_k51_word_machines_and_scribe).prog 56).name = ("law" : PySem.Str) := by kernel_rfl
      rw [← e]
      exact hmg0
    have gl := He.glo_ok KX G (c.fact 42 (f := .glo "law") rfl)
    have efa : fa = He.ga K "law" := by
      rw [hmg] at gl
      cases gl
      rfl
    subst efa
    refine ⟨K, KX, fun c0 t o fd ho hd hc hh htb => ⟨Sx.tab_of KX (by
      have hb := mo
      unfold Sx.moreB at hb
      simp only [Bool.and_eq_true] at hb
      exact hb.1.2) ho hd hc hh, fun s base H a ns hl K1 G1 TB hP hs e0 => ?_⟩⟩
    obtain ⟨fp, fr, ft, fe, fs, g, fI, fdl, fdp, fdr, fdt, fde, fds, fdg, L⟩ := Sx.facts (w := w) KX G c mo io ho hd hc TB
    exact Sx.law_by L Sx.law_room hl hs hP e0
