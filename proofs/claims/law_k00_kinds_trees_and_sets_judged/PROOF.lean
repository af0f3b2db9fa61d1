import PyProof.Rows.All
import Wide.All
import OpenK.AllK
import Wide.FinOn
import HandS.ForMost
import HandS.ForExc
import HandS.Evl
import HandS.IsInst
import HandS.TupAny
import HandS.Wide
import HandS.WideBits
import HandS.Zip
import HandS.ExcValue
import HandS.ExcIs
import HandS.Lambda
import HandS.Codes
import HandS.Conv
import PyProof.ReprRoads
import HandS.Style
import KE.GoesMore
import PyProof.ReprLen
import HandS.RaiseMore
import HandS.Head0
import HandS.Head1
import HandS.Head2
import HandS.HeadEnd
import HandS.HeadHook1
import HandS.HeadHook2
import HandS.EndTab
import KE.KDictZip
import HandS.RevTup
import KE.KDictPairs
import PyProof.NeData
import HandS.SetTxt0
import HandS.SetFor
import PyProof.Rows.SortShellAny
import HandS.Strs
import HandS.Text
import PyProof.Rows.StrFit
import HandS.TupLe
import HandS.More
import HandS.WordsExc
import HandS.Defaults
import Lean
import PySem.Challenge.RW_samewriting_k00_kinds_trees_and_sets_jud
set_option Elab.async false
set_option linter.all false
set_option maxRecDepth 100000
set_option maxHeartbeats 1000000
/-! W0: data (PyData) over the hand layer: what an expression, a test, a block comes to, on a heap that only grows. -/
namespace Sx
open PySem PySem.Spec PyProof.Rows L2

/-! ### frozen and whole heaps that grow together -/
structure Grow (F H F' H' : Hp) : Prop where
  f : Same F F'
  h : Same H H'
  i : Same F' H'
  n : ∀ a o, F' a = some o → F a = none → H a = none
theorem Grow.same {F H F' H' : Hp} (g : Grow F H F' H') : Same F H' := g.f.trans g.i
theorem Grow.start {F H : Hp} (s : Same F H) : Grow F H F H := ⟨Same.refl _, Same.refl _, s, fun a o e n => by rw [n] at e; cases e⟩
theorem Grow.trans {F H F1 H1 F2 H2 : Hp} (a : Grow F H F1 H1) (b : Grow F1 H1 F2 H2) : Grow F H F2 H2 where
  f := a.f.trans b.f
  h := a.h.trans b.h
  i := b.i
  n := fun x o e n => by
    cases q : F1 x with
    | none => exact a.h.free (b.n x o e q)
    | some u => exact a.n x u q n
theorem same_upd {H : Hp} {p : Addr} {o : HO} (h : H p = none) : Same H (upd H p o) := fun b x e => by
  rw [upd_ne (ne_of_none e h)]
  exact e
/-- a new object that is known from now on -/
theorem Grow.known {F H : Hp} {p : Addr} {o : HO} (s : Same F H) (hp : H p = none) : Grow F H (upd F p o) (upd H p o) where
  f := same_upd (s.free hp)
  h := same_upd hp
  i := fun b x e => by
    by_cases hb : b = p
    · rw [hb, upd_same] at e ⊢
      exact e
    · rw [upd_ne hb] at e ⊢
      exact s b x e
  n := fun a x e n => by
    by_cases hb : a = p
    · rw [hb]
      exact hp
    · rw [upd_ne hb, n] at e
      cases e
/-- a new object that is nobody's business -/
theorem Grow.own {F H : Hp} {p : Addr} {o : HO} (s : Same F H) (hp : H p = none) : Grow F H F (upd H p o) :=
  ⟨Same.refl _, same_upd hp, s.trans (same_upd hp), fun a x e n => by rw [n] at e; cases e⟩
/-- what was known before the growing is known beside it too -/
theorem Grow.widen {F F2 H F' H' : Hp} (g : Grow F H F' H') (a : Same F F2) (b : Same F2 H) : ∃ G, Same F' G ∧ Grow F2 H G H' := by
  refine ⟨fun x => match F' x with | some o => some o | none => F2 x, fun x o e => by show (match F' x with | some o => some o | none => F2 x) = some o; rw [e], ⟨fun x o e => ?_, g.h, fun x o e => ?_, fun x o e n => ?_⟩⟩
  · show (match F' x with | some o => some o | none => F2 x) = some o
    cases q : F' x with
    | none => exact e
    | some u =>
      have h1 := g.i x u q
      have h2 := g.h x o (b x o e)
      rw [h1] at h2
      exact h2
  · have e' : (match F' x with | some o => some o | none => F2 x) = some o := e
    cases q : F' x with
    | none =>
      rw [q] at e'
      exact g.h x o (b x o e')
    | some u =>
      rw [q] at e'
      exact g.i x o (q.trans e')
  · have e' : (match F' x with | some o => some o | none => F2 x) = some o := e
    cases q : F' x with
    | none =>
      rw [q] at e'
      have e2 : F2 x = some o := e'
      rw [n] at e2
      cases e2
    | some u => exact g.n x u q (a.free n)

/-! ### data, an empty dict among it -/
mutual
inductive Dq (K : PySem.W.Frag) (H : Hp) : V → PyData → Prop
  | non : Dq K H .non .none
  | bl (b : Bool) : Dq K H (.bl b) (.bool b)
  | int (i : Int) : Dq K H (.int i) (.int i)
  | str (x : Str) : Dq K H (.str x) (.str x)
  | lst {a : Addr} {xs : List V} {ds : List PyData} : SqL K H a xs → DqAll K H xs ds → Dq K H (.ref a) (.list ds)
  | tup {a : Addr} {xs : List V} {ds : List PyData} : SqT K H a xs → DqAll K H xs ds → Dq K H (.ref a) (.tuple ds)
  | emp {a : Addr} : H a = some (.dK []) → Dq K H (.ref a) (.dict [])
inductive DqAll (K : PySem.W.Frag) (H : Hp) : List V → List PyData → Prop
  | nil : DqAll K H [] []
  | cons {v : V} {vs : List V} {d : PyData} {ds : List PyData} : Dq K H v d → DqAll K H vs ds → DqAll K H (v :: vs) (d :: ds)
end
/-! ### data stays data -/
theorem same_seqT {K : PySem.W.Frag} {H H' : Hp} {a : Addr} {xs : List V} (e : Same H H') (h : SqT K H a xs) : SqT K H' a xs := by
  rcases h with (h | ⟨o, h⟩) | h
  · exact .inl (.inl (e _ _ h))
  · exact .inl (.inr ⟨o, e _ _ h⟩)
  · exact .inr h
section
variable {K : PySem.W.Frag} {F G : Hp}
mutual
theorem dp_mono (s : Same F G) : ∀ (d : PyData) (v : V), Dq K F v d → Dq K G v d
  | .none, _, h => by cases h; exact .non
  | .bool b, _, h => by cases h; exact .bl b
  | .int i, _, h => by cases h; exact .int i
  | .str x, _, h => by cases h; exact .str x
  | .list ds, _, h => by
    cases h with
    | lst a b => exact .lst (s.seq a) (dps_mono s ds _ b)
  | .tuple ds, _, h => by
    cases h with
    | tup a b => exact .tup (same_seqT s a) (dps_mono s ds _ b)
  | .dict _, _, h => by
    cases h with
    | emp e => exact .emp (s _ _ e)
theorem dps_mono (s : Same F G) : ∀ (ds : List PyData) (vs : List V), DqAll K F vs ds → DqAll K G vs ds
  | [], _, h => by cases h; exact .nil
  | d :: ds, _, h => by
    cases h with
    | cons a b => exact .cons (dp_mono s d _ a) (dps_mono s ds _ b)
end
end
end Sx
namespace Sx
open PySem PySem.Spec PyProof.Rows L2
theorem Dq.up {K : PySem.W.Frag} {F G : Hp} {v : V} {d : PyData} (h : Dq K F v d) (s : Same F G) : Dq K G v d := dp_mono s d v h
theorem DqAll.up {K : PySem.W.Frag} {F G : Hp} {v : List V} {d : List PyData} (h : DqAll K F v d) (s : Same F G) : DqAll K G v d := dps_mono s d v h
theorem DqAll.len {K : PySem.W.Frag} {F : Hp} : ∀ {vs : List V} {ds : List PyData}, DqAll K F vs ds → vs.length = ds.length
  | _, _, .nil => rfl
  | _, _, .cons _ b => congrArg (· + 1) (DqAll.len b)
theorem DqAll.get {K : PySem.W.Frag} {F : Hp} : ∀ {vs : List V} {ds : List PyData} {i : Nat} {d : PyData}, DqAll K F vs ds → ds[i]? = some d → ∃ v, vs[i]? = some v ∧ Dq K F v d
  | _, _, _, _, .nil, e => by simp at e
  | _, _, 0, _, .cons a _, e => by simp at e; subst e; exact ⟨_, rfl, a⟩
  | _, _, i + 1, _, .cons _ b, e => by
    obtain ⟨v, h1, h2⟩ := DqAll.get (i := i) b (by simpa using e)
    exact ⟨v, by simpa using h1, h2⟩
theorem DqAll.getV {K : PySem.W.Frag} {F : Hp} : ∀ {vs : List V} {ds : List PyData} {i : Nat} {v : V}, DqAll K F vs ds → vs[i]? = some v → ∃ d, ds[i]? = some d ∧ Dq K F v d
  | _, _, _, _, .nil, e => by simp at e
  | _, _, 0, _, .cons a _, e => by simp at e; subst e; exact ⟨_, rfl, a⟩
  | _, _, i + 1, _, .cons _ b, e => by
    obtain ⟨v, h1, h2⟩ := DqAll.getV (i := i) b (by simpa using e)
    exact ⟨v, by simpa using h1, h2⟩
theorem DqAll.app {K : PySem.W.Frag} {F : Hp} : ∀ {vs ws : List V} {ds es : List PyData}, DqAll K F vs ds → DqAll K F ws es → DqAll K F (vs ++ ws) (ds ++ es)
  | _, _, _, _, .nil, h => h
  | _, _, _, _, .cons a b, h => .cons a (DqAll.app b h)
theorem DqAll.drop {K : PySem.W.Frag} {F : Hp} : ∀ {vs : List V} {ds : List PyData} (n : Nat), DqAll K F vs ds → DqAll K F (vs.drop n) (ds.drop n)
  | _, _, 0, h => h
  | _, _, _ + 1, .nil => .nil
  | _, _, n + 1, .cons _ b => DqAll.drop n b
theorem DqAll.take {K : PySem.W.Frag} {F : Hp} : ∀ {vs : List V} {ds : List PyData} (n : Nat), DqAll K F vs ds → DqAll K F (vs.take n) (ds.take n)
  | _, _, 0, _ => .nil
  | _, _, _ + 1, .nil => .nil
  | _, _, n + 1, .cons a b => .cons a (DqAll.take n b)

end Sx
namespace Sx
open PySem PySem.Spec PyProof.Rows L2
section
variable {K : PySem.W.Frag} {F : Hp}
mutual
/-- without dicts it is the layer's own data -/
theorem dq_dp : ∀ (d : PyData) (v : V), Dq K F v d → PyData.hasDict d = false → L2.Dp K F v d
  | .none, _, h, _ => by cases h; exact .non
  | .bool b, _, h, _ => by cases h; exact .bl b
  | .int i, _, h, _ => by cases h; exact .int i
  | .str x, _, h, _ => by cases h; exact .str x
  | .list ds, _, h, e => by
    cases h with
    | lst a b => exact .lst a (dqs_dps ds _ b e)
  | .tuple ds, _, h, e => by
    cases h with
    | tup a b => exact .tup a (dqs_dps ds _ b e)
  | .dict _, _, _, e => by cases e
theorem dqs_dps : ∀ (ds : List PyData) (vs : List V), DqAll K F vs ds → PyData.hasDictAll ds = false → L2.DpAll K F vs ds
  | [], _, h, _ => by cases h; exact .nil
  | d :: ds, _, h, e => by
    have e' : (PyData.hasDict d || PyData.hasDictAll ds) = false := e
    rw [Bool.or_eq_false_iff] at e'
    cases h with
    | cons a b => exact .cons (dq_dp d _ a e'.1) (dqs_dps ds _ b e'.2)
end
mutual
theorem dp_dq : ∀ (d : PyData) (v : V), L2.Dp K F v d → Dq K F v d
  | .none, _, h => by cases h; exact .non
  | .bool b, _, h => by cases h; exact .bl b
  | .int i, _, h => by cases h; exact .int i
  | .str x, _, h => by cases h; exact .str x
  | .list ds, _, h => by
    cases h with
    | lst a b => exact .lst a (dps_dqs ds _ b)
  | .tuple ds, _, h => by
    cases h with
    | tup a b => exact .tup a (dps_dqs ds _ b)
  | .dict _, _, h => by cases h
theorem dps_dqs : ∀ (ds : List PyData) (vs : List V), L2.DpAll K F vs ds → DqAll K F vs ds
  | [], _, h => by cases h; exact .nil
  | d :: ds, _, h => by
    cases h with
    | cons a b => exact .cons (dp_dq d _ a) (dps_dqs ds _ b)
end
end
/-! ### what comes of an expression, a test, arguments -/
variable {K : PySem.W.Frag}
def EvD (K : PySem.W.Frag) (te : TE) (σ : L2.St) (F : Hp) (d : PyData) : Prop := ∀ H, Same F H → ∀ Q : VK, (∀ v F' H', Grow F H F' H' → Dq K F' v d → Q v H') → te σ H Q
def EvB (tt : TT) (σ : L2.St) (F : Hp) (b : Bool) : Prop := ∀ H, Same F H → ∀ Q : Bool → Hp → Prop, (∀ F' H', Grow F H F' H' → Q b H') → tt σ H Q
def EvS (K : PySem.W.Frag) (ta : TA) (σ : L2.St) (F : Hp) (ds : List PyData) : Prop := ∀ H, Same F H → ∀ Q : List V → Hp → Prop, (∀ vs F' H', Grow F H F' H' → DqAll K F' vs ds → Q vs H') → ta σ H Q
def Slot (K : PySem.W.Frag) (σ : L2.St) (F : Hp) (i : Nat) (d : PyData) : Prop := ∃ v, σ[i]? = some (some v) ∧ Dq K F v d
section
variable {σ : L2.St} {F G : Hp} {te ta tb : TE} {t u : TT} {d d1 d2 : PyData} {b : Bool}
theorem Slot.up {i : Nat} (h : Slot K σ F i d) (s : Same F G) : Slot K σ G i d := let ⟨v, a, b⟩ := h; ⟨v, a, b.up s⟩
theorem EvD.up (h : EvD K te σ F d) (s : Same F G) : EvD K te σ G d := fun H sH Q q => h H (s.trans sH) Q fun v F' H' g r => by
  obtain ⟨G', a, b⟩ := g.widen s sH
  exact q v G' H' b (r.up a)
theorem EvB.up (h : EvB t σ F b) (s : Same F G) : EvB t σ G b := fun H sH Q q => h H (s.trans sH) Q fun F' H' g => by
  obtain ⟨G', a, b⟩ := g.widen s sH
  exact q G' H' b
theorem EvS.up {ta : TA} {ds : List PyData} (h : EvS K ta σ F ds) (s : Same F G) : EvS K ta σ G ds := fun H sH Q q => h H (s.trans sH) Q fun v F' H' g r => by
  obtain ⟨G', a, b⟩ := g.widen s sH
  exact q v G' H' b (r.up a)
theorem ev_var {i : Nat} (h : Slot K σ F i d) : EvD K (tVar i) σ F d := fun H s Q q => let ⟨v, a, r⟩ := h; ⟨v, a, q v F H (.start s) r⟩
theorem ev_of {v : V} (r : ∀ F, Dq K F v d) : EvD K (tC v) σ F d := fun H s Q q => q v F H (.start s) (r F)
theorem ev_int {i : Int} : EvD K (tC (.int i)) σ F (.int i) := ev_of fun _ => .int i
theorem ev_str {x : Str} : EvD K (tC (.str x)) σ F (.str x) := ev_of fun _ => .str x
theorem ev_bl {x : Bool} : EvD K (tC (.bl x)) σ F (.bool x) := ev_of fun _ => .bl x
theorem ev_non : EvD K (tC .non) σ F .none := ev_of fun _ => .non
theorem ev_cd {v : V} (r : Dq K F v d) : EvD K (tC v) σ F d := fun H s Q q => q v F H (.start s) r
theorem EvD.is (h : EvD K te σ F d) (e : d = d1) : EvD K te σ F d1 := e ▸ h
theorem EvB.is {c : Bool} (h : EvB t σ F b) (e : b = c) : EvB t σ F c := e ▸ h
/-- a two-place operation -/
def RvD (K : PySem.W.Frag) (r : R2) (d1 d2 d : PyData) : Prop := ∀ F x y H, Same F H → Dq K F x d1 → Dq K F y d2 → ∀ Q : VK, (∀ v F' H', Grow F H F' H' → Dq K F' v d → Q v H') → r x y H Q
theorem ev_op {r : R2} (ha : EvD K ta σ F d1) (hb : EvD K tb σ F d2) (hr : RvD K r d1 d2 d) : EvD K (tOp r ta tb) σ F d := fun H s Q q =>
  ha H s _ fun x F1 H1 g1 r1 => hb.up g1.f H1 g1.i _ fun y F2 H2 g2 r2 => hr F2 x y H2 g2.i (r1.up g2.f) r2 Q fun v F' H' g r => q v F' H' ((g1.trans g2).trans g) r
theorem rv_now {r : R2} {v : V} (h : ∀ F x y H, Dq K F x d1 → Dq K F y d2 → Same F H → ∀ Q : VK, Q v H → r x y H Q) (hv : ∀ F, Dq K F v d) : RvD K r d1 d2 d := fun F x y H s a b Q q => h F x y H a b s Q (q v F H (.start s) (hv F))
theorem ea_nil : EvS K tNil σ F [] := fun H s Q q => q [] F H (.start s) .nil
theorem ea_cons {ta : TA} {ds : List PyData} (h : EvD K te σ F d) (hr : EvS K ta σ F ds) : EvS K (tCons te ta) σ F (d :: ds) := fun H s Q q =>
  h H s _ fun x F1 H1 g1 r1 => hr.up g1.f H1 g1.i _ fun xs F2 H2 g2 r2 => q _ F2 H2 (g1.trans g2) (.cons (r1.up g2.f) r2)
/-! tests -/
theorem eb_val (h : EvD K te σ F (.bool b)) : EvB (tB te) σ F b := fun H s Q q => h H s _ fun v F1 H1 g r => by
  cases r
  exact ⟨b, rfl, q F1 H1 g⟩
theorem eb_test (h : EvD K te σ F (.bool b)) : EvB (tTest te) σ F b := fun H s Q q => h H s _ fun v F1 H1 g r => by
  cases r
  exact ⟨b, rfl, q F1 H1 g⟩
theorem eb_and {c : Bool} (h1 : EvB t σ F b) (h2 : b = true → EvB u σ F c) : EvB (tAnd t u) σ F (b && c) := fun H s Q q => h1 H s _ fun F1 H1 g1 => by
  cases b with
  | true => exact (h2 rfl).up g1.f H1 g1.i _ fun F2 H2 g2 => q F2 H2 (g1.trans g2)
  | false => exact q F1 H1 g1
theorem eb_or {c : Bool} (h1 : EvB t σ F b) (h2 : b = false → EvB u σ F c) : EvB (tOr t u) σ F (b || c) := fun H s Q q => h1 H s _ fun F1 H1 g1 => by
  cases b with
  | false => exact (h2 rfl).up g1.f H1 g1.i _ fun F2 H2 g2 => q F2 H2 (g1.trans g2)
  | true => exact q F1 H1 g1
theorem eb_not (h : EvB t σ F b) : EvB (tNot t) σ F (!b) := fun H s Q q => h H s _ fun F1 H1 g => q F1 H1 g
theorem ev_and {c : Bool} (h1 : EvD K ta σ F (.bool b)) (h2 : b = true → EvD K tb σ F (.bool c)) : EvD K (tAndV ta tb) σ F (.bool (b && c)) := fun H s Q q => h1 H s _ fun v F1 H1 g1 r => by
  cases r
  refine ⟨b, rfl, ?_⟩
  cases b with
  | true => exact (h2 rfl).up g1.f H1 g1.i _ fun v F2 H2 g2 r => q v F2 H2 (g1.trans g2) r
  | false => exact q _ F1 H1 g1 (.bl false)
theorem ev_or {c : Bool} (h1 : EvD K ta σ F (.bool b)) (h2 : b = false → EvD K tb σ F (.bool c)) : EvD K (tOrV ta tb) σ F (.bool (b || c)) := fun H s Q q => h1 H s _ fun v F1 H1 g1 r => by
  cases r
  refine ⟨b, rfl, ?_⟩
  cases b with
  | false => exact (h2 rfl).up g1.f H1 g1.i _ fun v F2 H2 g2 r => q v F2 H2 (g1.trans g2) r
  | true => exact q _ F1 H1 g1 (.bl true)
theorem ev_not (h : EvD K ta σ F (.bool b)) : EvD K (tNotV ta) σ F (.bool (!b)) := fun H s Q q => h H s _ fun v F1 H1 g r => by
  cases r
  exact ⟨b, rfl, q _ F1 H1 g (.bl _)⟩
theorem ev_if (h : EvB t σ F b) (h1 : b = true → EvD K ta σ F d) (h2 : b = false → EvD K tb σ F d) : EvD K (tIf t ta tb) σ F d := fun H s Q q => h H s _ fun F1 H1 g1 => by
  cases b with
  | true => exact (h1 rfl).up g1.f H1 g1.i _ fun v F2 H2 g2 r => q v F2 H2 (g1.trans g2) r
  | false => exact (h2 rfl).up g1.f H1 g1.i _ fun v F2 H2 g2 r => q v F2 H2 (g1.trans g2) r
/-! displays -/
theorem ev_tup {ta : TA} {ds : List PyData} (h : EvS K ta σ F ds) (hl : ds.length ≤ sizeLine) : EvD K (tTup ta) σ F (.tuple ds) := fun H s Q q => h H s _ fun vs F1 H1 g1 r =>
  ⟨by rw [r.len]; exact hl, fun p hp => q _ _ _ (g1.trans (.known g1.i hp)) (.tup (.inl (.inl upd_same)) (r.up (same_upd (g1.i.free hp))))⟩
theorem ev_lst {ta : TA} {ds : List PyData} (h : EvS K ta σ F ds) (hl : ds.length ≤ sizeLine) : EvD K (tLst ta) σ F (.list ds) := fun H s Q q => h H s _ fun vs F1 H1 g1 r =>
  ⟨by rw [r.len]; exact hl, fun p hp => q _ _ _ (g1.trans (.known g1.i hp)) (.lst (.inl (.inl upd_same)) (r.up (same_upd (g1.i.free hp))))⟩
/-! calls of built-ins by values -/
def RcD (K : PySem.W.Frag) (r : List V → Hp → VK → Prop) (ds : List PyData) (d : PyData) : Prop := ∀ F xs H, Same F H → DqAll K F xs ds → ∀ Q : VK, (∀ v F' H', Grow F H F' H' → Dq K F' v d → Q v H') → r xs H Q
theorem ev_cb {r : List V → Hp → VK → Prop} {ta : TA} {ds : List PyData} (h : EvS K ta σ F ds) (hr : RcD K r ds d) : EvD K (tCB r ta) σ F d := fun H s Q q =>
  h H s _ fun xs F1 H1 g1 r1 => hr F1 xs H1 g1.i r1 Q fun v F2 H2 g2 r2 => q v F2 H2 (g1.trans g2) r2
/-! promises of defs over data: what comes back, or nothing is said -/
def spD (K : PySem.W.Frag) (f : List PyData → Option PyData) : Sp := fun vs H Q _ => ∃ F ds d, Same F H ∧ DqAll K F vs ds ∧ f ds = some d ∧ ∀ v F' H', Grow F H F' H' → Dq K F' v d → Q v H'
theorem ev_call {f : List PyData → Option PyData} {E : XK} {ta : TA} {ds : List PyData} (h : EvS K ta σ F ds) (e : f ds = some d) : EvD K (tCall (spD K f) [] E ta) σ F d := fun H s Q q =>
  h H s _ fun vs F1 H1 g1 r1 => ⟨F1, ds, d, g1.i, by rw [List.append_nil]; exact r1, e, fun v F2 H2 g2 r2 => q v F2 H2 (g1.trans g2) r2⟩
/-! blocks that come back with a value -/
def Ret (K : PySem.W.Frag) (ts : TS) (σ : L2.St) (F : Hp) (d : PyData) : Prop := ∀ H, Same F H → ∀ D : Ends, (∀ v F' H', Grow F H F' H' → Dq K F' v d → D.rt v H') → ts D σ H
theorem Ret.up {ts : TS} (h : Ret K ts σ F d) (s : Same F G) : Ret K ts σ G d := fun H sH D q => h H (s.trans sH) D fun v F' H' g r => by
  obtain ⟨G', a, b⟩ := g.widen s sH
  exact q v G' H' b (r.up a)
theorem Ret.is' {ts : TS} (h : Ret K ts σ F d) (e : d = d1) : Ret K ts σ F d1 := e ▸ h
variable {ts tu tw : TS}
theorem r_ret (h : EvD K te σ F d) : Ret K (tRet te) σ F d := fun H s D q => h H s _ q
theorem r_if (h : EvB t σ F b) (h1 : b = true → Ret K ts σ F d) (h2 : b = false → Ret K tu σ F d) : Ret K (tIfS t ts tu) σ F d := fun H s D q => h H s _ fun F1 H1 g1 => by
  cases b with
  | true => exact (h1 rfl).up g1.f H1 g1.i D fun v F2 H2 g2 r => q v F2 H2 (g1.trans g2) r
  | false => exact (h2 rfl).up g1.f H1 g1.i D fun v F2 H2 g2 r => q v F2 H2 (g1.trans g2) r
/-- if c: (comes back); the rest -/
theorem r_when (h : EvB t σ F b) (h1 : b = true → Ret K ts σ F d) (h2 : b = false → Ret K tw σ F d) : Ret K (tSeq (tIfS t ts tNext) tw) σ F d := fun H s D q => h H s _ fun F1 H1 g1 => by
  cases b with
  | true => exact (h1 rfl).up g1.f H1 g1.i { D with nx := tw D } fun v F2 H2 g2 r => q v F2 H2 (g1.trans g2) r
  | false => exact (h2 rfl).up g1.f H1 g1.i D fun v F2 H2 g2 r => q v F2 H2 (g1.trans g2) r
theorem r_set {i : Nat} (h : EvD K te σ F d1) (k : ∀ v F', Same F F' → Dq K F' v d1 → Ret K tw (σ.set i (some v)) F' d) : Ret K (tSeq (tAsg te (gName i)) tw) σ F d := fun H s D q => h H s _ fun v F1 H1 g1 r1 =>
  k v F1 g1.f r1 H1 g1.i D fun w F2 H2 g2 r2 => q w F2 H2 (g1.trans g2) r2
theorem r_drop (h : EvD K te σ F d1) (k : ∀ F', Same F F' → Ret K tw σ F' d) : Ret K (tSeq (tDrop te) tw) σ F d := fun H s D q => h H s _ fun v F1 H1 g1 r1 =>
  k F1 g1.f H1 g1.i D fun w F2 H2 g2 r2 => q w F2 H2 (g1.trans g2) r2
end
end Sx
set_option Elab.async false
set_option linter.all false
set_option maxRecDepth 100000
set_option maxHeartbeats 1000000
/-! W1: walks, comprehensions, loops over data. -/
namespace Sx
open PySem PySem.Spec PyProof.Rows L2
variable {K : PySem.W.Frag}
/-! ### what is walked -/
def WkD (K : PySem.W.Frag) (J : It) (ds : List PyData) (F : Hp) : Prop := ∀ i H, Same F H →
  (∀ d, ds[i]? = some d → J.go i H ∧ ∀ x H', J.yld i H x H' → ∃ F', Grow F H F' H' ∧ Dq K F' x d) ∧ (i = ds.length → J.stop i H)
theorem WkD.up {J : It} {ds : List PyData} {F G : Hp} (h : WkD K J ds F) (s : Same F G) : WkD K J ds G := fun i H sH => by
  obtain ⟨h1, h2⟩ := h i H (s.trans sH)
  refine ⟨fun d hd => ⟨(h1 d hd).1, fun x H' y => ?_⟩, h2⟩
  obtain ⟨F', g, r⟩ := (h1 d hd).2 x H' y
  obtain ⟨G', a, b⟩ := g.widen s sH
  exact ⟨G', b, r.up a⟩
def EvW (K : PySem.W.Frag) (wi : TI) (σ : L2.St) (F : Hp) (ds : List PyData) : Prop := ∀ H, Same F H → ∀ R : It → Hp → Prop, (∀ J F' H', Grow F H F' H' → WkD K J ds F' → R J H') → wi σ H R
section
variable {σ : L2.St} {F G : Hp} {te : TE} {ds es : List PyData}
theorem wk_list {a : Addr} {vs : List V} {F : Hp} (h : SqL K F a vs) (r : DqAll K F vs ds) : WkD K (Itl K a) ds F := fun i H s => by
  have hs := s.seq h
  refine ⟨fun d hd => ?_, fun e => ⟨vs, hs, by rw [r.len, e]; exact Nat.le_refl _⟩⟩
  obtain ⟨v, hv, rv⟩ := r.get hd
  refine ⟨⟨vs, v, hs, hv⟩, fun x H' y => ?_⟩
  obtain ⟨rfl, y⟩ := y
  have e := Option.some.inj ((y vs hs).symm.trans hv)
  subst e
  exact ⟨F, .start s, rv⟩
theorem wk_tup {a : Addr} {vs : List V} {F : Hp} (h : SqT K F a vs) (r : DqAll K F vs ds) : WkD K (Itt K a) ds F := fun i H s => by
  have hs := same_seqT s h
  refine ⟨fun d hd => ?_, fun e => ⟨vs, hs, by rw [r.len, e]; exact Nat.le_refl _⟩⟩
  obtain ⟨v, hv, rv⟩ := r.get hd
  refine ⟨⟨vs, v, hs, hv⟩, fun x H' y => ?_⟩
  obtain ⟨rfl, y⟩ := y
  have e := Option.some.inj ((y vs hs).symm.trans hv)
  subst e
  exact ⟨F, .start s, rv⟩
theorem ew_list (h : EvD K te σ F (.list ds)) : EvW K (iList K te) σ F ds := fun H s R q => h H s _ fun v F1 H1 g r => by
  cases r with
  | lst a b => exact ⟨_, rfl, ⟨_, g.i.seq a⟩, q _ F1 H1 g (wk_list a b)⟩
theorem ew_tup (h : EvD K te σ F (.tuple ds)) : EvW K (iTup K te) σ F ds := fun H s R q => h H s _ fun v F1 H1 g r => by
  cases r with
  | tup a b => exact ⟨_, rfl, ⟨_, same_seqT g.i a⟩, q _ F1 H1 g (wk_tup a b)⟩
def rgs (lo : Int) (n : Nat) : List PyData := (List.range n).map fun (i : Nat) => PyData.int (lo + (i : Int))
theorem rgs_len (lo : Int) (n : Nat) : (rgs lo n).length = n := by
  unfold rgs
  rw [List.length_map, List.length_range]
theorem rgs_get {lo : Int} {n i : Nat} {d : PyData} (h : (rgs lo n)[i]? = some d) : i < n ∧ d = .int (lo + (i : Int)) := by
  have hi : i < n := by
    have := (List.getElem?_eq_some_iff.mp h).1
    rw [rgs_len] at this
    exact this
  unfold rgs at h
  rw [List.getElem?_map, List.getElem?_range hi] at h
  exact ⟨hi, (Option.some.inj h).symm⟩
theorem wk_rng {lo : Int} {n : Nat} : WkD K (Itr lo n) (rgs lo n) F := fun i H s => by
  refine ⟨fun d hd => ?_, fun e => by rw [rgs_len] at e; exact Nat.le_of_eq e.symm⟩
  obtain ⟨hi, rfl⟩ := rgs_get hd
  refine ⟨hi, fun x H' y => ?_⟩
  obtain ⟨rfl, rfl⟩ := y
  exact ⟨F, .start s, .int _⟩
theorem ew_rng1 {ta : TA} {n : Int} (h : EvS K ta σ F [.int n]) (hn : -(2 ^ 62) ≤ n ∧ n < 2 ^ 62) : EvW K (iRng1 ta) σ F (rgs 0 n.toNat) := fun H s R q => h H s _ fun vs F1 H1 g r => by
  cases r with
  | cons a b =>
    cases a
    cases b
    exact ⟨n, rfl, hn.1, hn.2, q _ F1 H1 g wk_rng⟩
theorem ew_rng2 {ta : TA} {m n : Int} (h : EvS K ta σ F [.int m, .int n]) (hm : -(2 ^ 62) ≤ m ∧ m < 2 ^ 62) (hn : -(2 ^ 62) ≤ n ∧ n < 2 ^ 62) : EvW K (iRng2 ta) σ F (rgs m (n - m).toNat) := fun H s R q => h H s _ fun vs F1 H1 g r => by
  cases r with
  | cons a b =>
    cases a
    cases b with
    | cons a b =>
      cases a
      cases b
      exact ⟨m, n, rfl, ⟨hm.1, hm.2, hn.1, hn.2⟩, q _ F1 H1 g wk_rng⟩
def pairs (ds es : List PyData) : List PyData := List.zipWith (fun a b => .tuple [a, b]) ds es
theorem pairs_get {i : Nat} {d : PyData} (h : (pairs ds es)[i]? = some d) : ∃ a b, ds[i]? = some a ∧ es[i]? = some b ∧ d = .tuple [a, b] := by
  unfold pairs at h
  rw [List.getElem?_zipWith] at h
  cases ha : ds[i]? with
  | none => rw [ha] at h; cases h
  | some a =>
    cases hb : es[i]? with
    | none => rw [ha, hb] at h; cases h
    | some b =>
      rw [ha, hb] at h
      exact ⟨a, b, rfl, rfl, (Option.some.inj h).symm⟩
theorem pairs_len : (pairs ds es).length = min ds.length es.length := by
  unfold pairs
  rw [List.length_zipWith]
theorem grow_pair {F H : Hp} {x y : V} {a b : PyData} {T : Addr} (s : Same F H) (hT : H T = none) (ra : Dq K F x a) (rb : Dq K F y b) : ∃ F', Grow F H F' (upd H T (.tup [x, y])) ∧ Dq K F' (.ref T) (.tuple [a, b]) :=
  ⟨_, .known s hT, .tup (.inl (.inl upd_same)) (.cons (ra.up (same_upd (s.free hT))) (.cons (rb.up (same_upd (s.free hT))) .nil))⟩
theorem wk_zip {a b : Addr} {vs ws : List V} {F : Hp} (h : SqL K F a vs) (r : DqAll K F vs ds) (h' : SqL K F b ws) (r' : DqAll K F ws es) : WkD K (Itz K a b) (pairs ds es) F := fun i H s => by
  have hs := s.seq h
  have hs' := s.seq h'
  refine ⟨fun d hd => ?_, fun e => ⟨vs, ws, hs, hs', ?_⟩⟩
  · obtain ⟨p, q, hp, hq, rfl⟩ := pairs_get hd
    obtain ⟨v, hv, rv⟩ := r.get hp
    obtain ⟨w, hw, rw'⟩ := r'.get hq
    refine ⟨⟨vs, ws, v, w, hs, hs', hv, hw⟩, fun x H' y => ?_⟩
    obtain ⟨T, x1, x2, rfl, hT, rfl, y1, y2⟩ := y
    have e1 := Option.some.inj ((y1 vs hs).symm.trans hv)
    have e2 := Option.some.inj ((y2 ws hs').symm.trans hw)
    subst e1 e2
    exact grow_pair s hT rv rw'
  · rw [r.len, r'.len]
    rw [pairs_len] at e
    omega
theorem wk_zipT {a b : Addr} {vs ws : List V} {F : Hp} (h : SqT K F a vs) (r : DqAll K F vs ds) (h' : SqT K F b ws) (r' : DqAll K F ws es) : WkD K (RZ.ItzT K a b) (pairs ds es) F := fun i H s => by
  have hs := same_seqT s h
  have hs' := same_seqT s h'
  refine ⟨fun d hd => ?_, fun e => ⟨vs, ws, hs, hs', ?_⟩⟩
  · obtain ⟨p, q, hp, hq, rfl⟩ := pairs_get hd
    obtain ⟨v, hv, rv⟩ := r.get hp
    obtain ⟨w, hw, rw'⟩ := r'.get hq
    refine ⟨⟨vs, ws, v, w, hs, hs', hv, hw⟩, fun x H' y => ?_⟩
    obtain ⟨T, x1, x2, rfl, hT, rfl, y1, y2⟩ := y
    have e1 := Option.some.inj ((y1 vs hs).symm.trans hv)
    have e2 := Option.some.inj ((y2 ws hs').symm.trans hw)
    subst e1 e2
    exact grow_pair s hT rv rw'
  · rw [r.len, r'.len]
    rw [pairs_len] at e
    omega
theorem ew_zipL {ta : TA} (h : EvS K ta σ F [.list ds, .list es]) : EvW K (iZip K ta) σ F (pairs ds es) := fun H s R q => h H s _ fun vs F1 H1 g r => by
  cases r with
  | cons a b =>
    cases b with
    | cons b c =>
      cases c
      cases a with
      | lst a1 a2 =>
        cases b with
        | lst b1 b2 => exact ⟨_, _, _, _, rfl, g.i.seq a1, g.i.seq b1, q _ F1 H1 g (wk_zip a1 a2 b1 b2)⟩
theorem ew_zipAL {ta : TA} (h : EvS K ta σ F [.list ds, .list es]) : EvW K (RZ.iZipA K ta) σ F (pairs ds es) := fun H s R q => h H s _ fun vs F1 H1 g r => by
  cases r with
  | cons a b =>
    cases b with
    | cons b c =>
      cases c
      cases a with
      | lst a1 a2 =>
        cases b with
        | lst b1 b2 => exact ⟨_, _, _, _, rfl, .inl ⟨g.i.seq a1, g.i.seq b1, q _ F1 H1 g (wk_zip a1 a2 b1 b2)⟩⟩
theorem ew_zipAT {ta : TA} (h : EvS K ta σ F [.tuple ds, .tuple es]) : EvW K (RZ.iZipA K ta) σ F (pairs ds es) := fun H s R q => h H s _ fun vs F1 H1 g r => by
  cases r with
  | cons a b =>
    cases b with
    | cons b c =>
      cases c
      cases a with
      | tup a1 a2 =>
        cases b with
        | tup b1 b2 => exact ⟨_, _, _, _, rfl, .inr ⟨same_seqT g.i a1, same_seqT g.i b1, q _ F1 H1 g (wk_zipT a1 a2 b1 b2)⟩⟩
def numbered (ds : List PyData) : List PyData := pairs (rgs 0 ds.length) ds
theorem numbered_get {i : Nat} {d : PyData} (h : (numbered ds)[i]? = some d) : ∃ b, ds[i]? = some b ∧ d = .tuple [.int (i : Int), b] := by
  obtain ⟨a, b, h1, h2, rfl⟩ := pairs_get h
  obtain ⟨_, rfl⟩ := rgs_get h1
  exact ⟨b, h2, by rw [Int.zero_add]⟩
theorem numbered_len : (numbered ds).length = ds.length := by
  unfold numbered
  rw [pairs_len, rgs_len, Nat.min_self]
theorem wk_enum {a : Addr} {vs : List V} {F : Hp} (h : SqL K F a vs) (r : DqAll K F vs ds) : WkD K (Ite K a) (numbered ds) F := fun i H s => by
  have hs := s.seq h
  refine ⟨fun d hd => ?_, fun e => ⟨vs, hs, by rw [r.len]; rw [numbered_len] at e; exact Nat.le_of_eq e.symm⟩⟩
  obtain ⟨b, hb, rfl⟩ := numbered_get hd
  obtain ⟨v, hv, rv⟩ := r.get hb
  refine ⟨⟨vs, v, hs, hv⟩, fun x H' y => ?_⟩
  obtain ⟨T, x1, rfl, hT, rfl, y1⟩ := y
  have e1 := Option.some.inj ((y1 vs hs).symm.trans hv)
  subst e1
  exact grow_pair s hT (.int _) rv
theorem ew_enum {ta : TA} (h : EvS K ta σ F [.list ds]) : EvW K (iEnum K ta) σ F (numbered ds) := fun H s R q => h H s _ fun vs F1 H1 g r => by
  cases r with
  | cons a b =>
    cases b
    cases a with
    | lst a1 a2 => exact ⟨_, _, rfl, g.i.seq a1, q _ F1 H1 g (wk_enum a1 a2)⟩
def signs (x : Str) : List PyData := x.cps.toList.map fun c => .str ⟨#[c]⟩
theorem ew_str {x : Str} (h : EvD K te σ F (.str x)) : EvW K (iStr te) σ F (signs x) := fun H s R q => h H s _ fun v F1 H1 g r => by
  cases r
  refine ⟨x, rfl, q _ F1 H1 g fun i H s => ⟨fun d hd => ?_, fun e => ?_⟩⟩
  · have hi : i < x.cps.size := by
      have z := (List.getElem?_eq_some_iff.mp hd).1
      unfold signs at z
      rw [List.length_map, Array.length_toList] at z
      exact z
    refine ⟨hi, fun y H' hy => ?_⟩
    obtain ⟨rfl, c, hc, rfl⟩ := hy
    unfold signs at hd
    rw [List.getElem?_map, Array.getElem?_toList, hc] at hd
    cases hd
    exact ⟨F1, .start s, .str _⟩
  · unfold signs at e
    rw [List.length_map, Array.length_toList] at e
    exact Nat.le_of_eq e.symm
end

/-! ### a target takes an item -/
def Tk (K : PySem.W.Frag) (g : TG) (d : PyData) (σ : L2.St) (F : Hp) (P : L2.St → Prop) : Prop := ∀ v H, Same F H → Dq K F v d → ∀ Q : L2.St → Hp → Prop, (∀ σ2, P σ2 → Q σ2 H) → g v σ H Q
theorem tk_name {i : Nat} {d : PyData} {σ : L2.St} {F : Hp} : Tk K (gName i) d σ F (fun σ2 => ∃ v, σ2 = σ.set i (some v) ∧ Dq K F v d) := fun v H s r Q q => q _ ⟨v, rfl, r⟩
theorem tk_two {i j : Nat} {d e : PyData} {σ : L2.St} {F : Hp} : Tk K (gTup K 2 (gCons (gName i) (gCons (gName j) gNil))) (.tuple [d, e]) σ F
    (fun σ2 => ∃ v w, σ2 = (σ.set i (some v)).set j (some w) ∧ Dq K F v d ∧ Dq K F w e) := fun v H s r Q q => by
  cases r with
  | tup a b =>
    cases b with
    | cons b1 b2 =>
      cases b2 with
      | cons b2 b3 =>
        cases b3
        exact ⟨_, _, rfl, same_seqT s a, rfl, _, _, rfl, _, _, rfl, rfl, q _ ⟨_, _, rfl, b1, b2⟩⟩

theorem Tk.imp {g : TG} {d : PyData} {σ : L2.St} {F : Hp} {P P' : L2.St → Prop} (h : Tk K g d σ F P) (k : ∀ σ2, P σ2 → P' σ2) : Tk K g d σ F P' := fun v H s r Q q => h v H s r Q fun σ2 p => q σ2 (k σ2 p)
theorem eb_yes {σ : L2.St} {F : Hp} : EvB tYes σ F true := fun H s Q q => q F H (.start s)

/-! ### comprehensions -/
section
variable {σ : L2.St} {F : Hp} {te : TE} {tt : TT} {g : TG} {wi : TI} {vs : List Nat} {ds : List PyData}
def made (f : PyData → Bool) (e : PyData → PyData) (ds : List PyData) : List PyData := (ds.filter f).map e
theorem lc_new (f : PyData → Bool) (e : PyData → PyData) (hw : EvW K wi σ F ds) (hl : ds.length < sizeLine)
    (hT : ∀ d F', d ∈ ds → Same F F' → Tk K g d (wipe σ vs) F' fun σ2 => wipe σ2 vs = wipe σ vs ∧ EvB tt σ2 F' (f d) ∧ (f d = true → EvD K te σ2 F' (e d))) :
    ∀ H, Same F H → ∀ Q : VK, (∀ D F' acc H', Grow F H F' H' → H D = none → F' D = none → H' D = some (.lst acc) → DqAll K F' acc (made f e ds) → Q (.ref D) H') → tLc wi g tt te vs σ H Q := fun H s Q q => hw H s _ fun J F1 H1 g1 wk => by
  intro D hD
  refine ⟨fun i m H2 => m = ds.length - i ∧ i ≤ ds.length ∧ ∃ F2 acc, Grow F1 H1 F2 H2 ∧ F2 D = none ∧ H2 D = some (.lst acc) ∧ DqAll K F2 acc (made f e (ds.take i)) ∧ acc.length ≤ i,
    ⟨ds.length, by simp, Nat.zero_le _, F1, [], .own g1.i hD, g1.i.free hD, upd_same, .nil, Nat.le_refl _⟩, fun i m H2 hW => ?_⟩
  obtain ⟨rfl, hi, F2, acc, g2, nD, eD, ra, la⟩ := hW
  have wk2 := wk.up g2.f
  by_cases hlt : i < ds.length
  · have hd : ds[i]? = some ds[i] := List.getElem?_eq_getElem hlt
    obtain ⟨go, yl⟩ := (wk2 i H2 g2.i).1 _ hd
    refine .inr ⟨go, fun H3 => ∃ F3 acc, Grow F1 H1 F3 H3 ∧ F3 D = none ∧ H3 D = some (.lst acc) ∧ DqAll K F3 acc (made f e (ds.take (i + 1))) ∧ acc.length ≤ i + 1, fun H3 h3 => ⟨_, ?_, rfl, hlt, h3⟩, fun x H3 hy => ?_⟩
    · show ds.length - (i + 1) < ds.length - i
      omega
    · obtain ⟨F3, g3, rx⟩ := yl x H3 hy
      have nD3 : F3 D = none := by
        cases z : F3 D with
        | none => rfl
        | some o =>
          have := g3.n D o z nD
          rw [eD] at this
          cases this
      have eT : ds.take (i + 1) = ds.take i ++ [ds[i]] := by rw [List.take_add_one, hd]; rfl
      refine hT ds[i] F3 (List.getElem_mem hlt) (((g1.trans g2).trans g3).f) x H3 g3.i rx _ fun σ2 hσ => ?_
      obtain ⟨w2, hb, he⟩ := hσ
      refine ⟨w2, hb H3 g3.i _ fun F4 H4 g4 => ?_⟩
      have g14 := (g2.trans g3).trans g4
      have eD4 : H4 D = some (.lst acc) := g4.h _ _ (g3.h _ _ eD)
      have nD4 : F4 D = none := by
        cases z : F4 D with
        | none => rfl
        | some o =>
          have := g4.n D o z nD3
          rw [g3.h _ _ eD] at this
          cases this
      cases hf : f ds[i] with
      | true =>
        show te σ2 H4 _
        refine ((he hf).up g4.f) H4 g4.i _ fun y F5 H5 g5 ry => ?_
        have eD5 : H5 D = some (.lst acc) := g5.h _ _ eD4
        have nD5 : F5 D = none := by
          cases z : F5 D with
          | none => rfl
          | some o =>
            have := g5.n D o z nD4
            rw [eD4] at this
            cases this
        refine ⟨acc, eD5, by omega, F5, acc ++ [y], ⟨(g14.trans g5).f, fun b o z => ?_, fun b o z => ?_, (g14.trans g5).n⟩, nD5, upd_same, ?_, by rw [List.length_append]; show acc.length + 1 ≤ i + 1; omega⟩
        · have nb : b ≠ D := ne_of_none z hD
          rw [upd_ne nb]
          exact (g14.trans g5).h b o z
        · have nb : b ≠ D := ne_of_none z nD5
          rw [upd_ne nb]
          exact g5.i b o z
        · have e2 : made f e (ds.take (i + 1)) = made f e (ds.take i) ++ [e ds[i]] := by
            unfold made
            rw [eT, List.filter_append, List.map_append, List.filter_cons, if_pos hf]
            rfl
          rw [e2]
          exact (ra.up ((g3.trans (g4.trans g5)).f)).app (.cons ry .nil)
      | false =>
        refine ⟨F4, acc, g14, nD4, eD4, ?_, by omega⟩
        have e2 : made f e (ds.take (i + 1)) = made f e (ds.take i) := by
          unfold made
          rw [eT, List.filter_append, List.map_append, List.filter_cons, if_neg (by rw [hf]; decide)]
          show _ ++ [] = _
          rw [List.append_nil]
        rw [e2]
        exact ra.up (g3.trans g4).f
  · have ei : i = ds.length := by omega
    refine .inl ⟨(wk2 i H2 g2.i).2 ei, ?_⟩
    rw [ei, List.take_length] at ra
    exact q D F2 acc H2 (g1.trans g2) (g1.h.free hD) nD eD ra
theorem ev_lc (f : PyData → Bool) (e : PyData → PyData) (hw : EvW K wi σ F ds) (hl : ds.length < sizeLine)
    (hT : ∀ d F', d ∈ ds → Same F F' → Tk K g d (wipe σ vs) F' fun σ2 => wipe σ2 vs = wipe σ vs ∧ EvB tt σ2 F' (f d) ∧ (f d = true → EvD K te σ2 F' (e d))) :
    EvD K (tLc wi g tt te vs) σ F (.list (made f e ds)) := fun H s Q q => lc_new f e hw hl hT H s Q fun D F2 acc H2 g2 hD nD eD ra => by
  refine q _ (upd F2 D (.lst acc)) H2 ⟨g2.f.trans (same_upd nD), g2.h, fun b o z => ?_, fun b o z n => ?_⟩ (.lst (.inl (.inl upd_same)) (ra.up (same_upd nD)))
  · by_cases hb : b = D
    · rw [hb, upd_same] at z
      rw [hb, eD]
      exact z
    · rw [upd_ne hb] at z
      exact g2.i b o z
  · by_cases hb : b = D
    · rw [hb]
      exact hD
    · rw [upd_ne hb] at z
      exact g2.n b o z n
end

/-! ### loops -/
section
variable {σ : L2.St} {F : Hp} {g : TG} {wi : TI} {ds : List PyData} {tb : TS} {D : Ends}
/-- for: I says what holds ahead of turn i: the slots, what is known, the heap -/
theorem s_for {H : Hp} (s : Same F H) (hw : EvW K wi σ F ds)
    (hb : ∀ F1 H1, Grow F H F1 H1 → ∃ I : Nat → L2.St → Hp → Hp → Prop, I 0 σ F1 H1 ∧ (∀ i σ' F' H', I i σ' F' H' → Same F1 F' ∧ Same F' H') ∧
      (∀ i d σ' F' H', ds[i]? = some d → I i σ' F' H' → ∀ F2 H2 x, Grow F' H' F2 H2 → Dq K F2 x d → g x σ' H2 fun σ2 H3 => tb { D with nx := fun σ3 H4 => ∃ F4, I (i + 1) σ3 F4 H4, ct := fun σ3 H4 => ∃ F4, I (i + 1) σ3 F4 H4, bk := D.nx } σ2 H3) ∧
      ∀ σ' F' H', I ds.length σ' F' H' → D.nx σ' H') : tFor wi g tb D σ H := by
  refine hw H s _ fun J F1 H1 g1 wk => ?_
  obtain ⟨I, h0, hI, hs, hd⟩ := hb F1 H1 g1
  refine ⟨fun i m σ' H' => m = ds.length - i ∧ i ≤ ds.length ∧ ∃ F', I i σ' F' H', ⟨ds.length, by simp, Nat.zero_le _, F1, h0⟩, fun i m σ' H' hW' => ?_⟩
  obtain ⟨rfl, hi, F', hIi⟩ := hW'
  have s2 := hI _ _ _ _ hIi
  have wk2 := wk.up s2.1
  by_cases hlt : i < ds.length
  · have hdd : ds[i]? = some ds[i] := List.getElem?_eq_getElem hlt
    obtain ⟨go, yl⟩ := (wk2 i H' s2.2).1 _ hdd
    refine .inr ⟨go, fun σ3 H4 => ∃ F4, I (i + 1) σ3 F4 H4, fun σ3 H4 h4 => ⟨_, ?_, rfl, hlt, h4⟩, fun x H2 hy => ?_⟩
    · show ds.length - (i + 1) < ds.length - i
      omega
    · obtain ⟨F2, g2, rx⟩ := yl x H2 hy
      exact hs i _ σ' F' H' hdd hIi F2 H2 x g2 rx
  · have ei : i = ds.length := by omega
    refine .inl ⟨(wk2 i H' s2.2).2 ei, ?_⟩
    rw [ei] at hIi
    exact hd σ' F' H' hIi
end
end Sx
set_option Elab.async false
set_option linter.all false
set_option maxRecDepth 100000
set_option maxHeartbeats 1000000
/-! W2: operations and built-ins on data. -/
namespace Sx
open PySem PySem.Spec PyProof.Rows L2
variable {K : PySem.W.Frag}
section
variable {σ : L2.St} {F G : Hp} {te ta tb tc : TE} {d d1 d2 d3 : PyData} {ds es : List PyData}
/-! ints -/
theorem rv_i0 {g : Int → Int → V} {i j : Int} (hv : ∀ F, Dq K F (g i j) d) : RvD K (rI0 g) (.int i) (.int j) d := fun F x y H s a b Q q => by
  cases a
  cases b
  exact ⟨i, j, rfl, rfl, q _ F H (.start s) (hv F)⟩
theorem rv_i {C : Int → Int → Prop} {g : Int → Int → V} {i j : Int} (hc : C i j) (hv : ∀ F, Dq K F (g i j) d) : RvD K (rI C g) (.int i) (.int j) d := fun F x y H s a b Q q => by
  cases a
  cases b
  exact ⟨i, j, rfl, rfl, hc, q _ F H (.start s) (hv F)⟩
theorem rv_int {g : Int → Int → Int} {i j : Int} : RvD K (rI0 fun i j => .int (g i j)) (.int i) (.int j) (.int (g i j)) := rv_i0 fun _ => .int _
theorem rv_bl {g : Int → Int → Bool} {i j : Int} : RvD K (rI0 fun i j => .bl (g i j)) (.int i) (.int j) (.bool (g i j)) := rv_i0 fun _ => .bl _
theorem rv_intC {C : Int → Int → Prop} {g : Int → Int → Int} {i j : Int} (hc : C i j) : RvD K (rI C fun i j => .int (g i j)) (.int i) (.int j) (.int (g i j)) := rv_i hc fun _ => .int _
theorem rv_or1 {r r' : R2} (h : RvD K r d1 d2 d) : RvD K (fun x y H Q => r x y H Q ∨ r' x y H Q) d1 d2 d := fun F x y H s a b Q q => .inl (h F x y H s a b Q q)
theorem rv_or2 {r r' : R2} (h : RvD K r' d1 d2 d) : RvD K (fun x y H Q => r x y H Q ∨ r' x y H Q) d1 d2 d := fun F x y H s a b Q q => .inr (h F x y H s a b Q q)
theorem rv_eqD (h1 : SeqAt.shaped d1 = true) (h2 : SeqAt.shaped d2 = true) (n1 : PyData.hasDict d1 = false) (n2 : PyData.hasDict d2 = false) : RvD K (rEqD K) d1 d2 (.bool (PyData.eqv d1 d2)) := fun F x y H s a b Q q => ⟨d1, d2, dq_dp _ _ (a.up s) n1, dq_dp _ _ (b.up s) n2, h1, h2, q _ F H (.start s) (.bl _)⟩
theorem rv_neD (h1 : SeqAt.shaped d1 = true) (h2 : SeqAt.shaped d2 = true) (n1 : PyData.hasDict d1 = false) (n2 : PyData.hasDict d2 = false) : RvD K (rNeD K) d1 d2 (.bool (!PyData.eqv d1 d2)) := fun F x y H s a b Q q => ⟨d1, d2, dq_dp _ _ (a.up s) n1, dq_dp _ _ (b.up s) n2, h1, h2, q _ F H (.start s) (.bl _)⟩
theorem rv_eqS {x y : Str} : RvD K rEq (.str x) (.str y) (.bool (decide (x = y))) := fun F u v H s a b Q q => by
  cases a
  cases b
  refine ⟨rfl, ?_⟩
  rw [show decide (V.str x = V.str y) = decide (x = y) from decide_eq_decide.mpr ⟨fun h => V.str.inj h, fun h => congrArg _ h⟩]
  exact q _ F H (.start s) (.bl _)
theorem rv_eqI {x y : Int} : RvD K rEq (.int x) (.int y) (.bool (decide (x = y))) := fun F u v H s a b Q q => by
  cases a
  cases b
  refine ⟨rfl, ?_⟩
  rw [show decide (V.int x = V.int y) = decide (x = y) from decide_eq_decide.mpr ⟨fun h => V.int.inj h, fun h => congrArg _ h⟩]
  exact q _ F H (.start s) (.bl _)
theorem rv_ltS {x y : Str} : RvD K (fun x y H Q => ∃ i j : Str, x = .str i ∧ y = .str j ∧ Q (.bl (decide (i.cps.toList < j.cps.toList))) H) (.str x) (.str y) (.bool (decide (x.cps.toList < y.cps.toList))) := fun F u v H s a b Q q => by
  cases a
  cases b
  exact ⟨x, y, rfl, rfl, q _ F H (.start s) (.bl _)⟩
theorem rv_addS {x y : Str} (h : x.length + y.length ≤ sizeLine) : RvD K (fun x y H Q => ∃ i j : Str, x = .str i ∧ y = .str j ∧ i.length + j.length ≤ sizeLine ∧ Q (.str (i ++ j)) H) (.str x) (.str y) (.str (x ++ y)) := fun F u v H s a b Q q => by
  cases a
  cases b
  exact ⟨x, y, rfl, rfl, h, q _ F H (.start s) (.str _)⟩
/-- a <= b <= c -/
theorem ev_chain {r r' : R2} {b c : Bool} (ha : EvD K ta σ F d1) (hb : EvD K tb σ F d2) (hr : RvD K r d1 d2 (.bool b)) (hc : b = true → EvD K tc σ F d3) (hr' : b = true → RvD K r' d2 d3 (.bool c)) : EvD K (tChain r r' ta tb tc) σ F (.bool (b && c)) := fun H s Q q =>
  ha H s _ fun x F1 H1 g1 r1 => hb.up g1.f H1 g1.i _ fun y F2 H2 g2 r2 => hr F2 x y H2 g2.i (r1.up g2.f) r2 _ fun z F3 H3 g3 r3 => by
    cases r3
    refine ⟨b, rfl, ?_⟩
    have g := (g1.trans g2).trans g3
    cases b with
    | true => exact ((hc rfl).up g.f) H3 g3.i _ fun w F4 H4 g4 r4 => hr' rfl F4 y w H4 g4.i (r2.up (g3.trans g4).f) r4 Q fun v F5 H5 g5 r5 => q v F5 H5 ((g.trans g4).trans g5) r5
    | false => exact q _ F3 H3 g (.bl false)
/-! isinstance -/
def tyD : PyData → String
  | .none => "NoneType"
  | .bool _ => "bool"
  | .int _ => "int"
  | .str _ => "str"
  | .list _ => "list"
  | .tuple _ => "tuple"
  | .dict _ => "dict"
theorem ty_data {F H : Hp} {x : V} (r : Dq K F x d) (s : Same F H) : TyX K H x (.type (tyD d)) := by
  cases r with
  | non => exact .base .non
  | bl b => exact .base (.bl b)
  | int i => exact .base (.int i)
  | str z => exact .base (.str z)
  | lst a b =>
    rcases s.seq a with (h | ⟨o, h⟩) | ⟨o, its, n, h1, h2, _⟩
    · exact .base (.lst h)
    · exact .base (.frz h)
    · exact .kList h1 h2
  | tup a b =>
    rcases same_seqT s a with (h | ⟨o, h⟩) | ⟨o, its, n, h1, h2, _⟩
    · exact .base (.tup h)
    · exact .fTuple h
    · exact .kTuple h1 h2
  | emp e => exact .base (.dK (s _ _ e))
theorem ev_isi {T : String} {b : Bool} (h : EvD K te σ F d) (hk : kitB (tyD d) T = some b) : EvD K (tCB (rIsi K) (tCons te (tCons (tC (.ty T)) tNil))) σ F (.bool b) := fun H s Q q => h H s _ fun x F1 H1 g1 r1 =>
  ⟨x, .ty T, .type (tyD d), .type T, b, rfl, .ty T, ty_data r1 g1.i, kit_ty hk, q _ F1 H1 g1 (.bl b)⟩
def isInt : PyData → Bool
  | .int _ => true
  | .bool _ => true
  | _ => false
def isBool : PyData → Bool
  | .bool _ => true
  | _ => false
def isStr : PyData → Bool
  | .str _ => true
  | _ => false
def isTup : PyData → Bool
  | .tuple _ => true
  | _ => false
def isLst : PyData → Bool
  | .list _ => true
  | _ => false
theorem kit_int : ∀ d, kitB (tyD d) "int" = some (isInt d)
  | .none => (by decide +kernel : kitB "NoneType" "int" = some false)
  | .bool _ => (by decide +kernel : kitB "bool" "int" = some true)
  | .int _ => (by decide +kernel : kitB "int" "int" = some true)
  | .str _ => (by decide +kernel : kitB "str" "int" = some false)
  | .list _ => (by decide +kernel : kitB "list" "int" = some false)
  | .tuple _ => (by decide +kernel : kitB "tuple" "int" = some false)
  | .dict _ => (by decide +kernel : kitB "dict" "int" = some false)
theorem kit_bool : ∀ d, kitB (tyD d) "bool" = some (isBool d)
  | .none => (by decide +kernel : kitB "NoneType" "bool" = some false)
  | .bool _ => (by decide +kernel : kitB "bool" "bool" = some true)
  | .int _ => (by decide +kernel : kitB "int" "bool" = some false)
  | .str _ => (by decide +kernel : kitB "str" "bool" = some false)
  | .list _ => (by decide +kernel : kitB "list" "bool" = some false)
  | .tuple _ => (by decide +kernel : kitB "tuple" "bool" = some false)
  | .dict _ => (by decide +kernel : kitB "dict" "bool" = some false)
theorem kit_str : ∀ d, kitB (tyD d) "str" = some (isStr d)
  | .none => (by decide +kernel : kitB "NoneType" "str" = some false)
  | .bool _ => (by decide +kernel : kitB "bool" "str" = some false)
  | .int _ => (by decide +kernel : kitB "int" "str" = some false)
  | .str _ => (by decide +kernel : kitB "str" "str" = some true)
  | .list _ => (by decide +kernel : kitB "list" "str" = some false)
  | .tuple _ => (by decide +kernel : kitB "tuple" "str" = some false)
  | .dict _ => (by decide +kernel : kitB "dict" "str" = some false)
theorem kit_tup : ∀ d, kitB (tyD d) "tuple" = some (isTup d)
  | .none => (by decide +kernel : kitB "NoneType" "tuple" = some false)
  | .bool _ => (by decide +kernel : kitB "bool" "tuple" = some false)
  | .int _ => (by decide +kernel : kitB "int" "tuple" = some false)
  | .str _ => (by decide +kernel : kitB "str" "tuple" = some false)
  | .list _ => (by decide +kernel : kitB "list" "tuple" = some false)
  | .tuple _ => (by decide +kernel : kitB "tuple" "tuple" = some true)
  | .dict _ => (by decide +kernel : kitB "dict" "tuple" = some false)
theorem kit_lst : ∀ d, kitB (tyD d) "list" = some (isLst d)
  | .none => (by decide +kernel : kitB "NoneType" "list" = some false)
  | .bool _ => (by decide +kernel : kitB "bool" "list" = some false)
  | .int _ => (by decide +kernel : kitB "int" "list" = some false)
  | .str _ => (by decide +kernel : kitB "str" "list" = some false)
  | .list _ => (by decide +kernel : kitB "list" "list" = some true)
  | .tuple _ => (by decide +kernel : kitB "tuple" "list" = some false)
  | .dict _ => (by decide +kernel : kitB "dict" "list" = some false)
/-! len, items, slices -/
abbrev rLen0 (K : PySem.W.Frag) : List V → Hp → VK → Prop := fun xs H Q => ∃ x n, xs = [x] ∧ LenV K x H n ∧ Q (.int n) H
theorem rc_lenT : RcD K (rLen0 K) [.tuple ds] (.int ds.length) := fun F xs H s r Q q => by
  cases r with
  | cons a b =>
    cases b
    cases a with
    | tup a1 a2 => exact ⟨_, ds.length, rfl, .inr ⟨_, same_seqT s a1, a2.len.symm⟩, q _ F H (.start s) (.int _)⟩
theorem rc_lenL : RcD K (rLen0 K) [.list ds] (.int ds.length) := fun F xs H s r Q q => by
  cases r with
  | cons a b =>
    cases b
    cases a with
    | lst a1 a2 => exact ⟨_, ds.length, rfl, .inl ⟨_, s.seq a1, a2.len.symm⟩, q _ F H (.start s) (.int _)⟩
theorem rc_lenS {z : Str} (hz : z.length ≤ sizeLine) : RcD K (rLen0 K) [.str z] (.int z.length) := fun F xs H s r Q q => by
  cases r with
  | cons a b =>
    cases b
    cases a
    exact ⟨_, z.length, rfl, ⟨hz, rfl⟩, q _ F H (.start s) (.int _)⟩
theorem ev1 {r : List V → Hp → VK → Prop} (h : EvD K te σ F d1) (hr : RcD K r [d1] d) : EvD K (tCB r (tCons te tNil)) σ F d := ev_cb (ea_cons h ea_nil) hr
theorem rv_ixT {k : Nat} (h : ds[k]? = some d) : RvD K (rIxT K) (.tuple ds) (.int (k : Int)) d := fun F x y H s a b Q q => by
  cases b
  cases a with
  | tup a1 a2 =>
    obtain ⟨v, hv, rv⟩ := a2.get h
    exact ⟨_, _, _, v, rfl, rfl, same_seqT s a1, atI_nat hv, q v F H (.start s) rv⟩
theorem rv_ixL {k : Nat} (h : ds[k]? = some d) : RvD K (rIxL K) (.list ds) (.int (k : Int)) d := fun F x y H s a b Q q => by
  cases b
  cases a with
  | lst a1 a2 =>
    obtain ⟨v, hv, rv⟩ := a2.get h
    exact ⟨_, _, _, v, rfl, rfl, s.seq a1, atI_nat hv, q v F H (.start s) rv⟩
def cutD (xs : List PyData) (lo hi : Option Int) : List PyData := (xs.drop (HT.sIx xs.length 0 lo)).take (HT.sIx xs.length xs.length hi - HT.sIx xs.length 0 lo)
def EvO (K : PySem.W.Frag) (to : TO) (σ : L2.St) (F : Hp) (o : Option Int) : Prop := ∀ H, Same F H → ∀ Q : Option Int → Hp → Prop, (∀ F' H', Grow F H F' H' → Q o H') → to σ H Q
theorem eo_none : EvO K tNoPart σ F none := fun H s Q q => q F H (.start s)
theorem eo_some {i : Int} (h : EvD K te σ F (.int i)) : EvO K (tPart te) σ F (some i) := fun H s Q q => h H s _ fun v F1 H1 g r => by
  cases r
  exact ⟨i, rfl, q F1 H1 g⟩
theorem EvO.up {to : TO} {o : Option Int} (h : EvO K to σ F o) (s : Same F G) : EvO K to σ G o := fun H sH Q q => h H (s.trans sH) Q fun F' H' g => by
  obtain ⟨G', a, b⟩ := g.widen s sH
  exact q G' H' b
theorem cut_rel {F : Hp} {vs : List V} (r : DqAll K F vs ds) (lo hi : Option Int) : DqAll K F (cutV vs lo hi) (cutD ds lo hi) := by
  unfold cutV cutD
  rw [r.len]
  exact (r.drop _).take _
/-- slices by values -/
def RsD (K : PySem.W.Frag) (r : V → Option Int → Option Int → Hp → VK → Prop) (d : PyData) (lo hi : Option Int) (d' : PyData) : Prop := ∀ F x H, Same F H → Dq K F x d → ∀ Q : VK, (∀ v F' H', Grow F H F' H' → Dq K F' v d' → Q v H') → r x lo hi H Q
theorem ev_sl {r : V → Option Int → Option Int → Hp → VK → Prop} {tl th : TO} {lo hi : Option Int} (h : EvD K te σ F d) (h1 : EvO K tl σ F lo) (h2 : EvO K th σ F hi) (hr : RsD K r d lo hi d1) : EvD K (tSl r te tl th) σ F d1 := fun H s Q q =>
  h H s _ fun x F1 H1 g1 r1 => h1.up g1.f H1 g1.i _ fun F2 H2 g2 => h2.up (g1.trans g2).f H2 g2.i _ fun F3 H3 g3 =>
    hr F3 x H3 g3.i (r1.up (g2.trans g3).f) Q fun v F4 H4 g4 r4 => q v F4 H4 (((g1.trans g2).trans g3).trans g4) r4
theorem rs_tup {lo hi : Option Int} : RsD K (rSlA K) (.tuple ds) lo hi (.tuple (cutD ds lo hi)) := fun F x H s r Q q => by
  cases r with
  | tup a b =>
    rename_i p vs
    refine ⟨p, vs, rfl, same_seqT s a, fun hw => ?_, fun _ t ht => ?_⟩
    · have e : cutD ds lo hi = ds := by
        unfold cutD
        rw [← b.len, hw.1, hw.2, Nat.sub_zero, List.drop_zero, b.len, List.take_length]
      rw [e] at q
      exact q _ F H (.start s) (.tup a b)
    · exact q _ _ _ (.known s ht) (.tup (.inl (.inl upd_same)) ((cut_rel b lo hi).up (same_upd (s.free ht))))
theorem rs_list {lo hi : Option Int} : RsD K (rSlL K) (.list ds) lo hi (.list (cutD ds lo hi)) := fun F x H s r Q q => by
  cases r with
  | lst a b =>
    rename_i p vs
    exact ⟨p, vs, rfl, s.seq a, fun t ht => q _ _ _ (.known s ht) (.lst (.inl (.inl upd_same)) ((cut_rel b lo hi).up (same_upd (s.free ht))))⟩
theorem rs_or1 {r r' : V → Option Int → Option Int → Hp → VK → Prop} {lo hi : Option Int} (h : RsD K r d lo hi d1) : RsD K (fun x lo hi H Q => r x lo hi H Q ∨ r' x lo hi H Q) d lo hi d1 := fun F x H s a Q q => .inl (h F x H s a Q q)
theorem rs_or2 {r r' : V → Option Int → Option Int → Hp → VK → Prop} {lo hi : Option Int} (h : RsD K r' d lo hi d1) : RsD K (fun x lo hi H Q => r x lo hi H Q ∨ r' x lo hi H Q) d lo hi d1 := fun F x H s a Q q => .inr (h F x H s a Q q)
theorem cut_from (k : Nat) (xs : List PyData) : cutD xs (some (k : Int)) none = xs.drop k := by
  unfold cutD
  rw [HT.sIx_nat, HT.sIx_none, List.take_of_length_le (by rw [List.length_drop]; exact Nat.le_refl _)]
  by_cases h : k ≤ xs.length
  · rw [Nat.min_eq_left h]
  · rw [Nat.min_eq_right (by omega), List.drop_eq_nil_of_le (Nat.le_refl _), List.drop_eq_nil_of_le (by omega)]
theorem cut_to (k : Nat) (xs : List PyData) : cutD xs none (some (k : Int)) = xs.take k := by
  unfold cutD
  rw [HT.sIx_none, HT.sIx_nat, List.drop_zero, Nat.sub_zero]
  by_cases h : k ≤ xs.length
  · rw [Nat.min_eq_left h]
  · rw [Nat.min_eq_right (by omega), List.take_length, List.take_of_length_le (by omega)]
/-! all, any, min, sum, tuple, list -/
theorem dps_bl {F : Hp} : ∀ {vs : List V} {bs : List Bool}, DqAll K F vs (bs.map PyData.bool) → vs = bs.map V.bl
  | _, [], .nil => rfl
  | _, _ :: _, .cons a b => by cases a; rw [dps_bl b]; rfl
theorem dps_int {F : Hp} : ∀ {vs : List V} {ns : List Int}, DqAll K F vs (ns.map PyData.int) → vs = ns.map V.int
  | _, [], .nil => rfl
  | _, _ :: _, .cons a b => by cases a; rw [dps_int b]; rfl
theorem dps_str {F : Hp} : ∀ {vs : List V} {ns : List Str}, DqAll K F vs (ns.map PyData.str) → vs = ns.map V.str
  | _, [], .nil => rfl
  | _, _ :: _, .cons a b => by cases a; rw [dps_str b]; rfl
theorem dps_ofInt {F : Hp} : ∀ (ns : List Int), DqAll K F (ns.map V.int) (ns.map PyData.int)
  | [] => .nil
  | _ :: r => .cons (.int _) (dps_ofInt r)
theorem dps_ofStr {F : Hp} : ∀ (ns : List Str), DqAll K F (ns.map V.str) (ns.map PyData.str)
  | [] => .nil
  | _ :: r => .cons (.str _) (dps_ofStr r)
theorem rc_all {bs : List Bool} : RcD K (rAll K) [.list (bs.map .bool)] (.bool (bs.all id)) := fun F xs H s r Q q => by
  cases r with
  | cons a b =>
    cases b
    cases a with
    | lst a1 a2 =>
      rw [dps_bl a2] at a1
      exact ⟨_, bs, rfl, s.seq a1, q _ F H (.start s) (.bl _)⟩
theorem rc_any {bs : List Bool} : RcD K (rAny K) [.list (bs.map .bool)] (.bool (bs.any id)) := fun F xs H s r Q q => by
  cases r with
  | cons a b =>
    cases b
    cases a with
    | lst a1 a2 =>
      rw [dps_bl a2] at a1
      exact ⟨_, bs, rfl, s.seq a1, q _ F H (.start s) (.bl _)⟩
theorem rc_sum {ns : List Int} : RcD K (rSum K) [.list (ns.map .int)] (.int ns.sum) := fun F xs H s r Q q => by
  cases r with
  | cons a b =>
    cases b
    cases a with
    | lst a1 a2 =>
      rw [dps_int a2] at a1
      exact ⟨_, ns, rfl, s.seq a1, q _ F H (.start s) (.int _)⟩
theorem rc_min {ns : List Int} {m : Int} (h0 : ns ≠ []) (hm : ∀ k, k ∈ ns → (∀ y, y ∈ ns → k ≤ y) → k = m) : RcD K (rMin K) [.list (ns.map .int)] (.int m) := fun F xs H s r Q q => by
  cases r with
  | cons a b =>
    cases b
    cases a with
    | lst a1 a2 =>
      rw [dps_int a2] at a1
      refine ⟨_, ns, rfl, s.seq a1, List.length_pos_iff.mpr h0, fun k hk hy => ?_⟩
      rw [hm k hk hy]
      exact q _ F H (.start s) (.int _)
theorem ev_tupleL (h : EvD K te σ F (.list ds)) : EvD K (tThen te (kTup K)) σ F (.tuple ds) := fun H s Q q => h H s _ fun x F1 H1 g1 r1 => by
  cases r1 with
  | lst a b => exact .inl ⟨_, _, rfl, g1.i.seq a, fun t ht => q _ _ _ (g1.trans (.known g1.i ht)) (.tup (.inl (.inl upd_same)) (b.up (same_upd (g1.i.free ht))))⟩
/-! membership -/
theorem rv_inT {b : Bool} (h : ∀ F x xs, Dq K F x d → DqAll K F xs ds → flatV x = true ∧ xs.all flatV = true ∧ inV x xs = b) : RvD K (rIn K false) d (.tuple ds) (.bool b) := fun F x y H s a c Q q => by
  cases c with
  | tup c1 c2 =>
    obtain ⟨h1, h2, h3⟩ := h F x _ a c2
    refine ⟨_, _, rfl, .inr (same_seqT s c1), h1, h2, ?_⟩
    show Q (.bl (inV _ _)) H
    rw [h3]
    exact q _ F H (.start s) (.bl b)
theorem rv_niT {b : Bool} (h : ∀ F x xs, Dq K F x d → DqAll K F xs ds → flatV x = true ∧ xs.all flatV = true ∧ inV x xs = b) : RvD K (rIn K true) d (.tuple ds) (.bool (!b)) := fun F x y H s a c Q q => by
  cases c with
  | tup c1 c2 =>
    obtain ⟨h1, h2, h3⟩ := h F x _ a c2
    refine ⟨_, _, rfl, .inr (same_seqT s c1), h1, h2, ?_⟩
    show Q (.bl (!inV _ _)) H
    rw [h3]
    exact q _ F H (.start s) (.bl _)
theorem rv_inL {b : Bool} (h : ∀ F x xs, Dq K F x d → DqAll K F xs ds → flatV x = true ∧ xs.all flatV = true ∧ inV x xs = b) : RvD K (rIn K false) d (.list ds) (.bool b) := fun F x y H s a c Q q => by
  cases c with
  | lst c1 c2 =>
    obtain ⟨h1, h2, h3⟩ := h F x _ a c2
    refine ⟨_, _, rfl, .inl (s.seq c1), h1, h2, ?_⟩
    show Q (.bl (inV _ _)) H
    rw [h3]
    exact q _ F H (.start s) (.bl b)
theorem inv_str (z : Str) (ws : List Str) : inV (.str z) (ws.map V.str) = decide (z ∈ ws) := by
  unfold inV
  rw [List.any_map, Bool.eq_iff_iff, List.any_eq_true, decide_eq_true_iff]
  constructor
  · rintro ⟨w, hw, e⟩
    have e' : (w == z) = true := e
    rw [← eq_of_beq e']
    exact hw
  · intro h
    exact ⟨z, h, (show (z == z) = true from beq_self_eq_true z)⟩
theorem inv_int (z : Int) (ws : List Int) : inV (.int z) (ws.map V.int) = decide (z ∈ ws) := by
  unfold inV
  rw [List.any_map, Bool.eq_iff_iff, List.any_eq_true, decide_eq_true_iff]
  constructor
  · rintro ⟨w, hw, e⟩
    have e' : (w == z) = true := e
    rw [← eq_of_beq e']
    exact hw
  · intro h
    exact ⟨z, h, (show (z == z) = true from beq_self_eq_true z)⟩
theorem flat_str (ws : List Str) : (ws.map V.str).all flatV = true := by
  rw [List.all_map, List.all_eq_true]
  intro _ _
  rfl
theorem flat_int (ws : List Int) : (ws.map V.int).all flatV = true := by
  rw [List.all_map, List.all_eq_true]
  intro _ _
  rfl
theorem mem_str {z : Str} {ws : List Str} : ∀ F x xs, Dq K F x (.str z) → DqAll K F xs (ws.map .str) → flatV x = true ∧ xs.all flatV = true ∧ inV x xs = decide (z ∈ ws) := fun F x xs a b => by
  cases a
  rw [dps_str b]
  exact ⟨rfl, flat_str ws, inv_str z ws⟩
theorem mem_int {z : Int} {ws : List Int} : ∀ F x xs, Dq K F x (.int z) → DqAll K F xs (ws.map .int) → flatV x = true ∧ xs.all flatV = true ∧ inV x xs = decide (z ∈ ws) := fun F x xs a b => by
  cases a
  rw [dps_int b]
  exact ⟨rfl, flat_int ws, inv_int z ws⟩
abbrev rSign : R2 := fun x y H Q => ∃ (c : Nat) (z : Str), x = .str ⟨#[c]⟩ ∧ y = .str z ∧ Q (.bl (decide (c ∈ z.cps.toList))) H
theorem rv_sign {c : Nat} {z : Str} : RvD K rSign (.str ⟨#[c]⟩) (.str z) (.bool (decide (c ∈ z.cps.toList))) := fun F x y H s a b Q q => by
  cases a
  cases b
  exact ⟨c, z, rfl, rfl, q _ F H (.start s) (.bl _)⟩
theorem made_map (e : PyData → PyData) (ds : List PyData) : made (fun _ => true) e ds = ds.map e := by
  unfold made
  rw [List.filter_eq_self.mpr (fun _ _ => rfl)]
end
/-! int(x), abs(x) -/
section
variable {σ : L2.St} {F : Hp} {te : TE}
abbrev rInt1 : List V → Hp → VK → Prop := fun xs H Q => (∃ i, xs = [V.int i] ∧ Q (.int i) H) ∨ ∃ k, xs = [V.bl k] ∧ Q (.int (if k then 1 else 0)) H
theorem rc_int {i : Int} : RcD K rInt1 [.int i] (.int i) := fun F xs H s r Q q => by
  cases r with
  | cons a b =>
    cases b
    cases a
    exact .inl ⟨i, rfl, q _ F H (.start s) (.int _)⟩
theorem rc_intB {k : Bool} : RcD K rInt1 [.bool k] (.int (if k then 1 else 0)) := fun F xs H s r Q q => by
  cases r with
  | cons a b =>
    cases b
    cases a
    exact .inr ⟨k, rfl, q _ F H (.start s) (.int _)⟩
abbrev rAbs : List V → Hp → VK → Prop := fun xs H Q => ∃ i, xs = [V.int i] ∧ Q (.int (if i < 0 then -i else i)) H
theorem rc_abs {i : Int} : RcD K rAbs [.int i] (.int (if i < 0 then -i else i)) := fun F xs H s r Q q => by
  cases r with
  | cons a b =>
    cases b
    cases a
    exact ⟨i, rfl, q _ F H (.start s) (.int _)⟩
end
end Sx
set_option Elab.async false
set_option linter.all false
set_option maxRecDepth 100000
set_option maxHeartbeats 1000000
/-! W3: defs by name, defs that raise, built-ins that nobody covers. -/
namespace Sx
open PySem PySem.Spec PyProof.Rows L2
open C8 (Cal pe_c pe_gc)

/-- the built-ins' names stand for the built-ins -/
structure BI (mg : Str → Option Value) : Prop where
  len : mg "len" = none
  abs : mg "abs" = none
  all : mg "all" = none
  any : mg "any" = none
  sum : mg "sum" = none
  min : mg "min" = none
  max : mg "max" = none
  sorted : mg "sorted" = none
  divmod : mg "divmod" = none
  isinstance : mg "isinstance" = none
  int_ : mg "int" = none
  list_ : mg "list" = none
  str_ : mg "str" = none
  bool_ : mg "bool" = none
  tuple : mg "tuple" = none
  range : mg "range" = none
  zip : mg "zip" = none
  enumerate : mg "enumerate" = none
  repr : mg "repr" = none
def f1 (g : PyData → Option PyData) : List PyData → Option PyData
  | [a] => g a
  | _ => none
def f2 (g : PyData → PyData → Option PyData) : List PyData → Option PyData
  | [a, b] => g a b
  | _ => none
def f3 (g : PyData → PyData → PyData → Option PyData) : List PyData → Option PyData
  | [a, b, c] => g a b c
  | _ => none
section
variable {K : PySem.W.Frag}
theorem len_f1 {g : PyData → Option PyData} {vs : List V} {H : Hp} {Q : VK} {E : XK} (h : spD K (f1 g) vs H Q E) : vs.length = 1 := by
  obtain ⟨F, ds, d, _, r, e, _⟩ := h
  match ds, e with
  | [_], _ => exact r.len
theorem len_f2 {g : PyData → PyData → Option PyData} {vs : List V} {H : Hp} {Q : VK} {E : XK} (h : spD K (f2 g) vs H Q E) : vs.length = 2 := by
  obtain ⟨F, ds, d, _, r, e, _⟩ := h
  match ds, e with
  | [_, _], _ => exact r.len
theorem len_f3 {g : PyData → PyData → PyData → Option PyData} {vs : List V} {H : Hp} {Q : VK} {E : XK} (h : spD K (f3 g) vs H Q E) : vs.length = 3 := by
  obtain ⟨F, ds, d, _, r, e, _⟩ := h
  match ds, e with
  | [_, _, _], _ => exact r.len
/-- what a body of one, two, three parameters may begin with -/
theorem go1 {g : PyData → Option PyData} {vs : List V} {H : Hp} {Q : VK} {E : XK} {G : Prop} (h : spD K (f1 g) vs H Q E)
    (k : ∀ F a x d, Same F H → Dq K F x a → g a = some d → vs = [x] → (∀ v F' H', Grow F H F' H' → Dq K F' v d → Q v H') → G) : G := by
  obtain ⟨F, ds, d, s, r, e, q⟩ := h
  match ds, e, r with
  | [_], e, .cons ra .nil => exact k F _ _ d s ra e rfl q
theorem go2 {g : PyData → PyData → Option PyData} {vs : List V} {H : Hp} {Q : VK} {E : XK} {G : Prop} (h : spD K (f2 g) vs H Q E)
    (k : ∀ F a b x y d, Same F H → Dq K F x a → Dq K F y b → g a b = some d → vs = [x, y] → (∀ v F' H', Grow F H F' H' → Dq K F' v d → Q v H') → G) : G := by
  obtain ⟨F, ds, d, s, r, e, q⟩ := h
  match ds, e, r with
  | [_, _], e, .cons ra (.cons rb .nil) => exact k F _ _ _ _ d s ra rb e rfl q
theorem go3 {g : PyData → PyData → PyData → Option PyData} {vs : List V} {H : Hp} {Q : VK} {E : XK} {G : Prop} (h : spD K (f3 g) vs H Q E)
    (k : ∀ F a b c x y z d, Same F H → Dq K F x a → Dq K F y b → Dq K F z c → g a b c = some d → vs = [x, y, z] → (∀ v F' H', Grow F H F' H' → Dq K F' v d → Q v H') → G) : G := by
  obtain ⟨F, ds, d, s, r, e, q⟩ := h
  match ds, e, r with
  | [_, _, _], e, .cons ra (.cons rb (.cons rc .nil)) => exact k F _ _ _ _ _ _ d s ra rb rc e rfl q
end
/-- a def that may raise, by its name -/
structure CalX (P : Program) (w : World) (K : PySem.W.Frag) (mg : Str → Option Value) (base : Heap) (k : Nat) (x : Str) (ps : List Str) (sp : Sp) : Prop where
  ex : ∃ (f : Addr) (fd : FuncData), FnOk P w K mg base (L2.CX P w) k f fd ps sp ∧ mg x = some (.ref f) ∧ PySem.W.keepIn K (.ref f) = true ∧ Binds K fd ps [] ∧
    ∀ us : List Value, us.length = ps.length → bindArgs fd ⟨us, []⟩ = pure (ps.zip us)
section
variable {X : Cx} {x : Str} {p pos : Pos} {e : Expr} {es : List Expr} {t : TA} {sp : Sp} {k j : Nat} {E : XK} {ps : List Str}
theorem pe_cx (c : CalX X.prog X.w X.K X.mg X.base k x ps sp) (hr : Room j X.A) (hk : k ≤ j) (hg : Gl X x) (hx : Passes (L2.CX X.prog X.w) X E) (ha : PA X (e :: es) t)
    (hdb : (x == ("__debug__" : Str)) = false := by decide) (he : starEach (e :: es) X.env = (false, eval e X.env) :: starEach es X.env := by rfl) (hpl : (backTo pos (starEach es X.env)).any (·.1) = false := by rfl) :
    PE X (.Call (.Name x p) (e :: es) [] pos) (tCall sp [] E t) := by
  obtain ⟨f, fd, F, hm, kp, b, _⟩ := c.ex
  exact pe_call F (hr.mono hk) hg hm kp b .nil hx ha hdb he hpl
end
end Sx
set_option Elab.async false
set_option linter.all false
set_option maxRecDepth 100000
set_option maxHeartbeats 2000000
namespace Sx
open PySem PySem.Spec PyProof.Rows L2
open C8 (Cal pe_c pe_gc)
def top (i : Nat) : Stmt := PySem.Challenge.pw_samewriting_k00_kinds_trees_and_sets_jud.main.body.getD i (.Pass ⟨0, 0, 0, 0⟩)
section
variable {P : Program} {w : World} {K : PySem.W.Frag} {mg : Str → Option Value} {base : Heap} {f : Addr} {fd : FuncData}
/-! ### is_whole -/
abbrev s_is_whole : Stmt := top 4
theorem sc_is_whole : FnScope ["thing"] ["thing"] (defScope s_is_whole) := ⟨rfl, rfl, rfl, by decide +kernel, rfl, by decide +kernel, by decide +kernel⟩
def isWhole (d : PyData) : Bool := isInt d && !isBool d
theorem isWhole_iff (d : PyData) : isWhole d = true ↔ ∃ i, d = .int i := by
  cases d <;> simp [isWhole, isInt, isBool]
abbrev p_is_whole (K : PySem.W.Frag) : Sp := spD K (f1 fun a => some (.bool (isWhole a)))
theorem ok_is_whole (F : Fun K "is_whole" "is_whole" s_is_whole f fd) (B : BI mg) : FnOk P w K mg base CX0 1 f fd ["thing"] (p_is_whole K) := by
  refine F.ok sc_is_whole (fun vs H Q E h => len_f1 h) (fun cdv A outer s H vs Q E hr h => go1 h fun F0 a x d sm ra e ev q => ?_)
  subst ev
  cases e
  refine ⟨_, (pss_one (ps_ret (pe_and (pe_callB (r := rIsi K) (call_isi) (by rfl) B.isinstance (by decide +kernel) (pa_cons (pv 0) (pa_cons (pe_bltn (v := .ty "int") (by rfl) B.int_ (by decide +kernel) rfl) pa_nil))) (pe_one (pe_not (pe_callB (r := rIsi K) (call_isi) (by rfl) B.isinstance (by decide +kernel) (pa_cons (pv 0) (pa_cons (pe_bltn (v := .ty "bool") (by rfl) B.bool_ (by decide +kernel) rfl) pa_nil)))))))), ?_⟩
  have s0 : Slot K (start ["thing"] [x]) F0 0 a := ⟨x, rfl, ra⟩
  exact (r_ret (ev_and (ev_isi (ev_var s0) (kit_int a)) fun _ => ev_not (ev_isi (ev_var s0) (kit_bool a))) : Ret K _ _ F0 _) H sm _ q
/-! ### is_between -/
abbrev s_is_between : Stmt := top 5
theorem sc_is_between : FnScope ["thing", "low", "high"] ["thing", "low", "high"] (defScope s_is_between) := ⟨rfl, rfl, rfl, by decide +kernel, rfl, by decide +kernel, by decide +kernel⟩
def isBetween (d : PyData) (l h : Int) : Bool := match d with
  | .int i => decide (l ≤ i) && decide (i ≤ h)
  | _ => false
def g_is_between (d l h : PyData) : Option PyData := match l, h with
  | .int l, .int h => some (.bool (isBetween d l h))
  | _, _ => none
abbrev p_is_between (K : PySem.W.Frag) : Sp := spD K (f3 g_is_between)
theorem ok_is_between (F : Fun K "is_between" "is_between" s_is_between f fd) (c_is_whole : Cal P w K mg base 1 "is_whole" (p_is_whole K) []) : FnOk P w K mg base CX0 2 f fd ["thing", "low", "high"] (p_is_between K) := by
  refine F.ok sc_is_between (fun vs H Q E h => len_f3 h) (fun cdv A outer s H vs Q E hr h => go3 h fun F0 a b c x y z d sm ra rb rc e ev q => ?_)
  subst ev
  match b, c, e with
  | .int l, .int u, e =>
    cases e
    refine ⟨_, (pss_one (ps_ret (pe_and (pe_c c_is_whole hr (by first | decide | omega) (by rfl) (pa_cons (pv 0) pa_nil)) (pe_one (pe_chain (op_le) (op_le) (pv 1) (pv 0) (pv 2)))))), ?_⟩
    have s0 : Slot K (start ["thing", "low", "high"] [x, y, z]) F0 0 a := ⟨x, rfl, ra⟩
    have s1 : Slot K (start ["thing", "low", "high"] [x, y, z]) F0 1 (.int l) := ⟨y, rfl, rb⟩
    have s2 : Slot K (start ["thing", "low", "high"] [x, y, z]) F0 2 (.int u) := ⟨z, rfl, rc⟩
    refine (r_ret ?_ : Ret K _ _ F0 _) H sm _ q
    have hw := ev_call (K := K) (f := f1 fun a => some (.bool (isWhole a))) (E := E0) (ea_cons (ev_var s0) ea_nil) rfl
    cases a with
    | int i => exact (ev_and hw fun _ => ev_chain (ev_var s1) (ev_var s0) rv_bl (fun _ => ev_var s2) fun _ => rv_bl).is rfl
    | _ => exact (ev_and (c := false) hw fun z => nomatch z).is rfl
/-! ### is_word -/
abbrev s_is_word : Stmt := top 6
theorem sc_is_word : FnScope ["thing", "word"] ["thing", "word"] (defScope s_is_word) := ⟨rfl, rfl, rfl, by decide +kernel, rfl, by decide +kernel, by decide +kernel⟩
def isWord (d : PyData) (z : Str) : Bool := match d with
  | .str x => decide (x = z)
  | _ => false
def g_is_word (d z : PyData) : Option PyData := match z with
  | .str z => some (.bool (isWord d z))
  | _ => none
abbrev p_is_word (K : PySem.W.Frag) : Sp := spD K (f2 g_is_word)
theorem ok_is_word (F : Fun K "is_word" "is_word" s_is_word f fd) (B : BI mg) : FnOk P w K mg base CX0 1 f fd ["thing", "word"] (p_is_word K) := by
  refine F.ok sc_is_word (fun vs H Q E h => len_f2 h) (fun cdv A outer s H vs Q E hr h => go2 h fun F0 a b x y d sm ra rb e ev q => ?_)
  subst ev
  match b, e with
  | .str l, e =>
    cases e
    refine ⟨_, (pss_one (ps_ret (pe_and (pe_callB (r := rIsi K) (call_isi) (by rfl) B.isinstance (by decide +kernel) (pa_cons (pv 0) (pa_cons (pe_bltn (v := .ty "str") (by rfl) B.str_ (by decide +kernel) rfl) pa_nil))) (pe_one (pe_cmpR (op_eq) (pv 0) (pv 1) (nomark _)))))), ?_⟩
    have s0 : Slot K (start ["thing", "word"] [x, y]) F0 0 a := ⟨x, rfl, ra⟩
    have s1 : Slot K (start ["thing", "word"] [x, y]) F0 1 (.str l) := ⟨y, rfl, rb⟩
    refine (r_ret ?_ : Ret K _ _ F0 _) H sm _ q
    have hw := ev_isi (ev_var s0) (kit_str a)
    cases a with
    | str i => exact (ev_and hw fun _ => ev_op (ev_var s0) (ev_var s1) rv_eqS).is rfl
    | _ => exact (ev_and (c := false) hw fun z => nomatch z).is rfl
/-! ### is_row -/
abbrev s_is_row : Stmt := top 7
theorem sc_is_row : FnScope ["thing", "many"] ["thing", "many"] (defScope s_is_row) := ⟨rfl, rfl, rfl, by decide +kernel, rfl, by decide +kernel, by decide +kernel⟩
def isRow (d : PyData) (n : Int) : Bool := match d with
  | .tuple xs => decide ((xs.length : Int) = n)
  | _ => false
def g_is_row (d z : PyData) : Option PyData := match z with
  | .int z => some (.bool (isRow d z))
  | _ => none
abbrev p_is_row (K : PySem.W.Frag) : Sp := spD K (f2 g_is_row)
theorem ok_is_row (F : Fun K "is_row" "is_row" s_is_row f fd) (B : BI mg) : FnOk P w K mg base CX0 1 f fd ["thing", "many"] (p_is_row K) := by
  refine F.ok sc_is_row (fun vs H Q E h => len_f2 h) (fun cdv A outer s H vs Q E hr h => go2 h fun F0 a b x y d sm ra rb e ev q => ?_)
  subst ev
  match b, e with
  | .int l, e =>
    cases e
    refine ⟨_, (pss_one (ps_ret (pe_and (pe_callB (r := rIsi K) (call_isi) (by rfl) B.isinstance (by decide +kernel) (pa_cons (pv 0) (pa_cons (pe_bltn (v := .ty "tuple") (by rfl) B.tuple (by decide +kernel) rfl) pa_nil))) (pe_one (pe_cmpR (op_eq) (pe_callB (r := rLen0 K) (call_len) (by rfl) B.len (by decide +kernel) (pa_cons (pv 0) pa_nil)) (pv 1) (nomark _)))))), ?_⟩
    have s0 : Slot K (start ["thing", "many"] [x, y]) F0 0 a := ⟨x, rfl, ra⟩
    have s1 : Slot K (start ["thing", "many"] [x, y]) F0 1 (.int l) := ⟨y, rfl, rb⟩
    refine (r_ret ?_ : Ret K _ _ F0 _) H sm _ q
    have hw := ev_isi (ev_var s0) (kit_tup a)
    cases a with
    | tuple xs => exact (ev_and hw fun _ => ev_op (ev1 (ev_var s0) rc_lenT) (ev_var s1) rv_eqI).is rfl
    | _ => exact (ev_and (c := false) hw fun z => nomatch z).is rfl
/-! ### is_rising -/
abbrev s_is_rising : Stmt := top 8
theorem sc_is_rising : FnScope ["items", "before", "after"] ["items"] (defScope s_is_rising) := ⟨rfl, rfl, rfl, by decide +kernel, rfl, by decide +kernel, by decide +kernel⟩
def lt2 : PyData → PyData → Bool
  | .str x, .str y => decide (x.cps.toList < y.cps.toList)
  | .int i, .int j => decide (i < j)
  | _, _ => false
def risesD (xs : List PyData) : Bool := (List.zipWith lt2 xs (xs.drop 1)).all id
def plainItems (xs : List PyData) : Bool := xs.all isStr || xs.all isWhole
def g_is_rising : PyData → Option PyData
  | .list xs => if plainItems xs && decide (xs.length < sizeLine) then some (.bool (risesD xs)) else none
  | .tuple xs => if plainItems xs && decide (xs.length < sizeLine) then some (.bool (risesD xs)) else none
  | _ => none
abbrev p_is_rising (K : PySem.W.Frag) : Sp := spD K (f1 g_is_rising)
def ltPair : PyData → PyData
  | .tuple [a, b] => .bool (lt2 a b)
  | _ => .none
theorem ltPairs : ∀ xs ys : List PyData, (pairs xs ys).map ltPair = (List.zipWith lt2 xs ys).map .bool
  | [], _ => rfl
  | _ :: _, [] => rfl
  | a :: xs, b :: ys => congrArg (PyData.bool (lt2 a b) :: ·) (ltPairs xs ys)
theorem pair_cases {xs : List PyData} (hp : plainItems xs = true) {a b : PyData} (ha : a ∈ xs) (hb : b ∈ xs) : (∃ x y, a = .str x ∧ b = .str y) ∨ ∃ i j, a = .int i ∧ b = .int j := by
  unfold plainItems at hp
  rw [Bool.or_eq_true, List.all_eq_true, List.all_eq_true] at hp
  rcases hp with h | h
  · have h1 := h a ha
    have h2 := h b hb
    cases a <;> simp [isStr] at h1
    cases b <;> simp [isStr] at h2
    exact .inl ⟨_, _, rfl, rfl⟩
  · obtain ⟨i, h1⟩ := (isWhole_iff a).mp (h a ha)
    obtain ⟨j, h2⟩ := (isWhole_iff b).mp (h b hb)
    exact .inr ⟨i, j, h1, h2⟩
theorem mem_pairs {xs ys : List PyData} {d : PyData} (h : d ∈ pairs xs ys) : ∃ a b, a ∈ xs ∧ b ∈ ys ∧ d = .tuple [a, b] := by
  obtain ⟨i, hi, e⟩ := List.mem_iff_getElem.mp h
  have q : (pairs xs ys)[i]? = some d := by rw [List.getElem?_eq_getElem hi, e]
  obtain ⟨a, b, h1, h2, h3⟩ := pairs_get q
  exact ⟨a, b, List.mem_of_getElem? h1, List.mem_of_getElem? h2, h3⟩
theorem ok_is_rising (F : Fun K "is_rising" "is_rising" s_is_rising f fd) (B : BI mg) : FnOk P w K mg base CX0 1 f fd ["items"] (p_is_rising K) := by
  refine F.ok sc_is_rising (fun vs H Q E h => len_f1 h) (fun cdv A outer s H vs Q E hr h => go1 h fun F0 a x d sm ra e ev q => ?_)
  subst ev
  refine ⟨_, (pss_one (ps_ret (pe_callB (r := rAll K) (cr_all rfl) (by rfl) B.all (by decide +kernel) (pa_cons (pe_lc (own := [("before", 1), ("after", 2)]) (g := (gTup K 2 (gCons (gName 1) (gCons (gName 2) gNil)))) rfl sc_is_rising.nd (RZ.pi_zipA (by rfl) B.zip (pa_cons (pv 0) (pa_cons (pe_slice (SlR.or sl_list sl_tupA) (pv 0) (po_some pe_int) po_none) pa_nil))) (blkOk_by (own := [("before", 1), ("after", 2)]) (N := ["items", "before", "after"]) (sc := defScope s_is_rising) (by decide +kernel)) (fun _ _ _ _ _ => (pg_tup rfl (pgs_cons (pg_name (i := 1) sc_is_rising.nd rfl (Or.inl rfl) (hf := (Or.inr rfl))) (pgs_cons (pg_name (i := 2) sc_is_rising.nd rfl (Or.inl rfl) (hf := (Or.inr rfl))) pgs_nil)))) (fun _ _ _ _ _ => pts_nil) (fun _ _ _ _ _ => (pe_cmpR (OpR.or op_lt op_lt_str) (pv 1) (pv 2) (nomark _)))) pa_nil)))), ?_⟩
  have s0 : Slot K (start ["items", "before", "after"] [x]) F0 0 a := ⟨x, rfl, ra⟩
  have turn : ∀ (xs : List PyData) (d : PyData) (F' : Hp), plainItems xs = true → d ∈ pairs xs (xs.drop 1) → Tk K (gTup K 2 (gCons (gName 1) (gCons (gName 2) gNil))) d (wipe (start ["items", "before", "after"] [x]) [1, 2]) F' fun σ2 => wipe σ2 [1, 2] = wipe (start ["items", "before", "after"] [x]) [1, 2] ∧
      EvB tYes σ2 F' true ∧ (true = true → EvD K (tOp (fun x y H Q => rI0 (fun i j => V.bl (decide (i < j))) x y H Q ∨ (fun x y H Q => ∃ i j : Str, x = V.str i ∧ y = V.str j ∧ Q (V.bl (decide (i.cps.toList < j.cps.toList))) H) x y H Q) (tVar 1) (tVar 2)) σ2 F' (ltPair d)) := fun xs d F' hp hd => by
    obtain ⟨a, b, h1, h2, rfl⟩ := mem_pairs hd
    refine tk_two.imp fun σ2 hσ => ?_
    obtain ⟨v, w, rfl, rv, rw'⟩ := hσ
    refine ⟨rfl, eb_yes, fun _ => ?_⟩
    rcases pair_cases hp h1 (List.mem_of_mem_drop h2) with ⟨y, z, rfl, rfl⟩ | ⟨i, j, rfl, rfl⟩
    · exact ev_op (ev_var ⟨v, rfl, rv⟩) (ev_var ⟨w, rfl, rw'⟩) (rv_or2 rv_ltS)
    · exact ev_op (ev_var ⟨v, rfl, rv⟩) (ev_var ⟨w, rfl, rw'⟩) (rv_or1 rv_bl)
  have size : ∀ {xs : List PyData}, xs.length < sizeLine → (pairs xs (xs.drop 1)).length < sizeLine := fun {xs} h => by
    rw [pairs_len]
    exact Nat.lt_of_le_of_lt (Nat.min_le_left _ _) h
  match a, e, s0 with
  | .list xs, e, s0 =>
    have e' : (if plainItems xs && decide (xs.length < sizeLine) then some (PyData.bool (risesD xs)) else none) = some d := e
    split at e'
    · rename_i hp
      rw [Bool.and_eq_true, decide_eq_true_iff] at hp
      cases e'
      refine (r_ret (ev1 ((ev_lc (fun _ => true) ltPair (ew_zipAL (ea_cons (ev_var s0) (ea_cons (ev_sl (ev_var s0) (eo_some ev_int) eo_none (rs_or1 rs_list)) ea_nil))) ?_ fun d F' hd _ => ?_).is ?_) rc_all) : Ret K _ _ F0 _) H sm _ q
      · rw [show (1 : Int) = ((1 : Nat) : Int) from rfl, cut_from]
        exact size hp.2
      · rw [show (1 : Int) = ((1 : Nat) : Int) from rfl, cut_from] at hd
        exact turn xs d F' hp.1 hd
      · rw [show (1 : Int) = ((1 : Nat) : Int) from rfl, cut_from, made_map, ltPairs]
    · cases e'
  | .tuple xs, e, s0 =>
    have e' : (if plainItems xs && decide (xs.length < sizeLine) then some (PyData.bool (risesD xs)) else none) = some d := e
    split at e'
    · rename_i hp
      rw [Bool.and_eq_true, decide_eq_true_iff] at hp
      cases e'
      refine (r_ret (ev1 ((ev_lc (fun _ => true) ltPair (ew_zipAT (ea_cons (ev_var s0) (ea_cons (ev_sl (ev_var s0) (eo_some ev_int) eo_none (rs_or2 rs_tup)) ea_nil))) ?_ fun d F' hd _ => ?_).is ?_) rc_all) : Ret K _ _ F0 _) H sm _ q
      · rw [show (1 : Int) = ((1 : Nat) : Int) from rfl, cut_from]
        exact size hp.2
      · rw [show (1 : Int) = ((1 : Nat) : Int) from rfl, cut_from] at hd
        exact turn xs d F' hp.1 hd
      · rw [show (1 : Int) = ((1 : Nat) : Int) from rfl, cut_from, made_map, ltPairs]
    · cases e'
end
end Sx
set_option Elab.async false
set_option linter.all false
set_option maxRecDepth 100000
set_option maxHeartbeats 2000000
namespace Sx
open PySem PySem.Spec PyProof.Rows L2
open C8 (Cal pe_c pe_gc)
def lettersS : Str := "abcdefghijklmnopqrstuvwxyz"
def keptL : List Str := ["call", "else", "end", "for", "if", "in", "on", "use", "with"]
structure Cst (K : PySem.W.Frag) (mg : Str → Option Value) (C_KEPT : Addr) : Prop where
  c_LETTERS : ∃ u, mg "_LETTERS" = some u ∧ RelV (.str lettersS) u
  c_KEPT : ∃ u, mg "KEPT" = some u ∧ RelV (.ref C_KEPT) u
  d_KEPT : ∀ F, Dq K F (.ref C_KEPT) (.tuple (keptL.map .str))
section
variable {P : Program} {w : World} {K : PySem.W.Frag} {mg : Str → Option Value} {base : Heap} {f : Addr} {fd : FuncData} {aK : Addr}
/-! ### is_rising_below -/
abbrev s_is_rising_below : Stmt := top 9
theorem sc_is_rising_below : FnScope ["thing", "many", "number"] ["thing", "many"] (defScope s_is_rising_below) := ⟨rfl, rfl, rfl, by decide +kernel, rfl, by decide +kernel, by decide +kernel⟩
def isRisingBelow (d : PyData) (n : Int) : Bool := match d with
  | .tuple xs => xs.all (fun x => isBetween x 0 (n - 1)) && risesD xs
  | _ => false
def fitsT (d : PyData) : Bool := match d with
  | .tuple xs => decide (xs.length < sizeLine)
  | .str x => decide (x.length ≤ sizeLine)
  | _ => true
def g_is_rising_below (d z : PyData) : Option PyData := match z with
  | .int n => if fitsT d then some (.bool (isRisingBelow d n)) else none
  | _ => none
abbrev p_is_rising_below (K : PySem.W.Frag) : Sp := spD K (f2 g_is_rising_below)
theorem isBetween_whole {d : PyData} {l h : Int} (e : isBetween d l h = true) : isWhole d = true := by
  cases d <;> first | rfl | exact nomatch e
theorem map_bools (g : PyData → Bool) (xs : List PyData) : xs.map (fun x => PyData.bool (g x)) = (xs.map g).map .bool := by
  rw [List.map_map]
  rfl
theorem all_bools (g : PyData → Bool) (xs : List PyData) : (xs.map g).all id = xs.all g := by
  rw [List.all_map]
  rfl
theorem ok_is_rising_below (F : Fun K "is_rising_below" "is_rising_below" s_is_rising_below f fd) (B : BI mg) (c_is_between : Cal P w K mg base 2 "is_between" (p_is_between K) []) (c_is_rising : Cal P w K mg base 1 "is_rising" (p_is_rising K) []) :
    FnOk P w K mg base CX0 3 f fd ["thing", "many"] (p_is_rising_below K) := by
  refine F.ok sc_is_rising_below (fun vs H Q E h => len_f2 h) (fun cdv A outer s H vs Q E hr h => go2 h fun F0 a b x y d sm ra rb e ev q => ?_)
  subst ev
  match b, e with
  | .int n, e =>
    have e' : (if fitsT a then some (PyData.bool (isRisingBelow a n)) else none) = some d := e
    split at e'
    · rename_i hz
      cases e'
      refine ⟨_, (pss_cons (ps_if (pt_not (pt_val (pe_callB (r := rIsi K) (call_isi) (by rfl) B.isinstance (by decide +kernel) (pa_cons (pv 0) (pa_cons (pe_bltn (v := .ty "tuple") (by rfl) B.tuple (by decide +kernel) rfl) pa_nil))))) (pss_one (ps_ret pe_bl)) pss_nil)
        (pss_one (ps_ret (pe_and (pe_callB (r := rAll K) (cr_all rfl) (by rfl) B.all (by decide +kernel) (pa_cons (pe_lc (own := [("number", 2)]) (g := (gName 2)) rfl sc_is_rising_below.nd (pi_tup (pv 0)) (blkOk_by (own := [("number", 2)]) (N := ["thing", "many", "number"]) (sc := defScope s_is_rising_below) (by decide +kernel)) (fun _ _ _ _ _ => (pg_name (i := 2) sc_is_rising_below.nd rfl (Or.inl rfl) (hf := (Or.inr rfl)))) (fun _ _ _ _ _ => pts_nil) (fun _ _ _ _ _ => (pe_c c_is_between hr (by first | decide | omega) (by rfl) (pa_cons (pv 2) (pa_cons pe_int (pa_cons (pe_op (op_sub) (pv 1) pe_int) pa_nil)))))) pa_nil)) (pe_one (pe_c c_is_rising hr (by first | decide | omega) (by rfl) (pa_cons (pv 0) pa_nil))))))), ?_⟩
      have s0 : Slot K (start ["thing", "many", "number"] [x, y]) F0 0 a := ⟨x, rfl, ra⟩
      have s1 : Slot K (start ["thing", "many", "number"] [x, y]) F0 1 (.int n) := ⟨y, rfl, rb⟩
      refine (?_ : Ret K _ _ F0 _) H sm _ q
      have hw := eb_not (eb_val (ev_isi (ev_var s0) (kit_tup a)))
      cases a with
      | tuple xs =>
        refine r_when hw (fun z => nomatch z) fun _ => r_ret ?_
        have hl := of_decide_eq_true hz
        have q1 := ev_lc (K := K) (te := tCall (p_is_between K) [] C8.E0 (tCons (tVar 2) (tCons (tC (.int 0)) (tCons (tOp (rI0 fun i j => V.int (i - j)) (tVar 1) (tC (.int 1))) tNil)))) (tt := tYes) (g := gName 2) (vs := [2]) (fun _ => true) (fun d => .bool (isBetween d 0 (n - 1))) (ew_tup (ev_var s0)) hl fun d F' hd sF => by
          refine tk_name.imp fun σ2 hσ => ?_
          obtain ⟨v, rfl, rv⟩ := hσ
          exact ⟨rfl, eb_yes, fun _ => ev_call (ea_cons (ev_var ⟨v, rfl, rv⟩) (ea_cons ev_int (ea_cons (ev_op (ev_var ⟨y, rfl, rb.up sF⟩) ev_int rv_int) ea_nil))) rfl⟩
        rw [made_map, map_bools] at q1
        have q2 := ev1 q1 rc_all
        rw [all_bools] at q2
        refine (ev_and q2 fun hall => ev_call (d := .bool (risesD xs)) (ea_cons (ev_var s0) ea_nil) ?_ : EvD K _ _ F0 _)
        show (if plainItems xs && decide (xs.length < sizeLine) then some (PyData.bool (risesD xs)) else none) = _
        rw [if_pos]
        rw [Bool.and_eq_true, decide_eq_true_iff]
        refine ⟨?_, hl⟩
        unfold plainItems
        rw [Bool.or_eq_true]
        refine .inr (List.all_eq_true.mpr fun z hz => isBetween_whole (List.all_eq_true.mp hall z hz))
      | _ => exact r_when hw (fun _ => r_ret ev_bl) fun z => nomatch z
    · cases e'
/-! ### is_name -/
abbrev s_is_name : Stmt := top 13
theorem sc_is_name : FnScope ["thing", "letter"] ["thing"] (defScope s_is_name) := ⟨rfl, rfl, rfl, by decide +kernel, rfl, by decide +kernel, by decide +kernel⟩
def isName (d : PyData) : Bool := match d with
  | .str x => (decide (1 ≤ (x.length : Int)) && decide ((x.length : Int) ≤ 8)) && (x.cps.toList.all (fun c => decide (c ∈ lettersS.cps.toList)) && !decide (x ∈ keptL))
  | _ => false
def g_is_name (d : PyData) : Option PyData := if fitsT d then some (.bool (isName d)) else none
abbrev p_is_name (K : PySem.W.Frag) : Sp := spD K (f1 g_is_name)
theorem ok_is_name (F : Fun K "is_name" "is_name" s_is_name f fd) (B : BI mg) (T : Cst K mg aK) : FnOk P w K mg base CX0 1 f fd ["thing"] (p_is_name K) := by
  refine F.ok sc_is_name (fun vs H Q E h => len_f1 h) (fun cdv A outer s H vs Q E hr h => go1 h fun F0 a x d sm ra e ev q => ?_)
  subst ev
  have e' : (if fitsT a then some (PyData.bool (isName a)) else none) = some d := e
  split at e'
  · rename_i hz
    cases e'
    refine ⟨_, (pss_cons (ps_if (PW.pt (pw_or (pt_not (pt_val (pe_callB (r := rIsi K) (call_isi) (by rfl) B.isinstance (by decide +kernel) (pa_cons (pv 0) (pa_cons (pe_bltn (v := .ty "str") (by rfl) B.str_ (by decide +kernel) rfl) pa_nil))))) (pw_or1 (pt_not (pt_chain (op_le) (op_le) pe_int (pe_callB (r := rLen0 K) (call_len) (by rfl) B.len (by decide +kernel) (pa_cons (pv 0) pa_nil)) pe_int))))) (pss_one (ps_ret pe_bl)) pss_nil)
        (pss_one (ps_ret (pe_and (pe_callB (r := rAll K) (cr_all rfl) (by rfl) B.all (by decide +kernel) (pa_cons (pe_lc (own := [("letter", 1)]) (g := (gName 1)) rfl sc_is_name.nd (pi_str (pv 0)) (blkOk_by (own := [("letter", 1)]) (N := ["thing", "letter"]) (sc := defScope s_is_name) (by decide +kernel)) (fun _ _ _ _ _ => (pg_name (i := 1) sc_is_name.nd rfl (Or.inl rfl) (hf := (Or.inr rfl)))) (fun _ _ _ _ _ => pts_nil) (fun _ _ _ _ _ => (pe_cmpR (op_in_sign) (pv 1) (pe_gc (by rfl) T.c_LETTERS) (by rfl)))) pa_nil)) (pe_one (pe_cmpR (r := rIn K true) (op_notIn_seq) (pv 0) (pe_gc (by rfl) T.c_KEPT) (by rfl))))))), ?_⟩
    have s0 : Slot K (start ["thing", "letter"] [x]) F0 0 a := ⟨x, rfl, ra⟩
    refine (?_ : Ret K _ _ F0 _) H sm _ q
    have hw := eb_not (eb_val (ev_isi (ev_var s0) (kit_str a)))
    cases a with
    | str z =>
      have hl : z.length ≤ sizeLine := of_decide_eq_true hz
      refine r_when (eb_or hw fun _ => eb_not (eb_test (ev_chain ev_int (ev1 (ev_var s0) (rc_lenS hl)) rv_bl (fun _ => ev_int) fun _ => rv_bl))) (fun z' => ?_) fun z' => ?_
      · refine (r_ret ev_bl : Ret K _ _ F0 (.bool false)).is' ?_
        have z2 : (decide (1 ≤ (z.length : Int)) && decide ((z.length : Int) ≤ 8)) = false := by
          have z3 : (!(decide (1 ≤ (z.length : Int)) && decide ((z.length : Int) ≤ 8))) = true := z'
          rw [Bool.not_eq_true'] at z3
          exact z3
        show PyData.bool false = .bool ((decide (1 ≤ (z.length : Int)) && decide ((z.length : Int) ≤ 8)) && _)
        rw [z2, Bool.false_and]
      · have z2 : (decide (1 ≤ (z.length : Int)) && decide ((z.length : Int) ≤ 8)) = true := by
          have z3 : (!(decide (1 ≤ (z.length : Int)) && decide ((z.length : Int) ≤ 8))) = false := z'
          rw [Bool.not_eq_false'] at z3
          exact z3
        have h8 : z.length < sizeLine := small1000 (by
          rw [Bool.and_eq_true, decide_eq_true_iff, decide_eq_true_iff] at z2
          omega)
        have q1 := ev_lc (K := K) (te := tOp rSign (tVar 1) (tC (.str lettersS))) (tt := tYes) (g := gName 1) (vs := [1]) (fun _ => true) (fun d => .bool (match d with | .str y => decide (y.cps.toList.headD 0 ∈ lettersS.cps.toList) | _ => false)) (ew_str (ev_var s0)) (by
          unfold signs
          rw [List.length_map, Array.length_toList]
          exact h8) fun d F' hd sF => by
          unfold signs at hd
          obtain ⟨c, _, rfl⟩ := List.mem_map.mp hd
          refine tk_name.imp fun σ2 hσ => ?_
          obtain ⟨v, rfl, rv⟩ := hσ
          exact ⟨rfl, eb_yes, fun _ => ev_op (ev_var ⟨v, rfl, rv⟩) ev_str rv_sign⟩
        rw [made_map, map_bools] at q1
        have q2 := ev1 q1 rc_all
        have e2 : ((signs z).map fun d => (match d with | .str y => decide (y.cps.toList.headD 0 ∈ lettersS.cps.toList) | _ => false)).all id = z.cps.toList.all (fun c => decide (c ∈ lettersS.cps.toList)) := by
          unfold signs
          rw [List.map_map, List.all_map]
          rfl
        rw [e2] at q2
        refine (r_ret (ev_and q2 fun _ => ev_op (ev_var s0) (ev_cd (T.d_KEPT F0)) (rv_niT mem_str))).is' ?_
        show PyData.bool _ = .bool ((decide (1 ≤ (z.length : Int)) && decide ((z.length : Int) ≤ 8)) && _)
        rw [z2, Bool.true_and]
    | _ => exact r_when (eb_or (c := false) hw fun z => nomatch z) (fun _ => r_ret ev_bl) fun z => nomatch z
  · cases e'
/-! ### _is_kind -/
abbrev s__is_kind : Stmt := top 18
theorem sc__is_kind : FnScope ["thing"] ["thing"] (defScope s__is_kind) := ⟨rfl, rfl, rfl, by decide +kernel, rfl, by decide +kernel, by decide +kernel⟩
def isKind (d : PyData) : Bool := match d with
  | .tuple [n, r] => isName n && isBetween r 0 3
  | _ => false
def fitsP (d : PyData) : Bool := match d with
  | .tuple [n, _] => fitsT n
  | _ => true
def g_is_kind (d : PyData) : Option PyData := if fitsP d then some (.bool (isKind d)) else none
abbrev p__is_kind (K : PySem.W.Frag) : Sp := spD K (f1 g_is_kind)
theorem ok__is_kind (F : Fun K "_is_kind" "_is_kind" s__is_kind f fd) (c_is_row : Cal P w K mg base 1 "is_row" (p_is_row K) []) (c_is_name : Cal P w K mg base 1 "is_name" (p_is_name K) []) (c_is_between : Cal P w K mg base 2 "is_between" (p_is_between K) []) :
    FnOk P w K mg base CX0 3 f fd ["thing"] (p__is_kind K) := by
  refine F.ok sc__is_kind (fun vs H Q E h => len_f1 h) (fun cdv A outer s H vs Q E hr h => go1 h fun F0 a x d sm ra e ev q => ?_)
  subst ev
  have e' : (if fitsP a then some (PyData.bool (isKind a)) else none) = some d := e
  split at e'
  · rename_i hz
    cases e'
    refine ⟨_, (pss_one (ps_ret (pe_and (pe_c c_is_row hr (by first | decide | omega) (by rfl) (pa_cons (pv 0) (pa_cons pe_int pa_nil))) (pe_and (pe_c c_is_name hr (by first | decide | omega) (by rfl) (pa_cons (pe_ix (r := rIxT K) ix_tup (pv 0) pe_int (fun _ _ => rfl)) pa_nil)) (pe_one (pe_c c_is_between hr (by first | decide | omega) (by rfl) (pa_cons (pe_ix (r := rIxT K) ix_tup (pv 0) pe_int (fun _ _ => rfl)) (pa_cons pe_int (pa_cons pe_int pa_nil))))))))), ?_⟩
    have s0 : Slot K (start ["thing"] [x]) F0 0 a := ⟨x, rfl, ra⟩
    refine (r_ret ?_ : Ret K _ _ F0 _) H sm _ q
    have hw : EvD K _ _ F0 _ := ev_call (f := f2 g_is_row) (E := E0) (ea_cons (ev_var s0) (ea_cons (ev_int (i := 2)) ea_nil)) rfl
    by_cases h2 : isRow a 2 = true
    · match a, h2, hz, s0, hw with
      | .tuple [n, r], _, hz, s0, hw =>
        refine (ev_and hw fun _ => ev_and (ev_call (ea_cons (ev_op (ev_var s0) ev_int (rv_ixT (k := 0) rfl)) ea_nil) (?_ : g_is_name n = some (.bool (isName n)))) fun _ => ev_call (ea_cons (ev_op (ev_var s0) ev_int (rv_ixT (k := 1) rfl)) (ea_cons ev_int (ea_cons ev_int ea_nil))) rfl).is rfl
        exact if_pos hz
    · have h3 : isRow a 2 = false := Bool.eq_false_iff.mpr h2
      refine (ev_and (c := false) hw fun z => absurd z h2).is ?_
      rw [h3]
      have h4 : isKind a = false := by
        match a, h3 with
        | .tuple [], _ => rfl
        | .tuple [_], _ => rfl
        | .tuple (_ :: _ :: _ :: _), _ => rfl
        | .none, _ => rfl
        | .bool _, _ => rfl
        | .int _, _ => rfl
        | .str _, _ => rfl
        | .list _, _ => rfl
        | .dict _, _ => rfl
      rw [h4]
      rfl
  · cases e'
/-! ### is_kinds -/
abbrev s_is_kinds : Stmt := top 17
theorem sc_is_kinds : FnScope ["thing", "pair", "name", "_", "rank"] ["thing"] (defScope s_is_kinds) := ⟨rfl, rfl, rfl, by decide +kernel, rfl, by decide +kernel, by decide +kernel⟩
def fstD : PyData → PyData
  | .tuple [a, _] => a
  | _ => .none
def sndD : PyData → PyData
  | .tuple [_, b] => b
  | _ => .none
def isZero : PyData → Bool
  | .int i => decide (i = 0)
  | _ => false
def isKinds (d : PyData) : Bool := match d with
  | .tuple xs => (decide (1 ≤ (xs.length : Int)) && decide ((xs.length : Int) ≤ 6)) && (xs.all isKind && (risesD (xs.map fstD) && (xs.map sndD).any isZero))
  | _ => false
def fitsK (d : PyData) : Bool := match d with
  | .tuple xs => xs.all fitsP
  | _ => true
def g_is_kinds (d : PyData) : Option PyData := if fitsK d then some (.bool (isKinds d)) else none
abbrev p_is_kinds (K : PySem.W.Frag) : Sp := spD K (f1 g_is_kinds)
theorem kind_cases {d : PyData} (h : isKind d = true) : ∃ (n : Str) (r : Int), d = .tuple [.str n, .int r] ∧ isName (.str n) = true ∧ 0 ≤ r ∧ r ≤ 3 := by
  match d, h with
  | .tuple [n, r], h =>
    have h' : (isName n && isBetween r 0 3) = true := h
    rw [Bool.and_eq_true] at h'
    obtain ⟨h1, h2⟩ := h'
    match n, h1, r, h2 with
    | .str n, h1, .int r, h2 =>
      have h2' : (decide ((0 : Int) ≤ r) && decide (r ≤ 3)) = true := h2
      rw [Bool.and_eq_true, decide_eq_true_iff, decide_eq_true_iff] at h2'
      exact ⟨n, r, rfl, h1, h2'.1, h2'.2⟩
theorem least_of : ∀ {ns : List Int}, ns ≠ [] → ∃ m, m ∈ ns ∧ ∀ y, y ∈ ns → m ≤ y
  | [], h => absurd rfl h
  | [a], _ => ⟨a, List.mem_cons_self, fun y hy => by
    rw [List.mem_singleton] at hy
    omega⟩
  | a :: b :: r, _ => by
    obtain ⟨m, h1, h2⟩ := least_of (ns := b :: r) (List.cons_ne_nil _ _)
    by_cases h : a ≤ m
    · refine ⟨a, List.mem_cons_self, fun y hy => ?_⟩
      rcases List.mem_cons.mp hy with e | e
      · omega
      · have := h2 y e
        omega
    · refine ⟨m, List.mem_cons_of_mem _ h1, fun y hy => ?_⟩
      rcases List.mem_cons.mp hy with e | e
      · omega
      · exact h2 y e
def intD : PyData → Int
  | .int i => i
  | _ => 0
theorem ok_is_kinds (F : Fun K "is_kinds" "is_kinds" s_is_kinds f fd) (B : BI mg) (c__is_kind : Cal P w K mg base 3 "_is_kind" (p__is_kind K) []) (c_is_rising : Cal P w K mg base 1 "is_rising" (p_is_rising K) []) :
    FnOk P w K mg base CX0 4 f fd ["thing"] (p_is_kinds K) := by
  refine F.ok sc_is_kinds (fun vs H Q E h => len_f1 h) (fun cdv A outer s H vs Q E hr h => go1 h fun F0 a x d sm ra e ev q => ?_)
  subst ev
  have e' : (if fitsK a then some (PyData.bool (isKinds a)) else none) = some d := e
  split at e'
  · rename_i hz
    cases e'
    refine ⟨_, (pss_cons (ps_if (PW.pt (pw_or (pt_not (pt_val (pe_callB (r := rIsi K) (call_isi) (by rfl) B.isinstance (by decide +kernel) (pa_cons (pv 0) (pa_cons (pe_bltn (v := .ty "tuple") (by rfl) B.tuple (by decide +kernel) rfl) pa_nil))))) (pw_or1 (pt_not (pt_chain (op_le) (op_le) pe_int (pe_callB (r := rLen0 K) (call_len) (by rfl) B.len (by decide +kernel) (pa_cons (pv 0) pa_nil)) pe_int))))) (pss_one (ps_ret pe_bl)) pss_nil)
        (pss_cons (ps_if (pt_not (pt_val (pe_callB (r := rAll K) (cr_all rfl) (by rfl) B.all (by decide +kernel) (pa_cons (pe_lc (own := [("pair", 1)]) (g := (gName 1)) rfl sc_is_kinds.nd (pi_tup (pv 0)) (blkOk_by (own := [("pair", 1)]) (N := ["thing", "pair", "name", "_", "rank"]) (sc := defScope s_is_kinds) (by decide +kernel)) (fun _ _ _ _ _ => (pg_name (i := 1) sc_is_kinds.nd rfl (Or.inl rfl) (hf := (Or.inr rfl)))) (fun _ _ _ _ _ => pts_nil) (fun _ _ _ _ _ => (pe_c c__is_kind hr (by first | decide | omega) (by rfl) (pa_cons (pv 1) pa_nil)))) pa_nil)))) (pss_one (ps_ret pe_bl)) pss_nil)
        (pss_one (ps_ret (pe_and (pe_c c_is_rising hr (by first | decide | omega) (by rfl) (pa_cons (pe_lc (own := [("name", 2), ("_", 3)]) (g := (gTup K 2 (gCons (gName 2) (gCons (gName 3) gNil)))) rfl sc_is_kinds.nd (pi_tup (pv 0)) (blkOk_by (own := [("name", 2), ("_", 3)]) (N := ["thing", "pair", "name", "_", "rank"]) (sc := defScope s_is_kinds) (by decide +kernel)) (fun _ _ _ _ _ => (pg_tup rfl (pgs_cons (pg_name (i := 2) sc_is_kinds.nd rfl (Or.inl rfl) (hf := (Or.inr rfl))) (pgs_cons (pg_name (i := 3) sc_is_kinds.nd rfl (Or.inl rfl) (hf := (Or.inr rfl))) pgs_nil)))) (fun _ _ _ _ _ => pts_nil) (fun _ _ _ _ _ => (pv 2))) pa_nil)) (pe_one (pe_cmpR (op_eq) (pe_callB (r := rMin K) (cr_min rfl) (by rfl) B.min (by decide +kernel) (pa_cons (pe_lc (own := [("_", 3), ("rank", 4)]) (g := (gTup K 2 (gCons (gName 3) (gCons (gName 4) gNil)))) rfl sc_is_kinds.nd (pi_tup (pv 0)) (blkOk_by (own := [("_", 3), ("rank", 4)]) (N := ["thing", "pair", "name", "_", "rank"]) (sc := defScope s_is_kinds) (by decide +kernel)) (fun _ _ _ _ _ => (pg_tup rfl (pgs_cons (pg_name (i := 3) sc_is_kinds.nd rfl (Or.inl rfl) (hf := (Or.inr rfl))) (pgs_cons (pg_name (i := 4) sc_is_kinds.nd rfl (Or.inl rfl) (hf := (Or.inr rfl))) pgs_nil)))) (fun _ _ _ _ _ => pts_nil) (fun _ _ _ _ _ => (pv 4))) pa_nil)) pe_int (nomark _)))))))), ?_⟩
    have s0 : Slot K (start ["thing", "pair", "name", "_", "rank"] [x]) F0 0 a := ⟨x, rfl, ra⟩
    refine (?_ : Ret K _ _ F0 _) H sm _ q
    have hw := eb_not (eb_val (ev_isi (ev_var s0) (kit_tup a)))
    cases a with
    | tuple xs =>
      have hz' : xs.all fitsP = true := hz
      refine r_when (eb_or hw fun _ => eb_not (eb_test (ev_chain ev_int (ev1 (ev_var s0) rc_lenT) rv_bl (fun _ => ev_int) fun _ => rv_bl))) (fun z' => ?_) fun z' => ?_
      · refine (r_ret ev_bl : Ret K _ _ F0 (.bool false)).is' ?_
        have z2 : (decide (1 ≤ (xs.length : Int)) && decide ((xs.length : Int) ≤ 6)) = false := by
          have z3 : (!(decide (1 ≤ (xs.length : Int)) && decide ((xs.length : Int) ≤ 6))) = true := z'
          rw [Bool.not_eq_true'] at z3
          exact z3
        show PyData.bool false = .bool ((decide (1 ≤ (xs.length : Int)) && decide ((xs.length : Int) ≤ 6)) && _)
        rw [z2, Bool.false_and]
      · have z2 : (decide (1 ≤ (xs.length : Int)) && decide ((xs.length : Int) ≤ 6)) = true := by
          have z3 : (!(decide (1 ≤ (xs.length : Int)) && decide ((xs.length : Int) ≤ 6))) = false := z'
          rw [Bool.not_eq_false'] at z3
          exact z3
        have z4 := z2
        rw [Bool.and_eq_true, decide_eq_true_iff, decide_eq_true_iff] at z4
        have hl : xs.length < sizeLine := small1000 (by omega)
        have q1 := ev_lc (K := K) (te := tCall (p__is_kind K) [] C8.E0 (tCons (tVar 1) tNil)) (tt := tYes) (g := gName 1) (vs := [1]) (fun _ => true) (fun d => .bool (isKind d)) (ew_tup (ev_var s0)) hl fun d F' hd sF => by
          refine tk_name.imp fun σ2 hσ => ?_
          obtain ⟨v, rfl, rv⟩ := hσ
          exact ⟨rfl, eb_yes, fun _ => ev_call (ea_cons (ev_var ⟨v, rfl, rv⟩) ea_nil) (if_pos (List.all_eq_true.mp hz' d hd))⟩
        rw [made_map, map_bools] at q1
        have q2 := ev1 q1 rc_all
        rw [all_bools] at q2
        refine r_when (eb_not (eb_val q2)) (fun z5 => ?_) fun z5 => ?_
        · refine (r_ret ev_bl : Ret K _ _ F0 (.bool false)).is' ?_
          rw [Bool.not_eq_true'] at z5
          show PyData.bool false = .bool ((decide (1 ≤ (xs.length : Int)) && decide ((xs.length : Int) ≤ 6)) && (xs.all isKind && _))
          rw [z2, z5, Bool.true_and, Bool.false_and]
        · rw [Bool.not_eq_false'] at z5
          have hk := List.all_eq_true.mp z5
          have qn := ev_lc (K := K) (te := tVar 2) (tt := tYes) (g := gTup K 2 (gCons (gName 2) (gCons (gName 3) gNil))) (vs := [2, 3]) (fun _ => true) fstD (ew_tup (ev_var s0)) hl fun d F' hd sF => by
            obtain ⟨n, r, rfl, _⟩ := kind_cases (hk d hd)
            refine tk_two.imp fun σ2 hσ => ?_
            obtain ⟨v, u, rfl, rv, ru⟩ := hσ
            exact ⟨rfl, eb_yes, fun _ => ev_var ⟨v, rfl, rv⟩⟩
          rw [made_map] at qn
          have qr := ev_lc (K := K) (te := tVar 4) (tt := tYes) (g := gTup K 2 (gCons (gName 3) (gCons (gName 4) gNil))) (vs := [3, 4]) (fun _ => true) sndD (ew_tup (ev_var s0)) hl fun d F' hd sF => by
            obtain ⟨n, r, rfl, _⟩ := kind_cases (hk d hd)
            refine tk_two.imp fun σ2 hσ => ?_
            obtain ⟨v, u, rfl, rv, ru⟩ := hσ
            exact ⟨rfl, eb_yes, fun _ => ev_var ⟨u, rfl, ru⟩⟩
          rw [made_map, show xs.map sndD = (xs.map fun d => intD (sndD d)).map .int by
            rw [List.map_map]
            refine List.map_congr_left fun d hd => ?_
            obtain ⟨n, r, rfl, _⟩ := kind_cases (hk d hd)
            rfl] at qr
          have hne : (xs.map fun d => intD (sndD d)) ≠ [] := fun z => by
            have := congrArg List.length z
            rw [List.length_map] at this
            simp at this
            subst this
            simp at z4
          obtain ⟨m, hm1, hm2⟩ := least_of hne
          have q3 := ev1 qr (rc_min hne fun k h1 h2 => Int.le_antisymm (h2 m hm1) (hm2 k h1))
          refine (r_ret (ev_and (ev_call (d := .bool (risesD (xs.map fstD))) (ea_cons qn ea_nil) ?_) fun _ => ev_op q3 ev_int rv_eqI)).is' ?_
          · show (if plainItems (xs.map fstD) && decide ((xs.map fstD).length < sizeLine) then some (PyData.bool (risesD (xs.map fstD))) else none) = _
            rw [if_pos]
            rw [Bool.and_eq_true, decide_eq_true_iff, List.length_map]
            refine ⟨?_, hl⟩
            unfold plainItems
            rw [Bool.or_eq_true]
            refine .inl (List.all_eq_true.mpr fun z hz => ?_)
            obtain ⟨d, hd, rfl⟩ := List.mem_map.mp hz
            obtain ⟨n, r, rfl, _⟩ := kind_cases (hk d hd)
            rfl
          · show PyData.bool _ = .bool ((decide (1 ≤ (xs.length : Int)) && decide ((xs.length : Int) ≤ 6)) && (xs.all isKind && _))
            rw [z2, z5, Bool.true_and, Bool.true_and]
            refine congrArg (fun b => PyData.bool (risesD (xs.map fstD) && b)) ?_
            rw [Bool.eq_iff_iff, decide_eq_true_iff, List.any_eq_true]
            constructor
            · intro e0
              obtain ⟨d, hd, e1⟩ := List.mem_map.mp hm1
              obtain ⟨n, r, rfl, _⟩ := kind_cases (hk d hd)
              refine ⟨.int r, List.mem_map.mpr ⟨_, hd, rfl⟩, decide_eq_true ?_⟩
              have : r = m := e1
              omega
            · rintro ⟨z, hz1, hz2⟩
              obtain ⟨d, hd, rfl⟩ := List.mem_map.mp hz1
              obtain ⟨n, r, rfl, _, h0, _⟩ := kind_cases (hk d hd)
              have e0 : r = 0 := of_decide_eq_true hz2
              have h1 := hm2 r (List.mem_map.mpr ⟨_, hd, rfl⟩)
              obtain ⟨d2, hd2, e2⟩ := List.mem_map.mp hm1
              obtain ⟨n2, r2, rfl, _, h2, _⟩ := kind_cases (hk d2 hd2)
              have : r2 = m := e2
              omega
    | _ => exact r_when (eb_or (c := false) hw fun z => nomatch z) (fun _ => r_ret ev_bl) fun z => nomatch z
  · cases e'
end
end Sx
set_option Elab.async false
set_option linter.all false
set_option maxRecDepth 100000
set_option maxHeartbeats 1000000
/-! W4: lists of one's own that are changed; defs that raise. -/
namespace Sx
open PySem PySem.Spec PyProof.Rows L2
open C8 (Cal pe_c pe_gc)
section
variable {K : PySem.W.Frag} {σ : L2.St} {F H : Hp} {te ta tb to : TE} {d : PyData} {D : Ends} {v : V} {tz : TS}
/-- a value told at once -/
def Now (te : TE) (σ : L2.St) (H : Hp) (v : V) : Prop := ∀ Q : VK, Q v H → te σ H Q
theorem now_var {i : Nat} (h : σ[i]? = some (some v)) : Now (tVar i) σ H v := fun Q q => ⟨v, h, q⟩
theorem now_c : Now (tC v) σ H v := fun Q q => q
theorem now_ixL {a : Addr} {xs : List V} {k : Nat} (ha : Now ta σ H (.ref a)) (hx : SqL K H a xs) (hb : Now tb σ H (.int (k : Int))) (hk : xs[k]? = some v) : Now (tOp (rIxL K) ta tb) σ H v := fun Q q =>
  ha _ (hb _ ⟨a, xs, (k : Int), v, rfl, rfl, hx, atI_nat hk, q⟩)
/-- l.append(e): e is reckoned on the heap as it stands -/
theorem s_app {l : Addr} {xs : List V} (ho : Now to σ H (.ref l)) (hl : H l = some (.lst xs)) (hn : xs.length < sizeLine) (he : EvD K te σ H d)
    (k : ∀ v F' H', Grow H H F' H' → Dq K F' v d → D.nx σ (upd H' l (.lst (xs ++ [v])))) : tDrop (tBM K "list" rAppend to (tCons te tNil)) D σ H :=
  ho _ ⟨.inl ⟨rfl, xs, .inl (.inl hl)⟩, he H (Same.refl H) _ fun v F' H' g r => ⟨l, xs, v, rfl, rfl, g.h _ _ hl, hn, k v F' H' g r⟩⟩
/-- what was known stands beside a change of one's own -/
theorem same_own {G H' : Hp} {l : Addr} {o : HO} (s : Same G H') (h : G l = none) : Same G (upd H' l o) := fun b x e => by
  rw [upd_ne (ne_of_none e h)]
  exact s b x e
theorem upd_at {H' : Hp} {l b : Addr} {o x : HO} (h : b ≠ l) (e : H' b = some x) : upd H' l o b = some x := by
  rw [upd_ne h]
  exact e
theorem free_grow {F H F' H' : Hp} {l : Addr} {o : HO} (g : Grow F H F' H') (hF : F l = none) (hH : H l = some o) : F' l = none := by
  cases z : F' l with
  | none => rfl
  | some u =>
    have := g.n l u z hF
    rw [hH] at this
    cases this
/-- x = e, e reckoned on the heap as it stands -/
theorem s_set {i : Nat} (he : EvD K te σ F d) (s : Same F H) (k : ∀ v F' H', Grow F H F' H' → Dq K F' v d → D.nx (σ.set i (some v)) H') : tAsg te (gName i) D σ H := he H s _ fun v F' H' g r => k v F' H' g r
theorem s_if {b : Bool} {t : TT} {ts tu : TS} (h : EvB t σ F b) (s : Same F H) (k1 : b = true → ∀ F' H', Grow F H F' H' → ts D σ H') (k2 : b = false → ∀ F' H', Grow F H F' H' → tu D σ H') : tIfS t ts tu D σ H := h H s _ fun F1 H1 g => by
  cases b with
  | true => exact k1 rfl F1 H1 g
  | false => exact k2 rfl F1 H1 g
theorem s_when {b : Bool} {t : TT} {ts tw : TS} (h : EvB t σ F b) (s : Same F H) (k1 : b = true → ∀ F' H', Grow F H F' H' → ts { D with nx := tw D } σ H') (k2 : b = false → ∀ F' H', Grow F H F' H' → tw D σ H') : tSeq (tIfS t ts tNext) tw D σ H := h H s _ fun F1 H1 g => by
  cases b with
  | true => exact k1 rfl F1 H1 g
  | false => exact k2 rfl F1 H1 g
/-- x = a new list: nobody else knows it -/
theorem s_newL {i : Nat} {ta : TA} {ds : List PyData} (he : EvS K ta σ F ds) (s : Same F H) (hl : ds.length ≤ sizeLine) (k : ∀ p vs F' H', Grow F H F' H' → H' p = none → DqAll K F' vs ds → D.nx (σ.set i (some (.ref p))) (upd H' p (.lst vs))) :
    tAsg (tLst ta) (gName i) D σ H := he H s _ fun vs F' H' g r => ⟨by rw [r.len]; exact hl, fun p hp => k p vs F' H' g hp r⟩
theorem s_ret (he : EvD K te σ F d) (s : Same F H) (k : ∀ v F' H', Grow F H F' H' → Dq K F' v d → D.rt v H') : tRet te D σ H := he H s _ k
/-- a block of pure steps, read from the heap as it stands -/
theorem s_retNow (h : Now te σ H v) (k : D.rt v H) : tRet te D σ H := h _ k
end
/-! ### defs that may raise an error without fields -/
/-- the promise of such a def: a value, or an error of the class at C -/
def spX (K : PySem.W.Frag) (g : List PyData → Option (Except Addr PyData)) : Sp := fun vs H Q E => ∃ F ds r, Same F H ∧ DqAll K F vs ds ∧ g ds = some r ∧
  (∀ d, r = .ok d → ∀ v F' H', Grow F H F' H' → Dq K F' v d → Q v H') ∧ ∀ C, r = .error C → ∀ H', Same H H' → E (.ref C) none H'
section
variable {K : PySem.W.Frag} {σ : L2.St} {F : Hp} {d : PyData}
def x1 (g : PyData → Option (Except Addr PyData)) : List PyData → Option (Except Addr PyData)
  | [a] => g a
  | _ => none
def x2 (g : PyData → PyData → Option (Except Addr PyData)) : List PyData → Option (Except Addr PyData)
  | [a, b] => g a b
  | _ => none
theorem len_x1 {g : PyData → Option (Except Addr PyData)} {vs : List V} {H : Hp} {Q : VK} {E : XK} (h : spX K (x1 g) vs H Q E) : vs.length = 1 := by
  obtain ⟨F, ds, r, _, ra, e, _⟩ := h
  match ds, e with
  | [_], _ => exact ra.len
theorem len_x2 {g : PyData → PyData → Option (Except Addr PyData)} {vs : List V} {H : Hp} {Q : VK} {E : XK} (h : spX K (x2 g) vs H Q E) : vs.length = 2 := by
  obtain ⟨F, ds, r, _, ra, e, _⟩ := h
  match ds, e with
  | [_, _], _ => exact ra.len
/-- a call that comes back -/
theorem ev_callX {g : List PyData → Option (Except Addr PyData)} {E : XK} {ta : TA} {ds : List PyData} (h : EvS K ta σ F ds) (e : g ds = some (.ok d)) : EvD K (tCall (spX K g) [] E ta) σ F d := fun H s Q q =>
  h H s _ fun vs F1 H1 g1 r1 => ⟨F1, ds, _, g1.i, by rw [List.append_nil]; exact r1, e, fun d' hd v F2 H2 g2 r2 => by
    cases hd
    exact q v F2 H2 (g1.trans g2) r2, fun C hC => nomatch hC⟩
/-- a call that raises -/
theorem call_raises {g : List PyData → Option (Except Addr PyData)} {E : XK} {ta : TA} {ds : List PyData} {C : Addr} {H : Hp} {Q : VK} (h : EvS K ta σ F ds) (s : Same F H) (e : g ds = some (.error C)) (k : ∀ H', Same H H' → E (.ref C) none H') : tCall (spX K g) [] E ta σ H Q := by
  refine h H s _ fun vs F1 H1 g1 r1 => ⟨F1, ds, _, g1.i, (by rw [List.append_nil]; exact r1), e, (fun d' hd => nomatch hd), fun C' hC H' s' => ?_⟩
  cases hC
  exact k H' (g1.h.trans s')
/-- raise C('..') -/
def tRse (E : XK) (C : Addr) : TS := fun _ σ H => E (.ref C) none H
/-- the class at C can be raised by its name -/
structure Rse (K : PySem.W.Frag) (mg : Str → Option Value) (x : Str) (C : Addr) : Prop where
  e : PySem.W.excIn K C [.type "ValueError", .type "Exception", .type "BaseException", .type "object"] "ValueError.__new__" = true
  g : mg x = some (.ref C)
  k : PySem.W.keepIn K (.ref C) = true
  b : PySem.W.subIn K (.ref C) (.type "BaseException") = some true
  t : PySem.W.typeIn K (.ref C) = some (.type "type")
end
end Sx
set_option Elab.async false
set_option linter.all false
set_option maxRecDepth 100000
set_option maxHeartbeats 2000000
namespace Sx
open PySem PySem.Spec PyProof.Rows L2
open C8 (Cal pe_c pe_gc)
section
variable {P : Program} {w : World} {K : PySem.W.Frag} {mg : Str → Option Value} {base : Heap} {f : Addr} {fd : FuncData} {aK CK CN : Addr}
/-! ### check_kinds -/
abbrev s_check_kinds : Stmt := top 19
theorem sc_check_kinds : FnScope ["kinds"] ["kinds"] (defScope s_check_kinds) := ⟨rfl, rfl, rfl, by decide +kernel, rfl, by decide +kernel, by decide +kernel⟩
def g_check_kinds (CK : Addr) (d : PyData) : Option (Except Addr PyData) := if fitsK d then some (if isKinds d then .ok .none else .error CK) else none
abbrev p_check_kinds (K : PySem.W.Frag) (CK : Addr) : Sp := spX K (x1 (g_check_kinds CK))
theorem ok_check_kinds (F : Fun K "check_kinds" "check_kinds" s_check_kinds f fd) (c_is_kinds : Cal P w K mg base 4 "is_kinds" (p_is_kinds K) []) (X_BadKinds : Rse K mg "BadKinds" CK) : FnOk P w K mg base (L2.CX P w) 5 f fd ["kinds"] (p_check_kinds K CK) := by
  refine F.okX sc_check_kinds (fun vs H Q E h => len_x1 h) (fun cdv A outer s H vs Q E hr h => ?_)
  obtain ⟨F0, ds, r, sm, ra, e, q, qe⟩ := h
  match ds, ra, e with
  | [a], .cons (v := x) ra .nil, e =>
    have e' : (if fitsK a then some (if isKinds a then Except.ok PyData.none else .error CK) else none) = some r := e
    split at e'
    · rename_i hz
      cases e'
      refine ⟨_, (pss_one (ps_if (pt_not (pt_val (pe_c c_is_kinds hr (by first | decide | omega) (by rfl) (pa_cons (pv 0) pa_nil)))) (pss_one (ps_raise rfl (takes_of rfl rfl rfl rfl) (pmk_own PySem.F.excBase_ValueError X_BadKinds.e X_BadKinds.g X_BadKinds.k (raises_own X_BadKinds.b X_BadKinds.t) (by exact rfl)))) pss_nil)), ?_⟩
      have s0 : Slot K (start ["kinds"] [x]) F0 0 a := ⟨x, rfl, ra⟩
      have hw : EvB _ _ F0 _ := eb_not (eb_val (ev_call (K := K) (f := f1 g_is_kinds) (E := E0) (ea_cons (ev_var s0) ea_nil) (if_pos hz)))
      refine hw H sm _ fun F1 H1 g1 => ?_
      by_cases hk : isKinds a = true
      · rw [hk]
        exact q .none (by rw [if_pos hk]) .non F1 H1 g1 .non
      · have hk' : isKinds a = false := Bool.eq_false_iff.mpr hk
        rw [hk']
        exact qe CK (by rw [if_neg hk]) H1 g1.h
    · cases e'
end
end Sx
set_option Elab.async false
set_option linter.all false
set_option maxRecDepth 100000
set_option maxHeartbeats 400000
/-! W5: slices with a step, xs[i] op= e, enumerate of a tuple, two-fold comprehensions, more operations. -/
namespace Sx
open PySem PySem.Spec PyProof.Rows L2
open C8 (Cal pe_c pe_gc)
/-! ### xs[i:j:k] of a list -/
/-- the places that a slice means -/
def places (n : Nat) (lo hi st : Option Int) : List Nat := let b := sliceBounds lo hi st n; sliceRange b.1 b.2.1 b.2.2
theorem vals_at {xs : List V} {us : List Value} (r : Vals xs us) : ∀ js : List Nat, Vals (js.filterMap fun j => xs[j]?) (js.filterMap fun j => us[j]?)
  | [] => .nil
  | j :: js => by
    cases e : xs[j]? with
    | none =>
      rw [List.filterMap_cons_none e, List.filterMap_cons_none (r.none_of e)]
      exact vals_at r js
    | some x =>
      obtain ⟨u, hu, ru⟩ := r.get e
      rw [List.filterMap_cons_some e, List.filterMap_cons_some hu]
      exact .cons ru (vals_at r js)
theorem dps_at {K : PySem.W.Frag} {F : Hp} {xs : List V} {ds : List PyData} (r : DqAll K F xs ds) : ∀ js : List Nat, DqAll K F (js.filterMap fun j => xs[j]?) (js.filterMap fun j => ds[j]?)
  | [] => .nil
  | j :: js => by
    cases e : ds[j]? with
    | none =>
      have hl := r.len
      have h2 : ds.length ≤ j := List.getElem?_eq_none_iff.mp e
      have e2 : xs[j]? = none := List.getElem?_eq_none_iff.mpr (by omega)
      rw [List.filterMap_cons_none e, List.filterMap_cons_none e2]
      exact dps_at r js
    | some d =>
      obtain ⟨v, hv, rv⟩ := r.get e
      rw [List.filterMap_cons_some e, List.filterMap_cons_some hv]
      exact .cons rv (dps_at r js)
def tStep (K : PySem.W.Frag) (te : TE) (tl th ts : TO) : TE := fun σ H Q => te σ H fun x H1 => tl σ H1 fun l H2 => th σ H2 fun u H3 => ts σ H3 fun c H4 => ∃ a xs, x = .ref a ∧ SqL K H4 a xs ∧ c ≠ some 0 ∧
  ∀ p, H4 p = none → Q (.ref p) (upd H4 p (.lst ((places xs.length l u c).filterMap fun j => xs[j]?)))
section
variable {X : Cx} {e : Expr} {te : TE} {lo hi st : Option Expr} {tl th ts : TO} {p2 pos : Pos}
theorem pe_step (he : PE X e te) (hl : PO X lo tl) (hu : PO X hi th) (hs : PO X st ts) (hsub : ∀ v i, subscripted (.Slice lo hi st p2) false v i = operate [v, i] (getItem v i) := by intros; with_unfolding_all rfl) : PE X (.Subscript e (.Slice lo hi st p2) pos) (tStep X.K te tl th ts) := by
  refine ⟨fun pins s σ H Q I h => Subscript_ (thn (he.run pins s σ H _ I h) fun v s1 hq => ?_)⟩
  obtain ⟨x, H1, I1, r1, q1⟩ := hq
  refine wpAny_Slice (thn (hl.run pins s1 σ H1 _ I1 q1) fun vl s2 hq2 => ?_)
  obtain ⟨l, H2, I2, pl, q2⟩ := hq2
  refine thn (hu.run pins s2 σ H2 _ I2 q2) fun vu s3 hq3 => ?_
  obtain ⟨u, H3, I3, pu, q3⟩ := hq3
  refine thn (hs.run pins s3 σ H3 _ I3 q3) fun vs s4 hq4 => ?_
  obtain ⟨c, H4, I4, pc, a, xs, ex, hx, hc, q⟩ := hq4
  subst ex
  cases r1
  generalize hob : ({ cls := .type "slice", data := .fields #[vl, vu, vs] } : Obj) = ob
  have I5 : Inv X pins σ H4 { s4 with heap := s4.heap.push ob } := I4.kept (t' := s4.toks) fun b o z => Heap.get?_push_of_some _ z
  obtain ⟨its, rv, pt, hz⟩ := I5.list hx
  have hlen := rv.length
  have hsl : (s4.heap.push ob).IsSliceOf s4.heap.objs.size vl vu vs := by
    rw [← hob]
    exact .new ..
  have fin : wpAny (model X.prog X.w) X.A (getItem (.ref a) (.ref s4.heap.objs.size)) (EP X pins σ Q) X.xe { s4 with heap := s4.heap.push ob } := by
    refine wpAny_getItem_list_slice pt.isList hsl pl pu pc hc ?_ (by rw [List.size_toArray]; omega)
    have ep : slicePick its.toArray l u c = ((places xs.length l u c).filterMap fun j => its[j]?).toArray := by
      unfold slicePick places
      rw [List.size_toArray, ← hlen]
      refine congrArg List.toArray (congrArg (fun g => List.filterMap g _) (funext fun j => ?_))
      simp
    rw [ep]
    refine ⟨.ref _, _, I5.laid (t' := s4.toks) (o := .lst ((places xs.length l u c).filterMap fun j => xs[j]?)) (fun b o z => Heap.get?_push_of_some _ z) (Nat.le_refl _) ?_, rfl, q _ (I5.hok.fresh (Nat.le_refl _))⟩
    refine ⟨?_, _, 0, vals_at rv _, Heap.get?_push_size _ rfl⟩
    have w1 := (vals_at rv (places xs.length l u c)).length
    have w2 := slicePick_size_le its.toArray l u c
    rw [ep, List.size_toArray, List.size_toArray] at w2
    omega
  exact tail_any (ops := [.ref a, .ref s4.heap.objs.size]) pt.isList.typeIs PySem.slot_list_getitem.lookup fin (hsub _ _)
end

/-! ### enumerate(t), t a tuple -/
/-- the tuple at a: turn i gives the pair (i, its item) -/
def ItE (K : PySem.W.Frag) (a : Addr) : It where
  go := fun i H => ∃ (xs : List V) (x : V), SqT K H a xs ∧ xs[i]? = some x
  yld := fun i H v H' => ∃ T x, v = .ref T ∧ H T = none ∧ H' = upd H T (.tup [.int (i : Nat), x]) ∧ ∀ xs, SqT K H a xs → xs[i]? = some x
  stop := fun i H => ∃ xs : List V, SqT K H a xs ∧ xs.length = i
def stE (a e it : Addr) (i : Nat) (h : Heap) : Prop := (∃ old, IsEnum h e it ((i : Nat) : Int) old) ∧ h.IsTupleIter it a i ∧ e ≠ it ∧ e ≠ a ∧ a ≠ it
theorem two_mem {b e it : Addr} (h : b ∈ [e, it]) : b = e ∨ b = it := by simpa using h
theorem turn_enumT {P : Program} {w : World} {K : PySem.W.Frag} {elts : List Expr} {kk : Nat} {tpos : Pos} (a e it : Addr) : Turn P w K (.Tuple elts kk tpos) (ItE K a) [e, it] e (stE a e it) where
  mem := List.mem_cons_self
  obj := fun i h st b hb => by
    obtain ⟨⟨o1, h1⟩, ⟨o2, h2, _, h4⟩, _⟩ := st
    rcases two_mem hb with rfl | rfl
    · exact ⟨_, h1, fun v q => nomatch q⟩
    · exact ⟨o2, h2, fun v q => by
        rw [h4] at q
        cases q⟩
  keep := fun i h h' st k => by
    obtain ⟨⟨o1, h1⟩, ⟨o2, h2, h3⟩, ne⟩ := st
    exact ⟨⟨o1, k e List.mem_cons_self _ h1⟩, ⟨o2, k it (by simp) _ h2, h3⟩, ne⟩
  item := by
    rintro X rfl rfl rfl hc i pins s σ H E I hf ⟨⟨o1, h1⟩, h2, n1, n2, n3⟩ ⟨xs, x, hx, hi⟩
    obtain ⟨its, rv, pt, _⟩ := I.tuple hx
    obtain ⟨u, hu, ru⟩ := rv.get hi
    have l1 : e < s.heap.objs.size := Heap.lt_size h1
    have l2 : it < s.heap.objs.size := by
      obtain ⟨_, z, _⟩ := h2
      exact Heap.lt_size z
    have hlt : i < its.toArray.size := by
      rw [List.size_toArray]
      exact (List.getElem?_eq_some_iff.mp hu).1
    refine wpAny_pyNext_enum_itemD (Draws.tuple (prog := X.prog) (w := X.w) (A := X.A.in1) (I.ok.hd hc) it a n3 its.toArray) h1 ⟨h2, pt⟩ hlt n1 (by simp [n1, n2]) fun y h' tk hy ho hs hT hz hk => ?_
    have ey : y = u := by
      have hy' : its.toArray[i]? = some y := hy
      rw [List.getElem?_toArray, hu] at hy'
      exact (Option.some.inj hy').symm
    subst ey
    refine ⟨_, rfl, wpAny_letOwnedTupleGo_enum (s := { s with heap := h', toks := tk + 1 }) ho fun h3 he3 sb => ?_⟩
    have hT3 := (sb.2 _ (Nat.ne_of_gt l1)).trans hT
    have mk : ObjOk X.prog X.w (upd H s.heap.objs.size (.tup [.int (i : Nat), x])) h3 s.heap.objs.size (.tup [.int (i : Nat), x]) :=
      ⟨(by show 2 ≤ sizeLine; decide), [.int i tk, y], .cons ⟨_, rfl⟩ (.cons ru .nil), ⟨_, hT3, rfl, _, rfl⟩⟩
    have kp : ∀ b o, b ∉ [e, it] → s.heap.get? b = some o → h3.get? b = some o := fun b o hb z => by
      have b1 : b ≠ e := fun w => hb (by rw [w]; exact List.mem_cons_self)
      have b2 : b ≠ it := fun w => hb (by rw [w]; simp)
      exact (sb.2 b b1).trans (hk b o b1 b2 z)
    have J := I.turnedNew (t' := tk + 1) kp hf (Nat.le_refl _) mk
    refine ⟨.ref s.heap.objs.size, _, J, rfl, ⟨_, x, rfl, I.hok.fresh (Nat.le_refl _), rfl, fun ys hys => ?_⟩, ⟨⟨y, ?_⟩, ?_, n1, n2, n3⟩, fun b hb => ?_⟩
    · rw [I.tuple_inj hys hx]
      exact hi
    · rw [show ((i + 1 : Nat) : Int) = (i : Int) + 1 by omega]
      exact he3
    · obtain ⟨o, z1, z2⟩ := hs.1
      exact ⟨o, (sb.2 it (Ne.symm n1)).trans z1, z2⟩
    · have lb : b < s.heap.objs.size := by
        rcases two_mem hb with rfl | rfl
        · exact l1
        · exact l2
      rw [upd_ne (Nat.ne_of_lt lb)]
      exact (hf b hb).1
  done := by
    rintro X rfl rfl rfl hc i pins s σ H E I hf ⟨⟨o1, h1⟩, h2, n1, n2, n3⟩ ⟨xs, hx, hi⟩
    obtain ⟨its, rv, pt, _⟩ := I.tuple hx
    have hl : its.toArray.size = i := by
      rw [List.size_toArray, ← rv.length]
      exact hi
    have h2' : s.heap.IsTupleIter it a its.toArray.size := by
      rw [hl]
      exact h2
    obtain ⟨f0, f1, f2, f3, f4, f5⟩ := hf it (by simp)
    exact wpAny_pyNext_enum_endD (Draws.tuple (prog := X.prog) (w := X.w) (A := X.A.in1) (I.ok.hd hc) it a n3 its.toArray) h1 ⟨h2', pt⟩ fun h' hb => ⟨rfl, I.turned (t' := s.toks) (fun b o z q => hb b o z q) f0 f1 f3 f4 f5⟩
  self := fun A i s Q E st h => by
    obtain ⟨⟨_, he⟩, _⟩ := st
    exact wpAny_pyIter_enum he h

/-- enumerate(x) begins: its two new cells -/
theorem meets_enum1 {v : Value} {o : Obj} {G : Heap → Prop} (B : Begins v o G) : Meets (Builtin.«enumerate.__new__» ⟨[.type "enumerate", v], []⟩) (fun _ R s => G s.heap ∧
    R (.ok (.ret (.ref (s.heap.push o).objs.size))) { s with heap := (s.heap.push o).push { cls := .type "enumerate", data := .fields #[.none, .bool false, .ref s.heap.objs.size, rawInt 0, .none, .none] } }) :=
  .of_wp fun prog w A R s h => by
    obtain ⟨hp, g, d, tk, os⟩ := s
    obtain ⟨hG, h⟩ := h
    have sub := sub_enumerate
    have it1 : ∀ {A' : Around} {E' : Value → Shared → Prop} {Q' : Value → Shared → Prop}, Q' (.ref hp.objs.size) ⟨hp.push o, g, d, tk, os⟩ → wpAny (model prog w) A' (pyIter v) Q' E' ⟨hp, g, d, tk, os⟩ := fun q => B.iter prog w _ _ ⟨hp, g, d, tk, os⟩ _ hG q
    wp_walk using it1
    refine wpAny_stack_any fun st => wpAny_pure ?_
    split
    case h_1 c _ _ _ _ _ =>
      cases (c == Value.type "enumerate") <;>
      · wp_walk using it1
        exact ⟨_, rfl, h⟩
    all_goals
      wp_walk using it1
      exact ⟨_, rfl, h⟩
theorem call_enumT {prog : Program} {w : World} {A : Around} {E : Value → Shared → Prop} {s : Shared} {a : Addr} {its : Array Value} {Q : Value → Shared → Prop} (ht : s.heap.IsTuple a its)
    (h : ∀ h', IsEnum h' (s.heap.objs.size + 1) s.heap.objs.size 0 .none → h'.IsTupleIter s.heap.objs.size a 0 → (∀ b o, s.heap.get? b = some o → h'.get? b = some o) → Q (.ref (s.heap.objs.size + 1)) { s with heap := h' }) :
    wpAny (model prog w) A (call (.type "enumerate") [.ref a]) Q E s := by
  refine callType_new F.called_enumerate (by decide) (F.typeCall_enumerate_1 _) (F.newCall_enumerate_1 _) (fun obj => F.args_object_init_2 obj _) F.entry_enumerate_new (meets_enum1 (begins_tuple a its)) ⟨ht, ?_⟩
  generalize hoi : ({ cls := .type "tuple_iterator", data := .fields #[.ref a, .int 0 0] } : Obj) = oi
  have hz : (s.heap.push oi).objs.size = s.heap.objs.size + 1 := Heap.size_push ..
  show _ ∧ _
  rw [hz]
  have he := Heap.get?_push_size (s.heap.push oi) (o := { cls := .type "enumerate", data := .fields #[.none, .bool false, .ref s.heap.objs.size, rawInt 0, .none, .none] }) rfl
  rw [hz] at he
  refine ⟨⟨_, he, rfl⟩, h _ he ⟨oi, Heap.get?_push_of_some _ (Heap.get?_push_size _ (by rw [← hoi]; rfl)), by rw [← hoi], by subst hoi; rfl⟩ fun b o z => Heap.get?_push_of_some _ (Heap.get?_push_of_some _ z)⟩
def iEnumT (K : PySem.W.Frag) (ta : TA) : TI := fun σ H R => ta σ H fun vs H1 => ∃ a xs, vs = [.ref a] ∧ SqT K H1 a xs ∧ R (ItE K a) H1
theorem pi_enumT {X : Cx} {e : Expr} {ta : TA} {p pos tpos : Pos} {elts : List Expr} {kk : Nat} (hg : Gl X "enumerate") (hm : X.mg "enumerate" = none) (ha : PA X [e] ta) (hs : starEach [e] X.env = [(false, eval e X.env)] := by rfl) :
    PI X (.Tuple elts kk tpos) (.Call (.Name "enumerate" p) [e] [] pos) (iEnumT X.K ta) := by
  refine ⟨fun pins s σ H R I h => Call_ (ld_blt I hg hm boot_enumerate (PyProof.Rows.callWith_type1 (thn (ha.run pos pins s σ H _ I h) fun us s1 hq => ?_) hs rfl))⟩
  obtain ⟨vs, H1, I1, r1, a, xs, ex, hx, q⟩ := hq
  subst ex
  cases r1 with
  | cons r rr =>
    cases rr
    cases r
    obtain ⟨its, rv, pt, _⟩ := I1.tuple hx
    refine call_enumT pt fun h' h1 h2 hk => wpAny_pyIter_enum h1 ?_
    have la : a < s1.heap.objs.size := pt.lt
    have I2 : Inv X pins σ H1 { s1 with heap := h' } := I1.kept (t' := s1.toks) hk
    refine ⟨s1.heap.objs.size + 1, [s1.heap.objs.size + 1, s1.heap.objs.size], _, _, H1, rfl, I2, turn_enumT a (s1.heap.objs.size + 1) s1.heap.objs.size, ⟨⟨_, h1⟩, h2, Nat.succ_ne_self _, Nat.ne_of_gt (Nat.lt_succ_of_lt la), Nat.ne_of_lt la⟩, fun b hb => ?_, q⟩
    have hle : s1.heap.objs.size ≤ b := by
      rcases two_mem hb with rfl | rfl
      · exact Nat.le_succ _
      · exact Nat.le_refl _
    exact I1.fpOk hle (I1.hok.fresh hle)

section
variable {K : PySem.W.Frag} {σ : L2.St} {F G H : Hp} {te ta tb to ti : TE} {d d1 d2 : PyData} {ds es : List PyData}
theorem wk_enumT {a : Addr} {vs : List V} (h : SqT K F a vs) (r : DqAll K F vs ds) : WkD K (ItE K a) (numbered ds) F := fun i H s => by
  have hs := same_seqT s h
  refine ⟨fun d hd => ?_, fun e => ⟨vs, hs, ?_⟩⟩
  · obtain ⟨b, hb, rfl⟩ := numbered_get hd
    obtain ⟨v, hv, rv⟩ := r.get hb
    refine ⟨⟨vs, v, hs, hv⟩, fun x H' y => ?_⟩
    obtain ⟨T, x1, rfl, hT, rfl, y1⟩ := y
    have e1 := Option.some.inj ((y1 vs hs).symm.trans hv)
    subst e1
    exact grow_pair s hT (.int _) rv
  · rw [numbered_len] at e
    rw [r.len]
    exact e.symm
theorem ew_enumT {ta : TA} (h : EvS K ta σ F [.tuple ds]) : EvW K (iEnumT K ta) σ F (numbered ds) := fun H s R q => h H s _ fun vs F1 H1 g r => by
  cases r with
  | cons a b =>
    cases b
    cases a with
    | tup a1 a2 => exact ⟨_, _, rfl, same_seqT g.i a1, q _ F1 H1 g (wk_enumT a1 a2)⟩
/-! ### slices with a step, as data -/
theorem ev_step {tl th ts : TO} {lo hi st : Option Int} (h : EvD K te σ F (.list ds)) (h1 : EvO K tl σ F lo) (h2 : EvO K th σ F hi) (h3 : EvO K ts σ F st) (hst : st ≠ some 0) :
    EvD K (tStep K te tl th ts) σ F (.list ((places ds.length lo hi st).filterMap fun j => ds[j]?)) := fun H s Q q =>
  h H s _ fun x F1 H1 g1 r1 => h1.up g1.f H1 g1.i _ fun F2 H2 g2 => h2.up (g1.trans g2).f H2 g2.i _ fun F3 H3 g3 => h3.up ((g1.trans g2).trans g3).f H3 g3.i _ fun F4 H4 g4 => by
    have g := ((g1.trans g2).trans g3).trans g4
    cases r1.up ((g2.trans g3).trans g4).f with
    | lst a b =>
      refine ⟨_, _, rfl, g4.i.seq a, hst, fun p hp => ?_⟩
      rw [b.len]
      exact q _ _ _ (g.trans (.known g4.i hp)) (.lst (.inl (.inl upd_same)) ((dps_at b _).up (same_upd (g4.i.free hp))))
/-! ### xs[k] += j -/
def rIxP (K : PySem.W.Frag) : V → V → Hp → VK → Prop := fun x y H Q => ∃ p xs k v, x = .ref p ∧ y = .int ((k : Nat) : Int) ∧ SqL K H p xs ∧ xs[k]? = some v ∧ Q v H
theorem get_L {X : Cx} : PGet X (rIxP X.K) := by
  intro pins s σ H o i ov iv Q I ro ri h
  obtain ⟨p, xs, k, v, rfl, rfl, hq, he, q⟩ := h
  cases ro
  obtain ⟨t, rfl⟩ := ri
  obtain ⟨its, r, pl, hz⟩ := I.list hq
  obtain ⟨u, hu, ru⟩ := r.get he
  have hk := (List.getElem?_eq_some_iff.mp he).1
  have hn := line63
  exact wpAny_getItem_list pl.isList (by omega) (by omega) (by simpa using hu) ⟨v, H, I, ru, q⟩
theorem s_augL {D : Ends} {l : Addr} {xs : List V} {k : Nat} {i j : Int} (ho : Now to σ H (.ref l)) (hl : H l = some (.lst xs)) (hi : Now ti σ H (.int (k : Int))) (hk : xs[k]? = some (.int i)) (he : EvD K te σ H (.int j))
    (kk : ∀ F' H', Grow H H F' H' → D.nx σ (upd H' l (.lst (xs.set k (.int (i + j)))))) : tAugS to ti te (rIxP K) (ipI fun i j => i + j) rSetL D σ H :=
  ho _ (hi _ ⟨l, xs, k, .int i, rfl, rfl, .inl (.inl hl), hk, he H (Same.refl H) _ fun v F' H' g r => by
    cases r
    refine ⟨i, j, rfl, rfl, l, xs, (k : Int), k, rfl, rfl, g.h _ _ hl, ?_, kk F' H' g⟩
    have hlt := (List.getElem?_eq_some_iff.mp hk).1
    unfold ixN
    rw [if_pos (Int.natCast_nonneg k), if_pos (by omega), Int.toNat_natCast]⟩)
/-! ### xs * n, t + u, divmod -/
theorem s_setRep {D : Ends} {i : Nat} {n : Nat} {j : Int} (h : EvD K tb σ F (.int (n : Int))) (s : Same F H) (hn : n < 2 ^ 62) (hz : n ≤ sizeLine) (k : ∀ p F' H' H2, Grow F H F' H' → H' p = none → H2 = upd H' p (.lst (List.replicate n (.int j))) → D.nx (σ.set i (some (.ref p))) H2) :
    tAsg (tOp rRep (tLst (tCons (tC (.int j)) tNil)) tb) (gName i) D σ H := by
  refine ⟨(by show 1 ≤ sizeLine; decide), fun a ha => ?_⟩
  have s1 : Same F (upd H a (.lst [.int j])) := s.trans (same_upd ha)
  refine h _ s1 _ fun v F1 H1 g1 r1 => ?_
  cases r1
  have ha1 : H1 a = some (.lst [.int j]) := g1.h _ _ upd_same
  refine ⟨a, (n : Int), [.int j], rfl, rfl, ha1, by omega, by omega, by simpa using hz, fun p hp => ?_⟩
  refine k p F1 H1 _ ⟨g1.f, (same_upd ha).trans g1.h, g1.i, fun b o e0 e1 => ?_⟩ hp ?_
  · have z := g1.n b o e0 e1
    by_cases hb : b = a
    · rw [hb, upd_same] at z
      cases z
    · rw [upd_ne hb] at z
      exact z
  · rw [Int.toNat_natCast]
    congr 2
    generalize n = m
    induction m with
    | zero => rfl
    | succ m ih => rw [List.replicate_succ, List.flatten_cons, ih, List.replicate_succ]; rfl
theorem rv_catT (hl : ds.length + es.length ≤ sizeLine) : RvD K (rCatA K) (.tuple ds) (.tuple es) (.tuple (ds ++ es)) := fun F x y H s a b Q q => by
  cases a with
  | tup a1 a2 =>
    cases b with
    | tup b1 b2 =>
      refine ⟨_, _, _, _, rfl, rfl, same_seqT s a1, same_seqT s b1, (by rw [a2.len, b2.len]; exact hl), fun e => ?_, fun _ e => ?_, fun _ _ p hp => ?_⟩
      · have e2 : ds = [] := by
          have := a2.len
          rw [e] at this
          exact List.eq_nil_of_length_eq_zero this.symm
        rw [e2, List.nil_append] at q
        exact q _ F H (.start s) (.tup b1 b2)
      · have e2 : es = [] := by
          have := b2.len
          rw [e] at this
          exact List.eq_nil_of_length_eq_zero this.symm
        rw [e2, List.append_nil] at q
        exact q _ F H (.start s) (.tup a1 a2)
      · exact q _ _ _ (.known s hp) (.tup (.inl (.inl upd_same)) ((a2.app b2).up (same_upd (s.free hp))))
abbrev rDivmod : List V → Hp → VK → Prop := fun xs H Q => ∃ i j, xs = [.int i, .int j] ∧ CDiv i j ∧ ∀ p, H p = none → Q (.ref p) (upd H p (.tup [.int (i / j), .int (i % j)]))
theorem rc_divmod {i j : Int} (h : CDiv i j) : RcD K rDivmod [.int i, .int j] (.tuple [.int (i / j), .int (i % j)]) := fun F xs H s r Q q => by
  cases r with
  | cons a b =>
    cases a
    cases b with
    | cons b c =>
      cases b
      cases c
      exact ⟨i, j, rfl, h, fun p hp => q _ _ _ (.known s hp) (.tup (.inl (.inl upd_same)) (.cons (.int _) (.cons (.int _) .nil)))⟩
/-! ### [e for x in xs for y in ys] -/
theorem grow_own {F H F' H' : Hp} {D : Addr} {o : HO} (g : Grow F H F' H') (hD : H D = none) (nD : F' D = none) : Grow F H F' (upd H' D o) := ⟨g.f, fun b x z => by
  rw [upd_ne (ne_of_none z hD)]
  exact g.h b x z, fun b x z => by
  rw [upd_ne (ne_of_none z nD)]
  exact g.i b x z, g.n⟩
/-- the new list gets known -/
theorem grow_tell {F H F' H' : Hp} {D : Addr} {o : HO} (g : Grow F H F' H') (hD : H D = none) (nD : F' D = none) (eD : H' D = some o) : Grow F H (upd F' D o) H' := ⟨g.f.trans (same_upd nD), g.h, fun b x z => by
  by_cases hb : b = D
  · rw [hb, upd_same] at z
    rw [hb, eD]
    exact z
  · rw [upd_ne hb] at z
    exact g.i b x z, fun b x z n => by
  by_cases hb : b = D
  · rw [hb]
    exact hD
  · rw [upd_ne hb] at z
    exact g.n b x z n⟩
theorem free_of {F H F' H' : Hp} {D : Addr} {o : HO} (g : Grow F H F' H') (nD : F D = none) (eD : H D = some o) : F' D = none := free_grow g nD eD
def made2 (es : PyData → List PyData) (e : PyData → PyData → PyData) (ds : List PyData) : List PyData := ds.flatMap fun d => (es d).map (e d)
theorem yes_then {σ : L2.St} {H : Hp} {A B : Hp → Prop} (h : A H) : tYes σ H (fun b H' => if b = true then A H' else B H') := by
  show (if true = true then A H else B H)
  rw [if_pos rfl]
  exact h
theorem ev_lc2 {wi wi1 : TI} {g g1 : TG} {vs vs1 : List Nat} (es : PyData → List PyData) (e : PyData → PyData → PyData) (hw : EvW K wi σ F ds) (hl : (made2 es e ds).length < sizeLine)
    (hT : ∀ d F', d ∈ ds → Same F F' → Tk K g d (wipe σ vs) F' fun σ2 => wipe σ2 vs = wipe σ vs ∧ EvW K wi1 σ2 F' (es d) ∧
      ∀ c F2, c ∈ es d → Same F' F2 → Tk K g1 c (wipe σ2 vs1) F2 fun σ3 => wipe σ3 vs1 = wipe σ2 vs1 ∧ EvD K te σ3 F2 (e d c)) :
    EvD K (tLc2 wi g tYes wi1 g1 tYes te vs vs1) σ F (.list (made2 es e ds)) := fun H s Q q => hw H s _ fun J F1 H1 k1 wk => by
  intro D hD
  refine ⟨fun i m H2 => m = ds.length - i ∧ i ≤ ds.length ∧ ∃ F2 acc, Grow F1 H1 F2 H2 ∧ F2 D = none ∧ H2 D = some (.lst acc) ∧ DqAll K F2 acc (made2 es e (ds.take i)),
    ⟨ds.length, by simp, Nat.zero_le _, F1, [], .own k1.i hD, k1.i.free hD, upd_same, .nil⟩, fun i m H2 hW => ?_⟩
  obtain ⟨rfl, hi, F2, acc, k2, nD, eD, ra⟩ := hW
  have wk2 := wk.up k2.f
  by_cases hlt : i < ds.length
  · have hd : ds[i]? = some ds[i] := List.getElem?_eq_getElem hlt
    obtain ⟨go, yl⟩ := (wk2 i H2 k2.i).1 _ hd
    have eT : made2 es e (ds.take (i + 1)) = made2 es e (ds.take i) ++ (es ds[i]).map (e ds[i]) := by
      unfold made2
      rw [List.take_add_one, hd, List.flatMap_append]
      show _ ++ (_ ++ []) = _
      rw [List.append_nil]
    have eL : (made2 es e (ds.take i)).length + (es ds[i]).length ≤ (made2 es e ds).length := by
      have z : made2 es e ds = made2 es e (ds.take (i + 1)) ++ made2 es e (ds.drop (i + 1)) := by
        unfold made2
        rw [← List.flatMap_append, List.take_append_drop]
      rw [z, eT, List.length_append, List.length_append, List.length_map]
      omega
    refine .inr ⟨go, fun H3 => ∃ F3 acc, Grow F1 H1 F3 H3 ∧ F3 D = none ∧ H3 D = some (.lst acc) ∧ DqAll K F3 acc (made2 es e (ds.take (i + 1))), fun H3 h3 => ⟨_, ?_, rfl, hlt, h3⟩, fun x H3 hy => ?_⟩
    · show ds.length - (i + 1) < ds.length - i
      omega
    obtain ⟨F3, k3, rx⟩ := yl x H3 hy
    have k13 := (k2.trans k3)
    have nD3 : F3 D = none := free_of k3 nD eD
    refine hT ds[i] F3 (List.getElem_mem hlt) ((k1.trans k13).f) x H3 k3.i rx _ fun σ2 hσ => ?_
    obtain ⟨w2, hw1, hT1⟩ := hσ
    refine ⟨w2, yes_then ?_⟩
    refine hw1 H3 k3.i _ fun J1 F4 H4 k4 wk1 => ?_
    have eD4 : H4 D = some (.lst acc) := k4.h _ _ (k3.h _ _ eD)
    have nD4 : F4 D = none := free_of k4 nD3 (k3.h _ _ eD)
    refine ⟨fun j k H5 => k = (es ds[i]).length - j ∧ j ≤ (es ds[i]).length ∧ ∃ F5 acc, Grow F1 H1 F5 H5 ∧ Same F4 F5 ∧ F5 D = none ∧ H5 D = some (.lst acc) ∧ DqAll K F5 acc (made2 es e (ds.take i) ++ ((es ds[i]).take j).map (e ds[i])),
      ⟨_, rfl, Nat.zero_le _, F4, acc, k13.trans k4, Same.refl _, nD4, eD4, ?_⟩, fun j k H5 hW => ?_⟩
    · rw [List.take_zero, List.map_nil, List.append_nil]
      exact ra.up (k3.trans k4).f
    obtain ⟨rfl, hj, F5, acc5, k5, s5, nD5, eD5, ra5⟩ := hW
    have wk5 := wk1.up s5
    by_cases hjt : j < (es ds[i]).length
    · have hc : (es ds[i])[j]? = some (es ds[i])[j] := List.getElem?_eq_getElem hjt
      obtain ⟨go1, yl1⟩ := (wk5 j H5 k5.i).1 _ hc
      refine .inr ⟨go1, fun H6 => ∃ F5 acc, Grow F1 H1 F5 H6 ∧ Same F4 F5 ∧ F5 D = none ∧ H6 D = some (.lst acc) ∧ DqAll K F5 acc (made2 es e (ds.take i) ++ ((es ds[i]).take (j + 1)).map (e ds[i])), fun H6 h6 => ⟨_, ?_, rfl, hjt, h6⟩, fun y H6 hy1 => ?_⟩
      · show (es ds[i]).length - (j + 1) < (es ds[i]).length - j
        omega
      obtain ⟨F6, k6, ry⟩ := yl1 y H6 hy1
      have nD6 : F6 D = none := free_of k6 nD5 eD5
      refine hT1 _ F6 (List.getElem_mem hjt) ((k4.f.trans s5).trans k6.f) y H6 k6.i ry _ fun σ3 hσ3 => ?_
      obtain ⟨w3, he⟩ := hσ3
      refine ⟨w3, yes_then ?_⟩
      refine he H6 k6.i _ fun z F7 H7 k7 rz => ?_
      have eD7 : H7 D = some (.lst acc5) := k7.h _ _ (k6.h _ _ eD5)
      have nD7 : F7 D = none := free_of k7 nD6 (k6.h _ _ eD5)
      have la := ra5.len
      rw [List.length_append, List.length_map, List.length_take] at la
      refine ⟨acc5, eD7, by omega, F7, acc5 ++ [z], grow_own ((k5.trans k6).trans k7) hD nD7, s5.trans (k6.trans k7).f, nD7, upd_same, ?_⟩
      rw [List.take_add_one, hc, List.map_append, ← List.append_assoc]
      exact (ra5.up (k6.trans k7).f).app (.cons rz .nil)
    · have ej : j = (es ds[i]).length := by omega
      refine .inl ⟨(wk5 j H5 k5.i).2 ej, F5, acc5, k5, nD5, eD5, ?_⟩
      rw [eT]
      rw [ej, List.take_length] at ra5
      exact ra5
  · have ei : i = ds.length := by omega
    refine .inl ⟨(wk2 i H2 k2.i).2 ei, ?_⟩
    rw [ei, List.take_length] at ra
    exact q _ _ H2 (k1.trans (grow_tell k2 hD nD eD)) (.lst (.inl (.inl upd_same)) (ra.up (same_upd nD)))
end

section
variable {K : PySem.W.Frag} {σ : L2.St} {F : Hp} {te : TE} {g : TG} {tw : TS}
theorem tk_four {i j k l : Nat} {a b c d : PyData} : Tk K (gTup K 4 (gCons (gName i) (gCons (gName j) (gCons (gName k) (gCons (gName l) gNil))))) (.tuple [a, b, c, d]) σ F
    (fun σ2 => ∃ v w x y, σ2 = (((σ.set i (some v)).set j (some w)).set k (some x)).set l (some y) ∧ Dq K F v a ∧ Dq K F w b ∧ Dq K F x c ∧ Dq K F y d) := fun v H s r Q q => by
  cases r with
  | tup a b =>
    cases b with
    | cons b1 c1 =>
      cases c1 with
      | cons b2 c2 =>
        cases c2 with
        | cons b3 c3 =>
          cases c3 with
          | cons b4 c4 =>
            cases c4
            exact ⟨_, _, rfl, same_seqT s a, rfl, _, _, rfl, _, _, rfl, _, _, rfl, _, _, rfl, rfl, q _ ⟨_, _, _, _, rfl, b1, b2, b3, b4⟩⟩
theorem r_asg {d1 d : PyData} {P : Hp → L2.St → Prop} (h : EvD K te σ F d1) (hg : ∀ F', Same F F' → Tk K g d1 σ F' (P F')) (k : ∀ σ2 F', Same F F' → P F' σ2 → Ret K tw σ2 F' d) : Ret K (tSeq (tAsg te g) tw) σ F d := fun H s D q => h H s _ fun v F1 H1 g1 r1 =>
  hg F1 g1.f v H1 g1.i r1 _ fun σ2 p => k σ2 F1 g1.f p H1 g1.i D fun w F2 H2 g2 r2 => q w F2 H2 (g1.trans g2) r2
end
end Sx
set_option Elab.async false
set_option linter.all false
set_option maxRecDepth 100000
set_option maxHeartbeats 400000
/-! W6: own lists of own lists, walks over them. -/
namespace Sx
open PySem PySem.Spec PyProof.Rows L2
open C8 (Cal pe_c pe_gc)
section
variable {K : PySem.W.Frag} {σ : L2.St} {F H : Hp} {te ta : TE} {d : PyData} {D : Ends} {g : TG} {tb : TS}
/-- a, b = e -/
theorem s_asg {P : Hp → L2.St → Prop} (h : EvD K te σ F d) (s : Same F H) (hg : ∀ F', Same F F' → Tk K g d σ F' (P F')) (k : ∀ σ2 F' H', Grow F H F' H' → P F' σ2 → D.nx σ2 H') : tAsg te g D σ H :=
  h H s _ fun v F1 H1 g1 r1 => hg F1 g1.f v H1 g1.i r1 _ fun σ2 p => k σ2 F1 H1 g1 p
/-- [[0] for _ in one thing]: both lists are one's own -/
theorem lc_own {wi : TI} {vs : List Nat} {j : Int} {Q : VK} (hw : EvW K wi σ F [d]) (s : Same F H) (hT : ∀ F', Same F F' → Tk K g d (wipe σ vs) F' fun σ2 => wipe σ2 vs = wipe σ vs)
    (k : ∀ a b F' H', Grow F H F' H' → a ≠ b → F' a = none → F' b = none → H a = none → H b = none → H' a = some (.lst [.ref b]) → H' b = some (.lst [.int j]) → Q (.ref a) H') :
    tLc wi g tYes (tLst (tCons (tC (.int j)) tNil)) vs σ H Q := hw H s _ fun J F1 H1 g1 wk => by
  intro a ha
  refine ⟨fun i m H2 => (i = 0 ∧ m = 1 ∧ H2 = upd H1 a (.lst [])) ∨ (i = 1 ∧ m = 0 ∧ ∃ b F2, Grow F1 H1 F2 H2 ∧ a ≠ b ∧ F2 a = none ∧ F2 b = none ∧ H1 b = none ∧ H2 a = some (.lst [.ref b]) ∧ H2 b = some (.lst [.int j])), ⟨1, .inl ⟨rfl, rfl, rfl⟩⟩, fun i m H2 hW => ?_⟩
  rcases hW with ⟨rfl, rfl, rfl⟩ | ⟨rfl, rfl, b, F2, g2, n1, n2, n3, n4, e1, e2⟩
  · have s1 : Same F1 (upd H1 a (.lst [])) := g1.i.trans (same_upd ha)
    obtain ⟨go, yl⟩ := (wk 0 _ s1).1 d rfl
    refine .inr ⟨go, fun H3 => ∃ b F2, Grow F1 H1 F2 H3 ∧ a ≠ b ∧ F2 a = none ∧ F2 b = none ∧ H1 b = none ∧ H3 a = some (.lst [.ref b]) ∧ H3 b = some (.lst [.int j]), fun H3 h3 => ⟨0, by omega, .inr ⟨rfl, rfl, h3⟩⟩, fun x H3 hy => ?_⟩
    obtain ⟨F3, g3, rx⟩ := yl x H3 hy
    have gg : Grow F1 H1 F3 H3 := (Grow.own g1.i ha).trans g3
    refine hT F3 (g1.f.trans gg.f) x H3 g3.i rx _ fun σ2 w2 => ⟨w2, yes_then ?_⟩
    refine ⟨(by show 1 ≤ sizeLine; decide), fun b hb => ?_⟩
    have ea : H3 a = some (.lst []) := g3.h _ _ upd_same
    have nab : a ≠ b := fun z => by
      rw [z, hb] at ea
      cases ea
    have na : F3 a = none := free_of g3 (g1.i.free ha) upd_same
    have nb : F3 b = none := g3.i.free hb
    have hb1 : H1 b = none := gg.h.free hb
    refine ⟨[], upd_at nab ea, (by show 0 < sizeLine; decide), b, F3, grow_own (grow_own gg hb1 nb) ha na, nab, na, nb, hb1, upd_same, ?_⟩
    rw [upd_ne nab.symm]
    exact upd_same
  · exact .inl ⟨(wk 1 H2 g2.same |> fun _ => (wk.up g2.f 1 H2 g2.i).2 rfl), k a b F2 H2 (g1.trans g2) n1 n2 n3 (g1.h.free ha) (g1.h.free n4) e1 e2⟩
theorem s_lcOwn {wi : TI} {vs : List Nat} {j : Int} {i : Nat} (hw : EvW K wi σ F [d]) (s : Same F H) (hT : ∀ F', Same F F' → Tk K g d (wipe σ vs) F' fun σ2 => wipe σ2 vs = wipe σ vs)
    (k : ∀ a b F' H', Grow F H F' H' → a ≠ b → F' a = none → F' b = none → H a = none → H b = none → H' a = some (.lst [.ref b]) → H' b = some (.lst [.int j]) → D.nx (σ.set i (some (.ref a))) H') :
    tAsg (tLc wi g tYes (tLst (tCons (tC (.int j)) tNil)) vs) (gName i) D σ H := lc_own hw s hT k
theorem s_ifV {tt : TT} {ta tb : TE} {b : Bool} {i : Nat} (h : EvB tt σ F b) (s : Same F H) (k : ∀ F' H', Grow F H F' H' → if b = true then ta σ H' (fun v H2 => D.nx (σ.set i (some v)) H2) else tb σ H' (fun v H2 => D.nx (σ.set i (some v)) H2)) : tAsg (tIf tt ta tb) (gName i) D σ H :=
  h H s _ k
/-- for (i, x) in enumerate(l), l one's own -/
theorem s_forE {a : Addr} {xs : List V} {i0 : Nat} (h : σ[i0]? = some (some (.ref a))) (I : Nat → L2.St → Hp → Prop) (hI0 : I 0 σ H) (hk : ∀ i σ' H', I i σ' H' → H' a = some (.lst xs))
    (hs : ∀ i x σ' H', xs[i]? = some x → I i σ' H' → ∀ T, H' T = none → g (.ref T) σ' (upd H' T (.tup [.int (i : Int), x])) fun σ2 H3 => tb { D with nx := fun σ3 H4 => I (i + 1) σ3 H4, ct := fun σ3 H4 => I (i + 1) σ3 H4, bk := D.nx } σ2 H3)
    (he : ∀ σ' H', I xs.length σ' H' → D.nx σ' H') : tFor (iEnum K (tCons (tVar i0) tNil)) g tb D σ H := by
  refine ⟨.ref a, h, a, xs, rfl, .inl (.inl (hk _ _ _ hI0)), ?_⟩
  refine ⟨fun i m σ' H' => m = xs.length - i ∧ i ≤ xs.length ∧ I i σ' H', ⟨xs.length, by simp, Nat.zero_le _, hI0⟩, fun i m σ' H' hW => ?_⟩
  obtain ⟨rfl, hi, hIi⟩ := hW
  have hq : SqL K H' a xs := .inl (.inl (hk _ _ _ hIi))
  by_cases hlt : i < xs.length
  · have hx : xs[i]? = some xs[i] := List.getElem?_eq_getElem hlt
    refine .inr ⟨⟨xs, _, hq, hx⟩, fun σ3 H4 => I (i + 1) σ3 H4, fun σ3 H4 h4 => ⟨_, ?_, rfl, hlt, h4⟩, fun v H2 hy => ?_⟩
    · show xs.length - (i + 1) < xs.length - i
      omega
    · obtain ⟨T, x, rfl, hT, rfl, hx2⟩ := hy
      have ex : xs[i] = x := Option.some.inj (hx.symm.trans (hx2 xs hq))
      subst ex
      exact hs i _ σ' H' hx hIi T hT
  · have ei : i = xs.length := by omega
    refine .inl ⟨⟨xs, hq, by omega⟩, ?_⟩
    rw [ei] at hIi
    exact he σ' H' hIi
end
end Sx
set_option Elab.async false
set_option linter.all false
set_option maxRecDepth 100000
set_option maxHeartbeats 400000
/-! W7: the law's own numbers (a dict with a list that gets shorter). -/
namespace Sx
open PySem PySem.Spec PyProof.Rows L2
open C8 (Cal pe_c pe_gc)
theorem k_wide_cells : ¬ ((.inr "wide" : Key) = .inr "cells") := by decide +kernel
theorem k_wide_rest : ¬ ((.inr "wide" : Key) = .inr "rest") := by decide +kernel
theorem k_wide_turn : ¬ ((.inr "wide" : Key) = .inr "turn") := by decide +kernel
theorem k_cells_rest : ¬ ((.inr "cells" : Key) = .inr "rest") := by decide +kernel
theorem k_cells_turn : ¬ ((.inr "cells" : Key) = .inr "turn") := by decide +kernel
theorem k_rest_turn : ¬ ((.inr "rest" : Key) = .inr "turn") := by decide +kernel
theorem k_turn_rest : ¬ ((.inr "turn" : Key) = .inr "rest") := by decide +kernel
def drawK (l c : Addr) (rest turn : Int) : List (Key × V) := [(.inr "wide", .ref l), (.inr "cells", .ref c), (.inr "rest", .int rest), (.inr "turn", .int turn)]
structure Draw (H : Hp) (a l c : Addr) (ws cs : List Int) (rest turn : Int) : Prop where
  d : H a = some (.dK (drawK l c rest turn))
  w : H l = some (.lst (ws.map .int))
  cl : H c = some (.lst (cs.map .int))
  al : a ≠ l
  ac : a ≠ c
  lc : l ≠ c
def DrawAt (H : Hp) (a l c : Addr) (n : Nat) : Prop := ∃ ws cs rest turn, Draw H a l c ws cs rest turn ∧ 0 ≤ turn ∧ turn ≤ (n : Int)
/-- nothing else has changed -/
def Keeps (a l : Addr) (H H' : Hp) : Prop := ∀ b o, b ≠ a → b ≠ l → H b = some o → H' b = some o
theorem Keeps.refl {a l : Addr} (H : Hp) : Keeps a l H H := fun _ _ _ _ h => h
theorem Keeps.trans {a l : Addr} {H1 H2 H3 : Hp} (x : Keeps a l H1 H2) (y : Keeps a l H2 H3) : Keeps a l H1 H3 := fun b o h1 h2 e => y b o h1 h2 (x b o h1 h2 e)
theorem Keeps.of {a l : Addr} {H1 H2 : Hp} (s : Same H1 H2) : Keeps a l H1 H2 := fun b o _ _ e => s b o e
theorem Keeps.put {a l : Addr} {H1 H2 : Hp} {o : HO} (x : Keeps a l H1 H2) : Keeps a l H1 (upd H2 a o) := fun b u h1 h2 e => by
  rw [upd_ne h1]
  exact x b u h1 h2 e
theorem Keeps.putl {a l : Addr} {H1 H2 : Hp} {o : HO} (x : Keeps a l H1 H2) : Keeps a l H1 (upd H2 l o) := fun b u h1 h2 e => by
  rw [upd_ne h2]
  exact x b u h1 h2 e
theorem Keeps.same {a l : Addr} {F H H' : Hp} (x : Keeps a l H H') (s : Same F H) (ha : F a = none) (hl : F l = none) : Same F H' := fun b o e => x b o (ne_of_none e ha) (ne_of_none e hl) (s b o e)
section
variable {H H' : Hp} {a l c : Addr} {ws cs : List Int} {rest turn : Int}
theorem Draw.same (D : Draw H a l c ws cs rest turn) (s : Same H H') : Draw H' a l c ws cs rest turn := ⟨s _ _ D.d, s _ _ D.w, s _ _ D.cl, D.al, D.ac, D.lc⟩
theorem Draw.put (D : Draw H a l c ws cs rest turn) {r t : Int} : Draw (upd H a (.dK (drawK l c r t))) a l c ws cs r t := ⟨upd_same, upd_at D.al.symm D.w, upd_at D.ac.symm D.cl, D.al, D.ac, D.lc⟩
theorem Draw.putl (D : Draw H a l c ws cs rest turn) {us : List Int} : Draw (upd H l (.lst (us.map .int))) a l c us cs rest turn := ⟨upd_at D.al D.d, upd_same, upd_at D.lc.symm D.cl, D.al, D.ac, D.lc⟩
theorem put_rest {r : Int} : putK (drawK l c rest turn) (.inr "rest") (.int r) = drawK l c r turn := by
  unfold drawK putK
  rw [if_pos (List.any_eq_true.mpr ⟨(.inr "rest", .int rest), by simp, decide_eq_true rfl⟩)]
  rw [List.map_cons, List.map_cons, List.map_cons, List.map_cons, List.map_nil, if_neg k_wide_rest, if_neg k_cells_rest, if_pos rfl, if_neg k_turn_rest]
theorem put_turn {t : Int} : putK (drawK l c rest turn) (.inr "turn") (.int t) = drawK l c rest t := by
  unfold drawK putK
  rw [if_pos (List.any_eq_true.mpr ⟨(.inr "turn", .int turn), by simp, decide_eq_true rfl⟩)]
  rw [List.map_cons, List.map_cons, List.map_cons, List.map_cons, List.map_nil, if_neg k_wide_turn, if_neg k_cells_turn, if_neg k_rest_turn, if_pos rfl]
theorem get_wide : valV (drawK l c rest turn) (.inr "wide") = some (.ref l) := valV_pos rfl
theorem get_cells : valV (drawK l c rest turn) (.inr "cells") = some (.ref c) := (valV_neg k_wide_cells).trans (valV_pos rfl)
theorem get_rest : valV (drawK l c rest turn) (.inr "rest") = some (.int rest) := (valV_neg k_wide_rest).trans ((valV_neg k_cells_rest).trans (valV_pos rfl))
theorem get_turn : valV (drawK l c rest turn) (.inr "turn") = some (.int turn) := (valV_neg k_wide_turn).trans ((valV_neg k_cells_turn).trans ((valV_neg k_rest_turn).trans (valV_pos rfl)))
variable {σ : L2.St} {td : TE}
theorem now_wide (D : Draw H a l c ws cs rest turn) (h : Now td σ H (.ref a)) : Now (tDGet td (tC (.str "wide"))) σ H (.ref l) := fun Q q => h _ ⟨a, .ref l, rfl, get_wide ▸ DGet.k (k := .inr "wide") D.d, q⟩
theorem now_cells (D : Draw H a l c ws cs rest turn) (h : Now td σ H (.ref a)) : Now (tDGet td (tC (.str "cells"))) σ H (.ref c) := fun Q q => h _ ⟨a, .ref c, rfl, get_cells ▸ DGet.k (k := .inr "cells") D.d, q⟩
theorem now_rest (D : Draw H a l c ws cs rest turn) (h : Now td σ H (.ref a)) : Now (tDGet td (tC (.str "rest"))) σ H (.int rest) := fun Q q => h _ ⟨a, .int rest, rfl, get_rest ▸ DGet.k (k := .inr "rest") D.d, q⟩
theorem now_turn (D : Draw H a l c ws cs rest turn) (h : Now td σ H (.ref a)) : Now (tDGet td (tC (.str "turn"))) σ H (.int turn) := fun Q q => h _ ⟨a, .int turn, rfl, get_turn ▸ DGet.k (k := .inr "turn") D.d, q⟩
end
theorem shaped_ints (ns : List Int) : SeqAt.shaped (.list (ns.map .int)) = true := by
  have h1 : ∀ ns : List Int, PyData.canLayAll0 (ns.map .int) = true := fun ns => by
    induction ns with
    | nil => rfl
    | cons a r ih =>
      show (PyData.canLay0 (.int a) && PyData.canLayAll0 (r.map .int)) = true
      rw [ih]
      rfl
  have h2 : ∀ ns : List Int, PyData.depthAll (ns.map .int) = 0 := fun ns => by
    induction ns with
    | nil => rfl
    | cons a r ih =>
      show max (PyData.depth (.int a)) (PyData.depthAll (r.map .int)) = 0
      rw [ih]
      rfl
  show (PyData.canLayAll0 (ns.map .int) && decide (PyData.depthAll (ns.map .int) + 1 ≤ 64)) = true
  rw [h1, h2]
  rfl
theorem no_ints (ns : List Int) : PyData.hasDict (.list (ns.map .int)) = false := by
  show PyData.hasDictAll (ns.map .int) = false
  induction ns with
  | nil => rfl
  | cons a r ih =>
    show (PyData.hasDict (.int a) || PyData.hasDictAll (r.map .int)) = false
    rw [ih]
    rfl
theorem no_strs (ns : List Str) : PyData.hasDict (.list (ns.map .str)) = false := by
  show PyData.hasDictAll (ns.map .str) = false
  induction ns with
  | nil => rfl
  | cons a r ih =>
    show (PyData.hasDict (.str a) || PyData.hasDictAll (r.map .str)) = false
    rw [ih]
    rfl
theorem eqv_nil (ns : List Int) : PyData.eqv (.list (ns.map .int)) (.list []) = ns.isEmpty := by
  cases ns with
  | nil => rfl
  | cons a r => rfl
end Sx
set_option Elab.async false
set_option linter.all false
set_option maxRecDepth 100000
set_option maxHeartbeats 1000000
set_option exponentiation.threshold 3000
namespace Sx
open PySem PySem.Spec PyProof.Rows L2
open C8 (Cal pe_c pe_gc)
section
variable {P : Program} {w : World} {K : PySem.W.Frag} {mg : Str → Option Value} {base : Heap} {f : Addr} {fd : FuncData} {aK CK CN CS : Addr}
theorem ev_cells {σ : L2.St} {F : Hp} {i0 : Nat} {a l c : Addr} {ws cs : List Int} {rest turn : Int} (D : Draw F a l c ws cs rest turn) (h : σ[i0]? = some (some (.ref a))) : EvD K (tDGet (tVar i0) (tC (.str "cells"))) σ F (.list (cs.map .int)) := fun H s Q q =>
  now_cells (D.same s) (now_var h) _ (q _ F H (.start s) (.lst (.inl (.inl D.cl)) (dps_ofInt cs)))
theorem mulL {i j : Int} (h : -(2 ^ 64) < i ∧ i < 2 ^ 64) : CMul i j := .inl h
theorem mulR {i j : Int} (h : -(2 ^ 64) < j ∧ j < 2 ^ 64) : CMul i j := .inr h
/-! ### _law_mixed -/
abbrev s__law_mixed : Stmt := top 30
theorem sc__law_mixed : FnScope ["draw", "prime", "turn", "found", "blend", "grain"] ["draw"] (defScope s__law_mixed) := ⟨rfl, rfl, rfl, by decide +kernel, rfl, by decide +kernel, by decide +kernel⟩
def spMixed : Sp := fun vs H Q _ => ∃ a l c n, vs = [.ref a] ∧ DrawAt H a l c n ∧ n ≤ 2 ^ 40 ∧ ∀ (i : Int) H', Keeps a l H H' → DrawAt H' a l c (n + 1) → Q (.int i) H'
def primes : List PyData := [.int 2147483647, .int 2147483629, .int 2147483587, .int 2147483579]
theorem ok__law_mixed (F : Fun K "_law_mixed" "_law_mixed" s__law_mixed f fd) (B : BI mg) : FnOk P w K mg base CX0 1 f fd ["draw"] spMixed := by
  refine F.ok sc__law_mixed (fun vs H Q E h => by obtain ⟨a, _, _, _, e, _⟩ := h; rw [e]; rfl) (fun cdv A outer s H vs Q E hr h => ?_)
  obtain ⟨a, l, c, n, ev, ⟨ws, cs, rest, turn, D, ht0, ht1⟩, hn, q⟩ := h
  subst ev
  refine ⟨_, (pss_cons (ps_par (i := 2) (j := 3) rfl sc__law_mixed.nd rfl rfl (by decide) rfl rfl (pa_cons (pe_op (op_add) (pe_dget (hu_of hr) (pv 0) pe_str (fun _ _ => rfl)) pe_int) (pa_cons pe_int pa_nil)) (by rfl))
        (pss_cons (ps_dput (hu_of hr) (pv 0) pe_str (pv 2) rfl)
        (pss_cons (ps_for PassesOwn.never rfl (pi_list (pe_lst (pa_cons pe_int (pa_cons pe_int (pa_cons pe_int (pa_cons pe_int pa_nil)))))) (pg_name (i := 1) sc__law_mixed.nd rfl (Or.inl rfl) (hf := (Or.inr rfl))) (pss_cons (ps_set (i := 4) sc__law_mixed.nd rfl (Or.inl rfl) (pe_op (op_add) (pe_op (op_mul) pe_int (pv 2)) (pe_op (op_fdiv) (pv 1) pe_int)))
        (pss_cons (ps_for PassesOwn.never rfl (pi_list (pe_dget (hu_of hr) (pv 0) pe_str (fun _ _ => rfl))) (pg_name (i := 5) sc__law_mixed.nd rfl (Or.inl rfl) (hf := (Or.inr rfl))) (pss_one (ps_set (i := 4) sc__law_mixed.nd rfl (Or.inl rfl) (pe_op (op_mod) (pe_callTy (call_int1) (by rfl) B.int_ (by decide +kernel) (pa_cons (pe_op (op_add) (pe_op (op_add) (pe_op (op_mul) (pv 4) pe_int) (pv 5)) (pv 2)) pa_nil)) (pv 1)))))
        (pss_one (ps_set (i := 3) sc__law_mixed.nd rfl (Or.inl rfl) (pe_op (op_add) (pe_op (op_mul) (pv 3) pe_int) (pe_op (op_mod) (pe_callTy (call_int1) (by rfl) B.int_ (by decide +kernel) (pa_cons (pe_op (op_pow) (pv 4) pe_int) pa_nil)) (pv 1))))))))
        (pss_one (ps_ret (pv 3)))))), ?_⟩
  refine now_turn D (now_var rfl) _ ⟨turn, 1, rfl, rfl, _, _, rfl, ?_⟩
  refine ⟨.int (turn + 1), rfl, ⟨.ref a, rfl, ⟨a, _, rfl, DPut.k (k := .inr "turn") D.d (by show 4 < sizeLine; decide), ?_⟩⟩⟩
  rw [put_turn]
  have D1 := D.put (r := rest) (t := turn + 1)
  have k1 : Keeps a l H (upd H a (.dK (drawK l c rest (turn + 1)))) := (Keeps.refl H).put
  generalize upd H a (.dK (drawK l c rest (turn + 1))) = H1 at D1 k1
  refine s_for (K := K) (F := H1) (ds := primes) (Same.refl H1) (ew_list (ev_lst (ea_cons ev_int (ea_cons ev_int (ea_cons ev_int (ea_cons ev_int ea_nil)))) (by show 4 ≤ sizeLine; decide))) fun F2 H2 g2 =>
    ⟨fun i σ' F' H' => F' = F2 ∧ Same F2 H' ∧ (∃ y1 y3 y4 y5, σ' = [some (.ref a), y1, some (.int (turn + 1)), some (.int y3), y4, y5]),
      ⟨rfl, g2.i, ⟨_, _, _, _, rfl⟩⟩, fun i σ' F' H' h => ⟨by rw [h.1]; exact Same.refl _, by rw [h.1]; exact h.2.1⟩, fun i d σ' F' H' hd hI F3 H3 v g3 rv => ?_, fun σ' F' H' hI => ?_⟩
  · obtain ⟨rfl, sF, ⟨y1, y3, y4, y5, rfl⟩⟩ := hI
    have hp : ∃ p : Int, d = .int p ∧ 2147483579 ≤ p ∧ p ≤ 2147483647 := by
      match i, hd with
      | 0, hd => cases hd; exact ⟨_, rfl, by decide, by decide⟩
      | 1, hd => cases hd; exact ⟨_, rfl, by decide, by decide⟩
      | 2, hd => cases hd; exact ⟨_, rfl, by decide, by decide⟩
      | 3, hd => cases hd; exact ⟨_, rfl, by decide, by decide⟩
      | i + 4, hd => cases hd
    obtain ⟨p, rfl, p1, p2⟩ := hp
    cases rv
    have s3 : Same F' H3 := sF.trans g3.h
    have D3 := (D1.same g2.f).same s3
    refine s_set (K := K) (F := H3) (d := .int (48271 * (turn + 1) + p / 37)) (ev_op (ev_op (ev_int (i := 48271)) (ev_var (i := 2) ⟨_, rfl, .int (turn + 1)⟩) (rv_intC (C := CMul) (g := fun i j => i * j) (mulL (by decide)))) (ev_op (ev_var (i := 1) ⟨_, rfl, .int p⟩) (ev_int (i := 37)) (rv_intC (C := CDiv) (g := fun i j => i / j) ⟨by decide, by decide⟩)) (rv_int (g := fun i j => i + j))) (Same.refl H3) fun v F4 H4 g4 r4 => ?_
    cases r4
    have D4 := D3.same g4.f
    refine s_for (K := K) (F := F4) (ds := cs.map .int) g4.i (ew_list (ev_cells D4 rfl)) fun F5 H5 g5 =>
      ⟨fun j σ' G' H' => G' = F5 ∧ Same F5 H' ∧ ∃ b y5, σ' = [some (.ref a), some (.int p), some (.int (turn + 1)), some (.int y3), some (.int b), y5] ∧ -(2 ^ 63) < b ∧ b < 2 ^ 63,
        ⟨rfl, g5.i, _, _, rfl, by omega, by omega⟩, fun j σ' G' H' h => ⟨by rw [h.1]; exact Same.refl _, by rw [h.1]; exact h.2.1⟩, fun j d σ' G' H' hd hI F6 H6 v g6 rv => ?_, fun σ' G' H' hI => ?_⟩
    · obtain ⟨rfl, s5, b, z5, rfl, b1, b2⟩ := hI
      obtain ⟨x, _, rfl⟩ := List.mem_map.mp (List.mem_of_getElem? hd)
      cases rv
      have q1 := ev_op (K := K) (F := F6) (σ := [some (.ref a), some (.int p), some (.int (turn + 1)), some (.int y3), some (.int b), some (.int x)]) (ev_op (ev_op (ev_var (i := 4) ⟨_, rfl, .int b⟩) (ev_int (i := 69621)) (rv_intC (C := CMul) (g := fun i j => i * j) (mulR (by decide)))) (ev_var (i := 5) ⟨_, rfl, .int x⟩) (rv_int (g := fun i j => i + j))) (ev_var (i := 2) ⟨_, rfl, .int (turn + 1)⟩) (rv_int (g := fun i j => i + j))
      refine s_set (K := K) (F := F6) (d := .int ((b * 69621 + x + (turn + 1)) % p)) (ev_op (ev1 q1 rc_int) (ev_var (i := 1) ⟨_, rfl, .int p⟩) (rv_intC (C := fun _ j => 0 < j) (g := fun i j => i % j) (by omega))) g6.i fun v F7 H7 g7 r7 => ?_
      cases r7
      have m1 := Int.emod_nonneg (b * 69621 + x + (turn + 1)) (show p ≠ 0 by omega)
      have m2 := Int.emod_lt_of_pos (b * 69621 + x + (turn + 1)) (show 0 < p by omega)
      exact ⟨_, rfl, s5.trans (g6.h.trans g7.h), _, _, rfl, by omega, by omega⟩
    · obtain ⟨rfl, s5, b, z5, rfl, b1, b2⟩ := hI
      have q1 := ev_op (K := K) (F := G') (σ := [some (.ref a), some (.int p), some (.int (turn + 1)), some (.int y3), some (.int b), z5]) (ev1 (ev_op (ev_var (i := 4) ⟨_, rfl, .int b⟩) (ev_int (i := 5)) (rv_intC (C := CPow) (g := fun i j => i ^ j.toNat) ⟨by decide, by decide, by omega⟩)) rc_int) (ev_var (i := 1) ⟨_, rfl, .int p⟩) (rv_intC (C := fun _ j => 0 < j) (g := fun i j => i % j) (by omega))
      refine s_set (K := K) (F := G') (ev_op (ev_op (ev_var (i := 3) ⟨_, rfl, .int y3⟩) (ev_int (i := 2147483647)) (rv_intC (C := CMul) (g := fun i j => i * j) (mulR (by decide)))) q1 (rv_int (g := fun i j => i + j))) s5 fun v F7 H7 g7 r7 => ?_
      cases r7
      exact ⟨_, rfl, s3.trans (g4.f.trans (g5.f.trans (s5.trans g7.h))), ⟨_, _, _, _, rfl⟩⟩
  · obtain ⟨rfl, sF, ⟨y1, y3, y4, y5, rfl⟩⟩ := hI
    refine now_var rfl _ ?_
    have D3 := (D1.same g2.f).same sF
    exact q y3 H' (k1.trans (.of (g2.f.trans sF))) ⟨ws, cs, rest, turn + 1, D3, by omega, by omega⟩
/-! ### _law_take -/
theorem ev_rest {σ : L2.St} {F : Hp} {i0 : Nat} {a l c : Addr} {ws cs : List Int} {rest turn : Int} (D : Draw F a l c ws cs rest turn) (h : σ[i0]? = some (some (.ref a))) : EvD K (tDGet (tVar i0) (tC (.str "rest"))) σ F (.int rest) := fun H s Q q =>
  now_rest (D.same s) (now_var h) _ (q _ F H (.start s) (.int _))
theorem ev_wide {σ : L2.St} {F : Hp} {i0 : Nat} {a l c : Addr} {ws cs : List Int} {rest turn : Int} (D : Draw F a l c ws cs rest turn) (h : σ[i0]? = some (some (.ref a))) : EvD K (tDGet (tVar i0) (tC (.str "wide"))) σ F (.list (ws.map .int)) := fun H s Q q =>
  now_wide (D.same s) (now_var h) _ (q _ F H (.start s) (.lst (.inl (.inl D.w)) (dps_ofInt ws)))
theorem s_whenI {σ : L2.St} {F H : Hp} {b : Bool} {t : TT} {ts tw : TS} {D : Ends} (I : Hp → Prop) (h : EvB t σ F b) (s : Same F H) (k1 : b = true → ∀ F' H', Grow F H F' H' → ∀ D' : Ends, (∀ H2, I H2 → D'.nx σ H2) → ts D' σ H') (k2 : b = false → ∀ F' H', Grow F H F' H' → I H') (k : ∀ H2, I H2 → tw D σ H2) :
    tSeq (tIfS t ts tNext) tw D σ H := s_when h s (fun hb F' H' g => k1 hb F' H' g _ k) fun hb F' H' g => k _ (k2 hb F' H' g)
abbrev s__law_take : Stmt := top 31
theorem sc__law_take : FnScope ["draw", "many", "found"] ["draw", "many"] (defScope s__law_take) := ⟨rfl, rfl, rfl, by decide +kernel, rfl, by decide +kernel, by decide +kernel⟩
def spTake : Sp := fun vs H Q _ => ∃ a l c n m, vs = [.ref a, .int m] ∧ DrawAt H a l c n ∧ n ≤ 2 ^ 40 ∧ 1 ≤ m ∧ m ≤ 2 ^ 40 ∧ ∀ (i : Nat) H', (i : Int) < m → Keeps a l H H' → DrawAt H' a l c (n + 1) → Q (.int (i : Int)) H'
theorem ok__law_take (F : Fun K "_law_take" "_law_take" s__law_take f fd) (B : BI mg) (c__law_mixed : Cal P w K mg base 1 "_law_mixed" spMixed []) : FnOk P w K mg base CX0 2 f fd ["draw", "many"] spTake := by
  refine F.ok sc__law_take (fun vs H Q E h => by obtain ⟨a, _, _, _, m, e, _⟩ := h; rw [e]; rfl) (fun cdv A outer s H vs Q E hr h => ?_)
  obtain ⟨a, l, c, n, m, ev, ⟨ws, cs, rest, turn, D, ht0, ht1⟩, hn, hm1, hm2, q⟩ := h
  subst ev
  refine ⟨_, (pss_cons (ps_if (pt_cmpR (op_eq) (pe_dget (hu_of hr) (pv 0) pe_str (fun _ _ => rfl)) pe_int (nomark _)) (pss_one (ps_dput (hu_of hr) (pv 0) pe_str (pe_ifExp (pt_cmpR (r := rNeD K) (op_neD hr.units) (pe_dget (hu_of hr) (pv 0) pe_str (fun _ _ => rfl)) (pe_lst pa_nil) (nomark _)) (pe_bm PySem.F.plainAttrs_list PySem.F.slot_list_pop PySem.F.type_list_pop mt_popAt (pe_dget (hu_of hr) (pv 0) pe_str (fun _ _ => rfl)) (pa_cons pe_int pa_nil)) (pe_c c__law_mixed hr (by first | decide | omega) (by rfl) (pa_cons (pv 0) pa_nil))) rfl)) pss_nil)
        (pss_cons (ps_set (i := 2) sc__law_take.nd rfl (Or.inl rfl) (pe_op (op_mod) (pe_callTy (call_int1) (by rfl) B.int_ (by decide +kernel) (pa_cons (pe_dget (hu_of hr) (pv 0) pe_str (fun _ _ => rfl)) pa_nil)) (pv 1)))
        (pss_cons (ps_dput (hu_of hr) (pv 0) pe_str (pe_op (op_fdivW) (pe_dget (hu_of hr) (pv 0) pe_str (fun _ _ => rfl)) (pv 1)) rfl)
        (pss_one (ps_ret (pv 2)))))), ?_⟩
  refine s_whenI (F := H) (fun H2 => Keeps a l H H2 ∧ DrawAt H2 a l c (n + 1)) (eb_test (K := K) (ev_op (ev_rest D rfl) (ev_int (i := 0)) rv_eqI)) (Same.refl H) (fun _ F1 H1 g1 D' k => ?_) (fun _ F1 H1 g1 => ⟨.of g1.h, ws, cs, rest, turn, D.same g1.h, ht0, by omega⟩) fun H1 hI => ?_
  · have D1 := D.same g1.h
    have k1 : Keeps a l H H1 := .of g1.h
    refine eb_test (K := K) (ev_op (ev_wide D1 rfl) (ev_lst ea_nil (Nat.zero_le _)) (rv_neD (shaped_ints ws) (by decide +kernel) (no_ints ws) rfl)) H1 (Same.refl H1) _ fun F2 H2 g2 => ?_
    have D2 := D1.same g2.h
    have k2 := k1.trans (.of g2.h)
    rw [eqv_nil]
    cases ws with
    | nil =>
      refine ⟨.ref a, rfl, a, l, c, n, rfl, ⟨_, _, _, _, D2, ht0, ht1⟩, hn, fun i H3 k3 D3 => ?_⟩
      obtain ⟨us, cs2, r2, t2, D4, h1, h2⟩ := D3
      refine ⟨.ref a, rfl, a, _, rfl, DPut.k (k := .inr "rest") D4.d (by show 4 < sizeLine; decide), ?_⟩
      rw [put_rest]
      exact k _ ⟨(k2.trans k3).put, us, cs2, i, t2, D4.put, h1, h2⟩
    | cons x ws =>
      refine now_wide D2 (now_var rfl) _ ⟨.inl ⟨rfl, _, .inl (.inl D2.w)⟩, ⟨l, _, 0, 0, .int x, rfl, rfl, D2.w, by decide, by decide, ?_, rfl, ?_⟩⟩
      · show seqIndex? 0 ((V.int x :: ws.map V.int).length) = some 0
        exact seqIndex_of (by decide) (by show (0 : Int) < (((ws.map V.int).length + 1 : Nat) : Int); omega)
      · have D4 := D2.putl (us := ws)
        refine ⟨.ref a, rfl, a, _, rfl, DPut.k (k := .inr "rest") D4.d (by show 4 < sizeLine; decide), ?_⟩
        rw [put_rest]
        exact k _ ⟨k2.putl.put, ws, cs, x, turn, D4.put, ht0, by omega⟩
  · obtain ⟨k1, us, cs1, r, t, D1, h0, h1⟩ := hI
    refine s_set (K := K) (F := H1) (d := .int (r % m)) (ev_op (ev1 (ev_rest D1 rfl) rc_int) (ev_var (i := 1) ⟨_, rfl, .int m⟩) (rv_intC (C := fun _ j => 0 < j) (g := fun i j => i % j) (by omega))) (Same.refl H1) fun v F2 H2 g2 r2 => ?_
    cases r2
    have D2 := D1.same g2.h
    refine ev_op (K := K) (F := H2) (ev_rest D2 rfl) (ev_var (i := 1) ⟨_, rfl, .int m⟩) (rv_intC (C := CDivW) (g := fun i j => i / j) (wide_div (b := 64) (by omega) (by omega) (by decide) (by decide))) H2 (Same.refl H2) _ fun v F3 H3 g3 r3 => ?_
    cases r3
    have D3 := D2.same g3.h
    refine ⟨.ref a, rfl, a, _, rfl, DPut.k (k := .inr "rest") D3.d (by show 4 < sizeLine; decide), ?_⟩
    rw [put_rest]
    have m1 := Int.emod_nonneg r (show m ≠ 0 by omega)
    have m2 := Int.emod_lt_of_pos r (show 0 < m by omega)
    refine ⟨.int (r % m), rfl, ?_⟩
    have := q (r % m).toNat _ (by omega) ((k1.trans (.of (g2.h.trans g3.h))).put) ⟨us, cs1, r / m, t, D3.put, h0, by omega⟩
    rw [Int.toNat_of_nonneg m1] at this
    exact this
end
end Sx
set_option Elab.async false
set_option linter.all false
set_option maxRecDepth 100000
set_option maxHeartbeats 1000000
set_option exponentiation.threshold 3000
namespace Sx
open PySem PySem.Spec PyProof.Rows L2
open C8 (Cal pe_c pe_gc)
section
variable {P : Program} {w : World} {K : PySem.W.Frag} {mg : Str → Option Value} {base : Heap} {f : Addr} {fd : FuncData} {aK CK CN CS : Addr}
/-! ### _law_pick -/
abbrev s__law_pick : Stmt := top 32
theorem sc__law_pick : FnScope ["draw", "some"] ["draw", "some"] (defScope s__law_pick) := ⟨rfl, rfl, rfl, by decide +kernel, rfl, by decide +kernel, by decide +kernel⟩
def spPick (K : PySem.W.Frag) : Sp := fun vs H Q _ => ∃ F a l c n y ds, Same F H ∧ F a = none ∧ F l = none ∧ vs = [.ref a, y] ∧ Dq K F y (.list ds) ∧ 1 ≤ ds.length ∧ ds.length ≤ 1000 ∧ DrawAt H a l c n ∧ n ≤ 2 ^ 40 ∧
  ∀ d v H', d ∈ ds → Dq K F v d → Keeps a l H H' → DrawAt H' a l c (n + 1) → Q v H'
theorem ok__law_pick (F : Fun K "_law_pick" "_law_pick" s__law_pick f fd) (B : BI mg) (c__law_take : Cal P w K mg base 2 "_law_take" spTake []) : FnOk P w K mg base CX0 3 f fd ["draw", "some"] (spPick K) := by
  refine F.ok sc__law_pick (fun vs H Q E h => by obtain ⟨_, a, _, _, _, y, _, _, _, _, e, _⟩ := h; rw [e]; rfl) (fun cdv A outer s H vs Q E hr h => ?_)
  obtain ⟨F0, a, l, c, n, y, ds, sm, na, nl, ev, ra, hd1, hd2, D, hn, q⟩ := h
  subst ev
  refine ⟨_, (pss_one (ps_ret (pe_ix (r := rIxL K) ix_list (pv 1) (pe_c c__law_take hr (by first | decide | omega) (by rfl) (pa_cons (pv 0) (pa_cons (pe_callB (r := rLen0 K) (call_len) (by rfl) B.len (by decide +kernel) (pa_cons (pv 1) pa_nil)) pa_nil))) (fun _ _ => rfl)))), ?_⟩
  obtain ⟨ws, cs, rest, turn, D, h0, h1⟩ := D
  cases ra with
  | lst ha hv =>
    rename_i p vs
    refine ⟨.ref p, rfl, .ref a, rfl, ev1 (K := K) (F := F0) (ev_var (i := 1) ⟨.ref p, rfl, .lst ha hv⟩) rc_lenL H sm _ fun u F1 H1 g1 r1 => ?_⟩
    cases r1
    refine ⟨a, l, c, n, (ds.length : Int), rfl, ⟨ws, cs, rest, turn, D.same g1.h, h0, h1⟩, hn, by omega, by omega, fun i H2 hi k2 D2 => ?_⟩
    have hi' : i < ds.length := by omega
    obtain ⟨v, hv1, hv2⟩ := hv.get (List.getElem?_eq_getElem hi')
    have kk := (Keeps.of (a := a) (l := l) g1.h).trans k2
    exact ⟨p, vs, (i : Int), v, rfl, rfl, (kk.same sm na nl).seq ha, atI_nat hv1, q _ v H2 (List.getElem_mem hi') hv2 kk D2⟩
end
end Sx
set_option Elab.async false
set_option linter.all false
set_option maxRecDepth 100000
set_option maxHeartbeats 1000000
/-! W8: try: .. except x as n: suite, where the error is kept beyond the suite. -/
namespace Sx
open PySem PySem.Spec PyProof.Rows L2
open C8 (Cal pe_c pe_gc)
/-- a caught error of the class cls, kept at a -/
def ExT (cls : Value) (d : Option Addr) (a : Addr) : HO := .ext fun h => ∃ (oe : Obj) (vs : Array Value), h.get? a = some oe ∧ Zc cls d oe ∧ oe.data = .fields vs
section
variable {X : Cx} {pins : List (Addr × Obj)} {σ : L2.St} {H : Hp} {s : Shared}
/-- a pinned error, new since the def began, gets tracked -/
theorem inv_track {a : Addr} {oe : Obj} {vs : Array Value} {cls : Value} {d : Option Addr} (I : Inv X ((a, oe) :: pins) σ H s) (z : Zc cls d oe) (hd : oe.data = .fields vs) (h0 : X.s_0.heap.get? a = none) (hp : ∀ p ∈ X.pn ++ pins, p.1 ≠ a) : Inv X pins σ (upd H a (ExT cls d a)) s := by
  obtain ⟨e1, e2, e3, e4, e5⟩ := I.pin (a, oe) (List.mem_append_right _ List.mem_cons_self)
  have ne : ∀ {b : Addr} {u : HO}, H b = some u → b ≠ a := fun h => ne_of_none h e2
  refine ⟨I.ok, I.os, I.bare, ⟨I.base.keep, I.base.slot, fun b o q n x => ?_, I.base.there, fun b xs q => ?_, fun b o u q => ?_, fun b ps q => ?_⟩, I.loc, I.cell, ?_, fun y c q => ?_, fun p hm => ?_, ?_, I.len⟩
  · have hb : b ≠ a := fun w => by rw [w, h0] at q; cases q
    rw [upd_ne hb]
    exact I.base.free b o q n x
  · have w := I.base.tups b xs q
    rw [upd_ne (ne w)]
    exact w
  · have w := I.base.frzs b o u q
    rw [upd_ne (ne w)]
    exact w
  · obtain ⟨more, w⟩ := I.base.tbls b ps q
    exact ⟨more, by rw [upd_ne (ne w)]; exact w⟩
  · rw [upd_ne (Ne.symm e3)]
    exact I.free
  · have hb : c ≠ a := fun w => by
      obtain ⟨v, k⟩ := I.cell y c q
      obtain ⟨o, k1, k2⟩ := k
      rw [w, e1] at k1
      cases k1
      first
        | exact e5 v k2
        | exact e5 v k2.2
        | exact e5 v k2.1
    rw [upd_ne hb]
    exact I.freeC y c q
  · have hm2 : p ∈ X.pn ++ (a, oe) :: pins := by
      rcases List.mem_append.mp hm with w | w
      · exact List.mem_append_left _ w
      · exact List.mem_append_right _ (List.mem_cons_of_mem _ w)
    obtain ⟨k1, k2, k3⟩ := I.pin p hm2
    refine ⟨k1, ?_, k3⟩
    rw [upd_ne (hp p hm)]
    exact k2
  · exact I.hok.laidN (fun _ _ q => q) e2 ⟨⟨oe, vs, e1, z, hd⟩, ⟨oe, e1⟩, fun _ _ ⟨o, v, q, r⟩ k => ⟨o, v, k o q, r⟩⟩
/-- out of a suite: the error stays pinned -/
theorem inv_held {a : Addr} {oe : Obj} (I : Inv (X.suite a ((a, oe) :: (X.pn ++ pins))) [] σ H s) (ok : X.Ok) : Inv X ((a, oe) :: pins) σ H s :=
  ⟨ok, I.os, I.bare, I.base, I.loc, I.cell, I.free, I.freeC, fun p hp => I.pin p (List.mem_append_left _ (by
    rcases List.mem_append.mp hp with w | w
    · exact List.mem_cons_of_mem _ (List.mem_append_left _ w)
    · rcases List.mem_cons.mp w with w | w
      · rw [w]; exact List.mem_cons_self
      · exact List.mem_cons_of_mem _ (List.mem_append_right _ w))), I.hok, I.len⟩
end
def wKeep (K : PySem.W.Frag) (c : Value) (i : Nat) (ts : Addr → Value → Option Addr → TS) (D : Ends) : WX := fun cls d σ H => PySem.W.exmOne K cls c = some true ∧
  ∀ a, H a = none → ts a cls d { nx := fun σ' H' => D.nx (σ'.set i none) (upd H' a (ExT cls d a)), rt := fun _ _ => False, bk := fun _ _ => False, ct := fun _ _ => False } (σ.set i (some (.ref a))) H

section
variable {X : Cx} {x n : Str} {c : Value} {i : Nat} {body suite : List Stmt} {b₀ : Stmt} {np pos pos' : Pos} {tb : WX → TS} {ts : Addr → Value → Option Addr → TS}
theorem ps_try_keep (hs : X.stack = X.env :: X.outer) (hf : X.env.frame = some X.env.locals) (hN : X.N.Nodup) (hi : X.N[i]? = some n) (hln : X.env.kindOf n = some .local) (hc : Names X x c) (hx : X.ex = [])
    (hb : ∀ (W : WX) (pn : List (Addr × Obj)) (xe : Value → Shared → Prop), Takes (X.tr pn xe) W → PassesOwn (model X.prog X.w) X.A X.env xe → PSs (X.tr pn xe) body (tb W))
    (hsu : ∀ (a : Addr) (oe : Obj) (cls : Value) (d : Option Addr) (pn : List (Addr × Obj)), Zc cls d oe → (∃ vs, oe.data = .fields vs) → PSs (X.suite a ((a, oe) :: pn)) (b₀ :: suite) (ts a cls d)) :
    PS X (.Try body [.ExceptHandler (some (.Name x np)) (some n) (b₀ :: suite) pos'] [] [] pos) (fun D σ H => tb (wKeep X.K c i ts D) D σ H) := ⟨fun pins s σ H D I h => by
  have okX := I.ok
  have frames : X.A.frames = some (X.env :: X.outer) := by
    rw [okX.frames, hs]
  refine wpAny_Try_except (wpAny_mono ((hb (wKeep X.K c i ts D) (X.pn ++ pins)
      (fun e t1 => wpAny (model X.prog X.w) X.A (noteFrame e X.env) (fun _ t2 => wpAny (model X.prog X.w) X.A (setFlight e none) (fun _ t3 => wpAny (model X.prog X.w) X.A (handleBy e X.env [.ExceptHandler (some (.Name x np)) (some n) (b₀ :: suite) pos']) (SP X pins D) X.xe t3) X.xe t2) X.xe t1)
      (fun u t caught => ?_) PassesOwn.looking).run [] s σ H D (I.toTry _) h) (fun fl t done => ?_) (fun _ _ z => z))
  · obtain ⟨a, Bh, tI, ps, σa, Ha, cls, dd, rfl, Ja, below, rise, aloft, untr, sameOs, quiet, match1, todo⟩ := caught
    have Jx : Inv X pins σa Ha tI := Ja.ofTry okX
    have aloft' : Sky Bh (X.env :: X.outer) a (Zc cls dd) X.env.locals t.heap := by
      rw [← hs]
      exact aloft
    show wpAny _ X.A (noteFrame (.ref a) X.env) _ _ _
    refine Sky.land Zc.steady frames hf aloft' fun g3 land3 rise3 => ?_
    have J3 := Jx.landed (s' := { t with heap := g3 }) below land3.1 (rise.trans rise3) sameOs quiet
    obtain ⟨o3, v3, at3, z3, d3⟩ := land3.there
    have apart : a ∉ frs (X.env :: X.outer) := fun hm => by
      obtain ⟨_, o', e', hnf⟩ := land3.2.2.1.mem hm
      rw [at3] at e'
      cases e'
      exact hnf _ d3
    have noL : a ≠ X.env.locals := fun w => apart (List.mem_filterMap.mpr ⟨X.env, List.mem_cons_self, by rw [hf, w]⟩)
    have noF : a ∉ X.fs := fun hm => by
      obtain ⟨e, he, q⟩ := List.mem_filterMap.mp hm
      exact apart (List.mem_filterMap.mpr ⟨e, List.mem_cons_of_mem _ he, q⟩)
    have fresh : ∀ o, tI.heap.get? a = some o → False := fun o e => by
      have w := below a o e (by rw [hs]; exact apart)
      rw [land3.2.1] at w
      cases w
    have new0 : X.s_0.heap.get? a = none := by
      cases w : X.s_0.heap.get? a with
      | none => rfl
      | some o =>
        obtain ⟨o', e'⟩ := Jx.base.there a o w (by rw [hx]; exact List.not_mem_nil)
        exact (fresh o' e').elim
    have pinNe : ∀ p ∈ X.pn ++ pins, p.1 ≠ a := fun p hp w => fresh p.2 (w ▸ (Jx.pin p hp).1)
    have S3 := J3.suite at3 d3 untr noL noF
    refine wpAny_handleBy_cons (codeAny_handlers_test ?_) (fun q => nomatch q)
    have kind : PySem.W.Looks (model X.prog X.w) g3 (typeOf (.ref a)) cls := fun A Q E t' k q => wpAny_typeOf_ref (k _ _ at3) (by rw [z3.1]; exact q)
    have fits := PySem.W.exm_one (M := model X.prog X.w) J3.kIn kind match1
    have named : ∀ {Q : Value → Shared → Prop} {E : Value → Shared → Prop}, Q c { t with heap := g3 } → wpAny (model X.prog X.w) (X.A.mark (some (.ref a))) (eval (.Name x np) X.env) Q E { t with heap := g3 } := fun {Q E} q => by
      obtain ⟨c1, c2, c3 | ⟨c3, c4, c5⟩⟩ := hc
      · exact ld_glob S3 c1 c3 q c2
      · exact ld_blt S3 c1 c3 c4 q c5 c2
    refine named (fits.here (codeAny_handlers_suite_as (HandSPX.lands_againZ land3 fun g4 land4 rise4 => ?_)))
    have J4 := Jx.landed (s' := { t with heap := g4 }) below land4.1 ((rise.trans rise3).trans rise4) sameOs quiet
    obtain ⟨o4, v4, at4, z4, d4⟩ := land4.there
    have S4 := J4.suite at4 d4 untr noL noF
    refine store_ok (X := X.suite a ((a, o4) :: (X.pn ++ pins))) (v := .ref a) S4 hN hi (.inl hln) rfl (fun t5 S5 => ?_) (.inr hln)
    refine wpAny_mono ((hsu a o4 cls dd (X.pn ++ pins) z4 ⟨_, d4⟩).run [] t5 _ Ha _ S5 (todo a untr)) (fun f t6 ended => ?_) (fun _ _ w => w.elim)
    cases f with
    | next =>
      obtain ⟨σ6, H6, S6, q6⟩ := ended
      exact gone_ok (inv_held S6 okX) hN hi hln fun t7 J7 => ⟨_, _, inv_track J7 z4 d4 new0 pinNe, q6⟩
    | brk =>
      obtain ⟨_, _, _, w⟩ := ended
      exact w.elim
    | cont =>
      obtain ⟨_, _, _, w⟩ := ended
      exact w.elim
    | ret u =>
      obtain ⟨_, _, _, _, _, w⟩ := ended
      exact w.elim
  · cases fl with
    | next =>
      obtain ⟨σ1, H1, J1, q1⟩ := done
      exact wpAny_execs_nil ⟨σ1, H1, J1.ofTry okX, q1⟩
    | brk =>
      obtain ⟨σ1, H1, J1, q1⟩ := done
      exact ⟨σ1, H1, J1.ofTry okX, q1⟩
    | cont =>
      obtain ⟨σ1, H1, J1, q1⟩ := done
      exact ⟨σ1, H1, J1.ofTry okX, q1⟩
    | ret u =>
      obtain ⟨v1, σ1, H1, J1, r1, q1⟩ := done
      exact ⟨v1, σ1, H1, J1.ofTry okX, r1, q1⟩⟩
end

/-! ### f(k = v, ..), by keywords alone -/
section
variable {X : Cx} {CX : CXT} {k : Nat} {f : Addr} {fd : FuncData} {ps ks : List Str} {sp : Sp} {E : XK} {x : Str} {p pos : Pos} {kws : List Keyword} {tk : TA} {g : List Value → List Value → List Value} {gV : List V → List V → List V}
theorem pe_ckw (F : FnOk X.prog X.w X.K X.mg X.base CX k f fd ps sp) (hr : Room k X.A) (hg : Gl X x) (hm : X.mg x = some (.ref f)) (hk : PySem.W.keepIn X.K (.ref f) = true) (hb : KBinds X.K fd ps ks g gV) (hx : Passes CX X E) (hkw : PK X kws tk)
    (hall : (backToKw pos (keywordEach kws X.env)).all (·.1.isSome) = true := by rfl) (hks : (backToKw pos (keywordEach kws X.env)).filterMap (·.1) = ks := by rfl) (hdb : (x == ("__debug__" : Str)) = false := by decide)
    (hpl : ((backTo pos (starEach [] X.env)).any (·.1) || (backToKw pos (keywordEach kws X.env)).any (·.1.isNone)) = false := by rfl) : PE X (.Call (.Name x p) [] kws pos) (tCallK sp gV E tNil tk) :=
  ⟨fun pins s σ H Q I h => wpAny_Call_Name_kw (ld_glob I hg hm (PySem.W.callWith_KW0 (h₀ := X.base) I.ok.mod.kin hk hall (thn (hkw.run pos pins s σ H _ I h) fun ws s2 hq => by
    obtain ⟨zs, H2, I2, rz, q2⟩ := hq
    refine ⟨I2.kIn, ?_⟩
    rw [hks]
    exact run_fnk (us := []) (vs := []) F hr hb hx I2 .nil rz q2) hpl) hdb)⟩
end
end Sx
set_option Elab.async false
set_option linter.all false
set_option maxRecDepth 100000
set_option maxHeartbeats 1000000
set_option exponentiation.threshold 3000
/-! Y9: repr of lists and tuples of data. -/
namespace Sx
open PySem PySem.Spec PyProof.Rows L2
/-- what repr takes here: lists and tuples without dicts, not too deep, not too long -/
structure Showy (d : PyData) : Prop where
  ref : isTup d = true ∨ isLst d = true
  ok : d.showable = true
  no : d.hasDict = false
  dep : d.depth ≤ 40
  len : d.shown.length ≤ sizeLine
def rReprD (K : PySem.W.Frag) : List V → Hp → VK → Prop := fun xs H Q => ∃ v d, xs = [v] ∧ Dq K H v d ∧ Showy d ∧ Q (.str d.shown) H
theorem call_reprD {X : Cx} (hg : X.A.guards = some []) (hu : X.A.units + 64 < cLine) : CallR X (.builtin "repr") (rReprD X.K) := by
  intro pins s σ H xs us Q I r h
  obtain ⟨v, d, rfl, rv, hd, q⟩ := h
  obtain ⟨u, rfl, ru⟩ := vals1 r
  have hdep := hd.dep
  obtain ⟨as, rd⟩ := L2.Dp.reads I d v u (dq_dp _ _ rv hd.no) ru
  have key : ∀ a, u = .ref a → wpAny (model X.prog X.w) X.A (call (.builtin "repr") [u]) (EP X pins σ Q) X.xe s := fun a e => by
    subst e
    exact repr_of_reads' rd hd.ok (fun z => by rw [hd.no] at z; cases z) hg (by omega) (fun _ _ e => e) (fun h' u tk hk => ⟨.str d.shown, H, I.kept hk, ⟨_, rfl⟩, q⟩) hd.len
  cases rv with
  | lst a b => exact key _ ru
  | tup a b => exact key _ ru
  | non => rcases hd.ref with z | z <;> cases z
  | bl b => rcases hd.ref with z | z <;> cases z
  | int i => rcases hd.ref with z | z <;> cases z
  | str x => rcases hd.ref with z | z <;> cases z
  | emp e => rcases hd.ref with z | z <;> cases z
theorem rc_reprD {K : PySem.W.Frag} {d : PyData} (hd : Showy d) : RcD K (rReprD K) [d] (.str d.shown) := fun F xs H s r Q q => by
  cases r with
  | cons a b =>
    cases b
    exact ⟨_, d, rfl, a.up s, hd, q _ F H (.start s) (.str _)⟩
end Sx
set_option Elab.async false
set_option linter.all false
set_option maxRecDepth 100000
set_option maxHeartbeats 1000000
/-! W10: the law's call, told by its run at the caller (so that the caller's guards are known). -/
namespace Sx
open PySem PySem.Spec PyProof.Rows L2
section
variable {P : Program} {w : World} {K : PySem.W.Frag} {mg mb : Str → Option Value} {CX : CXT} {fa a : Addr} {s1 : Shared} {vs : List Value} {ns : List Int}
/-- how the law is left -/
abbrev Left (s1 : Shared) : Result → Shared → Prop := fun r t => r = .ok (.ret (.bool true)) ∧ OldK s1.heap t.heap ∧ t.os = s1.os ∧ AllBare t.gens
/-- H tracks nothing but the script -/
theorem run_core {H : Hp} (kIn : K.In s1.heap) (glo : s1.heap.Ns mainGlobals mg) (blt : s1.heap.Ns builtinsNs mb) (boot : ∀ x : Str, x ≠ "__name__" → mb x = bootBuiltins x) (lim : s1.heap.NoLimit) (gens : s1.gens = #[])
    (at_ : s1.heap.get? a = some { cls := .type "list", data := .seq vs.toArray }) (only : Only H) (seq : SqL K H a (ns.map V.int)) (hok : HOk P w H s1.heap) (one : ∀ b, H b ≠ none → b = a) (out : H a ≠ none → K.lookup a = none)
    (run : ∀ base : Heap, K.In base → base.Ns mainGlobals mg → Env0 P w K mg base callerA [] s1 H → codeAny (model P w) callerA (.call (.ref fa) ⟨[.ref a], []⟩) (CR CX [] P w H s1 (fun v _ => v = .bl true) (fun _ _ _ => False)) s1)
    (fin : ∀ e t, CX [] H s1 (fun _ _ _ => False) e t → False) : codeAny (model P w) callerA (.call (.ref fa) ⟨[.ref a], []⟩) (Left s1) s1 := by
  have up : ∀ {b : Addr} {o : Obj}, s1.heap.get? b = some o → H b = none → (hidT s1.heap H).get? b = some o := fun e n => hidT_get e n
  have not_a : ∀ {b : Addr}, H b ≠ none → b = a := fun h => one _ h
  have dict_free : ∀ {b : Addr} {o : Obj} {es : Array DictEntry} {ep : Nat}, s1.heap.get? b = some o → o.data = .dict es ep → H b = none := fun {b o es ep} e d => by
    apply Classical.byContradiction
    intro q
    have eb := not_a q
    rw [eb, at_] at e
    cases e
    exact nomatch d
  have nsB : ∀ {b : Addr} {m : Str → Option Value}, s1.heap.Ns b m → (hidT s1.heap H).Ns b m := fun {b m} h => by
    obtain ⟨o, es, ep, e, d, r⟩ := h
    exact ⟨o, es, ep, up e (dict_free e d), d, r⟩
  have kB : K.In (hidT s1.heap H) := fun b o e => up (kIn b o e) (by
    apply Classical.byContradiction
    intro q
    have eb := not_a q
    rw [eb] at e q
    rw [out q] at e
    cases e)
  obtain ⟨mc, l1, l2⟩ := lim
  have e0 : Env0 P w K mg (hidT s1.heap H) callerA [] s1 H := ⟨rfl, ⟨kB, nsB glo, ⟨mb, nsB blt, boot⟩, mc, nsB l1, l2⟩, fun b o e => of_hidT e, Nat.le_of_eq (hidT_size _ _), trivial, fun b hb => (List.not_mem_nil (show b ∈ ([] : List Addr) from hb)).elim, hok, .of_eq gens⟩
  refine codeAny_mono (run _ kB (nsB glo) e0) fun r t h => ?_
  cases r with
  | error e => exact (fin e t h).elim
  | ok fl =>
    cases fl with
    | ret u =>
      obtain ⟨v, H2, os2, bare2, un, ok2, rel, isT⟩ := h
      have isT' : v = .bl true := isT
      subst isT'
      obtain rfl : u = Value.bool true := rel
      refine ⟨rfl, OldK.of_keep fun b o e => ?_, os2, bare2⟩
      rcases only b with z | ⟨ob, xs, z⟩
      · exact un.keep b o e z (fun q => (List.not_mem_nil (show b ∈ ([] : List Addr) from q)).elim) (by simp)
      · have z2 := un.frzs b ob _ z
        obtain ⟨k1, _⟩ := hok b _ z
        obtain ⟨k2, _⟩ := ok2 b _ z2
        rw [e] at k1
        cases k1
        exact k2
    | next => exact h.elim
    | brk => exact h.elim
    | cont => exact h.elim
theorem law_run (kIn : K.In s1.heap) (glo : s1.heap.Ns mainGlobals mg) (blt : s1.heap.Ns builtinsNs mb) (boot : ∀ x : Str, x ≠ "__name__" → mb x = bootBuiltins x) (lim : s1.heap.NoLimit) (gens : s1.gens = #[])
    (at_ : s1.heap.get? a = some { cls := .type "list", data := .seq vs.toArray }) (hi : IntsAre vs ns) (hl : ns.length ≤ sizeLine)
    (run : ∀ (base : Heap) (H : Hp), K.In base → base.Ns mainGlobals mg → Only H → SqL K H a (ns.map V.int) → Env0 P w K mg base callerA [] s1 H → codeAny (model P w) callerA (.call (.ref fa) ⟨[.ref a], []⟩) (CR CX [] P w H s1 (fun v _ => v = .bl true) (fun _ _ _ => False)) s1)
    (fin : ∀ H e t, CX [] H s1 (fun _ _ _ => False) e t → False) : codeAny (model P w) callerA (.call (.ref fa) ⟨[.ref a], []⟩) (Left s1) s1 := by
  have rv := vals_ints hi
  have lenV := hi.length
  cases hk : K.lookup a with
  | some o =>
    have e := kIn a o hk
    rw [at_] at e
    cases e
    have only : Only (fun _ => none) := fun _ => .inl rfl
    have seq : SqL K (fun _ => none) a (ns.map V.int) := .inr ⟨_, vs.toArray, _, hk, rfl, rfl, rfl, by rw [List.size_toArray, lenV]; exact hl, by simpa using rv⟩
    exact run_core kIn glo blt boot lim gens at_ only seq (fun b u z => by cases (show (none : Option HO) = some u from z)) (fun b z => absurd rfl z) (fun z => absurd rfl z) (fun base h1 h2 h3 => run base _ h1 h2 only seq h3) (fin _)
  | none =>
    generalize hH : (upd (fun _ => none) a (.frz { cls := .type "list", data := .seq vs.toArray } (.lst (ns.map V.int))) : Hp) = H
    have eA : H a = some (.frz { cls := .type "list", data := .seq vs.toArray } (.lst (ns.map V.int))) := by rw [← hH]; exact upd_same
    have eB : ∀ b, b ≠ a → H b = none := fun b hb => by rw [← hH, upd_ne hb]
    have only : Only H := fun b => by
      by_cases hb : b = a
      · rw [hb]
        exact .inr ⟨_, _, eA⟩
      · exact .inl (eB b hb)
    have seq : SqL K H a (ns.map V.int) := .inl (.inr ⟨_, eA⟩)
    have hok : HOk P w H s1.heap := fun b u z => by
      by_cases hb : b = a
      · subst hb
        rw [eA] at z
        cases z
        exact ⟨at_, by rw [List.length_map]; exact hl, vs, _, rv, at_⟩
      · rw [eB b hb] at z
        cases z
    exact run_core kIn glo blt boot lim gens at_ only seq hok (fun b z => Classical.byContradiction fun w => z (eB b w)) (fun _ => hk) (fun base h1 h2 h3 => run base _ h1 h2 only seq h3) (fin _)
end
/-- the goal that the head leaves, from the law's run at the caller -/
theorem walk_run {l : PySem.W.OpenLaw} {n : Nat} {q : Program} {loose : List Str} {XP : (Str → Option Value) → Heap → Prop} {YP : World → Heap → Prop} {d : DefRec} {CX : CXT} (hn : l.most = some n) (hn2 : n ≤ sizeLine) (hdf : d.params.defaults = [])
    (F : ∀ (w : World) (mg : Str → Option Value) (fa : Addr) (h : Heap), YP w h → h.Ns mainGlobals mg → mg d.name = some (.ref fa) → ∃ K : PySem.W.Frag, K.In h ∧ ∀ (t : Shared) (base : Heap) (H : Hp) (a : Addr) (ns : List Int), ns.length ≤ n → K.In base → base.Ns mainGlobals mg → Only H → SqL K H a (ns.map V.int) →
      Env0 l.prog w K mg base callerA [] t H → codeAny (model l.prog w) callerA (.call (.ref fa) ⟨[.ref a], []⟩) (CR CX [] l.prog w H t (fun v _ => v = .bl true) (fun _ _ _ => False)) t)
    (fin : ∀ (H : Hp) (t : Shared) (e : Value) (t' : Shared), CX [] H t (fun _ _ _ => False) e t' → False) : PySem.W.WalkO q loose XP YP l.row.toRowW d [] (fun f vs => PySem.call f vs) := by
  refine Att.attach_call hn hdf fun w s₀ s₁ mg mb fa o pm cd doc a vs ns G Y ho hd hcd hmg hobj hints hlen hg => ?_
  obtain ⟨K, kIn, run⟩ := F w mg fa _ Y G.T.g hmg
  exact law_run kIn G.T.g G.T.b G.T.builtins G.T.nolimit hg hobj hints (Nat.le_trans hlen hn2) (fun base H h1 h2 h3 h4 h5 => run s₁ base H a ns hlen h1 h2 h3 h4 h5) fun H e t => fin H s₁ e t
end Sx
set_option Elab.async false
set_option linter.all false
set_option maxRecDepth 100000
set_option maxHeartbeats 1000000
/-! W11: the same where the law makes lambdas: the table P0 of its code object c0 is tracked. -/
namespace Sx
open PySem PySem.Spec PyProof.Rows L2 LamX
section
variable {P : Program} {w : World} {K : PySem.W.Frag} {mg mb : Str → Option Value} {CX : CXT} {fa a c0 P0 : Addr} {s1 : Shared} {vs : List Value} {ns : List Int}
abbrev Empty0 : Obj := { cls := .none, data := .fields #[] }
abbrev Script (vs : List Value) : Obj := { cls := .type "list", data := .seq vs.toArray }
theorem run_coreT {H : Hp} (kIn : K.In s1.heap) (glo : s1.heap.Ns mainGlobals mg) (blt : s1.heap.Ns builtinsNs mb) (boot : ∀ x : Str, x ≠ "__name__" → mb x = bootBuiltins x) (lim : s1.heap.NoLimit) (gens : s1.gens = #[])
    (tab : s1.heap.get? P0 = some Empty0) (noK : K.lookup P0 = none) (code : PySem.W.CodeHd s1.heap c0 P0)
    (mod : ∃ (bm : Addr) (ob : Obj), mg "__builtins__" = some (.ref bm) ∧ bm ≠ builtinsNs ∧ s1.heap.get? bm = some ob ∧ ob.cls = .type "module" ∧ ob.dict = some builtinsNs ∧ ob.data = .plain)
    (at_ : s1.heap.get? a = some (Script vs)) (hP : H P0 = some (.tbl #[])) (only : ∀ b, H b = none ∨ b = P0 ∨ ∃ o xs, H b = some (.frz o (.lst xs))) (hok : HOk P w H s1.heap) (one : ∀ b, H b ≠ none → b = a ∨ b = P0) (out : H a ≠ none → K.lookup a = none)
    (run : ∀ base : Heap, K.In base → base.Ns mainGlobals mg → TabB base mg c0 P0 → Env0 P w K mg base callerA [] s1 H → codeAny (model P w) callerA (.call (.ref fa) ⟨[.ref a], []⟩) (CR CX [] P w H s1 (fun v _ => v = .bl true) (fun _ _ _ => False)) s1)
    (fin : ∀ e t, CX [] H s1 (fun _ _ _ => False) e t → False) : codeAny (model P w) callerA (.call (.ref fa) ⟨[.ref a], []⟩) (Left s1) s1 := by
  have up : ∀ {b : Addr} {o : Obj}, s1.heap.get? b = some o → H b = none → (hidT s1.heap H).get? b = some o := fun e n => hidT_get e n
  have free : ∀ {b : Addr} {o : Obj}, s1.heap.get? b = some o → (∀ us n, o.data ≠ .seq us n) → o.data ≠ .fields #[] → H b = none := fun {b o} e h1 h2 => by
    apply Classical.byContradiction
    intro q
    rcases one b q with eb | eb
    · rw [eb, at_] at e
      cases e
      exact h1 _ _ rfl
    · rw [eb, tab] at e
      cases e
      exact h2 rfl
  have dict_free : ∀ {b : Addr} {o : Obj} {es : Array DictEntry} {ep : Nat}, s1.heap.get? b = some o → o.data = .dict es ep → H b = none := fun {b o es ep} e d => free e (fun us n z => by rw [d] at z; cases z) fun z => by rw [d] at z; cases z
  have nsB : ∀ {b : Addr} {m : Str → Option Value}, s1.heap.Ns b m → (hidT s1.heap H).Ns b m := fun {b m} h => by
    obtain ⟨o, es, ep, e, d, r⟩ := h
    exact ⟨o, es, ep, up e (dict_free e d), d, r⟩
  have kB : K.In (hidT s1.heap H) := fun b o e => up (kIn b o e) (by
    apply Classical.byContradiction
    intro q
    rcases one b q with eb | eb
    · rw [eb] at e q
      rw [out q] at e
      cases e
    · rw [eb, noK] at e
      cases e)
  have tb : TabB (hidT s1.heap H) mg c0 P0 := by
    refine ⟨?_, ?_, fun z => ?_⟩
    · obtain ⟨o, us, file, tf, flags, tg, inF, text, tt, e1, r1, r2, r3, rest⟩ := code
      refine ⟨o, us, file, tf, flags, tg, inF, text, tt, up e1 (free e1 (fun us n z => ?_) fun z => ?_), r1, r2, r3, rest⟩
      · rw [r2] at z
        cases z
      · rw [r2] at z
        cases z
        simp at r3
    · obtain ⟨bm, ob, b1, b2, b3, b4, b5, b6⟩ := mod
      refine ⟨bm, ob, b1, b2, fun q => ?_, fun q => ?_, up b3 (free b3 (fun us n z => ?_) fun z => ?_), b4, b5, b6⟩
      · obtain ⟨o, es, ep, e, hd, _⟩ := glo
        rw [q, e] at b3
        cases b3
        rw [hd] at b6
        cases b6
      · rw [q, tab] at b3
        cases b3
        cases b6
      · rw [b6] at z
        cases z
      · rw [b6] at z
        cases z
    · obtain ⟨o, es, ep, e, hd, _⟩ := glo
      rw [z, tab] at e
      cases e
      cases hd
  obtain ⟨mc, l1, l2⟩ := lim
  have e0 : Env0 P w K mg (hidT s1.heap H) callerA [] s1 H := ⟨rfl, ⟨kB, nsB glo, ⟨mb, nsB blt, boot⟩, mc, nsB l1, l2⟩, fun b o e => of_hidT e, Nat.le_of_eq (hidT_size _ _), trivial, fun b hb => (List.not_mem_nil (show b ∈ ([] : List Addr) from hb)).elim, hok, .of_eq gens⟩
  refine codeAny_mono (run _ kB (nsB glo) tb e0) fun r t h => ?_
  cases r with
  | error e => exact (fin e t h).elim
  | ok fl =>
    cases fl with
    | ret u =>
      obtain ⟨v, H2, os2, bare2, un, ok2, rel, isT⟩ := h
      have isT' : v = .bl true := isT
      subst isT'
      obtain rfl : u = Value.bool true := rel
      have kept : ∀ b o, b ≠ P0 → s1.heap.get? b = some o → t.heap.get? b = some o := fun b o nb e => by
        rcases only b with z | z | ⟨ob, xs, z⟩
        · exact un.keep b o e z (fun q => (List.not_mem_nil (show b ∈ ([] : List Addr) from q)).elim) (by simp)
        · exact absurd z nb
        · have z2 := un.frzs b ob _ z
          obtain ⟨k1, _⟩ := hok b _ z
          obtain ⟨k2, _⟩ := ok2 b _ z2
          rw [e] at k1
          cases k1
          exact k2
      obtain ⟨more, zt⟩ := un.tbls P0 #[] hP
      have grown : t.heap.get? P0 = some { cls := .none, data := .fields (#[] ++ more) } := ok2 P0 _ zt
      rw [Array.empty_append] at grown
      refine ⟨rfl, ⟨fun b o e => ?_, fun b o e => ?_⟩, os2, bare2⟩
      · by_cases hb : b = P0
        · rw [hb] at e ⊢
          rw [tab] at e
          cases e
          exact .inr (.inl ⟨(code.tab tab).isCodeTable, rfl, #[], more, rfl, by rw [Array.empty_append]; exact grown⟩)
        · exact .inl (kept b o hb e)
      · by_cases hb : b = P0
        · rw [hb]
          exact ⟨_, grown⟩
        · exact ⟨o, kept b o hb e⟩
    | next => exact h.elim
    | brk => exact h.elim
    | cont => exact h.elim
theorem law_runT (kIn : K.In s1.heap) (glo : s1.heap.Ns mainGlobals mg) (blt : s1.heap.Ns builtinsNs mb) (boot : ∀ x : Str, x ≠ "__name__" → mb x = bootBuiltins x) (lim : s1.heap.NoLimit) (gens : s1.gens = #[])
    (tab : s1.heap.get? P0 = some Empty0) (noK : K.lookup P0 = none) (code : PySem.W.CodeHd s1.heap c0 P0)
    (mod : ∃ (bm : Addr) (ob : Obj), mg "__builtins__" = some (.ref bm) ∧ bm ≠ builtinsNs ∧ s1.heap.get? bm = some ob ∧ ob.cls = .type "module" ∧ ob.dict = some builtinsNs ∧ ob.data = .plain)
    (at_ : s1.heap.get? a = some (Script vs)) (hi : IntsAre vs ns) (hl : ns.length ≤ sizeLine)
    (run : ∀ (base : Heap) (H : Hp), K.In base → base.Ns mainGlobals mg → TabB base mg c0 P0 → H P0 = some (.tbl #[]) → SqL K H a (ns.map V.int) → Env0 P w K mg base callerA [] s1 H → codeAny (model P w) callerA (.call (.ref fa) ⟨[.ref a], []⟩) (CR CX [] P w H s1 (fun v _ => v = .bl true) (fun _ _ _ => False)) s1)
    (fin : ∀ H e t, CX [] H s1 (fun _ _ _ => False) e t → False) : codeAny (model P w) callerA (.call (.ref fa) ⟨[.ref a], []⟩) (Left s1) s1 := by
  have rv := vals_ints hi
  have lenV := hi.length
  have ne : a ≠ P0 := fun z => by
    rw [z, tab] at at_
    have := congrArg Obj.data (Option.some.inj at_)
    cases this
  have mk : ∀ H : Hp, H P0 = some (.tbl #[]) → (∀ b, b ≠ a → b ≠ P0 → H b = none) → ((H a = none ∧ K.lookup a ≠ none) ∨ (H a = some (.frz (Script vs) (.lst (ns.map V.int))) ∧ K.lookup a = none)) → SqL K H a (ns.map V.int) → codeAny (model P w) callerA (.call (.ref fa) ⟨[.ref a], []⟩) (Left s1) s1 := fun H hP hN hA seq => by
    refine run_coreT kIn glo blt boot lim gens tab noK code mod at_ hP (fun b => ?_) (fun b u z => ?_) (fun b z => ?_) (fun z => ?_) (fun base h1 h2 h3 h4 => run base H h1 h2 h3 hP seq h4) (fin H)
    · by_cases hb : b = P0
      · exact .inr (.inl hb)
      · by_cases ha : b = a
        · rw [ha]
          rcases hA with k | k
          · exact .inl k.1
          · exact .inr (.inr ⟨_, _, k.1⟩)
        · exact .inl (hN b ha hb)
    · by_cases hb : b = P0
      · subst hb
        rw [hP] at z
        cases z
        exact tab
      · by_cases ha : b = a
        · subst ha
          rcases hA with k | k
          · rw [k.1] at z
            cases z
          · rw [k.1] at z
            cases z
            exact ⟨at_, by rw [List.length_map]; exact hl, vs, _, rv, at_⟩
        · rw [hN b ha hb] at z
          cases z
    · by_cases hb : b = P0
      · exact .inr hb
      · by_cases ha : b = a
        · exact .inl ha
        · exact absurd (hN b ha hb) z
    · rcases hA with k | k
      · exact absurd k.1 z
      · exact k.2
  cases hk : K.lookup a with
  | some o =>
    have e := kIn a o hk
    rw [at_] at e
    cases e
    refine mk (upd (fun _ => none) P0 (.tbl #[])) upd_same (fun b _ hb => by rw [upd_ne hb]) (.inl ⟨by rw [upd_ne ne], by rw [hk]; simp⟩) (.inr ⟨_, vs.toArray, _, hk, rfl, rfl, rfl, by rw [List.size_toArray, lenV]; exact hl, by simpa using rv⟩)
  | none =>
    refine mk (upd (upd (fun _ => none) P0 (.tbl #[])) a (.frz (Script vs) (.lst (ns.map V.int)))) (by rw [upd_ne ne.symm]; exact upd_same) (fun b ha hb => by rw [upd_ne ha, upd_ne hb]) (.inr ⟨upd_same, hk⟩) (.inl (.inr ⟨_, upd_same⟩))
end
/-- the goal that the head leaves, from the law's run at the caller, its table known -/
theorem walk_runT {l : PySem.W.OpenLaw} {n : Nat} {q : Program} {loose : List Str} {XP : (Str → Option Value) → Heap → Prop} {YP : World → Heap → Prop} {d : DefRec} {CX : CXT} (hn : l.most = some n) (hn2 : n ≤ sizeLine) (hdf : d.params.defaults = [])
    (hrec : ((recsOf q).any fun e => e.name == d.name) = true)
    (F : ∀ (w : World) (mg : Str → Option Value) (fa : Addr) (h : Heap), YP w h → h.Ns mainGlobals mg → mg d.name = some (.ref fa) → ∃ K : PySem.W.Frag, K.In h ∧ ∀ (c t : Addr) (o : Obj) (fd : FuncData), h.get? fa = some o → o.data = .func fd → fd.code = .ref c → PySem.W.CodeHd h c t → h.get? t = some Empty0 →
      K.lookup t = none ∧ ∀ (s : Shared) (base : Heap) (H : Hp) (a : Addr) (ns : List Int), ns.length ≤ n → K.In base → base.Ns mainGlobals mg → TabB base mg c t → H t = some (.tbl #[]) → SqL K H a (ns.map V.int) → Env0 l.prog w K mg base callerA [] s H →
        codeAny (model l.prog w) callerA (.call (.ref fa) ⟨[.ref a], []⟩) (CR CX [] l.prog w H s (fun v _ => v = .bl true) (fun _ _ _ => False)) s)
    (fin : ∀ (H : Hp) (s : Shared) (e : Value) (s' : Shared), CX [] H s (fun _ _ _ => False) e s' → False) : PySem.W.WalkO q loose XP YP l.row.toRowW d [] (fun f vs => PySem.call f vs) := by
  refine Att.attach_call hn hdf fun w s₀ s₁ mg mb fa o pm cd doc a vs ns G Y ho hd hcd hmg hobj hints hlen hg => ?_
  obtain ⟨dL, mem, same⟩ := List.any_eq_true.mp hrec
  obtain ⟨a', o', fd', c', t', g1, g2, g3, g4, g5, g6⟩ := G.T.tab dL mem
  rw [beq_iff_eq.mp same, hmg] at g1
  cases g1
  obtain ⟨K, kIn, F2⟩ := F w mg fa _ Y G.T.g hmg
  have head := PySem.W.CodeHd.of g5 g6
  have tab : s₁.heap.get? t' = some Empty0 := g6.2
  obtain ⟨noK, run⟩ := F2 c' t' o' fd' g2 g3 g4 head tab
  exact law_runT kIn G.T.g G.T.b G.T.builtins G.T.nolimit hg tab noK head G.T.bmain hobj hints (Nat.le_trans hlen hn2) (fun base H h1 h2 h3 h4 h5 h6 => run s₁ base H a ns hlen h1 h2 h3 h4 h5 h6) fun H e t => fin H s₁ e t
end Sx
set_option Elab.async false
set_option linter.all false
set_option maxRecDepth 100000
set_option maxHeartbeats 1000000
/-! W12: tuple(zip(l1, l2)), two lists of one length. -/
namespace Sx
open PySem PySem.Spec PyProof.Rows L2
/-- pairs are laid, one behind the other -/
inductive LayZ : Hp → List V → List V → List Addr → Hp → Prop
  | nil {H : Hp} : LayZ H [] [] [] H
  | cons {H H' : Hp} {x y : V} {xs ys : List V} {T : Addr} {ts : List Addr} : H T = none → LayZ (upd H T (.tup [x, y])) xs ys ts H' → LayZ H (x :: xs) (y :: ys) (T :: ts) H'
theorem LayZ.len : ∀ {H H' : Hp} {xs ys : List V} {ts : List Addr}, LayZ H xs ys ts H' → ts.length = xs.length
  | _, _, _, _, _, .nil => rfl
  | _, _, _, _, _, .cons _ h => congrArg (· + 1) (LayZ.len h)
structure ZSt (h : Heap) (z TI TO i1 i2 l1 l2 S : Addr) (i : Nat) (xs ys : Array Value) : Prop where
  hTI : IsPair h TI (.ref i1) (.ref i2)
  h1 : h.IsListIter i1 l1 i
  h2 : h.IsListIter i2 l2 i
  hl1 : h.IsList l1 xs
  hl2 : h.IsList l2 ys
  hz : (IsZip h z TI TO .none ∧ ∃ a b, IsPair h TO a b) ∨ ∃ T f oT, IsZipHeld h z TI TO T f ∧ h.get? T = some oT ∧ T ≠ z ∧ T ≠ i1 ∧ T ≠ i2 ∧ T ≠ S
theorem ZSt.keep {h h' : Heap} {z TI TO i1 i2 l1 l2 S : Addr} {i : Nat} {xs ys : Array Value} (st : ZSt h z TI TO i1 i2 l1 l2 S i xs ys) (hS : S ∉ [z, TI, TO, i1, i2, l1, l2]) (hk : ∀ b o, b ≠ S → h.get? b = some o → h'.get? b = some o) : ZSt h' z TI TO i1 i2 l1 l2 S i xs ys := by
  simp only [List.mem_cons, List.not_mem_nil, or_false, not_or] at hS
  obtain ⟨dz, dTI, dTO, di1, di2, dl1, dl2⟩ := hS
  obtain ⟨hTI, h1, h2, hl1, hl2, hz⟩ := st
  refine ⟨hk _ _ (Ne.symm dTI) hTI, h1.at fun o e => hk _ o (Ne.symm di1) e, h2.at fun o e => hk _ o (Ne.symm di2) e, hl1.at fun o e => hk _ o (Ne.symm dl1) e, hl2.at fun o e => hk _ o (Ne.symm dl2) e, ?_⟩
  rcases hz with ⟨hz, a, b, hTO⟩ | ⟨T, f, oT, hz, hT, r1, r2, r3, r4⟩
  · exact .inl ⟨hk _ _ (Ne.symm dz) hz, a, b, hk _ _ (Ne.symm dTO) hTO⟩
  · exact .inr ⟨T, f, oT, hk _ _ (Ne.symm dz) hz, hk _ _ r4 hT, r1, r2, r3, r4⟩
section
variable {X : Cx} {pins : List (Addr × Obj)} {σ : L2.St} {z TI TO i1 i2 l1 l2 S : Addr} {xs ys : Array Value} {us ws : List V}
/-- the next pair, the list S beside it -/
theorem zip_item {A : Around} {E : Value → Shared → Prop} {s : Shared} {i : Nat} {x y : Value} {Q : Option Value → Shared → Prop} (D : ZipApart z TI TO i1 i2 l1 l2) (st : ZSt s.heap z TI TO i1 i2 l1 l2 S i xs ys) (hS : S ∉ [z, TI, TO, i1, i2, l1, l2]) (hSl : S < s.heap.objs.size) (hx : xs[i]? = some x) (hy : ys[i]? = some y)
    (hQ : ∀ h', ZSt h' z TI TO i1 i2 l1 l2 S (i + 1) xs ys → IsPair h' s.heap.objs.size x y → (∀ c o, c ≠ z → c ≠ TO → c ≠ i1 → c ≠ i2 → s.heap.get? c = some o → h'.get? c = some o) → Q (some (.ref s.heap.objs.size)) { s with heap := h' }) :
    wpAny (model X.prog X.w) A (pyNext (.ref z)) Q E s := by
  obtain ⟨hTI, h1, h2, hl1, hl2, hz⟩ := st
  have lt : ∀ {c o}, s.heap.get? c = some o → s.heap.objs.size ≠ c := fun e => Nat.ne_of_gt (Heap.lt_size e)
  have n1 : s.heap.objs.size ≠ i1 := let ⟨_, e, _⟩ := h1; lt e
  have n2 : s.heap.objs.size ≠ i2 := let ⟨_, e, _⟩ := h2; lt e
  rcases hz with ⟨hz, a, b, hTO⟩ | ⟨T, f, oT, hz, hT, r1, r2, r3, r4⟩
  · refine wpAny_pyNext_zip_item D hz hTI hTO h1 h2 hl1 hl2 hx hy fun h' a1 a2 a3 a4 a5 a6 hk => ?_
    exact hQ h' ⟨hk _ _ D.TIz D.TITO D.TIi1 D.TIi2 hTI, a3, a4, hl1.at fun o e => hk _ o D.l1z D.l1TO D.l1i1 D.l1i2 e, hl2.at fun o e => hk _ o D.l2z D.l2TO D.l2i1 D.l2i2 e,
      .inr ⟨s.heap.objs.size, false, _, a1, a5, lt hz, n1, n2, Nat.ne_of_gt hSl⟩⟩ a5 hk
  · refine wpAny_pyNext_zip_item_held D hz hT hTI h1 h2 hl1 hl2 hx hy fun h' a1 a3 a4 a5 a6 hk => ?_
    exact hQ h' ⟨hk _ _ D.TIz D.TIi1 D.TIi2 hTI, a3, a4, hl1.at fun o e => hk _ o D.l1z D.l1i1 D.l1i2 e, hl2.at fun o e => hk _ o D.l2z D.l2i1 D.l2i2 e,
      .inr ⟨T, true, oT, a1, hk _ _ r1 r2 r3 hT, r1, r2, r3, r4⟩⟩ a5 fun c o c1 _ c3 c4 e => hk c o c1 c3 c4 e
theorem zip_end {A : Around} {E : Value → Shared → Prop} {s : Shared} {i : Nat} {Q : Option Value → Shared → Prop} (hh : A.handled = none) (D : ZipApart z TI TO i1 i2 l1 l2) (st : ZSt s.heap z TI TO i1 i2 l1 l2 S i xs ys) (hx : xs[i]? = none)
    (hQ : ∀ h', (∀ c o, c ≠ z → c ≠ TO → c ≠ i1 → c ≠ i2 → s.heap.get? c = some o → h'.get? c = some o) → Q none { s with heap := h' }) :
    wpAny (model X.prog X.w) A (pyNext (.ref z)) Q E s := by
  obtain ⟨hTI, h1, h2, hl1, hl2, hz⟩ := st
  rcases hz with ⟨hz, a, b, hTO⟩ | ⟨T, f, oT, hz, hT, r1, r2, r3, r4⟩
  · exact wpAny_pyNext_zip_end hh D hz hTI hTO h1 h2 hl1 hl2 (.inl hx) fun h' hk => hQ h' hk
  · exact wpAny_pyNext_zip_end_held hh D hz hT hTI h1 h2 hl1 hl2 (.inl hx) fun h' hk => hQ h' fun c o c1 _ c3 c4 e => hk c o c1 c3 c4 e
abbrev fpZ (z TI TO i1 i2 S : Addr) : List Addr := [z, TI, TO, i1, i2, S]
theorem ext_zip {A : Around} {res : Value} {R : Result → Shared → Prop} (hh : A.handled = none) (D : ZipApart z TI TO i1 i2 l1 l2) (hS : S ∉ [z, TI, TO, i1, i2, l1, l2]) (rx : Vals us xs.toList) (ry : Vals ws ys.toList) (hl : us.length = ws.length) (hn : us.length ≤ sizeLine) :
    ∀ (k i : Nat) (s : Shared) (H : Hp) (acc : Array Value) (c : Nat), us.length - i = k → i ≤ us.length → acc.size = i → Inv X pins σ H s → (∀ b ∈ fpZ z TI TO i1 i2 S, FpOk X pins H b ∧ b < s.heap.objs.size) → ZSt s.heap z TI TO i1 i2 l1 l2 S i xs ys →
      s.heap.get? S = some { cls := .type "list", dict := none, data := .seq acc c, slots := #[] } →
      (∀ s' H' ts acc' c', Inv X pins σ H' s' → LayZ H (us.drop i) (ws.drop i) ts H' → s'.heap.get? S = some { cls := .type "list", dict := none, data := .seq acc' c', slots := #[] } → acc'.toList = acc.toList ++ ts.map Value.ref → R (.ok (.ret res)) s') →
      codeAny (model X.prog X.w) A (.builtin "list.extend.loop" ⟨[.ref S, .ref z, res], []⟩) R s := by
  have lx : xs.size = us.length := by rw [← Array.length_toList, ← rx.length]
  have ly : ys.size = us.length := by rw [← Array.length_toList, ← ry.length, hl]
  have hS' := hS
  simp only [List.mem_cons, List.not_mem_nil, or_false, not_or] at hS'
  obtain ⟨dz, dTI, dTO, di1, di2, dl1, dl2⟩ := hS'
  intro k
  induction k with
  | zero =>
    intro i s H acc c hk hi hacc I hf st hSo hR
    have hin : i = us.length := by omega
    refine codeAny_builtin F.entry_extend_loop ?_
    rw [Around.under_plainId F.plain_extend_loop _]
    show wpAny _ A.in1 (pyNext (.ref z) >>= _) _ _ s
    refine wpAny_bind (zip_end (A := A.in1) hh D st (Array.getElem?_eq_none (by omega)) fun h' hk' => ?_)
    refine wpAny_pure (hR _ H [] acc c (I.turnedL (t' := s.toks) (ch := [z, TO, i1, i2]) (fun b o hb q => hk' b o (fun e => hb (by simp [e])) (fun e => hb (by simp [e])) (fun e => hb (by simp [e])) (fun e => hb (by simp [e])) q) (fun b hb => (hf b ?_).1)) ?_ (hk' S _ dz dTO di1 di2 hSo) (by simp))
    · simp only [List.mem_cons, List.not_mem_nil, or_false] at hb ⊢
      rcases hb with e | e | e | e <;> simp [e]
    · rw [hin, List.drop_of_length_le (Nat.le_refl _), List.drop_of_length_le (by omega)]
      exact .nil
  | succ k ih =>
    intro i s H acc c hk hi hacc I hf st hSo hR
    have hlt : i < us.length := by omega
    have hxi : xs[i]? = some xs[i] := Array.getElem?_eq_getElem (by omega)
    have hyi : ys[i]? = some ys[i] := Array.getElem?_eq_getElem (by omega)
    have hu : us[i]? = some us[i] := List.getElem?_eq_getElem hlt
    have hw : ws[i]? = some ws[i] := List.getElem?_eq_getElem (by omega)
    have ru : L2.RelV us[i] xs[i] := by
      obtain ⟨v, hv, r⟩ := rx.get hu
      rw [Array.getElem?_toList, hxi] at hv
      cases hv
      exact r
    have rw' : L2.RelV ws[i] ys[i] := by
      obtain ⟨v, hv, r⟩ := ry.get hw
      rw [Array.getElem?_toList, hyi] at hv
      cases hv
      exact r
    refine codeAny_builtin F.entry_extend_loop ?_
    rw [Around.under_plainId F.plain_extend_loop _]
    show wpAny _ A.in1 (pyNext (.ref z) >>= _) _ _ s
    refine wpAny_bind (zip_item (A := A.in1) D st hS (Heap.lt_size hSo) hxi hyi fun h' st' hT hk' => ?_)
    have hS1 := hk' S _ dz dTO di1 di2 hSo
    have nTS : s.heap.objs.size ≠ S := Nat.ne_of_gt (Heap.lt_size hSo)
    show wpAny _ A.in1 (updateSeq S (·.push (.ref s.heap.objs.size)) >>= _) _ _ _
    refine wpAny_bind ?_
    have oth : ∀ b o, b ≠ S → h'.get? b = some o → (h'.update S (Obj.mapSeq (·.push (Value.ref s.heap.objs.size)))).get? b = some o := fun b o hb e => (Heap.get?_update_other _ _ (Ne.symm hb)).trans e
    have new : ObjOk X.prog X.w (upd H s.heap.objs.size (.tup [us[i], ws[i]])) (h'.update S (Obj.mapSeq (·.push (Value.ref s.heap.objs.size)))) s.heap.objs.size (.tup [us[i], ws[i]]) :=
      ⟨by show 2 ≤ sizeLine; decide, [xs[i], ys[i]], .cons ru (.cons rw' .nil), ⟨_, oth _ _ nTS hT, rfl, _, rfl⟩⟩
    have I1 : Inv X pins σ (upd H s.heap.objs.size (.tup [us[i], ws[i]])) { s with heap := h'.update S (Obj.mapSeq (·.push (Value.ref s.heap.objs.size))) } :=
      I.turnedNew (t' := s.toks) (ch := fpZ z TI TO i1 i2 S) (fun b o hb q => oth b o (fun e => hb (by simp [fpZ, e])) (hk' b o (fun e => hb (by simp [fpZ, e])) (fun e => hb (by simp [fpZ, e])) (fun e => hb (by simp [fpZ, e])) (fun e => hb (by simp [fpZ, e])) q)) (fun b hb => (hf b hb).1) (Nat.le_refl _) new
    refine wpAny_updateSeq hS1 rfl (wpAny_pure ⟨plainId_quiet F.plain_extend_loop _, ih (i + 1) _ _ (acc.push (.ref s.heap.objs.size)) _ (by omega) hlt (by rw [Array.size_push, hacc]) I1 (fun b hb => ?_) (st'.keep hS oth) (Heap.get?_update_self _ hS1 rfl) fun s'' H'' ts acc' c' I2 lay hS'' hacc' => ?_⟩)
      (by rw [hacc]; omega) (by show (acc.push _).size ≤ sizeLine + 1; rw [Array.size_push, hacc]; omega)
    · have hlt2 : b ≠ s.heap.objs.size := Nat.ne_of_lt (hf b hb).2
      have h0 := hf b hb
      exact ⟨⟨by rw [upd_ne hlt2]; exact h0.1.1, h0.1.2⟩, Nat.lt_trans h0.2 (Heap.lt_size (oth _ _ nTS hT))⟩
    · refine hR s'' H'' (s.heap.objs.size :: ts) acc' c' I2 ?_ hS'' ?_
      · rw [List.drop_eq_getElem_cons hlt, List.drop_eq_getElem_cons (show i < ws.length by omega)]
        exact .cons (I.hok.fresh (Nat.le_refl _)) lay
      · rw [hacc', Array.toList_push, List.append_assoc]
        rfl
theorem zip_no_len : typeLookup (.type "zip") "__len__" = pure none := by rw [typeLookup_type, builtinLookup_eq_fast]; kernel_rfl
theorem zip_no_hint : typeLookup (.type "zip") "__length_hint__" = pure none := by rw [typeLookup_type, builtinLookup_eq_fast]; kernel_rfl
theorem ZSt.typeIs {s : Shared} {i : Nat} (st : ZSt s.heap z TI TO i1 i2 l1 l2 S i xs ys) : s.TypeIs (.ref z) "zip" := by
  rcases st.hz with ⟨hz, _⟩ | ⟨T, f, oT, hz, _⟩
  · exact ⟨_, hz, rfl⟩
  · exact ⟨_, hz, rfl⟩
theorem ZSt.iter {A : Around} {E : Value → Shared → Prop} {s : Shared} {Q : Value → Shared → Prop} (hz : IsZip s.heap z TI TO .none) (h : Q (.ref z) s) : wpAny (model X.prog X.w) A (pyIter (.ref z)) Q E s := wpAny_pyIter_zip hz h
theorem collect_zip {A : Around} {E : Value → Shared → Prop} {s : Shared} {H : Hp} {Q : List Value → Shared → Prop} (hh : A.handled = none) (D : ZipApart z TI TO i1 i2 l1 l2) (rx : Vals us xs.toList) (ry : Vals ws ys.toList) (hl : us.length = ws.length) (hn : us.length ≤ sizeLine)
    (I : Inv X pins σ H s) (hf : ∀ b ∈ [z, TI, TO, i1, i2], FpOk X pins H b ∧ b < s.heap.objs.size) (hlt : l1 < s.heap.objs.size ∧ l2 < s.heap.objs.size)
    (hz : IsZip s.heap z TI TO .none) (hTO : ∃ a b, IsPair s.heap TO a b) (hTI : IsPair s.heap TI (.ref i1) (.ref i2)) (h1 : s.heap.IsListIter i1 l1 0) (h2 : s.heap.IsListIter i2 l2 0) (hl1 : s.heap.IsList l1 xs) (hl2 : s.heap.IsList l2 ys)
    (hQ : ∀ s' H' ts, Inv X pins σ H' s' → LayZ H us ws ts H' → Q (ts.map Value.ref) s') : wpAny (model X.prog X.w) A (collect (.ref z)) Q E s := by
  obtain ⟨S, eS⟩ : ∃ S, S = s.heap.objs.size := ⟨_, rfl⟩
  have hS : S ∉ [z, TI, TO, i1, i2, l1, l2] := by
    intro hm
    simp only [List.mem_cons, List.not_mem_nil, or_false] at hm
    have k : ∀ b ∈ [z, TI, TO, i1, i2], S ≠ b := fun b hb => by rw [eS]; exact Nat.ne_of_gt (hf b hb).2
    rcases hm with e | e | e | e | e | e | e
    · exact k z (by simp) e
    · exact k TI (by simp) e
    · exact k TO (by simp) e
    · exact k i1 (by simp) e
    · exact k i2 (by simp) e
    · rw [eS] at e; exact Nat.ne_of_gt hlt.1 e
    · rw [eS] at e; exact Nat.ne_of_gt hlt.2 e
  have st0 : ZSt s.heap z TI TO i1 i2 l1 l2 S 0 xs ys := ⟨hTI, h1, h2, hl1, hl2, .inl ⟨hz, hTO⟩⟩
  have push : ∀ b o, s.heap.get? b = some o → (s.heap.push { cls := .type "list", data := .seq ([] : List Value).toArray }).get? b = some o := fun b o e => Heap.get?_push_of_some _ e
  have st1 : ZSt (s.heap.push { cls := .type "list", data := .seq ([] : List Value).toArray }) z TI TO i1 i2 l1 l2 S 0 xs ys := st0.keep hS fun b o _ e => push b o e
  have hz1 : IsZip (s.heap.push { cls := .type "list", data := .seq ([] : List Value).toArray }) z TI TO .none := push _ _ hz
  have hS₁ : (s.heap.push { cls := .type "list", data := .seq ([] : List Value).toArray }).get? S = some { cls := .type "list", data := .seq ([] : List Value).toArray } := by rw [eS]; exact Heap.get?_push_size _ rfl
  have hSz : S ≠ z := fun e => hS (by simp [e])
  have hT : ({ s with heap := s.heap.push { cls := .type "list", data := .seq ([] : List Value).toArray } } : Shared).TypeIs (.ref z) "zip" := ZSt.typeIs (s := { s with heap := s.heap.push { cls := .type "list", data := .seq ([] : List Value).toArray } }) st1
  unfold collect
  refine wpAny_bind (wpAny_runValue (codeAny_builtin F.entry_proto_collect ?_))
  rw [Around.under_plainId F.plain_proto_collect _]
  show wpAny _ A.in1 (newList [] >>= fun l => again (.builtin "list.__iadd__" ⟨[l, .ref z], []⟩)) _ _ s
  refine wpAny_bind (wpAny_newObj_type ?_)
  rw [← eS]
  refine wpAny_pure ⟨plainId_quiet F.plain_list_iadd _, codeAny_builtin F.entry_list_iadd ?_⟩
  rw [Around.under_plainId F.plain_list_iadd _]
  show wpAny _ A.in1 (Builtin.List.listExtendWith (.ref S) (.ref z) (.ref S)) _ _ _
  unfold Builtin.List.listExtendWith
  refine wpAny_bind (wpAny_typeOf hT ?_)
  have k1 : Builtin.List.listSameRef (.ref S) (.ref z) = false := by simp [Builtin.List.listSameRef, hSz]
  have k2 : (Value.type "zip" == Value.type "list") = false := by decide
  have k3 : (Value.type "zip" == Value.type "tuple") = false := by decide
  simp only [k1, k2, k3, Bool.or_false, Bool.false_eq_true, if_false]
  refine wpAny_bind (wpAny_pyIter_zip (s := { s with heap := s.heap.push { cls := .type "list", data := .seq ([] : List Value).toArray } }) hz1 ?_)
  refine wpAny_bind (wpAny_holding ?_)
  unfold Builtin.List.listLengthHint
  refine wpAny_bind (wpAny_specialOf hT zip_no_len ?_)
  show wpAny _ A.in1 (specialOf (Value.ref z) (Str.ofString "__length_hint__") >>= _) _ _ _
  refine wpAny_bind (wpAny_specialOf hT zip_no_hint ?_)
  refine wpAny_pure ?_
  show wpAny _ A.in1 (rule "list.extend.makes-room" >>= fun _ => Builtin.List.listTouch (.ref S) >>= fun _ => again (.builtin "list.extend.loop" ⟨[.ref S, .ref z, .ref S], []⟩)) _ _ _
  refine wpAny_bind (wpAny_rule ?_)
  refine wpAny_bind ?_
  show wpAny _ A.in1 (updateSeq S (·.push .none) >>= fun _ => updateSeq S (·.pop)) _ _ _
  refine wpAny_bind (wpAny_updateSeq hS₁ rfl ?_)
  have hS₂ := Heap.get?_update_self (Obj.mapSeq (·.push Value.none)) hS₁ rfl
  refine wpAny_updateSeq hS₂ rfl ?_
  have hS₃ := Heap.get?_update_self (Obj.mapSeq (·.pop)) hS₂ rfl
  have oth : ∀ b o, b ≠ S → (s.heap.push { cls := .type "list", data := .seq ([] : List Value).toArray }).get? b = some o →
      (((s.heap.push { cls := .type "list", data := .seq ([] : List Value).toArray }).update S (Obj.mapSeq (·.push Value.none))).update S (Obj.mapSeq (·.pop))).get? b = some o :=
    fun b o hb e => (Heap.get?_update_other _ _ (Ne.symm hb)).trans ((Heap.get?_update_other _ _ (Ne.symm hb)).trans e)
  have all : ∀ b o, s.heap.get? b = some o → (((s.heap.push { cls := .type "list", data := .seq ([] : List Value).toArray }).update S (Obj.mapSeq (·.push Value.none))).update S (Obj.mapSeq (·.pop))).get? b = some o := fun b o e =>
    oth b o (fun q => by rw [q, eS] at e; exact Nat.lt_irrefl _ (Heap.lt_size e)) (push b o e)
  have I1 := I.kept (t' := s.toks) all
  refine wpAny_pure ⟨plainId_quiet F.plain_extend_loop _, ext_zip (X := X) (pins := pins) (σ := σ) (us := us) (ws := ws) (xs := xs) (ys := ys) hh D hS rx ry hl hn us.length 0 _ H _ _ rfl (Nat.zero_le _) rfl I1 (fun b hb => ?_) (st1.keep hS oth) hS₃ fun s' H' ts acc' c' I2 lay hS' hacc => ?_⟩
  · simp only [fpZ, List.mem_cons, List.not_mem_nil, or_false] at hb
    have up : ∀ {b : Addr}, b < s.heap.objs.size → b < (((s.heap.push { cls := .type "list", data := .seq ([] : List Value).toArray }).update S (Obj.mapSeq (·.push Value.none))).update S (Obj.mapSeq (·.pop))).objs.size := fun {b} h => Nat.lt_trans h (by rw [← eS]; exact Heap.lt_size hS₃)
    rcases hb with e | e | e | e | e | e
    · rw [e]; exact ⟨(hf z (by simp)).1, up (hf z (by simp)).2⟩
    · rw [e]; exact ⟨(hf TI (by simp)).1, up (hf TI (by simp)).2⟩
    · rw [e]; exact ⟨(hf TO (by simp)).1, up (hf TO (by simp)).2⟩
    · rw [e]; exact ⟨(hf i1 (by simp)).1, up (hf i1 (by simp)).2⟩
    · rw [e]; exact ⟨(hf i2 (by simp)).1, up (hf i2 (by simp)).2⟩
    · rw [e]; exact ⟨I.fpOk (Nat.le_of_eq eS.symm) (I.hok.fresh (Nat.le_of_eq eS.symm)), Heap.lt_size hS₃⟩
  · show wpAny _ A (load S >>= _) _ _ s'
    refine wpAny_bind (wpAny_load hS' ?_)
    refine wpAny_pure ?_
    show Q acc'.toList s'
    rw [hacc]
    exact hQ s' H' ts I2 lay
theorem code_tuple_new_zip {A : Around} {E : Value → Shared → Prop} {s : Shared} {H : Hp} {Q₁ : Value → Shared → Prop} (hh : A.handled = none) (D : ZipApart z TI TO i1 i2 l1 l2) (rx : Vals us xs.toList) (ry : Vals ws ys.toList) (hl : us.length = ws.length) (hn : us.length ≤ sizeLine)
    (I : Inv X pins σ H s) (hf : ∀ b ∈ [z, TI, TO, i1, i2], FpOk X pins H b ∧ b < s.heap.objs.size) (hlt : l1 < s.heap.objs.size ∧ l2 < s.heap.objs.size)
    (hz : IsZip s.heap z TI TO .none) (hTO : ∃ a b, IsPair s.heap TO a b) (hTI : IsPair s.heap TI (.ref i1) (.ref i2)) (h1 : s.heap.IsListIter i1 l1 0) (h2 : s.heap.IsListIter i2 l2 0) (hl1 : s.heap.IsList l1 xs) (hl2 : s.heap.IsList l2 ys)
    (h : ∀ s' H' ts, Inv X pins σ H' s' → LayZ H us ws ts H' → Q₁ (.ref s'.heap.objs.size) { s' with heap := s'.heap.push { cls := .type "tuple", data := .seq (ts.map Value.ref).toArray } }) :
    codeAny (model X.prog X.w) A (.call (.builtin "tuple.__new__") ⟨[.type "tuple", .ref z], []⟩) (wants Q₁ E) s := by
  refine codeAny_of_tree ?_
  show wpAny _ A.in1 (do checkBuiltinCall "tuple.__new__" ⟨[.type "tuple", .ref z], []⟩; again (.builtin "tuple.__new__" ⟨[.type "tuple", .ref z], []⟩)) _ _ s
  refine wpAny_bind (wpAny_of_eq (F.newCall_tuple_1 _) (wpAny_pure ⟨plainId_quiet F.plain_tuple_new _, codeAny_builtin F.entry_tuple_new ?_⟩))
  rw [Around.under_plainId F.plain_tuple_new _]
  have hsub := sub_tuple_self
  have hinit := init_tuple_lookup
  have hmh := madeHere_tuple
  have hTI' : s.TypeIs (.ref z) "zip" := ⟨_, hz, rfl⟩
  have hh1 : A.in1.handled = none := hh
  wp_walk using wpAny_typeOf hTI', collect_zip (A := A.in1) hh1 D rx ry hl hn I hf hlt hz hTO hTI h1 h2 hl1 hl2
  intro s' H' ts I2 lay
  show wpAny _ _ (Builtin.Tuple.tupleExact (ts.map Value.ref).toArray >>= fun v => ret v) _ _ _
  unfold Builtin.Tuple.tupleExact
  refine wpAny_bind (wpAny_newObj_type ?_ (by show (ts.map Value.ref).toArray.size ≤ sizeLine; rw [List.size_toArray, List.length_map, lay.len]; exact hn))
  exact wpAny_pure (h s' H' ts I2 lay)
theorem call_tuple_zip {A : Around} {E : Value → Shared → Prop} {s : Shared} {H : Hp} {Q : Value → Shared → Prop} (hh : A.handled = none) (D : ZipApart z TI TO i1 i2 l1 l2) (rx : Vals us xs.toList) (ry : Vals ws ys.toList) (hl : us.length = ws.length) (hn : us.length ≤ sizeLine)
    (I : Inv X pins σ H s) (hf : ∀ b ∈ [z, TI, TO, i1, i2], FpOk X pins H b ∧ b < s.heap.objs.size) (hlt : l1 < s.heap.objs.size ∧ l2 < s.heap.objs.size)
    (hz : IsZip s.heap z TI TO .none) (hTO : ∃ a b, IsPair s.heap TO a b) (hTI : IsPair s.heap TI (.ref i1) (.ref i2)) (h1 : s.heap.IsListIter i1 l1 0) (h2 : s.heap.IsListIter i2 l2 0) (hl1 : s.heap.IsList l1 xs) (hl2 : s.heap.IsList l2 ys)
    (h : ∀ s' H' ts, Inv X pins σ H' s' → LayZ H us ws ts H' → Q (.ref s'.heap.objs.size) { s' with heap := s'.heap.push { cls := .type "tuple", data := .seq (ts.map Value.ref).toArray } }) :
    wpAny (model X.prog X.w) A (call (.type "tuple") [.ref z]) Q E s := by
  refine callType_codes (Q₁ := fun obj s₁ => s₁.TypeIs obj "tuple" ∧ Q obj s₁) F.called_tuple (F.typeCall_tuple_1 _) F.entry_object_init
    (code_tuple_new_zip (A := A.in1) hh D rx ry hl hn I hf hlt hz hTO hTI h1 h2 hl1 hl2 fun s' H' ts I2 lay => ⟨⟨_, Heap.get?_push_size _ rfl, rfl⟩, h s' H' ts I2 lay⟩) fun obj s₁ h₁ => ?_
  exact ⟨h₁.1, F.args_object_init_2 obj _, object_init_meets F.called_tuple.init.lookup F.called_tuple.made (by decide) X.prog X.w A.in1 _ s₁ ⟨h₁.1, rfl, h₁.2⟩⟩
end
def tTupZip (K : PySem.W.Frag) (ta : TA) : TE := fun σ H Q => ta σ H fun vs H1 => ∃ a b us ws, vs = [.ref a, .ref b] ∧ SqL K H1 a us ∧ SqL K H1 b ws ∧ us.length = ws.length ∧ ∀ ts H2, LayZ H1 us ws ts H2 → ∀ p, H2 p = none → Q (.ref p) (upd H2 p (.tup (ts.map V.ref)))
theorem vals_refsZ : ∀ ts : List Addr, Vals (ts.map V.ref) (ts.map Value.ref)
  | [] => .nil
  | _ :: r => .cons rfl (vals_refsZ r)
theorem pe_tupZip {X : Cx} {e e2 : Expr} {ta : TA} {p p2 q pos : Pos} (hc : X.calm = true) (hg : Gl X "tuple") (hm : X.mg "tuple" = none) (hg2 : Gl X "zip") (hm2 : X.mg "zip" = none) (ha : PA X [e, e2] ta)
    (na : starEach [Expr.Call (.Name "zip" p2) [e, e2] [] q] X.env = (false, eval (Expr.Call (.Name "zip" p2) [e, e2] [] q) X.env) :: starEach [] X.env := by rfl)
    (hs : starEach [e, e2] X.env = (false, eval e X.env) :: starEach [e2] X.env := by rfl) (hpl : (backTo q (starEach [e2] X.env)).any (·.1) = false := by rfl) :
    PE X (.Call (.Name "tuple" p) [.Call (.Name "zip" p2) [e, e2] [] q] [] pos) (tTupZip X.K ta) := by
  refine ⟨fun pins s σ H Q I h => ?_⟩
  refine Call_ (ld_blt I hg hm boot_tuple (PyProof.Rows.callWith_type1 (PyProof.Rows.args_cons (Call_ (ld_blt I hg2 hm2 PyProof.Rows.boot_zip (PyProof.Rows.callWith_type1 (thn (ha.run q pins s σ H _ I h) fun us0 s1 ⟨vs, H1, I1, r1, q1⟩ => ?_) hs hpl))) na) na rfl))
  obtain ⟨a, b, us, ws, ex, hx, hy, hl, q1⟩ := q1
  subst ex
  cases r1 with
  | cons r rr =>
    cases rr with
    | cons r' rr =>
      cases rr
      cases r
      cases r'
      obtain ⟨its, rv, p1, hz1⟩ := I1.list hx
      obtain ⟨its2, rv2, p2', _⟩ := I1.list hy
      have hle : ∀ c, s1.heap.objs.size ≤ c → FpOk X pins H1 c := fun c h => I1.fpOk h (I1.hok.fresh h)
      refine call_zip_2 p1.isList p2'.isList fun h' hz hTI hTO h1 h2 hsz hk => PyProof.Rows.args_nil ?_
      have I2 : Inv X pins σ H1 { s1 with heap := h' } := I1.kept (t' := s1.toks) hk
      refine call_tuple_zip (X := X) (pins := pins) (σ := σ) (us := us) (ws := ws) (xs := its.toArray) (ys := its2.toArray) (I1.ok.hd hc) (PySem.W.ktu_apart s1.heap.objs.size a b p1.lt p2'.lt) (by simpa using rv) (by simpa using rv2) hl hz1 I2 (fun c hcm => ?_)
        ⟨Nat.lt_of_lt_of_le p1.lt (by show s1.heap.objs.size ≤ h'.objs.size; rw [hsz]; exact Nat.le_add_right _ _), Nat.lt_of_lt_of_le p2'.lt (by show s1.heap.objs.size ≤ h'.objs.size; rw [hsz]; exact Nat.le_add_right _ _)⟩ hz ⟨_, _, hTO⟩ hTI h1 h2 (p1.isList.at fun o e => hk _ o e) (p2'.isList.at fun o e => hk _ o e) fun s' H' ts I3 lay => ?_
      · have e' : c = s1.heap.objs.size + 4 ∨ c = s1.heap.objs.size + 2 ∨ c = s1.heap.objs.size + 3 ∨ c = s1.heap.objs.size ∨ c = s1.heap.objs.size + 1 := by simpa using hcm
        show FpOk X pins H1 c ∧ c < h'.objs.size
        rw [hsz]
        have hle' : ∀ k, FpOk X pins H1 (s1.heap.objs.size + k) := fun k => hle _ (Nat.le_add_right _ _)
        rcases e' with e | e | e | e | e <;> rw [e]
        · exact ⟨hle' 4, Nat.add_lt_add_left (by decide) _⟩
        · exact ⟨hle' 2, Nat.add_lt_add_left (by decide) _⟩
        · exact ⟨hle' 3, Nat.add_lt_add_left (by decide) _⟩
        · exact ⟨hle' 0, Nat.lt_add_of_pos_right (by decide)⟩
        · exact ⟨hle' 1, Nat.add_lt_add_left (by decide) _⟩
      · refine ⟨.ref s'.heap.objs.size, upd H' s'.heap.objs.size (.tup (ts.map V.ref)), I3.laid (t' := s'.toks) (fun c o e => Heap.get?_push_of_some _ e) (Nat.le_refl _) (show ObjOk X.prog X.w _ _ _ (.tup (ts.map V.ref)) from ⟨?_, _, vals_refsZ ts, IsTup.new _ _⟩), rfl, q1 ts H' lay _ (I3.hok.fresh (Nat.le_refl _))⟩
        rw [List.length_map, lay.len]
        exact hz1
/-- as data -/
theorem lay_grow {K : PySem.W.Frag} : ∀ {H H' : Hp} {us ws : List V} {ts : List Addr} {ds es : List PyData} {F : Hp}, LayZ H us ws ts H' → Same F H → DqAll K F us ds → DqAll K F ws es → ∃ F', Grow F H F' H' ∧ DqAll K F' (ts.map V.ref) (pairs ds es)
  | _, _, _, _, _, _, _, F, .nil, s, .nil, .nil => ⟨F, .start s, .nil⟩
  | H, H', _, _, _, _, _, F, .cons hT lay, s, .cons a b, .cons c d => by
    obtain ⟨F1, g1, r1⟩ := grow_pair s hT a c
    obtain ⟨F2, g2, r2⟩ := lay_grow lay g1.i (b.up g1.f) (d.up g1.f)
    exact ⟨F2, g1.trans g2, .cons (r1.up g2.f) r2⟩
theorem ev_tupZip {K : PySem.W.Frag} {σ : L2.St} {F : Hp} {ta : TA} {ds es : List PyData} (h : EvS K ta σ F [.list ds, .list es]) (hl : ds.length = es.length) : EvD K (tTupZip K ta) σ F (.tuple (pairs ds es)) := fun H s Q q => h H s _ fun vs F1 H1 g1 r1 => by
  cases r1 with
  | cons a b =>
    cases b with
    | cons b c =>
      cases c
      cases a with
      | lst a1 a2 =>
        cases b with
        | lst b1 b2 =>
          refine ⟨_, _, _, _, rfl, g1.i.seq a1, g1.i.seq b1, by rw [a2.len, b2.len]; exact hl, fun ts H2 lay p hp => ?_⟩
          obtain ⟨F2, g2, r2⟩ := lay_grow lay g1.i a2 b2
          exact q _ _ _ (g1.trans (g2.trans (.known g2.i hp))) (.tup (.inl (.inl upd_same)) (r2.up (same_upd (g2.i.free hp))))
end Sx
set_option Elab.async false
set_option linter.all false
set_option maxRecDepth 100000
set_option maxHeartbeats 1000000
/-! W13: isinstance of a kept error. -/
namespace Sx
open PySem PySem.Spec PyProof.Rows L2
def rIsT (D : Addr) : List V → Hp → VK → Prop := fun xs H Q => ∃ a, xs = [.ref a, .ref D] ∧ H a = some (ExT (.ref D) none a) ∧ Q (.bl true) H
theorem call_isT {X : Cx} {D : Addr} (C : ExcC X.K D) : CallR X (.builtin "isinstance") (rIsT D) := by
  intro pins s σ H xs us Q I r h
  obtain ⟨a, rfl, eA, q⟩ := h
  cases r with
  | cons rx rr =>
    cases rr with
    | cons rt rr =>
      cases rr
      cases rx
      cases rt
      obtain ⟨⟨oe, vs, hget, hz, hv⟩, _⟩ := I.hok a _ eA
      have J : PySem.W.InstAt s.heap a oe D none := by
        obtain ⟨oc, od, oda, osl⟩ := oe
        obtain ⟨h1, h2⟩ := hz
        dsimp only at h1 h2 hv
        subst h1 h2 hv
        exact ⟨hget, rfl, rfl, trivial⟩
      have e : PySem.W.kitOne X.K (.ref D) (.ref D) = some true := if_pos (beq_self_eq_true _)
      exact PySem.W.kia_one (PySem.W.handS_kitx_exc C.hg C.hk C.hs C.hd C.ha C.hn C.ht C.hm) I.kIn J e (fun z => nomatch z) fun tk => ⟨.bl true, H, I.kept (t' := tk) fun _ _ z => z, rfl, q⟩
end Sx
set_option Elab.async false
set_option linter.all false
set_option maxRecDepth 100000
set_option maxHeartbeats 1000000
/-! Y14: dict(t), t a tuple of pairs whose object is known. -/
namespace Sx
open PySem PySem.Spec PyProof.Rows L2
open C8 (Cal pe_c pe_gc)
/-- a tuple whose object is known to be plain -/
def PlT (H : Hp) (a : Addr) (xs : List V) : Prop := ∃ o, H a = some (.frz o (.tup xs)) ∧ o.dict = none
theorem PlT.seq {K : PySem.W.Frag} {H : Hp} {a : Addr} {xs : List V} (h : PlT H a xs) : SqT K H a xs := let ⟨o, e, _⟩ := h; .inl (.inr ⟨o, e⟩)
theorem PlT.up {H G : Hp} {a : Addr} {xs : List V} (h : PlT H a xs) (s : Same H G) : PlT G a xs := let ⟨o, e, d⟩ := h; ⟨o, s _ _ e, d⟩
abbrev rDictF (K : PySem.W.Frag) : List V → Hp → VK → Prop := fun xs H Q => ∃ (a : Addr) (ps : List Addr) (kvs : List (Key × V)), xs = [.ref a] ∧ PlT H a (ps.map V.ref) ∧ Paired (fun p kv => SqT K H p [kV kv.1, kv.2]) ps kvs ∧
    ∀ p, H p = none → Q (.ref p) (upd H p (.dK (mergeK [] kvs)))
theorem call_dictF {X : Cx} (hcalm : X.calm = true) : CallR X (.type "dict") (rDictF X.K) := by
  intro pins s σ H xs us Q I r q
  obtain ⟨a, ps, kvs, ex, hq, hp, q⟩ := q
  subst ex
  obtain ⟨u, eu, rx⟩ := vals1 r
  subst eu
  cases rx
  obtain ⟨o, eo, hd⟩ := hq
  obtain ⟨ho, hz, its, rv, o2, ho2, hc, n, hdat⟩ := (show ObjOk X.prog X.w H s.heap a (.frz o (.tup (ps.map V.ref))) from I.hok a _ eo)
  have e2 : o2 = o := by
    rw [ho] at ho2
    exact (Option.some.inj ho2).symm
  subst e2
  have ei := refs_at rv
  subst ei
  rw [List.length_map] at hz
  obtain ⟨prs, rel, hl, hpr⟩ := pairs_of I hp
  have hk : ∀ (j : Nat) (q' : Key × Value), prs[j]? = some q' → ∃ u, s.heap.IsTuple (ps[j]?.getD 0) #[u, q'.2] ∧ keyIs q'.1 u = true ∧ ps[j]? = some (ps[j]?.getD 0) := fun j q' e => by
    obtain ⟨b, u, e1, e2, e3⟩ := hpr j q' e
    rw [e1]
    exact ⟨u, e2, e3, rfl⟩
  have hex : ∃ us : List Value, us.length = prs.length ∧ ∀ (j : Nat) (q' : Key × Value) (u : Value), prs[j]? = some q' → us[j]? = some u → s.heap.IsTuple (ps[j]?.getD 0) #[u, q'.2] ∧ keyIs q'.1 u = true := by
    have gen : ∀ (l : List (Key × Value)) (m : List Addr), (∀ (j : Nat) (q' : Key × Value), l[j]? = some q' → ∃ u, s.heap.IsTuple (m[j]?.getD 0) #[u, q'.2] ∧ keyIs q'.1 u = true) → ∃ us : List Value, us.length = l.length ∧ ∀ (j : Nat) (q' : Key × Value) (u : Value), l[j]? = some q' → us[j]? = some u → s.heap.IsTuple (m[j]?.getD 0) #[u, q'.2] ∧ keyIs q'.1 u = true := by
      intro l
      induction l with
      | nil => exact fun m _ => ⟨[], rfl, fun j q' u e => by simp at e⟩
      | cons p l ih =>
        intro m h
        obtain ⟨us, h1, h2⟩ := ih (m.drop 1) fun j q' e => by
          obtain ⟨u, a1, a2⟩ := h (j + 1) q' (by simpa using e)
          refine ⟨u, ?_, a2⟩
          rw [List.getElem?_drop, Nat.add_comm]
          exact a1
        obtain ⟨u, a1, a2⟩ := h 0 p rfl
        refine ⟨u :: us, by simp [h1], fun j q' v e e' => ?_⟩
        cases j with
        | zero =>
          simp at e e'
          subst e e'
          exact ⟨a1, a2⟩
        | succ j =>
          have z := h2 j q' v (by simpa using e) (by simpa using e')
          rw [List.getElem?_drop, Nat.add_comm] at z
          exact z
    exact gen prs ps fun j q' e => let ⟨u, a1, a2, _⟩ := hk j q' e; ⟨u, a1, a2⟩
  obtain ⟨us, ul, hus⟩ := hex
  refine PySem.call_dict_pairs (knd := mixKind X.prog X.w) (kvs := prs) (PySem.PairArg.tuple a (ps.map Value.ref).toArray (fun j => ps[j]?.getD 0) (us.zip (prs.map (·.2)))) (I.ok.hd hcalm) ⟨⟨_, n, ho, hc, hd, hdat⟩, ?_, fun j k v e => ?_⟩ ⟨?_, fun i key v e => ?_⟩ ?_ fun h' tk hd' k => ?_
  · simp [ul, hl]
  · obtain ⟨e1, e2⟩ := List.getElem?_zip_eq_some.mp e
    rw [List.getElem?_map] at e2
    obtain ⟨q', hq', rfl⟩ := Option.map_eq_some_iff.mp e2
    obtain ⟨t1, _⟩ := hus j q' k hq' e1
    obtain ⟨_, _, _, t4⟩ := hk j q' hq'
    refine ⟨?_, .inl t1⟩
    show (ps.map Value.ref).toArray[j]? = _
    rw [List.getElem?_toArray, List.getElem?_map, t4]
    rfl
  · simp [ul]
  · obtain ⟨e1, e2⟩ := List.getElem?_zip_eq_some.mp e
    rw [List.getElem?_map] at e2
    obtain ⟨q', hq', rfl⟩ := Option.map_eq_some_iff.mp e2
    obtain ⟨_, t2⟩ := hus i q' key hq' e1
    exact ⟨q'.1, hq', t2⟩
  · rw [List.length_zip, List.length_map, ul, Nat.min_self, hl]
    exact hz
  · have hm : (s.heap.objs.size == sysModules) = false := beq_eq_false_iff_ne.mpr (Nat.ne_of_gt I.big)
    have hlen : (mergeK [] kvs).length ≤ sizeLine := by
      refine Nat.le_trans (length_mergeK kvs []) ?_
      rw [List.length_nil, Nat.zero_add, rel.length, hl]
      exact hz
    exact ⟨.ref s.heap.objs.size, upd H s.heap.objs.size (.dK (mergeK [] kvs)), I.laid (t' := tk) (fun b o e => k b o (by simp) e) (Nat.le_refl _) (show ObjOk X.prog X.w _ _ _ (.dK (mergeK [] kvs)) from ⟨hlen, hm, merged [] prs, KV.merge rel .nil, hd'⟩), rfl, q _ (I.hok.fresh (Nat.le_refl _))⟩
end Sx
set_option Elab.async false
set_option linter.all false
set_option maxRecDepth 100000
set_option maxHeartbeats 1000000
/-! Y15: t == () and l != [], whatever is in t and l. -/
namespace Sx
open PySem PySem.Spec PyProof.Rows L2
open C8 (Cal pe_c pe_gc)
abbrev rEqE (K : PySem.W.Frag) : R2 := fun x y H Q => ∃ a b xs, x = .ref a ∧ y = .ref b ∧ SqT K H a xs ∧ SqT K H b [] ∧ Q (.bl xs.isEmpty) H
abbrev rEqEL (K : PySem.W.Frag) : R2 := fun x y H Q => ∃ a b xs, x = .ref a ∧ y = .ref b ∧ SqL K H a xs ∧ SqL K H b [] ∧ Q (.bl xs.isEmpty) H
abbrev rNeEL (K : PySem.W.Frag) : R2 := fun x y H Q => ∃ a b xs, x = .ref a ∧ y = .ref b ∧ SqL K H a xs ∧ SqL K H b [] ∧ Q (.bl (!xs.isEmpty)) H
section
variable {X : Cx}
theorem op_eqE (hu : X.A.units + 64 < cLine) : OpR X (compareOp .Eq) (rEqE X.K) := by
  intro pins s σ H x y v u Q I rx ry h
  obtain ⟨a, b, xs, rfl, rfl, ha, hb, q⟩ := h
  cases rx
  cases ry
  obtain ⟨us, r1, p1, _⟩ := I.tuple ha
  obtain ⟨ws, r2, p2, _⟩ := I.tuple hb
  cases r2
  refine SeqAt.eq_tupleAt (e := fun _ => true) p1 p2 (by omega) (fun j _ h2 => absurd h2 (Nat.not_lt_zero j)) ?_
  have e : ((List.range (min us.toArray.size (#[] : Array Value).size)).all (fun _ => true) && us.toArray.size == (#[] : Array Value).size) = xs.isEmpty := by
    have := r1.length
    cases xs with
    | nil =>
      cases r1
      rfl
    | cons a r =>
      cases r1 with
      | cons _ _ => simp
  show EP X pins σ Q (.bool _) s
  rw [e]
  exact ⟨.bl _, H, I, rfl, q⟩
theorem op_eqEL (hu : X.A.units + 64 < cLine) : OpR X (compareOp .Eq) (rEqEL X.K) := by
  intro pins s σ H x y v u Q I rx ry h
  obtain ⟨a, b, xs, rfl, rfl, ha, hb, q⟩ := h
  cases rx
  cases ry
  obtain ⟨us, r1, p1, _⟩ := I.list ha
  obtain ⟨ws, r2, p2, _⟩ := I.list hb
  cases r2
  cases xs with
  | nil =>
    cases r1
    exact SeqAt.RcAt.lists (e := fun _ => true) p1.isList p2.isList rfl (by omega) (fun j _ h2 => absurd h2 (Nat.not_lt_zero j)) _ _ _ _ ⟨.bl true, H, I, rfl, q⟩
  | cons c r =>
    refine SeqAt.RcAt.lists_lengths p1.isList p2.isList ?_ (by omega) _ _ _ _ ⟨.bl false, H, I, rfl, q⟩
    cases r1 with
    | cons _ _ => simp
theorem op_neEL (hu : X.A.units + 64 < cLine) : OpR X (compareOp .NotEq) (rNeEL X.K) := by
  intro pins s σ H x y v u Q I rx ry h
  obtain ⟨a, b, xs, rfl, rfl, ha, hb, q⟩ := h
  cases rx
  cases ry
  obtain ⟨us, r1, p1, _⟩ := I.list ha
  obtain ⟨ws, r2, p2, _⟩ := I.list hb
  cases r2
  cases xs with
  | nil =>
    cases r1
    exact SeqAt.RcNeAt.lists (e := fun _ => true) p1.isList p2.isList rfl (by omega) (fun j _ h2 => absurd h2 (Nat.not_lt_zero j)) _ _ _ _ ⟨.bl false, H, I, rfl, q⟩
  | cons c r =>
    refine SeqAt.RcNeAt.lists_lengths p1.isList p2.isList ?_ (by omega) _ _ _ _ ⟨.bl true, H, I, rfl, q⟩
    cases r1 with
    | cons _ _ => simp
end
section
variable {K : PySem.W.Frag} {ds : List PyData}
theorem rv_eqE : RvD K (rEqE K) (.tuple ds) (.tuple []) (.bool ds.isEmpty) := fun F x y H s a b Q q => by
  cases a with
  | tup a1 a2 =>
    cases b with
    | tup b1 b2 =>
      cases b2
      refine ⟨_, _, _, rfl, rfl, same_seqT s a1, same_seqT s b1, ?_⟩
      have e : ∀ {vs : List V} {ds : List PyData}, DqAll K F vs ds → vs.isEmpty = ds.isEmpty := fun h => by cases h <;> rfl
      rw [e a2]
      exact q _ F H (.start s) (.bl _)
theorem rv_eqEL : RvD K (rEqEL K) (.list ds) (.list []) (.bool ds.isEmpty) := fun F x y H s a b Q q => by
  cases a with
  | lst a1 a2 =>
    cases b with
    | lst b1 b2 =>
      cases b2
      refine ⟨_, _, _, rfl, rfl, s.seq a1, s.seq b1, ?_⟩
      have e : ∀ {vs : List V} {ds : List PyData}, DqAll K F vs ds → vs.isEmpty = ds.isEmpty := fun h => by cases h <;> rfl
      rw [e a2]
      exact q _ F H (.start s) (.bl _)
theorem rv_neEL : RvD K (rNeEL K) (.list ds) (.list []) (.bool (!ds.isEmpty)) := fun F x y H s a b Q q => by
  cases a with
  | lst a1 a2 =>
    cases b with
    | lst b1 b2 =>
      cases b2
      refine ⟨_, _, _, rfl, rfl, s.seq a1, s.seq b1, ?_⟩
      have e : ∀ {vs : List V} {ds : List PyData}, DqAll K F vs ds → vs.isEmpty = ds.isEmpty := fun h => by cases h <;> rfl
      rw [e a2]
      exact q _ F H (.start s) (.bl _)
end
end Sx
set_option Elab.async false
set_option linter.all false
set_option maxRecDepth 100000
set_option maxHeartbeats 1000000
/-! Y16: truth of tuples and lists, dicts with texts as keys, ints that grow. -/
namespace Sx
open PySem PySem.Spec PyProof.Rows L2
open C8 (Cal pe_c pe_gc)
def tTru (K : PySem.W.Frag) (ta : TE) : TT := fun σ H Q => ta σ H fun x H' => ∃ k, TruV K x H' k ∧ Q k H'
theorem pt_tru {X : Cx} {a : Expr} {ta : TE} (ha : PE X a ta) (he : ∀ whole, isTrue a X.env whole = (do let v ← whole; standAt a.pos; holding [v] (truthy v)) := by intro _; rfl) : PT X a (tTru X.K ta) := pt_truth ha he
theorem pi_tupK {X : Cx} {K : PySem.W.Frag} {tg l : Expr} {tl : TE} (hl : PE X l tl) (hK : X.K = K := by rfl) : PI X tg l (iTup K tl) := hK ▸ pi_tup hl
theorem pi_listK {X : Cx} {K : PySem.W.Frag} {tg l : Expr} {tl : TE} (hl : PE X l tl) (hK : X.K = K := by rfl) : PI X tg l (iList K tl) := hK ▸ pi_list hl
structure BI2 (mg : Str → Option Value) : Prop where
  dict : mg "dict" = none
  set : mg "set" = none
section
variable {K : PySem.W.Frag} {σ : L2.St} {F H : Hp} {te ta : TE} {ds : List PyData} {D : Ends}
theorem isEmpty_dq {F : Hp} : ∀ {vs : List V} {ds : List PyData}, DqAll K F vs ds → vs.isEmpty = ds.isEmpty
  | _, _, .nil => rfl
  | _, _, .cons _ _ => rfl
theorem eb_truT (h : EvD K te σ F (.tuple ds)) : EvB (tTru K te) σ F (!ds.isEmpty) := fun H s Q q => h H s _ fun v F1 H1 g r => by
  cases r with
  | tup a b => exact ⟨!ds.isEmpty, .inr (.inl ⟨_, same_seqT g.i a, by rw [isEmpty_dq b]⟩), q F1 H1 g⟩
theorem eb_truL (h : EvD K te σ F (.list ds)) : EvB (tTru K te) σ F (!ds.isEmpty) := fun H s Q q => h H s _ fun v F1 H1 g r => by
  cases r with
  | lst a b => exact ⟨!ds.isEmpty, .inl ⟨_, g.i.seq a, by rw [isEmpty_dq b]⟩, q F1 H1 g⟩
theorem ev_din {i : Nat} {p : Addr} {kvs : List (Key × V)} {n : Str} (h : EvD K te σ F (.str n)) (hi : σ[i]? = some (some (.ref p))) (hp : F p = some (.dK kvs)) : EvD K (tDIn te (tVar i)) σ F (.bool (valV kvs (.inr n)).isSome) := fun H s Q q => h H s _ fun v F1 H1 g r => by
  cases r
  exact ⟨.ref p, hi, p, _, rfl, DGet.k (k := .inr n) (g.i _ _ (g.f _ _ hp)), q _ F1 H1 g (.bl _)⟩
theorem ev_dgetS {i : Nat} {p : Addr} {kvs : List (Key × V)} {n : Str} {v : V} {d : PyData} (h : EvD K te σ F (.str n)) (hi : σ[i]? = some (some (.ref p))) (hp : F p = some (.dK kvs)) (hv : valV kvs (.inr n) = some v) (hd : ∀ F, Dq K F v d) : EvD K (tDGet (tVar i) te) σ F d := fun H s Q q =>
  ⟨.ref p, hi, h H s _ fun u F1 H1 g r => by
    cases r
    exact ⟨p, v, rfl, hv ▸ DGet.k (k := .inr n) (g.i _ _ (g.f _ _ hp)), q v F1 H1 g (hd F1)⟩⟩
theorem s_augI {i : Nat} {m k : Int} (hi : σ[i]? = some (some (.int m))) (he : EvD K te σ F (.int k)) (s : Same F H) (kk : ∀ F' H', Grow F H F' H' → D.nx (σ.set i (some (.int (m + k)))) H') : tAug i te (ipI fun i j => i + j) D σ H :=
  ⟨.int m, hi, he H s _ fun v F1 H1 g r => by
    cases r
    exact ⟨m, k, rfl, rfl, kk F1 H1 g⟩⟩
end
end Sx
set_option Elab.async false
set_option linter.all false
set_option maxRecDepth 100000
set_option maxHeartbeats 1000000
/-! Y17: set(list of texts), sorted(set), set(tuple of ints). -/
namespace Sx
open PySem PySem.Spec PyProof.Rows L2
open C8 (Cal pe_c pe_gc)
theorem perm_same {α : Type} [DecidableEq α] : ∀ {l m : List α}, l.Nodup → (∀ x ∈ l, x ∈ m) → m.length ≤ l.length → m.Perm l
  | [], m, _, _, h => by
    have : m = [] := List.eq_nil_of_length_eq_zero (Nat.le_zero.mp h)
    rw [this]
  | a :: l, m, hn, hs, hl => by
    rw [List.nodup_cons] at hn
    have ha : a ∈ m := hs a List.mem_cons_self
    have p := List.perm_cons_erase ha
    refine p.trans (List.Perm.cons a (perm_same hn.2 (fun x hx => ?_) ?_))
    · exact (List.mem_erase_of_ne (fun (z : x = a) => hn.1 (z ▸ hx))).mpr (hs x (List.mem_cons_of_mem _ hx))
    · rw [List.length_erase_of_mem ha]
      rw [List.length_cons] at hl
      omega
/-- the table's own order -/
def Walkable (w : World) (D : Froz.SD) : Prop := Ris D.2.2.place.toList ∧ (w.params.followText "set-order" = true ∨ D.2.2.led = true)
/-- a set of the texts l -/
def SetTx (P : Program) (w : World) (h : Heap) (a : Addr) (l : List Str) : Prop := ∃ D, h.get? a = some (Froz.sObj "set" D) ∧ Froz.TxOk P w D l ∧ l.Nodup ∧ l.length < scanBound ∧ Walkable w D
theorem tail_walks {w : World} {ep : Nat} {es : Array (Int × Value)} {t : SetTable} {b : Bool} (h : Walkable w (es, ep, t)) : Walkable w (Froz.tailTx ep es t b) := by
  unfold Froz.tailTx
  split
  · exact ⟨relayAll_ris _ _ _, h.2.imp id fun z => (relayAll_led _ _ _).trans z⟩
  · exact h
theorem add_walks {w : World} {D : Froz.SD} (k : Int) (v : Value) (h : Walkable w D) : Walkable w (Froz.addTx k v D) := by
  obtain ⟨es, ep, t⟩ := D
  have h1 := layNew_ris t es k v h.1
  have h2 := h.2.imp id fun z => (layNew_led t es k v).trans z
  unfold Froz.addTx
  refine tail_walks ?_
  split
  · exact ⟨h1, h2⟩
  · exact ⟨h1, h2⟩
section
variable {P : Program} {w : World} {A : Around} {E : Value → Shared → Prop} {s : Shared}
theorem add_has {a : Addr} {T : String} {D : Froz.SD} {l : List Str} {k : Str} {u : Tok} {Q : Bool → Shared → Prop} (ho : s.heap.get? a = some (Froz.sObj T D)) (F : Froz.TxOk P w D l) (hk : k ∈ l) (hb : l.length < scanBound)
    (h : Q false s) : wpAny (model P w) A (setAddHashed a (.str k u) (hashStr w k)) Q E s := by
  obtain ⟨es, ep, t⟩ := D
  have hd : (Froz.sObj T (es, ep, t)).data = .set es ep t := rfl
  have hb0 : es.size < scanBound := by rw [show es.size = l.length from F.sz]; exact hb
  unfold setAddHashed setAddHashedIn
  refine wpAny_holding (wpAny_bind (wpAny_setState_of ho hd F.fit ?_))
  dsimp only
  rw [byScan_of rfl hb0 F.el, if_pos rfl]
  unfold setAddByScan
  refine wpAny_bind (wpAny_bind (wpAny_rule ?_))
  refine wpAny_bind (wpAny_setScan_of (knd := strKind P w) (k := k) (Froz.is_str k u) ho hd F.fit F.el ?_)
  obtain ⟨e, he, hke⟩ := (F.mem k).mp hk
  cases hr : List.findIdx? (fun e => (strKind P w).is k e.2) es.toList with
  | none => exact absurd hke (by simpa using (List.findIdx?_eq_none_iff.mp hr) e he)
  | some j =>
    dsimp only
    exact wpAny_pure (wpAny_pure h)
/-- the loop of set(..) over texts: those met so far are in the set -/
theorem strs_loop {I S : Addr} {fp wr : List Addr} {G : Array GenState → Array GenState → Prop} {n : Nat} {Pv : Nat → Value → Prop} {St : Nat → Shared → Prop} {R : Result → Shared → Prop}
    (W : WalksS P w A.in1 I fp wr G n Pv St) (hS : S ∉ fp) (ss : List Str) (hn : n = ss.length) (hb : ss.length + 1 < scanBound) (hv : ∀ i v, Pv i v → ∃ z t, ss[i]? = some z ∧ v = .str z t) :
    ∀ (k i : Nat) (s : Shared), n = i + k → St i s → (∃ l, SetTx P w s.heap S l ∧ l.length ≤ i ∧ ∀ x, x ∈ l ↔ x ∈ ss.take i) →
      (∀ s' l, Moved (S :: wr) G s s' → SetTx P w s'.heap S l → (∀ x, x ∈ l ↔ x ∈ ss) → R (.ok (.ret .none)) s') → codeAny (model P w) A (.builtin "set.update.loop" ⟨[.ref S, .ref I], []⟩) R s := by
  have hSw : S ∉ wr := fun h => hS (W.sub _ h)
  have up : ∀ {s s' : Shared}, Moved wr G s s' → Moved (S :: wr) G s s' := fun h => h.mono fun b hb => List.mem_cons_of_mem _ hb
  have keep : ∀ {s s' : Shared} {l : List Str}, Moved wr G s s' → SetTx P w s.heap S l → SetTx P w s'.heap S l := fun hm ⟨D, ho, r⟩ => ⟨D, hm.heap S _ hSw ho, r⟩
  intro k
  induction k with
  | zero =>
    intro i s e st ⟨l, hl, _, hm⟩ q
    rw [Nat.add_zero] at e
    subst e
    refine codeAny_builtin PyProof.Rows.F.entry_set_update_loop ?_
    rw [Around.under_plainId PyProof.Rows.F.plain_set_update_loop _]
    show wpAny _ A.in1 (pyNext (.ref I) >>= _) _ _ s
    refine wpAny_bind (W.done s _ _ st fun s' hmv => ?_)
    show wpAny _ A.in1 (ret Value.none) _ _ s'
    rw [List.take_of_length_le (by omega)] at hm
    exact wpAny_pure (q s' l (up hmv) (keep hmv hl) hm)
  | succ k ih =>
    intro i s e st ⟨l, hl, hli, hm⟩ q
    refine codeAny_builtin PyProof.Rows.F.entry_set_update_loop ?_
    rw [Around.under_plainId PyProof.Rows.F.plain_set_update_loop _]
    show wpAny _ A.in1 (pyNext (.ref I) >>= _) _ _ s
    refine wpAny_bind (W.item i s _ _ (by omega) st fun v s' hP st' hmv => ?_)
    obtain ⟨z, t, hz, rfl⟩ := hv i v hP
    obtain ⟨D, ho, hok, hnd, hlb, hwk⟩ := keep hmv hl
    show wpAny _ A.in1 (holding [Value.str z t] (setAdd S (.str z t)) >>= _) _ _ s'
    refine wpAny_bind (wpAny_holding ?_)
    unfold setAdd
    refine wpAny_holding ?_
    refine wpAny_bind ((strKind P w).pyHash (k := z) (Froz.is_str z t) ?_)
    have et : ss.take (i + 1) = ss.take i ++ [z] := by rw [List.take_add_one, hz]; rfl
    have go : ∀ (h' : Heap) (l' : List Str), Heap.SameBut S s'.heap h' → SetTx P w h' S l' → l'.length ≤ i + 1 → (∀ x, x ∈ l' ↔ x ∈ ss.take (i + 1)) → codeAny (model P w) A (.builtin "set.update.loop" ⟨[.ref S, .ref I], []⟩) R { s' with heap := h', toks := s'.toks + 1 } := fun h' l' hsb hl' hli' hm' =>
      ih (i + 1) _ (by omega) (W.frame _ s' _ _ st' (Nat.le_succ _) fun b hb o e => by rw [hsb.2 b (fun h : b = S => hS (h ▸ hb))]; exact e) ⟨l', hl', hli', hm'⟩ fun s'' l'' hm2 hl2 hall =>
        q s'' l'' (Moved.trans W.gtrans ((up hmv).then_heap (Nat.le_succ _) fun b o hb e => by rw [hsb.2 b (fun h : b = S => hb (by rw [h]; exact List.mem_cons_self))]; exact e) hm2) hl2 hall
    by_cases hin : z ∈ l
    · refine add_has (s := { s' with toks := s'.toks + 1 }) ho hok hin hlb ?_
      refine wpAny_pure ⟨plainId_quiet PyProof.Rows.F.plain_set_update_loop _, go s'.heap l ⟨rfl, fun _ _ => rfl⟩ ⟨D, ho, hok, hnd, hlb, hwk⟩ (by omega) fun x => ?_⟩
      rw [et, List.mem_append, ← hm x, List.mem_singleton]
      exact ⟨.inl, fun h => h.elim id fun h => h ▸ hin⟩
    · refine Froz.add_x (s := { s' with toks := s'.toks + 1 }) ho hok hin (by omega) ?_
      have hsb : Heap.SameBut S s'.heap (s'.heap.update S fun _ => Froz.sObj "set" (Froz.addTx (hashStr w z) (.str z t) D)) := ⟨by rw [Heap.size_after_update], fun b hb => Heap.get?_update_other _ _ (Ne.symm hb)⟩
      refine wpAny_pure ⟨plainId_quiet PyProof.Rows.F.plain_set_update_loop _, go _ (z :: l) hsb ⟨_, Froz.get_upd _ ho rfl, Froz.add_ok t hok, List.nodup_cons.mpr ⟨hin, hnd⟩, by rw [List.length_cons]; omega, add_walks _ _ hwk⟩ (by rw [List.length_cons]; omega) fun x => ?_⟩
      rw [et, List.mem_append, ← hm x, List.mem_singleton, List.mem_cons]
      exact Or.comm
def freshSet (w : World) : Obj := { cls := .type "set", dict := none, data := .set #[] 0 (.fresh 0 0 (!w.params.followText "set-order")) }
theorem fresh_tx {h : Heap} {a : Addr} (ho : h.get? a = some (freshSet w)) : SetTx P w h a [] := by
  refine ⟨(#[], 0, .fresh 0 0 (!w.params.followText "set-order")), ho, Froz.TxOk.nil rfl, List.nodup_nil, by decide, List.Pairwise.nil, ?_⟩
  show _ ∨ (!w.params.followText "set-order") = true
  cases w.params.followText "set-order"
  · exact .inr rfl
  · exact .inl rfl
set_option maxHeartbeats 3200000 in
theorem call_setStr {l : Addr} {items : Array Value} {ss : List Str} {Q : Value → Shared → Prop} (hh : A.handled = none) (hl : s.heap.IsList l items) (hit : StrsAre items.toList ss) (hb : ss.length + 1 < scanBound)
    (h : ∀ (h' : Heap) (tk : Nat) (ls : List Str), SetTx P w h' s.heap.objs.size ls → (∀ x, x ∈ ls ↔ x ∈ ss) → (∀ b o, s.heap.get? b = some o → h'.get? b = some o) → Q (.ref s.heap.objs.size) { s with heap := h', toks := tk }) :
    wpAny (model P w) A (call (.type "set") [.ref l]) Q E s := by
  have hlen : items.size = ss.length := by
    have : ∀ {us : List Value} {ss : List Str}, StrsAre us ss → us.length = ss.length := fun h => by
      induction h with
      | nil => rfl
      | cons _ _ _ ih => exact congrArg (· + 1) ih
    have e := this hit
    rw [Array.length_toList] at e
    exact e
  have hat : ∀ (i : Nat) (v : Value), items[i]? = some v → ∃ z t, ss[i]? = some z ∧ v = .str z t := by
    have : ∀ {us : List Value} {ss : List Str}, StrsAre us ss → ∀ (i : Nat) (v : Value), us[i]? = some v → ∃ z t, ss[i]? = some z ∧ v = .str z t := fun h => by
      induction h with
      | nil => exact fun i v e => by simp at e
      | cons y t _ ih =>
        intro i v e
        cases i with
        | zero =>
          simp at e
          exact ⟨y, t, rfl, e.symm⟩
        | succ i => exact ih i v (by simpa using e)
    exact fun i v e => this hit i v (by rw [Array.getElem?_toList]; exact e)
  obtain ⟨c, tl, hmro⟩ := PySem.F.called_set.mro
  have hmade := PySem.F.called_set.made
  have hsub := PySem.F.called_set.sub
  refine wpAny_call (codeAny_of_tree ?_)
  show wpAny _ _ (callAny (.type "set") _) _ _ _
  refine wpAny_pure ⟨Code.quiet_builtin _ (by decide +kernel), codeAny_builtin PySem.F.entry_type_call ?_⟩
  rw [Around.under_plain (weight_type_call_type "set" [.ref l] []) rfl]
  have h1 := PySem.F.called_set.notType
  have h2 := PySem.F.called_set.canCreate
  have hct := PySem.F.typeCall_set_1 (.ref l)
  repeat (any_goals (first | assumption | wp_step))
  refine codeAny_mono (code_set_led1 (.ref l) (E := E) (Q₁ := fun obj s₁ => obj = .ref s.heap.objs.size ∧ s₁ = { s with heap := s.heap.push (freshSet w) }) ⟨rfl, rfl⟩) fun r s₁ hr => ?_
  cases r with
  | error e => exact hr
  | ok fl =>
    cases fl with
    | ret obj =>
      obtain ⟨rfl, rfl⟩ := hr
      have hS : (s.heap.push (freshSet w)).get? s.heap.objs.size = some (freshSet w) := Heap.get?_push_size _ rfl
      have hT : Shared.TypeIs { s with heap := s.heap.push (freshSet w) } (.ref s.heap.objs.size) "set" := ⟨_, hS, rfl⟩
      have hli := PySem.F.called_set.init.lookup
      have hbi := PySem.F.called_set.init.bind (.ref s.heap.objs.size)
      repeat (any_goals (first | assumption | wp_step))
      refine codeAny_mono (codeAny_call_builtin (R := wants (fun r s₂ => r = .none ∧ ∃ h' tk ls, s₂ = { s with heap := h', toks := tk } ∧ SetTx P w h' s.heap.objs.size ls ∧ (∀ x, x ∈ ls ↔ x ∈ ss) ∧
          (∀ b o, s.heap.get? b = some o → h'.get? b = some o)) E) PySem.F.called_set.init.plain PySem.F.entry_set_init (PySem.check_set_init_1 hT ?_)) fun r₂ s₂ hr₂ => ?_
      · obtain ⟨⟨ocls, odict, odata, oslots⟩, hol, hcl, nl, hdl⟩ := hl
        simp only at hcl hdl
        subst hcl; subst hdl
        have hol' : (s.heap.push (freshSet w)).get? l = some { cls := .type "list", dict := odict, data := .seq items nl, slots := oslots } := Heap.get?_push_of_some _ hol
        have hsls := PySem.F.sub_list_set
        have hslf := PySem.F.sub_list_frozenset
        have hne : (Value.type "list" == Value.type "dict") = false := by decide
        have hl1 : (s.heap.push (freshSet w)).IsList l items := ⟨_, hol', rfl, nl, rfl⟩
        unfold Builtin.«set.__init__» noKeywords Builtin.Frozenset.updateFrom
        generalize hPI : pyIter = PI
        wp_walk
        subst hPI
        refine wpAny_pyIter_list hl1 ?_
        refine wpAny_bind (wpAny_runValue ?_)
        have hlS : l < s.heap.objs.size := Heap.lt_size hol
        have hz1 : (s.heap.push (freshSet w)).objs.size = s.heap.objs.size + 1 := Heap.size_push ..
        have hneI : l ≠ (s.heap.push (freshSet w)).objs.size := by
          rw [hz1]
          exact Nat.ne_of_lt (Nat.lt_succ_of_lt hlS)
        have hSf : s.heap.objs.size ∉ [(s.heap.push (freshSet w)).objs.size, l] := by
          rw [hz1]
          simp only [List.mem_cons, List.not_mem_nil, or_false, not_or]
          exact ⟨Nat.ne_of_lt (Nat.lt_succ_self _), Nat.ne_of_gt hlS⟩
        refine strs_loop ((Walks.list (by simp [hh]) _ l hneI items).toS) hSf ss hlen hb hat items.size 0 _ (Nat.zero_add _).symm ⟨⟨_, Heap.get?_push_size _ rfl, rfl, rfl⟩, hl1.push _⟩
          ⟨[], fresh_tx (Heap.get?_push_of_some _ hS), Nat.le_refl _, fun x => by simp⟩ fun s' ls hm hls hall => ?_
        obtain ⟨h', g2, d', tk', os'⟩ := s'
        have eg : g2 = s.gens := hm.gens
        have ed : d' = s.drawn := hm.drawn
        have eo : os' = s.os := hm.os
        subst eg; subst ed; subst eo
        show wpAny _ _ _ _ _ _
        refine wpAny_pure ?_
        show wpAny _ _ (ret Value.none) _ _ _
        refine wpAny_pure ⟨rfl, h', tk', ls, rfl, hls, hall, fun b o e => ?_⟩
        have hb0 : b < s.heap.objs.size := Heap.lt_size e
        refine hm.heap b o ?_ (Heap.get?_push_of_some _ (Heap.get?_push_of_some _ e))
        rw [hz1]
        simp only [List.mem_cons, List.not_mem_nil, or_false, not_or]
        exact ⟨Nat.ne_of_lt hb0, Nat.ne_of_lt (Nat.lt_succ_of_lt hb0)⟩
      · cases r₂ with
        | error e => exact hr₂
        | ok fl₂ =>
          cases fl₂ with
          | ret r =>
            obtain ⟨rfl, h', tk, ls, rfl, hls, hall, hk'⟩ := hr₂
            repeat (any_goals (first | assumption | wp_step))
            exact h _ _ ls hls hall hk'
          | _ => exact hr₂.elim
    | _ => exact hr.elim
end
end Sx
set_option Elab.async false
set_option linter.all false
set_option maxRecDepth 100000
set_option maxHeartbeats 1000000
/-! Y18: sorted(set of texts); the rules. -/
namespace Sx
open PySem PySem.Spec PyProof.Rows L2
open C8 (Cal pe_c pe_gc)
def strV : Value → Str
  | .str x _ => x
  | _ => ""
theorem strs_map : ∀ (l : List Value), (∀ v ∈ l, ∃ x t, v = Value.str x t) → StrsAre l (l.map strV)
  | [], _ => .nil
  | v :: r, h => by
    obtain ⟨x, t, rfl⟩ := h v List.mem_cons_self
    exact .cons x t (strs_map r fun v hv => h v (List.mem_cons_of_mem _ hv))
section
variable {P : Program} {w : World} {A : Around} {E : Value → Shared → Prop} {s : Shared}
theorem sorted_setTx {a : Addr} {l : List Str} {Q : Value → Shared → Prop} (R : SetTx P w s.heap a l) (hh : A.handled = none) (h64 : l.length < 64)
    (hQ : ∀ s' p (out : Array Value) (c : Nat) (ys : List Str), (∀ b o, s.heap.get? b = some o → s'.heap.get? b = some o) → s'.gens = s.gens → s'.os = s.os → s.heap.objs.size ≤ p →
      s'.heap.get? p = some (seqObj "list" out c) → StrsAre out.toList ys → ys.Perm l → sortedS ys = true → Q (.ref p) s') :
    wpAny (model P w) A (call (.builtin "sorted") [.ref a]) Q E s := by
  obtain ⟨⟨es, ep, t⟩, ho, hok, hnd, hlb, hr, hl⟩ := R
  have hsz : es.size = l.length := hok.sz
  refine Calls.call_function_entry kind_sorted plain_sorted entry_sorted (args_sorted1 _) ?_
  unfold Builtin.«sorted»
  refine wpAny_bind (m := checkCount "sorted" 1 1 _) (wpAny_pure ?_)
  refine wpAny_bind (collect_set (A := A.in1) hh ⟨_, ho, rfl, rfl⟩ hok.fit (by rw [hsz]; exact hlb) hr hl fun s1 vs k1 hz g1 o1 pm => ?_)
  have hvl : vs.length = l.length := by rw [pm.length_eq, List.length_map, Array.length_toList, hsz]
  have isS : ∀ v ∈ vs, ∃ x t, v = Value.str x t := fun v hv => by
    obtain ⟨e, he, q⟩ := List.mem_map.mp (pm.mem_iff.mp hv)
    obtain ⟨⟨k, hk, _⟩, _⟩ := hok.el e he
    have hk' : Value.isStrOf k e.2 = true := hk
    rw [q] at hk'
    cases v with
    | str x t => exact ⟨x, t, rfl⟩
    | _ => cases hk'
  have hS := strs_map vs isS
  have pk : (vs.map strV).Perm l := by
    refine perm_same hnd (fun x hx => ?_) (by rw [List.length_map, hvl]; exact Nat.le_refl _)
    obtain ⟨e, he, hke⟩ := (hok.mem x).mp hx
    have hke' : Value.isStrOf x e.2 = true := hke
    refine List.mem_map.mpr ⟨e.2, pm.mem_iff.mpr (List.mem_map.mpr ⟨e, he, rfl⟩), ?_⟩
    obtain ⟨y, t, hy⟩ := isS e.2 (pm.mem_iff.mpr (List.mem_map.mpr ⟨e, he, rfl⟩))
    rw [hy] at hke' ⊢
    show y = x
    simpa [Value.isStrOf] using hke'
  refine wpAny_bind (wpAny_newList ?_ (by rw [hvl, sizeLine_eq]; omega))
  have hoL : (s1.heap.push (seqObj "list" vs.toArray 0)).get? s1.heap.objs.size = some (seqObj "list" vs.toArray 0) := Heap.get?_push_size _ rfl
  refine wpAny_bind (wpAny_holding (wpAny_call_entry slot_list_sort ⟨_, hoL, rfl⟩ entry_list_sort (list_sort_treeKAny strKind_oneLt hoL hS.keysOf (fun v₁ v₂ rest e => keyKind_strs (by rw [← e]; exact hS)) (by rw [hvl, sizeLine_eq]; omega) fun st' hp hs => ⟨_, rfl, ?_⟩) (args_list_sort _)))
  obtain ⟨ys, a1, a2, a3⟩ := sorted_out_str hS hp hs
  obtain ⟨c, hc⟩ := sortedHeap_at (vs := vs) (out := (arrOf st').map (·.2)) hoL
  refine wpAny_pure ⟨_, rfl, hQ _ s1.heap.objs.size _ c ys (fun b u e => ?_) g1 o1 hz hc a1 (a2.trans pk) a3⟩
  have q := k1 b u e
  have hlt := Heap.lt_size q
  show (sortedHeap (s1.heap.push (seqObj "list" vs.toArray 0)) s1.heap.objs.size vs _).get? b = some u
  rw [sortedHeap_old (Nat.ne_of_lt hlt) (by rw [Heap.size_push]; exact Nat.lt_succ_of_lt hlt)]
  exact Heap.get?_push_of_some _ q
end
/-! ### the rules -/
def SetSO (P : Program) (w : World) (a : Addr) (l : List Str) : HO := .ext fun h => SetTx P w h a l
section
variable {X : Cx}
theorem setSO_new {P : Program} {w : World} {H : Hp} {h : Heap} {a : Addr} {l : List Str} (R : SetTx P w h a l) : ObjOk P w H h a (SetSO P w a l) :=
  ⟨R, let ⟨D, ho, _⟩ := R; ⟨_, ho⟩, fun _ _ ⟨D, ho, r⟩ k => ⟨D, k _ ho, r⟩⟩
abbrev rSetStr (K : PySem.W.Frag) (P : Program) (w : World) : List V → Hp → VK → Prop := fun xs H Q => ∃ (a : Addr) (ss : List Str), xs = [V.ref a] ∧ SqL K H a (ss.map V.str) ∧ ss.length ≤ 60 ∧
  ∀ (p : Addr) (l : List Str), H p = none → l.Nodup → (∀ x, x ∈ l ↔ x ∈ ss) → Q (.ref p) (upd H p (SetSO P w p l))
theorem call_setStrL (hc : X.calm = true) : CallR X (.type "set") (rSetStr X.K X.prog X.w) := by
  intro pins s σ H xs us Q I r h
  obtain ⟨a, ss, rfl, hs, h60, q⟩ := h
  obtain ⟨its, rv, hl, _⟩ := I.list hs
  rw [Vals.ref1 r]
  refine call_setStr (I.ok.hd hc) hl.isList (by rw [Array.toArray_toList] <;> first | exact rv.strs | simpa using rv.strs) (by unfold scanBound; omega) fun h' tk ls hls hall hk => ?_
  have hnd : ls.Nodup := let ⟨_, _, _, h, _⟩ := hls; h
  exact ⟨.ref _, upd H s.heap.objs.size (SetSO X.prog X.w s.heap.objs.size ls), I.laid (t' := tk) hk (Nat.le_refl _) (setSO_new hls), rfl, q _ ls (I.hok.fresh (Nat.le_refl _)) hnd hall⟩
abbrev rSortedSS (P : Program) (w : World) : List V → Hp → VK → Prop := fun vs H Q => ∃ (a : Addr) (l : List Str), vs = [V.ref a] ∧ H a = some (SetSO P w a l) ∧ l.length < 64 ∧
  ∀ (ys : List Str) (p : Addr), ys.Perm l → sortedS ys = true → H p = none → Q (.ref p) (upd H p (.lst (ys.map V.str)))
theorem cr_sortedSS (hc : X.calm = true) : CallR X (.builtin "sorted") (rSortedSS X.prog X.w) := by
  intro pins s σ H vs us Q I r h
  obtain ⟨a, l, rfl, ha, h64, q⟩ := h
  obtain ⟨R, _, _⟩ := (show ObjOk X.prog X.w H s.heap a (SetSO X.prog X.w a l) from I.hok a _ ha)
  rw [Vals.ref1 r]
  refine sorted_setTx R (I.ok.hd hc) h64 fun s' p out c ys k g o hp hg hi hs hm => ?_
  have hlen : (ys.map V.str).length ≤ sizeLine := by rw [List.length_map, hs.length_eq, sizeLine_eq]; omega
  have hn : H p = none := I.hok.fresh hp
  have J : Inv X pins σ (upd H p (.lst (ys.map V.str))) { s with heap := s'.heap, gens := s'.gens, drawn := s'.drawn, toks := s'.toks } :=
    I.call (ch := []) (Un.laid k hp hn) (I.hok.laid k hp ⟨hlen, out.toList, c, vals_of_strs hi, hg⟩) (by rw [g]; exact I.bare) (fun _ z => nomatch z)
  have e : s' = { s with heap := s'.heap, gens := s'.gens, drawn := s'.drawn, toks := s'.toks } := by
    cases s'
    cases s
    cases o
    rfl
  rw [e]
  exact ⟨.ref p, _, J, rfl, q ys p hs hm hn⟩
/-- set(t) of a tuple of ints -/
abbrev rSetIntT (K : PySem.W.Frag) (w : World) : List V → Hp → VK → Prop := fun xs H Q => ∃ (a : Addr) (ns : List Int), xs = [V.ref a] ∧ SqT K H a (ns.map V.int) ∧ ns.length ≤ 60 ∧
  ∀ (p : Addr) (n : Nat), H p = none → n ≤ ns.length → Q (.ref p) (upd H p (SetO w p (fun j => decide (j ∈ ns)) n))
theorem call_setIntT (hc : X.calm = true) : CallR X (.type "set") (rSetIntT X.K X.w) := by
  intro pins s σ H xs us Q I r h
  obtain ⟨a, ns, rfl, hs, h60, q⟩ := h
  obtain ⟨its, rv, hl, _⟩ := I.tuple hs
  rw [Vals.ref1 r]
  refine call_set_tupI (P := X.prog) ns (I.ok.hd hc) hl (by simpa using rv.ints) (by unfold scanBound; omega) fun h' tk c hc' hle hk => ?_
  exact ⟨.ref _, upd H s.heap.objs.size (SetO X.w s.heap.objs.size (fun j => decide (j ∈ ns)) c), I.laid (t' := tk) hk (Nat.le_refl _) (setO_new hc'), rfl, q _ c (I.hok.fresh (Nat.le_refl _)) hle⟩
end
end Sx
set_option Elab.async false
set_option linter.all false
set_option maxRecDepth 100000
set_option maxHeartbeats 1000000
/-! Y19: l == sorted(set(l)); list(t); x <= y of texts. -/
namespace Sx
open PySem PySem.Spec PyProof.Rows L2
open C8 (Cal pe_c pe_gc)
/-! ### lists that rise -/
theorem pair_eq {α : Type} {R : α → α → Prop} (as : ∀ a b, R a b → R b a → False) : ∀ {l m : List α}, l.Pairwise R → m.Pairwise R → l.Perm m → l = m
  | [], m, _, _, p => (List.nil_perm.mp p).symm
  | a :: l, [], _, _, p => absurd p.length_eq (by simp)
  | a :: l, b :: m, hl, hm, p => by
    rw [List.pairwise_cons] at hl hm
    have e : a = b := by
      rcases List.mem_cons.mp (p.mem_iff.mp List.mem_cons_self) with e | e
      · exact e
      rcases List.mem_cons.mp (p.mem_iff.mpr List.mem_cons_self) with e2 | e2
      · exact e2.symm
      · exact (as a b (hl.1 b e2) (hm.1 a e)).elim
    subst e
    rw [pair_eq as hl.2 hm.2 (List.perm_cons a |>.mp p)]
abbrev ltS (a b : Str) : Prop := a.cps.toList < b.cps.toList
theorem ltS_as (a b : Str) (h1 : ltS a b) (h2 : ltS b a) : False := List.lt_irrefl _ (List.lt_trans h1 h2)
theorem str_ext {a b : Str} (h : a.cps.toList = b.cps.toList) : a = b := by
  obtain ⟨x⟩ := a
  obtain ⟨y⟩ := b
  have h' : x.toList = y.toList := h
  rw [Array.toList_inj] at h'
  rw [h']
theorem ltS_tri {a b : Str} (h : ¬ ltS b a) (hne : a ≠ b) : ltS a b := by
  rcases List.le_total (l₁ := a.cps.toList) (l₂ := b.cps.toList) with z | z
  · apply Classical.byContradiction
    intro q
    exact hne (str_ext (List.le_antisymm (List.not_lt.mp h) (List.not_lt.mp q)))
  · apply Classical.byContradiction
    intro q
    exact hne (str_ext (List.le_antisymm (List.not_lt.mp h) (List.not_lt.mp q)))
theorem sorted_pair : ∀ {ys : List Str}, sortedS ys = true → ys.Nodup → ys.Pairwise ltS
  | [], _, _ => .nil
  | [a], _, _ => by simp
  | a :: b :: r, h, hn => by
    have h' : (!ltCps b.cps.toList a.cps.toList && risingS b r) = true := h
    rw [Bool.and_eq_true, Bool.not_eq_true', ltCps_eq] at h'
    rw [List.nodup_cons] at hn
    have ih := sorted_pair (ys := b :: r) h'.2 hn.2
    have ab : ltS a b := ltS_tri (of_decide_eq_false h'.1) fun z => hn.1 (z ▸ List.mem_cons_self)
    refine List.pairwise_cons.mpr ⟨fun y hy => ?_, ih⟩
    rcases List.mem_cons.mp hy with e | e
    · rw [e]
      exact ab
    · exact List.lt_trans ab ((List.pairwise_cons.mp ih).1 y e)
theorem nodup_le {α : Type} [DecidableEq α] : ∀ {l m : List α}, l.Nodup → (∀ x ∈ l, x ∈ m) → l.length ≤ m.length
  | [], _, _, _ => Nat.zero_le _
  | a :: l, m, hn, hs => by
    rw [List.nodup_cons] at hn
    have ha : a ∈ m := hs a List.mem_cons_self
    have ih := nodup_le (m := m.erase a) hn.2 fun x hx => (List.mem_erase_of_ne (fun (z : x = a) => hn.1 (z ▸ hx))).mpr (hs x (List.mem_cons_of_mem _ hx))
    rw [List.length_erase_of_mem ha] at ih
    have : 0 < m.length := List.length_pos_of_mem ha
    rw [List.length_cons]
    omega
theorem eqv_strs : ∀ a b : List Str, PyData.eqv (.list (a.map .str)) (.list (b.map .str)) = decide (a = b)
  | [], [] => rfl
  | [], _ :: _ => rfl
  | _ :: _, [] => rfl
  | x :: a, y :: b => by
    show ((x == y) && PyData.eqv (.list (a.map .str)) (.list (b.map .str))) = _
    rw [eqv_strs a b, Bool.eq_iff_iff, Bool.and_eq_true, beq_iff_eq, decide_eq_true_iff, decide_eq_true_iff, List.cons.injEq]
theorem eqv_ints : ∀ a b : List Int, PyData.eqv (.list (a.map .int)) (.list (b.map .int)) = decide (a = b)
  | [], [] => rfl
  | [], _ :: _ => rfl
  | _ :: _, [] => rfl
  | x :: a, y :: b => by
    show ((x == y) && PyData.eqv (.list (a.map .int)) (.list (b.map .int))) = _
    rw [eqv_ints a b, Bool.eq_iff_iff, Bool.and_eq_true, beq_iff_eq, decide_eq_true_iff, decide_eq_true_iff, List.cons.injEq]
theorem shaped_strsL {ss : List Str} (h : ∀ s ∈ ss, PyData.canLay0 (.str s) = true) : SeqAt.shaped (.list (ss.map .str)) = true := by
  have h1 : ∀ ss : List Str, (∀ s ∈ ss, PyData.canLay0 (.str s) = true) → PyData.canLayAll0 (ss.map .str) = true ∧ PyData.depthAll (ss.map .str) = 0 := fun ss => by
    induction ss with
    | nil => exact fun _ => ⟨rfl, rfl⟩
    | cons a r ih =>
      intro hs
      obtain ⟨i1, i2⟩ := ih fun s hm => hs s (List.mem_cons_of_mem _ hm)
      refine ⟨?_, ?_⟩
      · show (PyData.canLay0 (.str a) && PyData.canLayAll0 (r.map .str)) = true
        rw [i1, hs a List.mem_cons_self]
        rfl
      · show max (PyData.depth (.str a)) (PyData.depthAll (r.map .str)) = 0
        rw [i2]
        rfl
  obtain ⟨i1, i2⟩ := h1 ss h
  show (PyData.canLayAll0 (ss.map .str) && decide (PyData.depthAll (ss.map .str) + 1 ≤ 64)) = true
  rw [i1, i2]
  rfl
section
variable {K : PySem.W.Frag} {P : Program} {w : World} {σ : L2.St} {F : Hp} {tn te : TE}
theorem ev_eqSortS {ns : List Str} {b : Bool} (h : EvD K tn σ F (.list (ns.map .str))) (h' : EvD K te σ F (.list (ns.map .str))) (h60 : ns.length ≤ 60) (hlay : ∀ s ∈ ns, PyData.canLay0 (.str s) = true) (hb : b = true ↔ ns.Pairwise ltS) :
    EvD K (tOp (rEqD K) tn (tCB (rSortedSS P w) (tCons (tCB (rSetStr K P w) (tCons te tNil)) tNil))) σ F (.bool b) := fun H s Q q => h H s _ fun v1 F1 H1 g1 r1 => h'.up g1.f H1 g1.i _ fun v2 F2 H2 g2 r2 => by
  cases r2 with
  | lst a1 a2 =>
    rename_i p0 vs
    rw [dps_str a2] at a1
    refine ⟨p0, ns, rfl, g2.i.seq a1, h60, fun p l hp hnd hl => ⟨p, l, rfl, upd_same, ?_, fun ys p2 hys hsort hp2 => ?_⟩⟩
    · have := nodup_le hnd fun x hx => (hl x).mp hx
      omega
    have gg := g1.trans g2
    have hp0 : H p = none := gg.h.free hp
    have hpF : F2 p = none := g2.i.free hp
    have hne : p2 ≠ p := fun z => by rw [z, upd_same] at hp2; cases hp2
    have hp20 : H2 p2 = none := by rw [upd_ne hne] at hp2; exact hp2
    have g3 : Grow F2 H2 F2 (upd H2 p (SetSO P w p l)) := .own g2.i hp
    have g4 : Grow F2 (upd H2 p (SetSO P w p l)) F2 (upd (upd H2 p (SetSO P w p l)) p2 (.lst (ys.map V.str))) := .own g3.i hp2
    refine ⟨.list (ns.map .str), .list (ys.map .str), dq_dp _ _ (r1.up (g2.f.trans g4.i)) (no_strs _), .lst (.inl (.inl upd_same)) (dps_dqs' ys), shaped_strsL hlay, shaped_strsL fun s hs => hlay s ((hl s).mp (hys.mem_iff.mp hs)), ?_⟩
    rw [eqv_strs]
    have e : decide (ns = ys) = b := by
      rw [Bool.eq_iff_iff, decide_eq_true_iff, hb]
      have hyn : ys.Nodup := hys.nodup_iff.mpr hnd
      have hyp := sorted_pair hsort hyn
      constructor
      · intro z
        rw [z]
        exact hyp
      · intro hn
        have nn : ns.Nodup := hn.imp fun {x y} hxy z => by
          subst z
          exact ltS_as _ _ hxy hxy
        refine pair_eq ltS_as hn hyp ((perm_same hyn (fun x hx => (hl x).mp (hys.mem_iff.mp hx)) ?_))
        rw [hys.length_eq]
        exact nodup_le nn fun x hx => (hl x).mpr hx
    rw [e]
    exact q _ F2 _ ((gg.trans g3).trans g4) (.bl b)
where dps_dqs' {K : PySem.W.Frag} {F : Hp} : ∀ ys : List Str, L2.DpAll K F (ys.map V.str) (ys.map .str)
  | [] => .nil
  | y :: r => .cons (.str y) (dps_dqs' r)
theorem dps_ints {K : PySem.W.Frag} {F : Hp} : ∀ ys : List Int, L2.DpAll K F (ys.map V.int) (ys.map .int)
  | [] => .nil
  | y :: r => .cons (.int y) (dps_ints r)
theorem ev_eqSortI {ns : List Int} {b : Bool} (h : EvD K tn σ F (.list (ns.map .int))) (h' : EvD K te σ F (.tuple (ns.map .int))) (h60 : ns.length ≤ 60) (hb : b = true ↔ ns.Pairwise (· < ·)) :
    EvD K (tOp (rEqD K) tn (tCB (rSortedSet w) (tCons (tCB (rSetIntT K w) (tCons te tNil)) tNil))) σ F (.bool b) := fun H s Q q => h H s _ fun v1 F1 H1 g1 r1 => h'.up g1.f H1 g1.i _ fun v2 F2 H2 g2 r2 => by
  cases r2 with
  | tup a1 a2 =>
    rename_i p0 vs
    rw [dps_int a2] at a1
    refine ⟨p0, ns, rfl, same_seqT g2.i a1, h60, fun p n hp hn => ⟨p, _, n, rfl, upd_same, by omega, fun ys p2 hys hall hlen hp2 => ?_⟩⟩
    have gg := g1.trans g2
    have hne : p2 ≠ p := fun z => by rw [z, upd_same] at hp2; cases hp2
    have g3 : Grow F2 H2 F2 (upd H2 p (SetO w p (fun j => decide (j ∈ ns)) n)) := .own g2.i hp
    have g4 : Grow F2 (upd H2 p (SetO w p (fun j => decide (j ∈ ns)) n)) F2 (upd (upd H2 p (SetO w p (fun j => decide (j ∈ ns)) n)) p2 (.lst (ys.map V.int))) := .own g3.i hp2
    refine ⟨.list (ns.map .int), .list (ys.map .int), dq_dp _ _ (r1.up (g2.f.trans g4.i)) (no_ints _), .lst (.inl (.inl upd_same)) (dps_ints ys), shaped_ints ns, shaped_ints ys, ?_⟩
    rw [eqv_ints]
    have e : decide (ns = ys) = b := by
      rw [Bool.eq_iff_iff, decide_eq_true_iff, hb]
      constructor
      · intro z
        rw [z]
        exact hys
      · intro hn
        have nn : ns.Nodup := hn.imp fun {x y} hxy z => by omega
        have hyn : ys.Nodup := hys.imp fun {x y} hxy z => by omega
        have hm : ∀ x, x ∈ ys ↔ x ∈ ns := fun x => (hall x).trans decide_eq_true_iff
        refine pair_eq (fun a b h1 h2 => by omega) hn hys (perm_same hyn (fun x hx => (hm x).mp hx) (nodup_le nn fun x hx => (hm x).mpr hx))
    rw [e]
    exact q _ F2 _ ((gg.trans g3).trans g4) (.bl b)
abbrev rListOf (K : PySem.W.Frag) : List V → Hp → VK → Prop := fun xs H Q => ∃ p ys, xs = [.ref p] ∧ (SqL K H p ys ∨ SqT K H p ys) ∧ ∀ l, H l = none → Q (.ref l) (upd H l (.lst ys))
theorem rc_listT {ds : List PyData} : RcD K (rListOf K) [.tuple ds] (.list ds) := fun F xs H s r Q q => by
  cases r with
  | cons a b =>
    cases b
    cases a with
    | tup a1 a2 => exact ⟨_, _, rfl, .inr (same_seqT s a1), fun l hl => q _ _ _ (.known s hl) (.lst (.inl (.inl upd_same)) (a2.up (same_upd (s.free hl))))⟩
abbrev rLeS : R2 := fun x y H Q => ∃ i j : Str, x = .str i ∧ y = .str j ∧ Q (.bl (!decide (j.cps.toList < i.cps.toList))) H
theorem rv_leS {x y : Str} : RvD K rLeS (.str x) (.str y) (.bool (!decide (y.cps.toList < x.cps.toList))) := fun F u v H s a b Q q => by
  cases a
  cases b
  exact ⟨x, y, rfl, rfl, q _ F H (.start s) (.bl _)⟩
end
end Sx
set_option Elab.async false
set_option linter.all false
set_option maxRecDepth 100000
set_option maxHeartbeats 1000000
/-! Y20: tuples whose object stays known: tuple(zip(..)) and displays. -/
namespace Sx
open PySem PySem.Spec PyProof.Rows L2
open C8 (Cal pe_c pe_gc)
def tTupZipF (K : PySem.W.Frag) (ta : TA) : TE := fun σ H Q => ta σ H fun vs H1 => ∃ a b us ws, vs = [.ref a, .ref b] ∧ SqL K H1 a us ∧ SqL K H1 b ws ∧ us.length = ws.length ∧ ∀ ts H2, LayZ H1 us ws ts H2 → ∀ p, H2 p = none → ∀ o : Obj, o.dict = none → Q (.ref p) (upd H2 p (.frz o (.tup (ts.map V.ref))))
theorem pe_tupZipF {X : Cx} {e e2 : Expr} {ta : TA} {p p2 q pos : Pos} (hc : X.calm = true) (hg : Gl X "tuple") (hm : X.mg "tuple" = none) (hg2 : Gl X "zip") (hm2 : X.mg "zip" = none) (ha : PA X [e, e2] ta)
    (na : starEach [Expr.Call (.Name "zip" p2) [e, e2] [] q] X.env = (false, eval (Expr.Call (.Name "zip" p2) [e, e2] [] q) X.env) :: starEach [] X.env := by rfl)
    (hs : starEach [e, e2] X.env = (false, eval e X.env) :: starEach [e2] X.env := by rfl) (hpl : (backTo q (starEach [e2] X.env)).any (·.1) = false := by rfl) :
    PE X (.Call (.Name "tuple" p) [.Call (.Name "zip" p2) [e, e2] [] q] [] pos) (tTupZipF X.K ta) := by
  refine ⟨fun pins s σ H Q I h => ?_⟩
  refine Call_ (ld_blt I hg hm boot_tuple (PyProof.Rows.callWith_type1 (PyProof.Rows.args_cons (Call_ (ld_blt I hg2 hm2 PyProof.Rows.boot_zip (PyProof.Rows.callWith_type1 (thn (ha.run q pins s σ H _ I h) fun us0 s1 ⟨vs, H1, I1, r1, q1⟩ => ?_) hs hpl))) na) na rfl))
  obtain ⟨a, b, us, ws, ex, hx, hy, hl, q1⟩ := q1
  subst ex
  cases r1 with
  | cons r rr =>
    cases rr with
    | cons r' rr =>
      cases rr
      cases r
      cases r'
      obtain ⟨its, rv, p1, hz1⟩ := I1.list hx
      obtain ⟨its2, rv2, p2', _⟩ := I1.list hy
      have hle : ∀ c, s1.heap.objs.size ≤ c → FpOk X pins H1 c := fun c h => I1.fpOk h (I1.hok.fresh h)
      refine call_zip_2 p1.isList p2'.isList fun h' hz hTI hTO h1 h2 hsz hk => PyProof.Rows.args_nil ?_
      have I2 : Inv X pins σ H1 { s1 with heap := h' } := I1.kept (t' := s1.toks) hk
      refine call_tuple_zip (X := X) (pins := pins) (σ := σ) (us := us) (ws := ws) (xs := its.toArray) (ys := its2.toArray) (I1.ok.hd hc) (PySem.W.ktu_apart s1.heap.objs.size a b p1.lt p2'.lt) (by simpa using rv) (by simpa using rv2) hl hz1 I2 (fun c hcm => ?_)
        ⟨Nat.lt_of_lt_of_le p1.lt (by show s1.heap.objs.size ≤ h'.objs.size; rw [hsz]; exact Nat.le_add_right _ _), Nat.lt_of_lt_of_le p2'.lt (by show s1.heap.objs.size ≤ h'.objs.size; rw [hsz]; exact Nat.le_add_right _ _)⟩ hz ⟨_, _, hTO⟩ hTI h1 h2 (p1.isList.at fun o e => hk _ o e) (p2'.isList.at fun o e => hk _ o e) fun s' H' ts I3 lay => ?_
      · have e' : c = s1.heap.objs.size + 4 ∨ c = s1.heap.objs.size + 2 ∨ c = s1.heap.objs.size + 3 ∨ c = s1.heap.objs.size ∨ c = s1.heap.objs.size + 1 := by simpa using hcm
        show FpOk X pins H1 c ∧ c < h'.objs.size
        rw [hsz]
        have hle' : ∀ k, FpOk X pins H1 (s1.heap.objs.size + k) := fun k => hle _ (Nat.le_add_right _ _)
        rcases e' with e | e | e | e | e <;> rw [e]
        · exact ⟨hle' 4, Nat.add_lt_add_left (by decide) _⟩
        · exact ⟨hle' 2, Nat.add_lt_add_left (by decide) _⟩
        · exact ⟨hle' 3, Nat.add_lt_add_left (by decide) _⟩
        · exact ⟨hle' 0, Nat.lt_add_of_pos_right (by decide)⟩
        · exact ⟨hle' 1, Nat.add_lt_add_left (by decide) _⟩
      · refine ⟨.ref s'.heap.objs.size, upd H' s'.heap.objs.size (.frz { cls := .type "tuple", data := .seq (ts.map Value.ref).toArray } (.tup (ts.map V.ref))), I3.laid (t' := s'.toks) (fun c o e => Heap.get?_push_of_some _ e) (Nat.le_refl _) (show ObjOk X.prog X.w _ _ _ (.frz { cls := .type "tuple", data := .seq (ts.map Value.ref).toArray } (.tup (ts.map V.ref))) from ⟨Heap.get?_push_size _ rfl, ?_, _, vals_refsZ ts, IsTup.new _ _⟩), rfl, q1 ts H' lay _ (I3.hok.fresh (Nat.le_refl _)) _ rfl⟩
        rw [List.length_map, lay.len]
        exact hz1

def tTupF (t : TA) : TE := fun σ H Q => t σ H fun xs H1 => xs.length ≤ sizeLine ∧ ∀ p, H1 p = none → ∀ o : Obj, o.dict = none → Q (.ref p) (upd H1 p (.frz o (.tup xs)))
theorem pe_tupF {X : Cx} {es : List Expr} {t : TA} {x1} {pos : Pos} (h : PA X es t) : PE X (.Tuple es x1 pos) (tTupF t) := by
  refine ⟨fun pins s σ H Q I hq => ?_⟩
  refine wpAny_Tuple_spliced (thn (h.run pos pins s σ H _ I hq) fun us s1 ⟨xs, H1, I1, r, z, q⟩ => ⟨by rw [← r.length]; exact z, ?_⟩)
  have hf : H1 s1.heap.objs.size = none := I1.hok.fresh (Nat.le_refl _)
  refine ⟨.ref s1.heap.objs.size, upd H1 s1.heap.objs.size (.frz { cls := .type "tuple", data := .seq us.toArray } (.tup xs)), I1.laid (t' := s1.toks) (fun b u e => Heap.get?_push_of_some _ e) (Nat.le_refl _) ?_, rfl, q _ hf _ rfl⟩
  exact ⟨Heap.get?_push_size _ rfl, z, us, r, ⟨_, Heap.get?_push_size _ rfl, rfl, _, rfl⟩⟩
/-- a plain tuple of data -/
def PlD (K : PySem.W.Frag) (F : Hp) (v : V) (ds : List PyData) : Prop := ∃ a vs, v = .ref a ∧ PlT F a vs ∧ DqAll K F vs ds
theorem PlD.up {K : PySem.W.Frag} {F G : Hp} {v : V} {ds : List PyData} (h : PlD K F v ds) (s : Same F G) : PlD K G v ds := let ⟨a, vs, e, p, d⟩ := h; ⟨a, vs, e, p.up s, d.up s⟩
theorem PlD.dq {K : PySem.W.Frag} {F : Hp} {v : V} {ds : List PyData} (h : PlD K F v ds) : Dq K F v (.tuple ds) := by
  obtain ⟨a, vs, rfl, p, d⟩ := h
  exact .tup p.seq d
section
variable {K : PySem.W.Frag} {σ : L2.St} {F : Hp} {ta : TA} {ds es : List PyData}
theorem tupF_new (h : EvS K ta σ F ds) (hl : ds.length ≤ sizeLine) {H : Hp} (s : Same F H) {Q : VK} (q : ∀ v F' H', Grow F H F' H' → PlD K F' v ds → Q v H') : tTupF ta σ H Q := h H s _ fun vs F1 H1 g1 r1 =>
  ⟨by rw [r1.len]; exact hl, fun p hp o ho => q _ _ _ (g1.trans (.known g1.i hp)) ⟨p, vs, rfl, ⟨o, upd_same, ho⟩, r1.up (same_upd (g1.i.free hp))⟩⟩
theorem tupZipF_new (h : EvS K ta σ F [.list ds, .list es]) (hl : ds.length = es.length) {H : Hp} (s : Same F H) {Q : VK} (q : ∀ v F' H', Grow F H F' H' → PlD K F' v (pairs ds es) → Q v H') : tTupZipF K ta σ H Q := h H s _ fun vs F1 H1 g1 r1 => by
  cases r1 with
  | cons a b =>
    cases b with
    | cons b c =>
      cases c
      cases a with
      | lst a1 a2 =>
        cases b with
        | lst b1 b2 =>
          refine ⟨_, _, _, _, rfl, g1.i.seq a1, g1.i.seq b1, by rw [a2.len, b2.len]; exact hl, fun ts H2 lay p hp o ho => ?_⟩
          obtain ⟨F2, g2, r2⟩ := lay_grow lay g1.i a2 b2
          exact q _ _ _ (g1.trans (g2.trans (.known g2.i hp))) ⟨p, _, rfl, ⟨o, upd_same, ho⟩, r2.up (same_upd (g2.i.free hp))⟩
end
end Sx
set_option Elab.async false
set_option linter.all false
set_option maxRecDepth 100000
set_option maxHeartbeats 1000000
/-! Y21: t[::-1] of a tuple. -/
namespace Sx
open PySem PySem.Spec PyProof.Rows L2
open C8 (Cal pe_c pe_gc)
section
variable {prog : Program} {w : World} {A : Around} {E : Value → Shared → Prop} {s : Shared}
theorem pick_rev (xs : Array Value) : ((List.range xs.size).filterMap fun (m : Nat) => xs[(((xs.size : Int) - 1) + (m : Int) * (-1)).toNat]?).toArray = xs.toList.reverse.toArray := by
  refine congrArg List.toArray (List.ext_getElem? fun i => ?_)
  have gen : ∀ (k : Nat), k ≤ xs.size → (List.range k).filterMap (fun (m : Nat) => xs[(((xs.size : Int) - 1) + (m : Int) * (-1)).toNat]?) = xs.toList.reverse.take k := fun k => by
    induction k with
    | zero => intro _; rfl
    | succ k ih =>
      intro hk
      rw [List.range_succ, List.filterMap_append, ih (by omega), List.take_add_one]
      have e : (((xs.size : Int) - 1) + (k : Int) * (-1)).toNat = xs.size - 1 - k := by omega
      have hr : xs.toList.reverse[k]? = xs[xs.size - 1 - k]? := by
        rw [List.getElem?_reverse (by rw [Array.length_toList]; omega), Array.length_toList, Array.getElem?_toList]
      rw [hr]
      have hx : xs[xs.size - 1 - k]? = some (xs[xs.size - 1 - k]'(by omega)) := Array.getElem?_eq_getElem (by omega)
      have hf : (List.filterMap (fun (m : Nat) => xs[(((xs.size : Int) - 1) + (m : Int) * (-1)).toNat]?) [k]) = [xs[xs.size - 1 - k]'(by omega)] := by
        rw [List.filterMap_cons_some (b := xs[xs.size - 1 - k]'(by omega)) (by rw [e]; exact hx)]
        rfl
      rw [hf, hx]
      rfl
  rw [gen xs.size (Nat.le_refl _), List.take_of_length_le (by rw [List.length_reverse, Array.length_toList]; exact Nat.le_refl _)]
theorem sliceApplied_rev {sl : Addr} {t : Tok} {n : Nat} {Q : Int × Int × Nat → Shared → Prop} (hs : s.heap.IsSliceOf sl .none .none (.int (-1) t))
    (h : Q ((n : Int) - 1, -1, n) s) : wpAny (model prog w) A (Builtin.Slice.sliceApplied (.ref sl) (pure (n : Int))) Q E s := by
  obtain ⟨os, hos, hcs, hds⟩ := id hs
  unfold Builtin.Slice.sliceApplied Builtin.Slice.sliceFields
  refine wpAny_bind (wpAny_bind (wpAny_field hos hds (x := .none) rfl (wpAny_bind (wpAny_field hos hds (x := .none) rfl (wpAny_bind (wpAny_field hos hds (x := .int (-1) t) rfl (wpAny_pure ?_)))))))
  refine wpAny_bind (HT.slicePart_ (.int (-1) t) ?_)
  show wpAny _ _ (if ((-1 : Int) == 0) = true then _ else _) _ _ s
  rw [if_neg (by decide)]
  refine wpAny_bind (HT.slicePart_ .none (wpAny_bind (HT.slicePart_ .none (wpAny_bind (wpAny_pure ?_)))))
  show wpAny _ _ (match Builtin.Slice.sliceAdjust none none (-1) (n : Int) with | (lo, hi) => pure (lo, (-1 : Int), Builtin.Slice.slicePlaces lo hi (-1))) _ _ s
  have e1 : Builtin.Slice.sliceAdjust none none (-1) (n : Int) = ((n : Int) - 1, -1) := by
    unfold Builtin.Slice.sliceAdjust
    simp
  rw [e1]
  have e2 : Builtin.Slice.slicePlaces ((n : Int) - 1) (-1) (-1) = n := by
    unfold Builtin.Slice.slicePlaces
    simp
    omega
  show wpAny _ _ (pure ((n : Int) - 1, (-1 : Int), Builtin.Slice.slicePlaces ((n : Int) - 1) (-1) (-1))) _ _ s
  rw [e2]
  exact wpAny_pure h
theorem getItem_tuple_rev {t sl : Addr} {items : Array Value} {u : Tok} {Q : Value → Shared → Prop} (ht : IsTup s.heap t items) (hs : s.heap.IsSliceOf sl .none .none (.int (-1) u))
    (h : Q (.ref s.heap.objs.size) { s with heap := s.heap.push { cls := .type "tuple", data := .seq items.toList.reverse.toArray } }) (hsz : items.size ≤ sizeLine) : wpAny (model prog w) A (getItem (.ref t) (.ref sl)) Q E s := by
  have hlen : sizeOk (.seq items.toList.reverse.toArray) := by
    show items.toList.reverse.toArray.size ≤ sizeLine
    rw [List.size_toArray, List.length_reverse, Array.length_toList]
    exact hsz
  obtain ⟨os, hos, hcs, hds⟩ := id hs
  have hTs : s.TypeIs (.ref sl) "slice" := ⟨os, hos, hcs⟩
  unfold getItem
  try with_reducible refine wpAny_holding ?_
  first | refine wpAny_bind (wpAny_pure ?_) | skip
  refine wpAny_bind (wpAny_sequenceKey ht.typeIs (by decide) ?_)
  refine wpAny_bind (wpAny_callSpecial?_slot (name := Str.ofString "__getitem__") ht.typeIs PyProof.Rows.slot_tuple_getitem
    (wpAny_call_entry PyProof.Rows.slot_tuple_getitem ht.typeIs entry_tuple_getitem ?_ (args_tuple_getitem _ _)))
  show wpAny _ _ (Builtin.Tuple.tupleItemsOf (.ref t) >>= _) _ _ s
  refine wpAny_bind (tupleItemsOf_ ht ?_)
  refine wpAny_bind (wpAny_typeOf hTs ?_)
  rw [if_pos (by decide)]
  refine wpAny_bind (sliceApplied_rev hs ?_)
  have hno : ¬ ((((items.size : Int) - 1) == 0 && (-1 : Int) == 1 && items.size == items.size) = true) := by
    intro q
    rw [Bool.and_eq_true, Bool.and_eq_true] at q
    have q1 : (-1 : Int) = 1 := eq_of_beq q.1.2
    omega
  show wpAny _ _ (if (((items.size : Int) - 1) == 0 && (-1 : Int) == 1 && items.size == items.size) = true then _ else _) _ _ s
  rw [if_neg hno, pick_rev]
  first
    | exact wpAny_bind (m := Builtin.Tuple.tupleExact _) (wpAny_newObj_type (wpAny_pure ⟨_, rfl, wpAny_pure h⟩) hlen)
    | exact wpAny_bind (m := Builtin.Tuple.tupleExact _) (wpAny_newObj_type (wpAny_bind (wpAny_pure (wpAny_pure ⟨_, rfl, wpAny_pure h⟩))) hlen)
    | exact wpAny_bind (wpAny_bind (m := Builtin.Tuple.tupleExact _) (wpAny_newObj_type (wpAny_pure (wpAny_pure ⟨_, rfl, wpAny_pure h⟩)) hlen))
    | exact wpAny_bind (wpAny_bind (m := Builtin.Tuple.tupleExact _) (wpAny_newObj_type (wpAny_pure ⟨_, rfl, wpAny_pure h⟩) hlen))
end
def tRevT (K : PySem.W.Frag) (te : TE) (ts : TO) : TE := fun σ H Q => te σ H fun x H1 => ts σ H1 fun c H2 => ∃ a xs, x = .ref a ∧ SqT K H2 a xs ∧ c = some (-1) ∧ ∀ p, H2 p = none → Q (.ref p) (upd H2 p (.tup xs.reverse))
theorem pe_revT {X : Cx} {e : Expr} {te : TE} {st : Option Expr} {ts : TO} {p2 pos : Pos} (he : PE X e te) (hs : PO X st ts) (hsub : ∀ v i, subscripted (.Slice none none st p2) false v i = operate [v, i] (getItem v i) := by intros; with_unfolding_all rfl) : PE X (.Subscript e (.Slice none none st p2) pos) (tRevT X.K te ts) := by
  refine ⟨fun pins s σ H Q I h => Subscript_ (thn (he.run pins s σ H _ I h) fun v s1 hq => ?_)⟩
  obtain ⟨x, H1, I1, r1, q1⟩ := hq
  have pn : PO X (none : Option Expr) tNoPart := po_none
  refine wpAny_Slice (thn (pn.run pins s1 σ H1 (fun o H2 => o = none ∧ H2 = H1) I1 ⟨rfl, rfl⟩) fun vl s2 hq2 => ?_)
  obtain ⟨l, H2, I2, pl, rfl, rfl⟩ := hq2
  refine thn (pn.run pins s2 σ H2 (fun o H3 => o = none ∧ H3 = H2) I2 ⟨rfl, rfl⟩) fun vu s3 hq3 => ?_
  obtain ⟨u, H3, I3, pu, rfl, rfl⟩ := hq3
  refine thn (hs.run pins s3 σ H3 _ I3 q1) fun vs s4 hq4 => ?_
  obtain ⟨c, H4, I4, pc, a, xs, ex, hx, hc, q⟩ := hq4
  subst ex
  subst hc
  cases r1
  cases pl
  cases pu
  cases pc with
  | int i tk =>
    generalize hob : ({ cls := .type "slice", data := .fields #[.none, .none, .int (-1) tk] } : Obj) = ob
    have I5 : Inv X pins σ H4 { s4 with heap := s4.heap.push ob } := I4.kept (t' := s4.toks) fun b o z => Heap.get?_push_of_some _ z
    obtain ⟨its, rv, pt, hz⟩ := I5.tuple hx
    have hlen := rv.length
    have hsl : (s4.heap.push ob).IsSliceOf s4.heap.objs.size .none .none (.int (-1) tk) := by
      rw [← hob]
      exact .new ..
    have rr : Vals xs.reverse its.reverse := by
      have : ∀ {xs : List V} {us : List Value}, Vals xs us → Vals xs.reverse us.reverse := fun h => by
        induction h with
        | nil => exact .nil
        | cons a b ih =>
          rw [List.reverse_cons, List.reverse_cons]
          exact Paired.snoc ih a
      exact this rv
    have fin : wpAny (model X.prog X.w) X.A (getItem (.ref a) (.ref s4.heap.objs.size)) (EP X pins σ Q) X.xe { s4 with heap := s4.heap.push ob } := by
      refine getItem_tuple_rev pt hsl ?_ (by rw [List.size_toArray, ← hlen]; exact hz)
      refine ⟨.ref _, _, I5.laid (t' := s4.toks) (o := .tup xs.reverse) (fun b o z => Heap.get?_push_of_some _ z) (Nat.le_refl _) ⟨by rw [List.length_reverse]; exact hz, its.reverse, rr, ?_⟩, rfl, q _ (I5.hok.fresh (Nat.le_refl _))⟩
      exact ⟨_, Heap.get?_push_size _ rfl, rfl, _, rfl⟩
    exact tail_any (ops := [.ref a, .ref s4.heap.objs.size]) pt.typeIs PyProof.Rows.slot_tuple_getitem.lookup fin (hsub _ _)
section
variable {K : PySem.W.Frag} {σ : L2.St} {F : Hp} {te : TE} {ts : TO} {ds : List PyData}
theorem dqs_rev {F : Hp} : ∀ {vs : List V} {ds : List PyData}, DqAll K F vs ds → DqAll K F vs.reverse ds.reverse
  | _, _, .nil => .nil
  | _, _, .cons a b => by
    rw [List.reverse_cons, List.reverse_cons]
    exact (dqs_rev b).app (.cons a .nil)
theorem ev_revT (h : EvD K te σ F (.tuple ds)) (h2 : EvO K ts σ F (some (-1))) : EvD K (tRevT K te ts) σ F (.tuple ds.reverse) := fun H s Q q =>
  h H s _ fun x F1 H1 g1 r1 => h2.up g1.f H1 g1.i _ fun F2 H2 g2 => by
    cases r1.up g2.f with
    | tup a b => exact ⟨_, _, rfl, same_seqT g2.i a, rfl, fun p hp => q _ _ _ ((g1.trans g2).trans (.known g2.i hp)) (.tup (.inl (.inl upd_same)) ((dqs_rev b).up (same_upd (g2.i.free hp))))⟩
end
end Sx
set_option Elab.async false
set_option linter.all false
set_option maxRecDepth 100000
set_option maxHeartbeats 1000000
set_option exponentiation.threshold 3000
namespace Sx
open PySem PySem.Spec PyProof.Rows L2
open C8 (Cal pe_c pe_gc)
section
variable {P : Program} {w : World} {K : PySem.W.Frag} {mg : Str → Option Value} {base : Heap} {f : Addr} {fd : FuncData} {aK CK CN CS : Addr}
/-! ### _law_shuffled -/
abbrev s__law_shuffled : Stmt := top 33
theorem sc__law_shuffled : FnScope ["draw", "some", "left", "found"] ["draw", "some"] (defScope s__law_shuffled) := ⟨rfl, rfl, rfl, by decide +kernel, rfl, by decide +kernel, by decide +kernel⟩
theorem shaped_strs {ss : List Str} (h : ∀ s ∈ ss, PyData.canLay0 (.str s) = true) : SeqAt.shaped (.list (ss.map .str)) = true := by
  have h1 : ∀ ss : List Str, (∀ s ∈ ss, PyData.canLay0 (.str s) = true) → PyData.canLayAll0 (ss.map .str) = true := fun ss => by
    induction ss with
    | nil => intro _; rfl
    | cons a r ih =>
      intro hs
      show (PyData.canLay0 (.str a) && PyData.canLayAll0 (r.map .str)) = true
      rw [ih fun s hm => hs s (List.mem_cons_of_mem _ hm), hs a List.mem_cons_self]
      rfl
  have h2 : ∀ ss : List Str, PyData.depthAll (ss.map .str) = 0 := fun ss => by
    induction ss with
    | nil => rfl
    | cons a r ih =>
      show max (PyData.depth (.str a)) (PyData.depthAll (r.map .str)) = 0
      rw [ih]
      rfl
  show (PyData.canLayAll0 (ss.map .str) && decide (PyData.depthAll (ss.map .str) + 1 ≤ 64)) = true
  rw [h1 ss h, h2]
  rfl
theorem eqv_nilS (ns : List Str) : PyData.eqv (.list (ns.map .str)) (.list []) = ns.isEmpty := by
  cases ns with
  | nil => rfl
  | cons a r => rfl
theorem map_erase {α β : Type} (g : α → β) : ∀ (l : List α) (i : Nat), (l.map g).eraseIdx i = (l.eraseIdx i).map g
  | [], _ => rfl
  | _ :: _, 0 => rfl
  | a :: r, i + 1 => congrArg (g a :: ·) (map_erase g r i)
theorem perm_erase {α : Type} : ∀ {l : List α} {i : Nat} (h : i < l.length), (l[i] :: l.eraseIdx i).Perm l
  | [], _, h => absurd h (Nat.not_lt_zero _)
  | a :: r, 0, _ => .refl _
  | a :: r, i + 1, h => (List.Perm.swap a _ _).trans ((perm_erase (l := r) (i := i) (Nat.lt_of_succ_lt_succ h)).cons a)
def spShuf (K : PySem.W.Frag) : Sp := fun vs H Q _ => ∃ (F : Hp) (a l c : Addr) (n : Nat) (y : V) (ss : List Str), Same F H ∧ F a = none ∧ F l = none ∧ vs = [.ref a, y] ∧ Dq K F y (.list (ss.map .str)) ∧ ss.length ≤ 1000 ∧ (∀ s ∈ ss, PyData.canLay0 (.str s) = true) ∧ DrawAt H a l c n ∧ n + 1000 ≤ 2 ^ 40 ∧
  ∀ (p : Addr) (fs : List Str) (H' : Hp), fs.Perm ss → H p = none → Keeps a l H H' → DrawAt H' a l c (n + ss.length) → H' p = some (.lst (fs.map V.str)) → Q (.ref p) H'
theorem ok__law_shuffled (F : Fun K "_law_shuffled" "_law_shuffled" s__law_shuffled f fd) (B : BI mg) (c__law_take : Cal P w K mg base 2 "_law_take" spTake []) : FnOk P w K mg base CX0 3 f fd ["draw", "some"] (spShuf K) := by
  refine F.ok sc__law_shuffled (fun vs H Q E h => by obtain ⟨_, a, _, _, _, y, _, _, _, _, e, _⟩ := h; rw [e]; rfl) (fun cdv A outer s H vs Q E hr h => ?_)
  obtain ⟨F0, a, l, c, n, y, ss, sm, na, nl, ev, ra, hl, hss, D, hn, q⟩ := h
  subst ev
  refine ⟨_, (pss_cons (ps_par (i := 2) (j := 3) rfl sc__law_shuffled.nd rfl rfl (by decide) rfl rfl (pa_cons (pe_callTy (r := rListOf K) (call_list_of) (by rfl) B.list_ (by decide +kernel) (pa_cons (pv 1) pa_nil)) (pa_cons (pe_lst pa_nil) pa_nil)) (by rfl))
        (pss_cons (ps_while PassesOwn.never (pt_cmpR (r := rNeD K) (op_neD hr.units) (pv 2) (pe_lst pa_nil) (nomark _)) (pss_one (ps_expr (pe_bm PySem.F.plainAttrs_list PySem.F.slot_list_append PySem.F.type_list_append mt_append (pv 3) (pa_cons (pe_bm PySem.F.plainAttrs_list PySem.F.slot_list_pop PySem.F.type_list_pop mt_popAt (pv 2) (pa_cons (pe_c c__law_take hr (by first | decide | omega) (by rfl) (pa_cons (pv 0) (pa_cons (pe_callB (r := rLen0 K) (call_len) (by rfl) B.len (by decide +kernel) (pa_cons (pv 2) pa_nil)) pa_nil))) pa_nil)) pa_nil)))))
        (pss_one (ps_ret (pv 3))))), ?_⟩
  cases ra with
  | lst ha hv =>
    rename_i p0 vs
    rw [dps_str hv] at ha
    refine ⟨.ref p0, rfl, p0, _, rfl, .inl (sm.seq ha), fun lf hlf => ⟨Nat.zero_le _, fun fd hfd => ⟨_, _, rfl, ?_⟩⟩⟩
    obtain ⟨ws, cs, rest, turn, D, d0, d1⟩ := D
    have nfl : lf ≠ fd := fun z => by
      rw [z, upd_same] at hfd
      cases hfd
    have hfd' : H fd = none := by
      rw [upd_ne nfl.symm] at hfd
      exact hfd
    have lfa : lf ≠ a := fun z => by rw [z, D.d] at hlf; cases hlf
    have lfl : lf ≠ l := fun z => by rw [z, D.w] at hlf; cases hlf
    have lfc : lf ≠ c := fun z => by rw [z, D.cl] at hlf; cases hlf
    have fda : fd ≠ a := fun z => by rw [z, D.d] at hfd'; cases hfd'
    have fdl : fd ≠ l := fun z => by rw [z, D.w] at hfd'; cases hfd'
    have fdc : fd ≠ c := fun z => by rw [z, D.cl] at hfd'; cases hfd'
    have dput : ∀ {H' : Hp} {b : Addr} {o : HO} {k : Nat}, b ≠ a → b ≠ l → b ≠ c → DrawAt H' a l c k → DrawAt (upd H' b o) a l c k := fun h1 h2 h3 ⟨us, cs, r, t, D, e1, e2⟩ => ⟨us, cs, r, t, ⟨upd_at h1.symm D.d, upd_at h2.symm D.w, upd_at h3.symm D.cl, D.al, D.ac, D.lc⟩, e1, e2⟩
    have kput : ∀ {H' : Hp} {b : Addr} {o : HO}, H b = none → Keeps a l H H' → Keeps a l H (upd H' b o) := fun hb k x u h1 h2 e => by
      rw [upd_ne (ne_of_none e hb)]
      exact k x u h1 h2 e
    refine ⟨fun m σ' H' => ∃ ls fs : List Str, m = ls.length ∧ σ' = [some (.ref a), some (.ref p0), some (.ref lf), some (.ref fd)] ∧ H' lf = some (.lst (ls.map V.str)) ∧ H' fd = some (.lst (fs.map V.str)) ∧ (fs ++ ls).Perm ss ∧ Keeps a l H H' ∧ DrawAt H' a l c (n + fs.length),
      ⟨_, ss, [], rfl, rfl, upd_at nfl upd_same, upd_same, .refl _, kput hfd' (kput hlf (Keeps.refl H)), dput fda fdl fdc (dput lfa lfl lfc ⟨ws, cs, rest, turn, D, d0, by omega⟩)⟩, fun m σ' H' hW => ?_⟩
    obtain ⟨ls, fs, rfl, rfl, e1, e2, pm, kk, DD⟩ := hW
    have hmem : ∀ s ∈ ls, PyData.canLay0 (.str s) = true := fun s hs => hss s (pm.mem_iff.mp (List.mem_append_right _ hs))
    refine eb_test (K := K) (ev_op (ev_var (i := 2) ⟨_, rfl, .lst (.inl (.inl e1)) (dps_ofStr ls)⟩) (ev_lst ea_nil (Nat.zero_le _)) (rv_neD (shaped_strs hmem) (by decide +kernel) (no_strs _) rfl)) H' (Same.refl H') _ fun F1 H1 g1 => ?_
    rw [eqv_nilS]
    have kk1 := kk.trans (.of g1.h)
    have e11 := g1.h _ _ e1
    have e21 := g1.h _ _ e2
    have plen := pm.length_eq
    rw [List.length_append] at plen
    have D1 : DrawAt H1 a l c (n + fs.length) := by
      obtain ⟨us, cs, r, t, D, z1, z2⟩ := DD
      exact ⟨us, cs, r, t, D.same g1.h, z1, z2⟩
    cases ls with
    | nil =>
      show tRet (tVar 3) _ _ _
      refine now_var rfl _ ?_
      rw [List.append_nil] at pm
      have := q fd fs H1 pm hfd' kk1 (by rw [← pm.length_eq]; exact D1) e21
      exact this
    | cons x ls =>
      refine ⟨fun σ' H' => ∃ ls' fs' : List Str, ls'.length < (x :: ls).length ∧ σ' = [some (.ref a), some (.ref p0), some (.ref lf), some (.ref fd)] ∧ H' lf = some (.lst (ls'.map V.str)) ∧ H' fd = some (.lst (fs'.map V.str)) ∧ (fs' ++ ls').Perm ss ∧ Keeps a l H H' ∧ DrawAt H' a l c (n + fs'.length), fun σ' H' h => ?_, ?_⟩
      · obtain ⟨ls', fs', hlt, r1, r2, r3, r4, r5, r6⟩ := h
        exact ⟨ls'.length, hlt, ls', fs', rfl, r1, r2, r3, r4, r5, r6⟩
      · have hll : (x :: ls).length ≤ 1000 := by omega
        refine ⟨.ref fd, rfl, .inl ⟨rfl, _, .inl (.inl e21)⟩, .ref lf, rfl, .inl ⟨rfl, _, .inl (.inl e11)⟩, .ref a, rfl, .ref lf, rfl, .ref lf, (x :: ls).length, rfl, .inl ⟨_, .inl (.inl e11), (List.length_map ..).symm⟩, ?_⟩
        refine ⟨a, l, c, n + fs.length, ((x :: ls).length : Int), rfl, D1, by omega, by show (1 : Int) ≤ ((ls.length + 1 : Nat) : Int); omega, by omega, fun i H3 hi k3 D3 => ?_⟩
        have hi' : i < (x :: ls).length := by omega
        have e13 := k3 _ _ lfa lfl e11
        have e23 := k3 _ _ fda fdl e21
        have hget : ((x :: ls).map V.str)[i]? = some (.str ((x :: ls)[i])) := by
          rw [List.getElem?_map, List.getElem?_eq_getElem hi']
          rfl
        refine ⟨lf, _, (i : Int), i, .str ((x :: ls)[i]), rfl, rfl, e13, by omega, by omega, ?_, hget, ?_⟩
        · refine (seqIndex_of (k := (i : Int)) (Int.natCast_nonneg i) ?_).trans (by rw [Int.toNat_natCast])
          rw [List.length_map]
          omega
        · refine ⟨fd, _, .str ((x :: ls)[i]), rfl, rfl, upd_at nfl.symm e23, ?_, (x :: ls).eraseIdx i, fs ++ [(x :: ls)[i]], ?_, rfl, ?_, ?_, ?_, ?_, ?_⟩
          · rw [List.length_map]
            exact small1000 (by omega)
          · rw [List.length_eraseIdx_of_lt hi']
            show (x :: ls).length - 1 < (x :: ls).length
            omega
          · refine upd_at nfl ?_
            rw [upd_same, map_erase]
          · rw [upd_same, List.map_append]
            rfl
          · rw [List.append_assoc]
            exact ((perm_erase hi').append_left fs).trans pm
          · exact kput hfd' (kput hlf (kk1.trans k3))
          · rw [List.length_append]
            exact dput fda fdl fdc (dput lfa lfl lfc D3)
end
end Sx
set_option Elab.async false
set_option linter.all false
set_option maxRecDepth 100000
set_option maxHeartbeats 1000000
set_option exponentiation.threshold 3000
namespace Sx
open PySem PySem.Spec PyProof.Rows L2
open C8 (Cal pe_c pe_gc)
section
variable {P : Program} {w : World} {K : PySem.W.Frag} {mg : Str → Option Value} {base : Heap} {f : Addr} {fd : FuncData} {aK CK CN CS : Addr}
/-! ### _law_begun -/
abbrev s__law_begun : Stmt := top 29
theorem sc__law_begun : FnScope ["script", "wide", "grain"] ["script"] (defScope s__law_begun) := ⟨rfl, rfl, rfl, by decide +kernel, rfl, by decide +kernel, by decide +kernel⟩
theorem merge_draw (l c : Addr) (r t : Int) : mergeK [] (drawK l c r t) = drawK l c r t := by
  have h1 : putK ([] : List (Key × V)) (.inr "wide") (.ref l) = [(.inr "wide", .ref l)] := rfl
  have h2 : putK [((.inr "wide" : Key), V.ref l)] (.inr "cells") (.ref c) = [(.inr "wide", .ref l), (.inr "cells", .ref c)] := by
    unfold putK
    rw [if_neg]
    · rfl
    · intro h
      obtain ⟨x, hx, e⟩ := List.any_eq_true.mp h
      simp at hx
      subst hx
      exact k_wide_cells (of_decide_eq_true e)
  have h3 : putK [((.inr "wide" : Key), V.ref l), (.inr "cells", .ref c)] (.inr "rest") (.int r) = [(.inr "wide", .ref l), (.inr "cells", .ref c), (.inr "rest", .int r)] := by
    unfold putK
    rw [if_neg]
    · rfl
    · intro h
      obtain ⟨x, hx, e⟩ := List.any_eq_true.mp h
      simp at hx
      rcases hx with rfl | rfl
      · exact k_wide_rest (of_decide_eq_true e)
      · exact k_cells_rest (of_decide_eq_true e)
  have h4 : putK [((.inr "wide" : Key), V.ref l), (.inr "cells", .ref c), (.inr "rest", .int r)] (.inr "turn") (.int t) = drawK l c r t := by
    unfold putK
    rw [if_neg]
    · rfl
    · intro h
      obtain ⟨x, hx, e⟩ := List.any_eq_true.mp h
      simp at hx
      rcases hx with rfl | rfl | rfl
      · exact k_wide_turn (of_decide_eq_true e)
      · exact k_cells_turn (of_decide_eq_true e)
      · exact k_rest_turn (of_decide_eq_true e)
  have h0 : mergeK [] (drawK l c r t) = putK (putK (putK (putK ([] : List (Key × V)) (.inr "wide") (.ref l)) (.inr "cells") (.ref c)) (.inr "rest") (.int r)) (.inr "turn") (.int t) := rfl
  rw [h0, h1, h2, h3, h4]
theorem s_lcNew {σ : L2.St} {F H : Hp} {D : Ends} {te : TE} {tt : TT} {g : TG} {wi : TI} {vs : List Nat} {ds : List PyData} {i : Nat} (f : PyData → Bool) (e : PyData → PyData) (hw : EvW K wi σ F ds) (hl : ds.length < sizeLine)
    (hT : ∀ d F', d ∈ ds → Same F F' → Tk K g d (wipe σ vs) F' fun σ2 => wipe σ2 vs = wipe σ vs ∧ EvB tt σ2 F' (f d) ∧ (f d = true → EvD K te σ2 F' (e d))) (s : Same F H)
    (k : ∀ D' F' acc H', Grow F H F' H' → H D' = none → F' D' = none → H' D' = some (.lst acc) → DqAll K F' acc (made f e ds) → D.nx (σ.set i (some (.ref D'))) H') : tAsg (tLc wi g tt te vs) (gName i) D σ H := lc_new f e hw hl hT H s _ k
theorem pairs_c {v : V} {te : TE} {r : List (TE × TE)} {σ : L2.St} {H : Hp} {Q : List (V × V) → Hp → Prop} (h : te σ H fun y H2 => tPairs r σ H2 fun ps H3 => Q ((v, y) :: ps) H3) : tPairs ((tC v, te) :: r) σ H Q := h
def absI (i : Int) : Int := if i < 0 then -i else i
def spBegun (K : PySem.W.Frag) : Sp := fun vs H Q _ => ∃ (F : Hp) (x : V) (ns : List Int), Same F H ∧ vs = [x] ∧ Dq K F x (.list (ns.map .int)) ∧ ns.length < sizeLine ∧ ∀ a l c H', Same H H' → H a = none → H l = none → H c = none → DrawAt H' a l c 0 → Q (.ref a) H'
theorem ok__law_begun (F : Fun K "_law_begun" "_law_begun" s__law_begun f fd) (B : BI mg) : FnOk P w K mg base CX0 1 f fd ["script"] (spBegun K) := by
  refine F.ok sc__law_begun (fun vs H Q E h => by obtain ⟨_, x, _, _, e, _⟩ := h; rw [e]; rfl) (fun cdv A outer s H vs Q E hr h => ?_)
  obtain ⟨F0, x, ns, sm, ev, rx, hl, q⟩ := h
  subst ev
  refine ⟨_, (pss_cons (ps_setLc (i := 1) (own := [("grain", 2)]) (g := (gName 2)) rfl sc__law_begun.nd rfl rfl (sw_true rfl rfl rfl (by decide +kernel)) (pi_list (pv 0)) (blkOk_by (own := [("grain", 2)]) (N := ["script", "wide", "grain"]) (sc := defScope s__law_begun) (by decide +kernel)) (fun _ _ _ _ _ => (pg_name (i := 2) sc__law_begun.nd rfl (Or.inl rfl) (hf := (Or.inr rfl)))) (fun _ _ _ _ _ => (pts_one (pt_cmpR (op_ge) (pe_callB (call_abs) (by rfl) B.abs (by decide +kernel) (pa_cons (pv 2) pa_nil)) (pe_op (op_pow) pe_int pe_int) (nomark _)))) (fun _ _ _ _ _ => (pe_op (op_sub) (pe_callB (call_abs) (by rfl) B.abs (by decide +kernel) (pa_cons (pv 2) pa_nil)) (pe_op (op_pow) pe_int pe_int))))
        (pss_one (ps_ret (pe_disp (pps_cons pe_str (pv 1) (pps_cons pe_str (pe_lc (own := [("grain", 2)]) (g := (gName 2)) rfl sc__law_begun.nd (pi_list (pv 0)) (blkOk_by (own := [("grain", 2)]) (N := ["script", "wide", "grain"]) (sc := defScope s__law_begun) (by decide +kernel)) (fun _ _ _ _ _ => (pg_name (i := 2) sc__law_begun.nd rfl (Or.inl rfl) (hf := (Or.inr rfl)))) (fun _ _ _ _ _ => pts_nil) (fun _ _ _ _ _ => (pe_op (op_mod) (pe_callTy (call_int1) (by rfl) B.int_ (by decide +kernel) (pa_cons (pe_callB (call_abs) (by rfl) B.abs (by decide +kernel) (pa_cons (pv 2) pa_nil)) pa_nil)) pe_int))) (pps_cons pe_str pe_int (pps_cons pe_str pe_int pps_nil)))) (by rfl) (by rfl) (fun z => by cases z) (by decide))))), ?_⟩
  have ea : ∀ {y0 y1 : Option V} {i : Int} {F' : Hp}, EvD K (tCB rAbs (tCons (tVar 2) tNil)) [y0, y1, some (.int i)] F' (.int (absI i)) := fun {y0 y1 i F'} => ev1 (ev_var (i := 2) ⟨_, rfl, .int i⟩) rc_abs
  have e18 : ∀ {σ : L2.St} {F' : Hp}, EvD K (tOp (rI CPow fun i j => .int (i ^ j.toNat)) (tC (.int 10)) (tC (.int 18))) σ F' (.int (10 ^ 18)) := fun {σ F'} => ev_op ev_int ev_int (rv_intC (g := fun i j => i ^ j.toNat) ⟨by decide, by decide, by decide⟩)
  refine s_lcNew (K := K) (F := F0) (vs := [2]) (fun d => decide (absI (intD d) ≥ 10 ^ 18)) (fun d => .int (absI (intD d) - 10 ^ 18)) (ew_list (ev_var (i := 0) ⟨x, rfl, rx⟩)) (by rw [List.length_map]; exact hl) (fun d F' hd sF => ?_) sm fun l F1 acc H1 g1 n1 n2 e1 ra => ?_
  · obtain ⟨i, _, rfl⟩ := List.mem_map.mp hd
    refine (tk_name (i := 2)).imp fun σ2 hσ => ?_
    obtain ⟨v, rfl, rv⟩ := hσ
    cases rv
    exact ⟨rfl, eb_test (ev_op ea e18 (rv_bl (g := fun i j => decide (i ≥ j)))), fun _ => ev_op ea e18 (rv_int (g := fun i j => i - j))⟩
  · have mi : ∀ (f : PyData → Bool) (g : PyData → Int) (ds : List PyData), made f (fun d => .int (g d)) ds = ((ds.filter f).map g).map .int := fun f g ds => by
      unfold made
      rw [List.map_map]
      rfl
    rw [mi] at ra
    rw [dps_int ra] at e1
    refine fun p hp => ⟨.ref l, rfl, ?_⟩
    have hpl : p ≠ l := fun z => by
      rw [z, e1] at hp
      cases hp
    refine pairs_c ?_
    refine lc_new (K := K) (F := F1) (σ := [some x, some (.ref l), none]) (vs := [2]) (tt := tYes) (fun _ => true) (fun d => .int (absI (intD d) % 2147483629)) (ew_list (ev_var (i := 0) ⟨x, rfl, rx.up g1.f⟩)) (by rw [List.length_map]; exact hl) (fun d F' hd sF => ?_) _ (g1.i.trans (same_upd hp)) _ fun c F2 acc2 H2 g2 m1 m2 e2 ra2 => ?_
    · obtain ⟨i, _, rfl⟩ := List.mem_map.mp hd
      refine (tk_name (i := 2)).imp fun σ2 hσ => ?_
      obtain ⟨v, rfl, rv⟩ := hσ
      cases rv
      exact ⟨rfl, eb_yes, fun _ => ev_op (ev1 (ea (y0 := some x) (y1 := some (.ref l))) rc_int) (ev_int (i := 2147483629)) (rv_intC (C := fun _ j => 0 < j) (g := fun i j => i % j) (by decide))⟩
    · rw [mi] at ra2
      rw [dps_int ra2] at e2
      have hpc : p ≠ c := fun z => by
        rw [← z, upd_same] at m1
        cases m1
      have hlc : l ≠ c := fun z => by
        rw [← z, upd_at hpl.symm e1] at m1
        cases m1
      refine ⟨g2.h _ _ upd_same, drawK l c 0 0, rfl, by show 4 ≤ 15; decide, ?_⟩
      rw [merge_draw]
      have hp0 : H p = none := g1.h.free hp
      refine q p l c _ (same_own (g1.h.trans ((same_upd hp).trans g2.h)) hp0) hp0 n1 (g1.h.free ?_) ⟨_, _, 0, 0, ⟨upd_same, upd_at hpl.symm (g2.h _ _ (upd_at hpl.symm e1)), upd_at hpc.symm e2, hpl, hpc, hlc⟩, Int.le_refl _, by decide⟩
      have := m1
      rw [upd_ne hpc.symm] at this
      exact this
end
end Sx
set_option Elab.async false
set_option linter.all false
set_option maxRecDepth 100000
set_option maxHeartbeats 1000000
set_option exponentiation.threshold 3000
namespace Sx
open PySem PySem.Spec PyProof.Rows L2
open C8 (Cal pe_c pe_gc)
section
variable {P : Program} {w : World} {K : PySem.W.Frag} {mg : Str → Option Value} {base : Heap} {f : Addr} {fd : FuncData} {aK CK CN CS : Addr}
theorem DrawAt.fresh {H : Hp} {a l c b : Addr} {n : Nat} (D : DrawAt H a l c n) (h : H b = none) : b ≠ a ∧ b ≠ l ∧ b ≠ c := by
  obtain ⟨ws, cs, r, t, D, _⟩ := D
  refine ⟨fun z => ?_, fun z => ?_, fun z => ?_⟩
  · rw [z, D.d] at h; cases h
  · rw [z, D.w] at h; cases h
  · rw [z, D.cl] at h; cases h
theorem DrawAt.other {H : Hp} {a l c b : Addr} {n : Nat} {o : HO} (D : DrawAt H a l c n) (h : b ≠ a ∧ b ≠ l ∧ b ≠ c) : DrawAt (upd H b o) a l c n := by
  obtain ⟨ws, cs, r, t, D, e1, e2⟩ := D
  exact ⟨ws, cs, r, t, ⟨upd_at h.1.symm D.d, upd_at h.2.1.symm D.w, upd_at h.2.2.symm D.cl, D.al, D.ac, D.lc⟩, e1, e2⟩
theorem DrawAt.same {H H' : Hp} {a l c : Addr} {n : Nat} (D : DrawAt H a l c n) (s : Same H H') : DrawAt H' a l c n := by
  obtain ⟨ws, cs, r, t, D, e1, e2⟩ := D
  exact ⟨ws, cs, r, t, D.same s, e1, e2⟩
theorem Keeps.other {H H' : Hp} {a l b : Addr} {o : HO} (k : Keeps a l H H') (hb : H b = none) : Keeps a l H (upd H' b o) := fun x u h1 h2 e => by
  rw [upd_ne (ne_of_none e hb)]
  exact k x u h1 h2 e
/-- one list alone is known -/
theorem same_one {H : Hp} {p : Addr} {o : HO} (h : H p = some o) : Same (upd (fun _ => none) p o) H := fun b x e => by
  by_cases hb : b = p
  · rw [hb, upd_same] at e
    rw [hb, h]
    exact e
  · rw [upd_ne hb] at e
    cases e
theorem one_free {p b : Addr} {o : HO} (h : b ≠ p) : upd (fun _ => none : Hp) p o b = none := by
  rw [upd_ne h]
theorem Keeps.free {H H' : Hp} {a l b : Addr} (k : Keeps a l H H') (ha : b ≠ a) (hl : b ≠ l) (h : H' b = none) : H b = none := by
  cases z : H b with
  | none => rfl
  | some o =>
    rw [k b o ha hl z] at h
    cases h
theorem zip_snoc {α β γ : Type} (g : α → β → γ) : ∀ (us : List β) (ts : List α) (u : β) (i : Nat) (hu : us.length = i) (h : i < ts.length), List.zipWith g ts (us ++ [u]) = List.zipWith g ts us ++ [g ts[i] u]
  | [], t :: ts, u, 0, _, _ => by simp
  | _ :: us, t :: ts, u, i + 1, hu, h => congrArg (_ :: ·) (zip_snoc g us ts u i (Nat.succ.inj hu) (Nat.lt_of_succ_lt_succ h))
theorem zip_take {α β γ : Type} (g : α → β → γ) : ∀ (ts : List α) (us : List β) (m : Nat), us.length ≤ m → List.zipWith g (ts.take m) us = List.zipWith g ts us
  | [], us, m, _ => by simp
  | t :: ts, [], m, _ => by simp
  | t :: ts, u :: us, 0, h => absurd h (Nat.not_succ_le_zero _)
  | t :: ts, u :: us, m + 1, h => congrArg (_ :: ·) (zip_take g ts us m (Nat.le_of_succ_le_succ h))
/-! ### _law_names -/
abbrev s__law_names : Stmt := top 35
theorem sc__law_names : FnScope ["draw", "many", "some", "one", "stem", "other"] ["draw", "many"] (defScope s__law_names) := ⟨rfl, rfl, rfl, by decide +kernel, rfl, by decide +kernel, by decide +kernel⟩
def consS : Str := "bcdfghklmnprstvwxz"
def vowS : Str := "aeiou"
def chS (z : Str) : List Str := z.cps.toList.map fun c => ⟨#[c]⟩
def stemsTo (i : Nat) : List Str := ((chS consS).take i).flatMap fun c => (chS vowS).map fun v => c ++ v
def sufs : List Str := ["q", "k", "x", "mu"]
abbrev rAddS : R2 := fun x y H Q => ∃ i j : Str, x = .str i ∧ y = .str j ∧ i.length + j.length ≤ sizeLine ∧ Q (.str (i ++ j)) H
structure Names (m : Nat) (out : List Str) : Prop where
  ex : ∃ fs us : List Str, fs.Perm (stemsTo 18) ∧ us.length = out.length ∧ (∀ u ∈ us, u ∈ sufs) ∧ out = List.zipWith (· ++ ·) fs us ∧ out.length = min m 90
theorem stems_len : (stemsTo 18).length = 90 := by decide +kernel
theorem stems_lay : ∀ s ∈ stemsTo 18, PyData.canLay0 (.str s) = true := by decide +kernel
theorem stems_two : ∀ s ∈ stemsTo 18, s.length = 2 := by decide +kernel
def spNames : Sp := fun vs H Q _ => ∃ (a l c : Addr) (n m : Nat), vs = [.ref a, .int (m : Int)] ∧ m ≤ 90 ∧ DrawAt H a l c n ∧ n + 2000 ≤ 2 ^ 40 ∧ ∀ (p : Addr) (out : List Str) (H' : Hp), Names m out → H p = none → Keeps a l H H' → DrawAt H' a l c (n + 90 + m) → H' p = some (.lst (out.map V.str)) → Q (.ref p) H'
theorem ok__law_names (F : Fun K "_law_names" "_law_names" s__law_names f fd) (B : BI mg) (c__law_shuffled : Cal P w K mg base 3 "_law_shuffled" (spShuf K) []) (c__law_pick : Cal P w K mg base 3 "_law_pick" (spPick K) []) : FnOk P w K mg base CX0 4 f fd ["draw", "many"] spNames := by
  refine F.ok sc__law_names (fun vs H Q E h => by obtain ⟨a, _, _, _, m, e, _⟩ := h; rw [e]; rfl) (fun cdv A outer s H vs Q E hr h => ?_)
  obtain ⟨a, l, c, n, m, ev, hm, D, hn, q⟩ := h
  subst ev
  refine ⟨_, (pss_cons (ps_set (i := 2) sc__law_names.nd rfl (Or.inl rfl) (pe_lst pa_nil))
        (pss_cons (ps_for PassesOwn.never rfl (pi_str pe_str) (pg_name (i := 3) sc__law_names.nd rfl (Or.inr rfl) (hf := (Or.inl rfl))) (pss_one (ps_set (i := 2) sc__law_names.nd rfl (Or.inl rfl) (pe_op op_cat (pv 2) (pe_lc (own := [("other", 5)]) (g := (gName 5)) rfl sc__law_names.nd (pi_str pe_str) (blkOk_by (own := [("other", 5)]) (N := ["draw", "many", "some", "one", "stem", "other"]) (sc := defScope s__law_names) (by decide +kernel)) (fun _ _ _ _ _ => (pg_name (i := 5) sc__law_names.nd rfl (Or.inl rfl) (hf := (Or.inr rfl)))) (fun _ _ _ _ _ => pts_nil) (fun _ _ _ _ _ => (pe_op op_add_str (pv 3) (pv 5))))))))
        (pss_one (ps_ret (pe_lc (own := [("stem", 4)]) (g := (gName 4)) rfl sc__law_names.nd (pi_list (pe_slice (r := rSlL K) sl_list (pe_c c__law_shuffled hr (by first | decide | omega) (by rfl) (pa_cons (pv 0) (pa_cons (pv 2) pa_nil))) po_none (po_some (pv 1)))) (blkOk_by (own := [("stem", 4)]) (N := ["draw", "many", "some", "one", "stem", "other"]) (sc := defScope s__law_names) (by decide +kernel)) (fun _ _ _ _ _ => (pg_name (i := 4) sc__law_names.nd rfl (Or.inl rfl) (hf := (Or.inr rfl)))) (fun _ _ _ _ _ => pts_nil) (fun _ _ _ _ _ => (pe_op op_add_str (pv 4) (pe_c c__law_pick hr (by first | decide | omega) (by rfl) (pa_cons (pv 0) (pa_cons (pe_lst (pa_cons pe_str (pa_cons pe_str (pa_cons pe_str (pa_cons pe_str pa_nil))))) pa_nil)))))))))), ?_⟩
  refine ⟨Nat.zero_le _, fun p0 hp0 => ?_⟩
  have s1 : Same H (upd H p0 (.lst [])) := same_upd hp0
  refine s_for (K := K) (F := H) (ds := signs consS) s1 (ew_str (x := consS) ev_str) fun F2 H2 g2 =>
    ⟨fun i σ' F' H' => F' = F2 ∧ Same F2 H' ∧ Same H H' ∧ ∃ p y3 y4 y5, σ' = [some (.ref a), some (.int (m : Int)), some (.ref p), y3, y4, y5] ∧ H' p = some (.lst ((stemsTo i).map V.str)) ∧ H p = none,
      ⟨rfl, g2.i, s1.trans g2.h, p0, _, _, _, rfl, g2.h _ _ upd_same, hp0⟩, fun i σ' F' H' h => ⟨by rw [h.1]; exact Same.refl _, by rw [h.1]; exact h.2.1⟩, fun i d σ' F' H' hd hI F3 H3 v g3 rv => ?_, fun σ' F' H' hI => ?_⟩
  · obtain ⟨rfl, sF, sH, p, y3, y4, y5, rfl, ep, hpn⟩ := hI
    have hone : ∃ one, (chS consS)[i]? = some one ∧ d = .str one := by
      unfold signs at hd
      unfold chS
      rw [List.getElem?_map] at hd ⊢
      cases hz : consS.cps.toList[i]? with
      | none => rw [hz] at hd; cases hd
      | some c => rw [hz] at hd; cases hd; exact ⟨_, rfl, rfl⟩
    obtain ⟨one, h1, rfl⟩ := hone
    cases rv
    have hi : i < 18 := by
      have := (List.getElem?_eq_some_iff.mp h1).1
      have e : (chS consS).length = 18 := by decide +kernel
      omega
    have hol : one.length = 1 := by
      have : ∀ x ∈ chS consS, x.length = 1 := by decide +kernel
      exact this _ (List.mem_of_getElem? h1)
    have s3 := sF.trans g3.h
    have sH3 := sH.trans g3.h
    have ep3 := g3.h _ _ ep
    refine ⟨.ref p, rfl, ?_⟩
    refine lc_new (K := K) (F := F3) (σ := [some (.ref a), some (.int (m : Int)), some (.ref p), some (.str one), y4, y5]) (vs := [5]) (tt := tYes) (fun _ => true) (fun d => .str (one ++ (match d with | .str x => x | _ => ""))) (ew_str (x := vowS) ev_str) (by show 5 < sizeLine; decide) (fun d F4 hd sF4 => ?_) _ g3.i _ fun b F4 acc H4 g4 b1 b2 eb ra => ?_
    · unfold signs at hd
      obtain ⟨c, hc, rfl⟩ := List.mem_map.mp hd
      refine (tk_name (i := 5)).imp fun σ2 hσ => ?_
      obtain ⟨v, rfl, rv⟩ := hσ
      cases rv
      refine ⟨rfl, eb_yes, fun _ => ev_op (ev_var (i := 3) ⟨_, rfl, .str one⟩) (ev_var (i := 5) ⟨_, rfl, .str _⟩) (rv_addS ?_)⟩
      rw [hol]
      show 2 ≤ sizeLine
      decide
    · have em : made (fun _ => true) (fun d => PyData.str (one ++ (match d with | .str x => x | _ => ""))) (signs vowS) = ((chS vowS).map fun v => one ++ v).map .str := by
        rw [made_map]
        unfold signs chS
        rw [List.map_map, List.map_map, List.map_map]
        rfl
      rw [em] at ra
      rw [dps_str ra] at eb
      refine ⟨p, b, _, _, rfl, rfl, g4.h _ _ ep3, eb, ?_, fun p2 hp2 => ?_⟩
      · have hs : ∀ j, j ≤ 18 → (stemsTo j).length + 5 ≤ 1000 := by decide +kernel
        have := small1000 (hs i (by omega))
        rw [List.length_map, List.length_map, List.length_map]
        have e5 : (chS vowS).length = 5 := by decide +kernel
        omega
      · refine ⟨_, rfl, (s3.trans g4.h).trans (same_upd hp2), (sH3.trans g4.h).trans (same_upd hp2), p2, _, _, _, rfl, ?_, (sH3.trans g4.h).free hp2⟩
        rw [upd_same, ← List.map_append]
        have e : stemsTo (i + 1) = stemsTo i ++ (chS vowS).map fun v => one ++ v := by
          unfold stemsTo
          rw [List.take_add_one, h1, List.flatMap_append]
          show _ ++ (_ ++ []) = _
          rw [List.append_nil]
        rw [e]
  · obtain ⟨rfl, sF, sH, p, y3, y4, y5, rfl, ep, hpn⟩ := hI
    have hlen : (signs consS).length = 18 := by decide +kernel
    rw [hlen] at ep
    have DH := D.same sH
    have hpa := D.fresh hpn
    have stl := stems_len
    refine ⟨.ref a, rfl, .ref p, rfl, ?_⟩
    refine ⟨upd (fun _ => none) p (.lst ((stemsTo 18).map V.str)), a, l, c, n, .ref p, stemsTo 18, same_one ep, one_free hpa.1.symm, one_free hpa.2.1.symm, rfl, .lst (.inl (.inl upd_same)) (dps_ofStr _), by omega, stems_lay, DH, by omega, fun pf fs H4 pm hpf k4 D4 e4 => ?_⟩
    rw [stl] at D4
    refine ⟨.int (m : Int), rfl, (m : Int), rfl, pf, _, rfl, .inl (.inl e4), fun p5 hp5 => ?_⟩
    have ecut : cutV (fs.map V.str) none (some (m : Int)) = (fs.take m).map V.str := by
      unfold cutV
      rw [HT.sIx_none, HT.sIx_nat, List.drop_zero, Nat.sub_zero, List.map_take, List.length_map]
      by_cases h : m ≤ fs.length
      · rw [Nat.min_eq_left h]
      · rw [Nat.min_eq_right (by omega), List.take_of_length_le (by rw [List.length_map]; exact Nat.le_refl _), List.take_of_length_le (by rw [List.length_map]; omega)]
    rw [ecut]
    have fl : fs.length = 90 := by rw [pm.length_eq, stl]
    obtain ⟨ts, hts⟩ : ∃ ts, ts = fs.take m := ⟨_, rfl⟩
    have tl : ts.length = m := by rw [hts, List.length_take, fl, Nat.min_eq_left hm]
    have t2 : ∀ x ∈ ts, x.length = 2 := fun x hx => stems_two x (pm.mem_iff.mp (List.mem_of_mem_take (hts ▸ hx)))
    rw [← hts]
    have f5 := D4.fresh hp5
    have D5 := D4.other (o := .lst (ts.map V.str)) f5
    have kH4 : Keeps a l H H4 := (Keeps.of sH).trans k4
    have p50 : H p5 = none := kH4.free f5.1 f5.2.1 hp5
    have k5 : Keeps a l H (upd H4 p5 (.lst (ts.map V.str))) := kH4.other p50
    have e5 : upd H4 p5 (.lst (ts.map V.str)) p5 = some (.lst (ts.map V.str)) := upd_same
    generalize upd H4 p5 (.lst (ts.map V.str)) = H5 at D5 k5 e5
    refine ⟨p5, rfl, ⟨_, .inl (.inl e5)⟩, fun Dd hD => ?_⟩
    have fD := D5.fresh hD
    have nD5 : p5 ≠ Dd := fun z => by rw [z, hD] at e5; cases e5
    have hD0 : H Dd = none := k5.free fD.1 fD.2.1 hD
    refine ⟨fun i k H6 => k = m - i ∧ i ≤ m ∧ ∃ us : List Str, us.length = i ∧ (∀ u ∈ us, u ∈ sufs) ∧ Keeps a l H H6 ∧ DrawAt H6 a l c (n + 90 + i) ∧ H6 p5 = some (.lst (ts.map V.str)) ∧ H6 Dd = some (.lst ((List.zipWith (· ++ ·) ts us).map V.str)),
      ⟨m, by omega, Nat.zero_le _, [], rfl, fun u hu => by simp at hu, k5.other hD0, D5.other fD, upd_at nD5 e5, ?_⟩, fun i k H6 hW => ?_⟩
    · rw [upd_same, List.zipWith_nil_right]
      rfl
    obtain ⟨rfl, hi, us, ul, hus, k6, D6, e6, o6⟩ := hW
    have sq : SqL K H6 p5 (ts.map V.str) := .inl (.inl e6)
    by_cases hlt : i < m
    · have hti : i < ts.length := by omega
      have hx : (ts.map V.str)[i]? = some (.str ts[i]) := by
        rw [List.getElem?_map, List.getElem?_eq_getElem hti]
        rfl
      refine .inr ⟨⟨_, _, sq, hx⟩, fun H6 => ∃ us : List Str, us.length = i + 1 ∧ (∀ u ∈ us, u ∈ sufs) ∧ Keeps a l H H6 ∧ DrawAt H6 a l c (n + 90 + (i + 1)) ∧ H6 p5 = some (.lst (ts.map V.str)) ∧ H6 Dd = some (.lst ((List.zipWith (· ++ ·) ts us).map V.str)), fun H7 h7 => ⟨m - (i + 1), by omega, rfl, hlt, h7⟩, fun x H7 hy => ?_⟩
      obtain ⟨rfl, hy⟩ := hy
      have ex := Option.some.inj ((hy _ sq).symm.trans hx)
      subst ex
      refine ⟨rfl, yes_then ?_⟩
      refine ⟨_, rfl, .ref a, rfl, (by show 4 ≤ sizeLine; decide), fun qq hqq => ?_⟩
      have fq := D6.fresh hqq
      refine ⟨upd (fun _ => none) qq (.lst [.str "q", .str "k", .str "x", .str "mu"]), a, l, c, n + 90 + i, .ref qq, sufs.map .str, same_one upd_same, one_free fq.1.symm, one_free fq.2.1.symm, rfl, .lst (.inl (.inl upd_same)) (dps_ofStr sufs), by decide, by decide, D6.other fq, by omega, fun d v H8 hd hv k8 D8 => ?_⟩
      obtain ⟨u, hu, rfl⟩ := List.mem_map.mp hd
      cases hv
      have q0 : H qq = none := k6.free fq.1 fq.2.1 hqq
      have nq5 : p5 ≠ qq := fun z => by rw [z, hqq] at e6; cases e6
      have nqD : Dd ≠ qq := fun z => by rw [z, hqq] at o6; cases o6
      have e8 := k8 _ _ f5.1 f5.2.1 (upd_at nq5 e6)
      have o8 := k8 _ _ fD.1 fD.2.1 (upd_at nqD o6)
      have u2 : ∀ u ∈ sufs, u.length ≤ 2 := by decide +kernel
      refine ⟨ts[i], u, rfl, rfl, ?_, _, o8, ?_, us ++ [u], ?_, ?_, ((k6.other q0).trans k8).other hD0, ?_, upd_at nD5 e8, ?_⟩
      · have a1 := t2 _ (List.getElem_mem hti)
        have a2 := u2 u hu
        have := small1000 (n := 4) (by decide)
        omega
      · rw [List.length_map, List.length_zipWith]
        exact small1000 (by omega)
      · rw [List.length_append, ul]
        rfl
      · intro z hz
        rcases List.mem_append.mp hz with h | h
        · exact hus z h
        · rw [List.mem_singleton.mp h]
          exact hu
      · have : n + 90 + i + 1 = n + 90 + (i + 1) := by omega
        rw [← this]
        exact D8.other fD
      · rw [upd_same]
        have z : List.zipWith (· ++ ·) ts (us ++ [u]) = List.zipWith (· ++ ·) ts us ++ [ts[i] ++ u] := by
          exact zip_snoc (· ++ ·) us ts u i ul hti
        rw [z, List.map_append]
        rfl
    · have ei : i = m := by omega
      subst ei
      refine .inl ⟨⟨_, sq, by rw [List.length_map]; omega⟩, q Dd _ H6 ⟨fs, us, pm, ?_, hus, ?_, ?_⟩ hD0 k6 D6 o6⟩
      · rw [List.length_zipWith]
        omega
      · rw [hts]
        exact (zip_take (· ++ ·) fs us i (by omega))
      · rw [List.length_zipWith]
        omega
end
end Sx
set_option Elab.async false
set_option linter.all false
set_option maxRecDepth 100000
set_option maxHeartbeats 1000000
set_option exponentiation.threshold 3000
namespace Sx
open PySem PySem.Spec PyProof.Rows L2
open C8 (Cal pe_c pe_gc)
/-! ### names and ranks are kinds -/
theorem stems_nodup : (stemsTo 18).Nodup := by decide +kernel
theorem stems_names : ∀ s ∈ stemsTo 18, ∀ u ∈ sufs, isName (.str (s ++ u)) = true := by decide +kernel
theorem str_cut {s u s' u' : Str} (h : s.length = 2) (h' : s'.length = 2) (e : s ++ u = s' ++ u') : s = s' := by
  obtain ⟨a⟩ := s
  obtain ⟨b⟩ := s'
  have e' : a ++ u.cps = b ++ u'.cps := congrArg Str.cps e
  have h1 : a.size = 2 := h
  have h2 : b.size = 2 := h'
  have z := (Array.append_inj e' (by omega)).1
  rw [z]
theorem zip_nodup : ∀ (fs us : List Str), fs.Nodup → (∀ s ∈ fs, s.length = 2) → (List.zipWith (· ++ ·) fs us).Nodup
  | [], us, _, _ => by simp
  | f :: fs, [], _, _ => by simp
  | f :: fs, u :: us, hn, h2 => by
    rw [List.nodup_cons] at hn
    show ((f ++ u) :: List.zipWith (· ++ ·) fs us).Nodup
    rw [List.nodup_cons]
    refine ⟨fun hm => ?_, zip_nodup fs us hn.2 fun s hs => h2 s (List.mem_cons_of_mem _ hs)⟩
    obtain ⟨i, hi⟩ := List.getElem?_of_mem hm
    rw [List.getElem?_zipWith] at hi
    cases h1 : fs[i]? with
    | none => rw [h1] at hi; cases hi
    | some s =>
      cases h3 : us[i]? with
      | none => rw [h1, h3] at hi; cases hi
      | some v =>
        rw [h1, h3] at hi
        have hm := List.mem_of_getElem? h1
        have e : s ++ v = f ++ u := Option.some.inj hi
        have := str_cut (h2 s (List.mem_cons_of_mem _ hm)) (h2 f List.mem_cons_self) e
        exact hn.1 (this ▸ hm)
theorem names_all {m : Nat} {out : List Str} (h : Names m out) : out.Nodup ∧ ∀ x ∈ out, isName (.str x) = true := by
  obtain ⟨fs, us, pm, hl, hus, rfl, _⟩ := h.ex
  refine ⟨zip_nodup fs us (pm.nodup_iff.mpr stems_nodup) (fun s hs => stems_two s (pm.mem_iff.mp hs)), fun x hx => ?_⟩
  obtain ⟨i, hi⟩ := List.getElem?_of_mem hx
  rw [List.getElem?_zipWith] at hi
  cases h1 : fs[i]? with
  | none => rw [h1] at hi; cases hi
  | some s =>
    cases h3 : us[i]? with
    | none => rw [h1, h3] at hi; cases hi
    | some v =>
      rw [h1, h3] at hi
      have e : s ++ v = x := Option.some.inj hi
      rw [← e]
      exact stems_names s (pm.mem_iff.mp (List.mem_of_getElem? h1)) v (hus v (List.mem_of_getElem? h3))
theorem lt_or : ∀ a b : List Nat, ltCps b a = false → a ≠ b → ltCps a b = true
  | [], [], _, h => absurd rfl h
  | [], _ :: _, _, _ => rfl
  | _ :: _, [], h, _ => nomatch h
  | a :: r, b :: t, h, hn => by
    have h' : (decide (b < a) || (b == a && ltCps t r)) = false := h
    rw [Bool.or_eq_false_iff, decide_eq_false_iff_not] at h'
    show (decide (a < b) || (a == b && ltCps r t)) = true
    by_cases e : a = b
    · subst e
      have h2 := h'.2
      rw [beq_self_eq_true, Bool.true_and] at h2
      rw [beq_self_eq_true, Bool.true_and, lt_or r t h2 fun z => hn (by rw [z]), Bool.or_true]
    · rw [decide_eq_true (by omega), Bool.true_or]
theorem rises_cons (x y : PyData) (r : List PyData) : risesD (x :: y :: r) = (lt2 x y && risesD (y :: r)) := rfl
theorem rises_sorted : ∀ (x : Str) (r : List Str), risingS x r = true → (x :: r).Nodup → risesD ((x :: r).map .str) = true
  | _, [], _, _ => rfl
  | x, y :: r, h, hn => by
    have h' : (!ltCps y.cps.toList x.cps.toList && risingS y r) = true := h
    rw [Bool.and_eq_true, Bool.not_eq_true'] at h'
    rw [List.nodup_cons] at hn
    have ne : x.cps.toList ≠ y.cps.toList := fun z => by
      obtain ⟨a⟩ := x
      obtain ⟨b⟩ := y
      have z' : a = b := Array.toList_inj.mp z
      exact hn.1 (by rw [z']; exact List.mem_cons_self)
    show risesD (.str x :: .str y :: r.map .str) = true
    rw [rises_cons]
    have h3 := rises_sorted y r h'.2 hn.2
    have h4 : lt2 (.str x) (.str y) = true := by
      show decide (x.cps.toList < y.cps.toList) = true
      rw [← PyProof.Rows.ltCps_eq]
      exact lt_or _ _ h'.1 ne
    rw [h4, Bool.true_and]
    exact h3
theorem kinds_ok {m : Nat} {out ys : List Str} {rk : List Int} (h : Names m out) (hm : 1 ≤ m ∧ m ≤ 6) (pm : ys.Perm out) (hs : sortedS ys = true) (hl : rk.length = m) (hr : ∀ r ∈ rk, 0 ≤ r ∧ r ≤ 3) (h0 : (0 : Int) ∈ rk) : isKinds (.tuple (pairs (ys.map .str) (rk.map .int))) = true := by
  obtain ⟨nd, nm⟩ := names_all h
  obtain ⟨_, _, _, _, _, _, ol⟩ := h.ex
  have yl : ys.length = m := by rw [pm.length_eq, ol]; omega
  have e1 : (pairs (ys.map .str) (rk.map .int)).map fstD = ys.map .str := by
    unfold pairs
    rw [List.map_zipWith]
    refine List.ext_getElem? fun i => ?_
    rw [List.getElem?_zipWith]
    by_cases hi : i < m
    · rw [List.getElem?_map, List.getElem?_map, List.getElem?_eq_getElem (by omega), List.getElem?_eq_getElem (by omega)]
      rfl
    · rw [List.getElem?_eq_none (show (ys.map PyData.str).length ≤ i by rw [List.length_map]; omega)]
  have e2 : (pairs (ys.map .str) (rk.map .int)).map sndD = rk.map .int := by
    unfold pairs
    rw [List.map_zipWith]
    refine List.ext_getElem? fun i => ?_
    rw [List.getElem?_zipWith]
    by_cases hi : i < m
    · rw [List.getElem?_map, List.getElem?_map, List.getElem?_eq_getElem (by omega), List.getElem?_eq_getElem (by omega)]
      rfl
    · rw [List.getElem?_eq_none (show (ys.map PyData.str).length ≤ i by rw [List.length_map]; omega), List.getElem?_eq_none (show (rk.map PyData.int).length ≤ i by rw [List.length_map]; omega)]
  have pl : (pairs (ys.map .str) (rk.map .int)).length = m := by
    rw [pairs_len, List.length_map, List.length_map]
    omega
  show ((decide (1 ≤ (((pairs (ys.map .str) (rk.map .int)).length : Nat) : Int)) && decide ((((pairs (ys.map .str) (rk.map .int)).length : Nat) : Int) ≤ 6)) && ((pairs (ys.map .str) (rk.map .int)).all isKind && (risesD ((pairs (ys.map .str) (rk.map .int)).map fstD) && ((pairs (ys.map .str) (rk.map .int)).map sndD).any isZero))) = true
  rw [e1, e2, pl, decide_eq_true (by omega), decide_eq_true (by omega), Bool.true_and, Bool.true_and, Bool.and_eq_true, Bool.and_eq_true]
  refine ⟨List.all_eq_true.mpr fun d hd => ?_, ?_, ?_⟩
  · obtain ⟨i, hi⟩ := List.getElem?_of_mem hd
    obtain ⟨a, b, ha, hb, rfl⟩ := pairs_get hi
    obtain ⟨x, hx, rfl⟩ := List.mem_map.mp (List.mem_of_getElem? ha)
    obtain ⟨r, hrm, rfl⟩ := List.mem_map.mp (List.mem_of_getElem? hb)
    show (isName (.str x) && (decide (0 ≤ r) && decide (r ≤ 3))) = true
    rw [nm x (pm.mem_iff.mp hx), decide_eq_true (hr r hrm).1, decide_eq_true (hr r hrm).2]
    rfl
  · cases ys with
    | nil =>
      have : m = 0 := yl.symm
      omega
    | cons y r => exact rises_sorted y r hs (pm.nodup_iff.mpr nd)
  · exact List.any_eq_true.mpr ⟨.int 0, List.mem_map.mpr ⟨0, h0, rfl⟩, rfl⟩
end Sx
set_option Elab.async false
set_option linter.all false
set_option maxRecDepth 100000
set_option maxHeartbeats 1000000
set_option exponentiation.threshold 3000
namespace Sx
open PySem PySem.Spec PyProof.Rows L2 LamX
open C8 (Cal pe_c pe_gc)
/-! ### _law_caught -/
abbrev s__law_caught : Stmt := top 34
theorem sc__law_caught : FnScope ["work", "error", "caught"] ["work"] (defScope s__law_caught) := ⟨rfl, rfl, rfl, by decide +kernel, rfl, by decide +kernel, by decide +kernel⟩
/-- told: what comes back, None, or the error -/
def TTc (K : PySem.W.Frag) (CS : Addr) : (XK → Hp → VK → Prop) → Hp → VK → Prop := fun tl H Q =>
  tl (fun cls d H' => PySem.W.exmOne K cls (.ref CS) = some true ∧ ∀ a, H' a = none → Q (.ref a) (upd H' a (ExT cls d a))) H (fun _ H' => Q .non H')
theorem takes_len {X : Cx} {W : WX} (t : Takes X W) : Takes X (fun cls d σ H => σ.length = X.N.length → W cls d σ H) := fun u s' h => by
  obtain ⟨a, B, sI, pins, σ, H, cls, d, e, I, nb, up, sky, na, os, ag, w⟩ := h
  exact t u s' ⟨a, B, sI, pins, σ, H, cls, d, e, I, nb, up, sky, na, os, ag, w I.len⟩
theorem three {σ : L2.St} (h : σ.length = 3) : ∃ x y z, σ = [x, y, z] := by
  match σ, h with
  | [x, y, z], _ => exact ⟨x, y, z, rfl⟩
theorem caught_gives {X : Cx} {q : Str} {g CS : Addr} {cdg : Value} (hme : X.mg "WritingError" = some (.ref CS)) :
    GivesTo X ["work", "error", "caught"] "_law_caught" (defScope s__law_caught) g cdg (defBody s__law_caught) "work" q (TTc X.K CS) := by
  intro f c' s H Q tl act hc h
  refine ⟨_, pss_cons (ps_set (i := 1) sc__law_caught.nd rfl (Or.inl rfl) pe_non)
    (pss_cons (ps_try_keep (X := (cxOf C8.CX0 X.prog X.w X.K X.mg X.base ["work", "error", "caught"] "_law_caught" (defScope s__law_caught) g cdg X.A X.stack s H C8.E0).nox) (i := 2) (c := .ref CS)
      (tb := fun W D σ H => ∃ Ech : XK, (∀ cls d σ' H', Ech cls d H' → σ'.length = 3 → W cls d σ' H') ∧ σ[0]? = some (some (.ref f)) ∧ H c' = some (CodeO c' q) ∧ tl Ech H fun _ H' => D.nx σ H')
      rfl rfl sc__law_caught.nd rfl rfl ⟨by rfl, by decide, .inl hme⟩ rfl (fun W pn xe tk _ => ?_) (fun a oe cls d pn _ _ => pss_one (ps_set (i := 1) sc__law_caught.nd rfl (Or.inl rfl) (pv 2))))
    (pss_one (ps_ret (pv 1)))), ?_⟩
  · refine ⟨fun pins s' σ H' D I h' => ?_⟩
    obtain ⟨Ech, hW, h1, h2, h3⟩ := h'
    exact (pss_one (ps_expr (act (fun cls d σ H => σ.length = 3 → W cls d σ H) pn xe Ech _ _ (takes_len tk) hW))).run pins s' σ H' D I ⟨h1, h2, h3⟩
  · refine ⟨fun cls d H' => PySem.W.exmOne X.K cls (.ref CS) = some true ∧ ∀ a, H' a = none → Q (.ref a) (upd H' a (ExT cls d a)), fun cls d σ' H' ⟨e1, e2⟩ hl => ⟨e1, fun a ha => ?_⟩, rfl, hc, ?_⟩
    · obtain ⟨x, y, z, rfl⟩ := three hl
      exact ⟨.ref a, rfl, .ref a, rfl, e2 a ha⟩
    · have e : (fun (_ : V) (H' : Hp) => Q V.non H') = fun (_ : V) (H' : Hp) => ∃ v, ([some (V.ref f), some V.non, none] : L2.St)[1]? = some (some v) ∧ Q v H' := by
        funext _ H'
        refine propext ⟨fun q => ⟨.non, rfl, q⟩, fun ⟨v, e, q⟩ => ?_⟩
        cases e
        exact q
      have h' := h
      unfold TTc at h'
      rw [e] at h'
      exact h'
end Sx
set_option Elab.async false
set_option linter.all false
set_option maxRecDepth 100000
set_option maxHeartbeats 2000000
namespace Sx
open PySem PySem.Spec PyProof.Rows L2
open C8 (Cal pe_c pe_gc)
/-! ### how much a datum holds -/
mutual
def weight : PyData → Nat
  | .str x => 1 + x.length
  | .list ds => 1 + weights ds
  | .tuple ds => 1 + weights ds
  | _ => 1
def weights : List PyData → Nat
  | [] => 0
  | d :: ds => weight d + weights ds
end
theorem weight_pos (d : PyData) : 1 ≤ weight d := by cases d <;> simp only [weight] <;> omega
theorem weights_mem : ∀ {ds : List PyData} {d : PyData}, d ∈ ds → weight d ≤ weights ds
  | [], _, h => nomatch h
  | a :: r, d, h => by
    simp only [weights]
    rcases List.mem_cons.mp h with e | e
    · rw [e]; omega
    · have := weights_mem e
      omega
theorem weights_len : ∀ ds : List PyData, ds.length ≤ weights ds
  | [] => Nat.le_refl _
  | a :: r => by
    have := weights_len r
    have := weight_pos a
    simp only [weights, List.length_cons]
    omega
theorem weights_app : ∀ ds es : List PyData, weights (ds ++ es) = weights ds + weights es
  | [], es => by simp only [List.nil_append, weights, Nat.zero_add]
  | a :: r, es => by simp only [List.cons_append, weights, weights_app r es, Nat.add_assoc]
/-- not large -/
def fitsA (d : PyData) : Bool := decide (weight d ≤ 100000)
theorem fitsA_iff {d : PyData} : fitsA d = true ↔ weight d ≤ 100000 := decide_eq_true_iff
theorem fits_tup {ds : List PyData} (h : fitsA (.tuple ds) = true) : ds.length < sizeLine ∧ ∀ d ∈ ds, fitsA d = true := by
  rw [fitsA_iff] at h
  simp only [weight] at h
  refine ⟨?_, fun d hd => fitsA_iff.mpr ?_⟩
  · have := weights_len ds
    have : sizeLine ≥ 1000000 := by rw [sizeLine_eq]; decide
    omega
  · have := weights_mem hd
    omega
theorem fits_T {d : PyData} (h : fitsA d = true) : fitsT d = true := by
  cases d with
  | tuple ds => exact decide_eq_true (fits_tup h).1
  | str x =>
    rw [fitsA_iff] at h
    simp only [weight] at h
    have : sizeLine ≥ 1000000 := by rw [sizeLine_eq]; decide
    exact decide_eq_true (by omega)
  | _ => rfl
theorem fits_P {d : PyData} (h : fitsA d = true) : fitsP d = true := by
  cases d with
  | tuple ds =>
    match ds with
    | [] => rfl
    | [_] => rfl
    | [n, _] => exact fits_T ((fits_tup h).2 n List.mem_cons_self)
    | _ :: _ :: _ :: _ => rfl
  | _ => rfl
theorem fits_K {d : PyData} (h : fitsA d = true) : fitsK d = true := by
  cases d with
  | tuple ds => exact List.all_eq_true.mpr fun d hd => fits_P ((fits_tup h).2 d hd)
  | _ => rfl
section
variable {P : Program} {w : World} {K : PySem.W.Frag} {mg : Str → Option Value} {base : Heap} {f : Addr} {fd : FuncData} {aK CK CN CS : Addr}
theorem kinds_ranks {xs : List PyData} (h : isKinds (.tuple xs) = true) : xs.length ≤ 6 ∧ ∀ d ∈ xs, ∃ n r, d = .tuple [.str n, .int r] ∧ 0 ≤ r ∧ r ≤ 3 := by
  have h' : ((decide (1 ≤ (xs.length : Int)) && decide ((xs.length : Int) ≤ 6)) && (xs.all isKind && (risesD (xs.map fstD) && (xs.map sndD).any isZero))) = true := h
  rw [Bool.and_eq_true, Bool.and_eq_true, Bool.and_eq_true, decide_eq_true_iff, decide_eq_true_iff] at h'
  obtain ⟨⟨_, h2⟩, h3, _⟩ := h'
  refine ⟨by omega, fun d hd => ?_⟩
  obtain ⟨n, r, e, _, h4, h5⟩ := kind_cases (List.all_eq_true.mp h3 d hd)
  exact ⟨n, r, e, h4, h5⟩
/-! ### goals_in -/
abbrev s_goals_in : Stmt := top 24
theorem sc_goals_in : FnScope ["kinds", "many", "_", "rank"] ["kinds", "many"] (defScope s_goals_in) := ⟨rfl, rfl, rfl, by decide +kernel, rfl, by decide +kernel, by decide +kernel⟩
def goalsOf (xs : List PyData) (n : Int) : Int := (xs.map fun d => n ^ (intD (sndD d)).toNat).sum
def g_goals_in (d n : PyData) : Option PyData := match d, n with
  | .tuple xs, .int n => if isKinds (.tuple xs) && (decide (1 ≤ n) && decide (n ≤ 60)) then some (.int (goalsOf xs n)) else none
  | _, _ => none
abbrev p_goals_in (K : PySem.W.Frag) : Sp := spD K (f2 g_goals_in)
theorem cpow60 {n r : Int} (h1 : 1 ≤ n) (h2 : n ≤ 60) (h3 : 0 ≤ r) (h4 : r ≤ 3) : CPow n (r % 4) := by
  have e : r % 4 = r := by omega
  rw [e]
  exact ⟨h3, by omega, Nat.lt_of_le_of_lt (show n.natAbs ≤ 60 by omega) (by decide)⟩
theorem ok_goals_in (F : Fun K "goals_in" "goals_in" s_goals_in f fd) (B : BI mg) : FnOk P w K mg base CX0 1 f fd ["kinds", "many"] (p_goals_in K) := by
  refine F.ok sc_goals_in (fun vs H Q E h => len_f2 h) (fun cdv A outer s H vs Q E hr h => go2 h fun F0 a b x y d sm ra rb e ev q => ?_)
  subst ev
  match a, b, e with
  | .tuple xs, .int n, e =>
    have e' : (if isKinds (.tuple xs) && (decide (1 ≤ n) && decide (n ≤ 60)) then some (PyData.int (goalsOf xs n)) else none) = some d := e
    split at e'
    case isFalse => cases e'
    rename_i hc
    cases e'
    rw [Bool.and_eq_true, Bool.and_eq_true, decide_eq_true_iff, decide_eq_true_iff] at hc
    obtain ⟨hk, n1, n2⟩ := hc
    obtain ⟨h6, hx⟩ := kinds_ranks hk
    refine ⟨_, (pss_one (ps_ret (pe_callB (r := rSum K) (cr_sum rfl) (by rfl) B.sum (by decide +kernel) (pa_cons (pe_lc (own := [("_", 2), ("rank", 3)]) (g := (gTup K 2 (gCons (gName 2) (gCons (gName 3) gNil)))) rfl sc_goals_in.nd (pi_tup (pv 0)) (blkOk_by (own := [("_", 2), ("rank", 3)]) (N := ["kinds", "many", "_", "rank"]) (sc := defScope s_goals_in) (by decide +kernel)) (fun _ _ _ _ _ => (pg_tup rfl (pgs_cons (pg_name (i := 2) sc_goals_in.nd rfl (Or.inl rfl) (hf := (Or.inr rfl))) (pgs_cons (pg_name (i := 3) sc_goals_in.nd rfl (Or.inl rfl) (hf := (Or.inr rfl))) pgs_nil)))) (fun _ _ _ _ _ => pts_nil) (fun _ _ _ _ _ => (pe_op (op_pow) (pv 1) (pe_op (op_mod) (pe_callTy (call_int1) (by rfl) B.int_ (by decide +kernel) (pa_cons (pv 3) pa_nil)) pe_int)))) pa_nil)))), ?_⟩
    have s0 : Slot K (start ["kinds", "many", "_", "rank"] [x, y]) F0 0 (.tuple xs) := ⟨x, rfl, ra⟩
    have q1 := ev_lc (K := K) (te := tOp (rI CPow fun i j => V.int (i ^ j.toNat)) (tVar 1) (tOp (rI (fun _ j => 0 < j) fun i j => V.int (i % j)) (tCB rInt1 (tCons (tVar 3) tNil)) (tC (.int 4)))) (tt := tYes) (g := gTup K 2 (gCons (gName 2) (gCons (gName 3) gNil))) (vs := [2, 3]) (fun _ => true) (fun d => .int (n ^ (intD (sndD d)).toNat)) (ew_tup (ev_var s0)) (small1000 (by omega)) fun d F' hd sF => by
      obtain ⟨nm, r, rfl, h0, h3⟩ := hx d hd
      refine tk_two.imp fun σ2 hσ => ?_
      obtain ⟨v, u, rfl, rv, ru⟩ := hσ
      refine ⟨rfl, eb_yes, fun _ => ?_⟩
      have q2 := ev_op (ev1 (ev_var (F := F') (σ := ((wipe (start ["kinds", "many", "_", "rank"] [x, y]) [2, 3]).set 2 (some v)).set 3 (some u)) (i := 3) ⟨u, rfl, ru⟩) rc_int) (ev_int (i := 4)) (rv_intC (C := fun _ j => 0 < j) (g := fun i j => i % j) (by decide))
      refine (ev_op (ev_var (i := 1) ⟨y, rfl, rb.up sF⟩) q2 (rv_intC (C := CPow) (g := fun i j => i ^ j.toNat) (cpow60 n1 n2 h0 h3))).is (congrArg PyData.int ?_)
      show n ^ (r % 4).toNat = n ^ r.toNat
      rw [show r % 4 = r by omega]
    rw [made_map] at q1
    have e1 : xs.map (fun d => PyData.int (n ^ (intD (sndD d)).toNat)) = (xs.map fun d => n ^ (intD (sndD d)).toNat).map .int := by
      rw [List.map_map]
      rfl
    rw [e1] at q1
    exact (r_ret (ev1 q1 rc_sum) : Ret K _ _ F0 _) H sm _ q
/-! ### _is_goals -/
abbrev s__is_goals : Stmt := top 27
theorem sc__is_goals : FnScope ["row", "many", "rank", "goal"] ["row", "many", "rank"] (defScope s__is_goals) := ⟨rfl, rfl, rfl, by decide +kernel, rfl, by decide +kernel, by decide +kernel⟩
def isGoals (d : PyData) (n r : Int) : Bool := match d with
  | .tuple xs => decide ((xs.length : Int) = n ^ r.toNat) && xs.all fun x => isBetween x 0 (n - 1)
  | _ => false
def g_is_goals (d n r : PyData) : Option PyData := match n, r with
  | .int n, .int r => if fitsA d && ((decide (1 ≤ n) && decide (n ≤ 60)) && (decide (0 ≤ r) && decide (r ≤ 3))) then some (.bool (isGoals d n r)) else none
  | _, _ => none
abbrev p__is_goals (K : PySem.W.Frag) : Sp := spD K (f3 g_is_goals)
theorem ok__is_goals (F : Fun K "_is_goals" "_is_goals" s__is_goals f fd) (B : BI mg) (c_is_row : Cal P w K mg base 1 "is_row" (p_is_row K) []) (c_is_between : Cal P w K mg base 2 "is_between" (p_is_between K) []) : FnOk P w K mg base CX0 3 f fd ["row", "many", "rank"] (p__is_goals K) := by
  refine F.ok sc__is_goals (fun vs H Q E h => len_f3 h) (fun cdv A outer s H vs Q E hr h => go3 h fun F0 a b c x y z d sm ra rb rc e ev q => ?_)
  subst ev
  match b, c, e with
  | .int n, .int r, e =>
    have e' : (if fitsA a && ((decide (1 ≤ n) && decide (n ≤ 60)) && (decide (0 ≤ r) && decide (r ≤ 3))) then some (PyData.bool (isGoals a n r)) else none) = some d := e
    split at e'
    case isFalse => cases e'
    rename_i hc
    cases e'
    rw [Bool.and_eq_true, Bool.and_eq_true, Bool.and_eq_true, Bool.and_eq_true, decide_eq_true_iff, decide_eq_true_iff, decide_eq_true_iff, decide_eq_true_iff] at hc
    obtain ⟨hf, ⟨n1, n2⟩, h0, h3⟩ := hc
    refine ⟨_, (pss_cons (ps_if (pt_not (pt_val (pe_c c_is_row hr (by first | decide | omega) (by rfl) (pa_cons (pv 0) (pa_cons (pe_op (op_pow) (pv 1) (pe_op (op_mod) (pe_callTy (call_int1) (by rfl) B.int_ (by decide +kernel) (pa_cons (pv 2) pa_nil)) pe_int)) pa_nil))))) (pss_one (ps_ret pe_bl)) pss_nil)
        (pss_one (ps_ret (pe_callB (r := rAll K) (cr_all rfl) (by rfl) B.all (by decide +kernel) (pa_cons (pe_lc (own := [("goal", 3)]) (g := (gName 3)) rfl sc__is_goals.nd (pi_tup (pv 0)) (blkOk_by (own := [("goal", 3)]) (N := ["row", "many", "rank", "goal"]) (sc := defScope s__is_goals) (by decide +kernel)) (fun _ _ _ _ _ => (pg_name (i := 3) sc__is_goals.nd rfl (Or.inl rfl) (hf := (Or.inr rfl)))) (fun _ _ _ _ _ => pts_nil) (fun _ _ _ _ _ => (pe_c c_is_between hr (by first | decide | omega) (by rfl) (pa_cons (pv 3) (pa_cons pe_int (pa_cons (pe_op (op_sub) (pv 1) pe_int) pa_nil)))))) pa_nil))))), ?_⟩
    have s0 : Slot K (start ["row", "many", "rank", "goal"] [x, y, z]) F0 0 a := ⟨x, rfl, ra⟩
    have s1 : Slot K (start ["row", "many", "rank", "goal"] [x, y, z]) F0 1 (.int n) := ⟨y, rfl, rb⟩
    have s2 : Slot K (start ["row", "many", "rank", "goal"] [x, y, z]) F0 2 (.int r) := ⟨z, rfl, rc⟩
    have q2 := ev_op (ev1 (ev_var s2) rc_int) (ev_int (i := 4)) (rv_intC (C := fun _ j => 0 < j) (g := fun i j => i % j) (by decide))
    have q3 := (ev_op (ev_var s1) q2 (rv_intC (C := CPow) (g := fun i j => i ^ j.toNat) (cpow60 n1 n2 h0 h3))).is (d1 := .int (n ^ r.toNat)) (congrArg PyData.int (by show n ^ (r % 4).toNat = n ^ r.toNat; rw [show r % 4 = r by omega]))
    have q4 := eb_not (eb_val (ev_call (K := K) (f := f2 g_is_row) (E := C8.E0) (ea_cons (ev_var s0) (ea_cons q3 ea_nil)) rfl))
    refine (?_ : Ret K _ _ F0 _) H sm _ q
    cases a with
    | tuple xs =>
      refine r_when q4 (fun h => ?_) fun h => r_ret ?_
      · refine (r_ret ev_bl : Ret K _ _ F0 (.bool false)).is' (congrArg PyData.bool ?_)
        have h' : (!decide ((xs.length : Int) = n ^ r.toNat)) = true := h
        rw [Bool.not_eq_true'] at h'
        show false = (decide ((xs.length : Int) = n ^ r.toNat) && _)
        rw [h', Bool.false_and]
      · have h' : (!decide ((xs.length : Int) = n ^ r.toNat)) = false := h
        rw [Bool.not_eq_false'] at h'
        have q1 := ev_lc (K := K) (te := tCall (p_is_between K) [] C8.E0 (tCons (tVar 3) (tCons (tC (.int 0)) (tCons (tOp (rI0 fun i j => V.int (i - j)) (tVar 1) (tC (.int 1))) tNil)))) (tt := tYes) (g := gName 3) (vs := [3]) (fun _ => true) (fun d => .bool (isBetween d 0 (n - 1))) (ew_tup (ev_var s0)) (fits_tup hf).1 fun d F' hd sF => by
          refine tk_name.imp fun σ2 hσ => ?_
          obtain ⟨v, rfl, rv⟩ := hσ
          exact ⟨rfl, eb_yes, fun _ => ev_call (ea_cons (ev_var ⟨v, rfl, rv⟩) (ea_cons ev_int (ea_cons (ev_op (ev_var ⟨y, rfl, rb.up sF⟩) ev_int rv_int) ea_nil))) rfl⟩
        rw [made_map, map_bools] at q1
        refine (ev1 q1 rc_all).is (congrArg PyData.bool ?_)
        rw [all_bools]
        show _ = (decide ((xs.length : Int) = n ^ r.toNat) && xs.all fun x => isBetween x 0 (n - 1))
        rw [h', Bool.true_and]
    | _ => exact r_when q4 (fun _ => r_ret ev_bl) fun h => nomatch h
end
end Sx
set_option Elab.async false
set_option linter.all false
set_option maxRecDepth 100000
set_option maxHeartbeats 2000000
namespace Sx
open PySem PySem.Spec PyProof.Rows L2
open C8 (Cal pe_c pe_gc)
section
variable {P : Program} {w : World} {K : PySem.W.Frag} {mg : Str → Option Value} {base : Heap} {f : Addr} {fd : FuncData} {aK CK CN CS : Addr}
/-! ### is_set -/
abbrev s_is_set : Stmt := top 26
theorem sc_is_set : FnScope ["thing", "kinds", "many", "rows", "takes", "row", "pair"] ["thing"] (defScope s_is_set) := ⟨rfl, rfl, rfl, by decide +kernel, rfl, by decide +kernel, by decide +kernel⟩
def itemsD : PyData → List PyData
  | .tuple xs => xs
  | _ => []
def isSet (d : PyData) : Bool := match d with
  | .tuple [a, k, m, rs, t] => isWord a "set" && ((isKinds k && (isBetween m 1 60 && decide (goalsOf (itemsD k) (intD m) ≤ 4000))) && ((isTup rs && decide ((itemsD rs).length = (itemsD k).length)) && (isRisingBelow t (intD m) && (pairs (itemsD rs) (itemsD k)).all fun p => isGoals (fstD p) (intD m) (intD (sndD (sndD p))))))
  | _ => false
def g_is_set (d : PyData) : Option PyData := if fitsA d then some (.bool (isSet d)) else none
abbrev p_is_set (K : PySem.W.Frag) : Sp := spD K (f1 g_is_set)
theorem kinds_tup {d : PyData} (h : isKinds d = true) : ∃ xs, d = .tuple xs := by
  cases d with
  | tuple xs => exact ⟨xs, rfl⟩
  | _ => cases h
theorem between_int {d : PyData} {l h : Int} (e : isBetween d l h = true) : ∃ i, d = .int i ∧ l ≤ i ∧ i ≤ h := by
  cases d with
  | int i =>
    have e' : (decide (l ≤ i) && decide (i ≤ h)) = true := e
    rw [Bool.and_eq_true, decide_eq_true_iff, decide_eq_true_iff] at e'
    exact ⟨i, rfl, e'.1, e'.2⟩
  | _ => cases e
theorem isRow_tup {d : PyData} {n : Int} (h : g_is_row d (.int n) = some (.bool true)) : ∃ xs, d = .tuple xs ∧ (xs.length : Int) = n := by
  cases d with
  | tuple xs =>
    have h' : some (PyData.bool (decide ((xs.length : Int) = n))) = some (.bool true) := h
    have h2 : decide ((xs.length : Int) = n) = true := by
      injection h' with h3
      injection h3
    exact ⟨xs, rfl, of_decide_eq_true h2⟩
  | _ => cases h
def isRowD (d : PyData) (n : Int) : Bool := match d with
  | .tuple xs => decide ((xs.length : Int) = n)
  | _ => false
theorem row_is {d : PyData} {n : Int} (h : isRowD d n = true) : ∃ xs, d = .tuple xs ∧ (xs.length : Int) = n := by
  cases d with
  | tuple xs => exact ⟨xs, rfl, of_decide_eq_true h⟩
  | _ => cases h
theorem five {xs : List PyData} (h : xs.length = 5) : ∃ a b c d e, xs = [a, b, c, d, e] := by
  match xs, h with
  | [a, b, c, d, e], _ => exact ⟨a, b, c, d, e, rfl⟩
theorem g_row (d : PyData) (n : Int) : g_is_row d (.int n) = some (.bool (isRowD d n)) := by
  cases d <;> rfl
theorem ok_is_set (F : Fun K "is_set" "is_set" s_is_set f fd) (B : BI mg) (c_is_row : Cal P w K mg base 1 "is_row" (p_is_row K) []) (c_is_word : Cal P w K mg base 1 "is_word" (p_is_word K) []) (c_is_kinds : Cal P w K mg base 4 "is_kinds" (p_is_kinds K) [])
    (c_is_between : Cal P w K mg base 2 "is_between" (p_is_between K) []) (c_goals_in : Cal P w K mg base 1 "goals_in" (p_goals_in K) []) (c_is_rising_below : Cal P w K mg base 3 "is_rising_below" (p_is_rising_below K) []) (c__is_goals : Cal P w K mg base 3 "_is_goals" (p__is_goals K) []) :
    FnOk P w K mg base CX0 5 f fd ["thing"] (p_is_set K) := by
  refine F.ok sc_is_set (fun vs H Q E h => len_f1 h) (fun cdv A outer s H vs Q E hr h => go1 h fun F0 a x d sm ra e ev q => ?_)
  subst ev
  have e' : (if fitsA a then some (PyData.bool (isSet a)) else none) = some d := e
  split at e'
  case isFalse => cases e'
  rename_i hf
  cases e'
  refine ⟨_, (pss_cons (ps_if (PW.pt (pw_or (pt_not (pt_val (pe_c c_is_row hr (by first | decide | omega) (by rfl) (pa_cons (pv 0) (pa_cons pe_int pa_nil))))) (pw_or1 (pt_not (pt_val (pe_c c_is_word hr (by first | decide | omega) (by rfl) (pa_cons (pe_ix (r := rIxT K) ix_tup (pv 0) pe_int (fun _ _ => rfl)) (pa_cons pe_str pa_nil)))))))) (pss_one (ps_ret pe_bl)) pss_nil)
        (pss_cons (ps_asg (pe_slice (r := rSlA K) sl_tupA (pv 0) (po_some pe_int) po_none) (pg_tup rfl (pgs_cons (pg_name (i := 1) sc_is_set.nd rfl (Or.inl rfl) (hf := (Or.inr rfl))) (pgs_cons (pg_name (i := 2) sc_is_set.nd rfl (Or.inr rfl) (hf := (Or.inl rfl))) (pgs_cons (pg_name (i := 3) sc_is_set.nd rfl (Or.inl rfl) (hf := (Or.inr rfl))) (pgs_cons (pg_name (i := 4) sc_is_set.nd rfl (Or.inl rfl) (hf := (Or.inr rfl))) pgs_nil))))))
        (pss_cons (ps_if (PW.pt (pw_or (pt_not (pt_val (pe_c c_is_kinds hr (by first | decide | omega) (by rfl) (pa_cons (pv 1) pa_nil)))) (pw_or (pt_not (pt_val (pe_c c_is_between hr (by first | decide | omega) (by rfl) (pa_cons (pv 2) (pa_cons pe_int (pa_cons pe_int pa_nil)))))) (pw_or1 (pt_cmpR (op_gt) (pe_c c_goals_in hr (by first | decide | omega) (by rfl) (pa_cons (pv 1) (pa_cons (pv 2) pa_nil))) pe_int (nomark _)))))) (pss_one (ps_ret pe_bl)) pss_nil)
        (pss_cons (ps_if (PW.pt (pw_or (pt_not (pt_val (pe_c c_is_row hr (by first | decide | omega) (by rfl) (pa_cons (pv 3) (pa_cons (pe_callB (r := rLen0 K) (call_len) (by rfl) B.len (by decide +kernel) (pa_cons (pv 1) pa_nil)) pa_nil))))) (pw_or1 (pt_not (pt_val (pe_c c_is_rising_below hr (by first | decide | omega) (by rfl) (pa_cons (pv 4) (pa_cons (pv 2) pa_nil)))))))) (pss_one (ps_ret pe_bl)) pss_nil)
        (pss_one (ps_ret (pe_callB (r := rAll K) (cr_all rfl) (by rfl) B.all (by decide +kernel) (pa_cons (pe_lc (own := [("row", 5), ("pair", 6)]) (g := (gTup K 2 (gCons (gName 5) (gCons (gName 6) gNil)))) rfl sc_is_set.nd (RZ.pi_zipA (by rfl) B.zip (pa_cons (pv 3) (pa_cons (pv 1) pa_nil))) (blkOk_by (own := [("row", 5), ("pair", 6)]) (N := ["thing", "kinds", "many", "rows", "takes", "row", "pair"]) (sc := defScope s_is_set) (by decide +kernel)) (fun _ _ _ _ _ => (pg_tup rfl (pgs_cons (pg_name (i := 5) sc_is_set.nd rfl (Or.inl rfl) (hf := (Or.inr rfl))) (pgs_cons (pg_name (i := 6) sc_is_set.nd rfl (Or.inl rfl) (hf := (Or.inr rfl))) pgs_nil)))) (fun _ _ _ _ _ => pts_nil) (fun _ _ _ _ _ => (pe_c c__is_goals hr (by first | decide | omega) (by rfl) (pa_cons (pv 5) (pa_cons (pv 2) (pa_cons (pe_ix (r := rIxT K) ix_tup (pv 6) pe_int (fun _ _ => rfl)) pa_nil)))))) pa_nil)))))))), ?_⟩
  have s0 : Slot K (start ["thing", "kinds", "many", "rows", "takes", "row", "pair"] [x]) F0 0 a := ⟨x, rfl, ra⟩
  have hw1 := eb_val (ev_call (K := K) (f := f2 g_is_row) (E := C8.E0) (ea_cons (ev_var s0) (ea_cons (ev_int (i := 5)) ea_nil)) (g_row a 5))
  refine (?_ : Ret K _ _ F0 _) H sm _ q
  by_cases h5 : isRowD a 5 = true
  case neg =>
    have h5' : isRowD a 5 = false := Bool.eq_false_iff.mpr h5
    rw [h5'] at hw1
    have ea : isSet a = false := by
      unfold isSet
      split
      · exact absurd h5' (by intro z; cases z)
      · rfl
    rw [ea]
    exact r_when (eb_or (c := false) (eb_not hw1) fun z => nomatch z) (fun _ => r_ret ev_bl) fun z => nomatch z
  case pos =>
    rw [h5] at hw1
    obtain ⟨a0, k, m, rs, t, rfl⟩ : ∃ a0 k m rs t, a = .tuple [a0, k, m, rs, t] := by
      obtain ⟨ys, rfl, hl⟩ := row_is h5
      obtain ⟨a0, k, m, rs, t, rfl⟩ := five (show ys.length = 5 by omega)
      exact ⟨a0, k, m, rs, t, rfl⟩
    have fa := (fits_tup hf).2
    have hw2 := eb_val (ev_call (K := K) (f := f2 g_is_word) (E := C8.E0) (ea_cons (ev_op (ev_var s0) ev_int (rv_ixT (k := 0) rfl)) (ea_cons (ev_str (x := "set")) ea_nil)) (show _ = some (PyData.bool (isWord a0 "set")) from rfl))
    show Ret K _ _ F0 (.bool (isWord a0 "set" && ((isKinds k && (isBetween m 1 60 && decide (goalsOf (itemsD k) (intD m) ≤ 4000))) && ((isTup rs && decide ((itemsD rs).length = (itemsD k).length)) && (isRisingBelow t (intD m) && (pairs (itemsD rs) (itemsD k)).all fun p => isGoals (fstD p) (intD m) (intD (sndD (sndD p))))))))
    refine r_when (eb_or (eb_not hw1) fun _ => eb_not hw2) (fun h => ?_) fun h => ?_
    · have h' : isWord a0 "set" = false := by
        have z : (false || !isWord a0 "set") = true := h
        rw [Bool.false_or, Bool.not_eq_true'] at z
        exact z
      rw [h', Bool.false_and]
      exact r_ret ev_bl
    have hword : isWord a0 "set" = true := by
      have z : (false || !isWord a0 "set") = false := h
      rw [Bool.false_or, Bool.not_eq_false'] at z
      exact z
    rw [hword, Bool.true_and]
    have hs : EvD K (tSl (rSlA K) (tVar 0) (tPart (tC (.int 1))) tNoPart) (start ["thing", "kinds", "many", "rows", "takes", "row", "pair"] [x]) F0 (.tuple [k, m, rs, t]) := ev_sl (ev_var s0) (eo_some ev_int) eo_none (rs_tup (lo := some 1) (hi := none))
    refine r_asg hs (fun F' _ => tk_four) fun σ2 F1 g1 hσ => ?_
    obtain ⟨v1, v2, v3, v4, rfl, r1, r2, r3, r4⟩ := hσ
    have e1 : EvD K (tVar 1) [some x, some v1, some v2, some v3, some v4, none, none] F1 k := ev_var ⟨v1, rfl, r1⟩
    have e2 : EvD K (tVar 2) [some x, some v1, some v2, some v3, some v4, none, none] F1 m := ev_var ⟨v2, rfl, r2⟩
    have e3 : EvD K (tVar 3) [some x, some v1, some v2, some v3, some v4, none, none] F1 rs := ev_var ⟨v3, rfl, r3⟩
    have e4 : EvD K (tVar 4) [some x, some v1, some v2, some v3, some v4, none, none] F1 t := ev_var ⟨v4, rfl, r4⟩
    have t1 := eb_val (ev_call (K := K) (f := f1 g_is_kinds) (E := C8.E0) (ea_cons e1 ea_nil) (if_pos (fits_K (fa k (by simp)))))
    have t2 := eb_val (ev_call (K := K) (f := f3 g_is_between) (E := C8.E0) (d := .bool (isBetween m 1 60)) (ea_cons e2 (ea_cons (ev_int (i := 1)) (ea_cons (ev_int (i := 60)) ea_nil))) rfl)
    by_cases hk : isKinds k = true
    case neg =>
      have hk' : isKinds k = false := Bool.eq_false_iff.mpr hk
      rw [hk'] at t1 ⊢
      exact r_when (eb_or (c := false) (eb_not t1) fun z => nomatch z) (fun _ => r_ret ev_bl) fun z => nomatch z
    by_cases hm : isBetween m 1 60 = true
    case neg =>
      have hm' : isBetween m 1 60 = false := Bool.eq_false_iff.mpr hm
      rw [hm'] at t2 ⊢
      rw [hk] at t1 ⊢
      exact r_when (eb_or (eb_not t1) fun _ => eb_or (c := false) (eb_not t2) fun z => nomatch z) (fun _ => r_ret ev_bl) fun z => nomatch z
    rw [hk] at t1 ⊢
    rw [hm] at t2 ⊢
    obtain ⟨xs, rfl⟩ := kinds_tup hk
    obtain ⟨n, rfl, n1, n2⟩ := between_int hm
    obtain ⟨h6, hx⟩ := kinds_ranks hk
    have t3 : EvB (tTest (tOp (rI0 fun i j => V.bl (decide (i > j))) (tCall (p_goals_in K) [] C8.E0 (tCons (tVar 1) (tCons (tVar 2) tNil))) (tC (.int 4000)))) _ F1 _ := eb_test (ev_op (ev_call (K := K) (f := f2 g_goals_in) (E := C8.E0) (d := .int (goalsOf xs n)) (ea_cons e1 (ea_cons e2 ea_nil)) (if_pos (by rw [hk, decide_eq_true n1, decide_eq_true n2]; rfl))) (ev_int (i := 4000)) (rv_bl (g := fun i j => decide (i > j))))
    show Ret K _ _ F1 (.bool ((true && (true && decide (goalsOf xs n ≤ 4000))) && _))
    rw [Bool.true_and, Bool.true_and]
    refine r_when (eb_or (eb_not t1) fun _ => eb_or (eb_not t2) fun _ => t3) (fun h => ?_) fun h => ?_
    · have h' : ¬ goalsOf xs n ≤ 4000 := by
        have z : (false || (false || decide (goalsOf xs n > 4000))) = true := h
        rw [Bool.false_or, Bool.false_or] at z
        have := of_decide_eq_true z
        omega
      rw [decide_eq_false h', Bool.false_and]
      exact r_ret ev_bl
    have hg : goalsOf xs n ≤ 4000 := by
      have z : (false || (false || decide (goalsOf xs n > 4000))) = false := h
      rw [Bool.false_or, Bool.false_or] at z
      have := of_decide_eq_false z
      omega
    rw [decide_eq_true hg, Bool.true_and]
    have t4 := eb_val (ev_call (K := K) (f := f2 g_is_row) (E := C8.E0) (ea_cons e3 (ea_cons (ev1 e1 rc_lenT) ea_nil)) (g_row rs (xs.length : Int)))
    have t5 := eb_val (ev_call (K := K) (f := f2 g_is_rising_below) (E := C8.E0) (ea_cons e4 (ea_cons e2 ea_nil)) (show _ = some (PyData.bool (isRisingBelow t n)) from if_pos (fits_T (fa t (by simp)))))
    by_cases hr4 : isRowD rs (xs.length : Int) = true
    case neg =>
      have hr4' : isRowD rs (xs.length : Int) = false := Bool.eq_false_iff.mpr hr4
      rw [hr4'] at t4
      have e0 : (isTup rs && decide ((itemsD rs).length = (itemsD (.tuple xs)).length)) = false := by
        cases rs with
        | tuple ys =>
          have z := of_decide_eq_false hr4'
          show (true && decide (ys.length = xs.length)) = false
          rw [Bool.true_and]
          exact decide_eq_false (by omega)
        | _ => rfl
      rw [e0, Bool.false_and]
      exact r_when (eb_or (c := false) (eb_not t4) fun z => nomatch z) (fun _ => r_ret ev_bl) fun z => nomatch z
    rw [hr4] at t4
    obtain ⟨ys, rfl⟩ : ∃ ys, rs = .tuple ys := by
      cases rs with
      | tuple ys => exact ⟨ys, rfl⟩
      | _ => cases hr4
    have hlen : ys.length = xs.length := by
      have z := of_decide_eq_true hr4
      omega
    show Ret K _ _ F1 (.bool ((true && decide (ys.length = xs.length)) && (isRisingBelow t n && (pairs ys xs).all fun p => isGoals (fstD p) n (intD (sndD (sndD p))))))
    rw [decide_eq_true hlen, Bool.true_and, Bool.true_and]
    refine r_when (eb_or (eb_not t4) fun _ => eb_not t5) (fun h => ?_) fun h => ?_
    · have z : (false || !isRisingBelow t n) = true := h
      rw [Bool.false_or, Bool.not_eq_true'] at z
      rw [z, Bool.false_and]
      exact r_ret ev_bl
    have ht : isRisingBelow t n = true := by
      have z : (false || !isRisingBelow t n) = false := h
      rw [Bool.false_or, Bool.not_eq_false'] at z
      exact z
    rw [ht, Bool.true_and]
    refine r_ret ?_
    have fys := (fits_tup (fa (.tuple ys) (by simp))).2
    have q1 := ev_lc (K := K) (te := tCall (p__is_goals K) [] C8.E0 (tCons (tVar 5) (tCons (tVar 2) (tCons (tOp (rIxT K) (tVar 6) (tC (.int 1))) tNil)))) (tt := tYes) (g := gTup K 2 (gCons (gName 5) (gCons (gName 6) gNil))) (vs := [5, 6]) (fun _ => true) (fun p => .bool (isGoals (fstD p) n (intD (sndD (sndD p))))) (ew_zipAT (ea_cons e3 (ea_cons e1 ea_nil))) (small1000 (by rw [pairs_len]; omega)) fun d F' hd sF => by
      obtain ⟨i, hi⟩ := List.getElem?_of_mem hd
      obtain ⟨a, b, ha, hb, rfl⟩ := pairs_get hi
      obtain ⟨nm, r, rfl, h0, h3⟩ := hx b (List.mem_of_getElem? hb)
      refine tk_two.imp fun σ2 hσ => ?_
      obtain ⟨u1, u2, rfl, ru1, ru2⟩ := hσ
      refine ⟨rfl, eb_yes, fun _ => ev_call (ea_cons (ev_var (i := 5) ⟨u1, rfl, ru1⟩) (ea_cons (ev_var (i := 2) ⟨v2, rfl, r2.up sF⟩) (ea_cons (ev_op (ev_var (i := 6) ⟨u2, rfl, ru2⟩) ev_int (rv_ixT (k := 1) rfl)) ea_nil))) (if_pos ?_)⟩
      rw [fys a (List.mem_of_getElem? ha), decide_eq_true n1, decide_eq_true n2, decide_eq_true h0, decide_eq_true h3]
      rfl
    rw [made_map, map_bools] at q1
    refine (ev1 q1 rc_all).is (congrArg PyData.bool ?_)
    rw [all_bools]
end
end Sx
set_option Elab.async false
set_option linter.all false
set_option maxRecDepth 100000
set_option maxHeartbeats 2000000
namespace Sx
open PySem PySem.Spec PyProof.Rows L2
open C8 (Cal pe_c pe_gc)
section
variable {P : Program} {w : World} {K : PySem.W.Frag} {mg : Str → Option Value} {base : Heap} {f : Addr} {fd : FuncData} {aK CK CN CS : Addr}
/-! ### is_node -/
abbrev s_is_node : Stmt := top 22
theorem sc_is_node : FnScope ["ranks", "thing"] ["ranks", "thing"] (defScope s_is_node) := ⟨rfl, rfl, rfl, by decide +kernel, rfl, by decide +kernel, by decide +kernel⟩
def isNode (tab : Str → Option Int) (d : PyData) : Bool := match d with
  | .tuple (.str n :: cs) => match tab n with
    | some r => decide ((cs.length : Int) + 1 = r + 1)
    | none => false
  | _ => false
theorem node_cases {tab : Str → Option Int} {d : PyData} (h : isNode tab d = true) : ∃ n cs r, d = .tuple (.str n :: cs) ∧ tab n = some r ∧ (cs.length : Int) = r := by
  match d, h with
  | .tuple (.str n :: cs), h =>
    cases e : tab n with
    | none =>
      have h' : (match tab n with | some r => decide ((cs.length : Int) + 1 = r + 1) | none => false) = true := h
      rw [e] at h'
      cases h'
    | some r =>
      have h' : (match tab n with | some r => decide ((cs.length : Int) + 1 = r + 1) | none => false) = true := h
      rw [e] at h'
      have := of_decide_eq_true h'
      exact ⟨n, cs, r, rfl, e, by omega⟩
def Tab (kvs : List (Key × V)) (tab : Str → Option Int) : Prop := ∀ n : Str, valV kvs (.inr n) = (tab n).map V.int
def spNode (K : PySem.W.Frag) : Sp := fun vs H Q _ => ∃ (F : Hp) (a : Addr) (kvs : List (Key × V)) (tab : Str → Option Int) (y : V) (d : PyData), Same F H ∧ vs = [.ref a, y] ∧ F a = some (.dK kvs) ∧ Tab kvs tab ∧ Dq K F y d ∧
  ∀ v F' H', Grow F H F' H' → Dq K F' v (.bool (isNode tab d)) → Q v H'
theorem ok_is_node (F : Fun K "is_node" "is_node" s_is_node f fd) (B : BI mg) : FnOk P w K mg base CX0 1 f fd ["ranks", "thing"] (spNode K) := by
  refine F.ok sc_is_node (fun vs H Q E h => by obtain ⟨_, a, _, _, y, _, _, e, _⟩ := h; rw [e]; rfl) (fun cdv A outer s H vs Q E hr h => ?_)
  obtain ⟨F0, p, kvs, tab, y, d, sm, ev, hp, ht, ra, q⟩ := h
  subst ev
  refine ⟨_, (pss_cons (ps_if (PW.pt (pw_or (pt_not (pt_val (pe_callB (r := rIsi K) (call_isi) (by rfl) B.isinstance (by decide +kernel) (pa_cons (pv 1) (pa_cons (pe_bltn (v := .ty "tuple") (by rfl) B.tuple (by decide +kernel) rfl) pa_nil))))) (pw_or (pt_not (pt_tru (pv 1))) (pw_or1 (pt_not (pt_val (pe_callB (r := rIsi K) (call_isi) (by rfl) B.isinstance (by decide +kernel) (pa_cons (pe_ix (r := rIxT K) ix_tup (pv 1) pe_int (fun _ _ => rfl)) (pa_cons (pe_bltn (v := .ty "str") (by rfl) B.str_ (by decide +kernel) rfl) pa_nil))))))))) (pss_one (ps_ret pe_bl)) pss_nil)
        (pss_one (ps_ret (pe_and (pe_cmp (pc_din (hu_of hr) (pe_ix (r := rIxT K) ix_tup (pv 1) pe_int (fun _ _ => rfl)) (pv 0)) rfl) (pe_one (pe_cmpR (op_eq) (pe_callB (r := rLen0 K) (call_len) (by rfl) B.len (by decide +kernel) (pa_cons (pv 1) pa_nil)) (pe_op (op_add) (pe_dget (hu_of hr) (pv 0) (pe_ix (r := rIxT K) ix_tup (pv 1) pe_int (fun _ _ => rfl)) (fun _ _ => rfl)) pe_int) (nomark _))))))), ?_⟩
  have s1 : Slot K (start ["ranks", "thing"] [.ref p, y]) F0 1 d := ⟨y, rfl, ra⟩
  refine (?_ : Ret K _ _ F0 _) H sm _ q
  have hw := eb_not (eb_val (ev_isi (ev_var s1) (kit_tup d)))
  cases d with
  | tuple xs =>
    have h2 := eb_not (eb_truT (ev_var s1))
    cases xs with
    | nil => exact r_when (eb_or hw fun _ => eb_or (c := false) h2 fun z => nomatch z) (fun _ => r_ret ev_bl) fun z => nomatch z
    | cons x cs =>
      have h3 := eb_not (eb_val (ev_isi (ev_op (ev_var s1) ev_int (rv_ixT (k := 0) rfl)) (kit_str x)))
      cases x with
      | str n =>
        refine r_when (eb_or hw fun _ => eb_or h2 fun _ => h3) (fun z => nomatch z) fun _ => r_ret ?_
        have e1 := ev_din (i := 0) (ev_op (ev_var s1) ev_int (rv_ixT (k := 0) (d := .str n) rfl)) rfl hp
        rw [ht n] at e1
        cases e : tab n with
        | none =>
          rw [e] at e1
          refine (ev_and (c := false) e1 fun z => nomatch z).is (congrArg PyData.bool ?_)
          show false = match tab n with | some r => decide ((cs.length : Int) + 1 = r + 1) | none => false
          rw [e]
        | some r =>
          rw [e] at e1
          refine (ev_and e1 fun _ => ev_op (ev1 (ev_var s1) rc_lenT) (ev_op (ev_dgetS (i := 0) (v := .int r) (d := .int r) (ev_op (ev_var s1) ev_int (rv_ixT (k := 0) (d := .str n) rfl)) rfl hp (by rw [ht n, e]; rfl) fun F => .int r) (ev_int (i := 1)) (rv_int (g := fun i j => i + j))) rv_eqI).is (congrArg PyData.bool ?_)
          show (true && decide (((PyData.str n :: cs).length : Int) = r + 1)) = match tab n with | some r => decide ((cs.length : Int) + 1 = r + 1) | none => false
          rw [e, Bool.true_and]
          rfl
      | _ => exact r_when (eb_or hw fun _ => eb_or h2 fun _ => h3) (fun _ => r_ret ev_bl) fun z => nomatch z
  | _ => exact r_when (eb_or (c := false) hw fun z => nomatch z) (fun _ => r_ret ev_bl) fun z => nomatch z
end
end Sx
set_option Elab.async false
set_option linter.all false
set_option maxRecDepth 100000
set_option maxHeartbeats 2000000
namespace Sx
open PySem PySem.Spec PyProof.Rows L2
open C8 (Cal pe_c pe_gc)
/-! ### the kinds' table -/
def strD : PyData → Str
  | .str x => x
  | _ => ""
def nameD (d : PyData) : Str := strD (fstD d)
def tabK (xs : List PyData) : List (Key × V) := xs.map fun d => (.inr (nameD d), .int (intD (sndD d)))
def rankOf (xs : List PyData) (n : Str) : Option Int := (xs.find? fun d => decide (nameD d = n)).map fun d => intD (sndD d)
theorem merge_app : ∀ (xs : List PyData) (acc : List (Key × V)), (xs.map nameD).Nodup → (∀ d ∈ xs, valV acc (.inr (nameD d)) = none) → mergeK acc (tabK xs) = acc ++ tabK xs
  | [], acc, _, _ => (List.append_nil acc).symm
  | d :: xs, acc, hn, ha => by
    rw [List.map_cons, List.nodup_cons] at hn
    show mergeK (putK acc (.inr (nameD d)) (.int (intD (sndD d)))) (tabK xs) = acc ++ ((.inr (nameD d), .int (intD (sndD d))) :: tabK xs)
    rw [putK_new _ (ha d List.mem_cons_self), merge_app xs _ hn.2 fun e he => ?_, List.append_assoc]
    · rfl
    · rw [valV_snoc _ _ _ _ (ha d List.mem_cons_self), if_neg fun z => hn.1 ?_]
      · exact ha e (List.mem_cons_of_mem _ he)
      · have z2 : nameD e = nameD d := Sum.inr.inj z
        rw [← z2]
        exact List.mem_map.mpr ⟨e, he, rfl⟩
theorem val_tab (n : Str) : ∀ xs : List PyData, valV (tabK xs) (.inr n) = (rankOf xs n).map V.int
  | [] => rfl
  | d :: xs => by
    show valV ((.inr (nameD d), .int (intD (sndD d))) :: tabK xs) (.inr n) = _
    unfold rankOf
    rw [List.find?_cons]
    by_cases e : nameD d = n
    · rw [valV_pos (p := ((.inr (nameD d) : Key), V.int (intD (sndD d)))) (congrArg Sum.inr e), decide_eq_true e]
      rfl
    · rw [valV_neg (p := ((.inr (nameD d) : Key), V.int (intD (sndD d)))) (fun z => e (Sum.inr.inj z)), decide_eq_false e, val_tab n xs]
      rfl
theorem lex_trans {a b c : List Nat} (h1 : a < b) (h2 : b < c) : a < c := List.lt_trans h1 h2
theorem lex_irr {a : List Nat} (h : a < a) : False := List.lt_irrefl a h
theorem rises_pair : ∀ ns : List Str, risesD (ns.map .str) = true → ns.Pairwise fun a b => a.cps.toList < b.cps.toList
  | [], _ => .nil
  | [a], _ => by simp
  | a :: b :: r, h => by
    have h' : (lt2 (.str a) (.str b) && risesD ((b :: r).map .str)) = true := h
    rw [Bool.and_eq_true] at h'
    have ab : a.cps.toList < b.cps.toList := of_decide_eq_true h'.1
    have ih := rises_pair (b :: r) h'.2
    refine List.pairwise_cons.mpr ⟨fun y hy => ?_, ih⟩
    rcases List.mem_cons.mp hy with e | e
    · rw [e]
      exact ab
    · exact lex_trans ab ((List.pairwise_cons.mp ih).1 y e)
theorem kinds_nodup {xs : List PyData} (h : isKinds (.tuple xs) = true) : (xs.map nameD).Nodup := by
  have h' : ((decide (1 ≤ (xs.length : Int)) && decide ((xs.length : Int) ≤ 6)) && (xs.all isKind && (risesD (xs.map fstD) && (xs.map sndD).any isZero))) = true := h
  rw [Bool.and_eq_true, Bool.and_eq_true, Bool.and_eq_true, Bool.and_eq_true] at h'
  obtain ⟨_, h3, h4, _⟩ := h'
  have e : xs.map fstD = (xs.map nameD).map .str := by
    rw [List.map_map]
    refine List.map_congr_left fun d hd => ?_
    obtain ⟨n, r, rfl, _⟩ := kind_cases (List.all_eq_true.mp h3 d hd)
    rfl
  rw [e] at h4
  exact (rises_pair _ h4).imp fun {a b} hab z => by
    subst z
    exact lex_irr hab
theorem rank_le {xs : List PyData} (h : isKinds (.tuple xs) = true) {n : Str} {r : Int} (e : rankOf xs n = some r) : 0 ≤ r ∧ r ≤ 3 := by
  unfold rankOf at e
  obtain ⟨d, hd, rfl⟩ := Option.map_eq_some_iff.mp e
  obtain ⟨m, r, rfl, h0, h3⟩ := (kinds_ranks h).2 d (List.mem_of_find?_eq_some hd)
  exact ⟨h0, h3⟩
theorem pairs_kinds {K : PySem.W.Frag} {F : Hp} : ∀ {ws : List V} {xs : List PyData}, (∀ d ∈ xs, ∃ n r, d = .tuple [.str n, .int r] ∧ 0 ≤ r ∧ r ≤ 3) → DqAll K F ws xs → ∃ ps : List Addr, ws = ps.map V.ref ∧ Paired (fun p kv => SqT K F p [kV kv.1, kv.2]) ps (tabK xs)
  | _, [], _, .nil => ⟨[], rfl, .nil⟩
  | _, d :: xs, h, .cons a b => by
    obtain ⟨n, r, rfl, _, _⟩ := h d List.mem_cons_self
    obtain ⟨ps, rfl, hp⟩ := pairs_kinds (fun e he => h e (List.mem_cons_of_mem _ he)) b
    cases a with
    | tup a1 a2 =>
      rename_i p vs
      cases a2 with
      | cons c1 c2 =>
        cases c1
        cases c2 with
        | cons c2 c3 =>
          cases c2
          cases c3
          exact ⟨p :: ps, rfl, .cons a1 hp⟩
/-! ### fits -/
def kidsD : PyData → List PyData
  | .tuple (_ :: cs) => cs
  | _ => []
def walkT (tab : Str → Option Int) : Nat → Nat → Nat → List PyData → Bool
  | 0, _, _, _ => false
  | f + 1, n, l, row => row.isEmpty || (!(decide (((n + row.length : Nat) : Int) > 400) || decide (((l + 1 : Nat) : Int) > 60)) && (row.all (isNode tab) && walkT tab f (n + row.length) (l + 1) (row.flatMap kidsD)))
def treeOk (xs : List PyData) (d : PyData) : Bool := walkT (rankOf xs) 61 0 0 [d]
structure Cs2 (mg : Str → Option Value) : Prop where
  c_MOST_NODES : ∃ u, mg "MOST_NODES" = some u ∧ RelV (.int 400) u
  c_MOST_LEVELS : ∃ u, mg "MOST_LEVELS" = some u ∧ RelV (.int 60) u
section
variable {P : Program} {w : World} {K : PySem.W.Frag} {mg : Str → Option Value} {base : Heap} {f : Addr} {fd : FuncData} {aK CK CN CS : Addr}
abbrev s_fits : Stmt := top 21
theorem sc_fits : FnScope ["kinds", "thing", "ranks", "nodes", "levels", "row", "tree", "child"] ["kinds", "thing"] (defScope s_fits) := ⟨rfl, rfl, rfl, by decide +kernel, rfl, by decide +kernel, by decide +kernel⟩
def spFits (K : PySem.W.Frag) : Sp := fun vs H Q _ => ∃ (F : Hp) (ka : Addr) (ws : List V) (xs : List PyData) (y : V) (d : PyData), Same F H ∧ vs = [.ref ka, y] ∧ PlT F ka ws ∧ DqAll K F ws xs ∧ isKinds (.tuple xs) = true ∧ Dq K F y d ∧
  ∀ v F' H', Grow F H F' H' → Dq K F' v (.bool (treeOk xs d)) → Q v H'
theorem ev_node {σ : L2.St} {F : Hp} {i : Nat} {te : TE} {p : Addr} {kvs : List (Key × V)} {tab : Str → Option Int} {d : PyData} {E : XK} (hi : σ[i]? = some (some (.ref p))) (hp : F p = some (.dK kvs)) (ht : Tab kvs tab) (h : EvD K te σ F d) : EvD K (tCall (spNode K) [] E (tCons (tVar i) (tCons te tNil))) σ F (.bool (isNode tab d)) := fun H s Q q =>
  ⟨.ref p, hi, h H s _ fun y F1 H1 g1 r1 => ⟨F1, p, kvs, tab, y, d, g1.i, rfl, g1.f _ _ hp, ht, r1, fun v F' H' g r => q v F' H' (g1.trans g) r⟩⟩
theorem flat_len {tab : Str → Option Int} (ht : ∀ n r, tab n = some r → r ≤ 3) : ∀ row : List PyData, row.all (isNode tab) = true → (row.flatMap kidsD).length ≤ 3 * row.length
  | [], _ => Nat.le_refl _
  | d :: r, h => by
    rw [List.all_cons, Bool.and_eq_true] at h
    obtain ⟨n, cs, k, rfl, e1, e2⟩ := node_cases h.1
    have ih := flat_len ht r h.2
    have := ht n k e1
    rw [List.flatMap_cons, List.length_append, List.length_cons]
    show cs.length + _ ≤ _
    omega
theorem ok_fits (F : Fun K "fits" "fits" s_fits f fd) (B : BI mg) (B2 : BI2 mg) (T : Cs2 mg) (c_is_node : Cal P w K mg base 1 "is_node" (spNode K) []) : FnOk P w K mg base CX0 2 f fd ["kinds", "thing"] (spFits K) := by
  refine F.ok sc_fits (fun vs H Q E h => by obtain ⟨_, a, _, _, y, _, _, e, _⟩ := h; rw [e]; rfl) (fun cdv A outer s H vs Q E hr h => ?_)
  obtain ⟨F0, ka, ws, xs, y, d, sm, ev, hpl, hws, hk, ra, q⟩ := h
  subst ev
  refine ⟨_, (pss_cons (ps_set (i := 2) sc_fits.nd rfl (Or.inr rfl) (pe_callTy (r := rDictF K) (call_dictF rfl) (by rfl) B2.dict (by decide +kernel) (pa_cons (pv 0) pa_nil)))
        (pss_cons (ps_set (i := 3) sc_fits.nd rfl (Or.inl rfl) pe_int)
        (pss_cons (ps_set (i := 4) sc_fits.nd rfl (Or.inl rfl) pe_int)
        (pss_cons (ps_set (i := 5) sc_fits.nd rfl (Or.inl rfl) (pe_lst (pa_cons (pv 1) pa_nil)))
        (pss_cons (ps_while PassesOwn.never (pt_tru (pv 5)) (pss_cons (ps_aug (i := 3) sc_fits.nd rfl (Or.inl rfl) (pe_callB (r := rLen0 K) (call_len) (by rfl) B.len (by decide +kernel) (pa_cons (pv 5) pa_nil)) ip_add)
        (pss_cons (ps_aug (i := 4) sc_fits.nd rfl (Or.inl rfl) pe_int ip_add)
        (pss_cons (ps_if (PW.pt (pw_or (pt_cmpR (op_gt) (pv 3) (pe_gc (by rfl) T.c_MOST_NODES) (nomark _)) (pw_or1 (pt_cmpR (op_gt) (pv 4) (pe_gc (by rfl) T.c_MOST_LEVELS) (nomark _))))) (pss_one (ps_ret pe_bl)) pss_nil)
        (pss_cons (ps_if (pt_not (pt_val (pe_callB (r := rAll K) (cr_all rfl) (by rfl) B.all (by decide +kernel) (pa_cons (pe_lc (own := [("tree", 6)]) (g := (gName 6)) rfl sc_fits.nd (pi_list (pv 5)) (blkOk_by (own := [("tree", 6)]) (N := ["kinds", "thing", "ranks", "nodes", "levels", "row", "tree", "child"]) (sc := defScope s_fits) (by decide +kernel)) (fun _ _ _ _ _ => (pg_name (i := 6) sc_fits.nd rfl (Or.inl rfl) (hf := (Or.inr rfl)))) (fun _ _ _ _ _ => pts_nil) (fun _ _ _ _ _ => (pe_c c_is_node hr (by first | decide | omega) (by rfl) (pa_cons (pv 2) (pa_cons (pv 6) pa_nil))))) pa_nil)))) (pss_one (ps_ret pe_bl)) pss_nil)
        (pss_one (ps_setLc2 (i := 5) (own := [("tree", 6), ("child", 7)]) (vs1 := [7]) (g := (gName 6)) (g1 := (gName 7)) rfl sc_fits.nd rfl rfl (sw_true rfl rfl rfl (by decide +kernel)) (pi_list (pv 5)) (blkOk_by (own := [("tree", 6), ("child", 7)]) (N := ["kinds", "thing", "ranks", "nodes", "levels", "row", "tree", "child"]) (sc := defScope s_fits) (by decide +kernel)) (by decide) (fun _ _ _ _ _ => (pg_name (i := 6) sc_fits.nd rfl (Or.inl rfl) (hf := (Or.inr rfl)))) (fun _ _ _ _ _ => pts_nil) (fun _ _ _ _ _ => (pi_tupK (K := K) (pe_slice (r := rSlA K) sl_tupA (pv 6) (po_some pe_int) po_none))) (fun _ _ _ _ _ => (pg_name (i := 7) sc_fits.nd rfl (Or.inl rfl) (hf := (Or.inr rfl)))) (fun _ _ _ _ _ => pts_nil) (fun _ _ _ _ _ => (pv 7)))))))))
        (pss_one (ps_ret pe_bl))))))), ?_⟩
  obtain ⟨ps, rfl, hpp⟩ := pairs_kinds (kinds_ranks hk).2 hws
  refine ⟨.ref ka, rfl, ka, ps, tabK xs, rfl, hpl.up sm, Paired.mapP hpp fun a b z => same_seqT sm z, fun p hp => ?_⟩
  have hm : mergeK [] (tabK xs) = tabK xs := merge_app xs [] (kinds_nodup hk) fun _ _ => rfl
  rw [hm]
  have g0 : Grow F0 H (upd F0 p (.dK (tabK xs))) (upd H p (.dK (tabK xs))) := .known sm hp
  have ht : Tab (tabK xs) (rankOf xs) := fun n => val_tab n xs
  generalize hF1 : upd F0 p (.dK (tabK xs)) = F1 at g0
  have hp1 : F1 p = some (.dK (tabK xs)) := by rw [← hF1]; exact upd_same
  generalize upd H p (.dK (tabK xs)) = H1 at g0
  refine s_newL (K := K) (F := F1) (i := 5) (ds := [d]) (σ := [some (.ref ka), some y, some (.ref p), some (.int 0), some (.int 0), none, none, none]) (ea_cons (ev_var (i := 1) ⟨y, rfl, ra.up g0.f⟩) ea_nil) g0.i (by show 1 ≤ sizeLine; decide) fun r vs F2 H2 g2 hr2 rr => ?_
  have g3 : Grow F0 H (upd F2 r (.lst vs)) (upd H2 r (.lst vs)) := (g0.trans g2).trans (.known g2.i hr2)
  have hF2 : Same F1 (upd F2 r (.lst vs)) := g2.f.trans (same_upd (g2.i.free hr2))
  have d3 : Dq K (upd F2 r (.lst vs)) (.ref r) (.list [d]) := .lst (.inl (.inl upd_same)) (rr.up (same_upd (g2.i.free hr2)))
  generalize upd F2 r (.lst vs) = F3 at g3 hF2 d3
  generalize upd H2 r (.lst vs) = H3 at g3
  refine ⟨fun m σ' H' => ∃ (n l : Nat) (row : List PyData) (F' : Hp) (v : V) (y6 y7 : Option V), σ' = [some (.ref ka), some y, some (.ref p), some (.int (n : Int)), some (.int (l : Int)), some v, y6, y7] ∧ Grow F0 H F' H' ∧ Same F1 F' ∧ Dq K F' v (.list row) ∧ m + l = 61 ∧ l ≤ 60 ∧ n ≤ 400 ∧ row.length ≤ 1200 ∧ walkT (rankOf xs) m n l row = treeOk xs d,
    ⟨61, 0, 0, [d], F3, .ref r, none, none, rfl, g3, hF2, d3, rfl, by decide, by decide, by show 1 ≤ 1200; decide, rfl⟩, fun m σ' H' hW => ?_⟩
  obtain ⟨n, l, row, F', v, y6, y7, rfl, g, sF, rv, hm61, hl60, hn, hrow, hwalk⟩ := hW
  have big : ∀ {k : Nat}, k ≤ 1200 → k < sizeLine := fun h => by rw [sizeLine_eq]; omega
  refine eb_truL (K := K) (F := F') (ev_var (i := 5) ⟨v, rfl, rv⟩) H' g.i _ fun F4 H4 g4 => ?_
  obtain ⟨m, rfl⟩ : ∃ k, m = k + 1 := ⟨m - 1, by omega⟩
  rw [← hwalk] at q
  have gg := g.trans g4
  cases hre : row.isEmpty with
  | true =>
    rw [show walkT (rankOf xs) (m + 1) n l row = true by unfold walkT; rw [hre, Bool.true_or]] at q
    exact q _ F4 H4 gg (.bl true)
  | false =>
    refine ⟨fun σ' H' => ∃ (n' l' : Nat) (row : List PyData) (F' : Hp) (v : V) (y6 y7 : Option V), σ' = [some (.ref ka), some y, some (.ref p), some (.int (n' : Int)), some (.int (l' : Int)), some v, y6, y7] ∧ Grow F0 H F' H' ∧ Same F1 F' ∧ Dq K F' v (.list row) ∧ m + l' = 61 ∧ l' ≤ 60 ∧ n' ≤ 400 ∧ row.length ≤ 1200 ∧ walkT (rankOf xs) m n' l' row = treeOk xs d, fun σ' H' h => ⟨m, Nat.lt_succ_self _, h⟩, ?_⟩
    refine s_augI (K := K) (F := F4) (i := 3) (m := (n : Int)) (k := (row.length : Int)) rfl (ev1 (ev_var (i := 5) ⟨v, rfl, rv.up g4.f⟩) rc_lenL) g4.i fun F5 H5 g5 => ?_
    refine s_augI (K := K) (F := F5) (i := 4) (m := (l : Int)) (k := 1) rfl ev_int g5.i fun F6 H6 g6 => ?_
    have gv := (g4.f.trans g5.f).trans g6.f
    have g46 := (gg.trans g5).trans g6
    have hw1 := eb_or (F := F6) (σ := [some (.ref ka), some y, some (.ref p), some (.int ((n : Int) + (row.length : Int))), some (.int ((l : Int) + 1)), some v, y6, y7]) (eb_test (K := K) (ev_op (ev_var (i := 3) ⟨_, rfl, .int ((n : Int) + (row.length : Int))⟩) (ev_int (i := 400)) (rv_bl (g := fun i j => decide (i > j))))) fun _ => eb_test (K := K) (ev_op (ev_var (i := 4) ⟨_, rfl, .int ((l : Int) + 1)⟩) (ev_int (i := 60)) (rv_bl (g := fun i j => decide (i > j))))
    have e0 : (decide ((n : Int) + (row.length : Int) > 400) || decide ((l : Int) + 1 > 60)) = (decide (((n + row.length : Nat) : Int) > 400) || decide (((l + 1 : Nat) : Int) > 60)) := by
      rw [Int.natCast_add, Int.natCast_add]
      rfl
    rw [e0] at hw1
    have ewalk : walkT (rankOf xs) (m + 1) n l row = (!(decide (((n + row.length : Nat) : Int) > 400) || decide (((l + 1 : Nat) : Int) > 60)) && (row.all (isNode (rankOf xs)) && walkT (rankOf xs) m (n + row.length) (l + 1) (row.flatMap kidsD))) := by
      show (row.isEmpty || _) = _
      rw [hre, Bool.false_or]
    refine s_when hw1 g6.i (fun hb F7 H7 g7 => ?_) fun hb F7 H7 g7 => ?_
    · rw [ewalk, hb] at q
      exact q _ F7 H7 (g46.trans g7) (.bl false)
    rw [ewalk, hb] at q
    rw [ewalk, hb] at hwalk
    rw [Bool.or_eq_false_iff] at hb
    have hb1 := of_decide_eq_false hb.1
    have hb2 := of_decide_eq_false hb.2
    have rv7 := rv.up (gv.trans g7.f)
    have hp7 := (gv.trans g7.f) _ _ (sF _ _ hp1)
    have q1 := ev_lc (K := K) (F := F7) (σ := [some (.ref ka), some y, some (.ref p), some (.int ((n : Int) + (row.length : Int))), some (.int ((l : Int) + 1)), some v, y6, y7]) (te := tCall (spNode K) [] C8.E0 (tCons (tVar 2) (tCons (tVar 6) tNil))) (tt := tYes) (g := gName 6) (vs := [6]) (fun _ => true) (fun d => .bool (isNode (rankOf xs) d)) (ew_list (ev_var (i := 5) ⟨v, rfl, rv7⟩)) (big hrow) fun d F' hd sF => by
      refine tk_name.imp fun σ2 hσ => ?_
      obtain ⟨u, rfl, ru⟩ := hσ
      exact ⟨rfl, eb_yes, fun _ => ev_node rfl (sF _ _ hp7) ht (ev_var (i := 6) ⟨u, rfl, ru⟩)⟩
    rw [made_map, map_bools] at q1
    have q2 := ev1 q1 rc_all
    rw [all_bools] at q2
    refine s_when (eb_not (eb_val q2)) g7.i (fun hb F8 H8 g8 => ?_) fun hb F8 H8 g8 => ?_
    · rw [Bool.not_eq_true'] at hb
      rw [hb] at q
      exact q _ F8 H8 ((g46.trans g7).trans g8) (.bl false)
    rw [Bool.not_eq_false'] at hb
    rw [hb] at q hwalk
    have hlen := flat_len (fun n r e => (rank_le hk e).2) row hb
    have em : made2 kidsD (fun _ c => c) row = row.flatMap kidsD := by
      unfold made2
      refine congrArg (fun g => List.flatMap g row) (funext fun d => ?_)
      exact List.map_id' _
    have q3 := ev_lc2 (K := K) (F := F8) (σ := [some (.ref ka), some y, some (.ref p), some (.int ((n : Int) + (row.length : Int))), some (.int ((l : Int) + 1)), some v, y6, y7]) (wi1 := iTup K (tSl (rSlA K) (tVar 6) (tPart (tC (.int 1))) tNoPart)) (te := tVar 7) (g := gName 6) (g1 := gName 7) (vs := [6, 7]) (vs1 := [7]) kidsD (fun _ c => c) (ew_list (ev_var (i := 5) ⟨v, rfl, rv7.up g8.f⟩)) (by rw [em]; exact big (by omega)) fun d F' hd sF => by
      refine tk_name.imp fun σ2 hσ => ?_
      obtain ⟨u, rfl, ru⟩ := hσ
      obtain ⟨nm, cs, k, rfl, _, _⟩ := node_cases (List.all_eq_true.mp hb d hd)
      refine ⟨rfl, ew_tup (ds := cs) ((ev_sl (ev_var (i := 6) ⟨u, rfl, ru⟩) (eo_some (i := 1) ev_int) eo_none rs_tup).is ?_), fun c F2 hc s2 => ?_⟩
      · rw [show (1 : Int) = ((1 : Nat) : Int) from rfl, cut_from]
        rfl
      · refine tk_name.imp fun σ3 hσ => ?_
        obtain ⟨u3, rfl, ru3⟩ := hσ
        exact ⟨rfl, ev_var (i := 7) ⟨u3, rfl, ru3⟩⟩
    rw [em] at q3
    refine s_set (K := K) q3 g8.i fun v2 F9 H9 g9 r9 => ?_
    refine ⟨n + row.length, l + 1, row.flatMap kidsD, F9, v2, y6, y7, ?_, ((g46.trans g7).trans g8).trans g9, ((sF.trans gv).trans g7.f).trans (g8.f.trans g9.f), r9, by omega, by omega, by omega, by omega, ?_⟩
    · show [some (V.ref ka), some y, some (V.ref p), some (V.int ((n : Int) + (row.length : Int))), some (V.int ((l : Int) + 1)), some v2, y6, y7] = _
      rw [Int.natCast_add, Int.natCast_add]
      rfl
    · rw [← hwalk]
      rfl
end
end Sx
set_option Elab.async false
set_option linter.all false
set_option maxRecDepth 100000
set_option maxHeartbeats 2000000
namespace Sx
open PySem PySem.Spec PyProof.Rows L2
open C8 (Cal pe_c pe_gc)
section
variable {P : Program} {w : World} {K : PySem.W.Frag} {mg : Str → Option Value} {base : Heap} {f : Addr} {fd : FuncData} {aK CK CN CS : Addr}
/-! ### is_tree -/
abbrev s_is_tree : Stmt := top 20
theorem sc_is_tree : FnScope ["kinds", "thing"] ["kinds", "thing"] (defScope s_is_tree) := ⟨rfl, rfl, rfl, by decide +kernel, rfl, by decide +kernel, by decide +kernel⟩
def spTree (K : PySem.W.Frag) (CK : Addr) : Sp := fun vs H Q E => ∃ (F : Hp) (x y : V) (kd d : PyData), Same F H ∧ vs = [x, y] ∧ Dq K F x kd ∧ Dq K F y d ∧ fitsK kd = true ∧
  ((isKinds kd = false ∧ ∀ H', Same H H' → E (.ref CK) none H') ∨
   (isKinds kd = true ∧ ∃ (ka : Addr) (ws : List V) (xs : List PyData), x = .ref ka ∧ kd = .tuple xs ∧ PlT F ka ws ∧ DqAll K F ws xs ∧ ∀ v F' H', Grow F H F' H' → Dq K F' v (.bool (treeOk xs d)) → Q v H'))
theorem ok_is_tree (F : Fun K "is_tree" "is_tree" s_is_tree f fd) (B : BI mg) (c_check_kinds : CalX P w K mg base 5 "check_kinds" ["kinds"] (p_check_kinds K CK)) (c_fits : Cal P w K mg base 2 "fits" (spFits K) []) : FnOk P w K mg base (L2.CX P w) 6 f fd ["kinds", "thing"] (spTree K CK) := by
  refine F.okX sc_is_tree (fun vs H Q E h => by obtain ⟨_, _, _, _, _, _, e, _⟩ := h; rw [e]; rfl) (fun cdv A outer s H vs Q E hr h => ?_)
  obtain ⟨F0, x, y, kd, d, sm, ev, rx, ry, hf, hcase⟩ := h
  subst ev
  refine ⟨_, (pss_cons (ps_expr (pe_cx c_check_kinds hr (by first | decide | omega) (by rfl) (passes_call (takes_of rfl rfl rfl rfl) (fun _ _ _ _ h => h)) (pa_cons (pv 0) pa_nil)))
        (pss_one (ps_ret (pe_c c_fits hr (by first | decide | omega) (by rfl) (pa_cons (pv 0) (pa_cons (pv 1) pa_nil)))))), ?_⟩
  have s0 : Slot K (start ["kinds", "thing"] [x, y]) F0 0 kd := ⟨x, rfl, rx⟩
  rcases hcase with ⟨hk, qe⟩ | ⟨hk, ka, ws, xs, rfl, rfl, hpl, hws, q⟩
  · refine call_raises (K := K) (g := x1 (g_check_kinds CK)) (ea_cons (ev_var s0) ea_nil) sm (C := CK) ?_ qe
    show (if fitsK kd then some (if isKinds kd then Except.ok PyData.none else .error CK) else none) = _
    rw [if_pos hf, hk]
    rfl
  · refine ev_callX (K := K) (g := x1 (g_check_kinds CK)) (d := .none) (ea_cons (ev_var s0) ea_nil) (show (if fitsK (.tuple xs) then some (if isKinds (.tuple xs) then Except.ok PyData.none else .error CK) else none) = _ by rw [if_pos hf, hk]; rfl) H sm _ fun u F1 H1 g1 r1 => ?_
    exact ⟨.ref ka, rfl, y, rfl, F1, ka, ws, xs, y, d, g1.i, rfl, hpl.up g1.f, hws.up g1.f, hk, ry.up g1.f, fun v F' H' g r => q v F' H' (g1.trans g) r⟩
end
end Sx
set_option Elab.async false
set_option linter.all false
set_option maxRecDepth 100000
set_option maxHeartbeats 2000000
namespace Sx
open PySem PySem.Spec PyProof.Rows L2
open C8 (Cal pe_c pe_gc)
theorem sing_lt (a b : Nat) : ([a] < [b]) ↔ a < b := by
  rw [List.cons_lt_cons_iff]
  constructor
  · rintro (h | ⟨_, h⟩)
    · exact h
    · exact absurd h (List.lt_irrefl _)
  · exact .inl
theorem letters_are (c : Nat) : c ∈ lettersS.cps.toList ↔ 97 ≤ c ∧ c ≤ 122 := by
  have e : lettersS.cps.toList = List.range' 97 26 := by decide +kernel
  rw [e, List.mem_range'_1]
  omega
def signIn : PyData → Bool
  | .str y => !decide (y.cps.toList < ("a" : Str).cps.toList) && !decide (("z" : Str).cps.toList < y.cps.toList)
  | _ => false
theorem signs_all (z : Str) : ((signs z).filter fun d => !signIn d).isEmpty = z.cps.toList.all (fun c => decide (c ∈ lettersS.cps.toList)) := by
  rw [Bool.eq_iff_iff, List.isEmpty_iff, List.filter_eq_nil_iff, List.all_eq_true]
  unfold signs
  constructor
  · intro h c hc
    have := h _ (List.mem_map.mpr ⟨c, hc, rfl⟩)
    rw [Bool.not_eq_true', Bool.not_eq_false] at this
    have h2 : (!decide ([c] < [97]) && !decide ([122] < [c])) = true := this
    rw [Bool.and_eq_true, Bool.not_eq_true', Bool.not_eq_true', decide_eq_false_iff_not, decide_eq_false_iff_not, sing_lt, sing_lt] at h2
    exact decide_eq_true ((letters_are c).mpr (by omega))
  · intro h d hd
    obtain ⟨c, hc, rfl⟩ := List.mem_map.mp hd
    have h2 := (letters_are c).mp (of_decide_eq_true (h c hc))
    rw [Bool.not_eq_true', Bool.not_eq_false]
    show (!decide ([c] < [97]) && !decide ([122] < [c])) = true
    rw [Bool.and_eq_true, Bool.not_eq_true', Bool.not_eq_true', decide_eq_false_iff_not, decide_eq_false_iff_not, sing_lt, sing_lt]
    omega
section
variable {P : Program} {w : World} {K : PySem.W.Frag} {mg : Str → Option Value} {base : Heap} {f : Addr} {fd : FuncData} {aK CK CN CS : Addr}
/-! ### _law_is_name -/
abbrev s__law_is_name : Stmt := top 49
theorem sc__law_is_name : FnScope ["thing", "sign"] ["thing"] (defScope s__law_is_name) := ⟨rfl, rfl, rfl, by decide +kernel, rfl, by decide +kernel, by decide +kernel⟩
theorem ok__law_is_name (F : Fun K "_law_is_name" "_law_is_name" s__law_is_name f fd) (B : BI mg) : FnOk P w K mg base CX0 1 f fd ["thing"] (p_is_name K) := by
  refine F.ok sc__law_is_name (fun vs H Q E h => len_f1 h) (fun cdv A outer s H vs Q E hr h => go1 h fun F0 a x d sm ra e ev q => ?_)
  subst ev
  have e' : (if fitsT a then some (PyData.bool (isName a)) else none) = some d := e
  split at e'
  case isFalse => cases e'
  rename_i hz
  cases e'
  refine ⟨_, (pss_cons (ps_if (PW.pt (pw_or (pt_not (pt_val (pe_callB (r := rIsi K) (call_isi) (by rfl) B.isinstance (by decide +kernel) (pa_cons (pv 0) (pa_cons (pe_bltn (v := .ty "str") (by rfl) B.str_ (by decide +kernel) rfl) pa_nil))))) (pw_or (pt_not (pt_chain (op_le) (op_le) pe_int (pe_callB (r := rLen0 K) (call_len) (by rfl) B.len (by decide +kernel) (pa_cons (pv 0) pa_nil)) pe_int)) (pw_or1 (pt_cmpR (r := rIn K false) (op_in_seq) (pv 0) (pe_lst (pa_cons pe_str (pa_cons pe_str (pa_cons pe_str (pa_cons pe_str (pa_cons pe_str (pa_cons pe_str (pa_cons pe_str (pa_cons pe_str (pa_cons pe_str pa_nil)))))))))) (by rfl)))))) (pss_one (ps_ret pe_bl)) pss_nil)
        (pss_one (ps_ret (pe_cmpR (r := rEqEL K) (op_eqEL hr.units) (pe_lc (own := [("sign", 1)]) (g := (gName 1)) rfl sc__law_is_name.nd (pi_str (pv 0)) (blkOk_by (own := [("sign", 1)]) (N := ["thing", "sign"]) (sc := defScope s__law_is_name) (by decide +kernel)) (fun _ _ _ _ _ => (pg_name (i := 1) sc__law_is_name.nd rfl (Or.inl rfl) (hf := (Or.inr rfl)))) (fun _ _ _ _ _ => (pts_one (pt_not (pt_chain (op_le_str) (op_le_str) pe_str (pv 1) pe_str)))) (fun _ _ _ _ _ => (pv 1))) (pe_lst pa_nil) (nomark _))))), ?_⟩
  have s0 : Slot K (start ["thing", "sign"] [x]) F0 0 a := ⟨x, rfl, ra⟩
  refine (?_ : Ret K _ _ F0 _) H sm _ q
  have hw := eb_not (eb_val (ev_isi (ev_var s0) (kit_str a)))
  cases a with
  | str z =>
    have hl : z.length ≤ sizeLine := of_decide_eq_true hz
    have h2 := eb_not (eb_test (ev_chain (K := K) ev_int (ev1 (ev_var s0) (rc_lenS hl)) (rv_bl (i := 1) (g := fun i j => decide (i ≤ j))) (fun _ => ev_int) fun _ => rv_bl (j := 8) (g := fun i j => decide (i ≤ j))))
    have h3 := eb_test (ev_op (K := K) (ev_var s0) (ev_lst (ea_cons (ev_str (x := "call")) (ea_cons (ev_str (x := "else")) (ea_cons (ev_str (x := "end")) (ea_cons (ev_str (x := "for")) (ea_cons (ev_str (x := "if")) (ea_cons (ev_str (x := "in")) (ea_cons (ev_str (x := "on")) (ea_cons (ev_str (x := "use")) (ea_cons (ev_str (x := "with")) ea_nil))))))))) (by show 9 ≤ sizeLine; decide)) (rv_inL (ds := keptL.map .str) (mem_str (z := z) (ws := keptL))))
    have hn : isName (.str z) = ((decide (1 ≤ (z.length : Int)) && decide ((z.length : Int) ≤ 8)) && (z.cps.toList.all (fun c => decide (c ∈ lettersS.cps.toList)) && !decide (z ∈ keptL))) := rfl
    rw [hn]
    refine r_when (eb_or hw fun _ => eb_or h2 fun _ => h3) (fun z' => ?_) fun z' => ?_
    · refine (r_ret ev_bl : Ret K _ _ F0 (.bool false)).is' (congrArg PyData.bool ?_)
      have z2 : (!(decide (1 ≤ (z.length : Int)) && decide ((z.length : Int) ≤ 8)) || decide (z ∈ keptL)) = true := z'
      generalize (decide (1 ≤ (z.length : Int)) && decide ((z.length : Int) ≤ 8)) = b1 at z2 ⊢
      generalize decide (z ∈ keptL) = b2 at z2 ⊢
      cases b1 with
      | false => rfl
      | true =>
        cases b2 with
        | true =>
          rw [Bool.not_true, Bool.and_false]
          rfl
        | false => exact nomatch z2
    · have z2 : (!(decide (1 ≤ (z.length : Int)) && decide ((z.length : Int) ≤ 8)) || decide (z ∈ keptL)) = false := z'
      rw [Bool.or_eq_false_iff, Bool.not_eq_false'] at z2
      have h8 : z.length < sizeLine := small1000 (by
        have := z2.1
        rw [Bool.and_eq_true, decide_eq_true_iff, decide_eq_true_iff] at this
        omega)
      have q1 := ev_lc (K := K) (te := tVar 1) (tt := tNot (tTest (tChain rLeS rLeS (tC (.str "a")) (tVar 1) (tC (.str "z"))))) (g := gName 1) (vs := [1]) (fun d => !signIn d) (fun d => d) (ew_str (ev_var s0)) (by
        unfold signs
        rw [List.length_map, Array.length_toList]
        exact h8) fun d F' hd sF => by
        unfold signs at hd
        obtain ⟨c, _, rfl⟩ := List.mem_map.mp hd
        refine tk_name.imp fun σ2 hσ => ?_
        obtain ⟨v, rfl, rv⟩ := hσ
        exact ⟨rfl, eb_not (eb_test (ev_chain (ev_str (x := "a")) (ev_var (i := 1) ⟨v, rfl, rv⟩) rv_leS (fun _ => ev_str (x := "z")) fun _ => rv_leS)), fun _ => ev_var ⟨v, rfl, rv⟩⟩
      have em : made (fun d => !signIn d) (fun d => d) (signs z) = (signs z).filter fun d => !signIn d := by
        unfold made
        exact List.map_id' _
      rw [em] at q1
      refine (r_ret (ev_op q1 (ev_lst ea_nil (Nat.zero_le _)) rv_eqEL)).is' (congrArg PyData.bool ?_)
      rw [signs_all, z2.1, z2.2, Bool.true_and, Bool.not_false, Bool.and_true]
  | _ => exact r_when (eb_or (c := false) hw fun z => nomatch z) (fun _ => r_ret ev_bl) fun z => nomatch z
/-! ### _law_is_number -/
abbrev s__law_is_number : Stmt := top 41
theorem sc__law_is_number : FnScope ["thing", "end"] ["thing", "end"] (defScope s__law_is_number) := ⟨rfl, rfl, rfl, by decide +kernel, rfl, by decide +kernel, by decide +kernel⟩
def g_law_is_number (d z : PyData) : Option PyData := match z with
  | .int n => some (.bool (isBetween d 0 (n - 1)))
  | _ => none
abbrev p__law_is_number (K : PySem.W.Frag) : Sp := spD K (f2 g_law_is_number)
theorem ok__law_is_number (F : Fun K "_law_is_number" "_law_is_number" s__law_is_number f fd) (B : BI mg) : FnOk P w K mg base CX0 1 f fd ["thing", "end"] (p__law_is_number K) := by
  refine F.ok sc__law_is_number (fun vs H Q E h => len_f2 h) (fun cdv A outer s H vs Q E hr h => go2 h fun F0 a b x y d sm ra rb e ev q => ?_)
  subst ev
  match b, e with
  | .int n, e =>
    cases e
    refine ⟨_, (pss_one (ps_ret (pe_and (pe_callB (r := rIsi K) (call_isi) (by rfl) B.isinstance (by decide +kernel) (pa_cons (pv 0) (pa_cons (pe_bltn (v := .ty "int") (by rfl) B.int_ (by decide +kernel) rfl) pa_nil))) (pe_and (pe_not (pe_callB (r := rIsi K) (call_isi) (by rfl) B.isinstance (by decide +kernel) (pa_cons (pv 0) (pa_cons (pe_bltn (v := .ty "bool") (by rfl) B.bool_ (by decide +kernel) rfl) pa_nil)))) (pe_one (pe_chain (op_le) (op_lt) pe_int (pv 0) (pv 1))))))), ?_⟩
    have s0 : Slot K (start ["thing", "end"] [x, y]) F0 0 a := ⟨x, rfl, ra⟩
    have s1 : Slot K (start ["thing", "end"] [x, y]) F0 1 (.int n) := ⟨y, rfl, rb⟩
    refine (r_ret ?_ : Ret K _ _ F0 _) H sm _ q
    have h1 := ev_isi (ev_var s0) (kit_int a)
    have h2 := ev_not (ev_isi (ev_var s0) (kit_bool a))
    cases a with
    | int i =>
      refine (ev_and h1 fun _ => ev_and h2 fun _ => ev_chain ev_int (ev_var s0) (rv_bl (i := 0) (g := fun i j => decide (i ≤ j))) (fun _ => ev_var s1) fun _ => rv_bl (g := fun i j => decide (i < j))).is (congrArg PyData.bool ?_)
      show (true && (!false && (decide (0 ≤ i) && decide (i < n)))) = (decide (0 ≤ i) && decide (i ≤ n - 1))
      rw [Bool.true_and, Bool.not_false, Bool.true_and]
      refine congrArg (decide (0 ≤ i) && ·) (decide_eq_decide.mpr ?_)
      omega
    | bool b => exact (ev_and h1 fun _ => ev_and (c := false) h2 fun z => nomatch z).is rfl
    | _ => exact (ev_and (c := false) h1 fun z => nomatch z).is rfl
end
end Sx
set_option Elab.async false
set_option linter.all false
set_option maxRecDepth 100000
set_option maxHeartbeats 2000000
namespace Sx
open PySem PySem.Spec PyProof.Rows L2
open C8 (Cal pe_c pe_gc)
section
variable {P : Program} {w : World} {K : PySem.W.Frag} {mg : Str → Option Value} {base : Heap} {f : Addr} {fd : FuncData} {aK CK CN CS : Addr}
theorem rv_neI {x y : Int} : RvD K rNe (.int x) (.int y) (.bool (!decide (x = y))) := fun F u v H s a b Q q => by
  cases a
  cases b
  refine ⟨rfl, ?_⟩
  have e : (!decide (V.int x = V.int y)) = (!decide (x = y)) := congrArg (!·) (decide_eq_decide.mpr ⟨fun h => V.int.inj h, fun h => congrArg _ h⟩)
  first
    | exact e ▸ q _ F H (.start s) (.bl _)
    | (rw [e]; exact q _ F H (.start s) (.bl _))
theorem rv_neS {x y : Str} : RvD K rNe (.str x) (.str y) (.bool (!decide (x = y))) := fun F u v H s a b Q q => by
  cases a
  cases b
  refine ⟨rfl, ?_⟩
  have e : (!decide (V.str x = V.str y)) = (!decide (x = y)) := congrArg (!·) (decide_eq_decide.mpr ⟨fun h => V.str.inj h, fun h => congrArg _ h⟩)
  first
    | exact e ▸ q _ F H (.start s) (.bl _)
    | (rw [e]; exact q _ F H (.start s) (.bl _))
theorem rises_iff : ∀ ns : List Str, risesD (ns.map .str) = true ↔ ns.Pairwise ltS
  | [] => ⟨fun _ => .nil, fun _ => rfl⟩
  | [a] => ⟨fun _ => by simp, fun _ => rfl⟩
  | a :: b :: r => by
    refine ⟨rises_pair _, fun h => ?_⟩
    show (lt2 (.str a) (.str b) && risesD ((b :: r).map .str)) = true
    rw [List.pairwise_cons] at h
    rw [(rises_iff (b :: r)).mpr h.2, Bool.and_true]
    exact decide_eq_true (h.1 b List.mem_cons_self)
theorem risesI_iff : ∀ ns : List Int, risesD (ns.map .int) = true ↔ ns.Pairwise (· < ·)
  | [] => ⟨fun _ => .nil, fun _ => rfl⟩
  | [a] => ⟨fun _ => by simp, fun _ => rfl⟩
  | a :: b :: r => by
    have ih := risesI_iff (b :: r)
    have e : risesD ((a :: b :: r).map .int) = (decide (a < b) && risesD ((b :: r).map .int)) := rfl
    rw [e, Bool.and_eq_true, ih, decide_eq_true_iff, List.pairwise_cons (l := b :: r)]
    constructor
    · rintro ⟨h1, h2⟩
      refine ⟨fun y hy => ?_, h2⟩
      rcases List.mem_cons.mp hy with z | z
      · rw [z]
        exact h1
      · have := (List.pairwise_cons.mp h2).1 y z
        omega
    · rintro ⟨h1, h2⟩
      exact ⟨h1 b List.mem_cons_self, h2⟩
theorem name_lay {n : Str} (h : isName (.str n) = true) : PyData.canLay0 (.str n) = true := by
  have h' : ((decide (1 ≤ (n.length : Int)) && decide ((n.length : Int) ≤ 8)) && (n.cps.toList.all (fun c => decide (c ∈ lettersS.cps.toList)) && !decide (n ∈ keptL))) = true := h
  rw [Bool.and_eq_true, Bool.and_eq_true, Bool.and_eq_true] at h'
  show n.cps.all (· < 0x110000) = true
  rw [← Array.all_toList, List.all_eq_true]
  intro c hc
  have := (letters_are c).mp (of_decide_eq_true (List.all_eq_true.mp h'.2.1 c hc))
  exact decide_eq_true (by omega)
/-! ### _law_are_kinds -/
abbrev s__law_are_kinds : Stmt := top 50
theorem sc__law_are_kinds : FnScope ["thing", "pair", "names", "name", "rank"] ["thing"] (defScope s__law_are_kinds) := ⟨rfl, rfl, rfl, by decide +kernel, rfl, by decide +kernel, by decide +kernel⟩
theorem ok__law_are_kinds (F : Fun K "_law_are_kinds" "_law_are_kinds" s__law_are_kinds f fd) (B : BI mg) (B2 : BI2 mg) (c__law_is_name : Cal P w K mg base 1 "_law_is_name" (p_is_name K) []) (c__law_is_number : Cal P w K mg base 1 "_law_is_number" (p__law_is_number K) []) :
    FnOk P w K mg base CX0 2 f fd ["thing"] (p_is_kinds K) := by
  refine F.ok sc__law_are_kinds (fun vs H Q E h => len_f1 h) (fun cdv A outer s H vs Q E hr h => go1 h fun F0 a x d sm ra e ev q => ?_)
  subst ev
  have e' : (if fitsK a then some (PyData.bool (isKinds a)) else none) = some d := e
  split at e'
  case isFalse => cases e'
  rename_i hz
  cases e'
  refine ⟨_, (pss_cons (ps_if (PW.pt (pw_or (pt_not (pt_val (pe_callB (r := rIsi K) (call_isi) (by rfl) B.isinstance (by decide +kernel) (pa_cons (pv 0) (pa_cons (pe_bltn (v := .ty "tuple") (by rfl) B.tuple (by decide +kernel) rfl) pa_nil))))) (pw_or1 (pt_not (pt_chain (op_le) (op_le) pe_int (pe_callB (r := rLen0 K) (call_len) (by rfl) B.len (by decide +kernel) (pa_cons (pv 0) pa_nil)) pe_int))))) (pss_one (ps_ret pe_bl)) pss_nil)
        (pss_cons (ps_for PassesOwn.never rfl (pi_tup (pv 0)) (pg_name (i := 1) sc__law_are_kinds.nd rfl (Or.inl rfl) (hf := (Or.inr rfl))) (pss_one (ps_if (PW.pt (pw_or (pt_not (pt_val (pe_callB (r := rIsi K) (call_isi) (by rfl) B.isinstance (by decide +kernel) (pa_cons (pv 1) (pa_cons (pe_bltn (v := .ty "tuple") (by rfl) B.tuple (by decide +kernel) rfl) pa_nil))))) (pw_or (pt_cmpR (op_ne) (pe_callB (r := rLen0 K) (call_len) (by rfl) B.len (by decide +kernel) (pa_cons (pv 1) pa_nil)) pe_int (nomark _)) (pw_or (pt_not (pt_val (pe_c c__law_is_name hr (by first | decide | omega) (by rfl) (pa_cons (pe_ix (r := rIxT K) ix_tup (pv 1) pe_int (fun _ _ => rfl)) pa_nil)))) (pw_or1 (pt_not (pt_val (pe_c c__law_is_number hr (by first | decide | omega) (by rfl) (pa_cons (pe_ix (r := rIxT K) ix_tup (pv 1) pe_int (fun _ _ => rfl)) (pa_cons pe_int pa_nil)))))))))) (pss_one (ps_ret pe_bl)) pss_nil)))
        (pss_cons (ps_setLc (i := 2) (own := [("name", 3), ("rank", 4)]) (g := (gTup K 2 (gCons (gName 3) (gCons (gName 4) gNil)))) rfl sc__law_are_kinds.nd rfl rfl (sw_true rfl rfl rfl (by decide +kernel)) (pi_tup (pv 0)) (blkOk_by (own := [("name", 3), ("rank", 4)]) (N := ["thing", "pair", "names", "name", "rank"]) (sc := defScope s__law_are_kinds) (by decide +kernel)) (fun _ _ _ _ _ => (pg_tup rfl (pgs_cons (pg_name (i := 3) sc__law_are_kinds.nd rfl (Or.inl rfl) (hf := (Or.inr rfl))) (pgs_cons (pg_name (i := 4) sc__law_are_kinds.nd rfl (Or.inl rfl) (hf := (Or.inr rfl))) pgs_nil)))) (fun _ _ _ _ _ => pts_nil) (fun _ _ _ _ _ => (pv 3)))
        (pss_one (ps_ret (pe_and (pe_cmpR (r := rEqD K) (op_eqD hr.units) (pv 2) (pe_callB (r := rSortedSS P w) (cr_sortedSS rfl) (by rfl) B.sorted (by decide +kernel) (pa_cons (pe_callTy (r := rSetStr K P w) (call_setStrL rfl) (by rfl) B2.set (by decide +kernel) (pa_cons (pv 2) pa_nil)) pa_nil)) (nomark _)) (pe_one (pe_cmpR (r := rIn K false) (op_in_seq) pe_int (pe_lc (own := [("name", 3), ("rank", 4)]) (g := (gTup K 2 (gCons (gName 3) (gCons (gName 4) gNil)))) rfl sc__law_are_kinds.nd (pi_tup (pv 0)) (blkOk_by (own := [("name", 3), ("rank", 4)]) (N := ["thing", "pair", "names", "name", "rank"]) (sc := defScope s__law_are_kinds) (by decide +kernel)) (fun _ _ _ _ _ => (pg_tup rfl (pgs_cons (pg_name (i := 3) sc__law_are_kinds.nd rfl (Or.inl rfl) (hf := (Or.inr rfl))) (pgs_cons (pg_name (i := 4) sc__law_are_kinds.nd rfl (Or.inl rfl) (hf := (Or.inr rfl))) pgs_nil)))) (fun _ _ _ _ _ => pts_nil) (fun _ _ _ _ _ => (pv 4))) (by rfl))))))))), ?_⟩
  have s0 : Slot K (start ["thing", "pair", "names", "name", "rank"] [x]) F0 0 a := ⟨x, rfl, ra⟩
  have hw := eb_not (eb_val (ev_isi (ev_var s0) (kit_tup a)))
  cases a with
  | tuple xs =>
    have hz' : xs.all fitsP = true := hz
    have h2 := eb_not (eb_test (ev_chain (K := K) ev_int (ev1 (ev_var s0) rc_lenT) (rv_bl (i := 1) (g := fun i j => decide (i ≤ j))) (fun _ => ev_int) fun _ => rv_bl (j := 6) (g := fun i j => decide (i ≤ j))))
    have hk : isKinds (.tuple xs) = ((decide (1 ≤ (xs.length : Int)) && decide ((xs.length : Int) ≤ 6)) && (xs.all isKind && (risesD (xs.map fstD) && (xs.map sndD).any isZero))) := rfl
    rw [hk] at q
    refine s_when (eb_or hw fun _ => h2) sm (fun hb F1 H1 g1 => ?_) fun hb F1 H1 g1 => ?_
    · have z2 : (!(decide (1 ≤ (xs.length : Int)) && decide ((xs.length : Int) ≤ 6))) = true := hb
      rw [Bool.not_eq_true'] at z2
      rw [z2, Bool.false_and] at q
      exact q _ F1 H1 g1 (.bl false)
    have z2 : (!(decide (1 ≤ (xs.length : Int)) && decide ((xs.length : Int) ≤ 6))) = false := hb
    rw [Bool.not_eq_false'] at z2
    rw [z2, Bool.true_and] at q
    have z4 := z2
    rw [Bool.and_eq_true, decide_eq_true_iff, decide_eq_true_iff] at z4
    have hl : xs.length < sizeLine := small1000 (by omega)
    refine s_for (K := K) (F := F1) (ds := xs) g1.i (ew_tup (ev_var (s0.up g1.f))) fun F2 H2 g2 =>
      ⟨fun i σ' F' H' => Grow F1 H1 F' H' ∧ Same F2 F' ∧ (∃ y1, σ' = [some x, y1, none, none, none]) ∧ ∀ d ∈ xs.take i, isKind d = true,
        ⟨g2, Same.refl _, ⟨_, rfl⟩, fun d hd => by simp at hd⟩, fun i σ' F' H' h => ⟨h.2.1, h.1.i⟩, fun i d σ' F' H' hd hI F3 H3 v g3 rv => ?_, fun σ' F' H' hI => ?_⟩
    · obtain ⟨gI, sI, ⟨y1, rfl⟩, hall⟩ := hI
      have hmem := List.mem_of_getElem? hd
      have hP := List.all_eq_true.mp hz' d hmem
      have e1 : EvD K (tVar 1) [some x, some v, none, none, none] F3 d := ev_var ⟨v, rfl, rv⟩
      have t1 := eb_not (eb_val (ev_isi e1 (kit_tup d)))
      have key : EvB (tOr (tNot (tB (tCB (rIsi K) (tCons (tVar 1) (tCons (tC (.ty "tuple")) tNil))))) (tOr (tTest (tOp rNe (tCB (rLen0 K) (tCons (tVar 1) tNil)) (tC (.int 2)))) (tOr (tNot (tB (tCall (p_is_name K) [] C8.E0 (tCons (tOp (rIxT K) (tVar 1) (tC (.int 0))) tNil)))) (tNot (tB (tCall (p__law_is_number K) [] C8.E0 (tCons (tOp (rIxT K) (tVar 1) (tC (.int 1))) (tCons (tC (.int 4)) tNil)))))))) [some x, some v, none, none, none] F3 (!isKind d) := by
        cases d with
        | tuple ys =>
          have t2 := eb_test (ev_op (ev1 e1 rc_lenT) (ev_int (i := 2)) rv_neI)
          match ys, hP, e1, t1, t2 with
          | [n, r], hP, e1, t1, t2 =>
            refine (eb_or t1 fun _ => eb_or t2 fun _ => eb_or (eb_not (eb_val (ev_call (K := K) (f := f1 g_is_name) (ea_cons (ev_op e1 ev_int (rv_ixT (k := 0) (d := n) rfl)) ea_nil) (if_pos hP)))) fun _ => eb_not (eb_val (ev_call (K := K) (f := f2 g_law_is_number) (ea_cons (ev_op e1 ev_int (rv_ixT (k := 1) (d := r) rfl)) (ea_cons (ev_int (i := 4)) ea_nil)) rfl))).is ?_
            show (!isName n || !isBetween r 0 (4 - 1)) = !(isName n && isBetween r 0 3)
            rw [Bool.not_and]
            rfl
          | [], _, _, t1, t2 => exact (eb_or t1 fun _ => eb_or (c := false) t2 fun z => nomatch z).is rfl
          | [_], _, _, t1, t2 => exact (eb_or t1 fun _ => eb_or (c := false) t2 fun z => nomatch z).is rfl
          | a :: b :: c :: r, _, _, t1, t2 =>
            have e3 : (!decide (((a :: b :: c :: r).length : Int) = 2)) = true := by
              rw [Bool.not_eq_true', decide_eq_false_iff_not, List.length_cons, List.length_cons, List.length_cons]
              omega
            rw [e3] at t2
            exact (eb_or t1 fun _ => eb_or (c := false) t2 fun z => nomatch z).is rfl
        | _ => exact (eb_or (c := false) t1 fun z => nomatch z).is rfl
      refine s_if key g3.i (fun hb F4 H4 g4 => ?_) fun hb F4 H4 g4 => ?_
      · rw [Bool.not_eq_true'] at hb
        have e0 : xs.all isKind = false := by
          rw [Bool.eq_false_iff]
          intro z
          rw [List.all_eq_true.mp z d hmem] at hb
          cases hb
        rw [e0, Bool.false_and] at q
        exact q _ F4 H4 (((g1.trans gI).trans g3).trans g4) (.bl false)
      · rw [Bool.not_eq_false'] at hb
        refine ⟨F4, (gI.trans g3).trans g4, sI.trans (g3.f.trans g4.f), ⟨_, rfl⟩, fun d' hd' => ?_⟩
        rw [List.take_add_one, hd] at hd'
        rcases List.mem_append.mp hd' with h | h
        · exact hall d' h
        · rw [List.mem_singleton.mp h]
          exact hb
    · obtain ⟨gI, sI, ⟨y1, rfl⟩, hall⟩ := hI
      rw [List.take_length] at hall
      have hka : xs.all isKind = true := List.all_eq_true.mpr hall
      rw [hka, Bool.true_and] at q
      have s0' : Slot K [some x, y1, none, none, none] F' 0 (.tuple xs) := ⟨x, rfl, ra.up (g1.f.trans gI.f)⟩
      have qn := ev_lc (K := K) (te := tVar 3) (tt := tYes) (g := gTup K 2 (gCons (gName 3) (gCons (gName 4) gNil))) (vs := [3, 4]) (fun _ => true) fstD (ew_tup (ev_var s0')) hl fun d F' hd sF => by
        obtain ⟨n, r, rfl, _⟩ := kind_cases (hall d hd)
        refine tk_two.imp fun σ2 hσ => ?_
        obtain ⟨v, u, rfl, rv, ru⟩ := hσ
        exact ⟨rfl, eb_yes, fun _ => ev_var ⟨v, rfl, rv⟩⟩
      have en : xs.map fstD = (xs.map nameD).map .str := by
        rw [List.map_map]
        refine List.map_congr_left fun d hd => ?_
        obtain ⟨n, r, rfl, _⟩ := kind_cases (hall d hd)
        rfl
      rw [made_map, en] at qn
      refine s_set (K := K) qn gI.i fun v F4 H4 g4 r4 => ?_
      have e2 : EvD K (tVar 2) [some x, y1, some v, none, none] F4 (.list ((xs.map nameD).map .str)) := ev_var ⟨v, rfl, r4⟩
      have qr := ev_lc (K := K) (σ := [some x, y1, some v, none, none]) (te := tVar 4) (tt := tYes) (g := gTup K 2 (gCons (gName 3) (gCons (gName 4) gNil))) (vs := [3, 4]) (fun _ => true) sndD (ew_tup (ev_var (F := F4) (i := 0) ⟨x, rfl, ra.up ((g1.f.trans gI.f).trans g4.f)⟩)) hl fun d F' hd sF => by
        obtain ⟨n, r, rfl, _⟩ := kind_cases (hall d hd)
        refine tk_two.imp fun σ2 hσ => ?_
        obtain ⟨v, u, rfl, rv, ru⟩ := hσ
        exact ⟨rfl, eb_yes, fun _ => ev_var ⟨u, rfl, ru⟩⟩
      have er : xs.map sndD = (xs.map fun d => intD (sndD d)).map .int := by
        rw [List.map_map]
        refine List.map_congr_left fun d hd => ?_
        obtain ⟨n, r, rfl, _⟩ := kind_cases (hall d hd)
        rfl
      rw [made_map, er] at qr
      refine ev_and (K := K) (ev_eqSortS (P := P) (w := w) (b := risesD (xs.map fstD)) e2 e2 (by rw [List.length_map]; omega) (fun s hs => ?_) ?_) (fun _ => ev_op (ev_int (i := 0)) qr (rv_inL mem_int)) H4 g4.i _ fun u F5 H5 g5 r5 => ?_
      · obtain ⟨d, hd, rfl⟩ := List.mem_map.mp hs
        obtain ⟨n, r, rfl, hn, _⟩ := kind_cases (hall d hd)
        exact name_lay hn
      · rw [en]
        exact rises_iff _
      · have ez : decide ((0 : Int) ∈ xs.map fun d => intD (sndD d)) = (xs.map sndD).any isZero := by
          rw [er, Bool.eq_iff_iff, decide_eq_true_iff, List.any_map, List.any_eq_true]
          constructor
          · intro h
            exact ⟨0, h, rfl⟩
          · rintro ⟨i, hi, e0⟩
            have : i = 0 := of_decide_eq_true e0
            rw [← this]
            exact hi
        rw [ez] at r5
        exact q u F5 H5 (((g1.trans gI).trans g4).trans g5) r5
  | _ => exact (r_when (eb_or (c := false) hw fun z => nomatch z) (fun _ => r_ret ev_bl) fun z => nomatch z : Ret K _ _ F0 (.bool false)) H sm _ q
end
end Sx
set_option Elab.async false
set_option linter.all false
set_option maxRecDepth 100000
set_option maxHeartbeats 4000000
namespace Sx
open PySem PySem.Spec PyProof.Rows L2
open C8 (Cal pe_c pe_gc)
section
variable {P : Program} {w : World} {K : PySem.W.Frag} {mg : Str → Option Value} {base : Heap} {f : Addr} {fd : FuncData} {aK CK CN CS : Addr}
/-! ### _law_many_tuples -/
abbrev s__law_many_tuples : Stmt := top 52
theorem sc__law_many_tuples : FnScope ["many", "rank", "found", "lap"] ["many", "rank"] (defScope s__law_many_tuples) := ⟨rfl, rfl, rfl, by decide +kernel, rfl, by decide +kernel, by decide +kernel⟩
def g_law_many_tuples (n r : PyData) : Option PyData := match n, r with
  | .int n, .int r => if (decide (1 ≤ n) && decide (n ≤ 60)) && (decide (0 ≤ r) && decide (r ≤ 3)) then some (.int (n ^ r.toNat)) else none
  | _, _ => none
abbrev p__law_many_tuples (K : PySem.W.Frag) : Sp := spD K (f2 g_law_many_tuples)
theorem pow_small {n : Int} (h1 : 1 ≤ n) (h2 : n ≤ 60) : ∀ k : Nat, k ≤ 3 → 1 ≤ n ^ k ∧ n ^ k ≤ 60 ^ k
  | 0, _ => by
    rw [Int.pow_zero, Int.pow_zero]
    omega
  | k + 1, h => by
    obtain ⟨i1, i2⟩ := pow_small h1 h2 k (by omega)
    rw [Int.pow_succ, Int.pow_succ]
    constructor
    · have := Int.mul_le_mul i1 h1 (by omega) (by omega)
      omega
    · exact Int.mul_le_mul i2 h2 (by omega) (Int.le_trans (by omega) i2)
theorem sixty : ∀ j : Nat, j ≤ 3 → (60 : Int) ^ j ≤ 216000
  | 0, _ => by decide
  | 1, _ => by decide
  | 2, _ => by decide
  | 3, _ => by decide
  | j + 4, h => by omega
theorem ok__law_many_tuples (F : Fun K "_law_many_tuples" "_law_many_tuples" s__law_many_tuples f fd) (B : BI mg) : FnOk P w K mg base CX0 1 f fd ["many", "rank"] (p__law_many_tuples K) := by
  refine F.ok sc__law_many_tuples (fun vs H Q E h => len_f2 h) (fun cdv A outer s H vs Q E hr h => go2 h fun F0 a b x y d sm ra rb e ev q => ?_)
  subst ev
  match a, b, e with
  | .int n, .int r, e =>
    have e' : (if (decide (1 ≤ n) && decide (n ≤ 60)) && (decide (0 ≤ r) && decide (r ≤ 3)) then some (PyData.int (n ^ r.toNat)) else none) = some d := e
    split at e'
    case isFalse => cases e'
    rename_i hc
    cases e'
    rw [Bool.and_eq_true, Bool.and_eq_true, Bool.and_eq_true, decide_eq_true_iff, decide_eq_true_iff, decide_eq_true_iff, decide_eq_true_iff] at hc
    obtain ⟨⟨n1, n2⟩, r0, r3⟩ := hc
    cases ra
    cases rb
    refine ⟨_, (pss_cons (ps_set (i := 2) sc__law_many_tuples.nd rfl (Or.inl rfl) pe_int)
        (pss_cons (ps_for PassesOwn.never rfl (pi_range1 (by rfl) B.range (pa_cons (pv 1) pa_nil)) (pg_name (i := 3) sc__law_many_tuples.nd rfl (Or.inl rfl) (hf := (Or.inr rfl))) (pss_one (ps_set (i := 2) sc__law_many_tuples.nd rfl (Or.inl rfl) (pe_op (op_mul) (pv 2) (pv 0)))))
        (pss_one (ps_ret (pv 2))))), ?_⟩
    refine s_for (K := K) (F := F0) (ds := rgs 0 r.toNat) sm (ew_rng1 (ea_cons (ev_var (i := 1) ⟨.int r, rfl, .int r⟩) ea_nil) (by omega)) fun F2 H2 g2 =>
      ⟨fun i σ' F' H' => Grow F2 H2 F' H' ∧ ∃ y3, σ' = [some (.int n), some (.int r), some (.int (n ^ i)), y3], ⟨.start g2.i, none, by rw [Int.pow_zero]; rfl⟩, fun i σ' F' H' h => ⟨h.1.f, h.1.i⟩, fun i d σ' F' H' hd hI F3 H3 v g3 rv => ?_, fun σ' F' H' hI => ?_⟩
    · obtain ⟨gI, y3, rfl⟩ := hI
      obtain ⟨hi, rfl⟩ := rgs_get hd
      cases rv
      have hp := pow_small n1 n2 i (by omega)
      have hp2 := sixty i (by omega)
      refine s_set (K := K) (F := F3) (d := .int (n ^ i * n)) (ev_op (ev_var (i := 2) ⟨_, rfl, .int (n ^ i)⟩) (ev_var (i := 0) ⟨_, rfl, .int n⟩) (rv_intC (C := CMul) (g := fun i j => i * j) (mulL (by omega)))) g3.i fun v F4 H4 g4 r4 => ?_
      cases r4
      refine ⟨F4, (gI.trans g3).trans g4, some (V.int (0 + (i : Int))), ?_⟩
      rw [Int.pow_succ]
      rfl
    · obtain ⟨gI, y3, rfl⟩ := hI
      rw [rgs_len] at *
      refine now_var rfl _ ?_
      exact q _ F' H' (g2.trans gI) (.int _)
end
end Sx
set_option Elab.async false
set_option linter.all false
set_option maxRecDepth 100000
set_option maxHeartbeats 4000000
namespace Sx
open PySem PySem.Spec PyProof.Rows L2
open C8 (Cal pe_c pe_gc)
section
variable {P : Program} {w : World} {K : PySem.W.Frag} {mg : Str → Option Value} {base : Heap} {f : Addr} {fd : FuncData} {aK CK CN CS : Addr}
/-! ### _law_is_set -/
abbrev s__law_is_set : Stmt := top 53
theorem sc__law_is_set : FnScope ["thing", "row", "pair", "state", "goal", "name", "rank"] ["thing"] (defScope s__law_is_set) := ⟨rfl, rfl, rfl, by decide +kernel, rfl, by decide +kernel, by decide +kernel⟩
/-- a set, or what it isn't, of few states that take -/
def fewS (d : PyData) : Bool := match d with
  | .tuple [_, _, _, _, .tuple ts] => decide (ts.length ≤ 60)
  | _ => true
def okS (d : PyData) : Bool := fitsA d && fewS d
def g_law_is_set (d : PyData) : Option PyData := if okS d then some (.bool (isSet d)) else none
abbrev p__law_is_set (K : PySem.W.Frag) : Sp := spD K (f1 g_law_is_set)
theorem not_five {xs : List PyData} (h : xs.length ≠ 5) : isSet (.tuple xs) = false := by
  unfold isSet
  split
  · rename_i e
    cases e
    exact absurd rfl h
  · rfl
theorem filter_none (g : PyData → Bool) (xs : List PyData) : (!(xs.filter fun d => !g d).isEmpty) = !xs.all g := by
  refine congrArg (!·) ?_
  rw [Bool.eq_iff_iff, List.isEmpty_iff, List.filter_eq_nil_iff, List.all_eq_true]
  refine forall_congr' fun d => imp_congr_right fun _ => ?_
  cases g d <;> simp
theorem ok__law_is_set (F : Fun K "_law_is_set" "_law_is_set" s__law_is_set f fd) (B : BI mg) (B2 : BI2 mg) (c__law_are_kinds : Cal P w K mg base 2 "_law_are_kinds" (p_is_kinds K) []) (c__law_is_number : Cal P w K mg base 1 "_law_is_number" (p__law_is_number K) []) (c__law_many_tuples : Cal P w K mg base 1 "_law_many_tuples" (p__law_many_tuples K) []) :
    FnOk P w K mg base CX0 3 f fd ["thing"] (p__law_is_set K) := by
  refine F.ok sc__law_is_set (fun vs H Q E h => len_f1 h) (fun cdv A outer s H vs Q E hr h => go1 h fun F0 a x d sm ra e ev q => ?_)
  subst ev
  have e' : (if okS a then some (PyData.bool (isSet a)) else none) = some d := e
  split at e'
  case isFalse => cases e'
  rename_i hz
  cases e'
  refine ⟨_, (pss_cons (ps_if (PW.pt (pw_or (pt_not (pt_val (pe_callB (r := rIsi K) (call_isi) (by rfl) B.isinstance (by decide +kernel) (pa_cons (pv 0) (pa_cons (pe_bltn (v := .ty "tuple") (by rfl) B.tuple (by decide +kernel) rfl) pa_nil))))) (pw_or (pt_cmpR (op_ne) (pe_callB (r := rLen0 K) (call_len) (by rfl) B.len (by decide +kernel) (pa_cons (pv 0) pa_nil)) pe_int (nomark _)) (pw_or (pt_not (pt_val (pe_callB (r := rIsi K) (call_isi) (by rfl) B.isinstance (by decide +kernel) (pa_cons (pe_ix (r := rIxT K) ix_tup (pv 0) pe_int (fun _ _ => rfl)) (pa_cons (pe_bltn (v := .ty "str") (by rfl) B.str_ (by decide +kernel) rfl) pa_nil))))) (pw_or1 (pt_cmpR (op_ne) (pe_ix (r := rIxT K) ix_tup (pv 0) pe_int (fun _ _ => rfl)) pe_str (nomark _))))))) (pss_one (ps_ret pe_bl)) pss_nil)
        (pss_cons (ps_if (PW.pt (pw_or (pt_not (pt_val (pe_c c__law_are_kinds hr (by first | decide | omega) (by rfl) (pa_cons (pe_ix (r := rIxT K) ix_tup (pv 0) pe_int (fun _ _ => rfl)) pa_nil)))) (pw_or (pt_not (pt_val (pe_c c__law_is_number hr (by first | decide | omega) (by rfl) (pa_cons (pe_ix (r := rIxT K) ix_tup (pv 0) pe_int (fun _ _ => rfl)) (pa_cons pe_int pa_nil))))) (pw_or1 (pt_cmpR (op_eq) (pe_ix (r := rIxT K) ix_tup (pv 0) pe_int (fun _ _ => rfl)) pe_int (nomark _)))))) (pss_one (ps_ret pe_bl)) pss_nil)
        (pss_cons (ps_if (PW.pt (pw_or (pt_not (pt_val (pe_callB (r := rIsi K) (call_isi) (by rfl) B.isinstance (by decide +kernel) (pa_cons (pe_ix (r := rIxT K) ix_tup (pv 0) pe_int (fun _ _ => rfl)) (pa_cons (pe_bltn (v := .ty "tuple") (by rfl) B.tuple (by decide +kernel) rfl) pa_nil))))) (pw_or (pt_cmpR (op_ne) (pe_callB (r := rLen0 K) (call_len) (by rfl) B.len (by decide +kernel) (pa_cons (pe_ix (r := rIxT K) ix_tup (pv 0) pe_int (fun _ _ => rfl)) pa_nil)) (pe_callB (r := rLen0 K) (call_len) (by rfl) B.len (by decide +kernel) (pa_cons (pe_ix (r := rIxT K) ix_tup (pv 0) pe_int (fun _ _ => rfl)) pa_nil)) (nomark _)) (pw_or1 (pt_not (pt_val (pe_callB (r := rIsi K) (call_isi) (by rfl) B.isinstance (by decide +kernel) (pa_cons (pe_ix (r := rIxT K) ix_tup (pv 0) pe_int (fun _ _ => rfl)) (pa_cons (pe_bltn (v := .ty "tuple") (by rfl) B.tuple (by decide +kernel) rfl) pa_nil))))))))) (pss_one (ps_ret pe_bl)) pss_nil)
        (pss_cons (ps_if (pt_cmpR (op_gt) (pe_callB (r := rSum K) (cr_sum rfl) (by rfl) B.sum (by decide +kernel) (pa_cons (pe_lc (own := [("name", 5), ("rank", 6)]) (g := (gTup K 2 (gCons (gName 5) (gCons (gName 6) gNil)))) rfl sc__law_is_set.nd (pi_tup (pe_ix (r := rIxT K) ix_tup (pv 0) pe_int (fun _ _ => rfl))) (blkOk_by (own := [("name", 5), ("rank", 6)]) (N := ["thing", "row", "pair", "state", "goal", "name", "rank"]) (sc := defScope s__law_is_set) (by decide +kernel)) (fun _ _ _ _ _ => (pg_tup rfl (pgs_cons (pg_name (i := 5) sc__law_is_set.nd rfl (Or.inl rfl) (hf := (Or.inr rfl))) (pgs_cons (pg_name (i := 6) sc__law_is_set.nd rfl (Or.inl rfl) (hf := (Or.inr rfl))) pgs_nil)))) (fun _ _ _ _ _ => pts_nil) (fun _ _ _ _ _ => (pe_c c__law_many_tuples hr (by first | decide | omega) (by rfl) (pa_cons (pe_ix (r := rIxT K) ix_tup (pv 0) pe_int (fun _ _ => rfl)) (pa_cons (pv 6) pa_nil))))) pa_nil)) pe_int (nomark _)) (pss_one (ps_ret pe_bl)) pss_nil)
        (pss_cons (ps_for PassesOwn.never rfl (RZ.pi_zipA (by rfl) B.zip (pa_cons (pe_ix (r := rIxT K) ix_tup (pv 0) pe_int (fun _ _ => rfl)) (pa_cons (pe_ix (r := rIxT K) ix_tup (pv 0) pe_int (fun _ _ => rfl)) pa_nil))) (pg_tup rfl (pgs_cons (pg_name (i := 1) sc__law_is_set.nd rfl (Or.inl rfl) (hf := (Or.inr rfl))) (pgs_cons (pg_name (i := 2) sc__law_is_set.nd rfl (Or.inl rfl) (hf := (Or.inr rfl))) pgs_nil))) (pss_cons (ps_if (PW.pt (pw_or (pt_not (pt_val (pe_callB (r := rIsi K) (call_isi) (by rfl) B.isinstance (by decide +kernel) (pa_cons (pv 1) (pa_cons (pe_bltn (v := .ty "tuple") (by rfl) B.tuple (by decide +kernel) rfl) pa_nil))))) (pw_or1 (pt_cmpR (op_ne) (pe_callB (r := rLen0 K) (call_len) (by rfl) B.len (by decide +kernel) (pa_cons (pv 1) pa_nil)) (pe_c c__law_many_tuples hr (by first | decide | omega) (by rfl) (pa_cons (pe_ix (r := rIxT K) ix_tup (pv 0) pe_int (fun _ _ => rfl)) (pa_cons (pe_ix (r := rIxT K) ix_tup (pv 2) pe_int (fun _ _ => rfl)) pa_nil))) (nomark _))))) (pss_one (ps_ret pe_bl)) pss_nil)
        (pss_one (ps_if (pt_cmpR (r := rNeEL K) (op_neEL hr.units) (pe_lc (own := [("goal", 4)]) (g := (gName 4)) rfl sc__law_is_set.nd (pi_tup (pv 1)) (blkOk_by (own := [("goal", 4)]) (N := ["thing", "row", "pair", "state", "goal", "name", "rank"]) (sc := defScope s__law_is_set) (by decide +kernel)) (fun _ _ _ _ _ => (pg_name (i := 4) sc__law_is_set.nd rfl (Or.inl rfl) (hf := (Or.inr rfl)))) (fun _ _ _ _ _ => (pts_one (pt_not (pt_val (pe_c c__law_is_number hr (by first | decide | omega) (by rfl) (pa_cons (pv 4) (pa_cons (pe_ix (r := rIxT K) ix_tup (pv 0) pe_int (fun _ _ => rfl)) pa_nil))))))) (fun _ _ _ _ _ => (pv 4))) (pe_lst pa_nil) (nomark _)) (pss_one (ps_ret pe_bl)) pss_nil))))
        (pss_cons (ps_if (pt_cmpR (r := rNeEL K) (op_neEL hr.units) (pe_lc (own := [("state", 3)]) (g := (gName 3)) rfl sc__law_is_set.nd (pi_tup (pe_ix (r := rIxT K) ix_tup (pv 0) pe_int (fun _ _ => rfl))) (blkOk_by (own := [("state", 3)]) (N := ["thing", "row", "pair", "state", "goal", "name", "rank"]) (sc := defScope s__law_is_set) (by decide +kernel)) (fun _ _ _ _ _ => (pg_name (i := 3) sc__law_is_set.nd rfl (Or.inl rfl) (hf := (Or.inr rfl)))) (fun _ _ _ _ _ => (pts_one (pt_not (pt_val (pe_c c__law_is_number hr (by first | decide | omega) (by rfl) (pa_cons (pv 3) (pa_cons (pe_ix (r := rIxT K) ix_tup (pv 0) pe_int (fun _ _ => rfl)) pa_nil))))))) (fun _ _ _ _ _ => (pv 3))) (pe_lst pa_nil) (nomark _)) (pss_one (ps_ret pe_bl)) pss_nil)
        (pss_one (ps_ret (pe_cmpR (r := rEqD K) (op_eqD hr.units) (pe_callTy (r := rListOf K) (call_list_of) (by rfl) B.list_ (by decide +kernel) (pa_cons (pe_ix (r := rIxT K) ix_tup (pv 0) pe_int (fun _ _ => rfl)) pa_nil)) (pe_callB (r := rSortedSet w) (cr_sortedSet rfl) (by rfl) B.sorted (by decide +kernel) (pa_cons (pe_callTy (r := rSetIntT K w) (call_setIntT rfl) (by rfl) B2.set (by decide +kernel) (pa_cons (pe_ix (r := rIxT K) ix_tup (pv 0) pe_int (fun _ _ => rfl)) pa_nil)) pa_nil)) (nomark _)))))))))), ?_⟩
  have s0 : Slot K (start ["thing", "row", "pair", "state", "goal", "name", "rank"] [x]) F0 0 a := ⟨x, rfl, ra⟩
  have hw := eb_not (eb_val (ev_isi (ev_var s0) (kit_tup a)))
  have hzz : (fitsA a && fewS a) = true := hz
  rw [Bool.and_eq_true] at hzz
  obtain ⟨hf, h60⟩ := hzz
  by_cases htup : isTup a = true
  case neg =>
    have ht : isTup a = false := Bool.eq_false_iff.mpr htup
    rw [ht] at hw
    have e0 : isSet a = false := by cases a <;> first | rfl | exact absurd rfl htup
    rw [e0] at q
    exact (r_when (eb_or (c := false) hw fun z => nomatch z) (fun _ => r_ret ev_bl) fun z => nomatch z : Ret K _ _ F0 (.bool false)) H sm _ q
  obtain ⟨as, rfl⟩ : ∃ as, a = .tuple as := by
    cases a with
    | tuple as => exact ⟨as, rfl⟩
    | _ => cases htup
  have hw2 := eb_test (ev_op (ev1 (ev_var s0) rc_lenT) (ev_int (i := 5)) rv_neI)
  by_cases h5 : as.length = 5
  case neg =>
    have e5 : (!decide ((as.length : Int) = 5)) = true := by
      rw [Bool.not_eq_true', decide_eq_false_iff_not]
      omega
    rw [e5] at hw2
    rw [not_five h5] at q
    exact (r_when (eb_or hw fun _ => eb_or (c := false) hw2 fun z => nomatch z) (fun _ => r_ret ev_bl) fun z => nomatch z : Ret K _ _ F0 (.bool false)) H sm _ q
  obtain ⟨a0, k, m, rs, t, rfl⟩ := five h5
  have fa := (fits_tup hf).2
  have ix : ∀ {σ : L2.St} {F : Hp} (j : Nat) {dd : PyData}, σ[0]? = some (some x) → Same F0 F → [a0, k, m, rs, t][j]? = some dd → EvD K (tOp (rIxT K) (tVar 0) (tC (.int (j : Int)))) σ F dd := fun j dd h sF hj => ev_op (ev_var ⟨x, h, ra.up sF⟩) ev_int (rv_ixT hj)
  have hset : isSet (.tuple [a0, k, m, rs, t]) = (isWord a0 "set" && ((isKinds k && (isBetween m 1 60 && decide (goalsOf (itemsD k) (intD m) ≤ 4000))) && ((isTup rs && decide ((itemsD rs).length = (itemsD k).length)) && (isRisingBelow t (intD m) && (pairs (itemsD rs) (itemsD k)).all fun p => isGoals (fstD p) (intD m) (intD (sndD (sndD p))))))) := rfl
  rw [hset] at q
  -- the word
  have hw3 := eb_not (eb_val (ev_isi (ix (σ := start ["thing", "row", "pair", "state", "goal", "name", "rank"] [x]) 0 rfl (Same.refl F0) rfl) (kit_str a0)))
  have key1 : EvB (tOr (tNot (tB (tCB (rIsi K) (tCons (tVar 0) (tCons (tC (.ty "tuple")) tNil))))) (tOr (tTest (tOp rNe (tCB (rLen0 K) (tCons (tVar 0) tNil)) (tC (.int 5)))) (tOr (tNot (tB (tCB (rIsi K) (tCons (tOp (rIxT K) (tVar 0) (tC (.int 0))) (tCons (tC (.ty "str")) tNil))))) (tTest (tOp rNe (tOp (rIxT K) (tVar 0) (tC (.int 0))) (tC (.str "set"))))))) (start ["thing", "row", "pair", "state", "goal", "name", "rank"] [x]) F0 (!isWord a0 "set") := by
    cases a0 with
    | str z => exact (eb_or hw fun _ => eb_or hw2 fun _ => eb_or hw3 fun _ => eb_test (ev_op (ix 0 rfl (Same.refl F0) rfl) (ev_str (x := "set")) rv_neS)).is rfl
    | _ => exact (eb_or hw fun _ => eb_or hw2 fun _ => eb_or (c := false) hw3 fun z => nomatch z).is rfl
  refine s_when key1 sm (fun hb F1 H1 g1 => ?_) fun hb F1 H1 g1 => ?_
  · rw [Bool.not_eq_true'] at hb
    rw [hb, Bool.false_and] at q
    exact q _ F1 H1 g1 (.bl false)
  rw [Bool.not_eq_false'] at hb
  rw [hb, Bool.true_and] at q
  have S1 : Same F0 F1 := g1.f
  -- kinds and many
  have c1 := eb_not (eb_val (ev_call (K := K) (σ := start ["thing", "row", "pair", "state", "goal", "name", "rank"] [x]) (F := F1) (f := f1 g_is_kinds) (E := C8.E0) (ea_cons (ix 1 rfl S1 rfl) ea_nil) (if_pos (fits_K (fa k (by simp))))))
  have c2 := eb_not (eb_val (ev_call (K := K) (σ := start ["thing", "row", "pair", "state", "goal", "name", "rank"] [x]) (F := F1) (f := f2 g_law_is_number) (E := C8.E0) (d := .bool (isBetween m 0 (61 - 1))) (ea_cons (ix 2 rfl S1 rfl) (ea_cons (ev_int (i := 61)) ea_nil)) rfl))
  have key2 : EvB (tOr (tNot (tB (tCall (p_is_kinds K) [] C8.E0 (tCons (tOp (rIxT K) (tVar 0) (tC (.int 1))) tNil)))) (tOr (tNot (tB (tCall (p__law_is_number K) [] C8.E0 (tCons (tOp (rIxT K) (tVar 0) (tC (.int 2))) (tCons (tC (.int 61)) tNil))))) (tTest (tOp rEq (tOp (rIxT K) (tVar 0) (tC (.int 2))) (tC (.int 0)))))) (start ["thing", "row", "pair", "state", "goal", "name", "rank"] [x]) F1 (!(isKinds k && isBetween m 1 60)) := by
    by_cases hm : isBetween m 0 (61 - 1) = true
    · obtain ⟨i, rfl, i0, i1⟩ := between_int hm
      rw [hm] at c2
      refine (eb_or c1 fun _ => eb_or c2 fun _ => eb_test (ev_op (ix 2 rfl S1 rfl) (ev_int (i := 0)) rv_eqI)).is ?_
      have e1 : isBetween (.int i) 1 60 = !decide (i = 0) := by
        show (decide (1 ≤ i) && decide (i ≤ 60)) = !decide (i = 0)
        rw [Bool.eq_iff_iff, Bool.and_eq_true, decide_eq_true_iff, decide_eq_true_iff, Bool.not_eq_true', decide_eq_false_iff_not]
        omega
      rw [e1, Bool.not_and, Bool.not_not]
      rfl
    · have hm' : isBetween m 0 (61 - 1) = false := Bool.eq_false_iff.mpr hm
      rw [hm'] at c2
      refine (eb_or c1 fun _ => eb_or (c := false) c2 fun z => nomatch z).is ?_
      have e1 : isBetween m 1 60 = false := by
        rw [Bool.eq_false_iff]
        intro z
        obtain ⟨i, rfl, i0, i1⟩ := between_int z
        apply hm
        show (decide (0 ≤ i) && decide (i ≤ 61 - 1)) = true
        rw [Bool.and_eq_true, decide_eq_true_iff, decide_eq_true_iff]
        omega
      rw [e1, Bool.and_false, Bool.not_false, Bool.true_or, Bool.or_true]
  refine s_when key2 g1.i (fun hb F2 H2 g2 => ?_) fun hb F2 H2 g2 => ?_
  · rw [Bool.not_eq_true'] at hb
    rw [← Bool.and_assoc (isKinds k) (isBetween m 1 60), hb, Bool.false_and, Bool.false_and] at q
    exact q _ F2 H2 (g1.trans g2) (.bl false)
  rw [Bool.not_eq_false', Bool.and_eq_true] at hb
  obtain ⟨hk, hm⟩ := hb
  rw [hk, hm, Bool.true_and, Bool.true_and] at q
  obtain ⟨xs, rfl⟩ := kinds_tup hk
  obtain ⟨n, rfl, n1, n2⟩ := between_int hm
  obtain ⟨h6, hx⟩ := kinds_ranks hk
  have S2 : Same F0 F2 := S1.trans g2.f
  -- rows and states
  have d1 := eb_not (eb_val (ev_isi (ix (σ := start ["thing", "row", "pair", "state", "goal", "name", "rank"] [x]) 3 rfl S2 rfl) (kit_tup rs)))
  have d3 := eb_not (eb_val (ev_isi (ix (σ := start ["thing", "row", "pair", "state", "goal", "name", "rank"] [x]) 4 rfl S2 rfl) (kit_tup t)))
  have key3 : EvB (tOr (tNot (tB (tCB (rIsi K) (tCons (tOp (rIxT K) (tVar 0) (tC (.int 3))) (tCons (tC (.ty "tuple")) tNil))))) (tOr (tTest (tOp rNe (tCB (rLen0 K) (tCons (tOp (rIxT K) (tVar 0) (tC (.int 3))) tNil)) (tCB (rLen0 K) (tCons (tOp (rIxT K) (tVar 0) (tC (.int 1))) tNil)))) (tNot (tB (tCB (rIsi K) (tCons (tOp (rIxT K) (tVar 0) (tC (.int 4))) (tCons (tC (.ty "tuple")) tNil))))))) (start ["thing", "row", "pair", "state", "goal", "name", "rank"] [x]) F2 (!((isTup rs && decide ((itemsD rs).length = xs.length)) && isTup t)) := by
    cases rs with
    | tuple ys =>
      refine (eb_or d1 fun _ => eb_or (eb_test (ev_op (ev1 (ix 3 rfl S2 rfl) rc_lenT) (ev1 (ix 1 rfl S2 rfl) rc_lenT) rv_neI)) fun _ => d3).is ?_
      have e1 : decide ((ys.length : Int) = (xs.length : Int)) = decide (ys.length = xs.length) := decide_eq_decide.mpr (by omega)
      rw [e1, Bool.not_and, Bool.not_and]
      rfl
    | _ => exact (eb_or (c := false) d1 fun z => nomatch z).is rfl
  refine s_when key3 g2.i (fun hb F3 H3 g3 => ?_) fun hb F3 H3 g3 => ?_
  · rw [Bool.not_eq_true'] at hb
    have e0 : ((isTup rs && decide ((itemsD rs).length = (itemsD (.tuple xs)).length)) && (isRisingBelow t (intD (.int n)) && (pairs (itemsD rs) (itemsD (.tuple xs))).all fun p => isGoals (fstD p) (intD (.int n)) (intD (sndD (sndD p))))) = false := by
      rw [Bool.and_eq_false_iff] at hb
      rcases hb with z | z
      · rw [show (isTup rs && decide ((itemsD rs).length = (itemsD (.tuple xs)).length)) = false from z, Bool.false_and]
      · have : isRisingBelow t (intD (.int n)) = false := by
          cases t with
          | tuple _ => cases z
          | _ => rfl
        rw [this, Bool.false_and, Bool.and_false]
    rw [e0, Bool.and_false] at q
    exact q _ F3 H3 ((g1.trans g2).trans g3) (.bl false)
  rw [Bool.not_eq_false', Bool.and_eq_true, Bool.and_eq_true] at hb
  obtain ⟨⟨hrs, hlen⟩, htt⟩ := hb
  obtain ⟨ys, rfl⟩ : ∃ ys, rs = .tuple ys := by
    cases rs with
    | tuple ys => exact ⟨ys, rfl⟩
    | _ => cases hrs
  obtain ⟨ts, rfl⟩ : ∃ ts, t = .tuple ts := by
    cases t with
    | tuple ts => exact ⟨ts, rfl⟩
    | _ => cases htt
  have hyl : ys.length = xs.length := of_decide_eq_true hlen
  have h60' : ts.length ≤ 60 := of_decide_eq_true h60
  have S3 : Same F0 F3 := S2.trans g3.f
  have G3 := (g1.trans g2).trans g3
  have q' : ∀ v F' H', Grow F0 H F' H' → Dq K F' v (.bool (decide (goalsOf xs n ≤ 4000) && ((ts.all (fun x => isBetween x 0 (n - 1)) && risesD ts) && (pairs ys xs).all fun p => isGoals (fstD p) n (intD (sndD (sndD p)))))) → Q v H' := fun v F' H' g r => by
    refine q v F' H' g ?_
    have e1 : (isTup (.tuple ys) && decide ((itemsD (.tuple ys)).length = (itemsD (.tuple xs)).length)) = true := by
      show (true && decide (ys.length = xs.length)) = true
      rw [decide_eq_true hyl]
      rfl
    rw [e1, Bool.true_and]
    exact r
  clear q
  -- the goals
  have q5 := ev_lc (K := K) (σ := start ["thing", "row", "pair", "state", "goal", "name", "rank"] [x]) (F := F3) (te := tCall (p__law_many_tuples K) [] C8.E0 (tCons (tOp (rIxT K) (tVar 0) (tC (.int 2))) (tCons (tVar 6) tNil))) (tt := tYes) (g := gTup K 2 (gCons (gName 5) (gCons (gName 6) gNil))) (vs := [5, 6]) (fun _ => true) (fun d => .int (n ^ (intD (sndD d)).toNat)) (ew_tup (ix 1 rfl S3 rfl)) (small1000 (by omega)) fun d F' hd sF => by
    obtain ⟨nm, r, rfl, h0, h3⟩ := hx d hd
    refine tk_two.imp fun σ2 hσ => ?_
    obtain ⟨v, u, rfl, rv, ru⟩ := hσ
    refine ⟨rfl, eb_yes, fun _ => ev_call (ea_cons (ix 2 rfl (S3.trans sF) rfl) (ea_cons (ev_var ⟨u, rfl, ru⟩) ea_nil)) (if_pos ?_)⟩
    rw [decide_eq_true n1, decide_eq_true n2, decide_eq_true h0, decide_eq_true h3]
    rfl
  rw [made_map] at q5
  have e5 : xs.map (fun d => PyData.int (n ^ (intD (sndD d)).toNat)) = (xs.map fun d => n ^ (intD (sndD d)).toNat).map .int := by
    rw [List.map_map]
    rfl
  rw [e5] at q5
  refine s_when (eb_test (ev_op (ev1 q5 rc_sum) (ev_int (i := 4000)) (rv_bl (g := fun i j => decide (i > j))))) g3.i (fun hb F4 H4 g4 => ?_) fun hb F4 H4 g4 => ?_
  · have hgt := of_decide_eq_true hb
    have hgt' : ¬ goalsOf xs n ≤ 4000 := by
      show ¬ (xs.map fun d => n ^ (intD (sndD d)).toNat).sum ≤ 4000
      omega
    rw [decide_eq_false hgt', Bool.false_and] at q'
    exact q' _ F4 H4 (G3.trans g4) (.bl false)
  have hng := of_decide_eq_false hb
  have hng' : goalsOf xs n ≤ 4000 := by
    show (xs.map fun d => n ^ (intD (sndD d)).toNat).sum ≤ 4000
    omega
  rw [decide_eq_true hng', Bool.true_and] at q'
  have S4 : Same F0 F4 := S3.trans g4.f
  have G4 := G3.trans g4
  have fys := (fits_tup (fa (.tuple ys) (by simp))).2
  -- the rows
  refine s_for (K := K) (F := F4) (ds := pairs ys xs) g4.i (RZ_zip (ix 3 rfl S4 rfl) (ix 1 rfl S4 rfl)) fun F5 H5 g5 =>
    ⟨fun i σ' F' H' => Grow F4 H4 F' H' ∧ Same F5 F' ∧ (∃ y1 y2, σ' = [some x, y1, y2, none, none, none, none]) ∧ ∀ d ∈ (pairs ys xs).take i, isGoals (fstD d) n (intD (sndD (sndD d))) = true,
      ⟨g5, Same.refl _, ⟨_, _, rfl⟩, fun d hd => by simp at hd⟩, fun i σ' F' H' h => ⟨h.2.1, h.1.i⟩, fun i d σ' F' H' hd hI F6 H6 v g6 rv => ?_, fun σ' F' H' hI => ?_⟩
  · obtain ⟨gI, sI, ⟨y1, y2, rfl⟩, hall⟩ := hI
    have hmem := List.mem_of_getElem? hd
    obtain ⟨b, c, hb1, hc1, rfl⟩ := pairs_get hd
    obtain ⟨nm, r, rfl, h0, h3⟩ := hx c (List.mem_of_getElem? hc1)
    have hfb := fys b (List.mem_of_getElem? hb1)
    refine tk_two v H6 g6.i rv _ fun σ2 hσ => ?_
    obtain ⟨u1, u2, rfl, ru1, ru2⟩ := hσ
    have S6 : Same F0 F6 := ((S4.trans gI.f).trans g6.f)
    have t1 := eb_not (eb_val (ev_isi (ev_var (K := K) (σ := [some x, some u1, some u2, none, none, none, none]) (i := 1) ⟨u1, rfl, ru1⟩) (kit_tup b)))
    have ok : ∀ {G : Prop} {F' : Hp} {H' : Hp}, Grow F6 H6 F' H' → isGoals b n r = false → Q (.bl false) H' := fun g e => by
      have e0 : ((pairs ys xs).all fun p => isGoals (fstD p) n (intD (sndD (sndD p)))) = false := by
        rw [Bool.eq_false_iff]
        intro z
        have := List.all_eq_true.mp z _ hmem
        rw [show isGoals (fstD (.tuple [b, .tuple [.str nm, .int r]])) n (intD (sndD (sndD (.tuple [b, .tuple [.str nm, .int r]])))) = isGoals b n r from rfl, e] at this
        cases this
      rw [e0, Bool.and_false] at q'
      exact q' _ _ _ ((((G4.trans gI).trans g6)).trans g) (.bl false)
    by_cases hbt : isTup b = true
    case neg =>
      have hbt' : isTup b = false := Bool.eq_false_iff.mpr hbt
      rw [hbt'] at t1
      have e0 : isGoals b n r = false := by cases b <;> first | rfl | exact absurd rfl hbt
      exact s_when (eb_or (c := false) t1 fun z => nomatch z) g6.i (fun _ F7 H7 g7 => ok (G := True) g7 e0) fun z => nomatch z
    obtain ⟨bs, rfl⟩ : ∃ bs, b = .tuple bs := by
      cases b with
      | tuple bs => exact ⟨bs, rfl⟩
      | _ => cases hbt
    have t2 := eb_test (ev_op (ev1 (ev_var (K := K) (σ := [some x, some u1, some u2, none, none, none, none]) (i := 1) ⟨u1, rfl, ru1⟩) rc_lenT) (ev_call (K := K) (f := f2 g_law_many_tuples) (E := C8.E0) (d := .int (n ^ r.toNat)) (ea_cons (ix 2 rfl S6 rfl) (ea_cons (ev_op (ev_var (i := 2) ⟨u2, rfl, ru2⟩) ev_int (rv_ixT (k := 1) (d := .int r) rfl)) ea_nil)) (if_pos (by rw [decide_eq_true n1, decide_eq_true n2, decide_eq_true h0, decide_eq_true h3]; rfl))) rv_neI)
    have hgo : isGoals (.tuple bs) n r = (decide ((bs.length : Int) = n ^ r.toNat) && bs.all fun x => isBetween x 0 (n - 1)) := rfl
    refine s_when (eb_or t1 fun _ => t2) g6.i (fun hb F7 H7 g7 => ?_) fun hb F7 H7 g7 => ?_
    · have hb' : (!decide ((bs.length : Int) = n ^ r.toNat)) = true := hb
      rw [Bool.not_eq_true'] at hb'
      exact ok (G := True) g7 (by rw [hgo, hb', Bool.false_and])
    have hb' : (!decide ((bs.length : Int) = n ^ r.toNat)) = false := hb
    rw [Bool.not_eq_false'] at hb'
    have q1 := ev_lc (K := K) (σ := [some x, some u1, some u2, none, none, none, none]) (F := F7) (te := tVar 4) (tt := tNot (tB (tCall (p__law_is_number K) [] C8.E0 (tCons (tVar 4) (tCons (tOp (rIxT K) (tVar 0) (tC (.int 2))) tNil))))) (g := gName 4) (vs := [4]) (fun d => !isBetween d 0 (n - 1)) (fun d => d) (ew_tup (ev_var (i := 1) ⟨u1, rfl, ru1.up g7.f⟩)) (fits_tup hfb).1 fun d F' hd sF => by
      refine tk_name.imp fun σ2 hσ => ?_
      obtain ⟨v, rfl, rv⟩ := hσ
      exact ⟨rfl, eb_not (eb_val (ev_call (f := f2 g_law_is_number) (ea_cons (ev_var (i := 4) ⟨v, rfl, rv⟩) (ea_cons (ix 2 rfl ((S6.trans g7.f).trans sF) rfl) ea_nil)) rfl)), fun _ => ev_var ⟨v, rfl, rv⟩⟩
    have em : made (fun d => !isBetween d 0 (n - 1)) (fun d => d) bs = bs.filter fun d => !isBetween d 0 (n - 1) := by
      unfold made
      exact List.map_id' _
    rw [em] at q1
    have t3 := eb_test (ev_op q1 (ev_lst ea_nil (Nat.zero_le _)) rv_neEL)
    rw [filter_none] at t3
    refine s_if t3 g7.i (fun hb2 F8 H8 g8 => ?_) fun hb2 F8 H8 g8 => ?_
    · rw [Bool.not_eq_true'] at hb2
      exact ok (G := True) (g7.trans g8) (by rw [hgo, hb2, Bool.and_false])
    · rw [Bool.not_eq_false'] at hb2
      refine ⟨F8, ((gI.trans g6).trans g7).trans g8, sI.trans ((g6.f.trans g7.f).trans g8.f), ⟨_, _, rfl⟩, fun d' hd' => ?_⟩
      rw [List.take_add_one, hd] at hd'
      rcases List.mem_append.mp hd' with h | h
      · exact hall d' h
      · rw [List.mem_singleton.mp h]
        show isGoals (.tuple bs) n r = true
        rw [hgo, hb', hb2]
        rfl
  · obtain ⟨gI, sI, ⟨y1, y2, rfl⟩, hall⟩ := hI
    rw [List.take_length] at hall
    have hgall : ((pairs ys xs).all fun p => isGoals (fstD p) n (intD (sndD (sndD p)))) = true := List.all_eq_true.mpr hall
    rw [hgall, Bool.and_true] at q'
    have S5 : Same F0 F' := S4.trans gI.f
    have G5 := G4.trans gI
    have fts := fits_tup (fa (.tuple ts) (by simp))
    have q1 := ev_lc (K := K) (σ := [some x, y1, y2, none, none, none, none]) (F := F') (te := tVar 3) (tt := tNot (tB (tCall (p__law_is_number K) [] C8.E0 (tCons (tVar 3) (tCons (tOp (rIxT K) (tVar 0) (tC (.int 2))) tNil))))) (g := gName 3) (vs := [3]) (fun d => !isBetween d 0 (n - 1)) (fun d => d) (ew_tup (ix 4 rfl S5 rfl)) fts.1 fun d F' hd sF => by
      refine tk_name.imp fun σ2 hσ => ?_
      obtain ⟨v, rfl, rv⟩ := hσ
      exact ⟨rfl, eb_not (eb_val (ev_call (f := f2 g_law_is_number) (ea_cons (ev_var (i := 3) ⟨v, rfl, rv⟩) (ea_cons (ix 2 rfl (S5.trans sF) rfl) ea_nil)) rfl)), fun _ => ev_var ⟨v, rfl, rv⟩⟩
    have em : made (fun d => !isBetween d 0 (n - 1)) (fun d => d) ts = ts.filter fun d => !isBetween d 0 (n - 1) := by
      unfold made
      exact List.map_id' _
    rw [em] at q1
    have t3 := eb_test (ev_op q1 (ev_lst ea_nil (Nat.zero_le _)) rv_neEL)
    rw [filter_none] at t3
    refine s_when t3 gI.i (fun hb2 F8 H8 g8 => ?_) fun hb2 F8 H8 g8 => ?_
    · rw [Bool.not_eq_true'] at hb2
      rw [hb2, Bool.false_and] at q'
      exact q' _ F8 H8 (G5.trans g8) (.bl false)
    rw [Bool.not_eq_false'] at hb2
    rw [hb2, Bool.true_and] at q'
    have eints : ts = (ts.map intD).map .int := by
      rw [List.map_map]
      refine (List.map_id ts).symm.trans (List.map_congr_left fun d hd => ?_)
      obtain ⟨i, rfl, _⟩ := between_int (List.all_eq_true.mp hb2 d hd)
      rfl
    have e4 : EvD K (tOp (rIxT K) (tVar 0) (tC (.int 4))) [some x, y1, y2, none, none, none, none] F8 (.tuple ((ts.map intD).map .int)) := (ix 4 rfl (S5.trans g8.f) rfl).is (congrArg PyData.tuple eints)
    refine ev_eqSortI (K := K) (w := w) (b := risesD ts) (ev1 e4 rc_listT) e4 (by rw [List.length_map]; exact h60') ?_ H8 g8.i _ fun u F9 H9 g9 r9 => q' u F9 H9 ((G5.trans g8).trans g9) r9
    rw [eints]
    have : ((ts.map intD).map PyData.int).map intD = ts.map intD := by
      rw [List.map_map]
      exact List.map_id _
    first
      | exact risesI_iff _
      | (rw [this]; exact risesI_iff _)
where RZ_zip {K : PySem.W.Frag} {σ : L2.St} {F : Hp} {te tu : TE} {ys xs : List PyData} (h : EvD K te σ F (.tuple ys)) (h2 : EvD K tu σ F (.tuple xs)) : EvW K (RZ.iZipA K (tCons te (tCons tu tNil))) σ F (pairs ys xs) := ew_zipAT (ea_cons h (ea_cons h2 ea_nil))
end
end Sx
set_option Elab.async false
set_option linter.all false
set_option maxRecDepth 100000
set_option maxHeartbeats 2000000
namespace Sx
open PySem PySem.Spec PyProof.Rows L2
open C8 (Cal pe_c pe_gc)
/-! ### how large and how deep a tree is -/
mutual
def sizeT : PyData → Nat
  | .tuple ds => 1 + sizeTail ds
  | _ => 1
def sizeTail : List PyData → Nat
  | [] => 0
  | _ :: cs => sizesT cs
def sizesT : List PyData → Nat
  | [] => 0
  | d :: ds => sizeT d + sizesT ds
end
mutual
def depT : PyData → Nat
  | .tuple ds => 1 + depTail ds
  | _ => 1
def depTail : List PyData → Nat
  | [] => 0
  | _ :: cs => depsT cs
def depsT : List PyData → Nat
  | [] => 0
  | d :: ds => max (depT d) (depsT ds)
end
mutual
def allT (tab : Str → Option Int) : PyData → Bool
  | .tuple ds => isNode tab (.tuple ds) && allTail tab ds
  | _ => false
def allTail (tab : Str → Option Int) : List PyData → Bool
  | [] => true
  | _ :: cs => allsT tab cs
def allsT (tab : Str → Option Int) : List PyData → Bool
  | [] => true
  | d :: ds => allT tab d && allsT tab ds
end
theorem size_kids (d : PyData) : sizeT d = 1 + sizesT (kidsD d) := by
  cases d with
  | tuple ds => cases ds <;> simp only [sizeT, sizeTail, kidsD, sizesT]
  | _ => simp only [sizeT, kidsD, sizesT]
theorem dep_kids (d : PyData) : depT d = 1 + depsT (kidsD d) := by
  cases d with
  | tuple ds => cases ds <;> simp only [depT, depTail, kidsD, depsT]
  | _ => simp only [depT, kidsD, depsT]
theorem all_kids (tab : Str → Option Int) (d : PyData) : allT tab d = (isNode tab d && allsT tab (kidsD d)) := by
  cases d with
  | tuple ds => cases ds <;> simp only [allT, allTail, kidsD, allsT]
  | _ => simp only [allT, isNode, Bool.false_and]
theorem sizes_app : ∀ a b : List PyData, sizesT (a ++ b) = sizesT a + sizesT b
  | [], b => by simp only [List.nil_append, sizesT, Nat.zero_add]
  | x :: a, b => by simp only [List.cons_append, sizesT, sizes_app a b, Nat.add_assoc]
theorem deps_app : ∀ a b : List PyData, depsT (a ++ b) = max (depsT a) (depsT b)
  | [], b => by simp only [List.nil_append, depsT, Nat.zero_max]
  | x :: a, b => by simp only [List.cons_append, depsT, deps_app a b, Nat.max_assoc]
theorem alls_app (tab : Str → Option Int) : ∀ a b : List PyData, allsT tab (a ++ b) = (allsT tab a && allsT tab b)
  | [], b => by simp only [List.nil_append, allsT, Bool.true_and]
  | x :: a, b => by simp only [List.cons_append, allsT, alls_app tab a b, Bool.and_assoc]
theorem sizes_flat : ∀ row : List PyData, sizesT row = row.length + sizesT (row.flatMap kidsD)
  | [] => rfl
  | d :: r => by
    rw [List.flatMap_cons, sizes_app, sizesT, size_kids, sizes_flat r, List.length_cons]
    omega
theorem deps_flat : ∀ row : List PyData, row ≠ [] → depsT row = 1 + depsT (row.flatMap kidsD)
  | [], h => absurd rfl h
  | [d], _ => by
    rw [List.flatMap_cons, List.flatMap_nil, List.append_nil, depsT, dep_kids, depsT]
    omega
  | d :: e :: r, _ => by
    rw [List.flatMap_cons, deps_app, depsT, dep_kids, deps_flat (e :: r) (List.cons_ne_nil _ _)]
    omega
theorem alls_flat (tab : Str → Option Int) : ∀ row : List PyData, allsT tab row = (row.all (isNode tab) && allsT tab (row.flatMap kidsD))
  | [] => rfl
  | d :: r => by
    rw [List.flatMap_cons, alls_app, allsT, all_kids, alls_flat tab r, List.all_cons]
    cases isNode tab d <;> cases allsT tab (kidsD d) <;> simp
theorem size_pos (d : PyData) : 1 ≤ sizeT d := by
  rw [size_kids]
  omega
theorem sizes_len (row : List PyData) : row.length ≤ sizesT row := by
  rw [sizes_flat]
  omega
theorem walk_is (tab : Str → Option Int) : ∀ (f n l : Nat) (row : List PyData), f + l = 61 → l ≤ 60 → n ≤ 400 → walkT tab f n l row = (allsT tab row && (decide (n + sizesT row ≤ 400) && decide (l + depsT row ≤ 60)))
  | 0, n, l, row, h, h1, h2 => by omega
  | f + 1, n, l, row, h, h1, h2 => by
    unfold walkT
    cases hr : row with
    | nil =>
      show (true || _) = (true && (decide (n + 0 ≤ 400) && decide (l + 0 ≤ 60)))
      rw [decide_eq_true (show n + 0 ≤ 400 from h2), decide_eq_true (show l + 0 ≤ 60 from h1)]
      rfl
    | cons d r =>
      rw [← hr]
      have hne : row ≠ [] := by rw [hr]; exact List.cons_ne_nil _ _
      have he : row.isEmpty = false := by rw [hr]; rfl
      have hl : 1 ≤ row.length := by rw [hr, List.length_cons]; omega
      rw [he, Bool.false_or, alls_flat tab row, sizes_flat row, deps_flat row hne]
      by_cases c1 : n + row.length > 400
      · have e1 : decide (((n + row.length : Nat) : Int) > 400) = true := decide_eq_true (by omega)
        have e2 : decide (n + (row.length + sizesT (row.flatMap kidsD)) ≤ 400) = false := decide_eq_false (by omega)
        rw [e1, e2, Bool.true_or, Bool.not_true, Bool.false_and, Bool.false_and, Bool.and_false]
      by_cases c2 : l + 1 > 60
      · have e1 : decide (((l + 1 : Nat) : Int) > 60) = true := decide_eq_true (by omega)
        have e2 : decide (l + (1 + depsT (row.flatMap kidsD)) ≤ 60) = false := decide_eq_false (by omega)
        rw [e1, e2, Bool.or_true, Bool.not_true, Bool.false_and, Bool.and_false, Bool.and_false]
      have e1 : decide (((n + row.length : Nat) : Int) > 400) = false := decide_eq_false (by omega)
      have e2 : decide (((l + 1 : Nat) : Int) > 60) = false := decide_eq_false (by omega)
      rw [e1, e2, Bool.or_false, Bool.not_false, Bool.true_and, walk_is tab f (n + row.length) (l + 1) _ (by omega) (by omega) (by omega), Bool.and_assoc]
      have e3 : decide (n + row.length + sizesT (row.flatMap kidsD) ≤ 400) = decide (n + (row.length + sizesT (row.flatMap kidsD)) ≤ 400) := decide_eq_decide.mpr (by omega)
      have e4 : decide (l + 1 + depsT (row.flatMap kidsD) ≤ 60) = decide (l + (1 + depsT (row.flatMap kidsD)) ≤ 60) := decide_eq_decide.mpr (by omega)
      rw [e3, e4]
theorem treeOk_is (xs : List PyData) (d : PyData) : treeOk xs d = (allT (rankOf xs) d && (decide (sizeT d ≤ 400) && decide (depT d ≤ 60))) := by
  unfold treeOk
  rw [walk_is _ 61 0 0 [d] rfl (by decide) (by decide)]
  simp only [allsT, sizesT, depsT, Bool.and_true, Nat.zero_add, Nat.add_zero, Nat.max_zero]
/-- what is still to be seen: trees with the level that they stand at -/
def lineOk (tab : Str → Option Int) (many : Nat) (line : List (PyData × Nat)) : Bool := line.all (fun p => allT tab p.1 && decide (p.2 + depT p.1 ≤ 61)) && decide (many + sizesT (line.map (·.1)) ≤ 400)
theorem line_start (xs : List PyData) (d : PyData) : lineOk (rankOf xs) 0 [(d, 1)] = treeOk xs d := by
  rw [treeOk_is]
  unfold lineOk
  simp only [List.all_cons, List.all_nil, Bool.and_true, List.map_cons, List.map_nil, sizesT, Nat.zero_add, Nat.add_zero]
  have e : decide (1 + depT d ≤ 61) = decide (depT d ≤ 60) := decide_eq_decide.mpr (by omega)
  rw [e, Bool.and_assoc, Bool.and_comm (decide (depT d ≤ 60))]
theorem line_bad {tab : Str → Option Int} {many k : Nat} {line : List (PyData × Nat)} {d : PyData} (h : many + 1 > 400 ∨ k > 60 ∨ isNode tab d = false) : lineOk tab many (line ++ [(d, k)]) = false := by
  unfold lineOk
  rw [List.all_append, List.map_append, sizes_app]
  simp only [List.all_cons, List.all_nil, Bool.and_true, List.map_cons, List.map_nil, sizesT, Nat.add_zero]
  have p1 := size_pos d
  have p2 : 1 ≤ depT d := by rw [dep_kids]; omega
  rcases h with h | h | h
  · rw [decide_eq_false (show ¬ many + (sizesT (line.map (·.1)) + sizeT d) ≤ 400 by omega), Bool.and_false]
  · rw [decide_eq_false (show ¬ k + depT d ≤ 61 by omega), Bool.and_false, Bool.and_false, Bool.false_and]
  · rw [all_kids, h, Bool.false_and, Bool.false_and, Bool.and_false, Bool.false_and]
theorem kids_line (tab : Str → Option Int) (k : Nat) (hk : k ≤ 60) : ∀ cs : List PyData, (cs.map fun c => (c, k + 1)).all (fun p => allT tab p.1 && decide (p.2 + depT p.1 ≤ 61)) = (allsT tab cs && decide (k + (1 + depsT cs) ≤ 61))
  | [] => by
    show true = (true && decide (k + (1 + 0) ≤ 61))
    rw [decide_eq_true (show k + (1 + 0) ≤ 61 by omega)]
    rfl
  | c :: cs => by
    rw [List.map_cons, List.all_cons, kids_line tab k hk cs, allsT, depsT]
    rw [Bool.eq_iff_iff]
    simp only [Bool.and_eq_true, decide_eq_true_iff]
    constructor
    · rintro ⟨⟨a, b⟩, c1, d1⟩
      exact ⟨⟨a, c1⟩, by omega⟩
    · rintro ⟨⟨a, b⟩, c1⟩
      exact ⟨⟨a, by omega⟩, b, by omega⟩
theorem line_step {tab : Str → Option Int} {many k : Nat} {line : List (PyData × Nat)} {d : PyData} (h2 : k ≤ 60) (h3 : isNode tab d = true) : lineOk tab (many + 1) (line ++ (kidsD d).map fun c => (c, k + 1)) = lineOk tab many (line ++ [(d, k)]) := by
  unfold lineOk
  rw [List.all_append, List.all_append, kids_line tab k h2, List.map_append, List.map_append, sizes_app, sizes_app]
  have e1 : ((kidsD d).map fun c => (c, k + 1)).map (·.1) = kidsD d := by
    rw [List.map_map]
    exact List.map_id _
  rw [e1]
  simp only [List.all_cons, List.all_nil, Bool.and_true, List.map_cons, List.map_nil, sizesT, Nat.add_zero]
  rw [all_kids tab d, h3, Bool.true_and, dep_kids d, size_kids d]
  have e2 : decide (many + 1 + (sizesT (line.map (·.1)) + sizesT (kidsD d)) ≤ 400) = decide (many + (sizesT (line.map (·.1)) + (1 + sizesT (kidsD d))) ≤ 400) := decide_eq_decide.mpr (by omega)
  rw [e2]
end Sx
set_option Elab.async false
set_option linter.all false
set_option maxRecDepth 100000
set_option maxHeartbeats 4000000
namespace Sx
open PySem PySem.Spec PyProof.Rows L2
open C8 (Cal pe_c pe_gc)
theorem grow_h {F H F' H' H1 : Hp} (g : Grow F H F' H') (s : Same H' H1) : Grow F H F' H1 := ⟨g.f, g.h.trans s, g.i.trans s, g.n⟩
theorem dq_snoc {K : PySem.W.Frag} {F : Hp} : ∀ {ds : List PyData} {d : PyData} {vs : List V}, DqAll K F vs (ds ++ [d]) → ∃ us v, vs = us ++ [v] ∧ DqAll K F us ds ∧ Dq K F v d
  | [], d, _, .cons a .nil => ⟨[], _, rfl, .nil, a⟩
  | e :: ds, d, _, .cons a b => by
    obtain ⟨us, v, rfl, h1, h2⟩ := dq_snoc b
    exact ⟨_ :: us, v, rfl, .cons a h1, h2⟩
def lineD (line : List (PyData × Nat)) : List PyData := line.map fun q => .tuple [q.1, .int (q.2 : Int)]
def ranksL (xs : List PyData) (n : Str) : List Int := (xs.filter fun d => decide (nameD d = n)).map fun d => intD (sndD d)
theorem ranks_none (n : Str) : ∀ xs : List PyData, (∀ d ∈ xs, nameD d ≠ n) → ranksL xs n = []
  | [], _ => rfl
  | d :: xs, h => by
    unfold ranksL
    rw [List.filter_cons, if_neg (by rw [decide_eq_true_iff]; exact h d List.mem_cons_self)]
    exact ranks_none n xs fun e he => h e (List.mem_cons_of_mem _ he)
theorem ranks_one (n : Str) : ∀ xs : List PyData, (xs.map nameD).Nodup → ranksL xs n = (rankOf xs n).toList
  | [], _ => rfl
  | d :: xs, h => by
    rw [List.map_cons, List.nodup_cons] at h
    unfold ranksL rankOf
    rw [List.filter_cons, List.find?_cons]
    by_cases e : nameD d = n
    · rw [decide_eq_true e]
      have : ranksL xs n = [] := ranks_none n xs fun e' he z => h.1 (List.mem_map.mpr ⟨e', he, z.trans e.symm⟩)
      unfold ranksL at this
      show intD (sndD d) :: (xs.filter fun d => decide (nameD d = n)).map (fun d => intD (sndD d)) = [intD (sndD d)]
      rw [this]
    · rw [decide_eq_false e]
      exact ranks_one n xs h.2
theorem s_parL {K : PySem.W.Frag} {σ : L2.St} {F H : Hp} {D : Ends} {i j : Nat} {ta : TA} {v : V} {ds : List PyData} (h : EvS K ta σ F ds) (s : Same F H) (hl : ds.length ≤ sizeLine)
    (k : ∀ p vs F' H', Grow F H F' H' → H' p = none → DqAll K F' vs ds → D.nx ((σ.set i (some (.ref p))).set j (some v)) (upd H' p (.lst vs))) : tPar i j (tCons (tLst ta) (tCons (tC v) tNil)) D σ H :=
  h H s _ fun vs F1 H1 g1 r1 => ⟨by rw [r1.len]; exact hl, fun p hp => ⟨_, _, rfl, k p vs F1 H1 g1 hp r1⟩⟩
section
variable {P : Program} {w : World} {K : PySem.W.Frag} {mg : Str → Option Value} {base : Heap} {f : Addr} {fd : FuncData} {aK CK CN CS : Addr}
/-! ### _law_is_tree -/
abbrev s__law_is_tree : Stmt := top 51
theorem sc__law_is_tree : FnScope ["kinds", "thing", "line", "many", "ranks", "here", "deep", "name", "rank", "child"] ["kinds", "thing"] (defScope s__law_is_tree) := ⟨rfl, rfl, rfl, by decide +kernel, rfl, by decide +kernel, by decide +kernel⟩
def g_law_is_tree (k d : PyData) : Option PyData := match k with
  | .tuple xs => if isKinds (.tuple xs) then some (.bool (treeOk xs d)) else none
  | _ => none
abbrev p__law_is_tree (K : PySem.W.Frag) : Sp := spD K (f2 g_law_is_tree)
theorem ok__law_is_tree (F : Fun K "_law_is_tree" "_law_is_tree" s__law_is_tree f fd) (B : BI mg) : FnOk P w K mg base CX0 1 f fd ["kinds", "thing"] (p__law_is_tree K) := by
  refine F.ok sc__law_is_tree (fun vs H Q E h => len_f2 h) (fun cdv A outer s H vs Q E hr h => go2 h fun F0 a b x y d0 sm ra rb e ev q => ?_)
  subst ev
  match a, e with
  | .tuple xs, e =>
  have e' : (if isKinds (.tuple xs) then some (PyData.bool (treeOk xs b)) else none) = some d0 := e
  split at e'
  case isFalse => cases e'
  rename_i hk
  cases e'
  refine ⟨_, (pss_cons (ps_par (i := 2) (j := 3) rfl sc__law_is_tree.nd rfl rfl (by decide) rfl rfl (pa_cons (pe_lst (pa_cons (pe_tup (pa_cons (pv 1) (pa_cons pe_int pa_nil))) pa_nil)) (pa_cons pe_int pa_nil)) (by rfl))
        (pss_cons (ps_while PassesOwn.never (pt_cmpR (r := rNeEL K) (op_neEL hr.units) (pv 2) (pe_lst pa_nil) (nomark _)) (pss_cons (ps_asg (pe_bm0 PySem.F.plainAttrs_list PySem.F.slot_list_pop PySem.F.type_list_pop mt_pop (pv 2)) (pg_tup rfl (pgs_cons (pg_name (i := 5) sc__law_is_tree.nd rfl (Or.inr rfl) (hf := (Or.inl rfl))) (pgs_cons (pg_name (i := 6) sc__law_is_tree.nd rfl (Or.inr rfl) (hf := (Or.inl rfl))) pgs_nil))))
        (pss_cons (ps_set (i := 3) sc__law_is_tree.nd rfl (Or.inl rfl) (pe_op (op_add) (pv 3) pe_int))
        (pss_cons (ps_if (PW.pt (pw_or (pt_cmpR (op_gt) (pv 3) pe_int (nomark _)) (pw_or (pt_cmpR (op_gt) (pv 6) pe_int (nomark _)) (pw_or (pt_not (pt_val (pe_callB (r := rIsi K) (call_isi) (by rfl) B.isinstance (by decide +kernel) (pa_cons (pv 5) (pa_cons (pe_bltn (v := .ty "tuple") (by rfl) B.tuple (by decide +kernel) rfl) pa_nil))))) (pw_or (pt_cmpR (r := rEqE K) (op_eqE hr.units) (pv 5) (pe_tup pa_nil) (nomark _)) (pw_or1 (pt_not (pt_val (pe_callB (r := rIsi K) (call_isi) (by rfl) B.isinstance (by decide +kernel) (pa_cons (pe_ix (r := rIxT K) ix_tup (pv 5) pe_int (fun _ _ => rfl)) (pa_cons (pe_bltn (v := .ty "str") (by rfl) B.str_ (by decide +kernel) rfl) pa_nil))))))))))) (pss_one (ps_ret pe_bl)) pss_nil)
        (pss_cons (ps_setLc (i := 4) (own := [("name", 7), ("rank", 8)]) (g := (gTup K 2 (gCons (gName 7) (gCons (gName 8) gNil)))) rfl sc__law_is_tree.nd rfl rfl (sw_true rfl rfl rfl (by decide +kernel)) (pi_tup (pv 0)) (blkOk_by (own := [("name", 7), ("rank", 8)]) (N := ["kinds", "thing", "line", "many", "ranks", "here", "deep", "name", "rank", "child"]) (sc := defScope s__law_is_tree) (by decide +kernel)) (fun _ _ _ _ _ => (pg_tup rfl (pgs_cons (pg_name (i := 7) sc__law_is_tree.nd rfl (Or.inl rfl) (hf := (Or.inr rfl))) (pgs_cons (pg_name (i := 8) sc__law_is_tree.nd rfl (Or.inl rfl) (hf := (Or.inr rfl))) pgs_nil)))) (fun _ _ _ _ _ => (pts_one (pt_cmpR (op_eq) (pv 7) (pe_ix (r := rIxT K) ix_tup (pv 5) pe_int (fun _ _ => rfl)) (nomark _)))) (fun _ _ _ _ _ => (pv 8)))
        (pss_cons (ps_if (pt_cmpR (r := rNeD K) (op_neD hr.units) (pv 4) (pe_lst (pa_cons (pe_op (op_sub) (pe_callB (r := rLen0 K) (call_len) (by rfl) B.len (by decide +kernel) (pa_cons (pv 5) pa_nil)) pe_int) pa_nil)) (nomark _)) (pss_one (ps_ret pe_bl)) pss_nil)
        (pss_one (ps_set (i := 2) sc__law_is_tree.nd rfl (Or.inl rfl) (pe_op op_cat (pv 2) (pe_lc (own := [("child", 9)]) (g := (gName 9)) rfl sc__law_is_tree.nd (pi_tup (pe_slice (r := rSlA K) sl_tupA (pv 5) (po_some pe_int) po_none)) (blkOk_by (own := [("child", 9)]) (N := ["kinds", "thing", "line", "many", "ranks", "here", "deep", "name", "rank", "child"]) (sc := defScope s__law_is_tree) (by decide +kernel)) (fun _ _ _ _ _ => (pg_name (i := 9) sc__law_is_tree.nd rfl (Or.inl rfl) (hf := (Or.inr rfl)))) (fun _ _ _ _ _ => pts_nil) (fun _ _ _ _ _ => (pe_tup (pa_cons (pv 9) (pa_cons (pe_op (op_add) (pv 6) pe_int) pa_nil))))))))))))))
        (pss_one (ps_ret pe_bl)))), ?_⟩
  obtain ⟨h6, hx⟩ := kinds_ranks hk
  have hnd := kinds_nodup hk
  have big : ∀ {k : Nat}, k ≤ 5000 → k < sizeLine := fun h => by rw [sizeLine_eq]; omega
  refine s_parL (K := K) (ea_cons (ev_tup (ea_cons (ev_var (i := 1) ⟨y, rfl, rb⟩) (ea_cons (ev_int (i := 1)) ea_nil)) (by show 2 ≤ sizeLine; decide)) ea_nil) sm (by show 1 ≤ sizeLine; decide) fun p0 vs0 F1 H1 g1 hp0 r1 => ?_
  refine ⟨fun m σ' H' => ∃ (many : Nat) (line : List (PyData × Nat)) (p : Addr) (vs : List V) (F' : Hp) (y4 y5 y6 y7 y8 y9 : Option V), m + many = 401 ∧ many ≤ 400 ∧ σ' = [some x, some y, some (.ref p), some (.int (many : Int)), y4, y5, y6, y7, y8, y9] ∧ Grow F0 H F' H' ∧ H p = none ∧ F' p = none ∧ H' p = some (.lst vs) ∧ DqAll K F' vs (lineD line) ∧ line.length ≤ 3 * many + 1 ∧ lineOk (rankOf xs) many line = treeOk xs b,
    ⟨401, 0, [(b, 1)], p0, vs0, F1, none, none, none, none, none, none, rfl, by decide, rfl, grow_own g1 (g1.h.free hp0) (g1.i.free hp0), g1.h.free hp0, g1.i.free hp0, upd_same, r1, Nat.le_refl 1, line_start xs b⟩, fun m σ' H' hW => ?_⟩
  obtain ⟨many, line, p, vs, F', y4, y5, y6, y7, y8, y9, hm, hmany, rfl, g, hp, nF, eD, ra', hlen, hline⟩ := hW
  refine eb_test (K := K) (ev_op (ev_var (i := 2) ⟨.ref p, rfl, .lst (.inl (.inl eD)) (ra'.up g.i)⟩) (ev_lst ea_nil (Nat.zero_le _)) rv_neEL) H' (Same.refl H') _ fun Fx H2 gx => ?_
  have g2 := grow_h g gx.h
  have eD2 := gx.h _ _ eD
  rcases List.eq_nil_or_concat line with rfl | ⟨init, ⟨h, k⟩, econ⟩
  · rw [← hline] at q
    have e0 : lineOk (rankOf xs) many [] = true := by
      show (true && decide (many + 0 ≤ 400)) = true
      rw [decide_eq_true (show many + 0 ≤ 400 from hmany)]
      rfl
    rw [e0] at q
    exact q _ F' H2 g2 (.bl true)
  rw [List.concat_eq_append] at econ
  subst econ
  have hne : (lineD (init ++ [(h, k)])).isEmpty = false := by
    unfold lineD
    rw [List.map_append]
    cases init <;> rfl
  rw [hne]
  have ra2 : DqAll K F' vs (lineD init ++ [.tuple [h, .int (k : Int)]]) := by
    unfold lineD at ra' ⊢
    rw [List.map_append] at ra'
    exact ra'
  obtain ⟨us, v, rfl, rus, rv⟩ := dq_snoc ra2
  refine ⟨fun σ' H' => ∃ (many' : Nat) (line : List (PyData × Nat)) (p : Addr) (vs : List V) (F' : Hp) (y4 y5 y6 y7 y8 y9 : Option V), m - 1 + many' = 401 ∧ many' ≤ 400 ∧ σ' = [some x, some y, some (.ref p), some (.int (many' : Int)), y4, y5, y6, y7, y8, y9] ∧ Grow F0 H F' H' ∧ H p = none ∧ F' p = none ∧ H' p = some (.lst vs) ∧ DqAll K F' vs (lineD line) ∧ line.length ≤ 3 * many' + 1 ∧ lineOk (rankOf xs) many' line = treeOk xs b, fun σ' H' h => ⟨m - 1, by omega, h⟩, ?_⟩
  refine ⟨.ref p, rfl, .inl ⟨rfl, _, .inl (.inl eD2)⟩, p, _, v, rfl, rfl, eD2, by simp, ?_⟩
  rw [List.dropLast_concat]
  have g3 : Grow F0 H F' (upd H2 p (.lst us)) := grow_own g2 hp nF
  have eD3 : upd H2 p (.lst us) p = some (.lst us) := upd_same
  generalize upd H2 p (.lst us) = H3 at g3 eD3
  refine tk_two v H3 g3.i rv _ fun σ2 hσ => ?_
  obtain ⟨u1, u2, rfl, ru1, ru2⟩ := hσ
  cases ru2
  refine s_set (K := K) (F := F') (d := .int ((many : Int) + 1)) (ev_op (ev_var (i := 3) ⟨_, rfl, .int (many : Int)⟩) (ev_int (i := 1)) (rv_int (g := fun i j => i + j))) g3.i fun v4 F4 H4 g4 r4 => ?_
  cases r4
  have G4 := g3.trans g4
  have eD4 := g4.h _ _ eD3
  have nF4 : F4 p = none := free_grow g4 nF eD3
  have ru4 := ru1.up g4.f
  have xr4 := ra.up G4.f
  have bad : ∀ {F' H' : Hp}, Grow F0 H F' H' → (many + 1 > 400 ∨ k > 60 ∨ isNode (rankOf xs) h = false) → Q (.bl false) H' := fun g hb => by
    rw [← hline, line_bad hb] at q
    exact q _ _ _ g (.bl false)
  have k0 : ∀ {y4 y7 y8 y9 : Option V}, EvB (tTest (tOp (rI0 fun i j => V.bl (decide (i > j))) (tVar 3) (tC (.int 400)))) [some x, some y, some (.ref p), some (.int ((many : Int) + 1)), y4, some u1, some (.int (k : Int)), y7, y8, y9] F4 (decide ((many : Int) + 1 > 400)) := fun {_ _ _ _} => eb_test (ev_op (K := K) (ev_var (i := 3) ⟨_, rfl, .int ((many : Int) + 1)⟩) (ev_int (i := 400)) (rv_bl (g := fun i j => decide (i > j))))
  have k1 : ∀ {y4 y7 y8 y9 : Option V}, EvB (tTest (tOp (rI0 fun i j => V.bl (decide (i > j))) (tVar 6) (tC (.int 60)))) [some x, some y, some (.ref p), some (.int ((many : Int) + 1)), y4, some u1, some (.int (k : Int)), y7, y8, y9] F4 (decide ((k : Int) > 60)) := fun {_ _ _ _} => eb_test (ev_op (K := K) (ev_var (i := 6) ⟨_, rfl, .int (k : Int)⟩) (ev_int (i := 60)) (rv_bl (g := fun i j => decide (i > j))))
  have e5 : EvD K (tVar 5) [some x, some y, some (.ref p), some (.int ((many : Int) + 1)), y4, some u1, some (.int (k : Int)), y7, y8, y9] F4 h := ev_var ⟨u1, rfl, ru4⟩
  have k2 := eb_not (eb_val (ev_isi e5 (kit_tup h)))
  have notNode : (∀ n cs, h ≠ .tuple (.str n :: cs)) → isNode (rankOf xs) h = false := fun hn => by
    rw [Bool.eq_false_iff]
    intro z
    obtain ⟨n, cs, r, e, _⟩ := node_cases z
    exact hn n cs e
  by_cases hd : ∃ n cs, h = .tuple (.str n :: cs)
  case neg =>
    have hbad : isNode (rankOf xs) h = false := notNode fun n cs e => hd ⟨n, cs, e⟩
    have key : ∃ b0 : Bool, b0 = true ∧ EvB (tOr (tTest (tOp (rI0 fun i j => V.bl (decide (i > j))) (tVar 3) (tC (.int 400)))) (tOr (tTest (tOp (rI0 fun i j => V.bl (decide (i > j))) (tVar 6) (tC (.int 60)))) (tOr (tNot (tB (tCB (rIsi K) (tCons (tVar 5) (tCons (tC (.ty "tuple")) tNil))))) (tOr (tTest (tOp (rEqE K) (tVar 5) (tTup tNil))) (tNot (tB (tCB (rIsi K) (tCons (tOp (rIxT K) (tVar 5) (tC (.int 0))) (tCons (tC (.ty "str")) tNil)))))))))
        [some x, some y, some (.ref p), some (.int ((many : Int) + 1)), y4, some u1, some (.int (k : Int)), y7, y8, y9] F4 b0 := by
      cases h with
      | tuple ds =>
        have k3 := eb_test (ev_op e5 (ev_tup ea_nil (Nat.zero_le _)) rv_eqE)
        cases ds with
        | nil => exact ⟨_, by rw [Bool.or_eq_true]; right; rw [Bool.or_eq_true]; right; rfl, eb_or k0 fun _ => eb_or k1 fun _ => eb_or k2 fun _ => eb_or (c := false) k3 fun z => nomatch z⟩
        | cons z cs =>
          have k4 := eb_not (eb_val (ev_isi (ev_op e5 ev_int (rv_ixT (k := 0) (d := z) rfl)) (kit_str z)))
          refine ⟨_, ?_, eb_or k0 fun _ => eb_or k1 fun _ => eb_or k2 fun _ => eb_or k3 fun _ => k4⟩
          rw [Bool.or_eq_true, Bool.or_eq_true]
          refine .inr (.inr ?_)
          cases z with
          | str n => exact absurd ⟨n, cs, rfl⟩ hd
          | _ => rfl
      | _ => exact ⟨_, by rw [Bool.or_eq_true]; right; rw [Bool.or_eq_true]; right; rfl, eb_or k0 fun _ => eb_or k1 fun _ => eb_or (c := false) k2 fun z => nomatch z⟩
    obtain ⟨b0, rfl, hkey⟩ := key
    exact s_when hkey G4.i (fun _ F5 H5 g5 => bad (G4.trans g5) (.inr (.inr hbad))) fun z => nomatch z
  obtain ⟨n, cs, rfl⟩ := hd
  have k3 := eb_test (ev_op e5 (ev_tup ea_nil (Nat.zero_le _)) rv_eqE)
  have k4 := eb_not (eb_val (ev_isi (ev_op e5 ev_int (rv_ixT (k := 0) (d := .str n) rfl)) (kit_str (.str n))))
  refine s_when (eb_or k0 fun _ => eb_or k1 fun _ => eb_or k2 fun _ => eb_or k3 fun _ => k4) G4.i (fun hb F5 H5 g5 => ?_) fun hb F5 H5 g5 => ?_
  · have hb' : (decide ((many : Int) + 1 > 400) || (decide ((k : Int) > 60) || false)) = true := hb
    rw [Bool.or_false, Bool.or_eq_true, decide_eq_true_iff, decide_eq_true_iff] at hb'
    refine bad (G4.trans g5) ?_
    rcases hb' with z | z
    · exact .inl (by omega)
    · exact .inr (.inl (by omega))
  have hb' : (decide ((many : Int) + 1 > 400) || (decide ((k : Int) > 60) || false)) = false := hb
  rw [Bool.or_false, Bool.or_eq_false_iff, decide_eq_false_iff_not, decide_eq_false_iff_not] at hb'
  obtain ⟨hb1, hb2⟩ := hb'
  have G5 := G4.trans g5
  have q1 := ev_lc (K := K) (σ := [some x, some y, some (.ref p), some (.int ((many : Int) + 1)), y4, some u1, some (.int (k : Int)), y7, y8, y9]) (F := F5) (te := tVar 8) (tt := tTest (tOp rEq (tVar 7) (tOp (rIxT K) (tVar 5) (tC (.int 0))))) (g := gTup K 2 (gCons (gName 7) (gCons (gName 8) gNil))) (vs := [7, 8]) (fun d => decide (nameD d = n)) (fun d => .int (intD (sndD d))) (ew_tup (ev_var (i := 0) ⟨x, rfl, xr4.up g5.f⟩)) (big (by omega)) fun d F' hd sF => by
    obtain ⟨nm, r, rfl, h0, h3⟩ := hx d hd
    refine tk_two.imp fun σ2 hσ => ?_
    obtain ⟨w1, w2, rfl, rw1, rw2⟩ := hσ
    exact ⟨rfl, eb_test (ev_op (ev_var (i := 7) ⟨w1, rfl, rw1⟩) (ev_op (ev_var (i := 5) ⟨u1, rfl, (ru4.up g5.f).up sF⟩) ev_int (rv_ixT (k := 0) (d := .str n) rfl)) rv_eqS), fun _ => ev_var (i := 8) ⟨w2, rfl, rw2⟩⟩
  have em : made (fun d => decide (nameD d = n)) (fun d => PyData.int (intD (sndD d))) xs = (ranksL xs n).map .int := by
    unfold made ranksL
    rw [List.map_map]
    rfl
  rw [em, ranks_one n xs hnd] at q1
  refine s_set (K := K) q1 G5.i fun v6 F6 H6 g6 r6 => ?_
  have G6 := G5.trans g6
  have ru6 := (ru4.up g5.f).up g6.f
  have e6 : EvD K (tVar 5) [some x, some y, some (.ref p), some (.int ((many : Int) + 1)), some v6, some u1, some (.int (k : Int)), y7, y8, y9] F6 (.tuple (.str n :: cs)) := ev_var ⟨u1, rfl, ru6⟩
  have t1 := eb_test (ev_op (ev_var (K := K) (σ := [some x, some y, some (.ref p), some (.int ((many : Int) + 1)), some v6, some u1, some (.int (k : Int)), y7, y8, y9]) (i := 4) ⟨v6, rfl, r6⟩) (ev_lst (ea_cons (ev_op (ev1 e6 rc_lenT) (ev_int (i := 1)) (rv_int (g := fun i j => i - j))) ea_nil) (by show 1 ≤ sizeLine; decide)) (rv_neD (shaped_ints _) (shaped_ints [((PyData.str n :: cs).length : Int) - 1]) (no_ints _) (no_ints [((PyData.str n :: cs).length : Int) - 1])))
  have eeq : PyData.eqv (.list ((rankOf xs n).toList.map .int)) (.list [.int (((PyData.str n :: cs).length : Int) - 1)]) = isNode (rankOf xs) (.tuple (.str n :: cs)) := by
    refine (eqv_ints _ [((PyData.str n :: cs).length : Int) - 1]).trans ?_
    show _ = match rankOf xs n with | some r => decide ((cs.length : Int) + 1 = r + 1) | none => false
    cases rankOf xs n with
    | none => rfl
    | some r =>
      show decide ([r] = [((cs.length + 1 : Nat) : Int) - 1]) = decide ((cs.length : Int) + 1 = r + 1)
      refine decide_eq_decide.mpr ⟨fun z => ?_, fun z => ?_⟩
      · have := List.head_eq_of_cons_eq z
        omega
      · rw [show r = ((cs.length + 1 : Nat) : Int) - 1 by omega]
  rw [eeq] at t1
  refine s_when t1 G6.i (fun hb F7 H7 g7 => ?_) fun hb F7 H7 g7 => ?_
  · rw [Bool.not_eq_true'] at hb
    exact bad (G6.trans g7) (.inr (.inr hb))
  rw [Bool.not_eq_false'] at hb
  obtain ⟨n', cs', r', e0, hr1, hr2⟩ := node_cases hb
  cases e0
  have hr3 := (rank_le hk hr1).2
  have G7 := G6.trans g7
  have eD7 := g7.h _ _ (g6.h _ _ (g5.h _ _ eD4))
  have nF7 : F7 p = none := free_grow g7 (free_grow g6 (free_grow g5 nF4 eD4) (g5.h _ _ eD4)) (g6.h _ _ (g5.h _ _ eD4))
  refine ⟨.ref p, rfl, ?_⟩
  refine lc_new (K := K) (F := F7) (σ := [some x, some y, some (.ref p), some (.int ((many : Int) + 1)), some v6, some u1, some (.int (k : Int)), y7, y8, y9]) (vs := [9]) (tt := tYes) (g := gName 9) (fun _ => true) (fun c => .tuple [c, .int ((k : Int) + 1)]) (ds := cs) (ew_tup ((ev_sl (ev_var (i := 5) ⟨u1, rfl, ru6.up g7.f⟩) (eo_some (i := 1) ev_int) eo_none rs_tup).is ?_)) (big (by omega)) (fun c F' hc sF => ?_) H7 G7.i _ fun D F8 acc H8 g8 hD nD eD8 ra8 => ?_
  · rw [show (1 : Int) = ((1 : Nat) : Int) from rfl, cut_from]
    rfl
  · refine tk_name.imp fun σ3 hσ => ?_
    obtain ⟨u3, rfl, ru3⟩ := hσ
    exact ⟨rfl, eb_yes, fun _ => ev_tup (ea_cons (ev_var (i := 9) ⟨u3, rfl, ru3⟩) (ea_cons (ev_op (ev_var (i := 6) ⟨_, rfl, .int (k : Int)⟩) (ev_int (i := 1)) (rv_int (g := fun i j => i + j))) ea_nil)) (by show 2 ≤ sizeLine; decide)⟩
  rw [made_map] at ra8
  have lus := rus.len
  have lacc := ra8.len
  unfold lineD at lus
  rw [List.length_map] at lus lacc
  rw [List.length_append] at hlen
  refine ⟨p, D, us, acc, rfl, rfl, g8.h _ _ eD7, eD8, Nat.le_of_lt (big (by have : [(PyData.tuple (.str n :: cs), k)].length = 1 := rfl; omega)), fun p2 hp2 => ?_⟩
  have G8 := G7.trans g8
  refine ⟨many + 1, init ++ cs.map fun c => (c, k + 1), p2, us ++ acc, F8, some v6, some u1, some (.int (k : Int)), y7, y8, y9, by omega, by omega, ?_, grow_own G8 (G8.h.free hp2) (g8.i.free hp2), G8.h.free hp2, g8.i.free hp2, upd_same, ?_, ?_, ?_⟩
  · rw [Int.natCast_add]
    rfl
  · unfold lineD at rus ⊢
    rw [List.map_append, List.map_map]
    have er : ((fun q : PyData × Nat => PyData.tuple [q.1, .int (q.2 : Int)]) ∘ fun c => (c, k + 1)) = fun c => .tuple [c, .int ((k : Int) + 1)] := funext fun c => by
      show PyData.tuple [c, .int ((k + 1 : Nat) : Int)] = _
      rw [Int.natCast_add]
      rfl
    rw [er]
    exact (rus.up ((((g4.f.trans g5.f).trans g6.f).trans g7.f).trans g8.f)).app ra8
  · rw [List.length_append, List.length_map]
    have : [(PyData.tuple (.str n :: cs), k)].length = 1 := rfl
    omega
  · rw [← hline]
    exact line_step (d := .tuple (.str n :: cs)) (by omega) hb
end
end Sx
set_option Elab.async false
set_option linter.all false
set_option maxRecDepth 100000
set_option maxHeartbeats 2000000
set_option exponentiation.threshold 3000
namespace Sx
open PySem PySem.Spec PyProof.Rows L2
open C8 (Cal pe_c pe_gc)
theorem DrawAt.more {H : Hp} {a l c : Addr} {n m : Nat} (D : DrawAt H a l c n) (h : n ≤ m) : DrawAt H a l c m := by
  obtain ⟨ws, cs, r, t, D, e1, e2⟩ := D
  exact ⟨ws, cs, r, t, D, e1, by omega⟩
theorem same_two {H : Hp} {p q : Addr} {o u : HO} (hp : H p = some o) (hq : H q = some u) : Same (upd (upd (fun _ => none) p o) q u) H := fun b x e => by
  by_cases hb : b = q
  · rw [hb, upd_same] at e
    rw [hb, hq]
    exact e
  · rw [upd_ne hb] at e
    exact same_one hp b x e
theorem cons_one {te : TE} {σ : L2.St} {H : Hp} {Q : List V → Hp → Prop} (h : te σ H fun x H1 => Q [x] H1) : tCons te tNil σ H Q := h
theorem lst_int {K : PySem.W.Frag} {ta : TA} {σ : L2.St} {F H : Hp} {Q : VK} {ns : List Int} (h : EvS K ta σ F (ns.map .int)) (s : Same F H) (hl : ns.length ≤ sizeLine) (k : ∀ p H', Same H H' → H' p = none → Q (.ref p) (upd H' p (.lst (ns.map V.int)))) : tLst ta σ H Q := by
  refine h H s _ fun vs F1 H1 g1 r1 => ?_
  rw [dps_int r1]
  exact ⟨by rw [List.length_map]; exact hl, fun p hp => k p H1 g1.h hp⟩
theorem DrawAt.frees {F H F' H' : Hp} {a l c : Addr} {n : Nat} (D : DrawAt H a l c n) (g : Grow F H F' H') (ha : F a = none) (hl : F l = none) : F' a = none ∧ F' l = none := by
  obtain ⟨ws, cs, r, t, D, _, _⟩ := D
  exact ⟨free_grow g ha D.d, free_grow g hl D.w⟩
section
variable {P : Program} {w : World} {K : PySem.W.Frag} {mg : Str → Option Value} {base : Heap} {f : Addr} {fd : FuncData} {aK CK CN CS : Addr}
/-! ### _law_kinds -/
abbrev s__law_kinds : Stmt := top 42
theorem sc__law_kinds : FnScope ["draw", "names", "ranks", "name"] ["draw"] (defScope s__law_kinds) := ⟨rfl, rfl, rfl, by decide +kernel, rfl, by decide +kernel, by decide +kernel⟩
def spKinds (K : PySem.W.Frag) : Sp := fun vs H Q _ => ∃ (d l c : Addr) (n : Nat), vs = [.ref d] ∧ DrawAt H d l c n ∧ n + 4000 ≤ 2 ^ 40 ∧
  ∀ (v : V) (xs : List PyData) (G H' : Hp), isKinds (.tuple xs) = true → PlD K G v xs → Same G H' → G d = none → G l = none → Keeps d l H H' → DrawAt H' d l c (n + 200) → Q v H'
theorem ok__law_kinds (F : Fun K "_law_kinds" "_law_kinds" s__law_kinds f fd) (B : BI mg) (c__law_take : Cal P w K mg base 2 "_law_take" spTake []) (c__law_pick : Cal P w K mg base 3 "_law_pick" (spPick K) []) (c__law_names : Cal P w K mg base 4 "_law_names" spNames []) : FnOk P w K mg base CX0 5 f fd ["draw"] (spKinds K) := by
  refine F.ok sc__law_kinds (fun vs H Q E h => by obtain ⟨d, _, _, _, e, _⟩ := h; rw [e]; rfl) (fun cdv A outer s H vs Q E hr h => ?_)
  obtain ⟨d, l, c, n0, ev, D0, hn, q⟩ := h
  subst ev
  refine ⟨_, (pss_cons (ps_set (i := 1) sc__law_kinds.nd rfl (Or.inl rfl) (pe_callB (cr_sortedS) (by rfl) B.sorted (by decide +kernel) (pa_cons (pe_c c__law_names hr (by first | decide | omega) (by rfl) (pa_cons (pv 0) (pa_cons (pe_op (op_add) pe_int (pe_c c__law_take hr (by first | decide | omega) (by rfl) (pa_cons (pv 0) (pa_cons pe_int pa_nil)))) pa_nil))) pa_nil)))
        (pss_cons (ps_setLc (i := 2) (own := [("name", 3)]) (g := (gName 3)) rfl sc__law_kinds.nd rfl rfl (sw_true rfl rfl rfl (by decide +kernel)) (pi_list (pv 1)) (blkOk_by (own := [("name", 3)]) (N := ["draw", "names", "ranks", "name"]) (sc := defScope s__law_kinds) (by decide +kernel)) (fun _ _ _ _ _ => (pg_name (i := 3) sc__law_kinds.nd rfl (Or.inl rfl) (hf := (Or.inr rfl)))) (fun _ _ _ _ _ => pts_nil) (fun _ _ _ _ _ => (pe_c c__law_pick hr (by first | decide | omega) (by rfl) (pa_cons (pv 0) (pa_cons (pe_lst (pa_cons pe_int (pa_cons pe_int (pa_cons pe_int (pa_cons pe_int (pa_cons pe_int (pa_cons pe_int (pa_cons pe_int pa_nil)))))))) pa_nil)))))
        (pss_cons (ps_asg pe_int (pg_sub (pv 2) (pe_c c__law_take hr (by first | decide | omega) (by rfl) (pa_cons (pv 0) (pa_cons (pe_callB (r := rLen0 K) (call_len) (by rfl) B.len (by decide +kernel) (pa_cons (pv 1) pa_nil)) pa_nil))) set_list))
        (pss_one (ps_ret (pe_tupZipF rfl (by rfl) B.tuple (by rfl) B.zip (pa_cons (pv 1) (pa_cons (pv 2) pa_nil)))))))), ?_⟩
  refine ⟨.ref d, rfl, .ref d, rfl, d, l, c, n0, 4, rfl, D0, by omega, by decide, by decide, fun i6 Ha hi6 ka Da => ?_⟩
  refine ⟨1, (i6 : Int), rfl, rfl, d, l, c, n0 + 1, 1 + i6, by rw [Int.natCast_add]; rfl, by omega, Da, by omega, fun p out Hb nm hp kb Db eb => ?_⟩
  obtain ⟨m, hm⟩ : ∃ m, m = 1 + i6 := ⟨_, rfl⟩
  rw [← hm] at nm Db
  have hm6 : 1 ≤ m ∧ m ≤ 6 := by omega
  have ol : out.length = m := by
    obtain ⟨_, _, _, _, _, _, e⟩ := nm.ex
    omega
  refine ⟨p, out, rfl, .inl (.inl eb), by omega, fun ys qq pm srt hq => ?_⟩
  have yl : ys.length = m := by rw [pm.length_eq, ol]
  have kab := ka.trans kb
  have fq := Db.fresh hq
  have hq0 : H qq = none := kab.free fq.1 fq.2.1 hq
  obtain ⟨Hc, hHc⟩ : ∃ Hc, Hc = upd Hb qq (.lst (ys.map V.str)) := ⟨_, rfl⟩
  rw [← hHc]
  have kc : Keeps d l H Hc := by rw [hHc]; exact kab.other hq0
  have Dc : DrawAt Hc d l c (n0 + 1 + 90 + m) := by rw [hHc]; exact Db.other fq
  have eq : Hc qq = some (.lst (ys.map V.str)) := by rw [hHc]; exact upd_same
  -- ranks
  have sq : SqL K Hc qq (ys.map V.str) := .inl (.inl eq)
  refine ⟨.ref qq, rfl, qq, rfl, ⟨_, sq⟩, fun Dd hD => ?_⟩
  have fD := Dc.fresh hD
  have hD0 : H Dd = none := kc.free fD.1 fD.2.1 hD
  have nqD : qq ≠ Dd := fun z => by rw [z, hD] at eq; cases eq
  refine ⟨fun j k H6 => k = m - j ∧ j ≤ m ∧ ∃ rk : List Int, rk.length = j ∧ (∀ r ∈ rk, 0 ≤ r ∧ r ≤ 3) ∧ Keeps d l H H6 ∧ DrawAt H6 d l c (n0 + 1 + 90 + m + j) ∧ H6 qq = some (.lst (ys.map V.str)) ∧ H6 Dd = some (.lst (rk.map V.int)),
    ⟨m, by simp, Nat.zero_le _, [], rfl, (fun r hr => by cases hr), kc.other hD0, Dc.other fD, upd_at nqD eq, upd_same⟩, fun j k H6 hW => ?_⟩
  obtain ⟨rfl, hj, rk, rl, hrk, k6, D6, e6, o6⟩ := hW
  have sq6 : SqL K H6 qq (ys.map V.str) := .inl (.inl e6)
  by_cases hjm : j < m
  · have hx : (ys.map V.str)[j]? = some (.str (ys[j]'(by omega))) := by
      rw [List.getElem?_map, List.getElem?_eq_getElem (by omega)]
      rfl
    refine .inr ⟨⟨_, _, sq6, hx⟩, fun H7 => ∃ rk : List Int, rk.length = j + 1 ∧ (∀ r ∈ rk, 0 ≤ r ∧ r ≤ 3) ∧ Keeps d l H H7 ∧ DrawAt H7 d l c (n0 + 1 + 90 + m + (j + 1)) ∧ H7 qq = some (.lst (ys.map V.str)) ∧ H7 Dd = some (.lst (rk.map V.int)), fun H7 h7 => ⟨m - (j + 1), by omega, rfl, hjm, h7⟩, fun x H7 hy => ?_⟩
    obtain ⟨rfl, hy⟩ := hy
    refine ⟨rfl, yes_then ?_⟩
    have evs2 : EvS K (tCons (tC (.int 0)) (tCons (tC (.int 0)) (tCons (tC (.int 1)) (tCons (tC (.int 1)) (tCons (tC (.int 2)) (tCons (tC (.int 2)) (tCons (tC (.int 3)) tNil))))))) [some (.ref d), some (.ref qq), none, some x] (fun _ => none) ([(0 : Int), 0, 1, 1, 2, 2, 3].map .int) :=
      ea_cons ev_int (ea_cons ev_int (ea_cons ev_int (ea_cons ev_int (ea_cons ev_int (ea_cons ev_int (ea_cons ev_int ea_nil))))))
    refine ⟨.ref d, rfl, ?_⟩
    show tCons (tLst _) tNil _ _ _
    refine cons_one (lst_int (K := K) evs2 (fun b o e => by cases e) (by show 7 ≤ sizeLine; decide) fun q2 H8 g8 hqq => ?_)
    have D8 := D6.same g8
    have fqq := D8.fresh hqq
    refine ⟨upd (fun _ => none) q2 (.lst ([(0 : Int), 0, 1, 1, 2, 2, 3].map V.int)), d, l, c, n0 + 1 + 90 + m + j, .ref q2, [(0 : Int), 0, 1, 1, 2, 2, 3].map .int, same_one upd_same, one_free fqq.1.symm, one_free fqq.2.1.symm, rfl, .lst (.inl (.inl upd_same)) (dps_ofInt _), by show 1 ≤ 7; decide, by show 7 ≤ 1000; decide, D8.other fqq, by omega, fun dd v H10 hd hv k10 D10 => ?_⟩
    obtain ⟨r, hr, rfl⟩ := List.mem_map.mp hd
    cases hv
    have s9 : Same H7 (upd H8 q2 (.lst ([(0 : Int), 0, 1, 1, 2, 2, 3].map V.int))) := g8.trans (same_upd hqq)
    have o9 := k10 _ _ fD.1 fD.2.1 (s9 _ _ o6)
    have e9 := k10 _ _ fq.1 fq.2.1 (s9 _ _ e6)
    have hr3 : 0 ≤ r ∧ r ≤ 3 := by
      simp only [List.mem_cons, List.not_mem_nil, or_false] at hr
      omega
    refine ⟨_, o9, by rw [List.length_map]; exact small1000 (by omega), rk ++ [r], by rw [List.length_append, rl]; rfl, fun r' hr' => ?_, (k6.trans ((Keeps.of s9).trans k10)).other hD0, ?_, upd_at nqD e9, ?_⟩
    · rcases List.mem_append.mp hr' with h | h
      · exact hrk r' h
      · rw [List.mem_singleton.mp h]
        exact hr3
    · exact D10.other fD
    · rw [upd_same, List.map_append]
      rfl
  refine .inl ⟨⟨_, sq6, by rw [List.length_map]; omega⟩, ?_⟩
  obtain ⟨n2, hn2⟩ : ∃ n2, n2 = n0 + 1 + 90 + m + j := ⟨_, rfl⟩
  rw [← hn2] at D6
  -- ranks[..] = 0
  refine ⟨.ref Dd, rfl, .ref d, rfl, .ref qq, rfl, .ref qq, ys.length, rfl, .inl ⟨_, sq6, (List.length_map ..).symm⟩, ?_⟩
  refine ⟨d, l, c, n2, (ys.length : Int), rfl, D6, by omega, by omega, by omega, fun jj HC hjj kC' DC => ?_⟩
  have oC := kC' _ _ fD.1 fD.2.1 o6
  refine ⟨Dd, rk.map V.int, (jj : Int), jj, rfl, rfl, oC, ?_, ?_⟩
  · unfold ixN
    rw [if_pos (Int.natCast_nonneg jj), if_pos (by rw [List.length_map]; omega), Int.toNat_natCast]
  have eset : (rk.map V.int).set jj (.int 0) = (rk.set jj 0).map V.int := (List.map_set ..).symm
  rw [eset]
  obtain ⟨rk', hrk'⟩ : ∃ rk', rk' = rk.set jj 0 := ⟨_, rfl⟩
  rw [← hrk']
  have rl2 : rk'.length = m := by rw [hrk', List.length_set]; omega
  have hr2 : ∀ r ∈ rk', 0 ≤ r ∧ r ≤ 3 := fun r hr => by
    rw [hrk'] at hr
    rcases List.mem_or_eq_of_mem_set hr with h | h
    · exact hrk r h
    · rw [h]; decide
  have h0 : (0 : Int) ∈ rk' := by
    rw [hrk']
    exact List.mem_iff_getElem?.mpr ⟨jj, by rw [List.getElem?_set_self (by omega)]⟩
  obtain ⟨Hd, hHd⟩ : ∃ Hd, Hd = upd HC Dd (.lst (rk'.map V.int)) := ⟨_, rfl⟩
  rw [← hHd]
  have kd : Keeps d l H Hd := by rw [hHd]; exact (k6.trans kC').other hD0
  have DHd : DrawAt Hd d l c (n2 + 1) := by rw [hHd]; exact DC.other fD
  have eqd : Hd qq = some (.lst (ys.map V.str)) := by rw [hHd]; exact upd_at nqD (kC' _ _ fq.1 fq.2.1 e6)
  have oDd : Hd Dd = some (.lst (rk'.map V.int)) := by rw [hHd]; exact upd_same
  -- kinds
  obtain ⟨F0, hF0⟩ : ∃ F0 : Hp, F0 = upd (upd (fun _ => none) qq (.lst (ys.map V.str))) Dd (.lst (rk'.map V.int)) := ⟨_, rfl⟩
  have sF0 : Same F0 Hd := by rw [hF0]; exact same_two eqd oDd
  have F0d : F0 d = none := by rw [hF0, upd_ne fD.1.symm]; exact one_free fq.1.symm
  have F0l : F0 l = none := by rw [hF0, upd_ne fD.2.1.symm]; exact one_free fq.2.1.symm
  have rq : Dq K F0 (.ref qq) (.list (ys.map .str)) := .lst (.inl (.inl (by rw [hF0, upd_ne nqD]; exact upd_same))) (dps_ofStr ys)
  have rD : Dq K F0 (.ref Dd) (.list (rk'.map .int)) := .lst (.inl (.inl (by rw [hF0]; exact upd_same))) (dps_ofInt rk')
  obtain ⟨xs, hxs⟩ : ∃ xs, xs = pairs (ys.map .str) (rk'.map .int) := ⟨_, rfl⟩
  have hk : isKinds (.tuple xs) = true := by rw [hxs]; exact kinds_ok nm hm6 pm srt rl2 hr2 h0
  dsimp only
  refine tupZipF_new (K := K) (F := F0) (ds := ys.map .str) (es := rk'.map .int) (ea_cons (ev_var (i := 1) ⟨.ref qq, rfl, rq⟩) (ea_cons (ev_var (i := 2) ⟨.ref Dd, rfl, rD⟩) ea_nil)) (by rw [List.length_map, List.length_map]; omega) sF0 fun v F1 He g1 r1 => ?_
  rw [← hxs] at r1
  obtain ⟨fd1, fl1⟩ := DHd.frees g1 F0d F0l
  exact q v xs F1 He hk r1 g1.i fd1 fl1 (kd.trans (.of g1.h)) ((DHd.same g1.h).more (by omega))
end
end Sx
set_option Elab.async false
set_option linter.all false
set_option maxRecDepth 100000
set_option maxHeartbeats 2000000
set_option exponentiation.threshold 3000
namespace Sx
open PySem PySem.Spec PyProof.Rows L2
open C8 (Cal pe_c pe_gc)
def catD : PyData → PyData → PyData
  | .tuple xs, o => .tuple (xs ++ [o])
  | d, _ => d
def tups (ds : List PyData) : Nat → List PyData
  | 0 => [.tuple []]
  | r + 1 => (tups ds r).flatMap fun row => ds.map (catD row)
theorem tups_len (ds : List PyData) : ∀ r : Nat, (tups ds r).length = ds.length ^ r
  | 0 => rfl
  | r + 1 => by
    have : ∀ l : List PyData, (l.flatMap fun row => ds.map (catD row)).length = l.length * ds.length := fun l => by
      induction l with
      | nil => simp
      | cons a l ih => rw [List.flatMap_cons, List.length_append, List.length_map, ih, List.length_cons, Nat.succ_mul, Nat.add_comm]
    show ((tups ds r).flatMap fun row => ds.map (catD row)).length = _
    rw [this, tups_len ds r, Nat.pow_succ]
theorem tups_are (ds : List PyData) : ∀ (r : Nat) (d : PyData), d ∈ tups ds r → ∃ xs, d = .tuple xs ∧ xs.length = r
  | 0, d, h => ⟨[], List.mem_singleton.mp h, rfl⟩
  | r + 1, d, h => by
    obtain ⟨row, h1, h2⟩ := List.mem_flatMap.mp h
    obtain ⟨o, _, rfl⟩ := List.mem_map.mp h2
    obtain ⟨xs, rfl, hl⟩ := tups_are ds r row h1
    exact ⟨xs ++ [o], rfl, by rw [List.length_append, hl]; rfl⟩
theorem pow27 {n r : Nat} (hn : n ≤ 3) (hr : r ≤ 3) : n ^ r ≤ 27 := by
  have h1 : n ^ r ≤ 3 ^ r := Nat.pow_le_pow_left hn r
  have h2 : 3 ^ r ≤ 3 ^ 3 := Nat.pow_le_pow_right (by decide) hr
  omega
section
variable {P : Program} {w : World} {K : PySem.W.Frag} {mg : Str → Option Value} {base : Heap} {f : Addr} {fd : FuncData} {aK CK CN CS : Addr}
/-! ### _law_tuples -/
abbrev s__law_tuples : Stmt := top 44
theorem sc__law_tuples : FnScope ["some", "rank", "found", "lap", "longer", "row", "one"] ["some", "rank"] (defScope s__law_tuples) := ⟨rfl, rfl, rfl, by decide +kernel, rfl, by decide +kernel, by decide +kernel⟩
def g_law_tuples (d r : PyData) : Option PyData := match d, r with
  | .list ds, .int r => if decide (ds.length ≤ 3) && (decide (0 ≤ r) && decide (r ≤ 3)) then some (.list (tups ds r.toNat)) else none
  | _, _ => none
abbrev p__law_tuples (K : PySem.W.Frag) : Sp := spD K (f2 g_law_tuples)
theorem ok__law_tuples (F : Fun K "_law_tuples" "_law_tuples" s__law_tuples f fd) (B : BI mg) : FnOk P w K mg base CX0 1 f fd ["some", "rank"] (p__law_tuples K) := by
  refine F.ok sc__law_tuples (fun vs H Q E h => len_f2 h) (fun cdv A outer s H vs Q E hr h => go2 h fun F0 a b x y d sm ra rb e ev q => ?_)
  subst ev
  match a, b, e with
  | .list ds, .int r, e =>
  have e' : (if decide (ds.length ≤ 3) && (decide (0 ≤ r) && decide (r ≤ 3)) then some (PyData.list (tups ds r.toNat)) else none) = some d := e
  split at e'
  case isFalse => cases e'
  rename_i hc
  cases e'
  rw [Bool.and_eq_true, Bool.and_eq_true, decide_eq_true_iff, decide_eq_true_iff, decide_eq_true_iff] at hc
  obtain ⟨d3, r0, r3⟩ := hc
  cases rb
  refine ⟨_, (pss_cons (ps_set (i := 2) sc__law_tuples.nd rfl (Or.inl rfl) (pe_lst (pa_cons (pe_tup pa_nil) pa_nil)))
        (pss_cons (ps_for PassesOwn.never rfl (pi_range1 (by rfl) B.range (pa_cons (pv 1) pa_nil)) (pg_name (i := 3) sc__law_tuples.nd rfl (Or.inl rfl) (hf := (Or.inr rfl))) (pss_cons (ps_set (i := 4) sc__law_tuples.nd rfl (Or.inl rfl) (pe_lst pa_nil))
        (pss_cons (ps_for PassesOwn.never rfl (pi_list (pv 2)) (pg_name (i := 5) sc__law_tuples.nd rfl (Or.inr rfl) (hf := (Or.inl rfl))) (pss_one (ps_set (i := 4) sc__law_tuples.nd rfl (Or.inl rfl) (pe_op op_cat (pv 4) (pe_lc (own := [("one", 6)]) (g := (gName 6)) rfl sc__law_tuples.nd (pi_list (pv 0)) (blkOk_by (own := [("one", 6)]) (N := ["some", "rank", "found", "lap", "longer", "row", "one"]) (sc := defScope s__law_tuples) (by decide +kernel)) (fun _ _ _ _ _ => (pg_name (i := 6) sc__law_tuples.nd rfl (Or.inl rfl) (hf := (Or.inr rfl)))) (fun _ _ _ _ _ => pts_nil) (fun _ _ _ _ _ => (pe_op (r := rCatA K) op_catA (pv 5) (pe_tup (pa_cons (pv 6) pa_nil)))))))))
        (pss_one (ps_set (i := 2) sc__law_tuples.nd rfl (Or.inl rfl) (pv 4))))))
        (pss_one (ps_ret (pv 2))))), ?_⟩
  have big : ∀ {k : Nat}, k ≤ 1000 → k < sizeLine := fun h => small1000 h
  refine s_set (K := K) (F := F0) (d := .list [.tuple []]) (ev_lst (ea_cons (ev_tup ea_nil (Nat.zero_le _)) ea_nil) (by show 1 ≤ sizeLine; decide)) sm fun v2 F1 H1 g1 r1 => ?_
  refine s_for (K := K) (F := F1) (ds := rgs 0 r.toNat) g1.i (ew_rng1 (ea_cons (ev_var (i := 1) ⟨.int r, rfl, .int r⟩) ea_nil) (by omega)) fun F2 H2 g2 =>
    ⟨fun i σ' F' H' => Same F2 F' ∧ Grow F0 H F' H' ∧ ∃ v2 y3 y4 y5 y6, σ' = [some x, some (.int r), some v2, y3, y4, y5, y6] ∧ Dq K F' v2 (.list (tups ds i)),
      ⟨Same.refl _, g1.trans g2, v2, _, _, _, _, rfl, r1.up g2.f⟩, fun i σ' F' H' h => ⟨h.1, h.2.1.i⟩, fun i d σ' F' H' hd hI F3 H3 v g3 rv => ?_, fun σ' F' H' hI => ?_⟩
  · obtain ⟨sI, gI, v2, y3, y4, y5, y6, rfl, rv2⟩ := hI
    obtain ⟨hi, rfl⟩ := rgs_get hd
    have hlen : (tups ds i).length ≤ 27 := by rw [tups_len]; exact pow27 d3 (by omega)
    refine s_newL (K := K) (F := F3) (ds := []) ea_nil g3.i (Nat.zero_le _) fun p vs F4 H4 g4 hp rvs => ?_
    cases rvs
    have G4 := (gI.trans g3).trans g4
    have hpH : H p = none := G4.h.free hp
    have nF4 : F4 p = none := g4.i.free hp
    have G4' : Grow F0 H F4 (upd H4 p (.lst [])) := grow_own G4 hpH nF4
    have rv4 := rv2.up (g3.f.trans g4.f)
    refine s_for (K := K) (F := F4) (ds := tups ds i) G4'.i (ew_list (ev_var (i := 2) ⟨v2, rfl, rv4⟩)) fun F5 H5 g5 =>
      ⟨fun j σ' F' H' => Same F5 F' ∧ Grow F0 H F' H' ∧ ∃ p acc y5 y6, σ' = [some x, some (.int r), some v2, some v, some (.ref p), y5, y6] ∧ H p = none ∧ F' p = none ∧ H' p = some (.lst acc) ∧ DqAll K F' acc (((tups ds i).take j).flatMap fun row => ds.map (catD row)),
        ⟨Same.refl _, G4'.trans g5, p, [], _, _, rfl, hpH, free_grow g5 nF4 upd_same, g5.h _ _ upd_same, .nil⟩, fun j σ' F' H' h => ⟨h.1, h.2.1.i⟩, fun j d σ' F' H' hd hJ F6 H6 u g6 ru => ?_, fun σ' F' H' hJ => ?_⟩
    · obtain ⟨sJ, gJ, p, acc, y5, y6, rfl, hp0, nFp, eP, racc⟩ := hJ
      obtain ⟨zs, rfl, hzl⟩ := tups_are ds i d (List.mem_of_getElem? hd)
      have e6 := g6.h _ _ eP
      have n6 : F6 p = none := free_grow g6 nFp eP
      refine ⟨.ref p, rfl, ?_⟩
      refine lc_new (K := K) (F := F6) (σ := [some x, some (.int r), some v2, some v, some (.ref p), some u, y6]) (vs := [6]) (tt := tYes) (te := tOp (rCatA K) (tVar 5) (tTup (tCons (tVar 6) tNil))) (g := gName 6) (fun _ => true) (catD (.tuple zs)) (ds := ds) (ew_list (ev_var (i := 0) ⟨x, rfl, ra.up ((gJ.trans g6).f)⟩)) (big (by omega)) (fun c F' hc sF => ?_) H6 g6.i _ fun D F7 acc2 H7 g7 hD nD eD ra7 => ?_
      · refine tk_name.imp fun σ3 hσ => ?_
        obtain ⟨u3, rfl, ru3⟩ := hσ
        exact ⟨rfl, eb_yes, fun _ => ev_op (ev_var (i := 5) ⟨u, rfl, ru.up sF⟩) (ev_tup (ea_cons (ev_var (i := 6) ⟨u3, rfl, ru3⟩) ea_nil) (by show 1 ≤ sizeLine; decide)) (rv_catT (es := [c]) (Nat.le_of_lt (big (by rw [hzl]; show i + 1 ≤ 1000; omega))))⟩
      rw [made_map] at ra7
      have l1 := racc.len
      have l2 := ra7.len
      have hfl : (((tups ds i).take j).flatMap fun row => ds.map (catD row)).length ≤ 81 := by
        have : ∀ l : List PyData, (l.flatMap fun row => ds.map (catD row)).length = l.length * ds.length := fun l => by
          induction l with
          | nil => simp
          | cons a l ih => rw [List.flatMap_cons, List.length_append, List.length_map, ih, List.length_cons, Nat.succ_mul, Nat.add_comm]
        rw [this]
        have h1 : ((tups ds i).take j).length ≤ 27 := by rw [List.length_take]; omega
        exact Nat.mul_le_mul h1 d3
      refine ⟨p, D, acc, acc2, rfl, rfl, g7.h _ _ e6, eD, Nat.le_of_lt (big (by rw [List.length_map] at l2; omega)), fun p2 hp2 => ?_⟩
      have G7 := (gJ.trans g6).trans g7
      refine ⟨F7, sJ.trans (g6.f.trans g7.f), grow_own G7 (G7.h.free hp2) (g7.i.free hp2), p2, acc ++ acc2, _, _, rfl, G7.h.free hp2, g7.i.free hp2, upd_same, ?_⟩
      rw [List.take_add_one, hd, List.flatMap_append]
      refine (racc.up (g6.f.trans g7.f)).app ?_
      show DqAll K F7 acc2 (([PyData.tuple zs]).flatMap fun row => ds.map (catD row))
      rw [List.flatMap_cons, List.flatMap_nil, List.append_nil]
      exact ra7
    · obtain ⟨sJ, gJ, p, acc, y5, y6, rfl, hp0, nFp, eP, racc⟩ := hJ
      rw [List.take_length] at racc
      refine ⟨.ref p, rfl, ?_⟩
      have gT := grow_tell gJ hp0 nFp eP
      refine ⟨upd F' p (.lst acc), ((sI.trans g3.f).trans (g4.f.trans g5.f)).trans (sJ.trans (same_upd nFp)), gT, .ref p, _, _, _, _, rfl, .lst (.inl (.inl upd_same)) (racc.up (same_upd nFp))⟩
  · obtain ⟨sI, gI, v2, y3, y4, y5, y6, rfl, rv2⟩ := hI
    rw [rgs_len] at rv2
    refine now_var rfl _ ?_
    exact q v2 F' H' gI rv2
end
end Sx
set_option Elab.async false
set_option linter.all false
set_option maxRecDepth 100000
set_option maxHeartbeats 2000000
set_option exponentiation.threshold 3000
namespace Sx
open PySem PySem.Spec PyProof.Rows L2
open C8 (Cal pe_c pe_gc)
section
variable {P : Program} {w : World} {K : PySem.W.Frag} {mg : Str → Option Value} {base : Heap} {f : Addr} {fd : FuncData} {aK CK CN CS : Addr}
theorem mkCal {k : Nat} {x : Str} {f : Addr} {fd : FuncData} {ps : List Str} {sp : Sp} (ok : FnOk P w K mg base CX0 k f fd ps sp) (m : mg x = some (.ref f)) (kp : PySem.W.keepIn K (.ref f) = true) (b : L2.Binds K fd ps []) : Cal P w K mg base k x sp [] := ⟨f, fd, ps, [], ok, m, kp, b, .nil⟩
/-! ### _law_size -/
abbrev s__law_size : Stmt := top 46
theorem sc__law_size : FnScope ["tree", "child"] ["tree"] (defScope s__law_size) := ⟨rfl, rfl, rfl, by decide +kernel, rfl, by decide +kernel, by decide +kernel⟩
/-- a tree of tuples, not deeper than n -/
def tupT : Nat → PyData → Bool
  | 0, _ => false
  | n + 1, .tuple ds => decide (ds.length ≤ 100) && (ds.drop 1).all (tupT n)
  | _ + 1, _ => false
def g_law_size (n : Nat) (d : PyData) : Option PyData := if tupT n d then some (.int (sizeT d)) else none
theorem sizes_sum : ∀ ds : List PyData, (ds.map fun d => ((sizeT d : Nat) : Int)).sum = ((sizesT ds : Nat) : Int)
  | [] => rfl
  | d :: ds => by
    rw [List.map_cons, List.sum_cons, sizes_sum ds, sizesT, Int.natCast_add]
theorem kids_drop (ds : List PyData) : kidsD (.tuple ds) = ds.drop 1 := by cases ds <;> rfl
theorem ok__law_size (F : Fun K "_law_size" "_law_size" s__law_size f fd) (B : BI mg) (hg : mg "_law_size" = some (.ref f)) : ∀ n : Nat, FnOk P w K mg base CX0 (n + 1) f fd ["tree"] (spD K (f1 (g_law_size n)))
  | 0 => F.ok sc__law_size (fun vs H Q E h => len_f1 h) (fun cdv A outer s H vs Q E hr h => go1 h fun F0 a x d sm ra e ev q => by
    have e' : (if tupT 0 a then some (PyData.int (sizeT a)) else none) = some d := e
    rw [if_neg (by intro z; cases z)] at e'
    cases e')
  | n + 1 => by
    have c__law_size : Cal P w K mg base (n + 1) "_law_size" (spD K (f1 (g_law_size n))) [] := mkCal (ok__law_size F B hg n) hg F.kp (F.binds fun _ _ _ _ _ _ us hl => match us, hl with | [_], _ => rfl)
    refine F.ok sc__law_size (fun vs H Q E h => len_f1 h) (fun cdv A outer s H vs Q E hr h => go1 h fun F0 a x d sm ra e ev q => ?_)
    subst ev
    have e' : (if tupT (n + 1) a then some (PyData.int (sizeT a)) else none) = some d := e
    split at e'
    case isFalse => cases e'
    rename_i ht
    cases e'
    refine ⟨_, (pss_one (ps_ret (pe_op (op_add) pe_int (pe_callB (r := rSum K) (cr_sum rfl) (by rfl) B.sum (by decide +kernel) (pa_cons (pe_lc (own := [("child", 1)]) (g := (gName 1)) rfl sc__law_size.nd (pi_tup (pe_slice (r := rSlA K) sl_tupA (pv 0) (po_some pe_int) po_none)) (blkOk_by (own := [("child", 1)]) (N := ["tree", "child"]) (sc := defScope s__law_size) (by decide +kernel)) (fun _ _ _ _ _ => (pg_name (i := 1) sc__law_size.nd rfl (Or.inl rfl) (hf := (Or.inr rfl)))) (fun _ _ _ _ _ => pts_nil) (fun _ _ _ _ _ => (pe_c c__law_size hr (by first | decide | omega) (by rfl) (pa_cons (pv 1) pa_nil)))) pa_nil))))), ?_⟩
    cases a with
    | tuple ds =>
      have ht' : (decide (ds.length ≤ 100) && (ds.drop 1).all (tupT n)) = true := ht
      rw [Bool.and_eq_true, decide_eq_true_iff] at ht'
      have q1 := ev_lc (K := K) (σ := start ["tree", "child"] [x]) (F := F0) (te := tCall (spD K (f1 (g_law_size n))) [] C8.E0 (tCons (tVar 1) tNil)) (tt := tYes) (g := gName 1) (vs := [1]) (fun _ => true) (fun d => .int (sizeT d)) (ds := ds.drop 1) (ew_tup ((ev_sl (ev_var (i := 0) ⟨x, rfl, ra⟩) (eo_some (i := 1) ev_int) eo_none rs_tup).is (by rw [show (1 : Int) = ((1 : Nat) : Int) from rfl, cut_from]))) (small1000 (by rw [List.length_drop]; omega)) fun d F' hd sF => by
        refine tk_name.imp fun σ2 hσ => ?_
        obtain ⟨v, rfl, rv⟩ := hσ
        exact ⟨rfl, eb_yes, fun _ => ev_call (ea_cons (ev_var (i := 1) ⟨v, rfl, rv⟩) ea_nil) (if_pos (List.all_eq_true.mp ht'.2 d hd))⟩
      rw [made_map, show (ds.drop 1).map (fun d => PyData.int (sizeT d)) = ((ds.drop 1).map fun d => ((sizeT d : Nat) : Int)).map .int by rw [List.map_map]; rfl] at q1
      refine (r_ret ((ev_op (ev_int (i := 1)) (ev1 q1 rc_sum) (rv_int (g := fun i j => i + j))).is (congrArg PyData.int ?_)) : Ret K _ _ F0 (.int (sizeT (.tuple ds)))) H sm _ q
      rw [sizes_sum, size_kids, kids_drop]
      omega
    | _ => cases ht
end
end Sx
set_option Elab.async false
set_option linter.all false
set_option maxRecDepth 100000
set_option maxHeartbeats 4000000
set_option exponentiation.threshold 3000
namespace Sx
open PySem PySem.Spec PyProof.Rows L2
open C8 (Cal pe_c pe_gc)
section
variable {P : Program} {w : World} {K : PySem.W.Frag} {mg : Str → Option Value} {base : Heap} {f : Addr} {fd : FuncData} {aK CK CN CS : Addr}
/-! ### _law_pick of a list or a tuple -/
def spPickS (K : PySem.W.Frag) : Sp := fun vs H Q _ => ∃ F a l c n y ds, Same F H ∧ F a = none ∧ F l = none ∧ vs = [.ref a, y] ∧ (Dq K F y (.list ds) ∨ Dq K F y (.tuple ds)) ∧ 1 ≤ ds.length ∧ ds.length ≤ 1000 ∧ DrawAt H a l c n ∧ n ≤ 2 ^ 40 ∧
  ∀ d v H', d ∈ ds → Dq K F v d → Keeps a l H H' → DrawAt H' a l c (n + 1) → Q v H'
theorem ok__law_pickS (F : Fun K "_law_pick" "_law_pick" s__law_pick f fd) (B : BI mg) (c__law_take : Cal P w K mg base 2 "_law_take" spTake []) : FnOk P w K mg base CX0 3 f fd ["draw", "some"] (spPickS K) := by
  refine F.ok sc__law_pick (fun vs H Q E h => by obtain ⟨_, a, _, _, _, y, _, _, _, _, e, _⟩ := h; rw [e]; rfl) (fun cdv A outer s H vs Q E hr h => ?_)
  obtain ⟨F0, a, l, c, n, y, ds, sm, na, nl, ev, ra, hd1, hd2, D, hn, q⟩ := h
  subst ev
  refine ⟨_, (pss_one (ps_ret (pe_ix (r := rIx K) ix_seq (pv 1) (pe_c c__law_take hr (by first | decide | omega) (by rfl) (pa_cons (pv 0) (pa_cons (pe_callB (r := rLen0 K) (call_len) (by rfl) B.len (by decide +kernel) (pa_cons (pv 1) pa_nil)) pa_nil))) (fun _ _ => rfl)))), ?_⟩
  obtain ⟨ws, cs, rest, turn, D, h0, h1⟩ := D
  rcases ra with ra | ra
  · cases ra with
    | lst ha hv =>
      rename_i p vs
      refine ⟨.ref p, rfl, .ref a, rfl, ev1 (K := K) (F := F0) (ev_var (i := 1) ⟨.ref p, rfl, .lst ha hv⟩) rc_lenL H sm _ fun u F1 H1 g1 r1 => ?_⟩
      cases r1
      refine ⟨a, l, c, n, (ds.length : Int), rfl, ⟨ws, cs, rest, turn, D.same g1.h, h0, h1⟩, hn, by omega, by omega, fun i H2 hi k2 D2 => ?_⟩
      have hi' : i < ds.length := by omega
      obtain ⟨v, hv1, hv2⟩ := hv.get (List.getElem?_eq_getElem hi')
      have kk := (Keeps.of (a := a) (l := l) g1.h).trans k2
      exact .inl ⟨p, vs, (i : Int), v, rfl, rfl, (kk.same sm na nl).seq ha, atI_nat hv1, q _ v H2 (List.getElem_mem hi') hv2 kk D2⟩
  · cases ra with
    | tup ha hv =>
      rename_i p vs
      refine ⟨.ref p, rfl, .ref a, rfl, ev1 (K := K) (F := F0) (ev_var (i := 1) ⟨.ref p, rfl, .tup ha hv⟩) rc_lenT H sm _ fun u F1 H1 g1 r1 => ?_⟩
      cases r1
      refine ⟨a, l, c, n, (ds.length : Int), rfl, ⟨ws, cs, rest, turn, D.same g1.h, h0, h1⟩, hn, by omega, by omega, fun i H2 hi k2 D2 => ?_⟩
      have hi' : i < ds.length := by omega
      obtain ⟨v, hv1, hv2⟩ := hv.get (List.getElem?_eq_getElem hi')
      have kk := (Keeps.of (a := a) (l := l) g1.h).trans k2
      exact .inr (.inl ⟨p, vs, (i : Int), v, rfl, rfl, same_seqT (kk.same sm na nl) ha, atI_nat hv1, q _ v H2 (List.getElem_mem hi') hv2 kk D2⟩)
end
end Sx
set_option Elab.async false
set_option linter.all false
set_option maxRecDepth 100000
set_option maxHeartbeats 4000000
set_option exponentiation.threshold 3000
namespace Sx
open PySem PySem.Spec PyProof.Rows L2
open C8 (Cal pe_c pe_gc)
/-- nothing but three things has changed -/
def Keeps3 (a l e : Addr) (H H' : Hp) : Prop := ∀ b o, b ≠ a → b ≠ l → b ≠ e → H b = some o → H' b = some o
theorem Keeps3.trans {a l e : Addr} {H1 H2 H3 : Hp} (x : Keeps3 a l e H1 H2) (y : Keeps3 a l e H2 H3) : Keeps3 a l e H1 H3 := fun b o h1 h2 h3 k => y b o h1 h2 h3 (x b o h1 h2 h3 k)
theorem Keeps3.of {a l e : Addr} {H1 H2 : Hp} (s : Same H1 H2) : Keeps3 a l e H1 H2 := fun b o _ _ _ k => s b o k
theorem Keeps3.ofK {a l e : Addr} {H1 H2 : Hp} (s : Keeps a l H1 H2) : Keeps3 a l e H1 H2 := fun b o h1 h2 _ k => s b o h1 h2 k
theorem Keeps3.put {a l e : Addr} {H1 H2 : Hp} {o : HO} (x : Keeps3 a l e H1 H2) : Keeps3 a l e H1 (upd H2 e o) := fun b u h1 h2 h3 k => by
  rw [upd_ne h3]
  exact x b u h1 h2 h3 k
theorem Keeps3.same {a l e : Addr} {F H H' : Hp} (x : Keeps3 a l e H H') (s : Same F H) (ha : F a = none) (hl : F l = none) (he : F e = none) : Same F H' := fun b o k => x b o (ne_of_none k ha) (ne_of_none k hl) (ne_of_none k he) (s b o k)
theorem Keeps3.other {a l e b : Addr} {H H' : Hp} {o : HO} (k : Keeps3 a l e H H') (hb : H b = none) : Keeps3 a l e H (upd H' b o) := fun x u h1 h2 h3 z => by
  rw [upd_ne (ne_of_none z hb)]
  exact k x u h1 h2 h3 z
theorem Keeps3.free {a l e b : Addr} {H H' : Hp} (k : Keeps3 a l e H H') (ha : b ≠ a) (hl : b ≠ l) (he : b ≠ e) (h : H' b = none) : H b = none := by
  cases z : H b with
  | none => rfl
  | some o =>
    rw [k b o ha hl he z] at h
    cases h
def NewIn (F H G : Hp) : Prop := ∀ a o, G a = some o → F a = none → H a = none
theorem new_step {d l ll : Addr} {F F' G H H' : Hp} (k : Keeps3 d l ll H H') (hF : NewIn F H F') (hG : NewIn F' H' G) (gd : G d = none) (gl : G l = none) (gll : G ll = none) : NewIn F H G := fun a o e n => by
  cases z : F' a with
  | some u => exact hF a u z n
  | none => exact k.free (ne_of_none e gd) (ne_of_none e gl) (ne_of_none e gll) (hG a o e z)
def pot (i : Int) : Int := if i ≤ 1 then 0 else i - 1
theorem pot_mono {i j : Int} (h : i ≤ j) : pot i ≤ pot j := by
  unfold pot
  split <;> split <;> omega
structure Good (m : Nat) (xs : List PyData) (L L' : Int) (t : PyData) : Prop where
  node : allT (rankOf xs) t = true
  dep : depT t ≤ m
  size : ((sizeT t : Nat) : Int) ≤ 1 + 3 * (pot L - pot L')
  le : L' ≤ L
  wt : weight t ≤ 10 * sizeT t
theorem rank_of {xs : List PyData} (h : (xs.map nameD).Nodup) {n : Str} {r : Int} : (PyData.tuple [.str n, .int r]) ∈ xs → rankOf xs n = some r := by
  induction xs with
  | nil => exact fun h => nomatch h
  | cons d xs ih =>
    rw [List.map_cons, List.nodup_cons] at h
    intro hm
    unfold rankOf
    rw [List.find?_cons]
    rcases List.mem_cons.mp hm with e | e
    · subst e
      rw [decide_eq_true (show nameD (.tuple [.str n, .int r]) = n from rfl)]
      rfl
    · have hne : nameD d ≠ n := fun z => h.1 (List.mem_map.mpr ⟨_, e, z.symm⟩)
      rw [decide_eq_false hne]
      exact ih h.2 e
theorem kind_name {xs : List PyData} (h : isKinds (.tuple xs) = true) {n : Str} {r : Int} (hm : (PyData.tuple [.str n, .int r]) ∈ xs) : n.length ≤ 8 := by
  have h' : ((decide (1 ≤ (xs.length : Int)) && decide ((xs.length : Int) ≤ 6)) && (xs.all isKind && (risesD (xs.map fstD) && (xs.map sndD).any isZero))) = true := h
  rw [Bool.and_eq_true, Bool.and_eq_true, Bool.and_eq_true] at h'
  obtain ⟨n', r', e, hn, _⟩ := kind_cases (List.all_eq_true.mp h'.2.1 _ hm)
  cases e
  have hn' : ((decide (1 ≤ (n.length : Int)) && decide ((n.length : Int) ≤ 8)) && (n.cps.toList.all (fun c => decide (c ∈ lettersS.cps.toList)) && !decide (n ∈ keptL))) = true := hn
  rw [Bool.and_eq_true, Bool.and_eq_true, decide_eq_true_iff, decide_eq_true_iff] at hn'
  omega
theorem kinds_leaf {xs : List PyData} (h : isKinds (.tuple xs) = true) : (xs.filter fun d => decide (intD (sndD d) = 0)) ≠ [] := by
  have h' : ((decide (1 ≤ (xs.length : Int)) && decide ((xs.length : Int) ≤ 6)) && (xs.all isKind && (risesD (xs.map fstD) && (xs.map sndD).any isZero))) = true := h
  rw [Bool.and_eq_true, Bool.and_eq_true, Bool.and_eq_true, Bool.and_eq_true] at h'
  obtain ⟨_, _, _, h4⟩ := h'
  obtain ⟨z, hz, e⟩ := List.any_eq_true.mp h4
  obtain ⟨d, hd, rfl⟩ := List.mem_map.mp hz
  refine List.ne_nil_of_mem (List.mem_filter.mpr ⟨hd, decide_eq_true ?_⟩)
  cases hs : sndD d with
  | int i =>
    rw [hs] at e
    exact of_decide_eq_true e
  | _ => rfl
section
variable {P : Program} {w : World} {K : PySem.W.Frag} {mg : Str → Option Value} {base : Heap} {f : Addr} {fd : FuncData} {aK CK CN CS : Addr}
/-! ### _law_tree -/
abbrev s__law_tree : Stmt := top 43
theorem sc__law_tree : FnScope ["draw", "kinds", "left", "leaves", "name", "rank", "pair", "k"] ["draw", "kinds", "left"] (defScope s__law_tree) := ⟨rfl, rfl, rfl, by decide +kernel, rfl, by decide +kernel, by decide +kernel⟩
def spTreeL (K : PySem.W.Frag) (m : Nat) : Sp := fun vs H Q _ => ∃ (F : Hp) (d l c ll : Addr) (n : Nat) (x : V) (xs : List PyData) (L : Int), 1 ≤ m ∧ Same F H ∧ F d = none ∧ F l = none ∧ F ll = none ∧ vs = [.ref d, x, .ref ll] ∧ Dq K F x (.tuple xs) ∧ isKinds (.tuple xs) = true ∧
  H ll = some (.lst [.int L]) ∧ L < (m : Int) ∧ DrawAt H d l c n ∧ ll ≠ d ∧ ll ≠ l ∧ ll ≠ c ∧ n + 4 ^ m ≤ 2 ^ 40 ∧
  ∀ (L' : Int) (v : V) (t : PyData) (G H' : Hp), Good m xs L L' t → Dq K G v t → Same F G → Same G H' → G d = none → G l = none → G ll = none → NewIn F H G → Keeps3 d l ll H H' → H' ll = some (.lst [.int L']) → DrawAt H' d l c (n + 4 ^ m) → Q v H'
theorem ok__law_tree (F : Fun K "_law_tree" "_law_tree" s__law_tree f fd) (B : BI mg) (hg : mg "_law_tree" = some (.ref f)) (c__law_pickS : Cal P w K mg base 3 "_law_pick" (spPickS K) []) : ∀ m : Nat, FnOk P w K mg base CX0 (m + 4) f fd ["draw", "kinds", "left"] (spTreeL K m)
  | 0 => F.ok sc__law_tree (fun vs H Q E h => by obtain ⟨_, d, _, _, ll, _, x, _, _, z, _⟩ := h; omega) (fun cdv A outer s H vs Q E hr h => by obtain ⟨_, d, _, _, ll, _, x, _, _, z, _⟩ := h; omega)
  | m + 1 => by
    have c__law_tree : Cal P w K mg base (m + 4) "_law_tree" (spTreeL K m) [] := mkCal (ok__law_tree F B hg c__law_pickS m) hg F.kp (F.binds fun _ _ _ _ _ _ us hl => match us, hl with | [_, _, _], _ => rfl)
    refine F.ok sc__law_tree (fun vs H Q E h => by obtain ⟨_, d, _, _, ll, _, x, _, _, _, _, _, _, _, e, _⟩ := h; rw [e]; rfl) (fun cdv A outer s H vs Q E hr h => ?_)
    obtain ⟨F0, d, l, c, ll, n, x, xs, L, _, sm, Fd, Fl, Fll, ev, rx, hk, hL, hLm, D, n1, n2, n3, hn, q⟩ := h
    subst ev
    refine ⟨_, (pss_cons (ps_asg (pe_op (op_sub) (pe_ix (r := rIxL K) ix_list (pv 2) pe_int (fun _ _ => rfl)) pe_int) (pg_sub (pv 2) pe_int set_list))
        (pss_cons (ps_setLc (i := 3) (own := [("pair", 6)]) (g := (gName 6)) rfl sc__law_tree.nd rfl rfl (sw_true rfl rfl rfl (by decide +kernel)) (pi_tup (pv 1)) (blkOk_by (own := [("pair", 6)]) (N := ["draw", "kinds", "left", "leaves", "name", "rank", "pair", "k"]) (sc := defScope s__law_tree) (by decide +kernel)) (fun _ _ _ _ _ => (pg_name (i := 6) sc__law_tree.nd rfl (Or.inl rfl) (hf := (Or.inr rfl)))) (fun _ _ _ _ _ => (pts_one (pt_cmpR (op_eq) (pe_ix (r := rIxT K) ix_tup (pv 6) pe_int (fun _ _ => rfl)) pe_int (nomark _)))) (fun _ _ _ _ _ => (pv 6)))
        (pss_cons (ps_asg (pe_c c__law_pickS hr (by first | decide | omega) (by rfl) (pa_cons (pv 0) (pa_cons (pe_ifExp (pt_cmpR (op_le) (pe_ix (r := rIxL K) ix_list (pv 2) pe_int (fun _ _ => rfl)) pe_int (nomark _)) (pv 3) (pv 1)) pa_nil))) (pg_tup rfl (pgs_cons (pg_name (i := 4) sc__law_tree.nd rfl (Or.inl rfl) (hf := (Or.inr rfl))) (pgs_cons (pg_name (i := 5) sc__law_tree.nd rfl (Or.inl rfl) (hf := (Or.inr rfl))) pgs_nil))))
        (pss_one (ps_ret (pe_op (r := rCatA K) op_catA (pe_tup (pa_cons (pv 4) pa_nil)) (pe_tupleOf (by rfl) B.tuple (pe_lc (own := [("k", 7)]) (g := (gName 7)) rfl sc__law_tree.nd (pi_range1 (by rfl) B.range (pa_cons (pv 5) pa_nil)) (blkOk_by (own := [("k", 7)]) (N := ["draw", "kinds", "left", "leaves", "name", "rank", "pair", "k"]) (sc := defScope s__law_tree) (by decide +kernel)) (fun _ _ _ _ _ => (pg_name (i := 7) sc__law_tree.nd rfl (Or.inl rfl) (hf := (Or.inr rfl)))) (fun _ _ _ _ _ => pts_nil) (fun _ _ _ _ _ => (pe_c c__law_tree hr (by first | decide | omega) (by rfl) (pa_cons (pv 0) (pa_cons (pv 1) (pa_cons (pv 2) pa_nil))))))))))))), ?_⟩
    have hp4 : 1 ≤ 4 ^ m := Nat.pos_of_ne_zero (by intro z; exact absurd (Nat.pow_eq_zero.mp z).1 (by decide))
    have hp5 : 4 ^ (m + 1) = 4 * 4 ^ m := by rw [Nat.pow_succ, Nat.mul_comm]
    obtain ⟨h6, hx⟩ := kinds_ranks hk
    have hnd := kinds_nodup hk
    -- left[0] = left[0] - 1
    refine now_ixL (K := K) (k := 0) (now_var rfl) (.inl (.inl hL)) now_c rfl _ ⟨L, 1, rfl, rfl, ?_⟩
    refine ⟨.ref ll, rfl, ⟨ll, _, 0, 0, rfl, rfl, hL, rfl, ?_⟩⟩
    dsimp only
    show tSeq _ _ _ _ (upd H ll (.lst [.int (L - 1)]))
    have s1 : Same F0 (upd H ll (.lst [.int (L - 1)])) := same_own sm Fll
    have e1 : upd H ll (.lst [.int (L - 1)]) ll = some (.lst [.int (L - 1)]) := upd_same
    have k1 : Keeps3 d l ll H (upd H ll (.lst [.int (L - 1)])) := (Keeps3.of (Same.refl H)).put
    have D1 : DrawAt (upd H ll (.lst [.int (L - 1)])) d l c n := D.other ⟨n1, n2, n3⟩
    generalize upd H ll (.lst [.int (L - 1)]) = H1 at s1 e1 k1 D1
    -- leaves
    have q1 := ev_lc (K := K) (σ := start ["draw", "kinds", "left", "leaves", "name", "rank", "pair", "k"] [.ref d, x, .ref ll]) (F := F0) (te := tVar 6) (tt := tTest (tOp rEq (tOp (rIxT K) (tVar 6) (tC (.int 1))) (tC (.int 0)))) (g := gName 6) (vs := [6]) (fun d => decide (intD (sndD d) = 0)) (fun d => d) (ds := xs) (ew_tup (ev_var (i := 1) ⟨x, rfl, rx⟩)) (small1000 (by omega)) fun dd F' hd sF => by
      obtain ⟨nm, r, rfl, h0, h3⟩ := hx dd hd
      refine tk_name.imp fun σ2 hσ => ?_
      obtain ⟨v, rfl, rv⟩ := hσ
      exact ⟨rfl, eb_test (ev_op (ev_op (ev_var (i := 6) ⟨v, rfl, rv⟩) ev_int (rv_ixT (k := 1) (d := .int r) rfl)) (ev_int (i := 0)) rv_eqI), fun _ => ev_var (i := 6) ⟨v, rfl, rv⟩⟩
    have em : made (fun d => decide (intD (sndD d) = 0)) (fun d => d) xs = xs.filter fun d => decide (intD (sndD d) = 0) := by
      unfold made
      exact List.map_id' _
    rw [em] at q1
    refine s_set (K := K) q1 s1 fun v3 F2 H2 g2 r3 => ?_
    have D2 := D1.same g2.h
    obtain ⟨F2d, F2l⟩ := D1.frees g2 Fd Fl
    have F2ll : F2 ll = none := free_grow g2 Fll e1
    have e2 := g2.h _ _ e1
    have k2 : Keeps3 d l ll H H2 := k1.trans (.of g2.h)
    have rx2 := rx.up g2.f
    have N2 : NewIn F0 H F2 := new_step k1 (fun a o e z => by rw [z] at e; cases e) g2.n F2d F2l F2ll
    -- the pick
    have pick : ∀ (y : V) (ds : List PyData) (Q : L2.St → Hp → Prop), (Dq K F2 y (.list ds) ∨ Dq K F2 y (.tuple ds)) → (∀ e ∈ ds, e ∈ xs ∧ (L - 1 ≤ 0 → intD (sndD e) = 0)) → ds ≠ [] → ds.length ≤ 6 →
        (∀ (nm : Str) (r : Int) (H3 : Hp), (PyData.tuple [.str nm, .int r]) ∈ xs → (L - 1 ≤ 0 → r = 0) → Keeps d l H2 H3 → DrawAt H3 d l c (n + 1) → Q [some (.ref d), some x, some (.ref ll), some v3, some (.str nm), some (.int r), none, none] H3) →
        spPickS K [.ref d, y] H2 (fun v H' => gTup K 2 (gCons (gName 4) (gCons (gName 5) gNil)) v [some (.ref d), some x, some (.ref ll), some v3, none, none, none, none] H' Q) C8.E0 := fun y ds Q hy hds hne hlen hQ => by
      refine ⟨F2, d, l, c, n, y, ds, g2.i, F2d, F2l, rfl, hy, List.length_pos_iff.mpr hne, by omega, D2, by omega, fun e v H' he hv k' D' => ?_⟩
      obtain ⟨hex, h0⟩ := hds e he
      obtain ⟨nm, r, rfl, _, _⟩ := hx e hex
      refine tk_two v H' (k'.same g2.i F2d F2l) hv _ fun σ2 hσ => ?_
      obtain ⟨u1, u2, rfl, ru1, ru2⟩ := hσ
      cases ru1
      cases ru2
      exact hQ nm r H' hex h0 k' D'
    have xne : xs ≠ [] := fun z => kinds_leaf hk (by rw [z]; rfl)
    -- what follows
    have rest : ∀ (nm : Str) (r : Int) (H3 : Hp), (PyData.tuple [.str nm, .int r]) ∈ xs → (L - 1 ≤ 0 → r = 0) → Keeps d l H2 H3 → DrawAt H3 d l c (n + 1) →
        tRet (tOp (rCatA K) (tTup (tCons (tVar 4) tNil)) (tThen (tLc (iRng1 (tCons (tVar 5) tNil)) (gName 7) tYes (tCall (spTreeL K m) [] C8.E0 (tCons (tVar 0) (tCons (tVar 1) (tCons (tVar 2) tNil)))) [7]) (kTup K))) { nx := fun x H' => Q V.non H', rt := Q } [some (.ref d), some x, some (.ref ll), some v3, some (.str nm), some (.int r), none, none] H3 := fun nm r H3 hmem hr0 k3 D3 => by
      obtain ⟨_, _, e0, r0, r3'⟩ := hx _ hmem
      cases e0
      have s3 : Same F2 H3 := k3.same g2.i F2d F2l
      have e3 : H3 ll = some (.lst [.int (L - 1)]) := k3 _ _ n1 n2 e2
      refine ⟨.str nm, rfl, (by show 1 ≤ sizeLine; decide), fun p hp => ?_⟩
      have fp := D3.fresh hp
      have pll : ll ≠ p := fun z => by rw [z, hp] at e3; cases e3
      have g4 : Grow F2 H3 (upd F2 p (.tup [.str nm])) (upd H3 p (.tup [.str nm])) := .known s3 hp
      have rp : Dq K (upd F2 p (.tup [.str nm])) (.ref p) (.tuple [.str nm]) := .tup (.inl (.inl upd_same)) (.cons (.str nm) .nil)
      have D4 : DrawAt (upd H3 p (.tup [.str nm])) d l c (n + 1) := D3.other fp
      have e4 : upd H3 p (.tup [.str nm]) ll = some (.lst [.int (L - 1)]) := upd_at pll e3
      obtain ⟨F4d, F4l⟩ := D3.frees g4 F2d F2l
      have F4ll : upd F2 p (.tup [.str nm]) ll = none := by rw [upd_ne pll]; exact F2ll
      have k4 : Keeps3 d l ll H (upd H3 p (.tup [.str nm])) := (k2.trans (.ofK k3)).trans (.of (same_upd hp))
      have N4 : NewIn F0 H (upd F2 p (.tup [.str nm])) := new_step (k2.trans (.ofK k3)) N2 g4.n F4d F4l F4ll
      generalize upd F2 p (.tup [.str nm]) = F4 at g4 rp F4d F4l F4ll N4
      generalize upd H3 p (.tup [.str nm]) = H4 at g4 D4 e4 k4
      refine ⟨.int r, rfl, r, rfl, by omega, by omega, fun Dd hD => ?_⟩
      have fD := D4.fresh hD
      have dll : Dd ≠ ll := fun z => by rw [z, e4] at hD; cases hD
      have hD0 : H Dd = none := k4.free fD.1 fD.2.1 dll hD
      refine ⟨fun i k H6 => k = r.toNat - i ∧ i ≤ r.toNat ∧ ∃ (ts : List PyData) (acc : List V) (Lc : Int) (G : Hp), ts.length = i ∧ H6 Dd = some (.lst acc) ∧ DqAll K G acc ts ∧ allsT (rankOf xs) ts = true ∧ depsT ts ≤ m ∧ ((sizesT ts : Nat) : Int) ≤ (i : Int) + 3 * (pot (L - 1) - pot Lc) ∧ Lc ≤ L - 1 ∧ weights ts ≤ 10 * sizesT ts ∧ H6 ll = some (.lst [.int Lc]) ∧ Same F4 G ∧ Same G H6 ∧ G d = none ∧ G l = none ∧ G ll = none ∧ G Dd = none ∧ NewIn F0 H G ∧ Keeps3 d l ll H H6 ∧ DrawAt H6 d l c (n + 1 + i * 4 ^ m),
        ⟨r.toNat, by simp, Nat.zero_le _, [], [], L - 1, F4, rfl, upd_same, .nil, rfl, Nat.zero_le _, by simp [sizesT], Int.le_refl _, Nat.zero_le _, upd_at dll.symm e4, Same.refl _, g4.i.trans (same_upd hD), F4d, F4l, F4ll, g4.i.free hD, N4, k4.other hD0, by rw [Nat.zero_mul]; exact D4.other fD⟩, fun i k H6 hW => ?_⟩
      obtain ⟨rfl, hi, ts, acc, Lc, G, tl, o6, racc, a1, a2, a3, a4, a5, e6, sG, sH, Gd, Gl, Gll, GD, NG, k6, D6⟩ := hW
      by_cases hlt : i < r.toNat
      · have hL2 : ¬ L - 1 ≤ 0 := fun z => by have := hr0 z; omega
        have him : i * 4 ^ m ≤ 2 * 4 ^ m := Nat.mul_le_mul_right _ (by omega)
        refine .inr ⟨hlt, fun H6 => ∃ (ts : List PyData) (acc : List V) (Lc : Int) (G : Hp), ts.length = i + 1 ∧ H6 Dd = some (.lst acc) ∧ DqAll K G acc ts ∧ allsT (rankOf xs) ts = true ∧ depsT ts ≤ m ∧ ((sizesT ts : Nat) : Int) ≤ ((i + 1 : Nat) : Int) + 3 * (pot (L - 1) - pot Lc) ∧ Lc ≤ L - 1 ∧ weights ts ≤ 10 * sizesT ts ∧ H6 ll = some (.lst [.int Lc]) ∧ Same F4 G ∧ Same G H6 ∧ G d = none ∧ G l = none ∧ G ll = none ∧ G Dd = none ∧ NewIn F0 H G ∧ Keeps3 d l ll H H6 ∧ DrawAt H6 d l c (n + 1 + (i + 1) * 4 ^ m), fun H7 h7 => ⟨r.toNat - (i + 1), by omega, rfl, hlt, h7⟩, fun v Hx hy => ?_⟩
        obtain ⟨rfl, rfl⟩ := hy
        refine ⟨rfl, yes_then ?_⟩
        refine ⟨.ref d, rfl, x, rfl, .ref ll, rfl, G, d, l, c, ll, n + 1 + i * 4 ^ m, x, xs, Lc, by omega, sH, Gd, Gl, Gll, rfl, (rx2.up g4.f).up sG, hk, e6, by omega, D6, n1, n2, n3, by omega, fun L' v' t G' H8 good rv' sG' sH' G'd G'l G'll N8 k8 e8 D8 => ?_⟩
        have o8 := k8 _ _ fD.1 fD.2.1 dll o6
        have la := racc.len
        have G'D : G' Dd = none := by
          cases z : G' Dd with
          | none => rfl
          | some u =>
            have := N8 Dd u z GD
            rw [o6] at this
            cases this
        refine ⟨acc, o8, by rw [la, tl]; exact small1000 (by omega), ts ++ [t], acc ++ [v'], L', G', by rw [List.length_append, tl]; rfl, upd_same, (racc.up sG').app (.cons rv' .nil), ?_, ?_, ?_, ?_, ?_, upd_at dll.symm e8, sG.trans sG', same_own sH' G'D, G'd, G'l, G'll, G'D, new_step k6 NG N8 G'd G'l G'll, (k6.trans k8).other hD0, ?_⟩
        · rw [alls_app, a1]
          simp only [allsT, good.node, Bool.and_true]
        · rw [deps_app]
          simp only [depsT]
          have := good.dep
          omega
        · rw [sizes_app]
          simp only [sizesT]
          have h1 := good.size
          rw [Int.natCast_add, Int.natCast_add, Nat.add_zero]
          omega
        · have := good.le
          omega
        · rw [weights_app, sizes_app]
          simp only [weights, sizesT]
          have := good.wt
          omega
        · rw [show n + 1 + (i + 1) * 4 ^ m = n + 1 + i * 4 ^ m + 4 ^ m by rw [Nat.succ_mul]; omega]
          exact D8.other fD
      · have ei : i = r.toNat := by omega
        refine .inl ⟨by show r.toNat ≤ i; omega, .inl ⟨_, _, rfl, .inl (.inl o6), fun t ht => ?_⟩⟩
        have g7 : Grow G H6 (upd G t (.tup acc)) (upd H6 t (.tup acc)) := .known sH ht
        have rt : Dq K (upd G t (.tup acc)) (.ref t) (.tuple ts) := .tup (.inl (.inl upd_same)) (racc.up (same_upd (sH.free ht)))
        refine rv_catT (K := K) (ds := [.str nm]) (es := ts) (by rw [tl]; exact Nat.le_of_lt (small1000 (by show 1 + i ≤ 1000; omega))) (upd G t (.tup acc)) (.ref p) (.ref t) _ g7.i ((rp.up sG).up g7.f) rt _ fun v F8 H8 g8 r8 => ?_
        have gg := g7.trans g8
        obtain ⟨F8d, F8l⟩ := D6.frees gg Gd Gl
        have F8ll : F8 ll = none := free_grow gg Gll e6
        have hr1 : rankOf xs nm = some r := rank_of hnd hmem
        have hnl := kind_name hk hmem
        have hnode : isNode (rankOf xs) (.tuple (.str nm :: ts)) = true := by
          show (match rankOf xs nm with | some r => decide ((ts.length : Int) + 1 = r + 1) | none => false) = true
          rw [hr1]
          exact decide_eq_true (by omega)
        refine q Lc v (.tuple ([.str nm] ++ ts)) F8 H8 ⟨?_, ?_, ?_, ?_, ?_⟩ r8 (((g2.f.trans g4.f).trans sG).trans gg.f) g8.i F8d F8l F8ll (new_step k6 NG gg.n F8d F8l F8ll) (k6.trans (.of gg.h)) (gg.h _ _ e6) ((D6.same gg.h).more ?_)
        · rw [all_kids, show ([PyData.str nm] ++ ts) = .str nm :: ts from rfl, hnode]
          exact a1
        · rw [dep_kids]
          show 1 + depsT ts ≤ m + 1
          omega
        · rw [size_kids]
          show ((1 + sizesT ts : Nat) : Int) ≤ _
          rw [Int.natCast_add]
          have hm1 := pot_mono a4
          have hm2 : pot (L - 1) ≤ pot L := pot_mono (by omega)
          by_cases hz : r = 0
          · have : ts = [] := List.eq_nil_of_length_eq_zero (by rw [tl, ei, hz]; rfl)
            rw [this]
            show ((1 : Nat) : Int) + 0 ≤ _
            omega
          · have hL2 : ¬ L - 1 ≤ 0 := fun z => hz (hr0 z)
            have e5 : pot L = pot (L - 1) + 1 := by
              unfold pot
              split <;> split <;> omega
            omega
        · omega
        · show weight (.tuple (.str nm :: ts)) ≤ 10 * sizeT (.tuple (.str nm :: ts))
          rw [size_kids]
          simp only [weight, weights]
          show 1 + (1 + nm.length + weights ts) ≤ 10 * (1 + sizesT ts)
          omega
        · have : i * 4 ^ m ≤ 3 * 4 ^ m := Nat.mul_le_mul_right _ (by omega)
          omega
    refine ⟨.ref d, rfl, ?_⟩
    show tCons (tIf _ _ _) tNil _ _ _
    refine cons_one ?_
    refine now_ixL (K := K) (k := 0) (now_var rfl) (.inl (.inl e2)) now_c rfl _ ⟨L - 1, 0, rfl, rfl, _, rfl, ?_⟩
    dsimp only
    by_cases hL0 : L - 1 ≤ 0
    · rw [if_pos (decide_eq_true hL0)]
      refine ⟨v3, rfl, pick v3 _ _ (.inl r3) (fun e he => ⟨(List.mem_filter.mp he).1, fun _ => of_decide_eq_true (List.mem_filter.mp he).2⟩) (kinds_leaf hk) (Nat.le_trans (List.length_filter_le _ _) h6) fun nm r H3 h1 h2 h3 h4 => rest nm r H3 h1 h2 h3 h4⟩
    · rw [if_neg (fun z => hL0 (of_decide_eq_true z))]
      refine ⟨x, rfl, pick x _ _ (.inr rx2) (fun e he => ⟨he, fun z => absurd z hL0⟩) xne h6 fun nm r H3 h1 h2 h3 h4 => rest nm r H3 h1 h2 h3 h4⟩
end
end Sx
set_option Elab.async false
set_option linter.all false
set_option maxRecDepth 100000
set_option maxHeartbeats 4000000
set_option exponentiation.threshold 3000
namespace Sx
open PySem PySem.Spec PyProof.Rows L2
open C8 (Cal pe_c pe_gc)
theorem new_two {d l : Addr} {F F' G H H' : Hp} (k : Keeps d l H H') (hF : NewIn F H F') (hG : NewIn F' H' G) (gd : G d = none) (gl : G l = none) : NewIn F H G := new_step (Keeps3.ofK (e := l) k) hF hG gd gl gl
theorem new_refl {F H : Hp} : NewIn F H F := fun a o e z => by rw [z] at e; cases e
theorem get_snoc {α : Type} {l : List α} {x : α} {j : Nat} {y : α} (h : (l ++ [x])[j]? = some y) : l[j]? = some y ∨ (j = l.length ∧ y = x) := by
  by_cases hj : j < l.length
  · rw [List.getElem?_append_left hj] at h
    exact .inl h
  · rw [List.getElem?_append_right (by omega)] at h
    have : j - l.length = 0 := by
      cases z : j - l.length with
      | zero => rfl
      | succ k => rw [z] at h; cases h
    rw [this] at h
    exact .inr ⟨by omega, (Option.some.inj h).symm⟩
/-- a list whose items are drawn, one behind the other -/
theorem lc_draw {K : PySem.W.Frag} {σ : L2.St} {F H : Hp} {d l c : Addr} {n0 B : Nat} {wi : TI} {g : TG} {te : TE} {vs : List Nat} {ds : List PyData} {Q : VK} (E : Nat → PyData → Prop) (hw : EvW K wi σ F ds) (s : Same F H) (Fd : F d = none) (Fl : F l = none) (D : DrawAt H d l c n0) (hl : ds.length < sizeLine)
    (hT : ∀ (i : Nat) (dd : PyData) (v : V) (G H' : Hp) (R : V → Hp → Prop) (N0 : Hp → Prop), ds[i]? = some dd → Same F G → Same G H' → G d = none → G l = none → DrawAt H' d l c (n0 + i * B) → Dq K G v dd →
      (∀ (x : V) (e : PyData) (G' H3 : Hp), E i e → Dq K G' x e → Same G G' → Same G' H3 → G' d = none → G' l = none → NewIn G H' G' → Keeps d l H' H3 → DrawAt H3 d l c (n0 + i * B + B) → R x H3) →
      g v (wipe σ vs) H' fun σ2 H2 => wipe σ2 vs = wipe σ vs ∧ tYes σ2 H2 fun b H3 => if b = true then te σ2 H3 R else N0 H3)
    (q : ∀ (L : Addr) (acc : List V) (es : List PyData) (G H' : Hp), H L = none → H' L = some (.lst acc) → DqAll K G acc es → es.length = ds.length → (∀ i e, es[i]? = some e → E i e) → Same F G → Same G H' → G d = none → G l = none → G L = none → NewIn F H G → Keeps d l H H' → DrawAt H' d l c (n0 + ds.length * B) → Q (.ref L) H') :
    tLc wi g tYes te vs σ H Q := hw H s _ fun J F1 H1 g1 wk => by
  intro L hL
  obtain ⟨F1d, F1l⟩ := D.frees g1 Fd Fl
  have D1 := D.same g1.h
  have fL := D1.fresh hL
  have hL0 : H L = none := g1.h.free hL
  refine ⟨fun i m H6 => m = ds.length - i ∧ i ≤ ds.length ∧ ∃ (acc : List V) (es : List PyData) (G : Hp), H6 L = some (.lst acc) ∧ DqAll K G acc es ∧ es.length = i ∧ (∀ j e, es[j]? = some e → E j e) ∧ Same F1 G ∧ Same G H6 ∧ G d = none ∧ G l = none ∧ G L = none ∧ NewIn F H G ∧ Keeps d l H H6 ∧ DrawAt H6 d l c (n0 + i * B),
    ⟨ds.length, by simp, Nat.zero_le _, [], [], F1, upd_same, .nil, rfl, (fun j e z => by simp at z), Same.refl _, g1.i.trans (same_upd hL), F1d, F1l, g1.i.free hL, fun a o e z => g1.n a o e z, (Keeps.of g1.h).other hL0, by rw [Nat.zero_mul]; exact D1.other fL⟩, fun i m H6 hW => ?_⟩
  obtain ⟨rfl, hi, acc, es, G, eL, racc, el, hE, sG, sH, Gd, Gl, GL, NG, k6, D6⟩ := hW
  have wk2 := wk.up sG
  by_cases hlt : i < ds.length
  · have hd : ds[i]? = some ds[i] := List.getElem?_eq_getElem hlt
    obtain ⟨go, yl⟩ := (wk2 i H6 sH).1 _ hd
    refine .inr ⟨go, fun H6 => ∃ (acc : List V) (es : List PyData) (G : Hp), H6 L = some (.lst acc) ∧ DqAll K G acc es ∧ es.length = i + 1 ∧ (∀ j e, es[j]? = some e → E j e) ∧ Same F1 G ∧ Same G H6 ∧ G d = none ∧ G l = none ∧ G L = none ∧ NewIn F H G ∧ Keeps d l H H6 ∧ DrawAt H6 d l c (n0 + (i + 1) * B), fun H7 h7 => ⟨ds.length - (i + 1), by show ds.length - (i + 1) < ds.length - i; omega, rfl, hlt, h7⟩, fun x H7 hy => ?_⟩
    obtain ⟨F7, g7, rx⟩ := yl x H7 hy
    obtain ⟨F7d, F7l⟩ := D6.frees g7 Gd Gl
    have eL7 := g7.h _ _ eL
    have F7L : F7 L = none := free_grow g7 GL eL
    refine hT i ds[i] x F7 H7 _ _ hd ((g1.f.trans sG).trans g7.f) g7.i F7d F7l (D6.same g7.h) rx fun y e G' H3 he ry sG' sH3 G'd G'l N3 k3 D3 => by
        have eL3 := k3 _ _ fL.1 fL.2.1 eL7
        have G'L : G' L = none := by
          cases z : G' L with
          | none => rfl
          | some u =>
            have := N3 L u z F7L
            rw [eL7] at this
            cases this
        have la := racc.len
        have k37 : Keeps d l H H3 := (k6.trans (.of g7.h)).trans k3
        refine ⟨acc, eL3, by omega, acc ++ [y], es ++ [e], G', upd_same, (racc.up (g7.f.trans sG')).app (.cons ry .nil), by rw [List.length_append, el]; rfl, fun j e' hj => ?_, (sG.trans g7.f).trans sG', same_own sH3 G'L, G'd, G'l, G'L, ?_, k37.other hL0, ?_⟩
        · rcases get_snoc hj with h | ⟨h1, h2⟩
          · exact hE j e' h
          · rw [h1, el, h2]
            exact he
        · exact new_two (k6.trans (.of g7.h)) (new_two k6 NG g7.n F7d F7l) N3 G'd G'l
        · rw [show n0 + (i + 1) * B = n0 + i * B + B by rw [Nat.succ_mul]; omega]
          exact D3.other fL
  · have ei : i = ds.length := by omega
    subst ei
    exact .inl ⟨(wk2 _ H6 sH).2 rfl, q L acc es G H6 hL0 eL racc el hE (g1.f.trans sG) sH Gd Gl GL NG k6 D6⟩
end Sx
set_option Elab.async false
set_option linter.all false
set_option maxRecDepth 100000
set_option maxHeartbeats 4000000
set_option exponentiation.threshold 3000
namespace Sx
open PySem PySem.Spec PyProof.Rows L2
open C8 (Cal pe_c pe_gc)
theorem ev_listRg {K : PySem.W.Frag} {σ : L2.St} {F : Hp} {te : TE} {n : Nat} (h : EvD K te σ F (.int (n : Int))) (hn : n ≤ 1000) : EvD K (tLstRg (tRg1 te)) σ F (.list (rgs 0 n)) := fun H s Q q => h H s _ fun v F1 H1 g r => by
  cases r
  refine ⟨(n : Int), rfl, RgOk.of_le (by decide) (by omega) (by decide) (by omega), fun p hp => q _ _ _ (g.trans (.known g.i hp)) (.lst (.inl (.inl upd_same)) ?_)⟩
  unfold rgV rgs
  rw [Int.sub_zero, Int.toNat_natCast]
  have : ∀ (F : Hp) (l : List Nat), DqAll K F (l.map fun (i : Nat) => V.int (0 + (i : Int))) (l.map fun (i : Nat) => PyData.int (0 + (i : Int))) := fun F l => by
    induction l with
    | nil => exact .nil
    | cons a l ih => exact .cons (.int _) ih
  exact this _ _
theorem pe_tupleOfK {X : Cx} {K : PySem.W.Frag} {a : Expr} {ta : TE} {p pos : Pos} (hg : Gl X "tuple") (hm : X.mg "tuple" = none) (ha : PE X a ta) (hK : X.K = K := by rfl) (na : starEach [a] X.env = (false, eval a X.env) :: starEach [] X.env := by rfl) :
    PE X (.Call (.Name "tuple" p) [a] [] pos) (tThen ta (kTup K)) := hK ▸ pe_tupleOf hg hm ha na
theorem s_then {σ : L2.St} {H : Hp} {D : Ends} {i : Nat} {te : TE} {k : V → Hp → VK → Prop} (h : te σ H fun x H1 => k x H1 fun v H2 => D.nx (σ.set i (some v)) H2) : tAsg (tThen te k) (gName i) D σ H := h
section
variable {P : Program} {w : World} {K : PySem.W.Frag} {mg : Str → Option Value} {base : Heap} {f : Addr} {fd : FuncData} {aK CK CN CS : Addr}
/-! ### _law_set -/
abbrev s__law_set : Stmt := top 45
theorem sc__law_set : FnScope ["draw", "kinds", "most", "many", "rows", "name", "rank", "state", "some"] ["draw", "kinds", "most"] (defScope s__law_set) := ⟨rfl, rfl, rfl, by decide +kernel, rfl, by decide +kernel, by decide +kernel⟩
def few10 (d : PyData) : Bool := match d with
  | .tuple [_, _, _, _, .tuple ts] => decide (ts.length ≤ 10)
  | _ => true
def spSetL (K : PySem.W.Frag) : Sp := fun vs H Q _ => ∃ (F : Hp) (d l c : Addr) (n : Nat) (x : V) (xs : List PyData), Same F H ∧ F d = none ∧ F l = none ∧ vs = [.ref d, x, .int 3] ∧ Dq K F x (.tuple xs) ∧ isKinds (.tuple xs) = true ∧ DrawAt H d l c n ∧ n + 1000 ≤ 2 ^ 40 ∧
  ∀ (v : V) (t : PyData) (G H' : Hp), isSet t = true → weight t ≤ 1000 → few10 t = true → Dq K G v t → Same F G → Same G H' → G d = none → G l = none → NewIn F H G → Keeps d l H H' → DrawAt H' d l c (n + 400) → Q v H'
theorem weights_one : ∀ es : List PyData, (∀ e ∈ es, weight e = 1) → weights es = es.length
  | [], _ => rfl
  | e :: r, h => by
    simp only [weights, List.length_cons]
    rw [h e List.mem_cons_self, weights_one r fun e he => h e (List.mem_cons_of_mem _ he)]
    omega
theorem weights_le {B : Nat} : ∀ es : List PyData, (∀ e ∈ es, weight e ≤ B) → weights es ≤ es.length * B
  | [], _ => Nat.zero_le _
  | e :: r, h => by
    simp only [weights, List.length_cons]
    have h1 := h e List.mem_cons_self
    have h2 := weights_le r fun e he => h e (List.mem_cons_of_mem _ he)
    rw [Nat.succ_mul]
    omega
theorem sum_le {B : Int} : ∀ ns : List Int, (∀ n ∈ ns, n ≤ B) → ns.sum ≤ (ns.length : Int) * B
  | [], _ => by simp
  | n :: r, h => by
    have h1 := h n List.mem_cons_self
    have h2 := sum_le r fun e he => h e (List.mem_cons_of_mem _ he)
    rw [List.sum_cons, List.length_cons, Int.natCast_add, Int.add_mul]
    omega
theorem ok__law_set (F : Fun K "_law_set" "_law_set" s__law_set f fd) (B : BI mg) (c__law_take : Cal P w K mg base 2 "_law_take" spTake []) (c__law_tuples : Cal P w K mg base 1 "_law_tuples" (p__law_tuples K) []) : FnOk P w K mg base CX0 3 f fd ["draw", "kinds", "most"] (spSetL K) := by
  refine F.ok sc__law_set (fun vs H Q E h => by obtain ⟨_, d, _, _, _, x, _, _, _, _, e, _⟩ := h; rw [e]; rfl) (fun cdv A outer s H vs Q E hr h => ?_)
  obtain ⟨F0, d, l, c, n, x, xs, sm, Fd, Fl, ev, rx, hk, D, hn, q⟩ := h
  subst ev
  refine ⟨_, (pss_cons (ps_set (i := 3) sc__law_set.nd rfl (Or.inr rfl) (pe_op (op_add) pe_int (pe_c c__law_take hr (by first | decide | omega) (by rfl) (pa_cons (pv 0) (pa_cons (pv 2) pa_nil)))))
        (pss_cons (ps_set (i := 4) sc__law_set.nd rfl (Or.inl rfl) (pe_tupleOf (by rfl) B.tuple (pe_lc (own := [("name", 5), ("rank", 6)]) (g := (gTup K 2 (gCons (gName 5) (gCons (gName 6) gNil)))) rfl sc__law_set.nd (pi_tup (pv 1)) (blkOk_by (own := [("name", 5), ("rank", 6)]) (N := ["draw", "kinds", "most", "many", "rows", "name", "rank", "state", "some"]) (sc := defScope s__law_set) (by decide +kernel)) (fun _ _ _ _ _ => (pg_tup rfl (pgs_cons (pg_name (i := 5) sc__law_set.nd rfl (Or.inl rfl) (hf := (Or.inr rfl))) (pgs_cons (pg_name (i := 6) sc__law_set.nd rfl (Or.inl rfl) (hf := (Or.inr rfl))) pgs_nil)))) (fun _ _ _ _ _ => pts_nil) (fun _ _ _ _ _ => (pe_tupleOfK (K := K) (by rfl) B.tuple (pe_lc (own := [("some", 8)]) (g := (gName 8)) rfl sc__law_set.nd (pi_listK (K := K) (pe_c c__law_tuples hr (by first | decide | omega) (by rfl) (pa_cons (pe_listRg rfl (by rfl) B.list_ (prg_1 (by rfl) B.range (pv 3))) (pa_cons (pv 6) pa_nil)))) (by refine blkOk_by ?_; show blkC ["draw", "kinds", "most", "many", "rows", "name", "rank", "state", "some"] { kind := .function, names := [(".0", .local), ("name", .local), ("rank", .local), ("tuple", .globalImplicit), ("_law_tuples", .globalImplicit), ("list", .globalImplicit), ("range", .globalImplicit), ("draw", .cell), ("many", .cell)], isGenerator := false, isCoroutine := false } _ [("some", 8)] = true; decide +kernel) (fun _ _ _ _ _ => (pg_name (i := 8) sc__law_set.nd rfl (Or.inl rfl) (hf := (Or.inr rfl)))) (fun _ _ _ _ _ => pts_nil) (fun _ _ _ _ _ => (pe_c c__law_take hr (by first | decide | omega) (by rfl) (pa_cons (pv 0) (pa_cons (pv 3) pa_nil))))))))))
        (pss_one (ps_ret (pe_tup (pa_cons pe_str (pa_cons (pv 1) (pa_cons (pv 3) (pa_cons (pv 4) (pa_cons (pe_tupleOf (by rfl) B.tuple (pe_lc (own := [("state", 7)]) (g := (gName 7)) rfl sc__law_set.nd (pi_range1 (by rfl) B.range (pa_cons (pv 3) pa_nil)) (blkOk_by (own := [("state", 7)]) (N := ["draw", "kinds", "most", "many", "rows", "name", "rank", "state", "some"]) (sc := defScope s__law_set) (by decide +kernel)) (fun _ _ _ _ _ => (pg_name (i := 7) sc__law_set.nd rfl (Or.inl rfl) (hf := (Or.inr rfl)))) (fun _ _ _ _ _ => (pts_one (pt_cmpR (op_eq) (pe_c c__law_take hr (by first | decide | omega) (by rfl) (pa_cons (pv 0) (pa_cons pe_int pa_nil))) pe_int (nomark _)))) (fun _ _ _ _ _ => (pv 7)))) pa_nil)))))))))), ?_⟩
  obtain ⟨h6, hx⟩ := kinds_ranks hk
  refine ⟨.ref d, rfl, .int 3, rfl, d, l, c, n, 3, rfl, D, by omega, by decide, by decide, fun i3 Ha hi3 ka Da => ?_⟩
  refine ⟨1, (i3 : Int), rfl, rfl, ?_⟩
  obtain ⟨M, hM⟩ : ∃ M, M = 1 + i3 := ⟨_, rfl⟩
  have eM : (1 : Int) + (i3 : Int) = (M : Int) := by omega
  have hM3 : 1 ≤ M ∧ M ≤ 3 := by omega
  dsimp only
  rw [eM]
  have sa : Same F0 Ha := ka.same sm Fd Fl
  refine s_then ?_
  refine lc_draw (K := K) (F := F0) (H := Ha) (d := d) (l := l) (c := c) (σ := [some (.ref d), some x, some (.int 3), some (.int (M : Int)), none, none, none, none, none]) (n0 := n + 1) (B := 27) (ds := xs) (fun i e => ∃ nm r es, xs[i]? = some (.tuple [.str nm, .int r]) ∧ e = .tuple es ∧ isGoals e (M : Int) r = true ∧ weight e ≤ 28) (ew_tup (ev_var (i := 1) ⟨x, rfl, rx⟩)) sa Fd Fl Da (small1000 (by omega)) (fun i dd v G H' R N0 hd sG sH Gd Gl D' rv kR => ?_) fun L acc es G H' hL eL racc el hE sG sH Gd Gl GL NG kk D' => ?_
  · obtain ⟨nm, r, rfl, r0, r3⟩ := hx dd (List.mem_of_getElem? hd)
    have hi : i < xs.length := (List.getElem?_eq_some_iff.mp hd).1
    refine tk_two v H' sH rv _ fun σ2 hσ => ?_
    obtain ⟨u1, u2, rfl, ru1, ru2⟩ := hσ
    cases ru1
    cases ru2
    refine ⟨rfl, yes_then ?_⟩
    have hrl : (rgs 0 M).length = M := rgs_len 0 M
    have htl : (tups (rgs 0 M) r.toNat).length = M ^ r.toNat := by rw [tups_len, hrl]
    have h27 : M ^ r.toNat ≤ 27 := pow27 hM3.2 (by omega)
    refine lc_draw (K := K) (F := G) (H := H') (d := d) (l := l) (c := c) (σ := [some (.ref d), some x, some (.int 3), some (.int (M : Int)), none, some (.str nm), some (.int r), none, none]) (n0 := n + 1 + i * 27) (B := 1) (ds := tups (rgs 0 M) r.toNat) (fun _ e => isBetween e 0 ((M : Int) - 1) = true ∧ weight e = 1)
      (ew_list (ev_call (K := K) (f := f2 g_law_tuples) (E := C8.E0) (ea_cons (ev_listRg (ev_var (i := 3) ⟨_, rfl, .int (M : Int)⟩) (by omega)) (ea_cons (ev_var (i := 6) ⟨_, rfl, .int r⟩) ea_nil)) (if_pos (by rw [hrl, decide_eq_true hM3.2, decide_eq_true r0, decide_eq_true r3]; rfl)))) sH Gd Gl D' (small1000 (by omega)) (fun j dd2 v2 G2 H2 R2 N2 hd2 sG2 sH2 G2d G2l D2 rv2 kR2 => ?_) fun L acc es G2 H3 hL eL racc el hE sG2 sH3 G2d G2l G2L NG2 k3 D3 => ?_
    · have hj : j < M ^ r.toNat := by
        have := (List.getElem?_eq_some_iff.mp hd2).1
        omega
      refine ⟨rfl, yes_then ?_⟩
      refine ⟨.ref d, rfl, .int (M : Int), rfl, d, l, c, n + 1 + i * 27 + j * 1, (M : Int), rfl, D2, by omega, by omega, by omega, fun b H5 hb k5 D5 => ?_⟩
      refine kR2 (.int (b : Int)) (.int (b : Int)) G2 H5 ⟨?_, rfl⟩ (.int _) (Same.refl _) (k5.same sH2 G2d G2l) G2d G2l new_refl k5 D5
      show (decide ((0 : Int) ≤ (b : Int)) && decide ((b : Int) ≤ (M : Int) - 1)) = true
      rw [decide_eq_true (by omega), decide_eq_true (by omega)]
      rfl
    · have hall : ∀ e ∈ es, isBetween e 0 ((M : Int) - 1) = true ∧ weight e = 1 := fun e he => by
        obtain ⟨j, hj⟩ := List.getElem?_of_mem he
        exact hE j e hj
      refine .inl ⟨L, acc, rfl, .inl (.inl eL), fun t ht => ?_⟩
      have g7 : Grow G2 H3 (upd G2 t (.tup acc)) (upd H3 t (.tup acc)) := .known sH3 ht
      obtain ⟨Td, Tl⟩ := D3.frees g7 G2d G2l
      refine kR (.ref t) (.tuple es) (upd G2 t (.tup acc)) _ ⟨nm, r, es, hd, rfl, ?_, ?_⟩ (.tup (.inl (.inl upd_same)) (racc.up g7.f)) (sG2.trans g7.f) g7.i Td Tl (new_two k3 NG2 g7.n Td Tl) (k3.trans (.of g7.h)) ((D3.same g7.h).more ?_)
      · show (decide ((es.length : Int) = (M : Int) ^ r.toNat) && es.all fun x => isBetween x 0 ((M : Int) - 1)) = true
        rw [List.all_eq_true.mpr fun e he => (hall e he).1, Bool.and_true, decide_eq_true_iff, el, htl]
        exact Int.natCast_pow M r.toNat
      · simp only [weight]
        rw [weights_one es fun e he => (hall e he).2]
        omega
      · omega
  · refine .inl ⟨L, acc, rfl, .inl (.inl eL), fun t ht => ?_⟩
    have g7 : Grow G H' (upd G t (.tup acc)) (upd H' t (.tup acc)) := .known sH ht
    have rt : Dq K (upd G t (.tup acc)) (.ref t) (.tuple es) := .tup (.inl (.inl upd_same)) (racc.up g7.f)
    obtain ⟨Td, Tl⟩ := D'.frees g7 Gd Gl
    have DT := D'.same g7.h
    have NT : NewIn F0 H (upd G t (.tup acc)) := new_two (ka.trans kk) (new_two ka new_refl NG Gd Gl) g7.n Td Tl
    have kT : Keeps d l H (upd H' t (.tup acc)) := (ka.trans kk).trans (.of g7.h)
    have sT := sG.trans g7.f
    generalize upd G t (.tup acc) = G1 at g7 rt Td Tl NT sT
    generalize upd H' t (.tup acc) = H1 at g7 DT kT
    refine ⟨x, rfl, .int (M : Int), rfl, .ref t, rfl, ?_⟩
    refine ⟨.int (M : Int), rfl, (M : Int), rfl, by omega, by omega, fun Dd hD => ?_⟩
    have fD := DT.fresh hD
    have hMt : ((M : Int)).toNat = M := Int.toNat_natCast M
    rw [hMt]
    refine ⟨fun i k H6 => k = M - i ∧ i ≤ M ∧ ∃ ss : List Int, ss.length ≤ i ∧ (∀ z ∈ ss, 0 ≤ z ∧ z < (i : Int)) ∧ ss.Pairwise (· < ·) ∧ H6 Dd = some (.lst (ss.map V.int)) ∧ Keeps d l H1 H6 ∧ DrawAt H6 d l c (n + 1 + xs.length * 27 + i),
      ⟨M, by simp, Nat.zero_le _, [], Nat.zero_le _, (fun z hz => by cases hz), .nil, upd_same, (Keeps.refl H1).other hD, DT.other fD⟩, fun i k H6 hW => ?_⟩
    obtain ⟨rfl, hi, ss, hsl, hss, hpw, o6, k6, D6⟩ := hW
    by_cases hlt : i < M
    · refine .inr ⟨hlt, fun H6 => ∃ ss : List Int, ss.length ≤ i + 1 ∧ (∀ z ∈ ss, 0 ≤ z ∧ z < ((i + 1 : Nat) : Int)) ∧ ss.Pairwise (· < ·) ∧ H6 Dd = some (.lst (ss.map V.int)) ∧ Keeps d l H1 H6 ∧ DrawAt H6 d l c (n + 1 + xs.length * 27 + (i + 1)), fun H7 h7 => ⟨M - (i + 1), by omega, rfl, hlt, h7⟩, fun v Hx hy => ?_⟩
      obtain ⟨rfl, rfl⟩ := hy
      refine ⟨rfl, .ref d, rfl, d, l, c, n + 1 + xs.length * 27 + i, 2, rfl, D6, by omega, by decide, by decide, fun b H8 hb k8 D8 => ⟨rfl, _, rfl, ?_⟩⟩
      have o8 := k8 _ _ fD.1 fD.2.1 o6
      have k68 := k6.trans k8
      dsimp only
      split
      · refine ⟨_, rfl, _, o8, by rw [List.length_map]; exact small1000 (by omega), ss ++ [(i : Int)], by rw [List.length_append]; show ss.length + 1 ≤ i + 1; omega, fun z hz => ?_, ?_, ?_, k68.other hD, D8.other fD⟩
        · rcases List.mem_append.mp hz with h | h
          · have := hss z h
            omega
          · rw [List.mem_singleton.mp h]
            omega
        · refine List.pairwise_append.mpr ⟨hpw, by simp, fun a ha b hb => ?_⟩
          rw [List.mem_singleton.mp hb]
          exact (hss a ha).2
        · rw [upd_same, List.map_append]
          show some (HO.lst (ss.map V.int ++ [V.int (0 + (i : Int))])) = some (HO.lst (ss.map V.int ++ [V.int (i : Int)]))
          rw [Int.zero_add]
      · exact ⟨ss, by omega, fun z hz => by have := hss z hz; omega, hpw, o8, k68, D8⟩
    · have ei : i = M := by omega
      refine .inl ⟨by show M ≤ i; omega, .inl ⟨Dd, _, rfl, .inl (.inl o6), fun t2 ht2 => ⟨by show 5 ≤ sizeLine; decide, fun p5 hp5 => ?_⟩⟩⟩
      have s6 : Same G1 H6 := k6.same g7.i Td Tl
      have g8 : Grow G1 H6 (upd G1 t2 (.tup (ss.map V.int))) (upd H6 t2 (.tup (ss.map V.int))) := .known s6 ht2
      have r2 : Dq K (upd G1 t2 (.tup (ss.map V.int))) (.ref t2) (.tuple (ss.map .int)) := .tup (.inl (.inl upd_same)) (dps_ofInt ss)
      have g9 : Grow (upd G1 t2 (.tup (ss.map V.int))) (upd H6 t2 (.tup (ss.map V.int))) (upd (upd G1 t2 (.tup (ss.map V.int))) p5 (.tup [.str "set", x, .int (M : Int), .ref t, .ref t2])) (upd (upd H6 t2 (.tup (ss.map V.int))) p5 (.tup [.str "set", x, .int (M : Int), .ref t, .ref t2])) := .known g8.i hp5
      have gg := g8.trans g9
      obtain ⟨Ed, El⟩ := D6.frees gg Td Tl
      have hE' : ∀ (i : Nat) (e : PyData), es[i]? = some e → ∃ (nm : Str) (r : Int) (es : List PyData), xs[i]? = some (PyData.tuple [.str nm, .int r]) ∧ e = .tuple es ∧ isGoals e (M : Int) r = true ∧ weight e ≤ 28 := hE
      refine q (.ref p5) (.tuple [.str "set", .tuple xs, .int (M : Int), .tuple es, .tuple (ss.map .int)]) _ _ ?_ ?_ ?_ (.tup (.inl (.inl upd_same)) (.cons (.str _) (.cons (rx.up (sT.trans gg.f)) (.cons (.int _) (.cons (rt.up gg.f) (.cons (r2.up g9.f) .nil)))))) (sT.trans gg.f) gg.i Ed El (new_two (kT.trans k6) NT gg.n Ed El) ((kT.trans k6).trans (.of gg.h)) ((D6.same gg.h).more (by omega))
      · have w1 : isBetween (.int (M : Int)) 1 60 = true := by
          show (decide (1 ≤ (M : Int)) && decide ((M : Int) ≤ 60)) = true
          rw [decide_eq_true (by omega), decide_eq_true (by omega)]
          rfl
        have w2 : goalsOf xs (M : Int) ≤ 4000 := by
          have h1 := sum_le (B := 27) (xs.map fun d => (M : Int) ^ (intD (sndD d)).toNat) fun z hz => by
            obtain ⟨dd, hdd, rfl⟩ := List.mem_map.mp hz
            obtain ⟨nm, r, rfl, r0, r3⟩ := hx dd hdd
            have h27 : M ^ r.toNat ≤ 27 := pow27 hM3.2 (by omega)
            show (M : Int) ^ r.toNat ≤ 27
            rw [← Int.natCast_pow]
            omega
          rw [List.length_map] at h1
          show (xs.map fun d => (M : Int) ^ (intD (sndD d)).toNat).sum ≤ 4000
          omega
        have w3 : isRisingBelow (.tuple (ss.map .int)) (M : Int) = true := by
          show (((ss.map PyData.int).all fun x => isBetween x 0 ((M : Int) - 1)) && risesD (ss.map .int)) = true
          rw [(risesI_iff ss).mpr hpw, Bool.and_true, List.all_eq_true]
          intro e he
          obtain ⟨z, hz, rfl⟩ := List.mem_map.mp he
          have := hss z hz
          show (decide ((0 : Int) ≤ z) && decide (z ≤ (M : Int) - 1)) = true
          rw [decide_eq_true (by omega), decide_eq_true (by omega)]
          rfl
        have w4 : ((pairs es xs).all fun p => isGoals (fstD p) (M : Int) (intD (sndD (sndD p)))) = true := by
          rw [List.all_eq_true]
          intro p hp
          obtain ⟨j, hj⟩ := List.getElem?_of_mem hp
          obtain ⟨a, b, ha, hb, rfl⟩ := pairs_get hj
          obtain ⟨nm, r, _, h1, _, h2, _⟩ := hE' j a ha
          rw [hb] at h1
          cases h1
          exact h2
        show (isWord (.str "set") "set" && ((isKinds (.tuple xs) && (isBetween (.int (M : Int)) 1 60 && decide (goalsOf xs (M : Int) ≤ 4000))) && ((true && decide (es.length = xs.length)) && (isRisingBelow (.tuple (ss.map .int)) (M : Int) && (pairs es xs).all fun p => isGoals (fstD p) (M : Int) (intD (sndD (sndD p))))))) = true
        rw [hk, w1, w3, w4, decide_eq_true w2, decide_eq_true el]
        rfl
      · have h1 := weights_le (B := 11) xs fun e he => by
          obtain ⟨nm, r, rfl, _, _⟩ := hx e he
          have := kind_name hk he
          simp only [weight, weights]
          omega
        have h2 := weights_le (B := 28) es fun e he => by
          obtain ⟨j, hj⟩ := List.getElem?_of_mem he
          obtain ⟨_, _, _, _, _, _, h⟩ := hE' j e hj
          exact h
        have h3 := weights_one (ss.map .int) fun e he => by
          obtain ⟨z, _, rfl⟩ := List.mem_map.mp he
          rfl
        rw [List.length_map] at h3
        have h4 : ("set" : Str).length = 3 := rfl
        simp only [weight, weights]
        omega
      · show decide ((ss.map PyData.int).length ≤ 10) = true
        rw [List.length_map]
        exact decide_eq_true (by omega)
end
end Sx
set_option Elab.async false
set_option linter.all false
set_option maxRecDepth 100000
set_option maxHeartbeats 2000000
set_option exponentiation.threshold 3000
namespace Sx
open PySem PySem.Spec PyProof.Rows L2
open C8 (Cal pe_c pe_gc)
/-! ### places in data -/
def partAt : PyData → List Nat → Option PyData
  | d, [] => some d
  | .tuple ds, k :: p => match ds[k]? with
    | some d => partAt d p
    | none => none
  | _, _ :: _ => none
def putAt : PyData → List Nat → PyData → PyData
  | _, [], e => e
  | .tuple ds, k :: p, e => .tuple (ds.take k ++ [putAt (ds.getD k .none) p e] ++ ds.drop (k + 1))
  | d, _ :: _, _ => d
def pathD (p : List Nat) : PyData := .tuple (p.map fun (k : Nat) => PyData.int (k : Int))
theorem part_cons {d e : PyData} {k : Nat} {p : List Nat} (h : partAt d (k :: p) = some e) : ∃ ds d', d = .tuple ds ∧ ds[k]? = some d' ∧ partAt d' p = some e := by
  cases d with
  | tuple ds =>
    have h' : (match ds[k]? with | some d => partAt d p | none => none) = some e := h
    cases hd : ds[k]? with
    | none => rw [hd] at h'; cases h'
    | some d' =>
      rw [hd] at h'
      exact ⟨ds, d', rfl, hd, h'⟩
  | _ => cases h
theorem put_cons {ds : List PyData} {d' e : PyData} {k : Nat} {p : List Nat} (h : ds[k]? = some d') : putAt (.tuple ds) (k :: p) e = .tuple (ds.take k ++ [putAt d' p e] ++ ds.drop (k + 1)) := by
  show PyData.tuple (ds.take k ++ [putAt (ds.getD k .none) p e] ++ ds.drop (k + 1)) = _
  rw [List.getD_eq_getElem?_getD, h]
  rfl
theorem path_tail (k : Nat) (p : List Nat) : PyData.tuple (cutD ((k :: p).map fun (k : Nat) => PyData.int (k : Int)) (some 1) none) = pathD p := by
  rw [show (1 : Int) = ((1 : Nat) : Int) from rfl, cut_from]
  rfl
section
variable {P : Program} {w : World} {K : PySem.W.Frag} {mg : Str → Option Value} {base : Heap} {f : Addr} {fd : FuncData} {aK CK CN CS : Addr}
/-! ### _law_part -/
abbrev s__law_part : Stmt := top 37
theorem sc__law_part : FnScope ["thing", "path"] ["thing", "path"] (defScope s__law_part) := ⟨rfl, rfl, rfl, by decide +kernel, rfl, by decide +kernel, by decide +kernel⟩
def spPart (K : PySem.W.Frag) (n : Nat) : Sp := fun vs H Q _ => ∃ (F : Hp) (x y : V) (d : PyData) (p : List Nat) (e : PyData), Same F H ∧ vs = [x, y] ∧ Dq K F x d ∧ Dq K F y (pathD p) ∧ p.length < n ∧ partAt d p = some e ∧ ∀ v F' H', Grow F H F' H' → Dq K F' v e → Q v H'
theorem ok__law_part (F : Fun K "_law_part" "_law_part" s__law_part f fd) (B : BI mg) (hg : mg "_law_part" = some (.ref f)) : ∀ n : Nat, FnOk P w K mg base CX0 (n + 1) f fd ["thing", "path"] (spPart K n)
  | 0 => F.ok sc__law_part (fun vs H Q E h => by obtain ⟨_, _, _, _, _, _, _, _, _, _, z, _⟩ := h; omega) (fun cdv A outer s H vs Q E hr h => by obtain ⟨_, _, _, _, _, _, _, _, _, _, z, _⟩ := h; omega)
  | n + 1 => by
    have c__law_part : Cal P w K mg base (n + 1) "_law_part" (spPart K n) [] := mkCal (ok__law_part F B hg n) hg F.kp (F.binds fun _ _ _ _ _ _ us hl => match us, hl with | [_, _], _ => rfl)
    refine F.ok sc__law_part (fun vs H Q E h => by obtain ⟨_, _, _, _, _, _, _, e, _⟩ := h; rw [e]; rfl) (fun cdv A outer s H vs Q E hr h => ?_)
    obtain ⟨F0, x, y, d, p, e, sm, ev, rx, ry, hpn, hpe, q⟩ := h
    subst ev
    refine ⟨_, (pss_one (ps_ret (pe_ifExp (pt_cmpR (r := rEqE K) (op_eqE hr.units) (pv 1) (pe_tup pa_nil) (nomark _)) (pv 0) (pe_c c__law_part hr (by first | decide | omega) (by rfl) (pa_cons (pe_ix (r := rIxT K) ix_tup (pv 0) (pe_ix (r := rIxT K) ix_tup (pv 1) pe_int (fun _ _ => rfl)) (fun _ _ => rfl)) (pa_cons (pe_slice (r := rSlA K) sl_tupA (pv 1) (po_some pe_int) po_none) pa_nil)))))), ?_⟩
    have t1 := eb_test (ev_op (ev_var (K := K) (σ := start ["thing", "path"] [x, y]) (F := F0) (i := 1) ⟨y, rfl, ry⟩) (ev_tup ea_nil (Nat.zero_le _)) rv_eqE)
    refine (r_ret ?_ : Ret K _ _ F0 e) H sm _ q
    cases p with
    | nil =>
      cases hpe
      exact ev_if t1 (fun _ => ev_var ⟨x, rfl, rx⟩) fun z => nomatch z
    | cons k p =>
      obtain ⟨ds, d', rfl, hd, hp'⟩ := part_cons hpe
      refine ev_if t1 (fun z => nomatch z) fun _ => ?_
      have a1 : EvD K (tOp (rIxT K) (tVar 0) (tOp (rIxT K) (tVar 1) (tC (.int 0)))) (start ["thing", "path"] [x, y]) F0 d' := ev_op (ev_var (i := 0) ⟨x, rfl, rx⟩) (ev_op (ev_var (i := 1) ⟨y, rfl, ry⟩) ev_int (rv_ixT (k := 0) (d := .int (k : Int)) rfl)) (rv_ixT (k := k) hd)
      have a2 := (ev_sl (ev_var (K := K) (σ := start ["thing", "path"] [x, y]) (F := F0) (i := 1) ⟨y, rfl, ry⟩) (eo_some (i := 1) ev_int) eo_none rs_tup).is (path_tail k p)
      exact fun H s Q q => a1 H s _ fun u F1 H1 g1 r1 => a2.up g1.f H1 g1.i _ fun v F2 H2 g2 r2 => ⟨F2, u, v, d', p, e, g2.i, rfl, r1.up g2.f, r2, by rw [List.length_cons] at hpn; omega, hp', fun w F3 H3 g3 r3 => q w F3 H3 ((g1.trans g2).trans g3) r3⟩
/-! ### _law_put -/
abbrev s__law_put : Stmt := top 38
theorem sc__law_put : FnScope ["thing", "path", "part"] ["thing", "path", "part"] (defScope s__law_put) := ⟨rfl, rfl, rfl, by decide +kernel, rfl, by decide +kernel, by decide +kernel⟩
def spPut (K : PySem.W.Frag) (n : Nat) : Sp := fun vs H Q _ => ∃ (F : Hp) (x y z : V) (d : PyData) (p : List Nat) (o e : PyData), Same F H ∧ vs = [x, y, z] ∧ Dq K F x d ∧ Dq K F y (pathD p) ∧ Dq K F z e ∧ p.length < n ∧ partAt d p = some o ∧ weight d ≤ 100000 ∧ ∀ v F' H', Grow F H F' H' → Dq K F' v (putAt d p e) → Q v H'
theorem ok__law_put (F : Fun K "_law_put" "_law_put" s__law_put f fd) (B : BI mg) (hg : mg "_law_put" = some (.ref f)) : ∀ n : Nat, FnOk P w K mg base CX0 (n + 1) f fd ["thing", "path", "part"] (spPut K n)
  | 0 => F.ok sc__law_put (fun vs H Q E h => by obtain ⟨_, _, _, _, _, _, _, _, _, _, _, _, _, z, _⟩ := h; omega) (fun cdv A outer s H vs Q E hr h => by obtain ⟨_, _, _, _, _, _, _, _, _, _, _, _, _, z, _⟩ := h; omega)
  | n + 1 => by
    have c__law_put : Cal P w K mg base (n + 1) "_law_put" (spPut K n) [] := mkCal (ok__law_put F B hg n) hg F.kp (F.binds fun _ _ _ _ _ _ us hl => match us, hl with | [_, _, _], _ => rfl)
    refine F.ok sc__law_put (fun vs H Q E h => by obtain ⟨_, _, _, _, _, _, _, _, _, e, _⟩ := h; rw [e]; rfl) (fun cdv A outer s H vs Q E hr h => ?_)
    obtain ⟨F0, x, y, z, d, p, o, e, sm, ev, rx, ry, rz, hpn, hpe, hwt, q⟩ := h
    subst ev
    refine ⟨_, (pss_one (ps_ret (pe_ifExp (pt_cmpR (r := rEqE K) (op_eqE hr.units) (pv 1) (pe_tup pa_nil) (nomark _)) (pv 2) (pe_op (r := rCatA K) op_catA (pe_op (r := rCatA K) op_catA (pe_slice (r := rSlA K) sl_tupA (pv 0) po_none (po_some (pe_ix (r := rIxT K) ix_tup (pv 1) pe_int (fun _ _ => rfl)))) (pe_tup (pa_cons (pe_c c__law_put hr (by first | decide | omega) (by rfl) (pa_cons (pe_ix (r := rIxT K) ix_tup (pv 0) (pe_ix (r := rIxT K) ix_tup (pv 1) pe_int (fun _ _ => rfl)) (fun _ _ => rfl)) (pa_cons (pe_slice (r := rSlA K) sl_tupA (pv 1) (po_some pe_int) po_none) (pa_cons (pv 2) pa_nil)))) pa_nil))) (pe_slice (r := rSlA K) sl_tupA (pv 0) (po_some (pe_op (op_add) (pe_ix (r := rIxT K) ix_tup (pv 1) pe_int (fun _ _ => rfl)) pe_int)) po_none))))), ?_⟩
    have t1 := eb_test (ev_op (ev_var (K := K) (σ := start ["thing", "path", "part"] [x, y, z]) (F := F0) (i := 1) ⟨y, rfl, ry⟩) (ev_tup ea_nil (Nat.zero_le _)) rv_eqE)
    refine (r_ret ?_ : Ret K _ _ F0 (putAt d p e)) H sm _ q
    cases p with
    | nil => exact (ev_if t1 (fun _ => ev_var (d := e) ⟨z, rfl, rz⟩) fun z => nomatch z)
    | cons k p =>
      obtain ⟨ds, d', rfl, hd, hp'⟩ := part_cons hpe
      rw [put_cons hd]
      refine ev_if t1 (fun z => nomatch z) fun _ => ?_
      have e0 : ∀ {F : Hp}, Same F0 F → EvD K (tOp (rIxT K) (tVar 1) (tC (.int 0))) (start ["thing", "path", "part"] [x, y, z]) F (.int (k : Int)) := fun s => ev_op (ev_var (i := 1) ⟨y, rfl, ry.up s⟩) ev_int (rv_ixT (k := 0) (d := .int (k : Int)) rfl)
      have a1 : EvD K (tOp (rIxT K) (tVar 0) (tOp (rIxT K) (tVar 1) (tC (.int 0)))) (start ["thing", "path", "part"] [x, y, z]) F0 d' := ev_op (ev_var (i := 0) ⟨x, rfl, rx⟩) (e0 (Same.refl _)) (rv_ixT (k := k) hd)
      have a2 := (ev_sl (ev_var (K := K) (σ := start ["thing", "path", "part"] [x, y, z]) (F := F0) (i := 1) ⟨y, rfl, ry⟩) (eo_some (i := 1) ev_int) eo_none rs_tup).is (path_tail k p)
      have hwd : weight d' ≤ 100000 := by
        have h1 := weights_mem (List.mem_of_getElem? hd)
        simp only [weight] at hwt
        omega
      have hl : ds.length ≤ 100000 := by
        have := weights_len ds
        simp only [weight] at hwt
        omega
      have hk : k < ds.length := (List.getElem?_eq_some_iff.mp hd).1
      have big : 200000 ≤ sizeLine := by rw [sizeLine_eq]; decide
      have call : EvD K (tCall (spPut K n) [] C8.E0 (tCons (tOp (rIxT K) (tVar 0) (tOp (rIxT K) (tVar 1) (tC (.int 0)))) (tCons (tSl (rSlA K) (tVar 1) (tPart (tC (.int 1))) tNoPart) (tCons (tVar 2) tNil)))) (start ["thing", "path", "part"] [x, y, z]) F0 (putAt d' p e) := fun H s Q q =>
        a1 H s _ fun u F1 H1 g1 r1 => a2.up g1.f H1 g1.i _ fun v F2 H2 g2 r2 => ⟨z, rfl, F2, u, v, z, d', p, o, e, g2.i, rfl, r1.up g2.f, r2, rz.up (g1.trans g2).f, by rw [List.length_cons] at hpn; omega, hp', hwd, fun w F3 H3 g3 r3 => q w F3 H3 ((g1.trans g2).trans g3) r3⟩
      have s1 := (ev_sl (ev_var (K := K) (σ := start ["thing", "path", "part"] [x, y, z]) (F := F0) (i := 0) ⟨x, rfl, rx⟩) eo_none (eo_some (e0 (Same.refl _))) rs_tup).is (congrArg PyData.tuple (cut_to k ds))
      have s2 := (ev_sl (ev_var (K := K) (σ := start ["thing", "path", "part"] [x, y, z]) (F := F0) (i := 0) ⟨x, rfl, rx⟩) (eo_some (ev_op (e0 (Same.refl _)) (ev_int (i := 1)) (rv_int (g := fun i j => i + j)))) eo_none rs_tup).is (d1 := .tuple (ds.drop (k + 1))) (congrArg PyData.tuple (by rw [show (k : Int) + 1 = ((k + 1 : Nat) : Int) from rfl, cut_from]))
      refine ev_op (ev_op s1 (ev_tup (ea_cons call ea_nil) (by show 1 ≤ sizeLine; decide)) (rv_catT ?_)) s2 (rv_catT ?_)
      · rw [List.length_take]
        show min k ds.length + 1 ≤ sizeLine
        omega
      · rw [List.length_append, List.length_take, List.length_drop]
        show min k ds.length + 1 + (ds.length - (k + 1)) ≤ sizeLine
        omega
end
end Sx
set_option Elab.async false
set_option linter.all false
set_option maxRecDepth 100000
set_option maxHeartbeats 2000000
set_option exponentiation.threshold 3000
namespace Sx
open PySem PySem.Spec PyProof.Rows L2
open C8 (Cal pe_c pe_gc)
mutual
def pathsOf : PyData → List (List Nat)
  | .tuple ds => [] :: pathsIn 0 ds
  | _ => [[]]
def pathsIn : Nat → List PyData → List (List Nat)
  | _, [] => []
  | k, d :: ds => (pathsOf d).map (k :: ·) ++ pathsIn (k + 1) ds
end
theorem pathsIn_app (e : PyData) : ∀ (ds : List PyData) (k : Nat), pathsIn k (ds ++ [e]) = pathsIn k ds ++ (pathsOf e).map ((k + ds.length) :: ·)
  | [], k => by
    simp only [List.nil_append, pathsIn, List.append_nil]
    rfl
  | d :: ds, k => by
    simp only [List.cons_append, pathsIn, pathsIn_app e ds (k + 1), List.append_assoc, List.length_cons]
    rw [show k + 1 + ds.length = k + (ds.length + 1) by omega]
mutual
theorem paths_len : ∀ d : PyData, (pathsOf d).length ≤ weight d
  | .tuple ds => by
    simp only [pathsOf, weight, List.length_cons]
    have := pathsIn_len ds 0
    omega
  | .none => Nat.le_refl _
  | .bool _ => Nat.le_refl _
  | .int _ => Nat.le_refl _
  | .str _ => by simp only [pathsOf, weight]; exact Nat.le_add_right _ _
  | .list _ => by simp only [pathsOf, weight]; exact Nat.le_add_right _ _
  | .dict _ => Nat.le_refl _
theorem pathsIn_len : ∀ (ds : List PyData) (k : Nat), (pathsIn k ds).length ≤ weights ds
  | [], _ => Nat.le_refl _
  | d :: ds, k => by
    simp only [pathsIn, weights, List.length_append, List.length_map]
    have h1 := paths_len d
    have h2 := pathsIn_len ds (k + 1)
    omega
end
theorem paths_ne (d : PyData) : 1 ≤ (pathsOf d).length := by
  cases d <;> simp only [pathsOf, List.length_cons] <;> omega
mutual
theorem paths_part : ∀ (d : PyData) (p : List Nat), p ∈ pathsOf d → ∃ e, partAt d p = some e
  | .tuple ds, p, h => by
    simp only [pathsOf] at h
    rcases List.mem_cons.mp h with e | e
    · rw [e]
      exact ⟨_, rfl⟩
    · obtain ⟨k, q, d', rfl, h1, h2⟩ := pathsIn_part ds 0 p e
      obtain ⟨e2, h3⟩ := h2
      refine ⟨e2, ?_⟩
      show (match ds[0 + k]? with | some d => partAt d q | none => none) = some e2
      rw [h1]
      exact h3
  | .none, p, h => by rw [List.mem_singleton.mp h]; exact ⟨_, rfl⟩
  | .bool _, p, h => by rw [List.mem_singleton.mp h]; exact ⟨_, rfl⟩
  | .int _, p, h => by rw [List.mem_singleton.mp h]; exact ⟨_, rfl⟩
  | .str _, p, h => by rw [List.mem_singleton.mp h]; exact ⟨_, rfl⟩
  | .list _, p, h => by rw [List.mem_singleton.mp h]; exact ⟨_, rfl⟩
  | .dict _, p, h => by rw [List.mem_singleton.mp h]; exact ⟨_, rfl⟩
theorem pathsIn_part : ∀ (ds : List PyData) (j : Nat) (p : List Nat), p ∈ pathsIn j ds → ∃ k q d', p = (j + k) :: q ∧ ds[0 + k]? = some d' ∧ ∃ e, partAt d' q = some e
  | [], j, p, h => by simp only [pathsIn] at h; cases h
  | d :: ds, j, p, h => by
    simp only [pathsIn] at h
    rcases List.mem_append.mp h with e | e
    · obtain ⟨q, hq, rfl⟩ := List.mem_map.mp e
      exact ⟨0, q, d, rfl, rfl, paths_part d q hq⟩
    · obtain ⟨k, q, d', rfl, h1, h2⟩ := pathsIn_part ds (j + 1) p e
      refine ⟨k + 1, q, d', by rw [show j + 1 + k = j + (k + 1) by omega], ?_, h2⟩
      rw [Nat.zero_add] at h1 ⊢
      exact h1
end
/-- nested less than n deep -/
def nestOk : Nat → PyData → Bool
  | 0, _ => false
  | n + 1, .tuple ds => ds.all (nestOk n)
  | _ + 1, _ => true
theorem path_len : ∀ (n : Nat) (d : PyData) (p : List Nat) (e : PyData), nestOk n d = true → partAt d p = some e → p.length < n
  | 0, _, _, _, h, _ => by cases h
  | n + 1, d, [], e, _, _ => by simp
  | n + 1, d, k :: p, e, h, hp => by
    obtain ⟨ds, d', rfl, h1, h2⟩ := part_cons hp
    have h' : ds.all (nestOk n) = true := h
    have := path_len n d' p e (List.all_eq_true.mp h' d' (List.mem_of_getElem? h1)) h2
    rw [List.length_cons]
    omega
theorem path_wt : ∀ (p : List Nat) (d e : PyData), partAt d p = some e → p.length < weight d
  | [], d, _, _ => weight_pos d
  | k :: p, d, e, hp => by
    obtain ⟨ds, d', rfl, h1, h2⟩ := part_cons hp
    have h3 := path_wt p d' e h2
    have h4 := weights_mem (List.mem_of_getElem? h1)
    simp only [weight, List.length_cons]
    omega
def headD (k : Nat) : PyData → PyData
  | .tuple xs => .tuple (.int (k : Int) :: xs)
  | d => d
section
variable {P : Program} {w : World} {K : PySem.W.Frag} {mg : Str → Option Value} {base : Heap} {f : Addr} {fd : FuncData} {aK CK CN CS : Addr}
/-! ### _law_paths -/
abbrev s__law_paths : Stmt := top 36
theorem sc__law_paths : FnScope ["thing", "found", "k", "part", "path"] ["thing"] (defScope s__law_paths) := ⟨rfl, rfl, rfl, by decide +kernel, rfl, by decide +kernel, by decide +kernel⟩
def g_law_paths (n : Nat) (d : PyData) : Option PyData := if nestOk n d && decide (weight d ≤ 1000) then some (.list ((pathsOf d).map pathD)) else none
theorem ok__law_paths (F : Fun K "_law_paths" "_law_paths" s__law_paths f fd) (B : BI mg) (hg : mg "_law_paths" = some (.ref f)) : ∀ n : Nat, FnOk P w K mg base CX0 (n + 1) f fd ["thing"] (spD K (f1 (g_law_paths n)))
  | 0 => F.ok sc__law_paths (fun vs H Q E h => len_f1 h) (fun cdv A outer s H vs Q E hr h => go1 h fun F0 a x d sm ra e ev q => by
    have e' : (if nestOk 0 a && decide (weight a ≤ 1000) then some (PyData.list ((pathsOf a).map pathD)) else none) = some d := e
    rw [if_neg (by intro z; cases z)] at e'
    cases e')
  | n + 1 => by
    have c__law_paths : Cal P w K mg base (n + 1) "_law_paths" (spD K (f1 (g_law_paths n))) [] := mkCal (ok__law_paths F B hg n) hg F.kp (F.binds fun _ _ _ _ _ _ us hl => match us, hl with | [_], _ => rfl)
    refine F.ok sc__law_paths (fun vs H Q E h => len_f1 h) (fun cdv A outer s H vs Q E hr h => go1 h fun F0 a x d sm ra e ev q => ?_)
    subst ev
    have e' : (if nestOk (n + 1) a && decide (weight a ≤ 1000) then some (PyData.list ((pathsOf a).map pathD)) else none) = some d := e
    split at e'
    case isFalse => cases e'
    rename_i hc
    cases e'
    rw [Bool.and_eq_true, decide_eq_true_iff] at hc
    obtain ⟨hn, hwt⟩ := hc
    refine ⟨_, (pss_cons (ps_set (i := 1) sc__law_paths.nd rfl (Or.inl rfl) (pe_lst (pa_cons (pe_tup pa_nil) pa_nil)))
        (pss_cons (ps_for PassesOwn.never rfl (pi_enumT (by rfl) B.enumerate (pa_cons (pe_ifExp (pt_val (pe_callB (r := rIsi K) (call_isi) (by rfl) B.isinstance (by decide +kernel) (pa_cons (pv 0) (pa_cons (pe_bltn (v := .ty "tuple") (by rfl) B.tuple (by decide +kernel) rfl) pa_nil)))) (pv 0) (pe_tup pa_nil)) pa_nil)) (pg_tup rfl (pgs_cons (pg_name (i := 2) sc__law_paths.nd rfl (Or.inr rfl) (hf := (Or.inl rfl))) (pgs_cons (pg_name (i := 3) sc__law_paths.nd rfl (Or.inl rfl) (hf := (Or.inr rfl))) pgs_nil))) (pss_one (ps_set (i := 1) sc__law_paths.nd rfl (Or.inl rfl) (pe_op op_cat (pv 1) (pe_lc (own := [("path", 4)]) (g := (gName 4)) rfl sc__law_paths.nd (pi_list (pe_c c__law_paths hr (by first | decide | omega) (by rfl) (pa_cons (pv 3) pa_nil))) (blkOk_by (own := [("path", 4)]) (N := ["thing", "found", "k", "part", "path"]) (sc := defScope s__law_paths) (by decide +kernel)) (fun _ _ _ _ _ => (pg_name (i := 4) sc__law_paths.nd rfl (Or.inl rfl) (hf := (Or.inr rfl)))) (fun _ _ _ _ _ => pts_nil) (fun _ _ _ _ _ => (pe_op (r := rCatA K) op_catA (pe_tup (pa_cons (pv 2) pa_nil)) (pv 4))))))))
        (pss_one (ps_ret (pv 1))))), ?_⟩
    -- what is gone through
    obtain ⟨ds, hds, hpa, hall, hwd⟩ : ∃ ds : List PyData, (∀ {σ : L2.St} {F : Hp}, σ[0]? = some (some x) → Same F0 F → EvD K (tIf (tB (tCB (rIsi K) (tCons (tVar 0) (tCons (tC (.ty "tuple")) tNil)))) (tVar 0) (tTup tNil)) σ F (.tuple ds)) ∧ pathsOf a = [] :: pathsIn 0 ds ∧ (∀ d ∈ ds, nestOk n d = true) ∧ weights ds ≤ 1000 := by
      have hif : ∀ {σ : L2.St} {F : Hp}, σ[0]? = some (some x) → Same F0 F → EvB (tB (tCB (rIsi K) (tCons (tVar 0) (tCons (tC (.ty "tuple")) tNil)))) σ F (isTup a) := fun h s => eb_val (ev_isi (ev_var (i := 0) ⟨x, h, ra.up s⟩) (kit_tup a))
      cases a with
      | tuple ds => exact ⟨ds, fun {_ _} h s => ev_if (hif h s) (fun _ => ev_var (i := 0) ⟨x, h, ra.up s⟩) (fun z => nomatch z), rfl, fun d hd => List.all_eq_true.mp hn d hd, by simp only [weight] at hwt; omega⟩
      | _ => exact ⟨[], fun {_ _} h s => ev_if (hif h s) (fun z => nomatch z) (fun _ => ev_tup ea_nil (Nat.zero_le _)), rfl, fun d hd => (by cases hd), Nat.zero_le _⟩
    rw [hpa] at q
    have hsl : ds.length ≤ 1000 := Nat.le_trans (weights_len ds) hwd
    refine s_newL (K := K) (F := F0) (ds := [.tuple []]) (ea_cons (ev_tup ea_nil (Nat.zero_le _)) ea_nil) sm (by show 1 ≤ sizeLine; decide) fun p0 vs0 F1 H1 g1 hp0 r1 => ?_
    have hp0H : H p0 = none := g1.h.free hp0
    have G1 : Grow F0 H F1 (upd H1 p0 (.lst vs0)) := grow_own g1 hp0H (g1.i.free hp0)
    refine s_for (K := K) (F := F1) (ds := numbered ds) G1.i (ew_enumT (ea_cons (hds rfl G1.f) ea_nil)) fun F2 H2 g2 =>
      ⟨fun i σ' F' H' => Same F2 F' ∧ Grow F0 H F' H' ∧ ∃ (p : Addr) (acc : List V) (y2 y3 y4 : Option V), σ' = [some x, some (.ref p), y2, y3, y4] ∧ H p = none ∧ F' p = none ∧ H' p = some (.lst acc) ∧ DqAll K F' acc (([] :: pathsIn 0 (ds.take i)).map pathD),
        ⟨Same.refl _, G1.trans g2, p0, vs0, _, _, _, rfl, hp0H, free_grow g2 (g1.i.free hp0) upd_same, g2.h _ _ upd_same, r1.up g2.f⟩, fun i σ' F' H' h => ⟨h.1, h.2.1.i⟩, fun i d σ' F' H' hd hI F3 H3 v g3 rv => ?_, fun σ' F' H' hI => ?_⟩
    · obtain ⟨sI, gI, p, acc, y2, y3, y4, rfl, hp, nF, eP, racc⟩ := hI
      obtain ⟨b, hb, rfl⟩ := numbered_get hd
      have hbm := List.mem_of_getElem? hb
      refine tk_two v H3 g3.i rv _ fun σ2 hσ => ?_
      obtain ⟨u1, u2, rfl, ru1, ru2⟩ := hσ
      cases ru1
      have e3 := g3.h _ _ eP
      have n3 : F3 p = none := free_grow g3 nF eP
      have hwb : weight b ≤ 1000 := Nat.le_trans (weights_mem hbm) hwd
      have hpl := paths_len b
      refine ⟨.ref p, rfl, ?_⟩
      refine lc_new (K := K) (F := F3) (σ := [some x, some (.ref p), some (.int (i : Int)), some u2, y4]) (vs := [4]) (tt := tYes) (te := tOp (rCatA K) (tTup (tCons (tVar 2) tNil)) (tVar 4)) (g := gName 4) (fun _ => true) (headD i) (ds := (pathsOf b).map pathD)
        (ew_list (ev_call (K := K) (f := f1 (g_law_paths n)) (E := C8.E0) (ea_cons (ev_var (i := 3) ⟨u2, rfl, ru2⟩) ea_nil) (if_pos (by rw [hall b hbm, decide_eq_true hwb]; rfl)))) (by rw [List.length_map]; exact Nat.lt_of_le_of_lt (Nat.le_trans hpl hwb) (by rw [sizeLine_eq]; decide)) (fun c F' hc sF => ?_) H3 g3.i _ fun D F7 acc2 H7 g7 hD nD eD ra7 => ?_
      · obtain ⟨pp, hpp, rfl⟩ := List.mem_map.mp hc
        obtain ⟨ee, hpe⟩ := paths_part b pp hpp
        have hlen := path_len n b pp ee (hall b hbm) hpe
        refine tk_name.imp fun σ3 hσ => ?_
        obtain ⟨u3, rfl, ru3⟩ := hσ
        refine ⟨rfl, eb_yes, fun _ => ev_op (ev_tup (ea_cons (ev_var (i := 2) ⟨_, rfl, .int (i : Int)⟩) ea_nil) (by show 1 ≤ sizeLine; decide)) (ev_var (i := 4) ⟨u3, rfl, ru3⟩) (rv_catT ?_)⟩
        rw [List.length_map]
        have hw := path_wt pp b ee hpe
        rw [sizeLine_eq]
        show 1 + pp.length ≤ _
        omega
      rw [made_map] at ra7
      have l1 := racc.len
      have l2 := ra7.len
      have ht : (pathsIn 0 (ds.take i)).length ≤ 1000 := Nat.le_trans (pathsIn_len _ 0) (by
        have h := weights_app (ds.take i) (ds.drop i)
        rw [List.take_append_drop] at h
        omega)
      rw [List.length_map, List.length_cons] at l1
      rw [List.length_map, List.length_map] at l2
      refine ⟨p, D, acc, acc2, rfl, rfl, g7.h _ _ e3, eD, by rw [l1, l2, sizeLine_eq]; omega, fun p2 hp2 => ?_⟩
      have G7 := (gI.trans g3).trans g7
      refine ⟨F7, sI.trans (g3.f.trans g7.f), grow_own G7 (G7.h.free hp2) (g7.i.free hp2), p2, acc ++ acc2, _, _, _, rfl, G7.h.free hp2, g7.i.free hp2, upd_same, ?_⟩
      have et : ds.take (i + 1) = ds.take i ++ [b] := by rw [List.take_add_one, hb]; rfl
      have htl : (ds.take i).length = i := by
        rw [List.length_take]
        have := (List.getElem?_eq_some_iff.mp hb).1
        omega
      rw [et, pathsIn_app, htl, Nat.zero_add, ← List.cons_append, List.map_append, List.map_map]
      have er : (pathsOf b).map (pathD ∘ (i :: ·)) = ((pathsOf b).map pathD).map (headD i) := by
        rw [List.map_map]
        rfl
      rw [er]
      exact (racc.up (g3.f.trans g7.f)).app ra7
    · obtain ⟨sI, gI, p, acc, y2, y3, y4, rfl, hp, nF, eP, racc⟩ := hI
      rw [numbered_len, List.take_length] at racc
      refine now_var rfl _ ?_
      exact q (.ref p) _ H' (grow_tell gI hp nF eP) (.lst (.inl (.inl upd_same)) (racc.up (same_upd nF)))
end
end Sx
set_option Elab.async false
set_option linter.all false
set_option maxRecDepth 100000
set_option maxHeartbeats 2000000
set_option exponentiation.threshold 3000
namespace Sx
open PySem PySem.Spec PyProof.Rows L2
open C8 (Cal pe_c pe_gc)
theorem small {n : Nat} (h : n ≤ 40 := by decide) : n ≤ sizeLine := Nat.le_of_lt (small1000 (by omega))
/-- x + [..], x one's own -/
theorem cat_own {K : PySem.W.Frag} {σ : L2.St} {F H : Hp} {i : Nat} {p : Addr} {vs : List V} {ds es : List PyData} {ta : TA} {Q : VK} (hi : σ[i]? = some (some (.ref p))) (s : Same F H) (hp : H p = some (.lst vs)) (rv : DqAll K F vs ds) (hds : ds.length ≤ 100) (h : EvS K ta σ F es) (hes : es.length ≤ 40)
    (k : ∀ p3 ws F3 H3, Grow F H F3 H3 → H3 p3 = none → DqAll K F3 ws (ds ++ es) → Q (.ref p3) (upd H3 p3 (.lst ws))) : tOp rCat (tVar i) (tLst ta) σ H Q :=
  ⟨.ref p, hi, h H s _ fun us F1 H1 g1 r1 => ⟨by rw [r1.len]; exact small hes, fun p2 hp2 => by
    have h2 : H p2 = none := g1.h.free hp2
    have ne : p ≠ p2 := fun z => by rw [z, h2] at hp; cases hp
    refine ⟨p, p2, vs, us, rfl, rfl, upd_at ne (g1.h _ _ hp), upd_same, ?_, fun p3 hp3 => ?_⟩
    · rw [rv.len, r1.len]
      exact Nat.le_of_lt (small1000 (by omega))
    · exact k p3 (vs ++ us) F1 _ (grow_own g1 h2 (g1.i.free hp2)) hp3 ((rv.up g1.f).app r1)⟩⟩
section
variable {P : Program} {w : World} {K : PySem.W.Frag} {mg : Str → Option Value} {base : Heap} {f : Addr} {fd : FuncData} {aK CK CN CS : Addr}
/-! ### _law_bad_kinds -/
abbrev s__law_bad_kinds : Stmt := top 48
theorem sc__law_bad_kinds : FnScope ["draw", "some"] ["draw"] (defScope s__law_bad_kinds) := ⟨rfl, rfl, rfl, by decide +kernel, rfl, by decide +kernel, by decide +kernel⟩
def badK : List PyData := ([PyData.none, (.int 5), (.tuple []), (.str "kinds"), (.tuple [(.tuple [(.str "qaq"), (.int 1)])]), (.tuple [(.tuple [(.str "qaq"), (.int 4)]), (.tuple [(.str "zaq"), (.int 0)])]), (.tuple [(.tuple [(.str "zaq"), (.int 0)]), (.tuple [(.str "qaq"), (.int 0)])]), (.tuple [(.tuple [(.str "qaq"), (.int 0)]), (.tuple [(.str "qaq"), (.int 1)])]), (.list [(.tuple [(.str "qaq"), (.int 0)])])] : List PyData) ++ ([(.tuple [(.tuple [(.str "Q"), (.int 0)])]), (.tuple [(.tuple [(.str "qaq"), (.bool true)])]), (.tuple [(.tuple [(.str "qaq")])]), (.tuple [(.list [(.str "qaq"), (.int 0)])]), (.tuple [(.tuple [(.str ""), (.int 0)])]), (.tuple [(.tuple [(.str "qaq"), (.int 0), (.int 0)])]), (.tuple [(.tuple [(.str "abcdefghi"), (.int 0)])])] : List PyData)
/-- one of some data -/
def spOne (K : PySem.W.Frag) (ds : List PyData) : Sp := fun vs H Q _ => ∃ (F : Hp) (d l c : Addr) (n : Nat), vs = [.ref d] ∧ Same F H ∧ F d = none ∧ F l = none ∧ DrawAt H d l c n ∧ n ≤ 2 ^ 40 ∧
  ∀ (v : V) (e : PyData) (G H' : Hp), e ∈ ds → Dq K G v e → Same F G → Same G H' → G d = none → G l = none → Keeps d l H H' → DrawAt H' d l c (n + 1) → Q v H'
theorem ok__law_bad_kinds (F : Fun K "_law_bad_kinds" "_law_bad_kinds" s__law_bad_kinds f fd) (B : BI mg) (c__law_pick : Cal P w K mg base 3 "_law_pick" (spPick K) []) : FnOk P w K mg base CX0 4 f fd ["draw"] (spOne K badK) := by
  refine F.ok sc__law_bad_kinds (fun vs H Q E h => by obtain ⟨_, d, _, _, _, e, _⟩ := h; rw [e]; rfl) (fun cdv A outer s H vs Q E hr h => ?_)
  obtain ⟨F0, d, l, c, n, ev, sm, Fd, Fl, D, hn, q⟩ := h
  subst ev
  refine ⟨_, (pss_cons (ps_set (i := 1) sc__law_bad_kinds.nd rfl (Or.inl rfl) (pe_lst (pa_cons pe_non (pa_cons pe_int (pa_cons (pe_tup pa_nil) (pa_cons pe_str (pa_cons (pe_tup (pa_cons (pe_tup (pa_cons pe_str (pa_cons pe_int pa_nil))) pa_nil)) (pa_cons (pe_tup (pa_cons (pe_tup (pa_cons pe_str (pa_cons pe_int pa_nil))) (pa_cons (pe_tup (pa_cons pe_str (pa_cons pe_int pa_nil))) pa_nil))) (pa_cons (pe_tup (pa_cons (pe_tup (pa_cons pe_str (pa_cons pe_int pa_nil))) (pa_cons (pe_tup (pa_cons pe_str (pa_cons pe_int pa_nil))) pa_nil))) (pa_cons (pe_tup (pa_cons (pe_tup (pa_cons pe_str (pa_cons pe_int pa_nil))) (pa_cons (pe_tup (pa_cons pe_str (pa_cons pe_int pa_nil))) pa_nil))) (pa_cons (pe_lst (pa_cons (pe_tup (pa_cons pe_str (pa_cons pe_int pa_nil))) pa_nil)) pa_nil)))))))))))
        (pss_one (ps_ret (pe_c c__law_pick hr (by first | decide | omega) (by rfl) (pa_cons (pv 0) (pa_cons (pe_op op_cat (pv 1) (pe_lst (pa_cons (pe_tup (pa_cons (pe_tup (pa_cons pe_str (pa_cons pe_int pa_nil))) pa_nil)) (pa_cons (pe_tup (pa_cons (pe_tup (pa_cons pe_str (pa_cons pe_bl pa_nil))) pa_nil)) (pa_cons (pe_tup (pa_cons (pe_tup (pa_cons pe_str pa_nil)) pa_nil)) (pa_cons (pe_tup (pa_cons (pe_lst (pa_cons pe_str (pa_cons pe_int pa_nil))) pa_nil)) (pa_cons (pe_tup (pa_cons (pe_tup (pa_cons pe_str (pa_cons pe_int pa_nil))) pa_nil)) (pa_cons (pe_tup (pa_cons (pe_tup (pa_cons pe_str (pa_cons pe_int (pa_cons pe_int pa_nil)))) pa_nil)) (pa_cons (pe_tup (pa_cons (pe_tup (pa_cons pe_str (pa_cons pe_int pa_nil))) pa_nil)) pa_nil))))))))) pa_nil)))))), ?_⟩
  refine s_newL (K := K) (F := F0) (ds := ([PyData.none, (.int 5), (.tuple []), (.str "kinds"), (.tuple [(.tuple [(.str "qaq"), (.int 1)])]), (.tuple [(.tuple [(.str "qaq"), (.int 4)]), (.tuple [(.str "zaq"), (.int 0)])]), (.tuple [(.tuple [(.str "zaq"), (.int 0)]), (.tuple [(.str "qaq"), (.int 0)])]), (.tuple [(.tuple [(.str "qaq"), (.int 0)]), (.tuple [(.str "qaq"), (.int 1)])]), (.list [(.tuple [(.str "qaq"), (.int 0)])])] : List PyData)) (ea_cons ev_non (ea_cons (ev_int (i := 5)) (ea_cons (ev_tup ea_nil small) (ea_cons (ev_str (x := "kinds")) (ea_cons (ev_tup (ea_cons (ev_tup (ea_cons (ev_str (x := "qaq")) (ea_cons (ev_int (i := 1)) ea_nil)) small) ea_nil) small) (ea_cons (ev_tup (ea_cons (ev_tup (ea_cons (ev_str (x := "qaq")) (ea_cons (ev_int (i := 4)) ea_nil)) small) (ea_cons (ev_tup (ea_cons (ev_str (x := "zaq")) (ea_cons (ev_int (i := 0)) ea_nil)) small) ea_nil)) small) (ea_cons (ev_tup (ea_cons (ev_tup (ea_cons (ev_str (x := "zaq")) (ea_cons (ev_int (i := 0)) ea_nil)) small) (ea_cons (ev_tup (ea_cons (ev_str (x := "qaq")) (ea_cons (ev_int (i := 0)) ea_nil)) small) ea_nil)) small) (ea_cons (ev_tup (ea_cons (ev_tup (ea_cons (ev_str (x := "qaq")) (ea_cons (ev_int (i := 0)) ea_nil)) small) (ea_cons (ev_tup (ea_cons (ev_str (x := "qaq")) (ea_cons (ev_int (i := 1)) ea_nil)) small) ea_nil)) small) (ea_cons (ev_lst (ea_cons (ev_tup (ea_cons (ev_str (x := "qaq")) (ea_cons (ev_int (i := 0)) ea_nil)) small) ea_nil) small) ea_nil))))))))) sm small fun p vs F1 H1 g1 hp r1 => ?_
  have s1 : Same F1 (upd H1 p (.lst vs)) := same_own g1.i (g1.i.free hp)
  refine ⟨.ref d, rfl, ?_⟩
  show tCons (tOp _ _ _) tNil _ _ _
  refine cons_one (cat_own (K := K) (F := F1) (i := 1) (p := p) (es := ([(.tuple [(.tuple [(.str "Q"), (.int 0)])]), (.tuple [(.tuple [(.str "qaq"), (.bool true)])]), (.tuple [(.tuple [(.str "qaq")])]), (.tuple [(.list [(.str "qaq"), (.int 0)])]), (.tuple [(.tuple [(.str ""), (.int 0)])]), (.tuple [(.tuple [(.str "qaq"), (.int 0), (.int 0)])]), (.tuple [(.tuple [(.str "abcdefghi"), (.int 0)])])] : List PyData)) rfl s1 upd_same r1 (by decide) (ea_cons (ev_tup (ea_cons (ev_tup (ea_cons (ev_str (x := "Q")) (ea_cons (ev_int (i := 0)) ea_nil)) small) ea_nil) small) (ea_cons (ev_tup (ea_cons (ev_tup (ea_cons (ev_str (x := "qaq")) (ea_cons (ev_bl (x := true)) ea_nil)) small) ea_nil) small) (ea_cons (ev_tup (ea_cons (ev_tup (ea_cons (ev_str (x := "qaq")) ea_nil) small) ea_nil) small) (ea_cons (ev_tup (ea_cons (ev_lst (ea_cons (ev_str (x := "qaq")) (ea_cons (ev_int (i := 0)) ea_nil)) small) ea_nil) small) (ea_cons (ev_tup (ea_cons (ev_tup (ea_cons (ev_str (x := "")) (ea_cons (ev_int (i := 0)) ea_nil)) small) ea_nil) small) (ea_cons (ev_tup (ea_cons (ev_tup (ea_cons (ev_str (x := "qaq")) (ea_cons (ev_int (i := 0)) (ea_cons (ev_int (i := 0)) ea_nil))) small) ea_nil) small) (ea_cons (ev_tup (ea_cons (ev_tup (ea_cons (ev_str (x := "abcdefghi")) (ea_cons (ev_int (i := 0)) ea_nil)) small) ea_nil) small) ea_nil))))))) (by decide) fun p3 ws F3 H3 g3 hp3 r3 => ?_)
  obtain ⟨F1d, F1l⟩ := D.frees g1 Fd Fl
  have D1 : DrawAt (upd H1 p (.lst vs)) d l c n := (D.same g1.h).same (same_upd hp)
  obtain ⟨F3d, F3l⟩ := D1.frees g3 F1d F1l
  have D3 := D1.same g3.h
  have f3 := D3.fresh hp3
  have g4 : Grow F3 H3 (upd F3 p3 (.lst ws)) (upd H3 p3 (.lst ws)) := .known g3.i hp3
  obtain ⟨F4d, F4l⟩ := D3.frees g4 F3d F3l
  have sH : Same H (upd H3 p3 (.lst ws)) := (g1.h.trans (same_upd hp)).trans (g3.h.trans g4.h)
  refine ⟨upd F3 p3 (.lst ws), d, l, c, n, .ref p3, badK, g4.i, F4d, F4l, rfl, .lst (.inl (.inl upd_same)) (r3.up g4.f), by decide, by decide, D3.same g4.h, by omega, fun e v H' he hv k' D' => ?_⟩
  exact q v e _ H' he hv ((g1.f.trans g3.f).trans g4.f) (k'.same g4.i F4d F4l) F4d F4l ((Keeps.of sH).trans k') D'
theorem badK_no : ∀ d ∈ badK, isKinds d = false ∧ fitsK d = true := by decide +kernel
end
end Sx
set_option Elab.async false
set_option linter.all false
set_option maxRecDepth 100000
set_option maxHeartbeats 2000000
set_option exponentiation.threshold 3000
namespace Sx
open PySem PySem.Spec PyProof.Rows L2
open C8 (Cal pe_c pe_gc)
section
variable {P : Program} {w : World} {K : PySem.W.Frag} {mg : Str → Option Value} {base : Heap} {f : Addr} {fd : FuncData} {aK CK CN CS : Addr}
/-! ### _law_bad_set -/
abbrev s__law_bad_set : Stmt := top 47
theorem sc__law_bad_set : FnScope ["draw", "one", "some"] ["draw"] (defScope s__law_bad_set) := ⟨rfl, rfl, rfl, by decide +kernel, rfl, by decide +kernel, by decide +kernel⟩
def oneD : PyData := .tuple [.tuple [.str "qaq", .int 0]]
def badS : List PyData := ((([PyData.none, (.int 5), (.str "set"), (.tuple []), (.tuple [(.str "set"), oneD]), (.tuple [(.str "set"), oneD, (.int 1), (.tuple [(.tuple [(.int 0)])])]), (.tuple [(.str "sets"), oneD, (.int 1), (.tuple [(.tuple [(.int 0)])]), (.tuple [])]), (.tuple [(.str "set"), (.tuple []), (.int 1), (.tuple []), (.tuple [])])] : List PyData) ++ ([(.tuple [(.str "set"), oneD, (.int 0), (.tuple [(.tuple [(.int 0)])]), (.tuple [])]), (.tuple [(.str "set"), oneD, (.int 1), (.tuple [(.tuple [(.int 1)])]), (.tuple [])]), (.tuple [(.str "set"), oneD, (.int 1), (.tuple [(.tuple [(.int 0), (.int 0)])]), (.tuple [])]), (.tuple [(.str "set"), oneD, (.int 1), (.tuple [(.tuple [(.int 0)])]), (.tuple [(.int 1)])])] : List PyData)) ++ ([(.tuple [(.str "set"), oneD, (.int 2), (.tuple [(.tuple [(.int 0)])]), (.tuple [(.int 1), (.int 0)])]), (.list [(.str "set"), oneD, (.int 1), (.tuple [(.tuple [(.int 0)])]), (.tuple [])]), (.tuple [(.str "set"), oneD, (.int 1), (.list [(.tuple [(.int 0)])]), (.tuple [])]), (.tuple [(.str "set"), oneD, (.bool true), (.tuple [(.tuple [(.int 0)])]), (.tuple [])])] : List PyData)) ++ ([(.tuple [(.str "set"), oneD, (.int 61), (.tuple [(.tuple [(.int 0)])]), (.tuple [])]), (.tuple [(.str "set"), oneD, (.int 1), (.tuple [(.tuple [(.int 0)])]), (.list [(.int 0)])]), (.tuple [(.str "set"), oneD, (.int 1), (.tuple [(.tuple [(.bool false)])]), (.tuple [])])] : List PyData)
theorem ok__law_bad_set (F : Fun K "_law_bad_set" "_law_bad_set" s__law_bad_set f fd) (B : BI mg) (c__law_pick : Cal P w K mg base 3 "_law_pick" (spPick K) []) : FnOk P w K mg base CX0 4 f fd ["draw"] (spOne K badS) := by
  refine F.ok sc__law_bad_set (fun vs H Q E h => by obtain ⟨_, d, _, _, _, e, _⟩ := h; rw [e]; rfl) (fun cdv A outer s H vs Q E hr h => ?_)
  obtain ⟨F0, d, l, c, n, ev, sm, Fd, Fl, D, hn, q⟩ := h
  subst ev
  refine ⟨_, (pss_cons (ps_set (i := 1) sc__law_bad_set.nd rfl (Or.inl rfl) (pe_tup (pa_cons (pe_tup (pa_cons pe_str (pa_cons pe_int pa_nil))) pa_nil)))
        (pss_cons (ps_set (i := 2) sc__law_bad_set.nd rfl (Or.inl rfl) (pe_lst (pa_cons pe_non (pa_cons pe_int (pa_cons pe_str (pa_cons (pe_tup pa_nil) (pa_cons (pe_tup (pa_cons pe_str (pa_cons (pv 1) pa_nil))) (pa_cons (pe_tup (pa_cons pe_str (pa_cons (pv 1) (pa_cons pe_int (pa_cons (pe_tup (pa_cons (pe_tup (pa_cons pe_int pa_nil)) pa_nil)) pa_nil))))) (pa_cons (pe_tup (pa_cons pe_str (pa_cons (pv 1) (pa_cons pe_int (pa_cons (pe_tup (pa_cons (pe_tup (pa_cons pe_int pa_nil)) pa_nil)) (pa_cons (pe_tup pa_nil) pa_nil)))))) (pa_cons (pe_tup (pa_cons pe_str (pa_cons (pe_tup pa_nil) (pa_cons pe_int (pa_cons (pe_tup pa_nil) (pa_cons (pe_tup pa_nil) pa_nil)))))) pa_nil))))))))))
        (pss_cons (ps_set (i := 2) sc__law_bad_set.nd rfl (Or.inl rfl) (pe_op op_cat (pv 2) (pe_lst (pa_cons (pe_tup (pa_cons pe_str (pa_cons (pv 1) (pa_cons pe_int (pa_cons (pe_tup (pa_cons (pe_tup (pa_cons pe_int pa_nil)) pa_nil)) (pa_cons (pe_tup pa_nil) pa_nil)))))) (pa_cons (pe_tup (pa_cons pe_str (pa_cons (pv 1) (pa_cons pe_int (pa_cons (pe_tup (pa_cons (pe_tup (pa_cons pe_int pa_nil)) pa_nil)) (pa_cons (pe_tup pa_nil) pa_nil)))))) (pa_cons (pe_tup (pa_cons pe_str (pa_cons (pv 1) (pa_cons pe_int (pa_cons (pe_tup (pa_cons (pe_tup (pa_cons pe_int (pa_cons pe_int pa_nil))) pa_nil)) (pa_cons (pe_tup pa_nil) pa_nil)))))) (pa_cons (pe_tup (pa_cons pe_str (pa_cons (pv 1) (pa_cons pe_int (pa_cons (pe_tup (pa_cons (pe_tup (pa_cons pe_int pa_nil)) pa_nil)) (pa_cons (pe_tup (pa_cons pe_int pa_nil)) pa_nil)))))) pa_nil)))))))
        (pss_cons (ps_set (i := 2) sc__law_bad_set.nd rfl (Or.inl rfl) (pe_op op_cat (pv 2) (pe_lst (pa_cons (pe_tup (pa_cons pe_str (pa_cons (pv 1) (pa_cons pe_int (pa_cons (pe_tup (pa_cons (pe_tup (pa_cons pe_int pa_nil)) pa_nil)) (pa_cons (pe_tup (pa_cons pe_int (pa_cons pe_int pa_nil))) pa_nil)))))) (pa_cons (pe_lst (pa_cons pe_str (pa_cons (pv 1) (pa_cons pe_int (pa_cons (pe_tup (pa_cons (pe_tup (pa_cons pe_int pa_nil)) pa_nil)) (pa_cons (pe_tup pa_nil) pa_nil)))))) (pa_cons (pe_tup (pa_cons pe_str (pa_cons (pv 1) (pa_cons pe_int (pa_cons (pe_lst (pa_cons (pe_tup (pa_cons pe_int pa_nil)) pa_nil)) (pa_cons (pe_tup pa_nil) pa_nil)))))) (pa_cons (pe_tup (pa_cons pe_str (pa_cons (pv 1) (pa_cons pe_bl (pa_cons (pe_tup (pa_cons (pe_tup (pa_cons pe_int pa_nil)) pa_nil)) (pa_cons (pe_tup pa_nil) pa_nil)))))) pa_nil)))))))
        (pss_one (ps_ret (pe_c c__law_pick hr (by first | decide | omega) (by rfl) (pa_cons (pv 0) (pa_cons (pe_op op_cat (pv 2) (pe_lst (pa_cons (pe_tup (pa_cons pe_str (pa_cons (pv 1) (pa_cons pe_int (pa_cons (pe_tup (pa_cons (pe_tup (pa_cons pe_int pa_nil)) pa_nil)) (pa_cons (pe_tup pa_nil) pa_nil)))))) (pa_cons (pe_tup (pa_cons pe_str (pa_cons (pv 1) (pa_cons pe_int (pa_cons (pe_tup (pa_cons (pe_tup (pa_cons pe_int pa_nil)) pa_nil)) (pa_cons (pe_lst (pa_cons pe_int pa_nil)) pa_nil)))))) (pa_cons (pe_tup (pa_cons pe_str (pa_cons (pv 1) (pa_cons pe_int (pa_cons (pe_tup (pa_cons (pe_tup (pa_cons pe_bl pa_nil)) pa_nil)) (pa_cons (pe_tup pa_nil) pa_nil)))))) pa_nil))))) pa_nil))))))))), ?_⟩
  refine s_set (K := K) (F := F0) (d := oneD) (ev_tup (ea_cons (ev_tup (ea_cons (ev_str (x := "qaq")) (ea_cons (ev_int (i := 0)) ea_nil)) small) ea_nil) small) sm fun v1 F1 H1 g1 r1 => ?_
  have ev_one : ∀ {σ : L2.St} {G : Hp}, σ[1]? = some (some v1) → Same F1 G → EvD K (tVar 1) σ G oneD := fun {_ _} h s => ev_var (i := 1) ⟨v1, h, r1.up s⟩
  refine s_newL (K := K) (σ := [some (.ref d), some v1, none]) (F := F1) (ds := ([PyData.none, (.int 5), (.str "set"), (.tuple []), (.tuple [(.str "set"), oneD]), (.tuple [(.str "set"), oneD, (.int 1), (.tuple [(.tuple [(.int 0)])])]), (.tuple [(.str "sets"), oneD, (.int 1), (.tuple [(.tuple [(.int 0)])]), (.tuple [])]), (.tuple [(.str "set"), (.tuple []), (.int 1), (.tuple []), (.tuple [])])] : List PyData)) (by have sF : Same F1 F1 := Same.refl F1; exact (ea_cons ev_non (ea_cons (ev_int (i := 5)) (ea_cons (ev_str (x := "set")) (ea_cons (ev_tup ea_nil small) (ea_cons (ev_tup (ea_cons (ev_str (x := "set")) (ea_cons (ev_one rfl sF) ea_nil)) small) (ea_cons (ev_tup (ea_cons (ev_str (x := "set")) (ea_cons (ev_one rfl sF) (ea_cons (ev_int (i := 1)) (ea_cons (ev_tup (ea_cons (ev_tup (ea_cons (ev_int (i := 0)) ea_nil) small) ea_nil) small) ea_nil)))) small) (ea_cons (ev_tup (ea_cons (ev_str (x := "sets")) (ea_cons (ev_one rfl sF) (ea_cons (ev_int (i := 1)) (ea_cons (ev_tup (ea_cons (ev_tup (ea_cons (ev_int (i := 0)) ea_nil) small) ea_nil) small) (ea_cons (ev_tup ea_nil small) ea_nil))))) small) (ea_cons (ev_tup (ea_cons (ev_str (x := "set")) (ea_cons (ev_tup ea_nil small) (ea_cons (ev_int (i := 1)) (ea_cons (ev_tup ea_nil small) (ea_cons (ev_tup ea_nil small) ea_nil))))) small) ea_nil))))))))) g1.i small fun p vs F2 H2 g2 hp r2 => ?_
  have s2 : Same F2 (upd H2 p (.lst vs)) := same_own g2.i (g2.i.free hp)
  have e2 : upd H2 p (.lst vs) p = some (.lst vs) := upd_same
  have h2 : Same H (upd H2 p (.lst vs)) := (g1.h.trans g2.h).trans (same_upd hp)
  obtain ⟨F1d, F1l⟩ := D.frees g1 Fd Fl
  obtain ⟨F2d, F2l⟩ := (D.same g1.h).frees g2 F1d F1l
  have n2 : F2 p = none := g2.i.free hp
  have f12 := g2.f
  generalize upd H2 p (.lst vs) = Ha at s2 e2 h2
  dsimp only
  show tSeq (tAsg _ _) _ _ _ Ha
  refine cat_own (K := K) (F := F2) (H := Ha) (σ := [some (.ref d), some v1, some (.ref p)]) (i := 2) (p := p) (es := ([(.tuple [(.str "set"), oneD, (.int 0), (.tuple [(.tuple [(.int 0)])]), (.tuple [])]), (.tuple [(.str "set"), oneD, (.int 1), (.tuple [(.tuple [(.int 1)])]), (.tuple [])]), (.tuple [(.str "set"), oneD, (.int 1), (.tuple [(.tuple [(.int 0), (.int 0)])]), (.tuple [])]), (.tuple [(.str "set"), oneD, (.int 1), (.tuple [(.tuple [(.int 0)])]), (.tuple [(.int 1)])])] : List PyData)) rfl s2 e2 r2 (by decide) (by have sF : Same F1 F2 := f12; exact (ea_cons (ev_tup (ea_cons (ev_str (x := "set")) (ea_cons (ev_one rfl sF) (ea_cons (ev_int (i := 0)) (ea_cons (ev_tup (ea_cons (ev_tup (ea_cons (ev_int (i := 0)) ea_nil) small) ea_nil) small) (ea_cons (ev_tup ea_nil small) ea_nil))))) small) (ea_cons (ev_tup (ea_cons (ev_str (x := "set")) (ea_cons (ev_one rfl sF) (ea_cons (ev_int (i := 1)) (ea_cons (ev_tup (ea_cons (ev_tup (ea_cons (ev_int (i := 1)) ea_nil) small) ea_nil) small) (ea_cons (ev_tup ea_nil small) ea_nil))))) small) (ea_cons (ev_tup (ea_cons (ev_str (x := "set")) (ea_cons (ev_one rfl sF) (ea_cons (ev_int (i := 1)) (ea_cons (ev_tup (ea_cons (ev_tup (ea_cons (ev_int (i := 0)) (ea_cons (ev_int (i := 0)) ea_nil)) small) ea_nil) small) (ea_cons (ev_tup ea_nil small) ea_nil))))) small) (ea_cons (ev_tup (ea_cons (ev_str (x := "set")) (ea_cons (ev_one rfl sF) (ea_cons (ev_int (i := 1)) (ea_cons (ev_tup (ea_cons (ev_tup (ea_cons (ev_int (i := 0)) ea_nil) small) ea_nil) small) (ea_cons (ev_tup (ea_cons (ev_int (i := 1)) ea_nil) small) ea_nil))))) small) ea_nil))))) (by decide) fun p3 ws F3 H3 g3 hp3 r3 => ?_
  have s3 : Same F3 (upd H3 p3 (.lst ws)) := same_own g3.i (g3.i.free hp3)
  have e3 : upd H3 p3 (.lst ws) p3 = some (.lst ws) := upd_same
  have h3 : Same H (upd H3 p3 (.lst ws)) := (h2.trans g3.h).trans (same_upd hp3)
  obtain ⟨F3d, F3l⟩ := (D.same h2).frees g3 F2d F2l
  have f13 := f12.trans g3.f
  generalize upd H3 p3 (.lst ws) = Hb at s3 e3 h3
  dsimp only
  show tSeq (tAsg _ _) _ _ _ Hb
  refine cat_own (K := K) (F := F3) (H := Hb) (σ := [some (.ref d), some v1, some (.ref p3)]) (i := 2) (p := p3) (es := ([(.tuple [(.str "set"), oneD, (.int 2), (.tuple [(.tuple [(.int 0)])]), (.tuple [(.int 1), (.int 0)])]), (.list [(.str "set"), oneD, (.int 1), (.tuple [(.tuple [(.int 0)])]), (.tuple [])]), (.tuple [(.str "set"), oneD, (.int 1), (.list [(.tuple [(.int 0)])]), (.tuple [])]), (.tuple [(.str "set"), oneD, (.bool true), (.tuple [(.tuple [(.int 0)])]), (.tuple [])])] : List PyData)) rfl s3 e3 r3 (by decide) (by have sF : Same F1 F3 := f13; exact (ea_cons (ev_tup (ea_cons (ev_str (x := "set")) (ea_cons (ev_one rfl sF) (ea_cons (ev_int (i := 2)) (ea_cons (ev_tup (ea_cons (ev_tup (ea_cons (ev_int (i := 0)) ea_nil) small) ea_nil) small) (ea_cons (ev_tup (ea_cons (ev_int (i := 1)) (ea_cons (ev_int (i := 0)) ea_nil)) small) ea_nil))))) small) (ea_cons (ev_lst (ea_cons (ev_str (x := "set")) (ea_cons (ev_one rfl sF) (ea_cons (ev_int (i := 1)) (ea_cons (ev_tup (ea_cons (ev_tup (ea_cons (ev_int (i := 0)) ea_nil) small) ea_nil) small) (ea_cons (ev_tup ea_nil small) ea_nil))))) small) (ea_cons (ev_tup (ea_cons (ev_str (x := "set")) (ea_cons (ev_one rfl sF) (ea_cons (ev_int (i := 1)) (ea_cons (ev_lst (ea_cons (ev_tup (ea_cons (ev_int (i := 0)) ea_nil) small) ea_nil) small) (ea_cons (ev_tup ea_nil small) ea_nil))))) small) (ea_cons (ev_tup (ea_cons (ev_str (x := "set")) (ea_cons (ev_one rfl sF) (ea_cons (ev_bl (x := true)) (ea_cons (ev_tup (ea_cons (ev_tup (ea_cons (ev_int (i := 0)) ea_nil) small) ea_nil) small) (ea_cons (ev_tup ea_nil small) ea_nil))))) small) ea_nil))))) (by decide) fun p4 us F4 H4 g4 hp4 r4 => ?_
  have s4 : Same F4 (upd H4 p4 (.lst us)) := same_own g4.i (g4.i.free hp4)
  have e4 : upd H4 p4 (.lst us) p4 = some (.lst us) := upd_same
  have h4 : Same H (upd H4 p4 (.lst us)) := (h3.trans g4.h).trans (same_upd hp4)
  obtain ⟨F4d, F4l⟩ := (D.same h3).frees g4 F3d F3l
  have f14 := f13.trans g4.f
  generalize upd H4 p4 (.lst us) = Hc at s4 e4 h4
  dsimp only
  refine ⟨.ref d, rfl, ?_⟩
  show tCons (tOp _ _ _) tNil _ _ _
  refine cons_one (cat_own (K := K) (F := F4) (H := Hc) (σ := [some (.ref d), some v1, some (.ref p4)]) (i := 2) (p := p4) (es := ([(.tuple [(.str "set"), oneD, (.int 61), (.tuple [(.tuple [(.int 0)])]), (.tuple [])]), (.tuple [(.str "set"), oneD, (.int 1), (.tuple [(.tuple [(.int 0)])]), (.list [(.int 0)])]), (.tuple [(.str "set"), oneD, (.int 1), (.tuple [(.tuple [(.bool false)])]), (.tuple [])])] : List PyData)) rfl s4 e4 r4 (by decide) (by have sF : Same F1 F4 := f14; exact (ea_cons (ev_tup (ea_cons (ev_str (x := "set")) (ea_cons (ev_one rfl sF) (ea_cons (ev_int (i := 61)) (ea_cons (ev_tup (ea_cons (ev_tup (ea_cons (ev_int (i := 0)) ea_nil) small) ea_nil) small) (ea_cons (ev_tup ea_nil small) ea_nil))))) small) (ea_cons (ev_tup (ea_cons (ev_str (x := "set")) (ea_cons (ev_one rfl sF) (ea_cons (ev_int (i := 1)) (ea_cons (ev_tup (ea_cons (ev_tup (ea_cons (ev_int (i := 0)) ea_nil) small) ea_nil) small) (ea_cons (ev_lst (ea_cons (ev_int (i := 0)) ea_nil) small) ea_nil))))) small) (ea_cons (ev_tup (ea_cons (ev_str (x := "set")) (ea_cons (ev_one rfl sF) (ea_cons (ev_int (i := 1)) (ea_cons (ev_tup (ea_cons (ev_tup (ea_cons (ev_bl (x := false)) ea_nil) small) ea_nil) small) (ea_cons (ev_tup ea_nil small) ea_nil))))) small) ea_nil)))) (by decide) fun p5 xs F5 H5 g5 hp5 r5 => ?_)
  have D4 := D.same h4
  obtain ⟨F5d, F5l⟩ := D4.frees g5 F4d F4l
  have D5 := D4.same g5.h
  have g6 : Grow F5 H5 (upd F5 p5 (.lst xs)) (upd H5 p5 (.lst xs)) := .known g5.i hp5
  obtain ⟨F6d, F6l⟩ := D5.frees g6 F5d F5l
  have sH : Same H (upd H5 p5 (.lst xs)) := h4.trans (g5.h.trans g6.h)
  refine ⟨upd F5 p5 (.lst xs), d, l, c, n, .ref p5, badS, g6.i, F6d, F6l, rfl, .lst (.inl (.inl upd_same)) (r5.up g6.f), by decide, by decide, D5.same g6.h, by omega, fun e v H' he hv k' D' => ?_⟩
  exact q v e _ H' he hv (((g1.f.trans f14).trans g5.f).trans g6.f) (k'.same g6.i F6d F6l) F6d F6l ((Keeps.of sH).trans k') D'
theorem badS_no : ∀ d ∈ badS, isSet d = false ∧ fitsA d = true := by decide +kernel
end
end Sx
set_option Elab.async false
set_option linter.all false
set_option maxRecDepth 100000
set_option maxHeartbeats 2000000
set_option exponentiation.threshold 3000
namespace Sx
open PySem PySem.Spec PyProof.Rows L2
open C8 (Cal pe_c pe_gc)
/-- what stands while one draws -/
structure StD (F0 H0 : Hp) (d l c : Addr) (F H : Hp) (n : Nat) : Prop where
  same : Same F H
  fd : F d = none
  fl : F l = none
  dr : DrawAt H d l c n
  kp : Keeps d l H0 H
  nw : NewIn F0 H0 F
  sf : Same F0 F
section
variable {K : PySem.W.Frag} {σ : L2.St} {F0 H0 F H : Hp} {d l c : Addr} {n : Nat}
theorem StD.grow {F' H' : Hp} (S : StD F0 H0 d l c F H n) (g : Grow F H F' H') : StD F0 H0 d l c F' H' n := by
  obtain ⟨a, b⟩ := S.dr.frees g S.fd S.fl
  exact ⟨g.i, a, b, S.dr.same g.h, S.kp.trans (.of g.h), new_two S.kp S.nw g.n a b, S.sf.trans g.f⟩
theorem StD.draw {H' : Hp} {m : Nat} (S : StD F0 H0 d l c F H n) (k : Keeps d l H H') (D : DrawAt H' d l c m) : StD F0 H0 d l c F H' m :=
  ⟨k.same S.same S.fd S.fl, S.fd, S.fl, D, S.kp.trans k, S.nw, S.sf⟩
theorem StD.more {m : Nat} (S : StD F0 H0 d l c F H n) (h : n ≤ m) : StD F0 H0 d l c F H m := ⟨S.same, S.fd, S.fl, S.dr.more h, S.kp, S.nw, S.sf⟩
abbrev tDraw (K : PySem.W.Frag) (m : Int) : TT := tTest (tOp (rI0 fun i j => .bl (decide (i > j))) (tCall spTake [] C8.E0 (tCons (tVar 0) (tCons (tC (.int m)) tNil))) (tC (.int 0)))
theorem s_condD {D : Ends} {tt : TT} {ts tw : TS} {b : Bool} (S : StD F0 H0 d l c F H n) (h0 : σ[0]? = some (some (.ref d))) (hn : n ≤ 2 ^ 40) (hb : EvB tt σ F b)
    (k1 : b = true → ∀ F' H', StD F0 H0 d l c F' H' (n + 1) → Same F F' → ts { D with nx := tw D } σ H') (k2 : ∀ F' H', StD F0 H0 d l c F' H' (n + 1) → Same F F' → tw D σ H') :
    tSeq (tIfS (tAnd tt (tDraw K 3)) ts tNext) tw D σ H := hb H S.same _ fun F1 H1 g1 => by
  have S1 := S.grow g1
  cases b with
  | false => exact k2 F1 H1 (S1.more (Nat.le_succ _)) g1.f
  | true =>
    refine ⟨.ref d, h0, d, l, c, n, 3, rfl, S1.dr, hn, by decide, by decide, fun i H2 hi k D2 => ⟨(i : Int), 0, rfl, rfl, _, rfl, ?_⟩⟩
    dsimp only
    split
    · exact k1 rfl F1 H2 (S1.draw k D2) g1.f
    · exact k2 F1 H2 (S1.draw k D2) g1.f
theorem pick_ev {te : TE} {es : List PyData} {Q : VK} (S : StD F0 H0 d l c F H n) (h0 : σ[0]? = some (some (.ref d))) (hn : n ≤ 2 ^ 40) (h : EvD K te σ F (.list es)) (h1 : 1 ≤ es.length) (h2 : es.length ≤ 1000)
    (k : ∀ e v G H', e ∈ es → Dq K G v e → StD F0 H0 d l c G H' (n + 1) → Same F G → Q v H') : tCall (spPick K) [] C8.E0 (tCons (tVar 0) (tCons te tNil)) σ H Q :=
  ⟨.ref d, h0, h H S.same _ fun y F1 H1 g1 r1 => by
    have S1 := S.grow g1
    exact ⟨F1, d, l, c, n, y, es, S1.same, S1.fd, S1.fl, rfl, r1, h1, h2, S1.dr, hn, fun e v H' he hv k' D' => k e v F1 H' he hv (S1.draw k' D') g1.f⟩⟩
theorem ev_catF {i : Nat} {wa : Addr} {ws : List V} {ds es : List PyData} {ta : TA} (hi : σ[i]? = some (some (.ref wa))) (hF : F wa = some (.lst ws)) (rw_ : DqAll K F ws ds) (hds : ds.length ≤ 100) (h : EvS K ta σ F es) (hes : es.length ≤ 40) : EvD K (tOp rCat (tVar i) (tLst ta)) σ F (.list (ds ++ es)) := fun H s Q q =>
  cat_own (K := K) (F := F) hi s (s _ _ hF) rw_ hds h hes fun p3 ws3 F3 H3 g3 hp3 r3 => q _ _ _ (g3.trans (.known g3.i hp3)) (.lst (.inl (.inl upd_same)) (r3.up (same_upd (g3.i.free hp3))))
theorem ev_emp : EvD K tDNewK σ F (.dict []) := fun H s Q q => fun p hp => q _ _ _ (.known s hp) (.emp upd_same)
theorem ev_neg {te : TE} {i : Int} (h : EvD K te σ F (.int i)) : EvD K (tUn (rU fun i => .int (-i)) te) σ F (.int (-i)) := fun H s Q q => h H s _ fun v F1 H1 g r => by
  cases r
  exact ⟨i, rfl, q _ F1 H1 g (.int _)⟩
end
end Sx
set_option Elab.async false
set_option linter.all false
set_option maxRecDepth 100000
set_option maxHeartbeats 4000000
set_option exponentiation.threshold 3000
namespace Sx
open PySem PySem.Spec PyProof.Rows L2
open C8 (Cal pe_c pe_gc)
def oddT (ds : List PyData) (a : Nat) : List PyData := [.tuple (ds.take a ++ ds.drop (a + 1)), .tuple ((ds.take a ++ (ds.drop a).take 1) ++ ds.drop a), .tuple ds.reverse, .list ds, .tuple (ds ++ [.none]), .tuple []]
def oddS (z : Str) : List PyData := [.str (z ++ "a"), .str (cutS z none (some (-1))), .str (Txt.upper z), .tuple [.str z], .str "a b", .str "a1", .str "abcdefghi", .str ""]
def oddI (i : Int) : List PyData := [.int (i + 1), .int (i - 1), .int 0, .int 1, .int 2, .int 3, .int 7, .int 300, .int 301, .int (-1), .bool true, .bool false, .str (toString i), .tuple [.int i]]
def oddC : List PyData := [.none, .int 0, .int 5, .bool true, .str "a", .str "", .tuple [], .list [], .dict [], .tuple [.str "a"], .tuple [.str "yes"], .int (-1)]
def Odd (words : List Str) (p e : PyData) : Prop := (∃ ds a, p = .tuple ds ∧ a ≤ ds.length ∧ e ∈ oddT ds a) ∨ (∃ z, p = .str z ∧ e ∈ words.map .str ++ oddS z) ∨ (∃ i, p = .int i ∧ e ∈ oddI i) ∨ e ∈ oddC
theorem s_condD3 {K : PySem.W.Frag} {σ : L2.St} {F0 H0 F H : Hp} {d l c : Addr} {n : Nat} {D : Ends} {t1 t2 : TT} {ts tw : TS} {b1 b2 : Bool} (S : StD F0 H0 d l c F H n) (h0 : σ[0]? = some (some (.ref d))) (hn : n ≤ 2 ^ 40) (hb1 : EvB t1 σ F b1) (hb2 : EvB t2 σ F b2)
    (k1 : b1 = true → b2 = true → ∀ F' H', StD F0 H0 d l c F' H' (n + 1) → Same F F' → ts { D with nx := tw D } σ H') (k2 : ∀ F' H', StD F0 H0 d l c F' H' (n + 1) → Same F F' → tw D σ H') :
    tSeq (tIfS (tAnd t1 (tAnd t2 (tDraw K 3))) ts tNext) tw D σ H := hb1 H S.same _ fun F1 H1 g1 => by
  have S1 := S.grow g1
  cases b1 with
  | false => exact k2 F1 H1 (S1.more (Nat.le_succ _)) g1.f
  | true =>
    refine hb2.up g1.f H1 g1.i _ fun F2 H2 g2 => ?_
    have S2 := S1.grow g2
    cases b2 with
    | false => exact k2 F2 H2 (S2.more (Nat.le_succ _)) (g1.f.trans g2.f)
    | true =>
      refine ⟨.ref d, h0, d, l, c, n, 3, rfl, S2.dr, hn, by decide, by decide, fun i H3 hi k D2 => ⟨(i : Int), 0, rfl, rfl, _, rfl, ?_⟩⟩
      dsimp only
      split
      · exact k1 rfl rfl F2 H3 (S2.draw k D2) (g1.f.trans g2.f)
      · exact k2 F2 H3 (S2.draw k D2) (g1.f.trans g2.f)
theorem ev_strI {K : PySem.W.Frag} {σ : L2.St} {F : Hp} {te : TE} {i : Int} (h : EvD K te σ F (.int i)) (hi : i.natAbs.log2 < 1920) : EvD K (tCB (fun xs H Q => ∃ i, xs = [V.int i] ∧ i.natAbs.log2 < 1920 ∧ Q (.str (toString i)) H) (tCons te tNil)) σ F (.str (toString i)) := fun H s Q q => h H s _ fun v F1 H1 g r => by
  cases r
  exact ⟨i, rfl, hi, q _ F1 H1 g (.str _)⟩
section
variable {P : Program} {w : World} {K : PySem.W.Frag} {mg : Str → Option Value} {base : Heap} {f : Addr} {fd : FuncData} {aK CK CN CS : Addr}
/-! ### _law_odd -/
abbrev s__law_odd : Stmt := top 39
theorem sc__law_odd : FnScope ["draw", "part", "words", "at", "some"] ["draw", "part", "words"] (defScope s__law_odd) := ⟨rfl, rfl, rfl, by decide +kernel, rfl, by decide +kernel, by decide +kernel⟩
def spOdd (K : PySem.W.Frag) : Sp := fun vs H Q _ => ∃ (F0 H0 F : Hp) (d l c wa : Addr) (n : Nat) (y : V) (p : PyData) (ws : List V) (words : List Str), StD F0 H0 d l c F H n ∧ n + 10 ≤ 2 ^ 40 ∧ vs = [.ref d, y, .ref wa] ∧ Dq K F y p ∧ weight p ≤ 1000 ∧ (∀ i, p = .int i → i.natAbs ≤ 1000) ∧ F wa = some (.lst ws) ∧ DqAll K F ws (words.map .str) ∧ words.length ≤ 20 ∧
  ∀ e v G H', Odd words p e → Dq K G v e → StD F0 H0 d l c G H' (n + 5) → Same F G → Q v H'
theorem ok__law_odd (F : Fun K "_law_odd" "_law_odd" s__law_odd f fd) (B : BI mg) (c__law_take : Cal P w K mg base 2 "_law_take" spTake []) (c__law_pick : Cal P w K mg base 3 "_law_pick" (spPick K) []) : FnOk P w K mg base CX0 4 f fd ["draw", "part", "words"] (spOdd K) := by
  refine F.ok sc__law_odd (fun vs H Q E h => by obtain ⟨_, _, _, d, _, _, _, _, _, _, _, _, _, _, e, _⟩ := h; rw [e]; rfl) (fun cdv A outer s H vs Q E hr h => ?_)
  obtain ⟨F0, H0, Fa, d, l, c, wa, n, y, p, ws, words, S, hn, ev, ry, hwt, hint, hwa, rws, hwl, q⟩ := h
  subst ev
  refine ⟨_, (pss_cons (ps_if (PW.pt (pw_and (pt_val (pe_callB (r := rIsi K) (call_isi) (by rfl) B.isinstance (by decide +kernel) (pa_cons (pv 1) (pa_cons (pe_bltn (v := .ty "tuple") (by rfl) B.tuple (by decide +kernel) rfl) pa_nil)))) (pw_and1 (pt_cmpR (op_gt) (pe_c c__law_take hr (by first | decide | omega) (by rfl) (pa_cons (pv 0) (pa_cons pe_int pa_nil))) pe_int (nomark _))))) (pss_cons (ps_set (i := 3) sc__law_odd.nd rfl (Or.inl rfl) (pe_c c__law_take hr (by first | decide | omega) (by rfl) (pa_cons (pv 0) (pa_cons (pe_op (op_add) (pe_callB (r := rLen0 K) (call_len) (by rfl) B.len (by decide +kernel) (pa_cons (pv 1) pa_nil)) pe_int) pa_nil))))
        (pss_cons (ps_set (i := 4) sc__law_odd.nd rfl (Or.inl rfl) (pe_lst (pa_cons (pe_op (r := rCatA K) op_catA (pe_slice (r := rSlA K) sl_tupA (pv 1) po_none (po_some (pv 3))) (pe_slice (r := rSlA K) sl_tupA (pv 1) (po_some (pe_op (op_add) (pv 3) pe_int)) po_none)) (pa_cons (pe_op (r := rCatA K) op_catA (pe_op (r := rCatA K) op_catA (pe_slice (r := rSlA K) sl_tupA (pv 1) po_none (po_some (pv 3))) (pe_slice (r := rSlA K) sl_tupA (pv 1) (po_some (pv 3)) (po_some (pe_op (op_add) (pv 3) pe_int)))) (pe_slice (r := rSlA K) sl_tupA (pv 1) (po_some (pv 3)) po_none)) (pa_cons (pe_revT (pv 1) (po_some (pe_un un_neg pe_int))) (pa_cons (pe_callTy (r := rListOf K) (call_list_of) (by rfl) B.list_ (by decide +kernel) (pa_cons (pv 1) pa_nil)) (pa_cons (pe_op (r := rCatA K) op_catA (pv 1) (pe_tup (pa_cons pe_non pa_nil))) (pa_cons (pe_tup pa_nil) pa_nil))))))))
        (pss_one (ps_ret (pe_c c__law_pick hr (by first | decide | omega) (by rfl) (pa_cons (pv 0) (pa_cons (pv 4) pa_nil))))))) pss_nil)
        (pss_cons (ps_if (PW.pt (pw_and (pt_val (pe_callB (r := rIsi K) (call_isi) (by rfl) B.isinstance (by decide +kernel) (pa_cons (pv 1) (pa_cons (pe_bltn (v := .ty "str") (by rfl) B.str_ (by decide +kernel) rfl) pa_nil)))) (pw_and1 (pt_cmpR (op_gt) (pe_c c__law_take hr (by first | decide | omega) (by rfl) (pa_cons (pv 0) (pa_cons pe_int pa_nil))) pe_int (nomark _))))) (pss_one (ps_ret (pe_c c__law_pick hr (by first | decide | omega) (by rfl) (pa_cons (pv 0) (pa_cons (pe_op op_cat (pv 2) (pe_lst (pa_cons (pe_op op_add_str (pv 1) pe_str) (pa_cons (pe_slice (r := rSlS) sl_str (pv 1) po_none (po_some (pe_un un_neg pe_int))) (pa_cons (pe_upper (pv 1)) (pa_cons (pe_tup (pa_cons (pv 1) pa_nil)) (pa_cons pe_str (pa_cons pe_str (pa_cons pe_str (pa_cons pe_str pa_nil)))))))))) pa_nil))))) pss_nil)
        (pss_cons (ps_if (PW.pt (pw_and (pt_val (pe_callB (r := rIsi K) (call_isi) (by rfl) B.isinstance (by decide +kernel) (pa_cons (pv 1) (pa_cons (pe_bltn (v := .ty "int") (by rfl) B.int_ (by decide +kernel) rfl) pa_nil)))) (pw_and (pt_not (pt_val (pe_callB (r := rIsi K) (call_isi) (by rfl) B.isinstance (by decide +kernel) (pa_cons (pv 1) (pa_cons (pe_bltn (v := .ty "bool") (by rfl) B.bool_ (by decide +kernel) rfl) pa_nil))))) (pw_and1 (pt_cmpR (op_gt) (pe_c c__law_take hr (by first | decide | omega) (by rfl) (pa_cons (pv 0) (pa_cons pe_int pa_nil))) pe_int (nomark _)))))) (pss_one (ps_ret (pe_c c__law_pick hr (by first | decide | omega) (by rfl) (pa_cons (pv 0) (pa_cons (pe_lst (pa_cons (pe_op (op_add) (pv 1) pe_int) (pa_cons (pe_op (op_sub) (pv 1) pe_int) (pa_cons pe_int (pa_cons pe_int (pa_cons pe_int (pa_cons pe_int (pa_cons pe_int (pa_cons pe_int (pa_cons pe_int (pa_cons (pe_un un_neg pe_int) (pa_cons pe_bl (pa_cons pe_bl (pa_cons (pe_callTy (call_str_int) (by rfl) B.str_ (by decide +kernel) (pa_cons (pv 1) pa_nil)) (pa_cons (pe_tup (pa_cons (pv 1) pa_nil)) pa_nil))))))))))))))) pa_nil))))) pss_nil)
        (pss_one (ps_ret (pe_c c__law_pick hr (by first | decide | omega) (by rfl) (pa_cons (pv 0) (pa_cons (pe_lst (pa_cons pe_non (pa_cons pe_int (pa_cons pe_int (pa_cons pe_bl (pa_cons pe_str (pa_cons pe_str (pa_cons (pe_tup pa_nil) (pa_cons (pe_lst pa_nil) (pa_cons pe_dnewK (pa_cons (pe_tup (pa_cons pe_str pa_nil)) (pa_cons (pe_tup (pa_cons pe_str pa_nil)) (pa_cons (pe_un un_neg pe_int) pa_nil))))))))))))) pa_nil)))))))), ?_⟩
  have e1 : ∀ {σ : L2.St} {G : Hp}, σ[1]? = some (some y) → Same Fa G → EvD K (tVar 1) σ G p := fun {_ _} h s => ev_var (i := 1) ⟨y, h, ry.up s⟩
  refine s_condD (K := K) (F := Fa) S rfl (by omega) (eb_val (ev_isi (e1 rfl (Same.refl _)) (kit_tup p))) (fun hb F1 H1 S1 s1 => ?_) fun F1 H1 S1 s1 => ?_
  · obtain ⟨ds, rfl⟩ : ∃ ds, p = .tuple ds := by
      cases p with
      | tuple ds => exact ⟨ds, rfl⟩
      | _ => cases hb
    have hdl : ds.length ≤ 1000 := by
      have := weights_len ds
      simp only [weight] at hwt
      omega
    have big : 3000 ≤ sizeLine := by rw [sizeLine_eq]; decide
    -- at
    refine ⟨.ref d, rfl, ?_⟩
    show tCons (tOp _ _ _) tNil _ _ _
    refine cons_one ?_
    refine ev_op (ev1 (e1 (σ := start ["draw", "part", "words", "at", "some"] [.ref d, y, .ref wa]) rfl s1) rc_lenT) (ev_int (i := 1)) (rv_int (g := fun i j => i + j)) H1 S1.same _ fun u F2 H2 g2 r2 => ?_
    cases r2
    have S2 := S1.grow g2
    refine ⟨d, l, c, n + 1, (ds.length : Int) + 1, rfl, S2.dr, by omega, by omega, by omega, fun a H3 ha k3 D3 => ?_⟩
    have S3 := S2.draw k3 D3
    have s3 : Same Fa F2 := s1.trans g2.f
    dsimp only
    have ea : ∀ {G : Hp}, EvD K (tVar 3) [some (.ref d), some y, some (.ref wa), some (.int (a : Int)), none] G (.int (a : Int)) := fun {_} => ev_var (i := 3) ⟨_, rfl, .int (a : Int)⟩
    have ea1 : ∀ {G : Hp}, EvD K (tOp (rI0 fun i j => V.int (i + j)) (tVar 3) (tC (.int 1))) [some (.ref d), some y, some (.ref wa), some (.int (a : Int)), none] G (.int (((a + 1 : Nat) : Nat) : Int)) := fun {_} => ev_op ea (ev_int (i := 1)) (rv_int (g := fun i j => i + j))
    have ep := e1 (σ := [some (.ref d), some y, some (.ref wa), some (.int (a : Int)), none]) rfl s3
    have c1 := (ev_sl ep eo_none (eo_some ea) rs_tup).is (congrArg PyData.tuple (cut_to a ds))
    have c2 := (ev_sl ep (eo_some ea1) eo_none rs_tup).is (congrArg PyData.tuple (cut_from (a + 1) ds))
    have c3 := (ev_sl ep (eo_some ea) (eo_some ea1) rs_tup).is (d1 := .tuple ((ds.drop a).take 1)) (congrArg PyData.tuple (by
      unfold cutD
      have m1 : min a ds.length = a := Nat.min_eq_left (by omega)
      rw [HT.sIx_nat, HT.sIx_nat, m1]
      by_cases h : a + 1 ≤ ds.length
      · rw [Nat.min_eq_left h, show a + 1 - a = 1 by omega]
      · rw [List.drop_eq_nil_of_le (show ds.length ≤ a by omega)]
        simp))
    have c4 := (ev_sl ep (eo_some ea) eo_none rs_tup).is (congrArg PyData.tuple (cut_from a ds))
    have lt : (ds.take a).length ≤ 1000 := by rw [List.length_take]; omega
    have ld : ∀ k, (ds.drop k).length ≤ 1000 := fun k => by rw [List.length_drop]; omega
    have lu : ((ds.drop a).take 1).length ≤ 1 := by rw [List.length_take]; omega
    have ex : EvS K _ _ F2 (oddT ds a) := ea_cons (ev_op c1 c2 (rv_catT (by have := ld (a + 1); omega)))
      (ea_cons (ev_op (ev_op c1 c3 (rv_catT (by omega))) c4 (rv_catT (by have := ld a; rw [List.length_append]; omega)))
      (ea_cons (ev_revT ep (eo_some (ev_neg (ev_int (i := 1))))) (ea_cons (ev1 ep rc_listT) (ea_cons (ev_op ep (ev_tup (ea_cons ev_non ea_nil) (by show 1 ≤ sizeLine; omega)) (rv_catT (by show ds.length + 1 ≤ sizeLine; omega))) (ea_cons (ev_tup ea_nil (Nat.zero_le _)) ea_nil)))))
    refine s_set (K := K) (F := F2) (d := .list (oddT ds a)) (ev_lst ex (by show 6 ≤ sizeLine; omega)) S3.same fun v F4 H4 g4 r4 => ?_
    have S4 := S3.grow g4
    refine pick_ev S4 rfl (by omega) (ev_var (i := 4) ⟨v, rfl, r4⟩) (by show 1 ≤ 6; decide) (by show 6 ≤ 1000; decide) fun e v G H' he hv S5 s5 => ?_
    exact q e v G H' (.inl ⟨ds, a, rfl, by omega, he⟩) hv (S5.more (by omega)) ((s3.trans g4.f).trans s5)
  refine s_condD (K := K) (F := F1) S1 rfl (by omega) (eb_val (ev_isi (e1 rfl s1) (kit_str p))) (fun hb F2 H2 S2 s2 => ?_) fun F2 H2 S2 s2 => ?_
  · obtain ⟨z, rfl⟩ : ∃ z, p = .str z := by
      cases p with
      | str z => exact ⟨z, rfl⟩
      | _ => cases hb
    have hzl : z.length ≤ 1000 := by
      simp only [weight] at hwt
      omega
    have big : 10000 ≤ sizeLine := by rw [sizeLine_eq]; decide
    have s12 := s1.trans s2
    have ep := e1 (σ := start ["draw", "part", "words", "at", "some"] [.ref d, y, .ref wa]) rfl s12
    have eu : EvD K (tM0 (fun x xs H Q => ∃ a, x = .str a ∧ xs = [] ∧ a.length ≤ 5592405 ∧ Q (.str (Txt.upper a)) H) (tVar 1)) (start ["draw", "part", "words", "at", "some"] [.ref d, y, .ref wa]) F2 (.str (Txt.upper z)) := fun H s Q q => ep H s _ fun v F' H' g r => by
      cases r
      exact ⟨⟨z, rfl⟩, z, rfl, rfl, by omega, q _ F' H' g (.str _)⟩
    have es : EvD K (tSl rSlS (tVar 1) tNoPart (tPart (tUn (rU fun i => .int (-i)) (tC (.int 1))))) (start ["draw", "part", "words", "at", "some"] [.ref d, y, .ref wa]) F2 (.str (cutS z none (some (-1)))) := ev_sl ep eo_none (eo_some (ev_neg (ev_int (i := 1)))) fun F x H s r Q q => by
      cases r
      exact ⟨z, rfl, by omega, q _ F H (.start s) (.str _)⟩
    refine pick_ev S2 rfl (by omega) (ev_catF (i := 2) (wa := wa) (es := oddS z) rfl (s12 _ _ hwa) (rws.up s12) (by rw [List.length_map]; omega) (ea_cons (ev_op ep (ev_str (x := "a")) (rv_addS (by show z.length + 1 ≤ sizeLine; omega))) (ea_cons es (ea_cons eu (ea_cons (ev_tup (ea_cons ep ea_nil) (by show 1 ≤ sizeLine; omega)) (ea_cons ev_str (ea_cons ev_str (ea_cons ev_str (ea_cons ev_str ea_nil)))))))) (by show 8 ≤ 40; decide)) (by rw [List.length_append]; show 1 ≤ _ + 8; omega) (by rw [List.length_append, List.length_map]; show _ + 8 ≤ 1000; omega) fun e v G H' he hv S5 s5 => ?_
    exact q e v G H' (.inr (.inl ⟨z, rfl, he⟩)) hv (S5.more (by omega)) (s12.trans s5)
  refine s_condD3 (K := K) (F := F2) S2 rfl (by omega) (eb_val (ev_isi (e1 rfl (s1.trans s2)) (kit_int p))) (eb_not (eb_val (ev_isi (e1 rfl (s1.trans s2)) (kit_bool p)))) (fun hb hb2 F3 H3 S3 s3 => ?_) fun F3 H3 S3 s3 => ?_
  · obtain ⟨i, rfl⟩ : ∃ i, p = .int i := by
      cases p with
      | int i => exact ⟨i, rfl⟩
      | bool b => cases hb2
      | _ => cases hb
    have s13 := (s1.trans s2).trans s3
    have ep := e1 (σ := start ["draw", "part", "words", "at", "some"] [.ref d, y, .ref wa]) rfl s13
    have hlog : i.natAbs.log2 < 1920 := by
      have h1 := hint i rfl
      by_cases h0 : i.natAbs = 0
      · rw [h0]
        decide
      · refine (Nat.log2_lt h0).mpr (Nat.lt_of_le_of_lt h1 ?_)
        exact Nat.lt_of_lt_of_le (show 1000 < 2 ^ 10 by decide) (Nat.pow_le_pow_right (by decide) (by decide))
    refine pick_ev S3 rfl (by omega) (ev_lst (ds := oddI i) (ea_cons (ev_op ep (ev_int (i := 1)) (rv_int (g := fun i j => i + j))) (ea_cons (ev_op ep (ev_int (i := 1)) (rv_int (g := fun i j => i - j))) (ea_cons ev_int (ea_cons ev_int (ea_cons ev_int (ea_cons ev_int (ea_cons ev_int (ea_cons ev_int (ea_cons ev_int (ea_cons (ev_neg (ev_int (i := 1))) (ea_cons ev_bl (ea_cons ev_bl (ea_cons (ev_strI ep hlog) (ea_cons (ev_tup (ea_cons ep ea_nil) (small (n := 1))) ea_nil)))))))))))))) (small (n := 14))) (by show 1 ≤ 14; decide) (by show 14 ≤ 1000; decide) fun e v G H' he hv S5 s5 => ?_
    exact q e v G H' (.inr (.inr (.inl ⟨i, rfl, he⟩))) hv (S5.more (by omega)) (s13.trans s5)
  refine pick_ev S3 rfl (by omega) (ev_lst (ds := oddC) (ea_cons ev_non (ea_cons ev_int (ea_cons ev_int (ea_cons ev_bl (ea_cons ev_str (ea_cons ev_str (ea_cons (ev_tup ea_nil (Nat.zero_le _)) (ea_cons (ev_lst ea_nil (Nat.zero_le _)) (ea_cons ev_emp (ea_cons (ev_tup (ea_cons ev_str ea_nil) small) (ea_cons (ev_tup (ea_cons ev_str ea_nil) small) (ea_cons (ev_neg (ev_int (i := 1))) ea_nil)))))))))))) small) (by show 1 ≤ 12; decide) (by show 12 ≤ 1000; decide) fun e v G H' he hv S5 s5 => ?_
  exact q e v G H' (.inr (.inr (.inr he))) hv (S5.more (by omega)) (((s1.trans s2).trans s3).trans s5)
end
end Sx
set_option Elab.async false
set_option linter.all false
set_option maxRecDepth 100000
set_option maxHeartbeats 2000000
set_option exponentiation.threshold 3000
namespace Sx
open PySem PySem.Spec PyProof.Rows L2
open C8 (Cal pe_c pe_gc)
theorem part_wt : ∀ (p : List Nat) (d e : PyData), partAt d p = some e → weight e ≤ weight d
  | [], d, e, h => by
    cases h
    exact Nat.le_refl _
  | k :: p, d, e, h => by
    obtain ⟨ds, d', rfl, h1, h2⟩ := part_cons h
    have h3 := part_wt p d' e h2
    have h4 := weights_mem (List.mem_of_getElem? h1)
    simp only [weight]
    omega
theorem s_asgC {σ : L2.St} {H : Hp} {D : Ends} {i : Nat} {te : TE} (h : te σ H fun v H' => D.nx (σ.set i (some v)) H') : tAsg te (gName i) D σ H := h
section
variable {P : Program} {w : World} {K : PySem.W.Frag} {mg : Str → Option Value} {base : Heap} {f : Addr} {fd : FuncData} {aK CK CN CS : Addr}
/-! ### _law_bent -/
abbrev s__law_bent : Stmt := top 40
theorem sc__law_bent : FnScope ["draw", "thing", "words", "path"] ["draw", "thing", "words"] (defScope s__law_bent) := ⟨rfl, rfl, rfl, by decide +kernel, rfl, by decide +kernel, by decide +kernel⟩
def spBent (K : PySem.W.Frag) : Sp := fun vs H Q _ => ∃ (F0 H0 F : Hp) (d l c wa : Addr) (n : Nat) (x : V) (t : PyData) (ws : List V) (words : List Str), StD F0 H0 d l c F H n ∧ n + 20 ≤ 2 ^ 40 ∧ vs = [.ref d, x, .ref wa] ∧ Dq K F x t ∧ weight t ≤ 1000 ∧ nestOk 40 t = true ∧ (∀ p i, partAt t p = some (.int i) → i.natAbs ≤ 1000) ∧ F wa = some (.lst ws) ∧ DqAll K F ws (words.map .str) ∧ words.length ≤ 20 ∧
  ∀ p o e v G H', p ∈ pathsOf t → partAt t p = some o → Odd words o e → Dq K G v (putAt t p e) → StD F0 H0 d l c G H' (n + 10) → Same F G → Q v H'
theorem ok__law_bent (F : Fun K "_law_bent" "_law_bent" s__law_bent f fd) (B : BI mg) (c__law_pick : Cal P w K mg base 3 "_law_pick" (spPick K) []) (c__law_paths : Cal P w K mg base 41 "_law_paths" (spD K (f1 (g_law_paths 40))) []) (c__law_part : Cal P w K mg base 41 "_law_part" (spPart K 40) []) (c__law_put : Cal P w K mg base 41 "_law_put" (spPut K 40) []) (c__law_odd : Cal P w K mg base 4 "_law_odd" (spOdd K) []) : FnOk P w K mg base CX0 42 f fd ["draw", "thing", "words"] (spBent K) := by
  refine F.ok sc__law_bent (fun vs H Q E h => by obtain ⟨_, _, _, d, _, _, _, _, _, _, _, _, _, _, e, _⟩ := h; rw [e]; rfl) (fun cdv A outer s H vs Q E hr h => ?_)
  obtain ⟨F0, H0, Fa, d, l, c, wa, n, x, t, ws, words, S, hn, ev, rx, hwt, hnest, hint, hwa, rws, hwl, q⟩ := h
  subst ev
  refine ⟨_, (pss_cons (ps_set (i := 3) sc__law_bent.nd rfl (Or.inl rfl) (pe_c c__law_pick hr (by first | decide | omega) (by rfl) (pa_cons (pv 0) (pa_cons (pe_c c__law_paths hr (by first | decide | omega) (by rfl) (pa_cons (pv 1) pa_nil)) pa_nil))))
        (pss_one (ps_ret (pe_c c__law_put hr (by first | decide | omega) (by rfl) (pa_cons (pv 1) (pa_cons (pv 3) (pa_cons (pe_c c__law_odd hr (by first | decide | omega) (by rfl) (pa_cons (pv 0) (pa_cons (pe_c c__law_part hr (by first | decide | omega) (by rfl) (pa_cons (pv 1) (pa_cons (pv 3) pa_nil))) (pa_cons (pv 2) pa_nil)))) pa_nil))))))), ?_⟩
  refine s_asgC ?_
  refine pick_ev (K := K) (F := Fa) (es := (pathsOf t).map pathD) S rfl (by omega) (ev_call (f := f1 (g_law_paths 40)) (ea_cons (ev_var (i := 1) ⟨x, rfl, rx⟩) ea_nil) (if_pos (by rw [hnest, decide_eq_true hwt]; rfl))) (by rw [List.length_map]; exact paths_ne t) (by rw [List.length_map]; exact Nat.le_trans (paths_len t) hwt) fun e1 pv F1 H1 he1 rp S1 s1 => ?_
  obtain ⟨p, hp, rfl⟩ := List.mem_map.mp he1
  obtain ⟨o, hpo⟩ := paths_part t p hp
  have hpl := path_len 40 t p o hnest hpo
  have hwo := part_wt p t o hpo
  dsimp only
  refine ⟨x, rfl, pv, rfl, .ref d, rfl, x, rfl, pv, rfl, F1, x, pv, t, p, o, S1.same, rfl, rx.up s1, rp, hpl, hpo, fun v2 F2 H2 g2 r2 => ?_⟩
  have S2 := S1.grow g2
  refine ⟨.ref wa, rfl, F0, H0, F2, d, l, c, wa, n + 1, v2, o, ws, words, S2, by omega, rfl, r2, by omega, fun i hi => hint p i (hi ▸ hpo), (s1.trans g2.f) _ _ hwa, rws.up (s1.trans g2.f), hwl, fun e v3 G H3 hodd rv3 S3 s3 => ?_⟩
  have sG := (s1.trans g2.f).trans s3
  exact ⟨G, x, pv, v3, t, p, o, e, S3.same, rfl, rx.up sG, rp.up (g2.f.trans s3), rv3, hpl, hpo, by omega, fun v F' H' g r => q p o e v F' H' hp hpo hodd r ((S3.grow g).more (by omega)) (sG.trans g.f)⟩
end
end Sx
set_option Elab.async false
set_option linter.all false
set_option maxRecDepth 100000
set_option maxHeartbeats 2000000
set_option exponentiation.threshold 3000
namespace Sx
open PySem PySem.Spec PyProof.Rows L2
open C8 (Cal pe_c pe_gc)
/-! ### how large what is bent may be -/
theorem weights_rev : ∀ ds : List PyData, weights ds.reverse = weights ds
  | [] => rfl
  | d :: ds => by
    rw [List.reverse_cons, weights_app, weights_rev ds]
    simp only [weights]
    omega
theorem weights_cut (ds : List PyData) (k : Nat) : weights (ds.take k) + weights (ds.drop k) = weights ds := by
  have h := weights_app (ds.take k) (ds.drop k)
  rw [List.take_append_drop] at h
  exact h.symm
theorem num_len : ∀ n : Nat, n < 1001 → (Str.ofString (toString (Int.ofNat n))).length ≤ 10 ∧ (Str.ofString (toString (-(Int.ofNat n)))).length ≤ 10 := by
  have h : ((List.range 1001).all fun n => decide ((Str.ofString (toString (Int.ofNat n))).length ≤ 10) && decide ((Str.ofString (toString (-(Int.ofNat n)))).length ≤ 10)) = true := by decide +kernel
  intro n hn
  have := List.all_eq_true.mp h n (List.mem_range.mpr hn)
  rw [Bool.and_eq_true, decide_eq_true_iff, decide_eq_true_iff] at this
  exact this
theorem num_len' {i : Int} (h : i.natAbs ≤ 1000) : (Str.ofString (toString i)).length ≤ 10 := by
  rcases Int.natAbs_eq i with e | e
  · rw [e]
    exact (num_len i.natAbs (by omega)).1
  · rw [e]
    exact (num_len i.natAbs (by omega)).2
theorem odd_wt {words : List Str} {o e : PyData} (h : Odd words o e) (hw : ∀ s ∈ words, s.length ≤ 20) (hi : ∀ i, o = .int i → i.natAbs ≤ 1000) : weight e ≤ 3 * weight o + 100 := by
  rcases h with ⟨ds, a, rfl, ha, he⟩ | ⟨z, rfl, he⟩ | ⟨i, rfl, he⟩ | he
  · have c1 := weights_cut ds a
    have c2 := weights_cut ds (a + 1)
    have c3 := weights_cut (ds.drop a) 1
    have c4 : weights (ds.take (a + 1)) ≥ weights (ds.take a) := by
      rw [List.take_add_one, weights_app]
      omega
    unfold oddT at he
    simp only [List.mem_cons, List.not_mem_nil, or_false] at he
    rcases he with rfl | rfl | rfl | rfl | rfl | rfl <;> simp only [weight, weights_app, weights_rev, weights] <;> omega
  · rcases List.mem_append.mp he with he | he
    · obtain ⟨s, hs, rfl⟩ := List.mem_map.mp he
      have := hw s hs
      simp only [weight]
      omega
    · have h1 := len_upper z
      have h2 := cutS_length z none (some (-1))
      have h3 : (z ++ "a").length = z.length + 1 := by
        show (z.cps ++ _).size = _
        rw [Array.size_append]
        rfl
      unfold oddS at he
      simp only [List.mem_cons, List.not_mem_nil, or_false] at he
      rcases he with rfl | rfl | rfl | rfl | rfl | rfl | rfl | rfl
      · simp only [weight, h3]; omega
      · simp only [weight]; omega
      · simp only [weight]; omega
      · simp only [weight, weights]; omega
      · exact Nat.le_trans (show weight (.str "a b") ≤ 100 by decide +kernel) (by omega)
      · exact Nat.le_trans (show weight (.str "a1") ≤ 100 by decide +kernel) (by omega)
      · exact Nat.le_trans (show weight (.str "abcdefghi") ≤ 100 by decide +kernel) (by omega)
      · exact Nat.le_trans (show weight (.str "") ≤ 100 by decide +kernel) (by omega)
  · have h1 := num_len' (hi i rfl)
    unfold oddI at he
    simp only [List.mem_cons, List.not_mem_nil, or_false] at he
    rcases he with rfl | rfl | rfl | rfl | rfl | rfl | rfl | rfl | rfl | rfl | rfl | rfl | rfl | rfl <;> simp only [weight, weights] <;> first | omega | (show 1 + (Str.ofString (toString i)).length ≤ _; omega)
  · have hc : ∀ d ∈ oddC, weight d ≤ 100 := by decide +kernel
    exact Nat.le_trans (hc e he) (by omega)
theorem put_wt : ∀ (p : List Nat) (d o e : PyData), partAt d p = some o → weight (putAt d p e) ≤ weight d + weight e
  | [], d, o, e, _ => by
    show weight e ≤ _
    omega
  | k :: p, d, o, e, h => by
    obtain ⟨ds, d', rfl, h1, h2⟩ := part_cons h
    rw [put_cons h1]
    have h3 := put_wt p d' o e h2
    have c1 := weights_cut ds k
    have hd : ds.drop k = d' :: ds.drop (k + 1) := by
      rw [List.drop_eq_getElem_cons (List.getElem?_eq_some_iff.mp h1).1]
      rw [(List.getElem?_eq_some_iff.mp h1).2]
    rw [hd] at c1
    simp only [weights] at c1
    simp only [weight, weights_app, weights]
    omega
end Sx
set_option Elab.async false
set_option linter.all false
set_option maxRecDepth 100000
set_option maxHeartbeats 2000000
set_option exponentiation.threshold 3000
namespace Sx
open PySem PySem.Spec PyProof.Rows L2
open C8 (Cal pe_c pe_gc)
mutual
def smallI : PyData → Bool
  | .int i => decide (i.natAbs ≤ 1000)
  | .tuple ds => smallAll ds
  | _ => true
def smallAll : List PyData → Bool
  | [] => true
  | d :: ds => smallI d && smallAll ds
end
theorem smallAll_iff : ∀ ds : List PyData, smallAll ds = true ↔ ∀ d ∈ ds, smallI d = true
  | [] => by simp [smallAll]
  | d :: ds => by
    simp only [smallAll, Bool.and_eq_true, smallAll_iff ds, List.mem_cons, forall_eq_or_imp]
theorem small_part : ∀ (p : List Nat) (d : PyData) (i : Int), smallI d = true → partAt d p = some (.int i) → i.natAbs ≤ 1000
  | [], d, i, h, e => by
    cases e
    simpa [smallI] using h
  | k :: p, d, i, h, e => by
    obtain ⟨ds, d', rfl, h1, h2⟩ := part_cons e
    simp only [smallI] at h
    exact small_part p d' i ((smallAll_iff ds).mp h d' (List.mem_of_getElem? h1)) h2
theorem small_between {d : PyData} {l h : Int} (hl : -1000 ≤ l) (hh : h ≤ 1000) (e : isBetween d l h = true) : smallI d = true := by
  obtain ⟨i, rfl, h1, h2⟩ := between_int e
  simp only [smallI]
  exact decide_eq_true (by omega)
theorem small_kinds {xs : List PyData} (h : isKinds (.tuple xs) = true) : smallI (.tuple xs) = true := by
  simp only [smallI]
  refine (smallAll_iff xs).mpr fun d hd => ?_
  obtain ⟨n, r, rfl, h0, h3⟩ := (kinds_ranks h).2 d hd
  simp only [smallI, smallAll, Bool.true_and, Bool.and_true]
  exact decide_eq_true (by omega)
theorem set_parts {t : PyData} (h : isSet t = true) : ∃ xs M es ts, t = .tuple [.str "set", .tuple xs, .int M, .tuple es, .tuple ts] ∧ isKinds (.tuple xs) = true ∧ 1 ≤ M ∧ M ≤ 60 ∧ es.length = xs.length ∧ (∀ e ∈ ts, isBetween e 0 (M - 1) = true) ∧ ∀ e ∈ es, ∃ gs, e = .tuple gs ∧ ∀ g ∈ gs, isBetween g 0 (M - 1) = true := by
  match t, h with
  | .tuple [a, k, m, rs, t], h =>
    have h' : (isWord a "set" && ((isKinds k && (isBetween m 1 60 && decide (goalsOf (itemsD k) (intD m) ≤ 4000))) && ((isTup rs && decide ((itemsD rs).length = (itemsD k).length)) && (isRisingBelow t (intD m) && (pairs (itemsD rs) (itemsD k)).all fun p => isGoals (fstD p) (intD m) (intD (sndD (sndD p))))))) = true := h
    simp only [Bool.and_eq_true, decide_eq_true_iff] at h'
    obtain ⟨h1, ⟨h2, h3, _⟩, ⟨h4, h5⟩, h6, h7⟩ := h'
    obtain ⟨xs, rfl⟩ := kinds_tup h2
    obtain ⟨M, rfl, m1, m2⟩ := between_int h3
    cases a with
    | str z =>
      have hz : z = "set" := of_decide_eq_true h1
      subst hz
      cases rs with
      | tuple es =>
        cases t with
        | tuple ts =>
          have h6' : (ts.all (fun x => isBetween x 0 (M - 1)) && risesD ts) = true := h6
          rw [Bool.and_eq_true] at h6'
          have h5' : es.length = xs.length := h5
          refine ⟨xs, M, es, ts, rfl, h2, m1, m2, h5', fun e he => List.all_eq_true.mp h6'.1 e he, fun e he => ?_⟩
          obtain ⟨j, hj⟩ := List.getElem?_of_mem he
          have hjl := (List.getElem?_eq_some_iff.mp hj).1
          have hx : xs[j]? = some (xs[j]'(by omega)) := List.getElem?_eq_getElem (by omega)
          have hp : (pairs es xs)[j]? = some (.tuple [e, xs[j]'(by omega)]) := by
            unfold pairs
            rw [List.getElem?_zipWith, hj, hx]
          have hg : isGoals e M (intD (sndD (xs[j]'(by omega)))) = true := List.all_eq_true.mp h7 _ (List.mem_of_getElem? hp)
          cases e with
          | tuple gs =>
            have hg' : (decide ((gs.length : Int) = M ^ (intD (sndD (xs[j]'(by omega)))).toNat) && gs.all fun x => isBetween x 0 (M - 1)) = true := hg
            rw [Bool.and_eq_true] at hg'
            exact ⟨gs, rfl, fun g hgm => List.all_eq_true.mp hg'.2 g hgm⟩
          | _ => cases hg
        | _ => cases h6
      | _ => cases h4
    | _ => cases h1
theorem small_set {t : PyData} (h : isSet t = true) : smallI t = true := by
  obtain ⟨xs, M, es, ts, rfl, hk, m1, m2, _, hts, hes⟩ := set_parts h
  have k1 := small_kinds hk
  have k2 : smallI (.int M) = true := by
    simp only [smallI]
    exact decide_eq_true (by omega)
  have k3 : smallI (.tuple es) = true := by
    simp only [smallI]
    refine (smallAll_iff es).mpr fun e he => ?_
    obtain ⟨gs, rfl, hg⟩ := hes e he
    simp only [smallI]
    exact (smallAll_iff gs).mpr fun g hgm => small_between (by decide) (by omega) (hg g hgm)
  have k4 : smallI (.tuple ts) = true := by
    simp only [smallI]
    exact (smallAll_iff ts).mpr fun g hgm => small_between (by decide) (by omega) (hts g hgm)
  show smallAll [.str "set", .tuple xs, .int M, .tuple es, .tuple ts] = true
  refine (smallAll_iff _).mpr fun d hd => ?_
  simp only [List.mem_cons, List.not_mem_nil, or_false] at hd
  rcases hd with rfl | rfl | rfl | rfl | rfl
  · rfl
  · exact k1
  · exact k2
  · exact k3
  · exact k4
theorem nest_up : ∀ (n : Nat) (d : PyData), nestOk n d = true → nestOk (n + 1) d = true
  | 0, _, h => by cases h
  | n + 1, d, h => by
    cases d with
    | tuple ds =>
      have h' : ds.all (nestOk n) = true := h
      show ds.all (nestOk (n + 1)) = true
      exact List.all_eq_true.mpr fun e he => nest_up n e (List.all_eq_true.mp h' e he)
    | _ => rfl
theorem nest_more {n m : Nat} (h : n ≤ m) {d : PyData} (hd : nestOk n d = true) : nestOk m d = true := by
  induction m with
  | zero =>
    have : n = 0 := by omega
    rw [this] at hd
    exact hd
  | succ m ih =>
    by_cases e : n = m + 1
    · rw [← e]
      exact hd
    · exact nest_up m d (ih (by omega))
theorem nest_tree (tab : Str → Option Int) : ∀ (n : Nat) (t : PyData), allT tab t = true → depT t ≤ n → nestOk (n + 1) t = true
  | 0, t, _, h => by
    rw [dep_kids] at h
    omega
  | n + 1, t, ha, h => by
    rw [all_kids, Bool.and_eq_true] at ha
    obtain ⟨nm, cs, r, rfl, _, _⟩ := node_cases ha.1
    rw [dep_kids] at h
    have h2 : depsT cs ≤ n := by
      have : 1 + depsT cs ≤ n + 1 := h
      omega
    have hmem : ∀ ds : List PyData, depsT ds ≤ n → allsT tab ds = true → ∀ d ∈ ds, depT d ≤ n ∧ allT tab d = true := fun ds => by
      induction ds with
      | nil => exact fun _ _ d hd => by cases hd
      | cons a r ih =>
        intro h1 h2 d hd
        simp only [depsT] at h1
        simp only [allsT, Bool.and_eq_true] at h2
        rcases List.mem_cons.mp hd with e | e
        · rw [e]
          exact ⟨by omega, h2.1⟩
        · exact ih (by omega) h2.2 d e
    show (PyData.str nm :: cs).all (nestOk (n + 1)) = true
    rw [List.all_cons]
    refine Bool.and_eq_true_iff.mpr ⟨rfl, List.all_eq_true.mpr fun d hd => ?_⟩
    obtain ⟨a, b⟩ := hmem cs h2 ha.2 d hd
    exact nest_tree tab n d b a
theorem nest_kinds {xs : List PyData} (h : isKinds (.tuple xs) = true) : nestOk 3 (.tuple xs) = true := by
  show xs.all (nestOk 2) = true
  refine List.all_eq_true.mpr fun d hd => ?_
  obtain ⟨n, r, rfl, _, _⟩ := (kinds_ranks h).2 d hd
  rfl
theorem nest_set {t : PyData} (h : isSet t = true) : nestOk 5 t = true := by
  obtain ⟨xs, M, es, ts, rfl, hk, m1, m2, _, hts, hes⟩ := set_parts h
  show [PyData.str "set", .tuple xs, .int M, .tuple es, .tuple ts].all (nestOk 4) = true
  have k1 : nestOk 4 (.tuple xs) = true := nest_up 3 _ (nest_kinds hk)
  have flat : ∀ {d : PyData} {l h : Int} (k : Nat), isBetween d l h = true → nestOk (k + 1) d = true := fun k e => by
    obtain ⟨i, rfl, _, _⟩ := between_int e
    rfl
  have k3 : nestOk 4 (.tuple es) = true := by
    show es.all (nestOk 3) = true
    refine List.all_eq_true.mpr fun e he => ?_
    obtain ⟨gs, rfl, hg⟩ := hes e he
    show gs.all (nestOk 2) = true
    exact List.all_eq_true.mpr fun g hgm => flat 1 (hg g hgm)
  have k4 : nestOk 4 (.tuple ts) = true := by
    show ts.all (nestOk 3) = true
    exact List.all_eq_true.mpr fun g hgm => flat 2 (hts g hgm)
  simp only [List.all_cons, List.all_nil, k1, k3, k4]
  rfl
end Sx
set_option Elab.async false
set_option linter.all false
set_option maxRecDepth 100000
set_option maxHeartbeats 2000000
set_option exponentiation.threshold 3000
namespace Sx
open PySem PySem.Spec PyProof.Rows L2
open C8 (Cal pe_c pe_gc)
theorem odd_len {words : List Str} {ts ys : List PyData} (h : Odd words (.tuple ts) (.tuple ys)) : ys.length ≤ ts.length + 1 := by
  rcases h with ⟨ds, a, e, ha, he⟩ | ⟨z, e, he⟩ | ⟨i, e, he⟩ | he
  · cases e
    unfold oddT at he
    simp only [List.mem_cons, List.not_mem_nil, or_false, PyData.tuple.injEq, reduceCtorEq, false_or] at he
    rcases he with rfl | rfl | rfl | rfl | rfl
    · rw [List.length_append, List.length_take, List.length_drop]; omega
    · rw [List.length_append, List.length_append, List.length_take, List.length_take, List.length_drop]; omega
    · rw [List.length_reverse]; omega
    · rw [List.length_append]; exact Nat.le_refl _
    · exact Nat.zero_le _
  · cases e
  · cases e
  · have hc : ∀ d ∈ oddC, (match d with | .tuple ys => decide (ys.length ≤ 1) | _ => true) = true := by decide +kernel
    have := of_decide_eq_true (hc _ he)
    omega
theorem few_bent {words : List Str} {t o e : PyData} {p : List Nat} (h : isSet t = true) (hf : few10 t = true) (hp : partAt t p = some o) (ho : Odd words o e) : fewS (putAt t p e) = true := by
  obtain ⟨xs, M, es, ts, rfl, _⟩ := set_parts h
  have hts : ts.length ≤ 10 := of_decide_eq_true hf
  have self : fewS (.tuple [.str "set", .tuple xs, .int M, .tuple es, .tuple ts]) = true := decide_eq_true (show ts.length ≤ 60 by omega)
  match p, hp with
  | [], hp =>
    cases hp
    show fewS e = true
    rcases ho with ⟨ds, a, e0, ha, he⟩ | ⟨z, e0, he⟩ | ⟨i, e0, he⟩ | he
    · cases e0
      have ha' : a ≤ 5 := ha
      unfold oddT at he
      simp only [List.mem_cons, List.not_mem_nil, or_false] at he
      have hcase : a = 0 ∨ a = 1 ∨ a = 2 ∨ a = 3 ∨ a = 4 ∨ a = 5 := by omega
      rcases he with rfl | rfl | rfl | rfl | rfl | rfl
      · rcases hcase with rfl | rfl | rfl | rfl | rfl | rfl <;> first | rfl | exact self
      · rcases hcase with rfl | rfl | rfl | rfl | rfl | rfl <;> first | rfl | exact self
      · rfl
      · rfl
      · rfl
      · rfl
    · cases e0
    · cases e0
    · have hc : ∀ d ∈ oddC, fewS d = true := by decide +kernel
      exact hc e he
  | k :: q, hp =>
    obtain ⟨ds, d', e0, h1, h2⟩ := part_cons hp
    cases e0
    rw [put_cons h1]
    have hk : k < 5 := (List.getElem?_eq_some_iff.mp h1).1
    have hcase : k = 0 ∨ k = 1 ∨ k = 2 ∨ k = 3 ∨ k = 4 := by omega
    rcases hcase with rfl | rfl | rfl | rfl | rfl
    · exact self
    · exact self
    · exact self
    · exact self
    · have e1 : d' = .tuple ts := (Option.some.inj h1).symm
      subst e1
      show fewS (.tuple [.str "set", .tuple xs, .int M, .tuple es, putAt (.tuple ts) q e]) = true
      match q, h2 with
      | [], h2 =>
        cases h2
        show fewS (.tuple [.str "set", .tuple xs, .int M, .tuple es, e]) = true
        cases e with
        | tuple ys => exact decide_eq_true (show ys.length ≤ 60 by have := odd_len ho; omega)
        | _ => rfl
      | j :: q, h2 =>
        obtain ⟨ds, d2, e2, h3, h4⟩ := part_cons h2
        cases e2
        rw [put_cons h3]
        refine decide_eq_true ?_
        have hj := (List.getElem?_eq_some_iff.mp h3).1
        rw [List.length_append, List.length_append, List.length_take, List.length_drop]
        show min j ts.length + 1 + (ts.length - (j + 1)) ≤ 60
        omega
/-- what is bent may be judged -/
theorem bent_fits {words : List Str} {t o e : PyData} {p : List Nat} (hp : partAt t p = some o) (hwt : weight t ≤ 1000) (ho : Odd words o e) (hw : ∀ s ∈ words, s.length ≤ 20) (hs : smallI t = true) : fitsA (putAt t p e) = true := by
  rw [fitsA_iff]
  have h1 := put_wt p t o e hp
  have h2 := odd_wt ho hw fun i hi => small_part p t i hs (hi ▸ hp)
  have h3 := part_wt p t o hp
  omega
theorem bent_okS {words : List Str} {t o e : PyData} {p : List Nat} (h : isSet t = true) (hf : few10 t = true) (hp : partAt t p = some o) (hwt : weight t ≤ 1000) (ho : Odd words o e) (hw : ∀ s ∈ words, s.length ≤ 20) : okS (putAt t p e) = true := by
  unfold okS
  rw [bent_fits hp hwt ho hw (small_set h), few_bent h hf hp ho]
  rfl
end Sx
set_option Elab.async false
set_option linter.all false
set_option maxRecDepth 100000
set_option maxHeartbeats 1000000
/-! Y22: repr of True and False; x is not True. -/
namespace Sx
open PySem PySem.Spec PyProof.Rows L2
def boolS (b : Bool) : Str := if b then "True" else "False"
theorem boolS_inj {a b : Bool} (h : boolS a = boolS b) : a = b := by
  cases a <;> cases b <;> first | rfl | exact absurd h (by decide +kernel)
abbrev rReprB : List V → Hp → VK → Prop := fun xs H Q => ∃ b, xs = [.bl b] ∧ Q (.str (boolS b)) H
theorem call_reprB {X : Cx} : CallR X (.builtin "repr") rReprB := by
  intro pins s σ H xs us Q I r h
  obtain ⟨b, rfl, q⟩ := h
  obtain ⟨u, rfl, ru⟩ := vals1 r
  cases (show u = Value.bool b from ru)
  refine PySem.P.repr_of_bool ?_
  exact ⟨.str (boolS b), H, I.tok _, ⟨s.toks, by cases b <;> rfl⟩, q⟩
theorem rc_reprB {K : PySem.W.Frag} {b : Bool} : RcD K rReprB [.bool b] (.str (boolS b)) := fun F xs H s r Q q => by
  cases r with
  | cons a c =>
    cases c
    cases a
    exact ⟨b, rfl, q _ F H (.start s) (.str _)⟩
theorem rv_notB {K : PySem.W.Frag} {a b : Bool} : RvD K rNotB (.bool a) (.bool b) (.bool (!decide (a = b))) := fun F x y H s r1 r2 Q q => by
  cases r1
  cases r2
  exact ⟨a, b, rfl, rfl, q _ F H (.start s) (.bl _)⟩
end Sx
set_option Elab.async false
set_option linter.all false
set_option maxRecDepth 100000
set_option maxHeartbeats 2000000
set_option exponentiation.threshold 3000
namespace Sx
open PySem PySem.Spec PyProof.Rows L2 LamX
open C8 (Cal pe_c pe_gc)
theorem DrawAt.ext {H H' : Hp} {a l c : Addr} {n : Nat} (D : DrawAt H a l c n) (e : ExtN H H') : DrawAt H' a l c n := by
  obtain ⟨ws, cs, r, t, D, e1, e2⟩ := D
  exact ⟨ws, cs, r, t, ⟨e _ _ D.d (fun ps z => by cases z), e _ _ D.w (fun ps z => by cases z), e _ _ D.cl (fun ps z => by cases z), D.al, D.ac, D.lc⟩, e1, e2⟩

theorem tabs_same {T : List (Addr × Str)} {H H' : Hp} (t : Tabs T H) (s : Same H H') : Tabs T H' := t.ext fun b o e => s b o e
theorem tabs_keeps {T : List (Addr × Str)} {H H' : Hp} {a l c : Addr} {n : Nat} (t : Tabs T H) (D : DrawAt H a l c n) (k : Keeps a l H H') : Tabs T H' := fun p hp => by
  obtain ⟨ps, h1, h2, h3⟩ := t p hp
  obtain ⟨ws, cs, r, tt, D, _, _⟩ := D
  have nt : ∀ (b : Addr) (o : HO), H b = some o → (∀ ks, o ≠ .dK ks) → (∀ xs, o ≠ .lst xs) → b ≠ a ∧ b ≠ l := fun b o e n1 n2 => by
    refine ⟨fun z => ?_, fun z => ?_⟩
    · rw [z, D.d] at e
      cases e
      exact n1 _ rfl
    · rw [z, D.w] at e
      cases e
      exact n2 _ rfl
  have n1 := nt _ _ h1 (fun ks z => by cases z) (fun xs z => by cases z)
  refine ⟨ps, k _ _ n1.1 n1.2 h1, h2, fun pos cv hc => ?_⟩
  obtain ⟨c', e1, e2⟩ := h3 pos cv hc
  have n2 := nt _ _ e2 (fun ks z => by unfold CodeO at z; cases z) (fun xs z => by unfold CodeO at z; cases z)
  exact ⟨c', e1, k _ _ n2.1 n2.2 e2⟩
/-- what is known, without tables -/
def noT (F : Hp) : Hp := fun b => match F b with
  | some (.tbl _) => none
  | o => o
theorem noT_of {F : Hp} {b : Addr} {o : HO} (h : F b = some o) (n : ∀ ps, o ≠ .tbl ps) : noT F b = some o := by
  show (match F b with | some (.tbl _) => none | o => o) = some o
  rw [h]
  cases o <;> first | rfl | exact absurd rfl (n _)
theorem noT_is {F : Hp} {b : Addr} {o : HO} (h : noT F b = some o) : F b = some o ∧ ∀ ps, o ≠ .tbl ps := by
  have h' : (match F b with | some (.tbl _) => none | o => o) = some o := h
  cases e : F b with
  | none => rw [e] at h'; cases h'
  | some u =>
    rw [e] at h'
    cases u <;> first | (cases h'; done) | (cases h'; exact ⟨rfl, fun ps z => by cases z⟩)
theorem noT_ext {F H H' : Hp} (s : Same F H) (e : ExtN H H') : Same (noT F) H' := fun b o h => by
  obtain ⟨h1, h2⟩ := noT_is h
  exact e b o (s b o h1) h2
theorem noT_same {F H : Hp} (s : Same F H) : Same (noT F) H := fun b o h => s b o (noT_is h).1
theorem noT_none {F : Hp} {b : Addr} (h : F b = none) : noT F b = none := by
  show (match F b with | some (.tbl _) => none | o => o) = none
  rw [h]
section
variable {K : PySem.W.Frag} {F : Hp}
mutual
theorem dp_noT : ∀ (d : PyData) (v : V), Dq K F v d → Dq K (noT F) v d
  | .none, _, h => by cases h; exact .non
  | .bool b, _, h => by cases h; exact .bl b
  | .int i, _, h => by cases h; exact .int i
  | .str x, _, h => by cases h; exact .str x
  | .list ds, _, h => by
    cases h with
    | lst a b =>
      refine .lst ?_ (dps_noT ds _ b)
      rcases a with (a | ⟨o, a⟩) | a
      · exact .inl (.inl (noT_of a fun ps z => by cases z))
      · exact .inl (.inr ⟨o, noT_of a fun ps z => by cases z⟩)
      · exact .inr a
  | .tuple ds, _, h => by
    cases h with
    | tup a b =>
      refine .tup ?_ (dps_noT ds _ b)
      rcases a with (a | ⟨o, a⟩) | a
      · exact .inl (.inl (noT_of a fun ps z => by cases z))
      · exact .inl (.inr ⟨o, noT_of a fun ps z => by cases z⟩)
      · exact .inr a
  | .dict _, _, h => by
    cases h with
    | emp e => exact .emp (noT_of e fun ps z => by cases z)
theorem dps_noT : ∀ (ds : List PyData) (vs : List V), DqAll K F vs ds → DqAll K (noT F) vs ds
  | [], _, h => by cases h; exact .nil
  | d :: ds, _, h => by
    cases h with
    | cons a b => exact .cons (dp_noT d _ a) (dps_noT ds _ b)
end
end

abbrev rMin2 : List V → Hp → VK → Prop := fun xs H Q => ∃ i j, xs = [.int i, .int j] ∧ Q (.int (if j < i then j else i)) H
theorem rc_min2 {K : PySem.W.Frag} {i j : Int} : RcD K rMin2 [.int i, .int j] (.int (if j < i then j else i)) := fun F xs H s r Q q => by
  cases r with
  | cons a b =>
    cases b with
    | cons b c =>
      cases c
      cases a
      cases b
      exact ⟨i, j, rfl, q _ F H (.start s) (.int _)⟩

/-- a kept error is asked for -/
theorem caught_is {K : PySem.W.Frag} {CS CN : Addr} {T : List (Addr × Str)} {t : XK → TE} {σ : L2.St} {H F : Hp} {D : Ends} {tw : TS} {a l c : Addr} {n : Nat} (hsub : PySem.W.exmOne K (.ref CN) (.ref CS) = some true) (hT : Tabs T H) (s : Same F H) (Dr : DrawAt H a l c n)
    (ht : ∀ (E : XK) (H1 : Hp) (Q : VK), Same (noT F) H1 → (∀ H', Same H1 H' → E (.ref CN) none H') → t E σ H1 Q)
    (k : ∀ H', Same (noT F) H' → Tabs T H' → DrawAt H' a l c n → tw D σ H') :
    tSeq (tIfS (tNot (tB (tCB (rIsT CN) (tCons (tLam T (TTc K CS) t) (tCons (tC (.ref CN)) tNil))))) (tRet (tC (.bl false))) tNext) tw D σ H := by
  refine ⟨hT, fun H1 eN T1 => ?_⟩
  have s1 := noT_ext s eN
  refine ht _ H1 _ s1 fun H2 s2 => ⟨hsub, fun x hx => ⟨x, rfl, upd_same, true, rfl, ?_⟩⟩
  have s3 : Same H1 (upd H2 x (ExT (.ref CN) none x)) := s2.trans (same_upd hx)
  exact k _ (s1.trans s3) (tabs_same T1 s3) ((Dr.ext eN).same s3)
theorem caught_is1 {K : PySem.W.Frag} {CS CN : Addr} {T : List (Addr × Str)} {t : XK → TE} {σ : L2.St} {H F : Hp} {D : Ends} {a l c : Addr} {n : Nat} (hsub : PySem.W.exmOne K (.ref CN) (.ref CS) = some true) (hT : Tabs T H) (s : Same F H) (Dr : DrawAt H a l c n)
    (ht : ∀ (E : XK) (H1 : Hp) (Q : VK), Same (noT F) H1 → (∀ H', Same H1 H' → E (.ref CN) none H') → t E σ H1 Q)
    (k : ∀ H', Same (noT F) H' → Tabs T H' → DrawAt H' a l c n → D.nx σ H') :
    tIfS (tNot (tB (tCB (rIsT CN) (tCons (tLam T (TTc K CS) t) (tCons (tC (.ref CN)) tNil))))) (tRet (tC (.bl false))) tNext D σ H := by
  refine ⟨hT, fun H1 eN T1 => ?_⟩
  have s1 := noT_ext s eN
  refine ht _ H1 _ s1 fun H2 s2 => ⟨hsub, fun x hx => ⟨x, rfl, upd_same, true, rfl, ?_⟩⟩
  have s3 : Same H1 (upd H2 x (ExT (.ref CN) none x)) := s2.trans (same_upd hx)
  exact k _ (s1.trans s3) (tabs_same T1 s3) ((Dr.ext eN).same s3)

theorem fits_kinds {xs : List PyData} (h : isKinds (.tuple xs) = true) : fitsK (.tuple xs) = true := by
  have h' : ((decide (1 ≤ (xs.length : Int)) && decide ((xs.length : Int) ≤ 6)) && (xs.all isKind && (risesD (xs.map fstD) && (xs.map sndD).any isZero))) = true := h
  rw [Bool.and_eq_true, Bool.and_eq_true, Bool.and_eq_true] at h'
  obtain ⟨_, hall, _⟩ := h'
  show xs.all fitsP = true
  refine List.all_eq_true.mpr fun d hd => ?_
  obtain ⟨n, r, rfl, hn, _⟩ := kind_cases (List.all_eq_true.mp hall d hd)
  have hn' : ((decide (1 ≤ (n.length : Int)) && decide ((n.length : Int) ≤ 8)) && (n.cps.toList.all (fun c => decide (c ∈ lettersS.cps.toList)) && !decide (n ∈ keptL))) = true := hn
  rw [Bool.and_eq_true, Bool.and_eq_true, decide_eq_true_iff, decide_eq_true_iff] at hn'
  have := small1000 (n := n.length) (by omega)
  show decide (n.length ≤ sizeLine) = true
  exact decide_eq_true (Nat.le_of_lt this)

/-- for i in range(n), read from the heap as it stands -/
theorem for_rng {K : PySem.W.Frag} {ta : TA} {g : TG} {tb : TS} {D : Ends} {σ : L2.St} {F H : Hp} {kk : Int} (h : EvS K ta σ F [.int kk]) (s : Same F H) (hb : 0 ≤ kk ∧ kk < 2 ^ 62) (I : Nat → L2.St → Hp → Prop) (h0 : ∀ H', Same H H' → I 0 σ H')
    (hs : ∀ (i : Nat) σ' H', i < kk.toNat → I i σ' H' → g (.int (0 + (i : Int))) σ' H' fun σ2 H2 => tb { D with nx := I (i + 1), ct := I (i + 1), bk := D.nx } σ2 H2) (hd : ∀ σ' H', I kk.toNat σ' H' → D.nx σ' H') : tFor (iRng1 ta) g tb D σ H := by
  refine h H s _ fun vs F2 H2 g2 r2 => ?_
  have ev : vs = [.int kk] := by
    cases r2 with
    | cons ra rb =>
      cases ra
      cases rb
      rfl
  subst ev
  refine ⟨kk, rfl, by omega, by omega, fun i m σ' H' => m = kk.toNat - i ∧ i ≤ kk.toNat ∧ I i σ' H', ⟨kk.toNat, by simp, Nat.zero_le _, h0 H2 g2.h⟩, fun i m σ' H' hW => ?_⟩
  obtain ⟨rfl, hi, hI⟩ := hW
  by_cases hlt : i < kk.toNat
  · refine .inr ⟨hlt, I (i + 1), fun σ3 H3 h3 => ⟨kk.toNat - (i + 1), by omega, rfl, hlt, h3⟩, fun v Hx hy => ?_⟩
    obtain ⟨rfl, rfl⟩ := hy
    exact hs i σ' _ hlt hI
  · have e : i = kk.toNat := by omega
    subst e
    exact .inl ⟨by show kk.toNat ≤ kk.toNat; omega, hd σ' H' hI⟩

theorem tabs_put {T : List (Addr × Str)} {H : Hp} {b : Addr} {xs : List V} {o : HO} (t : Tabs T H) (h : H b = some (.lst xs)) : Tabs T (upd H b o) := fun p hp => by
  obtain ⟨ps, h1, h2, h3⟩ := t p hp
  have n1 : p.1 ≠ b := fun z => by
    rw [z, h] at h1
    cases h1
  refine ⟨ps, by rw [upd_ne n1]; exact h1, h2, fun pos cv hc => ?_⟩
  obtain ⟨c', e1, e2⟩ := h3 pos cv hc
  have n2 : c' ≠ b := fun z => by
    rw [z, h] at e2
    unfold CodeO at e2
    cases e2
  exact ⟨c', e1, by rw [upd_ne n2]; exact e2⟩

theorem tabs_keeps3 {T : List (Addr × Str)} {H H' : Hp} {a l c e : Addr} {n : Nat} {xs : List V} (t : Tabs T H) (D : DrawAt H a l c n) (he : H e = some (.lst xs)) (k : Keeps3 a l e H H') : Tabs T H' := fun p hp => by
  obtain ⟨ps, h1, h2, h3⟩ := t p hp
  obtain ⟨ws, cs, r, tt, D, _, _⟩ := D
  have nt : ∀ (b : Addr) (o : HO), H b = some o → (∀ ks, o ≠ .dK ks) → (∀ xs, o ≠ .lst xs) → b ≠ a ∧ b ≠ l ∧ b ≠ e := fun b o z n1 n2 => by
    refine ⟨fun y => ?_, fun y => ?_, fun y => ?_⟩
    · rw [y, D.d] at z
      cases z
      exact n1 _ rfl
    · rw [y, D.w] at z
      cases z
      exact n2 _ rfl
    · rw [y, he] at z
      cases z
      exact n2 _ rfl
  have n1 := nt _ _ h1 (fun ks z => by cases z) (fun xs z => by cases z)
  refine ⟨ps, k _ _ n1.1 n1.2.1 n1.2.2 h1, h2, fun pos cv hc => ?_⟩
  obtain ⟨c', e1, e2⟩ := h3 pos cv hc
  have n2 := nt _ _ e2 (fun ks z => by unfold CodeO at z; cases z) (fun xs z => by unfold CodeO at z; cases z)
  exact ⟨c', e1, k _ _ n2.1 n2.2.1 n2.2.2 e2⟩
theorem stD_start {F H : Hp} {d l c : Addr} {n : Nat} (s : Same F H) (Fd : F d = none) (Fl : F l = none) (D : DrawAt H d l c n) : StD F H d l c F H n := ⟨s, Fd, Fl, D, .refl H, new_refl, Same.refl F⟩
/-! ### is_tree -/
section
variable {K : PySem.W.Frag} {σ : L2.St} {F : Hp} {CK : Addr} {E : XK} {i : Nat} {v : V} {xs : List PyData} {d : PyData} {te : TE}
theorem ev_isTree (hi : σ[i]? = some (some v)) (hp : PlD K F v xs) (hk : isKinds (.tuple xs) = true) (h : EvD K te σ F d) : EvD K (tCall (spTree K CK) [] E (tCons (tVar i) (tCons te tNil))) σ F (.bool (treeOk xs d)) := fun H s Q q =>
  ⟨v, hi, h H s _ fun y F1 H1 g1 r1 => by
    obtain ⟨ka, ws, rfl, hpl, hws⟩ := hp.up g1.f
    exact ⟨F1, .ref ka, y, .tuple xs, d, g1.i, rfl, .tup hpl.seq hws, r1, fits_kinds hk, .inr ⟨hk, ka, ws, xs, rfl, rfl, hpl, hws, fun v' F' H' g r => q v' F' H' (g1.trans g) r⟩⟩⟩
theorem ev_isTreeK {gV : List V → List V → List V} (hg : ∀ x y, gV [] [x, y] = [y, x]) (hi : σ[i]? = some (some v)) (hp : PlD K F v xs) (hk : isKinds (.tuple xs) = true) (h : EvD K te σ F d) : EvD K (tCallK (spTree K CK) gV E tNil (tCons te (tCons (tVar i) tNil))) σ F (.bool (treeOk xs d)) := fun H s Q q =>
  h H s _ fun y F1 H1 g1 r1 => ⟨v, hi, by
    show spTree K CK (gV [] [y, v]) H1 Q E
    rw [hg]
    obtain ⟨ka, ws, rfl, hpl, hws⟩ := hp.up g1.f
    exact ⟨F1, .ref ka, y, .tuple xs, d, g1.i, rfl, .tup hpl.seq hws, r1, fits_kinds hk, .inr ⟨hk, ka, ws, xs, rfl, rfl, hpl, hws, fun v' F' H' g r => q v' F' H' (g1.trans g) r⟩⟩⟩
/-- f(k = v) over data -/
theorem ev_callK1 {gV : List V → List V → List V} {f : List PyData → Option PyData} {e : PyData} (hg : ∀ x, gV [] [x] = [x]) (h : EvD K te σ F d) (hf : f [d] = some e) : EvD K (tCallK (spD K f) gV E tNil (tCons te tNil)) σ F e := fun H s Q q =>
  h H s _ fun x F1 H1 g1 r1 => by
    show spD K f (gV [] [x]) H1 Q E
    rw [hg]
    exact ⟨F1, [d], e, g1.i, .cons r1 .nil, hf, fun v F2 H2 g2 r2 => q v F2 H2 (g1.trans g2) r2⟩
/-- x is not y, both True or False -/
theorem eb_notB {a b : Bool} (h : EvD K te σ F (.bool a)) : EvB (tTest (tOp rNotB te (tC (.bl b)))) σ F (!decide (a = b)) := eb_test (K := K) (ev_op h (ev_bl (x := b)) rv_notB)
theorem eb_reprNe {ta tb : TE} {a b : Bool} (h1 : EvD K ta σ F (.bool a)) (h2 : EvD K tb σ F (.bool b)) : EvB (tTest (tOp rNe (tCB rReprB (tCons ta tNil)) (tCB rReprB (tCons tb tNil)))) σ F (!decide (a = b)) :=
  (eb_test (K := K) (ev_op (ev1 h1 rc_reprB) (ev1 h2 rc_reprB) rv_neS)).is (congrArg _ (decide_eq_decide.mpr ⟨boolS_inj, fun e => congrArg _ e⟩))
theorem ev_reprEq {ta tb : TE} {a b : Bool} (h1 : EvD K ta σ F (.bool a)) (h2 : EvD K tb σ F (.bool b)) : EvD K (tOp rEq (tCB rReprB (tCons ta tNil)) (tCB rReprB (tCons tb tNil))) σ F (.bool (decide (a = b))) :=
  (ev_op (ev1 h1 rc_reprB) (ev1 h2 rc_reprB) rv_eqS).is (congrArg PyData.bool (decide_eq_decide.mpr ⟨boolS_inj, fun e => congrArg _ e⟩))
end
theorem good_ok {xs : List PyData} {L' : Int} {t : PyData} (g : Good 13 xs 12 L' t) : treeOk xs t = true ∧ weight t ≤ 400 ∧ nestOk 40 t = true := by
  have h1 := g.size
  have h2 : 0 ≤ pot L' := by unfold pot; split <;> omega
  have h3 : pot 12 = 11 := rfl
  have h4 := g.dep
  have h5 := g.wt
  refine ⟨?_, by omega, nest_more (n := 14) (by decide) (nest_tree _ 13 t g.node g.dep)⟩
  rw [treeOk_is, g.node, decide_eq_true (by omega), decide_eq_true (by omega)]
  rfl
/-! ### deep and wide trees -/
def leafD : PyData := .tuple [.str "e"]
def deepD : Nat → PyData → PyData
  | 0, t => t
  | n + 1, t => .tuple [.str "s", deepD n t]
def wideD : Nat → PyData
  | 0 => leafD
  | n + 1 => .tuple [.str "t", wideD n, wideD n]
def pairD : PyData := .tuple [.str "t", wideD 7, wideD 6]
def kindsE : List PyData := [.tuple [.str "e", .int 0], .tuple [.str "s", .int 1], .tuple [.str "t", .int 2]]
theorem kindsE_ok : isKinds (.tuple kindsE) = true := by decide +kernel
theorem deep_ok : treeOk kindsE (deepD 58 leafD) = true ∧ treeOk kindsE (deepD 59 leafD) = true ∧ treeOk kindsE (deepD 60 leafD) = false := by decide +kernel
theorem pair_ok : treeOk kindsE (deepD 16 pairD) = true ∧ treeOk kindsE (deepD 17 pairD) = true ∧ treeOk kindsE (deepD 18 pairD) = false := by decide +kernel
theorem size_deep (t : PyData) : ∀ n, sizeT (deepD n t) = n + sizeT t
  | 0 => (Nat.zero_add _).symm
  | n + 1 => by
    show sizeT (.tuple [.str "s", deepD n t]) = _
    simp only [sizeT, sizeTail, sizesT, size_deep t n]
    omega
theorem size_wide : ∀ n, sizeT (wideD n) + 1 = 2 ^ (n + 1)
  | 0 => by
    show sizeT (.tuple [.str "e"]) + 1 = 2
    simp only [sizeT, sizeTail, sizesT]
  | n + 1 => by
    have h := size_wide n
    show sizeT (.tuple [.str "t", wideD n, wideD n]) + 1 = _
    simp only [sizeT, sizeTail, sizesT]
    rw [Nat.pow_succ]
    omega
theorem size_pair : sizeT pairD = 383 := by
  have h7 := size_wide 7
  have h6 := size_wide 6
  show sizeT (.tuple [.str "t", wideD 7, wideD 6]) = _
  simp only [sizeT, sizeTail, sizesT]
  omega
theorem pair_tup : tupT 40 (deepD 16 pairD) = true ∧ tupT 40 (deepD 17 pairD) = true ∧ tupT 40 (deepD 18 pairD) = true := by decide +kernel
end Sx
set_option Elab.async false
set_option linter.all false
set_option maxRecDepth 100000
set_option maxHeartbeats 4000000
set_option exponentiation.threshold 3000
namespace Sx
open PySem PySem.Spec PyProof.Rows L2 LamX
open C8 (Cal pe_c pe_gc)
/-! ### the pieces of law -/
/-- is_tree(thing = a, kinds = b) -/
def kwG : List Value → List Value → List Value := fun us ws => match us, ws with
  | [], [a, b] => [b, a]
  | _, _ => []
def kwV : List V → List V → List V := fun us ws => match us, ws with
  | [], [a, b] => [b, a]
  | _, _ => []
/-- f(thing = a) -/
def kw1G : List Value → List Value → List Value := fun us ws => match us, ws with
  | [], [a] => [a]
  | _, _ => []
def kw1V : List V → List V → List V := fun us ws => match us, ws with
  | [], [a] => [a]
  | _, _ => []
theorem small_tree (tab : Str → Option Int) : ∀ (n : Nat) (t : PyData), allT tab t = true → depT t ≤ n → smallI t = true
  | 0, t, _, h => by
    rw [dep_kids] at h
    omega
  | n + 1, t, ha, h => by
    rw [all_kids, Bool.and_eq_true] at ha
    obtain ⟨nm, cs, r, rfl, _, _⟩ := node_cases ha.1
    rw [dep_kids] at h
    have h2 : depsT cs ≤ n := by
      have : 1 + depsT cs ≤ n + 1 := h
      omega
    have hmem : ∀ ds : List PyData, depsT ds ≤ n → allsT tab ds = true → ∀ d ∈ ds, depT d ≤ n ∧ allT tab d = true := fun ds => by
      induction ds with
      | nil => exact fun _ _ d hd => by cases hd
      | cons a r ih =>
        intro h1 h2 d hd
        simp only [depsT] at h1
        simp only [allsT, Bool.and_eq_true] at h2
        rcases List.mem_cons.mp hd with e | e
        · rw [e]
          exact ⟨by omega, h2.1⟩
        · exact ih (by omega) h2.2 d e
    simp only [smallI]
    refine (smallAll_iff _).mpr fun d hd => ?_
    rcases List.mem_cons.mp hd with e | e
    · rw [e]
      rfl
    · obtain ⟨a, b⟩ := hmem cs h2 ha.2 d e
      exact small_tree tab n d b a
theorem weight_kinds {xs : List PyData} (h : isKinds (.tuple xs) = true) : weight (.tuple xs) ≤ 100 := by
  obtain ⟨h6, hx⟩ := kinds_ranks h
  have h1 := weights_le (B := 11) xs fun e he => by
    obtain ⟨nm, r, rfl, _, _⟩ := hx e he
    have := kind_name h he
    simp only [weight, weights]
    omega
  simp only [weight]
  omega
theorem same_put {G H : Hp} {L : Addr} {o : HO} (s : Same G H) (h : H L = some o) : Same (upd G L o) H := fun b x e => by
  by_cases hb : b = L
  · rw [hb, upd_same] at e
    rw [hb, h]
    exact e
  · rw [upd_ne hb] at e
    exact s b x e
def lapT (K : PySem.W.Frag) (CK : Addr) : TS :=
  tSeq (tAsg (tLc (iList K (tLst (tCons (tVar 5) (tCons (tVar 12) (tCons (tVar 13) tNil))))) (gName 15) tYes (tCall (spBent K) [] C8.E0 (tCons (tVar 1) (tCons (tVar 15) (tCons (tVar 6) tNil)))) [15]) (gName 14))
  (tSeq (tIfS (tOr
      (tTest (tOp rNe (tCB rReprB (tCons (tCall (p_is_kinds K) [] C8.E0 (tCons (tOp (rIxL K) (tVar 14) (tC (V.int 0))) tNil)) tNil)) (tCB rReprB (tCons (tCall (p_is_kinds K) [] C8.E0 (tCons (tOp (rIxL K) (tVar 14) (tC (V.int 0))) tNil)) tNil))))
      (tTest (tOp rNe (tCB rReprB (tCons (tCall (p_is_set K) [] C8.E0 (tCons (tOp (rIxL K) (tVar 14) (tC (V.int 2))) tNil)) tNil)) (tCB rReprB (tCons (tCall (p__law_is_set K) [] C8.E0 (tCons (tOp (rIxL K) (tVar 14) (tC (V.int 2))) tNil)) tNil)))))
    (tRet (tC (V.bl false))) tNext)
  (tIfS (tTest (tOp rNe (tCB rReprB (tCons (tCall (spTree K CK) [] L2.E0 (tCons (tVar 5) (tCons (tOp (rIxL K) (tVar 14) (tC (V.int 1))) tNil))) tNil)) (tCB rReprB (tCons (tCall (p__law_is_tree K) [] C8.E0 (tCons (tVar 5) (tCons (tOp (rIxL K) (tVar 14) (tC (V.int 1))) tNil))) tNil))))
    (tRet (tC (V.bl false))) tNext))
def turnT (K : PySem.W.Frag) (CK CS P0 : Addr) (q : Str) : TS :=
  tSeq (tAsg (tCall (spKinds K) [] C8.E0 (tCons (tVar 1) tNil)) (gName 5))
  (tSeq (tAsg (tTup (tCons (tCall (spTreeL K 13) [] C8.E0 (tCons (tVar 1) (tCons (tVar 5) (tCons (tLst (tCons (tC (V.int 12)) tNil)) tNil)))) (tCons (tCall (spSetL K) [] C8.E0 (tCons (tVar 1) (tCons (tVar 5) (tCons (tC (V.int 3)) tNil)))) tNil))) (gTup K 2 (gCons (gName 12) (gCons (gName 13) gNil))))
  (tSeq (tIfS (tOr (tTest (tOp rNotB (tCall (p_is_kinds K) [] C8.E0 (tCons (tVar 5) tNil)) (tC (V.bl true)))) (tOr (tTest (tOp rNotB (tCall (spTree K CK) [] L2.E0 (tCons (tVar 5) (tCons (tVar 12) tNil))) (tC (V.bl true)))) (tTest (tOp rNotB (tCall (p_is_set K) [] C8.E0 (tCons (tVar 13) tNil)) (tC (V.bl true)))))) (tRet (tC (V.bl false))) tNext)
  (tSeq (tIfS (tOr (tTest (tOp rNotB (tCallK (p_is_kinds K) kw1V L2.E0 tNil (tCons (tVar 5) tNil)) (tC (V.bl true)))) (tOr (tTest (tOp rNotB (tCallK (spTree K CK) kwV L2.E0 tNil (tCons (tVar 12) (tCons (tVar 5) tNil))) (tC (V.bl true)))) (tTest (tOp rNotB (tCallK (p_is_set K) kw1V L2.E0 tNil (tCons (tVar 13) tNil)) (tC (V.bl true)))))) (tRet (tC (V.bl false))) tNext)
  (tSeq (tAsg (tOp rCat (tLc (iTup K (tVar 5)) (gTup K 2 (gCons (gName 16) (gCons (gName 17) gNil))) tYes (tVar 16) [16, 17]) (tLst (tCons (tC (V.str "qaq")) (tCons (tC (V.str "set")) (tCons (tC (V.str "for")) tNil))))) (gName 6))
  (tSeq (tFor (iRng1 (tCons (tC (V.int 5)) tNil)) (gName 3) (lapT K CK))
  (tSeq (tIfS (tOr (tTest (tOp rNotB (tCall (p_is_set K) [] C8.E0 (tCons (tCall (spOne K badS) [] C8.E0 (tCons (tVar 1) tNil)) tNil)) (tC (V.bl false)))) (tTest (tOp rNotB (tCall (p_is_kinds K) [] C8.E0 (tCons (tCall (spOne K badK) [] C8.E0 (tCons (tVar 1) tNil)) tNil)) (tC (V.bl false))))) (tRet (tC (V.bl false))) tNext)
  (tSeq (tAsg (tCall (spOne K badK) [] C8.E0 (tCons (tVar 1) tNil)) (gName 7))
  (tIfS (tNot (tB (tCB (rIsT CK) (tCons (tLam [(P0, q)] (TTc K CS) fun E => tCall (spTree K CK) [] E (tCons (tVar 7) (tCons (tVar 12) tNil))) (tCons (tC (V.ref CK)) tNil))))) (tRet (tC (V.bl false))) tNext))))))))
def endT (K : PySem.W.Frag) (CK : Addr) : TS :=
  tSeq (tPar3 8 9 10 (tCons (tTup (tCons (tC (V.str "e")) tNil)) (tCons (tTup (tCons (tC (V.str "e")) tNil)) (tCons (tCall (spPick K) [] C8.E0 (tCons (tVar 1) (tCons (tLst (tCons (tC (V.int 58)) (tCons (tC (V.int 59)) (tCons (tC (V.int 60)) tNil)))) tNil))) tNil))))
  (tSeq (tFor (iRng1 (tCons (tVar 10) tNil)) (gName 3) (tAsg (tTup (tCons (tC (V.str "s")) (tCons (tVar 8) tNil))) (gName 8)))
  (tSeq (tFor (iRng1 (tCons (tC (V.int 7)) tNil)) (gName 3) (tAsg (tTup (tCons (tC (V.str "t")) (tCons (tVar 9) (tCons (tVar 9) tNil)))) (gName 9)))
  (tSeq (tPar 5 11 (tCons (tTupF (tCons (tTup (tCons (tC (V.str "e")) (tCons (tC (V.int 0)) tNil))) (tCons (tTup (tCons (tC (V.str "s")) (tCons (tC (V.int 1)) tNil))) (tCons (tTup (tCons (tC (V.str "t")) (tCons (tC (V.int 2)) tNil))) tNil)))) (tCons (tCall (spPick K) [] C8.E0 (tCons (tVar 1) (tCons (tLst (tCons (tC (V.int 16)) (tCons (tC (V.int 17)) (tCons (tC (V.int 18)) tNil)))) tNil))) tNil)))
  (tSeq (tAsg (tTup (tCons (tC (V.str "t")) (tCons (tVar 9) (tCons (tOp (rIxT K) (tVar 9) (tC (V.int 1))) tNil)))) (gName 4))
  (tSeq (tFor (iRng1 (tCons (tVar 11) tNil)) (gName 3) (tAsg (tTup (tCons (tC (V.str "s")) (tCons (tVar 4) tNil))) (gName 4)))
  (tSeq (tIfS (tTest (tOp rNe (tCB rReprB (tCons (tCall (spTree K CK) [] L2.E0 (tCons (tVar 5) (tCons (tVar 8) tNil))) tNil)) (tCB rReprB (tCons (tOp (rI0 fun i j => V.bl (decide (i < j))) (tVar 10) (tC (V.int 60))) tNil)))) (tRet (tC (V.bl false))) tNext)
  (tRet (tOp rEq (tCB rReprB (tCons (tCall (spTree K CK) [] L2.E0 (tCons (tVar 5) (tCons (tVar 4) tNil))) tNil)) (tCB rReprB (tCons (tOp (rI0 fun i j => V.bl (decide (i ≤ j))) (tCall (spD K (f1 (g_law_size 40))) [] C8.E0 (tCons (tVar 4) tNil)) (tC (V.int 400))) tNil))))))))))
section
variable {K : PySem.W.Frag} {d l c : Addr} {CK CS P0 : Addr}
/-- for lap: .. -/
theorem lap_by {G H : Hp} {D : Ends} {n : Nat} {xs : List PyData} {t1 t2 : PyData} {vk vt vs : V} {wa : Addr} {ws : List V} {words : List Str} {y0 y2 y3 y4 y7 y8 y9 y10 y11 y14 y15 y16 y17 : Option V}
    (sG : Same G H) (Gd : G d = none) (Gl : G l = none) (hp : PlD K G vk xs) (hk : isKinds (.tuple xs) = true) (rt : Dq K G vt t1) (rs : Dq K G vs t2) (hset : isSet t2 = true) (hfew : few10 t2 = true)
    (hW : ∀ dd ∈ [PyData.tuple xs, t1, t2], weight dd ≤ 1000 ∧ nestOk 40 dd = true ∧ smallI dd = true) (hwa : G wa = some (.lst ws)) (rws : DqAll K G ws (words.map .str)) (hwl : words.length ≤ 20) (hwn : ∀ s ∈ words, s.length ≤ 20) (D0 : DrawAt H d l c n) (hn : n + 100 ≤ 2 ^ 40)
    (k : ∀ z14 z15 H', Same G H' → Keeps d l H H' → DrawAt H' d l c (n + 60) → D.nx [y0, some (.ref d), y2, y3, y4, some vk, some (.ref wa), y7, y8, y9, y10, y11, some vt, some vs, z14, z15, y16, y17] H') :
    lapT K CK D [y0, some (.ref d), y2, y3, y4, some vk, some (.ref wa), y7, y8, y9, y10, y11, some vt, some vs, y14, y15, y16, y17] H := by
  unfold lapT
  refine s_asgC ?_
  refine lc_draw (K := K) (F := G) (H := H) (d := d) (l := l) (c := c) (n0 := n) (B := 20) (ds := [.tuple xs, t1, t2]) (fun i e => ∃ dd p o e', [PyData.tuple xs, t1, t2][i]? = some dd ∧ partAt dd p = some o ∧ Odd words o e' ∧ e = putAt dd p e')
    (ew_list (ev_lst (ea_cons (ev_var (i := 5) ⟨vk, rfl, hp.dq⟩) (ea_cons (ev_var (i := 12) ⟨vt, rfl, rt⟩) (ea_cons (ev_var (i := 13) ⟨vs, rfl, rs⟩) ea_nil))) (small (n := 3)))) sG Gd Gl D0 (small1000 (n := 3) (by decide)) (fun i dd v G' H' R N0 hd sG' sH G'd G'l D' rv kR => ?_) fun L acc es G2 H2 hL eL racc el hE sG2 sH2 G2d G2l G2L NG kp D2 => ?_
  · refine ⟨rfl, yes_then ?_⟩
    obtain ⟨w1, w2, w3⟩ := hW dd (List.mem_of_getElem? hd)
    have hi : i < 3 := (List.getElem?_eq_some_iff.mp hd).1
    exact ⟨.ref d, rfl, v, rfl, .ref wa, rfl, G', H', G', d, l, c, wa, n + i * 20, v, dd, ws, words, stD_start sH G'd G'l D', by omega, rfl, rv, w1, w2, fun p i h => small_part p dd i w3 h, sG' _ _ hwa, rws.up sG', hwl, fun p o e v' G3 H3 hp' hpo hodd rv' S3 s3 => kR v' (putAt dd p e) G3 H3 ⟨dd, p, o, e, hd, hpo, hodd, rfl⟩ rv' s3 S3.same S3.fd S3.fl S3.nw S3.kp (S3.dr.more (by omega))⟩
  · obtain ⟨e0, e1, e2, rfl⟩ : ∃ e0 e1 e2, es = [e0, e1, e2] := by
      match es, el with
      | [a, b, c], _ => exact ⟨a, b, c, rfl⟩
    obtain ⟨d0, p0, o0, f0, h0, q0, r0, rfl⟩ := hE 0 e0 rfl
    obtain ⟨d1, p1, o1, f1', h1, q1, r1, rfl⟩ := hE 1 e1 rfl
    obtain ⟨d2, p2, o2, f2', h2, q2, r2, rfl⟩ := hE 2 e2 rfl
    cases h0
    cases h1
    cases h2
    have wk := hW (.tuple xs) (by simp)
    have w2 := hW t2 (by simp)
    have fk := bent_fits q0 wk.1 r0 hwn wk.2.2
    have okS2 := bent_okS hset hfew q2 w2.1 r2 hwn
    have fs := bent_fits q2 w2.1 r2 hwn w2.2.2
    generalize putAt (.tuple xs) p0 f0 = b0 at fk racc
    generalize putAt t1 p1 f1' = b1 at racc
    generalize putAt t2 p2 f2' = b2 at okS2 fs racc
    have s5 : Same (upd G2 L (.lst acc)) H2 := same_put sH2 eL
    have sG5 : Same G2 (upd G2 L (.lst acc)) := same_upd G2L
    have rL : Dq K (upd G2 L (.lst acc)) (.ref L) (.list [b0, b1, b2]) := .lst (.inl (.inl upd_same)) (racc.up sG5)
    have hp5 : PlD K (upd G2 L (.lst acc)) vk xs := hp.up (sG2.trans sG5)
    generalize upd G2 L (.lst acc) = F5 at s5 sG5 rL hp5
    have ix : ∀ {F : Hp} {j : Nat} {b : PyData}, Same F5 F → [b0, b1, b2][j]? = some b → EvD K (tOp (rIxL K) (tVar 14) (tC (V.int (j : Int)))) [y0, some (.ref d), y2, y3, y4, some vk, some (.ref wa), y7, y8, y9, y10, y11, some vt, some vs, some (.ref L), y15, y16, y17] F b := fun s h => ev_op (ev_var (i := 14) ⟨.ref L, rfl, rL.up s⟩) ev_int (rv_ixL h)
    dsimp only
    refine s_when (F := F5) (b := false) ((eb_or (eb_reprNe (ev_call (f := f1 g_is_kinds) (ea_cons (ix (j := 0) (Same.refl _) rfl) ea_nil) (if_pos (fits_K fk))) (ev_call (f := f1 g_is_kinds) (ea_cons (ix (j := 0) (Same.refl _) rfl) ea_nil) (if_pos (fits_K fk))))
      (fun _ => eb_reprNe (ev_call (f := f1 g_is_set) (ea_cons (ix (j := 2) (Same.refl _) rfl) ea_nil) (if_pos fs)) (ev_call (f := f1 g_law_is_set) (ea_cons (ix (j := 2) (Same.refl _) rfl) ea_nil) (if_pos okS2)))).is (by simp)) s5 (fun z => by cases z) fun _ F6 H6 g6 => ?_
    refine s_if (F := F6) (b := false) ((eb_reprNe (ev_isTree rfl (hp5.up g6.f) hk (ix (j := 1) g6.f rfl)) (ev_call (f := f2 g_law_is_tree) (ea_cons (ev_var (i := 5) ⟨vk, rfl, (hp5.up g6.f).dq⟩) (ea_cons (ix (j := 1) g6.f rfl) ea_nil)) (if_pos hk))).is (by simp)) g6.i (fun z => by cases z) fun _ F7 H7 g7 => ?_
    exact k _ _ H7 ((sG2.trans sG5).trans ((g6.trans g7).same)) (kp.trans (.of (g6.h.trans g7.h))) (((D2.same g6.h).same g7.h).more (by show n + 3 * 20 ≤ n + 60; omega))
/-- what is no set, what are no kinds -/
theorem bads_no {σ : L2.St} {F H : Hp} {n : Nat} {Q : Bool → Hp → Prop} (h1 : σ[1]? = some (some (.ref d))) (s : Same F H) (Fd : F d = none) (Fl : F l = none) (D0 : DrawAt H d l c n) (hn : n + 10 ≤ 2 ^ 40)
    (k : ∀ G H', Same F G → Same G H' → G d = none → G l = none → Keeps d l H H' → DrawAt H' d l c (n + 2) → Q false H') :
    tOr (tTest (tOp rNotB (tCall (p_is_set K) [] C8.E0 (tCons (tCall (spOne K badS) [] C8.E0 (tCons (tVar 1) tNil)) tNil)) (tC (V.bl false)))) (tTest (tOp rNotB (tCall (p_is_kinds K) [] C8.E0 (tCons (tCall (spOne K badK) [] C8.E0 (tCons (tVar 1) tNil)) tNil)) (tC (V.bl false)))) σ H Q := by
  refine ⟨.ref d, h1, F, d, l, c, n, rfl, s, Fd, Fl, D0, by omega, fun v1 b1 G1 H1 hb1 r1 s1 sH1 G1d G1l k1 D1 => ?_⟩
  refine ⟨G1, [b1], .bool false, sH1, .cons r1 .nil, ?_, fun v F2 H2 g2 rv => ?_⟩
  · obtain ⟨e1, e2⟩ := badS_no b1 hb1
    show (if fitsA b1 then some (PyData.bool (isSet b1)) else none) = _
    rw [if_pos e2, e1]
  cases rv
  refine ⟨false, false, rfl, rfl, false, rfl, ?_⟩
  dsimp only
  rw [if_neg Bool.false_ne_true]
  have D2 := D1.same g2.h
  obtain ⟨F2d, F2l⟩ := D1.frees g2 G1d G1l
  refine ⟨.ref d, h1, F2, d, l, c, n + 1, rfl, g2.i, F2d, F2l, D2, by omega, fun v3 b3 G3 H3 hb3 r3 s3 sH3 G3d G3l k3 D3 => ?_⟩
  refine ⟨G3, [b3], .bool false, sH3, .cons r3 .nil, ?_, fun v F4 H4 g4 rv => ?_⟩
  · obtain ⟨e1, e2⟩ := badK_no b3 hb3
    show (if fitsK b3 then some (PyData.bool (isKinds b3)) else none) = _
    rw [if_pos e2, e1]
  cases rv
  obtain ⟨F4d, F4l⟩ := D3.frees g4 G3d G3l
  exact ⟨false, false, rfl, rfl, false, rfl, k F4 H4 ((s1.trans g2.f).trans (s3.trans g4.f)) g4.i F4d F4l ((k1.trans (.of g2.h)).trans (k3.trans (.of g4.h))) (D3.same g4.h)⟩
/-- for turn: .. -/
theorem turn_by {H : Hp} {D : Ends} {n : Nat} {q : Str} {y0 y2 y3 y4 y5 y6 y7 y8 y9 y10 y11 y12 y13 y14 y15 y16 y17 : Option V} (hsub : PySem.W.exmOne K (.ref CK) (.ref CS) = some true) (T0 : Tabs [(P0, q)] H) (D0 : DrawAt H d l c n) (hn : n + 70000000 ≤ 2 ^ 40)
    (k : ∀ z3 z5 z6 z7 z12 z13 z14 z15 H', Tabs [(P0, q)] H' → DrawAt H' d l c (n + 70000000) → D.nx [y0, some (.ref d), y2, z3, y4, z5, z6, z7, y8, y9, y10, y11, z12, z13, z14, z15, y16, y17] H') :
    turnT K CK CS P0 q D [y0, some (.ref d), y2, y3, y4, y5, y6, y7, y8, y9, y10, y11, y12, y13, y14, y15, y16, y17] H := by
  have e13 : (4 : Nat) ^ 13 = 67108864 := by decide
  unfold turnT
  -- kinds
  refine s_asgC ?_
  refine ⟨.ref d, rfl, d, l, c, n, rfl, D0, by omega, fun vk xs G1 H1 hk hp sG1 G1d G1l k1 D1 => ?_⟩
  have T1 := tabs_keeps T0 D0 k1
  obtain ⟨h6, hx⟩ := kinds_ranks hk
  dsimp only
  -- tree, trees
  refine ⟨.ref d, rfl, vk, rfl, ?_⟩
  show tCons (tLst _) tNil _ _ _
  refine cons_one ?_
  refine ⟨by show 1 ≤ sizeLine; exact small (n := 1), fun ll hll => ?_⟩
  have fll := D1.fresh hll
  have T1' := tabs_same T1 (same_upd (o := .lst [.int 12]) hll)
  have D1' : DrawAt (upd H1 ll (.lst [.int 12])) d l c (n + 200) := D1.other fll
  refine ⟨G1, d, l, c, ll, n + 200, vk, xs, 12, by decide, sG1.trans (same_upd hll), G1d, G1l, sG1.free hll, rfl, hp.dq, hk, upd_same, by decide, D1', fll.1, fll.2.1, fll.2.2, by omega, fun L' vt t1 G2 H2 good rt s12 s2 G2d G2l G2ll N2 k2 ell D2 => ?_⟩
  have T2 := tabs_keeps3 T1' D1' upd_same k2
  refine ⟨.ref d, rfl, vk, rfl, G2, d, l, c, n + 200 + 4 ^ 13, vk, xs, s2, G2d, G2l, rfl, (hp.up s12).dq, hk, D2, by omega, fun vs t2 G3 H3 hset hwt hfew rs s23 s3 G3d G3l N3 k3 D3 => ?_⟩
  have T3 := tabs_keeps T2 D2 k3
  refine ⟨by show 2 ≤ sizeLine; exact small (n := 2), fun p hp' => ?_⟩
  refine ⟨p, [vt, vs], rfl, .inl (.inl upd_same), rfl, _, _, rfl, _, _, rfl, rfl, ?_⟩
  have s4 : Same G3 (upd H3 p (.tup [vt, vs])) := s3.trans (same_upd hp')
  have T4 := tabs_same T3 (same_upd (o := .tup [vt, vs]) hp')
  have D4 := D3.same (same_upd (o := .tup [vt, vs]) hp')
  generalize upd H3 p (.tup [vt, vs]) = H4 at s4 T4 D4
  obtain ⟨tok, twt, tne⟩ := good_ok good
  have hp3 := (hp.up s12).up s23
  have rt3 := rt.up s23
  have fs : fitsA t2 = true := fitsA_iff.mpr (by omega)
  obtain ⟨n4, hn4⟩ : ∃ n4, n4 = n + 200 + 4 ^ 13 + 400 := ⟨_, rfl⟩
  rw [← hn4] at D4
  dsimp only
  -- what is right
  refine s_when (F := G3) (b := false) ((eb_or (eb_notB (ev_call (f := f1 g_is_kinds) (ea_cons (ev_var (i := 5) ⟨vk, rfl, hp3.dq⟩) ea_nil) (if_pos (fits_kinds hk)))) fun _ => eb_or (eb_notB (ev_isTree rfl hp3 hk (ev_var (i := 12) ⟨vt, rfl, rt3⟩))) fun _ => eb_notB (ev_call (f := f1 g_is_set) (ea_cons (ev_var (i := 13) ⟨vs, rfl, rs⟩) ea_nil) (if_pos fs))).is (by rw [hk, tok, hset]; rfl)) s4 (fun z => by cases z) fun _ F5 H5 g5 => ?_
  have hp5 := hp3.up g5.f
  have rt5 := rt3.up g5.f
  have rs5 := rs.up g5.f
  refine s_when (F := F5) (b := false) ((eb_or (eb_notB (ev_callK1 (f := f1 g_is_kinds) (fun _ => rfl) (ev_var (i := 5) ⟨vk, rfl, hp5.dq⟩) (if_pos (fits_kinds hk)))) fun _ => eb_or (eb_notB (ev_isTreeK (fun _ _ => rfl) rfl hp5 hk (ev_var (i := 12) ⟨vt, rfl, rt5⟩))) fun _ => eb_notB (ev_callK1 (f := f1 g_is_set) (fun _ => rfl) (ev_var (i := 13) ⟨vs, rfl, rs5⟩) (if_pos fs))).is (by rw [hk, tok, hset]; rfl)) g5.i (fun z => by cases z) fun _ F6 H6 g6 => ?_
  have g56 := g5.trans g6
  have hp6 := hp5.up g6.f
  have rt6 := rt5.up g6.f
  have rs6 := rs5.up g6.f
  have T6 := tabs_same T4 g56.h
  have D6 := D4.same g56.h
  obtain ⟨F6d, F6l⟩ := D4.frees g56 G3d G3l
  -- words
  refine s_asgC ?_
  refine lc_new (K := K) (σ := [y0, some (.ref d), y2, y3, y4, some vk, y6, y7, y8, y9, y10, y11, some vt, some vs, y14, y15, y16, y17]) (F := F6) (te := tVar 16) (tt := tYes) (g := gTup K 2 (gCons (gName 16) (gCons (gName 17) gNil))) (vs := [16, 17]) (fun _ => true) (fun d => .str (nameD d)) (ds := xs) (ew_tup (ev_var (i := 5) ⟨vk, rfl, hp6.dq⟩)) (small1000 (by omega)) (fun dd F' hd sF => ?_) H6 g6.i _ fun L1 F7 acc1 H7 g7 hL1 F7L eL1 r1 => ?_
  · obtain ⟨nm, r, rfl, _, _⟩ := hx dd hd
    refine tk_two.imp fun σ2 hσ => ?_
    obtain ⟨u1, u2, rfl, ru1, ru2⟩ := hσ
    exact ⟨rfl, eb_yes, fun _ => ev_var (i := 16) ⟨u1, rfl, ru1⟩⟩
  rw [made_map] at r1
  refine (ea_cons (ev_str (x := "qaq")) (ea_cons (ev_str (x := "set")) (ea_cons (ev_str (x := "for")) ea_nil)) : EvS K _ _ F7 [.str "qaq", .str "set", .str "for"]) H7 g7.i _ fun us F8 H8 g8 r8 => ⟨by rw [r8.len]; exact small (n := 3), fun p2 hp2 => ?_⟩
  have g78 := g7.trans g8
  have eL8 := g8.h _ _ eL1
  have ne : L1 ≠ p2 := fun z => by rw [z, hp2] at eL8; cases eL8
  refine ⟨L1, p2, acc1, us, rfl, rfl, upd_at ne eL8, upd_same, ?_, fun p3 hp3 => ?_⟩
  · rw [r1.len, r8.len, List.length_map]
    exact Nat.le_of_lt (small1000 (by show xs.length + 3 ≤ 1000; omega))
  have g9 : Grow F6 H6 (upd F8 p3 (.lst (acc1 ++ us))) (upd (upd H8 p2 (.lst us)) p3 (.lst (acc1 ++ us))) := (grow_own g78 (g78.h.free hp2) (g78.i.free hp2)).trans (.known (same_own g78.i (g78.i.free hp2)) hp3)
  have F8p3 : F8 p3 = none := (same_own (o := .lst us) g78.i (g78.i.free hp2)).free hp3
  have e9 : upd F8 p3 (.lst (acc1 ++ us)) p3 = some (.lst (acc1 ++ us)) := upd_same
  have r9 : DqAll K (upd F8 p3 (.lst (acc1 ++ us))) (acc1 ++ us) ((xs.map nameD ++ (["qaq", "set", "for"] : List Str)).map .str) := by
    have := ((r1.up g8.f).app r8).up (same_upd (o := .lst (acc1 ++ us)) F8p3)
    rw [List.map_append, List.map_map]
    exact this
  generalize upd F8 p3 (.lst (acc1 ++ us)) = F9 at g9 e9 r9
  generalize upd (upd H8 p2 (.lst us)) p3 (.lst (acc1 ++ us)) = H9 at g9
  have T9 := tabs_same T6 g9.h
  have D9 := D6.same g9.h
  obtain ⟨F9d, F9l⟩ := D6.frees g9 F6d F6l
  have hp9 := hp6.up g9.f
  have rt9 := rt6.up g9.f
  have rs9 := rs6.up g9.f
  have hwl : (xs.map nameD ++ (["qaq", "set", "for"] : List Str)).length ≤ 20 := by
    rw [List.length_append, List.length_map]
    show xs.length + 3 ≤ 20
    omega
  have hwn : ∀ s ∈ xs.map nameD ++ (["qaq", "set", "for"] : List Str), s.length ≤ 20 := fun s hs => by
    rcases List.mem_append.mp hs with h | h
    · obtain ⟨dd, hdd, rfl⟩ := List.mem_map.mp h
      obtain ⟨nm, r, rfl, _, _⟩ := hx dd hdd
      have := kind_name hk hdd
      show nm.length ≤ 20
      omega
    · simp only [List.mem_cons, List.not_mem_nil, or_false] at h
      rcases h with rfl | rfl | rfl <;> decide
  generalize xs.map nameD ++ (["qaq", "set", "for"] : List Str) = words at r9 hwl hwn
  have hW : ∀ dd ∈ [PyData.tuple xs, t1, t2], weight dd ≤ 1000 ∧ nestOk 40 dd = true ∧ smallI dd = true := fun dd hdd => by
    simp only [List.mem_cons, List.not_mem_nil, or_false] at hdd
    rcases hdd with rfl | rfl | rfl
    · have := weight_kinds hk
      exact ⟨by omega, nest_more (n := 3) (by decide) (nest_kinds hk), small_kinds hk⟩
    · exact ⟨by omega, tne, small_tree _ 13 _ good.node good.dep⟩
    · exact ⟨hwt, nest_more (n := 5) (by decide) (nest_set hset), small_set hset⟩
  dsimp only
  -- laps
  show tSeq (tFor _ _ _) _ _ _ H9
  refine for_rng (K := K) (F := F9) (kk := 5) (ea_cons ev_int ea_nil) g9.i (by decide) (fun i σ' H' => (∃ z3 z14 z15, σ' = [y0, some (.ref d), y2, z3, y4, some vk, some (.ref p3), y7, y8, y9, y10, y11, some vt, some vs, z14, z15, y16, y17]) ∧ Same F9 H' ∧ Tabs [(P0, q)] H' ∧ DrawAt H' d l c (n4 + 60 * i))
    (fun H' s => ⟨⟨_, _, _, rfl⟩, g9.i.trans s, tabs_same T9 s, D9.same s⟩) (fun i σ' Hx hlt hW' => ?_) (fun σ' H' hW' => ?_)
  · obtain ⟨⟨z3, z14, z15, rfl⟩, sx, Tx, Dx⟩ := hW'
    have hi : i < 5 := hlt
    show lapT K CK _ [y0, some (.ref d), y2, some (.int (0 + (i : Int))), y4, some vk, some (.ref p3), y7, y8, y9, y10, y11, some vt, some vs, z14, z15, y16, y17] Hx
    exact lap_by sx F9d F9l hp9 hk rt9 rs9 hset hfew hW e9 r9 hwl hwn Dx (by omega) fun w14 w15 H' s' kp' D' => ⟨⟨_, _, _, rfl⟩, s', tabs_keeps Tx Dx kp', D'.more (by omega)⟩
  obtain ⟨⟨z3, z14, z15, rfl⟩, sx, Tx, Dx⟩ := hW'
  rw [show ((5 : Int).toNat) = 5 from rfl] at Dx
  -- wrong ones
  dsimp only
  show tSeq (tIfS (tOr _ _) _ _) _ _ _ H'
  refine bads_no (K := K) rfl sx F9d F9l Dx (by omega) fun GA HA s9A sA GAd GAl kA DA => ?_
  have TA := tabs_keeps Tx Dx kA
  rw [if_neg Bool.false_ne_true]
  -- bad
  unfold tNext
  dsimp only
  refine ⟨.ref d, rfl, GA, d, l, c, n4 + 60 * 5 + 2, rfl, sA, GAd, GAl, DA, by omega, fun vb b GB HB hb rb sAB sB GBd GBl kB DB => ?_⟩
  have TB := tabs_keeps TA DA kB
  have rtB := rt9.up (s9A.trans sAB)
  dsimp only
  refine caught_is1 (K := K) (CS := CS) (CN := CK) (F := GB) hsub TB sB DB (fun E H1 Q sE kE => ?_) fun Hc sc Tc Dc => ?_
  · exact ⟨vb, rfl, vt, rfl, noT GB, vb, vt, b, t1, sE, rfl, dp_noT _ _ rb, dp_noT _ _ rtB, (badK_no b hb).2, .inl ⟨(badK_no b hb).1, kE⟩⟩
  · exact k _ _ _ _ _ _ _ _ _ Tc (Dc.more (by omega))
theorem par3_open {i j k : Nat} {ta : TA} {D : Ends} {σ : L2.St} {H : Hp} (h : ta σ H fun vs H1 => ∃ u v w, vs = [u, v, w] ∧ D.nx (((σ.set i (some u)).set j (some v)).set k (some w)) H1) : tPar3 i j k ta D σ H := h
theorem par_open {i j : Nat} {ta : TA} {D : Ends} {σ : L2.St} {H : Hp} (h : ta σ H fun vs H1 => ∃ u v, vs = [u, v] ∧ D.nx ((σ.set i (some u)).set j (some v)) H1) : tPar i j ta D σ H := h
theorem cons_open {te : TE} {ta : TA} {σ : L2.St} {H : Hp} {Q : List V → Hp → Prop} (h : te σ H fun x H1 => ta σ H1 fun xs H2 => Q (x :: xs) H2) : tCons te ta σ H Q := h
theorem deep_is {m : Nat} (h : m = 58 ∨ m = 59 ∨ m = 60) : treeOk kindsE (deepD m leafD) = decide ((m : Int) < 60) := by
  rcases h with rfl | rfl | rfl
  · rw [deep_ok.1]; rfl
  · rw [deep_ok.2.1]; rfl
  · rw [deep_ok.2.2]; rfl
theorem pair_is {m : Nat} (h : m = 16 ∨ m = 17 ∨ m = 18) : tupT 40 (deepD m pairD) = true ∧ treeOk kindsE (deepD m pairD) = decide (((sizeT (deepD m pairD) : Nat) : Int) ≤ 400) := by
  rw [size_deep, size_pair]
  rcases h with rfl | rfl | rfl
  · rw [pair_ok.1]; exact ⟨pair_tup.1, rfl⟩
  · rw [pair_ok.2.1]; exact ⟨pair_tup.2.1, rfl⟩
  · rw [pair_ok.2.2]; exact ⟨pair_tup.2.2, rfl⟩
/-- what stands behind the turns -/
theorem end_by {H : Hp} {n : Nat} {nx : L2.St → Hp → Prop} {y0 y2 y3 y4 y5 y6 y7 y8 y9 y10 y11 y12 y13 y14 y15 y16 y17 : Option V} (D0 : DrawAt H d l c n) (hn : n + 10 ≤ 2 ^ 40) :
    endT K CK { nx := nx, rt := fun v _ => v = .bl true } [y0, some (.ref d), y2, y3, y4, y5, y6, y7, y8, y9, y10, y11, y12, y13, y14, y15, y16, y17] H := by
  unfold endT
  -- deep, wide, many
  refine par3_open (cons_open ?_)
  refine (ev_tup (ea_cons (ev_str (x := "e")) ea_nil) (small (n := 1)) : EvD K _ _ (fun _ => none) leafD) H (fun b o e => by cases e) _ fun v1 F1 H1 g1 r1 => ?_
  obtain ⟨F1d, F1l⟩ := D0.frees g1 rfl rfl
  refine cons_open ?_
  refine (ev_tup (ea_cons (ev_str (x := "e")) ea_nil) (small (n := 1)) : EvD K _ _ F1 leafD) H1 g1.i _ fun v2 F2 H2 g2 r2 => ?_
  have D1 := D0.same g1.h
  obtain ⟨F2d, F2l⟩ := D1.frees g2 F1d F1l
  have D2 := D1.same g2.h
  show tCons (tCall _ _ _ _) tNil _ _ _
  refine cons_one ?_
  refine ⟨.ref d, rfl, ?_⟩
  show tCons (tLst _) tNil _ _ _
  refine cons_one ?_
  refine (ev_lst (ea_cons (ev_int (i := 58)) (ea_cons (ev_int (i := 59)) (ea_cons (ev_int (i := 60)) ea_nil))) (small (n := 3)) : EvD K _ _ F2 (.list [.int 58, .int 59, .int 60])) H2 g2.i _ fun v3 F3 H3 g3 r3 => ?_
  obtain ⟨F3d, F3l⟩ := D2.frees g3 F2d F2l
  refine ⟨F3, d, l, c, n, v3, [.int 58, .int 59, .int 60], g3.i, F3d, F3l, rfl, r3, by decide, by decide, D2.same g3.h, by omega, fun dm vm H4 hm rm k4 D4 => ?_⟩
  obtain ⟨m, hm3, rfl⟩ : ∃ m : Nat, (m = 58 ∨ m = 59 ∨ m = 60) ∧ dm = .int (m : Int) := by
    simp only [List.mem_cons, List.not_mem_nil, or_false] at hm
    rcases hm with rfl | rfl | rfl
    · exact ⟨58, .inl rfl, rfl⟩
    · exact ⟨59, .inr (.inl rfl), rfl⟩
    · exact ⟨60, .inr (.inr rfl), rfl⟩
  cases rm
  refine ⟨_, _, _, rfl, ?_⟩
  have s4 : Same F3 H4 := k4.same g3.i F3d F3l
  have r1' := (r1.up g2.f).up g3.f
  have r2' := r2.up g3.f
  dsimp only
  show tSeq (tFor _ _ _) _ _ _ H4
  refine for_rng (K := K) (F := F3) (kk := (m : Int)) (ea_cons (ev_var (i := 10) ⟨_, rfl, .int _⟩) ea_nil) s4 (by omega) (fun i σ' H' => ∃ z3 v8 F', σ' = [y0, some (.ref d), y2, z3, y4, y5, y6, y7, some v8, some v2, some (.int (m : Int)), y11, y12, y13, y14, y15, y16, y17] ∧ Same F3 F' ∧ Same F' H' ∧ F' d = none ∧ F' l = none ∧ Dq K F' v8 (deepD i leafD) ∧ DrawAt H' d l c (n + 1))
    (fun H' s => ⟨_, v1, F3, rfl, Same.refl _, s4.trans s, F3d, F3l, r1', D4.same s⟩) (fun i σ' Hx hlt hW => ?_) (fun σ' H5 hW => ?_)
  · obtain ⟨z3, v8, F', rfl, sF, sX, F'd, F'l, r8, DX⟩ := hW
    refine s_set (K := K) (F := F') (d := deepD (i + 1) leafD) (ev_tup (ea_cons (ev_str (x := "s")) (ea_cons (ev_var (i := 8) ⟨v8, rfl, r8⟩) ea_nil)) (small (n := 2))) sX fun v F'' H'' g r => ?_
    obtain ⟨F''d, F''l⟩ := DX.frees g F'd F'l
    exact ⟨_, v, F'', rfl, sF.trans g.f, g.i, F''d, F''l, r, DX.same g.h⟩
  obtain ⟨z3, v8, F5, rfl, sF5, s5, F5d, F5l, r8, D5⟩ := hW
  rw [Int.toNat_natCast] at r8
  -- wide
  dsimp only
  show tSeq (tFor _ _ _) _ _ _ H5
  refine for_rng (K := K) (F := F5) (kk := 7) (ea_cons (ev_int (i := 7)) ea_nil) s5 (by omega) (fun i σ' H' => ∃ z3 v9 F', σ' = [y0, some (.ref d), y2, z3, y4, y5, y6, y7, some v8, some v9, some (.int (m : Int)), y11, y12, y13, y14, y15, y16, y17] ∧ Same F5 F' ∧ Same F' H' ∧ F' d = none ∧ F' l = none ∧ Dq K F' v9 (wideD i) ∧ DrawAt H' d l c (n + 1))
    (fun H' s => ⟨_, v2, F5, rfl, Same.refl _, s5.trans s, F5d, F5l, r2'.up sF5, D5.same s⟩) (fun i σ' Hx hlt hW => ?_) (fun σ' H6 hW => ?_)
  · obtain ⟨z3, v9, F', rfl, sF, sX, F'd, F'l, r9, DX⟩ := hW
    refine s_set (K := K) (F := F') (d := wideD (i + 1)) (ev_tup (ea_cons (ev_str (x := "t")) (ea_cons (ev_var (i := 9) ⟨v9, rfl, r9⟩) (ea_cons (ev_var (i := 9) ⟨v9, rfl, r9⟩) ea_nil))) (small (n := 3))) sX fun v F'' H'' g r => ?_
    obtain ⟨F''d, F''l⟩ := DX.frees g F'd F'l
    exact ⟨_, v, F'', rfl, sF.trans g.f, g.i, F''d, F''l, r, DX.same g.h⟩
  obtain ⟨z3, v9, F6, rfl, sF6, s6, F6d, F6l, r9, D6⟩ := hW
  have r9' : Dq K F6 v9 (.tuple [.str "t", wideD 6, wideD 6]) := r9
  have r8' := r8.up sF6
  -- kinds, some
  dsimp only
  refine par_open (cons_open ?_)
  refine tupF_new (K := K) (F := F6) (ds := kindsE) (ea_cons (ev_tup (ea_cons (ev_str (x := "e")) (ea_cons (ev_int (i := 0)) ea_nil)) (small (n := 2))) (ea_cons (ev_tup (ea_cons (ev_str (x := "s")) (ea_cons (ev_int (i := 1)) ea_nil)) (small (n := 2))) (ea_cons (ev_tup (ea_cons (ev_str (x := "t")) (ea_cons (ev_int (i := 2)) ea_nil)) (small (n := 2))) ea_nil))) (small (n := 3)) s6 fun v5 F7 H7 g7 p7 => ?_
  obtain ⟨F7d, F7l⟩ := D6.frees g7 F6d F6l
  have D7 := D6.same g7.h
  show tCons (tCall _ _ _ _) tNil _ _ _
  refine cons_one ?_
  refine ⟨.ref d, rfl, ?_⟩
  show tCons (tLst _) tNil _ _ _
  refine cons_one ?_
  refine (ev_lst (ea_cons (ev_int (i := 16)) (ea_cons (ev_int (i := 17)) (ea_cons (ev_int (i := 18)) ea_nil))) (small (n := 3)) : EvD K _ _ F7 (.list [.int 16, .int 17, .int 18])) H7 g7.i _ fun vl F8 H8 g8 rl => ?_
  obtain ⟨F8d, F8l⟩ := D7.frees g8 F7d F7l
  refine ⟨F8, d, l, c, n + 1, vl, [.int 16, .int 17, .int 18], g8.i, F8d, F8l, rfl, rl, by decide, by decide, D7.same g8.h, by omega, fun ds vs H9 hs' rs' k9 D9 => ?_⟩
  obtain ⟨e, he3, rfl⟩ : ∃ m : Nat, (m = 16 ∨ m = 17 ∨ m = 18) ∧ ds = .int (m : Int) := by
    simp only [List.mem_cons, List.not_mem_nil, or_false] at hs'
    rcases hs' with rfl | rfl | rfl
    · exact ⟨16, .inl rfl, rfl⟩
    · exact ⟨17, .inr (.inl rfl), rfl⟩
    · exact ⟨18, .inr (.inr rfl), rfl⟩
  cases rs'
  refine ⟨_, _, rfl, ?_⟩
  have s9 : Same F8 H9 := k9.same g8.i F8d F8l
  have g78 := g7.f.trans g8.f
  have p9 := p7.up g8.f
  have r9'' := r9'.up g78
  have r8'' := r8'.up g78
  -- pair
  dsimp only
  refine s_set (K := K) (F := F8) (d := pairD) (ev_tup (ea_cons (ev_str (x := "t")) (ea_cons (ev_var (i := 9) ⟨v9, rfl, r9''⟩) (ea_cons (ev_op (ev_var (i := 9) ⟨v9, rfl, r9''⟩) (ev_int (i := ((1 : Nat) : Int))) (rv_ixT (k := 1) rfl)) ea_nil))) (small (n := 3))) s9 fun v4 FA HA gA r4 => ?_
  obtain ⟨FAd, FAl⟩ := D9.frees gA F8d F8l
  dsimp only
  show tSeq (tFor _ _ _) _ _ _ HA
  refine for_rng (K := K) (F := FA) (kk := (e : Int)) (ea_cons (ev_var (i := 11) ⟨_, rfl, .int _⟩) ea_nil) gA.i (by omega) (fun i σ' H' => ∃ z3 v4 F', σ' = [y0, some (.ref d), y2, z3, some v4, some v5, y6, y7, some v8, some v9, some (.int (m : Int)), some (.int (e : Int)), y12, y13, y14, y15, y16, y17] ∧ Same FA F' ∧ Same F' H' ∧ Dq K F' v4 (deepD i pairD))
    (fun H' s => ⟨_, v4, FA, rfl, Same.refl _, gA.i.trans s, r4⟩) (fun i σ' Hx hlt hW => ?_) (fun σ' HB hW => ?_)
  · obtain ⟨z3, v4, F', rfl, sF, sX, r4⟩ := hW
    refine s_set (K := K) (F := F') (d := deepD (i + 1) pairD) (ev_tup (ea_cons (ev_str (x := "s")) (ea_cons (ev_var (i := 4) ⟨v4, rfl, r4⟩) ea_nil)) (small (n := 2))) sX fun v F'' H'' g r => ?_
    exact ⟨_, v, F'', rfl, sF.trans g.f, g.i, r⟩
  obtain ⟨z3, v4, FB, rfl, sFB, sB, r4⟩ := hW
  rw [Int.toNat_natCast] at r4
  have pB := (p9.up gA.f).up sFB
  have r8B := (r8''.up gA.f).up sFB
  obtain ⟨htup, hpair⟩ := pair_is he3
  dsimp only
  refine s_when (F := FB) (b := false) ((eb_reprNe (ev_isTree rfl pB kindsE_ok (ev_var (i := 8) ⟨v8, rfl, r8B⟩)) (ev_op (ev_var (i := 10) ⟨_, rfl, .int (m : Int)⟩) (ev_int (i := 60)) (rv_bl (g := fun i j => decide (i < j))))).is (by rw [deep_is hm3, decide_eq_true rfl]; rfl)) sB (fun z => by cases z) fun _ FC HC gC => ?_
  refine s_ret (K := K) (F := FC) (d := .bool true) ((ev_reprEq (ev_isTree rfl (pB.up gC.f) kindsE_ok (ev_var (i := 4) ⟨v4, rfl, r4.up gC.f⟩)) (ev_op (ev_call (f := f1 (g_law_size 40)) (ea_cons (ev_var (i := 4) ⟨v4, rfl, r4.up gC.f⟩) ea_nil) (if_pos htup)) (ev_int (i := 400)) (rv_bl (g := fun i j => decide (i ≤ j))))).is (congrArg PyData.bool (by rw [hpair, decide_eq_true rfl]))) gC.i fun v F' H' g r => ?_
  cases r
  rfl
end
end Sx
set_option Elab.async false
set_option linter.all false
set_option maxRecDepth 100000
set_option maxHeartbeats 4000000
set_option exponentiation.threshold 3000
namespace Sx
open PySem PySem.Spec PyProof.Rows L2 LamX
open C8 (Cal pe_c pe_gc)
/-! ### law -/
abbrev s_law : Stmt := top 54
theorem sc_law : FnScope ["script", "draw", "turn", "lap", "pair", "kinds", "words", "bad", "deep", "wide", "many", "some", "tree", "trees", "odd", "thing", "name", "rank"] ["script"] (defScope s_law) := ⟨rfl, rfl, rfl, by decide +kernel, rfl, by decide +kernel, by decide +kernel⟩
def qL : Str := (envOfC "law" (defScope s_law) 0 0 .none).qual ++ "<lambda>"
theorem kb_tree {K : PySem.W.Frag} {f : Addr} {fd : FuncData} (F : Fun K "is_tree" "is_tree" s_is_tree f fd) : KBinds K fd ["kinds", "thing"] ["thing", "kinds"] kwG kwV := by
  obtain ⟨oc, od, kV, doc, pm, an, cdv, ct, osl, rfl, lk, hcd⟩ := F.ex
  refine ⟨fun s us ws _ hl => ?_, fun r1 r2 => ?_⟩
  · match us, ws, hl with
    | [], [a, b], _ => exact .of_eq rfl
  · match r1, r2 with
    | .nil, .nil => exact .nil
    | .nil, .cons _ .nil => exact .nil
    | .nil, .cons a (.cons b .nil) => exact .cons b (.cons a .nil)
    | .nil, .cons _ (.cons _ (.cons _ _)) => exact .nil
    | .cons _ _, .nil => exact .nil
    | .cons _ _, .cons _ _ => exact .nil
theorem kb_one {K : PySem.W.Frag} {x : Str} {st : Stmt} {f : Addr} {fd : FuncData} (F : Fun K x x st f fd) (hb : ∀ (s : Shared) (u : Value), bindArgs fd ⟨[], [(("thing" : Str), u)]⟩ = pure ([(("thing" : Str), u)] : List (Str × Value))) : KBinds K fd ["thing"] ["thing"] kw1G kw1V := by
  refine ⟨fun s us ws _ hl => ?_, fun r1 r2 => ?_⟩
  · match us, ws, hl with
    | [], [a], _ => exact .of_eq (hb s a)
  · match r1, r2 with
    | .nil, .nil => exact .nil
    | .nil, .cons a .nil => exact .cons a .nil
    | .nil, .cons _ (.cons _ _) => exact .nil
    | .cons _ _, .nil => exact .nil
    | .cons _ _, .cons _ _ => exact .nil
section
variable {P : Program} {w : World} {K : PySem.W.Frag} {mg : Str → Option Value} {base : Heap} {f ft fk fs g c0 P0 : Addr} {fd fdt fdk fds : FuncData} {CK CS : Addr}
structure LawCs (P : Program) (w : World) (K : PySem.W.Frag) (mg : Str → Option Value) (base : Heap) (c0 P0 f ft fk fs g CK CS : Addr) (fd fdt fdk fds fdg : FuncData) : Prop where
  B : BI mg
  F : Fun K "law" "law" s_law f fd
  hcode : fd.code = .ref c0
  TB : TabB base mg c0 P0
  Fg : Fun K "_law_caught" "_law_caught" s__law_caught g fdg
  mg' : mg "_law_caught" = some (.ref g)
  hCS : mg "WritingError" = some (.ref CS)
  sub : PySem.W.exmOne K (.ref CK) (.ref CS) = some true
  Ft : FnOk P w K mg base (L2.CX P w) 6 ft fdt ["kinds", "thing"] (spTree K CK)
  mt : mg "is_tree" = some (.ref ft)
  kt : PySem.W.keepIn K (.ref ft) = true
  kbt : KBinds K fdt ["kinds", "thing"] ["thing", "kinds"] kwG kwV
  Fk : FnOk P w K mg base CX0 4 fk fdk ["thing"] (p_is_kinds K)
  mk_ : mg "is_kinds" = some (.ref fk)
  kk : PySem.W.keepIn K (.ref fk) = true
  kbk : KBinds K fdk ["thing"] ["thing"] kw1G kw1V
  Fs : FnOk P w K mg base CX0 5 fs fds ["thing"] (p_is_set K)
  ms : mg "is_set" = some (.ref fs)
  ks : PySem.W.keepIn K (.ref fs) = true
  kbs : KBinds K fds ["thing"] ["thing"] kw1G kw1V
  X_BadKinds : Rse K mg "BadKinds" CK
  CK0 : ExcC K CK
  c_is_kinds : Cal P w K mg base 4 "is_kinds" (p_is_kinds K) []
  c_is_set : Cal P w K mg base 5 "is_set" (p_is_set K) []
  c_is_tree : CalX P w K mg base 6 "is_tree" ["kinds", "thing"] (spTree K CK)
  c__law_begun : Cal P w K mg base 1 "_law_begun" (spBegun K) []
  c__law_pick : Cal P w K mg base 3 "_law_pick" (spPick K) []
  c__law_kinds : Cal P w K mg base 5 "_law_kinds" (spKinds K) []
  c__law_tree : Cal P w K mg base 17 "_law_tree" (spTreeL K 13) []
  c__law_set : Cal P w K mg base 3 "_law_set" (spSetL K) []
  c__law_bent : Cal P w K mg base 42 "_law_bent" (spBent K) []
  c__law_size : Cal P w K mg base 41 "_law_size" (spD K (f1 (g_law_size 40))) []
  c__law_bad_set : Cal P w K mg base 4 "_law_bad_set" (spOne K badS) []
  c__law_bad_kinds : Cal P w K mg base 4 "_law_bad_kinds" (spOne K badK) []
  c__law_are_kinds : Cal P w K mg base 2 "_law_are_kinds" (p_is_kinds K) []
  c__law_is_tree : Cal P w K mg base 1 "_law_is_tree" (p__law_is_tree K) []
  c__law_is_set : Cal P w K mg base 3 "_law_is_set" (p__law_is_set K) []
abbrev lawN : List Str := ["script", "draw", "turn", "lap", "pair", "kinds", "words", "bad", "deep", "wide", "many", "some", "tree", "trees", "odd", "thing", "name", "rank"]
/-- the law's run, from its reading -/
theorem law_by {fdg : FuncData} (L : LawCs P w K mg base c0 P0 f ft fk fs g CK CS fd fdt fdk fds fdg) (hroom : Room 60 callerA) {t : Shared} {H : Hp} {a : Addr} {ns : List Int} (hl : ns.length ≤ 63) (hs : SqL K H a (ns.map V.int)) (hP : H P0 = some (.tbl #[])) (e0 : Env0 P w K mg base callerA [] t H) :
    codeAny (model P w) callerA (.call (.ref f) ⟨[.ref a], []⟩) (CR CX0 [] P w H t (fun v _ => v = .bl true) (fun _ _ _ => False)) t := by
  obtain ⟨B, F, hcode, TB, Fg, mC, hCS, hsub, Ft, mt, kt, kbt, Fk, mk_, kk, kbk, Fs, ms, ks, kbs, X_BadKinds, CK0, c_is_kinds, c_is_set, c_is_tree, c__law_begun, c__law_pick, c__law_kinds, c__law_tree, c__law_set, c__law_bent, c__law_size, c__law_bad_set, c__law_bad_kinds, c__law_are_kinds, c__law_is_tree, c__law_is_set⟩ := L
  have kC := Fg.kp
  have bC : L2.Binds K fdg ["work"] [] := Fg.binds fun _ _ _ _ _ _ us hl => match us, hl with | [_], _ => rfl
  obtain ⟨ocg, odg, kVg, docg, pmg, ang, cdvg, ctg, oslg, rfl, lC, cC⟩ := Fg.ex
  have bL : L2.Binds K fd ["script"] [] := F.binds fun _ _ _ _ _ _ us hl => match us, hl with | [_], _ => rfl
  obtain ⟨oc, od, kV, doc, pm, an, cdv, ct, osl, rfl, lk, hcd⟩ := F.ex
  have hcode' : cdv = .ref c0 := hcode
  subst hcode'
  have kIn : K.In t.heap := e0.mod.kin.keeps fun b o e => (e0.bs b o e).1
  have hmT : (P0, qL) ∈ [(P0, qL)] := List.mem_singleton.mpr rfl
  have huT : ∀ p ∈ [(P0, qL)], p.1 = P0 → p.2 = qL := fun p hp _ => by rw [List.mem_singleton.mp hp]
  refine run_ofS (N := lawN) (ps := ["script"]) (us := [.ref a]) (vs := [.ref a]) (k := 59) lk hcd sc_law hroom e0 (bL t [.ref a] kIn rfl) (.cons rfl .nil) rfl fun hr => ?_
  have main : ∃ tt, PSs (cxOf CX0 P w K mg base lawN "law" (defScope s_law) f (.ref c0) callerA [] t H (fun _ _ _ => False)).nox (defBody s_law) tt ∧ tt { nx := fun _ H' => (V.non = .bl true), rt := fun v _ => v = .bl true } (L2.start lawN [.ref a]) H := by
    refine ⟨_, (pss_cons (ps_set (i := 1) sc_law.nd rfl (Or.inr rfl) (pe_c c__law_begun hr (by first | decide | omega) (by rfl) (pa_cons (pv 0) pa_nil)))
        (pss_cons (ps_for PassesOwn.never rfl (pi_range1 (by rfl) B.range (pa_cons (pe_op (op_add) pe_int (pe_callB (call_min2 rfl) (by rfl) B.min (by decide +kernel) (pa_cons (pe_callB (r := rLen0 K) (call_len) (by rfl) B.len (by decide +kernel) (pa_cons (pv 0) pa_nil)) (pa_cons pe_int pa_nil)))) pa_nil)) (pg_name (i := 2) sc_law.nd rfl (Or.inl rfl) (hf := (Or.inr rfl))) (pss_cons (ps_set (i := 5) sc_law.nd rfl (Or.inl rfl) (pe_c c__law_kinds hr (by first | decide | omega) (by rfl) (pa_cons (pv 1) pa_nil)))
        (pss_cons (ps_asg (pe_tup (pa_cons (pe_c c__law_tree hr (by first | decide | omega) (by rfl) (pa_cons (pv 1) (pa_cons (pv 5) (pa_cons (pe_lst (pa_cons pe_int pa_nil)) pa_nil)))) (pa_cons (pe_c c__law_set hr (by first | decide | omega) (by rfl) (pa_cons (pv 1) (pa_cons (pv 5) (pa_cons pe_int pa_nil)))) pa_nil))) (pg_tup rfl (pgs_cons (pg_name (i := 12) sc_law.nd rfl (Or.inr rfl) (hf := (Or.inl rfl))) (pgs_cons (pg_name (i := 13) sc_law.nd rfl (Or.inl rfl) (hf := (Or.inr rfl))) pgs_nil))))
        (pss_cons (ps_if (PW.pt (pw_or (pt_cmpR (r := rNotB) (op_notBl) (pe_c c_is_kinds hr (by first | decide | omega) (by rfl) (pa_cons (pv 5) pa_nil)) pe_bl (nomark _)) (pw_or (pt_cmpR (r := rNotB) (op_notBl) (pe_cx c_is_tree hr (by first | decide | omega) (by rfl) passL (pa_cons (pv 5) (pa_cons (pv 12) pa_nil))) pe_bl (nomark _)) (pw_or1 (pt_cmpR (r := rNotB) (op_notBl) (pe_c c_is_set hr (by first | decide | omega) (by rfl) (pa_cons (pv 13) pa_nil)) pe_bl (nomark _)))))) (pss_one (ps_ret pe_bl)) pss_nil)
        (pss_cons (ps_if (PW.pt (pw_or (pt_cmpR (r := rNotB) (op_notBl) (pe_ckw Fk (hr.mono (by decide)) (by rfl) mk_ kk kbk pass0 (pk_cons (pv 5) pk_nil)) pe_bl (nomark _)) (pw_or (pt_cmpR (r := rNotB) (op_notBl) (pe_ckw Ft (hr.mono (by decide)) (by rfl) mt kt kbt passL (pk_cons (pv 12) (pk_cons (pv 5) pk_nil))) pe_bl (nomark _)) (pw_or1 (pt_cmpR (r := rNotB) (op_notBl) (pe_ckw Fs (hr.mono (by decide)) (by rfl) ms ks kbs pass0 (pk_cons (pv 13) pk_nil)) pe_bl (nomark _)))))) (pss_one (ps_ret pe_bl)) pss_nil)
        (pss_cons (ps_set (i := 6) sc_law.nd rfl (Or.inr rfl) (pe_op op_cat (pe_lc (own := [("name", 16), ("rank", 17)]) (g := (gTup K 2 (gCons (gName 16) (gCons (gName 17) gNil)))) rfl sc_law.nd (pi_tup (pv 5)) (blkOk_by (own := [("name", 16), ("rank", 17)]) (N := ["script", "draw", "turn", "lap", "pair", "kinds", "words", "bad", "deep", "wide", "many", "some", "tree", "trees", "odd", "thing", "name", "rank"]) (sc := defScope s_law) (by decide +kernel)) (fun _ _ _ _ _ => (pg_tup rfl (pgs_cons (pg_name (i := 16) sc_law.nd rfl (Or.inl rfl) (hf := (Or.inr rfl))) (pgs_cons (pg_name (i := 17) sc_law.nd rfl (Or.inl rfl) (hf := (Or.inr rfl))) pgs_nil)))) (fun _ _ _ _ _ => pts_nil) (fun _ _ _ _ _ => (pv 16))) (pe_lst (pa_cons pe_str (pa_cons pe_str (pa_cons pe_str pa_nil))))))
        (pss_cons (ps_for PassesOwn.never rfl (pi_range1 (by rfl) B.range (pa_cons pe_int pa_nil)) (pg_name (i := 3) sc_law.nd rfl (Or.inl rfl) (hf := (Or.inr rfl))) (pss_cons (ps_setLc (i := 14) (own := [("thing", 15)]) (g := (gName 15)) rfl sc_law.nd rfl rfl (sw_true rfl rfl rfl (by decide +kernel)) (pi_list (pe_lst (pa_cons (pv 5) (pa_cons (pv 12) (pa_cons (pv 13) pa_nil))))) (blkOk_by (own := [("thing", 15)]) (N := ["script", "draw", "turn", "lap", "pair", "kinds", "words", "bad", "deep", "wide", "many", "some", "tree", "trees", "odd", "thing", "name", "rank"]) (sc := defScope s_law) (by decide +kernel)) (fun _ _ _ _ _ => (pg_name (i := 15) sc_law.nd rfl (Or.inl rfl) (hf := (Or.inr rfl)))) (fun _ _ _ _ _ => pts_nil) (fun _ _ _ _ _ => (pe_c c__law_bent hr (by first | decide | omega) (by rfl) (pa_cons (pv 1) (pa_cons (pv 15) (pa_cons (pv 6) pa_nil))))))
        (pss_cons (ps_if (PW.pt (pw_or (pt_cmpR (op_ne) (pe_callB (r := rReprB) (call_reprB) (by rfl) B.repr (by decide +kernel) (pa_cons (pe_c c_is_kinds hr (by first | decide | omega) (by rfl) (pa_cons (pe_ix (r := rIxL K) ix_list (pv 14) pe_int (fun _ _ => rfl)) pa_nil)) pa_nil)) (pe_callB (r := rReprB) (call_reprB) (by rfl) B.repr (by decide +kernel) (pa_cons (pe_c c__law_are_kinds hr (by first | decide | omega) (by rfl) (pa_cons (pe_ix (r := rIxL K) ix_list (pv 14) pe_int (fun _ _ => rfl)) pa_nil)) pa_nil)) (nomark _)) (pw_or1 (pt_cmpR (op_ne) (pe_callB (r := rReprB) (call_reprB) (by rfl) B.repr (by decide +kernel) (pa_cons (pe_c c_is_set hr (by first | decide | omega) (by rfl) (pa_cons (pe_ix (r := rIxL K) ix_list (pv 14) pe_int (fun _ _ => rfl)) pa_nil)) pa_nil)) (pe_callB (r := rReprB) (call_reprB) (by rfl) B.repr (by decide +kernel) (pa_cons (pe_c c__law_is_set hr (by first | decide | omega) (by rfl) (pa_cons (pe_ix (r := rIxL K) ix_list (pv 14) pe_int (fun _ _ => rfl)) pa_nil)) pa_nil)) (nomark _))))) (pss_one (ps_ret pe_bl)) pss_nil)
        (pss_one (ps_if (pt_cmpR (op_ne) (pe_callB (r := rReprB) (call_reprB) (by rfl) B.repr (by decide +kernel) (pa_cons (pe_cx c_is_tree hr (by first | decide | omega) (by rfl) passL (pa_cons (pv 5) (pa_cons (pe_ix (r := rIxL K) ix_list (pv 14) pe_int (fun _ _ => rfl)) pa_nil))) pa_nil)) (pe_callB (r := rReprB) (call_reprB) (by rfl) B.repr (by decide +kernel) (pa_cons (pe_c c__law_is_tree hr (by first | decide | omega) (by rfl) (pa_cons (pv 5) (pa_cons (pe_ix (r := rIxL K) ix_list (pv 14) pe_int (fun _ _ => rfl)) pa_nil))) pa_nil)) (nomark _)) (pss_one (ps_ret pe_bl)) pss_nil)))))
        (pss_cons (ps_if (PW.pt (pw_or (pt_cmpR (r := rNotB) (op_notBl) (pe_c c_is_set hr (by first | decide | omega) (by rfl) (pa_cons (pe_c c__law_bad_set hr (by first | decide | omega) (by rfl) (pa_cons (pv 1) pa_nil)) pa_nil)) pe_bl (nomark _)) (pw_or1 (pt_cmpR (r := rNotB) (op_notBl) (pe_c c_is_kinds hr (by first | decide | omega) (by rfl) (pa_cons (pe_c c__law_bad_kinds hr (by first | decide | omega) (by rfl) (pa_cons (pv 1) pa_nil)) pa_nil)) pe_bl (nomark _))))) (pss_one (ps_ret pe_bl)) pss_nil)
        (pss_cons (ps_set (i := 7) sc_law.nd rfl (Or.inr rfl) (pe_c c__law_bad_kinds hr (by first | decide | omega) (by rfl) (pa_cons (pv 1) pa_nil)))
        (pss_one (ps_if (pt_not (pt_val (pe_callB (call_isT CK0) (by rfl) B.isinstance (by decide +kernel) (pa_cons (pe_lamcall (T := [(P0, qL)]) (TT := TTc K CS) (x := "_law_caught") (a := "work") (c := c0) (P := P0) (k := 57) (t := fun E => tCall (spTree K CK) [] E (tCons (tVar 7) (tCons (tVar 12) tNil))) (by rfl) mC kC lC cC bC sc__law_caught rfl (Or.inl rfl) (caught_gives hCS) TB rfl hmT huT hr (lamS_by (sc := defScope s_law) (by decide +kernel)) rfl (fun _ _ _ _ _ => rfl) (fun A outer s H E f c2 hr2 => pe_cx c_is_tree hr2 (by decide) (by rfl) (passes_call (takes_of rfl rfl rfl rfl) (fun _ _ _ _ h => h)) (pa_cons (pv 7) (pa_cons (pv 12) pa_nil)))) (pa_cons (pe_glob (v := .ref CK) (by rfl) X_BadKinds.g rfl) pa_nil))))) (pss_one (ps_ret pe_bl)) pss_nil)))))))))))
        (pss_cons (ps_par3 (i := 8) (j := 9) (l := 10) rfl sc_law.nd rfl rfl rfl (by decide) (by decide) (by decide) rfl rfl rfl (pa_cons (pe_tup (pa_cons pe_str pa_nil)) (pa_cons (pe_tup (pa_cons pe_str pa_nil)) (pa_cons (pe_c c__law_pick hr (by first | decide | omega) (by rfl) (pa_cons (pv 1) (pa_cons (pe_lst (pa_cons pe_int (pa_cons pe_int (pa_cons pe_int pa_nil)))) pa_nil))) pa_nil))) (by rfl))
        (pss_cons (ps_for PassesOwn.never rfl (pi_range1 (by rfl) B.range (pa_cons (pv 10) pa_nil)) (pg_name (i := 3) sc_law.nd rfl (Or.inl rfl) (hf := (Or.inr rfl))) (pss_one (ps_set (i := 8) sc_law.nd rfl (Or.inl rfl) (pe_tup (pa_cons pe_str (pa_cons (pv 8) pa_nil))))))
        (pss_cons (ps_for PassesOwn.never rfl (pi_range1 (by rfl) B.range (pa_cons pe_int pa_nil)) (pg_name (i := 3) sc_law.nd rfl (Or.inl rfl) (hf := (Or.inr rfl))) (pss_one (ps_set (i := 9) sc_law.nd rfl (Or.inl rfl) (pe_tup (pa_cons pe_str (pa_cons (pv 9) (pa_cons (pv 9) pa_nil)))))))
        (pss_cons (ps_par (i := 5) (j := 11) rfl sc_law.nd rfl rfl (by decide) rfl rfl (pa_cons (pe_tupF (pa_cons (pe_tup (pa_cons pe_str (pa_cons pe_int pa_nil))) (pa_cons (pe_tup (pa_cons pe_str (pa_cons pe_int pa_nil))) (pa_cons (pe_tup (pa_cons pe_str (pa_cons pe_int pa_nil))) pa_nil)))) (pa_cons (pe_c c__law_pick hr (by first | decide | omega) (by rfl) (pa_cons (pv 1) (pa_cons (pe_lst (pa_cons pe_int (pa_cons pe_int (pa_cons pe_int pa_nil)))) pa_nil))) pa_nil)) (by rfl))
        (pss_cons (ps_set (i := 4) sc_law.nd rfl (Or.inl rfl) (pe_tup (pa_cons pe_str (pa_cons (pv 9) (pa_cons (pe_ix (r := rIxT K) ix_tup (pv 9) pe_int (fun _ _ => rfl)) pa_nil)))))
        (pss_cons (ps_for PassesOwn.never rfl (pi_range1 (by rfl) B.range (pa_cons (pv 11) pa_nil)) (pg_name (i := 3) sc_law.nd rfl (Or.inl rfl) (hf := (Or.inr rfl))) (pss_one (ps_set (i := 4) sc_law.nd rfl (Or.inl rfl) (pe_tup (pa_cons pe_str (pa_cons (pv 4) pa_nil))))))
        (pss_cons (ps_if (pt_cmpR (op_ne) (pe_callB (r := rReprB) (call_reprB) (by rfl) B.repr (by decide +kernel) (pa_cons (pe_cx c_is_tree hr (by first | decide | omega) (by rfl) passL (pa_cons (pv 5) (pa_cons (pv 8) pa_nil))) pa_nil)) (pe_callB (r := rReprB) (call_reprB) (by rfl) B.repr (by decide +kernel) (pa_cons (pe_cmpR (op_lt) (pv 10) pe_int (nomark _)) pa_nil)) (nomark _)) (pss_one (ps_ret pe_bl)) pss_nil)
        (pss_one (ps_ret (pe_cmpR (op_eq) (pe_callB (r := rReprB) (call_reprB) (by rfl) B.repr (by decide +kernel) (pa_cons (pe_cx c_is_tree hr (by first | decide | omega) (by rfl) passL (pa_cons (pv 5) (pa_cons (pv 4) pa_nil))) pa_nil)) (pe_callB (r := rReprB) (call_reprB) (by rfl) B.repr (by decide +kernel) (pa_cons (pe_cmpR (op_le) (pe_c c__law_size hr (by first | decide | omega) (by rfl) (pa_cons (pv 4) pa_nil)) pe_int (nomark _)) pa_nil)) (nomark _))))))))))))), ?_⟩
    show tSeq (tAsg (tCall (spBegun K) [] C8.E0 (tCons (tVar 0) tNil)) (gName 1)) (tSeq (tFor (iRng1 (tCons (tOp (rI0 fun i j => V.int (i + j)) (tC (V.int 3)) (tCB rMin2 (tCons (tCB (rLen0 K) (tCons (tVar 0) tNil)) (tCons (tC (V.int 8)) tNil)))) tNil)) (gName 2) (turnT K CK CS P0 qL)) (endT K CK)) _ _ H
    refine s_asgC ?_
    refine ⟨.ref a, rfl, H, .ref a, ns, Same.refl H, rfl, .lst hs (dps_ofInt ns), small1000 (by omega), fun d l c H1 s1 nd nl nc D1 => ?_⟩
    have T1 : Tabs [(P0, qL)] H1 := tabs_same (fun p hp => by rw [List.mem_singleton.mp hp]; exact TabS.nil hP) s1
    obtain ⟨kk, hkk⟩ : ∃ kk : Int, kk = 3 + (if (8 : Int) < (ns.length : Int) then 8 else (ns.length : Int)) := ⟨_, rfl⟩
    have hk3 : 0 ≤ kk ∧ kk ≤ 11 := by
      rw [hkk]
      split <;> omega
    have evs : EvS K (tCons (tOp (rI0 fun i j => .int (i + j)) (tC (.int 3)) (tCB rMin2 (tCons (tCB (rLen0 K) (tCons (tVar 0) tNil)) (tCons (tC (.int 8)) tNil)))) tNil) [some (.ref a), some (.ref d), none, none, none, none, none, none, none, none, none, none, none, none, none, none, none, none] H1 [.int kk] := by
      rw [hkk]
      have q := ev1 (ev_var (K := K) (σ := [some (.ref a), some (.ref d), none, none, none, none, none, none, none, none, none, none, none, none, none, none, none, none]) (F := H1) (i := 0) ⟨.ref a, rfl, .lst (s1.seq hs) (dps_ofInt ns)⟩) rc_lenL
      rw [List.length_map] at q
      exact ea_cons (ev_op (ev_int (i := 3)) (ev_cb (ea_cons q (ea_cons (ev_int (i := 8)) ea_nil)) rc_min2) (rv_int (g := fun i j => i + j))) ea_nil
    dsimp only
    show tSeq (tFor _ _ _) _ _ [some (.ref a), some (.ref d), none, none, none, none, none, none, none, none, none, none, none, none, none, none, none, none] H1
    refine for_rng (K := K) (F := H1) (kk := kk) evs (Same.refl _) (by omega) (fun i σ' H' => (∃ y2 y3 y4 y5 y6 y7 y8 y9 y10 y11 y12 y13 y14 y15 y16 y17, σ' = [some (.ref a), some (.ref d), y2, y3, y4, y5, y6, y7, y8, y9, y10, y11, y12, y13, y14, y15, y16, y17]) ∧ Tabs [(P0, qL)] H' ∧ DrawAt H' d l c (70000000 * i))
      (fun H' s2 => ⟨⟨_, _, _, _, _, _, _, _, _, _, _, _, _, _, _, _, rfl⟩, tabs_same T1 s2, D1.same s2⟩) (fun i σ' Hx hlt hW => ?_) (fun σ' H' hW => ?_)
    · obtain ⟨⟨y2, y3, y4, y5, y6, y7, y8, y9, y10, y11, y12, y13, y14, y15, y16, y17, rfl⟩, T0, D0⟩ := hW
      have hi : i < 11 := by omega
      show turnT K CK CS P0 qL _ [some (.ref a), some (.ref d), some (.int (0 + (i : Int))), y3, y4, y5, y6, y7, y8, y9, y10, y11, y12, y13, y14, y15, y16, y17] Hx
      exact turn_by hsub T0 D0 (by omega) fun z3 z5 z6 z7 z12 z13 z14 z15 H' T' D' => ⟨⟨_, _, _, _, _, _, _, _, _, _, _, _, _, _, _, _, rfl⟩, T', D'.more (by omega)⟩
    · obtain ⟨⟨y2, y3, y4, y5, y6, y7, y8, y9, y10, y11, y12, y13, y14, y15, y16, y17, rfl⟩, T0, D0⟩ := hW
      exact end_by D0 (by omega)
  obtain ⟨tt, h1, h2⟩ := main
  exact ⟨tt, h1.nox, h2⟩
end
end Sx
set_option Elab.async false
set_option linter.all false
set_option maxRecDepth 100000
set_option maxHeartbeats 0
/-! the head: what stands behind the module's top -/
namespace Sx
open PySem PySem.Spec PyProof.Rows L2
def d_is_whole : He.FnD := ⟨("is_whole", none), "is_whole", "is_whole", defArgs (top 4), defBody (top 4), defScope (top 4)⟩
def d_is_between : He.FnD := ⟨("is_between", none), "is_between", "is_between", defArgs (top 5), defBody (top 5), defScope (top 5)⟩
def d_is_word : He.FnD := ⟨("is_word", none), "is_word", "is_word", defArgs (top 6), defBody (top 6), defScope (top 6)⟩
def d_is_row : He.FnD := ⟨("is_row", none), "is_row", "is_row", defArgs (top 7), defBody (top 7), defScope (top 7)⟩
def d_is_rising : He.FnD := ⟨("is_rising", none), "is_rising", "is_rising", defArgs (top 8), defBody (top 8), defScope (top 8)⟩
def d_is_rising_below : He.FnD := ⟨("is_rising_below", none), "is_rising_below", "is_rising_below", defArgs (top 9), defBody (top 9), defScope (top 9)⟩
def d_is_name : He.FnD := ⟨("is_name", none), "is_name", "is_name", defArgs (top 13), defBody (top 13), defScope (top 13)⟩
def d_is_kinds : He.FnD := ⟨("is_kinds", none), "is_kinds", "is_kinds", defArgs (top 17), defBody (top 17), defScope (top 17)⟩
def d__is_kind : He.FnD := ⟨("_is_kind", none), "_is_kind", "_is_kind", defArgs (top 18), defBody (top 18), defScope (top 18)⟩
def d_check_kinds : He.FnD := ⟨("check_kinds", none), "check_kinds", "check_kinds", defArgs (top 19), defBody (top 19), defScope (top 19)⟩
def d_is_tree : He.FnD := ⟨("is_tree", none), "is_tree", "is_tree", defArgs (top 20), defBody (top 20), defScope (top 20)⟩
def d_fits : He.FnD := ⟨("fits", none), "fits", "fits", defArgs (top 21), defBody (top 21), defScope (top 21)⟩
def d_is_node : He.FnD := ⟨("is_node", none), "is_node", "is_node", defArgs (top 22), defBody (top 22), defScope (top 22)⟩
def d_goals_in : He.FnD := ⟨("goals_in", none), "goals_in", "goals_in", defArgs (top 24), defBody (top 24), defScope (top 24)⟩
def d_is_set : He.FnD := ⟨("is_set", none), "is_set", "is_set", defArgs (top 26), defBody (top 26), defScope (top 26)⟩
def d__is_goals : He.FnD := ⟨("_is_goals", none), "_is_goals", "_is_goals", defArgs (top 27), defBody (top 27), defScope (top 27)⟩
def d__law_begun : He.FnD := ⟨("_law_begun", none), "_law_begun", "_law_begun", defArgs (top 29), defBody (top 29), defScope (top 29)⟩
def d__law_mixed : He.FnD := ⟨("_law_mixed", none), "_law_mixed", "_law_mixed", defArgs (top 30), defBody (top 30), defScope (top 30)⟩
def d__law_take : He.FnD := ⟨("_law_take", none), "_law_take", "_law_take", defArgs (top 31), defBody (top 31), defScope (top 31)⟩
def d__law_pick : He.FnD := ⟨("_law_pick", none), "_law_pick", "_law_pick", defArgs (top 32), defBody (top 32), defScope (top 32)⟩
def d__law_shuffled : He.FnD := ⟨("_law_shuffled", none), "_law_shuffled", "_law_shuffled", defArgs (top 33), defBody (top 33), defScope (top 33)⟩
def d__law_caught : He.FnD := ⟨("_law_caught", none), "_law_caught", "_law_caught", defArgs (top 34), defBody (top 34), defScope (top 34)⟩
def d__law_names : He.FnD := ⟨("_law_names", none), "_law_names", "_law_names", defArgs (top 35), defBody (top 35), defScope (top 35)⟩
def d__law_paths : He.FnD := ⟨("_law_paths", none), "_law_paths", "_law_paths", defArgs (top 36), defBody (top 36), defScope (top 36)⟩
def d__law_part : He.FnD := ⟨("_law_part", none), "_law_part", "_law_part", defArgs (top 37), defBody (top 37), defScope (top 37)⟩
def d__law_put : He.FnD := ⟨("_law_put", none), "_law_put", "_law_put", defArgs (top 38), defBody (top 38), defScope (top 38)⟩
def d__law_odd : He.FnD := ⟨("_law_odd", none), "_law_odd", "_law_odd", defArgs (top 39), defBody (top 39), defScope (top 39)⟩
def d__law_bent : He.FnD := ⟨("_law_bent", none), "_law_bent", "_law_bent", defArgs (top 40), defBody (top 40), defScope (top 40)⟩
def d__law_is_number : He.FnD := ⟨("_law_is_number", none), "_law_is_number", "_law_is_number", defArgs (top 41), defBody (top 41), defScope (top 41)⟩
def d__law_kinds : He.FnD := ⟨("_law_kinds", none), "_law_kinds", "_law_kinds", defArgs (top 42), defBody (top 42), defScope (top 42)⟩
def d__law_tree : He.FnD := ⟨("_law_tree", none), "_law_tree", "_law_tree", defArgs (top 43), defBody (top 43), defScope (top 43)⟩
def d__law_tuples : He.FnD := ⟨("_law_tuples", none), "_law_tuples", "_law_tuples", defArgs (top 44), defBody (top 44), defScope (top 44)⟩
def d__law_set : He.FnD := ⟨("_law_set", none), "_law_set", "_law_set", defArgs (top 45), defBody (top 45), defScope (top 45)⟩
def d__law_size : He.FnD := ⟨("_law_size", none), "_law_size", "_law_size", defArgs (top 46), defBody (top 46), defScope (top 46)⟩
def d__law_bad_set : He.FnD := ⟨("_law_bad_set", none), "_law_bad_set", "_law_bad_set", defArgs (top 47), defBody (top 47), defScope (top 47)⟩
def d__law_bad_kinds : He.FnD := ⟨("_law_bad_kinds", none), "_law_bad_kinds", "_law_bad_kinds", defArgs (top 48), defBody (top 48), defScope (top 48)⟩
def d__law_is_name : He.FnD := ⟨("_law_is_name", none), "_law_is_name", "_law_is_name", defArgs (top 49), defBody (top 49), defScope (top 49)⟩
def d__law_are_kinds : He.FnD := ⟨("_law_are_kinds", none), "_law_are_kinds", "_law_are_kinds", defArgs (top 50), defBody (top 50), defScope (top 50)⟩
def d__law_is_tree : He.FnD := ⟨("_law_is_tree", none), "_law_is_tree", "_law_is_tree", defArgs (top 51), defBody (top 51), defScope (top 51)⟩
def d__law_many_tuples : He.FnD := ⟨("_law_many_tuples", none), "_law_many_tuples", "_law_many_tuples", defArgs (top 52), defBody (top 52), defScope (top 52)⟩
def d__law_is_set : He.FnD := ⟨("_law_is_set", none), "_law_is_set", "_law_is_set", defArgs (top 53), defBody (top 53), defScope (top 53)⟩
def d_law : He.FnD := ⟨("law", none), "law", "law", defArgs (top 54), defBody (top 54), defScope (top 54)⟩
def fnL : List He.FnD := [d_is_whole, d_is_between, d_is_word, d_is_row, d_is_rising, d_is_rising_below, d_is_name, d_is_kinds, d__is_kind, d_check_kinds, d_is_tree, d_fits, d_is_node, d_goals_in, d_is_set, d__is_goals, d__law_begun, d__law_mixed, d__law_take, d__law_pick, d__law_shuffled, d__law_caught, d__law_names, d__law_paths, d__law_part, d__law_put, d__law_odd, d__law_bent, d__law_is_number, d__law_kinds, d__law_tree, d__law_tuples, d__law_set, d__law_size, d__law_bad_set, d__law_bad_kinds, d__law_is_name, d__law_are_kinds, d__law_is_tree, d__law_many_tuples, d__law_is_set, d_law]
def faL : List He.Fa := [.glo "is_whole", .glo "is_between", .glo "is_word", .glo "is_row", .glo "is_rising", .glo "is_rising_below", .glo "is_name", .glo "is_kinds", .glo "_is_kind", .glo "check_kinds", .glo "is_tree", .glo "fits", .glo "is_node", .glo "goals_in", .glo "is_set", .glo "_is_goals", .glo "_law_begun", .glo "_law_mixed", .glo "_law_take", .glo "_law_pick", .glo "_law_shuffled", .glo "_law_caught", .glo "_law_names", .glo "_law_paths", .glo "_law_part", .glo "_law_put", .glo "_law_odd", .glo "_law_bent", .glo "_law_is_number", .glo "_law_kinds", .glo "_law_tree", .glo "_law_tuples", .glo "_law_set", .glo "_law_size", .glo "_law_bad_set", .glo "_law_bad_kinds", .glo "_law_is_name", .glo "_law_are_kinds", .glo "_law_is_tree", .glo "_law_many_tuples", .glo "_law_is_set", .glo "law", .keep "is_whole", .keep "is_between", .keep "is_word", .keep "is_row", .keep "is_rising", .keep "is_rising_below", .keep "is_name", .keep "is_kinds", .keep "_is_kind", .keep "check_kinds", .keep "is_tree", .keep "fits", .keep "is_node", .keep "goals_in", .keep "is_set", .keep "_is_goals", .keep "_law_begun", .keep "_law_mixed", .keep "_law_take", .keep "_law_pick", .keep "_law_shuffled", .keep "_law_caught", .keep "_law_names", .keep "_law_paths", .keep "_law_part", .keep "_law_put", .keep "_law_odd", .keep "_law_bent", .keep "_law_is_number", .keep "_law_kinds", .keep "_law_tree", .keep "_law_tuples", .keep "_law_set", .keep "_law_size", .keep "_law_bad_set", .keep "_law_bad_kinds", .keep "_law_is_name", .keep "_law_are_kinds", .keep "_law_is_tree", .keep "_law_many_tuples", .keep "_law_is_set", .keep "law", .free "abs", .free "all", .free "any", .free "bool", .free "dict", .free "divmod", .free "enumerate", .free "int", .free "isinstance", .free "len", .free "list", .free "max", .free "min", .free "range", .free "repr", .free "set", .free "sorted", .free "str", .free "sum", .free "tuple", .free "zip", .glo "WritingError", .glo "BadKinds", .glo "KEPT", .exc "BadKinds", .keep "WritingError", .keep "BadKinds", .exm "BadKinds" "WritingError" true, .str "_LETTERS" "abcdefghijklmnopqrstuvwxyz", .int "MOST_NODES" 400, .int "MOST_LEVELS" 60]
def looseL : List PySem.Str := ([("WritingError" : PySem.Str), ("BadKinds" : PySem.Str), ("KEPT" : PySem.Str), ("_LETTERS" : PySem.Str), ("MOST_NODES" : PySem.Str), ("MOST_LEVELS" : PySem.Str), ("is_whole" : PySem.Str), ("is_between" : PySem.Str), ("is_word" : PySem.Str), ("is_row" : PySem.Str), ("is_rising" : PySem.Str), ("is_rising_below" : PySem.Str)] : List PySem.Str) ++ ([("is_name" : PySem.Str), ("is_kinds" : PySem.Str), ("_is_kind" : PySem.Str), ("check_kinds" : PySem.Str), ("is_tree" : PySem.Str), ("fits" : PySem.Str), ("is_node" : PySem.Str), ("goals_in" : PySem.Str), ("is_set" : PySem.Str), ("_is_goals" : PySem.Str), ("_law_begun" : PySem.Str), ("_law_mixed" : PySem.Str)] : List PySem.Str) ++ ([("_law_take" : PySem.Str), ("_law_pick" : PySem.Str), ("_law_shuffled" : PySem.Str), ("_law_caught" : PySem.Str), ("_law_names" : PySem.Str), ("_law_paths" : PySem.Str), ("_law_part" : PySem.Str), ("_law_put" : PySem.Str), ("_law_odd" : PySem.Str), ("_law_bent" : PySem.Str), ("_law_is_number" : PySem.Str), ("_law_kinds" : PySem.Str)] : List PySem.Str) ++ ([("_law_tree" : PySem.Str), ("_law_tuples" : PySem.Str), ("_law_set" : PySem.Str), ("_law_size" : PySem.Str), ("_law_bad_set" : PySem.Str), ("_law_bad_kinds" : PySem.Str), ("_law_is_name" : PySem.Str), ("_law_are_kinds" : PySem.Str), ("_law_is_tree" : PySem.Str), ("_law_many_tuples" : PySem.Str), ("_law_is_set" : PySem.Str)] : List PySem.Str)
-- law stands at 54
/-- what an own error's class says (for isinstance) -/
def excCB (K : PySem.W.Frag) (D : Addr) : Bool :=
  (decide (PySem.W.findIn K (.ref D) "__getattribute__" = some (some (.builtin "BaseException.__getattribute__"))) && decide (PySem.W.findIn K (.ref D) "__getattr__" = some none)) &&
  (decide (PySem.W.subIn K (.ref D) (.type "BaseException") = some true) && decide (PySem.W.hasDictIn K D = true)) &&
  (decide (PySem.W.findIn K (.ref D) "__class__" = some (some (.builtin "object.__class__"))) && decide (PySem.W.specialIn K (.builtin "object.__class__") "__get__" = some (some (.builtin "getset_descriptor.__get__")))) &&
  (decide (PySem.W.takesIn K (.builtin "object.__class__") = some true) && decide (PySem.W.mroIn K D (.type "object") = some true))
def keptW : List He.Dv := [.str "call", .str "else", .str "end", .str "for", .str "if", .str "in", .str "on", .str "use", .str "with"]
/-- the law's own table of code objects is not among what is kept -/
def tabOut (K : PySem.W.Frag) : Bool := match K.lookup (He.ga K "law") with
  | some ⟨_, _, .func fd, _⟩ => (match fd.code with
    | .ref c => (match K.lookup c with
      | some ⟨_, _, .fields vs, _⟩ => (match (vs[11]? : Option Value) with
        | some (Value.ref t) => (K.lookup t).isNone
        | _ => false)
      | _ => false)
    | _ => false)
  | _ => false
def moreB (K : PySem.W.Frag) : Bool := (He.tupB K "KEPT" keptW && excCB K (He.ga K "BadKinds")) && tabOut K
def obsX (n : Nat) (g : Addr → Option Obj) : He.Al × Bool := (He.obsG n faL fnL g, moreB (He.frG g (He.asG g n)))
def hookX (n : Nat) : PySem.W.Hook where
  α := He.Al × Bool
  obs := fun s => obsX n s.heap.get?
  val := fun _ => (He.valE fnL, true)
  says := fun _ h => ∃ K : PySem.W.Frag, K.In h ∧ He.SaysE faL fnL K ∧ moreB K = true
  of := fun _ _ e => ⟨_, He.frG_in, (Prod.ext_iff.mp e).1, (Prod.ext_iff.mp e).2⟩
  keeps := fun _ _ _ ⟨K, hK, c⟩ k => ⟨K, PySem.W.Frag.In.keeps hK k, c⟩
abbrev R : PySem.W.OpenRow := PySem.W.OpenLaw.row PySem.Challenge.rw_samewriting_k00_kinds_trees_and_sets_jud
abbrev hk : PySem.W.Hook := hookX 2
def obH (s : PySem.W.SharedT) : He.Al × Bool := obsX 2 (HandSHeadRun.getT s)
theorem ob_eq (s : PySem.W.SharedT) : obH s = hk.obs s.abs := by
  have e : HandSHeadRun.getT s = s.abs.heap.get? := funext (HandSHeadRun.getT_eq s)
  show obsX 2 (HandSHeadRun.getT s) = obsX 2 s.abs.heap.get?
  rw [e]
theorem runH (w : World) : HandSHeadRun.RunEq R (PySem.W.view R.prog [54]) hk obH 12000 looseL w := by
  intro os
  kernel_rfl
end Sx
set_option Elab.async false
set_option linter.all false
set_option maxRecDepth 100000
set_option maxHeartbeats 4000000
set_option exponentiation.threshold 3000
/-! the end -/
namespace Sx
open PySem PySem.Spec PyProof.Rows L2 LamX
open C8 (Cal pe_c pe_gc)
section
variable {P : Program} {w : World} {K : PySem.W.Frag} {mg : Str → Option Value} {base : Heap}
theorem mkFun {x : Str} {st : Stmt} {a : Addr} (c : ∃ (oc : Value) (od : Option Addr) (osl : Array (Option Value)) (kV doc pm : Value) (an : Option Addr) (cdv ct : Value), K.lookup a = some ⟨oc, od, .func (PySem.W.fnOf x x (defArgs st) (defBody st) (defScope st) .none kV doc pm an cdv ct), osl⟩ ∧ PySem.W.codeIn K cdv x = true) (k : PySem.W.keepIn K (.ref a) = true) : ∃ fd, Fun K x x st a fd := by
  obtain ⟨oc, od, osl, kV, doc, pm, an, cdv, ct, l, cc⟩ := c
  exact ⟨_, fun_mk l cc k⟩
theorem mkCalX {k : Nat} {x : Str} {f : Addr} {fd : FuncData} {ps : List Str} {sp : Sp} (ok : FnOk P w K mg base (L2.CX P w) k f fd ps sp) (m : mg x = some (.ref f)) (kp : PySem.W.keepIn K (.ref f) = true) (b : L2.Binds K fd ps []) (al : ∀ us : List Value, us.length = ps.length → bindArgs fd ⟨us, []⟩ = pure (ps.zip us)) : CalX P w K mg base k x ps sp := ⟨f, fd, ok, m, kp, b, al⟩
end
theorem all_check_kinds {K : PySem.W.Frag} {f : Addr} {fd : FuncData} (F : Fun K "check_kinds" "check_kinds" s_check_kinds f fd) : ∀ us : List Value, us.length = 1 → bindArgs fd ⟨us, []⟩ = pure ((["kinds"] : List Str).zip us) := by
  obtain ⟨oc, od, kV, doc, pm, an, cdv, ct, osl, rfl, lk, hcd⟩ := F.ex
  exact fun us hl => match us, hl with | [_], _ => rfl
theorem all_is_tree {K : PySem.W.Frag} {f : Addr} {fd : FuncData} (F : Fun K "is_tree" "is_tree" s_is_tree f fd) : ∀ us : List Value, us.length = 2 → bindArgs fd ⟨us, []⟩ = pure ((["kinds", "thing"] : List Str).zip us) := by
  obtain ⟨oc, od, kV, doc, pm, an, cdv, ct, osl, rfl, lk, hcd⟩ := F.ex
  exact fun us hl => match us, hl with | [_, _], _ => rfl
theorem exc_of {K : PySem.W.Frag} {D : Addr} (h : excCB K D = true) : ExcC K D := by
  unfold excCB at h
  simp only [Bool.and_eq_true, decide_eq_true_eq] at h
  obtain ⟨⟨⟨⟨h1, h2⟩, h3, h4⟩, h5, h6⟩, h7, h8⟩ := h
  exact ⟨h1, h2, h3, h4, h5, h6, h7, h8⟩
theorem tab_of {K : PySem.W.Frag} {h : Heap} {c t : Addr} {o : Obj} {fd : FuncData} (KX : K.In h) (hb : tabOut K = true) (ho : h.get? (He.ga K "law") = some o) (hd : o.data = .func fd) (hc : fd.code = .ref c) (hh : PySem.W.CodeHd h c t) : K.lookup t = none := by
  unfold tabOut at hb
  split at hb
  · rename_i c1 d1 fd1 s1 e1
    have z := KX _ _ e1
    rw [ho] at z
    cases z
    cases hd
    rw [hc] at hb
    dsimp only at hb
    split at hb
    · rename_i c2 d2 vs s2 e2
      obtain ⟨o2, vs2, _, _, _, _, _, _, _, f1, _, f2, f3, _⟩ := hh
      have z2 := KX _ _ e2
      rw [f1] at z2
      cases z2
      cases f2
      rw [f3] at hb
      exact Option.isNone_iff_eq_none.mp hb
    · cases hb
  · cases hb
theorem bind_is_kinds {K : PySem.W.Frag} {f : Addr} {fd : FuncData} (F : Fun K "is_kinds" "is_kinds" s_is_kinds f fd) : ∀ (s : Shared) (u : Value), bindArgs fd ⟨[], [(("thing" : Str), u)]⟩ = pure ([(("thing" : Str), u)] : List (Str × Value)) := by
  obtain ⟨oc, od, kV, doc, pm, an, cdv, ct, osl, rfl, lk, hcd⟩ := F.ex
  exact fun _ _ => rfl
theorem bind_is_set {K : PySem.W.Frag} {f : Addr} {fd : FuncData} (F : Fun K "is_set" "is_set" s_is_set f fd) : ∀ (s : Shared) (u : Value), bindArgs fd ⟨[], [(("thing" : Str), u)]⟩ = pure ([(("thing" : Str), u)] : List (Str × Value)) := by
  obtain ⟨oc, od, kV, doc, pm, an, cdv, ct, osl, rfl, lk, hcd⟩ := F.ex
  exact fun _ _ => rfl
theorem facts {P : Program} {w : World} {K : PySem.W.Frag} {h base : Heap} {mg : Str → Option Value} {c0 P0 : Addr} {o : Obj} {fd : FuncData} (KX : K.In h) (G : h.Ns mainGlobals mg) (c : He.SaysE faL fnL K) (mo : moreB K = true)
    (ho : h.get? (He.ga K "law") = some o) (hd : o.data = .func fd) (hc : fd.code = .ref c0) (TB : TabB base mg c0 P0) : ∃ (ft fk fs g : Addr) (fdl fdt fdk fds fdg : FuncData), LawCs P w K mg base c0 P0 (He.ga K "law") ft fk fs g (He.ga K "BadKinds") (He.ga K "WritingError") fdl fdt fdk fds fdg := by
  obtain ⟨fd_is_whole, F_is_whole⟩ := mkFun (x := "is_whole") (st := s_is_whole) (c.def_ 0 (d := d_is_whole) rfl) (He.keep_ok (c.fact 42 (f := .keep "is_whole") rfl))
  have g_is_whole := He.glo_ok KX G (c.fact 0 (f := .glo "is_whole") rfl)
  obtain ⟨fd_is_between, F_is_between⟩ := mkFun (x := "is_between") (st := s_is_between) (c.def_ 1 (d := d_is_between) rfl) (He.keep_ok (c.fact 43 (f := .keep "is_between") rfl))
  have g_is_between := He.glo_ok KX G (c.fact 1 (f := .glo "is_between") rfl)
  obtain ⟨fd_is_word, F_is_word⟩ := mkFun (x := "is_word") (st := s_is_word) (c.def_ 2 (d := d_is_word) rfl) (He.keep_ok (c.fact 44 (f := .keep "is_word") rfl))
  have g_is_word := He.glo_ok KX G (c.fact 2 (f := .glo "is_word") rfl)
  obtain ⟨fd_is_row, F_is_row⟩ := mkFun (x := "is_row") (st := s_is_row) (c.def_ 3 (d := d_is_row) rfl) (He.keep_ok (c.fact 45 (f := .keep "is_row") rfl))
  have g_is_row := He.glo_ok KX G (c.fact 3 (f := .glo "is_row") rfl)
  obtain ⟨fd_is_rising, F_is_rising⟩ := mkFun (x := "is_rising") (st := s_is_rising) (c.def_ 4 (d := d_is_rising) rfl) (He.keep_ok (c.fact 46 (f := .keep "is_rising") rfl))
  have g_is_rising := He.glo_ok KX G (c.fact 4 (f := .glo "is_rising") rfl)
  obtain ⟨fd_is_rising_below, F_is_rising_below⟩ := mkFun (x := "is_rising_below") (st := s_is_rising_below) (c.def_ 5 (d := d_is_rising_below) rfl) (He.keep_ok (c.fact 47 (f := .keep "is_rising_below") rfl))
  have g_is_rising_below := He.glo_ok KX G (c.fact 5 (f := .glo "is_rising_below") rfl)
  obtain ⟨fd_is_name, F_is_name⟩ := mkFun (x := "is_name") (st := s_is_name) (c.def_ 6 (d := d_is_name) rfl) (He.keep_ok (c.fact 48 (f := .keep "is_name") rfl))
  have g_is_name := He.glo_ok KX G (c.fact 6 (f := .glo "is_name") rfl)
  obtain ⟨fd_is_kinds, F_is_kinds⟩ := mkFun (x := "is_kinds") (st := s_is_kinds) (c.def_ 7 (d := d_is_kinds) rfl) (He.keep_ok (c.fact 49 (f := .keep "is_kinds") rfl))
  have g_is_kinds := He.glo_ok KX G (c.fact 7 (f := .glo "is_kinds") rfl)
  obtain ⟨fd__is_kind, F__is_kind⟩ := mkFun (x := "_is_kind") (st := s__is_kind) (c.def_ 8 (d := d__is_kind) rfl) (He.keep_ok (c.fact 50 (f := .keep "_is_kind") rfl))
  have g__is_kind := He.glo_ok KX G (c.fact 8 (f := .glo "_is_kind") rfl)
  obtain ⟨fd_check_kinds, F_check_kinds⟩ := mkFun (x := "check_kinds") (st := s_check_kinds) (c.def_ 9 (d := d_check_kinds) rfl) (He.keep_ok (c.fact 51 (f := .keep "check_kinds") rfl))
  have g_check_kinds := He.glo_ok KX G (c.fact 9 (f := .glo "check_kinds") rfl)
  obtain ⟨fd_is_tree, F_is_tree⟩ := mkFun (x := "is_tree") (st := s_is_tree) (c.def_ 10 (d := d_is_tree) rfl) (He.keep_ok (c.fact 52 (f := .keep "is_tree") rfl))
  have g_is_tree := He.glo_ok KX G (c.fact 10 (f := .glo "is_tree") rfl)
  obtain ⟨fd_fits, F_fits⟩ := mkFun (x := "fits") (st := s_fits) (c.def_ 11 (d := d_fits) rfl) (He.keep_ok (c.fact 53 (f := .keep "fits") rfl))
  have g_fits := He.glo_ok KX G (c.fact 11 (f := .glo "fits") rfl)
  obtain ⟨fd_is_node, F_is_node⟩ := mkFun (x := "is_node") (st := s_is_node) (c.def_ 12 (d := d_is_node) rfl) (He.keep_ok (c.fact 54 (f := .keep "is_node") rfl))
  have g_is_node := He.glo_ok KX G (c.fact 12 (f := .glo "is_node") rfl)
  obtain ⟨fd_goals_in, F_goals_in⟩ := mkFun (x := "goals_in") (st := s_goals_in) (c.def_ 13 (d := d_goals_in) rfl) (He.keep_ok (c.fact 55 (f := .keep "goals_in") rfl))
  have g_goals_in := He.glo_ok KX G (c.fact 13 (f := .glo "goals_in") rfl)
  obtain ⟨fd_is_set, F_is_set⟩ := mkFun (x := "is_set") (st := s_is_set) (c.def_ 14 (d := d_is_set) rfl) (He.keep_ok (c.fact 56 (f := .keep "is_set") rfl))
  have g_is_set := He.glo_ok KX G (c.fact 14 (f := .glo "is_set") rfl)
  obtain ⟨fd__is_goals, F__is_goals⟩ := mkFun (x := "_is_goals") (st := s__is_goals) (c.def_ 15 (d := d__is_goals) rfl) (He.keep_ok (c.fact 57 (f := .keep "_is_goals") rfl))
  have g__is_goals := He.glo_ok KX G (c.fact 15 (f := .glo "_is_goals") rfl)
  obtain ⟨fd__law_begun, F__law_begun⟩ := mkFun (x := "_law_begun") (st := s__law_begun) (c.def_ 16 (d := d__law_begun) rfl) (He.keep_ok (c.fact 58 (f := .keep "_law_begun") rfl))
  have g__law_begun := He.glo_ok KX G (c.fact 16 (f := .glo "_law_begun") rfl)
  obtain ⟨fd__law_mixed, F__law_mixed⟩ := mkFun (x := "_law_mixed") (st := s__law_mixed) (c.def_ 17 (d := d__law_mixed) rfl) (He.keep_ok (c.fact 59 (f := .keep "_law_mixed") rfl))
  have g__law_mixed := He.glo_ok KX G (c.fact 17 (f := .glo "_law_mixed") rfl)
  obtain ⟨fd__law_take, F__law_take⟩ := mkFun (x := "_law_take") (st := s__law_take) (c.def_ 18 (d := d__law_take) rfl) (He.keep_ok (c.fact 60 (f := .keep "_law_take") rfl))
  have g__law_take := He.glo_ok KX G (c.fact 18 (f := .glo "_law_take") rfl)
  obtain ⟨fd__law_pick, F__law_pick⟩ := mkFun (x := "_law_pick") (st := s__law_pick) (c.def_ 19 (d := d__law_pick) rfl) (He.keep_ok (c.fact 61 (f := .keep "_law_pick") rfl))
  have g__law_pick := He.glo_ok KX G (c.fact 19 (f := .glo "_law_pick") rfl)
  obtain ⟨fd__law_shuffled, F__law_shuffled⟩ := mkFun (x := "_law_shuffled") (st := s__law_shuffled) (c.def_ 20 (d := d__law_shuffled) rfl) (He.keep_ok (c.fact 62 (f := .keep "_law_shuffled") rfl))
  have g__law_shuffled := He.glo_ok KX G (c.fact 20 (f := .glo "_law_shuffled") rfl)
  obtain ⟨fd__law_caught, F__law_caught⟩ := mkFun (x := "_law_caught") (st := s__law_caught) (c.def_ 21 (d := d__law_caught) rfl) (He.keep_ok (c.fact 63 (f := .keep "_law_caught") rfl))
  have g__law_caught := He.glo_ok KX G (c.fact 21 (f := .glo "_law_caught") rfl)
  obtain ⟨fd__law_names, F__law_names⟩ := mkFun (x := "_law_names") (st := s__law_names) (c.def_ 22 (d := d__law_names) rfl) (He.keep_ok (c.fact 64 (f := .keep "_law_names") rfl))
  have g__law_names := He.glo_ok KX G (c.fact 22 (f := .glo "_law_names") rfl)
  obtain ⟨fd__law_paths, F__law_paths⟩ := mkFun (x := "_law_paths") (st := s__law_paths) (c.def_ 23 (d := d__law_paths) rfl) (He.keep_ok (c.fact 65 (f := .keep "_law_paths") rfl))
  have g__law_paths := He.glo_ok KX G (c.fact 23 (f := .glo "_law_paths") rfl)
  obtain ⟨fd__law_part, F__law_part⟩ := mkFun (x := "_law_part") (st := s__law_part) (c.def_ 24 (d := d__law_part) rfl) (He.keep_ok (c.fact 66 (f := .keep "_law_part") rfl))
  have g__law_part := He.glo_ok KX G (c.fact 24 (f := .glo "_law_part") rfl)
  obtain ⟨fd__law_put, F__law_put⟩ := mkFun (x := "_law_put") (st := s__law_put) (c.def_ 25 (d := d__law_put) rfl) (He.keep_ok (c.fact 67 (f := .keep "_law_put") rfl))
  have g__law_put := He.glo_ok KX G (c.fact 25 (f := .glo "_law_put") rfl)
  obtain ⟨fd__law_odd, F__law_odd⟩ := mkFun (x := "_law_odd") (st := s__law_odd) (c.def_ 26 (d := d__law_odd) rfl) (He.keep_ok (c.fact 68 (f := .keep "_law_odd") rfl))
  have g__law_odd := He.glo_ok KX G (c.fact 26 (f := .glo "_law_odd") rfl)
  obtain ⟨fd__law_bent, F__law_bent⟩ := mkFun (x := "_law_bent") (st := s__law_bent) (c.def_ 27 (d := d__law_bent) rfl) (He.keep_ok (c.fact 69 (f := .keep "_law_bent") rfl))
  have g__law_bent := He.glo_ok KX G (c.fact 27 (f := .glo "_law_bent") rfl)
  obtain ⟨fd__law_is_number, F__law_is_number⟩ := mkFun (x := "_law_is_number") (st := s__law_is_number) (c.def_ 28 (d := d__law_is_number) rfl) (He.keep_ok (c.fact 70 (f := .keep "_law_is_number") rfl))
  have g__law_is_number := He.glo_ok KX G (c.fact 28 (f := .glo "_law_is_number") rfl)
  obtain ⟨fd__law_kinds, F__law_kinds⟩ := mkFun (x := "_law_kinds") (st := s__law_kinds) (c.def_ 29 (d := d__law_kinds) rfl) (He.keep_ok (c.fact 71 (f := .keep "_law_kinds") rfl))
  have g__law_kinds := He.glo_ok KX G (c.fact 29 (f := .glo "_law_kinds") rfl)
  obtain ⟨fd__law_tree, F__law_tree⟩ := mkFun (x := "_law_tree") (st := s__law_tree) (c.def_ 30 (d := d__law_tree) rfl) (He.keep_ok (c.fact 72 (f := .keep "_law_tree") rfl))
  have g__law_tree := He.glo_ok KX G (c.fact 30 (f := .glo "_law_tree") rfl)
  obtain ⟨fd__law_tuples, F__law_tuples⟩ := mkFun (x := "_law_tuples") (st := s__law_tuples) (c.def_ 31 (d := d__law_tuples) rfl) (He.keep_ok (c.fact 73 (f := .keep "_law_tuples") rfl))
  have g__law_tuples := He.glo_ok KX G (c.fact 31 (f := .glo "_law_tuples") rfl)
  obtain ⟨fd__law_set, F__law_set⟩ := mkFun (x := "_law_set") (st := s__law_set) (c.def_ 32 (d := d__law_set) rfl) (He.keep_ok (c.fact 74 (f := .keep "_law_set") rfl))
  have g__law_set := He.glo_ok KX G (c.fact 32 (f := .glo "_law_set") rfl)
  obtain ⟨fd__law_size, F__law_size⟩ := mkFun (x := "_law_size") (st := s__law_size) (c.def_ 33 (d := d__law_size) rfl) (He.keep_ok (c.fact 75 (f := .keep "_law_size") rfl))
  have g__law_size := He.glo_ok KX G (c.fact 33 (f := .glo "_law_size") rfl)
  obtain ⟨fd__law_bad_set, F__law_bad_set⟩ := mkFun (x := "_law_bad_set") (st := s__law_bad_set) (c.def_ 34 (d := d__law_bad_set) rfl) (He.keep_ok (c.fact 76 (f := .keep "_law_bad_set") rfl))
  have g__law_bad_set := He.glo_ok KX G (c.fact 34 (f := .glo "_law_bad_set") rfl)
  obtain ⟨fd__law_bad_kinds, F__law_bad_kinds⟩ := mkFun (x := "_law_bad_kinds") (st := s__law_bad_kinds) (c.def_ 35 (d := d__law_bad_kinds) rfl) (He.keep_ok (c.fact 77 (f := .keep "_law_bad_kinds") rfl))
  have g__law_bad_kinds := He.glo_ok KX G (c.fact 35 (f := .glo "_law_bad_kinds") rfl)
  obtain ⟨fd__law_is_name, F__law_is_name⟩ := mkFun (x := "_law_is_name") (st := s__law_is_name) (c.def_ 36 (d := d__law_is_name) rfl) (He.keep_ok (c.fact 78 (f := .keep "_law_is_name") rfl))
  have g__law_is_name := He.glo_ok KX G (c.fact 36 (f := .glo "_law_is_name") rfl)
  obtain ⟨fd__law_are_kinds, F__law_are_kinds⟩ := mkFun (x := "_law_are_kinds") (st := s__law_are_kinds) (c.def_ 37 (d := d__law_are_kinds) rfl) (He.keep_ok (c.fact 79 (f := .keep "_law_are_kinds") rfl))
  have g__law_are_kinds := He.glo_ok KX G (c.fact 37 (f := .glo "_law_are_kinds") rfl)
  obtain ⟨fd__law_is_tree, F__law_is_tree⟩ := mkFun (x := "_law_is_tree") (st := s__law_is_tree) (c.def_ 38 (d := d__law_is_tree) rfl) (He.keep_ok (c.fact 80 (f := .keep "_law_is_tree") rfl))
  have g__law_is_tree := He.glo_ok KX G (c.fact 38 (f := .glo "_law_is_tree") rfl)
  obtain ⟨fd__law_many_tuples, F__law_many_tuples⟩ := mkFun (x := "_law_many_tuples") (st := s__law_many_tuples) (c.def_ 39 (d := d__law_many_tuples) rfl) (He.keep_ok (c.fact 81 (f := .keep "_law_many_tuples") rfl))
  have g__law_many_tuples := He.glo_ok KX G (c.fact 39 (f := .glo "_law_many_tuples") rfl)
  obtain ⟨fd__law_is_set, F__law_is_set⟩ := mkFun (x := "_law_is_set") (st := s__law_is_set) (c.def_ 40 (d := d__law_is_set) rfl) (He.keep_ok (c.fact 82 (f := .keep "_law_is_set") rfl))
  have g__law_is_set := He.glo_ok KX G (c.fact 40 (f := .glo "_law_is_set") rfl)
  obtain ⟨fd_law, F_law⟩ := mkFun (x := "law") (st := s_law) (c.def_ 41 (d := d_law) rfl) (He.keep_ok (c.fact 83 (f := .keep "law") rfl))
  have g_law := He.glo_ok KX G (c.fact 41 (f := .glo "law") rfl)
  have B : BI mg := ⟨He.free_ok KX G (c.fact 93 (f := .free "len") rfl), He.free_ok KX G (c.fact 84 (f := .free "abs") rfl), He.free_ok KX G (c.fact 85 (f := .free "all") rfl), He.free_ok KX G (c.fact 86 (f := .free "any") rfl), He.free_ok KX G (c.fact 102 (f := .free "sum") rfl), He.free_ok KX G (c.fact 96 (f := .free "min") rfl), He.free_ok KX G (c.fact 95 (f := .free "max") rfl), He.free_ok KX G (c.fact 100 (f := .free "sorted") rfl), He.free_ok KX G (c.fact 89 (f := .free "divmod") rfl), He.free_ok KX G (c.fact 92 (f := .free "isinstance") rfl), He.free_ok KX G (c.fact 91 (f := .free "int") rfl), He.free_ok KX G (c.fact 94 (f := .free "list") rfl), He.free_ok KX G (c.fact 101 (f := .free "str") rfl), He.free_ok KX G (c.fact 87 (f := .free "bool") rfl), He.free_ok KX G (c.fact 103 (f := .free "tuple") rfl), He.free_ok KX G (c.fact 97 (f := .free "range") rfl), He.free_ok KX G (c.fact 104 (f := .free "zip") rfl), He.free_ok KX G (c.fact 90 (f := .free "enumerate") rfl), He.free_ok KX G (c.fact 98 (f := .free "repr") rfl)⟩
  have B2 : BI2 mg := ⟨He.free_ok KX G (c.fact 88 (f := .free "dict") rfl), He.free_ok KX G (c.fact 99 (f := .free "set") rfl)⟩
  obtain ⟨xe0, xk0, xb0, xt0⟩ := He.exc_ok (c.fact 108 (f := .exc "BadKinds") rfl)
  have X_BadKinds : Rse K mg "BadKinds" (He.ga K "BadKinds") := ⟨xe0, He.glo_ok KX G (c.fact 106 (f := .glo "BadKinds") rfl), xk0, xb0, xt0⟩
  have sub_BadKinds := He.exm_ok (c.fact 111 (f := .exm "BadKinds" "WritingError" true) rfl)
  have gWE := He.glo_ok KX G (c.fact 105 (f := .glo "WritingError") rfl)
  have gKEPT := He.glo_ok KX G (c.fact 107 (f := .glo "KEPT") rfl)
  have gLET := He.str_ok KX G (c.fact 112 (f := .str "_LETTERS" "abcdefghijklmnopqrstuvwxyz") rfl)
  have mt := mo
  unfold moreB at mt
  simp only [Bool.and_eq_true] at mt
  have T : Cst K mg (He.ga K "KEPT") := ⟨by
    obtain ⟨t, e⟩ := gLET
    exact ⟨_, e, ⟨t, rfl⟩⟩, ⟨_, gKEPT, rfl⟩, fun F => .tup (He.tupB_ok mt.1.1 F) (dps_ofStr keptL)⟩
  have T2 : Cs2 mg := ⟨(by
    obtain ⟨t, e⟩ := He.int_ok KX G (c.fact 113 (f := .int "MOST_NODES" 400) rfl)
    exact ⟨_, e, ⟨t, rfl⟩⟩), (by
    obtain ⟨t, e⟩ := He.int_ok KX G (c.fact 114 (f := .int "MOST_LEVELS" 60) rfl)
    exact ⟨_, e, ⟨t, rfl⟩⟩)⟩
  have o_is_node : FnOk P w K mg base CX0 1 (He.ga K "is_node") fd_is_node ["ranks", "thing"] (spNode K) := ok_is_node F_is_node B
  have c_is_node : Cal P w K mg base 1 "is_node" (spNode K) [] := mkCal o_is_node g_is_node F_is_node.kp (F_is_node.binds fun _ _ _ _ _ _ us hl => match us, hl with | [_, _], _ => rfl)
  have o__law_begun : FnOk P w K mg base CX0 1 (He.ga K "_law_begun") fd__law_begun ["script"] (spBegun K) := ok__law_begun F__law_begun B
  have c__law_begun : Cal P w K mg base 1 "_law_begun" (spBegun K) [] := mkCal o__law_begun g__law_begun F__law_begun.kp (F__law_begun.binds fun _ _ _ _ _ _ us hl => match us, hl with | [_], _ => rfl)
  have o_goals_in : FnOk P w K mg base CX0 1 (He.ga K "goals_in") fd_goals_in ["kinds", "many"] (p_goals_in K) := ok_goals_in F_goals_in B
  have c_goals_in : Cal P w K mg base 1 "goals_in" (p_goals_in K) [] := mkCal o_goals_in g_goals_in F_goals_in.kp (F_goals_in.binds fun _ _ _ _ _ _ us hl => match us, hl with | [_, _], _ => rfl)
  have o__law_is_name : FnOk P w K mg base CX0 1 (He.ga K "_law_is_name") fd__law_is_name ["thing"] (p_is_name K) := ok__law_is_name F__law_is_name B
  have c__law_is_name : Cal P w K mg base 1 "_law_is_name" (p_is_name K) [] := mkCal o__law_is_name g__law_is_name F__law_is_name.kp (F__law_is_name.binds fun _ _ _ _ _ _ us hl => match us, hl with | [_], _ => rfl)
  have o__law_is_number : FnOk P w K mg base CX0 1 (He.ga K "_law_is_number") fd__law_is_number ["thing", "end"] (p__law_is_number K) := ok__law_is_number F__law_is_number B
  have c__law_is_number : Cal P w K mg base 1 "_law_is_number" (p__law_is_number K) [] := mkCal o__law_is_number g__law_is_number F__law_is_number.kp (F__law_is_number.binds fun _ _ _ _ _ _ us hl => match us, hl with | [_, _], _ => rfl)
  have o_is_name : FnOk P w K mg base CX0 1 (He.ga K "is_name") fd_is_name ["thing"] (p_is_name K) := ok_is_name F_is_name B T
  have c_is_name : Cal P w K mg base 1 "is_name" (p_is_name K) [] := mkCal o_is_name g_is_name F_is_name.kp (F_is_name.binds fun _ _ _ _ _ _ us hl => match us, hl with | [_], _ => rfl)
  have o__law_size : FnOk P w K mg base CX0 41 (He.ga K "_law_size") fd__law_size ["tree"] (spD K (f1 (g_law_size 40))) := ok__law_size F__law_size B g__law_size 40
  have c__law_size : Cal P w K mg base 41 "_law_size" (spD K (f1 (g_law_size 40))) [] := mkCal o__law_size g__law_size F__law_size.kp (F__law_size.binds fun _ _ _ _ _ _ us hl => match us, hl with | [_], _ => rfl)
  have o__law_many_tuples : FnOk P w K mg base CX0 1 (He.ga K "_law_many_tuples") fd__law_many_tuples ["many", "rank"] (p__law_many_tuples K) := ok__law_many_tuples F__law_many_tuples B
  have c__law_many_tuples : Cal P w K mg base 1 "_law_many_tuples" (p__law_many_tuples K) [] := mkCal o__law_many_tuples g__law_many_tuples F__law_many_tuples.kp (F__law_many_tuples.binds fun _ _ _ _ _ _ us hl => match us, hl with | [_, _], _ => rfl)
  have o__law_tuples : FnOk P w K mg base CX0 1 (He.ga K "_law_tuples") fd__law_tuples ["some", "rank"] (p__law_tuples K) := ok__law_tuples F__law_tuples B
  have c__law_tuples : Cal P w K mg base 1 "_law_tuples" (p__law_tuples K) [] := mkCal o__law_tuples g__law_tuples F__law_tuples.kp (F__law_tuples.binds fun _ _ _ _ _ _ us hl => match us, hl with | [_, _], _ => rfl)
  have o__law_mixed : FnOk P w K mg base CX0 1 (He.ga K "_law_mixed") fd__law_mixed ["draw"] spMixed := ok__law_mixed F__law_mixed B
  have c__law_mixed : Cal P w K mg base 1 "_law_mixed" spMixed [] := mkCal o__law_mixed g__law_mixed F__law_mixed.kp (F__law_mixed.binds fun _ _ _ _ _ _ us hl => match us, hl with | [_], _ => rfl)
  have o__law_paths : FnOk P w K mg base CX0 41 (He.ga K "_law_paths") fd__law_paths ["thing"] (spD K (f1 (g_law_paths 40))) := ok__law_paths F__law_paths B g__law_paths 40
  have c__law_paths : Cal P w K mg base 41 "_law_paths" (spD K (f1 (g_law_paths 40))) [] := mkCal o__law_paths g__law_paths F__law_paths.kp (F__law_paths.binds fun _ _ _ _ _ _ us hl => match us, hl with | [_], _ => rfl)
  have o__law_is_tree : FnOk P w K mg base CX0 1 (He.ga K "_law_is_tree") fd__law_is_tree ["kinds", "thing"] (p__law_is_tree K) := ok__law_is_tree F__law_is_tree B
  have c__law_is_tree : Cal P w K mg base 1 "_law_is_tree" (p__law_is_tree K) [] := mkCal o__law_is_tree g__law_is_tree F__law_is_tree.kp (F__law_is_tree.binds fun _ _ _ _ _ _ us hl => match us, hl with | [_, _], _ => rfl)
  have o__law_part : FnOk P w K mg base CX0 41 (He.ga K "_law_part") fd__law_part ["thing", "path"] (spPart K 40) := ok__law_part F__law_part B g__law_part 40
  have c__law_part : Cal P w K mg base 41 "_law_part" (spPart K 40) [] := mkCal o__law_part g__law_part F__law_part.kp (F__law_part.binds fun _ _ _ _ _ _ us hl => match us, hl with | [_, _], _ => rfl)
  have o__law_put : FnOk P w K mg base CX0 41 (He.ga K "_law_put") fd__law_put ["thing", "path", "part"] (spPut K 40) := ok__law_put F__law_put B g__law_put 40
  have c__law_put : Cal P w K mg base 41 "_law_put" (spPut K 40) [] := mkCal o__law_put g__law_put F__law_put.kp (F__law_put.binds fun _ _ _ _ _ _ us hl => match us, hl with | [_, _, _], _ => rfl)
  have o_is_whole : FnOk P w K mg base CX0 1 (He.ga K "is_whole") fd_is_whole ["thing"] (p_is_whole K) := ok_is_whole F_is_whole B
  have c_is_whole : Cal P w K mg base 1 "is_whole" (p_is_whole K) [] := mkCal o_is_whole g_is_whole F_is_whole.kp (F_is_whole.binds fun _ _ _ _ _ _ us hl => match us, hl with | [_], _ => rfl)
  have o_is_word : FnOk P w K mg base CX0 1 (He.ga K "is_word") fd_is_word ["thing", "word"] (p_is_word K) := ok_is_word F_is_word B
  have c_is_word : Cal P w K mg base 1 "is_word" (p_is_word K) [] := mkCal o_is_word g_is_word F_is_word.kp (F_is_word.binds fun _ _ _ _ _ _ us hl => match us, hl with | [_, _], _ => rfl)
  have o_is_row : FnOk P w K mg base CX0 1 (He.ga K "is_row") fd_is_row ["thing", "many"] (p_is_row K) := ok_is_row F_is_row B
  have c_is_row : Cal P w K mg base 1 "is_row" (p_is_row K) [] := mkCal o_is_row g_is_row F_is_row.kp (F_is_row.binds fun _ _ _ _ _ _ us hl => match us, hl with | [_, _], _ => rfl)
  have o_is_rising : FnOk P w K mg base CX0 1 (He.ga K "is_rising") fd_is_rising ["items"] (p_is_rising K) := ok_is_rising F_is_rising B
  have c_is_rising : Cal P w K mg base 1 "is_rising" (p_is_rising K) [] := mkCal o_is_rising g_is_rising F_is_rising.kp (F_is_rising.binds fun _ _ _ _ _ _ us hl => match us, hl with | [_], _ => rfl)
  have o_fits : FnOk P w K mg base CX0 2 (He.ga K "fits") fd_fits ["kinds", "thing"] (spFits K) := ok_fits F_fits B B2 T2 c_is_node
  have c_fits : Cal P w K mg base 2 "fits" (spFits K) [] := mkCal o_fits g_fits F_fits.kp (F_fits.binds fun _ _ _ _ _ _ us hl => match us, hl with | [_, _], _ => rfl)
  have o__law_are_kinds : FnOk P w K mg base CX0 2 (He.ga K "_law_are_kinds") fd__law_are_kinds ["thing"] (p_is_kinds K) := ok__law_are_kinds F__law_are_kinds B B2 c__law_is_name c__law_is_number
  have c__law_are_kinds : Cal P w K mg base 2 "_law_are_kinds" (p_is_kinds K) [] := mkCal o__law_are_kinds g__law_are_kinds F__law_are_kinds.kp (F__law_are_kinds.binds fun _ _ _ _ _ _ us hl => match us, hl with | [_], _ => rfl)
  have o__law_take : FnOk P w K mg base CX0 2 (He.ga K "_law_take") fd__law_take ["draw", "many"] spTake := ok__law_take F__law_take B c__law_mixed
  have c__law_take : Cal P w K mg base 2 "_law_take" spTake [] := mkCal o__law_take g__law_take F__law_take.kp (F__law_take.binds fun _ _ _ _ _ _ us hl => match us, hl with | [_, _], _ => rfl)
  have o_is_between : FnOk P w K mg base CX0 2 (He.ga K "is_between") fd_is_between ["thing", "low", "high"] (p_is_between K) := ok_is_between F_is_between c_is_whole
  have c_is_between : Cal P w K mg base 2 "is_between" (p_is_between K) [] := mkCal o_is_between g_is_between F_is_between.kp (F_is_between.binds fun _ _ _ _ _ _ us hl => match us, hl with | [_, _, _], _ => rfl)
  have o__law_pickS : FnOk P w K mg base CX0 3 (He.ga K "_law_pick") fd__law_pick ["draw", "some"] (spPickS K) := ok__law_pickS F__law_pick B c__law_take
  have c__law_pickS : Cal P w K mg base 3 "_law_pick" (spPickS K) [] := mkCal o__law_pickS g__law_pick F__law_pick.kp (F__law_pick.binds fun _ _ _ _ _ _ us hl => match us, hl with | [_, _], _ => rfl)
  have o__law_set : FnOk P w K mg base CX0 3 (He.ga K "_law_set") fd__law_set ["draw", "kinds", "most"] (spSetL K) := ok__law_set F__law_set B c__law_take c__law_tuples
  have c__law_set : Cal P w K mg base 3 "_law_set" (spSetL K) [] := mkCal o__law_set g__law_set F__law_set.kp (F__law_set.binds fun _ _ _ _ _ _ us hl => match us, hl with | [_, _, _], _ => rfl)
  have o__is_goals : FnOk P w K mg base CX0 3 (He.ga K "_is_goals") fd__is_goals ["row", "many", "rank"] (p__is_goals K) := ok__is_goals F__is_goals B c_is_row c_is_between
  have c__is_goals : Cal P w K mg base 3 "_is_goals" (p__is_goals K) [] := mkCal o__is_goals g__is_goals F__is_goals.kp (F__is_goals.binds fun _ _ _ _ _ _ us hl => match us, hl with | [_, _, _], _ => rfl)
  have o_is_rising_below : FnOk P w K mg base CX0 3 (He.ga K "is_rising_below") fd_is_rising_below ["thing", "many"] (p_is_rising_below K) := ok_is_rising_below F_is_rising_below B c_is_between c_is_rising
  have c_is_rising_below : Cal P w K mg base 3 "is_rising_below" (p_is_rising_below K) [] := mkCal o_is_rising_below g_is_rising_below F_is_rising_below.kp (F_is_rising_below.binds fun _ _ _ _ _ _ us hl => match us, hl with | [_, _], _ => rfl)
  have o__is_kind : FnOk P w K mg base CX0 3 (He.ga K "_is_kind") fd__is_kind ["thing"] (p__is_kind K) := ok__is_kind F__is_kind c_is_row c_is_name c_is_between
  have c__is_kind : Cal P w K mg base 3 "_is_kind" (p__is_kind K) [] := mkCal o__is_kind g__is_kind F__is_kind.kp (F__is_kind.binds fun _ _ _ _ _ _ us hl => match us, hl with | [_], _ => rfl)
  have o__law_is_set : FnOk P w K mg base CX0 3 (He.ga K "_law_is_set") fd__law_is_set ["thing"] (p__law_is_set K) := ok__law_is_set F__law_is_set B B2 c__law_are_kinds c__law_is_number c__law_many_tuples
  have c__law_is_set : Cal P w K mg base 3 "_law_is_set" (p__law_is_set K) [] := mkCal o__law_is_set g__law_is_set F__law_is_set.kp (F__law_is_set.binds fun _ _ _ _ _ _ us hl => match us, hl with | [_], _ => rfl)
  have o__law_shuffled : FnOk P w K mg base CX0 3 (He.ga K "_law_shuffled") fd__law_shuffled ["draw", "some"] (spShuf K) := ok__law_shuffled F__law_shuffled B c__law_take
  have c__law_shuffled : Cal P w K mg base 3 "_law_shuffled" (spShuf K) [] := mkCal o__law_shuffled g__law_shuffled F__law_shuffled.kp (F__law_shuffled.binds fun _ _ _ _ _ _ us hl => match us, hl with | [_, _], _ => rfl)
  have o__law_pick : FnOk P w K mg base CX0 3 (He.ga K "_law_pick") fd__law_pick ["draw", "some"] (spPick K) := ok__law_pick F__law_pick B c__law_take
  have c__law_pick : Cal P w K mg base 3 "_law_pick" (spPick K) [] := mkCal o__law_pick g__law_pick F__law_pick.kp (F__law_pick.binds fun _ _ _ _ _ _ us hl => match us, hl with | [_, _], _ => rfl)
  have o__law_tree : FnOk P w K mg base CX0 17 (He.ga K "_law_tree") fd__law_tree ["draw", "kinds", "left"] (spTreeL K 13) := ok__law_tree F__law_tree B g__law_tree c__law_pickS 13
  have c__law_tree : Cal P w K mg base 17 "_law_tree" (spTreeL K 13) [] := mkCal o__law_tree g__law_tree F__law_tree.kp (F__law_tree.binds fun _ _ _ _ _ _ us hl => match us, hl with | [_, _, _], _ => rfl)
  have o__law_names : FnOk P w K mg base CX0 4 (He.ga K "_law_names") fd__law_names ["draw", "many"] spNames := ok__law_names F__law_names B c__law_shuffled c__law_pick
  have c__law_names : Cal P w K mg base 4 "_law_names" spNames [] := mkCal o__law_names g__law_names F__law_names.kp (F__law_names.binds fun _ _ _ _ _ _ us hl => match us, hl with | [_, _], _ => rfl)
  have o__law_odd : FnOk P w K mg base CX0 4 (He.ga K "_law_odd") fd__law_odd ["draw", "part", "words"] (spOdd K) := ok__law_odd F__law_odd B c__law_take c__law_pick
  have c__law_odd : Cal P w K mg base 4 "_law_odd" (spOdd K) [] := mkCal o__law_odd g__law_odd F__law_odd.kp (F__law_odd.binds fun _ _ _ _ _ _ us hl => match us, hl with | [_, _, _], _ => rfl)
  have o__law_bad_set : FnOk P w K mg base CX0 4 (He.ga K "_law_bad_set") fd__law_bad_set ["draw"] (spOne K badS) := ok__law_bad_set F__law_bad_set B c__law_pick
  have c__law_bad_set : Cal P w K mg base 4 "_law_bad_set" (spOne K badS) [] := mkCal o__law_bad_set g__law_bad_set F__law_bad_set.kp (F__law_bad_set.binds fun _ _ _ _ _ _ us hl => match us, hl with | [_], _ => rfl)
  have o_is_kinds : FnOk P w K mg base CX0 4 (He.ga K "is_kinds") fd_is_kinds ["thing"] (p_is_kinds K) := ok_is_kinds F_is_kinds B c__is_kind c_is_rising
  have c_is_kinds : Cal P w K mg base 4 "is_kinds" (p_is_kinds K) [] := mkCal o_is_kinds g_is_kinds F_is_kinds.kp (F_is_kinds.binds fun _ _ _ _ _ _ us hl => match us, hl with | [_], _ => rfl)
  have o__law_bad_kinds : FnOk P w K mg base CX0 4 (He.ga K "_law_bad_kinds") fd__law_bad_kinds ["draw"] (spOne K badK) := ok__law_bad_kinds F__law_bad_kinds B c__law_pick
  have c__law_bad_kinds : Cal P w K mg base 4 "_law_bad_kinds" (spOne K badK) [] := mkCal o__law_bad_kinds g__law_bad_kinds F__law_bad_kinds.kp (F__law_bad_kinds.binds fun _ _ _ _ _ _ us hl => match us, hl with | [_], _ => rfl)
  have o__law_bent : FnOk P w K mg base CX0 42 (He.ga K "_law_bent") fd__law_bent ["draw", "thing", "words"] (spBent K) := ok__law_bent F__law_bent B c__law_pick c__law_paths c__law_part c__law_put c__law_odd
  have c__law_bent : Cal P w K mg base 42 "_law_bent" (spBent K) [] := mkCal o__law_bent g__law_bent F__law_bent.kp (F__law_bent.binds fun _ _ _ _ _ _ us hl => match us, hl with | [_, _, _], _ => rfl)
  have o_check_kinds : FnOk P w K mg base (L2.CX P w) 5 (He.ga K "check_kinds") fd_check_kinds ["kinds"] (p_check_kinds K (He.ga K "BadKinds")) := ok_check_kinds F_check_kinds c_is_kinds X_BadKinds
  have c_check_kinds : CalX P w K mg base 5 "check_kinds" ["kinds"] (p_check_kinds K (He.ga K "BadKinds")) := mkCalX o_check_kinds g_check_kinds F_check_kinds.kp (F_check_kinds.binds fun _ _ _ _ _ _ us hl => match us, hl with | [_], _ => rfl) (all_check_kinds F_check_kinds)
  have o_is_set : FnOk P w K mg base CX0 5 (He.ga K "is_set") fd_is_set ["thing"] (p_is_set K) := ok_is_set F_is_set B c_is_row c_is_word c_is_kinds c_is_between c_goals_in c_is_rising_below c__is_goals
  have c_is_set : Cal P w K mg base 5 "is_set" (p_is_set K) [] := mkCal o_is_set g_is_set F_is_set.kp (F_is_set.binds fun _ _ _ _ _ _ us hl => match us, hl with | [_], _ => rfl)
  have o__law_kinds : FnOk P w K mg base CX0 5 (He.ga K "_law_kinds") fd__law_kinds ["draw"] (spKinds K) := ok__law_kinds F__law_kinds B c__law_take c__law_pick c__law_names
  have c__law_kinds : Cal P w K mg base 5 "_law_kinds" (spKinds K) [] := mkCal o__law_kinds g__law_kinds F__law_kinds.kp (F__law_kinds.binds fun _ _ _ _ _ _ us hl => match us, hl with | [_], _ => rfl)
  have o_is_tree : FnOk P w K mg base (L2.CX P w) 6 (He.ga K "is_tree") fd_is_tree ["kinds", "thing"] (spTree K (He.ga K "BadKinds")) := ok_is_tree F_is_tree B c_check_kinds c_fits
  have c_is_tree : CalX P w K mg base 6 "is_tree" ["kinds", "thing"] (spTree K (He.ga K "BadKinds")) := mkCalX o_is_tree g_is_tree F_is_tree.kp (F_is_tree.binds fun _ _ _ _ _ _ us hl => match us, hl with | [_, _], _ => rfl) (all_is_tree F_is_tree)
  have ed : fd_law = fd := by
    obtain ⟨oc, od, kV, doc, pm, an, cdv, ct, osl, e, lk, _⟩ := F_law.ex
    have z : h.get? (He.ga K "law") = _ := KX _ _ lk
    rw [ho] at z
    cases z
    cases hd
    rfl
  have hb := mo
  unfold moreB at hb
  simp only [Bool.and_eq_true] at hb
  exact ⟨He.ga K "is_tree", He.ga K "is_kinds", He.ga K "is_set", He.ga K "_law_caught", fd_law, fd_is_tree, fd_is_kinds, fd_is_set, fd__law_caught, { B := B, F := F_law, hcode := by rw [ed]; exact hc, TB := TB, Fg := F__law_caught, mg' := g__law_caught, hCS := gWE, sub := sub_BadKinds, Ft := o_is_tree, mt := g_is_tree, kt := F_is_tree.kp, kbt := kb_tree F_is_tree, Fk := o_is_kinds, mk_ := g_is_kinds, kk := F_is_kinds.kp, kbk := kb_one F_is_kinds (bind_is_kinds F_is_kinds), Fs := o_is_set, ms := g_is_set, ks := F_is_set.kp, kbs := kb_one F_is_set (bind_is_set F_is_set), X_BadKinds := X_BadKinds, CK0 := exc_of hb.1.2, c_is_kinds := c_is_kinds, c_is_set := c_is_set, c_is_tree := c_is_tree, c__law_begun := c__law_begun, c__law_pick := c__law_pick, c__law_kinds := c__law_kinds, c__law_tree := c__law_tree, c__law_set := c__law_set, c__law_bent := c__law_bent, c__law_size := c__law_size, c__law_bad_set := c__law_bad_set, c__law_bad_kinds := c__law_bad_kinds, c__law_are_kinds := c__law_are_kinds, c__law_is_tree := c__law_is_tree, c__law_is_set := c__law_is_set }⟩
theorem law_room : Room 60 callerA := ⟨rfl, by decide, by decide⟩
end Sx
open PySem PySem.W PySem.Calls PyProof.Rows
theorem PySem.Challenge.cw_samewriting_k00_kinds_trees_and_sets_jud_holds : PySem.Challenge.rw_samewriting_k00_kinds_trees_and_sets_jud.Holds := by
  w_on; o_law
  refine HandSHeadRun.head_any (r := OpenLaw.row PySem.Challenge.rw_samewriting_k00_kinds_trees_and_sets_jud) (q := view (OpenLaw.row PySem.Challenge.rw_samewriting_k00_kinds_trees_and_sets_jud).prog [54]) (H := Sx.hk) (ob := Sx.obH) (M := 12000) (loose := Sx.looseL) (d := HandSHeadRun.topDef (OpenLaw.row PySem.Challenge.rw_samewriting_k00_kinds_trees_and_sets_jud).prog 54) (kwd := []) Sx.ob_eq
    (by kernel_rfl) (fun s => by kernel_rfl) Sx.runH (by kernel_rfl) (by kernel_rfl) (by kernel_rfl) (by rfl) (by first | assumption | decide +kernel) (by decide +kernel) ⟨rfl, rfl, rfl, rfl, rfl, by decide +kernel⟩ ?hw ?hc
  case hw => w_witness2
  case hc =>
    refine Sx.walk_runT (l := PySem.Challenge.rw_samewriting_k00_kinds_trees_and_sets_jud) (n := 63) (CX := L2.CX0) rfl (by decide) (by kernel_rfl) (by kernel_rfl) ?F (fun _ _ _ _ z => z)
    intro w mg fa h Y G hmg0
    obtain ⟨K, KX, c, mo⟩ := Y
    have hmg : mg ("law" : PySem.Str) = some (.ref fa) := by
      have e : (HandSHeadRun.topDef (OpenLaw.row PySem.Challenge.rw_samewriting_k00_kinds_trees_and_sets_jud).prog 54).name = ("law" : PySem.Str) := by kernel_rfl
      rw [← e]
      exact hmg0
    have gl := He.glo_ok KX G (c.fact 41 (f := .glo "law") rfl)
    have efa : fa = He.ga K "law" := by
      rw [hmg] at gl
      cases gl
      rfl
    subst efa
    refine ⟨K, KX, fun c0 t o fd ho hd hc hh htb => ⟨Sx.tab_of KX (by
      have hb := mo
      unfold Sx.moreB at hb
      simp only [Bool.and_eq_true] at hb
      exact hb.2) ho hd hc hh, fun s base H a ns hl K1 G1 TB hP hs e0 => ?_⟩⟩
    obtain ⟨ft, fk, fs, g, fdl, fdt, fdk, fds, fdg, L⟩ := Sx.facts (P := (PySem.Challenge.rw_samewriting_k00_kinds_trees_and_sets_jud).prog) (w := w) KX G c mo ho hd hc TB
    exact Sx.law_by L Sx.law_room hl hs hP e0
