import PyProof.Rows.All
import Wide.All
import OpenK.AllK
import Wide.FinOn
import HandS.ForMost
import HandS.ForExc
import HandS.Evl
import HandS.IsInst
import HandS.TupAny
import HandS.Wide
import HandS.WideBits
import HandS.Zip
import HandS.ExcValue
import HandS.ExcIs
import HandS.Lambda
import HandS.Codes
import HandS.Conv
import PyProof.ReprRoads
import HandS.Style
import KE.GoesMore
import PyProof.ReprLen
import HandS.Head0
import HandS.Head1
import HandS.Head2
import HandS.HeadEnd
import HandS.HeadHook1
import HandS.HeadHook2
import HandS.EndTab
import KE.KDictZip
import HandS.RevTup
import HandS.More
import HandS.WordsExc
import HandS.Defaults
import Lean
import PySem.Challenge.RW_samewriting_k82_whole_how_many_trees_of
set_option Elab.async false
set_option linter.all false
set_option maxRecDepth 100000
set_option maxHeartbeats 1000000
/-! W0: data (PyData) over the hand layer: what an expression, a test, a block comes to, on a heap that only grows. -/
namespace Sw
open PySem PySem.Spec PyProof.Rows L2

/-! ### frozen and whole heaps that grow together -/
structure Grow (F H F' H' : Hp) : Prop where
  f : Same F F'
  h : Same H H'
  i : Same F' H'
  n : ∀ a o, F' a = some o → F a = none → H a = none
theorem Grow.same {F H F' H' : Hp} (g : Grow F H F' H') : Same F H' := g.f.trans g.i
theorem Grow.start {F H : Hp} (s : Same F H) : Grow F H F H := ⟨Same.refl _, Same.refl _, s, fun a o e n => by rw [n] at e; cases e⟩
theorem Grow.trans {F H F1 H1 F2 H2 : Hp} (a : Grow F H F1 H1) (b : Grow F1 H1 F2 H2) : Grow F H F2 H2 where
  f := a.f.trans b.f
  h := a.h.trans b.h
  i := b.i
  n := fun x o e n => by
    cases q : F1 x with
    | none => exact a.h.free (b.n x o e q)
    | some u => exact a.n x u q n
theorem same_upd {H : Hp} {p : Addr} {o : HO} (h : H p = none) : Same H (upd H p o) := fun b x e => by
  rw [upd_ne (ne_of_none e h)]
  exact e
/-- a new object that is known from now on -/
theorem Grow.known {F H : Hp} {p : Addr} {o : HO} (s : Same F H) (hp : H p = none) : Grow F H (upd F p o) (upd H p o) where
  f := same_upd (s.free hp)
  h := same_upd hp
  i := fun b x e => by
    by_cases hb : b = p
    · rw [hb, upd_same] at e ⊢
      exact e
    · rw [upd_ne hb] at e ⊢
      exact s b x e
  n := fun a x e n => by
    by_cases hb : a = p
    · rw [hb]
      exact hp
    · rw [upd_ne hb, n] at e
      cases e
/-- a new object that is nobody's business -/
theorem Grow.own {F H : Hp} {p : Addr} {o : HO} (s : Same F H) (hp : H p = none) : Grow F H F (upd H p o) :=
  ⟨Same.refl _, same_upd hp, s.trans (same_upd hp), fun a x e n => by rw [n] at e; cases e⟩
/-- what was known before the growing is known beside it too -/
theorem Grow.widen {F F2 H F' H' : Hp} (g : Grow F H F' H') (a : Same F F2) (b : Same F2 H) : ∃ G, Same F' G ∧ Grow F2 H G H' := by
  refine ⟨fun x => match F' x with | some o => some o | none => F2 x, fun x o e => by show (match F' x with | some o => some o | none => F2 x) = some o; rw [e], ⟨fun x o e => ?_, g.h, fun x o e => ?_, fun x o e n => ?_⟩⟩
  · show (match F' x with | some o => some o | none => F2 x) = some o
    cases q : F' x with
    | none => exact e
    | some u =>
      have h1 := g.i x u q
      have h2 := g.h x o (b x o e)
      rw [h1] at h2
      exact h2
  · have e' : (match F' x with | some o => some o | none => F2 x) = some o := e
    cases q : F' x with
    | none =>
      rw [q] at e'
      exact g.h x o (b x o e')
    | some u =>
      rw [q] at e'
      exact g.i x o (q.trans e')
  · have e' : (match F' x with | some o => some o | none => F2 x) = some o := e
    cases q : F' x with
    | none =>
      rw [q] at e'
      have e2 : F2 x = some o := e'
      rw [n] at e2
      cases e2
    | some u => exact g.n x u q (a.free n)

/-! ### data stays data -/
theorem same_seqT {K : PySem.W.Frag} {H H' : Hp} {a : Addr} {xs : List V} (e : Same H H') (h : SqT K H a xs) : SqT K H' a xs := by
  rcases h with (h | ⟨o, h⟩) | h
  · exact .inl (.inl (e _ _ h))
  · exact .inl (.inr ⟨o, e _ _ h⟩)
  · exact .inr h
section
variable {K : PySem.W.Frag} {F G : Hp}
mutual
theorem dp_mono (s : Same F G) : ∀ (d : PyData) (v : V), Dp K F v d → Dp K G v d
  | .none, _, h => by cases h; exact .non
  | .bool b, _, h => by cases h; exact .bl b
  | .int i, _, h => by cases h; exact .int i
  | .str x, _, h => by cases h; exact .str x
  | .list ds, _, h => by
    cases h with
    | lst a b => exact .lst (s.seq a) (dps_mono s ds _ b)
  | .tuple ds, _, h => by
    cases h with
    | tup a b => exact .tup (same_seqT s a) (dps_mono s ds _ b)
  | .dict _, _, h => by cases h
theorem dps_mono (s : Same F G) : ∀ (ds : List PyData) (vs : List V), DpAll K F vs ds → DpAll K G vs ds
  | [], _, h => by cases h; exact .nil
  | d :: ds, _, h => by
    cases h with
    | cons a b => exact .cons (dp_mono s d _ a) (dps_mono s ds _ b)
end
end
end Sw
namespace L2
open PySem PySem.Spec PyProof.Rows Sw
theorem Dp.up {K : PySem.W.Frag} {F G : Hp} {v : V} {d : PyData} (h : Dp K F v d) (s : Same F G) : Dp K G v d := dp_mono s d v h
theorem DpAll.up {K : PySem.W.Frag} {F G : Hp} {v : List V} {d : List PyData} (h : DpAll K F v d) (s : Same F G) : DpAll K G v d := dps_mono s d v h
theorem DpAll.len {K : PySem.W.Frag} {F : Hp} : ∀ {vs : List V} {ds : List PyData}, DpAll K F vs ds → vs.length = ds.length
  | _, _, .nil => rfl
  | _, _, .cons _ b => congrArg (· + 1) (DpAll.len b)
theorem DpAll.get {K : PySem.W.Frag} {F : Hp} : ∀ {vs : List V} {ds : List PyData} {i : Nat} {d : PyData}, DpAll K F vs ds → ds[i]? = some d → ∃ v, vs[i]? = some v ∧ Dp K F v d
  | _, _, _, _, .nil, e => by simp at e
  | _, _, 0, _, .cons a _, e => by simp at e; subst e; exact ⟨_, rfl, a⟩
  | _, _, i + 1, _, .cons _ b, e => by
    obtain ⟨v, h1, h2⟩ := DpAll.get (i := i) b (by simpa using e)
    exact ⟨v, by simpa using h1, h2⟩
theorem DpAll.getV {K : PySem.W.Frag} {F : Hp} : ∀ {vs : List V} {ds : List PyData} {i : Nat} {v : V}, DpAll K F vs ds → vs[i]? = some v → ∃ d, ds[i]? = some d ∧ Dp K F v d
  | _, _, _, _, .nil, e => by simp at e
  | _, _, 0, _, .cons a _, e => by simp at e; subst e; exact ⟨_, rfl, a⟩
  | _, _, i + 1, _, .cons _ b, e => by
    obtain ⟨v, h1, h2⟩ := DpAll.getV (i := i) b (by simpa using e)
    exact ⟨v, by simpa using h1, h2⟩
theorem DpAll.app {K : PySem.W.Frag} {F : Hp} : ∀ {vs ws : List V} {ds es : List PyData}, DpAll K F vs ds → DpAll K F ws es → DpAll K F (vs ++ ws) (ds ++ es)
  | _, _, _, _, .nil, h => h
  | _, _, _, _, .cons a b, h => .cons a (DpAll.app b h)
theorem DpAll.drop {K : PySem.W.Frag} {F : Hp} : ∀ {vs : List V} {ds : List PyData} (n : Nat), DpAll K F vs ds → DpAll K F (vs.drop n) (ds.drop n)
  | _, _, 0, h => h
  | _, _, _ + 1, .nil => .nil
  | _, _, n + 1, .cons _ b => DpAll.drop n b
theorem DpAll.take {K : PySem.W.Frag} {F : Hp} : ∀ {vs : List V} {ds : List PyData} (n : Nat), DpAll K F vs ds → DpAll K F (vs.take n) (ds.take n)
  | _, _, 0, _ => .nil
  | _, _, _ + 1, .nil => .nil
  | _, _, n + 1, .cons a b => .cons a (DpAll.take n b)

end L2
namespace Sw
open PySem PySem.Spec PyProof.Rows L2
/-! ### what comes of an expression, a test, arguments -/
variable {K : PySem.W.Frag}
def EvD (K : PySem.W.Frag) (te : TE) (σ : L2.St) (F : Hp) (d : PyData) : Prop := ∀ H, Same F H → ∀ Q : VK, (∀ v F' H', Grow F H F' H' → Dp K F' v d → Q v H') → te σ H Q
def EvB (tt : TT) (σ : L2.St) (F : Hp) (b : Bool) : Prop := ∀ H, Same F H → ∀ Q : Bool → Hp → Prop, (∀ F' H', Grow F H F' H' → Q b H') → tt σ H Q
def EvS (K : PySem.W.Frag) (ta : TA) (σ : L2.St) (F : Hp) (ds : List PyData) : Prop := ∀ H, Same F H → ∀ Q : List V → Hp → Prop, (∀ vs F' H', Grow F H F' H' → DpAll K F' vs ds → Q vs H') → ta σ H Q
def Slot (K : PySem.W.Frag) (σ : L2.St) (F : Hp) (i : Nat) (d : PyData) : Prop := ∃ v, σ[i]? = some (some v) ∧ Dp K F v d
section
variable {σ : L2.St} {F G : Hp} {te ta tb : TE} {t u : TT} {d d1 d2 : PyData} {b : Bool}
theorem Slot.up {i : Nat} (h : Slot K σ F i d) (s : Same F G) : Slot K σ G i d := let ⟨v, a, b⟩ := h; ⟨v, a, b.up s⟩
theorem EvD.up (h : EvD K te σ F d) (s : Same F G) : EvD K te σ G d := fun H sH Q q => h H (s.trans sH) Q fun v F' H' g r => by
  obtain ⟨G', a, b⟩ := g.widen s sH
  exact q v G' H' b (r.up a)
theorem EvB.up (h : EvB t σ F b) (s : Same F G) : EvB t σ G b := fun H sH Q q => h H (s.trans sH) Q fun F' H' g => by
  obtain ⟨G', a, b⟩ := g.widen s sH
  exact q G' H' b
theorem EvS.up {ta : TA} {ds : List PyData} (h : EvS K ta σ F ds) (s : Same F G) : EvS K ta σ G ds := fun H sH Q q => h H (s.trans sH) Q fun v F' H' g r => by
  obtain ⟨G', a, b⟩ := g.widen s sH
  exact q v G' H' b (r.up a)
theorem ev_var {i : Nat} (h : Slot K σ F i d) : EvD K (tVar i) σ F d := fun H s Q q => let ⟨v, a, r⟩ := h; ⟨v, a, q v F H (.start s) r⟩
theorem ev_of {v : V} (r : ∀ F, Dp K F v d) : EvD K (tC v) σ F d := fun H s Q q => q v F H (.start s) (r F)
theorem ev_int {i : Int} : EvD K (tC (.int i)) σ F (.int i) := ev_of fun _ => .int i
theorem ev_str {x : Str} : EvD K (tC (.str x)) σ F (.str x) := ev_of fun _ => .str x
theorem ev_bl {x : Bool} : EvD K (tC (.bl x)) σ F (.bool x) := ev_of fun _ => .bl x
theorem ev_non : EvD K (tC .non) σ F .none := ev_of fun _ => .non
theorem ev_cd {v : V} (r : Dp K F v d) : EvD K (tC v) σ F d := fun H s Q q => q v F H (.start s) r
theorem EvD.is (h : EvD K te σ F d) (e : d = d1) : EvD K te σ F d1 := e ▸ h
theorem EvB.is {c : Bool} (h : EvB t σ F b) (e : b = c) : EvB t σ F c := e ▸ h
/-- a two-place operation -/
def RvD (K : PySem.W.Frag) (r : R2) (d1 d2 d : PyData) : Prop := ∀ F x y H, Same F H → Dp K F x d1 → Dp K F y d2 → ∀ Q : VK, (∀ v F' H', Grow F H F' H' → Dp K F' v d → Q v H') → r x y H Q
theorem ev_op {r : R2} (ha : EvD K ta σ F d1) (hb : EvD K tb σ F d2) (hr : RvD K r d1 d2 d) : EvD K (tOp r ta tb) σ F d := fun H s Q q =>
  ha H s _ fun x F1 H1 g1 r1 => hb.up g1.f H1 g1.i _ fun y F2 H2 g2 r2 => hr F2 x y H2 g2.i (r1.up g2.f) r2 Q fun v F' H' g r => q v F' H' ((g1.trans g2).trans g) r
theorem rv_now {r : R2} {v : V} (h : ∀ F x y H, Dp K F x d1 → Dp K F y d2 → Same F H → ∀ Q : VK, Q v H → r x y H Q) (hv : ∀ F, Dp K F v d) : RvD K r d1 d2 d := fun F x y H s a b Q q => h F x y H a b s Q (q v F H (.start s) (hv F))
theorem ea_nil : EvS K tNil σ F [] := fun H s Q q => q [] F H (.start s) .nil
theorem ea_cons {ta : TA} {ds : List PyData} (h : EvD K te σ F d) (hr : EvS K ta σ F ds) : EvS K (tCons te ta) σ F (d :: ds) := fun H s Q q =>
  h H s _ fun x F1 H1 g1 r1 => hr.up g1.f H1 g1.i _ fun xs F2 H2 g2 r2 => q _ F2 H2 (g1.trans g2) (.cons (r1.up g2.f) r2)
/-! tests -/
theorem eb_val (h : EvD K te σ F (.bool b)) : EvB (tB te) σ F b := fun H s Q q => h H s _ fun v F1 H1 g r => by
  cases r
  exact ⟨b, rfl, q F1 H1 g⟩
theorem eb_test (h : EvD K te σ F (.bool b)) : EvB (tTest te) σ F b := fun H s Q q => h H s _ fun v F1 H1 g r => by
  cases r
  exact ⟨b, rfl, q F1 H1 g⟩
theorem eb_and {c : Bool} (h1 : EvB t σ F b) (h2 : b = true → EvB u σ F c) : EvB (tAnd t u) σ F (b && c) := fun H s Q q => h1 H s _ fun F1 H1 g1 => by
  cases b with
  | true => exact (h2 rfl).up g1.f H1 g1.i _ fun F2 H2 g2 => q F2 H2 (g1.trans g2)
  | false => exact q F1 H1 g1
theorem eb_or {c : Bool} (h1 : EvB t σ F b) (h2 : b = false → EvB u σ F c) : EvB (tOr t u) σ F (b || c) := fun H s Q q => h1 H s _ fun F1 H1 g1 => by
  cases b with
  | false => exact (h2 rfl).up g1.f H1 g1.i _ fun F2 H2 g2 => q F2 H2 (g1.trans g2)
  | true => exact q F1 H1 g1
theorem eb_not (h : EvB t σ F b) : EvB (tNot t) σ F (!b) := fun H s Q q => h H s _ fun F1 H1 g => q F1 H1 g
theorem ev_and {c : Bool} (h1 : EvD K ta σ F (.bool b)) (h2 : b = true → EvD K tb σ F (.bool c)) : EvD K (tAndV ta tb) σ F (.bool (b && c)) := fun H s Q q => h1 H s _ fun v F1 H1 g1 r => by
  cases r
  refine ⟨b, rfl, ?_⟩
  cases b with
  | true => exact (h2 rfl).up g1.f H1 g1.i _ fun v F2 H2 g2 r => q v F2 H2 (g1.trans g2) r
  | false => exact q _ F1 H1 g1 (.bl false)
theorem ev_or {c : Bool} (h1 : EvD K ta σ F (.bool b)) (h2 : b = false → EvD K tb σ F (.bool c)) : EvD K (tOrV ta tb) σ F (.bool (b || c)) := fun H s Q q => h1 H s _ fun v F1 H1 g1 r => by
  cases r
  refine ⟨b, rfl, ?_⟩
  cases b with
  | false => exact (h2 rfl).up g1.f H1 g1.i _ fun v F2 H2 g2 r => q v F2 H2 (g1.trans g2) r
  | true => exact q _ F1 H1 g1 (.bl true)
theorem ev_not (h : EvD K ta σ F (.bool b)) : EvD K (tNotV ta) σ F (.bool (!b)) := fun H s Q q => h H s _ fun v F1 H1 g r => by
  cases r
  exact ⟨b, rfl, q _ F1 H1 g (.bl _)⟩
theorem ev_if (h : EvB t σ F b) (h1 : b = true → EvD K ta σ F d) (h2 : b = false → EvD K tb σ F d) : EvD K (tIf t ta tb) σ F d := fun H s Q q => h H s _ fun F1 H1 g1 => by
  cases b with
  | true => exact (h1 rfl).up g1.f H1 g1.i _ fun v F2 H2 g2 r => q v F2 H2 (g1.trans g2) r
  | false => exact (h2 rfl).up g1.f H1 g1.i _ fun v F2 H2 g2 r => q v F2 H2 (g1.trans g2) r
/-! displays -/
theorem ev_tup {ta : TA} {ds : List PyData} (h : EvS K ta σ F ds) (hl : ds.length ≤ sizeLine) : EvD K (tTup ta) σ F (.tuple ds) := fun H s Q q => h H s _ fun vs F1 H1 g1 r =>
  ⟨by rw [r.len]; exact hl, fun p hp => q _ _ _ (g1.trans (.known g1.i hp)) (.tup (.inl (.inl upd_same)) (r.up (same_upd (g1.i.free hp))))⟩
theorem ev_lst {ta : TA} {ds : List PyData} (h : EvS K ta σ F ds) (hl : ds.length ≤ sizeLine) : EvD K (tLst ta) σ F (.list ds) := fun H s Q q => h H s _ fun vs F1 H1 g1 r =>
  ⟨by rw [r.len]; exact hl, fun p hp => q _ _ _ (g1.trans (.known g1.i hp)) (.lst (.inl (.inl upd_same)) (r.up (same_upd (g1.i.free hp))))⟩
/-! calls of built-ins by values -/
def RcD (K : PySem.W.Frag) (r : List V → Hp → VK → Prop) (ds : List PyData) (d : PyData) : Prop := ∀ F xs H, Same F H → DpAll K F xs ds → ∀ Q : VK, (∀ v F' H', Grow F H F' H' → Dp K F' v d → Q v H') → r xs H Q
theorem ev_cb {r : List V → Hp → VK → Prop} {ta : TA} {ds : List PyData} (h : EvS K ta σ F ds) (hr : RcD K r ds d) : EvD K (tCB r ta) σ F d := fun H s Q q =>
  h H s _ fun xs F1 H1 g1 r1 => hr F1 xs H1 g1.i r1 Q fun v F2 H2 g2 r2 => q v F2 H2 (g1.trans g2) r2
/-! promises of defs over data: what comes back, or nothing is said -/
def spD (K : PySem.W.Frag) (f : List PyData → Option PyData) : Sp := fun vs H Q _ => ∃ F ds d, Same F H ∧ DpAll K F vs ds ∧ f ds = some d ∧ ∀ v F' H', Grow F H F' H' → Dp K F' v d → Q v H'
theorem ev_call {f : List PyData → Option PyData} {E : XK} {ta : TA} {ds : List PyData} (h : EvS K ta σ F ds) (e : f ds = some d) : EvD K (tCall (spD K f) [] E ta) σ F d := fun H s Q q =>
  h H s _ fun vs F1 H1 g1 r1 => ⟨F1, ds, d, g1.i, by rw [List.append_nil]; exact r1, e, fun v F2 H2 g2 r2 => q v F2 H2 (g1.trans g2) r2⟩
/-! blocks that come back with a value -/
def Ret (K : PySem.W.Frag) (ts : TS) (σ : L2.St) (F : Hp) (d : PyData) : Prop := ∀ H, Same F H → ∀ D : Ends, (∀ v F' H', Grow F H F' H' → Dp K F' v d → D.rt v H') → ts D σ H
theorem Ret.up {ts : TS} (h : Ret K ts σ F d) (s : Same F G) : Ret K ts σ G d := fun H sH D q => h H (s.trans sH) D fun v F' H' g r => by
  obtain ⟨G', a, b⟩ := g.widen s sH
  exact q v G' H' b (r.up a)
theorem Ret.is' {ts : TS} (h : Ret K ts σ F d) (e : d = d1) : Ret K ts σ F d1 := e ▸ h
variable {ts tu tw : TS}
theorem r_ret (h : EvD K te σ F d) : Ret K (tRet te) σ F d := fun H s D q => h H s _ q
theorem r_if (h : EvB t σ F b) (h1 : b = true → Ret K ts σ F d) (h2 : b = false → Ret K tu σ F d) : Ret K (tIfS t ts tu) σ F d := fun H s D q => h H s _ fun F1 H1 g1 => by
  cases b with
  | true => exact (h1 rfl).up g1.f H1 g1.i D fun v F2 H2 g2 r => q v F2 H2 (g1.trans g2) r
  | false => exact (h2 rfl).up g1.f H1 g1.i D fun v F2 H2 g2 r => q v F2 H2 (g1.trans g2) r
/-- if c: (comes back); the rest -/
theorem r_when (h : EvB t σ F b) (h1 : b = true → Ret K ts σ F d) (h2 : b = false → Ret K tw σ F d) : Ret K (tSeq (tIfS t ts tNext) tw) σ F d := fun H s D q => h H s _ fun F1 H1 g1 => by
  cases b with
  | true => exact (h1 rfl).up g1.f H1 g1.i { D with nx := tw D } fun v F2 H2 g2 r => q v F2 H2 (g1.trans g2) r
  | false => exact (h2 rfl).up g1.f H1 g1.i D fun v F2 H2 g2 r => q v F2 H2 (g1.trans g2) r
theorem r_set {i : Nat} (h : EvD K te σ F d1) (k : ∀ v F', Same F F' → Dp K F' v d1 → Ret K tw (σ.set i (some v)) F' d) : Ret K (tSeq (tAsg te (gName i)) tw) σ F d := fun H s D q => h H s _ fun v F1 H1 g1 r1 =>
  k v F1 g1.f r1 H1 g1.i D fun w F2 H2 g2 r2 => q w F2 H2 (g1.trans g2) r2
theorem r_drop (h : EvD K te σ F d1) (k : ∀ F', Same F F' → Ret K tw σ F' d) : Ret K (tSeq (tDrop te) tw) σ F d := fun H s D q => h H s _ fun v F1 H1 g1 r1 =>
  k F1 g1.f H1 g1.i D fun w F2 H2 g2 r2 => q w F2 H2 (g1.trans g2) r2
end
end Sw
set_option Elab.async false
set_option linter.all false
set_option maxRecDepth 100000
set_option maxHeartbeats 1000000
/-! W1: walks, comprehensions, loops over data. -/
namespace Sw
open PySem PySem.Spec PyProof.Rows L2
variable {K : PySem.W.Frag}
/-! ### what is walked -/
def WkD (K : PySem.W.Frag) (J : It) (ds : List PyData) (F : Hp) : Prop := ∀ i H, Same F H →
  (∀ d, ds[i]? = some d → J.go i H ∧ ∀ x H', J.yld i H x H' → ∃ F', Grow F H F' H' ∧ Dp K F' x d) ∧ (i = ds.length → J.stop i H)
theorem WkD.up {J : It} {ds : List PyData} {F G : Hp} (h : WkD K J ds F) (s : Same F G) : WkD K J ds G := fun i H sH => by
  obtain ⟨h1, h2⟩ := h i H (s.trans sH)
  refine ⟨fun d hd => ⟨(h1 d hd).1, fun x H' y => ?_⟩, h2⟩
  obtain ⟨F', g, r⟩ := (h1 d hd).2 x H' y
  obtain ⟨G', a, b⟩ := g.widen s sH
  exact ⟨G', b, r.up a⟩
def EvW (K : PySem.W.Frag) (wi : TI) (σ : L2.St) (F : Hp) (ds : List PyData) : Prop := ∀ H, Same F H → ∀ R : It → Hp → Prop, (∀ J F' H', Grow F H F' H' → WkD K J ds F' → R J H') → wi σ H R
section
variable {σ : L2.St} {F G : Hp} {te : TE} {ds es : List PyData}
theorem wk_list {a : Addr} {vs : List V} {F : Hp} (h : SqL K F a vs) (r : DpAll K F vs ds) : WkD K (Itl K a) ds F := fun i H s => by
  have hs := s.seq h
  refine ⟨fun d hd => ?_, fun e => ⟨vs, hs, by rw [r.len, e]; exact Nat.le_refl _⟩⟩
  obtain ⟨v, hv, rv⟩ := r.get hd
  refine ⟨⟨vs, v, hs, hv⟩, fun x H' y => ?_⟩
  obtain ⟨rfl, y⟩ := y
  have e := Option.some.inj ((y vs hs).symm.trans hv)
  subst e
  exact ⟨F, .start s, rv⟩
theorem wk_tup {a : Addr} {vs : List V} {F : Hp} (h : SqT K F a vs) (r : DpAll K F vs ds) : WkD K (Itt K a) ds F := fun i H s => by
  have hs := same_seqT s h
  refine ⟨fun d hd => ?_, fun e => ⟨vs, hs, by rw [r.len, e]; exact Nat.le_refl _⟩⟩
  obtain ⟨v, hv, rv⟩ := r.get hd
  refine ⟨⟨vs, v, hs, hv⟩, fun x H' y => ?_⟩
  obtain ⟨rfl, y⟩ := y
  have e := Option.some.inj ((y vs hs).symm.trans hv)
  subst e
  exact ⟨F, .start s, rv⟩
theorem ew_list (h : EvD K te σ F (.list ds)) : EvW K (iList K te) σ F ds := fun H s R q => h H s _ fun v F1 H1 g r => by
  cases r with
  | lst a b => exact ⟨_, rfl, ⟨_, g.i.seq a⟩, q _ F1 H1 g (wk_list a b)⟩
theorem ew_tup (h : EvD K te σ F (.tuple ds)) : EvW K (iTup K te) σ F ds := fun H s R q => h H s _ fun v F1 H1 g r => by
  cases r with
  | tup a b => exact ⟨_, rfl, ⟨_, same_seqT g.i a⟩, q _ F1 H1 g (wk_tup a b)⟩
def rgs (lo : Int) (n : Nat) : List PyData := (List.range n).map fun (i : Nat) => PyData.int (lo + (i : Int))
theorem rgs_len (lo : Int) (n : Nat) : (rgs lo n).length = n := by
  unfold rgs
  rw [List.length_map, List.length_range]
theorem rgs_get {lo : Int} {n i : Nat} {d : PyData} (h : (rgs lo n)[i]? = some d) : i < n ∧ d = .int (lo + (i : Int)) := by
  have hi : i < n := by
    have := (List.getElem?_eq_some_iff.mp h).1
    rw [rgs_len] at this
    exact this
  unfold rgs at h
  rw [List.getElem?_map, List.getElem?_range hi] at h
  exact ⟨hi, (Option.some.inj h).symm⟩
theorem wk_rng {lo : Int} {n : Nat} : WkD K (Itr lo n) (rgs lo n) F := fun i H s => by
  refine ⟨fun d hd => ?_, fun e => by rw [rgs_len] at e; exact Nat.le_of_eq e.symm⟩
  obtain ⟨hi, rfl⟩ := rgs_get hd
  refine ⟨hi, fun x H' y => ?_⟩
  obtain ⟨rfl, rfl⟩ := y
  exact ⟨F, .start s, .int _⟩
theorem ew_rng1 {ta : TA} {n : Int} (h : EvS K ta σ F [.int n]) (hn : -(2 ^ 62) ≤ n ∧ n < 2 ^ 62) : EvW K (iRng1 ta) σ F (rgs 0 n.toNat) := fun H s R q => h H s _ fun vs F1 H1 g r => by
  cases r with
  | cons a b =>
    cases a
    cases b
    exact ⟨n, rfl, hn.1, hn.2, q _ F1 H1 g wk_rng⟩
theorem ew_rng2 {ta : TA} {m n : Int} (h : EvS K ta σ F [.int m, .int n]) (hm : -(2 ^ 62) ≤ m ∧ m < 2 ^ 62) (hn : -(2 ^ 62) ≤ n ∧ n < 2 ^ 62) : EvW K (iRng2 ta) σ F (rgs m (n - m).toNat) := fun H s R q => h H s _ fun vs F1 H1 g r => by
  cases r with
  | cons a b =>
    cases a
    cases b with
    | cons a b =>
      cases a
      cases b
      exact ⟨m, n, rfl, ⟨hm.1, hm.2, hn.1, hn.2⟩, q _ F1 H1 g wk_rng⟩
def pairs (ds es : List PyData) : List PyData := List.zipWith (fun a b => .tuple [a, b]) ds es
theorem pairs_get {i : Nat} {d : PyData} (h : (pairs ds es)[i]? = some d) : ∃ a b, ds[i]? = some a ∧ es[i]? = some b ∧ d = .tuple [a, b] := by
  unfold pairs at h
  rw [List.getElem?_zipWith] at h
  cases ha : ds[i]? with
  | none => rw [ha] at h; cases h
  | some a =>
    cases hb : es[i]? with
    | none => rw [ha, hb] at h; cases h
    | some b =>
      rw [ha, hb] at h
      exact ⟨a, b, rfl, rfl, (Option.some.inj h).symm⟩
theorem pairs_len : (pairs ds es).length = min ds.length es.length := by
  unfold pairs
  rw [List.length_zipWith]
theorem grow_pair {F H : Hp} {x y : V} {a b : PyData} {T : Addr} (s : Same F H) (hT : H T = none) (ra : Dp K F x a) (rb : Dp K F y b) : ∃ F', Grow F H F' (upd H T (.tup [x, y])) ∧ Dp K F' (.ref T) (.tuple [a, b]) :=
  ⟨_, .known s hT, .tup (.inl (.inl upd_same)) (.cons (ra.up (same_upd (s.free hT))) (.cons (rb.up (same_upd (s.free hT))) .nil))⟩
theorem wk_zip {a b : Addr} {vs ws : List V} {F : Hp} (h : SqL K F a vs) (r : DpAll K F vs ds) (h' : SqL K F b ws) (r' : DpAll K F ws es) : WkD K (Itz K a b) (pairs ds es) F := fun i H s => by
  have hs := s.seq h
  have hs' := s.seq h'
  refine ⟨fun d hd => ?_, fun e => ⟨vs, ws, hs, hs', ?_⟩⟩
  · obtain ⟨p, q, hp, hq, rfl⟩ := pairs_get hd
    obtain ⟨v, hv, rv⟩ := r.get hp
    obtain ⟨w, hw, rw'⟩ := r'.get hq
    refine ⟨⟨vs, ws, v, w, hs, hs', hv, hw⟩, fun x H' y => ?_⟩
    obtain ⟨T, x1, x2, rfl, hT, rfl, y1, y2⟩ := y
    have e1 := Option.some.inj ((y1 vs hs).symm.trans hv)
    have e2 := Option.some.inj ((y2 ws hs').symm.trans hw)
    subst e1 e2
    exact grow_pair s hT rv rw'
  · rw [r.len, r'.len]
    rw [pairs_len] at e
    omega
theorem wk_zipT {a b : Addr} {vs ws : List V} {F : Hp} (h : SqT K F a vs) (r : DpAll K F vs ds) (h' : SqT K F b ws) (r' : DpAll K F ws es) : WkD K (RZ.ItzT K a b) (pairs ds es) F := fun i H s => by
  have hs := same_seqT s h
  have hs' := same_seqT s h'
  refine ⟨fun d hd => ?_, fun e => ⟨vs, ws, hs, hs', ?_⟩⟩
  · obtain ⟨p, q, hp, hq, rfl⟩ := pairs_get hd
    obtain ⟨v, hv, rv⟩ := r.get hp
    obtain ⟨w, hw, rw'⟩ := r'.get hq
    refine ⟨⟨vs, ws, v, w, hs, hs', hv, hw⟩, fun x H' y => ?_⟩
    obtain ⟨T, x1, x2, rfl, hT, rfl, y1, y2⟩ := y
    have e1 := Option.some.inj ((y1 vs hs).symm.trans hv)
    have e2 := Option.some.inj ((y2 ws hs').symm.trans hw)
    subst e1 e2
    exact grow_pair s hT rv rw'
  · rw [r.len, r'.len]
    rw [pairs_len] at e
    omega
theorem ew_zipL {ta : TA} (h : EvS K ta σ F [.list ds, .list es]) : EvW K (iZip K ta) σ F (pairs ds es) := fun H s R q => h H s _ fun vs F1 H1 g r => by
  cases r with
  | cons a b =>
    cases b with
    | cons b c =>
      cases c
      cases a with
      | lst a1 a2 =>
        cases b with
        | lst b1 b2 => exact ⟨_, _, _, _, rfl, g.i.seq a1, g.i.seq b1, q _ F1 H1 g (wk_zip a1 a2 b1 b2)⟩
theorem ew_zipAL {ta : TA} (h : EvS K ta σ F [.list ds, .list es]) : EvW K (RZ.iZipA K ta) σ F (pairs ds es) := fun H s R q => h H s _ fun vs F1 H1 g r => by
  cases r with
  | cons a b =>
    cases b with
    | cons b c =>
      cases c
      cases a with
      | lst a1 a2 =>
        cases b with
        | lst b1 b2 => exact ⟨_, _, _, _, rfl, .inl ⟨g.i.seq a1, g.i.seq b1, q _ F1 H1 g (wk_zip a1 a2 b1 b2)⟩⟩
theorem ew_zipAT {ta : TA} (h : EvS K ta σ F [.tuple ds, .tuple es]) : EvW K (RZ.iZipA K ta) σ F (pairs ds es) := fun H s R q => h H s _ fun vs F1 H1 g r => by
  cases r with
  | cons a b =>
    cases b with
    | cons b c =>
      cases c
      cases a with
      | tup a1 a2 =>
        cases b with
        | tup b1 b2 => exact ⟨_, _, _, _, rfl, .inr ⟨same_seqT g.i a1, same_seqT g.i b1, q _ F1 H1 g (wk_zipT a1 a2 b1 b2)⟩⟩
def numbered (ds : List PyData) : List PyData := pairs (rgs 0 ds.length) ds
theorem numbered_get {i : Nat} {d : PyData} (h : (numbered ds)[i]? = some d) : ∃ b, ds[i]? = some b ∧ d = .tuple [.int (i : Int), b] := by
  obtain ⟨a, b, h1, h2, rfl⟩ := pairs_get h
  obtain ⟨_, rfl⟩ := rgs_get h1
  exact ⟨b, h2, by rw [Int.zero_add]⟩
theorem numbered_len : (numbered ds).length = ds.length := by
  unfold numbered
  rw [pairs_len, rgs_len, Nat.min_self]
theorem wk_enum {a : Addr} {vs : List V} {F : Hp} (h : SqL K F a vs) (r : DpAll K F vs ds) : WkD K (Ite K a) (numbered ds) F := fun i H s => by
  have hs := s.seq h
  refine ⟨fun d hd => ?_, fun e => ⟨vs, hs, by rw [r.len]; rw [numbered_len] at e; exact Nat.le_of_eq e.symm⟩⟩
  obtain ⟨b, hb, rfl⟩ := numbered_get hd
  obtain ⟨v, hv, rv⟩ := r.get hb
  refine ⟨⟨vs, v, hs, hv⟩, fun x H' y => ?_⟩
  obtain ⟨T, x1, rfl, hT, rfl, y1⟩ := y
  have e1 := Option.some.inj ((y1 vs hs).symm.trans hv)
  subst e1
  exact grow_pair s hT (.int _) rv
theorem ew_enum {ta : TA} (h : EvS K ta σ F [.list ds]) : EvW K (iEnum K ta) σ F (numbered ds) := fun H s R q => h H s _ fun vs F1 H1 g r => by
  cases r with
  | cons a b =>
    cases b
    cases a with
    | lst a1 a2 => exact ⟨_, _, rfl, g.i.seq a1, q _ F1 H1 g (wk_enum a1 a2)⟩
def signs (x : Str) : List PyData := x.cps.toList.map fun c => .str ⟨#[c]⟩
theorem ew_str {x : Str} (h : EvD K te σ F (.str x)) : EvW K (iStr te) σ F (signs x) := fun H s R q => h H s _ fun v F1 H1 g r => by
  cases r
  refine ⟨x, rfl, q _ F1 H1 g fun i H s => ⟨fun d hd => ?_, fun e => ?_⟩⟩
  · have hi : i < x.cps.size := by
      have z := (List.getElem?_eq_some_iff.mp hd).1
      unfold signs at z
      rw [List.length_map, Array.length_toList] at z
      exact z
    refine ⟨hi, fun y H' hy => ?_⟩
    obtain ⟨rfl, c, hc, rfl⟩ := hy
    unfold signs at hd
    rw [List.getElem?_map, Array.getElem?_toList, hc] at hd
    cases hd
    exact ⟨F1, .start s, .str _⟩
  · unfold signs at e
    rw [List.length_map, Array.length_toList] at e
    exact Nat.le_of_eq e.symm
end

/-! ### a target takes an item -/
def Tk (K : PySem.W.Frag) (g : TG) (d : PyData) (σ : L2.St) (F : Hp) (P : L2.St → Prop) : Prop := ∀ v H, Same F H → Dp K F v d → ∀ Q : L2.St → Hp → Prop, (∀ σ2, P σ2 → Q σ2 H) → g v σ H Q
theorem tk_name {i : Nat} {d : PyData} {σ : L2.St} {F : Hp} : Tk K (gName i) d σ F (fun σ2 => ∃ v, σ2 = σ.set i (some v) ∧ Dp K F v d) := fun v H s r Q q => q _ ⟨v, rfl, r⟩
theorem tk_two {i j : Nat} {d e : PyData} {σ : L2.St} {F : Hp} : Tk K (gTup K 2 (gCons (gName i) (gCons (gName j) gNil))) (.tuple [d, e]) σ F
    (fun σ2 => ∃ v w, σ2 = (σ.set i (some v)).set j (some w) ∧ Dp K F v d ∧ Dp K F w e) := fun v H s r Q q => by
  cases r with
  | tup a b =>
    cases b with
    | cons b1 b2 =>
      cases b2 with
      | cons b2 b3 =>
        cases b3
        exact ⟨_, _, rfl, same_seqT s a, rfl, _, _, rfl, _, _, rfl, rfl, q _ ⟨_, _, rfl, b1, b2⟩⟩

theorem Tk.imp {g : TG} {d : PyData} {σ : L2.St} {F : Hp} {P P' : L2.St → Prop} (h : Tk K g d σ F P) (k : ∀ σ2, P σ2 → P' σ2) : Tk K g d σ F P' := fun v H s r Q q => h v H s r Q fun σ2 p => q σ2 (k σ2 p)
theorem eb_yes {σ : L2.St} {F : Hp} : EvB tYes σ F true := fun H s Q q => q F H (.start s)

/-! ### comprehensions -/
section
variable {σ : L2.St} {F : Hp} {te : TE} {tt : TT} {g : TG} {wi : TI} {vs : List Nat} {ds : List PyData}
def made (f : PyData → Bool) (e : PyData → PyData) (ds : List PyData) : List PyData := (ds.filter f).map e
theorem lc_new (f : PyData → Bool) (e : PyData → PyData) (hw : EvW K wi σ F ds) (hl : ds.length < sizeLine)
    (hT : ∀ d F', d ∈ ds → Same F F' → Tk K g d (wipe σ vs) F' fun σ2 => wipe σ2 vs = wipe σ vs ∧ EvB tt σ2 F' (f d) ∧ (f d = true → EvD K te σ2 F' (e d))) :
    ∀ H, Same F H → ∀ Q : VK, (∀ D F' acc H', Grow F H F' H' → H D = none → F' D = none → H' D = some (.lst acc) → DpAll K F' acc (made f e ds) → Q (.ref D) H') → tLc wi g tt te vs σ H Q := fun H s Q q => hw H s _ fun J F1 H1 g1 wk => by
  intro D hD
  refine ⟨fun i m H2 => m = ds.length - i ∧ i ≤ ds.length ∧ ∃ F2 acc, Grow F1 H1 F2 H2 ∧ F2 D = none ∧ H2 D = some (.lst acc) ∧ DpAll K F2 acc (made f e (ds.take i)) ∧ acc.length ≤ i,
    ⟨ds.length, by simp, Nat.zero_le _, F1, [], .own g1.i hD, g1.i.free hD, upd_same, .nil, Nat.le_refl _⟩, fun i m H2 hW => ?_⟩
  obtain ⟨rfl, hi, F2, acc, g2, nD, eD, ra, la⟩ := hW
  have wk2 := wk.up g2.f
  by_cases hlt : i < ds.length
  · have hd : ds[i]? = some ds[i] := List.getElem?_eq_getElem hlt
    obtain ⟨go, yl⟩ := (wk2 i H2 g2.i).1 _ hd
    refine .inr ⟨go, fun H3 => ∃ F3 acc, Grow F1 H1 F3 H3 ∧ F3 D = none ∧ H3 D = some (.lst acc) ∧ DpAll K F3 acc (made f e (ds.take (i + 1))) ∧ acc.length ≤ i + 1, fun H3 h3 => ⟨_, ?_, rfl, hlt, h3⟩, fun x H3 hy => ?_⟩
    · show ds.length - (i + 1) < ds.length - i
      omega
    · obtain ⟨F3, g3, rx⟩ := yl x H3 hy
      have nD3 : F3 D = none := by
        cases z : F3 D with
        | none => rfl
        | some o =>
          have := g3.n D o z nD
          rw [eD] at this
          cases this
      have eT : ds.take (i + 1) = ds.take i ++ [ds[i]] := by rw [List.take_add_one, hd]; rfl
      refine hT ds[i] F3 (List.getElem_mem hlt) (((g1.trans g2).trans g3).f) x H3 g3.i rx _ fun σ2 hσ => ?_
      obtain ⟨w2, hb, he⟩ := hσ
      refine ⟨w2, hb H3 g3.i _ fun F4 H4 g4 => ?_⟩
      have g14 := (g2.trans g3).trans g4
      have eD4 : H4 D = some (.lst acc) := g4.h _ _ (g3.h _ _ eD)
      have nD4 : F4 D = none := by
        cases z : F4 D with
        | none => rfl
        | some o =>
          have := g4.n D o z nD3
          rw [g3.h _ _ eD] at this
          cases this
      cases hf : f ds[i] with
      | true =>
        show te σ2 H4 _
        refine ((he hf).up g4.f) H4 g4.i _ fun y F5 H5 g5 ry => ?_
        have eD5 : H5 D = some (.lst acc) := g5.h _ _ eD4
        have nD5 : F5 D = none := by
          cases z : F5 D with
          | none => rfl
          | some o =>
            have := g5.n D o z nD4
            rw [eD4] at this
            cases this
        refine ⟨acc, eD5, by omega, F5, acc ++ [y], ⟨(g14.trans g5).f, fun b o z => ?_, fun b o z => ?_, (g14.trans g5).n⟩, nD5, upd_same, ?_, by rw [List.length_append]; show acc.length + 1 ≤ i + 1; omega⟩
        · have nb : b ≠ D := ne_of_none z hD
          rw [upd_ne nb]
          exact (g14.trans g5).h b o z
        · have nb : b ≠ D := ne_of_none z nD5
          rw [upd_ne nb]
          exact g5.i b o z
        · have e2 : made f e (ds.take (i + 1)) = made f e (ds.take i) ++ [e ds[i]] := by
            unfold made
            rw [eT, List.filter_append, List.map_append, List.filter_cons, if_pos hf]
            rfl
          rw [e2]
          exact (ra.up ((g3.trans (g4.trans g5)).f)).app (.cons ry .nil)
      | false =>
        refine ⟨F4, acc, g14, nD4, eD4, ?_, by omega⟩
        have e2 : made f e (ds.take (i + 1)) = made f e (ds.take i) := by
          unfold made
          rw [eT, List.filter_append, List.map_append, List.filter_cons, if_neg (by rw [hf]; decide)]
          show _ ++ [] = _
          rw [List.append_nil]
        rw [e2]
        exact ra.up (g3.trans g4).f
  · have ei : i = ds.length := by omega
    refine .inl ⟨(wk2 i H2 g2.i).2 ei, ?_⟩
    rw [ei, List.take_length] at ra
    exact q D F2 acc H2 (g1.trans g2) (g1.h.free hD) nD eD ra
theorem ev_lc (f : PyData → Bool) (e : PyData → PyData) (hw : EvW K wi σ F ds) (hl : ds.length < sizeLine)
    (hT : ∀ d F', d ∈ ds → Same F F' → Tk K g d (wipe σ vs) F' fun σ2 => wipe σ2 vs = wipe σ vs ∧ EvB tt σ2 F' (f d) ∧ (f d = true → EvD K te σ2 F' (e d))) :
    EvD K (tLc wi g tt te vs) σ F (.list (made f e ds)) := fun H s Q q => lc_new f e hw hl hT H s Q fun D F2 acc H2 g2 hD nD eD ra => by
  refine q _ (upd F2 D (.lst acc)) H2 ⟨g2.f.trans (same_upd nD), g2.h, fun b o z => ?_, fun b o z n => ?_⟩ (.lst (.inl (.inl upd_same)) (ra.up (same_upd nD)))
  · by_cases hb : b = D
    · rw [hb, upd_same] at z
      rw [hb, eD]
      exact z
    · rw [upd_ne hb] at z
      exact g2.i b o z
  · by_cases hb : b = D
    · rw [hb]
      exact hD
    · rw [upd_ne hb] at z
      exact g2.n b o z n
end

/-! ### loops -/
section
variable {σ : L2.St} {F : Hp} {g : TG} {wi : TI} {ds : List PyData} {tb : TS} {D : Ends}
/-- for: I says what holds ahead of turn i: the slots, what is known, the heap -/
theorem s_for {H : Hp} (s : Same F H) (hw : EvW K wi σ F ds)
    (hb : ∀ F1 H1, Grow F H F1 H1 → ∃ I : Nat → L2.St → Hp → Hp → Prop, I 0 σ F1 H1 ∧ (∀ i σ' F' H', I i σ' F' H' → Same F1 F' ∧ Same F' H') ∧
      (∀ i d σ' F' H', ds[i]? = some d → I i σ' F' H' → ∀ F2 H2 x, Grow F' H' F2 H2 → Dp K F2 x d → g x σ' H2 fun σ2 H3 => tb { D with nx := fun σ3 H4 => ∃ F4, I (i + 1) σ3 F4 H4, ct := fun σ3 H4 => ∃ F4, I (i + 1) σ3 F4 H4, bk := D.nx } σ2 H3) ∧
      ∀ σ' F' H', I ds.length σ' F' H' → D.nx σ' H') : tFor wi g tb D σ H := by
  refine hw H s _ fun J F1 H1 g1 wk => ?_
  obtain ⟨I, h0, hI, hs, hd⟩ := hb F1 H1 g1
  refine ⟨fun i m σ' H' => m = ds.length - i ∧ i ≤ ds.length ∧ ∃ F', I i σ' F' H', ⟨ds.length, by simp, Nat.zero_le _, F1, h0⟩, fun i m σ' H' hW' => ?_⟩
  obtain ⟨rfl, hi, F', hIi⟩ := hW'
  have s2 := hI _ _ _ _ hIi
  have wk2 := wk.up s2.1
  by_cases hlt : i < ds.length
  · have hdd : ds[i]? = some ds[i] := List.getElem?_eq_getElem hlt
    obtain ⟨go, yl⟩ := (wk2 i H' s2.2).1 _ hdd
    refine .inr ⟨go, fun σ3 H4 => ∃ F4, I (i + 1) σ3 F4 H4, fun σ3 H4 h4 => ⟨_, ?_, rfl, hlt, h4⟩, fun x H2 hy => ?_⟩
    · show ds.length - (i + 1) < ds.length - i
      omega
    · obtain ⟨F2, g2, rx⟩ := yl x H2 hy
      exact hs i _ σ' F' H' hdd hIi F2 H2 x g2 rx
  · have ei : i = ds.length := by omega
    refine .inl ⟨(wk2 i H' s2.2).2 ei, ?_⟩
    rw [ei] at hIi
    exact hd σ' F' H' hIi
end
end Sw
set_option Elab.async false
set_option linter.all false
set_option maxRecDepth 100000
set_option maxHeartbeats 1000000
/-! W2: operations and built-ins on data. -/
namespace Sw
open PySem PySem.Spec PyProof.Rows L2
variable {K : PySem.W.Frag}
section
variable {σ : L2.St} {F G : Hp} {te ta tb tc : TE} {d d1 d2 d3 : PyData} {ds es : List PyData}
/-! ints -/
theorem rv_i0 {g : Int → Int → V} {i j : Int} (hv : ∀ F, Dp K F (g i j) d) : RvD K (rI0 g) (.int i) (.int j) d := fun F x y H s a b Q q => by
  cases a
  cases b
  exact ⟨i, j, rfl, rfl, q _ F H (.start s) (hv F)⟩
theorem rv_i {C : Int → Int → Prop} {g : Int → Int → V} {i j : Int} (hc : C i j) (hv : ∀ F, Dp K F (g i j) d) : RvD K (rI C g) (.int i) (.int j) d := fun F x y H s a b Q q => by
  cases a
  cases b
  exact ⟨i, j, rfl, rfl, hc, q _ F H (.start s) (hv F)⟩
theorem rv_int {g : Int → Int → Int} {i j : Int} : RvD K (rI0 fun i j => .int (g i j)) (.int i) (.int j) (.int (g i j)) := rv_i0 fun _ => .int _
theorem rv_bl {g : Int → Int → Bool} {i j : Int} : RvD K (rI0 fun i j => .bl (g i j)) (.int i) (.int j) (.bool (g i j)) := rv_i0 fun _ => .bl _
theorem rv_intC {C : Int → Int → Prop} {g : Int → Int → Int} {i j : Int} (hc : C i j) : RvD K (rI C fun i j => .int (g i j)) (.int i) (.int j) (.int (g i j)) := rv_i hc fun _ => .int _
theorem rv_or1 {r r' : R2} (h : RvD K r d1 d2 d) : RvD K (fun x y H Q => r x y H Q ∨ r' x y H Q) d1 d2 d := fun F x y H s a b Q q => .inl (h F x y H s a b Q q)
theorem rv_or2 {r r' : R2} (h : RvD K r' d1 d2 d) : RvD K (fun x y H Q => r x y H Q ∨ r' x y H Q) d1 d2 d := fun F x y H s a b Q q => .inr (h F x y H s a b Q q)
theorem rv_eqD (h1 : SeqAt.shaped d1 = true) (h2 : SeqAt.shaped d2 = true) : RvD K (rEqD K) d1 d2 (.bool (PyData.eqv d1 d2)) := fun F x y H s a b Q q => ⟨d1, d2, a.up s, b.up s, h1, h2, q _ F H (.start s) (.bl _)⟩
theorem rv_neD (h1 : SeqAt.shaped d1 = true) (h2 : SeqAt.shaped d2 = true) : RvD K (rNeD K) d1 d2 (.bool (!PyData.eqv d1 d2)) := fun F x y H s a b Q q => ⟨d1, d2, a.up s, b.up s, h1, h2, q _ F H (.start s) (.bl _)⟩
theorem rv_eqS {x y : Str} : RvD K rEq (.str x) (.str y) (.bool (decide (x = y))) := fun F u v H s a b Q q => by
  cases a
  cases b
  refine ⟨rfl, ?_⟩
  rw [show decide (V.str x = V.str y) = decide (x = y) from decide_eq_decide.mpr ⟨fun h => V.str.inj h, fun h => congrArg _ h⟩]
  exact q _ F H (.start s) (.bl _)
theorem rv_eqI {x y : Int} : RvD K rEq (.int x) (.int y) (.bool (decide (x = y))) := fun F u v H s a b Q q => by
  cases a
  cases b
  refine ⟨rfl, ?_⟩
  rw [show decide (V.int x = V.int y) = decide (x = y) from decide_eq_decide.mpr ⟨fun h => V.int.inj h, fun h => congrArg _ h⟩]
  exact q _ F H (.start s) (.bl _)
theorem rv_ltS {x y : Str} : RvD K (fun x y H Q => ∃ i j : Str, x = .str i ∧ y = .str j ∧ Q (.bl (decide (i.cps.toList < j.cps.toList))) H) (.str x) (.str y) (.bool (decide (x.cps.toList < y.cps.toList))) := fun F u v H s a b Q q => by
  cases a
  cases b
  exact ⟨x, y, rfl, rfl, q _ F H (.start s) (.bl _)⟩
theorem rv_addS {x y : Str} (h : x.length + y.length ≤ sizeLine) : RvD K (fun x y H Q => ∃ i j : Str, x = .str i ∧ y = .str j ∧ i.length + j.length ≤ sizeLine ∧ Q (.str (i ++ j)) H) (.str x) (.str y) (.str (x ++ y)) := fun F u v H s a b Q q => by
  cases a
  cases b
  exact ⟨x, y, rfl, rfl, h, q _ F H (.start s) (.str _)⟩
/-- a <= b <= c -/
theorem ev_chain {r r' : R2} {b c : Bool} (ha : EvD K ta σ F d1) (hb : EvD K tb σ F d2) (hr : RvD K r d1 d2 (.bool b)) (hc : b = true → EvD K tc σ F d3) (hr' : b = true → RvD K r' d2 d3 (.bool c)) : EvD K (tChain r r' ta tb tc) σ F (.bool (b && c)) := fun H s Q q =>
  ha H s _ fun x F1 H1 g1 r1 => hb.up g1.f H1 g1.i _ fun y F2 H2 g2 r2 => hr F2 x y H2 g2.i (r1.up g2.f) r2 _ fun z F3 H3 g3 r3 => by
    cases r3
    refine ⟨b, rfl, ?_⟩
    have g := (g1.trans g2).trans g3
    cases b with
    | true => exact ((hc rfl).up g.f) H3 g3.i _ fun w F4 H4 g4 r4 => hr' rfl F4 y w H4 g4.i (r2.up (g3.trans g4).f) r4 Q fun v F5 H5 g5 r5 => q v F5 H5 ((g.trans g4).trans g5) r5
    | false => exact q _ F3 H3 g (.bl false)
/-! isinstance -/
def tyD : PyData → String
  | .none => "NoneType"
  | .bool _ => "bool"
  | .int _ => "int"
  | .str _ => "str"
  | .list _ => "list"
  | .tuple _ => "tuple"
  | .dict _ => "dict"
theorem ty_data {F H : Hp} {x : V} (r : Dp K F x d) (s : Same F H) : TyX K H x (.type (tyD d)) := by
  cases r with
  | non => exact .base .non
  | bl b => exact .base (.bl b)
  | int i => exact .base (.int i)
  | str z => exact .base (.str z)
  | lst a b =>
    rcases s.seq a with (h | ⟨o, h⟩) | ⟨o, its, n, h1, h2, _⟩
    · exact .base (.lst h)
    · exact .base (.frz h)
    · exact .kList h1 h2
  | tup a b =>
    rcases same_seqT s a with (h | ⟨o, h⟩) | ⟨o, its, n, h1, h2, _⟩
    · exact .base (.tup h)
    · exact .fTuple h
    · exact .kTuple h1 h2
theorem ev_isi {T : String} {b : Bool} (h : EvD K te σ F d) (hk : kitB (tyD d) T = some b) : EvD K (tCB (rIsi K) (tCons te (tCons (tC (.ty T)) tNil))) σ F (.bool b) := fun H s Q q => h H s _ fun x F1 H1 g1 r1 =>
  ⟨x, .ty T, .type (tyD d), .type T, b, rfl, .ty T, ty_data r1 g1.i, kit_ty hk, q _ F1 H1 g1 (.bl b)⟩
def isInt : PyData → Bool
  | .int _ => true
  | .bool _ => true
  | _ => false
def isBool : PyData → Bool
  | .bool _ => true
  | _ => false
def isStr : PyData → Bool
  | .str _ => true
  | _ => false
def isTup : PyData → Bool
  | .tuple _ => true
  | _ => false
def isLst : PyData → Bool
  | .list _ => true
  | _ => false
theorem kit_int : ∀ d, kitB (tyD d) "int" = some (isInt d)
  | .none => (by decide +kernel : kitB "NoneType" "int" = some false)
  | .bool _ => (by decide +kernel : kitB "bool" "int" = some true)
  | .int _ => (by decide +kernel : kitB "int" "int" = some true)
  | .str _ => (by decide +kernel : kitB "str" "int" = some false)
  | .list _ => (by decide +kernel : kitB "list" "int" = some false)
  | .tuple _ => (by decide +kernel : kitB "tuple" "int" = some false)
  | .dict _ => (by decide +kernel : kitB "dict" "int" = some false)
theorem kit_bool : ∀ d, kitB (tyD d) "bool" = some (isBool d)
  | .none => (by decide +kernel : kitB "NoneType" "bool" = some false)
  | .bool _ => (by decide +kernel : kitB "bool" "bool" = some true)
  | .int _ => (by decide +kernel : kitB "int" "bool" = some false)
  | .str _ => (by decide +kernel : kitB "str" "bool" = some false)
  | .list _ => (by decide +kernel : kitB "list" "bool" = some false)
  | .tuple _ => (by decide +kernel : kitB "tuple" "bool" = some false)
  | .dict _ => (by decide +kernel : kitB "dict" "bool" = some false)
theorem kit_str : ∀ d, kitB (tyD d) "str" = some (isStr d)
  | .none => (by decide +kernel : kitB "NoneType" "str" = some false)
  | .bool _ => (by decide +kernel : kitB "bool" "str" = some false)
  | .int _ => (by decide +kernel : kitB "int" "str" = some false)
  | .str _ => (by decide +kernel : kitB "str" "str" = some true)
  | .list _ => (by decide +kernel : kitB "list" "str" = some false)
  | .tuple _ => (by decide +kernel : kitB "tuple" "str" = some false)
  | .dict _ => (by decide +kernel : kitB "dict" "str" = some false)
theorem kit_tup : ∀ d, kitB (tyD d) "tuple" = some (isTup d)
  | .none => (by decide +kernel : kitB "NoneType" "tuple" = some false)
  | .bool _ => (by decide +kernel : kitB "bool" "tuple" = some false)
  | .int _ => (by decide +kernel : kitB "int" "tuple" = some false)
  | .str _ => (by decide +kernel : kitB "str" "tuple" = some false)
  | .list _ => (by decide +kernel : kitB "list" "tuple" = some false)
  | .tuple _ => (by decide +kernel : kitB "tuple" "tuple" = some true)
  | .dict _ => (by decide +kernel : kitB "dict" "tuple" = some false)
theorem kit_lst : ∀ d, kitB (tyD d) "list" = some (isLst d)
  | .none => (by decide +kernel : kitB "NoneType" "list" = some false)
  | .bool _ => (by decide +kernel : kitB "bool" "list" = some false)
  | .int _ => (by decide +kernel : kitB "int" "list" = some false)
  | .str _ => (by decide +kernel : kitB "str" "list" = some false)
  | .list _ => (by decide +kernel : kitB "list" "list" = some true)
  | .tuple _ => (by decide +kernel : kitB "tuple" "list" = some false)
  | .dict _ => (by decide +kernel : kitB "dict" "list" = some false)
/-! len, items, slices -/
abbrev rLen0 (K : PySem.W.Frag) : List V → Hp → VK → Prop := fun xs H Q => ∃ x n, xs = [x] ∧ LenV K x H n ∧ Q (.int n) H
theorem rc_lenT : RcD K (rLen0 K) [.tuple ds] (.int ds.length) := fun F xs H s r Q q => by
  cases r with
  | cons a b =>
    cases b
    cases a with
    | tup a1 a2 => exact ⟨_, ds.length, rfl, .inr ⟨_, same_seqT s a1, a2.len.symm⟩, q _ F H (.start s) (.int _)⟩
theorem rc_lenL : RcD K (rLen0 K) [.list ds] (.int ds.length) := fun F xs H s r Q q => by
  cases r with
  | cons a b =>
    cases b
    cases a with
    | lst a1 a2 => exact ⟨_, ds.length, rfl, .inl ⟨_, s.seq a1, a2.len.symm⟩, q _ F H (.start s) (.int _)⟩
theorem rc_lenS {z : Str} (hz : z.length ≤ sizeLine) : RcD K (rLen0 K) [.str z] (.int z.length) := fun F xs H s r Q q => by
  cases r with
  | cons a b =>
    cases b
    cases a
    exact ⟨_, z.length, rfl, ⟨hz, rfl⟩, q _ F H (.start s) (.int _)⟩
theorem ev1 {r : List V → Hp → VK → Prop} (h : EvD K te σ F d1) (hr : RcD K r [d1] d) : EvD K (tCB r (tCons te tNil)) σ F d := ev_cb (ea_cons h ea_nil) hr
theorem rv_ixT {k : Nat} (h : ds[k]? = some d) : RvD K (rIxT K) (.tuple ds) (.int (k : Int)) d := fun F x y H s a b Q q => by
  cases b
  cases a with
  | tup a1 a2 =>
    obtain ⟨v, hv, rv⟩ := a2.get h
    exact ⟨_, _, _, v, rfl, rfl, same_seqT s a1, atI_nat hv, q v F H (.start s) rv⟩
theorem rv_ixL {k : Nat} (h : ds[k]? = some d) : RvD K (rIxL K) (.list ds) (.int (k : Int)) d := fun F x y H s a b Q q => by
  cases b
  cases a with
  | lst a1 a2 =>
    obtain ⟨v, hv, rv⟩ := a2.get h
    exact ⟨_, _, _, v, rfl, rfl, s.seq a1, atI_nat hv, q v F H (.start s) rv⟩
def cutD (xs : List PyData) (lo hi : Option Int) : List PyData := (xs.drop (HT.sIx xs.length 0 lo)).take (HT.sIx xs.length xs.length hi - HT.sIx xs.length 0 lo)
def EvO (K : PySem.W.Frag) (to : TO) (σ : L2.St) (F : Hp) (o : Option Int) : Prop := ∀ H, Same F H → ∀ Q : Option Int → Hp → Prop, (∀ F' H', Grow F H F' H' → Q o H') → to σ H Q
theorem eo_none : EvO K tNoPart σ F none := fun H s Q q => q F H (.start s)
theorem eo_some {i : Int} (h : EvD K te σ F (.int i)) : EvO K (tPart te) σ F (some i) := fun H s Q q => h H s _ fun v F1 H1 g r => by
  cases r
  exact ⟨i, rfl, q F1 H1 g⟩
theorem EvO.up {to : TO} {o : Option Int} (h : EvO K to σ F o) (s : Same F G) : EvO K to σ G o := fun H sH Q q => h H (s.trans sH) Q fun F' H' g => by
  obtain ⟨G', a, b⟩ := g.widen s sH
  exact q G' H' b
theorem cut_rel {F : Hp} {vs : List V} (r : DpAll K F vs ds) (lo hi : Option Int) : DpAll K F (cutV vs lo hi) (cutD ds lo hi) := by
  unfold cutV cutD
  rw [r.len]
  exact (r.drop _).take _
/-- slices by values -/
def RsD (K : PySem.W.Frag) (r : V → Option Int → Option Int → Hp → VK → Prop) (d : PyData) (lo hi : Option Int) (d' : PyData) : Prop := ∀ F x H, Same F H → Dp K F x d → ∀ Q : VK, (∀ v F' H', Grow F H F' H' → Dp K F' v d' → Q v H') → r x lo hi H Q
theorem ev_sl {r : V → Option Int → Option Int → Hp → VK → Prop} {tl th : TO} {lo hi : Option Int} (h : EvD K te σ F d) (h1 : EvO K tl σ F lo) (h2 : EvO K th σ F hi) (hr : RsD K r d lo hi d1) : EvD K (tSl r te tl th) σ F d1 := fun H s Q q =>
  h H s _ fun x F1 H1 g1 r1 => h1.up g1.f H1 g1.i _ fun F2 H2 g2 => h2.up (g1.trans g2).f H2 g2.i _ fun F3 H3 g3 =>
    hr F3 x H3 g3.i (r1.up (g2.trans g3).f) Q fun v F4 H4 g4 r4 => q v F4 H4 (((g1.trans g2).trans g3).trans g4) r4
theorem rs_tup {lo hi : Option Int} : RsD K (rSlA K) (.tuple ds) lo hi (.tuple (cutD ds lo hi)) := fun F x H s r Q q => by
  cases r with
  | tup a b =>
    rename_i p vs
    refine ⟨p, vs, rfl, same_seqT s a, fun hw => ?_, fun _ t ht => ?_⟩
    · have e : cutD ds lo hi = ds := by
        unfold cutD
        rw [← b.len, hw.1, hw.2, Nat.sub_zero, List.drop_zero, b.len, List.take_length]
      rw [e] at q
      exact q _ F H (.start s) (.tup a b)
    · exact q _ _ _ (.known s ht) (.tup (.inl (.inl upd_same)) ((cut_rel b lo hi).up (same_upd (s.free ht))))
theorem rs_list {lo hi : Option Int} : RsD K (rSlL K) (.list ds) lo hi (.list (cutD ds lo hi)) := fun F x H s r Q q => by
  cases r with
  | lst a b =>
    rename_i p vs
    exact ⟨p, vs, rfl, s.seq a, fun t ht => q _ _ _ (.known s ht) (.lst (.inl (.inl upd_same)) ((cut_rel b lo hi).up (same_upd (s.free ht))))⟩
theorem rs_or1 {r r' : V → Option Int → Option Int → Hp → VK → Prop} {lo hi : Option Int} (h : RsD K r d lo hi d1) : RsD K (fun x lo hi H Q => r x lo hi H Q ∨ r' x lo hi H Q) d lo hi d1 := fun F x H s a Q q => .inl (h F x H s a Q q)
theorem rs_or2 {r r' : V → Option Int → Option Int → Hp → VK → Prop} {lo hi : Option Int} (h : RsD K r' d lo hi d1) : RsD K (fun x lo hi H Q => r x lo hi H Q ∨ r' x lo hi H Q) d lo hi d1 := fun F x H s a Q q => .inr (h F x H s a Q q)
theorem cut_from (k : Nat) (xs : List PyData) : cutD xs (some (k : Int)) none = xs.drop k := by
  unfold cutD
  rw [HT.sIx_nat, HT.sIx_none, List.take_of_length_le (by rw [List.length_drop]; exact Nat.le_refl _)]
  by_cases h : k ≤ xs.length
  · rw [Nat.min_eq_left h]
  · rw [Nat.min_eq_right (by omega), List.drop_eq_nil_of_le (Nat.le_refl _), List.drop_eq_nil_of_le (by omega)]
theorem cut_to (k : Nat) (xs : List PyData) : cutD xs none (some (k : Int)) = xs.take k := by
  unfold cutD
  rw [HT.sIx_none, HT.sIx_nat, List.drop_zero, Nat.sub_zero]
  by_cases h : k ≤ xs.length
  · rw [Nat.min_eq_left h]
  · rw [Nat.min_eq_right (by omega), List.take_length, List.take_of_length_le (by omega)]
/-! all, any, min, sum, tuple, list -/
theorem dps_bl {F : Hp} : ∀ {vs : List V} {bs : List Bool}, DpAll K F vs (bs.map PyData.bool) → vs = bs.map V.bl
  | _, [], .nil => rfl
  | _, _ :: _, .cons a b => by cases a; rw [dps_bl b]; rfl
theorem dps_int {F : Hp} : ∀ {vs : List V} {ns : List Int}, DpAll K F vs (ns.map PyData.int) → vs = ns.map V.int
  | _, [], .nil => rfl
  | _, _ :: _, .cons a b => by cases a; rw [dps_int b]; rfl
theorem dps_str {F : Hp} : ∀ {vs : List V} {ns : List Str}, DpAll K F vs (ns.map PyData.str) → vs = ns.map V.str
  | _, [], .nil => rfl
  | _, _ :: _, .cons a b => by cases a; rw [dps_str b]; rfl
theorem dps_ofInt {F : Hp} : ∀ (ns : List Int), DpAll K F (ns.map V.int) (ns.map PyData.int)
  | [] => .nil
  | _ :: r => .cons (.int _) (dps_ofInt r)
theorem dps_ofStr {F : Hp} : ∀ (ns : List Str), DpAll K F (ns.map V.str) (ns.map PyData.str)
  | [] => .nil
  | _ :: r => .cons (.str _) (dps_ofStr r)
theorem rc_all {bs : List Bool} : RcD K (rAll K) [.list (bs.map .bool)] (.bool (bs.all id)) := fun F xs H s r Q q => by
  cases r with
  | cons a b =>
    cases b
    cases a with
    | lst a1 a2 =>
      rw [dps_bl a2] at a1
      exact ⟨_, bs, rfl, s.seq a1, q _ F H (.start s) (.bl _)⟩
theorem rc_any {bs : List Bool} : RcD K (rAny K) [.list (bs.map .bool)] (.bool (bs.any id)) := fun F xs H s r Q q => by
  cases r with
  | cons a b =>
    cases b
    cases a with
    | lst a1 a2 =>
      rw [dps_bl a2] at a1
      exact ⟨_, bs, rfl, s.seq a1, q _ F H (.start s) (.bl _)⟩
theorem rc_sum {ns : List Int} : RcD K (rSum K) [.list (ns.map .int)] (.int ns.sum) := fun F xs H s r Q q => by
  cases r with
  | cons a b =>
    cases b
    cases a with
    | lst a1 a2 =>
      rw [dps_int a2] at a1
      exact ⟨_, ns, rfl, s.seq a1, q _ F H (.start s) (.int _)⟩
theorem rc_min {ns : List Int} {m : Int} (h0 : ns ≠ []) (hm : ∀ k, k ∈ ns → (∀ y, y ∈ ns → k ≤ y) → k = m) : RcD K (rMin K) [.list (ns.map .int)] (.int m) := fun F xs H s r Q q => by
  cases r with
  | cons a b =>
    cases b
    cases a with
    | lst a1 a2 =>
      rw [dps_int a2] at a1
      refine ⟨_, ns, rfl, s.seq a1, List.length_pos_iff.mpr h0, fun k hk hy => ?_⟩
      rw [hm k hk hy]
      exact q _ F H (.start s) (.int _)
theorem ev_tupleL (h : EvD K te σ F (.list ds)) : EvD K (tThen te (kTup K)) σ F (.tuple ds) := fun H s Q q => h H s _ fun x F1 H1 g1 r1 => by
  cases r1 with
  | lst a b => exact .inl ⟨_, _, rfl, g1.i.seq a, fun t ht => q _ _ _ (g1.trans (.known g1.i ht)) (.tup (.inl (.inl upd_same)) (b.up (same_upd (g1.i.free ht))))⟩
/-! membership -/
theorem rv_inT {b : Bool} (h : ∀ F x xs, Dp K F x d → DpAll K F xs ds → flatV x = true ∧ xs.all flatV = true ∧ inV x xs = b) : RvD K (rIn K false) d (.tuple ds) (.bool b) := fun F x y H s a c Q q => by
  cases c with
  | tup c1 c2 =>
    obtain ⟨h1, h2, h3⟩ := h F x _ a c2
    refine ⟨_, _, rfl, .inr (same_seqT s c1), h1, h2, ?_⟩
    show Q (.bl (inV _ _)) H
    rw [h3]
    exact q _ F H (.start s) (.bl b)
theorem rv_niT {b : Bool} (h : ∀ F x xs, Dp K F x d → DpAll K F xs ds → flatV x = true ∧ xs.all flatV = true ∧ inV x xs = b) : RvD K (rIn K true) d (.tuple ds) (.bool (!b)) := fun F x y H s a c Q q => by
  cases c with
  | tup c1 c2 =>
    obtain ⟨h1, h2, h3⟩ := h F x _ a c2
    refine ⟨_, _, rfl, .inr (same_seqT s c1), h1, h2, ?_⟩
    show Q (.bl (!inV _ _)) H
    rw [h3]
    exact q _ F H (.start s) (.bl _)
theorem rv_inL {b : Bool} (h : ∀ F x xs, Dp K F x d → DpAll K F xs ds → flatV x = true ∧ xs.all flatV = true ∧ inV x xs = b) : RvD K (rIn K false) d (.list ds) (.bool b) := fun F x y H s a c Q q => by
  cases c with
  | lst c1 c2 =>
    obtain ⟨h1, h2, h3⟩ := h F x _ a c2
    refine ⟨_, _, rfl, .inl (s.seq c1), h1, h2, ?_⟩
    show Q (.bl (inV _ _)) H
    rw [h3]
    exact q _ F H (.start s) (.bl b)
theorem inv_str (z : Str) (ws : List Str) : inV (.str z) (ws.map V.str) = decide (z ∈ ws) := by
  unfold inV
  rw [List.any_map, Bool.eq_iff_iff, List.any_eq_true, decide_eq_true_iff]
  constructor
  · rintro ⟨w, hw, e⟩
    have e' : (w == z) = true := e
    rw [← eq_of_beq e']
    exact hw
  · intro h
    exact ⟨z, h, (show (z == z) = true from beq_self_eq_true z)⟩
theorem inv_int (z : Int) (ws : List Int) : inV (.int z) (ws.map V.int) = decide (z ∈ ws) := by
  unfold inV
  rw [List.any_map, Bool.eq_iff_iff, List.any_eq_true, decide_eq_true_iff]
  constructor
  · rintro ⟨w, hw, e⟩
    have e' : (w == z) = true := e
    rw [← eq_of_beq e']
    exact hw
  · intro h
    exact ⟨z, h, (show (z == z) = true from beq_self_eq_true z)⟩
theorem flat_str (ws : List Str) : (ws.map V.str).all flatV = true := by
  rw [List.all_map, List.all_eq_true]
  intro _ _
  rfl
theorem flat_int (ws : List Int) : (ws.map V.int).all flatV = true := by
  rw [List.all_map, List.all_eq_true]
  intro _ _
  rfl
theorem mem_str {z : Str} {ws : List Str} : ∀ F x xs, Dp K F x (.str z) → DpAll K F xs (ws.map .str) → flatV x = true ∧ xs.all flatV = true ∧ inV x xs = decide (z ∈ ws) := fun F x xs a b => by
  cases a
  rw [dps_str b]
  exact ⟨rfl, flat_str ws, inv_str z ws⟩
theorem mem_int {z : Int} {ws : List Int} : ∀ F x xs, Dp K F x (.int z) → DpAll K F xs (ws.map .int) → flatV x = true ∧ xs.all flatV = true ∧ inV x xs = decide (z ∈ ws) := fun F x xs a b => by
  cases a
  rw [dps_int b]
  exact ⟨rfl, flat_int ws, inv_int z ws⟩
abbrev rSign : R2 := fun x y H Q => ∃ (c : Nat) (z : Str), x = .str ⟨#[c]⟩ ∧ y = .str z ∧ Q (.bl (decide (c ∈ z.cps.toList))) H
theorem rv_sign {c : Nat} {z : Str} : RvD K rSign (.str ⟨#[c]⟩) (.str z) (.bool (decide (c ∈ z.cps.toList))) := fun F x y H s a b Q q => by
  cases a
  cases b
  exact ⟨c, z, rfl, rfl, q _ F H (.start s) (.bl _)⟩
theorem made_map (e : PyData → PyData) (ds : List PyData) : made (fun _ => true) e ds = ds.map e := by
  unfold made
  rw [List.filter_eq_self.mpr (fun _ _ => rfl)]
end
/-! int(x), abs(x) -/
section
variable {σ : L2.St} {F : Hp} {te : TE}
abbrev rInt1 : List V → Hp → VK → Prop := fun xs H Q => (∃ i, xs = [V.int i] ∧ Q (.int i) H) ∨ ∃ k, xs = [V.bl k] ∧ Q (.int (if k then 1 else 0)) H
theorem rc_int {i : Int} : RcD K rInt1 [.int i] (.int i) := fun F xs H s r Q q => by
  cases r with
  | cons a b =>
    cases b
    cases a
    exact .inl ⟨i, rfl, q _ F H (.start s) (.int _)⟩
theorem rc_intB {k : Bool} : RcD K rInt1 [.bool k] (.int (if k then 1 else 0)) := fun F xs H s r Q q => by
  cases r with
  | cons a b =>
    cases b
    cases a
    exact .inr ⟨k, rfl, q _ F H (.start s) (.int _)⟩
abbrev rAbs : List V → Hp → VK → Prop := fun xs H Q => ∃ i, xs = [V.int i] ∧ Q (.int (if i < 0 then -i else i)) H
theorem rc_abs {i : Int} : RcD K rAbs [.int i] (.int (if i < 0 then -i else i)) := fun F xs H s r Q q => by
  cases r with
  | cons a b =>
    cases b
    cases a
    exact ⟨i, rfl, q _ F H (.start s) (.int _)⟩
end
end Sw
set_option Elab.async false
set_option linter.all false
set_option maxRecDepth 100000
set_option maxHeartbeats 1000000
/-! W3: defs by name, defs that raise, built-ins that nobody covers. -/
namespace Sw
open PySem PySem.Spec PyProof.Rows L2
open C8 (Cal pe_c pe_gc)

/-- the built-ins' names stand for the built-ins -/
structure BI (mg : Str → Option Value) : Prop where
  len : mg "len" = none
  abs : mg "abs" = none
  all : mg "all" = none
  any : mg "any" = none
  sum : mg "sum" = none
  min : mg "min" = none
  max : mg "max" = none
  sorted : mg "sorted" = none
  divmod : mg "divmod" = none
  isinstance : mg "isinstance" = none
  int_ : mg "int" = none
  list_ : mg "list" = none
  str_ : mg "str" = none
  bool_ : mg "bool" = none
  tuple : mg "tuple" = none
  range : mg "range" = none
  zip : mg "zip" = none
  enumerate : mg "enumerate" = none
  repr : mg "repr" = none
def f1 (g : PyData → Option PyData) : List PyData → Option PyData
  | [a] => g a
  | _ => none
def f2 (g : PyData → PyData → Option PyData) : List PyData → Option PyData
  | [a, b] => g a b
  | _ => none
def f3 (g : PyData → PyData → PyData → Option PyData) : List PyData → Option PyData
  | [a, b, c] => g a b c
  | _ => none
section
variable {K : PySem.W.Frag}
theorem len_f1 {g : PyData → Option PyData} {vs : List V} {H : Hp} {Q : VK} {E : XK} (h : spD K (f1 g) vs H Q E) : vs.length = 1 := by
  obtain ⟨F, ds, d, _, r, e, _⟩ := h
  match ds, e with
  | [_], _ => exact r.len
theorem len_f2 {g : PyData → PyData → Option PyData} {vs : List V} {H : Hp} {Q : VK} {E : XK} (h : spD K (f2 g) vs H Q E) : vs.length = 2 := by
  obtain ⟨F, ds, d, _, r, e, _⟩ := h
  match ds, e with
  | [_, _], _ => exact r.len
theorem len_f3 {g : PyData → PyData → PyData → Option PyData} {vs : List V} {H : Hp} {Q : VK} {E : XK} (h : spD K (f3 g) vs H Q E) : vs.length = 3 := by
  obtain ⟨F, ds, d, _, r, e, _⟩ := h
  match ds, e with
  | [_, _, _], _ => exact r.len
/-- what a body of one, two, three parameters may begin with -/
theorem go1 {g : PyData → Option PyData} {vs : List V} {H : Hp} {Q : VK} {E : XK} {G : Prop} (h : spD K (f1 g) vs H Q E)
    (k : ∀ F a x d, Same F H → Dp K F x a → g a = some d → vs = [x] → (∀ v F' H', Grow F H F' H' → Dp K F' v d → Q v H') → G) : G := by
  obtain ⟨F, ds, d, s, r, e, q⟩ := h
  match ds, e, r with
  | [_], e, .cons ra .nil => exact k F _ _ d s ra e rfl q
theorem go2 {g : PyData → PyData → Option PyData} {vs : List V} {H : Hp} {Q : VK} {E : XK} {G : Prop} (h : spD K (f2 g) vs H Q E)
    (k : ∀ F a b x y d, Same F H → Dp K F x a → Dp K F y b → g a b = some d → vs = [x, y] → (∀ v F' H', Grow F H F' H' → Dp K F' v d → Q v H') → G) : G := by
  obtain ⟨F, ds, d, s, r, e, q⟩ := h
  match ds, e, r with
  | [_, _], e, .cons ra (.cons rb .nil) => exact k F _ _ _ _ d s ra rb e rfl q
theorem go3 {g : PyData → PyData → PyData → Option PyData} {vs : List V} {H : Hp} {Q : VK} {E : XK} {G : Prop} (h : spD K (f3 g) vs H Q E)
    (k : ∀ F a b c x y z d, Same F H → Dp K F x a → Dp K F y b → Dp K F z c → g a b c = some d → vs = [x, y, z] → (∀ v F' H', Grow F H F' H' → Dp K F' v d → Q v H') → G) : G := by
  obtain ⟨F, ds, d, s, r, e, q⟩ := h
  match ds, e, r with
  | [_, _, _], e, .cons ra (.cons rb (.cons rc .nil)) => exact k F _ _ _ _ _ _ d s ra rb rc e rfl q
end
/-- a def that may raise, by its name -/
structure CalX (P : Program) (w : World) (K : PySem.W.Frag) (mg : Str → Option Value) (base : Heap) (k : Nat) (x : Str) (ps : List Str) (sp : Sp) : Prop where
  ex : ∃ (f : Addr) (fd : FuncData), FnOk P w K mg base (L2.CX P w) k f fd ps sp ∧ mg x = some (.ref f) ∧ PySem.W.keepIn K (.ref f) = true ∧ Binds K fd ps [] ∧
    ∀ us : List Value, us.length = ps.length → bindArgs fd ⟨us, []⟩ = pure (ps.zip us)
section
variable {X : Cx} {x : Str} {p pos : Pos} {e : Expr} {es : List Expr} {t : TA} {sp : Sp} {k j : Nat} {E : XK} {ps : List Str}
theorem pe_cx (c : CalX X.prog X.w X.K X.mg X.base k x ps sp) (hr : Room j X.A) (hk : k ≤ j) (hg : Gl X x) (hx : Passes (L2.CX X.prog X.w) X E) (ha : PA X (e :: es) t)
    (hdb : (x == ("__debug__" : Str)) = false := by decide) (he : starEach (e :: es) X.env = (false, eval e X.env) :: starEach es X.env := by rfl) (hpl : (backTo pos (starEach es X.env)).any (·.1) = false := by rfl) :
    PE X (.Call (.Name x p) (e :: es) [] pos) (tCall sp [] E t) := by
  obtain ⟨f, fd, F, hm, kp, b, _⟩ := c.ex
  exact pe_call F (hr.mono hk) hg hm kp b .nil hx ha hdb he hpl
end
end Sw
set_option Elab.async false
set_option linter.all false
set_option maxRecDepth 100000
set_option maxHeartbeats 2000000
namespace Sw
open PySem PySem.Spec PyProof.Rows L2
open C8 (Cal pe_c pe_gc)
def top (i : Nat) : Stmt := PySem.Challenge.pw_samewriting_k82_whole_how_many_trees_of.main.body.getD i (.Pass ⟨0, 0, 0, 0⟩)
section
variable {P : Program} {w : World} {K : PySem.W.Frag} {mg : Str → Option Value} {base : Heap} {f : Addr} {fd : FuncData}
/-! ### is_whole -/
abbrev s_is_whole : Stmt := top 6
theorem sc_is_whole : FnScope ["thing"] ["thing"] (defScope s_is_whole) := ⟨rfl, rfl, rfl, by decide +kernel, rfl, by decide +kernel, by decide +kernel⟩
def isWhole (d : PyData) : Bool := isInt d && !isBool d
theorem isWhole_iff (d : PyData) : isWhole d = true ↔ ∃ i, d = .int i := by
  cases d <;> simp [isWhole, isInt, isBool]
abbrev p_is_whole (K : PySem.W.Frag) : Sp := spD K (f1 fun a => some (.bool (isWhole a)))
theorem ok_is_whole (F : Fun K "is_whole" "is_whole" s_is_whole f fd) (B : BI mg) : FnOk P w K mg base CX0 1 f fd ["thing"] (p_is_whole K) := by
  refine F.ok sc_is_whole (fun vs H Q E h => len_f1 h) (fun cdv A outer s H vs Q E hr h => go1 h fun F0 a x d sm ra e ev q => ?_)
  subst ev
  cases e
  refine ⟨_, (pss_one (ps_ret (pe_and (pe_callB (r := rIsi K) (call_isi) (by rfl) B.isinstance (by decide +kernel) (pa_cons (pv 0) (pa_cons (pe_bltn (v := .ty "int") (by rfl) B.int_ (by decide +kernel) rfl) pa_nil))) (pe_one (pe_not (pe_callB (r := rIsi K) (call_isi) (by rfl) B.isinstance (by decide +kernel) (pa_cons (pv 0) (pa_cons (pe_bltn (v := .ty "bool") (by rfl) B.bool_ (by decide +kernel) rfl) pa_nil)))))))), ?_⟩
  have s0 : Slot K (start ["thing"] [x]) F0 0 a := ⟨x, rfl, ra⟩
  exact (r_ret (ev_and (ev_isi (ev_var s0) (kit_int a)) fun _ => ev_not (ev_isi (ev_var s0) (kit_bool a))) : Ret K _ _ F0 _) H sm _ q
/-! ### is_between -/
abbrev s_is_between : Stmt := top 7
theorem sc_is_between : FnScope ["thing", "low", "high"] ["thing", "low", "high"] (defScope s_is_between) := ⟨rfl, rfl, rfl, by decide +kernel, rfl, by decide +kernel, by decide +kernel⟩
def isBetween (d : PyData) (l h : Int) : Bool := match d with
  | .int i => decide (l ≤ i) && decide (i ≤ h)
  | _ => false
def g_is_between (d l h : PyData) : Option PyData := match l, h with
  | .int l, .int h => some (.bool (isBetween d l h))
  | _, _ => none
abbrev p_is_between (K : PySem.W.Frag) : Sp := spD K (f3 g_is_between)
theorem ok_is_between (F : Fun K "is_between" "is_between" s_is_between f fd) (c_is_whole : Cal P w K mg base 1 "is_whole" (p_is_whole K) []) : FnOk P w K mg base CX0 2 f fd ["thing", "low", "high"] (p_is_between K) := by
  refine F.ok sc_is_between (fun vs H Q E h => len_f3 h) (fun cdv A outer s H vs Q E hr h => go3 h fun F0 a b c x y z d sm ra rb rc e ev q => ?_)
  subst ev
  match b, c, e with
  | .int l, .int u, e =>
    cases e
    refine ⟨_, (pss_one (ps_ret (pe_and (pe_c c_is_whole hr (by first | decide | omega) (by rfl) (pa_cons (pv 0) pa_nil)) (pe_one (pe_chain (op_le) (op_le) (pv 1) (pv 0) (pv 2)))))), ?_⟩
    have s0 : Slot K (start ["thing", "low", "high"] [x, y, z]) F0 0 a := ⟨x, rfl, ra⟩
    have s1 : Slot K (start ["thing", "low", "high"] [x, y, z]) F0 1 (.int l) := ⟨y, rfl, rb⟩
    have s2 : Slot K (start ["thing", "low", "high"] [x, y, z]) F0 2 (.int u) := ⟨z, rfl, rc⟩
    refine (r_ret ?_ : Ret K _ _ F0 _) H sm _ q
    have hw := ev_call (K := K) (f := f1 fun a => some (.bool (isWhole a))) (E := E0) (ea_cons (ev_var s0) ea_nil) rfl
    cases a with
    | int i => exact (ev_and hw fun _ => ev_chain (ev_var s1) (ev_var s0) rv_bl (fun _ => ev_var s2) fun _ => rv_bl).is rfl
    | _ => exact (ev_and (c := false) hw fun z => nomatch z).is rfl
/-! ### is_word -/
abbrev s_is_word : Stmt := top 8
theorem sc_is_word : FnScope ["thing", "word"] ["thing", "word"] (defScope s_is_word) := ⟨rfl, rfl, rfl, by decide +kernel, rfl, by decide +kernel, by decide +kernel⟩
def isWord (d : PyData) (z : Str) : Bool := match d with
  | .str x => decide (x = z)
  | _ => false
def g_is_word (d z : PyData) : Option PyData := match z with
  | .str z => some (.bool (isWord d z))
  | _ => none
abbrev p_is_word (K : PySem.W.Frag) : Sp := spD K (f2 g_is_word)
theorem ok_is_word (F : Fun K "is_word" "is_word" s_is_word f fd) (B : BI mg) : FnOk P w K mg base CX0 1 f fd ["thing", "word"] (p_is_word K) := by
  refine F.ok sc_is_word (fun vs H Q E h => len_f2 h) (fun cdv A outer s H vs Q E hr h => go2 h fun F0 a b x y d sm ra rb e ev q => ?_)
  subst ev
  match b, e with
  | .str l, e =>
    cases e
    refine ⟨_, (pss_one (ps_ret (pe_and (pe_callB (r := rIsi K) (call_isi) (by rfl) B.isinstance (by decide +kernel) (pa_cons (pv 0) (pa_cons (pe_bltn (v := .ty "str") (by rfl) B.str_ (by decide +kernel) rfl) pa_nil))) (pe_one (pe_cmpR (op_eq) (pv 0) (pv 1) (nomark _)))))), ?_⟩
    have s0 : Slot K (start ["thing", "word"] [x, y]) F0 0 a := ⟨x, rfl, ra⟩
    have s1 : Slot K (start ["thing", "word"] [x, y]) F0 1 (.str l) := ⟨y, rfl, rb⟩
    refine (r_ret ?_ : Ret K _ _ F0 _) H sm _ q
    have hw := ev_isi (ev_var s0) (kit_str a)
    cases a with
    | str i => exact (ev_and hw fun _ => ev_op (ev_var s0) (ev_var s1) rv_eqS).is rfl
    | _ => exact (ev_and (c := false) hw fun z => nomatch z).is rfl
/-! ### is_row -/
abbrev s_is_row : Stmt := top 9
theorem sc_is_row : FnScope ["thing", "many"] ["thing", "many"] (defScope s_is_row) := ⟨rfl, rfl, rfl, by decide +kernel, rfl, by decide +kernel, by decide +kernel⟩
def isRow (d : PyData) (n : Int) : Bool := match d with
  | .tuple xs => decide ((xs.length : Int) = n)
  | _ => false
def g_is_row (d z : PyData) : Option PyData := match z with
  | .int z => some (.bool (isRow d z))
  | _ => none
abbrev p_is_row (K : PySem.W.Frag) : Sp := spD K (f2 g_is_row)
theorem ok_is_row (F : Fun K "is_row" "is_row" s_is_row f fd) (B : BI mg) : FnOk P w K mg base CX0 1 f fd ["thing", "many"] (p_is_row K) := by
  refine F.ok sc_is_row (fun vs H Q E h => len_f2 h) (fun cdv A outer s H vs Q E hr h => go2 h fun F0 a b x y d sm ra rb e ev q => ?_)
  subst ev
  match b, e with
  | .int l, e =>
    cases e
    refine ⟨_, (pss_one (ps_ret (pe_and (pe_callB (r := rIsi K) (call_isi) (by rfl) B.isinstance (by decide +kernel) (pa_cons (pv 0) (pa_cons (pe_bltn (v := .ty "tuple") (by rfl) B.tuple (by decide +kernel) rfl) pa_nil))) (pe_one (pe_cmpR (op_eq) (pe_callB (r := rLen0 K) (call_len) (by rfl) B.len (by decide +kernel) (pa_cons (pv 0) pa_nil)) (pv 1) (nomark _)))))), ?_⟩
    have s0 : Slot K (start ["thing", "many"] [x, y]) F0 0 a := ⟨x, rfl, ra⟩
    have s1 : Slot K (start ["thing", "many"] [x, y]) F0 1 (.int l) := ⟨y, rfl, rb⟩
    refine (r_ret ?_ : Ret K _ _ F0 _) H sm _ q
    have hw := ev_isi (ev_var s0) (kit_tup a)
    cases a with
    | tuple xs => exact (ev_and hw fun _ => ev_op (ev1 (ev_var s0) rc_lenT) (ev_var s1) rv_eqI).is rfl
    | _ => exact (ev_and (c := false) hw fun z => nomatch z).is rfl
/-! ### is_rising -/
abbrev s_is_rising : Stmt := top 10
theorem sc_is_rising : FnScope ["items", "before", "after"] ["items"] (defScope s_is_rising) := ⟨rfl, rfl, rfl, by decide +kernel, rfl, by decide +kernel, by decide +kernel⟩
def lt2 : PyData → PyData → Bool
  | .str x, .str y => decide (x.cps.toList < y.cps.toList)
  | .int i, .int j => decide (i < j)
  | _, _ => false
def risesD (xs : List PyData) : Bool := (List.zipWith lt2 xs (xs.drop 1)).all id
def plainItems (xs : List PyData) : Bool := xs.all isStr || xs.all isWhole
def g_is_rising : PyData → Option PyData
  | .list xs => if plainItems xs && decide (xs.length < sizeLine) then some (.bool (risesD xs)) else none
  | .tuple xs => if plainItems xs && decide (xs.length < sizeLine) then some (.bool (risesD xs)) else none
  | _ => none
abbrev p_is_rising (K : PySem.W.Frag) : Sp := spD K (f1 g_is_rising)
def ltPair : PyData → PyData
  | .tuple [a, b] => .bool (lt2 a b)
  | _ => .none
theorem ltPairs : ∀ xs ys : List PyData, (pairs xs ys).map ltPair = (List.zipWith lt2 xs ys).map .bool
  | [], _ => rfl
  | _ :: _, [] => rfl
  | a :: xs, b :: ys => congrArg (PyData.bool (lt2 a b) :: ·) (ltPairs xs ys)
theorem pair_cases {xs : List PyData} (hp : plainItems xs = true) {a b : PyData} (ha : a ∈ xs) (hb : b ∈ xs) : (∃ x y, a = .str x ∧ b = .str y) ∨ ∃ i j, a = .int i ∧ b = .int j := by
  unfold plainItems at hp
  rw [Bool.or_eq_true, List.all_eq_true, List.all_eq_true] at hp
  rcases hp with h | h
  · have h1 := h a ha
    have h2 := h b hb
    cases a <;> simp [isStr] at h1
    cases b <;> simp [isStr] at h2
    exact .inl ⟨_, _, rfl, rfl⟩
  · obtain ⟨i, h1⟩ := (isWhole_iff a).mp (h a ha)
    obtain ⟨j, h2⟩ := (isWhole_iff b).mp (h b hb)
    exact .inr ⟨i, j, h1, h2⟩
theorem mem_pairs {xs ys : List PyData} {d : PyData} (h : d ∈ pairs xs ys) : ∃ a b, a ∈ xs ∧ b ∈ ys ∧ d = .tuple [a, b] := by
  obtain ⟨i, hi, e⟩ := List.mem_iff_getElem.mp h
  have q : (pairs xs ys)[i]? = some d := by rw [List.getElem?_eq_getElem hi, e]
  obtain ⟨a, b, h1, h2, h3⟩ := pairs_get q
  exact ⟨a, b, List.mem_of_getElem? h1, List.mem_of_getElem? h2, h3⟩
theorem ok_is_rising (F : Fun K "is_rising" "is_rising" s_is_rising f fd) (B : BI mg) : FnOk P w K mg base CX0 1 f fd ["items"] (p_is_rising K) := by
  refine F.ok sc_is_rising (fun vs H Q E h => len_f1 h) (fun cdv A outer s H vs Q E hr h => go1 h fun F0 a x d sm ra e ev q => ?_)
  subst ev
  refine ⟨_, (pss_one (ps_ret (pe_callB (r := rAll K) (cr_all rfl) (by rfl) B.all (by decide +kernel) (pa_cons (pe_lc (own := [("before", 1), ("after", 2)]) (g := (gTup K 2 (gCons (gName 1) (gCons (gName 2) gNil)))) rfl sc_is_rising.nd (RZ.pi_zipA (by rfl) B.zip (pa_cons (pv 0) (pa_cons (pe_slice (SlR.or sl_list sl_tupA) (pv 0) (po_some pe_int) po_none) pa_nil))) (blkOk_by (own := [("before", 1), ("after", 2)]) (N := ["items", "before", "after"]) (sc := defScope s_is_rising) (by decide +kernel)) (fun _ _ _ _ _ => (pg_tup rfl (pgs_cons (pg_name (i := 1) sc_is_rising.nd rfl (Or.inl rfl) (hf := (Or.inr rfl))) (pgs_cons (pg_name (i := 2) sc_is_rising.nd rfl (Or.inl rfl) (hf := (Or.inr rfl))) pgs_nil)))) (fun _ _ _ _ _ => pts_nil) (fun _ _ _ _ _ => (pe_cmpR (OpR.or op_lt op_lt_str) (pv 1) (pv 2) (nomark _)))) pa_nil)))), ?_⟩
  have s0 : Slot K (start ["items", "before", "after"] [x]) F0 0 a := ⟨x, rfl, ra⟩
  have turn : ∀ (xs : List PyData) (d : PyData) (F' : Hp), plainItems xs = true → d ∈ pairs xs (xs.drop 1) → Tk K (gTup K 2 (gCons (gName 1) (gCons (gName 2) gNil))) d (wipe (start ["items", "before", "after"] [x]) [1, 2]) F' fun σ2 => wipe σ2 [1, 2] = wipe (start ["items", "before", "after"] [x]) [1, 2] ∧
      EvB tYes σ2 F' true ∧ (true = true → EvD K (tOp (fun x y H Q => rI0 (fun i j => V.bl (decide (i < j))) x y H Q ∨ (fun x y H Q => ∃ i j : Str, x = V.str i ∧ y = V.str j ∧ Q (V.bl (decide (i.cps.toList < j.cps.toList))) H) x y H Q) (tVar 1) (tVar 2)) σ2 F' (ltPair d)) := fun xs d F' hp hd => by
    obtain ⟨a, b, h1, h2, rfl⟩ := mem_pairs hd
    refine tk_two.imp fun σ2 hσ => ?_
    obtain ⟨v, w, rfl, rv, rw'⟩ := hσ
    refine ⟨rfl, eb_yes, fun _ => ?_⟩
    rcases pair_cases hp h1 (List.mem_of_mem_drop h2) with ⟨y, z, rfl, rfl⟩ | ⟨i, j, rfl, rfl⟩
    · exact ev_op (ev_var ⟨v, rfl, rv⟩) (ev_var ⟨w, rfl, rw'⟩) (rv_or2 rv_ltS)
    · exact ev_op (ev_var ⟨v, rfl, rv⟩) (ev_var ⟨w, rfl, rw'⟩) (rv_or1 rv_bl)
  have size : ∀ {xs : List PyData}, xs.length < sizeLine → (pairs xs (xs.drop 1)).length < sizeLine := fun {xs} h => by
    rw [pairs_len]
    exact Nat.lt_of_le_of_lt (Nat.min_le_left _ _) h
  match a, e, s0 with
  | .list xs, e, s0 =>
    have e' : (if plainItems xs && decide (xs.length < sizeLine) then some (PyData.bool (risesD xs)) else none) = some d := e
    split at e'
    · rename_i hp
      rw [Bool.and_eq_true, decide_eq_true_iff] at hp
      cases e'
      refine (r_ret (ev1 ((ev_lc (fun _ => true) ltPair (ew_zipAL (ea_cons (ev_var s0) (ea_cons (ev_sl (ev_var s0) (eo_some ev_int) eo_none (rs_or1 rs_list)) ea_nil))) ?_ fun d F' hd _ => ?_).is ?_) rc_all) : Ret K _ _ F0 _) H sm _ q
      · rw [show (1 : Int) = ((1 : Nat) : Int) from rfl, cut_from]
        exact size hp.2
      · rw [show (1 : Int) = ((1 : Nat) : Int) from rfl, cut_from] at hd
        exact turn xs d F' hp.1 hd
      · rw [show (1 : Int) = ((1 : Nat) : Int) from rfl, cut_from, made_map, ltPairs]
    · cases e'
  | .tuple xs, e, s0 =>
    have e' : (if plainItems xs && decide (xs.length < sizeLine) then some (PyData.bool (risesD xs)) else none) = some d := e
    split at e'
    · rename_i hp
      rw [Bool.and_eq_true, decide_eq_true_iff] at hp
      cases e'
      refine (r_ret (ev1 ((ev_lc (fun _ => true) ltPair (ew_zipAT (ea_cons (ev_var s0) (ea_cons (ev_sl (ev_var s0) (eo_some ev_int) eo_none (rs_or2 rs_tup)) ea_nil))) ?_ fun d F' hd _ => ?_).is ?_) rc_all) : Ret K _ _ F0 _) H sm _ q
      · rw [show (1 : Int) = ((1 : Nat) : Int) from rfl, cut_from]
        exact size hp.2
      · rw [show (1 : Int) = ((1 : Nat) : Int) from rfl, cut_from] at hd
        exact turn xs d F' hp.1 hd
      · rw [show (1 : Int) = ((1 : Nat) : Int) from rfl, cut_from, made_map, ltPairs]
    · cases e'
end
end Sw
set_option Elab.async false
set_option linter.all false
set_option maxRecDepth 100000
set_option maxHeartbeats 2000000
namespace Sw
open PySem PySem.Spec PyProof.Rows L2
open C8 (Cal pe_c pe_gc)
def lettersS : Str := "abcdefghijklmnopqrstuvwxyz"
def keptL : List Str := ["call", "else", "end", "for", "if", "in", "on", "use", "with"]
structure Cst (K : PySem.W.Frag) (mg : Str → Option Value) (C_KEPT : Addr) : Prop where
  c_LETTERS : ∃ u, mg "_LETTERS" = some u ∧ RelV (.str lettersS) u
  c_KEPT : ∃ u, mg "KEPT" = some u ∧ RelV (.ref C_KEPT) u
  d_KEPT : ∀ F, Dp K F (.ref C_KEPT) (.tuple (keptL.map .str))
section
variable {P : Program} {w : World} {K : PySem.W.Frag} {mg : Str → Option Value} {base : Heap} {f : Addr} {fd : FuncData} {aK : Addr}
/-! ### is_rising_below -/
abbrev s_is_rising_below : Stmt := top 11
theorem sc_is_rising_below : FnScope ["thing", "many", "number"] ["thing", "many"] (defScope s_is_rising_below) := ⟨rfl, rfl, rfl, by decide +kernel, rfl, by decide +kernel, by decide +kernel⟩
def isRisingBelow (d : PyData) (n : Int) : Bool := match d with
  | .tuple xs => xs.all (fun x => isBetween x 0 (n - 1)) && risesD xs
  | _ => false
def fitsT (d : PyData) : Bool := match d with
  | .tuple xs => decide (xs.length < sizeLine)
  | .str x => decide (x.length ≤ sizeLine)
  | _ => true
def g_is_rising_below (d z : PyData) : Option PyData := match z with
  | .int n => if fitsT d then some (.bool (isRisingBelow d n)) else none
  | _ => none
abbrev p_is_rising_below (K : PySem.W.Frag) : Sp := spD K (f2 g_is_rising_below)
theorem isBetween_whole {d : PyData} {l h : Int} (e : isBetween d l h = true) : isWhole d = true := by
  cases d <;> first | rfl | exact nomatch e
theorem map_bools (g : PyData → Bool) (xs : List PyData) : xs.map (fun x => PyData.bool (g x)) = (xs.map g).map .bool := by
  rw [List.map_map]
  rfl
theorem all_bools (g : PyData → Bool) (xs : List PyData) : (xs.map g).all id = xs.all g := by
  rw [List.all_map]
  rfl
theorem ok_is_rising_below (F : Fun K "is_rising_below" "is_rising_below" s_is_rising_below f fd) (B : BI mg) (c_is_between : Cal P w K mg base 2 "is_between" (p_is_between K) []) (c_is_rising : Cal P w K mg base 1 "is_rising" (p_is_rising K) []) :
    FnOk P w K mg base CX0 3 f fd ["thing", "many"] (p_is_rising_below K) := by
  refine F.ok sc_is_rising_below (fun vs H Q E h => len_f2 h) (fun cdv A outer s H vs Q E hr h => go2 h fun F0 a b x y d sm ra rb e ev q => ?_)
  subst ev
  match b, e with
  | .int n, e =>
    have e' : (if fitsT a then some (PyData.bool (isRisingBelow a n)) else none) = some d := e
    split at e'
    · rename_i hz
      cases e'
      refine ⟨_, (pss_cons (ps_if (pt_not (pt_val (pe_callB (r := rIsi K) (call_isi) (by rfl) B.isinstance (by decide +kernel) (pa_cons (pv 0) (pa_cons (pe_bltn (v := .ty "tuple") (by rfl) B.tuple (by decide +kernel) rfl) pa_nil))))) (pss_one (ps_ret pe_bl)) pss_nil)
        (pss_one (ps_ret (pe_and (pe_callB (r := rAll K) (cr_all rfl) (by rfl) B.all (by decide +kernel) (pa_cons (pe_lc (own := [("number", 2)]) (g := (gName 2)) rfl sc_is_rising_below.nd (pi_tup (pv 0)) (blkOk_by (own := [("number", 2)]) (N := ["thing", "many", "number"]) (sc := defScope s_is_rising_below) (by decide +kernel)) (fun _ _ _ _ _ => (pg_name (i := 2) sc_is_rising_below.nd rfl (Or.inl rfl) (hf := (Or.inr rfl)))) (fun _ _ _ _ _ => pts_nil) (fun _ _ _ _ _ => (pe_c c_is_between hr (by first | decide | omega) (by rfl) (pa_cons (pv 2) (pa_cons pe_int (pa_cons (pe_op (op_sub) (pv 1) pe_int) pa_nil)))))) pa_nil)) (pe_one (pe_c c_is_rising hr (by first | decide | omega) (by rfl) (pa_cons (pv 0) pa_nil))))))), ?_⟩
      have s0 : Slot K (start ["thing", "many", "number"] [x, y]) F0 0 a := ⟨x, rfl, ra⟩
      have s1 : Slot K (start ["thing", "many", "number"] [x, y]) F0 1 (.int n) := ⟨y, rfl, rb⟩
      refine (?_ : Ret K _ _ F0 _) H sm _ q
      have hw := eb_not (eb_val (ev_isi (ev_var s0) (kit_tup a)))
      cases a with
      | tuple xs =>
        refine r_when hw (fun z => nomatch z) fun _ => r_ret ?_
        have hl := of_decide_eq_true hz
        have q1 := ev_lc (K := K) (te := tCall (p_is_between K) [] C8.E0 (tCons (tVar 2) (tCons (tC (.int 0)) (tCons (tOp (rI0 fun i j => V.int (i - j)) (tVar 1) (tC (.int 1))) tNil)))) (tt := tYes) (g := gName 2) (vs := [2]) (fun _ => true) (fun d => .bool (isBetween d 0 (n - 1))) (ew_tup (ev_var s0)) hl fun d F' hd sF => by
          refine tk_name.imp fun σ2 hσ => ?_
          obtain ⟨v, rfl, rv⟩ := hσ
          exact ⟨rfl, eb_yes, fun _ => ev_call (ea_cons (ev_var ⟨v, rfl, rv⟩) (ea_cons ev_int (ea_cons (ev_op (ev_var ⟨y, rfl, rb.up sF⟩) ev_int rv_int) ea_nil))) rfl⟩
        rw [made_map, map_bools] at q1
        have q2 := ev1 q1 rc_all
        rw [all_bools] at q2
        refine (ev_and q2 fun hall => ev_call (d := .bool (risesD xs)) (ea_cons (ev_var s0) ea_nil) ?_ : EvD K _ _ F0 _)
        show (if plainItems xs && decide (xs.length < sizeLine) then some (PyData.bool (risesD xs)) else none) = _
        rw [if_pos]
        rw [Bool.and_eq_true, decide_eq_true_iff]
        refine ⟨?_, hl⟩
        unfold plainItems
        rw [Bool.or_eq_true]
        refine .inr (List.all_eq_true.mpr fun z hz => isBetween_whole (List.all_eq_true.mp hall z hz))
      | _ => exact r_when hw (fun _ => r_ret ev_bl) fun z => nomatch z
    · cases e'
/-! ### is_name -/
abbrev s_is_name : Stmt := top 15
theorem sc_is_name : FnScope ["thing", "letter"] ["thing"] (defScope s_is_name) := ⟨rfl, rfl, rfl, by decide +kernel, rfl, by decide +kernel, by decide +kernel⟩
def isName (d : PyData) : Bool := match d with
  | .str x => (decide (1 ≤ (x.length : Int)) && decide ((x.length : Int) ≤ 8)) && (x.cps.toList.all (fun c => decide (c ∈ lettersS.cps.toList)) && !decide (x ∈ keptL))
  | _ => false
def g_is_name (d : PyData) : Option PyData := if fitsT d then some (.bool (isName d)) else none
abbrev p_is_name (K : PySem.W.Frag) : Sp := spD K (f1 g_is_name)
theorem ok_is_name (F : Fun K "is_name" "is_name" s_is_name f fd) (B : BI mg) (T : Cst K mg aK) : FnOk P w K mg base CX0 1 f fd ["thing"] (p_is_name K) := by
  refine F.ok sc_is_name (fun vs H Q E h => len_f1 h) (fun cdv A outer s H vs Q E hr h => go1 h fun F0 a x d sm ra e ev q => ?_)
  subst ev
  have e' : (if fitsT a then some (PyData.bool (isName a)) else none) = some d := e
  split at e'
  · rename_i hz
    cases e'
    refine ⟨_, (pss_cons (ps_if (PW.pt (pw_or (pt_not (pt_val (pe_callB (r := rIsi K) (call_isi) (by rfl) B.isinstance (by decide +kernel) (pa_cons (pv 0) (pa_cons (pe_bltn (v := .ty "str") (by rfl) B.str_ (by decide +kernel) rfl) pa_nil))))) (pw_or1 (pt_not (pt_chain (op_le) (op_le) pe_int (pe_callB (r := rLen0 K) (call_len) (by rfl) B.len (by decide +kernel) (pa_cons (pv 0) pa_nil)) pe_int))))) (pss_one (ps_ret pe_bl)) pss_nil)
        (pss_one (ps_ret (pe_and (pe_callB (r := rAll K) (cr_all rfl) (by rfl) B.all (by decide +kernel) (pa_cons (pe_lc (own := [("letter", 1)]) (g := (gName 1)) rfl sc_is_name.nd (pi_str (pv 0)) (blkOk_by (own := [("letter", 1)]) (N := ["thing", "letter"]) (sc := defScope s_is_name) (by decide +kernel)) (fun _ _ _ _ _ => (pg_name (i := 1) sc_is_name.nd rfl (Or.inl rfl) (hf := (Or.inr rfl)))) (fun _ _ _ _ _ => pts_nil) (fun _ _ _ _ _ => (pe_cmpR (op_in_sign) (pv 1) (pe_gc (by rfl) T.c_LETTERS) (by rfl)))) pa_nil)) (pe_one (pe_cmpR (r := rIn K true) (op_notIn_seq) (pv 0) (pe_gc (by rfl) T.c_KEPT) (by rfl))))))), ?_⟩
    have s0 : Slot K (start ["thing", "letter"] [x]) F0 0 a := ⟨x, rfl, ra⟩
    refine (?_ : Ret K _ _ F0 _) H sm _ q
    have hw := eb_not (eb_val (ev_isi (ev_var s0) (kit_str a)))
    cases a with
    | str z =>
      have hl : z.length ≤ sizeLine := of_decide_eq_true hz
      refine r_when (eb_or hw fun _ => eb_not (eb_test (ev_chain ev_int (ev1 (ev_var s0) (rc_lenS hl)) rv_bl (fun _ => ev_int) fun _ => rv_bl))) (fun z' => ?_) fun z' => ?_
      · refine (r_ret ev_bl : Ret K _ _ F0 (.bool false)).is' ?_
        have z2 : (decide (1 ≤ (z.length : Int)) && decide ((z.length : Int) ≤ 8)) = false := by
          have z3 : (!(decide (1 ≤ (z.length : Int)) && decide ((z.length : Int) ≤ 8))) = true := z'
          rw [Bool.not_eq_true'] at z3
          exact z3
        show PyData.bool false = .bool ((decide (1 ≤ (z.length : Int)) && decide ((z.length : Int) ≤ 8)) && _)
        rw [z2, Bool.false_and]
      · have z2 : (decide (1 ≤ (z.length : Int)) && decide ((z.length : Int) ≤ 8)) = true := by
          have z3 : (!(decide (1 ≤ (z.length : Int)) && decide ((z.length : Int) ≤ 8))) = false := z'
          rw [Bool.not_eq_false'] at z3
          exact z3
        have h8 : z.length < sizeLine := small1000 (by
          rw [Bool.and_eq_true, decide_eq_true_iff, decide_eq_true_iff] at z2
          omega)
        have q1 := ev_lc (K := K) (te := tOp rSign (tVar 1) (tC (.str lettersS))) (tt := tYes) (g := gName 1) (vs := [1]) (fun _ => true) (fun d => .bool (match d with | .str y => decide (y.cps.toList.headD 0 ∈ lettersS.cps.toList) | _ => false)) (ew_str (ev_var s0)) (by
          unfold signs
          rw [List.length_map, Array.length_toList]
          exact h8) fun d F' hd sF => by
          unfold signs at hd
          obtain ⟨c, _, rfl⟩ := List.mem_map.mp hd
          refine tk_name.imp fun σ2 hσ => ?_
          obtain ⟨v, rfl, rv⟩ := hσ
          exact ⟨rfl, eb_yes, fun _ => ev_op (ev_var ⟨v, rfl, rv⟩) ev_str rv_sign⟩
        rw [made_map, map_bools] at q1
        have q2 := ev1 q1 rc_all
        have e2 : ((signs z).map fun d => (match d with | .str y => decide (y.cps.toList.headD 0 ∈ lettersS.cps.toList) | _ => false)).all id = z.cps.toList.all (fun c => decide (c ∈ lettersS.cps.toList)) := by
          unfold signs
          rw [List.map_map, List.all_map]
          rfl
        rw [e2] at q2
        refine (r_ret (ev_and q2 fun _ => ev_op (ev_var s0) (ev_cd (T.d_KEPT F0)) (rv_niT mem_str))).is' ?_
        show PyData.bool _ = .bool ((decide (1 ≤ (z.length : Int)) && decide ((z.length : Int) ≤ 8)) && _)
        rw [z2, Bool.true_and]
    | _ => exact r_when (eb_or (c := false) hw fun z => nomatch z) (fun _ => r_ret ev_bl) fun z => nomatch z
  · cases e'
/-! ### _is_kind -/
abbrev s__is_kind : Stmt := top 18
theorem sc__is_kind : FnScope ["thing"] ["thing"] (defScope s__is_kind) := ⟨rfl, rfl, rfl, by decide +kernel, rfl, by decide +kernel, by decide +kernel⟩
def isKind (d : PyData) : Bool := match d with
  | .tuple [n, r] => isName n && isBetween r 0 3
  | _ => false
def fitsP (d : PyData) : Bool := match d with
  | .tuple [n, _] => fitsT n
  | _ => true
def g_is_kind (d : PyData) : Option PyData := if fitsP d then some (.bool (isKind d)) else none
abbrev p__is_kind (K : PySem.W.Frag) : Sp := spD K (f1 g_is_kind)
theorem ok__is_kind (F : Fun K "_is_kind" "_is_kind" s__is_kind f fd) (c_is_row : Cal P w K mg base 1 "is_row" (p_is_row K) []) (c_is_name : Cal P w K mg base 1 "is_name" (p_is_name K) []) (c_is_between : Cal P w K mg base 2 "is_between" (p_is_between K) []) :
    FnOk P w K mg base CX0 3 f fd ["thing"] (p__is_kind K) := by
  refine F.ok sc__is_kind (fun vs H Q E h => len_f1 h) (fun cdv A outer s H vs Q E hr h => go1 h fun F0 a x d sm ra e ev q => ?_)
  subst ev
  have e' : (if fitsP a then some (PyData.bool (isKind a)) else none) = some d := e
  split at e'
  · rename_i hz
    cases e'
    refine ⟨_, (pss_one (ps_ret (pe_and (pe_c c_is_row hr (by first | decide | omega) (by rfl) (pa_cons (pv 0) (pa_cons pe_int pa_nil))) (pe_and (pe_c c_is_name hr (by first | decide | omega) (by rfl) (pa_cons (pe_ix (r := rIxT K) ix_tup (pv 0) pe_int (fun _ _ => rfl)) pa_nil)) (pe_one (pe_c c_is_between hr (by first | decide | omega) (by rfl) (pa_cons (pe_ix (r := rIxT K) ix_tup (pv 0) pe_int (fun _ _ => rfl)) (pa_cons pe_int (pa_cons pe_int pa_nil))))))))), ?_⟩
    have s0 : Slot K (start ["thing"] [x]) F0 0 a := ⟨x, rfl, ra⟩
    refine (r_ret ?_ : Ret K _ _ F0 _) H sm _ q
    have hw : EvD K _ _ F0 _ := ev_call (f := f2 g_is_row) (E := E0) (ea_cons (ev_var s0) (ea_cons (ev_int (i := 2)) ea_nil)) rfl
    by_cases h2 : isRow a 2 = true
    · match a, h2, hz, s0, hw with
      | .tuple [n, r], _, hz, s0, hw =>
        refine (ev_and hw fun _ => ev_and (ev_call (ea_cons (ev_op (ev_var s0) ev_int (rv_ixT (k := 0) rfl)) ea_nil) (?_ : g_is_name n = some (.bool (isName n)))) fun _ => ev_call (ea_cons (ev_op (ev_var s0) ev_int (rv_ixT (k := 1) rfl)) (ea_cons ev_int (ea_cons ev_int ea_nil))) rfl).is rfl
        exact if_pos hz
    · have h3 : isRow a 2 = false := Bool.eq_false_iff.mpr h2
      refine (ev_and (c := false) hw fun z => absurd z h2).is ?_
      rw [h3]
      have h4 : isKind a = false := by
        match a, h3 with
        | .tuple [], _ => rfl
        | .tuple [_], _ => rfl
        | .tuple (_ :: _ :: _ :: _), _ => rfl
        | .none, _ => rfl
        | .bool _, _ => rfl
        | .int _, _ => rfl
        | .str _, _ => rfl
        | .list _, _ => rfl
        | .dict _, _ => rfl
      rw [h4]
      rfl
  · cases e'
/-! ### is_kinds -/
abbrev s_is_kinds : Stmt := top 17
theorem sc_is_kinds : FnScope ["thing", "pair", "name", "_", "rank"] ["thing"] (defScope s_is_kinds) := ⟨rfl, rfl, rfl, by decide +kernel, rfl, by decide +kernel, by decide +kernel⟩
def fstD : PyData → PyData
  | .tuple [a, _] => a
  | _ => .none
def sndD : PyData → PyData
  | .tuple [_, b] => b
  | _ => .none
def isZero : PyData → Bool
  | .int i => decide (i = 0)
  | _ => false
def isKinds (d : PyData) : Bool := match d with
  | .tuple xs => (decide (1 ≤ (xs.length : Int)) && decide ((xs.length : Int) ≤ 6)) && (xs.all isKind && (risesD (xs.map fstD) && (xs.map sndD).any isZero))
  | _ => false
def fitsK (d : PyData) : Bool := match d with
  | .tuple xs => xs.all fitsP
  | _ => true
def g_is_kinds (d : PyData) : Option PyData := if fitsK d then some (.bool (isKinds d)) else none
abbrev p_is_kinds (K : PySem.W.Frag) : Sp := spD K (f1 g_is_kinds)
theorem kind_cases {d : PyData} (h : isKind d = true) : ∃ (n : Str) (r : Int), d = .tuple [.str n, .int r] ∧ isName (.str n) = true ∧ 0 ≤ r ∧ r ≤ 3 := by
  match d, h with
  | .tuple [n, r], h =>
    have h' : (isName n && isBetween r 0 3) = true := h
    rw [Bool.and_eq_true] at h'
    obtain ⟨h1, h2⟩ := h'
    match n, h1, r, h2 with
    | .str n, h1, .int r, h2 =>
      have h2' : (decide ((0 : Int) ≤ r) && decide (r ≤ 3)) = true := h2
      rw [Bool.and_eq_true, decide_eq_true_iff, decide_eq_true_iff] at h2'
      exact ⟨n, r, rfl, h1, h2'.1, h2'.2⟩
theorem least_of : ∀ {ns : List Int}, ns ≠ [] → ∃ m, m ∈ ns ∧ ∀ y, y ∈ ns → m ≤ y
  | [], h => absurd rfl h
  | [a], _ => ⟨a, List.mem_cons_self, fun y hy => by
    rw [List.mem_singleton] at hy
    omega⟩
  | a :: b :: r, _ => by
    obtain ⟨m, h1, h2⟩ := least_of (ns := b :: r) (List.cons_ne_nil _ _)
    by_cases h : a ≤ m
    · refine ⟨a, List.mem_cons_self, fun y hy => ?_⟩
      rcases List.mem_cons.mp hy with e | e
      · omega
      · have := h2 y e
        omega
    · refine ⟨m, List.mem_cons_of_mem _ h1, fun y hy => ?_⟩
      rcases List.mem_cons.mp hy with e | e
      · omega
      · exact h2 y e
def intD : PyData → Int
  | .int i => i
  | _ => 0
theorem ok_is_kinds (F : Fun K "is_kinds" "is_kinds" s_is_kinds f fd) (B : BI mg) (c__is_kind : Cal P w K mg base 3 "_is_kind" (p__is_kind K) []) (c_is_rising : Cal P w K mg base 1 "is_rising" (p_is_rising K) []) :
    FnOk P w K mg base CX0 4 f fd ["thing"] (p_is_kinds K) := by
  refine F.ok sc_is_kinds (fun vs H Q E h => len_f1 h) (fun cdv A outer s H vs Q E hr h => go1 h fun F0 a x d sm ra e ev q => ?_)
  subst ev
  have e' : (if fitsK a then some (PyData.bool (isKinds a)) else none) = some d := e
  split at e'
  · rename_i hz
    cases e'
    refine ⟨_, (pss_cons (ps_if (PW.pt (pw_or (pt_not (pt_val (pe_callB (r := rIsi K) (call_isi) (by rfl) B.isinstance (by decide +kernel) (pa_cons (pv 0) (pa_cons (pe_bltn (v := .ty "tuple") (by rfl) B.tuple (by decide +kernel) rfl) pa_nil))))) (pw_or1 (pt_not (pt_chain (op_le) (op_le) pe_int (pe_callB (r := rLen0 K) (call_len) (by rfl) B.len (by decide +kernel) (pa_cons (pv 0) pa_nil)) pe_int))))) (pss_one (ps_ret pe_bl)) pss_nil)
        (pss_cons (ps_if (pt_not (pt_val (pe_callB (r := rAll K) (cr_all rfl) (by rfl) B.all (by decide +kernel) (pa_cons (pe_lc (own := [("pair", 1)]) (g := (gName 1)) rfl sc_is_kinds.nd (pi_tup (pv 0)) (blkOk_by (own := [("pair", 1)]) (N := ["thing", "pair", "name", "_", "rank"]) (sc := defScope s_is_kinds) (by decide +kernel)) (fun _ _ _ _ _ => (pg_name (i := 1) sc_is_kinds.nd rfl (Or.inl rfl) (hf := (Or.inr rfl)))) (fun _ _ _ _ _ => pts_nil) (fun _ _ _ _ _ => (pe_c c__is_kind hr (by first | decide | omega) (by rfl) (pa_cons (pv 1) pa_nil)))) pa_nil)))) (pss_one (ps_ret pe_bl)) pss_nil)
        (pss_one (ps_ret (pe_and (pe_c c_is_rising hr (by first | decide | omega) (by rfl) (pa_cons (pe_lc (own := [("name", 2), ("_", 3)]) (g := (gTup K 2 (gCons (gName 2) (gCons (gName 3) gNil)))) rfl sc_is_kinds.nd (pi_tup (pv 0)) (blkOk_by (own := [("name", 2), ("_", 3)]) (N := ["thing", "pair", "name", "_", "rank"]) (sc := defScope s_is_kinds) (by decide +kernel)) (fun _ _ _ _ _ => (pg_tup rfl (pgs_cons (pg_name (i := 2) sc_is_kinds.nd rfl (Or.inl rfl) (hf := (Or.inr rfl))) (pgs_cons (pg_name (i := 3) sc_is_kinds.nd rfl (Or.inl rfl) (hf := (Or.inr rfl))) pgs_nil)))) (fun _ _ _ _ _ => pts_nil) (fun _ _ _ _ _ => (pv 2))) pa_nil)) (pe_one (pe_cmpR (op_eq) (pe_callB (r := rMin K) (cr_min rfl) (by rfl) B.min (by decide +kernel) (pa_cons (pe_lc (own := [("_", 3), ("rank", 4)]) (g := (gTup K 2 (gCons (gName 3) (gCons (gName 4) gNil)))) rfl sc_is_kinds.nd (pi_tup (pv 0)) (blkOk_by (own := [("_", 3), ("rank", 4)]) (N := ["thing", "pair", "name", "_", "rank"]) (sc := defScope s_is_kinds) (by decide +kernel)) (fun _ _ _ _ _ => (pg_tup rfl (pgs_cons (pg_name (i := 3) sc_is_kinds.nd rfl (Or.inl rfl) (hf := (Or.inr rfl))) (pgs_cons (pg_name (i := 4) sc_is_kinds.nd rfl (Or.inl rfl) (hf := (Or.inr rfl))) pgs_nil)))) (fun _ _ _ _ _ => pts_nil) (fun _ _ _ _ _ => (pv 4))) pa_nil)) pe_int (nomark _)))))))), ?_⟩
    have s0 : Slot K (start ["thing", "pair", "name", "_", "rank"] [x]) F0 0 a := ⟨x, rfl, ra⟩
    refine (?_ : Ret K _ _ F0 _) H sm _ q
    have hw := eb_not (eb_val (ev_isi (ev_var s0) (kit_tup a)))
    cases a with
    | tuple xs =>
      have hz' : xs.all fitsP = true := hz
      refine r_when (eb_or hw fun _ => eb_not (eb_test (ev_chain ev_int (ev1 (ev_var s0) rc_lenT) rv_bl (fun _ => ev_int) fun _ => rv_bl))) (fun z' => ?_) fun z' => ?_
      · refine (r_ret ev_bl : Ret K _ _ F0 (.bool false)).is' ?_
        have z2 : (decide (1 ≤ (xs.length : Int)) && decide ((xs.length : Int) ≤ 6)) = false := by
          have z3 : (!(decide (1 ≤ (xs.length : Int)) && decide ((xs.length : Int) ≤ 6))) = true := z'
          rw [Bool.not_eq_true'] at z3
          exact z3
        show PyData.bool false = .bool ((decide (1 ≤ (xs.length : Int)) && decide ((xs.length : Int) ≤ 6)) && _)
        rw [z2, Bool.false_and]
      · have z2 : (decide (1 ≤ (xs.length : Int)) && decide ((xs.length : Int) ≤ 6)) = true := by
          have z3 : (!(decide (1 ≤ (xs.length : Int)) && decide ((xs.length : Int) ≤ 6))) = false := z'
          rw [Bool.not_eq_false'] at z3
          exact z3
        have z4 := z2
        rw [Bool.and_eq_true, decide_eq_true_iff, decide_eq_true_iff] at z4
        have hl : xs.length < sizeLine := small1000 (by omega)
        have q1 := ev_lc (K := K) (te := tCall (p__is_kind K) [] C8.E0 (tCons (tVar 1) tNil)) (tt := tYes) (g := gName 1) (vs := [1]) (fun _ => true) (fun d => .bool (isKind d)) (ew_tup (ev_var s0)) hl fun d F' hd sF => by
          refine tk_name.imp fun σ2 hσ => ?_
          obtain ⟨v, rfl, rv⟩ := hσ
          exact ⟨rfl, eb_yes, fun _ => ev_call (ea_cons (ev_var ⟨v, rfl, rv⟩) ea_nil) (if_pos (List.all_eq_true.mp hz' d hd))⟩
        rw [made_map, map_bools] at q1
        have q2 := ev1 q1 rc_all
        rw [all_bools] at q2
        refine r_when (eb_not (eb_val q2)) (fun z5 => ?_) fun z5 => ?_
        · refine (r_ret ev_bl : Ret K _ _ F0 (.bool false)).is' ?_
          rw [Bool.not_eq_true'] at z5
          show PyData.bool false = .bool ((decide (1 ≤ (xs.length : Int)) && decide ((xs.length : Int) ≤ 6)) && (xs.all isKind && _))
          rw [z2, z5, Bool.true_and, Bool.false_and]
        · rw [Bool.not_eq_false'] at z5
          have hk := List.all_eq_true.mp z5
          have qn := ev_lc (K := K) (te := tVar 2) (tt := tYes) (g := gTup K 2 (gCons (gName 2) (gCons (gName 3) gNil))) (vs := [2, 3]) (fun _ => true) fstD (ew_tup (ev_var s0)) hl fun d F' hd sF => by
            obtain ⟨n, r, rfl, _⟩ := kind_cases (hk d hd)
            refine tk_two.imp fun σ2 hσ => ?_
            obtain ⟨v, u, rfl, rv, ru⟩ := hσ
            exact ⟨rfl, eb_yes, fun _ => ev_var ⟨v, rfl, rv⟩⟩
          rw [made_map] at qn
          have qr := ev_lc (K := K) (te := tVar 4) (tt := tYes) (g := gTup K 2 (gCons (gName 3) (gCons (gName 4) gNil))) (vs := [3, 4]) (fun _ => true) sndD (ew_tup (ev_var s0)) hl fun d F' hd sF => by
            obtain ⟨n, r, rfl, _⟩ := kind_cases (hk d hd)
            refine tk_two.imp fun σ2 hσ => ?_
            obtain ⟨v, u, rfl, rv, ru⟩ := hσ
            exact ⟨rfl, eb_yes, fun _ => ev_var ⟨u, rfl, ru⟩⟩
          rw [made_map, show xs.map sndD = (xs.map fun d => intD (sndD d)).map .int by
            rw [List.map_map]
            refine List.map_congr_left fun d hd => ?_
            obtain ⟨n, r, rfl, _⟩ := kind_cases (hk d hd)
            rfl] at qr
          have hne : (xs.map fun d => intD (sndD d)) ≠ [] := fun z => by
            have := congrArg List.length z
            rw [List.length_map] at this
            simp at this
            subst this
            simp at z4
          obtain ⟨m, hm1, hm2⟩ := least_of hne
          have q3 := ev1 qr (rc_min hne fun k h1 h2 => Int.le_antisymm (h2 m hm1) (hm2 k h1))
          refine (r_ret (ev_and (ev_call (d := .bool (risesD (xs.map fstD))) (ea_cons qn ea_nil) ?_) fun _ => ev_op q3 ev_int rv_eqI)).is' ?_
          · show (if plainItems (xs.map fstD) && decide ((xs.map fstD).length < sizeLine) then some (PyData.bool (risesD (xs.map fstD))) else none) = _
            rw [if_pos]
            rw [Bool.and_eq_true, decide_eq_true_iff, List.length_map]
            refine ⟨?_, hl⟩
            unfold plainItems
            rw [Bool.or_eq_true]
            refine .inl (List.all_eq_true.mpr fun z hz => ?_)
            obtain ⟨d, hd, rfl⟩ := List.mem_map.mp hz
            obtain ⟨n, r, rfl, _⟩ := kind_cases (hk d hd)
            rfl
          · show PyData.bool _ = .bool ((decide (1 ≤ (xs.length : Int)) && decide ((xs.length : Int) ≤ 6)) && (xs.all isKind && _))
            rw [z2, z5, Bool.true_and, Bool.true_and]
            refine congrArg (fun b => PyData.bool (risesD (xs.map fstD) && b)) ?_
            rw [Bool.eq_iff_iff, decide_eq_true_iff, List.any_eq_true]
            constructor
            · intro e0
              obtain ⟨d, hd, e1⟩ := List.mem_map.mp hm1
              obtain ⟨n, r, rfl, _⟩ := kind_cases (hk d hd)
              refine ⟨.int r, List.mem_map.mpr ⟨_, hd, rfl⟩, decide_eq_true ?_⟩
              have : r = m := e1
              omega
            · rintro ⟨z, hz1, hz2⟩
              obtain ⟨d, hd, rfl⟩ := List.mem_map.mp hz1
              obtain ⟨n, r, rfl, _, h0, _⟩ := kind_cases (hk d hd)
              have e0 : r = 0 := of_decide_eq_true hz2
              have h1 := hm2 r (List.mem_map.mpr ⟨_, hd, rfl⟩)
              obtain ⟨d2, hd2, e2⟩ := List.mem_map.mp hm1
              obtain ⟨n2, r2, rfl, _, h2, _⟩ := kind_cases (hk d2 hd2)
              have : r2 = m := e2
              omega
    | _ => exact r_when (eb_or (c := false) hw fun z => nomatch z) (fun _ => r_ret ev_bl) fun z => nomatch z
  · cases e'
end
end Sw
set_option Elab.async false
set_option linter.all false
set_option maxRecDepth 100000
set_option maxHeartbeats 1000000
/-! W4: lists of one's own that are changed; defs that raise. -/
namespace Sw
open PySem PySem.Spec PyProof.Rows L2
open C8 (Cal pe_c pe_gc)
section
variable {K : PySem.W.Frag} {σ : L2.St} {F H : Hp} {te ta tb to : TE} {d : PyData} {D : Ends} {v : V} {tz : TS}
/-- a value told at once -/
def Now (te : TE) (σ : L2.St) (H : Hp) (v : V) : Prop := ∀ Q : VK, Q v H → te σ H Q
theorem now_var {i : Nat} (h : σ[i]? = some (some v)) : Now (tVar i) σ H v := fun Q q => ⟨v, h, q⟩
theorem now_c : Now (tC v) σ H v := fun Q q => q
theorem now_ixL {a : Addr} {xs : List V} {k : Nat} (ha : Now ta σ H (.ref a)) (hx : SqL K H a xs) (hb : Now tb σ H (.int (k : Int))) (hk : xs[k]? = some v) : Now (tOp (rIxL K) ta tb) σ H v := fun Q q =>
  ha _ (hb _ ⟨a, xs, (k : Int), v, rfl, rfl, hx, atI_nat hk, q⟩)
/-- l.append(e): e is reckoned on the heap as it stands -/
theorem s_app {l : Addr} {xs : List V} (ho : Now to σ H (.ref l)) (hl : H l = some (.lst xs)) (hn : xs.length < sizeLine) (he : EvD K te σ H d)
    (k : ∀ v F' H', Grow H H F' H' → Dp K F' v d → D.nx σ (upd H' l (.lst (xs ++ [v])))) : tDrop (tBM K "list" rAppend to (tCons te tNil)) D σ H :=
  ho _ ⟨.inl ⟨rfl, xs, .inl (.inl hl)⟩, he H (Same.refl H) _ fun v F' H' g r => ⟨l, xs, v, rfl, rfl, g.h _ _ hl, hn, k v F' H' g r⟩⟩
/-- what was known stands beside a change of one's own -/
theorem same_own {G H' : Hp} {l : Addr} {o : HO} (s : Same G H') (h : G l = none) : Same G (upd H' l o) := fun b x e => by
  rw [upd_ne (ne_of_none e h)]
  exact s b x e
theorem upd_at {H' : Hp} {l b : Addr} {o x : HO} (h : b ≠ l) (e : H' b = some x) : upd H' l o b = some x := by
  rw [upd_ne h]
  exact e
theorem free_grow {F H F' H' : Hp} {l : Addr} {o : HO} (g : Grow F H F' H') (hF : F l = none) (hH : H l = some o) : F' l = none := by
  cases z : F' l with
  | none => rfl
  | some u =>
    have := g.n l u z hF
    rw [hH] at this
    cases this
/-- x = e, e reckoned on the heap as it stands -/
theorem s_set {i : Nat} (he : EvD K te σ F d) (s : Same F H) (k : ∀ v F' H', Grow F H F' H' → Dp K F' v d → D.nx (σ.set i (some v)) H') : tAsg te (gName i) D σ H := he H s _ fun v F' H' g r => k v F' H' g r
theorem s_if {b : Bool} {t : TT} {ts tu : TS} (h : EvB t σ F b) (s : Same F H) (k1 : b = true → ∀ F' H', Grow F H F' H' → ts D σ H') (k2 : b = false → ∀ F' H', Grow F H F' H' → tu D σ H') : tIfS t ts tu D σ H := h H s _ fun F1 H1 g => by
  cases b with
  | true => exact k1 rfl F1 H1 g
  | false => exact k2 rfl F1 H1 g
theorem s_when {b : Bool} {t : TT} {ts tw : TS} (h : EvB t σ F b) (s : Same F H) (k1 : b = true → ∀ F' H', Grow F H F' H' → ts { D with nx := tw D } σ H') (k2 : b = false → ∀ F' H', Grow F H F' H' → tw D σ H') : tSeq (tIfS t ts tNext) tw D σ H := h H s _ fun F1 H1 g => by
  cases b with
  | true => exact k1 rfl F1 H1 g
  | false => exact k2 rfl F1 H1 g
/-- x = a new list: nobody else knows it -/
theorem s_newL {i : Nat} {ta : TA} {ds : List PyData} (he : EvS K ta σ F ds) (s : Same F H) (hl : ds.length ≤ sizeLine) (k : ∀ p vs F' H', Grow F H F' H' → H' p = none → DpAll K F' vs ds → D.nx (σ.set i (some (.ref p))) (upd H' p (.lst vs))) :
    tAsg (tLst ta) (gName i) D σ H := he H s _ fun vs F' H' g r => ⟨by rw [r.len]; exact hl, fun p hp => k p vs F' H' g hp r⟩
theorem s_ret (he : EvD K te σ F d) (s : Same F H) (k : ∀ v F' H', Grow F H F' H' → Dp K F' v d → D.rt v H') : tRet te D σ H := he H s _ k
/-- a block of pure steps, read from the heap as it stands -/
theorem s_retNow (h : Now te σ H v) (k : D.rt v H) : tRet te D σ H := h _ k
end
/-! ### defs that may raise an error without fields -/
/-- the promise of such a def: a value, or an error of the class at C -/
def spX (K : PySem.W.Frag) (g : List PyData → Option (Except Addr PyData)) : Sp := fun vs H Q E => ∃ F ds r, Same F H ∧ DpAll K F vs ds ∧ g ds = some r ∧
  (∀ d, r = .ok d → ∀ v F' H', Grow F H F' H' → Dp K F' v d → Q v H') ∧ ∀ C, r = .error C → ∀ H', Same H H' → E (.ref C) none H'
section
variable {K : PySem.W.Frag} {σ : L2.St} {F : Hp} {d : PyData}
def x1 (g : PyData → Option (Except Addr PyData)) : List PyData → Option (Except Addr PyData)
  | [a] => g a
  | _ => none
def x2 (g : PyData → PyData → Option (Except Addr PyData)) : List PyData → Option (Except Addr PyData)
  | [a, b] => g a b
  | _ => none
theorem len_x1 {g : PyData → Option (Except Addr PyData)} {vs : List V} {H : Hp} {Q : VK} {E : XK} (h : spX K (x1 g) vs H Q E) : vs.length = 1 := by
  obtain ⟨F, ds, r, _, ra, e, _⟩ := h
  match ds, e with
  | [_], _ => exact ra.len
theorem len_x2 {g : PyData → PyData → Option (Except Addr PyData)} {vs : List V} {H : Hp} {Q : VK} {E : XK} (h : spX K (x2 g) vs H Q E) : vs.length = 2 := by
  obtain ⟨F, ds, r, _, ra, e, _⟩ := h
  match ds, e with
  | [_, _], _ => exact ra.len
/-- a call that comes back -/
theorem ev_callX {g : List PyData → Option (Except Addr PyData)} {E : XK} {ta : TA} {ds : List PyData} (h : EvS K ta σ F ds) (e : g ds = some (.ok d)) : EvD K (tCall (spX K g) [] E ta) σ F d := fun H s Q q =>
  h H s _ fun vs F1 H1 g1 r1 => ⟨F1, ds, _, g1.i, by rw [List.append_nil]; exact r1, e, fun d' hd v F2 H2 g2 r2 => by
    cases hd
    exact q v F2 H2 (g1.trans g2) r2, fun C hC => nomatch hC⟩
/-- a call that raises -/
theorem call_raises {g : List PyData → Option (Except Addr PyData)} {E : XK} {ta : TA} {ds : List PyData} {C : Addr} {H : Hp} {Q : VK} (h : EvS K ta σ F ds) (s : Same F H) (e : g ds = some (.error C)) (k : ∀ H', Same H H' → E (.ref C) none H') : tCall (spX K g) [] E ta σ H Q := by
  refine h H s _ fun vs F1 H1 g1 r1 => ⟨F1, ds, _, g1.i, (by rw [List.append_nil]; exact r1), e, (fun d' hd => nomatch hd), fun C' hC H' s' => ?_⟩
  cases hC
  exact k H' (g1.h.trans s')
/-- raise C('..') -/
def tRse (E : XK) (C : Addr) : TS := fun _ σ H => E (.ref C) none H
/-- the class at C can be raised by its name -/
structure Rse (K : PySem.W.Frag) (mg : Str → Option Value) (x : Str) (C : Addr) : Prop where
  e : PySem.W.excIn K C [.type "ValueError", .type "Exception", .type "BaseException", .type "object"] "ValueError.__new__" = true
  g : mg x = some (.ref C)
  k : PySem.W.keepIn K (.ref C) = true
  b : PySem.W.subIn K (.ref C) (.type "BaseException") = some true
  t : PySem.W.typeIn K (.ref C) = some (.type "type")
end
end Sw
set_option Elab.async false
set_option linter.all false
set_option maxRecDepth 100000
set_option maxHeartbeats 2000000
namespace Sw
open PySem PySem.Spec PyProof.Rows L2
open C8 (Cal pe_c pe_gc)
section
variable {P : Program} {w : World} {K : PySem.W.Frag} {mg : Str → Option Value} {base : Heap} {f : Addr} {fd : FuncData} {aK CK CN : Addr}
/-! ### check_kinds -/
abbrev s_check_kinds : Stmt := top 19
theorem sc_check_kinds : FnScope ["kinds"] ["kinds"] (defScope s_check_kinds) := ⟨rfl, rfl, rfl, by decide +kernel, rfl, by decide +kernel, by decide +kernel⟩
def g_check_kinds (CK : Addr) (d : PyData) : Option (Except Addr PyData) := if fitsK d then some (if isKinds d then .ok .none else .error CK) else none
abbrev p_check_kinds (K : PySem.W.Frag) (CK : Addr) : Sp := spX K (x1 (g_check_kinds CK))
theorem ok_check_kinds (F : Fun K "check_kinds" "check_kinds" s_check_kinds f fd) (c_is_kinds : Cal P w K mg base 4 "is_kinds" (p_is_kinds K) []) (X_BadKinds : Rse K mg "BadKinds" CK) : FnOk P w K mg base (L2.CX P w) 5 f fd ["kinds"] (p_check_kinds K CK) := by
  refine F.okX sc_check_kinds (fun vs H Q E h => len_x1 h) (fun cdv A outer s H vs Q E hr h => ?_)
  obtain ⟨F0, ds, r, sm, ra, e, q, qe⟩ := h
  match ds, ra, e with
  | [a], .cons (v := x) ra .nil, e =>
    have e' : (if fitsK a then some (if isKinds a then Except.ok PyData.none else .error CK) else none) = some r := e
    split at e'
    · rename_i hz
      cases e'
      refine ⟨_, (pss_one (ps_if (pt_not (pt_val (pe_c c_is_kinds hr (by first | decide | omega) (by rfl) (pa_cons (pv 0) pa_nil)))) (pss_one (ps_raise rfl (takes_of rfl rfl rfl rfl) (pmk_own PySem.F.excBase_ValueError X_BadKinds.e X_BadKinds.g X_BadKinds.k (raises_own X_BadKinds.b X_BadKinds.t) (by exact rfl)))) pss_nil)), ?_⟩
      have s0 : Slot K (start ["kinds"] [x]) F0 0 a := ⟨x, rfl, ra⟩
      have hw : EvB _ _ F0 _ := eb_not (eb_val (ev_call (K := K) (f := f1 g_is_kinds) (E := E0) (ea_cons (ev_var s0) ea_nil) (if_pos hz)))
      refine hw H sm _ fun F1 H1 g1 => ?_
      by_cases hk : isKinds a = true
      · rw [hk]
        exact q .none (by rw [if_pos hk]) .non F1 H1 g1 .non
      · have hk' : isKinds a = false := Bool.eq_false_iff.mpr hk
        rw [hk']
        exact qe CK (by rw [if_neg hk]) H1 g1.h
    · cases e'
/-! ### count -/
abbrev s_count : Stmt := top 20
theorem sc_count : FnScope ["kinds", "many"] ["kinds", "many"] (defScope s_count) := ⟨rfl, rfl, rfl, by decide +kernel, rfl, by decide +kernel, by decide +kernel⟩
def rankN : PyData → Nat := fun d => (intD (sndD d)).toNat
def ranksOf : PyData → List Nat
  | .tuple xs => xs.map rankN
  | _ => []
/-- a sum over 0 .. m -/
def sumTo (m : Nat) (h : Nat → Nat) : Nat := ((List.range (m + 1)).map h).sum
/-- rows of r trees with m nodes together, f n trees of n nodes -/
def wy (f : Nat → Nat) : Nat → Nat → Nat
  | 0, m => if m = 0 then 1 else 0
  | 1, m => f m
  | r + 2, m => sumTo m fun k => f k * wy f (r + 1) (m - k)
def cts (rs : List Nat) : Nat → List Nat
  | 0 => [0]
  | n + 1 => cts rs n ++ [(rs.map fun r => wy (fun k => (cts rs n).getD k 0) r n).sum]
def cnt (rs : List Nat) (n : Nat) : Nat := (cts rs n).getD n 0
theorem sumTo_congr {m : Nat} {g h : Nat → Nat} (e : ∀ k, k ≤ m → g k = h k) : sumTo m g = sumTo m h := by
  unfold sumTo
  exact congrArg List.sum (List.map_congr_left fun k hk => e k (by have := List.mem_range.mp hk; omega))
theorem wy_congr {f g : Nat → Nat} : ∀ (r m : Nat), (∀ k, k ≤ m → f k = g k) → wy f r m = wy g r m
  | 0, _, _ => rfl
  | 1, m, e => e m (Nat.le_refl _)
  | r + 2, m, e => sumTo_congr fun k hk => by
    rw [e k hk, wy_congr (r + 1) (m - k) fun j hj => e j (by omega)]
theorem cts_len (rs : List Nat) : ∀ n, (cts rs n).length = n + 1
  | 0 => rfl
  | n + 1 => by
    show (cts rs n ++ [_]).length = n + 2
    rw [List.length_append, cts_len rs n]
    rfl
theorem cts_get (rs : List Nat) : ∀ (n k : Nat), k ≤ n → (cts rs n).getD k 0 = cnt rs k
  | 0, k, h => by
    have e : k = 0 := by omega
    subst e
    rfl
  | n + 1, k, h => by
    by_cases e : k = n + 1
    · subst e
      rfl
    · have h2 : k ≤ n := by omega
      rw [← cts_get rs n k h2]
      show (cts rs n ++ [_]).getD k 0 = _
      rw [List.getD_eq_getElem?_getD, List.getD_eq_getElem?_getD, List.getElem?_append_left (by rw [cts_len]; omega)]
theorem cnt_zero (rs : List Nat) : cnt rs 0 = 0 := rfl
theorem cnt_succ (rs : List Nat) (n : Nat) : cnt rs (n + 1) = (rs.map fun r => wy (cnt rs) r n).sum := by
  have e : cnt rs (n + 1) = (rs.map fun r => wy (fun k => (cts rs n).getD k 0) r n).sum := by
    show (cts rs n ++ [_]).getD (n + 1) 0 = _
    rw [List.getD_eq_getElem?_getD, List.getElem?_append_right (by rw [cts_len]; omega), cts_len, Nat.sub_self]
    rfl
  rw [e]
  exact congrArg List.sum (List.map_congr_left fun r _ => wy_congr r n fun k hk => cts_get rs n k hk)
theorem sumTo_mem {m : Nat} {h : Nat → Nat} {b : Nat} (e : ∀ k, k ≤ m → h k ≤ b) : sumTo m h ≤ (m + 1) * b := by
  unfold sumTo
  have z : ∀ l : List Nat, (∀ k ∈ l, h k ≤ b) → (l.map h).sum ≤ l.length * b := by
    intro l
    induction l with
    | nil => intro _; exact Nat.zero_le _
    | cons a r ih =>
      intro hl
      rw [List.map_cons, List.sum_cons, List.length_cons, Nat.succ_mul]
      have h1 := hl a List.mem_cons_self
      have h2 := ih fun k hk => hl k (List.mem_cons_of_mem _ hk)
      omega
  have := z (List.range (m + 1)) fun k hk => e k (by have := List.mem_range.mp hk; omega)
  rw [List.length_range] at this
  exact this
theorem wy_bound {f : Nat → Nat} {B m : Nat} (hf : ∀ k, k ≤ m → 16 * f k ≤ B ^ k) : ∀ (r j : Nat), j ≤ m → 16 ^ (r + 1) * wy f (r + 1) j ≤ (m + 1) ^ r * B ^ j
  | 0, j, hj => by
    have := hf j hj
    show 16 ^ 1 * f j ≤ (m + 1) ^ 0 * B ^ j
    rw [Nat.pow_one, Nat.pow_zero, Nat.one_mul]
    exact this
  | r + 1, j, hj => by
    have z : ∀ k, k ≤ j → 16 ^ (r + 2) * (f k * wy f (r + 1) (j - k)) ≤ (m + 1) ^ r * B ^ j := fun k hk => by
      have h1 := hf k (by omega)
      have h2 := wy_bound hf r (j - k) (by omega)
      have e1 : 16 ^ (r + 2) * (f k * wy f (r + 1) (j - k)) = (16 * f k) * (16 ^ (r + 1) * wy f (r + 1) (j - k)) := by
        rw [Nat.pow_succ 16 (r + 1), Nat.mul_comm (16 ^ (r + 1)) 16, Nat.mul_assoc, Nat.mul_assoc, Nat.mul_left_comm (16 ^ (r + 1)) (f k)]
      have e2 : B ^ k * ((m + 1) ^ r * B ^ (j - k)) = (m + 1) ^ r * B ^ j := by
        rw [Nat.mul_left_comm, ← Nat.pow_add, Nat.add_sub_cancel' hk]
      rw [e1, ← e2]
      exact Nat.mul_le_mul h1 h2
    have e3 : 16 ^ (r + 2) * wy f (r + 2) j = sumTo j fun k => 16 ^ (r + 2) * (f k * wy f (r + 1) (j - k)) := by
      show 16 ^ (r + 2) * sumTo j (fun k => f k * wy f (r + 1) (j - k)) = _
      unfold sumTo
      generalize List.range (j + 1) = l
      induction l with
      | nil => rfl
      | cons a t ih => rw [List.map_cons, List.sum_cons, Nat.mul_add, ih, List.map_cons, List.sum_cons]
    rw [show r + 1 + 1 = r + 2 from rfl, e3]
    refine Nat.le_trans (sumTo_mem z) ?_
    rw [Nat.pow_succ, Nat.mul_comm ((m + 1) ^ r) (m + 1), Nat.mul_assoc]
    exact Nat.mul_le_mul_right _ (by omega)
theorem cnt_bound {rs : List Nat} {B N : Nat} (h6 : rs.length ≤ 6) (hB : 96 ≤ B) (h3 : ∀ r ∈ rs, r ≤ 3 ∧ (r = 2 → 6 * N ≤ 16 * B) ∧ (r = 3 → 6 * (N * N) ≤ 256 * B)) : ∀ n, n ≤ N → ∀ k, k ≤ n → 16 * cnt rs k ≤ B ^ k
  | 0, _, k, hk => by
    have e : k = 0 := by omega
    subst e
    rw [cnt_zero]
    omega
  | m + 1, hm, k, hk => by
    have ih := cnt_bound h6 hB h3 m (by omega)
    by_cases e : k = m + 1
    · subst e
      rw [cnt_succ]
      have hP : 0 < B ^ m := Nat.pow_pos (by omega)
      have one : ∀ r ∈ rs, 96 * wy (cnt rs) r m ≤ B ^ (m + 1) := fun r hr => by
        obtain ⟨a1, a2, a3⟩ := h3 r hr
        have hw := wy_bound (f := cnt rs) (B := B) (m := m) ih
        rw [Nat.pow_succ]
        match r, a1, a2, a3 with
        | 0, _, _, _ =>
          show 96 * (if m = 0 then 1 else 0) ≤ B ^ m * B
          have : B ≤ B ^ m * B := Nat.le_mul_of_pos_left _ hP
          split <;> omega
        | 1, _, _, _ =>
          have q := hw 0 m (Nat.le_refl _)
          rw [Nat.pow_zero, Nat.one_mul] at q
          have q2 : 16 * wy (cnt rs) 1 m ≤ B ^ m := q
          have : B ^ m * 96 ≤ B ^ m * B := Nat.mul_le_mul_left _ hB
          omega
        | 2, _, a2, _ =>
          have q : 16 ^ 2 * wy (cnt rs) 2 m ≤ (m + 1) ^ 1 * B ^ m := hw 1 m (Nat.le_refl _)
          rw [Nat.pow_one] at q
          have q1 : 6 * ((m + 1) * B ^ m) ≤ 16 * (B ^ m * B) := by
            have z : 6 * (m + 1) ≤ 16 * B := Nat.le_trans (Nat.mul_le_mul_left 6 hm) (a2 rfl)
            have := Nat.mul_le_mul_right (B ^ m) z
            rw [Nat.mul_assoc, Nat.mul_assoc, Nat.mul_comm B] at this
            exact this
          have q2 : 256 * wy (cnt rs) 2 m ≤ (m + 1) * B ^ m := q
          omega
        | 3, _, _, a3 =>
          have q : 16 ^ 3 * wy (cnt rs) 3 m ≤ (m + 1) ^ 2 * B ^ m := hw 2 m (Nat.le_refl _)
          have q1 : 6 * ((m + 1) ^ 2 * B ^ m) ≤ 256 * (B ^ m * B) := by
            have z : 6 * (m + 1) ^ 2 ≤ 256 * B := Nat.le_trans (Nat.mul_le_mul_left 6 (by rw [Nat.pow_two]; exact Nat.mul_le_mul hm hm)) (a3 rfl)
            have := Nat.mul_le_mul_right (B ^ m) z
            rw [Nat.mul_assoc, Nat.mul_assoc, Nat.mul_comm B] at this
            exact this
          have q2 : 4096 * wy (cnt rs) 3 m ≤ (m + 1) ^ 2 * B ^ m := q
          omega
      have all_ : ∀ l : List Nat, (∀ r ∈ l, 96 * wy (cnt rs) r m ≤ B ^ (m + 1)) → 96 * (l.map fun r => wy (cnt rs) r m).sum ≤ l.length * B ^ (m + 1) := by
        intro l
        induction l with
        | nil => intro _; exact Nat.zero_le _
        | cons a t ih2 =>
          intro hl
          have e9 : (t.length + 1) * B ^ (m + 1) = t.length * B ^ (m + 1) + B ^ (m + 1) := Nat.succ_mul _ _
          rw [List.map_cons, List.sum_cons, List.length_cons, e9, Nat.mul_add]
          have h1 := hl a List.mem_cons_self
          have h2 := ih2 fun r hr => hl r (List.mem_cons_of_mem _ hr)
          omega
      have z := all_ rs one
      have z2 : rs.length * B ^ (m + 1) ≤ 6 * B ^ (m + 1) := Nat.mul_le_mul_right _ h6
      omega
    · exact ih k (by omega)
end
end Sw
set_option Elab.async false
set_option linter.all false
set_option maxRecDepth 100000
set_option maxHeartbeats 2000000
set_option exponentiation.threshold 3000
namespace Sw
open PySem PySem.Spec PyProof.Rows L2
open C8 (Cal pe_c pe_gc)
section
variable {P : Program} {w : World} {K : PySem.W.Frag} {mg : Str → Option Value} {base : Heap} {f : Addr} {fd : FuncData} {aK CK CN : Addr}
/-! ### counts_to -/
abbrev s_counts_to : Stmt := top 21
theorem sc_counts_to : FnScope ["kinds", "many", "ranks", "counts", "ways", "nodes", "rank", "row", "_", "k"] ["kinds", "many"] (defScope s_counts_to) := ⟨rfl, rfl, rfl, by decide +kernel, rfl, by decide +kernel, by decide +kernel⟩
/-- h 0, h 1, .. as ints -/
def lv (h : Nat → Nat) (n : Nat) : List V := (List.range n).map fun k => .int (h k : Int)
def ld (h : Nat → Nat) (n : Nat) : List PyData := (List.range n).map fun k => .int (h k : Int)
theorem lv_len (h : Nat → Nat) (n : Nat) : (lv h n).length = n := by
  unfold lv
  rw [List.length_map, List.length_range]
theorem ld_len (h : Nat → Nat) (n : Nat) : (ld h n).length = n := by
  unfold ld
  rw [List.length_map, List.length_range]
theorem lv_succ (h : Nat → Nat) (n : Nat) : lv h (n + 1) = lv h n ++ [.int (h n : Int)] := by
  unfold lv
  rw [List.range_succ, List.map_append]
  rfl
theorem ld_get {h : Nat → Nat} {n k : Nat} (hk : k < n) : (ld h n)[k]? = some (.int (h k : Int)) := by
  unfold ld
  rw [List.getElem?_map, List.getElem?_range hk]
  rfl
theorem lv_get {h : Nat → Nat} {n k : Nat} (hk : k < n) : (lv h n)[k]? = some (.int (h k : Int)) := by
  unfold lv
  rw [List.getElem?_map, List.getElem?_range hk]
  rfl
theorem lv_rel (F : Hp) (h : Nat → Nat) (n : Nat) : DpAll K F (lv h n) (ld h n) := by
  unfold lv ld
  induction List.range n with
  | nil => exact .nil
  | cons a r ih => exact .cons (.int _) ih
theorem dp_of {F : Hp} {a : Addr} {h : Nat → Nat} {n : Nat} (e : F a = some (.lst (lv h n))) : Dp K F (.ref a) (.list (ld h n)) := .lst (.inl (.inl e)) (lv_rel F h n)
/-- six lists, none of them another -/
structure Six (ac aw w0 w1 w2 w3 : Addr) : Prop where
  a : ac ≠ aw ∧ ac ≠ w0 ∧ ac ≠ w1 ∧ ac ≠ w2 ∧ ac ≠ w3
  b : aw ≠ w0 ∧ aw ≠ w1 ∧ aw ≠ w2 ∧ aw ≠ w3
  c : w0 ≠ w1 ∧ w0 ≠ w2 ∧ w0 ≠ w3
  d : w1 ≠ w2 ∧ w1 ≠ w3 ∧ w2 ≠ w3
structure CW (rs : List Nat) (H : Hp) (ac aw w0 w1 w2 w3 : Addr) (n j0 j1 j2 j3 : Nat) : Prop where
  c : H ac = some (.lst (lv (cnt rs) n))
  w : H aw = some (.lst [.ref w0, .ref w1, .ref w2, .ref w3])
  r0 : H w0 = some (.lst (lv (wy (cnt rs) 0) j0))
  r1 : H w1 = some (.lst (lv (wy (cnt rs) 1) j1))
  r2 : H w2 = some (.lst (lv (wy (cnt rs) 2) j2))
  r3 : H w3 = some (.lst (lv (wy (cnt rs) 3) j3))
section
variable {rs : List Nat} {H H' : Hp} {ac aw w0 w1 w2 w3 : Addr} {n j0 j1 j2 j3 : Nat}
theorem CW.same (h : CW rs H ac aw w0 w1 w2 w3 n j0 j1 j2 j3) (s : Same H H') : CW rs H' ac aw w0 w1 w2 w3 n j0 j1 j2 j3 := ⟨s _ _ h.c, s _ _ h.w, s _ _ h.r0, s _ _ h.r1, s _ _ h.r2, s _ _ h.r3⟩
theorem CW.putc (h : CW rs H ac aw w0 w1 w2 w3 n j0 j1 j2 j3) (S : Six ac aw w0 w1 w2 w3) : CW rs (upd H ac (.lst (lv (cnt rs) (n + 1)))) ac aw w0 w1 w2 w3 (n + 1) j0 j1 j2 j3 :=
  ⟨upd_same, upd_at S.a.1.symm h.w, upd_at S.a.2.1.symm h.r0, upd_at S.a.2.2.1.symm h.r1, upd_at S.a.2.2.2.1.symm h.r2, upd_at S.a.2.2.2.2.symm h.r3⟩
theorem CW.put0 (h : CW rs H ac aw w0 w1 w2 w3 n j0 j1 j2 j3) (S : Six ac aw w0 w1 w2 w3) : CW rs (upd H w0 (.lst (lv (wy (cnt rs) 0) (j0 + 1)))) ac aw w0 w1 w2 w3 n (j0 + 1) j1 j2 j3 :=
  ⟨upd_at S.a.2.1 h.c, upd_at S.b.1 h.w, upd_same, upd_at S.c.1.symm h.r1, upd_at S.c.2.1.symm h.r2, upd_at S.c.2.2.symm h.r3⟩
theorem CW.put1 (h : CW rs H ac aw w0 w1 w2 w3 n j0 j1 j2 j3) (S : Six ac aw w0 w1 w2 w3) : CW rs (upd H w1 (.lst (lv (wy (cnt rs) 1) (j1 + 1)))) ac aw w0 w1 w2 w3 n j0 (j1 + 1) j2 j3 :=
  ⟨upd_at S.a.2.2.1 h.c, upd_at S.b.2.1 h.w, upd_at S.c.1 h.r0, upd_same, upd_at S.d.1.symm h.r2, upd_at S.d.2.1.symm h.r3⟩
theorem CW.put2 (h : CW rs H ac aw w0 w1 w2 w3 n j0 j1 j2 j3) (S : Six ac aw w0 w1 w2 w3) : CW rs (upd H w2 (.lst (lv (wy (cnt rs) 2) (j2 + 1)))) ac aw w0 w1 w2 w3 n j0 j1 (j2 + 1) j3 :=
  ⟨upd_at S.a.2.2.2.1 h.c, upd_at S.b.2.2.1 h.w, upd_at S.c.2.1 h.r0, upd_at S.d.1 h.r1, upd_same, upd_at S.d.2.2.symm h.r3⟩
theorem CW.put3 (h : CW rs H ac aw w0 w1 w2 w3 n j0 j1 j2 j3) (S : Six ac aw w0 w1 w2 w3) : CW rs (upd H w3 (.lst (lv (wy (cnt rs) 3) (j3 + 1)))) ac aw w0 w1 w2 w3 n j0 j1 j2 (j3 + 1) :=
  ⟨upd_at S.a.2.2.2.2 h.c, upd_at S.b.2.2.2 h.w, upd_at S.c.2.2 h.r0, upd_at S.d.2.1 h.r1, upd_at S.d.2.2 h.r2, upd_same⟩
def wd (rs : List Nat) (j0 j1 j2 j3 : Nat) : List PyData := [.list (ld (wy (cnt rs) 0) j0), .list (ld (wy (cnt rs) 1) j1), .list (ld (wy (cnt rs) 2) j2), .list (ld (wy (cnt rs) 3) j3)]
theorem CW.ways {K : PySem.W.Frag} (h : CW rs H ac aw w0 w1 w2 w3 n j0 j1 j2 j3) : Dp K H (.ref aw) (.list (wd rs j0 j1 j2 j3)) :=
  .lst (.inl (.inl h.w)) (.cons (dp_of h.r0) (.cons (dp_of h.r1) (.cons (dp_of h.r2) (.cons (dp_of h.r3) .nil))))
/-- the six are nobody else's -/
structure Mine (F : Hp) (ac aw w0 w1 w2 w3 : Addr) : Prop where
  c : F ac = none
  w : F aw = none
  r0 : F w0 = none
  r1 : F w1 = none
  r2 : F w2 = none
  r3 : F w3 = none
theorem Mine.grow {F G : Hp} (m : Mine F ac aw w0 w1 w2 w3) (h : CW rs H ac aw w0 w1 w2 w3 n j0 j1 j2 j3) (g : Grow F H G H') : Mine G ac aw w0 w1 w2 w3 :=
  ⟨free_grow g m.c h.c, free_grow g m.w h.w, free_grow g m.r0 h.r0, free_grow g m.r1 h.r1, free_grow g m.r2 h.r2, free_grow g m.r3 h.r3⟩
end
theorem sum_cast : ∀ l : List Nat, (l.map fun (n : Nat) => (n : Int)).sum = ((l.sum : Nat) : Int)
  | [] => rfl
  | a :: r => by rw [List.map_cons, List.sum_cons, List.sum_cons, sum_cast r, Int.natCast_add]
theorem sum_map_cast {α : Type} (g : α → Nat) (l : List α) : (l.map fun x => (g x : Int)).sum = (((l.map g).sum : Nat) : Int) := by
  rw [← sum_cast, List.map_map]
  rfl
/-- the middle of a sum whose ends are nought -/
theorem sumTo_mid {m : Nat} {h : Nat → Nat} (h0 : h 0 = 0) (hm : h m = 0) : sumTo m h = ((List.range (m - 1)).map fun i => h (i + 1)).sum := by
  unfold sumTo
  match m, hm with
  | 0, _ =>
    show [h 0].sum = 0
    rw [h0]
    rfl
  | m + 1, hm =>
    rw [List.range_succ, List.map_append, List.sum_append, List.range_succ_eq_map, List.map_cons, List.sum_cons, h0, List.map_map]
    show 0 + _ + (h (m + 1) + 0) = _
    rw [hm, Nat.zero_add, Nat.add_zero, Nat.add_zero]
    rfl
def goodRs (rs : List Nat) (N : Nat) : Prop := rs.length ≤ 6 ∧ ∀ r ∈ rs, r ≤ 3
theorem cnt_bits {rs : List Nat} (h : rs.length ≤ 6) (h3 : ∀ r ∈ rs, r ≤ 3) {k : Nat} (hk : k ≤ 200) : cnt rs k < 2 ^ 2010 := by
  have q := cnt_bound (B := 1024) (N := 200) h (by decide) (fun r hr => ⟨h3 r hr, fun _ => by decide, fun _ => by decide⟩) 200 (Nat.le_refl _) k hk
  have q2 : 1024 ^ k ≤ 1024 ^ 200 := Nat.pow_le_pow_right (by decide) hk
  have q3 : 1024 ^ 200 = 2 ^ 2000 := by
    rw [show 1024 = 2 ^ 10 from rfl, ← Nat.pow_mul]
  have q4 : (2 : Nat) ^ 2000 < 2 ^ 2010 := Nat.pow_lt_pow_right (by decide) (by decide)
  omega
theorem wy_bits {rs : List Nat} (h : rs.length ≤ 6) (h3 : ∀ r ∈ rs, r ≤ 3) {k : Nat} (hk : k ≤ 200) (r : Nat) (hr : r ≤ 3) : wy (cnt rs) r k < 2 ^ 2050 := by
  have q := fun j (hj : j ≤ 200) => cnt_bound (B := 1024) (N := 200) h (by decide) (fun r hr => ⟨h3 r hr, fun _ => by decide, fun _ => by decide⟩) 200 (Nat.le_refl _) j hj
  have q2 : 1024 ^ k ≤ 1024 ^ 200 := Nat.pow_le_pow_right (by decide) hk
  have q3 : 1024 ^ 200 = 2 ^ 2000 := by
    rw [show 1024 = 2 ^ 10 from rfl, ← Nat.pow_mul]
  have q4 : (2 : Nat) ^ 2000 < 2 ^ 2010 := Nat.pow_lt_pow_right (by decide) (by decide)
  have q5 : (2 : Nat) ^ 2050 = 2 ^ 2000 * 2 ^ 50 := by rw [← Nat.pow_add]
  have hb := wy_bound (f := cnt rs) (B := 1024) (m := 200) q
  match r, hr with
  | 0, _ =>
    show (if k = 0 then 1 else 0) < 2 ^ 2050
    have : (1 : Nat) < 2 ^ 2050 := Nat.one_lt_two_pow (by decide)
    split <;> omega
  | 1, _ =>
    have z : 16 ^ 1 * wy (cnt rs) 1 k ≤ 201 ^ 0 * 1024 ^ k := hb 0 k hk
    rw [Nat.pow_zero, Nat.one_mul, Nat.pow_one] at z
    omega
  | 2, _ =>
    have z : 16 ^ 2 * wy (cnt rs) 2 k ≤ 201 ^ 1 * 1024 ^ k := hb 1 k hk
    rw [Nat.pow_one] at z
    omega
  | 3, _ =>
    have z : 16 ^ 3 * wy (cnt rs) 3 k ≤ 201 ^ 2 * 1024 ^ k := hb 2 k hk
    omega
theorem mul_bits {a b : Nat} (ha : a < 2 ^ 2010) (hb : b < 2 ^ 2050) : CMulW (a : Int) (b : Int) := wide_mul (a := 2010) (b := 2050) (by rw [Int.natAbs_natCast]; exact ha) (by rw [Int.natAbs_natCast]; exact hb) (by decide) (by decide) (by decide)
theorem wd_get {rs : List Nat} {j0 j1 j2 j3 r j : Nat} (hr : r ≤ 3) (hj : (r = 0 → j = j0) ∧ (r = 1 → j = j1) ∧ (r = 2 → j = j2) ∧ (r = 3 → j = j3)) : (wd rs j0 j1 j2 j3)[r]? = some (.list (ld (wy (cnt rs) r) j)) := by
  obtain ⟨a, b, c, d⟩ := hj
  match r, hr with
  | 0, _ => rw [a rfl]; rfl
  | 1, _ => rw [b rfl]; rfl
  | 2, _ => rw [c rfl]; rfl
  | 3, _ => rw [d rfl]; rfl
abbrev rSub : R2 := rI0 fun i j => V.int (i - j)
theorem now_sub {σ : L2.St} {H : Hp} {ta tb : TE} {i j k : Int} (ha : Now ta σ H (.int i)) (hb : Now tb σ H (.int j)) (e : i - j = k) : Now (tOp rSub ta tb) σ H (.int k) := fun Q q => ha _ (hb _ ⟨i, j, rfl, rfl, by
  show Q (.int (i - j)) H
  rw [e]
  exact q⟩)
theorem wy_zero {rs : List Nat} : ∀ r, wy (cnt rs) (r + 1) 0 = 0
  | 0 => rfl
  | r + 1 => by
    show sumTo 0 (fun k => cnt rs k * wy (cnt rs) (r + 1) (0 - k)) = 0
    show cnt rs 0 * _ + 0 = 0
    rw [cnt_zero, Nat.zero_mul]
theorem sum1 {H : Hp} {rs : List Nat} {ac aw w0 w1 w2 w3 : Addr} {i : Nat} {y0 y1 y3 y6 y7 y8 y9 : Option V} {vr : V} (C : CW rs H ac aw w0 w1 w2 w3 (i + 1) (i + 1) (i + 1) (i + 1) (i + 1)) (h2 : Dp K H vr (.list (rs.map fun (r : Nat) => .int (r : Int))))
    (hl : rs.length ≤ 6) (h3 : ∀ r ∈ rs, r ≤ 3) :
    EvD K (tCB (rSum K) (tCons (tLc (iList K (tVar 2)) (gName 6) tYes (tOp (rIxL K) (tOp (rIxL K) (tVar 4) (tVar 6)) (tOp rSub (tVar 5) (tC (.int 1)))) [6]) tNil)) [y0, y1, some vr, y3, some (.ref aw), some (.int (1 + (i : Int))), y6, y7, y8, y9] H (.int ((cnt rs (i + 1) : Nat) : Int)) := by
  have q := ev_lc (K := K) (te := tOp (rIxL K) (tOp (rIxL K) (tVar 4) (tVar 6)) (tOp rSub (tVar 5) (tC (.int 1)))) (tt := tYes) (g := gName 6) (vs := [6]) (fun _ => true) (fun d => .int ((wy (cnt rs) (intD d).toNat i : Nat) : Int)) (ew_list (ev_var ⟨vr, rfl, h2⟩ : EvD K (tVar 2) [y0, y1, some vr, y3, some (.ref aw), some (.int (1 + (i : Int))), y6, y7, y8, y9] H _)) (small1000 (by rw [List.length_map]; omega)) fun d F' hd sF => by
    obtain ⟨r, hr, rfl⟩ := List.mem_map.mp hd
    refine tk_name.imp fun σ2 hσ => ?_
    obtain ⟨v, rfl, rv⟩ := hσ
    refine ⟨rfl, eb_yes, fun _ => ?_⟩
    have q1 := ev_op (ev_var (F := F') (σ := [y0, y1, some vr, y3, some (.ref aw), some (.int (1 + (i : Int))), some v, y7, y8, y9]) (i := 4) ⟨_, rfl, (C.ways (K := K)).up sF⟩) (ev_var (i := 6) ⟨v, rfl, rv⟩) (rv_ixL (wd_get (j := i + 1) (h3 r hr) ⟨fun _ => rfl, fun _ => rfl, fun _ => rfl, fun _ => rfl⟩))
    refine ev_op q1 ((ev_op (ev_var (i := 5) ⟨_, rfl, .int (1 + (i : Int))⟩) ev_int rv_int).is (d1 := .int (i : Int)) (congrArg PyData.int (by omega))) (rv_ixL ?_)
    rw [ld_get (Nat.lt_succ_self i)]
    rfl
  refine ((ev1 (q.is ?_) (rc_sum (ns := rs.map fun r => ((wy (cnt rs) r i : Nat) : Int)))).is ?_)
  · rw [made_map, List.map_map, List.map_map]
    rfl
  · rw [sum_map_cast, cnt_succ]
theorem sum2 {H : Hp} {rs : List Nat} {i m r : Nat} {y0 y1 y2 y4 y6 y8 y9 : Option V} {vc vw : V} (hc : Dp K H vc (.list (ld (cnt rs) (i + 2)))) (hw : Dp K H vw (.list (ld (wy (cnt rs) (r + 1)) m))) (hm : i + 1 ≤ m)
    (hl : rs.length ≤ 6) (h3 : ∀ r ∈ rs, r ≤ 3) (hr : r + 1 ≤ 3) (hi : i + 1 ≤ 200) :
    EvD K (tCB (rSum K) (tCons (tLc (iRng2 (tCons (tC (.int 1)) (tCons (tVar 5) tNil))) (gName 9) tYes (tOp (rI CMulW fun i j => .int (i * j)) (tOp (rIxL K) (tVar 3) (tVar 9)) (tOp (rIxL K) (tVar 7) (tOp rSub (tVar 5) (tVar 9)))) [9]) tNil)) [y0, y1, y2, some vc, y4, some (.int (1 + (i : Int))), y6, some vw, y8, y9] H (.int ((wy (cnt rs) (r + 2) (i + 1) : Nat) : Int)) := by
  have q := ev_lc (K := K) (te := tOp (rI CMulW fun i j => .int (i * j)) (tOp (rIxL K) (tVar 3) (tVar 9)) (tOp (rIxL K) (tVar 7) (tOp rSub (tVar 5) (tVar 9)))) (tt := tYes) (g := gName 9) (vs := [9]) (fun _ => true) (fun d => .int ((cnt rs (intD d).toNat * wy (cnt rs) (r + 1) (i + 1 - (intD d).toNat) : Nat) : Int))
    (ew_rng2 (m := 1) (n := 1 + (i : Int)) (F := H) (σ := [y0, y1, y2, some vc, y4, some (.int (1 + (i : Int))), y6, some vw, y8, y9]) (ea_cons ev_int (ea_cons (ev_var (i := 5) ⟨_, rfl, .int (1 + (i : Int))⟩) ea_nil)) (by decide) (by omega)) (small1000 (by rw [rgs_len]; omega)) fun d F' hd sF => by
    obtain ⟨k, hk⟩ := List.getElem?_of_mem hd
    obtain ⟨hk, rfl⟩ := rgs_get hk
    have hk' : k < i := by omega
    refine tk_name.imp fun σ2 hσ => ?_
    obtain ⟨v, rfl, rv⟩ := hσ
    refine ⟨rfl, eb_yes, fun _ => ?_⟩
    have e1 : (1 + (k : Int)).toNat = k + 1 := by omega
    have q9 := (ev_var (F := F') (σ := [y0, y1, y2, some vc, y4, some (.int (1 + (i : Int))), y6, some vw, y8, some v]) (i := 9) ⟨v, rfl, rv⟩)
    have q1 := ev_op (ev_var (F := F') (σ := [y0, y1, y2, some vc, y4, some (.int (1 + (i : Int))), y6, some vw, y8, some v]) (i := 3) ⟨_, rfl, hc.up sF⟩) (q9.is (d1 := .int ((k + 1 : Nat) : Int)) (congrArg PyData.int (by omega))) (rv_ixL (ld_get (show k + 1 < i + 2 by omega)))
    have q2 := ev_op (ev_var (F := F') (σ := [y0, y1, y2, some vc, y4, some (.int (1 + (i : Int))), y6, some vw, y8, some v]) (i := 7) ⟨_, rfl, hw.up sF⟩) ((ev_op (r := rSub) (ev_var (i := 5) ⟨_, rfl, .int (1 + (i : Int))⟩) q9 rv_int).is (d1 := .int ((i - k : Nat) : Int)) (congrArg PyData.int (by omega))) (rv_ixL (ld_get (show i - k < m by omega)))
    refine (ev_op q1 q2 (rv_intC (mul_bits (cnt_bits hl h3 (by omega)) (wy_bits hl h3 (by omega) _ hr)))).is (congrArg PyData.int ?_)
    show _ = ((cnt rs (1 + (k : Int)).toNat * wy (cnt rs) (r + 1) (i + 1 - (1 + (k : Int)).toNat) : Nat) : Int)
    rw [e1, Int.natCast_mul, Nat.add_sub_add_right]
  have e0 : (1 + (i : Int) - 1).toNat = i := by omega
  rw [e0] at q
  refine ((ev1 (q.is ?_) (rc_sum (ns := (List.range i).map fun k => ((cnt rs (k + 1) * wy (cnt rs) (r + 1) (i + 1 - (k + 1)) : Nat) : Int)))).is ?_)
  · rw [made_map]
    unfold rgs
    rw [List.map_map, List.map_map]
    refine congrArg PyData.list (List.map_congr_left fun k _ => ?_)
    have e1 : (1 + (k : Int)).toNat = k + 1 := by omega
    show PyData.int ((cnt rs (1 + (k : Int)).toNat * wy (cnt rs) (r + 1) (i + 1 - (1 + (k : Int)).toNat) : Nat) : Int) = _
    rw [e1]
    rfl
  · rw [sum_map_cast]
    refine congrArg (fun n : Nat => PyData.int (n : Int)) ?_
    have z := sumTo_mid (m := i + 1) (h := fun k => cnt rs k * wy (cnt rs) (r + 1) (i + 1 - k)) (by show cnt rs 0 * _ = 0; rw [cnt_zero, Nat.zero_mul]) (by
      show _ * wy (cnt rs) (r + 1) (i + 1 - (i + 1)) = 0
      rw [Nat.sub_self, wy_zero, Nat.mul_zero])
    exact z.symm
def g_counts_to (d n : PyData) : Option PyData := match n with
  | .int n => if isKinds d && (decide (0 ≤ n) && decide (n ≤ 200)) then some (.list (ld (cnt (ranksOf d)) (n.toNat + 1))) else none
  | _ => none
abbrev p_counts_to (K : PySem.W.Frag) : Sp := spD K (f2 g_counts_to)
theorem kinds_ranks {xs : List PyData} (h : isKinds (.tuple xs) = true) : xs.length ≤ 6 ∧ ∀ d ∈ xs, ∃ n r, d = .tuple [.str n, .int r] ∧ 0 ≤ r ∧ r ≤ 3 := by
  have h' : ((decide (1 ≤ (xs.length : Int)) && decide ((xs.length : Int) ≤ 6)) && (xs.all isKind && (risesD (xs.map fstD) && (xs.map sndD).any isZero))) = true := h
  rw [Bool.and_eq_true, Bool.and_eq_true, Bool.and_eq_true, decide_eq_true_iff, decide_eq_true_iff] at h'
  obtain ⟨⟨_, h2⟩, h3, _⟩ := h'
  refine ⟨by omega, fun d hd => ?_⟩
  obtain ⟨n, r, e, _, h4, h5⟩ := kind_cases (List.all_eq_true.mp h3 d hd)
  exact ⟨n, r, e, h4, h5⟩
theorem ok_counts_to (F : Fun K "counts_to" "counts_to" s_counts_to f fd) (B : BI mg) : FnOk P w K mg base CX0 1 f fd ["kinds", "many"] (p_counts_to K) := by
  refine F.ok sc_counts_to (fun vs H Q E h => len_f2 h) (fun cdv A outer s H vs Q E hr h => go2 h fun F0 a b x y d sm ra rb e ev q => ?_)
  subst ev
  match b, e with
  | .int n, e =>
    have e' : (if isKinds a && (decide (0 ≤ n) && decide (n ≤ 200)) then some (PyData.list (ld (cnt (ranksOf a)) (n.toNat + 1))) else none) = some d := e
    split at e'
    case isFalse => cases e'
    rename_i hc
    cases e'
    rw [Bool.and_eq_true, Bool.and_eq_true, decide_eq_true_iff, decide_eq_true_iff] at hc
    obtain ⟨hk, hn0, hn2⟩ := hc
    cases a with
    | tuple xs =>
      obtain ⟨h6, hx⟩ := kinds_ranks hk
      obtain ⟨rs, hrs⟩ : ∃ rs, rs = xs.map rankN := ⟨_, rfl⟩
      have hrs6 : rs.length ≤ 6 := by rw [hrs, List.length_map]; exact h6
      have hrs3 : ∀ r ∈ rs, r ≤ 3 := fun r hr => by
        rw [hrs] at hr
        obtain ⟨d, hd, rfl⟩ := List.mem_map.mp hr
        obtain ⟨n, r, rfl, h0, h1⟩ := hx d hd
        show r.toNat ≤ 3
        omega
      refine ⟨_, (pss_cons (ps_setLc (i := 2) (own := [("_", 8), ("rank", 6)]) (g := (gTup K 2 (gCons (gName 8) (gCons (gName 6) gNil)))) rfl sc_counts_to.nd rfl rfl (sw_true rfl rfl rfl (by decide +kernel)) (pi_tup (pv 0)) (blkOk_by (own := [("_", 8), ("rank", 6)]) (N := ["kinds", "many", "ranks", "counts", "ways", "nodes", "rank", "row", "_", "k"]) (sc := defScope s_counts_to) (by decide +kernel)) (fun _ _ _ _ _ => (pg_tup rfl (pgs_cons (pg_name (i := 8) sc_counts_to.nd rfl (Or.inl rfl) (hf := (Or.inr rfl))) (pgs_cons (pg_name (i := 6) sc_counts_to.nd rfl (Or.inl rfl) (hf := (Or.inr rfl))) pgs_nil)))) (fun _ _ _ _ _ => pts_nil) (fun _ _ _ _ _ => (pv 6)))
        (pss_cons (ps_set (i := 3) sc_counts_to.nd rfl (Or.inr rfl) (pe_lst (pa_cons pe_int pa_nil)))
        (pss_cons (ps_set (i := 4) sc_counts_to.nd rfl (Or.inr rfl) (pe_lst (pa_cons (pe_lst (pa_cons pe_int pa_nil)) (pa_cons (pe_lst (pa_cons pe_int pa_nil)) (pa_cons (pe_lst (pa_cons pe_int pa_nil)) (pa_cons (pe_lst (pa_cons pe_int pa_nil)) pa_nil))))))
        (pss_cons (ps_for PassesOwn.never rfl (pi_range2 (by rfl) B.range (pa_cons pe_int (pa_cons (pe_op (op_add) (pv 1) pe_int) pa_nil))) (pg_name (i := 5) sc_counts_to.nd rfl (Or.inr rfl) (hf := (Or.inl rfl))) (pss_cons (ps_expr (pe_bm PySem.F.plainAttrs_list PySem.F.slot_list_append PySem.F.type_list_append mt_append (pv 3) (pa_cons (pe_callB (r := rSum K) (cr_sum rfl) (by rfl) B.sum (by decide +kernel) (pa_cons (pe_lc (own := [("rank", 6)]) (g := (gName 6)) rfl sc_counts_to.nd (pi_list (pv 2)) (blkOk_by (own := [("rank", 6)]) (N := ["kinds", "many", "ranks", "counts", "ways", "nodes", "rank", "row", "_", "k"]) (sc := defScope s_counts_to) (by decide +kernel)) (fun _ _ _ _ _ => (pg_name (i := 6) sc_counts_to.nd rfl (Or.inl rfl) (hf := (Or.inr rfl)))) (fun _ _ _ _ _ => pts_nil) (fun _ _ _ _ _ => (pe_ix (r := rIxL K) ix_list (pe_ix (r := rIxL K) ix_list (pv 4) (pv 6) (fun _ _ => rfl)) (pe_op (op_sub) (pv 5) pe_int) (fun _ _ => rfl)))) pa_nil)) pa_nil)))
        (pss_cons (ps_expr (pe_bm PySem.F.plainAttrs_list PySem.F.slot_list_append PySem.F.type_list_append mt_append (pe_ix (r := rIxL K) ix_list (pv 4) pe_int (fun _ _ => rfl)) (pa_cons pe_int pa_nil)))
        (pss_cons (ps_expr (pe_bm PySem.F.plainAttrs_list PySem.F.slot_list_append PySem.F.type_list_append mt_append (pe_ix (r := rIxL K) ix_list (pv 4) pe_int (fun _ _ => rfl)) (pa_cons (pe_ix (r := rIxL K) ix_list (pv 3) (pv 5) (fun _ _ => rfl)) pa_nil)))
        (pss_one (ps_for PassesOwn.never rfl (pi_tup (pe_tup (pa_cons pe_int (pa_cons pe_int pa_nil)))) (pg_name (i := 6) sc_counts_to.nd rfl (Or.inl rfl) (hf := (Or.inr rfl))) (pss_cons (ps_set (i := 7) sc_counts_to.nd rfl (Or.inr rfl) (pe_ix (r := rIxL K) ix_list (pv 4) (pe_op (op_sub) (pv 6) pe_int) (fun _ _ => rfl)))
        (pss_one (ps_expr (pe_bm PySem.F.plainAttrs_list PySem.F.slot_list_append PySem.F.type_list_append mt_append (pe_ix (r := rIxL K) ix_list (pv 4) (pv 6) (fun _ _ => rfl)) (pa_cons (pe_callB (r := rSum K) (cr_sum rfl) (by rfl) B.sum (by decide +kernel) (pa_cons (pe_lc (own := [("k", 9)]) (g := (gName 9)) rfl sc_counts_to.nd (pi_range2 (by rfl) B.range (pa_cons pe_int (pa_cons (pv 5) pa_nil))) (blkOk_by (own := [("k", 9)]) (N := ["kinds", "many", "ranks", "counts", "ways", "nodes", "rank", "row", "_", "k"]) (sc := defScope s_counts_to) (by decide +kernel)) (fun _ _ _ _ _ => (pg_name (i := 9) sc_counts_to.nd rfl (Or.inl rfl) (hf := (Or.inr rfl)))) (fun _ _ _ _ _ => pts_nil) (fun _ _ _ _ _ => (pe_op (op_mulW) (pe_ix (r := rIxL K) ix_list (pv 3) (pv 9) (fun _ _ => rfl)) (pe_ix (r := rIxL K) ix_list (pv 7) (pe_op (op_sub) (pv 5) (pv 9)) (fun _ _ => rfl))))) pa_nil)) pa_nil)))))))))))
        (pss_one (ps_ret (pv 3))))))), ?_⟩
      have s0 : Slot K (start ["kinds", "many", "ranks", "counts", "ways", "nodes", "rank", "row", "_", "k"] [x, y]) F0 0 (.tuple xs) := ⟨x, rfl, ra⟩
      -- ranks
      have qr := ev_lc (K := K) (te := tVar 6) (tt := tYes) (g := gTup K 2 (gCons (gName 8) (gCons (gName 6) gNil))) (vs := [8, 6]) (fun _ => true) sndD (ew_tup (ev_var s0)) (small1000 (by omega)) fun d F' hd sF => by
        obtain ⟨n, r, rfl, _⟩ := hx d hd
        refine tk_two.imp fun σ2 hσ => ?_
        obtain ⟨v, u, rfl, rv, ru⟩ := hσ
        exact ⟨rfl, eb_yes, fun _ => ev_var ⟨u, rfl, ru⟩⟩
      rw [made_map, show xs.map sndD = rs.map fun (r : Nat) => PyData.int (r : Int) by
        rw [hrs, List.map_map]
        refine List.map_congr_left fun d hd => ?_
        obtain ⟨n, r, rfl, h0, _⟩ := hx d hd
        show PyData.int r = PyData.int ((r.toNat : Nat) : Int)
        rw [Int.toNat_of_nonneg h0]] at qr
      refine s_set qr sm fun vr F1 H1 g1 rr => ?_
      refine ⟨(by show 1 ≤ sizeLine; decide), fun ac hac => ?_⟩
      refine ⟨(by show 1 ≤ sizeLine; decide), fun w0 hw0 => ⟨(by show 1 ≤ sizeLine; decide), fun w1 hw1 => ⟨(by show 1 ≤ sizeLine; decide), fun w2 hw2 => ⟨(by show 1 ≤ sizeLine; decide), fun w3 hw3 => ⟨(by show 4 ≤ sizeLine; decide), fun aw haw => ?_⟩⟩⟩⟩⟩
      have ne : ∀ {H : Hp} {a b : Addr} {o : HO}, upd H a o b = none → a ≠ b := fun {H a b o} h z => by
        rw [z, upd_same] at h
        cases h
      have fr : ∀ {H : Hp} {a b : Addr} {o : HO}, upd H a o b = none → H b = none := fun {H a b o} h => by
        rw [upd_ne (ne h).symm] at h
        exact h
      have S6 : Six ac aw w0 w1 w2 w3 := ⟨⟨ne (fr (fr (fr (fr haw)))), ne hw0, ne (fr hw1), ne (fr (fr hw2)), ne (fr (fr (fr hw3)))⟩, ⟨(ne (fr (fr (fr haw)))).symm, (ne (fr (fr haw))).symm, (ne (fr haw)).symm, (ne haw).symm⟩, ⟨ne hw1, ne (fr hw2), ne (fr (fr hw3))⟩, ⟨ne hw2, ne (fr hw3), ne hw3⟩⟩
      have M1 : Mine H1 ac aw w0 w1 w2 w3 := ⟨hac, fr (fr (fr (fr (fr haw)))), fr hw0, fr (fr hw1), fr (fr (fr hw2)), fr (fr (fr (fr hw3)))⟩
      generalize eH5 : upd (upd (upd (upd (upd (upd H1 ac (.lst [.int 0])) w0 (.lst [.int 1])) w1 (.lst [.int 0])) w2 (.lst [.int 0])) w3 (.lst [.int 0])) aw (.lst [.ref w0, .ref w1, .ref w2, .ref w3]) = H5
      have C5 : CW rs H5 ac aw w0 w1 w2 w3 1 1 1 1 1 := by
        rw [← eH5]
        exact ⟨upd_at S6.a.1 (upd_at S6.a.2.2.2.2 (upd_at S6.a.2.2.2.1 (upd_at S6.a.2.2.1 (upd_at S6.a.2.1 upd_same)))), upd_same, upd_at S6.b.1.symm (upd_at S6.c.2.2 (upd_at S6.c.2.1 (upd_at S6.c.1 upd_same))),
          upd_at S6.b.2.1.symm (upd_at S6.d.2.1 (upd_at S6.d.1 upd_same)), upd_at S6.b.2.2.1.symm (upd_at S6.d.2.2 upd_same), upd_at S6.b.2.2.2.symm upd_same⟩
      have s15 : Same H1 H5 := by
        rw [← eH5]
        exact same_own (same_own (same_own (same_own (same_own (same_own (Same.refl H1) M1.c) M1.r0) M1.r1) M1.r2) M1.r3) M1.w
      have mineF : Mine F1 ac aw w0 w1 w2 w3 := ⟨g1.i.free M1.c, g1.i.free M1.w, g1.i.free M1.r0, g1.i.free M1.r1, g1.i.free M1.r2, g1.i.free M1.r3⟩
      have s1b : Slot K (start ["kinds", "many", "ranks", "counts", "ways", "nodes", "rank", "row", "_", "k"] [x, y]) F0 1 (.int n) := ⟨y, rfl, rb⟩
      obtain ⟨v1, hv1, rv1⟩ := s1b
      have ey : y = .int n := by
        cases rb
        rfl
      subst ey
      have sF1 : Same F1 H5 := g1.i.trans s15
      -- the loop over sizes
      refine s_for (K := K) (F := F1) (ds := rgs 1 (n + 1 - 1).toNat) sF1 (ew_rng2 (ea_cons ev_int (ea_cons (ev_op (ev_var ⟨.int n, rfl, .int n⟩) ev_int rv_int) ea_nil)) (by decide) (by omega)) fun F2 H6 g6 =>
        ⟨fun i σ' F' H' => F' = F2 ∧ Same F2 H' ∧ Same H1 H' ∧ (∃ y5 y6 y7, σ' = [some x, some (.int n), some vr, some (.ref ac), some (.ref aw), y5, y6, y7, none, none]) ∧ CW rs H' ac aw w0 w1 w2 w3 (i + 1) (i + 1) (i + 1) (i + 1) (i + 1),
          ⟨rfl, g6.i, s15.trans g6.h, ⟨none, none, none, rfl⟩, C5.same g6.h⟩, fun i σ' F' H' h => ⟨by rw [h.1]; exact Same.refl _, by rw [h.1]; exact h.2.1⟩, fun i d σ' F' H' hd hI F3 H3 v g3 rv => ?_, fun σ' F' H' hI => ?_⟩
      · obtain ⟨rfl, sF, s1, ⟨y5, y6, y7, rfl⟩, C⟩ := hI
        obtain ⟨hi, rfl⟩ := rgs_get hd
        have hi2 : i + 1 ≤ 200 := by omega
        have gF := g3.f.trans g3.i
        cases rv
        have C3 := C.same g3.h
        have s13 := s1.trans g3.h
        refine s_app (now_var rfl) C3.c (by rw [lv_len]; exact small1000 (by omega)) (sum1 C3 (rr.up (g6.f.trans (sF.trans g3.h))) hrs6 hrs3) fun v F4 H4 g4 rv4 => ?_
        cases rv4
        have C4 := (C3.same g4.h).putc S6
        rw [← lv_succ]
        have M4 := (mineF.grow C5 g6)
        -- ways[0].append(0)
        have w0n : Now (tOp (rIxL K) (tVar 4) (tC (.int 0))) [some x, some (.int n), some vr, some (.ref ac), some (.ref aw), some (.int (1 + (i : Int))), y6, y7, none, none] (upd H4 ac (.lst (lv (cnt rs) (i + 1 + 1)))) (.ref w0) := now_ixL (k := 0) (now_var rfl) (.inl (.inl C4.w)) now_c rfl
        refine s_app w0n C4.r0 (by rw [lv_len]; exact small1000 (by omega)) ev_int fun v F5 H5 g5 rv5 => ?_
        cases rv5
        have C5 := (C4.same g5.h).put0 S6
        rw [show lv (wy (cnt rs) 0) (i + 1) ++ [V.int 0] = lv (wy (cnt rs) 0) (i + 1 + 1) from (lv_succ _ _).symm]
        -- ways[1].append(counts[nodes])
        generalize eHa : upd H5 w0 (.lst (lv (wy (cnt rs) 0) (i + 1 + 1))) = Ha at C5
        have w1n : Now (tOp (rIxL K) (tVar 4) (tC (.int 1))) [some x, some (.int n), some vr, some (.ref ac), some (.ref aw), some (.int (1 + (i : Int))), y6, y7, none, none] Ha (.ref w1) := now_ixL (k := 1) (now_var rfl) (.inl (.inl C5.w)) now_c rfl
        refine s_app (d := .int ((cnt rs (i + 1) : Nat) : Int)) w1n C5.r1 (by rw [lv_len]; exact small1000 (by omega)) (ev_op (ev_var (i := 3) ⟨_, rfl, dp_of C5.c⟩) ((ev_var (i := 5) ⟨_, rfl, .int (1 + (i : Int))⟩).is (d1 := .int ((i + 1 : Nat) : Int)) (congrArg PyData.int (by omega))) (rv_ixL (ld_get (Nat.lt_succ_self (i + 1))))) fun v Fb Hb gb rvb => ?_
        cases rvb
        have Cb := (C5.same gb.h).put1 S6
        rw [show lv (wy (cnt rs) 1) (i + 1) ++ [V.int ((cnt rs (i + 1) : Nat) : Int)] = lv (wy (cnt rs) 1) (i + 1 + 1) from (lv_succ _ _).symm]
        generalize eHc : upd Hb w1 (.lst (lv (wy (cnt rs) 1) (i + 1 + 1))) = Hc at Cb
        have sFc : Same F' Hc := by
          rw [← eHc]
          refine same_own (Same.trans ?_ gb.h) M4.r1
          rw [← eHa]
          exact same_own (Same.trans (same_own ((sF.trans g3.h).trans g4.h) M4.c) g5.h) M4.r0
        have s1c : Same H1 Hc := by
          rw [← eHc]
          refine same_own (Same.trans ?_ gb.h) M1.r1
          rw [← eHa]
          exact same_own (Same.trans (same_own (s13.trans g4.h) M1.c) g5.h) M1.r0
        -- for rank in (2, 3)
        refine s_for (K := K) (F := F') (ds := [.int 2, .int 3]) sFc (ew_tup (ev_tup (ea_cons ev_int (ea_cons ev_int ea_nil)) (by show 2 ≤ sizeLine; decide))) fun F8 H8 g8 =>
          ⟨fun j σ' G' H' => G' = F8 ∧ Same F8 H' ∧ Same H1 H' ∧ (∃ y6 y7, σ' = [some x, some (.int n), some vr, some (.ref ac), some (.ref aw), some (.int (1 + (i : Int))), y6, y7, none, none]) ∧ CW rs H' ac aw w0 w1 w2 w3 (i + 2) (i + 2) (i + 2) (if j = 0 then i + 1 else i + 2) (if j = 2 then i + 2 else i + 1),
            ⟨rfl, g8.i, s1c.trans g8.h, ⟨y6, y7, rfl⟩, Cb.same g8.h⟩, fun j σ' G' H' h => ⟨by rw [h.1]; exact Same.refl _, by rw [h.1]; exact h.2.1⟩, fun j d σ' G' H' hd hI G3 K3 v k3 rv => ?_, fun σ' G' H' hI => ?_⟩
        · obtain ⟨rfl, sG, sI, ⟨z6, z7, rfl⟩, CI⟩ := hI
          have M8 := M4.grow Cb g8
          have sGK := k3.f.trans k3.i
          have sIK := sI.trans k3.h
          match j, hd with
          | 0, hd =>
            cases hd
            cases rv
            have CK : CW rs K3 ac aw w0 w1 w2 w3 (i + 2) (i + 2) (i + 2) (i + 1) (i + 1) := CI.same k3.h
            refine now_ixL (K := K) (k := 1) (v := .ref w1) (now_var rfl) (.inl (.inl CK.w)) (now_sub (now_var rfl) now_c (by decide)) rfl _ ?_
            refine s_app (now_ixL (k := 2) (v := .ref w2) (now_var rfl) (.inl (.inl CK.w)) (now_var rfl) rfl) CK.r2 (by rw [lv_len]; exact small1000 (by omega)) (sum2 (r := 0) (dp_of CK.c) (dp_of CK.r1) (by omega) hrs6 hrs3 (by decide) hi2) fun v F9 H9 g9 rv9 => ?_
            cases rv9
            have C9 : CW rs _ ac aw w0 w1 w2 w3 (i + 2) (i + 2) (i + 2) (i + 2) (i + 1) := (CK.same g9.h).put2 S6
            refine ⟨_, rfl, same_own ((sG.trans k3.h).trans g9.h) M8.r2, same_own (sIK.trans g9.h) M1.r2, ⟨_, _, rfl⟩, ?_⟩
            rw [show lv (wy (cnt rs) 2) (i + 1) ++ [V.int ((wy (cnt rs) (0 + 2) (i + 1) : Nat) : Int)] = lv (wy (cnt rs) 2) (i + 1 + 1) from (lv_succ _ _).symm]
            exact C9
          | 1, hd =>
            cases hd
            cases rv
            have CK : CW rs K3 ac aw w0 w1 w2 w3 (i + 2) (i + 2) (i + 2) (i + 2) (i + 1) := CI.same k3.h
            refine now_ixL (K := K) (k := 2) (v := .ref w2) (now_var rfl) (.inl (.inl CK.w)) (now_sub (now_var rfl) now_c (by decide)) rfl _ ?_
            refine s_app (now_ixL (k := 3) (v := .ref w3) (now_var rfl) (.inl (.inl CK.w)) (now_var rfl) rfl) CK.r3 (by rw [lv_len]; exact small1000 (by omega)) (sum2 (r := 1) (dp_of CK.c) (dp_of CK.r2) (by omega) hrs6 hrs3 (by decide) hi2) fun v F9 H9 g9 rv9 => ?_
            cases rv9
            have C9 : CW rs _ ac aw w0 w1 w2 w3 (i + 2) (i + 2) (i + 2) (i + 2) (i + 2) := (CK.same g9.h).put3 S6
            refine ⟨_, rfl, same_own ((sG.trans k3.h).trans g9.h) M8.r3, same_own (sIK.trans g9.h) M1.r3, ⟨_, _, rfl⟩, ?_⟩
            rw [show lv (wy (cnt rs) 3) (i + 1) ++ [V.int ((wy (cnt rs) (1 + 2) (i + 1) : Nat) : Int)] = lv (wy (cnt rs) 3) (i + 1 + 1) from (lv_succ _ _).symm]
            exact C9
          | j + 2, hd => cases hd
        · obtain ⟨rfl, sG, sI, ⟨y6, y7, rfl⟩, CI⟩ := hI
          exact ⟨_, rfl, g8.f.trans sG, sI, ⟨_, _, _, rfl⟩, CI⟩
      · obtain ⟨rfl, sF, s1, ⟨y5, y6, y7, rfl⟩, C⟩ := hI
        have hN : (rgs 1 (n + 1 - 1).toNat).length = n.toNat := by
          rw [rgs_len]
          omega
        rw [hN] at C
        refine now_var rfl _ ?_
        have M4 := mineF.grow C5 g6
        have hc := C.c
        refine q (.ref ac) (upd F' ac (.lst (lv (cnt rs) (n.toNat + 1)))) H' ⟨?_, ?_, ?_, ?_⟩ (by
          rw [show ranksOf (.tuple xs) = rs from hrs.symm]
          exact dp_of upd_same)
        · exact (g1.f.trans g6.f).trans (same_upd M4.c)
        · exact g1.h.trans s1
        · intro b o e
          by_cases hb : b = ac
          · rw [hb, upd_same] at e
            rw [hb, hc]
            exact e
          · rw [upd_ne hb] at e
            exact sF b o e
        · intro b o e e0
          by_cases hb : b = ac
          · rw [hb]
            exact g1.h.free M1.c
          · rw [upd_ne hb] at e
            cases z : F1 b with
            | some u => exact g1.n b u z e0
            | none => exact (g1.h.trans s15).free (g6.n b o e z)
    | _ => exact nomatch hk
end
end Sw
set_option Elab.async false
set_option linter.all false
set_option maxRecDepth 100000
set_option maxHeartbeats 2000000
set_option exponentiation.threshold 3000
namespace Sw
open PySem PySem.Spec PyProof.Rows L2
open C8 (Cal pe_c pe_gc)
section
variable {P : Program} {w : World} {K : PySem.W.Frag} {mg : Str → Option Value} {base : Heap} {f : Addr} {fd : FuncData} {aK CK CN CS : Addr}
/-! ### count -/
def countD (d n : PyData) : PyData := .int ((cnt (ranksOf d) (intD n).toNat : Nat) : Int)
def g_count (CK CN : Addr) (d n : PyData) : Option (Except Addr PyData) := if fitsK d then some (if isKinds d then (if isBetween n 1 200 then .ok (countD d n) else .error CN) else .error CK) else none
abbrev p_count (K : PySem.W.Frag) (CK CN : Addr) : Sp := spX K (x2 (g_count CK CN))
theorem ok_count (F : Fun K "count" "count" s_count f fd) (c_check_kinds : CalX P w K mg base 5 "check_kinds" ["kinds"] (p_check_kinds K CK)) (c_is_between : Cal P w K mg base 2 "is_between" (p_is_between K) []) (c_counts_to : Cal P w K mg base 1 "counts_to" (p_counts_to K) []) (X_BadNumber : Rse K mg "BadNumber" CN) : FnOk P w K mg base (L2.CX P w) 6 f fd ["kinds", "many"] (p_count K CK CN) := by
  refine F.okX sc_count (fun vs H Q E h => len_x2 h) (fun cdv A outer s H vs Q E hr h => ?_)
  obtain ⟨F0, ds, r, sm, ra, e, q, qe⟩ := h
  match ds, ra, e with
  | [a, b], .cons (v := x) ra (.cons (v := y) rb .nil), e =>
    have e' : (if fitsK a then some (if isKinds a then (if isBetween b 1 200 then Except.ok (countD a b) else .error CN) else .error CK) else none) = some r := e
    split at e'
    case isFalse => cases e'
    rename_i hz
    cases e'
    refine ⟨_, (pss_cons (ps_expr (pe_cx c_check_kinds hr (by first | decide | omega) (by rfl) (passes_call (takes_of rfl rfl rfl rfl) (fun _ _ _ _ h => h)) (pa_cons (pv 0) pa_nil)))
        (pss_cons (ps_if (pt_not (pt_val (pe_c c_is_between hr (by first | decide | omega) (by rfl) (pa_cons (pv 1) (pa_cons pe_int (pa_cons pe_int pa_nil)))))) (pss_one (ps_raise rfl (takes_of rfl rfl rfl rfl) (pmk_own PySem.F.excBase_ValueError X_BadNumber.e X_BadNumber.g X_BadNumber.k (raises_own X_BadNumber.b X_BadNumber.t) (by exact rfl)))) pss_nil)
        (pss_one (ps_ret (pe_ix (r := rIxL K) ix_list (pe_c c_counts_to hr (by first | decide | omega) (by rfl) (pa_cons (pv 0) (pa_cons (pv 1) pa_nil))) (pv 1) (fun _ _ => rfl)))))), ?_⟩
    have s0 : Slot K (start ["kinds", "many"] [x, y]) F0 0 a := ⟨x, rfl, ra⟩
    have s1 : Slot K (start ["kinds", "many"] [x, y]) F0 1 b := ⟨y, rfl, rb⟩
    have ck : ∀ z, g_check_kinds CK a = some z → x1 (g_check_kinds CK) [a] = some z := fun z h => h
    by_cases hk : isKinds a = true
    · rw [if_pos hk] at q qe
      refine ev_callX (d := .none) (ea_cons (ev_var s0) ea_nil) ((if_pos hz).trans (by rw [if_pos hk])) H sm _ fun v F1 H1 g1 r1 => ?_
      have hw : EvB _ _ F0 _ := eb_not (eb_val (ev_call (K := K) (f := f3 g_is_between) (E := C8.E0) (ea_cons (ev_var s1) (ea_cons (ev_int (i := 1)) (ea_cons (ev_int (i := 200)) ea_nil))) rfl))
      dsimp only
      refine s_when (hw.up g1.f) g1.i (fun hb F2 H2 g2 => ?_) fun hb F2 H2 g2 => ?_
      · rw [Bool.not_eq_true'] at hb
        exact qe CN (by rw [hb]; rfl) H2 (g1.h.trans g2.h)
      · rw [Bool.not_eq_false'] at hb
        rw [if_pos hb] at q
        match b, hb with
        | .int n, hb =>
          have hb2 : (decide (1 ≤ n) && decide (n ≤ 200)) = true := hb
          rw [Bool.and_eq_true, decide_eq_true_iff, decide_eq_true_iff] at hb2
          have g := g1.trans g2
          have hc : EvD K _ _ F0 _ := ev_call (K := K) (f := f2 g_counts_to) (E := C8.E0) (d := .list (ld (cnt (ranksOf a)) (n.toNat + 1))) (ea_cons (ev_var s0) (ea_cons (ev_var s1) ea_nil)) (by
            show (if isKinds a && (decide (0 ≤ n) && decide (n ≤ 200)) then some (PyData.list (ld (cnt (ranksOf a)) (n.toNat + 1))) else none) = _
            rw [if_pos]
            rw [hk, Bool.true_and, Bool.and_eq_true, decide_eq_true_iff, decide_eq_true_iff]
            omega)
          refine (ev_op hc ((ev_var s1).is (d1 := .int ((n.toNat : Nat) : Int)) (congrArg PyData.int (by omega))) (rv_ixL (ld_get (Nat.lt_succ_self _)))).up g.f H2 g.i _ fun v F3 H3 g3 r3 => ?_
          exact q _ rfl v F3 H3 (g.trans g3) r3
    · refine call_raises (C := CK) (ea_cons (ev_var s0) ea_nil) sm ((if_pos hz).trans (by rw [if_neg hk])) fun H' s' => ?_
      exact qe CK (by rw [if_neg hk]) H' s'
end
end Sw
set_option Elab.async false
set_option linter.all false
set_option maxRecDepth 100000
set_option maxHeartbeats 400000
/-! W5: slices with a step, xs[i] op= e, enumerate of a tuple, two-fold comprehensions, more operations. -/
namespace Sw
open PySem PySem.Spec PyProof.Rows L2
open C8 (Cal pe_c pe_gc)
/-! ### xs[i:j:k] of a list -/
/-- the places that a slice means -/
def places (n : Nat) (lo hi st : Option Int) : List Nat := let b := sliceBounds lo hi st n; sliceRange b.1 b.2.1 b.2.2
theorem vals_at {xs : List V} {us : List Value} (r : Vals xs us) : ∀ js : List Nat, Vals (js.filterMap fun j => xs[j]?) (js.filterMap fun j => us[j]?)
  | [] => .nil
  | j :: js => by
    cases e : xs[j]? with
    | none =>
      rw [List.filterMap_cons_none e, List.filterMap_cons_none (r.none_of e)]
      exact vals_at r js
    | some x =>
      obtain ⟨u, hu, ru⟩ := r.get e
      rw [List.filterMap_cons_some e, List.filterMap_cons_some hu]
      exact .cons ru (vals_at r js)
theorem dps_at {K : PySem.W.Frag} {F : Hp} {xs : List V} {ds : List PyData} (r : DpAll K F xs ds) : ∀ js : List Nat, DpAll K F (js.filterMap fun j => xs[j]?) (js.filterMap fun j => ds[j]?)
  | [] => .nil
  | j :: js => by
    cases e : ds[j]? with
    | none =>
      have hl := r.len
      have h2 : ds.length ≤ j := List.getElem?_eq_none_iff.mp e
      have e2 : xs[j]? = none := List.getElem?_eq_none_iff.mpr (by omega)
      rw [List.filterMap_cons_none e, List.filterMap_cons_none e2]
      exact dps_at r js
    | some d =>
      obtain ⟨v, hv, rv⟩ := r.get e
      rw [List.filterMap_cons_some e, List.filterMap_cons_some hv]
      exact .cons rv (dps_at r js)
def tStep (K : PySem.W.Frag) (te : TE) (tl th ts : TO) : TE := fun σ H Q => te σ H fun x H1 => tl σ H1 fun l H2 => th σ H2 fun u H3 => ts σ H3 fun c H4 => ∃ a xs, x = .ref a ∧ SqL K H4 a xs ∧ c ≠ some 0 ∧
  ∀ p, H4 p = none → Q (.ref p) (upd H4 p (.lst ((places xs.length l u c).filterMap fun j => xs[j]?)))
section
variable {X : Cx} {e : Expr} {te : TE} {lo hi st : Option Expr} {tl th ts : TO} {p2 pos : Pos}
theorem pe_step (he : PE X e te) (hl : PO X lo tl) (hu : PO X hi th) (hs : PO X st ts) (hsub : ∀ v i, subscripted (.Slice lo hi st p2) false v i = operate [v, i] (getItem v i) := by intros; with_unfolding_all rfl) : PE X (.Subscript e (.Slice lo hi st p2) pos) (tStep X.K te tl th ts) := by
  refine ⟨fun pins s σ H Q I h => Subscript_ (thn (he.run pins s σ H _ I h) fun v s1 hq => ?_)⟩
  obtain ⟨x, H1, I1, r1, q1⟩ := hq
  refine wpAny_Slice (thn (hl.run pins s1 σ H1 _ I1 q1) fun vl s2 hq2 => ?_)
  obtain ⟨l, H2, I2, pl, q2⟩ := hq2
  refine thn (hu.run pins s2 σ H2 _ I2 q2) fun vu s3 hq3 => ?_
  obtain ⟨u, H3, I3, pu, q3⟩ := hq3
  refine thn (hs.run pins s3 σ H3 _ I3 q3) fun vs s4 hq4 => ?_
  obtain ⟨c, H4, I4, pc, a, xs, ex, hx, hc, q⟩ := hq4
  subst ex
  cases r1
  generalize hob : ({ cls := .type "slice", data := .fields #[vl, vu, vs] } : Obj) = ob
  have I5 : Inv X pins σ H4 { s4 with heap := s4.heap.push ob } := I4.kept (t' := s4.toks) fun b o z => Heap.get?_push_of_some _ z
  obtain ⟨its, rv, pt, hz⟩ := I5.list hx
  have hlen := rv.length
  have hsl : (s4.heap.push ob).IsSliceOf s4.heap.objs.size vl vu vs := by
    rw [← hob]
    exact .new ..
  have fin : wpAny (model X.prog X.w) X.A (getItem (.ref a) (.ref s4.heap.objs.size)) (EP X pins σ Q) X.xe { s4 with heap := s4.heap.push ob } := by
    refine wpAny_getItem_list_slice pt.isList hsl pl pu pc hc ?_ (by rw [List.size_toArray]; omega)
    have ep : slicePick its.toArray l u c = ((places xs.length l u c).filterMap fun j => its[j]?).toArray := by
      unfold slicePick places
      rw [List.size_toArray, ← hlen]
      refine congrArg List.toArray (congrArg (fun g => List.filterMap g _) (funext fun j => ?_))
      simp
    rw [ep]
    refine ⟨.ref _, _, I5.laid (t' := s4.toks) (o := .lst ((places xs.length l u c).filterMap fun j => xs[j]?)) (fun b o z => Heap.get?_push_of_some _ z) (Nat.le_refl _) ?_, rfl, q _ (I5.hok.fresh (Nat.le_refl _))⟩
    refine ⟨?_, _, 0, vals_at rv _, Heap.get?_push_size _ rfl⟩
    have w1 := (vals_at rv (places xs.length l u c)).length
    have w2 := slicePick_size_le its.toArray l u c
    rw [ep, List.size_toArray, List.size_toArray] at w2
    omega
  exact tail_any (ops := [.ref a, .ref s4.heap.objs.size]) pt.isList.typeIs PySem.slot_list_getitem.lookup fin (hsub _ _)
end

/-! ### enumerate(t), t a tuple -/
/-- the tuple at a: turn i gives the pair (i, its item) -/
def ItE (K : PySem.W.Frag) (a : Addr) : It where
  go := fun i H => ∃ (xs : List V) (x : V), SqT K H a xs ∧ xs[i]? = some x
  yld := fun i H v H' => ∃ T x, v = .ref T ∧ H T = none ∧ H' = upd H T (.tup [.int (i : Nat), x]) ∧ ∀ xs, SqT K H a xs → xs[i]? = some x
  stop := fun i H => ∃ xs : List V, SqT K H a xs ∧ xs.length = i
def stE (a e it : Addr) (i : Nat) (h : Heap) : Prop := (∃ old, IsEnum h e it ((i : Nat) : Int) old) ∧ h.IsTupleIter it a i ∧ e ≠ it ∧ e ≠ a ∧ a ≠ it
theorem two_mem {b e it : Addr} (h : b ∈ [e, it]) : b = e ∨ b = it := by simpa using h
theorem turn_enumT {P : Program} {w : World} {K : PySem.W.Frag} {elts : List Expr} {kk : Nat} {tpos : Pos} (a e it : Addr) : Turn P w K (.Tuple elts kk tpos) (ItE K a) [e, it] e (stE a e it) where
  mem := List.mem_cons_self
  obj := fun i h st b hb => by
    obtain ⟨⟨o1, h1⟩, ⟨o2, h2, _, h4⟩, _⟩ := st
    rcases two_mem hb with rfl | rfl
    · exact ⟨_, h1, fun v q => nomatch q⟩
    · exact ⟨o2, h2, fun v q => by
        rw [h4] at q
        cases q⟩
  keep := fun i h h' st k => by
    obtain ⟨⟨o1, h1⟩, ⟨o2, h2, h3⟩, ne⟩ := st
    exact ⟨⟨o1, k e List.mem_cons_self _ h1⟩, ⟨o2, k it (by simp) _ h2, h3⟩, ne⟩
  item := by
    rintro X rfl rfl rfl hc i pins s σ H E I hf ⟨⟨o1, h1⟩, h2, n1, n2, n3⟩ ⟨xs, x, hx, hi⟩
    obtain ⟨its, rv, pt, _⟩ := I.tuple hx
    obtain ⟨u, hu, ru⟩ := rv.get hi
    have l1 : e < s.heap.objs.size := Heap.lt_size h1
    have l2 : it < s.heap.objs.size := by
      obtain ⟨_, z, _⟩ := h2
      exact Heap.lt_size z
    have hlt : i < its.toArray.size := by
      rw [List.size_toArray]
      exact (List.getElem?_eq_some_iff.mp hu).1
    refine wpAny_pyNext_enum_itemD (Draws.tuple (prog := X.prog) (w := X.w) (A := X.A.in1) (I.ok.hd hc) it a n3 its.toArray) h1 ⟨h2, pt⟩ hlt n1 (by simp [n1, n2]) fun y h' tk hy ho hs hT hz hk => ?_
    have ey : y = u := by
      have hy' : its.toArray[i]? = some y := hy
      rw [List.getElem?_toArray, hu] at hy'
      exact (Option.some.inj hy').symm
    subst ey
    refine ⟨_, rfl, wpAny_letOwnedTupleGo_enum (s := { s with heap := h', toks := tk + 1 }) ho fun h3 he3 sb => ?_⟩
    have hT3 := (sb.2 _ (Nat.ne_of_gt l1)).trans hT
    have mk : ObjOk X.prog X.w (upd H s.heap.objs.size (.tup [.int (i : Nat), x])) h3 s.heap.objs.size (.tup [.int (i : Nat), x]) :=
      ⟨(by show 2 ≤ sizeLine; decide), [.int i tk, y], .cons ⟨_, rfl⟩ (.cons ru .nil), ⟨_, hT3, rfl, _, rfl⟩⟩
    have kp : ∀ b o, b ∉ [e, it] → s.heap.get? b = some o → h3.get? b = some o := fun b o hb z => by
      have b1 : b ≠ e := fun w => hb (by rw [w]; exact List.mem_cons_self)
      have b2 : b ≠ it := fun w => hb (by rw [w]; simp)
      exact (sb.2 b b1).trans (hk b o b1 b2 z)
    have J := I.turnedNew (t' := tk + 1) kp hf (Nat.le_refl _) mk
    refine ⟨.ref s.heap.objs.size, _, J, rfl, ⟨_, x, rfl, I.hok.fresh (Nat.le_refl _), rfl, fun ys hys => ?_⟩, ⟨⟨y, ?_⟩, ?_, n1, n2, n3⟩, fun b hb => ?_⟩
    · rw [I.tuple_inj hys hx]
      exact hi
    · rw [show ((i + 1 : Nat) : Int) = (i : Int) + 1 by omega]
      exact he3
    · obtain ⟨o, z1, z2⟩ := hs.1
      exact ⟨o, (sb.2 it (Ne.symm n1)).trans z1, z2⟩
    · have lb : b < s.heap.objs.size := by
        rcases two_mem hb with rfl | rfl
        · exact l1
        · exact l2
      rw [upd_ne (Nat.ne_of_lt lb)]
      exact (hf b hb).1
  done := by
    rintro X rfl rfl rfl hc i pins s σ H E I hf ⟨⟨o1, h1⟩, h2, n1, n2, n3⟩ ⟨xs, hx, hi⟩
    obtain ⟨its, rv, pt, _⟩ := I.tuple hx
    have hl : its.toArray.size = i := by
      rw [List.size_toArray, ← rv.length]
      exact hi
    have h2' : s.heap.IsTupleIter it a its.toArray.size := by
      rw [hl]
      exact h2
    obtain ⟨f0, f1, f2, f3, f4, f5⟩ := hf it (by simp)
    exact wpAny_pyNext_enum_endD (Draws.tuple (prog := X.prog) (w := X.w) (A := X.A.in1) (I.ok.hd hc) it a n3 its.toArray) h1 ⟨h2', pt⟩ fun h' hb => ⟨rfl, I.turned (t' := s.toks) (fun b o z q => hb b o z q) f0 f1 f3 f4 f5⟩
  self := fun A i s Q E st h => by
    obtain ⟨⟨_, he⟩, _⟩ := st
    exact wpAny_pyIter_enum he h

/-- enumerate(x) begins: its two new cells -/
theorem meets_enum1 {v : Value} {o : Obj} {G : Heap → Prop} (B : Begins v o G) : Meets (Builtin.«enumerate.__new__» ⟨[.type "enumerate", v], []⟩) (fun _ R s => G s.heap ∧
    R (.ok (.ret (.ref (s.heap.push o).objs.size))) { s with heap := (s.heap.push o).push { cls := .type "enumerate", data := .fields #[.none, .bool false, .ref s.heap.objs.size, rawInt 0, .none, .none] } }) :=
  .of_wp fun prog w A R s h => by
    obtain ⟨hp, g, d, tk, os⟩ := s
    obtain ⟨hG, h⟩ := h
    have sub := sub_enumerate
    have it1 : ∀ {A' : Around} {E' : Value → Shared → Prop} {Q' : Value → Shared → Prop}, Q' (.ref hp.objs.size) ⟨hp.push o, g, d, tk, os⟩ → wpAny (model prog w) A' (pyIter v) Q' E' ⟨hp, g, d, tk, os⟩ := fun q => B.iter prog w _ _ ⟨hp, g, d, tk, os⟩ _ hG q
    wp_walk using it1
    refine wpAny_stack_any fun st => wpAny_pure ?_
    split
    case h_1 c _ _ _ _ _ =>
      cases (c == Value.type "enumerate") <;>
      · wp_walk using it1
        exact ⟨_, rfl, h⟩
    all_goals
      wp_walk using it1
      exact ⟨_, rfl, h⟩
theorem call_enumT {prog : Program} {w : World} {A : Around} {E : Value → Shared → Prop} {s : Shared} {a : Addr} {its : Array Value} {Q : Value → Shared → Prop} (ht : s.heap.IsTuple a its)
    (h : ∀ h', IsEnum h' (s.heap.objs.size + 1) s.heap.objs.size 0 .none → h'.IsTupleIter s.heap.objs.size a 0 → (∀ b o, s.heap.get? b = some o → h'.get? b = some o) → Q (.ref (s.heap.objs.size + 1)) { s with heap := h' }) :
    wpAny (model prog w) A (call (.type "enumerate") [.ref a]) Q E s := by
  refine callType_new F.called_enumerate (by decide) (F.typeCall_enumerate_1 _) (F.newCall_enumerate_1 _) (fun obj => F.args_object_init_2 obj _) F.entry_enumerate_new (meets_enum1 (begins_tuple a its)) ⟨ht, ?_⟩
  generalize hoi : ({ cls := .type "tuple_iterator", data := .fields #[.ref a, .int 0 0] } : Obj) = oi
  have hz : (s.heap.push oi).objs.size = s.heap.objs.size + 1 := Heap.size_push ..
  show _ ∧ _
  rw [hz]
  have he := Heap.get?_push_size (s.heap.push oi) (o := { cls := .type "enumerate", data := .fields #[.none, .bool false, .ref s.heap.objs.size, rawInt 0, .none, .none] }) rfl
  rw [hz] at he
  refine ⟨⟨_, he, rfl⟩, h _ he ⟨oi, Heap.get?_push_of_some _ (Heap.get?_push_size _ (by rw [← hoi]; rfl)), by rw [← hoi], by subst hoi; rfl⟩ fun b o z => Heap.get?_push_of_some _ (Heap.get?_push_of_some _ z)⟩
def iEnumT (K : PySem.W.Frag) (ta : TA) : TI := fun σ H R => ta σ H fun vs H1 => ∃ a xs, vs = [.ref a] ∧ SqT K H1 a xs ∧ R (ItE K a) H1
theorem pi_enumT {X : Cx} {e : Expr} {ta : TA} {p pos tpos : Pos} {elts : List Expr} {kk : Nat} (hg : Gl X "enumerate") (hm : X.mg "enumerate" = none) (ha : PA X [e] ta) (hs : starEach [e] X.env = [(false, eval e X.env)] := by rfl) :
    PI X (.Tuple elts kk tpos) (.Call (.Name "enumerate" p) [e] [] pos) (iEnumT X.K ta) := by
  refine ⟨fun pins s σ H R I h => Call_ (ld_blt I hg hm boot_enumerate (PyProof.Rows.callWith_type1 (thn (ha.run pos pins s σ H _ I h) fun us s1 hq => ?_) hs rfl))⟩
  obtain ⟨vs, H1, I1, r1, a, xs, ex, hx, q⟩ := hq
  subst ex
  cases r1 with
  | cons r rr =>
    cases rr
    cases r
    obtain ⟨its, rv, pt, _⟩ := I1.tuple hx
    refine call_enumT pt fun h' h1 h2 hk => wpAny_pyIter_enum h1 ?_
    have la : a < s1.heap.objs.size := pt.lt
    have I2 : Inv X pins σ H1 { s1 with heap := h' } := I1.kept (t' := s1.toks) hk
    refine ⟨s1.heap.objs.size + 1, [s1.heap.objs.size + 1, s1.heap.objs.size], _, _, H1, rfl, I2, turn_enumT a (s1.heap.objs.size + 1) s1.heap.objs.size, ⟨⟨_, h1⟩, h2, Nat.succ_ne_self _, Nat.ne_of_gt (Nat.lt_succ_of_lt la), Nat.ne_of_lt la⟩, fun b hb => ?_, q⟩
    have hle : s1.heap.objs.size ≤ b := by
      rcases two_mem hb with rfl | rfl
      · exact Nat.le_succ _
      · exact Nat.le_refl _
    exact I1.fpOk hle (I1.hok.fresh hle)

section
variable {K : PySem.W.Frag} {σ : L2.St} {F G H : Hp} {te ta tb to ti : TE} {d d1 d2 : PyData} {ds es : List PyData}
theorem wk_enumT {a : Addr} {vs : List V} (h : SqT K F a vs) (r : DpAll K F vs ds) : WkD K (ItE K a) (numbered ds) F := fun i H s => by
  have hs := same_seqT s h
  refine ⟨fun d hd => ?_, fun e => ⟨vs, hs, ?_⟩⟩
  · obtain ⟨b, hb, rfl⟩ := numbered_get hd
    obtain ⟨v, hv, rv⟩ := r.get hb
    refine ⟨⟨vs, v, hs, hv⟩, fun x H' y => ?_⟩
    obtain ⟨T, x1, rfl, hT, rfl, y1⟩ := y
    have e1 := Option.some.inj ((y1 vs hs).symm.trans hv)
    subst e1
    exact grow_pair s hT (.int _) rv
  · rw [numbered_len] at e
    rw [r.len]
    exact e.symm
theorem ew_enumT {ta : TA} (h : EvS K ta σ F [.tuple ds]) : EvW K (iEnumT K ta) σ F (numbered ds) := fun H s R q => h H s _ fun vs F1 H1 g r => by
  cases r with
  | cons a b =>
    cases b
    cases a with
    | tup a1 a2 => exact ⟨_, _, rfl, same_seqT g.i a1, q _ F1 H1 g (wk_enumT a1 a2)⟩
/-! ### slices with a step, as data -/
theorem ev_step {tl th ts : TO} {lo hi st : Option Int} (h : EvD K te σ F (.list ds)) (h1 : EvO K tl σ F lo) (h2 : EvO K th σ F hi) (h3 : EvO K ts σ F st) (hst : st ≠ some 0) :
    EvD K (tStep K te tl th ts) σ F (.list ((places ds.length lo hi st).filterMap fun j => ds[j]?)) := fun H s Q q =>
  h H s _ fun x F1 H1 g1 r1 => h1.up g1.f H1 g1.i _ fun F2 H2 g2 => h2.up (g1.trans g2).f H2 g2.i _ fun F3 H3 g3 => h3.up ((g1.trans g2).trans g3).f H3 g3.i _ fun F4 H4 g4 => by
    have g := ((g1.trans g2).trans g3).trans g4
    cases r1.up ((g2.trans g3).trans g4).f with
    | lst a b =>
      refine ⟨_, _, rfl, g4.i.seq a, hst, fun p hp => ?_⟩
      rw [b.len]
      exact q _ _ _ (g.trans (.known g4.i hp)) (.lst (.inl (.inl upd_same)) ((dps_at b _).up (same_upd (g4.i.free hp))))
/-! ### xs[k] += j -/
def rIxP (K : PySem.W.Frag) : V → V → Hp → VK → Prop := fun x y H Q => ∃ p xs k v, x = .ref p ∧ y = .int ((k : Nat) : Int) ∧ SqL K H p xs ∧ xs[k]? = some v ∧ Q v H
theorem get_L {X : Cx} : PGet X (rIxP X.K) := by
  intro pins s σ H o i ov iv Q I ro ri h
  obtain ⟨p, xs, k, v, rfl, rfl, hq, he, q⟩ := h
  cases ro
  obtain ⟨t, rfl⟩ := ri
  obtain ⟨its, r, pl, hz⟩ := I.list hq
  obtain ⟨u, hu, ru⟩ := r.get he
  have hk := (List.getElem?_eq_some_iff.mp he).1
  have hn := line63
  exact wpAny_getItem_list pl.isList (by omega) (by omega) (by simpa using hu) ⟨v, H, I, ru, q⟩
theorem s_augL {D : Ends} {l : Addr} {xs : List V} {k : Nat} {i j : Int} (ho : Now to σ H (.ref l)) (hl : H l = some (.lst xs)) (hi : Now ti σ H (.int (k : Int))) (hk : xs[k]? = some (.int i)) (he : EvD K te σ H (.int j))
    (kk : ∀ F' H', Grow H H F' H' → D.nx σ (upd H' l (.lst (xs.set k (.int (i + j)))))) : tAugS to ti te (rIxP K) (ipI fun i j => i + j) rSetL D σ H :=
  ho _ (hi _ ⟨l, xs, k, .int i, rfl, rfl, .inl (.inl hl), hk, he H (Same.refl H) _ fun v F' H' g r => by
    cases r
    refine ⟨i, j, rfl, rfl, l, xs, (k : Int), k, rfl, rfl, g.h _ _ hl, ?_, kk F' H' g⟩
    have hlt := (List.getElem?_eq_some_iff.mp hk).1
    unfold ixN
    rw [if_pos (Int.natCast_nonneg k), if_pos (by omega), Int.toNat_natCast]⟩)
/-! ### xs * n, t + u, divmod -/
theorem s_setRep {D : Ends} {i : Nat} {n : Nat} {j : Int} (h : EvD K tb σ F (.int (n : Int))) (s : Same F H) (hn : n < 2 ^ 62) (hz : n ≤ sizeLine) (k : ∀ p F' H' H2, Grow F H F' H' → H' p = none → H2 = upd H' p (.lst (List.replicate n (.int j))) → D.nx (σ.set i (some (.ref p))) H2) :
    tAsg (tOp rRep (tLst (tCons (tC (.int j)) tNil)) tb) (gName i) D σ H := by
  refine ⟨(by show 1 ≤ sizeLine; decide), fun a ha => ?_⟩
  have s1 : Same F (upd H a (.lst [.int j])) := s.trans (same_upd ha)
  refine h _ s1 _ fun v F1 H1 g1 r1 => ?_
  cases r1
  have ha1 : H1 a = some (.lst [.int j]) := g1.h _ _ upd_same
  refine ⟨a, (n : Int), [.int j], rfl, rfl, ha1, by omega, by omega, by simpa using hz, fun p hp => ?_⟩
  refine k p F1 H1 _ ⟨g1.f, (same_upd ha).trans g1.h, g1.i, fun b o e0 e1 => ?_⟩ hp ?_
  · have z := g1.n b o e0 e1
    by_cases hb : b = a
    · rw [hb, upd_same] at z
      cases z
    · rw [upd_ne hb] at z
      exact z
  · rw [Int.toNat_natCast]
    congr 2
    generalize n = m
    induction m with
    | zero => rfl
    | succ m ih => rw [List.replicate_succ, List.flatten_cons, ih, List.replicate_succ]; rfl
theorem rv_catT (hl : ds.length + es.length ≤ sizeLine) : RvD K (rCatA K) (.tuple ds) (.tuple es) (.tuple (ds ++ es)) := fun F x y H s a b Q q => by
  cases a with
  | tup a1 a2 =>
    cases b with
    | tup b1 b2 =>
      refine ⟨_, _, _, _, rfl, rfl, same_seqT s a1, same_seqT s b1, (by rw [a2.len, b2.len]; exact hl), fun e => ?_, fun _ e => ?_, fun _ _ p hp => ?_⟩
      · have e2 : ds = [] := by
          have := a2.len
          rw [e] at this
          exact List.eq_nil_of_length_eq_zero this.symm
        rw [e2, List.nil_append] at q
        exact q _ F H (.start s) (.tup b1 b2)
      · have e2 : es = [] := by
          have := b2.len
          rw [e] at this
          exact List.eq_nil_of_length_eq_zero this.symm
        rw [e2, List.append_nil] at q
        exact q _ F H (.start s) (.tup a1 a2)
      · exact q _ _ _ (.known s hp) (.tup (.inl (.inl upd_same)) ((a2.app b2).up (same_upd (s.free hp))))
abbrev rDivmod : List V → Hp → VK → Prop := fun xs H Q => ∃ i j, xs = [.int i, .int j] ∧ CDiv i j ∧ ∀ p, H p = none → Q (.ref p) (upd H p (.tup [.int (i / j), .int (i % j)]))
theorem rc_divmod {i j : Int} (h : CDiv i j) : RcD K rDivmod [.int i, .int j] (.tuple [.int (i / j), .int (i % j)]) := fun F xs H s r Q q => by
  cases r with
  | cons a b =>
    cases a
    cases b with
    | cons b c =>
      cases b
      cases c
      exact ⟨i, j, rfl, h, fun p hp => q _ _ _ (.known s hp) (.tup (.inl (.inl upd_same)) (.cons (.int _) (.cons (.int _) .nil)))⟩
/-! ### [e for x in xs for y in ys] -/
theorem grow_own {F H F' H' : Hp} {D : Addr} {o : HO} (g : Grow F H F' H') (hD : H D = none) (nD : F' D = none) : Grow F H F' (upd H' D o) := ⟨g.f, fun b x z => by
  rw [upd_ne (ne_of_none z hD)]
  exact g.h b x z, fun b x z => by
  rw [upd_ne (ne_of_none z nD)]
  exact g.i b x z, g.n⟩
/-- the new list gets known -/
theorem grow_tell {F H F' H' : Hp} {D : Addr} {o : HO} (g : Grow F H F' H') (hD : H D = none) (nD : F' D = none) (eD : H' D = some o) : Grow F H (upd F' D o) H' := ⟨g.f.trans (same_upd nD), g.h, fun b x z => by
  by_cases hb : b = D
  · rw [hb, upd_same] at z
    rw [hb, eD]
    exact z
  · rw [upd_ne hb] at z
    exact g.i b x z, fun b x z n => by
  by_cases hb : b = D
  · rw [hb]
    exact hD
  · rw [upd_ne hb] at z
    exact g.n b x z n⟩
theorem free_of {F H F' H' : Hp} {D : Addr} {o : HO} (g : Grow F H F' H') (nD : F D = none) (eD : H D = some o) : F' D = none := free_grow g nD eD
def made2 (es : PyData → List PyData) (e : PyData → PyData → PyData) (ds : List PyData) : List PyData := ds.flatMap fun d => (es d).map (e d)
theorem yes_then {σ : L2.St} {H : Hp} {A B : Hp → Prop} (h : A H) : tYes σ H (fun b H' => if b = true then A H' else B H') := by
  show (if true = true then A H else B H)
  rw [if_pos rfl]
  exact h
theorem ev_lc2 {wi wi1 : TI} {g g1 : TG} {vs vs1 : List Nat} (es : PyData → List PyData) (e : PyData → PyData → PyData) (hw : EvW K wi σ F ds) (hl : (made2 es e ds).length < sizeLine)
    (hT : ∀ d F', d ∈ ds → Same F F' → Tk K g d (wipe σ vs) F' fun σ2 => wipe σ2 vs = wipe σ vs ∧ EvW K wi1 σ2 F' (es d) ∧
      ∀ c F2, c ∈ es d → Same F' F2 → Tk K g1 c (wipe σ2 vs1) F2 fun σ3 => wipe σ3 vs1 = wipe σ2 vs1 ∧ EvD K te σ3 F2 (e d c)) :
    EvD K (tLc2 wi g tYes wi1 g1 tYes te vs vs1) σ F (.list (made2 es e ds)) := fun H s Q q => hw H s _ fun J F1 H1 k1 wk => by
  intro D hD
  refine ⟨fun i m H2 => m = ds.length - i ∧ i ≤ ds.length ∧ ∃ F2 acc, Grow F1 H1 F2 H2 ∧ F2 D = none ∧ H2 D = some (.lst acc) ∧ DpAll K F2 acc (made2 es e (ds.take i)),
    ⟨ds.length, by simp, Nat.zero_le _, F1, [], .own k1.i hD, k1.i.free hD, upd_same, .nil⟩, fun i m H2 hW => ?_⟩
  obtain ⟨rfl, hi, F2, acc, k2, nD, eD, ra⟩ := hW
  have wk2 := wk.up k2.f
  by_cases hlt : i < ds.length
  · have hd : ds[i]? = some ds[i] := List.getElem?_eq_getElem hlt
    obtain ⟨go, yl⟩ := (wk2 i H2 k2.i).1 _ hd
    have eT : made2 es e (ds.take (i + 1)) = made2 es e (ds.take i) ++ (es ds[i]).map (e ds[i]) := by
      unfold made2
      rw [List.take_add_one, hd, List.flatMap_append]
      show _ ++ (_ ++ []) = _
      rw [List.append_nil]
    have eL : (made2 es e (ds.take i)).length + (es ds[i]).length ≤ (made2 es e ds).length := by
      have z : made2 es e ds = made2 es e (ds.take (i + 1)) ++ made2 es e (ds.drop (i + 1)) := by
        unfold made2
        rw [← List.flatMap_append, List.take_append_drop]
      rw [z, eT, List.length_append, List.length_append, List.length_map]
      omega
    refine .inr ⟨go, fun H3 => ∃ F3 acc, Grow F1 H1 F3 H3 ∧ F3 D = none ∧ H3 D = some (.lst acc) ∧ DpAll K F3 acc (made2 es e (ds.take (i + 1))), fun H3 h3 => ⟨_, ?_, rfl, hlt, h3⟩, fun x H3 hy => ?_⟩
    · show ds.length - (i + 1) < ds.length - i
      omega
    obtain ⟨F3, k3, rx⟩ := yl x H3 hy
    have k13 := (k2.trans k3)
    have nD3 : F3 D = none := free_of k3 nD eD
    refine hT ds[i] F3 (List.getElem_mem hlt) ((k1.trans k13).f) x H3 k3.i rx _ fun σ2 hσ => ?_
    obtain ⟨w2, hw1, hT1⟩ := hσ
    refine ⟨w2, yes_then ?_⟩
    refine hw1 H3 k3.i _ fun J1 F4 H4 k4 wk1 => ?_
    have eD4 : H4 D = some (.lst acc) := k4.h _ _ (k3.h _ _ eD)
    have nD4 : F4 D = none := free_of k4 nD3 (k3.h _ _ eD)
    refine ⟨fun j k H5 => k = (es ds[i]).length - j ∧ j ≤ (es ds[i]).length ∧ ∃ F5 acc, Grow F1 H1 F5 H5 ∧ Same F4 F5 ∧ F5 D = none ∧ H5 D = some (.lst acc) ∧ DpAll K F5 acc (made2 es e (ds.take i) ++ ((es ds[i]).take j).map (e ds[i])),
      ⟨_, rfl, Nat.zero_le _, F4, acc, k13.trans k4, Same.refl _, nD4, eD4, ?_⟩, fun j k H5 hW => ?_⟩
    · rw [List.take_zero, List.map_nil, List.append_nil]
      exact ra.up (k3.trans k4).f
    obtain ⟨rfl, hj, F5, acc5, k5, s5, nD5, eD5, ra5⟩ := hW
    have wk5 := wk1.up s5
    by_cases hjt : j < (es ds[i]).length
    · have hc : (es ds[i])[j]? = some (es ds[i])[j] := List.getElem?_eq_getElem hjt
      obtain ⟨go1, yl1⟩ := (wk5 j H5 k5.i).1 _ hc
      refine .inr ⟨go1, fun H6 => ∃ F5 acc, Grow F1 H1 F5 H6 ∧ Same F4 F5 ∧ F5 D = none ∧ H6 D = some (.lst acc) ∧ DpAll K F5 acc (made2 es e (ds.take i) ++ ((es ds[i]).take (j + 1)).map (e ds[i])), fun H6 h6 => ⟨_, ?_, rfl, hjt, h6⟩, fun y H6 hy1 => ?_⟩
      · show (es ds[i]).length - (j + 1) < (es ds[i]).length - j
        omega
      obtain ⟨F6, k6, ry⟩ := yl1 y H6 hy1
      have nD6 : F6 D = none := free_of k6 nD5 eD5
      refine hT1 _ F6 (List.getElem_mem hjt) ((k4.f.trans s5).trans k6.f) y H6 k6.i ry _ fun σ3 hσ3 => ?_
      obtain ⟨w3, he⟩ := hσ3
      refine ⟨w3, yes_then ?_⟩
      refine he H6 k6.i _ fun z F7 H7 k7 rz => ?_
      have eD7 : H7 D = some (.lst acc5) := k7.h _ _ (k6.h _ _ eD5)
      have nD7 : F7 D = none := free_of k7 nD6 (k6.h _ _ eD5)
      have la := ra5.len
      rw [List.length_append, List.length_map, List.length_take] at la
      refine ⟨acc5, eD7, by omega, F7, acc5 ++ [z], grow_own ((k5.trans k6).trans k7) hD nD7, s5.trans (k6.trans k7).f, nD7, upd_same, ?_⟩
      rw [List.take_add_one, hc, List.map_append, ← List.append_assoc]
      exact (ra5.up (k6.trans k7).f).app (.cons rz .nil)
    · have ej : j = (es ds[i]).length := by omega
      refine .inl ⟨(wk5 j H5 k5.i).2 ej, F5, acc5, k5, nD5, eD5, ?_⟩
      rw [eT]
      rw [ej, List.take_length] at ra5
      exact ra5
  · have ei : i = ds.length := by omega
    refine .inl ⟨(wk2 i H2 k2.i).2 ei, ?_⟩
    rw [ei, List.take_length] at ra
    exact q _ _ H2 (k1.trans (grow_tell k2 hD nD eD)) (.lst (.inl (.inl upd_same)) (ra.up (same_upd nD)))
end

section
variable {K : PySem.W.Frag} {σ : L2.St} {F : Hp} {te : TE} {g : TG} {tw : TS}
theorem tk_four {i j k l : Nat} {a b c d : PyData} : Tk K (gTup K 4 (gCons (gName i) (gCons (gName j) (gCons (gName k) (gCons (gName l) gNil))))) (.tuple [a, b, c, d]) σ F
    (fun σ2 => ∃ v w x y, σ2 = (((σ.set i (some v)).set j (some w)).set k (some x)).set l (some y) ∧ Dp K F v a ∧ Dp K F w b ∧ Dp K F x c ∧ Dp K F y d) := fun v H s r Q q => by
  cases r with
  | tup a b =>
    cases b with
    | cons b1 c1 =>
      cases c1 with
      | cons b2 c2 =>
        cases c2 with
        | cons b3 c3 =>
          cases c3 with
          | cons b4 c4 =>
            cases c4
            exact ⟨_, _, rfl, same_seqT s a, rfl, _, _, rfl, _, _, rfl, _, _, rfl, _, _, rfl, rfl, q _ ⟨_, _, _, _, rfl, b1, b2, b3, b4⟩⟩
theorem r_asg {d1 d : PyData} {P : Hp → L2.St → Prop} (h : EvD K te σ F d1) (hg : ∀ F', Same F F' → Tk K g d1 σ F' (P F')) (k : ∀ σ2 F', Same F F' → P F' σ2 → Ret K tw σ2 F' d) : Ret K (tSeq (tAsg te g) tw) σ F d := fun H s D q => h H s _ fun v F1 H1 g1 r1 =>
  hg F1 g1.f v H1 g1.i r1 _ fun σ2 p => k σ2 F1 g1.f p H1 g1.i D fun w F2 H2 g2 r2 => q w F2 H2 (g1.trans g2) r2
end
end Sw
set_option Elab.async false
set_option linter.all false
set_option maxRecDepth 100000
set_option maxHeartbeats 2000000
set_option exponentiation.threshold 3000
namespace Sw
open PySem PySem.Spec PyProof.Rows L2
open C8 (Cal pe_c pe_gc)
section
variable {P : Program} {w : World} {K : PySem.W.Frag} {mg : Str → Option Value} {base : Heap} {f : Addr} {fd : FuncData} {aK CK CN CS : Addr}
theorem kinds_fit {xs : List PyData} (h : isKinds (.tuple xs) = true) : fitsK (.tuple xs) = true := by
  obtain ⟨_, hx⟩ := kinds_ranks h
  have h' : ((decide (1 ≤ (xs.length : Int)) && decide ((xs.length : Int) ≤ 6)) && (xs.all isKind && (risesD (xs.map fstD) && (xs.map sndD).any isZero))) = true := h
  rw [Bool.and_eq_true, Bool.and_eq_true, Bool.and_eq_true] at h'
  refine List.all_eq_true.mpr fun d hd => ?_
  obtain ⟨n, r, rfl, hn, _⟩ := kind_cases (List.all_eq_true.mp h'.2.1 d hd)
  have hn' : (decide (1 ≤ (n.length : Int)) && decide ((n.length : Int) ≤ 8)) = true := by
    unfold isName at hn
    rw [Bool.and_eq_true] at hn
    exact hn.1
  rw [Bool.and_eq_true, decide_eq_true_iff, decide_eq_true_iff] at hn'
  show decide (n.length ≤ sizeLine) = true
  have := small1000 (n := n.length) (by omega)
  exact decide_eq_true (by omega)
/-! ### goals_in -/
abbrev s_goals_in : Stmt := top 23
theorem sc_goals_in : FnScope ["kinds", "many", "_", "rank"] ["kinds", "many"] (defScope s_goals_in) := ⟨rfl, rfl, rfl, by decide +kernel, rfl, by decide +kernel, by decide +kernel⟩
def g_goals_in (d n : PyData) : Option PyData := match d, n with
  | .tuple xs, .int n => if isKinds (.tuple xs) && decide (n = 1) then some (.int (xs.length : Int)) else none
  | _, _ => none
abbrev p_goals_in (K : PySem.W.Frag) : Sp := spD K (f2 g_goals_in)
theorem one_pow' (n : Nat) : (1 : Int) ^ n = 1 := by
  induction n with
  | zero => rfl
  | succ n ih => rw [Int.pow_succ, ih]; rfl
theorem sum_ones : ∀ n : Nat, (List.replicate n (1 : Int)).sum = n
  | 0 => rfl
  | n + 1 => by
    rw [List.replicate_succ, List.sum_cons, sum_ones n]
    omega
theorem ok_goals_in (F : Fun K "goals_in" "goals_in" s_goals_in f fd) (B : BI mg) : FnOk P w K mg base CX0 1 f fd ["kinds", "many"] (p_goals_in K) := by
  refine F.ok sc_goals_in (fun vs H Q E h => len_f2 h) (fun cdv A outer s H vs Q E hr h => go2 h fun F0 a b x y d sm ra rb e ev q => ?_)
  subst ev
  match a, b, e with
  | .tuple xs, .int n, e =>
    have e' : (if isKinds (.tuple xs) && decide (n = 1) then some (PyData.int (xs.length : Int)) else none) = some d := e
    split at e'
    case isFalse => cases e'
    rename_i hc
    cases e'
    rw [Bool.and_eq_true, decide_eq_true_iff] at hc
    obtain ⟨hk, rfl⟩ := hc
    obtain ⟨h6, hx⟩ := kinds_ranks hk
    refine ⟨_, (pss_one (ps_ret (pe_callB (r := rSum K) (cr_sum rfl) (by rfl) B.sum (by decide +kernel) (pa_cons (pe_lc (own := [("_", 2), ("rank", 3)]) (g := (gTup K 2 (gCons (gName 2) (gCons (gName 3) gNil)))) rfl sc_goals_in.nd (pi_tup (pv 0)) (blkOk_by (own := [("_", 2), ("rank", 3)]) (N := ["kinds", "many", "_", "rank"]) (sc := defScope s_goals_in) (by decide +kernel)) (fun _ _ _ _ _ => (pg_tup rfl (pgs_cons (pg_name (i := 2) sc_goals_in.nd rfl (Or.inl rfl) (hf := (Or.inr rfl))) (pgs_cons (pg_name (i := 3) sc_goals_in.nd rfl (Or.inl rfl) (hf := (Or.inr rfl))) pgs_nil)))) (fun _ _ _ _ _ => pts_nil) (fun _ _ _ _ _ => (pe_op (op_pow) (pv 1) (pe_op (op_mod) (pe_callTy (call_int1) (by rfl) B.int_ (by decide +kernel) (pa_cons (pv 3) pa_nil)) pe_int)))) pa_nil)))), ?_⟩
    have s0 : Slot K (start ["kinds", "many", "_", "rank"] [x, y]) F0 0 (.tuple xs) := ⟨x, rfl, ra⟩
    have q1 := ev_lc (K := K) (te := tOp (rI CPow fun i j => V.int (i ^ j.toNat)) (tVar 1) (tOp (rI (fun _ j => 0 < j) fun i j => V.int (i % j)) (tCB rInt1 (tCons (tVar 3) tNil)) (tC (.int 4)))) (tt := tYes) (g := gTup K 2 (gCons (gName 2) (gCons (gName 3) gNil))) (vs := [2, 3]) (fun _ => true) (fun _ => .int 1) (ew_tup (ev_var s0)) (small1000 (by omega)) fun d F' hd sF => by
      obtain ⟨n, r, rfl, h0, h3⟩ := hx d hd
      refine tk_two.imp fun σ2 hσ => ?_
      obtain ⟨v, u, rfl, rv, ru⟩ := hσ
      refine ⟨rfl, eb_yes, fun _ => ?_⟩
      have q2 := ev_op (ev1 (ev_var (F := F') (σ := ((wipe (start ["kinds", "many", "_", "rank"] [x, y]) [2, 3]).set 2 (some v)).set 3 (some u)) (i := 3) ⟨u, rfl, ru⟩) rc_int) (ev_int (i := 4)) (rv_intC (C := fun _ j => 0 < j) (g := fun i j => i % j) (by decide))
      refine (ev_op (ev_var (i := 1) ⟨y, rfl, rb.up sF⟩) q2 (rv_intC (C := CPow) (g := fun i j => i ^ j.toNat) ⟨by omega, by omega, by decide⟩)).is ?_
      rw [one_pow']
    rw [made_map] at q1
    have e1 : xs.map (fun _ => PyData.int 1) = (List.replicate xs.length (1 : Int)).map .int := by
      rw [List.map_const', List.map_replicate]
    rw [e1] at q1
    exact (r_ret ((ev1 q1 rc_sum).is (congrArg PyData.int (sum_ones _))) : Ret K _ _ F0 _) H sm _ q
/-! ### tuples_below -/
abbrev s_tuples_below : Stmt := top 24
theorem sc_tuples_below : FnScope ["many", "rank", "found", "_", "row", "state"] ["many", "rank"] (defScope s_tuples_below) := ⟨rfl, rfl, rfl, by decide +kernel, rfl, by decide +kernel, by decide +kernel⟩
def g_tuples_below (m r : PyData) : Option PyData := match m, r with
  | .int m, .int r => if decide (m = 1) && decide (r = 2) then some (.list [.tuple [.int 0, .int 0]]) else none
  | _, _ => none
abbrev p_tuples_below (K : PySem.W.Frag) : Sp := spD K (f2 g_tuples_below)
theorem ok_tuples_below (F : Fun K "tuples_below" "tuples_below" s_tuples_below f fd) (B : BI mg) : FnOk P w K mg base CX0 1 f fd ["many", "rank"] (p_tuples_below K) := by
  refine F.ok sc_tuples_below (fun vs H Q E h => len_f2 h) (fun cdv A outer s H vs Q E hr h => go2 h fun F0 a b x y d sm ra rb e ev q => ?_)
  subst ev
  match a, b, e with
  | .int m, .int n, e =>
    have e' : (if decide (m = 1) && decide (n = 2) then some (PyData.list [.tuple [.int 0, .int 0]]) else none) = some d := e
    split at e'
    case isFalse => cases e'
    rename_i hc
    cases e'
    rw [Bool.and_eq_true, decide_eq_true_iff, decide_eq_true_iff] at hc
    obtain ⟨rfl, rfl⟩ := hc
    refine ⟨_, (pss_cons (ps_set (i := 2) sc_tuples_below.nd rfl (Or.inl rfl) (pe_lst (pa_cons (pe_tup pa_nil) pa_nil)))
        (pss_cons (ps_for PassesOwn.never rfl (pi_range1 (by rfl) B.range (pa_cons (pv 1) pa_nil)) (pg_name (i := 3) sc_tuples_below.nd rfl (Or.inl rfl) (hf := (Or.inr rfl))) (pss_one (ps_setLc2 (i := 2) (own := [("row", 4), ("state", 5)]) (vs1 := [5]) (g := (gName 4)) (g1 := (gName 5)) rfl sc_tuples_below.nd rfl rfl (sw_true rfl rfl rfl (by decide +kernel)) (pi_list (pv 2)) (blkOk_by (own := [("row", 4), ("state", 5)]) (N := ["many", "rank", "found", "_", "row", "state"]) (sc := defScope s_tuples_below) (by decide +kernel)) (by decide) (fun _ _ _ _ _ => (pg_name (i := 4) sc_tuples_below.nd rfl (Or.inl rfl) (hf := (Or.inr rfl)))) (fun _ _ _ _ _ => pts_nil) (fun _ _ _ _ _ => (pi_range1 (by rfl) B.range (pa_cons (pv 0) pa_nil))) (fun _ _ _ _ _ => (pg_name (i := 5) sc_tuples_below.nd rfl (Or.inl rfl) (hf := (Or.inr rfl)))) (fun _ _ _ _ _ => pts_nil) (fun _ _ _ _ _ => (pe_op (r := rCatA K) op_catA (pv 4) (pe_tup (pa_cons (pv 5) pa_nil)))))))
        (pss_one (ps_ret (pv 2))))), ?_⟩
    cases ra
    cases rb
    refine s_set (K := K) (F := F0) (ev_lst (ds := [.tuple []]) (ea_cons (ev_tup ea_nil (Nat.zero_le _)) ea_nil) (by show 1 ≤ sizeLine; decide)) sm fun v F1 H1 g1 r1 => ?_
    refine s_for (K := K) (F := F1) (ds := rgs 0 2) g1.i (ew_rng1 (n := 2) (ea_cons (ev_var (i := 1) ⟨_, rfl, .int 2⟩) ea_nil) (by decide)) fun F2 H2 g2 =>
      ⟨fun i σ' F' H' => ∃ v y3, σ' = [some (.int 1), some (.int 2), some v, y3, none, none] ∧ Grow F2 H2 F' H' ∧ Dp K F' v (.list [.tuple (List.replicate i (.int 0))]),
        ⟨v, none, rfl, .start g2.i, r1.up g2.f⟩, fun i σ' F' H' h => ?_, fun i d σ' F' H' hd hI F3 H3 z g3 rz => ?_, fun σ' F' H' hI => ?_⟩
    · obtain ⟨_, _, _, g, _⟩ := h
      exact ⟨g.f, g.i⟩
    · obtain ⟨v, y3, rfl, g, rv⟩ := hI
      have hi : i < 2 := (rgs_get hd).1
      have q1 := ev_lc2 (K := K) (F := F3) (σ := [some (.int 1), some (.int 2), some v, some z, none, none]) (ds := [.tuple (List.replicate i (.int 0))]) (te := tOp (rCatA K) (tVar 4) (tTup (tCons (tVar 5) tNil))) (g := gName 4) (g1 := gName 5) (vs := [4, 5]) (vs1 := [5]) (wi := iList K (tVar 2)) (wi1 := iRng1 (tCons (tVar 0) tNil)) (fun _ => rgs 0 1) (fun d _ => .tuple (List.replicate (i + 1) (.int 0)))
        (ew_list (ev_var (i := 2) ⟨v, rfl, rv.up g3.f⟩)) (by show 1 < sizeLine; decide) fun d F' hd sF => by
          have ed : d = .tuple (List.replicate i (.int 0)) := by simpa using hd
          subst ed
          refine tk_name.imp fun σ2 hσ => ?_
          obtain ⟨u, rfl, ru⟩ := hσ
          refine ⟨rfl, ew_rng1 (n := 1) (ea_cons (ev_var (i := 0) ⟨_, rfl, .int 1⟩) ea_nil) (by decide), fun c F'' hc s2 => ?_⟩
          obtain ⟨j, hj⟩ := List.getElem?_of_mem hc
          obtain ⟨hj, rfl⟩ := rgs_get hj
          have ej : j = 0 := by omega
          subst ej
          refine tk_name.imp fun σ3 hσ3 => ?_
          obtain ⟨w, rfl, rw'⟩ := hσ3
          refine ⟨rfl, (ev_op (ev_var (i := 4) ⟨u, rfl, ru.up s2⟩) (ev_tup (ea_cons (ev_var (i := 5) ⟨w, rfl, rw'⟩) ea_nil) (by show 1 ≤ sizeLine; decide)) (rv_catT ?_)).is ?_⟩
          · have := small1000 (n := i + 1) (by omega)
            rw [List.length_replicate]
            show i + 1 ≤ sizeLine
            omega
          · rw [List.replicate_succ']
            rfl
      refine s_set q1 g3.i fun u F4 H4 g4 r4 => ?_
      exact ⟨F4, u, some z, rfl, (g.trans g3).trans g4, r4⟩
    · obtain ⟨v, y3, rfl, g, rv⟩ := hI
      exact s_ret (K := K) (F := F') (ev_var (i := 2) ⟨v, rfl, rv⟩) g.i fun v F5 H5 g5 r5 => q v F5 H5 (((g1.trans g2).trans g).trans g5) r5
/-! ### the set of all trees -/
def allD (xs : List PyData) : PyData := .tuple [.str "set", .tuple xs, .int 1, .tuple (xs.map fun _ => .tuple [.int 0]), .tuple [.int 0]]
end
end Sw
set_option Elab.async false
set_option linter.all false
set_option maxRecDepth 100000
set_option maxHeartbeats 2000000
set_option exponentiation.threshold 3000
namespace Sw
open PySem PySem.Spec PyProof.Rows L2
open C8 (Cal pe_c pe_gc)
section
variable {P : Program} {w : World} {K : PySem.W.Frag} {mg : Str → Option Value} {base : Heap} {f : Addr} {fd : FuncData} {aK CK CN CS : Addr}
/-! ### _is_goals -/
abbrev s__is_goals : Stmt := top 27
theorem sc__is_goals : FnScope ["row", "many", "rank", "goal"] ["row", "many", "rank"] (defScope s__is_goals) := ⟨rfl, rfl, rfl, by decide +kernel, rfl, by decide +kernel, by decide +kernel⟩
def g_is_goals (d n r : PyData) : Option PyData := match d, n, r with
  | .tuple [.int 0], .int n, .int r => if decide (n = 1) && (decide (0 ≤ r) && decide (r ≤ 3)) then some (.bool true) else none
  | _, _, _ => none
abbrev p__is_goals (K : PySem.W.Frag) : Sp := spD K (f3 g_is_goals)
theorem ok__is_goals (F : Fun K "_is_goals" "_is_goals" s__is_goals f fd) (B : BI mg) (c_is_row : Cal P w K mg base 1 "is_row" (p_is_row K) []) (c_is_between : Cal P w K mg base 2 "is_between" (p_is_between K) []) : FnOk P w K mg base CX0 3 f fd ["row", "many", "rank"] (p__is_goals K) := by
  refine F.ok sc__is_goals (fun vs H Q E h => len_f3 h) (fun cdv A outer s H vs Q E hr h => go3 h fun F0 a b c x y z d sm ra rb rc e ev q => ?_)
  subst ev
  match a, b, c, e with
  | .tuple [.int 0], .int n, .int r, e =>
    have e' : (if decide (n = 1) && (decide (0 ≤ r) && decide (r ≤ 3)) then some (PyData.bool true) else none) = some d := e
    split at e'
    case isFalse => cases e'
    rename_i hc
    cases e'
    rw [Bool.and_eq_true, Bool.and_eq_true, decide_eq_true_iff, decide_eq_true_iff, decide_eq_true_iff] at hc
    obtain ⟨rfl, h0, h3⟩ := hc
    refine ⟨_, (pss_cons (ps_if (pt_not (pt_val (pe_c c_is_row hr (by first | decide | omega) (by rfl) (pa_cons (pv 0) (pa_cons (pe_op (op_pow) (pv 1) (pe_op (op_mod) (pe_callTy (call_int1) (by rfl) B.int_ (by decide +kernel) (pa_cons (pv 2) pa_nil)) pe_int)) pa_nil))))) (pss_one (ps_ret pe_bl)) pss_nil)
        (pss_one (ps_ret (pe_callB (r := rAll K) (cr_all rfl) (by rfl) B.all (by decide +kernel) (pa_cons (pe_lc (own := [("goal", 3)]) (g := (gName 3)) rfl sc__is_goals.nd (pi_tup (pv 0)) (blkOk_by (own := [("goal", 3)]) (N := ["row", "many", "rank", "goal"]) (sc := defScope s__is_goals) (by decide +kernel)) (fun _ _ _ _ _ => (pg_name (i := 3) sc__is_goals.nd rfl (Or.inl rfl) (hf := (Or.inr rfl)))) (fun _ _ _ _ _ => pts_nil) (fun _ _ _ _ _ => (pe_c c_is_between hr (by first | decide | omega) (by rfl) (pa_cons (pv 3) (pa_cons pe_int (pa_cons (pe_op (op_sub) (pv 1) pe_int) pa_nil)))))) pa_nil))))), ?_⟩
    have s0 : Slot K (start ["row", "many", "rank", "goal"] [x, y, z]) F0 0 (.tuple [.int 0]) := ⟨x, rfl, ra⟩
    have s1 : Slot K (start ["row", "many", "rank", "goal"] [x, y, z]) F0 1 (.int 1) := ⟨y, rfl, rb⟩
    have s2 : Slot K (start ["row", "many", "rank", "goal"] [x, y, z]) F0 2 (.int r) := ⟨z, rfl, rc⟩
    have q2 := ev_op (ev1 (ev_var s2) rc_int) (ev_int (i := 4)) (rv_intC (C := fun _ j => 0 < j) (g := fun i j => i % j) (by decide))
    have q3 := (ev_op (ev_var s1) q2 (rv_intC (C := CPow) (g := fun i j => i ^ j.toNat) ⟨by omega, by omega, by decide⟩)).is (d1 := .int 1) (by rw [one_pow'])
    have q4 := eb_not (eb_val (ev_call (K := K) (f := f2 g_is_row) (E := C8.E0) (d := .bool true) (ea_cons (ev_var s0) (ea_cons q3 ea_nil)) rfl))
    refine (r_when q4 (fun h => nomatch h) fun _ => r_ret ?_ : Ret K _ _ F0 _) H sm _ q
    have q1 := ev_lc (K := K) (te := tCall (p_is_between K) [] C8.E0 (tCons (tVar 3) (tCons (tC (.int 0)) (tCons (tOp (rI0 fun i j => V.int (i - j)) (tVar 1) (tC (.int 1))) tNil)))) (tt := tYes) (g := gName 3) (vs := [3]) (fun _ => true) (fun d => .bool true) (ew_tup (ev_var s0)) (by show 1 < sizeLine; decide) fun d F' hd sF => by
      have ed : d = .int 0 := by simpa using hd
      subst ed
      refine tk_name.imp fun σ2 hσ => ?_
      obtain ⟨v, rfl, rv⟩ := hσ
      exact ⟨rfl, eb_yes, fun _ => ev_call (ea_cons (ev_var ⟨v, rfl, rv⟩) (ea_cons ev_int (ea_cons (ev_op (ev_var ⟨y, rfl, rb.up sF⟩) ev_int rv_int) ea_nil))) rfl⟩
    rw [made_map, map_bools] at q1
    exact ev1 q1 rc_all
/-! ### is_set -/
abbrev s_is_set : Stmt := top 26
theorem sc_is_set : FnScope ["thing", "kinds", "many", "rows", "takes", "row", "pair"] ["thing"] (defScope s_is_set) := ⟨rfl, rfl, rfl, by decide +kernel, rfl, by decide +kernel, by decide +kernel⟩
def g_is_set (d : PyData) : Option PyData := match d with
  | .tuple [_, .tuple xs, _, _, _] => if isKinds (.tuple xs) && PyData.eqv d (allD xs) then some (.bool true) else none
  | _ => none
/-- the set of all trees of kinds, told by its kinds -/
def isAll (d : PyData) : Prop := ∃ xs, d = allD xs ∧ isKinds (.tuple xs) = true
def spAll (K : PySem.W.Frag) (v : PyData) : Sp := fun vs H Q _ => ∃ F x xs, Same F H ∧ vs = [x] ∧ Dp K F x (allD xs) ∧ isKinds (.tuple xs) = true ∧ ∀ u F' H', Grow F H F' H' → Dp K F' u v → Q u H'
theorem ev_all {σ : L2.St} {F : Hp} {E : XK} {te : TE} {xs : List PyData} {v : PyData} (h : EvD K te σ F (allD xs)) (hk : isKinds (.tuple xs) = true) : EvD K (tCall (spAll K v) [] E (tCons te tNil)) σ F v := fun H s Q q =>
  h H s _ fun x F1 H1 g1 r1 => ⟨F1, x, xs, g1.i, rfl, r1, hk, fun u F2 H2 g2 r2 => q u F2 H2 (g1.trans g2) r2⟩
theorem ok_is_set (F : Fun K "is_set" "is_set" s_is_set f fd) (B : BI mg) (c_is_row : Cal P w K mg base 1 "is_row" (p_is_row K) []) (c_is_word : Cal P w K mg base 1 "is_word" (p_is_word K) []) (c_is_kinds : Cal P w K mg base 4 "is_kinds" (p_is_kinds K) [])
    (c_is_between : Cal P w K mg base 2 "is_between" (p_is_between K) []) (c_goals_in : Cal P w K mg base 1 "goals_in" (p_goals_in K) []) (c_is_rising_below : Cal P w K mg base 3 "is_rising_below" (p_is_rising_below K) []) (c__is_goals : Cal P w K mg base 3 "_is_goals" (p__is_goals K) []) :
    FnOk P w K mg base CX0 5 f fd ["thing"] (spAll K (.bool true)) := by
  refine F.ok sc_is_set (fun vs H Q E h => by obtain ⟨_, x, _, _, e, _⟩ := h; rw [e]; rfl) (fun cdv A outer s H vs Q E hr h => ?_)
  obtain ⟨F0, x, xs, sm, ev, ra, hk, q⟩ := h
  subst ev
  refine ⟨_, (pss_cons (ps_if (PW.pt (pw_or (pt_not (pt_val (pe_c c_is_row hr (by first | decide | omega) (by rfl) (pa_cons (pv 0) (pa_cons pe_int pa_nil))))) (pw_or1 (pt_not (pt_val (pe_c c_is_word hr (by first | decide | omega) (by rfl) (pa_cons (pe_ix (r := rIxT K) ix_tup (pv 0) pe_int (fun _ _ => rfl)) (pa_cons pe_str pa_nil)))))))) (pss_one (ps_ret pe_bl)) pss_nil)
        (pss_cons (ps_asg (pe_slice (r := rSlA K) sl_tupA (pv 0) (po_some pe_int) po_none) (pg_tup rfl (pgs_cons (pg_name (i := 1) sc_is_set.nd rfl (Or.inl rfl) (hf := (Or.inr rfl))) (pgs_cons (pg_name (i := 2) sc_is_set.nd rfl (Or.inr rfl) (hf := (Or.inl rfl))) (pgs_cons (pg_name (i := 3) sc_is_set.nd rfl (Or.inl rfl) (hf := (Or.inr rfl))) (pgs_cons (pg_name (i := 4) sc_is_set.nd rfl (Or.inl rfl) (hf := (Or.inr rfl))) pgs_nil))))))
        (pss_cons (ps_if (PW.pt (pw_or (pt_not (pt_val (pe_c c_is_kinds hr (by first | decide | omega) (by rfl) (pa_cons (pv 1) pa_nil)))) (pw_or (pt_not (pt_val (pe_c c_is_between hr (by first | decide | omega) (by rfl) (pa_cons (pv 2) (pa_cons pe_int (pa_cons pe_int pa_nil)))))) (pw_or1 (pt_cmpR (op_gt) (pe_c c_goals_in hr (by first | decide | omega) (by rfl) (pa_cons (pv 1) (pa_cons (pv 2) pa_nil))) pe_int (nomark _)))))) (pss_one (ps_ret pe_bl)) pss_nil)
        (pss_cons (ps_if (PW.pt (pw_or (pt_not (pt_val (pe_c c_is_row hr (by first | decide | omega) (by rfl) (pa_cons (pv 3) (pa_cons (pe_callB (r := rLen0 K) (call_len) (by rfl) B.len (by decide +kernel) (pa_cons (pv 1) pa_nil)) pa_nil))))) (pw_or1 (pt_not (pt_val (pe_c c_is_rising_below hr (by first | decide | omega) (by rfl) (pa_cons (pv 4) (pa_cons (pv 2) pa_nil)))))))) (pss_one (ps_ret pe_bl)) pss_nil)
        (pss_one (ps_ret (pe_callB (r := rAll K) (cr_all rfl) (by rfl) B.all (by decide +kernel) (pa_cons (pe_lc (own := [("row", 5), ("pair", 6)]) (g := (gTup K 2 (gCons (gName 5) (gCons (gName 6) gNil)))) rfl sc_is_set.nd (RZ.pi_zipA (by rfl) B.zip (pa_cons (pv 3) (pa_cons (pv 1) pa_nil))) (blkOk_by (own := [("row", 5), ("pair", 6)]) (N := ["thing", "kinds", "many", "rows", "takes", "row", "pair"]) (sc := defScope s_is_set) (by decide +kernel)) (fun _ _ _ _ _ => (pg_tup rfl (pgs_cons (pg_name (i := 5) sc_is_set.nd rfl (Or.inl rfl) (hf := (Or.inr rfl))) (pgs_cons (pg_name (i := 6) sc_is_set.nd rfl (Or.inl rfl) (hf := (Or.inr rfl))) pgs_nil)))) (fun _ _ _ _ _ => pts_nil) (fun _ _ _ _ _ => (pe_c c__is_goals hr (by first | decide | omega) (by rfl) (pa_cons (pv 5) (pa_cons (pv 2) (pa_cons (pe_ix (r := rIxT K) ix_tup (pv 6) pe_int (fun _ _ => rfl)) pa_nil)))))) pa_nil)))))))), ?_⟩
  have s0 : Slot K (start ["thing", "kinds", "many", "rows", "takes", "row", "pair"] [x]) F0 0 (allD xs) := ⟨x, rfl, ra⟩
  have hw1 := eb_val (ev_call (K := K) (f := f2 g_is_row) (E := C8.E0) (d := .bool true) (ea_cons (ev_var s0) (ea_cons (ev_int (i := 5)) ea_nil)) rfl)
  have hw2 := eb_val (ev_call (K := K) (f := f2 g_is_word) (E := C8.E0) (d := .bool true) (ea_cons (ev_op (ev_var s0) ev_int (rv_ixT (k := 0) rfl)) (ea_cons (ev_str (x := "set")) ea_nil)) rfl)
  refine (r_when (eb_or (eb_not hw1) fun _ => eb_not hw2) (fun h => nomatch h) fun _ => ?_ : Ret K _ _ F0 _) H sm _ q
  have hs : EvD K (tSl (rSlA K) (tVar 0) (tPart (tC (.int 1))) tNoPart) (start ["thing", "kinds", "many", "rows", "takes", "row", "pair"] [x]) F0 (.tuple [.tuple xs, .int 1, .tuple (xs.map fun _ => .tuple [.int 0]), .tuple [.int 0]]) := ev_sl (ev_var s0) (eo_some ev_int) eo_none (rs_tup (lo := some 1) (hi := none))
  refine r_asg hs (fun F' _ => tk_four) fun σ2 F1 g1 hσ => ?_
  obtain ⟨v1, v2, v3, v4, rfl, r1, r2, r3, r4⟩ := hσ
  have e1 : EvD K (tVar 1) [some x, some v1, some v2, some v3, some v4, none, none] F1 (.tuple xs) := ev_var ⟨v1, rfl, r1⟩
  have e2 : EvD K (tVar 2) [some x, some v1, some v2, some v3, some v4, none, none] F1 (.int 1) := ev_var ⟨v2, rfl, r2⟩
  have e3 : EvD K (tVar 3) [some x, some v1, some v2, some v3, some v4, none, none] F1 (.tuple (xs.map fun _ => .tuple [.int 0])) := ev_var ⟨v3, rfl, r3⟩
  have e4 : EvD K (tVar 4) [some x, some v1, some v2, some v3, some v4, none, none] F1 (.tuple [.int 0]) := ev_var ⟨v4, rfl, r4⟩
  obtain ⟨h6, hx⟩ := kinds_ranks hk
  have t1 := eb_val (ev_call (K := K) (f := f1 g_is_kinds) (E := C8.E0) (d := .bool true) (ea_cons e1 ea_nil) ((if_pos (kinds_fit hk)).trans (by rw [hk])))
  have t2 := eb_val (ev_call (K := K) (f := f3 g_is_between) (E := C8.E0) (d := .bool true) (ea_cons e2 (ea_cons (ev_int (i := 1)) (ea_cons (ev_int (i := 60)) ea_nil))) rfl)
  have t3 : EvB (tTest (tOp (rI0 fun i j => V.bl (decide (i > j))) (tCall (p_goals_in K) [] C8.E0 (tCons (tVar 1) (tCons (tVar 2) tNil))) (tC (.int 4000)))) _ F1 _ := eb_test (ev_op (ev_call (K := K) (f := f2 g_goals_in) (E := C8.E0) (d := .int (xs.length : Int)) (ea_cons e1 (ea_cons e2 ea_nil)) (if_pos (by rw [hk]; rfl))) (ev_int (i := 4000)) (rv_bl (g := fun i j => decide (i > j))))
  have t3' := t3.is (c := false) (decide_eq_false (by omega))
  refine r_when (eb_or (eb_not t1) fun _ => eb_or (eb_not t2) fun _ => t3') (fun h => nomatch h) fun _ => ?_
  have t4 := eb_val (ev_call (K := K) (f := f2 g_is_row) (E := C8.E0) (d := .bool true) (ea_cons e3 (ea_cons (ev1 e1 rc_lenT) ea_nil)) (by
    show some (PyData.bool (decide (((xs.map fun _ => PyData.tuple [.int 0]).length : Int) = (xs.length : Int)))) = _
    rw [List.length_map, decide_eq_true rfl]))
  have t5 := eb_val (ev_call (K := K) (f := f2 g_is_rising_below) (E := C8.E0) (d := .bool true) (ea_cons e4 (ea_cons e2 ea_nil)) (by
    show (if fitsT (.tuple [.int 0]) then some (PyData.bool (isRisingBelow (.tuple [.int 0]) 1)) else none) = _
    rw [if_pos (by show decide (1 < sizeLine) = true; decide)]
    rfl))
  refine r_when (eb_or (eb_not t4) fun _ => eb_not t5) (fun h => nomatch h) fun _ => r_ret ?_
  have q1 := ev_lc (K := K) (te := tCall (p__is_goals K) [] C8.E0 (tCons (tVar 5) (tCons (tVar 2) (tCons (tOp (rIxT K) (tVar 6) (tC (.int 1))) tNil)))) (tt := tYes) (g := gTup K 2 (gCons (gName 5) (gCons (gName 6) gNil))) (vs := [5, 6]) (fun _ => true) (fun d => .bool true) (ew_zipAT (ea_cons e3 (ea_cons e1 ea_nil))) (small1000 (by rw [pairs_len, List.length_map]; omega)) fun d F' hd sF => by
    obtain ⟨i, hi⟩ := List.getElem?_of_mem hd
    obtain ⟨a, b, ha, hb, rfl⟩ := pairs_get hi
    obtain ⟨n, r, rfl, h0, h3⟩ := hx b (List.mem_of_getElem? hb)
    rw [List.getElem?_map, hb] at ha
    cases ha
    refine tk_two.imp fun σ2 hσ => ?_
    obtain ⟨u1, u2, rfl, ru1, ru2⟩ := hσ
    refine ⟨rfl, eb_yes, fun _ => ev_call (ea_cons (ev_var (i := 5) ⟨u1, rfl, ru1⟩) (ea_cons (ev_var (i := 2) ⟨v2, rfl, r2.up sF⟩) (ea_cons (ev_op (ev_var (i := 6) ⟨u2, rfl, ru2⟩) ev_int (rv_ixT (k := 1) rfl)) ea_nil))) (if_pos ?_)⟩
    rw [decide_eq_true h0, decide_eq_true h3]
    rfl
  rw [made_map, map_bools] at q1
  refine (ev1 q1 rc_all).is (congrArg PyData.bool ?_)
  rw [all_bools]
  exact List.all_eq_true.mpr fun _ _ => rfl
/-! ### check_set -/
abbrev s_check_set : Stmt := top 28
theorem sc_check_set : FnScope ["trees"] ["trees"] (defScope s_check_set) := ⟨rfl, rfl, rfl, by decide +kernel, rfl, by decide +kernel, by decide +kernel⟩
theorem ok_check_set (F : Fun K "check_set" "check_set" s_check_set f fd) (c_is_set : Cal P w K mg base 5 "is_set" (spAll K (.bool true)) []) (X_BadSet : Rse K mg "BadSet" CS) : FnOk P w K mg base (L2.CX P w) 6 f fd ["trees"] (spAll K .none) := by
  refine F.okX sc_check_set (fun vs H Q E h => by obtain ⟨_, x, _, _, e, _⟩ := h; rw [e]; rfl) (fun cdv A outer s H vs Q E hr h => ?_)
  obtain ⟨F0, x, xs, sm, ev, ra, hk, q⟩ := h
  subst ev
  refine ⟨_, (pss_one (ps_if (pt_not (pt_val (pe_c c_is_set hr (by first | decide | omega) (by rfl) (pa_cons (pv 0) pa_nil)))) (pss_one (ps_raise rfl (takes_of rfl rfl rfl rfl) (pmk_own PySem.F.excBase_ValueError X_BadSet.e X_BadSet.g X_BadSet.k (raises_own X_BadSet.b X_BadSet.t) (by exact rfl)))) pss_nil)), ?_⟩
  have s0 : Slot K (start ["trees"] [x]) F0 0 (allD xs) := ⟨x, rfl, ra⟩
  refine s_if (eb_not (eb_val (ev_all (E := C8.E0) (ev_var s0) hk))) sm (fun h => nomatch h) fun _ F1 H1 g1 => q .non F1 H1 g1 .non
end
end Sw
set_option Elab.async false
set_option linter.all false
set_option maxRecDepth 100000
set_option maxHeartbeats 400000
/-! W6: own lists of own lists, walks over them. -/
namespace Sw
open PySem PySem.Spec PyProof.Rows L2
open C8 (Cal pe_c pe_gc)
section
variable {K : PySem.W.Frag} {σ : L2.St} {F H : Hp} {te ta : TE} {d : PyData} {D : Ends} {g : TG} {tb : TS}
/-- a, b = e -/
theorem s_asg {P : Hp → L2.St → Prop} (h : EvD K te σ F d) (s : Same F H) (hg : ∀ F', Same F F' → Tk K g d σ F' (P F')) (k : ∀ σ2 F' H', Grow F H F' H' → P F' σ2 → D.nx σ2 H') : tAsg te g D σ H :=
  h H s _ fun v F1 H1 g1 r1 => hg F1 g1.f v H1 g1.i r1 _ fun σ2 p => k σ2 F1 H1 g1 p
/-- [[0] for _ in one thing]: both lists are one's own -/
theorem lc_own {wi : TI} {vs : List Nat} {j : Int} {Q : VK} (hw : EvW K wi σ F [d]) (s : Same F H) (hT : ∀ F', Same F F' → Tk K g d (wipe σ vs) F' fun σ2 => wipe σ2 vs = wipe σ vs)
    (k : ∀ a b F' H', Grow F H F' H' → a ≠ b → F' a = none → F' b = none → H a = none → H b = none → H' a = some (.lst [.ref b]) → H' b = some (.lst [.int j]) → Q (.ref a) H') :
    tLc wi g tYes (tLst (tCons (tC (.int j)) tNil)) vs σ H Q := hw H s _ fun J F1 H1 g1 wk => by
  intro a ha
  refine ⟨fun i m H2 => (i = 0 ∧ m = 1 ∧ H2 = upd H1 a (.lst [])) ∨ (i = 1 ∧ m = 0 ∧ ∃ b F2, Grow F1 H1 F2 H2 ∧ a ≠ b ∧ F2 a = none ∧ F2 b = none ∧ H1 b = none ∧ H2 a = some (.lst [.ref b]) ∧ H2 b = some (.lst [.int j])), ⟨1, .inl ⟨rfl, rfl, rfl⟩⟩, fun i m H2 hW => ?_⟩
  rcases hW with ⟨rfl, rfl, rfl⟩ | ⟨rfl, rfl, b, F2, g2, n1, n2, n3, n4, e1, e2⟩
  · have s1 : Same F1 (upd H1 a (.lst [])) := g1.i.trans (same_upd ha)
    obtain ⟨go, yl⟩ := (wk 0 _ s1).1 d rfl
    refine .inr ⟨go, fun H3 => ∃ b F2, Grow F1 H1 F2 H3 ∧ a ≠ b ∧ F2 a = none ∧ F2 b = none ∧ H1 b = none ∧ H3 a = some (.lst [.ref b]) ∧ H3 b = some (.lst [.int j]), fun H3 h3 => ⟨0, by omega, .inr ⟨rfl, rfl, h3⟩⟩, fun x H3 hy => ?_⟩
    obtain ⟨F3, g3, rx⟩ := yl x H3 hy
    have gg : Grow F1 H1 F3 H3 := (Grow.own g1.i ha).trans g3
    refine hT F3 (g1.f.trans gg.f) x H3 g3.i rx _ fun σ2 w2 => ⟨w2, yes_then ?_⟩
    refine ⟨(by show 1 ≤ sizeLine; decide), fun b hb => ?_⟩
    have ea : H3 a = some (.lst []) := g3.h _ _ upd_same
    have nab : a ≠ b := fun z => by
      rw [z, hb] at ea
      cases ea
    have na : F3 a = none := free_of g3 (g1.i.free ha) upd_same
    have nb : F3 b = none := g3.i.free hb
    have hb1 : H1 b = none := gg.h.free hb
    refine ⟨[], upd_at nab ea, (by show 0 < sizeLine; decide), b, F3, grow_own (grow_own gg hb1 nb) ha na, nab, na, nb, hb1, upd_same, ?_⟩
    rw [upd_ne nab.symm]
    exact upd_same
  · exact .inl ⟨(wk 1 H2 g2.same |> fun _ => (wk.up g2.f 1 H2 g2.i).2 rfl), k a b F2 H2 (g1.trans g2) n1 n2 n3 (g1.h.free ha) (g1.h.free n4) e1 e2⟩
theorem s_lcOwn {wi : TI} {vs : List Nat} {j : Int} {i : Nat} (hw : EvW K wi σ F [d]) (s : Same F H) (hT : ∀ F', Same F F' → Tk K g d (wipe σ vs) F' fun σ2 => wipe σ2 vs = wipe σ vs)
    (k : ∀ a b F' H', Grow F H F' H' → a ≠ b → F' a = none → F' b = none → H a = none → H b = none → H' a = some (.lst [.ref b]) → H' b = some (.lst [.int j]) → D.nx (σ.set i (some (.ref a))) H') :
    tAsg (tLc wi g tYes (tLst (tCons (tC (.int j)) tNil)) vs) (gName i) D σ H := lc_own hw s hT k
theorem s_ifV {tt : TT} {ta tb : TE} {b : Bool} {i : Nat} (h : EvB tt σ F b) (s : Same F H) (k : ∀ F' H', Grow F H F' H' → if b = true then ta σ H' (fun v H2 => D.nx (σ.set i (some v)) H2) else tb σ H' (fun v H2 => D.nx (σ.set i (some v)) H2)) : tAsg (tIf tt ta tb) (gName i) D σ H :=
  h H s _ k
/-- for (i, x) in enumerate(l), l one's own -/
theorem s_forE {a : Addr} {xs : List V} {i0 : Nat} (h : σ[i0]? = some (some (.ref a))) (I : Nat → L2.St → Hp → Prop) (hI0 : I 0 σ H) (hk : ∀ i σ' H', I i σ' H' → H' a = some (.lst xs))
    (hs : ∀ i x σ' H', xs[i]? = some x → I i σ' H' → ∀ T, H' T = none → g (.ref T) σ' (upd H' T (.tup [.int (i : Int), x])) fun σ2 H3 => tb { D with nx := fun σ3 H4 => I (i + 1) σ3 H4, ct := fun σ3 H4 => I (i + 1) σ3 H4, bk := D.nx } σ2 H3)
    (he : ∀ σ' H', I xs.length σ' H' → D.nx σ' H') : tFor (iEnum K (tCons (tVar i0) tNil)) g tb D σ H := by
  refine ⟨.ref a, h, a, xs, rfl, .inl (.inl (hk _ _ _ hI0)), ?_⟩
  refine ⟨fun i m σ' H' => m = xs.length - i ∧ i ≤ xs.length ∧ I i σ' H', ⟨xs.length, by simp, Nat.zero_le _, hI0⟩, fun i m σ' H' hW => ?_⟩
  obtain ⟨rfl, hi, hIi⟩ := hW
  have hq : SqL K H' a xs := .inl (.inl (hk _ _ _ hIi))
  by_cases hlt : i < xs.length
  · have hx : xs[i]? = some xs[i] := List.getElem?_eq_getElem hlt
    refine .inr ⟨⟨xs, _, hq, hx⟩, fun σ3 H4 => I (i + 1) σ3 H4, fun σ3 H4 h4 => ⟨_, ?_, rfl, hlt, h4⟩, fun v H2 hy => ?_⟩
    · show xs.length - (i + 1) < xs.length - i
      omega
    · obtain ⟨T, x, rfl, hT, rfl, hx2⟩ := hy
      have ex : xs[i] = x := Option.some.inj (hx.symm.trans (hx2 xs hq))
      subst ex
      exact hs i _ σ' H' hx hIi T hT
  · have ei : i = xs.length := by omega
    refine .inl ⟨⟨xs, hq, by omega⟩, ?_⟩
    rw [ei] at hIi
    exact he σ' H' hIi
end
end Sw
set_option Elab.async false
set_option linter.all false
set_option maxRecDepth 100000
set_option maxHeartbeats 1000000
set_option exponentiation.threshold 3000
namespace Sw
open PySem PySem.Spec PyProof.Rows L2
open C8 (Cal pe_c pe_gc)
section
variable {P : Program} {w : World} {K : PySem.W.Frag} {mg : Str → Option Value} {base : Heap} {f : Addr} {fd : FuncData} {aK CK CN CS : Addr}
/-! ### _has_rank -/
abbrev s__has_rank : Stmt := top 30
theorem sc__has_rank : FnScope ["trees", "rank", "pair"] ["trees", "rank"] (defScope s__has_rank) := ⟨rfl, rfl, rfl, by decide +kernel, rfl, by decide +kernel, by decide +kernel⟩
def g_has_rank (d r : PyData) : Option PyData := match d, r with
  | .tuple [_, .tuple xs, _, _, _], .int r => if isKinds (.tuple xs) then some (.bool (decide (r ∈ xs.map fun d => intD (sndD d)))) else none
  | _, _ => none
abbrev p__has_rank (K : PySem.W.Frag) : Sp := spD K (f2 g_has_rank)
theorem ok__has_rank (F : Fun K "_has_rank" "_has_rank" s__has_rank f fd) : FnOk P w K mg base CX0 1 f fd ["trees", "rank"] (p__has_rank K) := by
  refine F.ok sc__has_rank (fun vs H Q E h => len_f2 h) (fun cdv A outer s H vs Q E hr h => go2 h fun F0 a b x y d sm ra rb e ev q => ?_)
  subst ev
  match a, b, e with
  | .tuple [z1, .tuple xs, z2, z3, z4], .int r, e =>
    have e' : (if isKinds (.tuple xs) then some (PyData.bool (decide (r ∈ xs.map fun d => intD (sndD d)))) else none) = some d := e
    split at e'
    case isFalse => cases e'
    rename_i hk
    cases e'
    obtain ⟨h6, hx⟩ := kinds_ranks hk
    refine ⟨_, (pss_one (ps_ret (pe_cmpR (r := rIn K false) (op_in_seq) (pv 1) (pe_lc (own := [("pair", 2)]) (g := (gName 2)) rfl sc__has_rank.nd (pi_tup (pe_ix (r := rIxT K) ix_tup (pv 0) pe_int (fun _ _ => rfl))) (blkOk_by (own := [("pair", 2)]) (N := ["trees", "rank", "pair"]) (sc := defScope s__has_rank) (by decide +kernel)) (fun _ _ _ _ _ => (pg_name (i := 2) sc__has_rank.nd rfl (Or.inl rfl) (hf := (Or.inr rfl)))) (fun _ _ _ _ _ => pts_nil) (fun _ _ _ _ _ => (pe_ix (r := rIxT K) ix_tup (pv 2) pe_int (fun _ _ => rfl)))) (by rfl)))), ?_⟩
    have s0 : Slot K (start ["trees", "rank", "pair"] [x, y]) F0 0 (.tuple [z1, .tuple xs, z2, z3, z4]) := ⟨x, rfl, ra⟩
    have s1 : Slot K (start ["trees", "rank", "pair"] [x, y]) F0 1 (.int r) := ⟨y, rfl, rb⟩
    refine (r_ret ?_ : Ret K _ _ F0 _) H sm _ q
    have q1 := ev_lc (K := K) (te := tOp (rIxT K) (tVar 2) (tC (.int 1))) (tt := tYes) (g := gName 2) (vs := [2]) (fun _ => true) sndD (ew_tup (ev_op (ev_var s0) (ev_int (i := 1)) (rv_ixT (k := 1) rfl))) (small1000 (by omega)) fun d F' hd sF => by
      obtain ⟨n, r, rfl, _⟩ := hx d hd
      refine tk_name.imp fun σ2 hσ => ?_
      obtain ⟨v, rfl, rv⟩ := hσ
      exact ⟨rfl, eb_yes, fun _ => ev_op (ev_var ⟨v, rfl, rv⟩) (ev_int (i := 1)) (rv_ixT (k := 1) rfl)⟩
    rw [made_map, show xs.map sndD = (xs.map fun d => intD (sndD d)).map .int by
      rw [List.map_map]
      refine List.map_congr_left fun d hd => ?_
      obtain ⟨n, r, rfl, _⟩ := hx d hd
      rfl] at q1
    exact ev_op (ev_var s1) q1 (rv_inL mem_int)
theorem ev_neg {σ : L2.St} {F : Hp} {te : TE} {i : Int} (h : EvD K te σ F (.int i)) : EvD K (tUn (rU fun i => V.int (-i)) te) σ F (.int (-i)) := fun H s Q q => h H s _ fun v F1 H1 g1 r1 => by
  cases r1
  exact ⟨i, rfl, q _ F1 H1 g1 (.int _)⟩
/-! ### _together -/
abbrev s__together : Stmt := top 31
theorem sc__together : FnScope ["first", "second", "nodes", "x", "y"] ["first", "second", "nodes"] (defScope s__together) := ⟨rfl, rfl, rfl, by decide +kernel, rfl, by decide +kernel, by decide +kernel⟩
/-- how often n trees' nodes come together, the first's n from 1 on -/
def tog (f g : Nat → Nat) (n : Nat) : Nat := ((List.range (n - 1)).map fun i => f (i + 1) * g (n - 1 - i)).sum
def spTog (K : PySem.W.Frag) : Sp := fun vs H Q _ => ∃ F x y f g a b n, Same F H ∧ vs = [x, y, .int ((n : Nat) : Int)] ∧ Dp K F x (.list (ld f a)) ∧ Dp K F y (.list (ld g b)) ∧ n ≤ a ∧ n ≤ b ∧ n ≤ 200 ∧ (∀ k, k ≤ n → f k < 2 ^ 2050) ∧ (∀ k, k ≤ n → g k < 2 ^ 2050) ∧
  ∀ F' H', Grow F H F' H' → Q (.int ((tog f g n : Nat) : Int)) H'
theorem ev_tog {σ : L2.St} {F : Hp} {E : XK} {tx ty tn : TE} {f g : Nat → Nat} {a b n : Nat} (hx : EvD K tx σ F (.list (ld f a))) (hy : EvD K ty σ F (.list (ld g b))) (hn : EvD K tn σ F (.int (n : Int))) (ha : n ≤ a) (hb : n ≤ b) (h2 : n ≤ 200) (hf : ∀ k, k ≤ n → f k < 2 ^ 2050) (hg : ∀ k, k ≤ n → g k < 2 ^ 2050) :
    EvD K (tCall (spTog K) [] E (tCons tx (tCons ty (tCons tn tNil)))) σ F (.int ((tog f g n : Nat) : Int)) := fun H s Q q =>
  ea_cons hx (ea_cons hy (ea_cons hn ea_nil)) H s _ fun vs F1 H1 g1 r1 => by
    match vs, r1 with
    | [x, y, z], .cons rx (.cons ry (.cons rz .nil)) =>
      cases rz
      exact ⟨F1, x, y, f, g, a, b, n, g1.i, rfl, rx, ry, ha, hb, h2, hf, hg, fun F2 H2 g2 => q _ F2 H2 (g1.trans g2) (.int _)⟩
theorem mul_bits2 {a b : Nat} (ha : a < 2 ^ 2050) (hb : b < 2 ^ 2050) : CMulW (a : Int) (b : Int) := wide_mul (a := 2050) (b := 2050) (by rw [Int.natAbs_natCast]; exact ha) (by rw [Int.natAbs_natCast]; exact hb) (by decide) (by decide) (by decide)
theorem cut_first {f : Nat → Nat} {a n : Nat} (ha : n ≤ a) : cutD (ld f a) (some 1) (some (n : Int)) = (List.range (n - 1)).map fun i => PyData.int ((f (i + 1) : Nat) : Int) := by
  unfold cutD
  rw [ld_len, show (1 : Int) = ((1 : Nat) : Int) from rfl, HT.sIx_nat, HT.sIx_nat]
  have e1 : min n a = n := Nat.min_eq_left ha
  rw [e1]
  by_cases h : n = 0
  · subst h
    rw [Nat.zero_sub, List.take_zero]
    rfl
  · have e2 : min 1 a = 1 := Nat.min_eq_left (by omega)
    rw [e2]
    refine List.ext_getElem? fun i => ?_
    rw [List.getElem?_map]
    by_cases hi : i < n - 1
    · rw [List.getElem?_take_of_lt hi, List.getElem?_drop, Nat.add_comm 1 i, ld_get (by omega), List.getElem?_range hi]
      rfl
    · rw [List.getElem?_eq_none (by rw [List.length_take]; omega), List.getElem?_eq_none (by rw [List.length_range]; omega)]
      rfl
theorem cut_back {g : Nat → Nat} {b n : Nat} (hb : n + 1 ≤ b) : ((places (ld g b).length (some (((n + 1 : Nat) : Int) - 1)) (some 0) (some (-1))).filterMap fun j => (ld g b)[j]?) = (List.range n).map fun i => PyData.int ((g (n - i) : Nat) : Int) := by
  have e : places (ld g b).length (some (((n + 1 : Nat) : Int) - 1)) (some 0) (some (-1)) = (List.range n).map fun i => n - i := by
    rw [ld_len]
    have e1 : sliceBounds (some (((n + 1 : Nat) : Int) - 1)) (some 0) (some (-1)) b = ((n : Int), 0, -1) := by
      unfold sliceBounds
      have h1 : ¬ (((n + 1 : Nat) : Int) - 1 < 0) := by omega
      simp only [Option.getD_some, h1, if_false, show ¬ ((-1 : Int) > 0) by decide, show ¬ ((0 : Int) < 0) by decide]
      refine Prod.ext ?_ (Prod.ext ?_ rfl)
      · show max (-1) (min (((n + 1 : Nat) : Int) - 1) ((b : Int) - 1)) = (n : Int)
        omega
      · show max (-1) (min 0 ((b : Int) - 1)) = (0 : Int)
        omega
    unfold places
    rw [e1]
    show sliceRange (n : Int) 0 (-1) = _
    unfold sliceRange
    have e2 : (if (-1 : Int) > 0 then (if (n : Int) < 0 then (0 - (n : Int) + -1 - 1) / -1 else 0) else (if (n : Int) > 0 then ((n : Int) - 0 - -1 - 1) / -(-1) else 0)) = (n : Int) := by
      rw [if_neg (by decide)]
      by_cases h : (n : Int) > 0
      · rw [if_pos h]
        show ((n : Int) - 0 - -1 - 1) / 1 = _
        rw [Int.ediv_one]
        omega
      · rw [if_neg h]
        omega
    rw [e2]
    show (List.range (n : Int).toNat).map _ = _
    rw [Int.toNat_natCast]
    refine List.map_congr_left fun k hk => ?_
    have := List.mem_range.mp hk
    omega
  rw [e, List.filterMap_map]
  have z : ∀ l : List Nat, (∀ i ∈ l, i < n) → l.filterMap ((fun j => (ld g b)[j]?) ∘ fun i => n - i) = l.map fun i => PyData.int ((g (n - i) : Nat) : Int) := by
    intro l
    induction l with
    | nil => intro _; rfl
    | cons i l ih =>
      intro hl
      have hi := hl i List.mem_cons_self
      rw [List.filterMap_cons_some (show ((fun j => (ld g b)[j]?) ∘ fun i => n - i) i = _ from ld_get (show n - i < b by omega)), ih fun j hj => hl j (List.mem_cons_of_mem _ hj)]
      rfl
  exact z _ fun i hi => List.mem_range.mp hi
theorem ok__together (F : Fun K "_together" "_together" s__together f fd) (B : BI mg) : FnOk P w K mg base CX0 1 f fd ["first", "second", "nodes"] (spTog K) := by
  refine F.ok sc__together (fun vs H Q E h => by obtain ⟨_, x, y, _, _, _, _, n, _, e, _⟩ := h; rw [e]; rfl) (fun cdv A outer s H vs Q E hr h => ?_)
  obtain ⟨F0, x, y, f, g, a, b, n, sm, ev, rx, ry, ha, hb, h2, hf, hg, q⟩ := h
  subst ev
  refine ⟨_, (pss_one (ps_ret (pe_callB (r := rSum K) (cr_sum rfl) (by rfl) B.sum (by decide +kernel) (pa_cons (pe_lc (own := [("x", 3), ("y", 4)]) (g := (gTup K 2 (gCons (gName 3) (gCons (gName 4) gNil)))) rfl sc__together.nd (pi_zip (by rfl) B.zip (pa_cons (pe_slice (r := rSlL K) sl_list (pv 0) (po_some pe_int) (po_some (pv 2))) (pa_cons (pe_step (pv 1) (po_some (pe_op (op_sub) (pv 2) pe_int)) (po_some pe_int) (po_some (pe_un un_neg pe_int))) pa_nil))) (blkOk_by (own := [("x", 3), ("y", 4)]) (N := ["first", "second", "nodes", "x", "y"]) (sc := defScope s__together) (by decide +kernel)) (fun _ _ _ _ _ => (pg_tup rfl (pgs_cons (pg_name (i := 3) sc__together.nd rfl (Or.inl rfl) (hf := (Or.inr rfl))) (pgs_cons (pg_name (i := 4) sc__together.nd rfl (Or.inl rfl) (hf := (Or.inr rfl))) pgs_nil)))) (fun _ _ _ _ _ => pts_nil) (fun _ _ _ _ _ => (pe_op (op_mulW) (pv 3) (pv 4)))) pa_nil)))), ?_⟩
  have s0 : EvD K (tVar 0) (start ["first", "second", "nodes", "x", "y"] [x, y, .int (n : Int)]) F0 (.list (ld f a)) := ev_var ⟨x, rfl, rx⟩
  have s1 : EvD K (tVar 1) (start ["first", "second", "nodes", "x", "y"] [x, y, .int (n : Int)]) F0 (.list (ld g b)) := ev_var ⟨y, rfl, ry⟩
  have s2 : EvD K (tVar 2) (start ["first", "second", "nodes", "x", "y"] [x, y, .int (n : Int)]) F0 (.int (n : Int)) := ev_var ⟨_, rfl, .int _⟩
  have c1 := ev_sl s0 (eo_some (ev_int (i := 1))) (eo_some s2) (rs_list (lo := some 1) (hi := some (n : Int)))
  have c2 := ev_step s1 (eo_some (ev_op s2 (ev_int (i := 1)) (rv_int (g := fun i j => i - j)))) (eo_some (ev_int (i := 0))) (eo_some (ev_neg (ev_int (i := 1)))) (by decide)
  rw [cut_first ha] at c1
  obtain ⟨l2, c2', hl2⟩ : ∃ l2, EvD K (tStep K (tVar 1) (tPart (tOp (rI0 fun i j => V.int (i - j)) (tVar 2) (tC (.int 1)))) (tPart (tC (.int 0))) (tPart (tUn (rU fun i => V.int (-i)) (tC (.int 1))))) (start ["first", "second", "nodes", "x", "y"] [x, y, .int (n : Int)]) F0 (.list l2) ∧
      pairs ((List.range (n - 1)).map fun i => PyData.int ((f (i + 1) : Nat) : Int)) l2 = (List.range (n - 1)).map fun i => .tuple [.int ((f (i + 1) : Nat) : Int), .int ((g (n - 1 - i) : Nat) : Int)] := by
    refine ⟨_, c2, ?_⟩
    match n, hb with
    | 0, _ => rfl
    | n + 1, hb =>
      rw [show (-(1 : Int)) = -1 from rfl, cut_back hb]
      unfold pairs
      rw [List.zipWith_map, Nat.add_sub_cancel, List.zipWith_self]
  have q1 := ev_lc (K := K) (te := tOp (rI CMulW fun i j => V.int (i * j)) (tVar 3) (tVar 4)) (tt := tYes) (g := gTup K 2 (gCons (gName 3) (gCons (gName 4) gNil))) (vs := [3, 4]) (fun _ => true) (fun d => .int (intD (fstD d) * intD (sndD d))) (ew_zipL (ea_cons c1 (ea_cons c2' ea_nil))) (by
    rw [hl2, List.length_map, List.length_range]
    exact small1000 (by omega)) fun d F' hd sF => by
      rw [hl2] at hd
      obtain ⟨i, hi, rfl⟩ := List.mem_map.mp hd
      have hi' := List.mem_range.mp hi
      refine tk_two.imp fun σ2 hσ => ?_
      obtain ⟨u1, u2, rfl, ru1, ru2⟩ := hσ
      exact ⟨rfl, eb_yes, fun _ => ev_op (ev_var (i := 3) ⟨u1, rfl, ru1⟩) (ev_var (i := 4) ⟨u2, rfl, ru2⟩) (rv_intC (mul_bits2 (hf _ (by omega)) (hg _ (by omega))))⟩
  rw [made_map, hl2, List.map_map] at q1
  refine (r_ret ((ev1 (q1.is (congrArg PyData.list ?_)) (rc_sum (ns := (List.range (n - 1)).map fun i => ((f (i + 1) * g (n - 1 - i) : Nat) : Int)))).is ?_) : Ret K _ _ F0 (.int ((tog f g n : Nat) : Int))) H sm _ fun v F' H' g' r' => ?_
  · rw [List.map_map]
    refine List.map_congr_left fun i _ => ?_
    show PyData.int (((f (i + 1) : Nat) : Int) * ((g (n - 1 - i) : Nat) : Int)) = _
    rw [← Int.natCast_mul]
    rfl
  · rw [sum_map_cast]
    rfl
  · cases r'
    exact q F' H' g'
end
end Sw
set_option Elab.async false
set_option linter.all false
set_option maxRecDepth 100000
set_option maxHeartbeats 1000000
set_option exponentiation.threshold 3000
namespace Sw
open PySem PySem.Spec PyProof.Rows L2
open C8 (Cal pe_c pe_gc)
section
variable {P : Program} {w : World} {K : PySem.W.Frag} {mg : Str → Option Value} {base : Heap} {f : Addr} {fd : FuncData} {aK CK CN CS : Addr}
/-- xs[k] += j; the place and j come from what is known -/
theorem s_augF {D : Ends} {σ : L2.St} {F H : Hp} {to ti te : TE} {l : Addr} {xs : List V} {k : Nat} {i j : Int} (ho : Now to σ H (.ref l)) (hl : H l = some (.lst xs)) (hi : EvD K ti σ F (.int (k : Int))) (hk : xs[k]? = some (.int i)) (he : EvD K te σ F (.int j)) (s : Same F H)
    (kk : ∀ F' H', Grow F H F' H' → D.nx σ (upd H' l (.lst (xs.set k (.int (i + j)))))) : tAugS to ti te (rIxP K) (ipI fun i j => i + j) rSetL D σ H :=
  ho _ (hi H s _ fun v1 F1 H1 g1 r1 => by
    cases r1
    have e1 : H1 l = some (.lst xs) := g1.h _ _ hl
    refine ⟨l, xs, k, .int i, rfl, rfl, .inl (.inl e1), hk, he.up g1.f H1 g1.i _ fun v F' H' g r => ?_⟩
    cases r
    refine ⟨i, j, rfl, rfl, l, xs, (k : Int), k, rfl, rfl, g.h _ _ e1, ?_, kk F' H' (g1.trans g)⟩
    have hlt := (List.getElem?_eq_some_iff.mp hk).1
    unfold ixN
    rw [if_pos (Int.natCast_nonneg k), if_pos (by omega), Int.toNat_natCast])
theorem sumTo_flip (f g : Nat → Nat) (m : Nat) : (sumTo m fun k => f k * g (m - k)) = sumTo m fun k => g k * f (m - k) := by
  have z : ∀ (h : Nat → Nat) (m : Nat), sumTo m h = sumTo m fun k => h (m - k) := by
    intro h m
    unfold sumTo
    have e : (List.range (m + 1)).map (fun k => h (m - k)) = ((List.range (m + 1)).map h).reverse := by
      refine List.ext_getElem (by simp) fun i h1 h2 => ?_
      rw [List.length_map, List.length_range] at h1
      rw [List.getElem_reverse, List.getElem_map, List.getElem_map, List.getElem_range, List.getElem_range, List.length_map, List.length_range]
      rw [Nat.add_sub_cancel]
    rw [e, List.sum_reverse]
  rw [z]
  refine sumTo_congr fun k hk => ?_
  rw [Nat.sub_sub_self hk, Nat.mul_comm]
theorem tog_sum {f g : Nat → Nat} {n : Nat} (hf : f 0 = 0) (hg : g 0 = 0) : tog f g n = sumTo n fun k => f k * g (n - k) := by
  rw [sumTo_mid (by rw [hf, Nat.zero_mul]) (by rw [Nat.sub_self, hg, Nat.mul_zero])]
  unfold tog
  refine congrArg List.sum (List.map_congr_left fun i _ => ?_)
  rw [Nat.sub_sub, Nat.add_comm 1 i]
theorem tog2 (rs : List Nat) (n : Nat) : tog (cnt rs) (cnt rs) n = wy (cnt rs) 2 n := tog_sum rfl rfl
theorem tog3 (rs : List Nat) (n : Nat) : tog (wy (cnt rs) 2) (cnt rs) n = wy (cnt rs) 3 n := by
  rw [tog_sum (wy_zero 1) rfl, sumTo_flip]
  rfl
/-! ### _counts_of_size -/
abbrev s__counts_of_size : Stmt := top 32
theorem sc__counts_of_size : FnScope ["trees", "counts", "pairs", "nodes", "found", "below", "pair", "row", "ahead", "state", "goal", "place", "first", "last"] ["trees", "counts", "pairs", "nodes"] (defScope s__counts_of_size) := ⟨rfl, rfl, rfl, by decide +kernel, rfl, by decide +kernel, by decide +kernel⟩
def prD (rs : List Nat) (n : Nat) : List PyData := if 3 ∈ rs then [.list (ld (wy (cnt rs) 2) n)] else []
def spCos (K : PySem.W.Frag) : Sp := fun vs H Q _ => ∃ F xs x y z n, Same F H ∧ vs = [x, y, z, .int ((n + 1 : Nat) : Int)] ∧ isKinds (.tuple xs) = true ∧ Dp K F x (allD xs) ∧ Dp K F y (.list [.list (ld (cnt (xs.map rankN)) (n + 1))]) ∧ Dp K F z (.list (prD (xs.map rankN) (n + 1))) ∧ n + 1 ≤ 60 ∧
  ∀ p F' H', Grow F H F' H' → F' p = none → H p = none → H' p = some (.lst [.int ((cnt (xs.map rankN) (n + 1) : Nat) : Int)]) → Q (.ref p) H'
theorem ok__counts_of_size (F : Fun K "_counts_of_size" "_counts_of_size" s__counts_of_size f fd) (B : BI mg) (c__together : Cal P w K mg base 1 "_together" (spTog K) []) : FnOk P w K mg base CX0 2 f fd ["trees", "counts", "pairs", "nodes"] (spCos K) := by
  refine F.ok sc__counts_of_size (fun vs H Q E h => by obtain ⟨_, _, x, y, z, n, _, e, _⟩ := h; rw [e]; rfl) (fun cdv A outer s H vs Q E hr h => ?_)
  obtain ⟨F0, xs, x, y, z, n, sm, ev, hk, rx, ry, rz, hn, q⟩ := h
  subst ev
  obtain ⟨h6, hx⟩ := kinds_ranks hk
  obtain ⟨rs, hrs⟩ : ∃ rs, rs = xs.map rankN := ⟨_, rfl⟩
  rw [← hrs] at ry rz q
  have hrs6 : rs.length ≤ 6 := by rw [hrs, List.length_map]; exact h6
  have hrs3 : ∀ r ∈ rs, r ≤ 3 := fun r hr => by
    rw [hrs] at hr
    obtain ⟨d, hd, rfl⟩ := List.mem_map.mp hr
    obtain ⟨n, r, rfl, h0, h1⟩ := hx d hd
    show r.toNat ≤ 3
    omega
  refine ⟨_, (pss_cons (ps_set (i := 4) sc__counts_of_size.nd rfl (Or.inl rfl) (pe_op (r := rRep) op_rep (pe_lst (pa_cons pe_int pa_nil)) (pe_ix (r := rIxT K) ix_tup (pv 0) pe_int (fun _ _ => rfl))))
        (pss_cons (ps_set (i := 5) sc__counts_of_size.nd rfl (Or.inl rfl) (pe_op (op_sub) (pv 3) pe_int))
        (pss_cons (ps_for PassesOwn.never rfl (RZ.pi_zipA (by rfl) B.zip (pa_cons (pe_ix (r := rIxT K) ix_tup (pv 0) pe_int (fun _ _ => rfl)) (pa_cons (pe_ix (r := rIxT K) ix_tup (pv 0) pe_int (fun _ _ => rfl)) pa_nil))) (pg_tup rfl (pgs_cons (pg_name (i := 6) sc__counts_of_size.nd rfl (Or.inl rfl) (hf := (Or.inr rfl))) (pgs_cons (pg_name (i := 7) sc__counts_of_size.nd rfl (Or.inl rfl) (hf := (Or.inr rfl))) pgs_nil))) (pss_one (ps_if (pt_cmpR (op_eq) (pe_ix (r := rIxT K) ix_tup (pv 6) pe_int (fun _ _ => rfl)) pe_int (nomark _)) (pss_one (ps_augS (pv 4) (pe_ix (r := rIxT K) ix_tup (pv 7) pe_int (fun _ _ => rfl)) get_L (pe_ifExp (pt_cmpR (op_eq) (pv 5) pe_int (nomark _)) pe_int pe_int) ip_add set_list)) (pss_one (ps_if (pt_cmpR (op_eq) (pe_ix (r := rIxT K) ix_tup (pv 6) pe_int (fun _ _ => rfl)) pe_int (nomark _)) (pss_one (ps_for PassesOwn.never rfl (pi_enumT (by rfl) B.enumerate (pa_cons (pv 7) pa_nil)) (pg_tup rfl (pgs_cons (pg_name (i := 9) sc__counts_of_size.nd rfl (Or.inl rfl) (hf := (Or.inr rfl))) (pgs_cons (pg_name (i := 10) sc__counts_of_size.nd rfl (Or.inl rfl) (hf := (Or.inr rfl))) pgs_nil))) (pss_one (ps_augS (pv 4) (pv 10) get_L (pe_ix (r := rIxL K) ix_list (pe_ix (r := rIxL K) ix_list (pv 1) (pv 9) (fun _ _ => rfl)) (pv 5) (fun _ _ => rfl)) ip_add set_list)))) (pss_cons (ps_set (i := 8) sc__counts_of_size.nd rfl (Or.inl rfl) (pe_ifExp (pt_cmpR (op_eq) (pe_ix (r := rIxT K) ix_tup (pv 6) pe_int (fun _ _ => rfl)) pe_int (nomark _)) (pv 1) (pv 2)))
        (pss_one (ps_for PassesOwn.never rfl (pi_enumT (by rfl) B.enumerate (pa_cons (pv 7) pa_nil)) (pg_tup rfl (pgs_cons (pg_name (i := 11) sc__counts_of_size.nd rfl (Or.inl rfl) (hf := (Or.inr rfl))) (pgs_cons (pg_name (i := 10) sc__counts_of_size.nd rfl (Or.inl rfl) (hf := (Or.inr rfl))) pgs_nil))) (pss_cons (ps_asg (pe_callB (r := rDivmod) (call_divmod) (by rfl) B.divmod (by decide +kernel) (pa_cons (pv 11) (pa_cons (pe_ix (r := rIxT K) ix_tup (pv 0) pe_int (fun _ _ => rfl)) pa_nil))) (pg_tup rfl (pgs_cons (pg_name (i := 12) sc__counts_of_size.nd rfl (Or.inl rfl) (hf := (Or.inr rfl))) (pgs_cons (pg_name (i := 13) sc__counts_of_size.nd rfl (Or.inl rfl) (hf := (Or.inr rfl))) pgs_nil))))
        (pss_one (ps_augS (pv 4) (pv 10) get_L (pe_c c__together hr (by first | decide | omega) (by rfl) (pa_cons (pe_ix (r := rIxL K) ix_list (pv 8) (pv 12) (fun _ _ => rfl)) (pa_cons (pe_ix (r := rIxL K) ix_list (pv 1) (pv 13) (fun _ _ => rfl)) (pa_cons (pv 5) pa_nil)))) ip_add set_list)))))))))))
        (pss_one (ps_ret (pv 4)))))), ?_⟩
  have s0 : EvD K (tVar 0) (start ["trees", "counts", "pairs", "nodes", "found", "below", "pair", "row", "ahead", "state", "goal", "place", "first", "last"] [x, y, z, .int ((n + 1 : Nat) : Int)]) F0 (allD xs) := ev_var ⟨x, rfl, rx⟩
  refine s_setRep (K := K) (F := F0) (n := 1) (ev_op s0 (ev_int (i := 2)) (rv_ixT (k := 2) rfl)) sm (by decide) (by decide) fun p F1 H1 H2 g1 hp hH2 => ?_
  subst hH2
  have n1 : F1 p = none := g1.i.free hp
  have hHp : H p = none := g1.h.free hp
  have G1 := grow_own (o := .lst (List.replicate 1 (.int 0))) g1 hHp n1
  refine s_set (K := K) (F := F1) (d := .int (n : Int)) ((ev_op (ev_var (i := 3) ⟨_, rfl, .int ((n + 1 : Nat) : Int)⟩) (ev_int (i := 1)) (rv_int (g := fun i j => i - j))).is (congrArg PyData.int (by omega))) G1.i fun v F2 H2 g2 r2 => ?_
  cases r2
  have n2 : F2 p = none := free_of g2 n1 upd_same
  have eP : H2 p = some (.lst [.int 0]) := g2.h _ _ upd_same
  have G2 := G1.trans g2
  refine s_for (K := K) (F := F2) (ds := pairs xs (xs.map fun _ => .tuple [.int 0])) g2.i (ew_zipAT (ea_cons (ev_op (ev_var (i := 0) ⟨x, rfl, rx.up G2.f⟩) (ev_int (i := 1)) (rv_ixT (k := 1) rfl)) (ea_cons (ev_op (ev_var (i := 0) ⟨x, rfl, rx.up G2.f⟩) (ev_int (i := 3)) (rv_ixT (k := 3) rfl)) ea_nil))) fun F3 H3 g3 =>
    ⟨fun i σ' F' H' => F' = F3 ∧ Same F3 H' ∧ Same H1 H' ∧ (∃ y6 y7 y8 y9 y10 y11 y12 y13, σ' = [some x, some y, some z, some (.int ((n + 1 : Nat) : Int)), some (.ref p), some (.int (n : Int)), y6, y7, y8, y9, y10, y11, y12, y13]) ∧
      H' p = some (.lst [.int ((((rs.take i).map fun r => wy (cnt rs) r n).sum : Nat) : Int)]), ⟨rfl, g3.i, ?_, ⟨_, _, _, _, _, _, _, _, rfl⟩, g3.h _ _ eP⟩, fun i σ' F' H' h => ⟨by rw [h.1]; exact Same.refl _, by rw [h.1]; exact h.2.1⟩, fun i d σ' F' H' hd hI F4 H4 v g4 rv => ?_, fun σ' F' H' hI => ?_⟩
  · exact (same_upd hp).trans (g2.h.trans g3.h)
  · obtain ⟨rfl, sF, s1, ⟨y6, y7, y8, y9, y10, y11, y12, y13, rfl⟩, eL⟩ := hI
    obtain ⟨b, c, hb, hc, rfl⟩ := pairs_get hd
    have hmem := List.mem_of_getElem? hb
    obtain ⟨nm, r, rfl, h0, h3⟩ := hx b hmem
    rw [List.getElem?_map, hb] at hc
    cases hc
    have n3 : F' p = none := free_of g3 n2 eP
    have n4 : F4 p = none := free_of g4 n3 eL
    have eL4 := g4.h _ _ eL
    have eT : (rs.take (i + 1)).map (fun r => wy (cnt rs) r n) = (rs.take i).map (fun r => wy (cnt rs) r n) ++ [wy (cnt rs) r.toNat n] := by
      have e1 : rs[i]? = some r.toNat := by rw [hrs, List.getElem?_map, hb]; rfl
      rw [List.take_add_one, e1, List.map_append]
      rfl
    have eS : ((((rs.take i).map fun r => wy (cnt rs) r n).sum : Nat) : Int) + ((wy (cnt rs) r.toNat n : Nat) : Int) = ((((rs.take (i + 1)).map fun r => wy (cnt rs) r n).sum : Nat) : Int) := by
      rw [eT, List.sum_append, ← Int.natCast_add]
      show _ = (((_ + (wy (cnt rs) r.toNat n + 0) : Nat)) : Int)
      rw [Nat.add_zero]
    have gA := G2.trans (g3.trans (Grow.start sF |> fun _ => Grow.start g3.i))
    have rx4 : Dp K F4 x (allD xs) := rx.up (G2.f.trans (g3.f.trans g4.f))
    have ry4 : Dp K F4 y (.list [.list (ld (cnt rs) (n + 1))]) := ry.up (G2.f.trans (g3.f.trans g4.f))
    have rz4 : Dp K F4 z (.list (prD rs (n + 1))) := rz.up (G2.f.trans (g3.f.trans g4.f))
    obtain ⟨S, hS⟩ : ∃ S : Int, S = ((((rs.take i).map fun r => wy (cnt rs) r n).sum : Nat) : Int) := ⟨_, rfl⟩
    rw [← hS] at eL4 eS
    -- the end of a turn
    have fin : ∀ (σ3 : L2.St) (H5 : Hp), (∃ y6 y7 y8 y9 y10 y11 y12 y13, σ3 = [some x, some y, some z, some (.int ((n + 1 : Nat) : Int)), some (.ref p), some (.int (n : Int)), y6, y7, y8, y9, y10, y11, y12, y13]) → Same F4 H5 → Same H1 H5 → H5 p = some (.lst [.int (S + ((wy (cnt rs) r.toNat n : Nat) : Int))]) →
        ∃ F6, F6 = F' ∧ Same F' H5 ∧ Same H1 H5 ∧ (∃ y6 y7 y8 y9 y10 y11 y12 y13, σ3 = [some x, some y, some z, some (.int ((n + 1 : Nat) : Int)), some (.ref p), some (.int (n : Int)), y6, y7, y8, y9, y10, y11, y12, y13]) ∧ H5 p = some (.lst [.int ((((rs.take (i + 1)).map fun r => wy (cnt rs) r n).sum : Nat) : Int)]) :=
      fun σ3 H5 hσ a1 a2 a3 => ⟨F', rfl, g4.f.trans a1, a2, hσ, by rw [a3, eS]⟩
    have s14 := s1.trans g4.h
    refine tk_two v _ g4.i rv _ fun σ2 hσ => ?_
    obtain ⟨v6, v7, rfl, rv6, rv7⟩ := hσ
    have tr : ∀ j : Int, EvB (tTest (tOp rEq (tOp (rIxT K) (tVar 6) (tC (.int 1))) (tC (.int j)))) [some x, some y, some z, some (.int ((n + 1 : Nat) : Int)), some (.ref p), some (.int (n : Int)), some v6, some v7, y8, y9, y10, y11, y12, y13] F4 (decide (r = j)) := fun j => eb_test (ev_op (ev_op (ev_var (i := 6) ⟨v6, rfl, rv6⟩) (ev_int (i := 1)) (rv_ixT (k := 1) rfl)) (ev_int (i := j)) rv_eqI)
    refine s_if (tr 0) g4.i (fun hr F5 H5 g5 => ?_) fun hr F5 H5 g5 => ?_
    · have er : r = 0 := of_decide_eq_true hr
      refine s_augF (K := K) (F := F5) (k := 0) (i := S) (j := ((wy (cnt rs) r.toNat n : Nat) : Int)) (now_var rfl) (g5.h _ _ eL4) (ev_op (ev_var (i := 7) ⟨v7, rfl, rv7.up g5.f⟩) (ev_int (i := 0)) (rv_ixT (k := 0) rfl)) rfl ?_ g5.i fun F6 H6 g6 => ?_
      · refine ev_if (eb_test (K := K) (ev_op (ev_var (i := 5) ⟨_, rfl, .int (n : Int)⟩) (ev_int (i := 0)) rv_eqI)) (fun hb => (ev_int (i := 1)).is ?_) fun hb => (ev_int (i := 0)).is ?_
        · have e0 : n = 0 := by
            have := of_decide_eq_true hb
            omega
          rw [er, e0]
          rfl
        · have e0 : n ≠ 0 := fun z => by
            rw [z] at hb
            exact nomatch hb
          rw [er]
          show _ = PyData.int ((((if n = 0 then 1 else 0 : Nat)) : Nat) : Int)
          rw [if_neg e0]
          rfl
      · exact fin _ _ ⟨_, _, _, _, _, _, _, _, rfl⟩ ((g5.f.trans g6.f).trans (same_own g6.i (free_of g6 (free_of g5 n4 eL4) (g5.h _ _ eL4)))) (same_own (s14.trans (g5.h.trans g6.h)) hp) upd_same
    have eL5 := g5.h _ _ eL4
    have n5 := free_of g5 n4 eL4
    have s15 := s14.trans g5.h
    refine s_if ((tr 1).up g5.f) g5.i (fun hr1 F6 H6 g6 => ?_) fun hr1 F6 H6 g6 => ?_
    · have er : r = 1 := of_decide_eq_true hr1
      have gg := g5.f.trans g6.f
      refine s_for (K := K) (F := F6) (ds := numbered [.int 0]) g6.i (ew_enumT (ea_cons (ev_var (i := 7) ⟨v7, rfl, rv7.up gg⟩) ea_nil)) fun F7 H7 g7 =>
        ⟨fun j σ' G' H' => G' = F7 ∧ Same F7 H' ∧ Same H1 H' ∧ (∃ y8 y9 y10 y11 y12 y13, σ' = [some x, some y, some z, some (.int ((n + 1 : Nat) : Int)), some (.ref p), some (.int (n : Int)), some v6, some v7, y8, y9, y10, y11, y12, y13]) ∧ H' p = some (.lst [.int (if j = 0 then S else S + ((wy (cnt rs) r.toNat n : Nat) : Int))]),
          ⟨rfl, g7.i, s15.trans (g6.h.trans g7.h), ⟨_, _, _, _, _, _, rfl⟩, g7.h _ _ (g6.h _ _ eL5)⟩, fun j σ' G' H' h => ⟨by rw [h.1]; exact Same.refl _, by rw [h.1]; exact h.2.1⟩, fun j d σ' G' H' hd hI F8 H8 v8 g8 rv8 => ?_, fun σ' G' H' hI => ?_⟩
      · obtain ⟨rfl, sF7, s17, ⟨z8, z9, z10, z11, z12, z13, rfl⟩, eL7⟩ := hI
        obtain ⟨b, hb, rfl⟩ := numbered_get hd
        match j, hb with
        | 0, hb =>
          cases hb
          have eL7' : H' p = some (.lst [.int S]) := eL7
          have n7 := free_of g7 (free_of g6 n5 eL5) (g6.h _ _ eL5)
          have n8 := free_of g8 n7 eL7'
          refine tk_two v8 _ g8.i rv8 _ fun σ3 hσ3 => ?_
          obtain ⟨v9, v10, rfl, rv9, rv10⟩ := hσ3
          have g48 := (gg.trans g7.f).trans g8.f
          refine s_augF (K := K) (F := F8) (k := 0) (i := S) (j := ((wy (cnt rs) r.toNat n : Nat) : Int)) (now_var rfl) (g8.h _ _ eL7') (ev_var (i := 10) ⟨v10, rfl, rv10⟩) rfl ?_ g8.i fun F9 H9 g9 => ?_
          · refine (ev_op (ev_op (ev_var (i := 1) ⟨y, rfl, ry4.up g48⟩) (ev_var (i := 9) ⟨v9, rfl, rv9⟩) (rv_ixL (k := 0) rfl)) (ev_var (i := 5) ⟨_, rfl, .int (n : Int)⟩) (rv_ixL (ld_get (Nat.lt_succ_self n)))).is ?_
            rw [er]
            rfl
          · exact ⟨_, rfl, same_own ((sF7.trans g8.h).trans g9.h) n7, same_own (s17.trans (g8.h.trans g9.h)) hp, ⟨_, _, _, _, _, _, rfl⟩, upd_same⟩
        | j + 1, hb => cases hb
      · obtain ⟨rfl, sF7, s17, ⟨z8, z9, z10, z11, z12, z13, rfl⟩, eL7⟩ := hI
        exact fin _ _ ⟨_, _, _, _, _, _, _, _, rfl⟩ ((gg.trans g7.f).trans sF7) s17 eL7
    · have er2 : r = 2 ∨ r = 3 := by
        have a1 := of_decide_eq_false hr
        have a2 := of_decide_eq_false hr1
        omega
      have gg := g5.f.trans g6.f
      have eL6 := g6.h _ _ eL5
      have n6 := free_of g6 n5 eL5
      have s16 := s15.trans g6.h
      have hrm : r.toNat ∈ rs := by
        rw [hrs]
        exact List.mem_map.mpr ⟨_, hmem, rfl⟩
      have w1 : wy (cnt rs) 1 = cnt rs := funext fun _ => rfl
      refine s_set (K := K) (F := F6) (d := .list [.list (ld (wy (cnt rs) (r.toNat - 1)) (n + 1))]) (ev_if (((tr 2).up gg)) (fun hb => (ev_var (i := 1) ⟨y, rfl, ry4.up gg⟩).is ?_) fun hb => (ev_var (i := 2) ⟨z, rfl, rz4.up gg⟩).is ?_) g6.i fun v8 F7 H7 g7 rv8 => ?_
      · have e2 : r = 2 := of_decide_eq_true hb
        rw [e2, ← w1]
        rfl
      · have e3 : r = 3 := by
          have := of_decide_eq_false hb
          omega
        have h3m : 3 ∈ rs := by
          rw [e3] at hrm
          exact hrm
        unfold prD
        rw [if_pos h3m, e3]
        rfl
      have eL7 := g7.h _ _ eL6
      have n7 := free_of g7 n6 eL6
      have g47 := gg.trans g7.f
      have s17 := s16.trans g7.h
      refine s_for (K := K) (F := F7) (ds := numbered [.int 0]) g7.i (ew_enumT (ea_cons (ev_var (i := 7) ⟨v7, rfl, rv7.up g47⟩) ea_nil)) fun Fa Ha ga =>
        ⟨fun j σ' G' H' => G' = Fa ∧ Same Fa H' ∧ Same H1 H' ∧ (∃ y9 y10 y11 y12 y13, σ' = [some x, some y, some z, some (.int ((n + 1 : Nat) : Int)), some (.ref p), some (.int (n : Int)), some v6, some v7, some v8, y9, y10, y11, y12, y13]) ∧ H' p = some (.lst [.int (if j = 0 then S else S + ((wy (cnt rs) r.toNat n : Nat) : Int))]),
          ⟨rfl, ga.i, s17.trans ga.h, ⟨_, _, _, _, _, rfl⟩, ga.h _ _ eL7⟩, fun j σ' G' H' h => ⟨by rw [h.1]; exact Same.refl _, by rw [h.1]; exact h.2.1⟩, fun j d σ' G' H' hd hI F8 H8 va g8 rva => ?_, fun σ' G' H' hI => ?_⟩
      · obtain ⟨rfl, sFa, s1a, ⟨z9, z10, z11, z12, z13, rfl⟩, eLa⟩ := hI
        obtain ⟨b, hb, rfl⟩ := numbered_get hd
        match j, hb with
        | 0, hb =>
          cases hb
          have eLa' : H' p = some (.lst [.int S]) := eLa
          have na := free_of ga n7 eL7
          have n8 := free_of g8 na eLa'
          have g48 := (g47.trans ga.f).trans g8.f
          refine tk_two va _ g8.i rva _ fun σ3 hσ3 => ?_
          obtain ⟨v11, v10, rfl, rv11, rv10⟩ := hσ3
          refine s_asg (K := K) (F := F8) (d := .tuple [.int 0, .int 0]) ((ev_cb (ea_cons (ev_var (i := 11) ⟨v11, rfl, rv11⟩) (ea_cons (ev_op (ev_var (i := 0) ⟨x, rfl, rx4.up g48⟩) (ev_int (i := 2)) (rv_ixT (k := 2) rfl)) ea_nil)) (rc_divmod (i := 0) (j := 1) ⟨by decide, by decide⟩)).is rfl) g8.i (fun F' _ => tk_two) fun σ4 F9 H9 g9 hσ4 => ?_
          obtain ⟨v12, v13, rfl, rv12, rv13⟩ := hσ4
          have g49 := g48.trans g9.f
          have wb : ∀ m k, m ≤ 3 → k ≤ n → wy (cnt rs) m k < 2 ^ 2050 := fun m k hm hk => wy_bits hrs6 hrs3 (by omega) m hm
          refine s_augF (K := K) (F := F9) (k := 0) (i := S) (j := ((wy (cnt rs) r.toNat n : Nat) : Int)) (now_var rfl) (g9.h _ _ (g8.h _ _ eLa')) (ev_var (i := 10) ⟨v10, rfl, rv10.up g9.f⟩) rfl ?_ g9.i fun Fb Hb gb => ?_
          · refine (ev_tog (f := wy (cnt rs) (r.toNat - 1)) (g := cnt rs) (a := n + 1) (b := n + 1) (n := n) (ev_op (ev_var (i := 8) ⟨v8, rfl, rv8.up ((ga.f.trans g8.f).trans g9.f)⟩) (ev_var (i := 12) ⟨v12, rfl, rv12⟩) (rv_ixL (k := 0) rfl)) (ev_op (ev_var (i := 1) ⟨y, rfl, ry4.up g49⟩) (ev_var (i := 13) ⟨v13, rfl, rv13⟩) (rv_ixL (k := 0) rfl)) (ev_var (i := 5) ⟨_, rfl, .int (n : Int)⟩) (Nat.le_succ n) (Nat.le_succ n) (by omega) (fun k hk => wb _ k (by omega) hk) fun k hk => wb 1 k (by decide) hk).is ?_
            rcases er2 with e | e
            · rw [e]
              exact congrArg (fun m : Nat => PyData.int (m : Int)) (tog2 rs n)
            · rw [e]
              exact congrArg (fun m : Nat => PyData.int (m : Int)) (tog3 rs n)
          · exact ⟨_, rfl, same_own ((sFa.trans g8.h).trans (g9.h.trans gb.h)) na, same_own (s1a.trans (g8.h.trans (g9.h.trans gb.h))) hp, ⟨_, _, _, _, _, rfl⟩, upd_same⟩
        | j + 1, hb => cases hb
      · obtain ⟨rfl, sFa, s1a, ⟨z9, z10, z11, z12, z13, rfl⟩, eLa⟩ := hI
        exact fin _ _ ⟨_, _, _, _, _, _, _, _, rfl⟩ ((g47.trans ga.f).trans sFa) s1a eLa
  · obtain ⟨rfl, sF, s1, ⟨y6, y7, y8, y9, y10, y11, y12, y13, rfl⟩, eL⟩ := hI
    have G3 := G2.trans g3
    refine now_var rfl _ ?_
    refine q p F' H' ⟨G3.f, g1.h.trans s1, sF, G3.n⟩ (free_of g3 n2 eP) hHp ?_
    rw [eL]
    have e1 : (rs.take (pairs xs (xs.map fun _ => PyData.tuple [.int 0])).length) = rs := by
      rw [pairs_len, List.length_map, Nat.min_self]
      exact List.take_of_length_le (by rw [hrs, List.length_map]; exact Nat.le_refl _)
    rw [e1, cnt_succ]
end
end Sw
set_option Elab.async false
set_option linter.all false
set_option maxRecDepth 100000
set_option maxHeartbeats 1000000
set_option exponentiation.threshold 3000
namespace Sw
open PySem PySem.Spec PyProof.Rows L2
open C8 (Cal pe_c pe_gc)
section
variable {P : Program} {w : World} {K : PySem.W.Frag} {mg : Str → Option Value} {base : Heap} {f : Addr} {fd : FuncData} {aK CK CN CS : Addr}
theorem dps4 {F : Hp} {a b c d : PyData} : ∀ {vs : List V}, DpAll K F vs [a, b, c, d] → ∃ v1 v2 v3 v4, vs = [v1, v2, v3, v4] ∧ Dp K F v1 a ∧ Dp K F v2 b ∧ Dp K F v3 c ∧ Dp K F v4 d
  | _, .cons h1 (.cons h2 (.cons h3 (.cons h4 .nil))) => ⟨_, _, _, _, rfl, h1, h2, h3, h4⟩
theorem s_setSp {D : Ends} {σ : L2.St} {F H : Hp} {sp : Sp} {ta : TA} {ds : List PyData} {E : XK} {i : Nat} (h : EvS K ta σ F ds) (s : Same F H) (k : ∀ vs F' H', Grow F H F' H' → DpAll K F' vs ds → sp (vs ++ []) H' (fun v H2 => D.nx (σ.set i (some v)) H2) E) : tAsg (tCall sp [] E ta) (gName i) D σ H := h H s _ k
/-! ### number_in -/
abbrev s_number_in : Stmt := top 29
theorem sc_number_in : FnScope ["trees", "many", "counts", "pairs", "nodes", "fresh", "_", "state", "number", "place", "row", "first", "second"] ["trees", "many"] (defScope s_number_in) := ⟨rfl, rfl, rfl, by decide +kernel, rfl, by decide +kernel, by decide +kernel⟩
def prV (rs : List Nat) (u : Addr) : List V := if 3 ∈ rs then [.ref u] else []
structure NW (rs : List Nat) (H : Hp) (ac aw ap au : Addr) (n m : Nat) : Prop where
  c : H ac = some (.lst [.ref aw])
  w : H aw = some (.lst (lv (cnt rs) n))
  p : H ap = some (.lst (prV rs au))
  u : 3 ∈ rs → H au = some (.lst (lv (wy (cnt rs) 2) m))
structure Four (rs : List Nat) (ac aw ap au : Addr) : Prop where
  a : ac ≠ aw ∧ ac ≠ ap
  b : aw ≠ ap
  u : 3 ∈ rs → au ≠ ac ∧ au ≠ aw ∧ au ≠ ap
structure Mine4 (rs : List Nat) (F : Hp) (ac aw ap au : Addr) : Prop where
  c : F ac = none
  w : F aw = none
  p : F ap = none
  u : 3 ∈ rs → F au = none
section
variable {rs : List Nat} {F G H H' : Hp} {ac aw ap au : Addr} {n m : Nat}
theorem NW.same (h : NW rs H ac aw ap au n m) (s : Same H H') : NW rs H' ac aw ap au n m := ⟨s _ _ h.c, s _ _ h.w, s _ _ h.p, fun z => s _ _ (h.u z)⟩
theorem NW.putw (h : NW rs H ac aw ap au n m) (S : Four rs ac aw ap au) : NW rs (upd H aw (.lst (lv (cnt rs) (n + 1)))) ac aw ap au (n + 1) m := ⟨upd_at S.a.1 h.c, upd_same, upd_at S.b.symm h.p, fun z => upd_at (S.u z).2.1 (h.u z)⟩
theorem NW.putu (h : NW rs H ac aw ap au n m) (S : Four rs ac aw ap au) (z : 3 ∈ rs) : NW rs (upd H au (.lst (lv (wy (cnt rs) 2) (m + 1)))) ac aw ap au n (m + 1) := ⟨upd_at (S.u z).1.symm h.c, upd_at (S.u z).2.1.symm h.w, upd_at (S.u z).2.2.symm h.p, fun _ => upd_same⟩
theorem NW.none (h : NW rs H ac aw ap au n m) (z : 3 ∉ rs) {k : Nat} : NW rs H ac aw ap au n k := ⟨h.c, h.w, h.p, fun y => absurd y z⟩
theorem Mine4.grow (M : Mine4 rs F ac aw ap au) (h : NW rs H ac aw ap au n m) (g : Grow F H G H') : Mine4 rs G ac aw ap au := ⟨free_of g M.c h.c, free_of g M.w h.w, free_of g M.p h.p, fun z => free_of g (M.u z) (h.u z)⟩
theorem NW.counts {K : PySem.W.Frag} (h : NW rs H ac aw ap au n m) : Dp K H (.ref ac) (.list [.list (ld (cnt rs) n)]) := .lst (.inl (.inl h.c)) (.cons (dp_of h.w) .nil)
theorem NW.pairs {K : PySem.W.Frag} (h : NW rs H ac aw ap au n m) : Dp K H (.ref ap) (.list (prD rs m)) := by
  have hp := h.p
  unfold prV at hp
  unfold prD
  by_cases z : 3 ∈ rs
  · rw [if_pos z] at hp ⊢
    exact .lst (.inl (.inl hp)) (.cons (dp_of (h.u z)) .nil)
  · rw [if_neg z] at hp ⊢
    exact .lst (.inl (.inl hp)) .nil
end
def spNum (K : PySem.W.Frag) (CN : Addr) : Sp := fun vs H Q E => ∃ F x y xs b, Same F H ∧ vs = [x, y] ∧ Dp K F x (allD xs) ∧ Dp K F y b ∧ isKinds (.tuple xs) = true ∧
  (isBetween b 1 60 = true → ∀ v F' H', Grow F H F' H' → Dp K F' v (countD (.tuple xs) b) → Q v H') ∧ (isBetween b 1 60 = false → ∀ H', Same H H' → E (.ref CN) none H')
theorem ok_number_in (F : Fun K "number_in" "number_in" s_number_in f fd) (B : BI mg) (c_check_set : CalX P w K mg base 6 "check_set" ["trees"] (spAll K .none)) (c_is_between : Cal P w K mg base 2 "is_between" (p_is_between K) []) (c__has_rank : Cal P w K mg base 1 "_has_rank" (p__has_rank K) [])
    (c_tuples_below : Cal P w K mg base 1 "tuples_below" (p_tuples_below K) []) (c__together : Cal P w K mg base 1 "_together" (spTog K) []) (c__counts_of_size : Cal P w K mg base 2 "_counts_of_size" (spCos K) []) (X_BadNumber : Rse K mg "BadNumber" CN) : FnOk P w K mg base (L2.CX P w) 7 f fd ["trees", "many"] (spNum K CN) := by
  refine F.okX sc_number_in (fun vs H Q E h => by obtain ⟨_, x, y, _, _, _, e, _⟩ := h; rw [e]; rfl) (fun cdv A outer s H vs Q E hr h => ?_)
  obtain ⟨F0, x, y, xs, b, sm, ev, rx, ry, hk, q, qe⟩ := h
  subst ev
  obtain ⟨h6, hx⟩ := kinds_ranks hk
  obtain ⟨rs, hrs⟩ : ∃ rs, rs = xs.map rankN := ⟨_, rfl⟩
  have hrs6 : rs.length ≤ 6 := by rw [hrs, List.length_map]; exact h6
  have hrs3 : ∀ r ∈ rs, r ≤ 3 := fun r hr => by
    rw [hrs] at hr
    obtain ⟨d, hd, rfl⟩ := List.mem_map.mp hr
    obtain ⟨n, r, rfl, h0, h1⟩ := hx d hd
    show r.toNat ≤ 3
    omega
  refine ⟨_, (pss_cons (ps_expr (pe_cx c_check_set hr (by first | decide | omega) (by rfl) (passes_call (takes_of rfl rfl rfl rfl) (fun _ _ _ _ h => h)) (pa_cons (pv 0) pa_nil)))
        (pss_cons (ps_if (pt_not (pt_val (pe_c c_is_between hr (by first | decide | omega) (by rfl) (pa_cons (pv 1) (pa_cons pe_int (pa_cons pe_int pa_nil)))))) (pss_one (ps_raise rfl (takes_of rfl rfl rfl rfl) (pmk_own PySem.F.excBase_ValueError X_BadNumber.e X_BadNumber.g X_BadNumber.k (raises_own X_BadNumber.b X_BadNumber.t) (by exact rfl)))) pss_nil)
        (pss_cons (ps_set (i := 2) sc_number_in.nd rfl (Or.inr rfl) (pe_lc (own := [("_", 6)]) (g := (gName 6)) rfl sc_number_in.nd (pi_range1 (by rfl) B.range (pa_cons (pe_ix (r := rIxT K) ix_tup (pv 0) pe_int (fun _ _ => rfl)) pa_nil)) (blkOk_by (own := [("_", 6)]) (N := ["trees", "many", "counts", "pairs", "nodes", "fresh", "_", "state", "number", "place", "row", "first", "second"]) (sc := defScope s_number_in) (by decide +kernel)) (fun _ _ _ _ _ => (pg_name (i := 6) sc_number_in.nd rfl (Or.inl rfl) (hf := (Or.inr rfl)))) (fun _ _ _ _ _ => pts_nil) (fun _ _ _ _ _ => (pe_lst (pa_cons pe_int pa_nil)))))
        (pss_cons (ps_set (i := 3) sc_number_in.nd rfl (Or.inl rfl) (pe_ifExp (pt_val (pe_c c__has_rank hr (by first | decide | omega) (by rfl) (pa_cons (pv 0) (pa_cons pe_int pa_nil)))) (pe_lc (own := [("_", 6)]) (g := (gName 6)) rfl sc_number_in.nd (pi_list (pe_c c_tuples_below hr (by first | decide | omega) (by rfl) (pa_cons (pe_ix (r := rIxT K) ix_tup (pv 0) pe_int (fun _ _ => rfl)) (pa_cons pe_int pa_nil)))) (blkOk_by (own := [("_", 6)]) (N := ["trees", "many", "counts", "pairs", "nodes", "fresh", "_", "state", "number", "place", "row", "first", "second"]) (sc := defScope s_number_in) (by decide +kernel)) (fun _ _ _ _ _ => (pg_name (i := 6) sc_number_in.nd rfl (Or.inl rfl) (hf := (Or.inr rfl)))) (fun _ _ _ _ _ => pts_nil) (fun _ _ _ _ _ => (pe_lst (pa_cons pe_int pa_nil)))) (pe_lst pa_nil)))
        (pss_cons (ps_for (passes_of rfl) rfl (pi_range2 (by rfl) B.range (pa_cons pe_int (pa_cons (pe_op (op_add) (pv 1) pe_int) pa_nil))) (pg_name (i := 4) sc_number_in.nd rfl (Or.inl rfl) (hf := (Or.inr rfl))) (pss_cons (ps_set (i := 5) sc_number_in.nd rfl (Or.inl rfl) (pe_c c__counts_of_size hr (by first | decide | omega) (by rfl) (pa_cons (pv 0) (pa_cons (pv 2) (pa_cons (pv 3) (pa_cons (pv 4) pa_nil))))))
        (pss_cons (ps_for (passes_of rfl) rfl (pi_enum (by rfl) B.enumerate (pa_cons (pv 5) pa_nil)) (pg_tup rfl (pgs_cons (pg_name (i := 7) sc_number_in.nd rfl (Or.inl rfl) (hf := (Or.inr rfl))) (pgs_cons (pg_name (i := 8) sc_number_in.nd rfl (Or.inl rfl) (hf := (Or.inr rfl))) pgs_nil))) (pss_one (ps_expr (pe_bm PySem.F.plainAttrs_list PySem.F.slot_list_append PySem.F.type_list_append mt_append (pe_ix (r := rIxL K) ix_list (pv 2) (pv 7) (fun _ _ => rfl)) (pa_cons (pv 8) pa_nil)))))
        (pss_one (ps_for (passes_of rfl) rfl (pi_enum (by rfl) B.enumerate (pa_cons (pv 3) pa_nil)) (pg_tup rfl (pgs_cons (pg_name (i := 9) sc_number_in.nd rfl (Or.inl rfl) (hf := (Or.inr rfl))) (pgs_cons (pg_name (i := 10) sc_number_in.nd rfl (Or.inl rfl) (hf := (Or.inr rfl))) pgs_nil))) (pss_cons (ps_asg (pe_callB (r := rDivmod) (call_divmod) (by rfl) B.divmod (by decide +kernel) (pa_cons (pv 9) (pa_cons (pe_ix (r := rIxT K) ix_tup (pv 0) pe_int (fun _ _ => rfl)) pa_nil))) (pg_tup rfl (pgs_cons (pg_name (i := 11) sc_number_in.nd rfl (Or.inl rfl) (hf := (Or.inr rfl))) (pgs_cons (pg_name (i := 12) sc_number_in.nd rfl (Or.inl rfl) (hf := (Or.inr rfl))) pgs_nil))))
        (pss_one (ps_expr (pe_bm PySem.F.plainAttrs_list PySem.F.slot_list_append PySem.F.type_list_append mt_append (pv 10) (pa_cons (pe_c c__together hr (by first | decide | omega) (by rfl) (pa_cons (pe_ix (r := rIxL K) ix_list (pv 2) (pv 11) (fun _ _ => rfl)) (pa_cons (pe_ix (r := rIxL K) ix_list (pv 2) (pv 12) (fun _ _ => rfl)) (pa_cons (pv 4) pa_nil)))) pa_nil))))))))))
        (pss_one (ps_ret (pe_callB (r := rSum K) (cr_sum rfl) (by rfl) B.sum (by decide +kernel) (pa_cons (pe_lc (own := [("state", 7)]) (g := (gName 7)) rfl sc_number_in.nd (pi_tup (pe_ix (r := rIxT K) ix_tup (pv 0) pe_int (fun _ _ => rfl))) (blkOk_by (own := [("state", 7)]) (N := ["trees", "many", "counts", "pairs", "nodes", "fresh", "_", "state", "number", "place", "row", "first", "second"]) (sc := defScope s_number_in) (by decide +kernel)) (fun _ _ _ _ _ => (pg_name (i := 7) sc_number_in.nd rfl (Or.inl rfl) (hf := (Or.inr rfl)))) (fun _ _ _ _ _ => pts_nil) (fun _ _ _ _ _ => (pe_ix (r := rIxL K) ix_list (pe_ix (r := rIxL K) ix_list (pv 2) (pv 7) (fun _ _ => rfl)) (pv 1) (fun _ _ => rfl)))) pa_nil))))))))), ?_⟩
  have s0 : EvD K (tVar 0) (start ["trees", "many", "counts", "pairs", "nodes", "fresh", "_", "state", "number", "place", "row", "first", "second"] [x, y]) F0 (allD xs) := ev_var ⟨x, rfl, rx⟩
  have s1 : EvD K (tVar 1) (start ["trees", "many", "counts", "pairs", "nodes", "fresh", "_", "state", "number", "place", "row", "first", "second"] [x, y]) F0 b := ev_var ⟨y, rfl, ry⟩
  refine ev_all s0 hk H sm _ fun v F1 H1 g1 r1 => ?_
  dsimp only
  have hw : EvB _ _ F0 _ := eb_not (eb_val (ev_call (K := K) (f := f3 g_is_between) (E := C8.E0) (ea_cons s1 (ea_cons (ev_int (i := 1)) (ea_cons (ev_int (i := 60)) ea_nil))) rfl))
  refine s_when (hw.up g1.f) g1.i (fun hb F2 H2 g2 => ?_) fun hb F2 H2 g2 => ?_
  · rw [Bool.not_eq_true'] at hb
    exact qe hb H2 (g1.h.trans g2.h)
  rw [Bool.not_eq_false'] at hb
  replace q := q hb
  have G2 := g1.trans g2
  clear qe hw
  cases b with
  | int N =>
    have hb2 : (decide (1 ≤ N) && decide (N ≤ 60)) = true := hb
    rw [Bool.and_eq_true, decide_eq_true_iff, decide_eq_true_iff] at hb2
    obtain ⟨hN1, hN2⟩ := hb2
    cases ry
    -- counts
    refine s_lcOwn (K := K) (F := F2) (d := .int 0) (vs := [6]) (ew_rng1 (n := 1) (ea_cons (ev_op (s0.up G2.f) (ev_int (i := 2)) (rv_ixT (k := 2) rfl)) ea_nil) (by decide)) g2.i (fun F' _ => (tk_name (i := 6)).imp fun σ2 hσ => by obtain ⟨v, rfl, _⟩ := hσ; rfl) fun ac aw F3 H3 g3 n1 n2 n3 n4 n5 e1 e2 => ?_
    -- pairs
    have hr3 : (decide ((3 : Int) ∈ xs.map fun d => intD (sndD d))) = decide (3 ∈ rs) := by
      refine decide_eq_decide.mpr ⟨fun h => ?_, fun h => ?_⟩
      · obtain ⟨d, hd, e⟩ := List.mem_map.mp h
        rw [hrs]
        exact List.mem_map.mpr ⟨d, hd, by show (intD (sndD d)).toNat = 3; rw [e]; rfl⟩
      · rw [hrs] at h
        obtain ⟨d, hd, e⟩ := List.mem_map.mp h
        obtain ⟨nm, r, rfl, h0, h3⟩ := hx d hd
        have e' : r.toNat = 3 := e
        exact List.mem_map.mpr ⟨_, hd, by show r = 3; omega⟩
    have G3 := G2.trans g3
    have sA : EvD K (tVar 0) [some x, some (.int N), some (.ref ac), none, none, none, none, none, none, none, none, none, none] F3 (allD xs) := ev_var ⟨x, rfl, rx.up G3.f⟩
    have hR : EvB (tB (tCall (p__has_rank K) [] C8.E0 (tCons (tVar 0) (tCons (tC (.int 3)) tNil)))) [some x, some (.int N), some (.ref ac), none, none, none, none, none, none, none, none, none, none] F3 (decide (3 ∈ rs)) :=
      eb_val ((ev_call (K := K) (f := f2 g_has_rank) (E := C8.E0) (ea_cons sA (ea_cons (ev_int (i := 3)) ea_nil)) (if_pos hk)).is (congrArg PyData.bool hr3))
    refine s_ifV hR g3.i fun F4 H4 g4 => ?_
    have n4c := free_of g4 n2 e1
    have n4w := free_of g4 n3 e2
    have e1' := g4.h _ _ e1
    have e2' := g4.h _ _ e2
    have G4 := G3.trans g4
    -- what comes after pairs
    have key : ∀ Q : VK, (∀ (ap au : Addr) (F5 H5 : Hp), Grow F4 H4 F5 H5 → Four rs ac aw ap au → Mine4 rs F5 ac aw ap au → H ap = none → (3 ∈ rs → H au = none) → NW rs H5 ac aw ap au 1 1 → Q (.ref ap) H5) →
        (if decide (3 ∈ rs) = true then tLc (iList K (tCall (p_tuples_below K) [] C8.E0 (tCons (tOp (rIxT K) (tVar 0) (tC (.int 2))) (tCons (tC (.int 2)) tNil)))) (gName 6) tYes (tLst (tCons (tC (.int 0)) tNil)) [6] [some x, some (.int N), some (.ref ac), none, none, none, none, none, none, none, none, none, none] H4 Q else tLst tNil [some x, some (.int N), some (.ref ac), none, none, none, none, none, none, none, none, none, none] H4 Q) := fun Q hQ => by
      by_cases z : 3 ∈ rs
      · rw [if_pos (decide_eq_true z)]
        refine lc_own (K := K) (F := F4) (d := .tuple [.int 0, .int 0]) (vs := [6]) (ew_list (ev_call (K := K) (f := f2 g_tuples_below) (E := C8.E0) (ea_cons (ev_op (sA.up g4.f) (ev_int (i := 2)) (rv_ixT (k := 2) rfl)) (ea_cons (ev_int (i := 2)) ea_nil)) rfl)) g4.i (fun F' _ => (tk_name (i := 6)).imp fun σ2 hσ => by obtain ⟨v, rfl, _⟩ := hσ; rfl) fun ap au F5 H5 g5 m1 m2 m3 m4 m5 d1 d2 => ?_
        have c1 := ne_of_none e1' m4
        have c2 := ne_of_none e2' m4
        have c3 := ne_of_none e1' m5
        have c4 := ne_of_none e2' m5
        refine hQ ap au F5 H5 g5 ⟨⟨n1, c1⟩, c2, fun _ => ⟨c3.symm, c4.symm, m1.symm⟩⟩ ⟨free_of g5 n4c e1', free_of g5 n4w e2', m2, fun _ => m3⟩ (G4.h.free m4) (fun _ => G4.h.free m5) ⟨g5.h _ _ e1', g5.h _ _ e2', ?_, fun _ => d2⟩
        unfold prV
        rw [if_pos z]
        exact d1
      · rw [if_neg (by rw [decide_eq_false z]; decide)]
        refine ⟨Nat.zero_le _, fun ap hap => ?_⟩
        have c1 := ne_of_none e1' hap
        have c2 := ne_of_none e2' hap
        refine hQ ap ap F4 _ (.own g4.i hap) ⟨⟨n1, c1⟩, c2, fun y => absurd y z⟩ ⟨n4c, n4w, g4.i.free hap, fun y => absurd y z⟩ (G4.h.free hap) (fun y => absurd y z) ⟨upd_at c1 e1', upd_at c2 e2', ?_, fun y => absurd y z⟩
        unfold prV
        rw [if_neg z]
        exact upd_same
    refine key _ fun ap au F5 H5 g5 S M5 hap hau C5 => ?_
    have G5 := G4.trans g5
    have hac : H ac = none := G2.h.free n4
    have haw : H aw = none := G2.h.free n5
    refine s_for (K := K) (F := F5) (ds := rgs 1 (N + 1 - 1).toNat) g5.i (ew_rng2 (m := 1) (n := N + 1) (ea_cons ev_int (ea_cons (ev_op (ev_var (i := 1) ⟨_, rfl, .int N⟩) (ev_int (i := 1)) (rv_int (g := fun i j => i + j))) ea_nil)) (by decide) (by omega)) fun F6 H6 g6 =>
      ⟨fun i σ' F' H' => F' = F6 ∧ Same F6 H' ∧ Same H H' ∧ (∃ y4 y5 y6 y7 y8 y9 y10 y11 y12, σ' = [some x, some (.int N), some (.ref ac), some (.ref ap), y4, y5, y6, y7, y8, y9, y10, y11, y12]) ∧ NW rs H' ac aw ap au (i + 1) (i + 1),
        ⟨rfl, g6.i, G5.h.trans g6.h, ⟨_, _, _, _, _, _, _, _, _, rfl⟩, C5.same g6.h⟩, fun i σ' F' H' h => ⟨by rw [h.1]; exact Same.refl _, by rw [h.1]; exact h.2.1⟩, fun i d σ' F' H' hd hI F7 H7 v g7 rv => ?_, fun σ' F' H' hI => ?_⟩
    · obtain ⟨rfl, sF, sH, ⟨y4, y5, y6, y7, y8, y9, y10, y11, y12, rfl⟩, C⟩ := hI
      obtain ⟨hi, rfl⟩ := rgs_get hd
      have hi2 : i + 1 ≤ 60 := by omega
      cases rv
      have G6 := G5.trans g6
      have M6 := M5.grow C5 g6
      have C7 := C.same g7.h
      have s7 : Same F' H7 := sF.trans g7.h
      have sH7 : Same H H7 := sH.trans g7.h
      have ei : (1 + (i : Int)) = ((i + 1 : Nat) : Int) := by omega
      rw [ei]
      have rx7 : Dp K H7 x (allD xs) := (rx.up G6.f).up s7
      -- fresh
      refine s_setSp (K := K) (F := H7) (ea_cons (ev_var (i := 0) (σ := [some x, some (.int N), some (.ref ac), some (.ref ap), some (.int ((i + 1 : Nat) : Int)), y5, y6, y7, y8, y9, y10, y11, y12]) ⟨x, rfl, rx7⟩) (ea_cons (ev_var (i := 2) ⟨_, rfl, C7.counts⟩) (ea_cons (ev_var (i := 3) ⟨_, rfl, C7.pairs⟩) (ea_cons (ev_var (i := 4) ⟨_, rfl, .int ((i + 1 : Nat) : Int)⟩) ea_nil)))) (Same.refl H7) fun us Fa Ha ga ra => ?_
      obtain ⟨u0, u2, u3, u4, rfl, ra0, ra2, ra3, ra4⟩ := dps4 ra
      cases ra4
      rw [hrs] at ra2 ra3
      refine ⟨Fa, xs, u0, u2, u3, i, ga.i, rfl, hk, ra0, ra2, ra3, hi2, fun p Fb Hb gb pF pH ep => ?_⟩
      rw [← hrs] at ep
      have sHb := ga.h.trans gb.h
      have p7 : H7 p = none := ga.h.free pH
      have pF' : F' p = none := s7.free p7
      have Cb := C7.same sHb
      have gK : Grow F' H7 (upd F' p (.lst [.int ((cnt rs (i + 1) : Nat) : Int)])) Hb := grow_tell ⟨Same.refl _, sHb, s7.trans sHb, fun b o e1 e2 => by rw [e2] at e1; cases e1⟩ p7 pF' ep
      have Mb := M6.grow C7 gK
      have sHH := sH7.trans sHb
      -- the first loop
      refine s_for (K := K) (F := upd F' p (.lst [.int ((cnt rs (i + 1) : Nat) : Int)])) (ds := numbered [.int ((cnt rs (i + 1) : Nat) : Int)]) gK.i (ew_enum (ea_cons (ev_var (i := 5) ⟨_, rfl, .lst (.inl (.inl upd_same)) (.cons (.int _) .nil)⟩) ea_nil)) fun Fc Hc gc =>
        ⟨fun j σ' G' H' => G' = Fc ∧ Same Fc H' ∧ Same H H' ∧ (∃ y6 y7 y8 y9 y10 y11 y12, σ' = [some x, some (.int N), some (.ref ac), some (.ref ap), some (.int ((i + 1 : Nat) : Int)), some (.ref p), y6, y7, y8, y9, y10, y11, y12]) ∧ NW rs H' ac aw ap au (if j = 0 then i + 1 else i + 2) (i + 1),
          ⟨rfl, gc.i, sHH.trans gc.h, ⟨_, _, _, _, _, _, _, rfl⟩, Cb.same gc.h⟩, fun j σ' G' H' h => ⟨by rw [h.1]; exact Same.refl _, by rw [h.1]; exact h.2.1⟩, fun j d σ' G' H' hd hI F8 H8 va g8 rva => ?_, fun σ' G' H' hI => ?_⟩
      · obtain ⟨rfl, sFc, sHc, ⟨z6, z7, z8, z9, z10, z11, z12, rfl⟩, Cc⟩ := hI
        obtain ⟨b, hb, rfl⟩ := numbered_get hd
        match j, hb with
        | 0, hb =>
          cases hb
          have Cc' : NW rs H' ac aw ap au (i + 1) (i + 1) := Cc
          have Mc := Mb.grow Cb gc
          refine tk_two va _ g8.i rva _ fun σ3 hσ3 => ?_
          obtain ⟨v7, v8, rfl, rv7, rv8⟩ := hσ3
          cases rv7
          cases rv8
          have C8' := Cc'.same g8.h
          refine s_app (d := .int ((cnt rs (i + 1) : Nat) : Int)) (now_ixL (k := 0) (v := .ref aw) (now_var rfl) (.inl (.inl C8'.c)) (now_var rfl) rfl) C8'.w (by rw [lv_len]; exact small1000 (by omega)) (ev_var (i := 8) ⟨_, rfl, .int _⟩) fun v Fd Hd gd rvd => ?_
          cases rvd
          have C9 := (C8'.same gd.h).putw S
          refine ⟨_, rfl, same_own ((sFc.trans g8.h).trans gd.h) Mc.w, same_own (sHc.trans (g8.h.trans gd.h)) haw, ⟨_, _, _, _, _, _, _, rfl⟩, ?_⟩
          rw [show lv (cnt rs) (i + 1) ++ [V.int ((cnt rs (i + 1) : Nat) : Int)] = lv (cnt rs) (i + 1 + 1) from (lv_succ _ _).symm]
          exact C9
        | j + 1, hb => cases hb
      obtain ⟨rfl, sFc, sHc, ⟨z6, z7, z8, z9, z10, z11, z12, rfl⟩, Cc⟩ := hI
      have Cc' : NW rs H' ac aw ap au (i + 2) (i + 1) := Cc
      have Mc := Mb.grow Cb gc
      have sFF : Same F' G' := gK.f.trans gc.f
      -- the second loop
      refine s_forE (a := ap) (xs := prV rs au) (i0 := 3) rfl (fun j σ' H2 => Same G' H2 ∧ Same H H2 ∧ (∃ y9 y10 y11 y12, σ' = [some x, some (.int N), some (.ref ac), some (.ref ap), some (.int ((i + 1 : Nat) : Int)), some (.ref p), z6, z7, z8, y9, y10, y11, y12]) ∧ NW rs H2 ac aw ap au (i + 2) (if j = 0 then i + 1 else i + 2))
        ⟨sFc, sHc, ⟨_, _, _, _, rfl⟩, Cc'⟩ (fun j σ' H2 h => h.2.2.2.p) (fun j xv σ' H2 hx3 hI T hT => ?_) fun σ' H2 hI => ?_
      · obtain ⟨sG2, sH2, ⟨y9, y10, y11, y12, rfl⟩, C2⟩ := hI
        have z3 : 3 ∈ rs := by
          by_cases z : 3 ∈ rs
          · exact z
          · unfold prV at hx3
            rw [if_neg z] at hx3
            cases hx3
        have hx3' : [V.ref au][j]? = some xv := by
          unfold prV at hx3
          rw [if_pos z3] at hx3
          exact hx3
        match j, hx3' with
        | 0, hx3' =>
          cases hx3'
          have C2' : NW rs H2 ac aw ap au (i + 2) (i + 1) := C2
          refine ⟨T, _, rfl, .inl (.inl upd_same), rfl, _, _, rfl, _, _, rfl, rfl, ?_⟩
          have sT := same_upd (o := .tup [V.int ((0 : Nat) : Int), .ref au]) hT
          have rx2 : Dp K G' x (allD xs) := rx.up (G6.f.trans sFF)
          have C3 := C2'.same sT
          generalize upd H2 T (.tup [V.int ((0 : Nat) : Int), .ref au]) = H3' at sT C3
          refine s_asg (K := K) (F := G') (d := .tuple [.int 0, .int 0]) ((ev_cb (ea_cons (ev_var (i := 9) ⟨_, rfl, .int ((0 : Nat) : Int)⟩) (ea_cons (ev_op (ev_var (i := 0) ⟨x, rfl, rx2⟩) (ev_int (i := 2)) (rv_ixT (k := 2) rfl)) ea_nil)) (rc_divmod (i := 0) (j := 1) ⟨by decide, by decide⟩)).is rfl) (sG2.trans sT) (fun F' _ => tk_two) fun σ4 F9 H9 g9 hσ4 => ?_
          obtain ⟨v11, v12, rfl, rv11, rv12⟩ := hσ4
          cases rv11
          cases rv12
          have C9 := C3.same g9.h
          have wb : ∀ m k, m ≤ 3 → k ≤ i + 1 → wy (cnt rs) m k < 2 ^ 2050 := fun m k hm hk => wy_bits hrs6 hrs3 (by omega) m hm
          refine s_app (d := .int ((wy (cnt rs) 2 (i + 1) : Nat) : Int)) (now_var (v := .ref au) rfl) (C9.u z3) (by rw [lv_len]; exact small1000 (by omega)) ?_ fun v Fd Hd gd rvd => ?_
          · refine (ev_tog (f := cnt rs) (g := cnt rs) (a := i + 2) (b := i + 2) (n := i + 1) (ev_op (ev_var (i := 2) ⟨_, rfl, C9.counts⟩) (ev_var (i := 11) ⟨_, rfl, .int 0⟩) (rv_ixL (k := 0) rfl)) (ev_op (ev_var (i := 2) ⟨_, rfl, C9.counts⟩) (ev_var (i := 12) ⟨_, rfl, .int 0⟩) (rv_ixL (k := 0) rfl)) (ev_var (i := 4) ⟨_, rfl, .int ((i + 1 : Nat) : Int)⟩) (Nat.le_succ _) (Nat.le_succ _) (by omega) (fun k hk => wb 1 k (by decide) hk) fun k hk => wb 1 k (by decide) hk).is ?_
            exact congrArg (fun m : Nat => PyData.int (m : Int)) (tog2 rs (i + 1))
          · cases rvd
            have Cd := (C9.same gd.h).putu S z3
            have Mg := Mc.u z3
            refine ⟨same_own ((sG2.trans sT).trans (g9.h.trans gd.h)) Mg, same_own (sH2.trans (sT.trans (g9.h.trans gd.h))) (hau z3), ⟨_, _, _, _, rfl⟩, ?_⟩
            rw [show lv (wy (cnt rs) 2) (i + 1) ++ [V.int ((wy (cnt rs) 2 (i + 1) : Nat) : Int)] = lv (wy (cnt rs) 2) (i + 1 + 1) from (lv_succ _ _).symm]
            exact Cd
        | j + 1, hx3' => cases hx3'
      · obtain ⟨sG2, sH2, ⟨y9, y10, y11, y12, rfl⟩, C2⟩ := hI
        refine ⟨_, rfl, sFF.trans sG2, sH2, ⟨_, _, _, _, _, _, _, _, _, rfl⟩, ?_⟩
        by_cases z : 3 ∈ rs
        · have e1 : (prV rs au).length = 1 := by
            unfold prV
            rw [if_pos z]
            rfl
          rw [e1] at C2
          exact C2
        · exact C2.none z
    · obtain ⟨rfl, sF, sH, ⟨y4, y5, y6, y7, y8, y9, y10, y11, y12, rfl⟩, C⟩ := hI
      have hlen : (rgs 1 (N + 1 - 1).toNat).length = N.toNat := by
        rw [rgs_len]
        omega
      rw [hlen] at C
      have G6 := G5.trans g6
      have rx6 : Dp K H' x (allD xs) := (rx.up G6.f).up sF
      have q1 := ev_lc (K := K) (F := H') (σ := [some x, some (.int N), some (.ref ac), some (.ref ap), y4, y5, y6, y7, y8, y9, y10, y11, y12]) (te := tOp (rIxL K) (tOp (rIxL K) (tVar 2) (tVar 7)) (tVar 1)) (tt := tYes) (g := gName 7) (vs := [7]) (wi := iTup K (tOp (rIxT K) (tVar 0) (tC (.int 4)))) (ds := [.int 0]) (fun _ => true) (fun _ => countD (.tuple xs) (.int N)) (ew_tup (ev_op (ev_var (i := 0) ⟨x, rfl, rx6⟩) (ev_int (i := 4)) (rv_ixT (k := 4) rfl))) (by show 1 < sizeLine; decide) fun d F' hd sF' => by
        have ed : d = .int 0 := by simpa using hd
        subst ed
        refine (tk_name (i := 7)).imp fun σ2 hσ => ?_
        obtain ⟨v, rfl, rv⟩ := hσ
        refine ⟨rfl, eb_yes, fun _ => ?_⟩
        refine (ev_op (ev_op (ev_var (i := 2) ⟨_, rfl, C.counts.up sF'⟩) (ev_var (i := 7) ⟨v, rfl, rv⟩) (rv_ixL (k := 0) rfl)) ((ev_var (i := 1) ⟨_, rfl, .int N⟩).is (d1 := .int ((N.toNat : Nat) : Int)) (congrArg PyData.int (by omega))) (rv_ixL (ld_get (Nat.lt_succ_self _)))).is ?_
        rw [hrs]
        rfl
      rw [made_map] at q1
      refine (ev1 q1 (rc_sum (ns := [((cnt (ranksOf (.tuple xs)) N.toNat : Nat) : Int)]))) H' (Same.refl H') _ fun v F9 H9 g9 r9 => ?_
      refine q v F' H9 ⟨G6.f, sH.trans g9.h, sF.trans g9.h, G6.n⟩ ?_
      cases r9
      show Dp K F' _ (.int ((cnt (ranksOf (.tuple xs)) N.toNat : Nat) : Int))
      rw [show [((cnt (ranksOf (.tuple xs)) N.toNat : Nat) : Int)].sum = ((cnt (ranksOf (.tuple xs)) N.toNat : Nat) : Int) from by
        show _ + 0 = _
        rw [Int.add_zero]]
      exact .int _
  | _ => exact nomatch hb
end
end Sw
set_option Elab.async false
set_option linter.all false
set_option maxRecDepth 100000
set_option maxHeartbeats 400000
/-! W7: the law's own numbers (a dict with a list that gets shorter). -/
namespace Sw
open PySem PySem.Spec PyProof.Rows L2
open C8 (Cal pe_c pe_gc)
theorem k_wide_cells : ¬ ((.inr "wide" : Key) = .inr "cells") := by decide +kernel
theorem k_wide_rest : ¬ ((.inr "wide" : Key) = .inr "rest") := by decide +kernel
theorem k_wide_turn : ¬ ((.inr "wide" : Key) = .inr "turn") := by decide +kernel
theorem k_cells_rest : ¬ ((.inr "cells" : Key) = .inr "rest") := by decide +kernel
theorem k_cells_turn : ¬ ((.inr "cells" : Key) = .inr "turn") := by decide +kernel
theorem k_rest_turn : ¬ ((.inr "rest" : Key) = .inr "turn") := by decide +kernel
theorem k_turn_rest : ¬ ((.inr "turn" : Key) = .inr "rest") := by decide +kernel
def drawK (l c : Addr) (rest turn : Int) : List (Key × V) := [(.inr "wide", .ref l), (.inr "cells", .ref c), (.inr "rest", .int rest), (.inr "turn", .int turn)]
structure Draw (H : Hp) (a l c : Addr) (ws cs : List Int) (rest turn : Int) : Prop where
  d : H a = some (.dK (drawK l c rest turn))
  w : H l = some (.lst (ws.map .int))
  cl : H c = some (.lst (cs.map .int))
  al : a ≠ l
  ac : a ≠ c
  lc : l ≠ c
def DrawAt (H : Hp) (a l c : Addr) (n : Nat) : Prop := ∃ ws cs rest turn, Draw H a l c ws cs rest turn ∧ 0 ≤ turn ∧ turn ≤ (n : Int)
/-- nothing else has changed -/
def Keeps (a l : Addr) (H H' : Hp) : Prop := ∀ b o, b ≠ a → b ≠ l → H b = some o → H' b = some o
theorem Keeps.refl {a l : Addr} (H : Hp) : Keeps a l H H := fun _ _ _ _ h => h
theorem Keeps.trans {a l : Addr} {H1 H2 H3 : Hp} (x : Keeps a l H1 H2) (y : Keeps a l H2 H3) : Keeps a l H1 H3 := fun b o h1 h2 e => y b o h1 h2 (x b o h1 h2 e)
theorem Keeps.of {a l : Addr} {H1 H2 : Hp} (s : Same H1 H2) : Keeps a l H1 H2 := fun b o _ _ e => s b o e
theorem Keeps.put {a l : Addr} {H1 H2 : Hp} {o : HO} (x : Keeps a l H1 H2) : Keeps a l H1 (upd H2 a o) := fun b u h1 h2 e => by
  rw [upd_ne h1]
  exact x b u h1 h2 e
theorem Keeps.putl {a l : Addr} {H1 H2 : Hp} {o : HO} (x : Keeps a l H1 H2) : Keeps a l H1 (upd H2 l o) := fun b u h1 h2 e => by
  rw [upd_ne h2]
  exact x b u h1 h2 e
theorem Keeps.same {a l : Addr} {F H H' : Hp} (x : Keeps a l H H') (s : Same F H) (ha : F a = none) (hl : F l = none) : Same F H' := fun b o e => x b o (ne_of_none e ha) (ne_of_none e hl) (s b o e)
section
variable {H H' : Hp} {a l c : Addr} {ws cs : List Int} {rest turn : Int}
theorem Draw.same (D : Draw H a l c ws cs rest turn) (s : Same H H') : Draw H' a l c ws cs rest turn := ⟨s _ _ D.d, s _ _ D.w, s _ _ D.cl, D.al, D.ac, D.lc⟩
theorem Draw.put (D : Draw H a l c ws cs rest turn) {r t : Int} : Draw (upd H a (.dK (drawK l c r t))) a l c ws cs r t := ⟨upd_same, upd_at D.al.symm D.w, upd_at D.ac.symm D.cl, D.al, D.ac, D.lc⟩
theorem Draw.putl (D : Draw H a l c ws cs rest turn) {us : List Int} : Draw (upd H l (.lst (us.map .int))) a l c us cs rest turn := ⟨upd_at D.al D.d, upd_same, upd_at D.lc.symm D.cl, D.al, D.ac, D.lc⟩
theorem put_rest {r : Int} : putK (drawK l c rest turn) (.inr "rest") (.int r) = drawK l c r turn := by
  unfold drawK putK
  rw [if_pos (List.any_eq_true.mpr ⟨(.inr "rest", .int rest), by simp, decide_eq_true rfl⟩)]
  rw [List.map_cons, List.map_cons, List.map_cons, List.map_cons, List.map_nil, if_neg k_wide_rest, if_neg k_cells_rest, if_pos rfl, if_neg k_turn_rest]
theorem put_turn {t : Int} : putK (drawK l c rest turn) (.inr "turn") (.int t) = drawK l c rest t := by
  unfold drawK putK
  rw [if_pos (List.any_eq_true.mpr ⟨(.inr "turn", .int turn), by simp, decide_eq_true rfl⟩)]
  rw [List.map_cons, List.map_cons, List.map_cons, List.map_cons, List.map_nil, if_neg k_wide_turn, if_neg k_cells_turn, if_neg k_rest_turn, if_pos rfl]
theorem get_wide : valV (drawK l c rest turn) (.inr "wide") = some (.ref l) := valV_pos rfl
theorem get_cells : valV (drawK l c rest turn) (.inr "cells") = some (.ref c) := (valV_neg k_wide_cells).trans (valV_pos rfl)
theorem get_rest : valV (drawK l c rest turn) (.inr "rest") = some (.int rest) := (valV_neg k_wide_rest).trans ((valV_neg k_cells_rest).trans (valV_pos rfl))
theorem get_turn : valV (drawK l c rest turn) (.inr "turn") = some (.int turn) := (valV_neg k_wide_turn).trans ((valV_neg k_cells_turn).trans ((valV_neg k_rest_turn).trans (valV_pos rfl)))
variable {σ : L2.St} {td : TE}
theorem now_wide (D : Draw H a l c ws cs rest turn) (h : Now td σ H (.ref a)) : Now (tDGet td (tC (.str "wide"))) σ H (.ref l) := fun Q q => h _ ⟨a, .ref l, rfl, get_wide ▸ DGet.k (k := .inr "wide") D.d, q⟩
theorem now_cells (D : Draw H a l c ws cs rest turn) (h : Now td σ H (.ref a)) : Now (tDGet td (tC (.str "cells"))) σ H (.ref c) := fun Q q => h _ ⟨a, .ref c, rfl, get_cells ▸ DGet.k (k := .inr "cells") D.d, q⟩
theorem now_rest (D : Draw H a l c ws cs rest turn) (h : Now td σ H (.ref a)) : Now (tDGet td (tC (.str "rest"))) σ H (.int rest) := fun Q q => h _ ⟨a, .int rest, rfl, get_rest ▸ DGet.k (k := .inr "rest") D.d, q⟩
theorem now_turn (D : Draw H a l c ws cs rest turn) (h : Now td σ H (.ref a)) : Now (tDGet td (tC (.str "turn"))) σ H (.int turn) := fun Q q => h _ ⟨a, .int turn, rfl, get_turn ▸ DGet.k (k := .inr "turn") D.d, q⟩
end
theorem shaped_ints (ns : List Int) : SeqAt.shaped (.list (ns.map .int)) = true := by
  have h1 : ∀ ns : List Int, PyData.canLayAll0 (ns.map .int) = true := fun ns => by
    induction ns with
    | nil => rfl
    | cons a r ih =>
      show (PyData.canLay0 (.int a) && PyData.canLayAll0 (r.map .int)) = true
      rw [ih]
      rfl
  have h2 : ∀ ns : List Int, PyData.depthAll (ns.map .int) = 0 := fun ns => by
    induction ns with
    | nil => rfl
    | cons a r ih =>
      show max (PyData.depth (.int a)) (PyData.depthAll (r.map .int)) = 0
      rw [ih]
      rfl
  show (PyData.canLayAll0 (ns.map .int) && decide (PyData.depthAll (ns.map .int) + 1 ≤ 64)) = true
  rw [h1, h2]
  rfl
theorem eqv_nil (ns : List Int) : PyData.eqv (.list (ns.map .int)) (.list []) = ns.isEmpty := by
  cases ns with
  | nil => rfl
  | cons a r => rfl
end Sw
set_option Elab.async false
set_option linter.all false
set_option maxRecDepth 100000
set_option maxHeartbeats 1000000
set_option exponentiation.threshold 3000
namespace Sw
open PySem PySem.Spec PyProof.Rows L2
open C8 (Cal pe_c pe_gc)
section
variable {P : Program} {w : World} {K : PySem.W.Frag} {mg : Str → Option Value} {base : Heap} {f : Addr} {fd : FuncData} {aK CK CN CS : Addr}
theorem ev_cells {σ : L2.St} {F : Hp} {i0 : Nat} {a l c : Addr} {ws cs : List Int} {rest turn : Int} (D : Draw F a l c ws cs rest turn) (h : σ[i0]? = some (some (.ref a))) : EvD K (tDGet (tVar i0) (tC (.str "cells"))) σ F (.list (cs.map .int)) := fun H s Q q =>
  now_cells (D.same s) (now_var h) _ (q _ F H (.start s) (.lst (.inl (.inl D.cl)) (dps_ofInt cs)))
theorem mulL {i j : Int} (h : -(2 ^ 64) < i ∧ i < 2 ^ 64) : CMul i j := .inl h
theorem mulR {i j : Int} (h : -(2 ^ 64) < j ∧ j < 2 ^ 64) : CMul i j := .inr h
/-! ### _law_mixed -/
abbrev s__law_mixed : Stmt := top 35
theorem sc__law_mixed : FnScope ["draw", "prime", "turn", "found", "blend", "grain"] ["draw"] (defScope s__law_mixed) := ⟨rfl, rfl, rfl, by decide +kernel, rfl, by decide +kernel, by decide +kernel⟩
def spMixed : Sp := fun vs H Q _ => ∃ a l c n, vs = [.ref a] ∧ DrawAt H a l c n ∧ n ≤ 2 ^ 40 ∧ ∀ (i : Int) H', Keeps a l H H' → DrawAt H' a l c (n + 1) → Q (.int i) H'
def primes : List PyData := [.int 2147483647, .int 2147483629, .int 2147483587, .int 2147483579]
theorem ok__law_mixed (F : Fun K "_law_mixed" "_law_mixed" s__law_mixed f fd) (B : BI mg) : FnOk P w K mg base CX0 1 f fd ["draw"] spMixed := by
  refine F.ok sc__law_mixed (fun vs H Q E h => by obtain ⟨a, _, _, _, e, _⟩ := h; rw [e]; rfl) (fun cdv A outer s H vs Q E hr h => ?_)
  obtain ⟨a, l, c, n, ev, ⟨ws, cs, rest, turn, D, ht0, ht1⟩, hn, q⟩ := h
  subst ev
  refine ⟨_, (pss_cons (ps_par (i := 2) (j := 3) rfl sc__law_mixed.nd rfl rfl (by decide) rfl rfl (pa_cons (pe_op (op_add) (pe_dget (hu_of hr) (pv 0) pe_str (fun _ _ => rfl)) pe_int) (pa_cons pe_int pa_nil)) (by rfl))
        (pss_cons (ps_dput (hu_of hr) (pv 0) pe_str (pv 2) rfl)
        (pss_cons (ps_for PassesOwn.never rfl (pi_list (pe_lst (pa_cons pe_int (pa_cons pe_int (pa_cons pe_int (pa_cons pe_int pa_nil)))))) (pg_name (i := 1) sc__law_mixed.nd rfl (Or.inl rfl) (hf := (Or.inr rfl))) (pss_cons (ps_set (i := 4) sc__law_mixed.nd rfl (Or.inl rfl) (pe_op (op_add) (pe_op (op_mul) pe_int (pv 2)) (pe_op (op_fdiv) (pv 1) pe_int)))
        (pss_cons (ps_for PassesOwn.never rfl (pi_list (pe_dget (hu_of hr) (pv 0) pe_str (fun _ _ => rfl))) (pg_name (i := 5) sc__law_mixed.nd rfl (Or.inl rfl) (hf := (Or.inr rfl))) (pss_one (ps_set (i := 4) sc__law_mixed.nd rfl (Or.inl rfl) (pe_op (op_mod) (pe_callTy (call_int1) (by rfl) B.int_ (by decide +kernel) (pa_cons (pe_op (op_add) (pe_op (op_add) (pe_op (op_mul) (pv 4) pe_int) (pv 5)) (pv 2)) pa_nil)) (pv 1)))))
        (pss_one (ps_set (i := 3) sc__law_mixed.nd rfl (Or.inl rfl) (pe_op (op_add) (pe_op (op_mul) (pv 3) pe_int) (pe_op (op_mod) (pe_callTy (call_int1) (by rfl) B.int_ (by decide +kernel) (pa_cons (pe_op (op_pow) (pv 4) pe_int) pa_nil)) (pv 1))))))))
        (pss_one (ps_ret (pv 3)))))), ?_⟩
  refine now_turn D (now_var rfl) _ ⟨turn, 1, rfl, rfl, _, _, rfl, ?_⟩
  refine ⟨.int (turn + 1), rfl, ⟨.ref a, rfl, ⟨a, _, rfl, DPut.k (k := .inr "turn") D.d (by show 4 < sizeLine; decide), ?_⟩⟩⟩
  rw [put_turn]
  have D1 := D.put (r := rest) (t := turn + 1)
  have k1 : Keeps a l H (upd H a (.dK (drawK l c rest (turn + 1)))) := (Keeps.refl H).put
  generalize upd H a (.dK (drawK l c rest (turn + 1))) = H1 at D1 k1
  refine s_for (K := K) (F := H1) (ds := primes) (Same.refl H1) (ew_list (ev_lst (ea_cons ev_int (ea_cons ev_int (ea_cons ev_int (ea_cons ev_int ea_nil)))) (by show 4 ≤ sizeLine; decide))) fun F2 H2 g2 =>
    ⟨fun i σ' F' H' => F' = F2 ∧ Same F2 H' ∧ (∃ y1 y3 y4 y5, σ' = [some (.ref a), y1, some (.int (turn + 1)), some (.int y3), y4, y5]),
      ⟨rfl, g2.i, ⟨_, _, _, _, rfl⟩⟩, fun i σ' F' H' h => ⟨by rw [h.1]; exact Same.refl _, by rw [h.1]; exact h.2.1⟩, fun i d σ' F' H' hd hI F3 H3 v g3 rv => ?_, fun σ' F' H' hI => ?_⟩
  · obtain ⟨rfl, sF, ⟨y1, y3, y4, y5, rfl⟩⟩ := hI
    have hp : ∃ p : Int, d = .int p ∧ 2147483579 ≤ p ∧ p ≤ 2147483647 := by
      match i, hd with
      | 0, hd => cases hd; exact ⟨_, rfl, by decide, by decide⟩
      | 1, hd => cases hd; exact ⟨_, rfl, by decide, by decide⟩
      | 2, hd => cases hd; exact ⟨_, rfl, by decide, by decide⟩
      | 3, hd => cases hd; exact ⟨_, rfl, by decide, by decide⟩
      | i + 4, hd => cases hd
    obtain ⟨p, rfl, p1, p2⟩ := hp
    cases rv
    have s3 : Same F' H3 := sF.trans g3.h
    have D3 := (D1.same g2.f).same s3
    refine s_set (K := K) (F := H3) (d := .int (48271 * (turn + 1) + p / 37)) (ev_op (ev_op (ev_int (i := 48271)) (ev_var (i := 2) ⟨_, rfl, .int (turn + 1)⟩) (rv_intC (C := CMul) (g := fun i j => i * j) (mulL (by decide)))) (ev_op (ev_var (i := 1) ⟨_, rfl, .int p⟩) (ev_int (i := 37)) (rv_intC (C := CDiv) (g := fun i j => i / j) ⟨by decide, by decide⟩)) (rv_int (g := fun i j => i + j))) (Same.refl H3) fun v F4 H4 g4 r4 => ?_
    cases r4
    have D4 := D3.same g4.f
    refine s_for (K := K) (F := F4) (ds := cs.map .int) g4.i (ew_list (ev_cells D4 rfl)) fun F5 H5 g5 =>
      ⟨fun j σ' G' H' => G' = F5 ∧ Same F5 H' ∧ ∃ b y5, σ' = [some (.ref a), some (.int p), some (.int (turn + 1)), some (.int y3), some (.int b), y5] ∧ -(2 ^ 63) < b ∧ b < 2 ^ 63,
        ⟨rfl, g5.i, _, _, rfl, by omega, by omega⟩, fun j σ' G' H' h => ⟨by rw [h.1]; exact Same.refl _, by rw [h.1]; exact h.2.1⟩, fun j d σ' G' H' hd hI F6 H6 v g6 rv => ?_, fun σ' G' H' hI => ?_⟩
    · obtain ⟨rfl, s5, b, z5, rfl, b1, b2⟩ := hI
      obtain ⟨x, _, rfl⟩ := List.mem_map.mp (List.mem_of_getElem? hd)
      cases rv
      have q1 := ev_op (K := K) (F := F6) (σ := [some (.ref a), some (.int p), some (.int (turn + 1)), some (.int y3), some (.int b), some (.int x)]) (ev_op (ev_op (ev_var (i := 4) ⟨_, rfl, .int b⟩) (ev_int (i := 69621)) (rv_intC (C := CMul) (g := fun i j => i * j) (mulR (by decide)))) (ev_var (i := 5) ⟨_, rfl, .int x⟩) (rv_int (g := fun i j => i + j))) (ev_var (i := 2) ⟨_, rfl, .int (turn + 1)⟩) (rv_int (g := fun i j => i + j))
      refine s_set (K := K) (F := F6) (d := .int ((b * 69621 + x + (turn + 1)) % p)) (ev_op (ev1 q1 rc_int) (ev_var (i := 1) ⟨_, rfl, .int p⟩) (rv_intC (C := fun _ j => 0 < j) (g := fun i j => i % j) (by omega))) g6.i fun v F7 H7 g7 r7 => ?_
      cases r7
      have m1 := Int.emod_nonneg (b * 69621 + x + (turn + 1)) (show p ≠ 0 by omega)
      have m2 := Int.emod_lt_of_pos (b * 69621 + x + (turn + 1)) (show 0 < p by omega)
      exact ⟨_, rfl, s5.trans (g6.h.trans g7.h), _, _, rfl, by omega, by omega⟩
    · obtain ⟨rfl, s5, b, z5, rfl, b1, b2⟩ := hI
      have q1 := ev_op (K := K) (F := G') (σ := [some (.ref a), some (.int p), some (.int (turn + 1)), some (.int y3), some (.int b), z5]) (ev1 (ev_op (ev_var (i := 4) ⟨_, rfl, .int b⟩) (ev_int (i := 5)) (rv_intC (C := CPow) (g := fun i j => i ^ j.toNat) ⟨by decide, by decide, by omega⟩)) rc_int) (ev_var (i := 1) ⟨_, rfl, .int p⟩) (rv_intC (C := fun _ j => 0 < j) (g := fun i j => i % j) (by omega))
      refine s_set (K := K) (F := G') (ev_op (ev_op (ev_var (i := 3) ⟨_, rfl, .int y3⟩) (ev_int (i := 2147483647)) (rv_intC (C := CMul) (g := fun i j => i * j) (mulR (by decide)))) q1 (rv_int (g := fun i j => i + j))) s5 fun v F7 H7 g7 r7 => ?_
      cases r7
      exact ⟨_, rfl, s3.trans (g4.f.trans (g5.f.trans (s5.trans g7.h))), ⟨_, _, _, _, rfl⟩⟩
  · obtain ⟨rfl, sF, ⟨y1, y3, y4, y5, rfl⟩⟩ := hI
    refine now_var rfl _ ?_
    have D3 := (D1.same g2.f).same sF
    exact q y3 H' (k1.trans (.of (g2.f.trans sF))) ⟨ws, cs, rest, turn + 1, D3, by omega, by omega⟩
/-! ### _law_take -/
theorem ev_rest {σ : L2.St} {F : Hp} {i0 : Nat} {a l c : Addr} {ws cs : List Int} {rest turn : Int} (D : Draw F a l c ws cs rest turn) (h : σ[i0]? = some (some (.ref a))) : EvD K (tDGet (tVar i0) (tC (.str "rest"))) σ F (.int rest) := fun H s Q q =>
  now_rest (D.same s) (now_var h) _ (q _ F H (.start s) (.int _))
theorem ev_wide {σ : L2.St} {F : Hp} {i0 : Nat} {a l c : Addr} {ws cs : List Int} {rest turn : Int} (D : Draw F a l c ws cs rest turn) (h : σ[i0]? = some (some (.ref a))) : EvD K (tDGet (tVar i0) (tC (.str "wide"))) σ F (.list (ws.map .int)) := fun H s Q q =>
  now_wide (D.same s) (now_var h) _ (q _ F H (.start s) (.lst (.inl (.inl D.w)) (dps_ofInt ws)))
theorem s_whenI {σ : L2.St} {F H : Hp} {b : Bool} {t : TT} {ts tw : TS} {D : Ends} (I : Hp → Prop) (h : EvB t σ F b) (s : Same F H) (k1 : b = true → ∀ F' H', Grow F H F' H' → ∀ D' : Ends, (∀ H2, I H2 → D'.nx σ H2) → ts D' σ H') (k2 : b = false → ∀ F' H', Grow F H F' H' → I H') (k : ∀ H2, I H2 → tw D σ H2) :
    tSeq (tIfS t ts tNext) tw D σ H := s_when h s (fun hb F' H' g => k1 hb F' H' g _ k) fun hb F' H' g => k _ (k2 hb F' H' g)
abbrev s__law_take : Stmt := top 36
theorem sc__law_take : FnScope ["draw", "many", "found"] ["draw", "many"] (defScope s__law_take) := ⟨rfl, rfl, rfl, by decide +kernel, rfl, by decide +kernel, by decide +kernel⟩
def spTake : Sp := fun vs H Q _ => ∃ a l c n m, vs = [.ref a, .int m] ∧ DrawAt H a l c n ∧ n ≤ 2 ^ 40 ∧ 1 ≤ m ∧ m ≤ 2 ^ 40 ∧ ∀ (i : Nat) H', (i : Int) < m → Keeps a l H H' → DrawAt H' a l c (n + 1) → Q (.int (i : Int)) H'
theorem ok__law_take (F : Fun K "_law_take" "_law_take" s__law_take f fd) (B : BI mg) (c__law_mixed : Cal P w K mg base 1 "_law_mixed" spMixed []) : FnOk P w K mg base CX0 2 f fd ["draw", "many"] spTake := by
  refine F.ok sc__law_take (fun vs H Q E h => by obtain ⟨a, _, _, _, m, e, _⟩ := h; rw [e]; rfl) (fun cdv A outer s H vs Q E hr h => ?_)
  obtain ⟨a, l, c, n, m, ev, ⟨ws, cs, rest, turn, D, ht0, ht1⟩, hn, hm1, hm2, q⟩ := h
  subst ev
  refine ⟨_, (pss_cons (ps_if (pt_cmpR (op_eq) (pe_dget (hu_of hr) (pv 0) pe_str (fun _ _ => rfl)) pe_int (nomark _)) (pss_one (ps_dput (hu_of hr) (pv 0) pe_str (pe_ifExp (pt_cmpR (r := rNeD K) (op_neD hr.units) (pe_dget (hu_of hr) (pv 0) pe_str (fun _ _ => rfl)) (pe_lst pa_nil) (nomark _)) (pe_bm PySem.F.plainAttrs_list PySem.F.slot_list_pop PySem.F.type_list_pop mt_popAt (pe_dget (hu_of hr) (pv 0) pe_str (fun _ _ => rfl)) (pa_cons pe_int pa_nil)) (pe_c c__law_mixed hr (by first | decide | omega) (by rfl) (pa_cons (pv 0) pa_nil))) rfl)) pss_nil)
        (pss_cons (ps_set (i := 2) sc__law_take.nd rfl (Or.inl rfl) (pe_op (op_mod) (pe_callTy (call_int1) (by rfl) B.int_ (by decide +kernel) (pa_cons (pe_dget (hu_of hr) (pv 0) pe_str (fun _ _ => rfl)) pa_nil)) (pv 1)))
        (pss_cons (ps_dput (hu_of hr) (pv 0) pe_str (pe_op (op_fdivW) (pe_dget (hu_of hr) (pv 0) pe_str (fun _ _ => rfl)) (pv 1)) rfl)
        (pss_one (ps_ret (pv 2)))))), ?_⟩
  refine s_whenI (F := H) (fun H2 => Keeps a l H H2 ∧ DrawAt H2 a l c (n + 1)) (eb_test (K := K) (ev_op (ev_rest D rfl) (ev_int (i := 0)) rv_eqI)) (Same.refl H) (fun _ F1 H1 g1 D' k => ?_) (fun _ F1 H1 g1 => ⟨.of g1.h, ws, cs, rest, turn, D.same g1.h, ht0, by omega⟩) fun H1 hI => ?_
  · have D1 := D.same g1.h
    have k1 : Keeps a l H H1 := .of g1.h
    refine eb_test (K := K) (ev_op (ev_wide D1 rfl) (ev_lst ea_nil (Nat.zero_le _)) (rv_neD (shaped_ints ws) (by decide +kernel))) H1 (Same.refl H1) _ fun F2 H2 g2 => ?_
    have D2 := D1.same g2.h
    have k2 := k1.trans (.of g2.h)
    rw [eqv_nil]
    cases ws with
    | nil =>
      refine ⟨.ref a, rfl, a, l, c, n, rfl, ⟨_, _, _, _, D2, ht0, ht1⟩, hn, fun i H3 k3 D3 => ?_⟩
      obtain ⟨us, cs2, r2, t2, D4, h1, h2⟩ := D3
      refine ⟨.ref a, rfl, a, _, rfl, DPut.k (k := .inr "rest") D4.d (by show 4 < sizeLine; decide), ?_⟩
      rw [put_rest]
      exact k _ ⟨(k2.trans k3).put, us, cs2, i, t2, D4.put, h1, h2⟩
    | cons x ws =>
      refine now_wide D2 (now_var rfl) _ ⟨.inl ⟨rfl, _, .inl (.inl D2.w)⟩, ⟨l, _, 0, 0, .int x, rfl, rfl, D2.w, by decide, by decide, ?_, rfl, ?_⟩⟩
      · show seqIndex? 0 ((V.int x :: ws.map V.int).length) = some 0
        exact seqIndex_of (by decide) (by show (0 : Int) < (((ws.map V.int).length + 1 : Nat) : Int); omega)
      · have D4 := D2.putl (us := ws)
        refine ⟨.ref a, rfl, a, _, rfl, DPut.k (k := .inr "rest") D4.d (by show 4 < sizeLine; decide), ?_⟩
        rw [put_rest]
        exact k _ ⟨k2.putl.put, ws, cs, x, turn, D4.put, ht0, by omega⟩
  · obtain ⟨k1, us, cs1, r, t, D1, h0, h1⟩ := hI
    refine s_set (K := K) (F := H1) (d := .int (r % m)) (ev_op (ev1 (ev_rest D1 rfl) rc_int) (ev_var (i := 1) ⟨_, rfl, .int m⟩) (rv_intC (C := fun _ j => 0 < j) (g := fun i j => i % j) (by omega))) (Same.refl H1) fun v F2 H2 g2 r2 => ?_
    cases r2
    have D2 := D1.same g2.h
    refine ev_op (K := K) (F := H2) (ev_rest D2 rfl) (ev_var (i := 1) ⟨_, rfl, .int m⟩) (rv_intC (C := CDivW) (g := fun i j => i / j) (wide_div (b := 64) (by omega) (by omega) (by decide) (by decide))) H2 (Same.refl H2) _ fun v F3 H3 g3 r3 => ?_
    cases r3
    have D3 := D2.same g3.h
    refine ⟨.ref a, rfl, a, _, rfl, DPut.k (k := .inr "rest") D3.d (by show 4 < sizeLine; decide), ?_⟩
    rw [put_rest]
    have m1 := Int.emod_nonneg r (show m ≠ 0 by omega)
    have m2 := Int.emod_lt_of_pos r (show 0 < m by omega)
    refine ⟨.int (r % m), rfl, ?_⟩
    have := q (r % m).toNat _ (by omega) ((k1.trans (.of (g2.h.trans g3.h))).put) ⟨us, cs1, r / m, t, D3.put, h0, by omega⟩
    rw [Int.toNat_of_nonneg m1] at this
    exact this
end
end Sw
set_option Elab.async false
set_option linter.all false
set_option maxRecDepth 100000
set_option maxHeartbeats 1000000
set_option exponentiation.threshold 3000
namespace Sw
open PySem PySem.Spec PyProof.Rows L2
open C8 (Cal pe_c pe_gc)
section
variable {P : Program} {w : World} {K : PySem.W.Frag} {mg : Str → Option Value} {base : Heap} {f : Addr} {fd : FuncData} {aK CK CN CS : Addr}
/-! ### _law_pick -/
abbrev s__law_pick : Stmt := top 37
theorem sc__law_pick : FnScope ["draw", "some"] ["draw", "some"] (defScope s__law_pick) := ⟨rfl, rfl, rfl, by decide +kernel, rfl, by decide +kernel, by decide +kernel⟩
def spPick (K : PySem.W.Frag) : Sp := fun vs H Q _ => ∃ F a l c n y ds, Same F H ∧ F a = none ∧ F l = none ∧ vs = [.ref a, y] ∧ Dp K F y (.list ds) ∧ 1 ≤ ds.length ∧ ds.length ≤ 1000 ∧ DrawAt H a l c n ∧ n ≤ 2 ^ 40 ∧
  ∀ d v H', d ∈ ds → Dp K F v d → Keeps a l H H' → DrawAt H' a l c (n + 1) → Q v H'
theorem ok__law_pick (F : Fun K "_law_pick" "_law_pick" s__law_pick f fd) (B : BI mg) (c__law_take : Cal P w K mg base 2 "_law_take" spTake []) : FnOk P w K mg base CX0 3 f fd ["draw", "some"] (spPick K) := by
  refine F.ok sc__law_pick (fun vs H Q E h => by obtain ⟨_, a, _, _, _, y, _, _, _, _, e, _⟩ := h; rw [e]; rfl) (fun cdv A outer s H vs Q E hr h => ?_)
  obtain ⟨F0, a, l, c, n, y, ds, sm, na, nl, ev, ra, hd1, hd2, D, hn, q⟩ := h
  subst ev
  refine ⟨_, (pss_one (ps_ret (pe_ix (r := rIxL K) ix_list (pv 1) (pe_c c__law_take hr (by first | decide | omega) (by rfl) (pa_cons (pv 0) (pa_cons (pe_callB (r := rLen0 K) (call_len) (by rfl) B.len (by decide +kernel) (pa_cons (pv 1) pa_nil)) pa_nil))) (fun _ _ => rfl)))), ?_⟩
  obtain ⟨ws, cs, rest, turn, D, h0, h1⟩ := D
  cases ra with
  | lst ha hv =>
    rename_i p vs
    refine ⟨.ref p, rfl, .ref a, rfl, ev1 (K := K) (F := F0) (ev_var (i := 1) ⟨.ref p, rfl, .lst ha hv⟩) rc_lenL H sm _ fun u F1 H1 g1 r1 => ?_⟩
    cases r1
    refine ⟨a, l, c, n, (ds.length : Int), rfl, ⟨ws, cs, rest, turn, D.same g1.h, h0, h1⟩, hn, by omega, by omega, fun i H2 hi k2 D2 => ?_⟩
    have hi' : i < ds.length := by omega
    obtain ⟨v, hv1, hv2⟩ := hv.get (List.getElem?_eq_getElem hi')
    have kk := (Keeps.of (a := a) (l := l) g1.h).trans k2
    exact ⟨p, vs, (i : Int), v, rfl, rfl, (kk.same sm na nl).seq ha, atI_nat hv1, q _ v H2 (List.getElem_mem hi') hv2 kk D2⟩
/-! ### _law_all_of -/
abbrev s__law_all_of : Stmt := top 41
theorem sc__law_all_of : FnScope ["kinds", "pair"] ["kinds"] (defScope s__law_all_of) := ⟨rfl, rfl, rfl, by decide +kernel, rfl, by decide +kernel, by decide +kernel⟩
def g_law_all_of (d : PyData) : Option PyData := match d with
  | .tuple xs => if decide (xs.length ≤ 1000) then some (allD xs) else none
  | _ => none
abbrev p__law_all_of (K : PySem.W.Frag) : Sp := spD K (f1 g_law_all_of)
theorem ok__law_all_of (F : Fun K "_law_all_of" "_law_all_of" s__law_all_of f fd) (B : BI mg) : FnOk P w K mg base CX0 1 f fd ["kinds"] (p__law_all_of K) := by
  refine F.ok sc__law_all_of (fun vs H Q E h => len_f1 h) (fun cdv A outer s H vs Q E hr h => go1 h fun F0 a x d sm ra e ev q => ?_)
  subst ev
  match a, e with
  | .tuple xs, e =>
    have e' : (if decide (xs.length ≤ 1000) then some (allD xs) else none) = some d := e
    split at e'
    case isFalse => cases e'
    rename_i hc
    cases e'
    have hl := of_decide_eq_true hc
    refine ⟨_, (pss_one (ps_ret (pe_tup (pa_cons pe_str (pa_cons (pv 0) (pa_cons pe_int (pa_cons (pe_tupleOf (by rfl) B.tuple (pe_lc (own := [("pair", 1)]) (g := (gName 1)) rfl sc__law_all_of.nd (pi_tup (pv 0)) (blkOk_by (own := [("pair", 1)]) (N := ["kinds", "pair"]) (sc := defScope s__law_all_of) (by decide +kernel)) (fun _ _ _ _ _ => (pg_name (i := 1) sc__law_all_of.nd rfl (Or.inl rfl) (hf := (Or.inr rfl)))) (fun _ _ _ _ _ => pts_nil) (fun _ _ _ _ _ => (pe_tup (pa_cons pe_int pa_nil))))) (pa_cons (pe_tup (pa_cons pe_int pa_nil)) pa_nil)))))))), ?_⟩
    have s0 : Slot K (start ["kinds", "pair"] [x]) F0 0 (.tuple xs) := ⟨x, rfl, ra⟩
    refine (r_ret ?_ : Ret K _ _ F0 _) H sm _ q
    have q1 := ev_lc (K := K) (te := tTup (tCons (tC (.int 0)) tNil)) (tt := tYes) (g := gName 1) (vs := [1]) (fun _ => true) (fun _ => .tuple [.int 0]) (ew_tup (ev_var s0)) (small1000 (by omega)) fun d F' hd sF => by
      refine tk_name.imp fun σ2 hσ => ?_
      obtain ⟨v, rfl, rv⟩ := hσ
      exact ⟨rfl, eb_yes, fun _ => ev_tup (ea_cons ev_int ea_nil) (by show 1 ≤ sizeLine; decide)⟩
    rw [made_map] at q1
    exact ev_tup (ea_cons (ev_str (x := "set")) (ea_cons (ev_var s0) (ea_cons (ev_int (i := 1)) (ea_cons (ev_tupleL q1) (ea_cons (ev_tup (ea_cons (ev_int (i := 0)) ea_nil) (by show 1 ≤ sizeLine; decide)) ea_nil))))) (by show 5 ≤ sizeLine; decide)
end
end Sw
set_option Elab.async false
set_option linter.all false
set_option maxRecDepth 100000
set_option maxHeartbeats 1000000
set_option exponentiation.threshold 3000
namespace Sw
open PySem PySem.Spec PyProof.Rows L2
open C8 (Cal pe_c pe_gc)
section
variable {P : Program} {w : World} {K : PySem.W.Frag} {mg : Str → Option Value} {base : Heap} {f : Addr} {fd : FuncData} {aK CK CN CS : Addr}
/-! ### _law_counts -/
abbrev s__law_counts : Stmt := top 42
theorem sc__law_counts : FnScope ["kinds", "most", "found", "total", "many", "name", "rank", "line", "lap", "at", "k"] ["kinds", "most"] (defScope s__law_counts) := ⟨rfl, rfl, rfl, by decide +kernel, rfl, by decide +kernel, by decide +kernel⟩
/-- sum([found[k] * line[e - k] for k in range(e + 1)]) -/
theorem sumFL {F : Hp} {c h : Nat → Nat} {N e : Nat} {tn tidx : TE} {ls : List PyData} {y0 y1 y3 y4 y5 y6 y8 y9 y10 : Option V} {vf vl : V} (hf : Dp K F vf (.list (ld c N))) (hl : Dp K F vl (.list ls)) (hN : e < N) (he : e ≤ 200)
    (hls : ∀ k, k ≤ e → ls[k]? = some (.int ((h k : Nat) : Int))) (hc : ∀ k, k ≤ e → c k < 2 ^ 2050) (hh : ∀ k, k ≤ e → h k < 2 ^ 2050)
    (hn : EvD K tn [y0, y1, some vf, y3, y4, y5, y6, some vl, y8, y9, y10] F (.int ((e + 1 : Nat) : Int)))
    (hi : ∀ (k : Nat) F', k ≤ e → Same F F' → EvD K tidx [y0, y1, some vf, y3, y4, y5, y6, some vl, y8, y9, some (.int (k : Int))] F' (.int ((e - k : Nat) : Int))) :
    EvD K (tCB (rSum K) (tCons (tLc (iRng1 (tCons tn tNil)) (gName 10) tYes (tOp (rI CMulW fun i j => .int (i * j)) (tOp (rIxL K) (tVar 2) (tVar 10)) (tOp (rIxL K) (tVar 7) tidx)) [10]) tNil)) [y0, y1, some vf, y3, y4, y5, y6, some vl, y8, y9, y10] F (.int ((sumTo e (fun k => c k * h (e - k)) : Nat) : Int)) := by
  have q := ev_lc (K := K) (F := F) (σ := [y0, y1, some vf, y3, y4, y5, y6, some vl, y8, y9, y10]) (te := tOp (rI CMulW fun i j => .int (i * j)) (tOp (rIxL K) (tVar 2) (tVar 10)) (tOp (rIxL K) (tVar 7) tidx)) (tt := tYes) (g := gName 10) (vs := [10]) (fun _ => true) (fun d => .int ((c (intD d).toNat * h (e - (intD d).toNat) : Nat) : Int))
    (ew_rng1 (n := ((e + 1 : Nat) : Int)) (ea_cons hn ea_nil) (by omega)) (small1000 (by rw [rgs_len]; omega)) fun d F' hd sF => by
    obtain ⟨k, hk⟩ := List.getElem?_of_mem hd
    obtain ⟨hk, rfl⟩ := rgs_get hk
    have hk' : k ≤ e := by omega
    refine (tk_name (i := 10)).imp fun σ2 hσ => ?_
    obtain ⟨v, rfl, rv⟩ := hσ
    rw [Int.zero_add] at rv
    cases rv
    refine ⟨rfl, eb_yes, fun _ => ?_⟩
    have q1 := ev_op (ev_var (F := F') (σ := [y0, y1, some vf, y3, y4, y5, y6, some vl, y8, y9, some (.int (k : Int))]) (i := 2) ⟨_, rfl, hf.up sF⟩) (ev_var (i := 10) ⟨_, rfl, .int (k : Int)⟩) (rv_ixL (ld_get (show k < N by omega)))
    have q2 := ev_op (ev_var (F := F') (σ := [y0, y1, some vf, y3, y4, y5, y6, some vl, y8, y9, some (.int (k : Int))]) (i := 7) ⟨_, rfl, hl.up sF⟩) (hi k F' hk' sF) (rv_ixL (hls (e - k) (by omega)))
    refine (ev_op q1 q2 (rv_intC (mul_bits2 (hc k hk') (hh _ (by omega))))).is (congrArg PyData.int ?_)
    show _ = ((c (0 + (k : Int)).toNat * h (e - (0 + (k : Int)).toNat) : Nat) : Int)
    rw [Int.zero_add, Int.toNat_natCast, Int.natCast_mul]
  rw [Int.toNat_natCast] at q
  refine ((ev1 (q.is ?_) (rc_sum (ns := (List.range (e + 1)).map fun k => ((c k * h (e - k) : Nat) : Int)))).is ?_)
  · rw [made_map]
    unfold rgs
    rw [List.map_map, List.map_map]
    refine congrArg PyData.list (List.map_congr_left fun k _ => ?_)
    show PyData.int ((c (0 + (k : Int)).toNat * h (e - (0 + (k : Int)).toNat) : Nat) : Int) = _
    rw [Int.zero_add, Int.toNat_natCast]
    rfl
  · rw [sum_map_cast]
    rfl
/-- the line of a total i + 1: its last number is nought -/
def lineD (h : Nat → Nat) (i : Nat) : List PyData := (List.range (i + 2)).map fun k => .int ((if k < i + 1 then h k else 0 : Nat) : Int)
theorem line_get {h : Nat → Nat} {i k : Nat} (hk : k ≤ i) : (lineD h i)[k]? = some (.int ((h k : Nat) : Int)) := by
  unfold lineD
  rw [List.getElem?_map, List.getElem?_range (by omega)]
  show some (PyData.int ((if k < i + 1 then h k else 0 : Nat) : Int)) = _
  rw [if_pos (by omega)]
theorem line_app {h : Nat → Nat} {i : Nat} : lineD h i = ld h (i + 1) ++ [.int 0] := by
  unfold lineD ld
  rw [List.range_succ, List.map_append, List.map_singleton, if_neg (by omega)]
  refine congrArg (· ++ [PyData.int 0]) (List.map_congr_left fun k hk => ?_)
  rw [if_pos (List.mem_range.mp hk)]
theorem lv_line (F : Hp) (h : Nat → Nat) (i : Nat) : DpAll K F (lv h (i + 1) ++ [.int 0]) (lineD h i) := by
  rw [line_app]
  exact (lv_rel F h (i + 1)).app (.cons (.int 0) .nil)
def g_law_counts (d m : PyData) : Option PyData := match d, m with
  | .tuple xs, .int m => if isKinds (.tuple xs) && (decide (0 ≤ m) && decide (m ≤ 200)) then some (.list (ld (cnt (xs.map rankN)) (m.toNat + 1))) else none
  | _, _ => none
abbrev p__law_counts (K : PySem.W.Frag) : Sp := spD K (f2 g_law_counts)
theorem ok__law_counts (F : Fun K "_law_counts" "_law_counts" s__law_counts f fd) (B : BI mg) : FnOk P w K mg base CX0 1 f fd ["kinds", "most"] (p__law_counts K) := by
  refine F.ok sc__law_counts (fun vs H Q E h => len_f2 h) (fun cdv A outer s H vs Q E hr h => go2 h fun F0 a b x y d sm ra rb e ev q => ?_)
  subst ev
  match a, b, e with
  | .tuple xs, .int m, e =>
    have e' : (if isKinds (.tuple xs) && (decide (0 ≤ m) && decide (m ≤ 200)) then some (PyData.list (ld (cnt (xs.map rankN)) (m.toNat + 1))) else none) = some d := e
    split at e'
    case isFalse => cases e'
    rename_i hc
    cases e'
    rw [Bool.and_eq_true, Bool.and_eq_true, decide_eq_true_iff, decide_eq_true_iff] at hc
    obtain ⟨hk, hm0, hm2⟩ := hc
    obtain ⟨h6, hx⟩ := kinds_ranks hk
    obtain ⟨rs, hrs⟩ : ∃ rs, rs = xs.map rankN := ⟨_, rfl⟩
    rw [← hrs] at q
    have hrs6 : rs.length ≤ 6 := by rw [hrs, List.length_map]; exact h6
    have hrs3 : ∀ r ∈ rs, r ≤ 3 := fun r hr => by
      rw [hrs] at hr
      obtain ⟨d, hd, rfl⟩ := List.mem_map.mp hr
      obtain ⟨n, r, rfl, h0, h1⟩ := hx d hd
      show r.toNat ≤ 3
      omega
    have wb : ∀ r k, r ≤ 3 → k ≤ 200 → wy (cnt rs) r k < 2 ^ 2050 := fun r k hr hk => wy_bits hrs6 hrs3 hk r hr
    have cb : ∀ k, k ≤ 200 → cnt rs k < 2 ^ 2050 := fun k hk => wb 1 k (by decide) hk
    refine ⟨_, (pss_cons (ps_set (i := 2) sc__law_counts.nd rfl (Or.inr rfl) (pe_lst (pa_cons pe_int pa_nil)))
        (pss_cons (ps_for PassesOwn.never rfl (pi_range2 (by rfl) B.range (pa_cons pe_int (pa_cons (pe_op (op_add) (pv 1) pe_int) pa_nil))) (pg_name (i := 3) sc__law_counts.nd rfl (Or.inr rfl) (hf := (Or.inl rfl))) (pss_cons (ps_set (i := 4) sc__law_counts.nd rfl (Or.inl rfl) pe_int)
        (pss_cons (ps_for PassesOwn.never rfl (pi_tup (pv 0)) (pg_tup rfl (pgs_cons (pg_name (i := 5) sc__law_counts.nd rfl (Or.inl rfl) (hf := (Or.inr rfl))) (pgs_cons (pg_name (i := 6) sc__law_counts.nd rfl (Or.inl rfl) (hf := (Or.inr rfl))) pgs_nil))) (pss_one (ps_if (pt_cmpR (op_lt) (pv 6) pe_int (nomark _)) (pss_one (ps_set (i := 4) sc__law_counts.nd rfl (Or.inl rfl) (pe_op (op_add) (pv 4) (pe_ifExp (pt_cmpR (op_eq) (pv 6) pe_int (nomark _)) (pe_ix (r := rIxL K) ix_list (pv 2) (pe_op (op_sub) (pv 3) pe_int) (fun _ _ => rfl)) (pe_callTy (call_int1) (by rfl) B.int_ (by decide +kernel) (pa_cons (pe_cmpR (op_eq) (pv 3) pe_int (nomark _)) pa_nil)))))) (pss_cons (ps_set (i := 7) sc__law_counts.nd rfl (Or.inr rfl) (pe_op op_cat (pv 2) (pe_lst (pa_cons pe_int pa_nil))))
        (pss_cons (ps_for PassesOwn.never rfl (pi_range1 (by rfl) B.range (pa_cons (pe_op (op_sub) (pv 6) pe_int) pa_nil)) (pg_name (i := 8) sc__law_counts.nd rfl (Or.inl rfl) (hf := (Or.inr rfl))) (pss_one (ps_set (i := 7) sc__law_counts.nd rfl (Or.inr rfl) (pe_lc (own := [("at", 9)]) (g := (gName 9)) rfl sc__law_counts.nd (pi_range1 (by rfl) B.range (pa_cons (pe_op (op_add) (pv 3) pe_int) pa_nil)) (blkOk_by (own := [("at", 9)]) (N := ["kinds", "most", "found", "total", "many", "name", "rank", "line", "lap", "at", "k"]) (sc := defScope s__law_counts) (by decide +kernel)) (fun _ _ _ _ _ => (pg_name (i := 9) sc__law_counts.nd rfl (Or.inr rfl) (hf := (Or.inl rfl)))) (fun _ _ _ _ _ => pts_nil) (fun _ _ _ _ _ => (pe_ifExp (pt_cmpR (op_lt) (pv 9) (pv 3) (nomark _)) (pe_callB (r := rSum K) (cr_sum rfl) (by rfl) B.sum (by decide +kernel) (pa_cons (pe_lc (own := [("k", 10)]) (g := (gName 10)) rfl sc__law_counts.nd (pi_range1 (by rfl) B.range (pa_cons (pe_op (op_add) (pv 9) pe_int) pa_nil)) (by refine blkOk_by ?_; show blkC ["kinds", "most", "found", "total", "many", "name", "rank", "line", "lap", "at", "k"] { kind := .function, names := [(".0", .local), ("at", .cell), ("sum", .globalImplicit), ("range", .globalImplicit), ("found", .cell), ("line", .cell), ("total", .cell)], isGenerator := false, isCoroutine := false } _ [("k", 10)] = true; decide +kernel) (fun _ _ _ _ _ => (pg_name (i := 10) sc__law_counts.nd rfl (Or.inl rfl) (hf := (Or.inr rfl)))) (fun _ _ _ _ _ => pts_nil) (fun _ _ _ _ _ => (pe_op (op_mulW) (pe_ix (r := rIxL K) ix_list (pv 2) (pv 10) (fun _ _ => rfl)) (pe_ix (r := rIxL K) ix_list (pv 7) (pe_op (op_sub) (pv 9) (pv 10)) (fun _ _ => rfl))))) pa_nil)) pe_int))))))
        (pss_one (ps_set (i := 4) sc__law_counts.nd rfl (Or.inl rfl) (pe_op (op_add) (pv 4) (pe_callB (r := rSum K) (cr_sum rfl) (by rfl) B.sum (by decide +kernel) (pa_cons (pe_lc (own := [("k", 10)]) (g := (gName 10)) rfl sc__law_counts.nd (pi_range1 (by rfl) B.range (pa_cons (pv 3) pa_nil)) (blkOk_by (own := [("k", 10)]) (N := ["kinds", "most", "found", "total", "many", "name", "rank", "line", "lap", "at", "k"]) (sc := defScope s__law_counts) (by decide +kernel)) (fun _ _ _ _ _ => (pg_name (i := 10) sc__law_counts.nd rfl (Or.inl rfl) (hf := (Or.inr rfl)))) (fun _ _ _ _ _ => pts_nil) (fun _ _ _ _ _ => (pe_op (op_mulW) (pe_ix (r := rIxL K) ix_list (pv 2) (pv 10) (fun _ _ => rfl)) (pe_ix (r := rIxL K) ix_list (pv 7) (pe_op (op_sub) (pe_op (op_sub) (pv 3) pe_int) (pv 10)) (fun _ _ => rfl))))) pa_nil))))))))))
        (pss_one (ps_expr (pe_bm PySem.F.plainAttrs_list PySem.F.slot_list_append PySem.F.type_list_append mt_append (pv 2) (pa_cons (pv 4) pa_nil)))))))
        (pss_one (ps_ret (pv 2))))), ?_⟩
    cases rb
    refine ⟨(by show 1 ≤ sizeLine; decide), fun ac hac => ?_⟩
    have nac : F0 ac = none := sm.free hac
    have s1 : Same F0 (upd H ac (.lst [.int 0])) := same_own sm nac
    refine s_for (K := K) (F := F0) (ds := rgs 1 (m + 1 - 1).toNat) s1 (ew_rng2 (m := 1) (n := m + 1) (ea_cons ev_int (ea_cons (ev_op (ev_var (i := 1) ⟨_, rfl, .int m⟩) (ev_int (i := 1)) (rv_int (g := fun i j => i + j))) ea_nil)) (by decide) (by omega)) fun F2 H2 g2 =>
      ⟨fun i σ' F' H' => F' = F2 ∧ Same F2 H' ∧ Same H H' ∧ (∃ y3 y4 y5 y6 y7 y8 y9 y10, σ' = [some x, some (.int m), some (.ref ac), y3, y4, y5, y6, y7, y8, y9, y10]) ∧ H' ac = some (.lst (lv (cnt rs) (i + 1))),
        ⟨rfl, g2.i, (same_upd hac).trans g2.h, ⟨_, _, _, _, _, _, _, _, rfl⟩, g2.h _ _ upd_same⟩, fun i σ' F' H' h => ⟨by rw [h.1]; exact Same.refl _, by rw [h.1]; exact h.2.1⟩, fun i d σ' F' H' hd hI F3 H3 v g3 rv => ?_, fun σ' F' H' hI => ?_⟩
    · obtain ⟨rfl, sF, sH, ⟨y3, y4, y5, y6, y7, y8, y9, y10, rfl⟩, eL⟩ := hI
      obtain ⟨hi, rfl⟩ := rgs_get hd
      have hi2 : i + 1 ≤ 200 := by omega
      cases rv
      have n2 : F' ac = none := free_of g2 nac upd_same
      have eL3 := g3.h _ _ eL
      have s3 : Same F' H3 := sF.trans g3.h
      have sH3 := sH.trans g3.h
      have ei : (1 + (i : Int)) = ((i + 1 : Nat) : Int) := by omega
      rw [ei]
      refine s_set (K := K) (F := F') (d := .int 0) ev_int s3 fun v F4 H4 g4 r4 => ?_
      cases r4
      refine s_for (K := K) (F := F4) (ds := xs) g4.i (ew_tup (ev_var (i := 0) ⟨x, rfl, ra.up (g2.f.trans g4.f)⟩)) fun F5 H5 g5 =>
        ⟨fun j σ' G' H' => G' = F5 ∧ Same F5 H' ∧ Same H H' ∧ (∃ y5 y6 y7 y8 y9 y10, σ' = [some x, some (.int m), some (.ref ac), some (.int ((i + 1 : Nat) : Int)), some (.int ((((rs.take j).map fun r => wy (cnt rs) r i).sum : Nat) : Int)), y5, y6, y7, y8, y9, y10]) ∧ H' ac = some (.lst (lv (cnt rs) (i + 1))),
          ⟨rfl, g5.i, sH3.trans (g4.h.trans g5.h), ⟨_, _, _, _, _, _, rfl⟩, g5.h _ _ (g4.h _ _ eL3)⟩, fun j σ' G' H' h => ⟨by rw [h.1]; exact Same.refl _, by rw [h.1]; exact h.2.1⟩, fun j d σ' G' H' hd hI F6 H6 v g6 rv => ?_, fun σ' G' H' hI => ?_⟩
      · obtain ⟨rfl, s5, sH5, ⟨z5, z6, z7, z8, z9, z10, rfl⟩, eL5⟩ := hI
        have hmem := List.mem_of_getElem? hd
        obtain ⟨nm, r, rfl, h0, h3⟩ := hx d hmem
        have hb := hd
        refine tk_two v _ g6.i rv _ fun σ2 hσ => ?_
        obtain ⟨v5, v6, rfl, rv5, rv6⟩ := hσ
        cases rv6
        obtain ⟨S, hS⟩ : ∃ S : Int, S = ((((rs.take j).map fun r => wy (cnt rs) r i).sum : Nat) : Int) := ⟨_, rfl⟩
        have eS : S + ((wy (cnt rs) r.toNat i : Nat) : Int) = ((((rs.take (j + 1)).map fun r => wy (cnt rs) r i).sum : Nat) : Int) := by
          have e1 : rs[j]? = some r.toNat := by rw [hrs, List.getElem?_map, hb]; rfl
          rw [hS, List.take_add_one, e1, List.map_append, List.sum_append, ← Int.natCast_add]
          show _ = (((_ + (wy (cnt rs) r.toNat i + 0) : Nat)) : Int)
          rw [Nat.add_zero]
        rw [← hS]
        have s6 := s5.trans g6.h
        have sH6 := sH5.trans g6.h
        have eL6 := g6.h _ _ eL5
        refine s_if (F := H6) (eb_test (K := K) (ev_op (ev_var (i := 6) ⟨_, rfl, .int r⟩) (ev_int (i := 2)) (rv_bl (g := fun i j => decide (i < j))))) (Same.refl H6) (fun hr F7 H7 g7 => ?_) fun hr F7 H7 g7 => ?_
        · have hr2 : r < 2 := of_decide_eq_true hr
          have eL7 := g7.h _ _ eL6
          refine s_set (K := K) (F := H7) (d := .int ((((rs.take (j + 1)).map fun r => wy (cnt rs) r i).sum : Nat) : Int)) ((ev_op (ev_var (i := 4) ⟨_, rfl, .int S⟩) (ev_if (d := .int ((wy (cnt rs) r.toNat i : Nat) : Int)) (eb_test (K := K) (ev_op (ev_var (i := 6) ⟨_, rfl, .int r⟩) (ev_int (i := 1)) rv_eqI)) (fun hb => ?_) fun hb => ?_) (rv_int (g := fun i j => i + j))).is (congrArg PyData.int eS)) (Same.refl H7) fun v F8 H8 g8 r8 => ?_
          · have e1 : r = 1 := of_decide_eq_true hb
            refine (ev_op (ev_var (i := 2) ⟨_, rfl, dp_of eL7⟩) ((ev_op (ev_var (i := 3) ⟨_, rfl, .int ((i + 1 : Nat) : Int)⟩) (ev_int (i := 1)) (rv_int (g := fun i j => i - j))).is (d1 := .int (i : Int)) (congrArg PyData.int (by omega))) (rv_ixL (ld_get (Nat.lt_succ_self i)))).is ?_
            rw [e1]
            rfl
          · have e0 : r = 0 := by
              have := of_decide_eq_false hb
              omega
            refine (ev1 (ev_op (ev_var (i := 3) ⟨_, rfl, .int ((i + 1 : Nat) : Int)⟩) (ev_int (i := 1)) rv_eqI) rc_intB).is ?_
            rw [e0]
            show _ = PyData.int (((if i = 0 then 1 else 0 : Nat) : Nat) : Int)
            by_cases hz : i = 0
            · rw [hz]
              rfl
            · rw [if_neg hz, decide_eq_false (by omega)]
              rfl
          · cases r8
            have gg := g7.h.trans g8.h
            exact ⟨_, rfl, s6.trans gg, sH6.trans gg, ⟨_, _, _, _, _, _, rfl⟩, gg _ _ eL6⟩
        · have hr2 : r = 2 ∨ r = 3 := by
            have := of_decide_eq_false hr
            omega
          have eL7 := g7.h _ _ eL6
          have s7 := s6.trans g7.h
          have sH7 := sH6.trans g7.h
          refine ⟨.ref ac, rfl, (by show 1 ≤ sizeLine; decide), fun b hb => ⟨ac, b, lv (cnt rs) (i + 1), [.int 0], rfl, rfl, upd_at (ne_of_none eL7 hb) eL7, upd_same, ?_, fun p hp => ?_⟩⟩
          · have := small1000 (n := i + 3) (by omega)
            rw [lv_len]
            show i + 1 + 1 ≤ sizeLine
            omega
          have s78 : Same H7 (upd (upd H7 b (.lst [.int 0])) p (.lst (lv (cnt rs) (i + 1) ++ [.int 0]))) := (same_upd hb).trans (same_upd hp)
          have e8 : upd (upd H7 b (.lst [.int 0])) p (.lst (lv (cnt rs) (i + 1) ++ [.int 0])) p = some (.lst (lv (cnt rs) (i + 1) ++ [.int 0])) := upd_same
          generalize upd (upd H7 b (.lst [.int 0])) p (.lst (lv (cnt rs) (i + 1) ++ [.int 0])) = H8 at s78 e8
          have w1 : wy (cnt rs) 1 = cnt rs := funext fun _ => rfl
          have rl8 : Dp K H8 (.ref p) (.list (lineD (wy (cnt rs) 1) i)) := .lst (.inl (.inl e8)) (by rw [w1]; exact lv_line H8 (cnt rs) i)
          have eL8 := s78 _ _ eL7
          refine s_for (K := K) (F := H8) (ds := rgs 0 (r - 2).toNat) (Same.refl H8) (ew_rng1 (n := r - 2) (ea_cons (ev_op (ev_var (i := 6) ⟨_, rfl, .int r⟩) (ev_int (i := 2)) (rv_int (g := fun i j => i - j))) ea_nil) (by omega)) fun F9 H9 g9 =>
            ⟨fun t σ' G' H' => Same F9 G' ∧ Same G' H' ∧ ∃ v7 y8 y9 y10, σ' = [some x, some (.int m), some (.ref ac), some (.int ((i + 1 : Nat) : Int)), some (.int S), some v5, some (.int r), some v7, y8, y9, y10] ∧ Dp K G' v7 (.list (lineD (wy (cnt rs) (t + 1)) i)),
              ⟨Same.refl _, g9.i, _, _, _, _, rfl, rl8.up g9.f⟩, fun t σ' G' H' h => ⟨h.1, h.2.1⟩, fun t d σ' G' H' hd hI Fa Ha va ga rva => ?_, fun σ' G' H' hI => ?_⟩
          · obtain ⟨f9, s9, v7, q8, q9, q10, rfl, rl⟩ := hI
            obtain ⟨ht, rfl⟩ := rgs_get hd
            have fa := f9.trans ga.f
            have eLa : Fa ac = some (.lst (lv (cnt rs) (i + 1))) := fa _ _ (g9.f _ _ eL8)
            have rla := rl.up ga.f
            have qc := ev_lc (K := K) (F := Fa) (σ := [some x, some (.int m), some (.ref ac), some (.int ((i + 1 : Nat) : Int)), some (.int S), some v5, some (.int r), some v7, some va, q9, q10])
              (te := tIf (tTest (tOp (rI0 fun i j => V.bl (decide (i < j))) (tVar 9) (tVar 3))) (tCB (rSum K) (tCons (tLc (iRng1 (tCons (tOp (rI0 fun i j => V.int (i + j)) (tVar 9) (tC (.int 1))) tNil)) (gName 10) tYes (tOp (rI CMulW fun i j => .int (i * j)) (tOp (rIxL K) (tVar 2) (tVar 10)) (tOp (rIxL K) (tVar 7) (tOp (rI0 fun i j => V.int (i - j)) (tVar 9) (tVar 10)))) [10]) tNil)) (tC (.int 0)))
              (tt := tYes) (g := gName 9) (vs := [9]) (fun _ => true) (fun d => .int ((if (intD d).toNat < i + 1 then wy (cnt rs) (t + 2) (intD d).toNat else 0 : Nat) : Int))
              (ew_rng1 (n := ((i + 2 : Nat) : Int)) (ea_cons ((ev_op (ev_var (i := 3) ⟨_, rfl, .int ((i + 1 : Nat) : Int)⟩) (ev_int (i := 1)) (rv_int (g := fun i j => i + j))).is (congrArg PyData.int (by omega))) ea_nil) (by omega)) (small1000 (by rw [rgs_len]; omega)) fun d F' hd sF' => by
                obtain ⟨k, hk⟩ := List.getElem?_of_mem hd
                obtain ⟨hk, rfl⟩ := rgs_get hk
                refine (tk_name (i := 9)).imp fun σ2 hσ => ?_
                obtain ⟨v, rfl, rv⟩ := hσ
                rw [Int.zero_add] at rv
                cases rv
                refine ⟨rfl, eb_yes, fun _ => ?_⟩
                show EvD K _ _ F' (.int ((if (0 + (k : Int)).toNat < i + 1 then wy (cnt rs) (t + 2) (0 + (k : Int)).toNat else 0 : Nat) : Int))
                rw [Int.zero_add, Int.toNat_natCast]
                refine ev_if (eb_test (K := K) (ev_op (ev_var (i := 9) ⟨_, rfl, .int (k : Int)⟩) (ev_var (i := 3) ⟨_, rfl, .int ((i + 1 : Nat) : Int)⟩) (rv_bl (g := fun i j => decide (i < j))))) (fun hb => ?_) fun hb => ?_
                · have hlt : k < i + 1 := by
                    have := of_decide_eq_true hb
                    omega
                  rw [if_pos hlt]
                  refine sumFL (c := cnt rs) (h := wy (cnt rs) (t + 1)) (N := i + 1) (e := k) (dp_of (sF' _ _ eLa)) (rla.up sF') hlt (by omega) (fun k' hk' => line_get (by omega)) (fun k' hk' => cb k' (by omega)) (fun k' hk' => wb (t + 1) k' (by omega) (by omega)) ((ev_op (ev_var (i := 9) ⟨_, rfl, .int (k : Int)⟩) (ev_int (i := 1)) (rv_int (g := fun i j => i + j))).is (congrArg PyData.int (by omega))) fun k' F'' hk' s2 => ?_
                  exact (ev_op (ev_var (i := 9) ⟨_, rfl, .int (k : Int)⟩) (ev_var (i := 10) ⟨_, rfl, .int (k' : Int)⟩) (rv_int (g := fun i j => i - j))).is (congrArg PyData.int (by omega))
                · have hge : ¬ k < i + 1 := by
                    have := of_decide_eq_false hb
                    omega
                  rw [if_neg hge]
                  exact ev_int
            refine s_set (K := K) (F := Fa) (d := .list (lineD (wy (cnt rs) (t + 2)) i)) (qc.is ?_) ga.i fun v Fb Hb gb rb => ?_
            · rw [made_map, Int.toNat_natCast]
              unfold rgs lineD
              rw [List.map_map]
              refine congrArg PyData.list (List.map_congr_left fun k _ => ?_)
              show PyData.int ((if (0 + (k : Int)).toNat < i + 1 then wy (cnt rs) (t + 2) (0 + (k : Int)).toNat else 0 : Nat) : Int) = _
              rw [Int.zero_add, Int.toNat_natCast]
            · exact ⟨Fb, fa.trans gb.f, gb.i, _, _, _, _, rfl, rb⟩
          · obtain ⟨f9, s9, v7, q8, q9, q10, rfl, rl⟩ := hI
            rw [rgs_len] at rl
            have eLg : G' ac = some (.lst (lv (cnt rs) (i + 1))) := f9 _ _ (g9.f _ _ eL8)
            have er : (r - 2).toNat + 1 + 1 = r.toNat := by omega
            have qs := sumFL (K := K) (F := G') (c := cnt rs) (h := wy (cnt rs) ((r - 2).toNat + 1)) (N := i + 1) (e := i) (y0 := some x) (y1 := some (.int m)) (y3 := some (.int ((i + 1 : Nat) : Int))) (y4 := some (.int S)) (y5 := some v5) (y6 := some (.int r)) (y8 := q8) (y9 := q9) (y10 := q10) (tn := tVar 3) (tidx := tOp (rI0 fun i j => V.int (i - j)) (tOp (rI0 fun i j => V.int (i - j)) (tVar 3) (tC (.int 1))) (tVar 10))
              (dp_of eLg) rl (Nat.lt_succ_self i) (by omega) (fun k' hk' => line_get hk') (fun k' hk' => cb k' (by omega)) (fun k' hk' => wb _ k' (by omega) (by omega)) (ev_var (i := 3) ⟨_, rfl, .int ((i + 1 : Nat) : Int)⟩) fun k' F'' hk' s2 =>
                (ev_op (ev_op (ev_var (i := 3) ⟨_, rfl, .int ((i + 1 : Nat) : Int)⟩) (ev_int (i := 1)) (rv_int (g := fun i j => i - j))) (ev_var (i := 10) ⟨_, rfl, .int (k' : Int)⟩) (rv_int (g := fun i j => i - j))).is (congrArg PyData.int (by omega))
            have qs' := qs.is (d1 := .int ((wy (cnt rs) r.toNat i : Nat) : Int)) (by rw [← er]; rfl)
            refine s_set (K := K) (F := G') (d := .int ((((rs.take (j + 1)).map fun r => wy (cnt rs) r i).sum : Nat) : Int)) ((ev_op (ev_var (i := 4) ⟨_, rfl, .int S⟩) qs' (rv_int (g := fun i j => i + j))).is (congrArg PyData.int eS)) s9 fun v Fb Hb gb rb => ?_
            cases rb
            have gg : Same H7 Hb := s78.trans (g9.f.trans (f9.trans (gb.f.trans gb.i)))
            exact ⟨_, rfl, s7.trans gg, sH7.trans gg, ⟨_, _, _, _, _, _, rfl⟩, gg _ _ eL7⟩
      · obtain ⟨rfl, s5, sH5, ⟨z5, z6, z7, z8, z9, z10, rfl⟩, eL5⟩ := hI
        have e1 : rs.take xs.length = rs := List.take_of_length_le (by rw [hrs, List.length_map]; exact Nat.le_refl _)
        rw [e1, ← cnt_succ]
        have n5 : G' ac = none := free_of g5 (free_of g4 n2 eL3) (g4.h _ _ eL3)
        refine s_app (K := K) (d := .int ((cnt rs (i + 1) : Nat) : Int)) (now_var (v := .ref ac) rfl) eL5 (by rw [lv_len]; exact small1000 (by omega)) (ev_var (i := 4) ⟨_, rfl, .int _⟩) fun v Fd Hd gd rvd => ?_
        cases rvd
        refine ⟨_, rfl, same_own (((g4.f.trans g5.f).trans s5).trans gd.h) n2, same_own (sH5.trans gd.h) hac, ⟨_, _, _, _, _, _, _, _, rfl⟩, ?_⟩
        rw [upd_same, ← lv_succ]
    · obtain ⟨rfl, sF, sH, ⟨y3, y4, y5, y6, y7, y8, y9, y10, rfl⟩, eL⟩ := hI
      have hlen : (rgs 1 (m + 1 - 1).toNat).length = m.toNat := by
        rw [rgs_len]
        omega
      rw [hlen] at eL
      refine now_var rfl _ ?_
      have n2 : F' ac = none := free_of g2 nac upd_same
      have g0 : Grow F0 H F' H' := ⟨g2.f, sH, sF, fun b o e1 e0 => by
        have z := g2.n b o e1 e0
        by_cases hb : b = ac
        · rw [hb]
          exact hac
        · rw [upd_ne hb] at z
          exact z⟩
      exact q (.ref ac) _ H' (grow_tell g0 hac n2 eL) (dp_of upd_same)
end
end Sw
set_option Elab.async false
set_option linter.all false
set_option maxRecDepth 100000
set_option maxHeartbeats 1000000
set_option exponentiation.threshold 3000
namespace Sw
open PySem PySem.Spec PyProof.Rows L2
open C8 (Cal pe_c pe_gc)
abbrev rListOf (K : PySem.W.Frag) : List V → Hp → VK → Prop := fun xs H Q => ∃ p ys, xs = [.ref p] ∧ (SqL K H p ys ∨ SqT K H p ys) ∧ ∀ l, H l = none → Q (.ref l) (upd H l (.lst ys))
section
variable {P : Program} {w : World} {K : PySem.W.Frag} {mg : Str → Option Value} {base : Heap} {f : Addr} {fd : FuncData} {aK CK CN CS : Addr}
/-! ### _law_shuffled -/
abbrev s__law_shuffled : Stmt := top 38
theorem sc__law_shuffled : FnScope ["draw", "some", "left", "found"] ["draw", "some"] (defScope s__law_shuffled) := ⟨rfl, rfl, rfl, by decide +kernel, rfl, by decide +kernel, by decide +kernel⟩
theorem shaped_strs {ss : List Str} (h : ∀ s ∈ ss, PyData.canLay0 (.str s) = true) : SeqAt.shaped (.list (ss.map .str)) = true := by
  have h1 : ∀ ss : List Str, (∀ s ∈ ss, PyData.canLay0 (.str s) = true) → PyData.canLayAll0 (ss.map .str) = true := fun ss => by
    induction ss with
    | nil => intro _; rfl
    | cons a r ih =>
      intro hs
      show (PyData.canLay0 (.str a) && PyData.canLayAll0 (r.map .str)) = true
      rw [ih fun s hm => hs s (List.mem_cons_of_mem _ hm), hs a List.mem_cons_self]
      rfl
  have h2 : ∀ ss : List Str, PyData.depthAll (ss.map .str) = 0 := fun ss => by
    induction ss with
    | nil => rfl
    | cons a r ih =>
      show max (PyData.depth (.str a)) (PyData.depthAll (r.map .str)) = 0
      rw [ih]
      rfl
  show (PyData.canLayAll0 (ss.map .str) && decide (PyData.depthAll (ss.map .str) + 1 ≤ 64)) = true
  rw [h1 ss h, h2]
  rfl
theorem eqv_nilS (ns : List Str) : PyData.eqv (.list (ns.map .str)) (.list []) = ns.isEmpty := by
  cases ns with
  | nil => rfl
  | cons a r => rfl
theorem map_erase {α β : Type} (g : α → β) : ∀ (l : List α) (i : Nat), (l.map g).eraseIdx i = (l.eraseIdx i).map g
  | [], _ => rfl
  | _ :: _, 0 => rfl
  | a :: r, i + 1 => congrArg (g a :: ·) (map_erase g r i)
theorem perm_erase {α : Type} : ∀ {l : List α} {i : Nat} (h : i < l.length), (l[i] :: l.eraseIdx i).Perm l
  | [], _, h => absurd h (Nat.not_lt_zero _)
  | a :: r, 0, _ => .refl _
  | a :: r, i + 1, h => (List.Perm.swap a _ _).trans ((perm_erase (l := r) (i := i) (Nat.lt_of_succ_lt_succ h)).cons a)
def spShuf (K : PySem.W.Frag) : Sp := fun vs H Q _ => ∃ (F : Hp) (a l c : Addr) (n : Nat) (y : V) (ss : List Str), Same F H ∧ F a = none ∧ F l = none ∧ vs = [.ref a, y] ∧ Dp K F y (.list (ss.map .str)) ∧ ss.length ≤ 1000 ∧ (∀ s ∈ ss, PyData.canLay0 (.str s) = true) ∧ DrawAt H a l c n ∧ n + 1000 ≤ 2 ^ 40 ∧
  ∀ (p : Addr) (fs : List Str) (H' : Hp), fs.Perm ss → H p = none → Keeps a l H H' → DrawAt H' a l c (n + ss.length) → H' p = some (.lst (fs.map V.str)) → Q (.ref p) H'
theorem ok__law_shuffled (F : Fun K "_law_shuffled" "_law_shuffled" s__law_shuffled f fd) (B : BI mg) (c__law_take : Cal P w K mg base 2 "_law_take" spTake []) : FnOk P w K mg base CX0 3 f fd ["draw", "some"] (spShuf K) := by
  refine F.ok sc__law_shuffled (fun vs H Q E h => by obtain ⟨_, a, _, _, _, y, _, _, _, _, e, _⟩ := h; rw [e]; rfl) (fun cdv A outer s H vs Q E hr h => ?_)
  obtain ⟨F0, a, l, c, n, y, ss, sm, na, nl, ev, ra, hl, hss, D, hn, q⟩ := h
  subst ev
  refine ⟨_, (pss_cons (ps_par (i := 2) (j := 3) rfl sc__law_shuffled.nd rfl rfl (by decide) rfl rfl (pa_cons (pe_callTy (r := rListOf K) (call_list_of) (by rfl) B.list_ (by decide +kernel) (pa_cons (pv 1) pa_nil)) (pa_cons (pe_lst pa_nil) pa_nil)) (by rfl))
        (pss_cons (ps_while PassesOwn.never (pt_cmpR (r := rNeD K) (op_neD hr.units) (pv 2) (pe_lst pa_nil) (nomark _)) (pss_one (ps_expr (pe_bm PySem.F.plainAttrs_list PySem.F.slot_list_append PySem.F.type_list_append mt_append (pv 3) (pa_cons (pe_bm PySem.F.plainAttrs_list PySem.F.slot_list_pop PySem.F.type_list_pop mt_popAt (pv 2) (pa_cons (pe_c c__law_take hr (by first | decide | omega) (by rfl) (pa_cons (pv 0) (pa_cons (pe_callB (r := rLen0 K) (call_len) (by rfl) B.len (by decide +kernel) (pa_cons (pv 2) pa_nil)) pa_nil))) pa_nil)) pa_nil)))))
        (pss_one (ps_ret (pv 3))))), ?_⟩
  cases ra with
  | lst ha hv =>
    rename_i p0 vs
    rw [dps_str hv] at ha
    refine ⟨.ref p0, rfl, p0, _, rfl, .inl (sm.seq ha), fun lf hlf => ⟨Nat.zero_le _, fun fd hfd => ⟨_, _, rfl, ?_⟩⟩⟩
    obtain ⟨ws, cs, rest, turn, D, d0, d1⟩ := D
    have nfl : lf ≠ fd := fun z => by
      rw [z, upd_same] at hfd
      cases hfd
    have hfd' : H fd = none := by
      rw [upd_ne nfl.symm] at hfd
      exact hfd
    have lfa : lf ≠ a := fun z => by rw [z, D.d] at hlf; cases hlf
    have lfl : lf ≠ l := fun z => by rw [z, D.w] at hlf; cases hlf
    have lfc : lf ≠ c := fun z => by rw [z, D.cl] at hlf; cases hlf
    have fda : fd ≠ a := fun z => by rw [z, D.d] at hfd'; cases hfd'
    have fdl : fd ≠ l := fun z => by rw [z, D.w] at hfd'; cases hfd'
    have fdc : fd ≠ c := fun z => by rw [z, D.cl] at hfd'; cases hfd'
    have dput : ∀ {H' : Hp} {b : Addr} {o : HO} {k : Nat}, b ≠ a → b ≠ l → b ≠ c → DrawAt H' a l c k → DrawAt (upd H' b o) a l c k := fun h1 h2 h3 ⟨us, cs, r, t, D, e1, e2⟩ => ⟨us, cs, r, t, ⟨upd_at h1.symm D.d, upd_at h2.symm D.w, upd_at h3.symm D.cl, D.al, D.ac, D.lc⟩, e1, e2⟩
    have kput : ∀ {H' : Hp} {b : Addr} {o : HO}, H b = none → Keeps a l H H' → Keeps a l H (upd H' b o) := fun hb k x u h1 h2 e => by
      rw [upd_ne (ne_of_none e hb)]
      exact k x u h1 h2 e
    refine ⟨fun m σ' H' => ∃ ls fs : List Str, m = ls.length ∧ σ' = [some (.ref a), some (.ref p0), some (.ref lf), some (.ref fd)] ∧ H' lf = some (.lst (ls.map V.str)) ∧ H' fd = some (.lst (fs.map V.str)) ∧ (fs ++ ls).Perm ss ∧ Keeps a l H H' ∧ DrawAt H' a l c (n + fs.length),
      ⟨_, ss, [], rfl, rfl, upd_at nfl upd_same, upd_same, .refl _, kput hfd' (kput hlf (Keeps.refl H)), dput fda fdl fdc (dput lfa lfl lfc ⟨ws, cs, rest, turn, D, d0, by omega⟩)⟩, fun m σ' H' hW => ?_⟩
    obtain ⟨ls, fs, rfl, rfl, e1, e2, pm, kk, DD⟩ := hW
    have hmem : ∀ s ∈ ls, PyData.canLay0 (.str s) = true := fun s hs => hss s (pm.mem_iff.mp (List.mem_append_right _ hs))
    refine eb_test (K := K) (ev_op (ev_var (i := 2) ⟨_, rfl, .lst (.inl (.inl e1)) (dps_ofStr ls)⟩) (ev_lst ea_nil (Nat.zero_le _)) (rv_neD (shaped_strs hmem) (by decide +kernel))) H' (Same.refl H') _ fun F1 H1 g1 => ?_
    rw [eqv_nilS]
    have kk1 := kk.trans (.of g1.h)
    have e11 := g1.h _ _ e1
    have e21 := g1.h _ _ e2
    have plen := pm.length_eq
    rw [List.length_append] at plen
    have D1 : DrawAt H1 a l c (n + fs.length) := by
      obtain ⟨us, cs, r, t, D, z1, z2⟩ := DD
      exact ⟨us, cs, r, t, D.same g1.h, z1, z2⟩
    cases ls with
    | nil =>
      show tRet (tVar 3) _ _ _
      refine now_var rfl _ ?_
      rw [List.append_nil] at pm
      have := q fd fs H1 pm hfd' kk1 (by rw [← pm.length_eq]; exact D1) e21
      exact this
    | cons x ls =>
      refine ⟨fun σ' H' => ∃ ls' fs' : List Str, ls'.length < (x :: ls).length ∧ σ' = [some (.ref a), some (.ref p0), some (.ref lf), some (.ref fd)] ∧ H' lf = some (.lst (ls'.map V.str)) ∧ H' fd = some (.lst (fs'.map V.str)) ∧ (fs' ++ ls').Perm ss ∧ Keeps a l H H' ∧ DrawAt H' a l c (n + fs'.length), fun σ' H' h => ?_, ?_⟩
      · obtain ⟨ls', fs', hlt, r1, r2, r3, r4, r5, r6⟩ := h
        exact ⟨ls'.length, hlt, ls', fs', rfl, r1, r2, r3, r4, r5, r6⟩
      · have hll : (x :: ls).length ≤ 1000 := by omega
        refine ⟨.ref fd, rfl, .inl ⟨rfl, _, .inl (.inl e21)⟩, .ref lf, rfl, .inl ⟨rfl, _, .inl (.inl e11)⟩, .ref a, rfl, .ref lf, rfl, .ref lf, (x :: ls).length, rfl, .inl ⟨_, .inl (.inl e11), (List.length_map ..).symm⟩, ?_⟩
        refine ⟨a, l, c, n + fs.length, ((x :: ls).length : Int), rfl, D1, by omega, by show (1 : Int) ≤ ((ls.length + 1 : Nat) : Int); omega, by omega, fun i H3 hi k3 D3 => ?_⟩
        have hi' : i < (x :: ls).length := by omega
        have e13 := k3 _ _ lfa lfl e11
        have e23 := k3 _ _ fda fdl e21
        have hget : ((x :: ls).map V.str)[i]? = some (.str ((x :: ls)[i])) := by
          rw [List.getElem?_map, List.getElem?_eq_getElem hi']
          rfl
        refine ⟨lf, _, (i : Int), i, .str ((x :: ls)[i]), rfl, rfl, e13, by omega, by omega, ?_, hget, ?_⟩
        · refine (seqIndex_of (k := (i : Int)) (Int.natCast_nonneg i) ?_).trans (by rw [Int.toNat_natCast])
          rw [List.length_map]
          omega
        · refine ⟨fd, _, .str ((x :: ls)[i]), rfl, rfl, upd_at nfl.symm e23, ?_, (x :: ls).eraseIdx i, fs ++ [(x :: ls)[i]], ?_, rfl, ?_, ?_, ?_, ?_, ?_⟩
          · rw [List.length_map]
            exact small1000 (by omega)
          · rw [List.length_eraseIdx_of_lt hi']
            show (x :: ls).length - 1 < (x :: ls).length
            omega
          · refine upd_at nfl ?_
            rw [upd_same, map_erase]
          · rw [upd_same, List.map_append]
            rfl
          · rw [List.append_assoc]
            exact ((perm_erase hi').append_left fs).trans pm
          · exact kput hfd' (kput hlf (kk1.trans k3))
          · rw [List.length_append]
            exact dput fda fdl fdc (dput lfa lfl lfc D3)
end
end Sw
set_option Elab.async false
set_option linter.all false
set_option maxRecDepth 100000
set_option maxHeartbeats 1000000
set_option exponentiation.threshold 3000
namespace Sw
open PySem PySem.Spec PyProof.Rows L2
open C8 (Cal pe_c pe_gc)
section
variable {P : Program} {w : World} {K : PySem.W.Frag} {mg : Str → Option Value} {base : Heap} {f : Addr} {fd : FuncData} {aK CK CN CS : Addr}
/-! ### _law_begun -/
abbrev s__law_begun : Stmt := top 34
theorem sc__law_begun : FnScope ["script", "wide", "grain"] ["script"] (defScope s__law_begun) := ⟨rfl, rfl, rfl, by decide +kernel, rfl, by decide +kernel, by decide +kernel⟩
theorem merge_draw (l c : Addr) (r t : Int) : mergeK [] (drawK l c r t) = drawK l c r t := by
  have h1 : putK ([] : List (Key × V)) (.inr "wide") (.ref l) = [(.inr "wide", .ref l)] := rfl
  have h2 : putK [((.inr "wide" : Key), V.ref l)] (.inr "cells") (.ref c) = [(.inr "wide", .ref l), (.inr "cells", .ref c)] := by
    unfold putK
    rw [if_neg]
    · rfl
    · intro h
      obtain ⟨x, hx, e⟩ := List.any_eq_true.mp h
      simp at hx
      subst hx
      exact k_wide_cells (of_decide_eq_true e)
  have h3 : putK [((.inr "wide" : Key), V.ref l), (.inr "cells", .ref c)] (.inr "rest") (.int r) = [(.inr "wide", .ref l), (.inr "cells", .ref c), (.inr "rest", .int r)] := by
    unfold putK
    rw [if_neg]
    · rfl
    · intro h
      obtain ⟨x, hx, e⟩ := List.any_eq_true.mp h
      simp at hx
      rcases hx with rfl | rfl
      · exact k_wide_rest (of_decide_eq_true e)
      · exact k_cells_rest (of_decide_eq_true e)
  have h4 : putK [((.inr "wide" : Key), V.ref l), (.inr "cells", .ref c), (.inr "rest", .int r)] (.inr "turn") (.int t) = drawK l c r t := by
    unfold putK
    rw [if_neg]
    · rfl
    · intro h
      obtain ⟨x, hx, e⟩ := List.any_eq_true.mp h
      simp at hx
      rcases hx with rfl | rfl | rfl
      · exact k_wide_turn (of_decide_eq_true e)
      · exact k_cells_turn (of_decide_eq_true e)
      · exact k_rest_turn (of_decide_eq_true e)
  have h0 : mergeK [] (drawK l c r t) = putK (putK (putK (putK ([] : List (Key × V)) (.inr "wide") (.ref l)) (.inr "cells") (.ref c)) (.inr "rest") (.int r)) (.inr "turn") (.int t) := rfl
  rw [h0, h1, h2, h3, h4]
theorem s_lcNew {σ : L2.St} {F H : Hp} {D : Ends} {te : TE} {tt : TT} {g : TG} {wi : TI} {vs : List Nat} {ds : List PyData} {i : Nat} (f : PyData → Bool) (e : PyData → PyData) (hw : EvW K wi σ F ds) (hl : ds.length < sizeLine)
    (hT : ∀ d F', d ∈ ds → Same F F' → Tk K g d (wipe σ vs) F' fun σ2 => wipe σ2 vs = wipe σ vs ∧ EvB tt σ2 F' (f d) ∧ (f d = true → EvD K te σ2 F' (e d))) (s : Same F H)
    (k : ∀ D' F' acc H', Grow F H F' H' → H D' = none → F' D' = none → H' D' = some (.lst acc) → DpAll K F' acc (made f e ds) → D.nx (σ.set i (some (.ref D'))) H') : tAsg (tLc wi g tt te vs) (gName i) D σ H := lc_new f e hw hl hT H s _ k
theorem pairs_c {v : V} {te : TE} {r : List (TE × TE)} {σ : L2.St} {H : Hp} {Q : List (V × V) → Hp → Prop} (h : te σ H fun y H2 => tPairs r σ H2 fun ps H3 => Q ((v, y) :: ps) H3) : tPairs ((tC v, te) :: r) σ H Q := h
def absI (i : Int) : Int := if i < 0 then -i else i
def spBegun (K : PySem.W.Frag) : Sp := fun vs H Q _ => ∃ (F : Hp) (x : V) (ns : List Int), Same F H ∧ vs = [x] ∧ Dp K F x (.list (ns.map .int)) ∧ ns.length < sizeLine ∧ ∀ a l c H', Same H H' → H a = none → H l = none → H c = none → DrawAt H' a l c 0 → Q (.ref a) H'
theorem ok__law_begun (F : Fun K "_law_begun" "_law_begun" s__law_begun f fd) (B : BI mg) : FnOk P w K mg base CX0 1 f fd ["script"] (spBegun K) := by
  refine F.ok sc__law_begun (fun vs H Q E h => by obtain ⟨_, x, _, _, e, _⟩ := h; rw [e]; rfl) (fun cdv A outer s H vs Q E hr h => ?_)
  obtain ⟨F0, x, ns, sm, ev, rx, hl, q⟩ := h
  subst ev
  refine ⟨_, (pss_cons (ps_setLc (i := 1) (own := [("grain", 2)]) (g := (gName 2)) rfl sc__law_begun.nd rfl rfl (sw_true rfl rfl rfl (by decide +kernel)) (pi_list (pv 0)) (blkOk_by (own := [("grain", 2)]) (N := ["script", "wide", "grain"]) (sc := defScope s__law_begun) (by decide +kernel)) (fun _ _ _ _ _ => (pg_name (i := 2) sc__law_begun.nd rfl (Or.inl rfl) (hf := (Or.inr rfl)))) (fun _ _ _ _ _ => (pts_one (pt_cmpR (op_ge) (pe_callB (call_abs) (by rfl) B.abs (by decide +kernel) (pa_cons (pv 2) pa_nil)) (pe_op (op_pow) pe_int pe_int) (nomark _)))) (fun _ _ _ _ _ => (pe_op (op_sub) (pe_callB (call_abs) (by rfl) B.abs (by decide +kernel) (pa_cons (pv 2) pa_nil)) (pe_op (op_pow) pe_int pe_int))))
        (pss_one (ps_ret (pe_disp (pps_cons pe_str (pv 1) (pps_cons pe_str (pe_lc (own := [("grain", 2)]) (g := (gName 2)) rfl sc__law_begun.nd (pi_list (pv 0)) (blkOk_by (own := [("grain", 2)]) (N := ["script", "wide", "grain"]) (sc := defScope s__law_begun) (by decide +kernel)) (fun _ _ _ _ _ => (pg_name (i := 2) sc__law_begun.nd rfl (Or.inl rfl) (hf := (Or.inr rfl)))) (fun _ _ _ _ _ => pts_nil) (fun _ _ _ _ _ => (pe_op (op_mod) (pe_callTy (call_int1) (by rfl) B.int_ (by decide +kernel) (pa_cons (pe_callB (call_abs) (by rfl) B.abs (by decide +kernel) (pa_cons (pv 2) pa_nil)) pa_nil)) pe_int))) (pps_cons pe_str pe_int (pps_cons pe_str pe_int pps_nil)))) (by rfl) (by rfl) (fun z => by cases z) (by decide))))), ?_⟩
  have ea : ∀ {y0 y1 : Option V} {i : Int} {F' : Hp}, EvD K (tCB rAbs (tCons (tVar 2) tNil)) [y0, y1, some (.int i)] F' (.int (absI i)) := fun {y0 y1 i F'} => ev1 (ev_var (i := 2) ⟨_, rfl, .int i⟩) rc_abs
  have e18 : ∀ {σ : L2.St} {F' : Hp}, EvD K (tOp (rI CPow fun i j => .int (i ^ j.toNat)) (tC (.int 10)) (tC (.int 18))) σ F' (.int (10 ^ 18)) := fun {σ F'} => ev_op ev_int ev_int (rv_intC (g := fun i j => i ^ j.toNat) ⟨by decide, by decide, by decide⟩)
  refine s_lcNew (K := K) (F := F0) (vs := [2]) (fun d => decide (absI (intD d) ≥ 10 ^ 18)) (fun d => .int (absI (intD d) - 10 ^ 18)) (ew_list (ev_var (i := 0) ⟨x, rfl, rx⟩)) (by rw [List.length_map]; exact hl) (fun d F' hd sF => ?_) sm fun l F1 acc H1 g1 n1 n2 e1 ra => ?_
  · obtain ⟨i, _, rfl⟩ := List.mem_map.mp hd
    refine (tk_name (i := 2)).imp fun σ2 hσ => ?_
    obtain ⟨v, rfl, rv⟩ := hσ
    cases rv
    exact ⟨rfl, eb_test (ev_op ea e18 (rv_bl (g := fun i j => decide (i ≥ j)))), fun _ => ev_op ea e18 (rv_int (g := fun i j => i - j))⟩
  · have mi : ∀ (f : PyData → Bool) (g : PyData → Int) (ds : List PyData), made f (fun d => .int (g d)) ds = ((ds.filter f).map g).map .int := fun f g ds => by
      unfold made
      rw [List.map_map]
      rfl
    rw [mi] at ra
    rw [dps_int ra] at e1
    refine fun p hp => ⟨.ref l, rfl, ?_⟩
    have hpl : p ≠ l := fun z => by
      rw [z, e1] at hp
      cases hp
    refine pairs_c ?_
    refine lc_new (K := K) (F := F1) (σ := [some x, some (.ref l), none]) (vs := [2]) (tt := tYes) (fun _ => true) (fun d => .int (absI (intD d) % 2147483629)) (ew_list (ev_var (i := 0) ⟨x, rfl, rx.up g1.f⟩)) (by rw [List.length_map]; exact hl) (fun d F' hd sF => ?_) _ (g1.i.trans (same_upd hp)) _ fun c F2 acc2 H2 g2 m1 m2 e2 ra2 => ?_
    · obtain ⟨i, _, rfl⟩ := List.mem_map.mp hd
      refine (tk_name (i := 2)).imp fun σ2 hσ => ?_
      obtain ⟨v, rfl, rv⟩ := hσ
      cases rv
      exact ⟨rfl, eb_yes, fun _ => ev_op (ev1 (ea (y0 := some x) (y1 := some (.ref l))) rc_int) (ev_int (i := 2147483629)) (rv_intC (C := fun _ j => 0 < j) (g := fun i j => i % j) (by decide))⟩
    · rw [mi] at ra2
      rw [dps_int ra2] at e2
      have hpc : p ≠ c := fun z => by
        rw [← z, upd_same] at m1
        cases m1
      have hlc : l ≠ c := fun z => by
        rw [← z, upd_at hpl.symm e1] at m1
        cases m1
      refine ⟨g2.h _ _ upd_same, drawK l c 0 0, rfl, by show 4 ≤ 15; decide, ?_⟩
      rw [merge_draw]
      have hp0 : H p = none := g1.h.free hp
      refine q p l c _ (same_own (g1.h.trans ((same_upd hp).trans g2.h)) hp0) hp0 n1 (g1.h.free ?_) ⟨_, _, 0, 0, ⟨upd_same, upd_at hpl.symm (g2.h _ _ (upd_at hpl.symm e1)), upd_at hpc.symm e2, hpl, hpc, hlc⟩, Int.le_refl _, by decide⟩
      have := m1
      rw [upd_ne hpc.symm] at this
      exact this
end
end Sw
set_option Elab.async false
set_option linter.all false
set_option maxRecDepth 100000
set_option maxHeartbeats 1000000
set_option exponentiation.threshold 3000
namespace Sw
open PySem PySem.Spec PyProof.Rows L2
open C8 (Cal pe_c pe_gc)
section
variable {P : Program} {w : World} {K : PySem.W.Frag} {mg : Str → Option Value} {base : Heap} {f : Addr} {fd : FuncData} {aK CK CN CS : Addr}
theorem DrawAt.fresh {H : Hp} {a l c b : Addr} {n : Nat} (D : DrawAt H a l c n) (h : H b = none) : b ≠ a ∧ b ≠ l ∧ b ≠ c := by
  obtain ⟨ws, cs, r, t, D, _⟩ := D
  refine ⟨fun z => ?_, fun z => ?_, fun z => ?_⟩
  · rw [z, D.d] at h; cases h
  · rw [z, D.w] at h; cases h
  · rw [z, D.cl] at h; cases h
theorem DrawAt.other {H : Hp} {a l c b : Addr} {n : Nat} {o : HO} (D : DrawAt H a l c n) (h : b ≠ a ∧ b ≠ l ∧ b ≠ c) : DrawAt (upd H b o) a l c n := by
  obtain ⟨ws, cs, r, t, D, e1, e2⟩ := D
  exact ⟨ws, cs, r, t, ⟨upd_at h.1.symm D.d, upd_at h.2.1.symm D.w, upd_at h.2.2.symm D.cl, D.al, D.ac, D.lc⟩, e1, e2⟩
theorem DrawAt.same {H H' : Hp} {a l c : Addr} {n : Nat} (D : DrawAt H a l c n) (s : Same H H') : DrawAt H' a l c n := by
  obtain ⟨ws, cs, r, t, D, e1, e2⟩ := D
  exact ⟨ws, cs, r, t, D.same s, e1, e2⟩
theorem Keeps.other {H H' : Hp} {a l b : Addr} {o : HO} (k : Keeps a l H H') (hb : H b = none) : Keeps a l H (upd H' b o) := fun x u h1 h2 e => by
  rw [upd_ne (ne_of_none e hb)]
  exact k x u h1 h2 e
/-- one list alone is known -/
theorem same_one {H : Hp} {p : Addr} {o : HO} (h : H p = some o) : Same (upd (fun _ => none) p o) H := fun b x e => by
  by_cases hb : b = p
  · rw [hb, upd_same] at e
    rw [hb, h]
    exact e
  · rw [upd_ne hb] at e
    cases e
theorem one_free {p b : Addr} {o : HO} (h : b ≠ p) : upd (fun _ => none : Hp) p o b = none := by
  rw [upd_ne h]
theorem Keeps.free {H H' : Hp} {a l b : Addr} (k : Keeps a l H H') (ha : b ≠ a) (hl : b ≠ l) (h : H' b = none) : H b = none := by
  cases z : H b with
  | none => rfl
  | some o =>
    rw [k b o ha hl z] at h
    cases h
theorem zip_snoc {α β γ : Type} (g : α → β → γ) : ∀ (us : List β) (ts : List α) (u : β) (i : Nat) (hu : us.length = i) (h : i < ts.length), List.zipWith g ts (us ++ [u]) = List.zipWith g ts us ++ [g ts[i] u]
  | [], t :: ts, u, 0, _, _ => by simp
  | _ :: us, t :: ts, u, i + 1, hu, h => congrArg (_ :: ·) (zip_snoc g us ts u i (Nat.succ.inj hu) (Nat.lt_of_succ_lt_succ h))
theorem zip_take {α β γ : Type} (g : α → β → γ) : ∀ (ts : List α) (us : List β) (m : Nat), us.length ≤ m → List.zipWith g (ts.take m) us = List.zipWith g ts us
  | [], us, m, _ => by simp
  | t :: ts, [], m, _ => by simp
  | t :: ts, u :: us, 0, h => absurd h (Nat.not_succ_le_zero _)
  | t :: ts, u :: us, m + 1, h => congrArg (_ :: ·) (zip_take g ts us m (Nat.le_of_succ_le_succ h))
/-! ### _law_names -/
abbrev s__law_names : Stmt := top 40
theorem sc__law_names : FnScope ["draw", "many", "some", "one", "stem", "other"] ["draw", "many"] (defScope s__law_names) := ⟨rfl, rfl, rfl, by decide +kernel, rfl, by decide +kernel, by decide +kernel⟩
def consS : Str := "bcdfghklmnprstvwxz"
def vowS : Str := "aeiou"
def chS (z : Str) : List Str := z.cps.toList.map fun c => ⟨#[c]⟩
def stemsTo (i : Nat) : List Str := ((chS consS).take i).flatMap fun c => (chS vowS).map fun v => c ++ v
def sufs : List Str := ["q", "k", "x", "mu"]
abbrev rAddS : R2 := fun x y H Q => ∃ i j : Str, x = .str i ∧ y = .str j ∧ i.length + j.length ≤ sizeLine ∧ Q (.str (i ++ j)) H
structure NamesL (m : Nat) (out : List Str) : Prop where
  ex : ∃ fs us : List Str, fs.Perm (stemsTo 18) ∧ us.length = out.length ∧ (∀ u ∈ us, u ∈ sufs) ∧ out = List.zipWith (· ++ ·) fs us ∧ out.length = min m 90
theorem stems_len : (stemsTo 18).length = 90 := by decide +kernel
theorem stems_lay : ∀ s ∈ stemsTo 18, PyData.canLay0 (.str s) = true := by decide +kernel
theorem stems_two : ∀ s ∈ stemsTo 18, s.length = 2 := by decide +kernel
def spNames : Sp := fun vs H Q _ => ∃ (a l c : Addr) (n m : Nat), vs = [.ref a, .int (m : Int)] ∧ m ≤ 90 ∧ DrawAt H a l c n ∧ n + 2000 ≤ 2 ^ 40 ∧ ∀ (p : Addr) (out : List Str) (H' : Hp), NamesL m out → H p = none → Keeps a l H H' → DrawAt H' a l c (n + 90 + m) → H' p = some (.lst (out.map V.str)) → Q (.ref p) H'
theorem ok__law_names (F : Fun K "_law_names" "_law_names" s__law_names f fd) (B : BI mg) (c__law_shuffled : Cal P w K mg base 3 "_law_shuffled" (spShuf K) []) (c__law_pick : Cal P w K mg base 3 "_law_pick" (spPick K) []) : FnOk P w K mg base CX0 4 f fd ["draw", "many"] spNames := by
  refine F.ok sc__law_names (fun vs H Q E h => by obtain ⟨a, _, _, _, m, e, _⟩ := h; rw [e]; rfl) (fun cdv A outer s H vs Q E hr h => ?_)
  obtain ⟨a, l, c, n, m, ev, hm, D, hn, q⟩ := h
  subst ev
  refine ⟨_, (pss_cons (ps_set (i := 2) sc__law_names.nd rfl (Or.inl rfl) (pe_lst pa_nil))
        (pss_cons (ps_for PassesOwn.never rfl (pi_str pe_str) (pg_name (i := 3) sc__law_names.nd rfl (Or.inr rfl) (hf := (Or.inl rfl))) (pss_one (ps_set (i := 2) sc__law_names.nd rfl (Or.inl rfl) (pe_op op_cat (pv 2) (pe_lc (own := [("other", 5)]) (g := (gName 5)) rfl sc__law_names.nd (pi_str pe_str) (blkOk_by (own := [("other", 5)]) (N := ["draw", "many", "some", "one", "stem", "other"]) (sc := defScope s__law_names) (by decide +kernel)) (fun _ _ _ _ _ => (pg_name (i := 5) sc__law_names.nd rfl (Or.inl rfl) (hf := (Or.inr rfl)))) (fun _ _ _ _ _ => pts_nil) (fun _ _ _ _ _ => (pe_op op_add_str (pv 3) (pv 5))))))))
        (pss_one (ps_ret (pe_lc (own := [("stem", 4)]) (g := (gName 4)) rfl sc__law_names.nd (pi_list (pe_slice (r := rSlL K) sl_list (pe_c c__law_shuffled hr (by first | decide | omega) (by rfl) (pa_cons (pv 0) (pa_cons (pv 2) pa_nil))) po_none (po_some (pv 1)))) (blkOk_by (own := [("stem", 4)]) (N := ["draw", "many", "some", "one", "stem", "other"]) (sc := defScope s__law_names) (by decide +kernel)) (fun _ _ _ _ _ => (pg_name (i := 4) sc__law_names.nd rfl (Or.inl rfl) (hf := (Or.inr rfl)))) (fun _ _ _ _ _ => pts_nil) (fun _ _ _ _ _ => (pe_op op_add_str (pv 4) (pe_c c__law_pick hr (by first | decide | omega) (by rfl) (pa_cons (pv 0) (pa_cons (pe_lst (pa_cons pe_str (pa_cons pe_str (pa_cons pe_str (pa_cons pe_str pa_nil))))) pa_nil)))))))))), ?_⟩
  refine ⟨Nat.zero_le _, fun p0 hp0 => ?_⟩
  have s1 : Same H (upd H p0 (.lst [])) := same_upd hp0
  refine s_for (K := K) (F := H) (ds := signs consS) s1 (ew_str (x := consS) ev_str) fun F2 H2 g2 =>
    ⟨fun i σ' F' H' => F' = F2 ∧ Same F2 H' ∧ Same H H' ∧ ∃ p y3 y4 y5, σ' = [some (.ref a), some (.int (m : Int)), some (.ref p), y3, y4, y5] ∧ H' p = some (.lst ((stemsTo i).map V.str)) ∧ H p = none,
      ⟨rfl, g2.i, s1.trans g2.h, p0, _, _, _, rfl, g2.h _ _ upd_same, hp0⟩, fun i σ' F' H' h => ⟨by rw [h.1]; exact Same.refl _, by rw [h.1]; exact h.2.1⟩, fun i d σ' F' H' hd hI F3 H3 v g3 rv => ?_, fun σ' F' H' hI => ?_⟩
  · obtain ⟨rfl, sF, sH, p, y3, y4, y5, rfl, ep, hpn⟩ := hI
    have hone : ∃ one, (chS consS)[i]? = some one ∧ d = .str one := by
      unfold signs at hd
      unfold chS
      rw [List.getElem?_map] at hd ⊢
      cases hz : consS.cps.toList[i]? with
      | none => rw [hz] at hd; cases hd
      | some c => rw [hz] at hd; cases hd; exact ⟨_, rfl, rfl⟩
    obtain ⟨one, h1, rfl⟩ := hone
    cases rv
    have hi : i < 18 := by
      have := (List.getElem?_eq_some_iff.mp h1).1
      have e : (chS consS).length = 18 := by decide +kernel
      omega
    have hol : one.length = 1 := by
      have : ∀ x ∈ chS consS, x.length = 1 := by decide +kernel
      exact this _ (List.mem_of_getElem? h1)
    have s3 := sF.trans g3.h
    have sH3 := sH.trans g3.h
    have ep3 := g3.h _ _ ep
    refine ⟨.ref p, rfl, ?_⟩
    refine lc_new (K := K) (F := F3) (σ := [some (.ref a), some (.int (m : Int)), some (.ref p), some (.str one), y4, y5]) (vs := [5]) (tt := tYes) (fun _ => true) (fun d => .str (one ++ (match d with | .str x => x | _ => ""))) (ew_str (x := vowS) ev_str) (by show 5 < sizeLine; decide) (fun d F4 hd sF4 => ?_) _ g3.i _ fun b F4 acc H4 g4 b1 b2 eb ra => ?_
    · unfold signs at hd
      obtain ⟨c, hc, rfl⟩ := List.mem_map.mp hd
      refine (tk_name (i := 5)).imp fun σ2 hσ => ?_
      obtain ⟨v, rfl, rv⟩ := hσ
      cases rv
      refine ⟨rfl, eb_yes, fun _ => ev_op (ev_var (i := 3) ⟨_, rfl, .str one⟩) (ev_var (i := 5) ⟨_, rfl, .str _⟩) (rv_addS ?_)⟩
      rw [hol]
      show 2 ≤ sizeLine
      decide
    · have em : made (fun _ => true) (fun d => PyData.str (one ++ (match d with | .str x => x | _ => ""))) (signs vowS) = ((chS vowS).map fun v => one ++ v).map .str := by
        rw [made_map]
        unfold signs chS
        rw [List.map_map, List.map_map, List.map_map]
        rfl
      rw [em] at ra
      rw [dps_str ra] at eb
      refine ⟨p, b, _, _, rfl, rfl, g4.h _ _ ep3, eb, ?_, fun p2 hp2 => ?_⟩
      · have hs : ∀ j, j ≤ 18 → (stemsTo j).length + 5 ≤ 1000 := by decide +kernel
        have := small1000 (hs i (by omega))
        rw [List.length_map, List.length_map, List.length_map]
        have e5 : (chS vowS).length = 5 := by decide +kernel
        omega
      · refine ⟨_, rfl, (s3.trans g4.h).trans (same_upd hp2), (sH3.trans g4.h).trans (same_upd hp2), p2, _, _, _, rfl, ?_, (sH3.trans g4.h).free hp2⟩
        rw [upd_same, ← List.map_append]
        have e : stemsTo (i + 1) = stemsTo i ++ (chS vowS).map fun v => one ++ v := by
          unfold stemsTo
          rw [List.take_add_one, h1, List.flatMap_append]
          show _ ++ (_ ++ []) = _
          rw [List.append_nil]
        rw [e]
  · obtain ⟨rfl, sF, sH, p, y3, y4, y5, rfl, ep, hpn⟩ := hI
    have hlen : (signs consS).length = 18 := by decide +kernel
    rw [hlen] at ep
    have DH := D.same sH
    have hpa := D.fresh hpn
    have stl := stems_len
    refine ⟨.ref a, rfl, .ref p, rfl, ?_⟩
    refine ⟨upd (fun _ => none) p (.lst ((stemsTo 18).map V.str)), a, l, c, n, .ref p, stemsTo 18, same_one ep, one_free hpa.1.symm, one_free hpa.2.1.symm, rfl, .lst (.inl (.inl upd_same)) (dps_ofStr _), by omega, stems_lay, DH, by omega, fun pf fs H4 pm hpf k4 D4 e4 => ?_⟩
    rw [stl] at D4
    refine ⟨.int (m : Int), rfl, (m : Int), rfl, pf, _, rfl, .inl (.inl e4), fun p5 hp5 => ?_⟩
    have ecut : cutV (fs.map V.str) none (some (m : Int)) = (fs.take m).map V.str := by
      unfold cutV
      rw [HT.sIx_none, HT.sIx_nat, List.drop_zero, Nat.sub_zero, List.map_take, List.length_map]
      by_cases h : m ≤ fs.length
      · rw [Nat.min_eq_left h]
      · rw [Nat.min_eq_right (by omega), List.take_of_length_le (by rw [List.length_map]; exact Nat.le_refl _), List.take_of_length_le (by rw [List.length_map]; omega)]
    rw [ecut]
    have fl : fs.length = 90 := by rw [pm.length_eq, stl]
    obtain ⟨ts, hts⟩ : ∃ ts, ts = fs.take m := ⟨_, rfl⟩
    have tl : ts.length = m := by rw [hts, List.length_take, fl, Nat.min_eq_left hm]
    have t2 : ∀ x ∈ ts, x.length = 2 := fun x hx => stems_two x (pm.mem_iff.mp (List.mem_of_mem_take (hts ▸ hx)))
    rw [← hts]
    have f5 := D4.fresh hp5
    have D5 := D4.other (o := .lst (ts.map V.str)) f5
    have kH4 : Keeps a l H H4 := (Keeps.of sH).trans k4
    have p50 : H p5 = none := kH4.free f5.1 f5.2.1 hp5
    have k5 : Keeps a l H (upd H4 p5 (.lst (ts.map V.str))) := kH4.other p50
    have e5 : upd H4 p5 (.lst (ts.map V.str)) p5 = some (.lst (ts.map V.str)) := upd_same
    generalize upd H4 p5 (.lst (ts.map V.str)) = H5 at D5 k5 e5
    refine ⟨p5, rfl, ⟨_, .inl (.inl e5)⟩, fun Dd hD => ?_⟩
    have fD := D5.fresh hD
    have nD5 : p5 ≠ Dd := fun z => by rw [z, hD] at e5; cases e5
    have hD0 : H Dd = none := k5.free fD.1 fD.2.1 hD
    refine ⟨fun i k H6 => k = m - i ∧ i ≤ m ∧ ∃ us : List Str, us.length = i ∧ (∀ u ∈ us, u ∈ sufs) ∧ Keeps a l H H6 ∧ DrawAt H6 a l c (n + 90 + i) ∧ H6 p5 = some (.lst (ts.map V.str)) ∧ H6 Dd = some (.lst ((List.zipWith (· ++ ·) ts us).map V.str)),
      ⟨m, by omega, Nat.zero_le _, [], rfl, fun u hu => by simp at hu, k5.other hD0, D5.other fD, upd_at nD5 e5, ?_⟩, fun i k H6 hW => ?_⟩
    · rw [upd_same, List.zipWith_nil_right]
      rfl
    obtain ⟨rfl, hi, us, ul, hus, k6, D6, e6, o6⟩ := hW
    have sq : SqL K H6 p5 (ts.map V.str) := .inl (.inl e6)
    by_cases hlt : i < m
    · have hti : i < ts.length := by omega
      have hx : (ts.map V.str)[i]? = some (.str ts[i]) := by
        rw [List.getElem?_map, List.getElem?_eq_getElem hti]
        rfl
      refine .inr ⟨⟨_, _, sq, hx⟩, fun H6 => ∃ us : List Str, us.length = i + 1 ∧ (∀ u ∈ us, u ∈ sufs) ∧ Keeps a l H H6 ∧ DrawAt H6 a l c (n + 90 + (i + 1)) ∧ H6 p5 = some (.lst (ts.map V.str)) ∧ H6 Dd = some (.lst ((List.zipWith (· ++ ·) ts us).map V.str)), fun H7 h7 => ⟨m - (i + 1), by omega, rfl, hlt, h7⟩, fun x H7 hy => ?_⟩
      obtain ⟨rfl, hy⟩ := hy
      have ex := Option.some.inj ((hy _ sq).symm.trans hx)
      subst ex
      refine ⟨rfl, yes_then ?_⟩
      refine ⟨_, rfl, .ref a, rfl, (by show 4 ≤ sizeLine; decide), fun qq hqq => ?_⟩
      have fq := D6.fresh hqq
      refine ⟨upd (fun _ => none) qq (.lst [.str "q", .str "k", .str "x", .str "mu"]), a, l, c, n + 90 + i, .ref qq, sufs.map .str, same_one upd_same, one_free fq.1.symm, one_free fq.2.1.symm, rfl, .lst (.inl (.inl upd_same)) (dps_ofStr sufs), by decide, by decide, D6.other fq, by omega, fun d v H8 hd hv k8 D8 => ?_⟩
      obtain ⟨u, hu, rfl⟩ := List.mem_map.mp hd
      cases hv
      have q0 : H qq = none := k6.free fq.1 fq.2.1 hqq
      have nq5 : p5 ≠ qq := fun z => by rw [z, hqq] at e6; cases e6
      have nqD : Dd ≠ qq := fun z => by rw [z, hqq] at o6; cases o6
      have e8 := k8 _ _ f5.1 f5.2.1 (upd_at nq5 e6)
      have o8 := k8 _ _ fD.1 fD.2.1 (upd_at nqD o6)
      have u2 : ∀ u ∈ sufs, u.length ≤ 2 := by decide +kernel
      refine ⟨ts[i], u, rfl, rfl, ?_, _, o8, ?_, us ++ [u], ?_, ?_, ((k6.other q0).trans k8).other hD0, ?_, upd_at nD5 e8, ?_⟩
      · have a1 := t2 _ (List.getElem_mem hti)
        have a2 := u2 u hu
        have := small1000 (n := 4) (by decide)
        omega
      · rw [List.length_map, List.length_zipWith]
        exact small1000 (by omega)
      · rw [List.length_append, ul]
        rfl
      · intro z hz
        rcases List.mem_append.mp hz with h | h
        · exact hus z h
        · rw [List.mem_singleton.mp h]
          exact hu
      · have : n + 90 + i + 1 = n + 90 + (i + 1) := by omega
        rw [← this]
        exact D8.other fD
      · rw [upd_same]
        have z : List.zipWith (· ++ ·) ts (us ++ [u]) = List.zipWith (· ++ ·) ts us ++ [ts[i] ++ u] := by
          exact zip_snoc (· ++ ·) us ts u i ul hti
        rw [z, List.map_append]
        rfl
    · have ei : i = m := by omega
      subst ei
      refine .inl ⟨⟨_, sq, by rw [List.length_map]; omega⟩, q Dd _ H6 ⟨fs, us, pm, ?_, hus, ?_, ?_⟩ hD0 k6 D6 o6⟩
      · rw [List.length_zipWith]
        omega
      · rw [hts]
        exact (zip_take (· ++ ·) fs us i (by omega))
      · rw [List.length_zipWith]
        omega
end
end Sw
set_option Elab.async false
set_option linter.all false
set_option maxRecDepth 100000
set_option maxHeartbeats 1000000
set_option exponentiation.threshold 3000
namespace Sw
open PySem PySem.Spec PyProof.Rows L2
open C8 (Cal pe_c pe_gc)
/-! ### names and ranks are kinds -/
theorem stems_nodup : (stemsTo 18).Nodup := by decide +kernel
theorem stems_names : ∀ s ∈ stemsTo 18, ∀ u ∈ sufs, isName (.str (s ++ u)) = true := by decide +kernel
theorem str_cut {s u s' u' : Str} (h : s.length = 2) (h' : s'.length = 2) (e : s ++ u = s' ++ u') : s = s' := by
  obtain ⟨a⟩ := s
  obtain ⟨b⟩ := s'
  have e' : a ++ u.cps = b ++ u'.cps := congrArg Str.cps e
  have h1 : a.size = 2 := h
  have h2 : b.size = 2 := h'
  have z := (Array.append_inj e' (by omega)).1
  rw [z]
theorem zip_nodup : ∀ (fs us : List Str), fs.Nodup → (∀ s ∈ fs, s.length = 2) → (List.zipWith (· ++ ·) fs us).Nodup
  | [], us, _, _ => by simp
  | f :: fs, [], _, _ => by simp
  | f :: fs, u :: us, hn, h2 => by
    rw [List.nodup_cons] at hn
    show ((f ++ u) :: List.zipWith (· ++ ·) fs us).Nodup
    rw [List.nodup_cons]
    refine ⟨fun hm => ?_, zip_nodup fs us hn.2 fun s hs => h2 s (List.mem_cons_of_mem _ hs)⟩
    obtain ⟨i, hi⟩ := List.getElem?_of_mem hm
    rw [List.getElem?_zipWith] at hi
    cases h1 : fs[i]? with
    | none => rw [h1] at hi; cases hi
    | some s =>
      cases h3 : us[i]? with
      | none => rw [h1, h3] at hi; cases hi
      | some v =>
        rw [h1, h3] at hi
        have hm := List.mem_of_getElem? h1
        have e : s ++ v = f ++ u := Option.some.inj hi
        have := str_cut (h2 s (List.mem_cons_of_mem _ hm)) (h2 f List.mem_cons_self) e
        exact hn.1 (this ▸ hm)
theorem names_all {m : Nat} {out : List Str} (h : NamesL m out) : out.Nodup ∧ ∀ x ∈ out, isName (.str x) = true := by
  obtain ⟨fs, us, pm, hl, hus, rfl, _⟩ := h.ex
  refine ⟨zip_nodup fs us (pm.nodup_iff.mpr stems_nodup) (fun s hs => stems_two s (pm.mem_iff.mp hs)), fun x hx => ?_⟩
  obtain ⟨i, hi⟩ := List.getElem?_of_mem hx
  rw [List.getElem?_zipWith] at hi
  cases h1 : fs[i]? with
  | none => rw [h1] at hi; cases hi
  | some s =>
    cases h3 : us[i]? with
    | none => rw [h1, h3] at hi; cases hi
    | some v =>
      rw [h1, h3] at hi
      have e : s ++ v = x := Option.some.inj hi
      rw [← e]
      exact stems_names s (pm.mem_iff.mp (List.mem_of_getElem? h1)) v (hus v (List.mem_of_getElem? h3))
theorem lt_or : ∀ a b : List Nat, ltCps b a = false → a ≠ b → ltCps a b = true
  | [], [], _, h => absurd rfl h
  | [], _ :: _, _, _ => rfl
  | _ :: _, [], h, _ => nomatch h
  | a :: r, b :: t, h, hn => by
    have h' : (decide (b < a) || (b == a && ltCps t r)) = false := h
    rw [Bool.or_eq_false_iff, decide_eq_false_iff_not] at h'
    show (decide (a < b) || (a == b && ltCps r t)) = true
    by_cases e : a = b
    · subst e
      have h2 := h'.2
      rw [beq_self_eq_true, Bool.true_and] at h2
      rw [beq_self_eq_true, Bool.true_and, lt_or r t h2 fun z => hn (by rw [z]), Bool.or_true]
    · rw [decide_eq_true (by omega), Bool.true_or]
theorem rises_cons (x y : PyData) (r : List PyData) : risesD (x :: y :: r) = (lt2 x y && risesD (y :: r)) := rfl
theorem rises_sorted : ∀ (x : Str) (r : List Str), risingS x r = true → (x :: r).Nodup → risesD ((x :: r).map .str) = true
  | _, [], _, _ => rfl
  | x, y :: r, h, hn => by
    have h' : (!ltCps y.cps.toList x.cps.toList && risingS y r) = true := h
    rw [Bool.and_eq_true, Bool.not_eq_true'] at h'
    rw [List.nodup_cons] at hn
    have ne : x.cps.toList ≠ y.cps.toList := fun z => by
      obtain ⟨a⟩ := x
      obtain ⟨b⟩ := y
      have z' : a = b := Array.toList_inj.mp z
      exact hn.1 (by rw [z']; exact List.mem_cons_self)
    show risesD (.str x :: .str y :: r.map .str) = true
    rw [rises_cons]
    have h3 := rises_sorted y r h'.2 hn.2
    have h4 : lt2 (.str x) (.str y) = true := by
      show decide (x.cps.toList < y.cps.toList) = true
      rw [← PyProof.Rows.ltCps_eq]
      exact lt_or _ _ h'.1 ne
    rw [h4, Bool.true_and]
    exact h3
theorem kinds_ok {m : Nat} {out ys : List Str} {rk : List Int} (h : NamesL m out) (hm : 1 ≤ m ∧ m ≤ 6) (pm : ys.Perm out) (hs : sortedS ys = true) (hl : rk.length = m) (hr : ∀ r ∈ rk, 0 ≤ r ∧ r ≤ 3) (h0 : (0 : Int) ∈ rk) : isKinds (.tuple (pairs (ys.map .str) (rk.map .int))) = true := by
  obtain ⟨nd, nm⟩ := names_all h
  obtain ⟨_, _, _, _, _, _, ol⟩ := h.ex
  have yl : ys.length = m := by rw [pm.length_eq, ol]; omega
  have e1 : (pairs (ys.map .str) (rk.map .int)).map fstD = ys.map .str := by
    unfold pairs
    rw [List.map_zipWith]
    refine List.ext_getElem? fun i => ?_
    rw [List.getElem?_zipWith]
    by_cases hi : i < m
    · rw [List.getElem?_map, List.getElem?_map, List.getElem?_eq_getElem (by omega), List.getElem?_eq_getElem (by omega)]
      rfl
    · rw [List.getElem?_eq_none (show (ys.map PyData.str).length ≤ i by rw [List.length_map]; omega)]
  have e2 : (pairs (ys.map .str) (rk.map .int)).map sndD = rk.map .int := by
    unfold pairs
    rw [List.map_zipWith]
    refine List.ext_getElem? fun i => ?_
    rw [List.getElem?_zipWith]
    by_cases hi : i < m
    · rw [List.getElem?_map, List.getElem?_map, List.getElem?_eq_getElem (by omega), List.getElem?_eq_getElem (by omega)]
      rfl
    · rw [List.getElem?_eq_none (show (ys.map PyData.str).length ≤ i by rw [List.length_map]; omega), List.getElem?_eq_none (show (rk.map PyData.int).length ≤ i by rw [List.length_map]; omega)]
  have pl : (pairs (ys.map .str) (rk.map .int)).length = m := by
    rw [pairs_len, List.length_map, List.length_map]
    omega
  show ((decide (1 ≤ (((pairs (ys.map .str) (rk.map .int)).length : Nat) : Int)) && decide ((((pairs (ys.map .str) (rk.map .int)).length : Nat) : Int) ≤ 6)) && ((pairs (ys.map .str) (rk.map .int)).all isKind && (risesD ((pairs (ys.map .str) (rk.map .int)).map fstD) && ((pairs (ys.map .str) (rk.map .int)).map sndD).any isZero))) = true
  rw [e1, e2, pl, decide_eq_true (by omega), decide_eq_true (by omega), Bool.true_and, Bool.true_and, Bool.and_eq_true, Bool.and_eq_true]
  refine ⟨List.all_eq_true.mpr fun d hd => ?_, ?_, ?_⟩
  · obtain ⟨i, hi⟩ := List.getElem?_of_mem hd
    obtain ⟨a, b, ha, hb, rfl⟩ := pairs_get hi
    obtain ⟨x, hx, rfl⟩ := List.mem_map.mp (List.mem_of_getElem? ha)
    obtain ⟨r, hrm, rfl⟩ := List.mem_map.mp (List.mem_of_getElem? hb)
    show (isName (.str x) && (decide (0 ≤ r) && decide (r ≤ 3))) = true
    rw [nm x (pm.mem_iff.mp hx), decide_eq_true (hr r hrm).1, decide_eq_true (hr r hrm).2]
    rfl
  · cases ys with
    | nil =>
      have : m = 0 := yl.symm
      omega
    | cons y r => exact rises_sorted y r hs (pm.nodup_iff.mpr nd)
  · exact List.any_eq_true.mpr ⟨.int 0, List.mem_map.mpr ⟨0, h0, rfl⟩, rfl⟩
end Sw
set_option Elab.async false
set_option linter.all false
set_option maxRecDepth 100000
set_option maxHeartbeats 1000000
/-! W8: try: .. except x as n: suite, where the error is kept beyond the suite. -/
namespace Sw
open PySem PySem.Spec PyProof.Rows L2
open C8 (Cal pe_c pe_gc)
/-- a caught error of the class cls, kept at a -/
def ExT (cls : Value) (d : Option Addr) (a : Addr) : HO := .ext fun h => ∃ (oe : Obj) (vs : Array Value), h.get? a = some oe ∧ Zc cls d oe ∧ oe.data = .fields vs
section
variable {X : Cx} {pins : List (Addr × Obj)} {σ : L2.St} {H : Hp} {s : Shared}
/-- a pinned error, new since the def began, gets tracked -/
theorem inv_track {a : Addr} {oe : Obj} {vs : Array Value} {cls : Value} {d : Option Addr} (I : Inv X ((a, oe) :: pins) σ H s) (z : Zc cls d oe) (hd : oe.data = .fields vs) (h0 : X.s_0.heap.get? a = none) (hp : ∀ p ∈ X.pn ++ pins, p.1 ≠ a) : Inv X pins σ (upd H a (ExT cls d a)) s := by
  obtain ⟨e1, e2, e3, e4, e5⟩ := I.pin (a, oe) (List.mem_append_right _ List.mem_cons_self)
  have ne : ∀ {b : Addr} {u : HO}, H b = some u → b ≠ a := fun h => ne_of_none h e2
  refine ⟨I.ok, I.os, I.bare, ⟨I.base.keep, I.base.slot, fun b o q n x => ?_, I.base.there, fun b xs q => ?_, fun b o u q => ?_, fun b ps q => ?_⟩, I.loc, I.cell, ?_, fun y c q => ?_, fun p hm => ?_, ?_, I.len⟩
  · have hb : b ≠ a := fun w => by rw [w, h0] at q; cases q
    rw [upd_ne hb]
    exact I.base.free b o q n x
  · have w := I.base.tups b xs q
    rw [upd_ne (ne w)]
    exact w
  · have w := I.base.frzs b o u q
    rw [upd_ne (ne w)]
    exact w
  · obtain ⟨more, w⟩ := I.base.tbls b ps q
    exact ⟨more, by rw [upd_ne (ne w)]; exact w⟩
  · rw [upd_ne (Ne.symm e3)]
    exact I.free
  · have hb : c ≠ a := fun w => by
      obtain ⟨v, k⟩ := I.cell y c q
      obtain ⟨o, k1, k2⟩ := k
      rw [w, e1] at k1
      cases k1
      first
        | exact e5 v k2
        | exact e5 v k2.2
        | exact e5 v k2.1
    rw [upd_ne hb]
    exact I.freeC y c q
  · have hm2 : p ∈ X.pn ++ (a, oe) :: pins := by
      rcases List.mem_append.mp hm with w | w
      · exact List.mem_append_left _ w
      · exact List.mem_append_right _ (List.mem_cons_of_mem _ w)
    obtain ⟨k1, k2, k3⟩ := I.pin p hm2
    refine ⟨k1, ?_, k3⟩
    rw [upd_ne (hp p hm)]
    exact k2
  · exact I.hok.laidN (fun _ _ q => q) e2 ⟨⟨oe, vs, e1, z, hd⟩, ⟨oe, e1⟩, fun _ _ ⟨o, v, q, r⟩ k => ⟨o, v, k o q, r⟩⟩
/-- out of a suite: the error stays pinned -/
theorem inv_held {a : Addr} {oe : Obj} (I : Inv (X.suite a ((a, oe) :: (X.pn ++ pins))) [] σ H s) (ok : X.Ok) : Inv X ((a, oe) :: pins) σ H s :=
  ⟨ok, I.os, I.bare, I.base, I.loc, I.cell, I.free, I.freeC, fun p hp => I.pin p (List.mem_append_left _ (by
    rcases List.mem_append.mp hp with w | w
    · exact List.mem_cons_of_mem _ (List.mem_append_left _ w)
    · rcases List.mem_cons.mp w with w | w
      · rw [w]; exact List.mem_cons_self
      · exact List.mem_cons_of_mem _ (List.mem_append_right _ w))), I.hok, I.len⟩
end
def wKeep (K : PySem.W.Frag) (c : Value) (i : Nat) (ts : Addr → Value → Option Addr → TS) (D : Ends) : WX := fun cls d σ H => PySem.W.exmOne K cls c = some true ∧
  ∀ a, H a = none → ts a cls d { nx := fun σ' H' => D.nx (σ'.set i none) (upd H' a (ExT cls d a)), rt := fun _ _ => False, bk := fun _ _ => False, ct := fun _ _ => False } (σ.set i (some (.ref a))) H

section
variable {X : Cx} {x n : Str} {c : Value} {i : Nat} {body suite : List Stmt} {b₀ : Stmt} {np pos pos' : Pos} {tb : WX → TS} {ts : Addr → Value → Option Addr → TS}
theorem ps_try_keep (hs : X.stack = X.env :: X.outer) (hf : X.env.frame = some X.env.locals) (hN : X.N.Nodup) (hi : X.N[i]? = some n) (hln : X.env.kindOf n = some .local) (hc : Names X x c) (hx : X.ex = [])
    (hb : ∀ (W : WX) (pn : List (Addr × Obj)) (xe : Value → Shared → Prop), Takes (X.tr pn xe) W → PassesOwn (model X.prog X.w) X.A X.env xe → PSs (X.tr pn xe) body (tb W))
    (hsu : ∀ (a : Addr) (oe : Obj) (cls : Value) (d : Option Addr) (pn : List (Addr × Obj)), Zc cls d oe → (∃ vs, oe.data = .fields vs) → PSs (X.suite a ((a, oe) :: pn)) (b₀ :: suite) (ts a cls d)) :
    PS X (.Try body [.ExceptHandler (some (.Name x np)) (some n) (b₀ :: suite) pos'] [] [] pos) (fun D σ H => tb (wKeep X.K c i ts D) D σ H) := ⟨fun pins s σ H D I h => by
  have okX := I.ok
  have frames : X.A.frames = some (X.env :: X.outer) := by
    rw [okX.frames, hs]
  refine wpAny_Try_except (wpAny_mono ((hb (wKeep X.K c i ts D) (X.pn ++ pins)
      (fun e t1 => wpAny (model X.prog X.w) X.A (noteFrame e X.env) (fun _ t2 => wpAny (model X.prog X.w) X.A (setFlight e none) (fun _ t3 => wpAny (model X.prog X.w) X.A (handleBy e X.env [.ExceptHandler (some (.Name x np)) (some n) (b₀ :: suite) pos']) (SP X pins D) X.xe t3) X.xe t2) X.xe t1)
      (fun u t caught => ?_) PassesOwn.looking).run [] s σ H D (I.toTry _) h) (fun fl t done => ?_) (fun _ _ z => z))
  · obtain ⟨a, Bh, tI, ps, σa, Ha, cls, dd, rfl, Ja, below, rise, aloft, untr, sameOs, quiet, match1, todo⟩ := caught
    have Jx : Inv X pins σa Ha tI := Ja.ofTry okX
    have aloft' : Sky Bh (X.env :: X.outer) a (Zc cls dd) X.env.locals t.heap := by
      rw [← hs]
      exact aloft
    show wpAny _ X.A (noteFrame (.ref a) X.env) _ _ _
    refine Sky.land Zc.steady frames hf aloft' fun g3 land3 rise3 => ?_
    have J3 := Jx.landed (s' := { t with heap := g3 }) below land3.1 (rise.trans rise3) sameOs quiet
    obtain ⟨o3, v3, at3, z3, d3⟩ := land3.there
    have apart : a ∉ frs (X.env :: X.outer) := fun hm => by
      obtain ⟨_, o', e', hnf⟩ := land3.2.2.1.mem hm
      rw [at3] at e'
      cases e'
      exact hnf _ d3
    have noL : a ≠ X.env.locals := fun w => apart (List.mem_filterMap.mpr ⟨X.env, List.mem_cons_self, by rw [hf, w]⟩)
    have noF : a ∉ X.fs := fun hm => by
      obtain ⟨e, he, q⟩ := List.mem_filterMap.mp hm
      exact apart (List.mem_filterMap.mpr ⟨e, List.mem_cons_of_mem _ he, q⟩)
    have fresh : ∀ o, tI.heap.get? a = some o → False := fun o e => by
      have w := below a o e (by rw [hs]; exact apart)
      rw [land3.2.1] at w
      cases w
    have new0 : X.s_0.heap.get? a = none := by
      cases w : X.s_0.heap.get? a with
      | none => rfl
      | some o =>
        obtain ⟨o', e'⟩ := Jx.base.there a o w (by rw [hx]; exact List.not_mem_nil)
        exact (fresh o' e').elim
    have pinNe : ∀ p ∈ X.pn ++ pins, p.1 ≠ a := fun p hp w => fresh p.2 (w ▸ (Jx.pin p hp).1)
    have S3 := J3.suite at3 d3 untr noL noF
    refine wpAny_handleBy_cons (codeAny_handlers_test ?_) (fun q => nomatch q)
    have kind : PySem.W.Looks (model X.prog X.w) g3 (typeOf (.ref a)) cls := fun A Q E t' k q => wpAny_typeOf_ref (k _ _ at3) (by rw [z3.1]; exact q)
    have fits := PySem.W.exm_one (M := model X.prog X.w) J3.kIn kind match1
    have named : ∀ {Q : Value → Shared → Prop} {E : Value → Shared → Prop}, Q c { t with heap := g3 } → wpAny (model X.prog X.w) (X.A.mark (some (.ref a))) (eval (.Name x np) X.env) Q E { t with heap := g3 } := fun {Q E} q => by
      obtain ⟨c1, c2, c3 | ⟨c3, c4, c5⟩⟩ := hc
      · exact ld_glob S3 c1 c3 q c2
      · exact ld_blt S3 c1 c3 c4 q c5 c2
    refine named (fits.here (codeAny_handlers_suite_as (HandSPX.lands_againZ land3 fun g4 land4 rise4 => ?_)))
    have J4 := Jx.landed (s' := { t with heap := g4 }) below land4.1 ((rise.trans rise3).trans rise4) sameOs quiet
    obtain ⟨o4, v4, at4, z4, d4⟩ := land4.there
    have S4 := J4.suite at4 d4 untr noL noF
    refine store_ok (X := X.suite a ((a, o4) :: (X.pn ++ pins))) (v := .ref a) S4 hN hi (.inl hln) rfl (fun t5 S5 => ?_) (.inr hln)
    refine wpAny_mono ((hsu a o4 cls dd (X.pn ++ pins) z4 ⟨_, d4⟩).run [] t5 _ Ha _ S5 (todo a untr)) (fun f t6 ended => ?_) (fun _ _ w => w.elim)
    cases f with
    | next =>
      obtain ⟨σ6, H6, S6, q6⟩ := ended
      exact gone_ok (inv_held S6 okX) hN hi hln fun t7 J7 => ⟨_, _, inv_track J7 z4 d4 new0 pinNe, q6⟩
    | brk =>
      obtain ⟨_, _, _, w⟩ := ended
      exact w.elim
    | cont =>
      obtain ⟨_, _, _, w⟩ := ended
      exact w.elim
    | ret u =>
      obtain ⟨_, _, _, _, _, w⟩ := ended
      exact w.elim
  · cases fl with
    | next =>
      obtain ⟨σ1, H1, J1, q1⟩ := done
      exact wpAny_execs_nil ⟨σ1, H1, J1.ofTry okX, q1⟩
    | brk =>
      obtain ⟨σ1, H1, J1, q1⟩ := done
      exact ⟨σ1, H1, J1.ofTry okX, q1⟩
    | cont =>
      obtain ⟨σ1, H1, J1, q1⟩ := done
      exact ⟨σ1, H1, J1.ofTry okX, q1⟩
    | ret u =>
      obtain ⟨v1, σ1, H1, J1, r1, q1⟩ := done
      exact ⟨v1, σ1, H1, J1.ofTry okX, r1, q1⟩⟩
end

/-! ### f(k = v, ..), by keywords alone -/
section
variable {X : Cx} {CX : CXT} {k : Nat} {f : Addr} {fd : FuncData} {ps ks : List Str} {sp : Sp} {E : XK} {x : Str} {p pos : Pos} {kws : List Keyword} {tk : TA} {g : List Value → List Value → List Value} {gV : List V → List V → List V}
theorem pe_ckw (F : FnOk X.prog X.w X.K X.mg X.base CX k f fd ps sp) (hr : Room k X.A) (hg : Gl X x) (hm : X.mg x = some (.ref f)) (hk : PySem.W.keepIn X.K (.ref f) = true) (hb : KBinds X.K fd ps ks g gV) (hx : Passes CX X E) (hkw : PK X kws tk)
    (hall : (backToKw pos (keywordEach kws X.env)).all (·.1.isSome) = true := by rfl) (hks : (backToKw pos (keywordEach kws X.env)).filterMap (·.1) = ks := by rfl) (hdb : (x == ("__debug__" : Str)) = false := by decide)
    (hpl : ((backTo pos (starEach [] X.env)).any (·.1) || (backToKw pos (keywordEach kws X.env)).any (·.1.isNone)) = false := by rfl) : PE X (.Call (.Name x p) [] kws pos) (tCallK sp gV E tNil tk) :=
  ⟨fun pins s σ H Q I h => wpAny_Call_Name_kw (ld_glob I hg hm (PySem.W.callWith_KW0 (h₀ := X.base) I.ok.mod.kin hk hall (thn (hkw.run pos pins s σ H _ I h) fun ws s2 hq => by
    obtain ⟨zs, H2, I2, rz, q2⟩ := hq
    refine ⟨I2.kIn, ?_⟩
    rw [hks]
    exact run_fnk (us := []) (vs := []) F hr hb hx I2 .nil rz q2) hpl) hdb)⟩
end
end Sw
set_option Elab.async false
set_option linter.all false
set_option maxRecDepth 100000
set_option maxHeartbeats 1000000
set_option exponentiation.threshold 3000
namespace Sw
open PySem PySem.Spec PyProof.Rows L2 LamX
open C8 (Cal pe_c pe_gc)
/-! ### _law_caught -/
abbrev s__law_caught : Stmt := top 39
theorem sc__law_caught : FnScope ["work", "error", "caught"] ["work"] (defScope s__law_caught) := ⟨rfl, rfl, rfl, by decide +kernel, rfl, by decide +kernel, by decide +kernel⟩
/-- told: what comes back, None, or the error -/
def TTc (K : PySem.W.Frag) (CS : Addr) : (XK → Hp → VK → Prop) → Hp → VK → Prop := fun tl H Q =>
  tl (fun cls d H' => PySem.W.exmOne K cls (.ref CS) = some true ∧ ∀ a, H' a = none → Q (.ref a) (upd H' a (ExT cls d a))) H (fun _ H' => Q .non H')
theorem takes_len {X : Cx} {W : WX} (t : Takes X W) : Takes X (fun cls d σ H => σ.length = X.N.length → W cls d σ H) := fun u s' h => by
  obtain ⟨a, B, sI, pins, σ, H, cls, d, e, I, nb, up, sky, na, os, ag, w⟩ := h
  exact t u s' ⟨a, B, sI, pins, σ, H, cls, d, e, I, nb, up, sky, na, os, ag, w I.len⟩
theorem three {σ : L2.St} (h : σ.length = 3) : ∃ x y z, σ = [x, y, z] := by
  match σ, h with
  | [x, y, z], _ => exact ⟨x, y, z, rfl⟩
theorem caught_gives {X : Cx} {q : Str} {g CS : Addr} {cdg : Value} (hme : X.mg "WritingError" = some (.ref CS)) :
    GivesTo X ["work", "error", "caught"] "_law_caught" (defScope s__law_caught) g cdg (defBody s__law_caught) "work" q (TTc X.K CS) := by
  intro f c' s H Q tl act hc h
  refine ⟨_, pss_cons (ps_set (i := 1) sc__law_caught.nd rfl (Or.inl rfl) pe_non)
    (pss_cons (ps_try_keep (X := (cxOf C8.CX0 X.prog X.w X.K X.mg X.base ["work", "error", "caught"] "_law_caught" (defScope s__law_caught) g cdg X.A X.stack s H C8.E0).nox) (i := 2) (c := .ref CS)
      (tb := fun W D σ H => ∃ Ech : XK, (∀ cls d σ' H', Ech cls d H' → σ'.length = 3 → W cls d σ' H') ∧ σ[0]? = some (some (.ref f)) ∧ H c' = some (CodeO c' q) ∧ tl Ech H fun _ H' => D.nx σ H')
      rfl rfl sc__law_caught.nd rfl rfl ⟨by rfl, by decide, .inl hme⟩ rfl (fun W pn xe tk _ => ?_) (fun a oe cls d pn _ _ => pss_one (ps_set (i := 1) sc__law_caught.nd rfl (Or.inl rfl) (pv 2))))
    (pss_one (ps_ret (pv 1)))), ?_⟩
  · refine ⟨fun pins s' σ H' D I h' => ?_⟩
    obtain ⟨Ech, hW, h1, h2, h3⟩ := h'
    exact (pss_one (ps_expr (act (fun cls d σ H => σ.length = 3 → W cls d σ H) pn xe Ech _ _ (takes_len tk) hW))).run pins s' σ H' D I ⟨h1, h2, h3⟩
  · refine ⟨fun cls d H' => PySem.W.exmOne X.K cls (.ref CS) = some true ∧ ∀ a, H' a = none → Q (.ref a) (upd H' a (ExT cls d a)), fun cls d σ' H' ⟨e1, e2⟩ hl => ⟨e1, fun a ha => ?_⟩, rfl, hc, ?_⟩
    · obtain ⟨x, y, z, rfl⟩ := three hl
      exact ⟨.ref a, rfl, .ref a, rfl, e2 a ha⟩
    · have e : (fun (_ : V) (H' : Hp) => Q V.non H') = fun (_ : V) (H' : Hp) => ∃ v, ([some (V.ref f), some V.non, none] : L2.St)[1]? = some (some v) ∧ Q v H' := by
        funext _ H'
        refine propext ⟨fun q => ⟨.non, rfl, q⟩, fun ⟨v, e, q⟩ => ?_⟩
        cases e
        exact q
      have h' := h
      unfold TTc at h'
      rw [e] at h'
      exact h'
end Sw
set_option Elab.async false
set_option linter.all false
set_option maxRecDepth 100000
set_option maxHeartbeats 1000000
set_option exponentiation.threshold 3000
/-! W9: repr of lists of ints. -/
namespace Sw
open PySem PySem.Spec PyProof.Rows L2
def shownI (ns : List Int) : Str := (PyData.list (ns.map .int)).shown
def rReprI (K : PySem.W.Frag) : List V → Hp → VK → Prop := fun xs H Q => ∃ a ns, xs = [.ref a] ∧ SqL K H a (ns.map V.int) ∧ ns.length ≤ 100 ∧ (∀ n ∈ ns, n.natAbs.log2 < 1920) ∧ Q (.str (shownI ns)) H
theorem shown_len {ns : List Int} (hl : ns.length ≤ 100) (h : ∀ n ∈ ns, n.natAbs.log2 < 1920) : (shownI ns).length ≤ sizeLine := by
  have e : shownI ns = listText (PyData.shownAll (ns.map .int)) := by
    unfold shownI
    simp only [PyData.shown]
  have k1 := listText_len_le (PyData.shownAll (ns.map .int))
  have k2 : ∀ ns : List Int, (∀ n ∈ ns, n.natAbs.log2 < 1920) → ((PyData.shownAll (ns.map .int)).map (·.length)).sum ≤ 1921 * ns.length := fun ns => by
    induction ns with
    | nil => intro _; exact Nat.zero_le _
    | cons n r ih =>
      intro hs
      have a1 := ih fun m hm => hs m (List.mem_cons_of_mem _ hm)
      have a2 : (PyData.shown (.int n)).length ≤ 1921 := by
        have := int_text_length_le (k := 1920) (by decide) (hs n List.mem_cons_self)
        rw [PyData.shown_int]
        exact Nat.le_trans (Nat.le_of_eq (PySem.ofString_length _)) this
      show (PyData.shown (.int n)).length + ((PyData.shownAll (r.map .int)).map (·.length)).sum ≤ 1921 * (r.length + 1)
      omega
  have k3 : (PyData.shownAll (ns.map .int)).length = ns.length := by rw [PyData.shownAll_length, List.length_map]
  have k4 := k2 ns h
  rw [e]
  rw [k3] at k1
  have : sizeLine ≥ 1000000 := by rw [sizeLine_eq]; decide
  omega
theorem show_ints {ns : List Int} (h : ∀ n ∈ ns, n.natAbs.log2 < 1920) : (PyData.list (ns.map .int)).showable = true ∧ (PyData.list (ns.map .int)).hasDict = false ∧ (PyData.list (ns.map .int)).depth ≤ 1 := by
  have k : ∀ ns : List Int, (∀ n ∈ ns, n.natAbs.log2 < 1920) → PyData.showableAll (ns.map .int) = true ∧ PyData.hasDictAll (ns.map .int) = false ∧ PyData.depthAll (ns.map .int) = 0 := fun ns => by
    induction ns with
    | nil => intro _; exact ⟨rfl, rfl, rfl⟩
    | cons n r ih =>
      intro hs
      obtain ⟨a1, a2, a3⟩ := ih fun m hm => hs m (List.mem_cons_of_mem _ hm)
      refine ⟨?_, ?_, ?_⟩
      · show (decide (n.natAbs.log2 < 1920) && PyData.showableAll (r.map .int)) = true
        rw [a1, decide_eq_true (hs n List.mem_cons_self)]
        rfl
      · show (PyData.hasDict (.int n) || PyData.hasDictAll (r.map .int)) = false
        rw [a2]
        rfl
      · show max (PyData.depth (.int n)) (PyData.depthAll (r.map .int)) = 0
        rw [a3]
        rfl
  obtain ⟨a1, a2, a3⟩ := k ns h
  refine ⟨a1, a2, ?_⟩
  show PyData.depthAll (ns.map .int) + 1 ≤ 1
  rw [a3]
  exact Nat.le_refl _
theorem call_reprI {X : Cx} (hg : X.A.guards = some []) (hu : X.A.units + 64 < cLine) : CallR X (.builtin "repr") (rReprI X.K) := by
  intro pins s σ H xs us Q I r h
  obtain ⟨a, ns, rfl, hq, hl, hn, q⟩ := h
  rw [Vals.ref1 r]
  obtain ⟨s1, s2, s3⟩ := show_ints hn
  obtain ⟨as, rd⟩ := Dp.reads I (.list (ns.map .int)) (.ref a) (.ref a) (.lst hq (dps_ofInt ns)) rfl
  exact repr_of_reads' rd s1 (fun z => by rw [s2] at z; cases z) hg (by omega) (fun _ _ e => e) (fun h' u tk hk => ⟨.str (shownI ns), H, I.kept hk, ⟨_, rfl⟩, q⟩) (shown_len hl hn)
theorem rc_repr {K : PySem.W.Frag} {ns : List Int} (hl : ns.length ≤ 100) (h : ∀ n ∈ ns, n.natAbs.log2 < 1920) : RcD K (rReprI K) [.list (ns.map .int)] (.str (shownI ns)) := fun F xs H s r Q q => by
  cases r with
  | cons a b =>
    cases b
    cases a with
    | lst a1 a2 =>
      rw [dps_int a2] at a1
      exact ⟨_, ns, rfl, s.seq a1, hl, h, q _ F H (.start s) (.str _)⟩
end Sw
set_option Elab.async false
set_option linter.all false
set_option maxRecDepth 100000
set_option maxHeartbeats 1000000
/-! W10: the law's call, told by its run at the caller (so that the caller's guards are known). -/
namespace Sw
open PySem PySem.Spec PyProof.Rows L2
section
variable {P : Program} {w : World} {K : PySem.W.Frag} {mg mb : Str → Option Value} {CX : CXT} {fa a : Addr} {s1 : Shared} {vs : List Value} {ns : List Int}
/-- how the law is left -/
abbrev Left (s1 : Shared) : Result → Shared → Prop := fun r t => r = .ok (.ret (.bool true)) ∧ OldK s1.heap t.heap ∧ t.os = s1.os ∧ AllBare t.gens
/-- H tracks nothing but the script -/
theorem run_core {H : Hp} (kIn : K.In s1.heap) (glo : s1.heap.Ns mainGlobals mg) (blt : s1.heap.Ns builtinsNs mb) (boot : ∀ x : Str, x ≠ "__name__" → mb x = bootBuiltins x) (lim : s1.heap.NoLimit) (gens : s1.gens = #[])
    (at_ : s1.heap.get? a = some { cls := .type "list", data := .seq vs.toArray }) (only : Only H) (seq : SqL K H a (ns.map V.int)) (hok : HOk P w H s1.heap) (one : ∀ b, H b ≠ none → b = a) (out : H a ≠ none → K.lookup a = none)
    (run : ∀ base : Heap, K.In base → base.Ns mainGlobals mg → Env0 P w K mg base callerA [] s1 H → codeAny (model P w) callerA (.call (.ref fa) ⟨[.ref a], []⟩) (CR CX [] P w H s1 (fun v _ => v = .bl true) (fun _ _ _ => False)) s1)
    (fin : ∀ e t, CX [] H s1 (fun _ _ _ => False) e t → False) : codeAny (model P w) callerA (.call (.ref fa) ⟨[.ref a], []⟩) (Left s1) s1 := by
  have up : ∀ {b : Addr} {o : Obj}, s1.heap.get? b = some o → H b = none → (hidT s1.heap H).get? b = some o := fun e n => hidT_get e n
  have not_a : ∀ {b : Addr}, H b ≠ none → b = a := fun h => one _ h
  have dict_free : ∀ {b : Addr} {o : Obj} {es : Array DictEntry} {ep : Nat}, s1.heap.get? b = some o → o.data = .dict es ep → H b = none := fun {b o es ep} e d => by
    apply Classical.byContradiction
    intro q
    have eb := not_a q
    rw [eb, at_] at e
    cases e
    exact nomatch d
  have nsB : ∀ {b : Addr} {m : Str → Option Value}, s1.heap.Ns b m → (hidT s1.heap H).Ns b m := fun {b m} h => by
    obtain ⟨o, es, ep, e, d, r⟩ := h
    exact ⟨o, es, ep, up e (dict_free e d), d, r⟩
  have kB : K.In (hidT s1.heap H) := fun b o e => up (kIn b o e) (by
    apply Classical.byContradiction
    intro q
    have eb := not_a q
    rw [eb] at e q
    rw [out q] at e
    cases e)
  obtain ⟨mc, l1, l2⟩ := lim
  have e0 : Env0 P w K mg (hidT s1.heap H) callerA [] s1 H := ⟨rfl, ⟨kB, nsB glo, ⟨mb, nsB blt, boot⟩, mc, nsB l1, l2⟩, fun b o e => of_hidT e, Nat.le_of_eq (hidT_size _ _), trivial, fun b hb => (List.not_mem_nil (show b ∈ ([] : List Addr) from hb)).elim, hok, .of_eq gens⟩
  refine codeAny_mono (run _ kB (nsB glo) e0) fun r t h => ?_
  cases r with
  | error e => exact (fin e t h).elim
  | ok fl =>
    cases fl with
    | ret u =>
      obtain ⟨v, H2, os2, bare2, un, ok2, rel, isT⟩ := h
      have isT' : v = .bl true := isT
      subst isT'
      obtain rfl : u = Value.bool true := rel
      refine ⟨rfl, OldK.of_keep fun b o e => ?_, os2, bare2⟩
      rcases only b with z | ⟨ob, xs, z⟩
      · exact un.keep b o e z (fun q => (List.not_mem_nil (show b ∈ ([] : List Addr) from q)).elim) (by simp)
      · have z2 := un.frzs b ob _ z
        obtain ⟨k1, _⟩ := hok b _ z
        obtain ⟨k2, _⟩ := ok2 b _ z2
        rw [e] at k1
        cases k1
        exact k2
    | next => exact h.elim
    | brk => exact h.elim
    | cont => exact h.elim
theorem law_run (kIn : K.In s1.heap) (glo : s1.heap.Ns mainGlobals mg) (blt : s1.heap.Ns builtinsNs mb) (boot : ∀ x : Str, x ≠ "__name__" → mb x = bootBuiltins x) (lim : s1.heap.NoLimit) (gens : s1.gens = #[])
    (at_ : s1.heap.get? a = some { cls := .type "list", data := .seq vs.toArray }) (hi : IntsAre vs ns) (hl : ns.length ≤ sizeLine)
    (run : ∀ (base : Heap) (H : Hp), K.In base → base.Ns mainGlobals mg → Only H → SqL K H a (ns.map V.int) → Env0 P w K mg base callerA [] s1 H → codeAny (model P w) callerA (.call (.ref fa) ⟨[.ref a], []⟩) (CR CX [] P w H s1 (fun v _ => v = .bl true) (fun _ _ _ => False)) s1)
    (fin : ∀ H e t, CX [] H s1 (fun _ _ _ => False) e t → False) : codeAny (model P w) callerA (.call (.ref fa) ⟨[.ref a], []⟩) (Left s1) s1 := by
  have rv := vals_ints hi
  have lenV := hi.length
  cases hk : K.lookup a with
  | some o =>
    have e := kIn a o hk
    rw [at_] at e
    cases e
    have only : Only (fun _ => none) := fun _ => .inl rfl
    have seq : SqL K (fun _ => none) a (ns.map V.int) := .inr ⟨_, vs.toArray, _, hk, rfl, rfl, rfl, by rw [List.size_toArray, lenV]; exact hl, by simpa using rv⟩
    exact run_core kIn glo blt boot lim gens at_ only seq (fun b u z => by cases (show (none : Option HO) = some u from z)) (fun b z => absurd rfl z) (fun z => absurd rfl z) (fun base h1 h2 h3 => run base _ h1 h2 only seq h3) (fin _)
  | none =>
    generalize hH : (upd (fun _ => none) a (.frz { cls := .type "list", data := .seq vs.toArray } (.lst (ns.map V.int))) : Hp) = H
    have eA : H a = some (.frz { cls := .type "list", data := .seq vs.toArray } (.lst (ns.map V.int))) := by rw [← hH]; exact upd_same
    have eB : ∀ b, b ≠ a → H b = none := fun b hb => by rw [← hH, upd_ne hb]
    have only : Only H := fun b => by
      by_cases hb : b = a
      · rw [hb]
        exact .inr ⟨_, _, eA⟩
      · exact .inl (eB b hb)
    have seq : SqL K H a (ns.map V.int) := .inl (.inr ⟨_, eA⟩)
    have hok : HOk P w H s1.heap := fun b u z => by
      by_cases hb : b = a
      · subst hb
        rw [eA] at z
        cases z
        exact ⟨at_, by rw [List.length_map]; exact hl, vs, _, rv, at_⟩
      · rw [eB b hb] at z
        cases z
    exact run_core kIn glo blt boot lim gens at_ only seq hok (fun b z => Classical.byContradiction fun w => z (eB b w)) (fun _ => hk) (fun base h1 h2 h3 => run base _ h1 h2 only seq h3) (fin _)
end
/-- the goal that the head leaves, from the law's run at the caller -/
theorem walk_run {l : PySem.W.OpenLaw} {n : Nat} {q : Program} {loose : List Str} {XP : (Str → Option Value) → Heap → Prop} {YP : World → Heap → Prop} {d : DefRec} {CX : CXT} (hn : l.most = some n) (hn2 : n ≤ sizeLine) (hdf : d.params.defaults = [])
    (F : ∀ (w : World) (mg : Str → Option Value) (fa : Addr) (h : Heap), YP w h → h.Ns mainGlobals mg → mg d.name = some (.ref fa) → ∃ K : PySem.W.Frag, K.In h ∧ ∀ (t : Shared) (base : Heap) (H : Hp) (a : Addr) (ns : List Int), ns.length ≤ n → K.In base → base.Ns mainGlobals mg → Only H → SqL K H a (ns.map V.int) →
      Env0 l.prog w K mg base callerA [] t H → codeAny (model l.prog w) callerA (.call (.ref fa) ⟨[.ref a], []⟩) (CR CX [] l.prog w H t (fun v _ => v = .bl true) (fun _ _ _ => False)) t)
    (fin : ∀ (H : Hp) (t : Shared) (e : Value) (t' : Shared), CX [] H t (fun _ _ _ => False) e t' → False) : PySem.W.WalkO q loose XP YP l.row.toRowW d [] (fun f vs => PySem.call f vs) := by
  refine Att.attach_call hn hdf fun w s₀ s₁ mg mb fa o pm cd doc a vs ns G Y ho hd hcd hmg hobj hints hlen hg => ?_
  obtain ⟨K, kIn, run⟩ := F w mg fa _ Y G.T.g hmg
  exact law_run kIn G.T.g G.T.b G.T.builtins G.T.nolimit hg hobj hints (Nat.le_trans hlen hn2) (fun base H h1 h2 h3 h4 h5 => run s₁ base H a ns hlen h1 h2 h3 h4 h5) fun H e t => fin H s₁ e t
end Sw
set_option Elab.async false
set_option linter.all false
set_option maxRecDepth 100000
set_option maxHeartbeats 1000000
/-! W11: the same where the law makes lambdas: the table P0 of its code object c0 is tracked. -/
namespace Sw
open PySem PySem.Spec PyProof.Rows L2 LamX
section
variable {P : Program} {w : World} {K : PySem.W.Frag} {mg mb : Str → Option Value} {CX : CXT} {fa a c0 P0 : Addr} {s1 : Shared} {vs : List Value} {ns : List Int}
abbrev Empty0 : Obj := { cls := .none, data := .fields #[] }
abbrev Script (vs : List Value) : Obj := { cls := .type "list", data := .seq vs.toArray }
theorem run_coreT {H : Hp} (kIn : K.In s1.heap) (glo : s1.heap.Ns mainGlobals mg) (blt : s1.heap.Ns builtinsNs mb) (boot : ∀ x : Str, x ≠ "__name__" → mb x = bootBuiltins x) (lim : s1.heap.NoLimit) (gens : s1.gens = #[])
    (tab : s1.heap.get? P0 = some Empty0) (noK : K.lookup P0 = none) (code : PySem.W.CodeHd s1.heap c0 P0)
    (mod : ∃ (bm : Addr) (ob : Obj), mg "__builtins__" = some (.ref bm) ∧ bm ≠ builtinsNs ∧ s1.heap.get? bm = some ob ∧ ob.cls = .type "module" ∧ ob.dict = some builtinsNs ∧ ob.data = .plain)
    (at_ : s1.heap.get? a = some (Script vs)) (hP : H P0 = some (.tbl #[])) (only : ∀ b, H b = none ∨ b = P0 ∨ ∃ o xs, H b = some (.frz o (.lst xs))) (hok : HOk P w H s1.heap) (one : ∀ b, H b ≠ none → b = a ∨ b = P0) (out : H a ≠ none → K.lookup a = none)
    (run : ∀ base : Heap, K.In base → base.Ns mainGlobals mg → TabB base mg c0 P0 → Env0 P w K mg base callerA [] s1 H → codeAny (model P w) callerA (.call (.ref fa) ⟨[.ref a], []⟩) (CR CX [] P w H s1 (fun v _ => v = .bl true) (fun _ _ _ => False)) s1)
    (fin : ∀ e t, CX [] H s1 (fun _ _ _ => False) e t → False) : codeAny (model P w) callerA (.call (.ref fa) ⟨[.ref a], []⟩) (Left s1) s1 := by
  have up : ∀ {b : Addr} {o : Obj}, s1.heap.get? b = some o → H b = none → (hidT s1.heap H).get? b = some o := fun e n => hidT_get e n
  have free : ∀ {b : Addr} {o : Obj}, s1.heap.get? b = some o → (∀ us n, o.data ≠ .seq us n) → o.data ≠ .fields #[] → H b = none := fun {b o} e h1 h2 => by
    apply Classical.byContradiction
    intro q
    rcases one b q with eb | eb
    · rw [eb, at_] at e
      cases e
      exact h1 _ _ rfl
    · rw [eb, tab] at e
      cases e
      exact h2 rfl
  have dict_free : ∀ {b : Addr} {o : Obj} {es : Array DictEntry} {ep : Nat}, s1.heap.get? b = some o → o.data = .dict es ep → H b = none := fun {b o es ep} e d => free e (fun us n z => by rw [d] at z; cases z) fun z => by rw [d] at z; cases z
  have nsB : ∀ {b : Addr} {m : Str → Option Value}, s1.heap.Ns b m → (hidT s1.heap H).Ns b m := fun {b m} h => by
    obtain ⟨o, es, ep, e, d, r⟩ := h
    exact ⟨o, es, ep, up e (dict_free e d), d, r⟩
  have kB : K.In (hidT s1.heap H) := fun b o e => up (kIn b o e) (by
    apply Classical.byContradiction
    intro q
    rcases one b q with eb | eb
    · rw [eb] at e q
      rw [out q] at e
      cases e
    · rw [eb, noK] at e
      cases e)
  have tb : TabB (hidT s1.heap H) mg c0 P0 := by
    refine ⟨?_, ?_, fun z => ?_⟩
    · obtain ⟨o, us, file, tf, flags, tg, inF, text, tt, e1, r1, r2, r3, rest⟩ := code
      refine ⟨o, us, file, tf, flags, tg, inF, text, tt, up e1 (free e1 (fun us n z => ?_) fun z => ?_), r1, r2, r3, rest⟩
      · rw [r2] at z
        cases z
      · rw [r2] at z
        cases z
        simp at r3
    · obtain ⟨bm, ob, b1, b2, b3, b4, b5, b6⟩ := mod
      refine ⟨bm, ob, b1, b2, fun q => ?_, fun q => ?_, up b3 (free b3 (fun us n z => ?_) fun z => ?_), b4, b5, b6⟩
      · obtain ⟨o, es, ep, e, hd, _⟩ := glo
        rw [q, e] at b3
        cases b3
        rw [hd] at b6
        cases b6
      · rw [q, tab] at b3
        cases b3
        cases b6
      · rw [b6] at z
        cases z
      · rw [b6] at z
        cases z
    · obtain ⟨o, es, ep, e, hd, _⟩ := glo
      rw [z, tab] at e
      cases e
      cases hd
  obtain ⟨mc, l1, l2⟩ := lim
  have e0 : Env0 P w K mg (hidT s1.heap H) callerA [] s1 H := ⟨rfl, ⟨kB, nsB glo, ⟨mb, nsB blt, boot⟩, mc, nsB l1, l2⟩, fun b o e => of_hidT e, Nat.le_of_eq (hidT_size _ _), trivial, fun b hb => (List.not_mem_nil (show b ∈ ([] : List Addr) from hb)).elim, hok, .of_eq gens⟩
  refine codeAny_mono (run _ kB (nsB glo) tb e0) fun r t h => ?_
  cases r with
  | error e => exact (fin e t h).elim
  | ok fl =>
    cases fl with
    | ret u =>
      obtain ⟨v, H2, os2, bare2, un, ok2, rel, isT⟩ := h
      have isT' : v = .bl true := isT
      subst isT'
      obtain rfl : u = Value.bool true := rel
      have kept : ∀ b o, b ≠ P0 → s1.heap.get? b = some o → t.heap.get? b = some o := fun b o nb e => by
        rcases only b with z | z | ⟨ob, xs, z⟩
        · exact un.keep b o e z (fun q => (List.not_mem_nil (show b ∈ ([] : List Addr) from q)).elim) (by simp)
        · exact absurd z nb
        · have z2 := un.frzs b ob _ z
          obtain ⟨k1, _⟩ := hok b _ z
          obtain ⟨k2, _⟩ := ok2 b _ z2
          rw [e] at k1
          cases k1
          exact k2
      obtain ⟨more, zt⟩ := un.tbls P0 #[] hP
      have grown : t.heap.get? P0 = some { cls := .none, data := .fields (#[] ++ more) } := ok2 P0 _ zt
      rw [Array.empty_append] at grown
      refine ⟨rfl, ⟨fun b o e => ?_, fun b o e => ?_⟩, os2, bare2⟩
      · by_cases hb : b = P0
        · rw [hb] at e ⊢
          rw [tab] at e
          cases e
          exact .inr (.inl ⟨(code.tab tab).isCodeTable, rfl, #[], more, rfl, by rw [Array.empty_append]; exact grown⟩)
        · exact .inl (kept b o hb e)
      · by_cases hb : b = P0
        · rw [hb]
          exact ⟨_, grown⟩
        · exact ⟨o, kept b o hb e⟩
    | next => exact h.elim
    | brk => exact h.elim
    | cont => exact h.elim
theorem law_runT (kIn : K.In s1.heap) (glo : s1.heap.Ns mainGlobals mg) (blt : s1.heap.Ns builtinsNs mb) (boot : ∀ x : Str, x ≠ "__name__" → mb x = bootBuiltins x) (lim : s1.heap.NoLimit) (gens : s1.gens = #[])
    (tab : s1.heap.get? P0 = some Empty0) (noK : K.lookup P0 = none) (code : PySem.W.CodeHd s1.heap c0 P0)
    (mod : ∃ (bm : Addr) (ob : Obj), mg "__builtins__" = some (.ref bm) ∧ bm ≠ builtinsNs ∧ s1.heap.get? bm = some ob ∧ ob.cls = .type "module" ∧ ob.dict = some builtinsNs ∧ ob.data = .plain)
    (at_ : s1.heap.get? a = some (Script vs)) (hi : IntsAre vs ns) (hl : ns.length ≤ sizeLine)
    (run : ∀ (base : Heap) (H : Hp), K.In base → base.Ns mainGlobals mg → TabB base mg c0 P0 → H P0 = some (.tbl #[]) → SqL K H a (ns.map V.int) → Env0 P w K mg base callerA [] s1 H → codeAny (model P w) callerA (.call (.ref fa) ⟨[.ref a], []⟩) (CR CX [] P w H s1 (fun v _ => v = .bl true) (fun _ _ _ => False)) s1)
    (fin : ∀ H e t, CX [] H s1 (fun _ _ _ => False) e t → False) : codeAny (model P w) callerA (.call (.ref fa) ⟨[.ref a], []⟩) (Left s1) s1 := by
  have rv := vals_ints hi
  have lenV := hi.length
  have ne : a ≠ P0 := fun z => by
    rw [z, tab] at at_
    have := congrArg Obj.data (Option.some.inj at_)
    cases this
  have mk : ∀ H : Hp, H P0 = some (.tbl #[]) → (∀ b, b ≠ a → b ≠ P0 → H b = none) → ((H a = none ∧ K.lookup a ≠ none) ∨ (H a = some (.frz (Script vs) (.lst (ns.map V.int))) ∧ K.lookup a = none)) → SqL K H a (ns.map V.int) → codeAny (model P w) callerA (.call (.ref fa) ⟨[.ref a], []⟩) (Left s1) s1 := fun H hP hN hA seq => by
    refine run_coreT kIn glo blt boot lim gens tab noK code mod at_ hP (fun b => ?_) (fun b u z => ?_) (fun b z => ?_) (fun z => ?_) (fun base h1 h2 h3 h4 => run base H h1 h2 h3 hP seq h4) (fin H)
    · by_cases hb : b = P0
      · exact .inr (.inl hb)
      · by_cases ha : b = a
        · rw [ha]
          rcases hA with k | k
          · exact .inl k.1
          · exact .inr (.inr ⟨_, _, k.1⟩)
        · exact .inl (hN b ha hb)
    · by_cases hb : b = P0
      · subst hb
        rw [hP] at z
        cases z
        exact tab
      · by_cases ha : b = a
        · subst ha
          rcases hA with k | k
          · rw [k.1] at z
            cases z
          · rw [k.1] at z
            cases z
            exact ⟨at_, by rw [List.length_map]; exact hl, vs, _, rv, at_⟩
        · rw [hN b ha hb] at z
          cases z
    · by_cases hb : b = P0
      · exact .inr hb
      · by_cases ha : b = a
        · exact .inl ha
        · exact absurd (hN b ha hb) z
    · rcases hA with k | k
      · exact absurd k.1 z
      · exact k.2
  cases hk : K.lookup a with
  | some o =>
    have e := kIn a o hk
    rw [at_] at e
    cases e
    refine mk (upd (fun _ => none) P0 (.tbl #[])) upd_same (fun b _ hb => by rw [upd_ne hb]) (.inl ⟨by rw [upd_ne ne], by rw [hk]; simp⟩) (.inr ⟨_, vs.toArray, _, hk, rfl, rfl, rfl, by rw [List.size_toArray, lenV]; exact hl, by simpa using rv⟩)
  | none =>
    refine mk (upd (upd (fun _ => none) P0 (.tbl #[])) a (.frz (Script vs) (.lst (ns.map V.int)))) (by rw [upd_ne ne.symm]; exact upd_same) (fun b ha hb => by rw [upd_ne ha, upd_ne hb]) (.inr ⟨upd_same, hk⟩) (.inl (.inr ⟨_, upd_same⟩))
end
/-- the goal that the head leaves, from the law's run at the caller, its table known -/
theorem walk_runT {l : PySem.W.OpenLaw} {n : Nat} {q : Program} {loose : List Str} {XP : (Str → Option Value) → Heap → Prop} {YP : World → Heap → Prop} {d : DefRec} {CX : CXT} (hn : l.most = some n) (hn2 : n ≤ sizeLine) (hdf : d.params.defaults = [])
    (hrec : ((recsOf q).any fun e => e.name == d.name) = true)
    (F : ∀ (w : World) (mg : Str → Option Value) (fa : Addr) (h : Heap), YP w h → h.Ns mainGlobals mg → mg d.name = some (.ref fa) → ∃ K : PySem.W.Frag, K.In h ∧ ∀ (c t : Addr) (o : Obj) (fd : FuncData), h.get? fa = some o → o.data = .func fd → fd.code = .ref c → PySem.W.CodeHd h c t → h.get? t = some Empty0 →
      K.lookup t = none ∧ ∀ (s : Shared) (base : Heap) (H : Hp) (a : Addr) (ns : List Int), ns.length ≤ n → K.In base → base.Ns mainGlobals mg → TabB base mg c t → H t = some (.tbl #[]) → SqL K H a (ns.map V.int) → Env0 l.prog w K mg base callerA [] s H →
        codeAny (model l.prog w) callerA (.call (.ref fa) ⟨[.ref a], []⟩) (CR CX [] l.prog w H s (fun v _ => v = .bl true) (fun _ _ _ => False)) s)
    (fin : ∀ (H : Hp) (s : Shared) (e : Value) (s' : Shared), CX [] H s (fun _ _ _ => False) e s' → False) : PySem.W.WalkO q loose XP YP l.row.toRowW d [] (fun f vs => PySem.call f vs) := by
  refine Att.attach_call hn hdf fun w s₀ s₁ mg mb fa o pm cd doc a vs ns G Y ho hd hcd hmg hobj hints hlen hg => ?_
  obtain ⟨dL, mem, same⟩ := List.any_eq_true.mp hrec
  obtain ⟨a', o', fd', c', t', g1, g2, g3, g4, g5, g6⟩ := G.T.tab dL mem
  rw [beq_iff_eq.mp same, hmg] at g1
  cases g1
  obtain ⟨K, kIn, F2⟩ := F w mg fa _ Y G.T.g hmg
  have head := PySem.W.CodeHd.of g5 g6
  have tab : s₁.heap.get? t' = some Empty0 := g6.2
  obtain ⟨noK, run⟩ := F2 c' t' o' fd' g2 g3 g4 head tab
  exact law_runT kIn G.T.g G.T.b G.T.builtins G.T.nolimit hg tab noK head G.T.bmain hobj hints (Nat.le_trans hlen hn2) (fun base H h1 h2 h3 h4 h5 h6 => run s₁ base H a ns hlen h1 h2 h3 h4 h5 h6) fun H e t => fin H s₁ e t
end Sw
set_option Elab.async false
set_option linter.all false
set_option maxRecDepth 100000
set_option maxHeartbeats 1000000
/-! W12: tuple(zip(l1, l2)), two lists of one length. -/
namespace Sw
open PySem PySem.Spec PyProof.Rows L2
/-- pairs are laid, one behind the other -/
inductive LayZ : Hp → List V → List V → List Addr → Hp → Prop
  | nil {H : Hp} : LayZ H [] [] [] H
  | cons {H H' : Hp} {x y : V} {xs ys : List V} {T : Addr} {ts : List Addr} : H T = none → LayZ (upd H T (.tup [x, y])) xs ys ts H' → LayZ H (x :: xs) (y :: ys) (T :: ts) H'
theorem LayZ.len : ∀ {H H' : Hp} {xs ys : List V} {ts : List Addr}, LayZ H xs ys ts H' → ts.length = xs.length
  | _, _, _, _, _, .nil => rfl
  | _, _, _, _, _, .cons _ h => congrArg (· + 1) (LayZ.len h)
structure ZSt (h : Heap) (z TI TO i1 i2 l1 l2 S : Addr) (i : Nat) (xs ys : Array Value) : Prop where
  hTI : IsPair h TI (.ref i1) (.ref i2)
  h1 : h.IsListIter i1 l1 i
  h2 : h.IsListIter i2 l2 i
  hl1 : h.IsList l1 xs
  hl2 : h.IsList l2 ys
  hz : (IsZip h z TI TO .none ∧ ∃ a b, IsPair h TO a b) ∨ ∃ T f oT, IsZipHeld h z TI TO T f ∧ h.get? T = some oT ∧ T ≠ z ∧ T ≠ i1 ∧ T ≠ i2 ∧ T ≠ S
theorem ZSt.keep {h h' : Heap} {z TI TO i1 i2 l1 l2 S : Addr} {i : Nat} {xs ys : Array Value} (st : ZSt h z TI TO i1 i2 l1 l2 S i xs ys) (hS : S ∉ [z, TI, TO, i1, i2, l1, l2]) (hk : ∀ b o, b ≠ S → h.get? b = some o → h'.get? b = some o) : ZSt h' z TI TO i1 i2 l1 l2 S i xs ys := by
  simp only [List.mem_cons, List.not_mem_nil, or_false, not_or] at hS
  obtain ⟨dz, dTI, dTO, di1, di2, dl1, dl2⟩ := hS
  obtain ⟨hTI, h1, h2, hl1, hl2, hz⟩ := st
  refine ⟨hk _ _ (Ne.symm dTI) hTI, h1.at fun o e => hk _ o (Ne.symm di1) e, h2.at fun o e => hk _ o (Ne.symm di2) e, hl1.at fun o e => hk _ o (Ne.symm dl1) e, hl2.at fun o e => hk _ o (Ne.symm dl2) e, ?_⟩
  rcases hz with ⟨hz, a, b, hTO⟩ | ⟨T, f, oT, hz, hT, r1, r2, r3, r4⟩
  · exact .inl ⟨hk _ _ (Ne.symm dz) hz, a, b, hk _ _ (Ne.symm dTO) hTO⟩
  · exact .inr ⟨T, f, oT, hk _ _ (Ne.symm dz) hz, hk _ _ r4 hT, r1, r2, r3, r4⟩
section
variable {X : Cx} {pins : List (Addr × Obj)} {σ : L2.St} {z TI TO i1 i2 l1 l2 S : Addr} {xs ys : Array Value} {us ws : List V}
/-- the next pair, the list S beside it -/
theorem zip_item {A : Around} {E : Value → Shared → Prop} {s : Shared} {i : Nat} {x y : Value} {Q : Option Value → Shared → Prop} (D : ZipApart z TI TO i1 i2 l1 l2) (st : ZSt s.heap z TI TO i1 i2 l1 l2 S i xs ys) (hS : S ∉ [z, TI, TO, i1, i2, l1, l2]) (hSl : S < s.heap.objs.size) (hx : xs[i]? = some x) (hy : ys[i]? = some y)
    (hQ : ∀ h', ZSt h' z TI TO i1 i2 l1 l2 S (i + 1) xs ys → IsPair h' s.heap.objs.size x y → (∀ c o, c ≠ z → c ≠ TO → c ≠ i1 → c ≠ i2 → s.heap.get? c = some o → h'.get? c = some o) → Q (some (.ref s.heap.objs.size)) { s with heap := h' }) :
    wpAny (model X.prog X.w) A (pyNext (.ref z)) Q E s := by
  obtain ⟨hTI, h1, h2, hl1, hl2, hz⟩ := st
  have lt : ∀ {c o}, s.heap.get? c = some o → s.heap.objs.size ≠ c := fun e => Nat.ne_of_gt (Heap.lt_size e)
  have n1 : s.heap.objs.size ≠ i1 := let ⟨_, e, _⟩ := h1; lt e
  have n2 : s.heap.objs.size ≠ i2 := let ⟨_, e, _⟩ := h2; lt e
  rcases hz with ⟨hz, a, b, hTO⟩ | ⟨T, f, oT, hz, hT, r1, r2, r3, r4⟩
  · refine wpAny_pyNext_zip_item D hz hTI hTO h1 h2 hl1 hl2 hx hy fun h' a1 a2 a3 a4 a5 a6 hk => ?_
    exact hQ h' ⟨hk _ _ D.TIz D.TITO D.TIi1 D.TIi2 hTI, a3, a4, hl1.at fun o e => hk _ o D.l1z D.l1TO D.l1i1 D.l1i2 e, hl2.at fun o e => hk _ o D.l2z D.l2TO D.l2i1 D.l2i2 e,
      .inr ⟨s.heap.objs.size, false, _, a1, a5, lt hz, n1, n2, Nat.ne_of_gt hSl⟩⟩ a5 hk
  · refine wpAny_pyNext_zip_item_held D hz hT hTI h1 h2 hl1 hl2 hx hy fun h' a1 a3 a4 a5 a6 hk => ?_
    exact hQ h' ⟨hk _ _ D.TIz D.TIi1 D.TIi2 hTI, a3, a4, hl1.at fun o e => hk _ o D.l1z D.l1i1 D.l1i2 e, hl2.at fun o e => hk _ o D.l2z D.l2i1 D.l2i2 e,
      .inr ⟨T, true, oT, a1, hk _ _ r1 r2 r3 hT, r1, r2, r3, r4⟩⟩ a5 fun c o c1 _ c3 c4 e => hk c o c1 c3 c4 e
theorem zip_end {A : Around} {E : Value → Shared → Prop} {s : Shared} {i : Nat} {Q : Option Value → Shared → Prop} (hh : A.handled = none) (D : ZipApart z TI TO i1 i2 l1 l2) (st : ZSt s.heap z TI TO i1 i2 l1 l2 S i xs ys) (hx : xs[i]? = none)
    (hQ : ∀ h', (∀ c o, c ≠ z → c ≠ TO → c ≠ i1 → c ≠ i2 → s.heap.get? c = some o → h'.get? c = some o) → Q none { s with heap := h' }) :
    wpAny (model X.prog X.w) A (pyNext (.ref z)) Q E s := by
  obtain ⟨hTI, h1, h2, hl1, hl2, hz⟩ := st
  rcases hz with ⟨hz, a, b, hTO⟩ | ⟨T, f, oT, hz, hT, r1, r2, r3, r4⟩
  · exact wpAny_pyNext_zip_end hh D hz hTI hTO h1 h2 hl1 hl2 (.inl hx) fun h' hk => hQ h' hk
  · exact wpAny_pyNext_zip_end_held hh D hz hT hTI h1 h2 hl1 hl2 (.inl hx) fun h' hk => hQ h' fun c o c1 _ c3 c4 e => hk c o c1 c3 c4 e
abbrev fpZ (z TI TO i1 i2 S : Addr) : List Addr := [z, TI, TO, i1, i2, S]
theorem ext_zip {A : Around} {res : Value} {R : Result → Shared → Prop} (hh : A.handled = none) (D : ZipApart z TI TO i1 i2 l1 l2) (hS : S ∉ [z, TI, TO, i1, i2, l1, l2]) (rx : Vals us xs.toList) (ry : Vals ws ys.toList) (hl : us.length = ws.length) (hn : us.length ≤ sizeLine) :
    ∀ (k i : Nat) (s : Shared) (H : Hp) (acc : Array Value) (c : Nat), us.length - i = k → i ≤ us.length → acc.size = i → Inv X pins σ H s → (∀ b ∈ fpZ z TI TO i1 i2 S, FpOk X pins H b ∧ b < s.heap.objs.size) → ZSt s.heap z TI TO i1 i2 l1 l2 S i xs ys →
      s.heap.get? S = some { cls := .type "list", dict := none, data := .seq acc c, slots := #[] } →
      (∀ s' H' ts acc' c', Inv X pins σ H' s' → LayZ H (us.drop i) (ws.drop i) ts H' → s'.heap.get? S = some { cls := .type "list", dict := none, data := .seq acc' c', slots := #[] } → acc'.toList = acc.toList ++ ts.map Value.ref → R (.ok (.ret res)) s') →
      codeAny (model X.prog X.w) A (.builtin "list.extend.loop" ⟨[.ref S, .ref z, res], []⟩) R s := by
  have lx : xs.size = us.length := by rw [← Array.length_toList, ← rx.length]
  have ly : ys.size = us.length := by rw [← Array.length_toList, ← ry.length, hl]
  have hS' := hS
  simp only [List.mem_cons, List.not_mem_nil, or_false, not_or] at hS'
  obtain ⟨dz, dTI, dTO, di1, di2, dl1, dl2⟩ := hS'
  intro k
  induction k with
  | zero =>
    intro i s H acc c hk hi hacc I hf st hSo hR
    have hin : i = us.length := by omega
    refine codeAny_builtin F.entry_extend_loop ?_
    rw [Around.under_plainId F.plain_extend_loop _]
    show wpAny _ A.in1 (pyNext (.ref z) >>= _) _ _ s
    refine wpAny_bind (zip_end (A := A.in1) hh D st (Array.getElem?_eq_none (by omega)) fun h' hk' => ?_)
    refine wpAny_pure (hR _ H [] acc c (I.turnedL (t' := s.toks) (ch := [z, TO, i1, i2]) (fun b o hb q => hk' b o (fun e => hb (by simp [e])) (fun e => hb (by simp [e])) (fun e => hb (by simp [e])) (fun e => hb (by simp [e])) q) (fun b hb => (hf b ?_).1)) ?_ (hk' S _ dz dTO di1 di2 hSo) (by simp))
    · simp only [List.mem_cons, List.not_mem_nil, or_false] at hb ⊢
      rcases hb with e | e | e | e <;> simp [e]
    · rw [hin, List.drop_of_length_le (Nat.le_refl _), List.drop_of_length_le (by omega)]
      exact .nil
  | succ k ih =>
    intro i s H acc c hk hi hacc I hf st hSo hR
    have hlt : i < us.length := by omega
    have hxi : xs[i]? = some xs[i] := Array.getElem?_eq_getElem (by omega)
    have hyi : ys[i]? = some ys[i] := Array.getElem?_eq_getElem (by omega)
    have hu : us[i]? = some us[i] := List.getElem?_eq_getElem hlt
    have hw : ws[i]? = some ws[i] := List.getElem?_eq_getElem (by omega)
    have ru : L2.RelV us[i] xs[i] := by
      obtain ⟨v, hv, r⟩ := rx.get hu
      rw [Array.getElem?_toList, hxi] at hv
      cases hv
      exact r
    have rw' : L2.RelV ws[i] ys[i] := by
      obtain ⟨v, hv, r⟩ := ry.get hw
      rw [Array.getElem?_toList, hyi] at hv
      cases hv
      exact r
    refine codeAny_builtin F.entry_extend_loop ?_
    rw [Around.under_plainId F.plain_extend_loop _]
    show wpAny _ A.in1 (pyNext (.ref z) >>= _) _ _ s
    refine wpAny_bind (zip_item (A := A.in1) D st hS (Heap.lt_size hSo) hxi hyi fun h' st' hT hk' => ?_)
    have hS1 := hk' S _ dz dTO di1 di2 hSo
    have nTS : s.heap.objs.size ≠ S := Nat.ne_of_gt (Heap.lt_size hSo)
    show wpAny _ A.in1 (updateSeq S (·.push (.ref s.heap.objs.size)) >>= _) _ _ _
    refine wpAny_bind ?_
    have oth : ∀ b o, b ≠ S → h'.get? b = some o → (h'.update S (Obj.mapSeq (·.push (Value.ref s.heap.objs.size)))).get? b = some o := fun b o hb e => (Heap.get?_update_other _ _ (Ne.symm hb)).trans e
    have new : ObjOk X.prog X.w (upd H s.heap.objs.size (.tup [us[i], ws[i]])) (h'.update S (Obj.mapSeq (·.push (Value.ref s.heap.objs.size)))) s.heap.objs.size (.tup [us[i], ws[i]]) :=
      ⟨by show 2 ≤ sizeLine; decide, [xs[i], ys[i]], .cons ru (.cons rw' .nil), ⟨_, oth _ _ nTS hT, rfl, _, rfl⟩⟩
    have I1 : Inv X pins σ (upd H s.heap.objs.size (.tup [us[i], ws[i]])) { s with heap := h'.update S (Obj.mapSeq (·.push (Value.ref s.heap.objs.size))) } :=
      I.turnedNew (t' := s.toks) (ch := fpZ z TI TO i1 i2 S) (fun b o hb q => oth b o (fun e => hb (by simp [fpZ, e])) (hk' b o (fun e => hb (by simp [fpZ, e])) (fun e => hb (by simp [fpZ, e])) (fun e => hb (by simp [fpZ, e])) (fun e => hb (by simp [fpZ, e])) q)) (fun b hb => (hf b hb).1) (Nat.le_refl _) new
    refine wpAny_updateSeq hS1 rfl (wpAny_pure ⟨plainId_quiet F.plain_extend_loop _, ih (i + 1) _ _ (acc.push (.ref s.heap.objs.size)) _ (by omega) hlt (by rw [Array.size_push, hacc]) I1 (fun b hb => ?_) (st'.keep hS oth) (Heap.get?_update_self _ hS1 rfl) fun s'' H'' ts acc' c' I2 lay hS'' hacc' => ?_⟩)
      (by rw [hacc]; omega) (by show (acc.push _).size ≤ sizeLine + 1; rw [Array.size_push, hacc]; omega)
    · have hlt2 : b ≠ s.heap.objs.size := Nat.ne_of_lt (hf b hb).2
      have h0 := hf b hb
      exact ⟨⟨by rw [upd_ne hlt2]; exact h0.1.1, h0.1.2⟩, Nat.lt_trans h0.2 (Heap.lt_size (oth _ _ nTS hT))⟩
    · refine hR s'' H'' (s.heap.objs.size :: ts) acc' c' I2 ?_ hS'' ?_
      · rw [List.drop_eq_getElem_cons hlt, List.drop_eq_getElem_cons (show i < ws.length by omega)]
        exact .cons (I.hok.fresh (Nat.le_refl _)) lay
      · rw [hacc', Array.toList_push, List.append_assoc]
        rfl
theorem zip_no_len : typeLookup (.type "zip") "__len__" = pure none := by rw [typeLookup_type, builtinLookup_eq_fast]; kernel_rfl
theorem zip_no_hint : typeLookup (.type "zip") "__length_hint__" = pure none := by rw [typeLookup_type, builtinLookup_eq_fast]; kernel_rfl
theorem ZSt.typeIs {s : Shared} {i : Nat} (st : ZSt s.heap z TI TO i1 i2 l1 l2 S i xs ys) : s.TypeIs (.ref z) "zip" := by
  rcases st.hz with ⟨hz, _⟩ | ⟨T, f, oT, hz, _⟩
  · exact ⟨_, hz, rfl⟩
  · exact ⟨_, hz, rfl⟩
theorem ZSt.iter {A : Around} {E : Value → Shared → Prop} {s : Shared} {Q : Value → Shared → Prop} (hz : IsZip s.heap z TI TO .none) (h : Q (.ref z) s) : wpAny (model X.prog X.w) A (pyIter (.ref z)) Q E s := wpAny_pyIter_zip hz h
theorem collect_zip {A : Around} {E : Value → Shared → Prop} {s : Shared} {H : Hp} {Q : List Value → Shared → Prop} (hh : A.handled = none) (D : ZipApart z TI TO i1 i2 l1 l2) (rx : Vals us xs.toList) (ry : Vals ws ys.toList) (hl : us.length = ws.length) (hn : us.length ≤ sizeLine)
    (I : Inv X pins σ H s) (hf : ∀ b ∈ [z, TI, TO, i1, i2], FpOk X pins H b ∧ b < s.heap.objs.size) (hlt : l1 < s.heap.objs.size ∧ l2 < s.heap.objs.size)
    (hz : IsZip s.heap z TI TO .none) (hTO : ∃ a b, IsPair s.heap TO a b) (hTI : IsPair s.heap TI (.ref i1) (.ref i2)) (h1 : s.heap.IsListIter i1 l1 0) (h2 : s.heap.IsListIter i2 l2 0) (hl1 : s.heap.IsList l1 xs) (hl2 : s.heap.IsList l2 ys)
    (hQ : ∀ s' H' ts, Inv X pins σ H' s' → LayZ H us ws ts H' → Q (ts.map Value.ref) s') : wpAny (model X.prog X.w) A (collect (.ref z)) Q E s := by
  obtain ⟨S, eS⟩ : ∃ S, S = s.heap.objs.size := ⟨_, rfl⟩
  have hS : S ∉ [z, TI, TO, i1, i2, l1, l2] := by
    intro hm
    simp only [List.mem_cons, List.not_mem_nil, or_false] at hm
    have k : ∀ b ∈ [z, TI, TO, i1, i2], S ≠ b := fun b hb => by rw [eS]; exact Nat.ne_of_gt (hf b hb).2
    rcases hm with e | e | e | e | e | e | e
    · exact k z (by simp) e
    · exact k TI (by simp) e
    · exact k TO (by simp) e
    · exact k i1 (by simp) e
    · exact k i2 (by simp) e
    · rw [eS] at e; exact Nat.ne_of_gt hlt.1 e
    · rw [eS] at e; exact Nat.ne_of_gt hlt.2 e
  have st0 : ZSt s.heap z TI TO i1 i2 l1 l2 S 0 xs ys := ⟨hTI, h1, h2, hl1, hl2, .inl ⟨hz, hTO⟩⟩
  have push : ∀ b o, s.heap.get? b = some o → (s.heap.push { cls := .type "list", data := .seq ([] : List Value).toArray }).get? b = some o := fun b o e => Heap.get?_push_of_some _ e
  have st1 : ZSt (s.heap.push { cls := .type "list", data := .seq ([] : List Value).toArray }) z TI TO i1 i2 l1 l2 S 0 xs ys := st0.keep hS fun b o _ e => push b o e
  have hz1 : IsZip (s.heap.push { cls := .type "list", data := .seq ([] : List Value).toArray }) z TI TO .none := push _ _ hz
  have hS₁ : (s.heap.push { cls := .type "list", data := .seq ([] : List Value).toArray }).get? S = some { cls := .type "list", data := .seq ([] : List Value).toArray } := by rw [eS]; exact Heap.get?_push_size _ rfl
  have hSz : S ≠ z := fun e => hS (by simp [e])
  have hT : ({ s with heap := s.heap.push { cls := .type "list", data := .seq ([] : List Value).toArray } } : Shared).TypeIs (.ref z) "zip" := ZSt.typeIs (s := { s with heap := s.heap.push { cls := .type "list", data := .seq ([] : List Value).toArray } }) st1
  unfold collect
  refine wpAny_bind (wpAny_runValue (codeAny_builtin F.entry_proto_collect ?_))
  rw [Around.under_plainId F.plain_proto_collect _]
  show wpAny _ A.in1 (newList [] >>= fun l => again (.builtin "list.__iadd__" ⟨[l, .ref z], []⟩)) _ _ s
  refine wpAny_bind (wpAny_newObj_type ?_)
  rw [← eS]
  refine wpAny_pure ⟨plainId_quiet F.plain_list_iadd _, codeAny_builtin F.entry_list_iadd ?_⟩
  rw [Around.under_plainId F.plain_list_iadd _]
  show wpAny _ A.in1 (Builtin.List.listExtendWith (.ref S) (.ref z) (.ref S)) _ _ _
  unfold Builtin.List.listExtendWith
  refine wpAny_bind (wpAny_typeOf hT ?_)
  have k1 : Builtin.List.listSameRef (.ref S) (.ref z) = false := by simp [Builtin.List.listSameRef, hSz]
  have k2 : (Value.type "zip" == Value.type "list") = false := by decide
  have k3 : (Value.type "zip" == Value.type "tuple") = false := by decide
  simp only [k1, k2, k3, Bool.or_false, Bool.false_eq_true, if_false]
  refine wpAny_bind (wpAny_pyIter_zip (s := { s with heap := s.heap.push { cls := .type "list", data := .seq ([] : List Value).toArray } }) hz1 ?_)
  refine wpAny_bind (wpAny_holding ?_)
  unfold Builtin.List.listLengthHint
  refine wpAny_bind (wpAny_specialOf hT zip_no_len ?_)
  show wpAny _ A.in1 (specialOf (Value.ref z) (Str.ofString "__length_hint__") >>= _) _ _ _
  refine wpAny_bind (wpAny_specialOf hT zip_no_hint ?_)
  refine wpAny_pure ?_
  show wpAny _ A.in1 (rule "list.extend.makes-room" >>= fun _ => Builtin.List.listTouch (.ref S) >>= fun _ => again (.builtin "list.extend.loop" ⟨[.ref S, .ref z, .ref S], []⟩)) _ _ _
  refine wpAny_bind (wpAny_rule ?_)
  refine wpAny_bind ?_
  show wpAny _ A.in1 (updateSeq S (·.push .none) >>= fun _ => updateSeq S (·.pop)) _ _ _
  refine wpAny_bind (wpAny_updateSeq hS₁ rfl ?_)
  have hS₂ := Heap.get?_update_self (Obj.mapSeq (·.push Value.none)) hS₁ rfl
  refine wpAny_updateSeq hS₂ rfl ?_
  have hS₃ := Heap.get?_update_self (Obj.mapSeq (·.pop)) hS₂ rfl
  have oth : ∀ b o, b ≠ S → (s.heap.push { cls := .type "list", data := .seq ([] : List Value).toArray }).get? b = some o →
      (((s.heap.push { cls := .type "list", data := .seq ([] : List Value).toArray }).update S (Obj.mapSeq (·.push Value.none))).update S (Obj.mapSeq (·.pop))).get? b = some o :=
    fun b o hb e => (Heap.get?_update_other _ _ (Ne.symm hb)).trans ((Heap.get?_update_other _ _ (Ne.symm hb)).trans e)
  have all : ∀ b o, s.heap.get? b = some o → (((s.heap.push { cls := .type "list", data := .seq ([] : List Value).toArray }).update S (Obj.mapSeq (·.push Value.none))).update S (Obj.mapSeq (·.pop))).get? b = some o := fun b o e =>
    oth b o (fun q => by rw [q, eS] at e; exact Nat.lt_irrefl _ (Heap.lt_size e)) (push b o e)
  have I1 := I.kept (t' := s.toks) all
  refine wpAny_pure ⟨plainId_quiet F.plain_extend_loop _, ext_zip (X := X) (pins := pins) (σ := σ) (us := us) (ws := ws) (xs := xs) (ys := ys) hh D hS rx ry hl hn us.length 0 _ H _ _ rfl (Nat.zero_le _) rfl I1 (fun b hb => ?_) (st1.keep hS oth) hS₃ fun s' H' ts acc' c' I2 lay hS' hacc => ?_⟩
  · simp only [fpZ, List.mem_cons, List.not_mem_nil, or_false] at hb
    have up : ∀ {b : Addr}, b < s.heap.objs.size → b < (((s.heap.push { cls := .type "list", data := .seq ([] : List Value).toArray }).update S (Obj.mapSeq (·.push Value.none))).update S (Obj.mapSeq (·.pop))).objs.size := fun {b} h => Nat.lt_trans h (by rw [← eS]; exact Heap.lt_size hS₃)
    rcases hb with e | e | e | e | e | e
    · rw [e]; exact ⟨(hf z (by simp)).1, up (hf z (by simp)).2⟩
    · rw [e]; exact ⟨(hf TI (by simp)).1, up (hf TI (by simp)).2⟩
    · rw [e]; exact ⟨(hf TO (by simp)).1, up (hf TO (by simp)).2⟩
    · rw [e]; exact ⟨(hf i1 (by simp)).1, up (hf i1 (by simp)).2⟩
    · rw [e]; exact ⟨(hf i2 (by simp)).1, up (hf i2 (by simp)).2⟩
    · rw [e]; exact ⟨I.fpOk (Nat.le_of_eq eS.symm) (I.hok.fresh (Nat.le_of_eq eS.symm)), Heap.lt_size hS₃⟩
  · show wpAny _ A (load S >>= _) _ _ s'
    refine wpAny_bind (wpAny_load hS' ?_)
    refine wpAny_pure ?_
    show Q acc'.toList s'
    rw [hacc]
    exact hQ s' H' ts I2 lay
theorem code_tuple_new_zip {A : Around} {E : Value → Shared → Prop} {s : Shared} {H : Hp} {Q₁ : Value → Shared → Prop} (hh : A.handled = none) (D : ZipApart z TI TO i1 i2 l1 l2) (rx : Vals us xs.toList) (ry : Vals ws ys.toList) (hl : us.length = ws.length) (hn : us.length ≤ sizeLine)
    (I : Inv X pins σ H s) (hf : ∀ b ∈ [z, TI, TO, i1, i2], FpOk X pins H b ∧ b < s.heap.objs.size) (hlt : l1 < s.heap.objs.size ∧ l2 < s.heap.objs.size)
    (hz : IsZip s.heap z TI TO .none) (hTO : ∃ a b, IsPair s.heap TO a b) (hTI : IsPair s.heap TI (.ref i1) (.ref i2)) (h1 : s.heap.IsListIter i1 l1 0) (h2 : s.heap.IsListIter i2 l2 0) (hl1 : s.heap.IsList l1 xs) (hl2 : s.heap.IsList l2 ys)
    (h : ∀ s' H' ts, Inv X pins σ H' s' → LayZ H us ws ts H' → Q₁ (.ref s'.heap.objs.size) { s' with heap := s'.heap.push { cls := .type "tuple", data := .seq (ts.map Value.ref).toArray } }) :
    codeAny (model X.prog X.w) A (.call (.builtin "tuple.__new__") ⟨[.type "tuple", .ref z], []⟩) (wants Q₁ E) s := by
  refine codeAny_of_tree ?_
  show wpAny _ A.in1 (do checkBuiltinCall "tuple.__new__" ⟨[.type "tuple", .ref z], []⟩; again (.builtin "tuple.__new__" ⟨[.type "tuple", .ref z], []⟩)) _ _ s
  refine wpAny_bind (wpAny_of_eq (F.newCall_tuple_1 _) (wpAny_pure ⟨plainId_quiet F.plain_tuple_new _, codeAny_builtin F.entry_tuple_new ?_⟩))
  rw [Around.under_plainId F.plain_tuple_new _]
  have hsub := sub_tuple_self
  have hinit := init_tuple_lookup
  have hmh := madeHere_tuple
  have hTI' : s.TypeIs (.ref z) "zip" := ⟨_, hz, rfl⟩
  have hh1 : A.in1.handled = none := hh
  wp_walk using wpAny_typeOf hTI', collect_zip (A := A.in1) hh1 D rx ry hl hn I hf hlt hz hTO hTI h1 h2 hl1 hl2
  intro s' H' ts I2 lay
  show wpAny _ _ (Builtin.Tuple.tupleExact (ts.map Value.ref).toArray >>= fun v => ret v) _ _ _
  unfold Builtin.Tuple.tupleExact
  refine wpAny_bind (wpAny_newObj_type ?_ (by show (ts.map Value.ref).toArray.size ≤ sizeLine; rw [List.size_toArray, List.length_map, lay.len]; exact hn))
  exact wpAny_pure (h s' H' ts I2 lay)
theorem call_tuple_zip {A : Around} {E : Value → Shared → Prop} {s : Shared} {H : Hp} {Q : Value → Shared → Prop} (hh : A.handled = none) (D : ZipApart z TI TO i1 i2 l1 l2) (rx : Vals us xs.toList) (ry : Vals ws ys.toList) (hl : us.length = ws.length) (hn : us.length ≤ sizeLine)
    (I : Inv X pins σ H s) (hf : ∀ b ∈ [z, TI, TO, i1, i2], FpOk X pins H b ∧ b < s.heap.objs.size) (hlt : l1 < s.heap.objs.size ∧ l2 < s.heap.objs.size)
    (hz : IsZip s.heap z TI TO .none) (hTO : ∃ a b, IsPair s.heap TO a b) (hTI : IsPair s.heap TI (.ref i1) (.ref i2)) (h1 : s.heap.IsListIter i1 l1 0) (h2 : s.heap.IsListIter i2 l2 0) (hl1 : s.heap.IsList l1 xs) (hl2 : s.heap.IsList l2 ys)
    (h : ∀ s' H' ts, Inv X pins σ H' s' → LayZ H us ws ts H' → Q (.ref s'.heap.objs.size) { s' with heap := s'.heap.push { cls := .type "tuple", data := .seq (ts.map Value.ref).toArray } }) :
    wpAny (model X.prog X.w) A (call (.type "tuple") [.ref z]) Q E s := by
  refine callType_codes (Q₁ := fun obj s₁ => s₁.TypeIs obj "tuple" ∧ Q obj s₁) F.called_tuple (F.typeCall_tuple_1 _) F.entry_object_init
    (code_tuple_new_zip (A := A.in1) hh D rx ry hl hn I hf hlt hz hTO hTI h1 h2 hl1 hl2 fun s' H' ts I2 lay => ⟨⟨_, Heap.get?_push_size _ rfl, rfl⟩, h s' H' ts I2 lay⟩) fun obj s₁ h₁ => ?_
  exact ⟨h₁.1, F.args_object_init_2 obj _, object_init_meets F.called_tuple.init.lookup F.called_tuple.made (by decide) X.prog X.w A.in1 _ s₁ ⟨h₁.1, rfl, h₁.2⟩⟩
end
def tTupZip (K : PySem.W.Frag) (ta : TA) : TE := fun σ H Q => ta σ H fun vs H1 => ∃ a b us ws, vs = [.ref a, .ref b] ∧ SqL K H1 a us ∧ SqL K H1 b ws ∧ us.length = ws.length ∧ ∀ ts H2, LayZ H1 us ws ts H2 → ∀ p, H2 p = none → Q (.ref p) (upd H2 p (.tup (ts.map V.ref)))
theorem vals_refsZ : ∀ ts : List Addr, Vals (ts.map V.ref) (ts.map Value.ref)
  | [] => .nil
  | _ :: r => .cons rfl (vals_refsZ r)
theorem pe_tupZip {X : Cx} {e e2 : Expr} {ta : TA} {p p2 q pos : Pos} (hc : X.calm = true) (hg : Gl X "tuple") (hm : X.mg "tuple" = none) (hg2 : Gl X "zip") (hm2 : X.mg "zip" = none) (ha : PA X [e, e2] ta)
    (na : starEach [Expr.Call (.Name "zip" p2) [e, e2] [] q] X.env = (false, eval (Expr.Call (.Name "zip" p2) [e, e2] [] q) X.env) :: starEach [] X.env := by rfl)
    (hs : starEach [e, e2] X.env = (false, eval e X.env) :: starEach [e2] X.env := by rfl) (hpl : (backTo q (starEach [e2] X.env)).any (·.1) = false := by rfl) :
    PE X (.Call (.Name "tuple" p) [.Call (.Name "zip" p2) [e, e2] [] q] [] pos) (tTupZip X.K ta) := by
  refine ⟨fun pins s σ H Q I h => ?_⟩
  refine Call_ (ld_blt I hg hm boot_tuple (PyProof.Rows.callWith_type1 (PyProof.Rows.args_cons (Call_ (ld_blt I hg2 hm2 PyProof.Rows.boot_zip (PyProof.Rows.callWith_type1 (thn (ha.run q pins s σ H _ I h) fun us0 s1 ⟨vs, H1, I1, r1, q1⟩ => ?_) hs hpl))) na) na rfl))
  obtain ⟨a, b, us, ws, ex, hx, hy, hl, q1⟩ := q1
  subst ex
  cases r1 with
  | cons r rr =>
    cases rr with
    | cons r' rr =>
      cases rr
      cases r
      cases r'
      obtain ⟨its, rv, p1, hz1⟩ := I1.list hx
      obtain ⟨its2, rv2, p2', _⟩ := I1.list hy
      have hle : ∀ c, s1.heap.objs.size ≤ c → FpOk X pins H1 c := fun c h => I1.fpOk h (I1.hok.fresh h)
      refine call_zip_2 p1.isList p2'.isList fun h' hz hTI hTO h1 h2 hsz hk => PyProof.Rows.args_nil ?_
      have I2 : Inv X pins σ H1 { s1 with heap := h' } := I1.kept (t' := s1.toks) hk
      refine call_tuple_zip (X := X) (pins := pins) (σ := σ) (us := us) (ws := ws) (xs := its.toArray) (ys := its2.toArray) (I1.ok.hd hc) (PySem.W.ktu_apart s1.heap.objs.size a b p1.lt p2'.lt) (by simpa using rv) (by simpa using rv2) hl hz1 I2 (fun c hcm => ?_)
        ⟨Nat.lt_of_lt_of_le p1.lt (by show s1.heap.objs.size ≤ h'.objs.size; rw [hsz]; exact Nat.le_add_right _ _), Nat.lt_of_lt_of_le p2'.lt (by show s1.heap.objs.size ≤ h'.objs.size; rw [hsz]; exact Nat.le_add_right _ _)⟩ hz ⟨_, _, hTO⟩ hTI h1 h2 (p1.isList.at fun o e => hk _ o e) (p2'.isList.at fun o e => hk _ o e) fun s' H' ts I3 lay => ?_
      · have e' : c = s1.heap.objs.size + 4 ∨ c = s1.heap.objs.size + 2 ∨ c = s1.heap.objs.size + 3 ∨ c = s1.heap.objs.size ∨ c = s1.heap.objs.size + 1 := by simpa using hcm
        show FpOk X pins H1 c ∧ c < h'.objs.size
        rw [hsz]
        have hle' : ∀ k, FpOk X pins H1 (s1.heap.objs.size + k) := fun k => hle _ (Nat.le_add_right _ _)
        rcases e' with e | e | e | e | e <;> rw [e]
        · exact ⟨hle' 4, Nat.add_lt_add_left (by decide) _⟩
        · exact ⟨hle' 2, Nat.add_lt_add_left (by decide) _⟩
        · exact ⟨hle' 3, Nat.add_lt_add_left (by decide) _⟩
        · exact ⟨hle' 0, Nat.lt_add_of_pos_right (by decide)⟩
        · exact ⟨hle' 1, Nat.add_lt_add_left (by decide) _⟩
      · refine ⟨.ref s'.heap.objs.size, upd H' s'.heap.objs.size (.tup (ts.map V.ref)), I3.laid (t' := s'.toks) (fun c o e => Heap.get?_push_of_some _ e) (Nat.le_refl _) (show ObjOk X.prog X.w _ _ _ (.tup (ts.map V.ref)) from ⟨?_, _, vals_refsZ ts, IsTup.new _ _⟩), rfl, q1 ts H' lay _ (I3.hok.fresh (Nat.le_refl _))⟩
        rw [List.length_map, lay.len]
        exact hz1
/-- as data -/
theorem lay_grow {K : PySem.W.Frag} : ∀ {H H' : Hp} {us ws : List V} {ts : List Addr} {ds es : List PyData} {F : Hp}, LayZ H us ws ts H' → Same F H → DpAll K F us ds → DpAll K F ws es → ∃ F', Grow F H F' H' ∧ DpAll K F' (ts.map V.ref) (pairs ds es)
  | _, _, _, _, _, _, _, F, .nil, s, .nil, .nil => ⟨F, .start s, .nil⟩
  | H, H', _, _, _, _, _, F, .cons hT lay, s, .cons a b, .cons c d => by
    obtain ⟨F1, g1, r1⟩ := grow_pair s hT a c
    obtain ⟨F2, g2, r2⟩ := lay_grow lay g1.i (b.up g1.f) (d.up g1.f)
    exact ⟨F2, g1.trans g2, .cons (r1.up g2.f) r2⟩
theorem ev_tupZip {K : PySem.W.Frag} {σ : L2.St} {F : Hp} {ta : TA} {ds es : List PyData} (h : EvS K ta σ F [.list ds, .list es]) (hl : ds.length = es.length) : EvD K (tTupZip K ta) σ F (.tuple (pairs ds es)) := fun H s Q q => h H s _ fun vs F1 H1 g1 r1 => by
  cases r1 with
  | cons a b =>
    cases b with
    | cons b c =>
      cases c
      cases a with
      | lst a1 a2 =>
        cases b with
        | lst b1 b2 =>
          refine ⟨_, _, _, _, rfl, g1.i.seq a1, g1.i.seq b1, by rw [a2.len, b2.len]; exact hl, fun ts H2 lay p hp => ?_⟩
          obtain ⟨F2, g2, r2⟩ := lay_grow lay g1.i a2 b2
          exact q _ _ _ (g1.trans (g2.trans (.known g2.i hp))) (.tup (.inl (.inl upd_same)) (r2.up (same_upd (g2.i.free hp))))
end Sw
set_option Elab.async false
set_option linter.all false
set_option maxRecDepth 100000
set_option maxHeartbeats 1000000
/-! W13: isinstance of a kept error. -/
namespace Sw
open PySem PySem.Spec PyProof.Rows L2
def rIsT (D : Addr) : List V → Hp → VK → Prop := fun xs H Q => ∃ a, xs = [.ref a, .ref D] ∧ H a = some (ExT (.ref D) none a) ∧ Q (.bl true) H
theorem call_isT {X : Cx} {D : Addr} (C : ExcC X.K D) : CallR X (.builtin "isinstance") (rIsT D) := by
  intro pins s σ H xs us Q I r h
  obtain ⟨a, rfl, eA, q⟩ := h
  cases r with
  | cons rx rr =>
    cases rr with
    | cons rt rr =>
      cases rr
      cases rx
      cases rt
      obtain ⟨⟨oe, vs, hget, hz, hv⟩, _⟩ := I.hok a _ eA
      have J : PySem.W.InstAt s.heap a oe D none := by
        obtain ⟨oc, od, oda, osl⟩ := oe
        obtain ⟨h1, h2⟩ := hz
        dsimp only at h1 h2 hv
        subst h1 h2 hv
        exact ⟨hget, rfl, rfl, trivial⟩
      have e : PySem.W.kitOne X.K (.ref D) (.ref D) = some true := if_pos (beq_self_eq_true _)
      exact PySem.W.kia_one (PySem.W.handS_kitx_exc C.hg C.hk C.hs C.hd C.ha C.hn C.ht C.hm) I.kIn J e (fun z => nomatch z) fun tk => ⟨.bl true, H, I.kept (t' := tk) fun _ _ z => z, rfl, q⟩
end Sw
set_option Elab.async false
set_option linter.all false
set_option maxRecDepth 100000
set_option maxHeartbeats 2000000
set_option exponentiation.threshold 3000
namespace Sw
open PySem PySem.Spec PyProof.Rows L2 LamX
open C8 (Cal pe_c pe_gc)
/-! ### what stays while lambdas are made -/
theorem DrawAt.ext {H H' : Hp} {a l c : Addr} {n : Nat} (D : DrawAt H a l c n) (e : ExtN H H') : DrawAt H' a l c n := by
  obtain ⟨ws, cs, r, t, D, e1, e2⟩ := D
  exact ⟨ws, cs, r, t, ⟨e _ _ D.d (fun ps z => by cases z), e _ _ D.w (fun ps z => by cases z), e _ _ D.cl (fun ps z => by cases z), D.al, D.ac, D.lc⟩, e1, e2⟩
theorem DrawAt.more {H : Hp} {a l c : Addr} {n m : Nat} (D : DrawAt H a l c n) (h : n ≤ m) : DrawAt H a l c m := by
  obtain ⟨ws, cs, r, t, D, e1, e2⟩ := D
  exact ⟨ws, cs, r, t, D, e1, by omega⟩
theorem tabs_same {T : List (Addr × Str)} {H H' : Hp} (t : Tabs T H) (s : Same H H') : Tabs T H' := t.ext fun b o e => s b o e
theorem tabs_keeps {T : List (Addr × Str)} {H H' : Hp} {a l c : Addr} {n : Nat} (t : Tabs T H) (D : DrawAt H a l c n) (k : Keeps a l H H') : Tabs T H' := fun p hp => by
  obtain ⟨ps, h1, h2, h3⟩ := t p hp
  obtain ⟨ws, cs, r, tt, D, _, _⟩ := D
  have nt : ∀ (b : Addr) (o : HO), H b = some o → (∀ ks, o ≠ .dK ks) → (∀ xs, o ≠ .lst xs) → b ≠ a ∧ b ≠ l := fun b o e n1 n2 => by
    refine ⟨fun z => ?_, fun z => ?_⟩
    · rw [z, D.d] at e
      cases e
      exact n1 _ rfl
    · rw [z, D.w] at e
      cases e
      exact n2 _ rfl
  have n1 := nt _ _ h1 (fun ks z => by cases z) (fun xs z => by cases z)
  refine ⟨ps, k _ _ n1.1 n1.2 h1, h2, fun pos cv hc => ?_⟩
  obtain ⟨c', e1, e2⟩ := h3 pos cv hc
  have n2 := nt _ _ e2 (fun ks z => by unfold CodeO at z; cases z) (fun xs z => by unfold CodeO at z; cases z)
  exact ⟨c', e1, k _ _ n2.1 n2.2 e2⟩
/-- what is known, without tables -/
def noT (F : Hp) : Hp := fun b => match F b with
  | some (.tbl _) => none
  | o => o
theorem noT_of {F : Hp} {b : Addr} {o : HO} (h : F b = some o) (n : ∀ ps, o ≠ .tbl ps) : noT F b = some o := by
  show (match F b with | some (.tbl _) => none | o => o) = some o
  rw [h]
  cases o <;> first | rfl | exact absurd rfl (n _)
theorem noT_is {F : Hp} {b : Addr} {o : HO} (h : noT F b = some o) : F b = some o ∧ ∀ ps, o ≠ .tbl ps := by
  have h' : (match F b with | some (.tbl _) => none | o => o) = some o := h
  cases e : F b with
  | none => rw [e] at h'; cases h'
  | some u =>
    rw [e] at h'
    cases u <;> first | (cases h'; done) | (cases h'; exact ⟨rfl, fun ps z => by cases z⟩)
theorem noT_ext {F H H' : Hp} (s : Same F H) (e : ExtN H H') : Same (noT F) H' := fun b o h => by
  obtain ⟨h1, h2⟩ := noT_is h
  exact e b o (s b o h1) h2
theorem noT_same {F H : Hp} (s : Same F H) : Same (noT F) H := fun b o h => s b o (noT_is h).1
theorem noT_none {F : Hp} {b : Addr} (h : F b = none) : noT F b = none := by
  show (match F b with | some (.tbl _) => none | o => o) = none
  rw [h]
section
variable {K : PySem.W.Frag} {F : Hp}
mutual
theorem dp_noT : ∀ (d : PyData) (v : V), Dp K F v d → Dp K (noT F) v d
  | .none, _, h => by cases h; exact .non
  | .bool b, _, h => by cases h; exact .bl b
  | .int i, _, h => by cases h; exact .int i
  | .str x, _, h => by cases h; exact .str x
  | .list ds, _, h => by
    cases h with
    | lst a b =>
      refine .lst ?_ (dps_noT ds _ b)
      rcases a with (a | ⟨o, a⟩) | a
      · exact .inl (.inl (noT_of a fun ps z => by cases z))
      · exact .inl (.inr ⟨o, noT_of a fun ps z => by cases z⟩)
      · exact .inr a
  | .tuple ds, _, h => by
    cases h with
    | tup a b =>
      refine .tup ?_ (dps_noT ds _ b)
      rcases a with (a | ⟨o, a⟩) | a
      · exact .inl (.inl (noT_of a fun ps z => by cases z))
      · exact .inl (.inr ⟨o, noT_of a fun ps z => by cases z⟩)
      · exact .inr a
  | .dict _, _, h => by cases h
theorem dps_noT : ∀ (ds : List PyData) (vs : List V), DpAll K F vs ds → DpAll K (noT F) vs ds
  | [], _, h => by cases h; exact .nil
  | d :: ds, _, h => by
    cases h with
    | cons a b => exact .cons (dp_noT d _ a) (dps_noT ds _ b)
end
end
/-! ### more operations -/
theorem rv_neS {K : PySem.W.Frag} {x y : Str} : RvD K rNe (.str x) (.str y) (.bool (!decide (x = y))) := fun F u v H s a b Q q => by
  cases a
  cases b
  refine ⟨rfl, ?_⟩
  rw [show decide (V.str x = V.str y) = decide (x = y) from decide_eq_decide.mpr ⟨fun h => V.str.inj h, fun h => congrArg _ h⟩]
  exact q _ F H (.start s) (.bl _)
abbrev rMin2 : List V → Hp → VK → Prop := fun xs H Q => ∃ i j, xs = [.int i, .int j] ∧ Q (.int (if j < i then j else i)) H
theorem rc_min2 {K : PySem.W.Frag} {i j : Int} : RcD K rMin2 [.int i, .int j] (.int (if j < i then j else i)) := fun F xs H s r Q q => by
  cases r with
  | cons a b =>
    cases b with
    | cons b c =>
      cases c
      cases a
      cases b
      exact ⟨i, j, rfl, q _ F H (.start s) (.int _)⟩
/-- f(k = v, ..) that comes back -/
theorem ev_callKX {K : PySem.W.Frag} {σ : L2.St} {F : Hp} {d d1 d2 : PyData} {t1 t2 : TE} {g : List PyData → Option (Except Addr PyData)} {gV : List V → List V → List V} {E : XK} (hg : ∀ x y, gV [] [x, y] = [y, x]) (h1 : EvD K t1 σ F d1) (h2 : EvD K t2 σ F d2) (e : g [d2, d1] = some (.ok d)) :
    EvD K (tCallK (spX K g) gV E tNil (tCons t1 (tCons t2 tNil))) σ F d := fun H s Q q =>
  h1 H s _ fun x F1 H1 g1 r1 => h2.up g1.f H1 g1.i _ fun y F2 H2 g2 r2 => by
    show spX K g (gV [] [x, y]) H2 Q E
    rw [hg]
    refine ⟨F2, [d2, d1], _, g2.i, .cons r2 (.cons (r1.up g2.f) .nil), e, fun d' hd v F3 H3 g3 r3 => ?_, fun C hC => nomatch hC⟩
    cases hd
    exact q v F3 H3 ((g1.trans g2).trans g3) r3
/-- number_in(all, b) -/
theorem ev_num {K : PySem.W.Frag} {CN : Addr} {σ : L2.St} {F : Hp} {xs : List PyData} {b : PyData} {ta tb : TE} {E : XK} (h1 : EvD K ta σ F (allD xs)) (h2 : EvD K tb σ F b) (hk : isKinds (.tuple xs) = true) (hb : isBetween b 1 60 = true) : EvD K (tCall (spNum K CN) [] E (tCons ta (tCons tb tNil))) σ F (countD (.tuple xs) b) := fun H s Q q =>
  h1 H s _ fun x F1 H1 g1 r1 => h2.up g1.f H1 g1.i _ fun y F2 H2 g2 r2 =>
    ⟨F2, x, y, xs, b, g2.i, rfl, r1.up g2.f, r2, hk, fun _ v F3 H3 g3 r3 => q v F3 H3 ((g1.trans g2).trans g3) r3, fun z => by rw [hb] at z; cases z⟩
theorem num_raises {K : PySem.W.Frag} {CN : Addr} {σ : L2.St} {F H : Hp} {xs : List PyData} {b : PyData} {ta tb : TE} {E : XK} {Q : VK} (h1 : EvD K ta σ F (allD xs)) (h2 : EvD K tb σ F b) (s : Same F H) (hk : isKinds (.tuple xs) = true) (hb : isBetween b 1 60 = false) (k : ∀ H', Same H H' → E (.ref CN) none H') :
    tCall (spNum K CN) [] E (tCons ta (tCons tb tNil)) σ H Q :=
  h1 H s _ fun x F1 H1 g1 r1 => h2.up g1.f H1 g1.i _ fun y F2 H2 g2 r2 =>
    ⟨F2, x, y, xs, b, g2.i, rfl, r1.up g2.f, r2, hk, (fun z => by rw [hb] at z; cases z), fun _ H' s' => k H' (g1.h.trans (g2.h.trans s'))⟩
/-- a kept error is asked for -/
theorem caught_is {K : PySem.W.Frag} {CS CN : Addr} {T : List (Addr × Str)} {t : XK → TE} {σ : L2.St} {H F : Hp} {D : Ends} {tw : TS} {a l c : Addr} {n : Nat} (hsub : PySem.W.exmOne K (.ref CN) (.ref CS) = some true) (hT : Tabs T H) (s : Same F H) (Dr : DrawAt H a l c n)
    (ht : ∀ (E : XK) (H1 : Hp) (Q : VK), Same (noT F) H1 → (∀ H', Same H1 H' → E (.ref CN) none H') → t E σ H1 Q)
    (k : ∀ H', Same (noT F) H' → Tabs T H' → DrawAt H' a l c n → tw D σ H') :
    tSeq (tIfS (tNot (tB (tCB (rIsT CN) (tCons (tLam T (TTc K CS) t) (tCons (tC (.ref CN)) tNil))))) (tRet (tC (.bl false))) tNext) tw D σ H := by
  refine ⟨hT, fun H1 eN T1 => ?_⟩
  have s1 := noT_ext s eN
  refine ht _ H1 _ s1 fun H2 s2 => ⟨hsub, fun x hx => ⟨x, rfl, upd_same, true, rfl, ?_⟩⟩
  have s3 : Same H1 (upd H2 x (ExT (.ref CN) none x)) := s2.trans (same_upd hx)
  exact k _ (s1.trans s3) (tabs_same T1 s3) ((Dr.ext eN).same s3)
theorem caught_is1 {K : PySem.W.Frag} {CS CN : Addr} {T : List (Addr × Str)} {t : XK → TE} {σ : L2.St} {H F : Hp} {D : Ends} {a l c : Addr} {n : Nat} (hsub : PySem.W.exmOne K (.ref CN) (.ref CS) = some true) (hT : Tabs T H) (s : Same F H) (Dr : DrawAt H a l c n)
    (ht : ∀ (E : XK) (H1 : Hp) (Q : VK), Same (noT F) H1 → (∀ H', Same H1 H' → E (.ref CN) none H') → t E σ H1 Q)
    (k : ∀ H', Same (noT F) H' → Tabs T H' → DrawAt H' a l c n → D.nx σ H') :
    tIfS (tNot (tB (tCB (rIsT CN) (tCons (tLam T (TTc K CS) t) (tCons (tC (.ref CN)) tNil))))) (tRet (tC (.bl false))) tNext D σ H := by
  refine ⟨hT, fun H1 eN T1 => ?_⟩
  have s1 := noT_ext s eN
  refine ht _ H1 _ s1 fun H2 s2 => ⟨hsub, fun x hx => ⟨x, rfl, upd_same, true, rfl, ?_⟩⟩
  have s3 : Same H1 (upd H2 x (ExT (.ref CN) none x)) := s2.trans (same_upd hx)
  exact k _ (s1.trans s3) (tabs_same T1 s3) ((Dr.ext eN).same s3)
theorem fits_kinds {xs : List PyData} (h : isKinds (.tuple xs) = true) : fitsK (.tuple xs) = true := by
  have h' : ((decide (1 ≤ (xs.length : Int)) && decide ((xs.length : Int) ≤ 6)) && (xs.all isKind && (risesD (xs.map fstD) && (xs.map sndD).any isZero))) = true := h
  rw [Bool.and_eq_true, Bool.and_eq_true, Bool.and_eq_true] at h'
  obtain ⟨_, hall, _⟩ := h'
  show xs.all fitsP = true
  refine List.all_eq_true.mpr fun d hd => ?_
  obtain ⟨n, r, rfl, hn, _⟩ := kind_cases (List.all_eq_true.mp hall d hd)
  have hn' : ((decide (1 ≤ (n.length : Int)) && decide ((n.length : Int) ≤ 8)) && (n.cps.toList.all (fun c => decide (c ∈ lettersS.cps.toList)) && !decide (n ∈ keptL))) = true := hn
  rw [Bool.and_eq_true, Bool.and_eq_true, decide_eq_true_iff, decide_eq_true_iff] at hn'
  have := small1000 (n := n.length) (by omega)
  show decide (n.length ≤ sizeLine) = true
  exact decide_eq_true (Nat.le_of_lt this)
/-- numbers below 2 ^ 1920 -/
theorem cnt_log {rs : List Nat} (h6 : rs.length ≤ 6) (h3 : ∀ r ∈ rs, r ≤ 3) (n : Nat) (hn : n ≤ 50 ∨ (n ≤ 200 ∧ 3 ∉ rs)) : (cnt rs n).log2 < 1920 := by
  have key : cnt rs n < 2 ^ 1920 := by
    rcases hn with hn | ⟨hn, no3⟩
    · have b := cnt_bound (rs := rs) (B := 512) (N := 50) h6 (by decide) (fun r hr => ⟨h3 r hr, fun _ => by decide, fun _ => by decide⟩) n hn n (Nat.le_refl _)
      have e : 512 ^ n ≤ 512 ^ 50 := Nat.pow_le_pow_right (by decide) hn
      have e2 : (512 : Nat) ^ 50 = 2 ^ 450 := by decide +kernel
      have e3 : (2 : Nat) ^ 450 < 2 ^ 1920 := Nat.pow_lt_pow_right (by decide) (by decide)
      omega
    · have b := cnt_bound (rs := rs) (B := 128) (N := 200) h6 (by decide) (fun r hr => ⟨h3 r hr, fun _ => by decide, fun e => absurd (e ▸ hr) no3⟩) n hn n (Nat.le_refl _)
      have e : 128 ^ n ≤ 128 ^ 200 := Nat.pow_le_pow_right (by decide) hn
      have e2 : (128 : Nat) ^ 200 = 2 ^ 1400 := by decide +kernel
      have e3 : (2 : Nat) ^ 1400 < 2 ^ 1920 := Nat.pow_lt_pow_right (by decide) (by decide)
      omega
  by_cases h0 : cnt rs n = 0
  · rw [h0]
    decide
  · exact (Nat.log2_lt h0).mpr key
def outs (rs : List Nat) (sz : List Int) : List Int := sz.map fun n => ((cnt rs n.toNat : Nat) : Int)
theorem outs_log {rs : List Nat} (h6 : rs.length ≤ 6) (h3 : ∀ r ∈ rs, r ≤ 3) {sz : List Int} {mo : Int} (hm : mo = 50 ∨ (mo = 200 ∧ 3 ∉ rs)) (hs : ∀ n ∈ sz, n ≤ mo) : ∀ n ∈ outs rs sz, n.natAbs.log2 < 1920 := fun n hn => by
  obtain ⟨k, hk, rfl⟩ := List.mem_map.mp hn
  rw [Int.natAbs_natCast]
  have := hs k hk
  rcases hm with e | ⟨e, e3⟩
  · exact cnt_log h6 h3 _ (.inl (by omega))
  · exact cnt_log h6 h3 _ (.inr ⟨by omega, e3⟩)
section
variable {K : PySem.W.Frag} {F : Hp} {y0 y1 y2 y3 y4 y6 y9 y10 y11 : Option V} {v5 v7 v8 : V} {xs : List PyData} {rs : List Nat} {sz : List Int} {N : Nat}
abbrev lawSt (y0 y1 y2 y3 y4 : Option V) (v5 : V) (y6 : Option V) (v7 v8 : V) (y9 y10 y11 : Option V) : L2.St := [y0, y1, y2, y3, y4, some v5, y6, some v7, some v8, y9, y10, y11]
theorem made_outs {f : PyData → PyData} {sz : List Int} {rs : List Nat} (h : ∀ n ∈ sz, f (.int n) = .int ((cnt rs n.toNat : Nat) : Int)) : made (fun _ => true) f (sz.map .int) = (outs rs sz).map .int := by
  rw [made_map]
  unfold outs
  rw [List.map_map, List.map_map]
  exact List.map_congr_left fun n hn => h n hn
theorem lc_dues (h7 : Dp K F v7 (.list (ld (cnt rs) N))) (h8 : Dp K F v8 (.list (sz.map .int))) (hb : ∀ n ∈ sz, 0 ≤ n ∧ n.toNat < N) (hl : sz.length ≤ 100) :
    EvD K (tLc (iList K (tVar 8)) (gName 11) tYes (tOp (rIxL K) (tVar 7) (tVar 11)) [11]) (lawSt y0 y1 y2 y3 y4 v5 y6 v7 v8 y9 y10 y11) F (.list ((outs rs sz).map .int)) := by
  refine (ev_lc (K := K) (te := tOp (rIxL K) (tVar 7) (tVar 11)) (tt := tYes) (g := gName 11) (vs := [11]) (fun _ => true) (fun d => .int ((cnt rs (intD d).toNat : Nat) : Int)) (ew_list (ev_var (i := 8) ⟨v8, rfl, h8⟩)) (by rw [List.length_map]; exact small1000 (by omega)) fun d F' hd sF => ?_).is (congrArg PyData.list (made_outs fun n _ => rfl))
  obtain ⟨n, hn, rfl⟩ := List.mem_map.mp hd
  refine tk_name.imp fun σ2 hσ => ?_
  obtain ⟨v, rfl, rv⟩ := hσ
  cases rv
  refine ⟨rfl, eb_yes, fun _ => ?_⟩
  obtain ⟨b0, b1⟩ := hb n hn
  exact ev_op (ev_var (i := 7) ⟨v7, rfl, h7.up sF⟩) ((ev_var (i := 11) ⟨_, rfl, .int n⟩).is (d1 := .int ((n.toNat : Nat) : Int)) (congrArg PyData.int (by omega))) (rv_ixL (ld_get b1))
theorem lc_count {CK CN : Addr} {gV : List V → List V → List V} {E : XK} (hg : ∀ x y, gV [] [x, y] = [y, x]) (h5 : Dp K F v5 (.tuple xs)) (h8 : Dp K F v8 (.list (sz.map .int))) (hk : isKinds (.tuple xs) = true) (hb : ∀ n ∈ sz, 1 ≤ n ∧ n ≤ 200) (hl : sz.length ≤ 100) :
    EvD K (tLc (iList K (tVar 8)) (gName 11) tYes (tCallK (p_count K CK CN) gV E tNil (tCons (tVar 11) (tCons (tVar 5) tNil))) [11]) (lawSt y0 y1 y2 y3 y4 v5 y6 v7 v8 y9 y10 y11) F (.list ((outs (xs.map rankN) sz).map .int)) := by
  refine (ev_lc (K := K) (te := tCallK (p_count K CK CN) gV E tNil (tCons (tVar 11) (tCons (tVar 5) tNil))) (tt := tYes) (g := gName 11) (vs := [11]) (fun _ => true) (fun d => .int ((cnt (xs.map rankN) (intD d).toNat : Nat) : Int)) (ew_list (ev_var (i := 8) ⟨v8, rfl, h8⟩)) (by rw [List.length_map]; exact small1000 (by omega)) fun d F' hd sF => ?_).is (congrArg PyData.list (made_outs fun n _ => rfl))
  obtain ⟨n, hn, rfl⟩ := List.mem_map.mp hd
  refine tk_name.imp fun σ2 hσ => ?_
  obtain ⟨v, rfl, rv⟩ := hσ
  cases rv
  refine ⟨rfl, eb_yes, fun _ => ?_⟩
  obtain ⟨b0, b1⟩ := hb n hn
  refine ev_callKX hg (ev_var (i := 11) ⟨_, rfl, .int n⟩) (ev_var (i := 5) ⟨v5, rfl, h5.up sF⟩) ?_
  show (if fitsK (.tuple xs) then some (if isKinds (.tuple xs) then (if isBetween (.int n) 1 200 then Except.ok (countD (.tuple xs) (.int n)) else .error CN) else .error CK) else none) = _
  have hbt : isBetween (.int n) 1 200 = true := by
    show (decide (1 ≤ n) && decide (n ≤ 200)) = true
    rw [decide_eq_true b0, decide_eq_true b1]
    rfl
  rw [if_pos (fits_kinds hk), if_pos hk, if_pos hbt]
  rfl
theorem lc_num {CN : Addr} {E : XK} (h5 : Dp K F v5 (.tuple xs)) (h8 : Dp K F v8 (.list (sz.map .int))) (hk : isKinds (.tuple xs) = true) (hb : ∀ n ∈ sz, 1 ≤ n ∧ n ≤ 60) (hl : sz.length ≤ 100) :
    EvD K (tLc (iList K (tVar 8)) (gName 11) tYes (tCall (spNum K CN) [] E (tCons (tCall (p__law_all_of K) [] C8.E0 (tCons (tVar 5) tNil)) (tCons (tVar 11) tNil))) [11]) (lawSt y0 y1 y2 y3 y4 v5 y6 v7 v8 y9 y10 y11) F (.list ((outs (xs.map rankN) sz).map .int)) := by
  refine (ev_lc (K := K) (te := tCall (spNum K CN) [] E (tCons (tCall (p__law_all_of K) [] C8.E0 (tCons (tVar 5) tNil)) (tCons (tVar 11) tNil))) (tt := tYes) (g := gName 11) (vs := [11]) (fun _ => true) (fun d => .int ((cnt (xs.map rankN) (intD d).toNat : Nat) : Int)) (ew_list (ev_var (i := 8) ⟨v8, rfl, h8⟩)) (by rw [List.length_map]; exact small1000 (by omega)) fun d F' hd sF => ?_).is (congrArg PyData.list (made_outs fun n _ => rfl))
  obtain ⟨n, hn, rfl⟩ := List.mem_map.mp hd
  refine tk_name.imp fun σ2 hσ => ?_
  obtain ⟨v, rfl, rv⟩ := hσ
  cases rv
  refine ⟨rfl, eb_yes, fun _ => ?_⟩
  obtain ⟨b0, b1⟩ := hb n hn
  refine ev_num (ev_call (K := K) (f := f1 g_law_all_of) (E := C8.E0) (ea_cons (ev_var (i := 5) ⟨v5, rfl, h5.up sF⟩) ea_nil) ?_) (ev_var (i := 11) ⟨_, rfl, .int n⟩) hk ?_
  · have := (kinds_ranks hk).1
    show (if decide (xs.length ≤ 1000) then some (allD xs) else none) = _
    rw [if_pos (decide_eq_true (by omega))]
  · show (decide (1 ≤ n) && decide (n ≤ 60)) = true
    rw [decide_eq_true b0, decide_eq_true b1]
    rfl
theorem ev_allof (h5 : Dp K F v5 (.tuple xs)) (hk : isKinds (.tuple xs) = true) {σ : L2.St} (h : σ[5]? = some (some v5)) : EvD K (tCall (p__law_all_of K) [] C8.E0 (tCons (tVar 5) tNil)) σ F (allD xs) := by
  refine ev_call (K := K) (f := f1 g_law_all_of) (E := C8.E0) (ea_cons (ev_var (i := 5) ⟨v5, h, h5⟩) ea_nil) ?_
  have := (kinds_ranks hk).1
  show (if decide (xs.length ≤ 1000) then some (allD xs) else none) = _
  rw [if_pos (decide_eq_true (by omega))]
end
/-- the odd values -/
theorem scal_any {K : PySem.W.Frag} {F G : Hp} {d : PyData} {v : V} {i : Int} (hd : d ∈ [PyData.int 0, .int i, .int (-1), .none, .str "5", .bool true] ∨ d ∈ [PyData.int 0, .int i, .int 200, .none, .str "5", .bool true]) (h : Dp K F v d) : Dp K G v d := by
  rcases hd with hd | hd <;> simp only [List.mem_cons, List.not_mem_nil, or_false] at hd <;> rcases hd with e | e | e | e | e | e <;> subst e <;> cases h <;> constructor
theorem odd200 {d : PyData} (hd : d ∈ [PyData.int 0, .int 201, .int (-1), .none, .str "5", .bool true]) : isBetween d 1 200 = false := by
  simp only [List.mem_cons, List.not_mem_nil, or_false] at hd
  rcases hd with e | e | e | e | e | e <;> subst e <;> rfl
theorem odd60 {d : PyData} (hd : d ∈ [PyData.int 0, .int 61, .int 200, .none, .str "5", .bool true]) : isBetween d 1 60 = false := by
  simp only [List.mem_cons, List.not_mem_nil, or_false] at hd
  rcases hd with e | e | e | e | e | e <;> subst e <;> rfl
/-- two lists known -/
theorem same_two {H : Hp} {p q : Addr} {o u : HO} (hp : H p = some o) (hq : H q = some u) : Same (upd (upd (fun _ => none) p o) q u) H := fun b x e => by
  by_cases hb : b = q
  · rw [hb, upd_same] at e
    rw [hb, hq]
    exact e
  · rw [upd_ne hb] at e
    exact same_one hp b x e
/-- for i in range(n), read from the heap as it stands -/
theorem for_rng {K : PySem.W.Frag} {ta : TA} {g : TG} {tb : TS} {D : Ends} {σ : L2.St} {F H : Hp} {kk : Int} (h : EvS K ta σ F [.int kk]) (s : Same F H) (hb : 0 ≤ kk ∧ kk < 2 ^ 62) (I : Nat → L2.St → Hp → Prop) (h0 : ∀ H', Same H H' → I 0 σ H')
    (hs : ∀ (i : Nat) σ' H', i < kk.toNat → I i σ' H' → g (.int (0 + (i : Int))) σ' H' fun σ2 H2 => tb { D with nx := I (i + 1), ct := I (i + 1), bk := D.nx } σ2 H2) (hd : ∀ σ' H', I kk.toNat σ' H' → D.nx σ' H') : tFor (iRng1 ta) g tb D σ H := by
  refine h H s _ fun vs F2 H2 g2 r2 => ?_
  have ev : vs = [.int kk] := by
    cases r2 with
    | cons ra rb =>
      cases ra
      cases rb
      rfl
  subst ev
  refine ⟨kk, rfl, by omega, by omega, fun i m σ' H' => m = kk.toNat - i ∧ i ≤ kk.toNat ∧ I i σ' H', ⟨kk.toNat, by simp, Nat.zero_le _, h0 H2 g2.h⟩, fun i m σ' H' hW => ?_⟩
  obtain ⟨rfl, hi, hI⟩ := hW
  by_cases hlt : i < kk.toNat
  · refine .inr ⟨hlt, I (i + 1), fun σ3 H3 h3 => ⟨kk.toNat - (i + 1), by omega, rfl, hlt, h3⟩, fun v Hx hy => ?_⟩
    obtain ⟨rfl, rfl⟩ := hy
    exact hs i σ' _ hlt hI
  · have e : i = kk.toNat := by omega
    subst e
    exact .inl ⟨by show kk.toNat ≤ kk.toNat; omega, hd σ' H' hI⟩
theorem cons_one {te : TE} {σ : L2.St} {H : Hp} {Q : List V → Hp → Prop} (h : te σ H fun x H1 => Q [x] H1) : tCons te tNil σ H Q := h
theorem lst_int {K : PySem.W.Frag} {ta : TA} {σ : L2.St} {F H : Hp} {Q : VK} {ns : List Int} (h : EvS K ta σ F (ns.map .int)) (s : Same F H) (hl : ns.length ≤ sizeLine) (k : ∀ p H', Same H H' → H' p = none → Q (.ref p) (upd H' p (.lst (ns.map V.int)))) : tLst ta σ H Q := by
  refine h H s _ fun vs F1 H1 g1 r1 => ?_
  rw [dps_int r1]
  exact ⟨by rw [List.length_map]; exact hl, fun p hp => k p H1 g1.h hp⟩
theorem tabs_put {T : List (Addr × Str)} {H : Hp} {b : Addr} {xs : List V} {o : HO} (t : Tabs T H) (h : H b = some (.lst xs)) : Tabs T (upd H b o) := fun p hp => by
  obtain ⟨ps, h1, h2, h3⟩ := t p hp
  have n1 : p.1 ≠ b := fun z => by
    rw [z, h] at h1
    cases h1
  refine ⟨ps, by rw [upd_ne n1]; exact h1, h2, fun pos cv hc => ?_⟩
  obtain ⟨c', e1, e2⟩ := h3 pos cv hc
  have n2 : c' ≠ b := fun z => by
    rw [z, h] at e2
    unfold CodeO at e2
    cases e2
  exact ⟨c', e1, by rw [upd_ne n2]; exact e2⟩
theorem DrawAt.frees {F H F' H' : Hp} {a l c : Addr} {n : Nat} (D : DrawAt H a l c n) (g : Grow F H F' H') (ha : F a = none) (hl : F l = none) : F' a = none ∧ F' l = none := by
  obtain ⟨ws, cs, r, t, D, _, _⟩ := D
  exact ⟨free_grow g ha D.d, free_grow g hl D.w⟩
theorem ranks_eq : ∀ {ys : List Str} {rk : List Int}, ys.length = rk.length → (pairs (ys.map .str) (rk.map .int)).map rankN = rk.map Int.toNat
  | [], [], _ => rfl
  | y :: ys, r :: rk, h => congrArg (r.toNat :: ·) (ranks_eq (ys := ys) (rk := rk) (Nat.succ.inj h))
theorem three_in {rk : List Int} (h : ∀ r ∈ rk, 0 ≤ r ∧ r ≤ 3) (h3 : 3 ∈ rk.map Int.toNat) : (3 : Int) ∈ rk := by
  obtain ⟨r, hr, e⟩ := List.mem_map.mp h3
  have := h r hr
  have e2 : r = 3 := by omega
  rw [← e2]
  exact hr
end Sw
set_option Elab.async false
set_option linter.all false
set_option maxRecDepth 100000
set_option maxHeartbeats 2000000
set_option exponentiation.threshold 3000
namespace Sw
open PySem PySem.Spec PyProof.Rows L2 LamX
open C8 (Cal pe_c pe_gc)
/-! ### law -/
abbrev s_law : Stmt := top 43
theorem sc_law : FnScope ["script", "draw", "turn", "names", "ranks", "kinds", "most", "dues", "sizes", "odd", "name", "many"] ["script"] (defScope s_law) := ⟨rfl, rfl, rfl, by decide +kernel, rfl, by decide +kernel, by decide +kernel⟩
def qL : Str := (envOfC "law" (defScope s_law) 0 0 .none).qual ++ "<lambda>"
/-- count(many = a, kinds = b) -/
def kwG : List Value → List Value → List Value := fun us ws => match us, ws with
  | [], [a, b] => [b, a]
  | _, _ => []
def kwV : List V → List V → List V := fun us ws => match us, ws with
  | [], [a, b] => [b, a]
  | _, _ => []
theorem kb_count {K : PySem.W.Frag} {f : Addr} {fd : FuncData} (F : Fun K "count" "count" s_count f fd) : KBinds K fd ["kinds", "many"] ["many", "kinds"] kwG kwV := by
  obtain ⟨oc, od, kV, doc, pm, an, cdv, ct, osl, rfl, lk, hcd⟩ := F.ex
  refine ⟨fun s us ws _ hl => ?_, fun r1 r2 => ?_⟩
  · match us, ws, hl with
    | [], [a, b], _ => exact .of_eq rfl
  · match r1, r2 with
    | .nil, .nil => exact .nil
    | .nil, .cons _ .nil => exact .nil
    | .nil, .cons a (.cons b .nil) => exact .cons b (.cons a .nil)
    | .nil, .cons _ (.cons _ (.cons _ _)) => exact .nil
    | .cons _ _, .nil => exact .nil
    | .cons _ _, .cons _ _ => exact .nil
section
variable {P : Program} {w : World} {K : PySem.W.Frag} {mg : Str → Option Value} {base : Heap} {f fc g c0 P0 : Addr} {fd fdc : FuncData} {CK CN CS : Addr}
structure LawCs (P : Program) (w : World) (K : PySem.W.Frag) (mg : Str → Option Value) (base : Heap) (c0 P0 f fc g CK CN CS : Addr) (fd fdc fdg : FuncData) : Prop where
  B : BI mg
  F : Fun K "law" "law" s_law f fd
  hcode : fd.code = .ref c0
  TB : TabB base mg c0 P0
  Fg : Fun K "_law_caught" "_law_caught" s__law_caught g fdg
  mg' : mg "_law_caught" = some (.ref g)
  hCS : mg "WritingError" = some (.ref CS)
  sub : PySem.W.exmOne K (.ref CN) (.ref CS) = some true
  Fc : FnOk P w K mg base (L2.CX P w) 6 fc fdc ["kinds", "many"] (p_count K CK CN)
  mc : mg "count" = some (.ref fc)
  kc : PySem.W.keepIn K (.ref fc) = true
  kbc : KBinds K fdc ["kinds", "many"] ["many", "kinds"] kwG kwV
  X_BadNumber : Rse K mg "BadNumber" CN
  CN0 : ExcC K CN
  c_count : CalX P w K mg base 6 "count" ["kinds", "many"] (p_count K CK CN)
  c_number_in : CalX P w K mg base 7 "number_in" ["trees", "many"] (spNum K CN)
  c__law_all_of : Cal P w K mg base 1 "_law_all_of" (p__law_all_of K) []
  c__law_begun : Cal P w K mg base 1 "_law_begun" (spBegun K) []
  c__law_take : Cal P w K mg base 2 "_law_take" spTake []
  c__law_pick : Cal P w K mg base 3 "_law_pick" (spPick K) []
  c__law_names : Cal P w K mg base 4 "_law_names" spNames []
  c__law_counts : Cal P w K mg base 1 "_law_counts" (p__law_counts K) []
/-- the law's run, from its reading -/
theorem law_by {fdg : FuncData} (L : LawCs P w K mg base c0 P0 f fc g CK CN CS fd fdc fdg) (hroom : Room 10 callerA) {t : Shared} {H : Hp} {a : Addr} {ns : List Int} (hl : ns.length ≤ 63) (hs : SqL K H a (ns.map V.int)) (hP : H P0 = some (.tbl #[])) (e0 : Env0 P w K mg base callerA [] t H) :
    codeAny (model P w) callerA (.call (.ref f) ⟨[.ref a], []⟩) (CR CX0 [] P w H t (fun v _ => v = .bl true) (fun _ _ _ => False)) t := by
  obtain ⟨B, F, hcode, TB, Fg, mC, hCS, hsub, Fc, mc, kc, kbc, X_BadNumber, CN0, c_count, c_number_in, c__law_all_of, c__law_begun, c__law_take, c__law_pick, c__law_names, c__law_counts⟩ := L
  have kC := Fg.kp
  have bC : L2.Binds K fdg ["work"] [] := Fg.binds fun _ _ _ _ _ _ us hl => match us, hl with | [_], _ => rfl
  obtain ⟨ocg, odg, kVg, docg, pmg, ang, cdvg, ctg, oslg, rfl, lC, cC⟩ := Fg.ex
  have bL : L2.Binds K fd ["script"] [] := F.binds fun _ _ _ _ _ _ us hl => match us, hl with | [_], _ => rfl
  obtain ⟨oc, od, kV, doc, pm, an, cdv, ct, osl, rfl, lk, hcd⟩ := F.ex
  have hcode' : cdv = .ref c0 := hcode
  subst hcode'
  have kIn : K.In t.heap := e0.mod.kin.keeps fun b o e => (e0.bs b o e).1
  have hmT : (P0, qL) ∈ [(P0, qL)] := List.mem_singleton.mpr rfl
  have huT : ∀ p ∈ [(P0, qL)], p.1 = P0 → p.2 = qL := fun p hp _ => by rw [List.mem_singleton.mp hp]
  refine run_ofS (N := ["script", "draw", "turn", "names", "ranks", "kinds", "most", "dues", "sizes", "odd", "name", "many"]) (ps := ["script"]) (us := [.ref a]) (vs := [.ref a]) (k := 9) lk hcd sc_law hroom e0 (bL t [.ref a] kIn rfl) (.cons rfl .nil) rfl fun hr => ?_
  have main : ∃ tt, PSs (cxOf CX0 P w K mg base ["script", "draw", "turn", "names", "ranks", "kinds", "most", "dues", "sizes", "odd", "name", "many"] "law" (defScope s_law) f (.ref c0) callerA [] t H (fun _ _ _ => False)).nox (defBody s_law) tt ∧ tt { nx := fun _ H' => (V.non = .bl true), rt := fun v _ => v = .bl true } (L2.start ["script", "draw", "turn", "names", "ranks", "kinds", "most", "dues", "sizes", "odd", "name", "many"] [.ref a]) H := by
    refine ⟨_, (pss_cons (ps_set (i := 1) sc_law.nd rfl (Or.inr rfl) (pe_c c__law_begun hr (by first | decide | omega) (by rfl) (pa_cons (pv 0) pa_nil)))
        (pss_cons (ps_for PassesOwn.never rfl (pi_range1 (by rfl) B.range (pa_cons (pe_op (op_add) pe_int (pe_callB (call_min2 rfl) (by rfl) B.min (by decide +kernel) (pa_cons (pe_callB (r := rLen0 K) (call_len) (by rfl) B.len (by decide +kernel) (pa_cons (pv 0) pa_nil)) (pa_cons pe_int pa_nil)))) pa_nil)) (pg_name (i := 2) sc_law.nd rfl (Or.inr rfl) (hf := (Or.inl rfl))) (pss_cons (ps_set (i := 3) sc_law.nd rfl (Or.inl rfl) (pe_callB (cr_sortedS) (by rfl) B.sorted (by decide +kernel) (pa_cons (pe_c c__law_names hr (by first | decide | omega) (by rfl) (pa_cons (pv 1) (pa_cons (pe_op (op_add) pe_int (pe_c c__law_take hr (by first | decide | omega) (by rfl) (pa_cons (pv 1) (pa_cons pe_int pa_nil)))) pa_nil))) pa_nil)))
        (pss_cons (ps_setLc (i := 4) (own := [("name", 10)]) (g := (gName 10)) rfl sc_law.nd rfl rfl (sw_true rfl rfl rfl (by decide +kernel)) (pi_list (pv 3)) (blkOk_by (own := [("name", 10)]) (N := ["script", "draw", "turn", "names", "ranks", "kinds", "most", "dues", "sizes", "odd", "name", "many"]) (sc := defScope s_law) (by decide +kernel)) (fun _ _ _ _ _ => (pg_name (i := 10) sc_law.nd rfl (Or.inl rfl) (hf := (Or.inr rfl)))) (fun _ _ _ _ _ => pts_nil) (fun _ _ _ _ _ => (pe_c c__law_pick hr (by first | decide | omega) (by rfl) (pa_cons (pv 1) (pa_cons (pe_lst (pa_cons pe_int (pa_cons pe_int (pa_cons pe_int (pa_cons pe_int (pa_cons (pe_ifExp (pt_cmpR (op_eq) (pv 2) pe_int (nomark _)) pe_int pe_int) pa_nil)))))) pa_nil)))))
        (pss_cons (ps_asg pe_int (pg_sub (pv 4) (pe_c c__law_take hr (by first | decide | omega) (by rfl) (pa_cons (pv 1) (pa_cons (pe_callB (r := rLen0 K) (call_len) (by rfl) B.len (by decide +kernel) (pa_cons (pv 3) pa_nil)) pa_nil))) set_list))
        (pss_cons (ps_set (i := 5) sc_law.nd rfl (Or.inr rfl) (pe_tupZip rfl (by rfl) B.tuple (by rfl) B.zip (pa_cons (pv 3) (pa_cons (pv 4) pa_nil))))
        (pss_cons (ps_set (i := 6) sc_law.nd rfl (Or.inl rfl) (pe_ifExp (pt_cmpR (r := rIn K false) (op_in_seq) pe_int (pv 4) (by rfl)) pe_int pe_int))
        (pss_cons (ps_set (i := 7) sc_law.nd rfl (Or.inr rfl) (pe_c c__law_counts hr (by first | decide | omega) (by rfl) (pa_cons (pv 5) (pa_cons (pv 6) pa_nil))))
        (pss_cons (ps_set (i := 8) sc_law.nd rfl (Or.inl rfl) (pe_lst (pa_cons (pv 6) (pa_cons pe_int (pa_cons (pe_op (op_add) pe_int (pe_c c__law_take hr (by first | decide | omega) (by rfl) (pa_cons (pv 1) (pa_cons (pv 6) pa_nil)))) (pa_cons (pe_op (op_add) pe_int (pe_c c__law_take hr (by first | decide | omega) (by rfl) (pa_cons (pv 1) (pa_cons (pv 6) pa_nil)))) pa_nil))))))
        (pss_cons (ps_if (pt_cmpR (op_ne) (pe_callB (call_reprI (by rfl) hr.units) (by rfl) B.repr (by decide +kernel) (pa_cons (pe_lc (own := [("many", 11)]) (g := (gName 11)) rfl sc_law.nd (pi_list (pv 8)) (blkOk_by (own := [("many", 11)]) (N := ["script", "draw", "turn", "names", "ranks", "kinds", "most", "dues", "sizes", "odd", "name", "many"]) (sc := defScope s_law) (by decide +kernel)) (fun _ _ _ _ _ => (pg_name (i := 11) sc_law.nd rfl (Or.inl rfl) (hf := (Or.inr rfl)))) (fun _ _ _ _ _ => pts_nil) (fun _ _ _ _ _ => (pe_ckw Fc (hr.mono (by decide)) (by rfl) mc kc kbc passL (pk_cons (pv 11) (pk_cons (pv 5) pk_nil))))) pa_nil)) (pe_callB (call_reprI (by rfl) hr.units) (by rfl) B.repr (by decide +kernel) (pa_cons (pe_lc (own := [("many", 11)]) (g := (gName 11)) rfl sc_law.nd (pi_list (pv 8)) (blkOk_by (own := [("many", 11)]) (N := ["script", "draw", "turn", "names", "ranks", "kinds", "most", "dues", "sizes", "odd", "name", "many"]) (sc := defScope s_law) (by decide +kernel)) (fun _ _ _ _ _ => (pg_name (i := 11) sc_law.nd rfl (Or.inl rfl) (hf := (Or.inr rfl)))) (fun _ _ _ _ _ => pts_nil) (fun _ _ _ _ _ => (pe_ix (r := rIxL K) ix_list (pv 7) (pv 11) (fun _ _ => rfl)))) pa_nil)) (nomark _)) (pss_one (ps_ret pe_bl)) pss_nil)
        (pss_cons (ps_set (i := 8) sc_law.nd rfl (Or.inl rfl) (pe_lst (pa_cons pe_int (pa_cons (pe_op (op_add) pe_int (pe_c c__law_take hr (by first | decide | omega) (by rfl) (pa_cons (pv 1) (pa_cons (pe_callB (call_min2 rfl) (by rfl) B.min (by decide +kernel) (pa_cons (pv 6) (pa_cons pe_int pa_nil))) pa_nil)))) (pa_cons (pe_callB (call_min2 rfl) (by rfl) B.min (by decide +kernel) (pa_cons (pv 6) (pa_cons pe_int pa_nil))) pa_nil)))))
        (pss_cons (ps_if (pt_cmpR (op_ne) (pe_callB (call_reprI (by rfl) hr.units) (by rfl) B.repr (by decide +kernel) (pa_cons (pe_lc (own := [("many", 11)]) (g := (gName 11)) rfl sc_law.nd (pi_list (pv 8)) (blkOk_by (own := [("many", 11)]) (N := ["script", "draw", "turn", "names", "ranks", "kinds", "most", "dues", "sizes", "odd", "name", "many"]) (sc := defScope s_law) (by decide +kernel)) (fun _ _ _ _ _ => (pg_name (i := 11) sc_law.nd rfl (Or.inl rfl) (hf := (Or.inr rfl)))) (fun _ _ _ _ _ => pts_nil) (fun _ _ _ _ _ => (pe_cx c_number_in hr (by first | decide | omega) (by rfl) passL (pa_cons (pe_c c__law_all_of hr (by first | decide | omega) (by rfl) (pa_cons (pv 5) pa_nil)) (pa_cons (pv 11) pa_nil))))) pa_nil)) (pe_callB (call_reprI (by rfl) hr.units) (by rfl) B.repr (by decide +kernel) (pa_cons (pe_lc (own := [("many", 11)]) (g := (gName 11)) rfl sc_law.nd (pi_list (pv 8)) (blkOk_by (own := [("many", 11)]) (N := ["script", "draw", "turn", "names", "ranks", "kinds", "most", "dues", "sizes", "odd", "name", "many"]) (sc := defScope s_law) (by decide +kernel)) (fun _ _ _ _ _ => (pg_name (i := 11) sc_law.nd rfl (Or.inl rfl) (hf := (Or.inr rfl)))) (fun _ _ _ _ _ => pts_nil) (fun _ _ _ _ _ => (pe_ix (r := rIxL K) ix_list (pv 7) (pv 11) (fun _ _ => rfl)))) pa_nil)) (nomark _)) (pss_one (ps_ret pe_bl)) pss_nil)
        (pss_cons (ps_set (i := 9) sc_law.nd rfl (Or.inr rfl) (pe_c c__law_pick hr (by first | decide | omega) (by rfl) (pa_cons (pv 1) (pa_cons (pe_lst (pa_cons pe_int (pa_cons pe_int (pa_cons (pe_un un_neg pe_int) (pa_cons pe_non (pa_cons pe_str (pa_cons pe_bl pa_nil))))))) pa_nil))))
        (pss_cons (ps_if (pt_not (pt_val (pe_callB (call_isT CN0) (by rfl) B.isinstance (by decide +kernel) (pa_cons (pe_lamcall (T := [(P0, qL)]) (TT := TTc K CS) (x := "_law_caught") (a := "work") (c := c0) (P := P0) (k := 7) (t := fun E => tCall (p_count K CK CN) [] E (tCons (tVar 5) (tCons (tVar 9) tNil))) (by rfl) mC kC lC cC bC sc__law_caught rfl (Or.inl rfl) (caught_gives hCS) TB rfl hmT huT hr (lamS_by (sc := defScope s_law) (by decide +kernel)) rfl (fun _ _ _ _ _ => rfl) (fun A outer s H E f c2 hr2 => pe_cx c_count hr2 (by decide) (by rfl) (passes_call (takes_of rfl rfl rfl rfl) (fun _ _ _ _ h => h)) (pa_cons (pv 5) (pa_cons (pv 9) pa_nil)))) (pa_cons (pe_glob (v := .ref CN) (by rfl) X_BadNumber.g rfl) pa_nil))))) (pss_one (ps_ret pe_bl)) pss_nil)
        (pss_cons (ps_set (i := 9) sc_law.nd rfl (Or.inr rfl) (pe_c c__law_pick hr (by first | decide | omega) (by rfl) (pa_cons (pv 1) (pa_cons (pe_lst (pa_cons pe_int (pa_cons pe_int (pa_cons pe_int (pa_cons pe_non (pa_cons pe_str (pa_cons pe_bl pa_nil))))))) pa_nil))))
        (pss_one (ps_if (pt_not (pt_val (pe_callB (call_isT CN0) (by rfl) B.isinstance (by decide +kernel) (pa_cons (pe_lamcall (T := [(P0, qL)]) (TT := TTc K CS) (x := "_law_caught") (a := "work") (c := c0) (P := P0) (k := 7) (t := fun E => tCall (spNum K CN) [] E (tCons (tCall (p__law_all_of K) [] C8.E0 (tCons (tVar 5) tNil)) (tCons (tVar 9) tNil))) (by rfl) mC kC lC cC bC sc__law_caught rfl (Or.inl rfl) (caught_gives hCS) TB rfl hmT huT hr (lamS_by (sc := defScope s_law) (by decide +kernel)) rfl (fun _ _ _ _ _ => rfl) (fun A outer s H E f c2 hr2 => pe_cx c_number_in hr2 (by decide) (by rfl) (passes_call (takes_of rfl rfl rfl rfl) (fun _ _ _ _ h => h)) (pa_cons (pe_c c__law_all_of hr2 (by decide) (by rfl) (pa_cons (pv 5) pa_nil)) (pa_cons (pv 9) pa_nil)))) (pa_cons (pe_glob (v := .ref CN) (by rfl) X_BadNumber.g rfl) pa_nil))))) (pss_one (ps_ret pe_bl)) pss_nil))))))))))))))))
        (pss_one (ps_ret pe_bl)))), ?_⟩
    -- draw = _law_begun(script)
    refine ⟨.ref a, rfl, H, .ref a, ns, Same.refl H, rfl, .lst hs (dps_ofInt ns), small1000 (by omega), fun d l c H1 s1 nd nl nc D1 => ?_⟩
    have T1 : Tabs [(P0, qL)] H1 := tabs_same (fun p hp => by rw [List.mem_singleton.mp hp]; exact TabS.nil hP) s1
    obtain ⟨kk, hkk⟩ : ∃ kk : Int, kk = 1 + (if (2 : Int) < (ns.length : Int) then 2 else (ns.length : Int)) := ⟨_, rfl⟩
    have hk3 : 0 ≤ kk ∧ kk ≤ 3 := by
      rw [hkk]
      split <;> omega
    have evs : EvS K (tCons (tOp (rI0 fun i j => .int (i + j)) (tC (.int 1)) (tCB rMin2 (tCons (tCB (rLen0 K) (tCons (tVar 0) tNil)) (tCons (tC (.int 2)) tNil)))) tNil) [some (.ref a), some (.ref d), none, none, none, none, none, none, none, none, none, none] H1 [.int kk] := by
      rw [hkk]
      have q := ev1 (ev_var (K := K) (σ := [some (.ref a), some (.ref d), none, none, none, none, none, none, none, none, none, none]) (F := H1) (i := 0) ⟨.ref a, rfl, .lst (s1.seq hs) (dps_ofInt ns)⟩) rc_lenL
      rw [List.length_map] at q
      exact ea_cons (ev_op (ev_int (i := 1)) (ev_cb (ea_cons q (ea_cons (ev_int (i := 2)) ea_nil)) rc_min2) (rv_int (g := fun i j => i + j))) ea_nil
    dsimp only
    have est : (L2.start ["script", "draw", "turn", "names", "ranks", "kinds", "most", "dues", "sizes", "odd", "name", "many"] [V.ref a]).set 1 (some (.ref d)) = [some (.ref a), some (.ref d), none, none, none, none, none, none, none, none, none, none] := rfl
    show tSeq (tFor _ _ _) _ _ _ H1
    refine for_rng (K := K) (F := H1) (kk := kk) evs (Same.refl _) (by omega) (fun i σ' H' => (∃ y2 y3 y4 y5 y6 y7 y8 y9 y10 y11, σ' = [some (.ref a), some (.ref d), y2, y3, y4, y5, y6, y7, y8, y9, y10, y11]) ∧ Tabs [(P0, qL)] H' ∧ DrawAt H' d l c (1000 * i))
      (fun H' s2 => ⟨⟨_, _, _, _, _, _, _, _, _, _, rfl⟩, tabs_same T1 s2, D1.same s2⟩) (fun i σ' Hx hlt hW => ?_) (fun σ' H' _ => rfl)
    obtain ⟨⟨y2, y3, y4, y5, y6, y7, y8, y9, y10, y11, rfl⟩, T0, D0⟩ := hW
    obtain ⟨z, hz⟩ : ∃ z : Int, z = 0 + (i : Int) := ⟨_, rfl⟩
    rw [← hz]
    obtain ⟨n0, hn0⟩ : ∃ n0, n0 = 1000 * i := ⟨_, rfl⟩
    rw [← hn0] at D0
    have hn3 : n0 ≤ 3000 := by omega
    -- names
    refine ⟨.ref d, rfl, .ref d, rfl, d, l, c, n0, 6, rfl, D0, by omega, by decide, by decide, fun i6 Ha hi6 ka Da => ?_⟩
    refine ⟨1, (i6 : Int), rfl, rfl, d, l, c, n0 + 1, 1 + i6, by rw [Int.natCast_add]; rfl, by omega, Da, by omega, fun p out Hb nm hp kb Db eb => ?_⟩
    obtain ⟨m, hm⟩ : ∃ m, m = 1 + i6 := ⟨_, rfl⟩
    rw [← hm] at nm Db
    have hm6 : 1 ≤ m ∧ m ≤ 6 := by omega
    have ol : out.length = m := by
      obtain ⟨_, _, _, _, _, _, e⟩ := nm.ex
      omega
    refine ⟨p, out, rfl, .inl (.inl eb), by omega, fun ys q pm srt hq => ?_⟩
    have yl : ys.length = m := by rw [pm.length_eq, ol]
    have Tb := tabs_keeps T0 D0 (ka.trans kb)
    have fq := Db.fresh hq
    obtain ⟨Hc, hHc⟩ : ∃ Hc, Hc = upd Hb q (.lst (ys.map V.str)) := ⟨_, rfl⟩
    rw [← hHc]
    have Tc : Tabs [(P0, qL)] Hc := by rw [hHc]; exact tabs_same Tb (same_upd hq)
    have Dc : DrawAt Hc d l c (n0 + 1 + 90 + m) := by rw [hHc]; exact Db.other fq
    have eq : Hc q = some (.lst (ys.map V.str)) := by rw [hHc]; exact upd_same
    -- ranks
    have sq : SqL K Hc q (ys.map V.str) := .inl (.inl eq)
    refine ⟨.ref q, rfl, q, rfl, ⟨_, sq⟩, fun Dd hD => ?_⟩
    have fD := Dc.fresh hD
    have nqD : q ≠ Dd := fun z => by rw [z, hD] at eq; cases eq
    refine ⟨fun j k H6 => k = m - j ∧ j ≤ m ∧ ∃ rk : List Int, rk.length = j ∧ (∀ r ∈ rk, 0 ≤ r ∧ r ≤ 3) ∧ Tabs [(P0, qL)] H6 ∧ DrawAt H6 d l c (n0 + 1 + 90 + m + j) ∧ H6 q = some (.lst (ys.map V.str)) ∧ H6 Dd = some (.lst (rk.map V.int)),
      ⟨m, by simp, Nat.zero_le _, [], rfl, (fun r hr => by cases hr), tabs_same Tc (same_upd hD), Dc.other fD, upd_at nqD eq, upd_same⟩, fun j k H6 hW => ?_⟩
    obtain ⟨rfl, hj, rk, rl, hrk, T6, D6, e6, o6⟩ := hW
    have sq6 : SqL K H6 q (ys.map V.str) := .inl (.inl e6)
    by_cases hjm : j < m
    · have hx : (ys.map V.str)[j]? = some (.str (ys[j]'(by omega))) := by
        rw [List.getElem?_map, List.getElem?_eq_getElem (by omega)]
        rfl
      refine .inr ⟨⟨_, _, sq6, hx⟩, fun H7 => ∃ rk : List Int, rk.length = j + 1 ∧ (∀ r ∈ rk, 0 ≤ r ∧ r ≤ 3) ∧ Tabs [(P0, qL)] H7 ∧ DrawAt H7 d l c (n0 + 1 + 90 + m + (j + 1)) ∧ H7 q = some (.lst (ys.map V.str)) ∧ H7 Dd = some (.lst (rk.map V.int)), fun H7 h7 => ⟨m - (j + 1), by omega, rfl, hjm, h7⟩, fun x H7 hy => ?_⟩
      obtain ⟨rfl, hy⟩ := hy
      refine ⟨rfl, yes_then ?_⟩
      have evs2 : EvS K (tCons (tC (.int 0)) (tCons (tC (.int 1)) (tCons (tC (.int 1)) (tCons (tC (.int 2)) (tCons (tIf (tTest (tOp rEq (tVar 2) (tC (.int 0)))) (tC (.int 3)) (tC (.int 2))) tNil))))) [some (.ref a), some (.ref d), some (.int z), some (.ref q), y4, y5, y6, y7, y8, y9, some x, y11] (fun _ => none) ([(0 : Int), 1, 1, 2, if z = 0 then 3 else 2].map .int) :=
        ea_cons ev_int (ea_cons ev_int (ea_cons ev_int (ea_cons ev_int (ea_cons (ev_if (eb_test (K := K) (ev_op (ev_var (i := 2) ⟨_, rfl, .int z⟩) (ev_int (i := 0)) rv_eqI)) (fun hb => by rw [if_pos (of_decide_eq_true hb)]; exact ev_int) (fun hb => by rw [if_neg (of_decide_eq_false hb)]; exact ev_int)) ea_nil))))
      refine ⟨.ref d, rfl, ?_⟩
      show tCons (tLst _) tNil _ _ _
      refine cons_one (lst_int (K := K) evs2 (fun b o e => by cases e) (by show 5 ≤ sizeLine; decide) fun qq H8 g8 hqq => ?_)
      have D8 := D6.same g8
      have fqq := D8.fresh hqq
      refine ⟨upd (fun _ => none) qq (.lst ([(0 : Int), 1, 1, 2, if z = 0 then 3 else 2].map V.int)), d, l, c, n0 + 1 + 90 + m + j, .ref qq, [(0 : Int), 1, 1, 2, if z = 0 then 3 else 2].map .int, same_one upd_same, one_free fqq.1.symm, one_free fqq.2.1.symm, rfl, .lst (.inl (.inl upd_same)) (dps_ofInt _), by show 1 ≤ 5; decide, by show 5 ≤ 1000; decide, D8.other fqq, by omega, fun dd v H10 hd hv k10 D10 => ?_⟩
      obtain ⟨r, hr, rfl⟩ := List.mem_map.mp hd
      cases hv
      have s9 : Same H7 (upd H8 qq (.lst ([(0 : Int), 1, 1, 2, if z = 0 then 3 else 2].map V.int))) := g8.trans (same_upd hqq)
      have nDd : Dd ≠ d ∧ Dd ≠ l ∧ Dd ≠ c := fD
      have o9 := k10 _ _ nDd.1 nDd.2.1 (s9 _ _ o6)
      have e9 := k10 _ _ fq.1 fq.2.1 (s9 _ _ e6)
      have T9 := tabs_same T6 s9
      have T10 := tabs_keeps T9 (D8.other fqq) k10
      have hr3 : 0 ≤ r ∧ r ≤ 3 := by
        simp only [List.mem_cons, List.not_mem_nil, or_false] at hr
        rcases hr with e | e | e | e | e
        · omega
        · omega
        · omega
        · omega
        · rw [e]; split <;> omega
      refine ⟨_, o9, by rw [List.length_map]; exact small1000 (by omega), rk ++ [r], by rw [List.length_append, rl]; rfl, fun r' hr' => ?_, ?_, ?_, upd_at nqD e9, ?_⟩
      · rcases List.mem_append.mp hr' with h | h
        · exact hrk r' h
        · rw [List.mem_singleton.mp h]
          exact hr3
      · exact tabs_put T10 o9
      · exact D10.other nDd
      · rw [upd_same, List.map_append]
        rfl
    refine .inl ⟨⟨_, sq6, by rw [List.length_map]; omega⟩, ?_⟩
    have rl' : rk.length = m := by omega
    obtain ⟨n2, hn2⟩ : ∃ n2, n2 = n0 + 1 + 90 + m + j := ⟨_, rfl⟩
    rw [← hn2] at D6
    have hn2b : n2 ≤ 3200 := by omega
    have nDd : Dd ≠ d ∧ Dd ≠ l ∧ Dd ≠ c := fD
    -- ranks[..] = 0
    refine ⟨.ref Dd, rfl, .ref d, rfl, .ref q, rfl, .ref q, ys.length, rfl, .inl ⟨_, sq6, (List.length_map ..).symm⟩, ?_⟩
    refine ⟨d, l, c, n2, (ys.length : Int), rfl, D6, by omega, by omega, by omega, fun jj HC hjj kC' DC => ?_⟩
    have oC := kC' _ _ nDd.1 nDd.2.1 o6
    refine ⟨Dd, rk.map V.int, (jj : Int), jj, rfl, rfl, oC, ?_, ?_⟩
    · unfold ixN
      rw [if_pos (Int.natCast_nonneg jj), if_pos (by rw [List.length_map]; omega), Int.toNat_natCast]
    have eset : (rk.map V.int).set jj (.int 0) = (rk.set jj 0).map V.int := (List.map_set ..).symm
    rw [eset]
    obtain ⟨rk', hrk'⟩ : ∃ rk', rk' = rk.set jj 0 := ⟨_, rfl⟩
    rw [← hrk']
    have rl2 : rk'.length = m := by rw [hrk', List.length_set]; omega
    have hr2 : ∀ r ∈ rk', 0 ≤ r ∧ r ≤ 3 := fun r hr => by
      rw [hrk'] at hr
      rcases List.mem_or_eq_of_mem_set hr with h | h
      · exact hrk r h
      · rw [h]; decide
    have h0 : (0 : Int) ∈ rk' := by
      rw [hrk']
      exact List.mem_iff_getElem?.mpr ⟨jj, by rw [List.getElem?_set_self (by omega)]⟩
    obtain ⟨Hd, hHd⟩ : ∃ Hd, Hd = upd HC Dd (.lst (rk'.map V.int)) := ⟨_, rfl⟩
    rw [← hHd]
    have Td : Tabs [(P0, qL)] Hd := by rw [hHd]; exact tabs_put (tabs_keeps T6 D6 kC') oC
    have DHd : DrawAt Hd d l c (n2 + 1) := by rw [hHd]; exact DC.other nDd
    have eqd : Hd q = some (.lst (ys.map V.str)) := by rw [hHd]; exact upd_at nqD (kC' _ _ fq.1 fq.2.1 e6)
    have oDd : Hd Dd = some (.lst (rk'.map V.int)) := by rw [hHd]; exact upd_same
    -- kinds
    obtain ⟨F0, hF0⟩ : ∃ F0 : Hp, F0 = upd (upd (fun _ => none) q (.lst (ys.map V.str))) Dd (.lst (rk'.map V.int)) := ⟨_, rfl⟩
    have sF0 : Same F0 Hd := by rw [hF0]; exact same_two eqd oDd
    have F0d : F0 d = none := by rw [hF0, upd_ne nDd.1.symm]; exact one_free fq.1.symm
    have F0l : F0 l = none := by rw [hF0, upd_ne nDd.2.1.symm]; exact one_free fq.2.1.symm
    have rq : Dp K F0 (.ref q) (.list (ys.map .str)) := .lst (.inl (.inl (by rw [hF0, upd_ne nqD]; exact upd_same))) (dps_ofStr ys)
    have rD : Dp K F0 (.ref Dd) (.list (rk'.map .int)) := .lst (.inl (.inl (by rw [hF0]; exact upd_same))) (dps_ofInt rk')
    obtain ⟨xs, hxs⟩ : ∃ xs, xs = pairs (ys.map .str) (rk'.map .int) := ⟨_, rfl⟩
    have hk : isKinds (.tuple xs) = true := by rw [hxs]; exact kinds_ok nm hm6 pm srt rl2 hr2 h0
    have hrs : xs.map rankN = rk'.map Int.toNat := by rw [hxs]; exact ranks_eq (by omega)
    dsimp only
    show tSeq (tAsg _ _) _ _ _ _
    refine s_set (K := K) (F := F0) (d := .tuple xs) (by rw [hxs]; exact ev_tupZip (ea_cons (ev_var (i := 3) ⟨.ref q, rfl, rq⟩) (ea_cons (ev_var (i := 4) ⟨.ref Dd, rfl, rD⟩) ea_nil)) (by rw [List.length_map, List.length_map]; omega)) sF0 fun vk F1 He g1 rk1 => ?_
    -- most
    obtain ⟨mo, hmo⟩ : ∃ mo : Int, mo = if (3 : Int) ∈ rk' then 50 else 200 := ⟨_, rfl⟩
    have hmo2 : mo = 50 ∨ (mo = 200 ∧ 3 ∉ xs.map rankN) := by
      by_cases h3 : (3 : Int) ∈ rk'
      · rw [if_pos h3] at hmo
        exact .inl hmo
      · rw [if_neg h3] at hmo
        exact .inr ⟨hmo, fun z => h3 (three_in hr2 (hrs ▸ z))⟩
    have hmo3 : 50 ≤ mo ∧ mo ≤ 200 := by
      rcases hmo2 with e | ⟨e, _⟩ <;> omega
    dsimp only
    show tSeq (tAsg _ _) _ _ _ _
    refine s_set (K := K) (F := F1) (d := .int mo) (ev_if (eb_test (K := K) (ev_op (ev_int (i := 3)) (ev_var (i := 4) ⟨.ref Dd, rfl, rD.up g1.f⟩) (rv_inL mem_int))) (fun hb => by rw [hmo, if_pos (of_decide_eq_true hb)]; exact ev_int) (fun hb => by rw [hmo, if_neg (of_decide_eq_false hb)]; exact ev_int)) g1.i fun vm F2 Hf g2 rm => ?_
    cases rm
    -- dues
    dsimp only
    show tSeq (tAsg _ _) _ _ _ _
    refine s_set (K := K) (F := F2) (d := .list (ld (cnt (xs.map rankN)) (mo.toNat + 1))) (ev_call (K := K) (f := f2 g_law_counts) (E := C8.E0) (ea_cons (ev_var (i := 5) ⟨vk, rfl, rk1.up g2.f⟩) (ea_cons (ev_var (i := 6) ⟨_, rfl, .int mo⟩) ea_nil)) ?_) g2.i fun vd F3 Hg g3 rd => ?_
    · show (if isKinds (.tuple xs) && (decide (0 ≤ mo) && decide (mo ≤ 200)) then some (PyData.list (ld (cnt (xs.map rankN)) (mo.toNat + 1))) else none) = _
      rw [if_pos]
      rw [hk, decide_eq_true (by omega), decide_eq_true (by omega)]
      rfl
    have sHd : Same Hd Hg := g1.h.trans (g2.h.trans g3.h)
    have Dg := DHd.same sHd
    have Tg := tabs_same Td sHd
    have fr1 := DHd.frees g1 F0d F0l
    have fr2 := (DHd.same g1.h).frees g2 fr1.1 fr1.2
    have fr3 := (DHd.same (g1.h.trans g2.h)).frees g3 fr2.1 fr2.2
    have kK : Dp K F3 vk (.tuple xs) := rk1.up (g2.f.trans g3.f)
    obtain ⟨h6, hx⟩ := kinds_ranks hk
    obtain ⟨rs, hrs'⟩ : ∃ rs, rs = xs.map rankN := ⟨_, rfl⟩
    have rs6 : rs.length ≤ 6 := by rw [hrs', List.length_map]; exact h6
    have rs3 : ∀ r ∈ rs, r ≤ 3 := fun r hr => by
      rw [hrs'] at hr
      obtain ⟨dd, hdd, rfl⟩ := List.mem_map.mp hr
      obtain ⟨nn, r, rfl, r0, r1⟩ := hx dd hdd
      show r.toNat ≤ 3
      omega
    rw [← hrs'] at hmo2 rd
    -- sizes
    refine ⟨.int mo, rfl, .ref d, rfl, .int mo, rfl, d, l, c, n2 + 1, mo, rfl, Dg, by omega, by omega, by omega, fun i1 H4 hi1 k4 D4 => ?_⟩
    refine ⟨1, (i1 : Int), rfl, rfl, .ref d, rfl, .int mo, rfl, d, l, c, n2 + 1 + 1, mo, rfl, D4, by omega, by omega, by omega, fun i2 H5 hi2 k5 D5 => ?_⟩
    refine ⟨1, (i2 : Int), rfl, rfl, by show 4 ≤ sizeLine; decide, fun p8 hp8 => ?_⟩
    obtain ⟨sz, hsz⟩ : ∃ sz : List Int, sz = [mo, 1, 1 + (i1 : Int), 1 + (i2 : Int)] := ⟨_, rfl⟩
    have esz : [V.int mo, .int 1, .int (1 + (i1 : Int)), .int (1 + (i2 : Int))] = sz.map V.int := by rw [hsz]; rfl
    rw [esz]
    have szb : ∀ n ∈ sz, 1 ≤ n ∧ n ≤ mo := fun n hn => by
      rw [hsz] at hn
      simp only [List.mem_cons, List.not_mem_nil, or_false] at hn
      rcases hn with e | e | e | e <;> omega
    have szl : sz.length = 4 := by rw [hsz]; rfl
    have f8 := D5.fresh hp8
    have sF5 : Same F3 H5 := (k4.trans k5).same g3.i fr3.1 fr3.2
    have gk := Grow.known (o := .lst (sz.map V.int)) sF5 hp8
    have T5 := tabs_keeps Tg Dg (k4.trans k5)
    obtain ⟨H6', hH6⟩ : ∃ H6', H6' = upd H5 p8 (.lst (sz.map V.int)) := ⟨_, rfl⟩
    obtain ⟨F6, hF6⟩ : ∃ F6, F6 = upd F3 p8 (.lst (sz.map V.int)) := ⟨_, rfl⟩
    rw [← hH6, ← hF6] at gk
    rw [← hH6]
    have T6' : Tabs [(P0, qL)] H6' := by rw [hH6]; exact tabs_same T5 (same_upd hp8)
    have D6' : DrawAt H6' d l c (n2 + 1 + 1 + 1) := by rw [hH6]; exact D5.other f8
    have r8 : Dp K F6 (.ref p8) (.list (sz.map .int)) := .lst (.inl (.inl (by rw [hF6]; exact upd_same))) (dps_ofInt sz)
    have F6d : F6 d = none := by rw [hF6, upd_ne f8.1.symm]; exact fr3.1
    have F6l : F6 l = none := by rw [hF6, upd_ne f8.2.1.symm]; exact fr3.2
    -- count told
    dsimp only
    show tSeq (tIfS _ _ _) _ _ _ _
    have lg := outs_log rs6 rs3 hmo2 fun n hn => (szb n hn).2
    have q1 := ev1 (lc_count (K := K) (CK := CK) (CN := CN) (gV := kwV) (E := C8.E0) (y0 := some (.ref a)) (y1 := some (.ref d)) (y2 := some (.int z)) (y3 := some (.ref q)) (y4 := some (.ref Dd)) (y6 := some (.int mo)) (y9 := y9) (y10 := y10) (y11 := y11) (v5 := vk) (v7 := vd) (v8 := .ref p8) (fun _ _ => rfl) (kK.up gk.f) r8 hk (fun n hn => ⟨(szb n hn).1, by have := (szb n hn).2; omega⟩) (by omega)) (rc_repr (by unfold outs; rw [List.length_map]; omega) (by rw [← hrs']; exact lg))
    have q2 := ev1 (lc_dues (K := K) (rs := rs) (N := mo.toNat + 1) (y0 := some (.ref a)) (y1 := some (.ref d)) (y2 := some (.int z)) (y3 := some (.ref q)) (y4 := some (.ref Dd)) (y6 := some (.int mo)) (y9 := y9) (y10 := y10) (y11 := y11) (v5 := vk) (v7 := vd) (v8 := .ref p8) (rd.up gk.f) r8 (fun n hn => ⟨by have := (szb n hn).1; omega, by have := (szb n hn).2; omega⟩) (by omega)) (rc_repr (by unfold outs; rw [List.length_map]; omega) lg)
    rw [← hrs'] at q1
    refine s_when (F := F6) (b := false) (eb_test (K := K) ((ev_op q1 q2 rv_neS).is (congrArg PyData.bool (by rw [decide_eq_true rfl]; rfl)))) gk.i (fun z => by cases z) fun _ F7 H7 g7 => ?_
    have D7 := D6'.same g7.h
    have T7 := tabs_same T6' g7.h
    have fr7 := D6'.frees g7 F6d F6l
    have k7 : Dp K F7 vk (.tuple xs) := kK.up (gk.f.trans g7.f)
    have d7 : Dp K F7 vd (.list (ld (cnt rs) (mo.toNat + 1))) := rd.up (gk.f.trans g7.f)
    obtain ⟨n4, hn4⟩ : ∃ n4, n4 = n2 + 1 + 1 + 1 := ⟨_, rfl⟩
    rw [← hn4] at D7
    obtain ⟨lo, hlo⟩ : ∃ lo : Int, lo = if (60 : Int) < mo then 60 else mo := ⟨_, rfl⟩
    have hlo2 : 50 ≤ lo ∧ lo ≤ 60 ∧ lo ≤ mo := by
      rw [hlo]
      split <;> omega
    -- sizes again
    refine ⟨.ref d, rfl, .int mo, rfl, mo, 60, rfl, d, l, c, n4, if (60 : Int) < mo then 60 else mo, rfl, D7, by omega, by omega, by omega, fun i3 H8 hi3 k8 D8 => ?_⟩
    refine ⟨1, (i3 : Int), rfl, rfl, .int mo, rfl, mo, 60, rfl, by show 3 ≤ sizeLine; decide, fun p9 hp9 => ?_⟩
    rw [← hlo] at hi3
    rw [← hlo]
    obtain ⟨sz2, hsz2⟩ : ∃ sz2 : List Int, sz2 = [1, 1 + (i3 : Int), lo] := ⟨_, rfl⟩
    have esz2 : [V.int 1, .int (1 + (i3 : Int)), .int lo] = sz2.map V.int := by rw [hsz2]; rfl
    rw [esz2]
    have szb2 : ∀ n ∈ sz2, 1 ≤ n ∧ n ≤ lo := fun n hn => by
      rw [hsz2] at hn
      simp only [List.mem_cons, List.not_mem_nil, or_false] at hn
      rcases hn with e | e | e <;> omega
    have szl2 : sz2.length = 3 := by rw [hsz2]; rfl
    have f9 := D8.fresh hp9
    have sF8 : Same F7 H8 := k8.same g7.i fr7.1 fr7.2
    have gk2 := Grow.known (o := .lst (sz2.map V.int)) sF8 hp9
    have T8 := tabs_keeps T7 D7 k8
    obtain ⟨H9, hH9⟩ : ∃ H9, H9 = upd H8 p9 (.lst (sz2.map V.int)) := ⟨_, rfl⟩
    obtain ⟨F9, hF9⟩ : ∃ F9, F9 = upd F7 p9 (.lst (sz2.map V.int)) := ⟨_, rfl⟩
    rw [← hH9, ← hF9] at gk2
    rw [← hH9]
    have T9 : Tabs [(P0, qL)] H9 := by rw [hH9]; exact tabs_same T8 (same_upd hp9)
    have D9 : DrawAt H9 d l c (n4 + 1) := by rw [hH9]; exact D8.other f9
    have r9 : Dp K F9 (.ref p9) (.list (sz2.map .int)) := .lst (.inl (.inl (by rw [hF9]; exact upd_same))) (dps_ofInt sz2)
    have F9d : F9 d = none := by rw [hF9, upd_ne f9.1.symm]; exact fr7.1
    have F9l : F9 l = none := by rw [hF9, upd_ne f9.2.1.symm]; exact fr7.2
    -- number_in told
    dsimp only
    show tSeq (tIfS _ _ _) _ _ _ _
    have lg2 := outs_log rs6 rs3 hmo2 fun n hn => Int.le_trans (szb2 n hn).2 hlo2.2.2
    have q3 := ev1 (lc_num (K := K) (CN := CN) (E := C8.E0) (y0 := some (.ref a)) (y1 := some (.ref d)) (y2 := some (.int z)) (y3 := some (.ref q)) (y4 := some (.ref Dd)) (y6 := some (.int mo)) (y9 := y9) (y10 := y10) (y11 := y11) (v5 := vk) (v7 := vd) (v8 := .ref p9) (k7.up gk2.f) r9 hk (fun n hn => ⟨(szb2 n hn).1, by have := (szb2 n hn).2; omega⟩) (by omega)) (rc_repr (by unfold outs; rw [List.length_map]; omega) (by rw [← hrs']; exact lg2))
    have q4 := ev1 (lc_dues (K := K) (rs := rs) (N := mo.toNat + 1) (y0 := some (.ref a)) (y1 := some (.ref d)) (y2 := some (.int z)) (y3 := some (.ref q)) (y4 := some (.ref Dd)) (y6 := some (.int mo)) (y9 := y9) (y10 := y10) (y11 := y11) (v5 := vk) (v7 := vd) (v8 := .ref p9) (d7.up gk2.f) r9 (fun n hn => ⟨by have := (szb2 n hn).1; omega, by have := (szb2 n hn).2; omega⟩) (by omega)) (rc_repr (by unfold outs; rw [List.length_map]; omega) lg2)
    rw [← hrs'] at q3
    refine s_when (F := F9) (b := false) (eb_test (K := K) ((ev_op q3 q4 rv_neS).is (congrArg PyData.bool (by rw [decide_eq_true rfl]; rfl)))) gk2.i (fun z => by cases z) fun _ Fa Ha' ga => ?_
    have Da' := D9.same ga.h
    have Ta := tabs_same T9 ga.h
    have fra := D9.frees ga F9d F9l
    have kA : Dp K Fa vk (.tuple xs) := k7.up (gk2.f.trans ga.f)
    -- odd
    refine ⟨.ref d, rfl, 1, rfl, by show 6 ≤ sizeLine; decide, fun qq hqq => ?_⟩
    have fqq := Da'.fresh hqq
    refine ⟨upd (fun _ => none) qq (.lst [.int 0, .int 201, .int (-1), .non, .str "5", .bl true]), d, l, c, n4 + 1, .ref qq, [.int 0, .int 201, .int (-1), .none, .str "5", .bool true], same_one upd_same, one_free fqq.1.symm, one_free fqq.2.1.symm, rfl, .lst (.inl (.inl upd_same)) (.cons (.int 0) (.cons (.int 201) (.cons (.int (-1)) (.cons .non (.cons (.str "5") (.cons (.bl true) .nil)))))), by show 1 ≤ 6; decide, by show 6 ≤ 1000; decide, Da'.other fqq, by omega, fun dd v Hb' hd hv kb' Db' => ?_⟩
    have sb : Same Fa (upd Ha' qq (.lst [.int 0, .int 201, .int (-1), .non, .str "5", .bl true])) := ga.i.trans (same_upd hqq)
    have sFb : Same Fa Hb' := kb'.same sb fra.1 fra.2
    have Tb' := tabs_keeps (tabs_same Ta (same_upd hqq)) (Da'.other fqq) kb'
    dsimp only
    refine caught_is (K := K) (CS := CS) (CN := CN) (F := Fa) hsub Tb' sFb Db' (fun E H1 Q sE kE => ?_) fun Hc' sc' Tc' Dc' => ?_
    · refine call_raises (K := K) (F := noT Fa) (C := CN) (ea_cons (ev_var (i := 5) ⟨vk, rfl, dp_noT _ _ kA⟩) (ea_cons (ev_var (i := 9) ⟨v, rfl, scal_any (.inl hd) hv⟩) ea_nil)) sE ?_ kE
      show (if fitsK (.tuple xs) then some (if isKinds (.tuple xs) then (if isBetween dd 1 200 then Except.ok (countD (.tuple xs) dd) else .error CN) else .error CK) else none) = _
      rw [if_pos (fits_kinds hk), if_pos hk, odd200 hd]
      rfl
    have kC2 : Dp K (noT Fa) vk (.tuple xs) := dp_noT _ _ kA
    -- odd again
    refine ⟨.ref d, rfl, by show 6 ≤ sizeLine; decide, fun q3' hq3 => ?_⟩
    have fq3 := Dc'.fresh hq3
    refine ⟨upd (fun _ => none) q3' (.lst [.int 0, .int 61, .int 200, .non, .str "5", .bl true]), d, l, c, n4 + 1 + 1, .ref q3', [.int 0, .int 61, .int 200, .none, .str "5", .bool true], same_one upd_same, one_free fq3.1.symm, one_free fq3.2.1.symm, rfl, .lst (.inl (.inl upd_same)) (.cons (.int 0) (.cons (.int 61) (.cons (.int 200) (.cons .non (.cons (.str "5") (.cons (.bl true) .nil)))))), by show 1 ≤ 6; decide, by show 6 ≤ 1000; decide, Dc'.other fq3, by omega, fun de v2 Hd' hd2 hv2 kd' Dd' => ?_⟩
    have sd : Same (noT Fa) (upd Hc' q3' (.lst [.int 0, .int 61, .int 200, .non, .str "5", .bl true])) := sc'.trans (same_upd hq3)
    have sFd : Same (noT Fa) Hd' := kd'.same sd (noT_none fra.1) (noT_none fra.2)
    have Td' := tabs_keeps (tabs_same Tc' (same_upd hq3)) (Dc'.other fq3) kd'
    dsimp only
    refine caught_is1 (K := K) (CS := CS) (CN := CN) (F := noT Fa) hsub Td' sFd Dd' (fun E H1 Q sE kE => ?_) fun He' se' Te' De' => ?_
    · exact num_raises (K := K) (F := noT (noT Fa)) (xs := xs) (b := de) (ev_allof (dp_noT _ _ kC2) hk rfl) (ev_var (i := 9) ⟨v2, rfl, scal_any (.inr hd2) hv2⟩) sE hk (odd60 hd2) kE
    exact ⟨⟨_, _, _, _, _, _, _, _, _, _, rfl⟩, Te', De'.more (by omega)⟩
  obtain ⟨tt, h1, h2⟩ := main
  exact ⟨tt, h1.nox, h2⟩
end
end Sw
set_option Elab.async false
set_option linter.all false
set_option maxRecDepth 100000
set_option maxHeartbeats 0
/-! the head: what stands behind the module's top -/
namespace Sw
open PySem PySem.Spec PyProof.Rows L2
def d_is_whole : He.FnD := ⟨("is_whole", none), "is_whole", "is_whole", defArgs (top 6), defBody (top 6), defScope (top 6)⟩
def d_is_between : He.FnD := ⟨("is_between", none), "is_between", "is_between", defArgs (top 7), defBody (top 7), defScope (top 7)⟩
def d_is_word : He.FnD := ⟨("is_word", none), "is_word", "is_word", defArgs (top 8), defBody (top 8), defScope (top 8)⟩
def d_is_row : He.FnD := ⟨("is_row", none), "is_row", "is_row", defArgs (top 9), defBody (top 9), defScope (top 9)⟩
def d_is_rising : He.FnD := ⟨("is_rising", none), "is_rising", "is_rising", defArgs (top 10), defBody (top 10), defScope (top 10)⟩
def d_is_rising_below : He.FnD := ⟨("is_rising_below", none), "is_rising_below", "is_rising_below", defArgs (top 11), defBody (top 11), defScope (top 11)⟩
def d_is_name : He.FnD := ⟨("is_name", none), "is_name", "is_name", defArgs (top 15), defBody (top 15), defScope (top 15)⟩
def d_is_kinds : He.FnD := ⟨("is_kinds", none), "is_kinds", "is_kinds", defArgs (top 17), defBody (top 17), defScope (top 17)⟩
def d__is_kind : He.FnD := ⟨("_is_kind", none), "_is_kind", "_is_kind", defArgs (top 18), defBody (top 18), defScope (top 18)⟩
def d_check_kinds : He.FnD := ⟨("check_kinds", none), "check_kinds", "check_kinds", defArgs (top 19), defBody (top 19), defScope (top 19)⟩
def d_count : He.FnD := ⟨("count", none), "count", "count", defArgs (top 20), defBody (top 20), defScope (top 20)⟩
def d_counts_to : He.FnD := ⟨("counts_to", none), "counts_to", "counts_to", defArgs (top 21), defBody (top 21), defScope (top 21)⟩
def d_goals_in : He.FnD := ⟨("goals_in", none), "goals_in", "goals_in", defArgs (top 23), defBody (top 23), defScope (top 23)⟩
def d_tuples_below : He.FnD := ⟨("tuples_below", none), "tuples_below", "tuples_below", defArgs (top 24), defBody (top 24), defScope (top 24)⟩
def d_is_set : He.FnD := ⟨("is_set", none), "is_set", "is_set", defArgs (top 26), defBody (top 26), defScope (top 26)⟩
def d__is_goals : He.FnD := ⟨("_is_goals", none), "_is_goals", "_is_goals", defArgs (top 27), defBody (top 27), defScope (top 27)⟩
def d_check_set : He.FnD := ⟨("check_set", none), "check_set", "check_set", defArgs (top 28), defBody (top 28), defScope (top 28)⟩
def d_number_in : He.FnD := ⟨("number_in", none), "number_in", "number_in", defArgs (top 29), defBody (top 29), defScope (top 29)⟩
def d__has_rank : He.FnD := ⟨("_has_rank", none), "_has_rank", "_has_rank", defArgs (top 30), defBody (top 30), defScope (top 30)⟩
def d__together : He.FnD := ⟨("_together", none), "_together", "_together", defArgs (top 31), defBody (top 31), defScope (top 31)⟩
def d__counts_of_size : He.FnD := ⟨("_counts_of_size", none), "_counts_of_size", "_counts_of_size", defArgs (top 32), defBody (top 32), defScope (top 32)⟩
def d__law_begun : He.FnD := ⟨("_law_begun", none), "_law_begun", "_law_begun", defArgs (top 34), defBody (top 34), defScope (top 34)⟩
def d__law_mixed : He.FnD := ⟨("_law_mixed", none), "_law_mixed", "_law_mixed", defArgs (top 35), defBody (top 35), defScope (top 35)⟩
def d__law_take : He.FnD := ⟨("_law_take", none), "_law_take", "_law_take", defArgs (top 36), defBody (top 36), defScope (top 36)⟩
def d__law_pick : He.FnD := ⟨("_law_pick", none), "_law_pick", "_law_pick", defArgs (top 37), defBody (top 37), defScope (top 37)⟩
def d__law_shuffled : He.FnD := ⟨("_law_shuffled", none), "_law_shuffled", "_law_shuffled", defArgs (top 38), defBody (top 38), defScope (top 38)⟩
def d__law_caught : He.FnD := ⟨("_law_caught", none), "_law_caught", "_law_caught", defArgs (top 39), defBody (top 39), defScope (top 39)⟩
def d__law_names : He.FnD := ⟨("_law_names", none), "_law_names", "_law_names", defArgs (top 40), defBody (top 40), defScope (top 40)⟩
def d__law_all_of : He.FnD := ⟨("_law_all_of", none), "_law_all_of", "_law_all_of", defArgs (top 41), defBody (top 41), defScope (top 41)⟩
def d__law_counts : He.FnD := ⟨("_law_counts", none), "_law_counts", "_law_counts", defArgs (top 42), defBody (top 42), defScope (top 42)⟩
def d_law : He.FnD := ⟨("law", none), "law", "law", defArgs (top 43), defBody (top 43), defScope (top 43)⟩
def fnL : List He.FnD := [d_is_whole, d_is_between, d_is_word, d_is_row, d_is_rising, d_is_rising_below, d_is_name, d_is_kinds, d__is_kind, d_check_kinds, d_count, d_counts_to, d_goals_in, d_tuples_below, d_is_set, d__is_goals, d_check_set, d_number_in, d__has_rank, d__together, d__counts_of_size, d__law_begun, d__law_mixed, d__law_take, d__law_pick, d__law_shuffled, d__law_caught, d__law_names, d__law_all_of, d__law_counts, d_law]
def faL : List He.Fa := [.glo "is_whole", .glo "is_between", .glo "is_word", .glo "is_row", .glo "is_rising", .glo "is_rising_below", .glo "is_name", .glo "is_kinds", .glo "_is_kind", .glo "check_kinds", .glo "count", .glo "counts_to", .glo "goals_in", .glo "tuples_below", .glo "is_set", .glo "_is_goals", .glo "check_set", .glo "number_in", .glo "_has_rank", .glo "_together", .glo "_counts_of_size", .glo "_law_begun", .glo "_law_mixed", .glo "_law_take", .glo "_law_pick", .glo "_law_shuffled", .glo "_law_caught", .glo "_law_names", .glo "_law_all_of", .glo "_law_counts", .glo "law", .keep "is_whole", .keep "is_between", .keep "is_word", .keep "is_row", .keep "is_rising", .keep "is_rising_below", .keep "is_name", .keep "is_kinds", .keep "_is_kind", .keep "check_kinds", .keep "count", .keep "counts_to", .keep "goals_in", .keep "tuples_below", .keep "is_set", .keep "_is_goals", .keep "check_set", .keep "number_in", .keep "_has_rank", .keep "_together", .keep "_counts_of_size", .keep "_law_begun", .keep "_law_mixed", .keep "_law_take", .keep "_law_pick", .keep "_law_shuffled", .keep "_law_caught", .keep "_law_names", .keep "_law_all_of", .keep "_law_counts", .keep "law", .free "abs", .free "all", .free "any", .free "bool", .free "dict", .free "divmod", .free "enumerate", .free "int", .free "isinstance", .free "len", .free "list", .free "max", .free "min", .free "range", .free "repr", .free "set", .free "sorted", .free "str", .free "sum", .free "tuple", .free "zip", .glo "WritingError", .glo "BadKinds", .glo "BadNumber", .glo "BadSet", .glo "KEPT", .exc "BadKinds", .exc "BadNumber", .exc "BadSet", .keep "WritingError", .keep "BadKinds", .keep "BadNumber", .keep "BadSet", .exm "BadKinds" "WritingError" true, .exm "BadNumber" "WritingError" true, .exm "BadSet" "WritingError" true, .str "_LETTERS" "abcdefghijklmnopqrstuvwxyz"]
def looseL : List PySem.Str := ([("WritingError" : PySem.Str), ("BadKinds" : PySem.Str), ("BadNumber" : PySem.Str), ("BadSet" : PySem.Str), ("KEPT" : PySem.Str), ("_LETTERS" : PySem.Str), ("is_whole" : PySem.Str), ("is_between" : PySem.Str), ("is_word" : PySem.Str), ("is_row" : PySem.Str), ("is_rising" : PySem.Str), ("is_rising_below" : PySem.Str)] : List PySem.Str) ++ ([("is_name" : PySem.Str), ("is_kinds" : PySem.Str), ("_is_kind" : PySem.Str), ("check_kinds" : PySem.Str), ("count" : PySem.Str), ("counts_to" : PySem.Str), ("goals_in" : PySem.Str), ("tuples_below" : PySem.Str), ("is_set" : PySem.Str), ("_is_goals" : PySem.Str), ("check_set" : PySem.Str), ("number_in" : PySem.Str)] : List PySem.Str) ++ ([("_has_rank" : PySem.Str), ("_together" : PySem.Str), ("_counts_of_size" : PySem.Str), ("_law_begun" : PySem.Str), ("_law_mixed" : PySem.Str), ("_law_take" : PySem.Str), ("_law_pick" : PySem.Str), ("_law_shuffled" : PySem.Str), ("_law_caught" : PySem.Str), ("_law_names" : PySem.Str), ("_law_all_of" : PySem.Str), ("_law_counts" : PySem.Str)] : List PySem.Str)
-- law stands at 43
/-- what an own error's class says (for isinstance) -/
def excCB (K : PySem.W.Frag) (D : Addr) : Bool :=
  (decide (PySem.W.findIn K (.ref D) "__getattribute__" = some (some (.builtin "BaseException.__getattribute__"))) && decide (PySem.W.findIn K (.ref D) "__getattr__" = some none)) &&
  (decide (PySem.W.subIn K (.ref D) (.type "BaseException") = some true) && decide (PySem.W.hasDictIn K D = true)) &&
  (decide (PySem.W.findIn K (.ref D) "__class__" = some (some (.builtin "object.__class__"))) && decide (PySem.W.specialIn K (.builtin "object.__class__") "__get__" = some (some (.builtin "getset_descriptor.__get__")))) &&
  (decide (PySem.W.takesIn K (.builtin "object.__class__") = some true) && decide (PySem.W.mroIn K D (.type "object") = some true))
def keptW : List He.Dv := [.str "call", .str "else", .str "end", .str "for", .str "if", .str "in", .str "on", .str "use", .str "with"]
/-- the law's own table of code objects is not among what is kept -/
def tabOut (K : PySem.W.Frag) : Bool := match K.lookup (He.ga K "law") with
  | some ⟨_, _, .func fd, _⟩ => (match fd.code with
    | .ref c => (match K.lookup c with
      | some ⟨_, _, .fields vs, _⟩ => (match (vs[11]? : Option Value) with
        | some (Value.ref t) => (K.lookup t).isNone
        | _ => false)
      | _ => false)
    | _ => false)
  | _ => false
def moreB (K : PySem.W.Frag) : Bool := (He.tupB K "KEPT" keptW && excCB K (He.ga K "BadNumber")) && tabOut K
def obsX (n : Nat) (g : Addr → Option Obj) : He.Al × Bool := (He.obsG n faL fnL g, moreB (He.frG g (He.asG g n)))
def hookX (n : Nat) : PySem.W.Hook where
  α := He.Al × Bool
  obs := fun s => obsX n s.heap.get?
  val := fun _ => (He.valE fnL, true)
  says := fun _ h => ∃ K : PySem.W.Frag, K.In h ∧ He.SaysE faL fnL K ∧ moreB K = true
  of := fun _ _ e => ⟨_, He.frG_in, (Prod.ext_iff.mp e).1, (Prod.ext_iff.mp e).2⟩
  keeps := fun _ _ _ ⟨K, hK, c⟩ k => ⟨K, PySem.W.Frag.In.keeps hK k, c⟩
abbrev R : PySem.W.OpenRow := PySem.W.OpenLaw.row PySem.Challenge.rw_samewriting_k82_whole_how_many_trees_of
abbrev hk : PySem.W.Hook := hookX 2
def obH (s : PySem.W.SharedT) : He.Al × Bool := obsX 2 (HandSHeadRun.getT s)
theorem ob_eq (s : PySem.W.SharedT) : obH s = hk.obs s.abs := by
  have e : HandSHeadRun.getT s = s.abs.heap.get? := funext (HandSHeadRun.getT_eq s)
  show obsX 2 (HandSHeadRun.getT s) = obsX 2 s.abs.heap.get?
  rw [e]
theorem runH (w : World) : HandSHeadRun.RunEq R (PySem.W.view R.prog [43]) hk obH 12000 looseL w := by
  intro os
  kernel_rfl
end Sw
set_option Elab.async false
set_option linter.all false
set_option maxRecDepth 100000
set_option maxHeartbeats 4000000
set_option exponentiation.threshold 3000
/-! the end -/
namespace Sw
open PySem PySem.Spec PyProof.Rows L2 LamX
open C8 (Cal pe_c pe_gc)
section
variable {P : Program} {w : World} {K : PySem.W.Frag} {mg : Str → Option Value} {base : Heap}
theorem mkFun {x : Str} {st : Stmt} {a : Addr} (c : ∃ (oc : Value) (od : Option Addr) (osl : Array (Option Value)) (kV doc pm : Value) (an : Option Addr) (cdv ct : Value), K.lookup a = some ⟨oc, od, .func (PySem.W.fnOf x x (defArgs st) (defBody st) (defScope st) .none kV doc pm an cdv ct), osl⟩ ∧ PySem.W.codeIn K cdv x = true) (k : PySem.W.keepIn K (.ref a) = true) : ∃ fd, Fun K x x st a fd := by
  obtain ⟨oc, od, osl, kV, doc, pm, an, cdv, ct, l, cc⟩ := c
  exact ⟨_, fun_mk l cc k⟩
theorem mkCal {k : Nat} {x : Str} {f : Addr} {fd : FuncData} {ps : List Str} {sp : Sp} (ok : FnOk P w K mg base CX0 k f fd ps sp) (m : mg x = some (.ref f)) (kp : PySem.W.keepIn K (.ref f) = true) (b : L2.Binds K fd ps []) : Cal P w K mg base k x sp [] := ⟨f, fd, ps, [], ok, m, kp, b, .nil⟩
theorem mkCalX {k : Nat} {x : Str} {f : Addr} {fd : FuncData} {ps : List Str} {sp : Sp} (ok : FnOk P w K mg base (L2.CX P w) k f fd ps sp) (m : mg x = some (.ref f)) (kp : PySem.W.keepIn K (.ref f) = true) (b : L2.Binds K fd ps []) (al : ∀ us : List Value, us.length = ps.length → bindArgs fd ⟨us, []⟩ = pure (ps.zip us)) : CalX P w K mg base k x ps sp := ⟨f, fd, ok, m, kp, b, al⟩
end
theorem all_check_kinds {K : PySem.W.Frag} {f : Addr} {fd : FuncData} (F : Fun K "check_kinds" "check_kinds" s_check_kinds f fd) : ∀ us : List Value, us.length = 1 → bindArgs fd ⟨us, []⟩ = pure ((["kinds"] : List Str).zip us) := by
  obtain ⟨oc, od, kV, doc, pm, an, cdv, ct, osl, rfl, lk, hcd⟩ := F.ex
  exact fun us hl => match us, hl with | [_], _ => rfl
theorem all_count {K : PySem.W.Frag} {f : Addr} {fd : FuncData} (F : Fun K "count" "count" s_count f fd) : ∀ us : List Value, us.length = 2 → bindArgs fd ⟨us, []⟩ = pure ((["kinds", "many"] : List Str).zip us) := by
  obtain ⟨oc, od, kV, doc, pm, an, cdv, ct, osl, rfl, lk, hcd⟩ := F.ex
  exact fun us hl => match us, hl with | [_, _], _ => rfl
theorem all_check_set {K : PySem.W.Frag} {f : Addr} {fd : FuncData} (F : Fun K "check_set" "check_set" s_check_set f fd) : ∀ us : List Value, us.length = 1 → bindArgs fd ⟨us, []⟩ = pure ((["trees"] : List Str).zip us) := by
  obtain ⟨oc, od, kV, doc, pm, an, cdv, ct, osl, rfl, lk, hcd⟩ := F.ex
  exact fun us hl => match us, hl with | [_], _ => rfl
theorem all_number_in {K : PySem.W.Frag} {f : Addr} {fd : FuncData} (F : Fun K "number_in" "number_in" s_number_in f fd) : ∀ us : List Value, us.length = 2 → bindArgs fd ⟨us, []⟩ = pure ((["trees", "many"] : List Str).zip us) := by
  obtain ⟨oc, od, kV, doc, pm, an, cdv, ct, osl, rfl, lk, hcd⟩ := F.ex
  exact fun us hl => match us, hl with | [_, _], _ => rfl
theorem exc_of {K : PySem.W.Frag} {D : Addr} (h : excCB K D = true) : ExcC K D := by
  unfold excCB at h
  simp only [Bool.and_eq_true, decide_eq_true_eq] at h
  obtain ⟨⟨⟨⟨h1, h2⟩, h3, h4⟩, h5, h6⟩, h7, h8⟩ := h
  exact ⟨h1, h2, h3, h4, h5, h6, h7, h8⟩
theorem tab_of {K : PySem.W.Frag} {h : Heap} {c t : Addr} {o : Obj} {fd : FuncData} (KX : K.In h) (hb : tabOut K = true) (ho : h.get? (He.ga K "law") = some o) (hd : o.data = .func fd) (hc : fd.code = .ref c) (hh : PySem.W.CodeHd h c t) : K.lookup t = none := by
  unfold tabOut at hb
  split at hb
  · rename_i c1 d1 fd1 s1 e1
    have z := KX _ _ e1
    rw [ho] at z
    cases z
    cases hd
    rw [hc] at hb
    dsimp only at hb
    split at hb
    · rename_i c2 d2 vs s2 e2
      obtain ⟨o2, vs2, _, _, _, _, _, _, _, f1, _, f2, f3, _⟩ := hh
      have z2 := KX _ _ e2
      rw [f1] at z2
      cases z2
      cases f2
      rw [f3] at hb
      exact Option.isNone_iff_eq_none.mp hb
    · cases hb
  · cases hb
theorem facts {P : Program} {w : World} {K : PySem.W.Frag} {h base : Heap} {mg : Str → Option Value} {c0 P0 : Addr} {o : Obj} {fd : FuncData} (KX : K.In h) (G : h.Ns mainGlobals mg) (c : He.SaysE faL fnL K) (mo : moreB K = true)
    (ho : h.get? (He.ga K "law") = some o) (hd : o.data = .func fd) (hc : fd.code = .ref c0) (TB : TabB base mg c0 P0) : ∃ (fc g : Addr) (fdl fdc fdg : FuncData), LawCs P w K mg base c0 P0 (He.ga K "law") fc g (He.ga K "BadKinds") (He.ga K "BadNumber") (He.ga K "WritingError") fdl fdc fdg := by
  obtain ⟨fd_is_whole, F_is_whole⟩ := mkFun (x := "is_whole") (st := s_is_whole) (c.def_ 0 (d := d_is_whole) rfl) (He.keep_ok (c.fact 31 (f := .keep "is_whole") rfl))
  have g_is_whole := He.glo_ok KX G (c.fact 0 (f := .glo "is_whole") rfl)
  obtain ⟨fd_is_between, F_is_between⟩ := mkFun (x := "is_between") (st := s_is_between) (c.def_ 1 (d := d_is_between) rfl) (He.keep_ok (c.fact 32 (f := .keep "is_between") rfl))
  have g_is_between := He.glo_ok KX G (c.fact 1 (f := .glo "is_between") rfl)
  obtain ⟨fd_is_word, F_is_word⟩ := mkFun (x := "is_word") (st := s_is_word) (c.def_ 2 (d := d_is_word) rfl) (He.keep_ok (c.fact 33 (f := .keep "is_word") rfl))
  have g_is_word := He.glo_ok KX G (c.fact 2 (f := .glo "is_word") rfl)
  obtain ⟨fd_is_row, F_is_row⟩ := mkFun (x := "is_row") (st := s_is_row) (c.def_ 3 (d := d_is_row) rfl) (He.keep_ok (c.fact 34 (f := .keep "is_row") rfl))
  have g_is_row := He.glo_ok KX G (c.fact 3 (f := .glo "is_row") rfl)
  obtain ⟨fd_is_rising, F_is_rising⟩ := mkFun (x := "is_rising") (st := s_is_rising) (c.def_ 4 (d := d_is_rising) rfl) (He.keep_ok (c.fact 35 (f := .keep "is_rising") rfl))
  have g_is_rising := He.glo_ok KX G (c.fact 4 (f := .glo "is_rising") rfl)
  obtain ⟨fd_is_rising_below, F_is_rising_below⟩ := mkFun (x := "is_rising_below") (st := s_is_rising_below) (c.def_ 5 (d := d_is_rising_below) rfl) (He.keep_ok (c.fact 36 (f := .keep "is_rising_below") rfl))
  have g_is_rising_below := He.glo_ok KX G (c.fact 5 (f := .glo "is_rising_below") rfl)
  obtain ⟨fd_is_name, F_is_name⟩ := mkFun (x := "is_name") (st := s_is_name) (c.def_ 6 (d := d_is_name) rfl) (He.keep_ok (c.fact 37 (f := .keep "is_name") rfl))
  have g_is_name := He.glo_ok KX G (c.fact 6 (f := .glo "is_name") rfl)
  obtain ⟨fd_is_kinds, F_is_kinds⟩ := mkFun (x := "is_kinds") (st := s_is_kinds) (c.def_ 7 (d := d_is_kinds) rfl) (He.keep_ok (c.fact 38 (f := .keep "is_kinds") rfl))
  have g_is_kinds := He.glo_ok KX G (c.fact 7 (f := .glo "is_kinds") rfl)
  obtain ⟨fd__is_kind, F__is_kind⟩ := mkFun (x := "_is_kind") (st := s__is_kind) (c.def_ 8 (d := d__is_kind) rfl) (He.keep_ok (c.fact 39 (f := .keep "_is_kind") rfl))
  have g__is_kind := He.glo_ok KX G (c.fact 8 (f := .glo "_is_kind") rfl)
  obtain ⟨fd_check_kinds, F_check_kinds⟩ := mkFun (x := "check_kinds") (st := s_check_kinds) (c.def_ 9 (d := d_check_kinds) rfl) (He.keep_ok (c.fact 40 (f := .keep "check_kinds") rfl))
  have g_check_kinds := He.glo_ok KX G (c.fact 9 (f := .glo "check_kinds") rfl)
  obtain ⟨fd_count, F_count⟩ := mkFun (x := "count") (st := s_count) (c.def_ 10 (d := d_count) rfl) (He.keep_ok (c.fact 41 (f := .keep "count") rfl))
  have g_count := He.glo_ok KX G (c.fact 10 (f := .glo "count") rfl)
  obtain ⟨fd_counts_to, F_counts_to⟩ := mkFun (x := "counts_to") (st := s_counts_to) (c.def_ 11 (d := d_counts_to) rfl) (He.keep_ok (c.fact 42 (f := .keep "counts_to") rfl))
  have g_counts_to := He.glo_ok KX G (c.fact 11 (f := .glo "counts_to") rfl)
  obtain ⟨fd_goals_in, F_goals_in⟩ := mkFun (x := "goals_in") (st := s_goals_in) (c.def_ 12 (d := d_goals_in) rfl) (He.keep_ok (c.fact 43 (f := .keep "goals_in") rfl))
  have g_goals_in := He.glo_ok KX G (c.fact 12 (f := .glo "goals_in") rfl)
  obtain ⟨fd_tuples_below, F_tuples_below⟩ := mkFun (x := "tuples_below") (st := s_tuples_below) (c.def_ 13 (d := d_tuples_below) rfl) (He.keep_ok (c.fact 44 (f := .keep "tuples_below") rfl))
  have g_tuples_below := He.glo_ok KX G (c.fact 13 (f := .glo "tuples_below") rfl)
  obtain ⟨fd_is_set, F_is_set⟩ := mkFun (x := "is_set") (st := s_is_set) (c.def_ 14 (d := d_is_set) rfl) (He.keep_ok (c.fact 45 (f := .keep "is_set") rfl))
  have g_is_set := He.glo_ok KX G (c.fact 14 (f := .glo "is_set") rfl)
  obtain ⟨fd__is_goals, F__is_goals⟩ := mkFun (x := "_is_goals") (st := s__is_goals) (c.def_ 15 (d := d__is_goals) rfl) (He.keep_ok (c.fact 46 (f := .keep "_is_goals") rfl))
  have g__is_goals := He.glo_ok KX G (c.fact 15 (f := .glo "_is_goals") rfl)
  obtain ⟨fd_check_set, F_check_set⟩ := mkFun (x := "check_set") (st := s_check_set) (c.def_ 16 (d := d_check_set) rfl) (He.keep_ok (c.fact 47 (f := .keep "check_set") rfl))
  have g_check_set := He.glo_ok KX G (c.fact 16 (f := .glo "check_set") rfl)
  obtain ⟨fd_number_in, F_number_in⟩ := mkFun (x := "number_in") (st := s_number_in) (c.def_ 17 (d := d_number_in) rfl) (He.keep_ok (c.fact 48 (f := .keep "number_in") rfl))
  have g_number_in := He.glo_ok KX G (c.fact 17 (f := .glo "number_in") rfl)
  obtain ⟨fd__has_rank, F__has_rank⟩ := mkFun (x := "_has_rank") (st := s__has_rank) (c.def_ 18 (d := d__has_rank) rfl) (He.keep_ok (c.fact 49 (f := .keep "_has_rank") rfl))
  have g__has_rank := He.glo_ok KX G (c.fact 18 (f := .glo "_has_rank") rfl)
  obtain ⟨fd__together, F__together⟩ := mkFun (x := "_together") (st := s__together) (c.def_ 19 (d := d__together) rfl) (He.keep_ok (c.fact 50 (f := .keep "_together") rfl))
  have g__together := He.glo_ok KX G (c.fact 19 (f := .glo "_together") rfl)
  obtain ⟨fd__counts_of_size, F__counts_of_size⟩ := mkFun (x := "_counts_of_size") (st := s__counts_of_size) (c.def_ 20 (d := d__counts_of_size) rfl) (He.keep_ok (c.fact 51 (f := .keep "_counts_of_size") rfl))
  have g__counts_of_size := He.glo_ok KX G (c.fact 20 (f := .glo "_counts_of_size") rfl)
  obtain ⟨fd__law_begun, F__law_begun⟩ := mkFun (x := "_law_begun") (st := s__law_begun) (c.def_ 21 (d := d__law_begun) rfl) (He.keep_ok (c.fact 52 (f := .keep "_law_begun") rfl))
  have g__law_begun := He.glo_ok KX G (c.fact 21 (f := .glo "_law_begun") rfl)
  obtain ⟨fd__law_mixed, F__law_mixed⟩ := mkFun (x := "_law_mixed") (st := s__law_mixed) (c.def_ 22 (d := d__law_mixed) rfl) (He.keep_ok (c.fact 53 (f := .keep "_law_mixed") rfl))
  have g__law_mixed := He.glo_ok KX G (c.fact 22 (f := .glo "_law_mixed") rfl)
  obtain ⟨fd__law_take, F__law_take⟩ := mkFun (x := "_law_take") (st := s__law_take) (c.def_ 23 (d := d__law_take) rfl) (He.keep_ok (c.fact 54 (f := .keep "_law_take") rfl))
  have g__law_take := He.glo_ok KX G (c.fact 23 (f := .glo "_law_take") rfl)
  obtain ⟨fd__law_pick, F__law_pick⟩ := mkFun (x := "_law_pick") (st := s__law_pick) (c.def_ 24 (d := d__law_pick) rfl) (He.keep_ok (c.fact 55 (f := .keep "_law_pick") rfl))
  have g__law_pick := He.glo_ok KX G (c.fact 24 (f := .glo "_law_pick") rfl)
  obtain ⟨fd__law_shuffled, F__law_shuffled⟩ := mkFun (x := "_law_shuffled") (st := s__law_shuffled) (c.def_ 25 (d := d__law_shuffled) rfl) (He.keep_ok (c.fact 56 (f := .keep "_law_shuffled") rfl))
  have g__law_shuffled := He.glo_ok KX G (c.fact 25 (f := .glo "_law_shuffled") rfl)
  obtain ⟨fd__law_caught, F__law_caught⟩ := mkFun (x := "_law_caught") (st := s__law_caught) (c.def_ 26 (d := d__law_caught) rfl) (He.keep_ok (c.fact 57 (f := .keep "_law_caught") rfl))
  have g__law_caught := He.glo_ok KX G (c.fact 26 (f := .glo "_law_caught") rfl)
  obtain ⟨fd__law_names, F__law_names⟩ := mkFun (x := "_law_names") (st := s__law_names) (c.def_ 27 (d := d__law_names) rfl) (He.keep_ok (c.fact 58 (f := .keep "_law_names") rfl))
  have g__law_names := He.glo_ok KX G (c.fact 27 (f := .glo "_law_names") rfl)
  obtain ⟨fd__law_all_of, F__law_all_of⟩ := mkFun (x := "_law_all_of") (st := s__law_all_of) (c.def_ 28 (d := d__law_all_of) rfl) (He.keep_ok (c.fact 59 (f := .keep "_law_all_of") rfl))
  have g__law_all_of := He.glo_ok KX G (c.fact 28 (f := .glo "_law_all_of") rfl)
  obtain ⟨fd__law_counts, F__law_counts⟩ := mkFun (x := "_law_counts") (st := s__law_counts) (c.def_ 29 (d := d__law_counts) rfl) (He.keep_ok (c.fact 60 (f := .keep "_law_counts") rfl))
  have g__law_counts := He.glo_ok KX G (c.fact 29 (f := .glo "_law_counts") rfl)
  obtain ⟨fd_law, F_law⟩ := mkFun (x := "law") (st := s_law) (c.def_ 30 (d := d_law) rfl) (He.keep_ok (c.fact 61 (f := .keep "law") rfl))
  have g_law := He.glo_ok KX G (c.fact 30 (f := .glo "law") rfl)
  have B : BI mg := ⟨He.free_ok KX G (c.fact 71 (f := .free "len") rfl), He.free_ok KX G (c.fact 62 (f := .free "abs") rfl), He.free_ok KX G (c.fact 63 (f := .free "all") rfl), He.free_ok KX G (c.fact 64 (f := .free "any") rfl), He.free_ok KX G (c.fact 80 (f := .free "sum") rfl), He.free_ok KX G (c.fact 74 (f := .free "min") rfl), He.free_ok KX G (c.fact 73 (f := .free "max") rfl), He.free_ok KX G (c.fact 78 (f := .free "sorted") rfl), He.free_ok KX G (c.fact 67 (f := .free "divmod") rfl), He.free_ok KX G (c.fact 70 (f := .free "isinstance") rfl), He.free_ok KX G (c.fact 69 (f := .free "int") rfl), He.free_ok KX G (c.fact 72 (f := .free "list") rfl), He.free_ok KX G (c.fact 79 (f := .free "str") rfl), He.free_ok KX G (c.fact 65 (f := .free "bool") rfl), He.free_ok KX G (c.fact 81 (f := .free "tuple") rfl), He.free_ok KX G (c.fact 75 (f := .free "range") rfl), He.free_ok KX G (c.fact 82 (f := .free "zip") rfl), He.free_ok KX G (c.fact 68 (f := .free "enumerate") rfl), He.free_ok KX G (c.fact 76 (f := .free "repr") rfl)⟩
  obtain ⟨xeK, xkK, xbK, xtK⟩ := He.exc_ok (c.fact 88 (f := .exc "BadKinds") rfl)
  have X_BadKinds : Rse K mg "BadKinds" (He.ga K "BadKinds") := ⟨xeK, He.glo_ok KX G (c.fact 84 (f := .glo "BadKinds") rfl), xkK, xbK, xtK⟩
  obtain ⟨xeN, xkN, xbN, xtN⟩ := He.exc_ok (c.fact 89 (f := .exc "BadNumber") rfl)
  have X_BadNumber : Rse K mg "BadNumber" (He.ga K "BadNumber") := ⟨xeN, He.glo_ok KX G (c.fact 85 (f := .glo "BadNumber") rfl), xkN, xbN, xtN⟩
  obtain ⟨xeB, xkB, xbB, xtB⟩ := He.exc_ok (c.fact 90 (f := .exc "BadSet") rfl)
  have X_BadSet : Rse K mg "BadSet" (He.ga K "BadSet") := ⟨xeB, He.glo_ok KX G (c.fact 86 (f := .glo "BadSet") rfl), xkB, xbB, xtB⟩
  have gWE := He.glo_ok KX G (c.fact 83 (f := .glo "WritingError") rfl)
  have hsub := He.exm_ok (c.fact 96 (f := .exm "BadNumber" "WritingError" true) rfl)
  have gKEPT := He.glo_ok KX G (c.fact 87 (f := .glo "KEPT") rfl)
  have gLET := He.str_ok KX G (c.fact 98 (f := .str "_LETTERS" "abcdefghijklmnopqrstuvwxyz") rfl)
  have mt := mo
  unfold moreB at mt
  simp only [Bool.and_eq_true] at mt
  have T : Cst K mg (He.ga K "KEPT") := ⟨by
    obtain ⟨t, e⟩ := gLET
    exact ⟨_, e, ⟨t, rfl⟩⟩, ⟨_, gKEPT, rfl⟩, fun F => .tup (He.tupB_ok mt.1.1 F) (dps_ofStr keptL)⟩
  have c_is_whole : Cal P w K mg base 1 "is_whole" (p_is_whole K) [] := mkCal (ok_is_whole F_is_whole B) g_is_whole F_is_whole.kp (F_is_whole.binds fun _ _ _ _ _ _ us hl => match us, hl with | [_], _ => rfl)
  have c_is_word : Cal P w K mg base 1 "is_word" (p_is_word K) [] := mkCal (ok_is_word F_is_word B) g_is_word F_is_word.kp (F_is_word.binds fun _ _ _ _ _ _ us hl => match us, hl with | [_, _], _ => rfl)
  have c_is_row : Cal P w K mg base 1 "is_row" (p_is_row K) [] := mkCal (ok_is_row F_is_row B) g_is_row F_is_row.kp (F_is_row.binds fun _ _ _ _ _ _ us hl => match us, hl with | [_, _], _ => rfl)
  have c_is_rising : Cal P w K mg base 1 "is_rising" (p_is_rising K) [] := mkCal (ok_is_rising F_is_rising B) g_is_rising F_is_rising.kp (F_is_rising.binds fun _ _ _ _ _ _ us hl => match us, hl with | [_], _ => rfl)
  have c_is_name : Cal P w K mg base 1 "is_name" (p_is_name K) [] := mkCal (ok_is_name F_is_name B T) g_is_name F_is_name.kp (F_is_name.binds fun _ _ _ _ _ _ us hl => match us, hl with | [_], _ => rfl)
  have c_counts_to : Cal P w K mg base 1 "counts_to" (p_counts_to K) [] := mkCal (ok_counts_to F_counts_to B) g_counts_to F_counts_to.kp (F_counts_to.binds fun _ _ _ _ _ _ us hl => match us, hl with | [_, _], _ => rfl)
  have c_goals_in : Cal P w K mg base 1 "goals_in" (p_goals_in K) [] := mkCal (ok_goals_in F_goals_in B) g_goals_in F_goals_in.kp (F_goals_in.binds fun _ _ _ _ _ _ us hl => match us, hl with | [_, _], _ => rfl)
  have c_tuples_below : Cal P w K mg base 1 "tuples_below" (p_tuples_below K) [] := mkCal (ok_tuples_below F_tuples_below B) g_tuples_below F_tuples_below.kp (F_tuples_below.binds fun _ _ _ _ _ _ us hl => match us, hl with | [_, _], _ => rfl)
  have c__has_rank : Cal P w K mg base 1 "_has_rank" (p__has_rank K) [] := mkCal (ok__has_rank F__has_rank) g__has_rank F__has_rank.kp (F__has_rank.binds fun _ _ _ _ _ _ us hl => match us, hl with | [_, _], _ => rfl)
  have c__together : Cal P w K mg base 1 "_together" (spTog K) [] := mkCal (ok__together F__together B) g__together F__together.kp (F__together.binds fun _ _ _ _ _ _ us hl => match us, hl with | [_, _, _], _ => rfl)
  have c__law_begun : Cal P w K mg base 1 "_law_begun" (spBegun K) [] := mkCal (ok__law_begun F__law_begun B) g__law_begun F__law_begun.kp (F__law_begun.binds fun _ _ _ _ _ _ us hl => match us, hl with | [_], _ => rfl)
  have c__law_mixed : Cal P w K mg base 1 "_law_mixed" spMixed [] := mkCal (ok__law_mixed F__law_mixed B) g__law_mixed F__law_mixed.kp (F__law_mixed.binds fun _ _ _ _ _ _ us hl => match us, hl with | [_], _ => rfl)
  have c__law_all_of : Cal P w K mg base 1 "_law_all_of" (p__law_all_of K) [] := mkCal (ok__law_all_of F__law_all_of B) g__law_all_of F__law_all_of.kp (F__law_all_of.binds fun _ _ _ _ _ _ us hl => match us, hl with | [_], _ => rfl)
  have c__law_counts : Cal P w K mg base 1 "_law_counts" (p__law_counts K) [] := mkCal (ok__law_counts F__law_counts B) g__law_counts F__law_counts.kp (F__law_counts.binds fun _ _ _ _ _ _ us hl => match us, hl with | [_, _], _ => rfl)
  have c_is_between : Cal P w K mg base 2 "is_between" (p_is_between K) [] := mkCal (ok_is_between F_is_between c_is_whole) g_is_between F_is_between.kp (F_is_between.binds fun _ _ _ _ _ _ us hl => match us, hl with | [_, _, _], _ => rfl)
  have c__counts_of_size : Cal P w K mg base 2 "_counts_of_size" (spCos K) [] := mkCal (ok__counts_of_size F__counts_of_size B c__together) g__counts_of_size F__counts_of_size.kp (F__counts_of_size.binds fun _ _ _ _ _ _ us hl => match us, hl with | [_, _, _, _], _ => rfl)
  have c__law_take : Cal P w K mg base 2 "_law_take" spTake [] := mkCal (ok__law_take F__law_take B c__law_mixed) g__law_take F__law_take.kp (F__law_take.binds fun _ _ _ _ _ _ us hl => match us, hl with | [_, _], _ => rfl)
  have c_is_rising_below : Cal P w K mg base 3 "is_rising_below" (p_is_rising_below K) [] := mkCal (ok_is_rising_below F_is_rising_below B c_is_between c_is_rising) g_is_rising_below F_is_rising_below.kp (F_is_rising_below.binds fun _ _ _ _ _ _ us hl => match us, hl with | [_, _], _ => rfl)
  have c__is_kind : Cal P w K mg base 3 "_is_kind" (p__is_kind K) [] := mkCal (ok__is_kind F__is_kind c_is_row c_is_name c_is_between) g__is_kind F__is_kind.kp (F__is_kind.binds fun _ _ _ _ _ _ us hl => match us, hl with | [_], _ => rfl)
  have c__is_goals : Cal P w K mg base 3 "_is_goals" (p__is_goals K) [] := mkCal (ok__is_goals F__is_goals B c_is_row c_is_between) g__is_goals F__is_goals.kp (F__is_goals.binds fun _ _ _ _ _ _ us hl => match us, hl with | [_, _, _], _ => rfl)
  have c__law_pick : Cal P w K mg base 3 "_law_pick" (spPick K) [] := mkCal (ok__law_pick F__law_pick B c__law_take) g__law_pick F__law_pick.kp (F__law_pick.binds fun _ _ _ _ _ _ us hl => match us, hl with | [_, _], _ => rfl)
  have c__law_shuffled : Cal P w K mg base 3 "_law_shuffled" (spShuf K) [] := mkCal (ok__law_shuffled F__law_shuffled B c__law_take) g__law_shuffled F__law_shuffled.kp (F__law_shuffled.binds fun _ _ _ _ _ _ us hl => match us, hl with | [_, _], _ => rfl)
  have c_is_kinds : Cal P w K mg base 4 "is_kinds" (p_is_kinds K) [] := mkCal (ok_is_kinds F_is_kinds B c__is_kind c_is_rising) g_is_kinds F_is_kinds.kp (F_is_kinds.binds fun _ _ _ _ _ _ us hl => match us, hl with | [_], _ => rfl)
  have c__law_names : Cal P w K mg base 4 "_law_names" spNames [] := mkCal (ok__law_names F__law_names B c__law_shuffled c__law_pick) g__law_names F__law_names.kp (F__law_names.binds fun _ _ _ _ _ _ us hl => match us, hl with | [_, _], _ => rfl)
  have o_check_kinds : FnOk P w K mg base (L2.CX P w) 5 (He.ga K "check_kinds") fd_check_kinds ["kinds"] (p_check_kinds K (He.ga K "BadKinds")) := ok_check_kinds F_check_kinds c_is_kinds X_BadKinds
  have c_check_kinds : CalX P w K mg base 5 "check_kinds" ["kinds"] (p_check_kinds K (He.ga K "BadKinds")) := mkCalX o_check_kinds g_check_kinds F_check_kinds.kp (F_check_kinds.binds fun _ _ _ _ _ _ us hl => match us, hl with | [_], _ => rfl) (all_check_kinds F_check_kinds)
  have c_is_set : Cal P w K mg base 5 "is_set" (spAll K (.bool true)) [] := mkCal (ok_is_set F_is_set B c_is_row c_is_word c_is_kinds c_is_between c_goals_in c_is_rising_below c__is_goals) g_is_set F_is_set.kp (F_is_set.binds fun _ _ _ _ _ _ us hl => match us, hl with | [_], _ => rfl)
  have o_count : FnOk P w K mg base (L2.CX P w) 6 (He.ga K "count") fd_count ["kinds", "many"] (p_count K (He.ga K "BadKinds") (He.ga K "BadNumber")) := ok_count F_count c_check_kinds c_is_between c_counts_to X_BadNumber
  have c_count : CalX P w K mg base 6 "count" ["kinds", "many"] (p_count K (He.ga K "BadKinds") (He.ga K "BadNumber")) := mkCalX o_count g_count F_count.kp (F_count.binds fun _ _ _ _ _ _ us hl => match us, hl with | [_, _], _ => rfl) (all_count F_count)
  have o_check_set : FnOk P w K mg base (L2.CX P w) 6 (He.ga K "check_set") fd_check_set ["trees"] (spAll K .none) := ok_check_set F_check_set c_is_set X_BadSet
  have c_check_set : CalX P w K mg base 6 "check_set" ["trees"] (spAll K .none) := mkCalX o_check_set g_check_set F_check_set.kp (F_check_set.binds fun _ _ _ _ _ _ us hl => match us, hl with | [_], _ => rfl) (all_check_set F_check_set)
  have o_number_in : FnOk P w K mg base (L2.CX P w) 7 (He.ga K "number_in") fd_number_in ["trees", "many"] (spNum K (He.ga K "BadNumber")) := ok_number_in F_number_in B c_check_set c_is_between c__has_rank c_tuples_below c__together c__counts_of_size X_BadNumber
  have c_number_in : CalX P w K mg base 7 "number_in" ["trees", "many"] (spNum K (He.ga K "BadNumber")) := mkCalX o_number_in g_number_in F_number_in.kp (F_number_in.binds fun _ _ _ _ _ _ us hl => match us, hl with | [_, _], _ => rfl) (all_number_in F_number_in)
  have ed : fd_law = fd := by
    obtain ⟨oc, od, kV, doc, pm, an, cdv, ct, osl, e, lk, _⟩ := F_law.ex
    have z : h.get? (He.ga K "law") = _ := KX _ _ lk
    rw [ho] at z
    cases z
    cases hd
    rfl
  have hb := mo
  unfold moreB at hb
  simp only [Bool.and_eq_true] at hb
  exact ⟨He.ga K "count", He.ga K "_law_caught", fd_law, fd_count, fd__law_caught, { B := B, F := F_law, hcode := by rw [ed]; exact hc, TB := TB, Fg := F__law_caught, mg' := g__law_caught, hCS := gWE, sub := hsub, Fc := o_count, mc := g_count, kc := F_count.kp, kbc := kb_count F_count, X_BadNumber := X_BadNumber, CN0 := exc_of hb.1.2, c_count := c_count, c_number_in := c_number_in, c__law_all_of := c__law_all_of, c__law_begun := c__law_begun, c__law_take := c__law_take, c__law_pick := c__law_pick, c__law_names := c__law_names, c__law_counts := c__law_counts }⟩
theorem law_room : Room 10 callerA := ⟨rfl, by decide, by decide⟩
end Sw
open PySem PySem.W PySem.Calls PyProof.Rows
theorem PySem.Challenge.cw_samewriting_k82_whole_how_many_trees_of_holds : PySem.Challenge.rw_samewriting_k82_whole_how_many_trees_of.Holds := by
  w_on; o_law
  refine HandSHeadRun.head_any (r := OpenLaw.row PySem.Challenge.rw_samewriting_k82_whole_how_many_trees_of) (q := view (OpenLaw.row PySem.Challenge.rw_samewriting_k82_whole_how_many_trees_of).prog [43]) (H := Sw.hk) (ob := Sw.obH) (M := 12000) (loose := Sw.looseL) (d := HandSHeadRun.topDef (OpenLaw.row PySem.Challenge.rw_samewriting_k82_whole_how_many_trees_of).prog 43) (kwd := []) Sw.ob_eq
    (by kernel_rfl) (fun s => by kernel_rfl) Sw.runH (by kernel_rfl) (by kernel_rfl) (by kernel_rfl) (by rfl) (by first | assumption | decide +kernel) (by decide +kernel) ⟨rfl, rfl, rfl, rfl, rfl, by decide +kernel⟩ ?hw ?hc
  case hw => w_witness2
  case hc =>
    refine Sw.walk_runT (l := PySem.Challenge.rw_samewriting_k82_whole_how_many_trees_of) (n := 63) (CX := L2.CX0) rfl (by decide) (by kernel_rfl) (by kernel_rfl) ?F (fun _ _ _ _ z => z)
    intro w mg fa h Y G hmg0
    obtain ⟨K, KX, c, mo⟩ := Y
    have hmg : mg ("law" : PySem.Str) = some (.ref fa) := by
      have e : (HandSHeadRun.topDef (OpenLaw.row PySem.Challenge.rw_samewriting_k82_whole_how_many_trees_of).prog 43).name = ("law" : PySem.Str) := by kernel_rfl
      rw [← e]
      exact hmg0
    have gl := He.glo_ok KX G (c.fact 30 (f := .glo "law") rfl)
    have efa : fa = He.ga K "law" := by
      rw [hmg] at gl
      cases gl
      rfl
    subst efa
    refine ⟨K, KX, fun c0 t o fd ho hd hc hh htb => ⟨Sw.tab_of KX (by
      have hb := mo
      unfold Sw.moreB at hb
      simp only [Bool.and_eq_true] at hb
      exact hb.2) ho hd hc hh, fun s base H a ns hl K1 G1 TB hP hs e0 => ?_⟩⟩
    obtain ⟨fc, g, fdl, fdc, fdg, L⟩ := Sw.facts (P := (PySem.Challenge.rw_samewriting_k82_whole_how_many_trees_of).prog) (w := w) KX G c mo ho hd hc TB
    exact Sw.law_by L Sw.law_room hl hs hP e0
