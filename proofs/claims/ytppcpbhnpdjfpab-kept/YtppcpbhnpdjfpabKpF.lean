/-
  BATCHES: old versions stay, the new one is what the edits made.
-/
import Derived.Test.YtppcpbhnpdjfpabKpE
namespace Go.Proofs.Ytppcpbhnpdjfpab
open Go.RowKit

theorem inV_end {v n : Int} {g : Nat → Int} (hv : v ≤ n) (hn : 0 ≤ n) (h0 : g 25 = 0) : inV v (upd g 25 (n + 1)) = inV v g := by
  unfold inV upd
  simp only [if_true, show ¬ (24 : Nat) = 25 by omega, if_false, h0]
  rw [decide_eq_true (show v < n + 1 by omega), decide_eq_false (show ¬ n + 1 = 0 by omega)]
  simp
theorem inV_new {v n : Int} {f : Nat → Int} (hv : v ≤ n) : inV v (lifeOf f (n + 1)) = false := by
  unfold inV lifeOf
  simp only [show ¬ (24 : Nat) < 24 by omega, if_false, if_true]
  rw [decide_eq_false (by omega)]; rfl
theorem inV_now {n : Int} {g : Nat → Int} (h : g 24 ≤ n ∧ g 25 ≤ n) : inV n g = decide (g 25 = 0) := by
  unfold inV
  rw [decide_eq_true h.1, decide_eq_false (show ¬ n < g 25 by omega)]
  simp
theorem RelV.end_ {v n : Int} {LS G : List (Nat → Int)} (h : RelV v LS G) (hv : v ≤ n) (hn : 0 ≤ n) {i : Nat} (hi : gf LS i 25 = 0) : RelV v (setL LS i 25 (n + 1)) G := by
  have key : ∀ k, k < LS.length → inV v (gf (setL LS i 25 (n + 1)) k) = inV v (gf LS k) ∧ SF (gf (setL LS i 25 (n + 1)) k) (gf LS k) := by
    intro k hk
    rw [setL_gf _ _ _ _ _ hk]
    by_cases e : k = i
    · subst e; rw [if_pos rfl]; exact ⟨inV_end hv hn hi, sf_upd _ _⟩
    · rw [if_neg e]; exact ⟨rfl, fun _ _ => rfl⟩
  refine ⟨fun k hk hin => ?_, fun j hj => ?_, h.rt, h.dis, h.le40⟩
  · rw [setL_len] at hk
    rw [(key k hk).1] at hin
    obtain ⟨j, hj, hs⟩ := h.fwd k hk hin
    exact ⟨j, hj, (key k hk).2.trans hs⟩
  · obtain ⟨k, hk, hin, hs⟩ := h.fro j hj
    exact ⟨k, by rw [setL_len]; exact hk, by rw [(key k hk).1]; exact hin, (key k hk).2.trans hs⟩
theorem RelV.join {v n : Int} {LS G : List (Nat → Int)} (h : RelV v LS G) (hv : v ≤ n) (f : Nat → Int) : RelV v (LS ++ [lifeOf f (n + 1)]) G := by
  refine ⟨fun k hk hin => ?_, fun j hj => ?_, h.rt, h.dis, h.le40⟩
  · by_cases c : k < LS.length
    · rw [gf_left c] at hin ⊢; exact h.fwd k c hin
    · have : k = LS.length := by simp at hk; omega
      subst this; rw [gf_last, inV_new hv] at hin; cases hin
  · obtain ⟨k, hk, hin, hs⟩ := h.fro j hj
    exact ⟨k, by simp; omega, by rw [gf_left hk]; exact hin, by rw [gf_left hk]; exact hs⟩
theorem bnd_end' {LS : List (Nat → Int)} {m : Int} (hB : Bnd LS m) (i : Nat) : Bnd (setL LS i 25 m) m := by
  intro k hk
  rw [setL_len] at hk
  have := hB k hk
  rw [setL_gf _ _ _ _ _ hk]
  by_cases e : k = i
  · subst e; rw [if_pos rfl]; simp only [upd]; simp; omega
  · rw [if_neg e]; exact this
/-- One edit, done: bounds, and the old versions. -/
theorem EditR.keeps {n : Int} {e : Nat → Int} {LS LS' : List (Nat → Int)} (h : EditR (n + 1) e LS 0 LS') (hn : 0 ≤ n) (hB : Bnd LS (n + 1)) : Bnd LS' (n + 1) ∧ ∀ v, v ≤ n → ∀ G, RelV v LS G → RelV v LS' G := by
  rcases h with ⟨_, hP⟩ | ⟨_, hD⟩ | ⟨_, _, q, _⟩
  · rcases hP with ⟨_, q, _⟩ | ⟨_, ⟨i, hF, _, rfl⟩ | ⟨_, _, q, _⟩ | ⟨_, _, _, rfl⟩⟩
    · omega
    · exact ⟨bnd_join (bnd_end' hB i) (by omega) (Int.le_refl _) _, fun v hv G hR => (hR.end_ hv hn hF.2.1.1).join hv _⟩
    · omega
    · exact ⟨bnd_join hB (by omega) (Int.le_refl _) _, fun v hv G hR => hR.join hv _⟩
  · rcases hD with ⟨i, hF, _, rfl⟩ | ⟨_, q, _⟩
    · exact ⟨bnd_end' hB i, fun v hv G hR => hR.end_ hv hn hF.2.1.1⟩
    · omega
  · omega
theorem batch_joint {n : Int} {es : Nat → Nat → Int} {LS FL : List (Nat → Int)} (hn : 0 ≤ n) (hR : Rel LS FL) (hB : Bnd LS (n + 1)) : ∀ {k : Nat} {LSk FLk : List (Nat → Int)}, (∀ i, i < k → Rt (eF (es i))) → AppK (n + 1) es LS k LSk → EdK es FL k FLk →
    Rel LSk FLk ∧ Bnd LSk (n + 1) ∧ ∀ v, v ≤ n → ∀ G, RelV v LS G → RelV v LSk G
  | 0, _, _, _, h1, h2 => by
    rw [show _ = LS from h1, show _ = FL from h2]; exact ⟨hR, hB, fun _ _ _ h => h⟩
  | k + 1, _, _, hr, ⟨LSm, a1, a2⟩, ⟨FLm, b1, b2⟩ => by
    obtain ⟨q1, q2, q3⟩ := batch_joint hn hR hB (fun i hi => hr i (by omega)) a1 b1
    obtain ⟨_, q4⟩ := q1.step (by omega) (hr k (by omega)) b2 a2
    obtain ⟨q5, q6⟩ := a2.keeps hn q2
    exact ⟨q4, q5, fun v hv G h => q6 v hv G (q3 v hv G h)⟩
theorem AppK.pre {ver : Int} {es : Nat → Nat → Int} {LS : List (Nat → Int)} : ∀ {m : Nat} {L : List (Nat → Int)}, AppK ver es LS m L → ∀ j, j < m → ∃ A B, AppK ver es LS j A ∧ EditR ver (es j) A 0 B
  | 0, _, _, j, hj => by omega
  | m + 1, _, ⟨LSm, a1, a2⟩, j, hj => by
    by_cases c : j = m
    · subst c; exact ⟨LSm, _, a1, a2⟩
    · exact a1.pre j (by omega)
theorem EdK.pre {es : Nat → Nat → Int} {L : List (Nat → Int)} : ∀ {m : Nat} {F : List (Nat → Int)}, EdK es L m F → ∀ j, j < m → ∃ A B, EdK es L j A ∧ EdR (es j) A B
  | 0, _, _, j, hj => by omega
  | m + 1, _, ⟨FLm, a1, a2⟩, j, hj => by
    by_cases c : j = m
    · subst c; exact ⟨FLm, _, a1, a2⟩
    · exact a1.pre j (by omega)
theorem relV_now {n : Int} {LS FL : List (Nat → Int)} (h : Rel LS FL) (hB : Bnd LS n) (h40 : FL.length ≤ 40) : RelV n LS FL := by
  refine ⟨fun i hi hin => ?_, fun j hj => ?_, h.rt, h.dis, h40⟩
  · rw [inV_now (hB i hi), decide_eq_true_eq] at hin
    exact h.fwd i hi hin
  · obtain ⟨i, hi, h25, hs⟩ := h.fro j hj
    exact ⟨i, hi, by rw [inV_now (hB i hi)]; exact decide_eq_true h25, hs⟩
theorem relV_nil : RelV 0 [] [] := relV_now rel_nil (fun i hi => by simp at hi) (by simp)
/-- Rows of another kind lie in another block. -/
theorem OwnC.ty {T : TypeId} {m : Nat} {w : World} {B : Nat} {v : Value} {l : List (Nat → Int)} (h : OwnC T m w B v l) {g : Nat} (hg : v.ownBlock = some g) : ∃ cur, w.heap[g]? = some (.cells cur T (0, 0)) := by
  rcases h.2 with ⟨rfl, _⟩ | ⟨g', cap, cur, rfl, _, hh, _⟩
  · simp [Value.ownBlock] at hg
  · simp only [Value.ownBlock, Option.some.injEq] at hg
    subst hg; exact ⟨cur, hh⟩
theorem row_ty {T : TypeId} {m n : Nat} {w : World} {B : Nat} {v : Value} {xs : List Value} (h : w.ownsRow B T m v n xs) {g : Nat} (hg : v.ownBlock = some g) : ∃ cur, w.heap[g]? = some (.cells cur T (0, 0)) := by
  rcases h.2 with ⟨rfl, _⟩ | ⟨g', cap, cur, rfl, _, hh, _⟩
  · simp [Value.ownBlock] at hg
  · simp only [Value.ownBlock, Option.some.injEq] at hg
    subst hg; exact ⟨cur, hh⟩
theorem blk_ne {w : World} {g g' : Nat} {c c' : Array Value} {T T' : TypeId} {f f' : Nat × Nat} (h : w.heap[g]? = some (.cells c T f)) (h' : w.heap[g']? = some (.cells c' T' f')) (hT : T ≠ T') : g ≠ g' := by
  intro e; subst e; rw [h] at h'; simp only [Option.some.injEq, Obj.cells.injEq] at h'; exact hT h'.2.1
theorem mkE_op (e : Nat → Int) : mkE e 0 = 0 ∨ mkE e 0 = 1 := by
  have := pk_in (e 0) (n := 2) (by omega)
  unfold mkE editOf
  rw [if_pos rfl]
  omega

/-- What is past: the store, what each version was, the pins that were given. -/
structure Past (w : World) (pb sb : Nat) (keep : Int) (n : Nat) (wv pp sl pv : Value) (WV : List Value) (FLs : Nat → List (Nat → Int)) (LS : List (Nat → Int)) (PI : List Int) : Prop where
  lt : sb < pb
  blk : w.heap[pb]? = some (.cells #[.pointer (some ⟨sb, 0, none⟩), .int .i64 keep, wv, pp] 32 (0, 0))
  sto : StP w sb keep n sl pv LS (ri PI)
  row : w.ownsRow (sb + 1) 43 1 wv (n + 1) WV
  was : ∀ v, v ≤ n → ∃ fv, WV[v]? = some fv ∧ OwnC 54 24 w (sb + 1) fv (FLs v)
  pin : OwnC 3 1 w (sb + 1) pp (ri PI)
  dis : ∀ g, pv.ownBlock = some g → pp.ownBlock ≠ some g
  rel : Rel LS (FLs n)
  bnd : Bnd LS n
  hist : ∀ v : Nat, v ≤ n → RelV v LS (FLs v)
  len : LS.length ≤ 8 * n
  n100 : n ≤ 100
  p6 : PI.length ≤ 6
  kp : 0 ≤ keep ∧ keep ≤ 4
theorem rowOn {T : TypeId} {m n : Nat} {w w' : World} {B : Nat} {v : Value} {xs : List Value} (h : w.ownsRow B T m v n xs) (hg : ∀ g, v.ownBlock = some g → w'.heap[g]? = w.heap[g]?) : w'.ownsRow B T m v n xs := by
  obtain ⟨h1, h2⟩ := h
  refine ⟨h1, ?_⟩
  rcases h2 with h2 | ⟨g, cap, cur, hv, hg', hh, r⟩
  · exact Or.inl h2
  · exact Or.inr ⟨g, cap, cur, hv, hg', (hg g (by rw [hv]; rfl)).trans hh, r⟩
theorem Past.on {w w' : World} {pb sb : Nat} {keep : Int} {n : Nat} {wv pp sl pv : Value} {WV : List Value} {FLs : Nat → List (Nat → Int)} {LS : List (Nat → Int)} {PI : List Int} (h : Past w pb sb keep n wv pp sl pv WV FLs LS PI) (hb : Below w.heap.size w w') : Past w' pb sb keep n wv pp sl pv WV FLs LS PI :=
  ⟨h.lt, blk_on h.blk hb, h.sto.on hb, rowOn h.row fun g hg => hb.block g (World.ownsRow.lt h.row g hg).2, fun v hv => by
    obtain ⟨fv, e, ho⟩ := h.was v hv
    exact ⟨fv, e, ho.on hb⟩, h.pin.on hb, h.dis, h.rel, h.bnd, h.hist, h.len, h.n100, h.p6, h.kp⟩
theorem Past.cells {w : World} {pb sb : Nat} {keep : Int} {n : Nat} {wv pp sl pv : Value} {WV : List Value} {FLs : Nat → List (Nat → Int)} {LS : List (Nat → Int)} {PI : List Int} (h : Past w pb sb keep n wv pp sl pv WV FLs LS PI) :
    w.cell? ⟨pb, 0, none⟩ = some (.pointer (some ⟨sb, 0, none⟩)) ∧ w.cell? ⟨pb, 1, none⟩ = some (.int .i64 keep) ∧ w.cell? ⟨pb, 2, none⟩ = some wv ∧ w.cell? ⟨pb, 3, none⟩ = some pp :=
  ⟨(blk_cells h.blk 0).trans rfl, (blk_cells h.blk 1).trans rfl, (blk_cells h.blk 2).trans rfl, (blk_cells h.blk 3).trans rfl⟩
end Go.Proofs.Ytppcpbhnpdjfpab
