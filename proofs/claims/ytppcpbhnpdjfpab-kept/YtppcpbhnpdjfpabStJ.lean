/-
  STORE AND LIST BESIDE EACH OTHER: the mathematics of Still.
-/
import Derived.Test.YtppcpbhnpdjfpabStI
namespace Go.Proofs.Ytppcpbhnpdjfpab
open Go.RowKit

/-- One feature? -/
def SF (a b : Nat → Int) : Prop := ∀ k, k < 24 → a k = b k
theorem SF.symm {a b : Nat → Int} (h : SF a b) : SF b a := fun k hk => (h k hk).symm
theorem SF.trans {a b c : Nat → Int} (h : SF a b) (h' : SF b c) : SF a c := fun k hk => (h k hk).trans (h' k hk)
theorem sf_upd (g : Nat → Int) (x : Int) : SF (upd g 25 x) g := fun k hk => by simp only [upd]; rw [if_neg (by omega)]
theorem sf_life (f : Nat → Int) (ver : Int) : SF (lifeOf f ver) f := fun k hk => by simp only [lifeOf]; rw [if_pos hk]
theorem right_ext {f g : Nat → Int} (h : SF f g) : right f = right g := by
  have hp : ∀ i, i < 8 → pt f i = pt g i := fun i hi => by simp only [pt, h (8 + i) (by omega), h (16 + i) (by omega), h 7 (by omega)]
  have hps : pts f 8 = pts g 8 := by
    rw [Bool.eq_iff_iff]
    simp only [pts, List.all_eq_true, List.mem_range]
    exact ⟨fun H i hi => by rw [← hp i hi]; exact H i hi, fun H i hi => by rw [hp i hi]; exact H i hi⟩
  simp only [right, traits, form, hps, h 0 (by omega), h 1 (by omega), h 2 (by omega), h 3 (by omega), h 4 (by omega), h 5 (by omega), h 6 (by omega), h 7 (by omega)]
theorem axT_ext {a b : Nat → Int} {n : Nat} {r lo hi : Int} (h : ∀ i, i < n → a i = b i) : axT a n r lo hi = axT b n r lo hi := by
  have h1 : apB a r lo n = apB b r lo n := by
    rw [Bool.eq_iff_iff]
    simp only [apB, List.all_eq_true, List.mem_range]
    exact ⟨fun H i hi => by rw [← h i hi]; exact H i hi, fun H i hi => by rw [h i hi]; exact H i hi⟩
  have h2 : apA a r hi n = apA b r hi n := by
    rw [Bool.eq_iff_iff]
    simp only [apA, List.all_eq_true, List.mem_range]
    exact ⟨fun H i hi => by rw [← h i hi]; exact H i hi, fun H i hi => by rw [h i hi]; exact H i hi⟩
  rw [axT, axT, h1, h2]
theorem Tch_ext {f g : Nat → Int} (h : SF f g) (l z x y : Int) : Tch f l z x y = Tch g l z x y := by
  unfold Tch
  rw [right_ext h]
  cases hr : right g with
  | false => rfl
  | true =>
    have h7 := n_in (right_out hr)
    have hs : shw f l z = shw g l z := by simp only [shw, h 1 (by omega), h 5 (by omega)]
    rw [hs, h 7 (by omega), h 6 (by omega), axT_ext (a := fun i => f (8 + i)) (b := fun i => g (8 + i)) (fun i hi => h (8 + i) (by omega)), axT_ext (a := fun i => f (16 + i)) (b := fun i => g (16 + i)) (fun i hi => h (16 + i) (by omega))]

/-! How many are there -/
theorem cntL_congr {A B : List (Nat → Int)} : ∀ k, (∀ i, i < k → (gf A i 25 = 0 ↔ gf B i 25 = 0)) → cntL A k = cntL B k
  | 0, _ => rfl
  | k + 1, h => by
    rw [cntL, cntL, cntL_congr k fun i hi => h i (by omega)]
    by_cases c : gf A k 25 = 0
    · rw [if_pos c, if_pos ((h k (by omega)).1 c)]
    · rw [if_neg c, if_neg (fun h' => c ((h k (by omega)).2 h'))]
theorem cntL_less {A B : List (Nat → Int)} (j : Nat) (hj : gf A j 25 = 0) (hj' : gf B j 25 ≠ 0) : ∀ k, j < k → (∀ i, i < k → i ≠ j → (gf A i 25 = 0 ↔ gf B i 25 = 0)) → cntL A k = cntL B k + 1
  | 0, h, _ => by omega
  | k + 1, h, hi => by
    by_cases e : j = k
    · subst e
      rw [cntL, cntL, if_pos hj, if_neg hj', cntL_congr j fun i h' => hi i (by omega) (by omega)]
    · rw [cntL, cntL, cntL_less j hj hj' k (by omega) fun i h' => hi i (by omega)]
      by_cases c : gf A k 25 = 0
      · rw [if_pos c, if_pos ((hi k (by omega) (fun q => e q.symm)).1 c)]
      · rw [if_neg c, if_neg (fun h' => c ((hi k (by omega) (fun q => e q.symm)).2 h'))]
theorem cnt_end {LS : List (Nat → Int)} {i : Nat} (hi : i < LS.length) (h : gf LS i 25 = 0) {ver : Int} (hv : ver ≠ 0) : cntL LS LS.length = cntL (setL LS i 25 ver) (setL LS i 25 ver).length + 1 := by
  rw [setL_len]
  refine cntL_less i h ?_ _ hi fun k hk hne => ?_
  · rw [setL_gf _ _ _ _ _ hi, if_pos rfl]; simpa [upd] using hv
  · rw [setL_gf _ _ _ _ _ hk, if_neg hne]
theorem cnt_new (LS : List (Nat → Int)) (f : Nat → Int) (ver : Int) : cntL (LS ++ [lifeOf f ver]) (LS ++ [lifeOf f ver]).length = cntL LS LS.length + 1 := by
  rw [List.length_append, List.length_singleton, cntL, gf_last, if_pos (by simp [lifeOf])]
  have := cntL_congr (A := LS ++ [lifeOf f ver]) (B := LS) LS.length fun i hi => by rw [gf_left hi]
  omega

/-! The lives that are there, and the features -/
structure Rel (LS FL : List (Nat → Int)) : Prop where
  cnt : cntL LS LS.length = FL.length
  fwd : ∀ i, i < LS.length → gf LS i 25 = 0 → ∃ j, j < FL.length ∧ SF (gf LS i) (gf FL j)
  fro : ∀ j, j < FL.length → ∃ i, i < LS.length ∧ gf LS i 25 = 0 ∧ SF (gf LS i) (gf FL j)
  rt : ∀ j, j < FL.length → Rt (gf FL j)
  dis : ∀ j j', j < FL.length → j' < FL.length → gf FL j 0 = gf FL j' 0 → j = j'
  one : ∀ i i', i < LS.length → i' < LS.length → gf LS i 25 = 0 → gf LS i' 25 = 0 → gf LS i 0 = gf LS i' 0 → i = i'
theorem rel_nil : Rel [] [] := ⟨rfl, fun i hi => by simp at hi, fun i hi => by simp at hi, fun i hi => by simp at hi, fun i j hi => by simp at hi, fun i j hi => by simp at hi⟩
theorem Rel.fst {LS FL : List (Nat → Int)} (h : Rel LS FL) {id : Int} {i : Nat} (hf : Fst LS id i) : ∃ j, j < FL.length ∧ gf FL j 0 = id ∧ SF (gf LS i) (gf FL j) := by
  obtain ⟨j, hj, hs⟩ := h.fwd i hf.1 hf.2.1.1
  exact ⟨j, hj, (hs 0 (by omega)).symm.trans hf.2.1.2, hs⟩
theorem Rel.non {LS FL : List (Nat → Int)} (h : Rel LS FL) {id : Int} (hf : Non LS id) : No FL id := fun j hj e => by
  obtain ⟨i, hi, h25, hs⟩ := h.fro j hj
  exact hf i hi ⟨h25, (hs 0 (by omega)).trans e⟩
/-- A life ends: the feature goes. -/
structure Gone (FL : List (Nat → Int)) (id : Int) (FL' : List (Nat → Int)) : Prop where
  len : FL.length = FL'.length + 1
  sub : ∀ j, j < FL'.length → ∃ a, a < FL.length ∧ gf FL a = gf FL' j ∧ gf FL a 0 ≠ id
  sup : ∀ a, a < FL.length → gf FL a 0 ≠ id → ∃ j, j < FL'.length ∧ gf FL' j = gf FL a
  dis : ∀ j j', j < FL'.length → j' < FL'.length → gf FL' j 0 = gf FL' j' 0 → j = j'
theorem Rel.gone {LS FL FL' : List (Nat → Int)} (h : Rel LS FL) {id : Int} {i : Nat} (hf : Fst LS id i) {ver : Int} (hv : ver ≠ 0) (hg : Gone FL id FL') : Rel (setL LS i 25 ver) FL' := by
  have hc := cnt_end hf.1 hf.2.1.1 hv
  have gs : ∀ k, k < LS.length → gf (setL LS i 25 ver) k 25 = 0 → k ≠ i ∧ gf (setL LS i 25 ver) k = gf LS k ∧ gf LS k 25 = 0 := by
    intro k hk h0
    rw [setL_gf _ _ _ _ _ hk] at h0
    by_cases e : k = i
    · rw [if_pos e] at h0; simp [upd] at h0; exact absurd h0 hv
    · rw [if_neg e] at h0
      exact ⟨e, by rw [setL_gf _ _ _ _ _ hk, if_neg e], h0⟩
  refine ⟨?_, ?_, ?_, ?_, hg.dis, ?_⟩
  · have := h.cnt; have := hg.len; omega
  · intro k hk h0
    rw [setL_len] at hk
    obtain ⟨e1, e2, e3⟩ := gs k hk h0
    obtain ⟨a, ha, hs⟩ := h.fwd k hk e3
    obtain ⟨j, hj, e⟩ := hg.sup a ha (fun e => e1 (h.one k i hk hf.1 e3 hf.2.1.1 (((hs 0 (by omega)).trans e).trans hf.2.1.2.symm)))
    exact ⟨j, hj, by rw [e2, e]; exact hs⟩
  · intro j hj
    obtain ⟨a, ha, e, hne⟩ := hg.sub j hj
    obtain ⟨k, hk, h25, hs⟩ := h.fro a ha
    have hki : k ≠ i := fun q => hne (by rw [← hf.2.1.2, ← q]; exact (hs 0 (by omega)).symm)
    refine ⟨k, by rw [setL_len]; exact hk, ?_, ?_⟩
    · rw [setL_gf _ _ _ _ _ hk, if_neg hki]; exact h25
    · rw [setL_gf _ _ _ _ _ hk, if_neg hki, ← e]; exact hs
  · intro j hj
    obtain ⟨a, ha, e, _⟩ := hg.sub j hj
    rw [← e]; exact h.rt a ha
  · intro k k' hk hk' h0 h0' e
    rw [setL_len] at hk hk'
    obtain ⟨_, e2, e3⟩ := gs k hk h0
    obtain ⟨_, e2', e3'⟩ := gs k' hk' h0'
    rw [e2, e2'] at e
    exact h.one k k' hk hk' e3 e3' e
/-- A new life: the feature joins. -/
theorem Rel.join {LS FL : List (Nat → Int)} (h : Rel LS FL) {f : Nat → Int} (hR : Rt f) (hn : No FL (f 0)) {ver : Int} : Rel (LS ++ [lifeOf f ver]) (FL ++ [f]) := by
  have hx : ∀ i, i < (LS ++ [lifeOf f ver]).length → (i < LS.length ∧ gf (LS ++ [lifeOf f ver]) i = gf LS i) ∨ (i = LS.length ∧ gf (LS ++ [lifeOf f ver]) i = lifeOf f ver) := by
    intro i hi
    by_cases c : i < LS.length
    · exact Or.inl ⟨c, gf_left c⟩
    · have : i = LS.length := by simp at hi; omega
      subst this; exact Or.inr ⟨rfl, gf_last _ _⟩
  have hy : ∀ i, i < (FL ++ [f]).length → (i < FL.length ∧ gf (FL ++ [f]) i = gf FL i) ∨ (i = FL.length ∧ gf (FL ++ [f]) i = f) := by
    intro i hi
    by_cases c : i < FL.length
    · exact Or.inl ⟨c, gf_left c⟩
    · have : i = FL.length := by simp at hi; omega
      subst this; exact Or.inr ⟨rfl, gf_last _ _⟩
  have hid : ∀ i, i < LS.length → gf LS i 25 = 0 → gf LS i 0 ≠ f 0 := fun i hi h0 e => by
    obtain ⟨j, hj, hs⟩ := h.fwd i hi h0
    exact hn j hj ((hs 0 (by omega)).symm.trans e)
  refine ⟨?_, ?_, ?_, ?_, ?_, ?_⟩
  · rw [cnt_new, h.cnt]; simp
  · intro i hi h0
    rcases hx i hi with ⟨c, e⟩ | ⟨c, e⟩
    · rw [e] at h0
      obtain ⟨j, hj, hs⟩ := h.fwd i c h0
      exact ⟨j, by simp; omega, by rw [e, gf_left hj]; exact hs⟩
    · exact ⟨FL.length, by simp, by rw [e, gf_last]; exact sf_life f ver⟩
  · intro j hj
    rcases hy j hj with ⟨c, e⟩ | ⟨c, e⟩
    · obtain ⟨i, hi, h25, hs⟩ := h.fro j c
      exact ⟨i, by simp; omega, by rw [gf_left hi]; exact h25, by rw [gf_left hi, e]; exact hs⟩
    · exact ⟨LS.length, by simp, by rw [gf_last]; simp [lifeOf], by rw [gf_last, e]; exact sf_life f ver⟩
  · intro j hj
    rcases hy j hj with ⟨c, e⟩ | ⟨c, e⟩
    · rw [e]; exact h.rt j c
    · rw [e]; exact hR
  · intro j j' hj hj' e
    rcases hy j hj with ⟨c, e1⟩ | ⟨c, e1⟩ <;> rcases hy j' hj' with ⟨c', e1'⟩ | ⟨c', e1'⟩ <;> rw [e1, e1'] at e
    · exact h.dis j j' c c' e
    · exact absurd e (hn j c)
    · exact absurd e.symm (hn j' c')
    · omega
  · intro i i' hi hi' h0 h0' e
    rcases hx i hi with ⟨c, e1⟩ | ⟨c, e1⟩ <;> rcases hx i' hi' with ⟨c', e1'⟩ | ⟨c', e1'⟩ <;> rw [e1, e1'] at e <;> (rw [e1] at h0) <;> (rw [e1'] at h0')
    · exact h.one i i' c c' h0 h0' e
    · exact absurd (e.trans (sf_life f ver 0 (by omega))) (hid i c h0)
    · exact absurd (e.symm.trans (sf_life f ver 0 (by omega))) (hid i' c' h0')
    · omega
end Go.Proofs.Ytppcpbhnpdjfpab
