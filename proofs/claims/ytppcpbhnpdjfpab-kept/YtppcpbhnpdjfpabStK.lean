/-
  One edit, of the store and of the list.
-/
import Derived.Test.YtppcpbhnpdjfpabStJ
namespace Go.Proofs.Ytppcpbhnpdjfpab
open Go.RowKit

theorem gf_dropLast {l : List (Nat → Int)} {j : Nat} (h : j < l.length - 1) : gf l.dropLast j = gf l j := by
  unfold gf; rw [List.getElem?_dropLast, if_pos h]
theorem gone_drop {FL : List (Nat → Int)} {id : Int} {i : Nat} (hA : At FL id i) (hd : ∀ j j', j < FL.length → j' < FL.length → gf FL j 0 = gf FL j' 0 → j = j') : Gone FL id (FL.set i (gf FL (FL.length - 1))).dropLast := by
  obtain ⟨hi, hid, _⟩ := hA
  have hlen : (FL.set i (gf FL (FL.length - 1))).dropLast.length = FL.length - 1 := by simp
  have hgf : ∀ j, j < FL.length - 1 → gf (FL.set i (gf FL (FL.length - 1))).dropLast j = gf FL (if j = i then FL.length - 1 else j) := by
    intro j hj
    rw [gf_dropLast (by simpa using hj), set_gf _ _ _ _ (by omega)]
    by_cases e : j = i
    · rw [if_pos e, if_pos e]
    · rw [if_neg e, if_neg e]
  refine ⟨by rw [hlen]; omega, ?_, ?_, ?_⟩
  · intro j hj
    rw [hlen] at hj
    refine ⟨if j = i then FL.length - 1 else j, by split <;> omega, (hgf j hj).symm, fun e => ?_⟩
    have := hd _ i (by split <;> omega) hi (e.trans hid.symm)
    revert this
    split <;> omega
  · intro a ha hne
    have hai : a ≠ i := fun e => hne (by rw [e]; exact hid)
    by_cases c : a = FL.length - 1
    · exact ⟨i, by rw [hlen]; omega, by rw [hgf i (by omega), if_pos rfl, c]⟩
    · exact ⟨a, by rw [hlen]; omega, by rw [hgf a (by omega), if_neg hai]⟩
  · intro j j' hj hj' e
    rw [hlen] at hj hj'
    rw [hgf j hj, hgf j' hj'] at e
    have := hd _ _ (by split <;> omega) (by split <;> omega) e
    revert this
    split <;> split <;> omega
theorem Rel.perm {LS FL FL2 : List (Nat → Int)} (h : Rel LS FL) (hl : FL.length = FL2.length) (h1 : ∀ j, j < FL.length → ∃ a, a < FL2.length ∧ gf FL2 a = gf FL j) (h2 : ∀ a, a < FL2.length → ∃ j, j < FL.length ∧ gf FL j = gf FL2 a)
    (hd : ∀ j j', j < FL2.length → j' < FL2.length → gf FL2 j 0 = gf FL2 j' 0 → j = j') : Rel LS FL2 := by
  refine ⟨h.cnt.trans hl, ?_, ?_, ?_, hd, h.one⟩
  · intro i hi h0
    obtain ⟨j, hj, hs⟩ := h.fwd i hi h0
    obtain ⟨a, ha, e⟩ := h1 j hj
    exact ⟨a, ha, by rw [e]; exact hs⟩
  · intro a ha
    obtain ⟨j, hj, e⟩ := h2 a ha
    obtain ⟨i, hi, h25, hs⟩ := h.fro j hj
    exact ⟨i, hi, h25, by rw [← e]; exact hs⟩
  · intro a ha
    obtain ⟨j, hj, e⟩ := h2 a ha
    rw [← e]; exact h.rt j hj
theorem Rel.swap {LS FL : List (Nat → Int)} (h : Rel LS FL) {f : Nat → Int} (hR : Rt f) {i j : Nat} (hf : Fst LS (f 0) i) (hA : At FL (f 0) j) {ver : Int} (hv : ver ≠ 0) : Rel (setL LS i 25 ver ++ [lifeOf f ver]) (FL.set j f) := by
  have hg := gone_drop hA h.dis
  have hr := h.gone hf hv hg
  have hno : No (FL.set j (gf FL (FL.length - 1))).dropLast (f 0) := fun a ha e => by
    obtain ⟨b, hb, e1, hne⟩ := hg.sub a ha
    exact hne (by rw [e1]; exact e)
  have hj := hr.join (ver := ver) hR hno
  generalize (FL.set j (gf FL (FL.length - 1))).dropLast = G at hg hr hno hj
  have hx : ∀ a, a < FL.length → a ≠ j → gf FL a 0 ≠ f 0 := fun a ha hne e => hne (h.dis a j ha hA.1 (e.trans hA.2.1.symm))
  refine hj.perm (by simp [hg.len]) ?_ ?_ ?_
  · intro b hb
    by_cases c : b < G.length
    · obtain ⟨a, ha, e, hne⟩ := hg.sub b c
      refine ⟨a, by simpa using ha, ?_⟩
      rw [gf_left c, set_gf _ _ _ _ ha, if_neg (fun q => hne (by rw [q]; exact hA.2.1)), e]
    · have : b = G.length := by simp at hb; omega
      subst this
      exact ⟨j, by simpa using hA.1, by rw [gf_last, set_gf _ _ _ _ hA.1, if_pos rfl]⟩
  · intro a ha
    have ha' : a < FL.length := by simpa using ha
    by_cases c : a = j
    · subst c
      exact ⟨G.length, by simp, by rw [gf_last, set_gf _ _ _ _ ha', if_pos rfl]⟩
    · obtain ⟨b, hb, e⟩ := hg.sup a ha' (hx a ha' c)
      exact ⟨b, by simp; omega, by rw [gf_left hb, e, set_gf _ _ _ _ ha', if_neg c]⟩
  · intro a a' ha ha' e
    have ha1 : a < FL.length := by simpa using ha
    have ha2 : a' < FL.length := by simpa using ha'
    rw [set_gf _ _ _ _ ha1, set_gf _ _ _ _ ha2] at e
    by_cases c : a = j <;> by_cases c' : a' = j
    · omega
    · rw [if_pos c, if_neg c'] at e; exact absurd e.symm (hx a' ha2 c')
    · rw [if_neg c, if_pos c'] at e; exact absurd e (hx a ha1 c)
    · rw [if_neg c, if_neg c'] at e; exact h.dis a a' ha1 ha2 e
theorem At.eq {FL : List (Nat → Int)} {id : Int} {i j : Nat} (h : At FL id i) (h' : At FL id j) : i = j := by
  rcases Nat.lt_trichotomy i j with c | c | c
  · exact absurd h.2.1 (h'.2.2 i c)
  · exact c
  · exact absurd h'.2.1 (h.2.2 j c)
theorem Rel.step {LS FL LS' FL' : List (Nat → Int)} {e : Nat → Int} {r ver : Int} (h : Rel LS FL) (hv : ver ≠ 0) (hf : Rt (eF e)) (hE : EdR e FL FL') (hA : EditR ver e LS r LS') : r = 0 ∧ Rel LS' FL' := by
  have hrt : right (fun j => e (1 + j)) = true := right_in hf
  rcases hA with ⟨h0, hP⟩ | ⟨h1, hD⟩ | ⟨n0, n1, _, _⟩
  · rcases hP with ⟨hr, _⟩ | ⟨_, ⟨i, hF, hr, hL⟩ | ⟨hN, h40, _, _⟩ | ⟨hN, h40, hr, hL⟩⟩
    · rw [hrt] at hr; cases hr
    · subst hL
      rcases hE with ⟨_, j, hAt, rfl⟩ | ⟨_, hNo, _, _⟩ | ⟨q, _⟩
      · exact ⟨hr, h.swap hf hF hAt hv⟩
      · obtain ⟨j, hj, hid, _⟩ := h.fst hF
        exact absurd hid (hNo j hj)
      · omega
    · have hNo := h.non hN
      rcases hE with ⟨_, j, hAt, _⟩ | ⟨_, _, hlt, _⟩ | ⟨q, _⟩
      · exact absurd hAt.2.1 (hNo j hAt.1)
      · have := h.cnt; omega
      · omega
    · have hNo := h.non hN
      subst hL
      rcases hE with ⟨_, j, hAt, _⟩ | ⟨_, _, hlt, rfl⟩ | ⟨q, _⟩
      · exact absurd hAt.2.1 (hNo j hAt.1)
      · exact ⟨hr, h.join hf hNo⟩
      · omega
  · rcases hD with ⟨i, hF, hr, hL⟩ | ⟨hN, _, _⟩
    · subst hL
      rcases hE with ⟨q, _⟩ | ⟨q, _⟩ | ⟨_, j, hAt, rfl⟩
      · omega
      · omega
      · exact ⟨hr, h.gone hF hv (gone_drop hAt h.dis)⟩
    · have hNo := h.non hN
      rcases hE with ⟨q, _⟩ | ⟨q, _⟩ | ⟨_, j, hAt, _⟩
      · omega
      · omega
      · exact absurd hAt.2.1 (hNo j hAt.1)
  · rcases hE with ⟨q, _⟩ | ⟨q, _⟩ | ⟨q, _⟩ <;> omega
theorem Rel.noStep {LS FL LS' : List (Nat → Int)} {e : Nat → Int} {r ver : Int} (h : Rel LS FL) (hE : EdN e FL) (hA : EditR ver e LS r LS') : r ≠ 0 := by
  rcases hA with ⟨h0, hP⟩ | ⟨h1, hD⟩ | ⟨n0, n1, hr, _⟩
  · rcases hP with ⟨_, hr, _⟩ | ⟨_, ⟨i, hF, hr, hL⟩ | ⟨hN, h40, hr, _⟩ | ⟨hN, h40, hr, hL⟩⟩
    · omega
    · obtain ⟨j, hj, hid, _⟩ := h.fst hF
      rcases hE with ⟨_, hNo, _⟩ | ⟨q, _⟩ | ⟨q, _⟩
      · exact absurd hid (hNo j hj)
      · omega
      · omega
    · omega
    · have := h.cnt
      rcases hE with ⟨_, hNo, q⟩ | ⟨q, _⟩ | ⟨q, _⟩ <;> omega
  · rcases hD with ⟨i, hF, hr, hL⟩ | ⟨hN, hr, _⟩
    · obtain ⟨j, hj, hid, _⟩ := h.fst hF
      rcases hE with ⟨q, _⟩ | ⟨_, hNo⟩ | ⟨_, q⟩
      · omega
      · exact absurd hid (hNo j hj)
      · omega
    · omega
  · omega

/-! Stamps -/
section
variable {v l z x y : Int} {LS : List (Nat → Int)}
theorem stp_nn (v l z x y : Int) (LS : List (Nat → Int)) : ∀ k, 0 ≤ stp v l z x y LS k
  | 0 => Int.le_refl _
  | k + 1 => by
    have ih := stp_nn v l z x y LS k
    cases h : (decide (stp v l z x y LS k < lc v (gf LS k)) && Tch (gf LS k) l z x y) with
    | false => rw [stp_no h]; exact ih
    | true => rw [stp_yes h]; rw [Bool.and_eq_true, decide_eq_true_eq] at h; omega
theorem stp_le {M : Int} (hM : 0 ≤ M) : ∀ k, (∀ i, i < k → lc v (gf LS i) ≤ M) → stp v l z x y LS k ≤ M
  | 0, _ => hM
  | k + 1, hk => by
    have ih := stp_le hM k fun i hi => hk i (by omega)
    have := hk k (by omega)
    cases h : (decide (stp v l z x y LS k < lc v (gf LS k)) && Tch (gf LS k) l z x y) with
    | false => rw [stp_no h]; exact ih
    | true => rw [stp_yes h]; exact this
theorem stp_ge : ∀ k i, i < k → Tch (gf LS i) l z x y = true → lc v (gf LS i) ≤ stp v l z x y LS k
  | 0, i, h, _ => by omega
  | k + 1, i, hi, ht => by
    cases h : (decide (stp v l z x y LS k < lc v (gf LS k)) && Tch (gf LS k) l z x y) with
    | false =>
      rw [stp_no h]
      by_cases e : i = k
      · subst e
        rw [ht, Bool.and_true, decide_eq_false_iff_not] at h
        omega
      · exact stp_ge k i (by omega) ht
    | true =>
      rw [stp_yes h]
      by_cases e : i = k
      · subst e; exact Int.le_refl _
      · have := stp_ge k i (by omega) ht
        rw [Bool.and_eq_true, decide_eq_true_eq] at h
        omega
theorem stp_congr {v' : Int} {LS' : List (Nat → Int)} : ∀ k, (∀ i, i < k → Tch (gf LS' i) l z x y = Tch (gf LS i) l z x y ∧ (Tch (gf LS i) l z x y = true → lc v' (gf LS' i) = lc v (gf LS i))) → stp v' l z x y LS' k = stp v l z x y LS k
  | 0, _ => rfl
  | k + 1, h => by
    have ih := stp_congr k fun i hi => h i (by omega)
    obtain ⟨h1, h2⟩ := h k (by omega)
    rw [stp, stp, ih, h1]
    cases ht : Tch (gf LS k) l z x y with
    | false => rw [Bool.and_false, Bool.and_false]; rfl
    | true => rw [h2 ht]
end
/-- Up to which version lives have changed. -/
def Bnd (LS : List (Nat → Int)) (n : Int) : Prop := ∀ i, i < LS.length → gf LS i 24 ≤ n ∧ gf LS i 25 ≤ n
theorem lc_le {v : Int} {g : Nat → Int} (h : 0 ≤ v) : lc v g ≤ v := by unfold lc; split <;> (try split) <;> omega
theorem lc_up {n : Int} {g : Nat → Int} (h : g 24 ≤ n ∧ g 25 ≤ n) : lc (n + 1) g = lc n g := by
  unfold lc
  by_cases c : g 25 = 0
  · rw [if_neg (c := g 25 ≠ 0 ∧ g 25 ≤ n + 1) (fun hh => hh.1 c), if_neg (c := g 25 ≠ 0 ∧ g 25 ≤ n) (fun hh => hh.1 c), if_pos (c := g 24 ≤ n + 1) (by omega), if_pos (c := g 24 ≤ n) (by omega)]
  · rw [if_pos ⟨c, by omega⟩, if_pos ⟨c, by omega⟩]
theorem lc_life_old {v n : Int} {f : Nat → Int} (h : v ≤ n) : lc v (lifeOf f (n + 1)) = 0 := by
  unfold lc lifeOf
  simp only [show ¬ (25 : Nat) < 24 by omega, show ¬ (24 : Nat) < 24 by omega, if_false, if_true, show ¬ (25 : Nat) = 24 by omega]
  rw [if_neg (by omega), if_neg (by omega)]
theorem lc_life_new {n : Int} {f : Nat → Int} : lc (n + 1) (lifeOf f (n + 1)) = n + 1 := by
  unfold lc lifeOf
  simp only [show ¬ (25 : Nat) < 24 by omega, show ¬ (24 : Nat) < 24 by omega, if_false, if_true, show ¬ (25 : Nat) = 24 by omega]
  rw [if_neg (by omega), if_pos (by omega)]
theorem lc_end_old {v n : Int} {g : Nat → Int} (h : v ≤ n) (h0 : g 25 = 0) : lc v (upd g 25 (n + 1)) = lc v g := by
  unfold lc upd
  simp only [if_true, show ¬ (24 : Nat) = 25 by omega, if_false]
  rw [if_neg (by omega), if_neg (c := g 25 ≠ 0 ∧ g 25 ≤ v) (by omega)]
theorem lc_end_new {n : Int} {g : Nat → Int} (hn : 0 ≤ n) : lc (n + 1) (upd g 25 (n + 1)) = n + 1 := by
  unfold lc upd
  simp only [if_true]
  rw [if_pos (by omega)]
section
variable {n l z x y : Int} {LS : List (Nat → Int)}
theorem stp_end_old {v : Int} {i : Nat} (hi : i < LS.length) (h0 : gf LS i 25 = 0) (hv : v ≤ n) : stp v l z x y (setL LS i 25 (n + 1)) (setL LS i 25 (n + 1)).length = stp v l z x y LS LS.length := by
  rw [setL_len]
  refine stp_congr _ fun k hk => ?_
  rw [setL_gf _ _ _ _ _ hk]
  by_cases e : k = i
  · subst e; rw [if_pos rfl]; exact ⟨Tch_ext (sf_upd _ _) _ _ _ _, fun _ => lc_end_old hv h0⟩
  · rw [if_neg e]; exact ⟨rfl, fun _ => rfl⟩
theorem stp_end_new {i : Nat} (hi : i < LS.length) (hn : 0 ≤ n) : stp (n + 1) l z x y (setL LS i 25 (n + 1)) (setL LS i 25 (n + 1)).length = bif Tch (gf LS i) l z x y then n + 1 else stp (n + 1) l z x y LS LS.length := by
  cases ht : Tch (gf LS i) l z x y with
  | true =>
    have hg : gf (setL LS i 25 (n + 1)) i = upd (gf LS i) 25 (n + 1) := by rw [setL_gf _ _ _ _ _ hi, if_pos rfl]
    have h1 := stp_ge (v := n + 1) (LS := setL LS i 25 (n + 1)) (l := l) (z := z) (x := x) (y := y) (setL LS i 25 (n + 1)).length i (by rw [setL_len]; exact hi) (by rw [hg, Tch_ext (sf_upd _ _)]; exact ht)
    rw [hg, lc_end_new hn] at h1
    have h2 := stp_le (v := n + 1) (LS := setL LS i 25 (n + 1)) (l := l) (z := z) (x := x) (y := y) (M := n + 1) (by omega) (setL LS i 25 (n + 1)).length fun k _ => lc_le (by omega)
    exact Int.le_antisymm h2 h1
  | false =>
    rw [setL_len]
    refine stp_congr _ fun k hk => ?_
    rw [setL_gf _ _ _ _ _ hk]
    by_cases e : k = i
    · subst e; rw [if_pos rfl]; exact ⟨Tch_ext (sf_upd _ _) _ _ _ _, fun q => by rw [ht] at q; cases q⟩
    · rw [if_neg e]; exact ⟨rfl, fun _ => rfl⟩
theorem stp_app {v : Int} (f : Nat → Int) (ver : Int) : stp v l z x y (LS ++ [lifeOf f ver]) LS.length = stp v l z x y LS LS.length :=
  stp_congr _ fun k hk => by rw [gf_left hk]; exact ⟨rfl, fun _ => rfl⟩
theorem stp_join_old {v : Int} (f : Nat → Int) (hv : v ≤ n) : stp v l z x y (LS ++ [lifeOf f (n + 1)]) (LS ++ [lifeOf f (n + 1)]).length = stp v l z x y LS LS.length := by
  have := stp_nn v l z x y LS LS.length
  rw [List.length_append, List.length_singleton, stp_no, stp_app]
  rw [stp_app, gf_last, lc_life_old hv, decide_eq_false (by omega), Bool.false_and]
theorem stp_join_new (f : Nat → Int) (hn : 0 ≤ n) : stp (n + 1) l z x y (LS ++ [lifeOf f (n + 1)]) (LS ++ [lifeOf f (n + 1)]).length = bif Tch f l z x y then n + 1 else stp (n + 1) l z x y LS LS.length := by
  have hle := stp_le (v := n + 1) (LS := LS) (l := l) (z := z) (x := x) (y := y) (M := n + 1) (by omega) LS.length fun k _ => lc_le (by omega)
  rw [List.length_append, List.length_singleton]
  cases ht : Tch f l z x y with
  | false => rw [stp_no, stp_app]; · rfl
             rw [gf_last, Tch_ext (sf_life f (n + 1)), ht, Bool.and_false]
  | true =>
    by_cases c : stp (n + 1) l z x y LS LS.length < n + 1
    · rw [stp_yes, gf_last, lc_life_new]; · rfl
      rw [stp_app, gf_last, Tch_ext (sf_life f (n + 1)), ht, Bool.and_true, lc_life_new]
      exact decide_eq_true c
    · rw [stp_no, stp_app]
      · show _ = n + 1; omega
      · rw [stp_app, gf_last, Tch_ext (sf_life f (n + 1)), ht, Bool.and_true, lc_life_new]
        exact decide_eq_false c
theorem stp_up (hB : Bnd LS n) : stp (n + 1) l z x y LS LS.length = stp n l z x y LS LS.length :=
  stp_congr _ fun k hk => ⟨rfl, fun _ => lc_up (hB k hk)⟩
end
end Go.Proofs.Ytppcpbhnpdjfpab
