/-
  One step of Still.
-/
import Derived.Test.YtppcpbhnpdjfpabStK
namespace Go.Proofs.Ytppcpbhnpdjfpab
open Go.RowKit

theorem find_first (FL : List (Nat → Int)) (id : Int) : (∃ i, At FL id i) ∨ No FL id := by
  have key : ∀ k, k ≤ FL.length → (∃ i, At FL id i) ∨ ∀ i, i < k → gf FL i 0 ≠ id := by
    intro k
    induction k with
    | zero => exact fun _ => Or.inr fun i hi => absurd hi (by omega)
    | succ k ih =>
      intro hk
      rcases ih (by omega) with h | h
      · exact Or.inl h
      · by_cases c : gf FL k 0 = id
        · exact Or.inl ⟨k, by omega, c, h⟩
        · refine Or.inr fun i hi => ?_
          by_cases e : i = k
          · subst e; exact c
          · exact h i (by omega)
  exact key FL.length (Nat.le_refl _)
theorem tcR_ex (FL : List (Nat → Int)) (e : Nat → Int) (l z x y : Int) : ∃ t, TcR FL e l z x y t := by
  rcases find_first FL (e 1) with ⟨i, h⟩ | h
  · exact ⟨_, Or.inl ⟨i, h, rfl⟩⟩
  · exact ⟨_, Or.inr ⟨h, rfl⟩⟩
theorem TcR.eq {FL : List (Nat → Int)} {e : Nat → Int} {l z x y : Int} {t t' : Bool} (h : TcR FL e l z x y t) (h' : TcR FL e l z x y t') : t = t' := by
  rcases h with ⟨i, hi, rfl⟩ | ⟨hn, rfl⟩ <;> rcases h' with ⟨j, hj, rfl⟩ | ⟨hm, rfl⟩
  · rw [hi.eq hj]
  · exact absurd hi.2.1 (hm i hi.1)
  · exact absurd hj.2.1 (hn j hj.1)
  · rfl
/-- Where no touching feature came or went the tile is what it was. -/
theorem tile_same {FL FL' : List (Nat → Int)} {e : Nat → Int} {l z x y : Int} (hr : ∀ j, j < FL.length → Rt (gf FL j)) (hr' : ∀ j, j < FL'.length → Rt (gf FL' j)) (hd : ∀ j j', j < FL.length → j' < FL.length → gf FL j 0 = gf FL j' 0 → j = j')
    (he : keyErr l z x y = 0) (hf : Rt (eF e)) (hE : EdR e FL FL') (hT : TcR FL e l z x y false) : pic (gf FL') FL'.length l z x y 64 = pic (gf FL) FL.length l z x y 64 := by
  refine ink_of_top fun p hp => top_set l z _ _ _ hr hr' ?_ ?_ (fun i j hi hj e => by rw [hd i j hi hj e])
  · intro a ha hv
    rcases hE with ⟨h0, j, hA, rfl⟩ | ⟨h0, hN, _, rfl⟩ | ⟨h1, j, hA, rfl⟩
    · by_cases c : a = j
      · subst c
        rcases hT with ⟨i, hi, ht⟩ | ⟨hn, _⟩
        · rw [hi.eq hA] at ht
          have := ht.symm
          rw [Bool.or_eq_false_iff] at this
          rw [far_vis (hr a ha) he this.1 p hp] at hv; cases hv
        · exact absurd hA.2.1 (hn a hA.1)
      · exact ⟨a, by simpa using ha, by rw [set_gf _ _ _ _ ha, if_neg c]⟩
    · exact ⟨a, by simp; omega, gf_left ha⟩
    · have hg := gone_drop hA hd
      by_cases c : a = j
      · subst c
        rcases hT with ⟨i, hi, ht⟩ | ⟨hn, _⟩
        · rw [hi.eq hA] at ht
          have := ht.symm
          rw [Bool.or_eq_false_iff] at this
          rw [far_vis (hr a ha) he this.1 p hp] at hv; cases hv
        · exact absurd hA.2.1 (hn a hA.1)
      · exact hg.sup a ha (fun q => c (hd a j ha hA.1 (q.trans hA.2.1.symm)))
  · intro b hb hv
    rcases hE with ⟨h0, j, hA, rfl⟩ | ⟨h0, hN, _, rfl⟩ | ⟨h1, j, hA, rfl⟩
    · have hb' : b < FL.length := by simpa using hb
      by_cases c : b = j
      · subst c
        rw [set_gf _ _ _ _ hb', if_pos rfl] at hv
        have ht : Tch (eF e) l z x y = false := by
          rcases hT with ⟨i, _, ht⟩ | ⟨hn, _⟩
          · have := ht.symm
            rw [Bool.or_eq_false_iff, h0] at this
            simpa using this.2
          · exact absurd hA.2.1 (hn b hA.1)
        rw [far_vis hf he ht p hp] at hv; cases hv
      · exact ⟨b, hb', by rw [set_gf _ _ _ _ hb', if_neg c]⟩
    · by_cases c : b < FL.length
      · exact ⟨b, c, (gf_left c).symm⟩
      · have : b = FL.length := by simp at hb; omega
        subst this
        rw [gf_last] at hv
        have ht : Tch (eF e) l z x y = false := by
          rcases hT with ⟨i, hi, _⟩ | ⟨_, ht⟩
          · exact absurd hi.2.1 (hN i hi.1)
          · have := ht.symm
            rw [h0] at this
            simpa using this
        rw [far_vis hf he ht p hp] at hv; cases hv
    · obtain ⟨a, ha, e1, _⟩ := (gone_drop hA hd).sub b hb
      exact ⟨a, ha, e1⟩
theorem bnd_end {LS : List (Nat → Int)} {n : Int} (hB : Bnd LS n) (i : Nat) : Bnd (setL LS i 25 (n + 1)) (n + 1) := by
  intro k hk
  rw [setL_len] at hk
  have := hB k hk
  rw [setL_gf _ _ _ _ _ hk]
  by_cases e : k = i
  · subst e; rw [if_pos rfl]; simp only [upd]; simp; omega
  · rw [if_neg e]; omega
theorem bnd_join {LS : List (Nat → Int)} {n m : Int} (hB : Bnd LS n) (hm : 0 ≤ m) (hnm : n ≤ m) (f : Nat → Int) : Bnd (LS ++ [lifeOf f m]) m := by
  intro k hk
  by_cases c : k < LS.length
  · have := hB k c; rw [gf_left c]; omega
  · have : k = LS.length := by simp at hk; omega
    subst this; rw [gf_last]; simp [lifeOf]; exact hm
/-- What one edit that can be done makes of it all. -/
theorem still_step {LS FL LS' FL' : List (Nat → Int)} {e : Nat → Int} {r n l z x y : Int} {t : Bool} (h : Rel LS FL) (hB : Bnd LS n) (hn : 0 ≤ n) (hf : Rt (eF e)) (hE : EdR e FL FL') (hA : EditR (n + 1) e LS r LS') (hT : TcR FL e l z x y t) (he : keyErr l z x y = 0) :
    r = 0 ∧ Rel LS' FL' ∧ Bnd LS' (n + 1) ∧ (∀ v, v ≤ n → stp v l z x y LS' LS'.length = stp v l z x y LS LS.length) ∧ stp (n + 1) l z x y LS' LS'.length = (bif t then n + 1 else stp n l z x y LS LS.length) ∧
      (t = false → pic (gf FL') FL'.length l z x y 64 = pic (gf FL) FL.length l z x y 64) := by
  obtain ⟨hr, hR'⟩ := h.step (by omega) hf hE hA
  refine ⟨hr, hR', ?_⟩
  refine (fun (q : Bnd LS' (n + 1) ∧ (∀ v, v ≤ n → stp v l z x y LS' LS'.length = stp v l z x y LS LS.length) ∧ stp (n + 1) l z x y LS' LS'.length = (bif t then n + 1 else stp n l z x y LS LS.length)) => ⟨q.1, q.2.1, q.2.2, fun ht => tile_same h.rt hR'.rt h.dis he hf hE (ht ▸ hT)⟩) ?_
  have tOf : ∀ i, Fst LS (e 1) i → t = (Tch (gf LS i) l z x y || (decide (e 0 = 0) && Tch (eF e) l z x y)) := by
    intro i hF
    obtain ⟨j, hj, hid, hs⟩ := h.fst hF
    rcases hT with ⟨a, ha, ht⟩ | ⟨hno, _⟩
    · have : a = j := h.dis a j ha.1 hj (ha.2.1.trans hid.symm)
      rw [ht, this, Tch_ext hs]
    · exact absurd hid (hno j hj)
  have tNo : Non LS (e 1) → t = (decide (e 0 = 0) && Tch (eF e) l z x y) := by
    intro hN
    have hNo := h.non hN
    rcases hT with ⟨a, ha, _⟩ | ⟨_, ht⟩
    · exact absurd ha.2.1 (hNo a ha.1)
    · exact ht
  rcases hA with ⟨h0, hP⟩ | ⟨h1, hD⟩ | ⟨_, _, q, _⟩
  · rcases hP with ⟨_, q, _⟩ | ⟨_, ⟨i, hF, _, rfl⟩ | ⟨_, _, q, _⟩ | ⟨hN, _, _, rfl⟩⟩
    · omega
    · have ht := tOf i hF
      rw [h0, decide_eq_true rfl, Bool.true_and] at ht
      have hb := bnd_end hB i
      refine ⟨bnd_join hb (by omega) (Int.le_refl _) _, fun v hv => ?_, ?_⟩
      · rw [stp_join_old _ hv, stp_end_old hF.1 hF.2.1.1 hv]
      · rw [stp_join_new _ hn, stp_end_new hF.1 hn, stp_up hB, ht]
        show (bif Tch (eF e) l z x y then _ else _) = _
        cases Tch (eF e) l z x y <;> cases Tch (gf LS i) l z x y <;> rfl
    · omega
    · have ht := tNo hN
      rw [h0, decide_eq_true rfl, Bool.true_and] at ht
      refine ⟨bnd_join hB (by omega) (by omega) _, fun v hv => stp_join_old _ hv, ?_⟩
      rw [stp_join_new _ hn, stp_up hB, ht]
      rfl
  · rcases hD with ⟨i, hF, _, rfl⟩ | ⟨_, q, _⟩
    · have ht := tOf i hF
      rw [h1, decide_eq_false (by omega), Bool.false_and, Bool.or_false] at ht
      refine ⟨bnd_end hB i, fun v hv => stp_end_old hF.1 hF.2.1.1 hv, ?_⟩
      rw [stp_end_new hF.1 hn, stp_up hB, ht]
    · omega
  · omega
theorem q_callC {ops : Array Oper} {w : World} {Q : Act → Prop} {a : Act} {o : Oper} {rest : List Oper} (hw : Region.wanted o (yielded ops a.tmps) = true) (f : FuncId) (args : Array Value) (h0 : ∀ w', (execOp a.eval o).run Try.prog w' = .ok (.enter f args) w') (v : Value)
    (hc : ∀ w', Below w.heap.size w w' → Calls Try.prog f args w' fun e w'' => e = .returned v ∧ Below w'.heap.size w' w'') (hk : wpQuiet Try.prog ops (Cq w) Q rest (a.put o.dst v)) :
    wpQuiet Try.prog ops (Cq w) Q (o :: rest) a :=
  BigFrame.wpQuiet_want hw fun _ hK => ⟨v, fun w' hw' => by
    unfold Oper.quietAt; rw [h0 w']
    exact ⟨rfl, (hc w' hw').mono fun e w'' h => ⟨h.1, Below.trans hw' (h.2.mono hw'.size)⟩⟩, hK _ hk⟩
theorem eF_mkE (e : Nat → Int) : eF (mkE e) = mk (eF e) := by
  funext j
  unfold eF mkE editOf
  rw [if_neg (by omega), show 1 + j - 1 = j by omega]
  rfl
end Go.Proofs.Ytppcpbhnpdjfpab
