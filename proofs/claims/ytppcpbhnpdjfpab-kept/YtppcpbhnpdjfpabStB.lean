/-
  draft.end, draft.count.
-/
import Derived.Test.YtppcpbhnpdjfpabStA
namespace Go.Proofs.Ytppcpbhnpdjfpab
open Go.RowKit

theorem grown_drew {w w' : World} {r : Option Nat} (h : w.grownBy w' r) : w.grownBy w'.drew r := ⟨h.os, h.tape, h.output, h.size, h.block⟩
/-- The feature with the id is there. -/
def Lv (g : Nat → Int) (id : Int) : Prop := g 25 = 0 ∧ g 0 = id
theorem dr_cells {w : World} {db : Nat} {ver : Int} {lv : Value} (hd : w.heap[db]? = some (.cells #[.int .i64 ver, lv] 76 (0, 0))) : w.cell? ⟨db, 0, none⟩ = some (.int .i64 ver) ∧ w.cell? ⟨db, 1, none⟩ = some lv := by
  refine ⟨(blk_cells hd 0).trans rfl, (blk_cells hd 1).trans rfl⟩

set_option maxHeartbeats 3200000 in
theorem end_any (db B : Nat) (ver : Int) (lv : Value) (LS : List (Nat → Int)) (id : Int) (w : World) (hd : w.heap[db]? = some (.cells #[.int .i64 ver, lv] 76 (0, 0))) (ho : OwnC 80 26 w B lv LS) (hl : LS.length ≤ 1000) :
    Calls Try.prog 59 #[.pointer (some ⟨db, 0, none⟩), .int .i64 id] w fun e w' => (e = .returned (.bool false) ∧ w = w' ∧ ∀ i, i < LS.length → ¬ Lv (gf LS i) id) ∨
      ∃ i, i < LS.length ∧ Lv (gf LS i) id ∧ (∀ j, j < i → ¬ Lv (gf LS j) id) ∧ e = .returned (.bool true) ∧ OwnC 80 26 w' B lv (setL LS i 25 ver) ∧ w.grownBy w' lv.ownBlock := by
  obtain ⟨oa, cap, rfl, _, hc⟩ := ho.at (by unfold maxLen; omega)
  have HO := hide ho
  have HC := hide hc
  obtain ⟨d0, d1⟩ := dr_cells hd
  clear ho hc hd
  go_enter Try.func59, Try.ntmps59
  go_wp2_with fail
  go_loop [5] (fun i => ∃ k : Nat, k ≤ LS.length ∧ i = .int .i64 k ∧ Hid (∀ i, i < k → ¬ Lv (gf LS i) id)) (fun i => LS.length - (intOf i).toNat)
  case atStart => exact ⟨0, by omega, rfl, hide (fun i hi => absurd hi (by omega))⟩
  case round =>
    obtain ⟨k, hk, rfl, hno⟩ := hrel
    by_cases hlt : k < LS.length
    · have hkn : (k : Int) < LS.length := by omega
      obtain ⟨g, cap', e, hB, hgl⟩ := (unhide HO).form (by omega)
      simp only [Value.slice.injEq, true_and] at e
      obtain ⟨rfl, rfl⟩ := e
      obtain ⟨b, off, e, _, hc0⟩ := unhide HC (by omega)
      simp only [Option.some.injEq, Addr.mk.injEq, and_true] at e
      obtain ⟨rfl, rfl⟩ := e
      have c25 := hc0 k hlt 25 (by omega)
      have c0 := hc0 k hlt 0 (by omega)
      simp only [Nat.zero_add, Nat.add_zero] at c25 c0
      have hfz := World.ownsRow.frozenAt (unhide HO) (k * 26 + 25)
      have HS := hide ((unhide HO).stored k 25 hlt (by omega) ver)
      clear hc0
      obtain ⟨G, hG⟩ : ∃ I, gf LS k 25 = I := ⟨_, rfl⟩
      obtain ⟨I, hI⟩ : ∃ I, gf LS k 0 = I := ⟨_, rfl⟩
      rw [hG] at c25
      rw [hI] at c0
      by_cases h25 : G = 0
      · by_cases h0 : I = id
        · subst h25
          subst h0
          go_wp2_with fail
          go_region
          go_wp2_with fail
          go_ret
          exact Or.inr ⟨k, hlt, ⟨hG, hI⟩, unhide hno, rfl, (unhide HS).1, grown_drew (unhide HS).2⟩
        · subst h25
          go_wp2_with fail
          go_round
          case rel => exact ⟨k + 1, by omega, by go_num, hide (fun i hi => by
            by_cases e : i = k
            · subst e; intro h; exact h0 (hI.symm.trans h.2)
            · exact unhide hno i (by omega))⟩
          case measure => simp [intOf]; omega
      · go_wp2_with fail
        go_round
        case rel => exact ⟨k + 1, by omega, by go_num, hide (fun i hi => by
          by_cases e : i = k
          · subst e; intro h; exact h25 (hG.symm.trans h.1)
          · exact unhide hno i (by omega))⟩
        case measure => simp [intOf]; omega
    · have hkn : k = LS.length := by omega
      subst hkn
      go_wp2_with fail
      go_ret
      exact Or.inl ⟨rfl, rfl, unhide hno⟩

/-- How many of the first k are there. -/
def cntL (LS : List (Nat → Int)) : Nat → Nat
  | 0 => 0
  | k + 1 => if gf LS k 25 = 0 then cntL LS k + 1 else cntL LS k
theorem cntL_le (LS : List (Nat → Int)) : ∀ k, cntL LS k ≤ k
  | 0 => Nat.le_refl _
  | k + 1 => by rw [cntL]; have := cntL_le LS k; split <;> omega

set_option maxHeartbeats 1600000 in
theorem count_any (db B : Nat) (ver : Int) (lv : Value) (LS : List (Nat → Int)) (w : World) (hd : w.heap[db]? = some (.cells #[.int .i64 ver, lv] 76 (0, 0))) (ho : OwnC 80 26 w B lv LS) (hl : LS.length ≤ 1000) :
    Calls Try.prog 60 #[.pointer (some ⟨db, 0, none⟩)] w fun e w' => e = .returned (.int .i64 (cntL LS LS.length)) ∧ w = w' := by
  obtain ⟨oa, cap, rfl, _, hc⟩ := ho.at (by unfold maxLen; omega)
  have HC := hide hc
  obtain ⟨d0, d1⟩ := dr_cells hd
  clear ho hc hd
  go_enter Try.func60, Try.ntmps60
  go_wp2_with fail
  go_loop [3, 4] (fun c i => ∃ k n : Nat, k ≤ LS.length ∧ n ≤ k ∧ i = .int .i64 k ∧ c = .int .i64 n ∧ Hid (n = cntL LS k)) (fun _ i => LS.length - (intOf i).toNat)
  case atStart => exact ⟨0, 0, by omega, by omega, rfl, rfl, hide rfl⟩
  case round =>
    obtain ⟨k, n, hk, hnk, rfl, rfl, hn⟩ := hrel
    by_cases hlt : k < LS.length
    · have hkn : (k : Int) < LS.length := by omega
      obtain ⟨b, off, rfl, _, hc0⟩ := unhide HC (by omega)
      have c25 := hc0 k hlt 25 (by omega)
      clear hc0
      obtain ⟨G, hG⟩ : ∃ I, gf LS k 25 = I := ⟨_, rfl⟩
      rw [hG] at c25
      by_cases h25 : G = 0
      · have hn' : Hid (n + 1 = cntL LS (k + 1)) := by show n + 1 = _; rw [cntL, if_pos (hG.trans h25), unhide hn]
        subst h25
        go_wp2_with fail
        go_round
        case rel => exact ⟨k + 1, n + 1, by omega, by omega, by go_num, by go_num, hn'⟩
        case measure => simp [intOf]; omega
      · have hn' : Hid (n = cntL LS (k + 1)) := by show n = _; rw [cntL, if_neg (fun h => h25 (hG.symm.trans h)), unhide hn]
        go_wp2_with fail
        go_round
        case rel => exact ⟨k + 1, n, by omega, by omega, by go_num, rfl, hn'⟩
        case measure => simp [intOf]; omega
    · have hkn : k = LS.length := by omega
      subst hkn
      go_wp2_with fail
      go_ret
      exact ⟨ret_int (by rw [unhide hn]), rfl⟩
end Go.Proofs.Ytppcpbhnpdjfpab
