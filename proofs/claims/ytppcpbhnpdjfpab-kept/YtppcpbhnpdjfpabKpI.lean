/-
  past.stands.
-/
import Derived.Test.YtppcpbhnpdjfpabKpH
namespace Go.Proofs.Ytppcpbhnpdjfpab
open Go.RowKit

set_option maxRecDepth 10000 in
set_option maxHeartbeats 12800000 in
theorem stands_any (pb sb : Nat) (keep : Int) (n : Nat) (wv pp sl pv : Value) (WV : List Value) (FLs : Nat → List (Nat → Int)) (LS : List (Nat → Int)) (PI : List Int) (w : World) (hP : Past w pb sb keep n wv pp sl pv WV FLs LS PI) :
    Calls Try.prog 9 #[.pointer (some ⟨pb, 0, none⟩)] w fun e w' => e = .returned (.bool true) ∧ Below w.heap.size w w' := by
  have hn100 := hP.n100
  have hkp := hP.kp
  have hp6 := hP.p6
  have hlen := hP.len
  obtain ⟨gw, cw, hwv⟩ : ∃ gw cw, wv = .slice (some ⟨gw, 0, none⟩) (n + 1) cw := by
    rcases hP.row.2 with ⟨_, h⟩ | ⟨g, c, cur, h, hb, hh, _⟩
    · omega
    · exact ⟨g, c, h⟩
  subst hwv
  obtain ⟨p0, p1, p2, p3⟩ := hP.cells
  have hlp : pb < w.heap.size := (Array.getElem?_eq_some_iff.1 hP.blk).1
  have HP := hide hP
  have HVN := hide (Version_any sb keep n sl pv LS (ri PI) w hP.sto)
  have e0 : IntKind.i64.wrap (n : Int) = n := i64_in _ (by omega)
  have e1 : IntKind.i64.wrap ((n : Int) - keep) = (n : Int) - keep := i64_in _ (by omega)
  clear hP
  go_enter Try.func9, Try.ntmps9
  go_wp2_with fail
  refine (unhide HVN).mono ?_
  rintro e w9 ⟨rfl, rfl⟩
  clear HVN
  go_wp2_with fail
  go_loopw [4, 5, 6, 7, 8, 9, 10] (fun i _ _ _ _ _ _ wr => ∃ k : Nat, k ≤ n + 1 ∧ i = .int .i64 k ∧ Below w.heap.size w wr) (fun i _ _ _ _ _ _ _ => n + 1 - (intOf i).toNat)
  case atStart => exact ⟨0, by omega, rfl, Below.refl _ _⟩
  case round =>
    obtain ⟨k, hk, rfl, hb⟩ := hrel
    have r0 := (hb.cell (p := ⟨pb, 0, none⟩) hlp).trans p0
    have r1 := (hb.cell (p := ⟨pb, 1, none⟩) hlp).trans p1
    have r2 := (hb.cell (p := ⟨pb, 2, none⟩) hlp).trans p2
    have HBr := hide hb
    have hlr : pb < wr.heap.size := Nat.lt_of_lt_of_le hlp hb.size
    clear p0 p1 p2 p3
    by_cases hlt : k < n + 1
    · have hkn : (k : Int) < (n : Int) + 1 := by omega
      have hkn' : (k : Int) ≤ n := by omega
      have hPr := (unhide HP).on hb
      have hM := held_must (keep := keep) (PI := PI) (show (0 : Int) ≤ k by omega) (show (k : Int) ≤ n by omega)
      have HPN : Hid (∀ W, Below wr.heap.size wr W → Calls Try.prog 19 #[.pointer (some ⟨pb, 0, none⟩), .int .i64 k] W fun e w' => e = .returned (.int .i64 (cP (ri PI) k (ri PI).length)) ∧ Below W.heap.size W w') := fun W hW =>
        (pinned_any pb _ _ _ _ (ri PI) k W (hPr.on hW).blk (hPr.on hW).pin (by rw [ri_len]; omega)).mono fun e w' h => ⟨h.1, by rw [← h.2]; exact Below.refl _ _⟩
      have hch := cP_has (ri PI) k
      have HM := hide hM
      clear hPr hM hb
      obtain ⟨c, hc⟩ : ∃ c, cP (ri PI) k (ri PI).length = c := ⟨_, rfl⟩
      rw [hc] at HPN hch
      obtain ⟨M, hMM⟩ : ∃ M, heldB keep n (ri PI) k = M := ⟨_, rfl⟩
      have HMM := hide hMM
      clear hMM hc
      go_wp2
      go_cut [5] (fun mv wx => mv = .bool M ∧ Below wr.heap.size wr wx)
      case first =>
        refine region_bq (by kernel_rfl) (by kernel_rfl) ?_
        by_cases hd : (n : Int) - keep ≤ k
        · have hMt : M = true := by rw [← unhide HMM, unhide HM, decide_eq_true hd]; rfl
          subst hMt
          refine q_move rfl _ rfl (.int .i64 k) rfl ?_
          simp only [Act.put, List.setIfInBounds_toArray, List.set_cons_succ, List.set_cons_zero]
          refine q_move rfl _ rfl (.pointer (some ⟨pb, 0, none⟩)) rfl ?_
          simp only [Act.put, List.setIfInBounds_toArray, List.set_cons_succ, List.set_cons_zero]
          refine q_val rfl (.pointer (some ⟨pb, 0, none⟩)) (fun _ _ => by simp [go_sem]) ?_
          simp only [Act.put, List.setIfInBounds_toArray, List.set_cons_succ, List.set_cons_zero]
          refine q_val rfl (.pointer (some ⟨pb, 2, none⟩)) (fun _ _ => by simp [go_sem]) ?_
          simp only [Act.put, List.setIfInBounds_toArray, List.set_cons_succ, List.set_cons_zero]
          refine q_val rfl (.slice (some ⟨gw, 0, none⟩) (n + 1) cw) (fun w' h => by simp [go_sem, (h.cell (p := ⟨pb, 2, none⟩) hlr).trans r2]) ?_
          simp only [Act.put, List.setIfInBounds_toArray, List.set_cons_succ, List.set_cons_zero]
          refine q_val rfl (.int .i64 ((n : Int) + 1)) (fun _ _ => by simp [go_sem]) ?_
          simp only [Act.put, List.setIfInBounds_toArray, List.set_cons_succ, List.set_cons_zero]
          refine q_val rfl (.int .i64 n) (fun _ _ => by simp [go_sem, e0]) ?_
          simp only [Act.put, List.setIfInBounds_toArray, List.set_cons_succ, List.set_cons_zero]
          refine q_move rfl _ rfl (.pointer (some ⟨pb, 0, none⟩)) rfl ?_
          simp only [Act.put, List.setIfInBounds_toArray, List.set_cons_succ, List.set_cons_zero]
          refine q_val rfl (.pointer (some ⟨pb, 0, none⟩)) (fun _ _ => by simp [go_sem]) ?_
          simp only [Act.put, List.setIfInBounds_toArray, List.set_cons_succ, List.set_cons_zero]
          refine q_val rfl (.pointer (some ⟨pb, 1, none⟩)) (fun _ _ => by simp [go_sem]) ?_
          simp only [Act.put, List.setIfInBounds_toArray, List.set_cons_succ, List.set_cons_zero]
          refine q_val rfl (.int .i64 keep) (fun w' h => by simp [go_sem, (h.cell (p := ⟨pb, 1, none⟩) hlr).trans r1]) ?_
          simp only [Act.put, List.setIfInBounds_toArray, List.set_cons_succ, List.set_cons_zero]
          refine q_val rfl (.int .i64 ((n : Int) - keep)) (fun _ _ => by simp [go_sem, e1]) ?_
          simp only [Act.put, List.setIfInBounds_toArray, List.set_cons_succ, List.set_cons_zero]
          refine q_val rfl (.bool true) (fun _ _ => by simp [go_sem]; omega) ?_
          simp only [Act.put, List.setIfInBounds_toArray, List.set_cons_succ, List.set_cons_zero]
          refine q_move rfl _ rfl (.bool true) rfl ?_
          simp only [Act.put, List.setIfInBounds_toArray, List.set_cons_succ, List.set_cons_zero]
          go_big_quiet_skip
          go_big_quiet_skip
          go_big_quiet_skip
          go_big_quiet_skip
          refine q_val rfl (.bool true) (fun _ _ => by simp [go_sem]) ?_
          simp only [Act.put, List.setIfInBounds_toArray, List.set_cons_succ, List.set_cons_zero]
          refine q_assign rfl _ rfl (.bool true) rfl ?_
          simp only [Act.put, List.setIfInBounds_toArray, List.set_cons_succ, List.set_cons_zero]
          refine wpQuiet_nil ?_
          intro w6 hw6
          have HB6 := hide hw6
          clear hw6
          go_wp2_with fail
          go_meet
          exact ⟨rfl, unhide HB6⟩
        · have hMt : M = decide (0 < c) := by rw [← unhide HMM, unhide HM, decide_eq_false hd, ← hch]; simp
          subst hMt
          refine q_move rfl _ rfl (.int .i64 k) rfl ?_
          simp only [Act.put, List.setIfInBounds_toArray, List.set_cons_succ, List.set_cons_zero]
          refine q_move rfl _ rfl (.pointer (some ⟨pb, 0, none⟩)) rfl ?_
          simp only [Act.put, List.setIfInBounds_toArray, List.set_cons_succ, List.set_cons_zero]
          refine q_val rfl (.pointer (some ⟨pb, 0, none⟩)) (fun _ _ => by simp [go_sem]) ?_
          simp only [Act.put, List.setIfInBounds_toArray, List.set_cons_succ, List.set_cons_zero]
          refine q_val rfl (.pointer (some ⟨pb, 2, none⟩)) (fun _ _ => by simp [go_sem]) ?_
          simp only [Act.put, List.setIfInBounds_toArray, List.set_cons_succ, List.set_cons_zero]
          refine q_val rfl (.slice (some ⟨gw, 0, none⟩) (n + 1) cw) (fun w' h => by simp [go_sem, (h.cell (p := ⟨pb, 2, none⟩) hlr).trans r2]) ?_
          simp only [Act.put, List.setIfInBounds_toArray, List.set_cons_succ, List.set_cons_zero]
          refine q_val rfl (.int .i64 ((n : Int) + 1)) (fun _ _ => by simp [go_sem]) ?_
          simp only [Act.put, List.setIfInBounds_toArray, List.set_cons_succ, List.set_cons_zero]
          refine q_val rfl (.int .i64 n) (fun _ _ => by simp [go_sem, e0]) ?_
          simp only [Act.put, List.setIfInBounds_toArray, List.set_cons_succ, List.set_cons_zero]
          refine q_move rfl _ rfl (.pointer (some ⟨pb, 0, none⟩)) rfl ?_
          simp only [Act.put, List.setIfInBounds_toArray, List.set_cons_succ, List.set_cons_zero]
          refine q_val rfl (.pointer (some ⟨pb, 0, none⟩)) (fun _ _ => by simp [go_sem]) ?_
          simp only [Act.put, List.setIfInBounds_toArray, List.set_cons_succ, List.set_cons_zero]
          refine q_val rfl (.pointer (some ⟨pb, 1, none⟩)) (fun _ _ => by simp [go_sem]) ?_
          simp only [Act.put, List.setIfInBounds_toArray, List.set_cons_succ, List.set_cons_zero]
          refine q_val rfl (.int .i64 keep) (fun w' h => by simp [go_sem, (h.cell (p := ⟨pb, 1, none⟩) hlr).trans r1]) ?_
          simp only [Act.put, List.setIfInBounds_toArray, List.set_cons_succ, List.set_cons_zero]
          refine q_val rfl (.int .i64 ((n : Int) - keep)) (fun _ _ => by simp [go_sem, e1]) ?_
          simp only [Act.put, List.setIfInBounds_toArray, List.set_cons_succ, List.set_cons_zero]
          refine q_val rfl (.bool false) (fun _ _ => by simp [go_sem]; omega) ?_
          simp only [Act.put, List.setIfInBounds_toArray, List.set_cons_succ, List.set_cons_zero]
          refine q_move rfl _ rfl (.bool false) rfl ?_
          simp only [Act.put, List.setIfInBounds_toArray, List.set_cons_succ, List.set_cons_zero]
          refine q_move (by kernel_rfl) _ rfl (.pointer (some ⟨pb, 0, none⟩)) rfl ?_
          simp only [Act.put, List.setIfInBounds_toArray, List.set_cons_succ, List.set_cons_zero]
          refine q_move (by kernel_rfl) _ rfl (.int .i64 k) rfl ?_
          simp only [Act.put, List.setIfInBounds_toArray, List.set_cons_succ, List.set_cons_zero]
          refine q_callC (by kernel_rfl) 19 #[.pointer (some ⟨pb, 0, none⟩), .int .i64 k] (fun _ => by simp [go_sem]) _ (unhide HPN) ?_
          simp only [Act.put, List.setIfInBounds_toArray, List.set_cons_succ, List.set_cons_zero]
          refine q_val (by kernel_rfl) (.bool (decide (0 < c))) (fun _ _ => by simp [go_sem]) ?_
          simp only [Act.put, List.setIfInBounds_toArray, List.set_cons_succ, List.set_cons_zero]
          refine q_val rfl (.bool (decide (0 < c))) (fun _ _ => by simp [go_sem]) ?_
          simp only [Act.put, List.setIfInBounds_toArray, List.set_cons_succ, List.set_cons_zero]
          refine q_assign rfl _ rfl (.bool (decide (0 < c))) rfl ?_
          simp only [Act.put, List.setIfInBounds_toArray, List.set_cons_succ, List.set_cons_zero]
          refine wpQuiet_nil ?_
          intro w6 hw6
          have HB6 := hide hw6
          clear hw6
          go_wp2_with fail
          go_meet
          exact ⟨rfl, unhide HB6⟩
      case rest =>
        obtain ⟨rfl, hbc⟩ := hcut
        have hbw := (unhide HBr).trans (hbc.mono (unhide HBr).size)
        have hPc := (unhide HP).on hbw
        obtain ⟨s0, s1, s2, s3⟩ := hPc.cells
        have hLS : LS.length ≤ 1000 := by omega
        have hPL : (ri PI).length ≤ 100 := by rw [ri_len]; omega
        cases M with
        | false =>
          have HRN := hide (Read_no sb keep n sl pv LS (ri PI) k 0 1 wc hPc.sto hPL hkp ⟨by omega, by omega⟩ (unhide HMM))
          have HBW := hide hbw
          clear hPc hbw hbc r0 r1 r2 HPN
          go_wp2_with fail
          refine (unhide HRN).mono ?_
          rintro e w2 ⟨rfl, hb2⟩
          have HB2 := hide ((unhide HBW).trans (hb2.mono (unhide HBW).size))
          clear hb2 s0 s1 s2 s3
          go_wp2_with fail
          go_roundw
          case rel => exact ⟨k + 1, by omega, by go_num, unhide HB2⟩
          case measure => simp [intOf]; omega
        | true =>
          obtain ⟨m, hm, hm1⟩ : ∃ m : Nat, (1 : Int) + (k : Int) % 8 = m ∧ 1 ≤ m ∧ m ≤ 8 := ⟨1 + k % 8, by omega, by omega, by omega⟩
          have HAL := hide (all_any sb keep n sl pv LS (ri PI) (FLs k) k m wc hPc.sto hLS hPL hkp ⟨by omega, by omega⟩ (unhide HMM) (hPc.hist k (by omega)) hm1)
          have HBW := hide hbw
          have HPC := hide hPc
          clear hPc hbw hbc r0 r1 r2 HPN
          go_wp2_with fail
          refine (unhide HAL).mono ?_
          rintro e w2 ⟨⟨O, ov, rfl, hoO, hOl, hmem⟩, hb2⟩
          have hP2 := (unhide HPC).on hb2
          obtain ⟨t0, t1, t2, t3⟩ := hP2.cells
          obtain ⟨fv, hfv, hofv⟩ := hP2.was k (by omega)
          have hcf : w2.cell? ⟨gw, k, none⟩ = some fv := by rw [World.ownsRow.cellAt hP2.row k (by omega), hfv]
          have h40 := (hP2.hist k (by omega)).le40
          have HSS := hide (sameSet_any ov fv O (FLs k) w2 (hoO.at (by unfold maxLen; omega)) (hofv.at (by unfold maxLen; omega)) hOl h40 hmem (hP2.hist k (by omega)).dis)
          have HB2 := hide ((unhide HBW).trans (hb2.mono (unhide HBW).size))
          obtain ⟨of1, nf1, cf1, hfe⟩ : ∃ a b c, fv = .slice a b c := by
            rcases hofv.2 with ⟨h, _⟩ | ⟨g, c, cur, h, _⟩
            · exact ⟨_, _, _, h⟩
            · exact ⟨_, _, _, h⟩
          subst hfe
          clear hb2 hP2 hoO hmem hofv s0 s1 s2 s3 HAL hfv hOl
          go_wp2_with fail
          refine (unhide HSS).mono ?_
          rintro e w3 ⟨rfl, hb3⟩
          have HB3 := hide ((unhide HB2).trans (hb3.mono (unhide HB2).size))
          clear hb3 t0 t1 t2 t3 hcf HSS
          go_wp2_with fail
          go_roundw
          case rel => exact ⟨k + 1, by omega, by go_num, unhide HB3⟩
          case measure => simp [intOf]; omega
    · have hkn : k = n + 1 := by omega
      subst hkn
      clear hb
      go_wp2_with fail
      go_ret
      exact ⟨rfl, unhide HBr⟩
end Go.Proofs.Ytppcpbhnpdjfpab
