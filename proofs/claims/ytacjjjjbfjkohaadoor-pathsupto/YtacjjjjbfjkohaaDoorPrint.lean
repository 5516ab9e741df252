/-
  wire.Print, atlasref.Print: what they answer.
-/
import Derived.Test.YtacjjjjbfjkohaaDoorRefParse
import Derived.Test.YtacjjjjbfjkohaaDoorShelf
import Derived.Lib.AppendIntMem
namespace Go.Proofs.YtacjjjjbfjkohaaDoor
open Go.RowKit

theorem refParse_any (s : ByteArray) (w : World) (hs : s.size ≤ 1048576) :
    Calls Tryd.prog 7 #[.string s] w fun e w' => (∃ l z x y er : Int, parseL s.data.toList = ((l, z, x, y), er) ∧ e = .returned (.tuple #[.agg #[.int .i64 l, .int .i64 z, .int .i64 x, .int .i64 y], .int .i64 er])) ∧ Below w.heap.size w w' := by
  by_cases h : s.size < 5 ∨ ¬ s.data.toList.drop (s.size - 5) = Pp.dotTile
  · exact refParse_short s w hs h
  · exact refParse_form s w hs (by omega) (Classical.not_not.1 (fun e => h (Or.inr e)))

set_option maxHeartbeats 800000 in
theorem parsed_walk (s : ByteArray) (w : World) (hs : s.size ≤ 1048576) (hN : Nm w) :
    Calls Tryd.prog 4 #[.string s] w fun e w' => e = .returned (.bool true) ∧ Below w.heap.size w w' := by
  have HN := hide hN
  clear hN
  have hs' : s.size ≤ maxLen := by unfold maxLen; omega
  go_enter Tryd.func4, Tryd.ntmps4
  go_wp2_with fail
  refine (parse_any s _ hs' (unhide HN)).mono ?_
  rintro e w1 ⟨⟨l, z, x, y, er, hp, rfl⟩, hb1⟩
  have HP := hide hp
  clear hp
  go_wp2_with fail
  refine (refParse_any s _ hs).mono ?_
  rintro e w2 ⟨⟨l', z', x', y', er', hp', rfl⟩, hb2⟩
  rw [unhide HP] at hp'
  simp only [Prod.mk.injEq] at hp'
  obtain ⟨⟨rfl, rfl, rfl, rfl⟩, rfl⟩ := hp'
  obtain ⟨hc, hf⟩ := bcell hb2
  have hz : w1.heap.size < w2.heap.size := by have := hb2.size; simp at this; omega
  have hB : Below w.heap.size w w2 := (hb1.alloc hb1.size _).trans (hb2.mono (by have := hb1.size; simp; omega))
  have HB := hide hB
  clear hb1 hb2 hB
  go_wp2_with fail
  go_ret
  exact ⟨rfl, (unhide HB).alloc (unhide HB).size _⟩

/-- A key's path. -/
def printL (l z x y : Nat) : List UInt8 := 47 :: (Pp.names l ++ 47 :: (Lib.decDigits z ++ 47 :: (Lib.decDigits x ++ 47 :: (Lib.decDigits y ++ Pp.dotTile))))
abbrev Tab (w : World) : Prop := Lib.TabBelow Tryd.prog w.heap.size w "internal/strconv.uint64pow10" .u64 Lib.pow10Tab
theorem dig_size (n : Nat) : (⟨(Lib.decDigits n).toArray⟩ : ByteArray).size ≤ n + 1 := dec_len n
theorem itoa_at (n : Nat) (w W : World) (hn : n ≤ 1000000000) (hT : Tab w) (hb : Below w.heap.size w W) :
    Calls Tryd.prog 21 #[.int .i64 n] W fun e w' => (∃ D : ByteArray, e = .returned (.string D) ∧ D.data.toList = Lib.decDigits n ∧ D.size ≤ 1000000001) ∧ Below W.heap.size W w' := by
  refine (Tryd.itoa_any n (by omega) (by omega) W (hT W hb)).mono ?_
  rintro e w' ⟨rfl, k, os, rfl⟩
  refine ⟨⟨_, rfl, ?_, ?_⟩, Lib.below_grow _ _ (Nat.le_refl _) k os⟩
  · rw [Lib.itoa_nonneg]
  · rw [Lib.itoa_nonneg]
    have := dig_size n
    omega

set_option maxHeartbeats 800000 in
theorem print_no (l z x y : Int) (w : World) (h : ¬ Pp.keyErr l z x y = 0) :
    Calls Tryd.prog 8 #[.agg #[.int .i64 l, .int .i64 z, .int .i64 x, .int .i64 y]] w fun e w' => e = .returned (.tuple #[.string ⟨#[]⟩, .int .i64 (Pp.keyErr l z x y)]) ∧ Below w.heap.size w w' := by
  go_enter Tryd.func8, Tryd.ntmps8
  go_wp2_with fail
  refine (keyError_any l z x y _).mono ?_
  rintro e w1 ⟨rfl, hb⟩
  have hB : Below w.heap.size w w1 := ((Below.refl _ _).alloc (Nat.le_refl _) _).trans (hb.mono (by simp))
  have HB := hide hB
  clear hb hB
  obtain ⟨E, hE⟩ : ∃ E, Pp.keyErr l z x y = E := ⟨_, rfl⟩
  rw [hE] at h ⊢
  have HE := hide hE
  clear hE
  have hbe : (E != 0) = true := by rw [bne_iff_ne]; exact h
  clear h
  go_wp2_with fail
  go_ret2
  exact ⟨by rw [unhide HE]; rfl, unhide HB⟩

theorem name_in (l : Nat) (hl : l < 4) (w : World) (h : NamesIn w) : ∃ M : ByteArray, w.cell? ⟨0, l, none⟩ = some (.string M) ∧ M.data.toList = Pp.names l ∧ M.size ≤ 10 := by
  obtain ⟨c0, c1, c2, c3⟩ := h
  match l, hl with
  | 0, _ => exact ⟨_, c0, rfl, by decide⟩
  | 1, _ => exact ⟨_, c1, rfl, by decide⟩
  | 2, _ => exact ⟨_, c2, rfl, by decide⟩
  | 3, _ => exact ⟨_, c3, rfl, by decide⟩
theorem size_lit (a : Array UInt8) : (⟨a⟩ : ByteArray).size = a.size := rfl
/-- The key lies in its box. -/
structure KB (w : World) (l z x y : Nat) (W : World) : Prop where
  kl : W.cell? ⟨w.heap.size, 0, none⟩ = some (.int .i64 l)
  kz : W.cell? ⟨w.heap.size, 1, none⟩ = some (.int .i64 z)
  kx : W.cell? ⟨w.heap.size, 2, none⟩ = some (.int .i64 x)
  ky : W.cell? ⟨w.heap.size, 3, none⟩ = some (.int .i64 y)
  wl : w.heap.size < W.heap.size
  bel : Below w.heap.size w W
theorem KB.start (w : World) (l z x y : Nat) : KB w l z x y (w.alloc (.cells #[.int .i64 l, .int .i64 z, .int .i64 x, .int .i64 y] 23)) := by
  refine ⟨?_, ?_, ?_, ?_, ?_, ?_⟩
  all_goals first
    | exact (Below.refl _ _).alloc (Nat.le_refl _) _
    | simp [go_sem]
theorem KB.on {w W W' : World} {l z x y : Nat} (h : KB w l z x y W) (hb : Below W.heap.size W W') : KB w l z x y W' := by
  have hs := hb.size
  have hw := h.wl
  exact ⟨(hb.cell (p := ⟨w.heap.size, 0, none⟩) hw).trans h.kl, (hb.cell (p := ⟨w.heap.size, 1, none⟩) hw).trans h.kz, (hb.cell (p := ⟨w.heap.size, 2, none⟩) hw).trans h.kx, (hb.cell (p := ⟨w.heap.size, 3, none⟩) hw).trans h.ky, by omega, h.bel.trans (hb.mono (by omega))⟩

set_option maxHeartbeats 1600000 in
theorem print_yes (l z x y : Nat) (w : World) (hl : l < 4) (hz : z ≤ 1000000) (hx : x ≤ 10000000) (hy : y ≤ 10000000) (h : Pp.keyErr l z x y = 0) (hN : Nm w) (hT : Tab w) :
    Calls Tryd.prog 8 #[.agg #[.int .i64 l, .int .i64 z, .int .i64 x, .int .i64 y]] w fun e w' => (∃ P : ByteArray, e = .returned (.tuple #[.string P, .int .i64 0]) ∧ P.data.toList = printL l z x y ∧ P.size ≤ 5000000000) ∧ Below w.heap.size w w' := by
  have HT := hide hT
  have HN := hide hN
  have HK := hide h
  clear hT hN h
  have hl4 : (l : Int) < 4 := by omega
  go_enter Tryd.func8, Tryd.ntmps8
  go_wp2_with fail
  refine (keyError_any l z x y _).mono ?_
  rintro e w1 ⟨rfl, hb⟩
  rw [unhide HK]
  have hI := (KB.start w l z x y).on hb
  have HI := hide hI
  obtain ⟨kl, kz, kx, ky, wl, bel⟩ := hI
  obtain ⟨M, cM, hM, sM⟩ := name_in l hl w1 ((unhide HN).on bel).2
  have HM := hide hM
  clear hb bel hM
  go_wp2_with fail
  refine (itoa_at z w w1 (by omega) (unhide HT) (unhide HI).bel).mono ?_
  rintro e w2 ⟨⟨Dz, rfl, hDz, sz⟩, hb2⟩
  have HDz := hide hDz
  have hI2 := (unhide HI).on hb2
  clear kl kz kx ky wl HI hb2 hDz cM
  have HI := hide hI2
  obtain ⟨kl, kz, kx, ky, wl, bel⟩ := hI2
  clear bel
  go_wp2_with fail
  refine (itoa_at x w w2 (by omega) (unhide HT) (unhide HI).bel).mono ?_
  rintro e w3 ⟨⟨Dx, rfl, hDx, sx⟩, hb3⟩
  have HDx := hide hDx
  have hI3 := (unhide HI).on hb3
  clear kl kz kx ky wl HI hb3 hDx
  have HI := hide hI3
  obtain ⟨kl, kz, kx, ky, wl, bel⟩ := hI3
  clear bel
  go_wp2_with fail
  refine (itoa_at y w w3 (by omega) (unhide HT) (unhide HI).bel).mono ?_
  rintro e w4 ⟨⟨Dy, rfl, hDy, sy⟩, hb4⟩
  have HDy := hide hDy
  have hI4 := (unhide HI).on hb4
  clear kl kz kx ky wl HI hb4 hDy
  have HBf := hide hI4.bel
  clear hI4
  go_wp2_with fail
  go_ret2
  refine ⟨⟨_, rfl, ?_, ?_⟩, unhide HBf⟩
  · simp [unhide HM, unhide HDz, unhide HDx, unhide HDy, printL, Pp.dotTile]
  · simp only [ByteArray.size_append, size_lit]
    simp
    omega

set_option maxHeartbeats 800000 in
theorem refPrint_no (l z x y : Int) (w : World) (h : ¬ Pp.keyErr l z x y = 0) :
    Calls Tryd.prog 9 #[.agg #[.int .i64 l, .int .i64 z, .int .i64 x, .int .i64 y]] w fun e w' => e = .returned (.tuple #[.string ⟨#[]⟩, .int .i64 (Pp.keyErr l z x y)]) ∧ Below w.heap.size w w' := by
  go_enter Tryd.func9, Tryd.ntmps9
  go_wp2_with fail
  refine (refKeyError_any l z x y _).mono ?_
  rintro e w1 ⟨rfl, hb⟩
  have hB : Below w.heap.size w w1 := ((Below.refl _ _).alloc (Nat.le_refl _) _).trans (hb.mono (by simp))
  have HB := hide hB
  clear hb hB
  obtain ⟨E, hE⟩ : ∃ E, Pp.keyErr l z x y = E := ⟨_, rfl⟩
  rw [hE] at h ⊢
  have HE := hide hE
  clear hE
  have hbe : (E != 0) = true := by rw [bne_iff_ne]; exact h
  clear h
  go_wp2_with fail
  go_ret2
  exact ⟨by rw [unhide HE]; rfl, unhide HB⟩

theorem digits_at (n : Nat) (W : World) (hn : n ≤ 1000000000) :
    Calls Tryd.prog 22 #[.int .i64 n] W fun e w' => (∃ D : ByteArray, e = .returned (.string D) ∧ D.data.toList = Lib.decDigits n ∧ D.size ≤ 1000000001) ∧ Below W.heap.size W w' := by
  refine (digits_any n W hn).mono ?_
  rintro e w' ⟨rfl, hb⟩
  have := dig_size n
  exact ⟨⟨_, rfl, rfl, by omega⟩, hb⟩
theorem names_at (l : Nat) (hl : l < 4) (W : World) :
    Calls Tryd.prog 19 #[.int .i64 l] W fun e w' => (∃ M : ByteArray, e = .returned (.string M) ∧ M.data.toList = Pp.names l ∧ M.size ≤ 10) ∧ Below W.heap.size W w' := by
  refine (name_any l hl W).mono ?_
  rintro e w' ⟨rfl, hb⟩
  refine ⟨⟨_, rfl, rfl, ?_⟩, hb⟩
  match l, hl with
  | 0, _ => decide
  | 1, _ => decide
  | 2, _ => decide
  | 3, _ => decide

set_option maxHeartbeats 1600000 in
theorem refPrint_yes (l z x y : Nat) (w : World) (hl : l < 4) (hz : z ≤ 1000000) (hx : x ≤ 10000000) (hy : y ≤ 10000000) (h : Pp.keyErr l z x y = 0) :
    Calls Tryd.prog 9 #[.agg #[.int .i64 l, .int .i64 z, .int .i64 x, .int .i64 y]] w fun e w' => (∃ P : ByteArray, e = .returned (.tuple #[.string P, .int .i64 0]) ∧ P.data.toList = printL l z x y ∧ P.size ≤ 5000000000) ∧ Below w.heap.size w w' := by
  have HK := hide h
  clear h
  go_enter Tryd.func9, Tryd.ntmps9
  go_wp2_with fail
  refine (refKeyError_any l z x y _).mono ?_
  rintro e w1 ⟨rfl, hb⟩
  rw [unhide HK]
  have hI := (KB.start w l z x y).on hb
  have HI := hide hI
  obtain ⟨kl, kz, kx, ky, wl, bel⟩ := hI
  clear hb bel
  go_wp2_with fail
  refine (names_at l hl _).mono ?_
  rintro e w2 ⟨⟨M, rfl, hM, sM⟩, hb2⟩
  have HM := hide hM
  have hI2 := (unhide HI).on hb2
  clear kl kz kx ky wl HI hb2 hM
  have HI := hide hI2
  obtain ⟨kl, kz, kx, ky, wl, bel⟩ := hI2
  have HBf := hide bel
  clear bel
  go_wp2
  refine wp_loop_rounds 4 ?_
  rw [rounds_succ]
  clear kl kz kx ky HI
  go_wp2_with fail
  refine (digits_at z _ (by omega)).mono ?_
  rintro e w3 ⟨⟨Dz, rfl, hDz, sz⟩, hb3⟩
  have HDz := hide hDz
  have e0 : w3.cell? ⟨w2.heap.size, 1, none⟩ = some (.int .i64 x) := (hb3.cell (p := ⟨w2.heap.size, 1, none⟩) (by simp)).trans (by simp [go_sem])
  have e1 : w3.cell? ⟨w2.heap.size, 2, none⟩ = some (.int .i64 y) := (hb3.cell (p := ⟨w2.heap.size, 2, none⟩) (by simp)).trans (by simp [go_sem])
  have s3 : w2.heap.size < w3.heap.size := by have := hb3.size; simp at this; omega
  have b3 : Below w.heap.size w w3 := ((unhide HBf).alloc (by omega) _).trans (hb3.mono (by simp; omega))
  have HB3 := hide b3
  clear hb3 b3 hDz HBf
  go_wp2_with fail
  rw [rounds_succ]
  go_wp2_with fail
  refine (digits_at x _ (by omega)).mono ?_
  rintro e w4 ⟨⟨Dx, rfl, hDx, sx⟩, hb4⟩
  have HDx := hide hDx
  have e1' : w4.cell? ⟨w2.heap.size, 2, none⟩ = some (.int .i64 y) := (hb4.cell (p := ⟨w2.heap.size, 2, none⟩) s3).trans e1
  have b4 : Below w.heap.size w w4 := (unhide HB3).trans (hb4.mono (unhide HB3).size)
  have HB4 := hide b4
  clear hb4 b4 hDx HB3 e0 e1
  go_wp2_with fail
  rw [rounds_succ]
  go_wp2_with fail
  refine (digits_at y _ (by omega)).mono ?_
  rintro e w5 ⟨⟨Dy, rfl, hDy, sy⟩, hb5⟩
  have HDy := hide hDy
  have b5 : Below w.heap.size w w5 := (unhide HB4).trans (hb5.mono (unhide HB4).size)
  have HB5 := hide b5
  clear hb5 b5 hDy HB4 e1'
  go_wp2_with fail
  rw [rounds_succ]
  go_wp2_with fail
  go_ret2
  refine ⟨⟨_, rfl, ?_, ?_⟩, unhide HB5⟩
  · simp [unhide HM, unhide HDz, unhide HDx, unhide HDy, printL, Pp.dotTile]
  · simp only [ByteArray.size_append, size_lit]
    simp
    omega
end Go.Proofs.YtacjjjjbfjkohaaDoor
