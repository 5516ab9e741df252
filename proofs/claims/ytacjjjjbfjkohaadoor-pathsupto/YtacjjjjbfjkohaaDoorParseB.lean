/-
  wire.Parse: what it answers.
-/
import Derived.Test.YtacjjjjbfjkohaaDoorParse
namespace Go.Proofs.YtacjjjjbfjkohaaDoor
open Go.RowKit

theorem bcell {W w1 : World} (hb : Below W.heap.size W w1) : (∀ b o, b < W.heap.size → w1.cell? ⟨b, o, none⟩ = W.cell? ⟨b, o, none⟩) ∧ (∀ b o, b < W.heap.size → w1.frozen? ⟨b, o, none⟩ = W.frozen? ⟨b, o, none⟩) :=
  ⟨fun b o h => hb.cell (p := ⟨b, o, none⟩) h, fun b o h => hb.frozen (p := ⟨b, o, none⟩) h⟩
def Nm (w : World) : Prop := 0 < w.heap.size ∧ NamesIn w
theorem Nm.on {w w' : World} (h : Nm w) (hb : Below w.heap.size w w') : Nm w' := by
  obtain ⟨h0, c0, c1, c2, c3⟩ := h
  have hs := hb.size
  refine ⟨by omega, ?_, ?_, ?_, ?_⟩
  · rw [hb.cell (p := ⟨0, 0, none⟩) h0]; exact c0
  · rw [hb.cell (p := ⟨0, 1, none⟩) h0]; exact c1
  · rw [hb.cell (p := ⟨0, 2, none⟩) h0]; exact c2
  · rw [hb.cell (p := ⟨0, 3, none⟩) h0]; exact c3

/-- What a path is read as. -/
def parseL (p : List UInt8) : (Int × Int × Int × Int) × Int :=
  match Pp.splitL p with
  | none => ((0, 0, 0, 0), 1)
  | some (n, z, x, y) =>
    if Pp.keyErr (Pp.layerL n) (Pp.valL z) (Pp.valL x) (Pp.valL y) = 0 then ((Pp.layerL n, (Pp.valL z : Int), (Pp.valL x : Int), (Pp.valL y : Int)), 0)
    else ((0, 0, 0, 0), Pp.keyErr (Pp.layerL n) (Pp.valL z) (Pp.valL x) (Pp.valL y))
theorem parseL_none (p : List UInt8) (h : Pp.splitL p = none) : parseL p = ((0, 0, 0, 0), 1) := by unfold parseL; rw [h]
theorem parseL_ok (p n z x y : List UInt8) (h : Pp.splitL p = some (n, z, x, y)) (he : Pp.keyErr (Pp.layerL n) (Pp.valL z) (Pp.valL x) (Pp.valL y) = 0) :
    parseL p = ((Pp.layerL n, (Pp.valL z : Int), (Pp.valL x : Int), (Pp.valL y : Int)), 0) := by unfold parseL; rw [h]; simp only; rw [if_pos he]
theorem parseL_err (p n z x y : List UInt8) (h : Pp.splitL p = some (n, z, x, y)) (he : ¬ Pp.keyErr (Pp.layerL n) (Pp.valL z) (Pp.valL x) (Pp.valL y) = 0) :
    parseL p = ((0, 0, 0, 0), Pp.keyErr (Pp.layerL n) (Pp.valL z) (Pp.valL x) (Pp.valL y)) := by unfold parseL; rw [h]; simp only; rw [if_neg he]
theorem split_nums (p n z x y : List UInt8) (h : Pp.splitL p = some (n, z, x, y)) : Pp.nameB n = true ∧ Pp.numB z = true ∧ Pp.numB x = true ∧ Pp.numB y = true :=
  ((Pp.splitL_iff p (n, z, x, y)).1 h).2
theorem layer_cap (n : List UInt8) : -1 ≤ Pp.layerL n ∧ Pp.layerL n ≤ 3 := by
  unfold Pp.layerL
  split
  · omega
  · split
    · omega
    · split
      · omega
      · split <;> omega

set_option maxHeartbeats 1600000 in
theorem parse_any (s : ByteArray) (w : World) (hs : s.size ≤ maxLen) (hN : Nm w) :
    Calls Tryd.prog 6 #[.string s] w fun e w' => (∃ l z x y er : Int, parseL s.data.toList = ((l, z, x, y), er) ∧ e = .returned (.tuple #[.agg #[.int .i64 l, .int .i64 z, .int .i64 x, .int .i64 y], .int .i64 er])) ∧ Below w.heap.size w w' := by
  have HN := hide hN
  clear hN
  go_enter Tryd.func6, Tryd.ntmps6
  go_wp2_with fail
  refine (split_any s _ hs).mono ?_
  rintro e w1 ⟨⟨hn, rfl⟩ | ⟨N, Z, X, Y, hsp, rfl⟩, hb⟩
  · have hP := hide (parseL_none _ hn)
    clear hn
    obtain ⟨hc, hf⟩ := bcell hb
    have hz : w.heap.size < w1.heap.size := by have := hb.size; simp at this; omega
    have HB := hide hb
    clear hb
    have hBw : Below w.heap.size w w1 := ((Below.refl _ _).alloc (Nat.le_refl _) _).trans ((unhide HB).mono (by simp))
    have HBw := hide hBw
    clear hBw
    go_wp2_with fail
    refine bodyPost_ret (v := .tuple #[.agg #[.int .i64 0, .int .i64 0, .int .i64 0, .int .i64 0], .int .i64 1]) (by simp [results, Tryd.results6, go_sem, hz, hc]) rfl ⟨⟨0, 0, 0, 0, 1, unhide hP, rfl⟩, ?_⟩
    exact (((((unhide HBw).setCell (Nat.le_refl _) _).setCell (Nat.le_refl _) _).setCell (Nat.le_refl _) _).setCell (Nat.le_refl _) _).alloc (by simp; omega) _
  · have HSP := hide hsp
    obtain ⟨n1, n2, n3, n4⟩ := split_nums _ _ _ _ _ hsp
    have hok := hide (parseL_ok _ _ _ _ _ hsp)
    have herr := hide (parseL_err _ _ _ _ _ hsp)
    clear hsp
    have hlc := layer_cap N.data.toList
    have z9 := (Pp.numB_len _ n2).2
    have x9 := (Pp.numB_len _ n3).2
    have y9 := (Pp.numB_len _ n4).2
    rw [len_size] at z9 x9 y9
    have hZ := hide (Pp.numB_within _ n2)
    have hX := hide (Pp.numB_within _ n3)
    have hY := hide (Pp.numB_within _ n4)
    have cZ := val_cap Z 9 z9 (unhide hZ)
    have cX := val_cap X 9 x9 (unhide hX)
    have cY := val_cap Y 9 y9 (unhide hY)
    rw [List.take_of_length_le (by simp; omega)] at cZ cX cY
    clear n1 n2 n3 n4
    obtain ⟨hc, hf⟩ := bcell hb
    have hz : w.heap.size < w1.heap.size := by have := hb.size; simp at this; omega
    have hBw : Below w.heap.size w w1 := ((Below.refl _ _).alloc (Nat.le_refl _) _).trans (hb.mono (by simp))
    have hNm : Nm w1 := (unhide HN).on hBw
    have hNm2 : ∀ o1 o2, Hid (NamesIn ((w1.alloc o1).alloc o2)) := fun o1 o2 => ((hNm.on ((Below.refl _ _).alloc (Nat.le_refl _) o1)).on ((Below.refl _ _).alloc (Nat.le_refl _) o2)).2
    have HBw := hide hBw
    clear hBw hb hNm
    go_wp2_with fail
    refine (layerOf_any N _ (unhide (hNm2 _ _))).mono ?_
    rintro e w2 ⟨rfl, rfl⟩
    clear hNm2
    obtain ⟨L, hL⟩ : ∃ L, Pp.layerL N.data.toList = L := ⟨_, rfl⟩
    obtain ⟨vz, hvz⟩ : ∃ v, Pp.valL Z.data.toList = v := ⟨_, rfl⟩
    obtain ⟨vx, hvx⟩ : ∃ v, Pp.valL X.data.toList = v := ⟨_, rfl⟩
    obtain ⟨vy, hvy⟩ : ∃ v, Pp.valL Y.data.toList = v := ⟨_, rfl⟩
    rw [hL] at hok herr hlc ⊢
    rw [hvz] at hok herr cZ
    rw [hvx] at hok herr cX
    rw [hvy] at hok herr cY
    have HVZ := hide hvz
    have HVX := hide hvx
    have HVY := hide hvy
    clear hL hvz hvx hvy
    go_wp2_with fail
    refine (value_any Z _ z9 (unhide hZ)).mono ?_
    rintro e w2 ⟨rfl, rfl⟩
    rw [unhide HVZ]
    go_wp2_with fail
    refine (value_any X _ x9 (unhide hX)).mono ?_
    rintro e w2 ⟨rfl, rfl⟩
    rw [unhide HVX]
    go_wp2_with fail
    refine (value_any Y _ y9 (unhide hY)).mono ?_
    rintro e w2 ⟨rfl, rfl⟩
    rw [unhide HVY]
    clear HVZ HVX HVY hZ hX hY HSP
    go_wp2_with fail
    refine (keyError_any L vz vx vy _).mono ?_
    rintro e w2 ⟨rfl, hb2⟩
    generalize Pp.keyErr L vz vx vy = E at hok herr
    obtain ⟨hc2, hf2⟩ := bcell hb2
    have hz2 : w1.heap.size + 1 < w2.heap.size := by have := hb2.size; simp at this; omega
    have hz3 : w.heap.size < w1.heap.size + 1 + 1 := by omega
    have hz4 : w.heap.size < w1.heap.size + 1 := by omega
    have hB2 : Below w.heap.size w w2 := (((unhide HBw).alloc (by omega) _).alloc (by simp; omega) _).trans (hb2.mono (by simp; omega))
    have HB2 := hide hB2
    clear hb2 hB2 HBw
    by_cases hE : E = 0
    · have hP := hide (unhide hok hE)
      subst hE
      clear hok herr
      go_wp2_with fail
      refine bodyPost_ret (v := .tuple #[.agg #[.int .i64 L, .int .i64 vz, .int .i64 vx, .int .i64 vy], .int .i64 0]) (by simp [results, Tryd.results6, go_sem, hz, hz3, hz4, hc, hc2]) rfl ⟨⟨L, vz, vx, vy, 0, unhide hP, rfl⟩, ?_⟩
      exact ((((unhide HB2).setCell (Nat.le_refl _) _).setCell (Nat.le_refl _) _).setCell (Nat.le_refl _) _).setCell (Nat.le_refl _) _
    · have hP := hide (unhide herr hE)
      have hbe : (E != 0) = true := by rw [bne_iff_ne]; exact hE
      clear hok herr hE
      go_wp2_with fail
      refine bodyPost_ret (v := .tuple #[.agg #[.int .i64 0, .int .i64 0, .int .i64 0, .int .i64 0], .int .i64 E]) (by simp [results, Tryd.results6, go_sem, hz, hz3, hz4, hc, hc2]) rfl ⟨⟨0, 0, 0, 0, E, unhide hP, rfl⟩, ?_⟩
      exact ((((unhide HB2).setCell (Nat.le_refl _) _).setCell (Nat.le_refl _) _).setCell (Nat.le_refl _) _).setCell (Nat.le_refl _) _
end Go.Proofs.YtacjjjjbfjkohaaDoor
