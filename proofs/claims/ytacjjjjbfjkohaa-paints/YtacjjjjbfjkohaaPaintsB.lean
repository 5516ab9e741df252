/-
  The law Paints, a list that is not nil.
-/
import Derived.Test.YtacjjjjbfjkohaaPaintsA
namespace Go.Proofs.Ytacjjjjbfjkohaa
open Go.RowKit

theorem q_callC {ops : Array Oper} {w : World} {Q : Act → Prop} {a : Act} {o : Oper} {rest : List Oper} (hw : Region.wanted o (yielded ops a.tmps) = true) (f : FuncId) (args : Array Value) (h0 : ∀ w', (execOp a.eval o).run Try.prog w' = .ok (.enter f args) w') (v : Value)
    (hc : ∀ w', Below w.heap.size w w' → Calls Try.prog f args w' fun e w'' => e = .returned v ∧ Below w'.heap.size w' w'') (hk : wpQuiet Try.prog ops (Cq w) Q rest (a.put o.dst v)) :
    wpQuiet Try.prog ops (Cq w) Q (o :: rest) a :=
  BigFrame.wpQuiet_want hw fun _ hK => ⟨v, fun w' hw' => by
    unfold Oper.quietAt; rw [h0 w']
    exact ⟨rfl, (hc w' hw').mono fun e w'' h => ⟨h.1, Below.trans hw' (h.2.mono hw'.size)⟩⟩, hK _ hk⟩
theorem setCell_blk {w : World} {g o : Nat} {c : Array Value} {t : TypeId} (h : w.heap[g]? = some (.cells c t (0, 0))) (v : Value) : (w.setCell ⟨g, o, none⟩ v).heap[g]? = some (.cells (c.setIfInBounds o v) t (0, 0)) := by
  simp [World.setCell, Array.getElem?_modify, h]
theorem blk_frozen {w : World} {g : Nat} {c : Array Value} {t : TypeId} (h : w.heap[g]? = some (.cells c t (0, 0))) (o : Nat) : w.frozen? ⟨g, o, none⟩ = false := by
  simp [World.frozen?, h]

set_option maxHeartbeats 3200000 in
theorem paints_some (ad : Addr) (n cap : Nat) (fs : Nat → Nat → Int) (l z x y : Int) (w : World) (hv : FsAt w (.slice (some ad) n cap) n fs) (hn : 192 * n ≤ 140737488355328) :
    Calls Try.prog 5 #[.slice (some ad) n cap, .agg #[.int .i64 l, .int .i64 z, .int .i64 x, .int .i64 y]] w fun e w' => e = .returned (.bool true) ∧ Below w.heap.size w w' := by
  have hg0 := heap_alloc_new w (.cells #[.int .i64 l, .int .i64 z, .int .i64 x, .int .i64 y] 28 (0, 0))
  have hnil := fun W => Lib.run_eql_slice_nil (P := Try.prog) W 34 26 (some ad) n cap 0 0 Try.underlying34
  have P1 := fun W v h => Paint_any v n fs l z x y W h
  have P2 := fun W v h => refPaint_any v n fs l z x y W h
  generalize pPic fs n l z x y = L at P1 P2
  generalize pErr fs n l z x y = E at P1 P2
  have hbq := str_beq L
  have HV := hide hv
  have hn' : (n : Int) ≤ 1000000000000 := by omega
  clear hv
  go_enter Try.func5, Try.ntmps5
  go_wp2_with (at_make; refine mk34 rfl (.tmp 38) (.tmp 38) rfl (n + 2) _ rfl rfl ?_ ?_ (w.heap.size + 1) ?_ ?_)
  · omega
  · omega
  · simp
  intro w2 cur hg2 hsz hb2
  have hbw2 : Below w.heap.size w w2 := (below_one _ _).trans (hb2.mono (by omega))
  have hk2 : w2.heap[w.heap.size]? = some (.cells #[.int .i64 l, .int .i64 z, .int .i64 x, .int .i64 y] 28 (0, 0)) := (hb2.block _ (by omega)).trans hg0
  have hfs : 0 < n → ∃ b off, ad = ⟨b, off, none⟩ ∧ ∀ i, i < n → ∀ j, j < 24 → w2.cell? ⟨b, off + i * 24 + j, none⟩ = some (.int .i64 (fs i j)) := by
    intro h0
    obtain ⟨oa, cap', e, _, h⟩ := (unhide HV).on hbw2
    simp only [Value.slice.injEq] at e
    obtain ⟨b, off, e', _, hc⟩ := h h0
    rw [← e.1] at e'
    exact ⟨b, off, Option.some.inj e', hc⟩
  have HF := hide hfs
  have HB2 := hide hbw2
  have HK2 := hide hk2
  clear hfs hb2 hbw2 hk2
  go_wp2_with (refine cp34 rfl (.tmp 40) (.tmp 41) rfl (w.heap.size + 1) n cap ad fs rfl rfl cur hg2 hsz ?_ ?_)
  · exact unhide HF
  intro cur' hsz' hc' hg3
  have hk3 := (setRow_other (show w.heap.size + 1 ≠ w.heap.size by omega) cur').trans (unhide HK2)
  have hbw3 := below_setRow (unhide HB2) (show w.heap.size ≤ w.heap.size + 1 by omega) cur'
  generalize w2.setRow (w.heap.size + 1) cur' = w3 at hg3 hk3 hbw3 ⊢
  clear hg2 hsz HB2 HK2
  have hg4 := setCell_blk (o := n * 24) hg3 (.int .i64 (-77))
  have hg5 := setCell_blk (o := (n + 1) * 24) hg4 (.int .i64 (-77))
  have hc3 := blk_cells hg3
  have hc4 := blk_cells hg4
  have hf3 := blk_frozen hg3
  have hf4 := blk_frozen hg4
  have hn1 : ((n : Int) + 1).toNat = n + 1 := by omega
  obtain ⟨V1, hV1⟩ : ∃ V, cur'[n * 24]? = some V := ⟨_, Array.getElem?_eq_getElem (by omega)⟩
  obtain ⟨V2, hV2⟩ : ∃ V, (cur'.setIfInBounds (n * 24) (.int .i64 (-77)))[(n + 1) * 24]? = some V := ⟨_, Array.getElem?_eq_getElem (by simp; omega)⟩
  have HK3 := hide hk3
  have HB3 := hide hbw3
  have HG5 := hide hg5
  have HC' := hide hc'
  clear hk3 hbw3 hg5 hc'
  go_wp2_with fail
  have hk5 := (Below.heap_setCell (w3.setCell ⟨w.heap.size + 1, n * 24, none⟩ (.int .i64 (-77))) ⟨w.heap.size + 1, (n + 1) * 24, none⟩ (.int .i64 (-77)) w.heap.size (by simp)).trans ((Below.heap_setCell w3 ⟨w.heap.size + 1, n * 24, none⟩ (.int .i64 (-77)) w.heap.size (by simp)).trans (unhide HK3))
  have hb5 := ((unhide HB3).setCell (p := ⟨w.heap.size + 1, n * 24, none⟩) (by simp) (.int .i64 (-77))).setCell (p := ⟨w.heap.size + 1, (n + 1) * 24, none⟩) (by simp) (.int .i64 (-77))
  have hg5 := unhide HG5
  have hin : ∀ i, i < n → ∀ j, j < 24 → ((cur'.setIfInBounds (n * 24) (.int .i64 (-77))).setIfInBounds ((n + 1) * 24) (.int .i64 (-77)))[i * 24 + j]? = some (.int .i64 (fs i j)) := by
    intro i hi j hj
    rw [Array.getElem?_setIfInBounds_ne (by omega), Array.getElem?_setIfInBounds_ne (by omega)]
    exact unhide HC' i hi j hj
  have hm1 : ((cur'.setIfInBounds (n * 24) (.int .i64 (-77))).setIfInBounds ((n + 1) * 24) (.int .i64 (-77)))[n * 24]? = some (.int .i64 (-77)) := by
    rw [Array.getElem?_setIfInBounds_ne (by omega), Array.getElem?_setIfInBounds_self_of_lt (by omega)]
  have hm2 : ((cur'.setIfInBounds (n * 24) (.int .i64 (-77))).setIfInBounds ((n + 1) * 24) (.int .i64 (-77)))[(n + 1) * 24]? = some (.int .i64 (-77)) := by
    rw [Array.getElem?_setIfInBounds_self_of_lt (by simp; omega)]
  generalize (w3.setCell ⟨w.heap.size + 1, n * 24, none⟩ (.int .i64 (-77))).setCell ⟨w.heap.size + 1, (n + 1) * 24, none⟩ (.int .i64 (-77)) = w5 at hk5 hb5 hg5 ⊢
  generalize (cur'.setIfInBounds (n * 24) (.int .i64 (-77))).setIfInBounds ((n + 1) * 24) (.int .i64 (-77)) = c5 at hg5 hin hm1 hm2
  clear hc3 hc4 hf3 hf4 hg3 hg4 hV1 hV2 HK3 HB3 HG5 HC' HF
  have FA : FsAt w5 (.slice (some ⟨w.heap.size + 1, 0, none⟩) n (n + 2)) n fs := ⟨_, _, rfl, by unfold maxLen; omega, fun _ => ⟨w.heap.size + 1, 0, rfl, (Array.getElem?_eq_some_iff.1 hg5).1, fun i hi j hj => by rw [Nat.zero_add, blk_cells hg5]; exact hin i hi j hj⟩⟩
  have FB := (unhide HV).on hb5
  have hs1 : (n : Int) ≤ (n : Int) + 2 := by omega
  have HFA := hide FA
  have HFB := hide FB
  have HB5 := hide hb5
  have HIN := hide hin
  clear hin hb5 FA FB
  have P1 := fun W h => P1 W _ ((unhide HFA).on h)
  refine region_bq (by kernel_rfl) (by kernel_rfl) ?_
  refine q_move rfl _ rfl (.slice (some ⟨w.heap.size + 1, 0, none⟩) (n + 2) (n + 2)) rfl ?_
  simp only [Act.put, List.setIfInBounds_toArray, List.set_cons_succ, List.set_cons_zero]
  refine q_move rfl _ rfl (.int .i64 n) rfl ?_
  simp only [Act.put, List.setIfInBounds_toArray, List.set_cons_succ, List.set_cons_zero]
  refine q_val rfl (.slice (some ⟨w.heap.size + 1, 0, none⟩) n (n + 2)) (fun _ _ => by simp [go_sem, hs1]) ?_
  simp only [Act.put, List.setIfInBounds_toArray, List.set_cons_succ, List.set_cons_zero]
  refine q_load rfl 28 _ rfl w.heap.size 0 rfl #[.int .i64 l, .int .i64 z, .int .i64 x, .int .i64 y] _ Try.underlying28 rfl (sz28 l z x y) (fun w' h => rng_on hk5 h) ?_
  simp only [Act.put, List.setIfInBounds_toArray, List.set_cons_succ, List.set_cons_zero]
  refine q_callC rfl 19 #[.slice (some ⟨w.heap.size + 1, 0, none⟩) n (n + 2), .agg #[.int .i64 l, .int .i64 z, .int .i64 x, .int .i64 y]] (fun _ => by simp [go_sem]) _ P1 ?_
  simp only [Act.put, List.setIfInBounds_toArray, List.set_cons_succ, List.set_cons_zero]
  refine q_move rfl _ rfl (.tuple #[.string ⟨L.toArray⟩, .int .i64 E]) rfl ?_
  simp only [Act.put, List.setIfInBounds_toArray, List.set_cons_succ, List.set_cons_zero]
  refine q_val rfl (.string ⟨L.toArray⟩) (fun _ _ => by simp [go_sem]) ?_
  simp only [Act.put, List.setIfInBounds_toArray, List.set_cons_succ, List.set_cons_zero]
  refine q_val rfl (.int .i64 E) (fun _ _ => by simp [go_sem]) ?_
  simp only [Act.put, List.setIfInBounds_toArray, List.set_cons_succ, List.set_cons_zero]
  refine q_assign rfl _ rfl (.string ⟨L.toArray⟩) rfl ?_
  simp only [Act.put, List.setIfInBounds_toArray, List.set_cons_succ, List.set_cons_zero]
  refine q_assign rfl _ rfl (.int .i64 E) rfl ?_
  simp only [Act.put, List.setIfInBounds_toArray, List.set_cons_succ, List.set_cons_zero]
  refine wpQuiet_nil ?_
  intro w6 hw6
  have hg6 := blk_on hg5 hw6
  have hk6 := blk_on hk5 hw6
  have hc6 := blk_cells hk6
  have FA6 := hide ((unhide HFA).on hw6)
  have FB6 := hide ((unhide HFB).on hw6)
  have HB6 := hide ((unhide HB5).trans (hw6.mono (unhide HB5).size))
  clear hw6 hg5 hk5 HFA HFB HB5 P1
  go_wp2_with fail
  refine (P2 _ _ (unhide FB6)).mono ?_
  rintro e w7 ⟨rfl, hb7⟩
  have hg7 := blk_on hg6 hb7
  have hc7 := blk_cells hg7
  have FA7 := hide ((unhide FA6).on hb7)
  have FB7 := hide ((unhide FB6).on hb7)
  have HB7 := hide ((unhide HB6).trans (hb7.mono (unhide HB6).size))
  clear hb7 hg6 hk6 hc6 FA6 FB6 HB6 P2
  go_wp2_with fail
  refine (sameFeatures_eq _ _ n fs _ (unhide FA7) (unhide FB7) (by omega)).mono ?_
  rintro e w8 ⟨rfl, hb8⟩
  have HB8 := hide ((unhide HB7).trans (hb8.mono (unhide HB7).size))
  clear hb8
  go_wp2_with fail
  go_ret
  exact ⟨rfl, unhide HB8⟩
end Go.Proofs.Ytacjjjjbfjkohaa
