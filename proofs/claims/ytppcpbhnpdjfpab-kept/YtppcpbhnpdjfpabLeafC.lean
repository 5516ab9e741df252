/-
  Features that lie in blocks, read whole; Check.
-/
import Derived.Test.YtppcpbhnpdjfpabLeafB
namespace Go.Proofs.Ytppcpbhnpdjfpab
open Go.RowKit

theorem blk_on {W W' : World} {b : Nat} {o : Obj} (h : W.heap[b]? = some o) (hb : Below W.heap.size W W') : W'.heap[b]? = some o := by
  have : b < W.heap.size := (Array.getElem?_eq_some_iff.1 h).1
  rw [hb.block b this, h]
theorem blk_cells {W : World} {b : Nat} {cs : Array Value} {t : TypeId} (h : W.heap[b]? = some (.cells cs t (0, 0))) (j : Nat) : W.cell? ⟨b, j, none⟩ = cs[j]? := cell_of_row W b j cs t (0, 0) h
theorem szf (f : Nat → Int) : (Try.prog.info? 54).map (·.size) = some (fc f).size := by rw [fc_size]; kernel_rfl

/-- A feature is read whole. -/
theorem ld26 {ops : Array Oper} {rest : List Oper} {o : Oper} {a : Act} {w : World} {Q : Exit → Act → World → Prop} (hw : Region.wanted o (yielded ops a.tmps) = true) (x : Operand) (ho : o.op = .load 54 x)
    (g : Nat) (hx : a.eval x = .pointer (some ⟨g, 0, none⟩)) (f : Nat → Int) (hg : w.heap[g]? = some (.cells (fc f) 54 (0, 0)))
    (h : wpList Try.prog ops Q rest (a.put o.dst (.agg (fc f))) w) : wpList Try.prog ops Q (o :: rest) a w := by
  unfold wpList
  rw [if_pos hw]
  exact Or.inl (wp_load_row 54 x ho g hx 54 (fc f) (0, 0) _ hg Try.underlying54 rfl (szf f) h)

set_option maxHeartbeats 800000 in
theorem check_any (f : Nat → Int) (w : World) :
    Calls Try.prog 28 #[.agg (fc f)] w fun e w' => e = .returned (.int .i64 (bif right f then 0 else 7)) ∧ Below w.heap.size w w' := by
  have hg0 := heap_alloc_new w (.cells (fc f) 54 (0, 0))
  cases h1 : traits f with
  | false =>
    have H : Hid (right f = false) := by show right f = _; simp [right, h1]
    go_enter Try.func28, Try.ntmps28
    go_wp2_with (refine ld26 rfl _ rfl _ rfl f hg0 ?_)
    refine (hasTraits_any f _).mono ?_
    rintro e w1 ⟨rfl, hb1⟩
    have HB := hide ((below_one _ _).trans (hb1.mono (by simp)))
    clear hb1
    go_wp2_with fail
    go_ret
    exact ⟨ret_int (by rw [unhide H]; rfl), unhide HB⟩
  | true =>
  cases h2 : form f with
  | false =>
    have H : Hid (right f = false) := by show right f = _; simp [right, h2]
    go_enter Try.func28, Try.ntmps28
    go_wp2_with (refine ld26 rfl _ rfl _ rfl f hg0 ?_)
    refine (hasTraits_any f _).mono ?_
    rintro e w1 ⟨rfl, hb1⟩
    have hg1 := blk_on hg0 hb1
    have HB := hide ((below_one _ _).trans (hb1.mono (by simp)))
    clear hb1
    go_wp2_with (refine ld26 rfl _ rfl _ rfl f hg1 ?_)
    refine (hasForm_any f _).mono ?_
    rintro e w2 ⟨rfl, hb2⟩
    have HB2 := hide ((unhide HB).trans (hb2.mono (unhide HB).size))
    clear hb2 hg1
    go_wp2_with fail
    go_ret
    exact ⟨ret_int (by rw [unhide H]; rfl), unhide HB2⟩
  | true =>
    have H : Hid (right f = pts f 8) := by show right f = _; simp [right, h1, h2]
    cases h3 : pts f 8 with
    | false =>
      go_enter Try.func28, Try.ntmps28
      go_wp2_with (refine ld26 rfl _ rfl _ rfl f hg0 ?_)
      refine (hasTraits_any f _).mono ?_
      rintro e w1 ⟨rfl, hb1⟩
      have hg1 := blk_on hg0 hb1
      have HB := hide ((below_one _ _).trans (hb1.mono (by simp)))
      clear hb1
      go_wp2_with (refine ld26 rfl _ rfl _ rfl f hg1 ?_)
      refine (hasForm_any f _).mono ?_
      rintro e w2 ⟨rfl, hb2⟩
      have hg2 := blk_on hg1 hb2
      have HB2 := hide ((unhide HB).trans (hb2.mono (unhide HB).size))
      clear hb2 hg1
      go_wp2_with (refine ld26 rfl _ rfl _ rfl f hg2 ?_)
      refine (hasPoints_any f _).mono ?_
      rintro e w3 ⟨rfl, hb3⟩
      have HB3 := hide ((unhide HB2).trans (hb3.mono (unhide HB2).size))
      clear hb3 hg2
      go_wp2_with fail
      go_ret
      exact ⟨ret_int (by rw [unhide H, h3]; rfl), unhide HB3⟩
    | true =>
      go_enter Try.func28, Try.ntmps28
      go_wp2_with (refine ld26 rfl _ rfl _ rfl f hg0 ?_)
      refine (hasTraits_any f _).mono ?_
      rintro e w1 ⟨rfl, hb1⟩
      have hg1 := blk_on hg0 hb1
      have HB := hide ((below_one _ _).trans (hb1.mono (by simp)))
      clear hb1
      go_wp2_with (refine ld26 rfl _ rfl _ rfl f hg1 ?_)
      refine (hasForm_any f _).mono ?_
      rintro e w2 ⟨rfl, hb2⟩
      have hg2 := blk_on hg1 hb2
      have HB2 := hide ((unhide HB).trans (hb2.mono (unhide HB).size))
      clear hb2 hg1
      go_wp2_with (refine ld26 rfl _ rfl _ rfl f hg2 ?_)
      refine (hasPoints_any f _).mono ?_
      rintro e w3 ⟨rfl, hb3⟩
      have HB3 := hide ((unhide HB2).trans (hb3.mono (unhide HB2).size))
      clear hb3 hg2
      go_wp2_with fail
      go_ret
      exact ⟨ret_int (by rw [unhide H, h3]; rfl), unhide HB3⟩
end Go.Proofs.Ytppcpbhnpdjfpab
