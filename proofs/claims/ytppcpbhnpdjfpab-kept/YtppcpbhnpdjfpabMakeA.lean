/-
  THE MAKERS OF RIGHT FEATURES: pick, order, unit, across; a region in which one block is made among calls that leave the world alone.
-/
import Derived.Test.YtppcpbhnpdjfpabInkB
import Derived.OrdersHeld
namespace Go.Proofs.Ytppcpbhnpdjfpab
open Go.RowKit

/-- A number from 0 to n - 1 out of any number. -/
def pk (c n : Int) : Int := (if c < 0 then -(c + 1) else c) % n
theorem pk_in (c : Int) {n : Int} (h : 0 < n) : 0 ≤ pk c n ∧ pk c n < n := ⟨Int.emod_nonneg _ (by omega), Int.emod_lt_of_pos _ h⟩

theorem pick_any (c n : Int) (w : World) (hc : -9223372036854775808 ≤ c ∧ c ≤ 9223372036854775807) (hn : 0 < n ∧ n ≤ 9223372036854775807) :
    Calls Try.prog 5 #[.int .i64 c, .int .i64 n] w fun e w' => e = .returned (.int .i64 (pk c n)) ∧ w = w' := by
  by_cases h : c < 0
  · have H : Hid (pk c n = (-(c + 1)) % n) := by show pk c n = _; simp [pk, h]
    go_enter Try.func5, Try.ntmps5
    go_wp2
    go_ret
    refine ⟨ret_int ?_, rfl⟩
    rw [unhide H, ← Int.neg_tmod, Int.tmod_eq_emod_of_nonneg (by omega)]
  · have H : Hid (pk c n = c % n) := by show pk c n = _; simp [pk, h]
    go_enter Try.func5, Try.ntmps5
    go_wp2
    go_ret
    refine ⟨ret_int ?_, rfl⟩
    rw [unhide H]

theorem un8 (n : Nat) (h : n ≤ 22) : (8 : Int) * (2 : Int) ^ n ≤ 33554432 ∧ 8 ≤ (8 : Int) * (2 : Int) ^ n ∧ (1073741824 : Int) / (8 * (2 : Int) ^ n) = (2 : Int) ^ (27 - n) := by
  have : n ∈ List.range 23 := by simp; omega
  have key : ∀ m ∈ List.range 23, (8 : Int) * (2 : Int) ^ m ≤ 33554432 ∧ 8 ≤ (8 : Int) * (2 : Int) ^ m ∧ (1073741824 : Int) / (8 * (2 : Int) ^ m) = (2 : Int) ^ (27 - m) := by decide
  exact key n this
theorem across_any (z : Int) (w : World) (h1 : 0 ≤ z) (h2 : z ≤ 22) :
    Calls Try.prog 26 #[.int .i64 z] w fun e w' => e = .returned (.int .i64 ((2 : Int) ^ z.toNat)) ∧ w = w' := by
  obtain ⟨p1, p2⟩ := pow_cap z h2
  have hw : wrap64 ((2 : Int) ^ z.toNat) = (2 : Int) ^ z.toNat := IntWalk.wrap64_in _ ⟨by omega, by omega⟩
  go_enter Try.func26, Try.ntmps26
  go_wp2
  go_ret
  exact ⟨ret_int (by first | rfl | exact hw), rfl⟩

section
variable {ops : Array Oper} {Q : Exit → Act → World → Prop} {S : World → Prop} {listed : Array Bool} {a : Act} {w : World} {i fuel : Nat} {o : Oper}
theorem h_call (ho : ops[i]? = some o) (hw : Region.wanted o (yielded ops a.tmps) = true) (f : FuncId) (args : Array Value) (h0 : (execOp a.eval o).run Try.prog w = .ok (.enter f args) w) (v : Value)
    (hc : Calls Try.prog f args w fun e w' => e = .returned v ∧ w = w') (hS : S w) (h : wpAnyH Try.prog .any ops Q S fuel (listed.setIfInBounds i true) (a.put o.dst v) w) :
    wpOp Try.prog ops Q i (fun a' w' => S w' ∧ wpAnyH Try.prog .any ops Q S fuel (listed.setIfInBounds i true) a' w') a w := by
  unfold wpOp
  simp only [ho]
  rw [if_pos hw]
  left
  unfold Oper.wp
  rw [h0]
  exact hc.mono fun e w' ⟨e1, e2⟩ => by subst e1; subst e2; exact ⟨hS, h⟩
theorem h_op (ho : ops[i]? = some o) (hw : Region.wanted o (yielded ops a.tmps) = true) (v : Value) (w1 : World) (h0 : (execOp a.eval o).run Try.prog w = .ok (.value v) w1) (hS : S w1)
    (h : wpAnyH Try.prog .any ops Q S fuel (listed.setIfInBounds i true) (a.put o.dst v) w1) :
    wpOp Try.prog ops Q i (fun a' w' => S w' ∧ wpAnyH Try.prog .any ops Q S fuel (listed.setIfInBounds i true) a' w') a w := by
  unfold wpOp
  simp only [ho]
  rw [if_pos hw]
  left
  unfold Oper.wp
  rw [h0]
  exact ⟨hS, h⟩
theorem h_st26 (ho : ops[i]? = some o) (hw : Region.wanted o (yielded ops a.tmps) = true) (x y : Operand) (hop : o.op = .store 54 x y) (g : Nat) (T : Nat → Int) (hx : a.eval x = .pointer (some ⟨g, 0, none⟩)) (hy : a.eval y = .agg (fc T)) (old : Nat → Int) (hg : w.heap[g]? = some (.cells (fc old) 54 (0, 0)))
    (hS : S (w.setRow g (fc T))) (h : wpAnyH Try.prog .any ops Q S fuel (listed.setIfInBounds i true) (a.put o.dst undef) (w.setRow g (fc T))) :
    wpOp Try.prog ops Q i (fun a' w' => S w' ∧ wpAnyH Try.prog .any ops Q S fuel (listed.setIfInBounds i true) a' w') a w := by
  unfold wpOp
  simp only [ho]
  rw [if_pos hw]
  left
  exact wp_store_row 54 x y hop g (fc T) hx hy 54 (fc old) hg (szf T) (by rw [fc_size, fc_size]) (fc_one T) ⟨hS, h⟩
end
/-- A field of a feature is written. -/
def upd (f : Nat → Int) (i : Nat) (v : Int) : Nat → Int := fun j => if j = i then v else f j
theorem fc_set (f : Nat → Int) (i : Nat) (v : Int) (h : i < 24) : (fc f).setIfInBounds i (.int .i64 v) = fc (upd f i v) := by
  apply Array.ext_getElem?
  intro j
  by_cases hj : j < 24
  · rw [fc_at _ j hj]
    by_cases e : i = j
    · subst e; rw [Array.getElem?_setIfInBounds_self_of_lt (by rw [fc_size]; exact h)]; simp [upd]
    · rw [Array.getElem?_setIfInBounds_ne e, fc_at _ j hj]; simp [upd, Ne.symm e]
  · rw [Array.getElem?_eq_none (by simp [fc_size]; omega), Array.getElem?_eq_none (by rw [fc_size]; omega)]
theorem set_blk {w : World} {g i : Nat} {f : Nat → Int} (h : w.heap[g]? = some (.cells (fc f) 54 (0, 0))) (hi : i < 24) (v : Int) : (w.setCell ⟨g, i, none⟩ (.int .i64 v)).heap[g]? = some (.cells (fc (upd f i v)) 54 (0, 0)) := by
  rw [← fc_set f i v hi]
  simp [World.setCell, Array.getElem?_modify, h]
theorem frz_blk {w : World} {g : Nat} {c : Array Value} {t : TypeId} (h : w.heap[g]? = some (.cells c t (0, 0))) (o : Nat) : w.frozen? ⟨g, o, none⟩ = false := by
  simp [World.frozen?, h]
end Go.Proofs.Ytppcpbhnpdjfpab
