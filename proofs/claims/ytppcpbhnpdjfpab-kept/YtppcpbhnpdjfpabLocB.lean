/-
  atlaskeep.place.
-/
import Derived.Test.YtppcpbhnpdjfpabLocA
namespace Go.Proofs.Ytppcpbhnpdjfpab
open Go.RowKit

theorem t_st28 {l : List Oper} {Q : Exit → Act → World → Prop} {S : World → Prop} {listed : Array Bool} {a : Act} {w : World} {fuel : Nat} {o : Oper} {rest : List Oper} (i : Nat) (hd : l.drop i = o :: rest) (hw : Region.wanted o (yielded l.toArray a.tmps) = true) (x y : Operand) (hop : o.op = .store 41 x y) (g : Nat) (b1 b2 b3 b4 : Int) (hx : a.eval x = .pointer (some ⟨g, 0, none⟩)) (hy : a.eval y = .agg #[.int .i64 b1, .int .i64 b2, .int .i64 b3, .int .i64 b4]) (c1 c2 c3 c4 : Int) (hg : w.heap[g]? = some (.cells #[.int .i64 c1, .int .i64 c2, .int .i64 c3, .int .i64 c4] 41 (0, 0)))
    (hS : S (w.setRow g #[.int .i64 b1, .int .i64 b2, .int .i64 b3, .int .i64 b4])) (h : wpAnyH Try.prog .any l.toArray Q S fuel (listed.setIfInBounds i true) (a.put o.dst undef) (w.setRow g #[.int .i64 b1, .int .i64 b2, .int .i64 b3, .int .i64 b4])) :
    wpOp Try.prog l.toArray Q i (fun a' w' => S w' ∧ wpAnyH Try.prog .any l.toArray Q S fuel (listed.setIfInBounds i true) a' w') a w := by
  unfold wpOp
  simp only [at_drop hd]
  rw [if_pos hw]
  left
  exact wp_store_row 41 x y hop g _ hx hy 41 _ hg (sz28 b1 b2 b3 b4) rfl (by simp only [List.all_toArray, List.all_cons, List.all_nil]; rfl) ⟨hS, h⟩

set_option maxHeartbeats 6400000 in
theorem place_any (l z x y : Int) (w : World) (r1 : -9223372036854775808 ≤ l ∧ l ≤ 9223372036854775807) (r2 : -9223372036854775808 ≤ z ∧ z ≤ 9223372036854775807) (r3 : -9223372036854775808 ≤ x ∧ x ≤ 9223372036854775807) (r4 : -9223372036854775808 ≤ y ∧ y ≤ 9223372036854775807) :
    Calls Try.prog 10 #[.agg #[.int .i64 l, .int .i64 z, .int .i64 x, .int .i64 y]] w fun e w' => e = .returned (.agg #[.int .i64 (pk l 4), .int .i64 (pk z 23), .int .i64 (pk x ((2 : Int) ^ (pk z 23).toNat)), .int .i64 (pk y ((2 : Int) ^ (pk z 23).toNat))]) ∧ Below w.heap.size w w' := by
  have K0 := fun W => pick_any l 4 W r1 (by omega)
  have K1 := fun W => pick_any z 23 W r2 (by omega)
  have bz := pk_in z (n := 23) (by omega)
  generalize pk z 23 = Z at K1 bz
  have KA := fun W => across_any Z W bz.1 (by omega)
  have bp := pow_cap Z (by omega)
  generalize (2 : Int) ^ Z.toNat = N at KA bp
  have K2 := fun W => pick_any x N W r3 (by omega)
  have K3 := fun W => pick_any y N W r4 (by omega)
  generalize pk x N = X at K2
  generalize pk y N = Y at K3
  generalize pk l 4 = L at K0
  obtain ⟨t1, t2, t3⟩ := two_blocks w (.cells #[.int .i64 l, .int .i64 z, .int .i64 x, .int .i64 y] 41 (0, 0)) (.cells #[.int .i64 0, .int .i64 0, .int .i64 0, .int .i64 0] 41 (0, 0))
  have HZ := hide t2
  have HB := hide t3
  clear t2 t3 bp r1 r2 r3 r4
  go_enter Try.func10, Try.ntmps10
  go_wp2_with fail
  refine (K1 _).mono ?_
  rintro e w9 ⟨rfl, rfl⟩
  go_wp2_with fail
  refine wp_region_held (S := fun w' => w'.heap[w.heap.size]? = some (.cells #[.int .i64 l, .int .i64 z, .int .i64 x, .int .i64 y] 41 (0, 0))) (by kernel_rfl) ?_
  change wpAnyH _ _ _ _ _ _ _ _ (World.drew _)
  have hS : (World.drew ((w.alloc (.cells #[.int .i64 l, .int .i64 z, .int .i64 x, .int .i64 y] 41)).alloc (.cells #[.int .i64 0, .int .i64 0, .int .i64 0, .int .i64 0] 41))).heap[w.heap.size]? = some (.cells #[.int .i64 l, .int .i64 z, .int .i64 x, .int .i64 y] 41 (0, 0)) := t1
  have hZ : (World.drew ((w.alloc (.cells #[.int .i64 l, .int .i64 z, .int .i64 x, .int .i64 y] 41)).alloc (.cells #[.int .i64 0, .int .i64 0, .int .i64 0, .int .i64 0] 41))).heap[w.heap.size + 1]? = some (.cells #[.int .i64 0, .int .i64 0, .int .i64 0, .int .i64 0] 41 (0, 0)) := unhide HZ
  have hB : Below w.heap.size w (World.drew ((w.alloc (.cells #[.int .i64 l, .int .i64 z, .int .i64 x, .int .i64 y] 41)).alloc (.cells #[.int .i64 0, .int .i64 0, .int .i64 0, .int .i64 0] 41))) := Below.drew (unhide HB)
  generalize World.drew ((w.alloc (.cells #[.int .i64 l, .int .i64 z, .int .i64 x, .int .i64 y] 41)).alloc (.cells #[.int .i64 0, .int .i64 0, .int .i64 0, .int .i64 0] 41)) = w1 at hS hZ hB ⊢
  have HS2 := (setRow_other (w := w1) (show w.heap.size + 1 ≠ w.heap.size by omega) #[.int .i64 L, .int .i64 Z, .int .i64 X, .int .i64 Y]).trans hS
  have HZ2 := setRow_heap _ _ _ #[.int .i64 L, .int .i64 Z, .int .i64 X, .int .i64 Y] _ _ hZ
  have HB2 := below_setRow hB (show w.heap.size ≤ w.heap.size + 1 by omega) #[.int .i64 L, .int .i64 Z, .int .i64 X, .int .i64 Y]
  refine t_take 0 rfl (.pointer (some ⟨w.heap.size, 0, none⟩)) (by kernel_rfl) (by kernel_rfl) (by kernel_rfl) (fun _ _ _ h => h) rfl (fun w' hw' => by simp [go_sem]) hS ?_
  simp only [Act.put, List.setIfInBounds_toArray, List.set_cons_succ, List.set_cons_zero]
  refine t_take 1 rfl (.int .i64 l) (by kernel_rfl) (by kernel_rfl) (by kernel_rfl) (fun _ _ _ h => h) rfl (fun w' hw' => by simp [go_sem, blk_cells hw']) hS ?_
  simp only [Act.put, List.setIfInBounds_toArray, List.set_cons_succ, List.set_cons_zero]
  refine t_take 3 rfl (.int .i64 Z) (by kernel_rfl) (by kernel_rfl) (by kernel_rfl) (fun _ _ _ h => h) rfl (fun w' hw' => by simp [go_sem]) hS ?_
  simp only [Act.put, List.setIfInBounds_toArray, List.set_cons_succ, List.set_cons_zero]
  refine t_take 4 rfl (.pointer (some ⟨w.heap.size, 2, none⟩)) (by kernel_rfl) (by kernel_rfl) (by kernel_rfl) (fun _ _ _ h => h) rfl (fun w' hw' => by simp [go_sem]) hS ?_
  simp only [Act.put, List.setIfInBounds_toArray, List.set_cons_succ, List.set_cons_zero]
  refine t_take 5 rfl (.int .i64 x) (by kernel_rfl) (by kernel_rfl) (by kernel_rfl) (fun _ _ _ h => h) rfl (fun w' hw' => by simp [go_sem, blk_cells hw']) hS ?_
  simp only [Act.put, List.setIfInBounds_toArray, List.set_cons_succ, List.set_cons_zero]
  refine t_take 6 rfl (.int .i64 Z) (by kernel_rfl) (by kernel_rfl) (by kernel_rfl) (fun _ _ _ h => h) rfl (fun w' hw' => by simp [go_sem]) hS ?_
  simp only [Act.put, List.setIfInBounds_toArray, List.set_cons_succ, List.set_cons_zero]
  refine t_take 9 rfl (.pointer (some ⟨w.heap.size, 3, none⟩)) (by kernel_rfl) (by kernel_rfl) (by kernel_rfl) (fun _ _ _ h => h) rfl (fun w' hw' => by simp [go_sem]) hS ?_
  simp only [Act.put, List.setIfInBounds_toArray, List.set_cons_succ, List.set_cons_zero]
  refine t_take 10 rfl (.int .i64 y) (by kernel_rfl) (by kernel_rfl) (by kernel_rfl) (fun _ _ _ h => h) rfl (fun w' hw' => by simp [go_sem, blk_cells hw']) hS ?_
  simp only [Act.put, List.setIfInBounds_toArray, List.set_cons_succ, List.set_cons_zero]
  refine t_take 11 rfl (.int .i64 Z) (by kernel_rfl) (by kernel_rfl) (by kernel_rfl) (fun _ _ _ h => h) rfl (fun w' hw' => by simp [go_sem]) hS ?_
  simp only [Act.put, List.setIfInBounds_toArray, List.set_cons_succ, List.set_cons_zero]
  refine wpAnyH_all (rs := [2]) (by kernel_rfl) (by simp) ?_
  intro i hi
  simp only [List.mem_singleton] at hi
  subst hi
  refine t_call 2 rfl rfl 5 #[.int .i64 l, .int .i64 4] (by simp [go_sem]) (.int .i64 L) (K0 _) hS ?_
  simp only [Act.put, List.setIfInBounds_toArray, List.set_cons_succ, List.set_cons_zero]
  refine wpAnyH_all (rs := [7]) (by kernel_rfl) (by simp) ?_
  intro i hi
  simp only [List.mem_singleton] at hi
  subst hi
  refine t_call 7 rfl rfl 26 #[.int .i64 Z] (by simp [go_sem]) (.int .i64 N) (KA _) hS ?_
  simp only [Act.put, List.setIfInBounds_toArray, List.set_cons_succ, List.set_cons_zero]
  refine wpAnyH_all (rs := [8]) (by kernel_rfl) (by simp) ?_
  intro i hi
  simp only [List.mem_singleton] at hi
  subst hi
  refine t_call 8 rfl rfl 5 #[.int .i64 x, .int .i64 N] (by simp [go_sem]) (.int .i64 X) (K2 _) hS ?_
  simp only [Act.put, List.setIfInBounds_toArray, List.set_cons_succ, List.set_cons_zero]
  refine wpAnyH_all (rs := [12]) (by kernel_rfl) (by simp) ?_
  intro i hi
  simp only [List.mem_singleton] at hi
  subst hi
  refine t_call 12 rfl rfl 26 #[.int .i64 Z] (by simp [go_sem]) (.int .i64 N) (KA _) hS ?_
  simp only [Act.put, List.setIfInBounds_toArray, List.set_cons_succ, List.set_cons_zero]
  refine wpAnyH_all (rs := [13]) (by kernel_rfl) (by simp) ?_
  intro i hi
  simp only [List.mem_singleton] at hi
  subst hi
  refine t_call 13 rfl rfl 5 #[.int .i64 y, .int .i64 N] (by simp [go_sem]) (.int .i64 Y) (K3 _) hS ?_
  simp only [Act.put, List.setIfInBounds_toArray, List.set_cons_succ, List.set_cons_zero]
  refine t_take 14 rfl (.agg #[.int .i64 L, .int .i64 Z, .int .i64 X, .int .i64 Y]) (by kernel_rfl) (by kernel_rfl) (by kernel_rfl) (fun _ _ _ h => h) rfl (fun w' hw' => by simp [go_sem]) hS ?_
  simp only [Act.put, List.setIfInBounds_toArray, List.set_cons_succ, List.set_cons_zero]
  refine wpAnyH_all (rs := [15]) (by kernel_rfl) (by simp) ?_
  intro i hi
  simp only [List.mem_singleton] at hi
  subst hi
  refine t_st28 15 rfl rfl _ _ rfl (w.heap.size + 1) L Z X Y rfl rfl 0 0 0 0 hZ HS2 ?_
  simp only [Act.put]
  refine wpAnyH_done (by kernel_rfl) ?_ _
  go_wp2_with fail
  refine bodyPost_ret (v := .agg #[.int .i64 L, .int .i64 Z, .int .i64 X, .int .i64 Y]) (results_cell_row Try.results10 _ _ (w.heap.size + 1) 41 _ (0, 0) _ rfl HZ2 Try.underlying41 rfl (sz28 _ _ _ _)) rfl ⟨rfl, HB2⟩
end Go.Proofs.Ytppcpbhnpdjfpab
