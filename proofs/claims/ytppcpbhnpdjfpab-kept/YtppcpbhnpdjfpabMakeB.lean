/-
  atlaskeep.right.
-/
import Derived.Test.YtppcpbhnpdjfpabMakeA
import Derived.Test.YtppcpbhnpdjfpabOpen
import Derived.Test.YtppcpbhnpdjfpabLeafK
namespace Go.Proofs.Ytppcpbhnpdjfpab
open Go.RowKit

/-- What all kinds of features have. -/
def base (f : Nat → Int) : Nat → Int := fun j =>
  if j = 0 then 1 + pk (f 0) 1000 else if j = 1 then pk (f 1) 4 else if j = 2 then pk (f 2) 2 else if j = 3 then 1 + pk (f 3) 15 else if j = 4 then pk (f 4) 10 else if j = 5 then pk (f 5) 23 else 0
theorem built_base (a b c d e g : Int) : Try.prog.built 54 [(0, .int .i64 a), (1, .int .i64 b), (2, .int .i64 c), (3, .int .i64 d), (4, .int .i64 e), (5, .int .i64 g)] = some (fc fun j => if j = 0 then a else if j = 1 then b else if j = 2 then c else if j = 3 then d else if j = 4 then e else if j = 5 then g else 0) := by kernel_rfl

theorem bld_run (f : Nat → Int) (A : Act) (o : Oper) (ho : o.op = .build 54 #[(0, .tmp 8), (1, .tmp 11), (2, .tmp 14), (3, .tmp 18), (4, .tmp 21), (5, .tmp 24)]) (h0 : A.eval (.tmp 8) = .int .i64 (1 + pk (f 0) 1000)) (h1 : A.eval (.tmp 11) = .int .i64 (pk (f 1) 4)) (h2 : A.eval (.tmp 14) = .int .i64 (pk (f 2) 2)) (h3 : A.eval (.tmp 18) = .int .i64 (1 + pk (f 3) 15)) (h4 : A.eval (.tmp 21) = .int .i64 (pk (f 4) 10)) (h5 : A.eval (.tmp 24) = .int .i64 (pk (f 5) 23)) (w : World) :
    (execOp A.eval o).run Try.prog w = .ok (.value (.agg (fc (base f)))) w := by
  have hb := run_build (P := Try.prog) w 54 #[(0, .int .i64 (1 + pk (f 0) 1000)), (1, .int .i64 (pk (f 1) 4)), (2, .int .i64 (pk (f 2) 2)), (3, .int .i64 (1 + pk (f 3) 15)), (4, .int .i64 (pk (f 4) 10)), (5, .int .i64 (pk (f 5) 23))] (fc (base f)) (built_base _ _ _ _ _ _)
  unfold execOp
  simp [ho, h0, h1, h2, h3, h4, h5, hb]

section
variable {l : List Oper} {Q : Exit → Act → World → Prop} {S : World → Prop} {listed : Array Bool} {a : Act} {w : World} {fuel : Nat} {o : Oper} {rest : List Oper}
theorem at_drop {i : Nat} (hd : l.drop i = o :: rest) : l.toArray[i]? = some o := by
  rw [List.getElem?_toArray, ← List.head?_drop, hd]; rfl
theorem t_take (i : Nat) (hd : l.drop i = o :: rest) (v : Value) (hs : Region.noSelect l.toArray = true) (hf : Region.free .any l.toArray listed i = true) (hr : (Region.ready .any l.toArray listed).contains i = true)
    (hQ : ∀ c a w, Q (.panic c) (a.put o.dst v) w → Q (.panic c) a w) (hw : Region.wanted o (yielded l.toArray a.tmps) = true) (hy : ∀ w', S w' → (execOp a.eval o).run Try.prog w' = .ok (.value v) w') (hS : S w)
    (h : wpAnyH Try.prog .any l.toArray Q S fuel (listed.setIfInBounds i true) (a.put o.dst v) w) : wpAnyH Try.prog .any l.toArray Q S (fuel + 1) listed a w :=
  wpAnyH_take (at_drop hd) hs hf hr hQ (Or.inl ⟨hw, hy⟩) hS h
theorem t_call (i : Nat) (hd : l.drop i = o :: rest) (hw : Region.wanted o (yielded l.toArray a.tmps) = true) (f : FuncId) (args : Array Value) (h0 : (execOp a.eval o).run Try.prog w = .ok (.enter f args) w) (v : Value)
    (hc : Calls Try.prog f args w fun e w' => e = .returned v ∧ w = w') (hS : S w) (h : wpAnyH Try.prog .any l.toArray Q S fuel (listed.setIfInBounds i true) (a.put o.dst v) w) :
    wpOp Try.prog l.toArray Q i (fun a' w' => S w' ∧ wpAnyH Try.prog .any l.toArray Q S fuel (listed.setIfInBounds i true) a' w') a w := h_call (at_drop hd) hw f args h0 v hc hS h
theorem t_op (i : Nat) (hd : l.drop i = o :: rest) (hw : Region.wanted o (yielded l.toArray a.tmps) = true) (v : Value) (w1 : World) (h0 : (execOp a.eval o).run Try.prog w = .ok (.value v) w1) (hS : S w1)
    (h : wpAnyH Try.prog .any l.toArray Q S fuel (listed.setIfInBounds i true) (a.put o.dst v) w1) :
    wpOp Try.prog l.toArray Q i (fun a' w' => S w' ∧ wpAnyH Try.prog .any l.toArray Q S fuel (listed.setIfInBounds i true) a' w') a w := h_op (at_drop hd) hw v w1 h0 hS h
theorem t_st26 (i : Nat) (hd : l.drop i = o :: rest) (hw : Region.wanted o (yielded l.toArray a.tmps) = true) (x y : Operand) (hop : o.op = .store 54 x y) (g : Nat) (T : Nat → Int) (hx : a.eval x = .pointer (some ⟨g, 0, none⟩)) (hy : a.eval y = .agg (fc T)) (old : Nat → Int) (hg : w.heap[g]? = some (.cells (fc old) 54 (0, 0)))
    (hS : S (w.setRow g (fc T))) (h : wpAnyH Try.prog .any l.toArray Q S fuel (listed.setIfInBounds i true) (a.put o.dst undef) (w.setRow g (fc T))) :
    wpOp Try.prog l.toArray Q i (fun a' w' => S w' ∧ wpAnyH Try.prog .any l.toArray Q S fuel (listed.setIfInBounds i true) a' w') a w := h_st26 (at_drop hd) hw x y hop g T hx hy old hg hS h
end

/-- How many points the feature has that 'right' makes. -/
def mkN (f : Nat → Int) : Int := if pk (f 2) 2 = 1 then 1 else 3 + pk (f 7) 6
def mk0 (f : Nat → Int) : Nat → Int := if pk (f 2) 2 = 1 then upd (upd (base f) 6 (1 + pk (f 6) 3)) 7 1 else upd (base f) 7 (3 + pk (f 7) 6)
def mkS (f : Nat → Int) : Nat → Nat → Int
  | 0 => mk0 f
  | k + 1 => upd (upd (mkS f k) (8 + k) (pk (f (8 + k)) 1073741825)) (16 + k) (pk (f (16 + k)) 1073741825)
/-- The right feature that is made out of f. -/
def mk (f : Nat → Int) : Nat → Int := mkS f (mkN f).toNat
theorem mk0_7 (f : Nat → Int) : mk0 f 7 = mkN f := by unfold mk0 mkN; split <;> simp [upd]
theorem mkS_7 (f : Nat → Int) : ∀ k, mkS f k 7 = mkN f
  | 0 => mk0_7 f
  | k + 1 => by
    rw [mkS, upd, if_neg (by omega), upd, if_neg (by omega)]
    exact mkS_7 f k
theorem mkN_in (f : Nat → Int) : 1 ≤ mkN f ∧ mkN f ≤ 8 := by
  have := pk_in (f 7) (n := 6) (by omega)
  unfold mkN; split <;> omega

set_option maxHeartbeats 6400000 in
theorem right_any (f : Nat → Int) (w : World) (hF : F64 f) :
    Calls Try.prog 34 #[.agg (fc f)] w fun e w' => e = .returned (.agg (fc (mk f))) ∧ Below w.heap.size w w' := by
  have c0 := fc_at f 0 (by decide)
  have c1 := fc_at f 1 (by decide)
  have c2 := fc_at f 2 (by decide)
  have c3 := fc_at f 3 (by decide)
  have c4 := fc_at f 4 (by decide)
  have c5 := fc_at f 5 (by decide)
  have K0 := fun W => pick_any (f 0) 1000 W (hF 0 (by omega)) (by omega)
  have K1 := fun W => pick_any (f 1) 4 W (hF 1 (by omega)) (by omega)
  have K2 := fun W => pick_any (f 2) 2 W (hF 2 (by omega)) (by omega)
  have K3 := fun W => pick_any (f 3) 15 W (hF 3 (by omega)) (by omega)
  have K4 := fun W => pick_any (f 4) 10 W (hF 4 (by omega)) (by omega)
  have K5 := fun W => pick_any (f 5) 23 W (hF 5 (by omega)) (by omega)
  have b0 := pk_in (f 0) (n := 1000) (by omega)
  have b3 := pk_in (f 3) (n := 15) (by omega)
  have a0 := i64_in (1 + pk (f 0) 1000) (by omega)
  have a3 := i64_in (1 + pk (f 3) 15) (by omega)
  have hsz0 : (w.alloc (.cells (fc f) 54)).heap.size = w.heap.size + 1 := by simp
  go_enter Try.func34, Try.ntmps34
  go_wp2_with (refine al26 rfl rfl (w.heap.size + 1) hsz0 ?_)
  simp only [Act.put, List.setIfInBounds_toArray, List.set_cons_succ, List.set_cons_zero]
  go_cut [3] (fun p wr => p = .pointer (some ⟨w.heap.size + 2, 0, none⟩) ∧ wr.heap[w.heap.size]? = some (.cells (fc f) 54 (0, 0)) ∧ wr.heap[w.heap.size + 1]? = some (.cells (fc zf) 54 (0, 0)) ∧ wr.heap[w.heap.size + 2]? = some (.cells (fc (base f)) 54 (0, 0)) ∧ Below w.heap.size w wr)
  case first =>
    refine wp_region_held (S := fun w' => w'.heap[w.heap.size]? = some (.cells (fc f) 54 (0, 0))) (by kernel_rfl) ?_
    change wpAnyH _ _ _ _ _ _ _ _ (World.drew _)
    obtain ⟨t1, t2, t3⟩ := two_blocks w (.cells (fc f) 54 (0, 0)) (.cells (fc zf) 54 (0, 0))
    have hS : (World.drew ((w.alloc (.cells (fc f) 54)).alloc (.cells (fc zf) 54))).heap[w.heap.size]? = some (.cells (fc f) 54 (0, 0)) := t1
    have hZ : (World.drew ((w.alloc (.cells (fc f) 54)).alloc (.cells (fc zf) 54))).heap[w.heap.size + 1]? = some (.cells (fc zf) 54 (0, 0)) := t2
    have hN : (World.drew ((w.alloc (.cells (fc f) 54)).alloc (.cells (fc zf) 54))).heap.size = w.heap.size + 2 := by simp [World.drew]
    have hB : Below w.heap.size w (World.drew ((w.alloc (.cells (fc f) 54)).alloc (.cells (fc zf) 54))) := Below.drew t3
    generalize World.drew ((w.alloc (.cells (fc f) 54)).alloc (.cells (fc zf) 54)) = w1 at hS hZ hN hB ⊢
    clear t1 t2 t3 hsz0
    have RA : ∀ (ev : Operand → Value) (o : Oper), o.op = .alloc 54 → (execOp ev o).run Try.prog w1 = .ok (.value (.pointer (some ⟨w.heap.size + 2, 0, none⟩))) (w1.alloc (.cells (fc zf) 54)) := fun ev o ho => by rw [run_alloc26 ev o ho, hN]
    have hS1 : (w1.alloc (.cells (fc zf) 54)).heap[w.heap.size]? = some (.cells (fc f) 54 (0, 0)) := by rw [Below.heap_alloc _ _ _ (by omega)]; exact hS
    have hZ1 : (w1.alloc (.cells (fc zf) 54)).heap[w.heap.size + 1]? = some (.cells (fc zf) 54 (0, 0)) := by rw [Below.heap_alloc _ _ _ (by omega)]; exact hZ
    have HG : (w1.alloc (.cells (fc zf) 54)).heap[w.heap.size + 2]? = some (.cells (fc zf) 54 (0, 0)) := by rw [← hN]; exact heap_alloc_new _ _
    have HS2 := (setRow_other (show w.heap.size + 2 ≠ w.heap.size by omega) (fc (base f))).trans hS1
    have HZ2 := (setRow_other (show w.heap.size + 2 ≠ w.heap.size + 1 by omega) (fc (base f))).trans hZ1
    have HG2 := setRow_heap _ _ _ (fc (base f)) _ _ HG
    have HB2 := below_setRow (below_alloc hB (Nat.le_refl _) (.cells (fc zf) 54)) (show w.heap.size ≤ w.heap.size + 2 by omega) (fc (base f))
    refine t_take 0 rfl ((.pointer (some ⟨w.heap.size, 0, none⟩))) (by kernel_rfl) (by kernel_rfl) (by kernel_rfl) (fun _ _ _ h => h) rfl (fun w' hw' => by simp [go_sem]) hS ?_
    simp only [Act.put, List.setIfInBounds_toArray, List.set_cons_succ, List.set_cons_zero]
    refine t_take 1 rfl ((.int .i64 (f 0))) (by kernel_rfl) (by kernel_rfl) (by kernel_rfl) (fun _ _ _ h => h) rfl (fun w' hw' => by simp [go_sem, blk_cells hw', c0]) hS ?_
    simp only [Act.put, List.setIfInBounds_toArray, List.set_cons_succ, List.set_cons_zero]
    refine t_take 4 rfl ((.pointer (some ⟨w.heap.size, 1, none⟩))) (by kernel_rfl) (by kernel_rfl) (by kernel_rfl) (fun _ _ _ h => h) rfl (fun w' hw' => by simp [go_sem]) hS ?_
    simp only [Act.put, List.setIfInBounds_toArray, List.set_cons_succ, List.set_cons_zero]
    refine t_take 5 rfl ((.int .i64 (f 1))) (by kernel_rfl) (by kernel_rfl) (by kernel_rfl) (fun _ _ _ h => h) rfl (fun w' hw' => by simp [go_sem, blk_cells hw', c1]) hS ?_
    simp only [Act.put, List.setIfInBounds_toArray, List.set_cons_succ, List.set_cons_zero]
    refine t_take 7 rfl ((.pointer (some ⟨w.heap.size, 2, none⟩))) (by kernel_rfl) (by kernel_rfl) (by kernel_rfl) (fun _ _ _ h => h) rfl (fun w' hw' => by simp [go_sem]) hS ?_
    simp only [Act.put, List.setIfInBounds_toArray, List.set_cons_succ, List.set_cons_zero]
    refine t_take 8 rfl ((.int .i64 (f 2))) (by kernel_rfl) (by kernel_rfl) (by kernel_rfl) (fun _ _ _ h => h) rfl (fun w' hw' => by simp [go_sem, blk_cells hw', c2]) hS ?_
    simp only [Act.put, List.setIfInBounds_toArray, List.set_cons_succ, List.set_cons_zero]
    refine t_take 10 rfl ((.pointer (some ⟨w.heap.size, 3, none⟩))) (by kernel_rfl) (by kernel_rfl) (by kernel_rfl) (fun _ _ _ h => h) rfl (fun w' hw' => by simp [go_sem]) hS ?_
    simp only [Act.put, List.setIfInBounds_toArray, List.set_cons_succ, List.set_cons_zero]
    refine t_take 11 rfl ((.int .i64 (f 3))) (by kernel_rfl) (by kernel_rfl) (by kernel_rfl) (fun _ _ _ h => h) rfl (fun w' hw' => by simp [go_sem, blk_cells hw', c3]) hS ?_
    simp only [Act.put, List.setIfInBounds_toArray, List.set_cons_succ, List.set_cons_zero]
    refine t_take 14 rfl ((.pointer (some ⟨w.heap.size, 4, none⟩))) (by kernel_rfl) (by kernel_rfl) (by kernel_rfl) (fun _ _ _ h => h) rfl (fun w' hw' => by simp [go_sem]) hS ?_
    simp only [Act.put, List.setIfInBounds_toArray, List.set_cons_succ, List.set_cons_zero]
    refine t_take 15 rfl ((.int .i64 (f 4))) (by kernel_rfl) (by kernel_rfl) (by kernel_rfl) (fun _ _ _ h => h) rfl (fun w' hw' => by simp [go_sem, blk_cells hw', c4]) hS ?_
    simp only [Act.put, List.setIfInBounds_toArray, List.set_cons_succ, List.set_cons_zero]
    refine t_take 17 rfl ((.pointer (some ⟨w.heap.size, 5, none⟩))) (by kernel_rfl) (by kernel_rfl) (by kernel_rfl) (fun _ _ _ h => h) rfl (fun w' hw' => by simp [go_sem]) hS ?_
    simp only [Act.put, List.setIfInBounds_toArray, List.set_cons_succ, List.set_cons_zero]
    refine t_take 18 rfl ((.int .i64 (f 5))) (by kernel_rfl) (by kernel_rfl) (by kernel_rfl) (fun _ _ _ h => h) rfl (fun w' hw' => by simp [go_sem, blk_cells hw', c5]) hS ?_
    simp only [Act.put, List.setIfInBounds_toArray, List.set_cons_succ, List.set_cons_zero]
    refine wpAnyH_all (rs := [2, 21]) (by kernel_rfl) (by simp) ?_
    intro i hi
    simp only [List.mem_cons, List.not_mem_nil, or_false] at hi
    rcases hi with rfl | rfl
    · refine t_call 2 rfl rfl 5 #[.int .i64 (f 0), .int .i64 1000] (by simp [go_sem]) (.int .i64 (pk (f 0) 1000)) (K0 _) hS ?_
      simp only [Act.put, List.setIfInBounds_toArray, List.set_cons_succ, List.set_cons_zero]
      refine t_take 3 rfl ((.int .i64 (1 + pk (f 0) 1000))) (by kernel_rfl) (by kernel_rfl) (by kernel_rfl) (fun _ _ _ h => h) rfl (fun w' hw' => by simp [go_sem, a0]) hS ?_
      simp only [Act.put, List.setIfInBounds_toArray, List.set_cons_succ, List.set_cons_zero]
      refine wpAnyH_all (rs := [6, 21]) (by kernel_rfl) (by simp) ?_
      intro i hi
      simp only [List.mem_cons, List.not_mem_nil, or_false] at hi
      rcases hi with rfl | rfl
      · refine t_call 6 rfl rfl 5 #[.int .i64 (f 1), .int .i64 4] (by simp [go_sem]) (.int .i64 (pk (f 1) 4)) (K1 _) hS ?_
        simp only [Act.put, List.setIfInBounds_toArray, List.set_cons_succ, List.set_cons_zero]
        refine wpAnyH_all (rs := [9, 21]) (by kernel_rfl) (by simp) ?_
        intro i hi
        simp only [List.mem_cons, List.not_mem_nil, or_false] at hi
        rcases hi with rfl | rfl
        · refine t_call 9 rfl rfl 5 #[.int .i64 (f 2), .int .i64 2] (by simp [go_sem]) (.int .i64 (pk (f 2) 2)) (K2 _) hS ?_
          simp only [Act.put, List.setIfInBounds_toArray, List.set_cons_succ, List.set_cons_zero]
          refine wpAnyH_all (rs := [12, 21]) (by kernel_rfl) (by simp) ?_
          intro i hi
          simp only [List.mem_cons, List.not_mem_nil, or_false] at hi
          rcases hi with rfl | rfl
          · refine t_call 12 rfl rfl 5 #[.int .i64 (f 3), .int .i64 15] (by simp [go_sem]) (.int .i64 (pk (f 3) 15)) (K3 _) hS ?_
            simp only [Act.put, List.setIfInBounds_toArray, List.set_cons_succ, List.set_cons_zero]
            refine t_take 13 rfl ((.int .i64 (1 + pk (f 3) 15))) (by kernel_rfl) (by kernel_rfl) (by kernel_rfl) (fun _ _ _ h => h) rfl (fun w' hw' => by simp [go_sem, a3]) hS ?_
            simp only [Act.put, List.setIfInBounds_toArray, List.set_cons_succ, List.set_cons_zero]
            refine wpAnyH_all (rs := [16, 21]) (by kernel_rfl) (by simp) ?_
            intro i hi
            simp only [List.mem_cons, List.not_mem_nil, or_false] at hi
            rcases hi with rfl | rfl
            · refine t_call 16 rfl rfl 5 #[.int .i64 (f 4), .int .i64 10] (by simp [go_sem]) (.int .i64 (pk (f 4) 10)) (K4 _) hS ?_
              simp only [Act.put, List.setIfInBounds_toArray, List.set_cons_succ, List.set_cons_zero]
              refine wpAnyH_all (rs := [19, 21]) (by kernel_rfl) (by simp) ?_
              intro i hi
              simp only [List.mem_cons, List.not_mem_nil, or_false] at hi
              rcases hi with rfl | rfl
              · refine t_call 19 rfl rfl 5 #[.int .i64 (f 5), .int .i64 23] (by simp [go_sem]) (.int .i64 (pk (f 5) 23)) (K5 _) hS ?_
                simp only [Act.put, List.setIfInBounds_toArray, List.set_cons_succ, List.set_cons_zero]
                refine t_take 20 rfl ((.agg (fc (base f)))) (by kernel_rfl) (by kernel_rfl) (by kernel_rfl) (fun _ _ _ h => h) rfl (fun w' hw' => bld_run f _ _ rfl rfl rfl rfl rfl rfl rfl w') hS ?_
                simp only [Act.put, List.setIfInBounds_toArray, List.set_cons_succ, List.set_cons_zero]
                refine wpAnyH_all (rs := [21]) (by kernel_rfl) (by simp) ?_
                intro i hi
                simp only [List.mem_singleton] at hi
                subst hi
                refine t_op 21 rfl rfl (.pointer (some ⟨w.heap.size + 2, 0, none⟩)) _ (RA _ _ rfl) hS1 ?_
                simp only [Act.put, List.setIfInBounds_toArray, List.set_cons_succ, List.set_cons_zero]
                have hS := hS1
                refine wpAnyH_all (rs := [22]) (by kernel_rfl) (by simp) ?_
                intro i hi
                simp only [List.mem_singleton] at hi
                subst hi
                refine t_st26 22 rfl rfl _ _ rfl (w.heap.size + 2) (base f) rfl rfl zf HG HS2 ?_
                simp only [Act.put]
                refine wpAnyH_done (by kernel_rfl) ?_ _
                go_wp2_with fail
                go_meet
                exact ⟨rfl, HS2, HZ2, HG2, HB2⟩
              · refine t_op 21 rfl rfl (.pointer (some ⟨w.heap.size + 2, 0, none⟩)) _ (RA _ _ rfl) hS1 ?_
                simp only [Act.put, List.setIfInBounds_toArray, List.set_cons_succ, List.set_cons_zero]
                have hS := hS1
                refine wpAnyH_all (rs := [19]) (by kernel_rfl) (by simp) ?_
                intro i hi
                simp only [List.mem_singleton] at hi
                subst hi
                refine t_call 19 rfl rfl 5 #[.int .i64 (f 5), .int .i64 23] (by simp [go_sem]) (.int .i64 (pk (f 5) 23)) (K5 _) hS ?_
                simp only [Act.put, List.setIfInBounds_toArray, List.set_cons_succ, List.set_cons_zero]
                refine t_take 20 rfl ((.agg (fc (base f)))) (by kernel_rfl) (by kernel_rfl) (by kernel_rfl) (fun _ _ _ h => h) rfl (fun w' hw' => bld_run f _ _ rfl rfl rfl rfl rfl rfl rfl w') hS ?_
                simp only [Act.put, List.setIfInBounds_toArray, List.set_cons_succ, List.set_cons_zero]
                refine wpAnyH_all (rs := [22]) (by kernel_rfl) (by simp) ?_
                intro i hi
                simp only [List.mem_singleton] at hi
                subst hi
                refine t_st26 22 rfl rfl _ _ rfl (w.heap.size + 2) (base f) rfl rfl zf HG HS2 ?_
                simp only [Act.put]
                refine wpAnyH_done (by kernel_rfl) ?_ _
                go_wp2_with fail
                go_meet
                exact ⟨rfl, HS2, HZ2, HG2, HB2⟩
            · refine t_op 21 rfl rfl (.pointer (some ⟨w.heap.size + 2, 0, none⟩)) _ (RA _ _ rfl) hS1 ?_
              simp only [Act.put, List.setIfInBounds_toArray, List.set_cons_succ, List.set_cons_zero]
              have hS := hS1
              refine wpAnyH_all (rs := [16]) (by kernel_rfl) (by simp) ?_
              intro i hi
              simp only [List.mem_singleton] at hi
              subst hi
              refine t_call 16 rfl rfl 5 #[.int .i64 (f 4), .int .i64 10] (by simp [go_sem]) (.int .i64 (pk (f 4) 10)) (K4 _) hS ?_
              simp only [Act.put, List.setIfInBounds_toArray, List.set_cons_succ, List.set_cons_zero]
              refine wpAnyH_all (rs := [19]) (by kernel_rfl) (by simp) ?_
              intro i hi
              simp only [List.mem_singleton] at hi
              subst hi
              refine t_call 19 rfl rfl 5 #[.int .i64 (f 5), .int .i64 23] (by simp [go_sem]) (.int .i64 (pk (f 5) 23)) (K5 _) hS ?_
              simp only [Act.put, List.setIfInBounds_toArray, List.set_cons_succ, List.set_cons_zero]
              refine t_take 20 rfl ((.agg (fc (base f)))) (by kernel_rfl) (by kernel_rfl) (by kernel_rfl) (fun _ _ _ h => h) rfl (fun w' hw' => bld_run f _ _ rfl rfl rfl rfl rfl rfl rfl w') hS ?_
              simp only [Act.put, List.setIfInBounds_toArray, List.set_cons_succ, List.set_cons_zero]
              refine wpAnyH_all (rs := [22]) (by kernel_rfl) (by simp) ?_
              intro i hi
              simp only [List.mem_singleton] at hi
              subst hi
              refine t_st26 22 rfl rfl _ _ rfl (w.heap.size + 2) (base f) rfl rfl zf HG HS2 ?_
              simp only [Act.put]
              refine wpAnyH_done (by kernel_rfl) ?_ _
              go_wp2_with fail
              go_meet
              exact ⟨rfl, HS2, HZ2, HG2, HB2⟩
          · refine t_op 21 rfl rfl (.pointer (some ⟨w.heap.size + 2, 0, none⟩)) _ (RA _ _ rfl) hS1 ?_
            simp only [Act.put, List.setIfInBounds_toArray, List.set_cons_succ, List.set_cons_zero]
            have hS := hS1
            refine wpAnyH_all (rs := [12]) (by kernel_rfl) (by simp) ?_
            intro i hi
            simp only [List.mem_singleton] at hi
            subst hi
            refine t_call 12 rfl rfl 5 #[.int .i64 (f 3), .int .i64 15] (by simp [go_sem]) (.int .i64 (pk (f 3) 15)) (K3 _) hS ?_
            simp only [Act.put, List.setIfInBounds_toArray, List.set_cons_succ, List.set_cons_zero]
            refine t_take 13 rfl ((.int .i64 (1 + pk (f 3) 15))) (by kernel_rfl) (by kernel_rfl) (by kernel_rfl) (fun _ _ _ h => h) rfl (fun w' hw' => by simp [go_sem, a3]) hS ?_
            simp only [Act.put, List.setIfInBounds_toArray, List.set_cons_succ, List.set_cons_zero]
            refine wpAnyH_all (rs := [16]) (by kernel_rfl) (by simp) ?_
            intro i hi
            simp only [List.mem_singleton] at hi
            subst hi
            refine t_call 16 rfl rfl 5 #[.int .i64 (f 4), .int .i64 10] (by simp [go_sem]) (.int .i64 (pk (f 4) 10)) (K4 _) hS ?_
            simp only [Act.put, List.setIfInBounds_toArray, List.set_cons_succ, List.set_cons_zero]
            refine wpAnyH_all (rs := [19]) (by kernel_rfl) (by simp) ?_
            intro i hi
            simp only [List.mem_singleton] at hi
            subst hi
            refine t_call 19 rfl rfl 5 #[.int .i64 (f 5), .int .i64 23] (by simp [go_sem]) (.int .i64 (pk (f 5) 23)) (K5 _) hS ?_
            simp only [Act.put, List.setIfInBounds_toArray, List.set_cons_succ, List.set_cons_zero]
            refine t_take 20 rfl ((.agg (fc (base f)))) (by kernel_rfl) (by kernel_rfl) (by kernel_rfl) (fun _ _ _ h => h) rfl (fun w' hw' => bld_run f _ _ rfl rfl rfl rfl rfl rfl rfl w') hS ?_
            simp only [Act.put, List.setIfInBounds_toArray, List.set_cons_succ, List.set_cons_zero]
            refine wpAnyH_all (rs := [22]) (by kernel_rfl) (by simp) ?_
            intro i hi
            simp only [List.mem_singleton] at hi
            subst hi
            refine t_st26 22 rfl rfl _ _ rfl (w.heap.size + 2) (base f) rfl rfl zf HG HS2 ?_
            simp only [Act.put]
            refine wpAnyH_done (by kernel_rfl) ?_ _
            go_wp2_with fail
            go_meet
            exact ⟨rfl, HS2, HZ2, HG2, HB2⟩
        · refine t_op 21 rfl rfl (.pointer (some ⟨w.heap.size + 2, 0, none⟩)) _ (RA _ _ rfl) hS1 ?_
          simp only [Act.put, List.setIfInBounds_toArray, List.set_cons_succ, List.set_cons_zero]
          have hS := hS1
          refine wpAnyH_all (rs := [9]) (by kernel_rfl) (by simp) ?_
          intro i hi
          simp only [List.mem_singleton] at hi
          subst hi
          refine t_call 9 rfl rfl 5 #[.int .i64 (f 2), .int .i64 2] (by simp [go_sem]) (.int .i64 (pk (f 2) 2)) (K2 _) hS ?_
          simp only [Act.put, List.setIfInBounds_toArray, List.set_cons_succ, List.set_cons_zero]
          refine wpAnyH_all (rs := [12]) (by kernel_rfl) (by simp) ?_
          intro i hi
          simp only [List.mem_singleton] at hi
          subst hi
          refine t_call 12 rfl rfl 5 #[.int .i64 (f 3), .int .i64 15] (by simp [go_sem]) (.int .i64 (pk (f 3) 15)) (K3 _) hS ?_
          simp only [Act.put, List.setIfInBounds_toArray, List.set_cons_succ, List.set_cons_zero]
          refine t_take 13 rfl ((.int .i64 (1 + pk (f 3) 15))) (by kernel_rfl) (by kernel_rfl) (by kernel_rfl) (fun _ _ _ h => h) rfl (fun w' hw' => by simp [go_sem, a3]) hS ?_
          simp only [Act.put, List.setIfInBounds_toArray, List.set_cons_succ, List.set_cons_zero]
          refine wpAnyH_all (rs := [16]) (by kernel_rfl) (by simp) ?_
          intro i hi
          simp only [List.mem_singleton] at hi
          subst hi
          refine t_call 16 rfl rfl 5 #[.int .i64 (f 4), .int .i64 10] (by simp [go_sem]) (.int .i64 (pk (f 4) 10)) (K4 _) hS ?_
          simp only [Act.put, List.setIfInBounds_toArray, List.set_cons_succ, List.set_cons_zero]
          refine wpAnyH_all (rs := [19]) (by kernel_rfl) (by simp) ?_
          intro i hi
          simp only [List.mem_singleton] at hi
          subst hi
          refine t_call 19 rfl rfl 5 #[.int .i64 (f 5), .int .i64 23] (by simp [go_sem]) (.int .i64 (pk (f 5) 23)) (K5 _) hS ?_
          simp only [Act.put, List.setIfInBounds_toArray, List.set_cons_succ, List.set_cons_zero]
          refine t_take 20 rfl ((.agg (fc (base f)))) (by kernel_rfl) (by kernel_rfl) (by kernel_rfl) (fun _ _ _ h => h) rfl (fun w' hw' => bld_run f _ _ rfl rfl rfl rfl rfl rfl rfl w') hS ?_
          simp only [Act.put, List.setIfInBounds_toArray, List.set_cons_succ, List.set_cons_zero]
          refine wpAnyH_all (rs := [22]) (by kernel_rfl) (by simp) ?_
          intro i hi
          simp only [List.mem_singleton] at hi
          subst hi
          refine t_st26 22 rfl rfl _ _ rfl (w.heap.size + 2) (base f) rfl rfl zf HG HS2 ?_
          simp only [Act.put]
          refine wpAnyH_done (by kernel_rfl) ?_ _
          go_wp2_with fail
          go_meet
          exact ⟨rfl, HS2, HZ2, HG2, HB2⟩
      · refine t_op 21 rfl rfl (.pointer (some ⟨w.heap.size + 2, 0, none⟩)) _ (RA _ _ rfl) hS1 ?_
        simp only [Act.put, List.setIfInBounds_toArray, List.set_cons_succ, List.set_cons_zero]
        have hS := hS1
        refine wpAnyH_all (rs := [6]) (by kernel_rfl) (by simp) ?_
        intro i hi
        simp only [List.mem_singleton] at hi
        subst hi
        refine t_call 6 rfl rfl 5 #[.int .i64 (f 1), .int .i64 4] (by simp [go_sem]) (.int .i64 (pk (f 1) 4)) (K1 _) hS ?_
        simp only [Act.put, List.setIfInBounds_toArray, List.set_cons_succ, List.set_cons_zero]
        refine wpAnyH_all (rs := [9]) (by kernel_rfl) (by simp) ?_
        intro i hi
        simp only [List.mem_singleton] at hi
        subst hi
        refine t_call 9 rfl rfl 5 #[.int .i64 (f 2), .int .i64 2] (by simp [go_sem]) (.int .i64 (pk (f 2) 2)) (K2 _) hS ?_
        simp only [Act.put, List.setIfInBounds_toArray, List.set_cons_succ, List.set_cons_zero]
        refine wpAnyH_all (rs := [12]) (by kernel_rfl) (by simp) ?_
        intro i hi
        simp only [List.mem_singleton] at hi
        subst hi
        refine t_call 12 rfl rfl 5 #[.int .i64 (f 3), .int .i64 15] (by simp [go_sem]) (.int .i64 (pk (f 3) 15)) (K3 _) hS ?_
        simp only [Act.put, List.setIfInBounds_toArray, List.set_cons_succ, List.set_cons_zero]
        refine t_take 13 rfl ((.int .i64 (1 + pk (f 3) 15))) (by kernel_rfl) (by kernel_rfl) (by kernel_rfl) (fun _ _ _ h => h) rfl (fun w' hw' => by simp [go_sem, a3]) hS ?_
        simp only [Act.put, List.setIfInBounds_toArray, List.set_cons_succ, List.set_cons_zero]
        refine wpAnyH_all (rs := [16]) (by kernel_rfl) (by simp) ?_
        intro i hi
        simp only [List.mem_singleton] at hi
        subst hi
        refine t_call 16 rfl rfl 5 #[.int .i64 (f 4), .int .i64 10] (by simp [go_sem]) (.int .i64 (pk (f 4) 10)) (K4 _) hS ?_
        simp only [Act.put, List.setIfInBounds_toArray, List.set_cons_succ, List.set_cons_zero]
        refine wpAnyH_all (rs := [19]) (by kernel_rfl) (by simp) ?_
        intro i hi
        simp only [List.mem_singleton] at hi
        subst hi
        refine t_call 19 rfl rfl 5 #[.int .i64 (f 5), .int .i64 23] (by simp [go_sem]) (.int .i64 (pk (f 5) 23)) (K5 _) hS ?_
        simp only [Act.put, List.setIfInBounds_toArray, List.set_cons_succ, List.set_cons_zero]
        refine t_take 20 rfl ((.agg (fc (base f)))) (by kernel_rfl) (by kernel_rfl) (by kernel_rfl) (fun _ _ _ h => h) rfl (fun w' hw' => bld_run f _ _ rfl rfl rfl rfl rfl rfl rfl w') hS ?_
        simp only [Act.put, List.setIfInBounds_toArray, List.set_cons_succ, List.set_cons_zero]
        refine wpAnyH_all (rs := [22]) (by kernel_rfl) (by simp) ?_
        intro i hi
        simp only [List.mem_singleton] at hi
        subst hi
        refine t_st26 22 rfl rfl _ _ rfl (w.heap.size + 2) (base f) rfl rfl zf HG HS2 ?_
        simp only [Act.put]
        refine wpAnyH_done (by kernel_rfl) ?_ _
        go_wp2_with fail
        go_meet
        exact ⟨rfl, HS2, HZ2, HG2, HB2⟩
    · refine t_op 21 rfl rfl (.pointer (some ⟨w.heap.size + 2, 0, none⟩)) _ (RA _ _ rfl) hS1 ?_
      simp only [Act.put, List.setIfInBounds_toArray, List.set_cons_succ, List.set_cons_zero]
      have hS := hS1
      refine wpAnyH_all (rs := [2]) (by kernel_rfl) (by simp) ?_
      intro i hi
      simp only [List.mem_singleton] at hi
      subst hi
      refine t_call 2 rfl rfl 5 #[.int .i64 (f 0), .int .i64 1000] (by simp [go_sem]) (.int .i64 (pk (f 0) 1000)) (K0 _) hS ?_
      simp only [Act.put, List.setIfInBounds_toArray, List.set_cons_succ, List.set_cons_zero]
      refine t_take 3 rfl ((.int .i64 (1 + pk (f 0) 1000))) (by kernel_rfl) (by kernel_rfl) (by kernel_rfl) (fun _ _ _ h => h) rfl (fun w' hw' => by simp [go_sem, a0]) hS ?_
      simp only [Act.put, List.setIfInBounds_toArray, List.set_cons_succ, List.set_cons_zero]
      refine wpAnyH_all (rs := [6]) (by kernel_rfl) (by simp) ?_
      intro i hi
      simp only [List.mem_singleton] at hi
      subst hi
      refine t_call 6 rfl rfl 5 #[.int .i64 (f 1), .int .i64 4] (by simp [go_sem]) (.int .i64 (pk (f 1) 4)) (K1 _) hS ?_
      simp only [Act.put, List.setIfInBounds_toArray, List.set_cons_succ, List.set_cons_zero]
      refine wpAnyH_all (rs := [9]) (by kernel_rfl) (by simp) ?_
      intro i hi
      simp only [List.mem_singleton] at hi
      subst hi
      refine t_call 9 rfl rfl 5 #[.int .i64 (f 2), .int .i64 2] (by simp [go_sem]) (.int .i64 (pk (f 2) 2)) (K2 _) hS ?_
      simp only [Act.put, List.setIfInBounds_toArray, List.set_cons_succ, List.set_cons_zero]
      refine wpAnyH_all (rs := [12]) (by kernel_rfl) (by simp) ?_
      intro i hi
      simp only [List.mem_singleton] at hi
      subst hi
      refine t_call 12 rfl rfl 5 #[.int .i64 (f 3), .int .i64 15] (by simp [go_sem]) (.int .i64 (pk (f 3) 15)) (K3 _) hS ?_
      simp only [Act.put, List.setIfInBounds_toArray, List.set_cons_succ, List.set_cons_zero]
      refine t_take 13 rfl ((.int .i64 (1 + pk (f 3) 15))) (by kernel_rfl) (by kernel_rfl) (by kernel_rfl) (fun _ _ _ h => h) rfl (fun w' hw' => by simp [go_sem, a3]) hS ?_
      simp only [Act.put, List.setIfInBounds_toArray, List.set_cons_succ, List.set_cons_zero]
      refine wpAnyH_all (rs := [16]) (by kernel_rfl) (by simp) ?_
      intro i hi
      simp only [List.mem_singleton] at hi
      subst hi
      refine t_call 16 rfl rfl 5 #[.int .i64 (f 4), .int .i64 10] (by simp [go_sem]) (.int .i64 (pk (f 4) 10)) (K4 _) hS ?_
      simp only [Act.put, List.setIfInBounds_toArray, List.set_cons_succ, List.set_cons_zero]
      refine wpAnyH_all (rs := [19]) (by kernel_rfl) (by simp) ?_
      intro i hi
      simp only [List.mem_singleton] at hi
      subst hi
      refine t_call 19 rfl rfl 5 #[.int .i64 (f 5), .int .i64 23] (by simp [go_sem]) (.int .i64 (pk (f 5) 23)) (K5 _) hS ?_
      simp only [Act.put, List.setIfInBounds_toArray, List.set_cons_succ, List.set_cons_zero]
      refine t_take 20 rfl ((.agg (fc (base f)))) (by kernel_rfl) (by kernel_rfl) (by kernel_rfl) (fun _ _ _ h => h) rfl (fun w' hw' => bld_run f _ _ rfl rfl rfl rfl rfl rfl rfl w') hS ?_
      simp only [Act.put, List.setIfInBounds_toArray, List.set_cons_succ, List.set_cons_zero]
      refine wpAnyH_all (rs := [22]) (by kernel_rfl) (by simp) ?_
      intro i hi
      simp only [List.mem_singleton] at hi
      subst hi
      refine t_st26 22 rfl rfl _ _ rfl (w.heap.size + 2) (base f) rfl rfl zf HG HS2 ?_
      simp only [Act.put]
      refine wpAnyH_done (by kernel_rfl) ?_ _
      go_wp2_with fail
      go_meet
      exact ⟨rfl, HS2, HZ2, HG2, HB2⟩
  case rest =>
    obtain ⟨rfl, hf1, hz1, hg1, hb1⟩ := hcut
    clear c0 c1 c3 c4 c5 K0 K1 K2 K3 K4 K5 b0 b3 a0 a3 hsz0
    have c6 := fc_at f 6 (by decide)
    have c7 := fc_at f 7 (by decide)
    have K6 := fun W => pick_any (f 6) 3 W (hF 6 (by omega)) (by omega)
    have K7 := fun W => pick_any (f 7) 6 W (hF 7 (by omega)) (by omega)
    have b6 := pk_in (f 6) (n := 3) (by omega)
    have b7 := pk_in (f 7) (n := 6) (by omega)
    have HF := hide hF
    clear hF c2
    have d2 := fc_at (base f) 2 (by decide)
    have e2 : base f 2 = pk (f 2) 2 := by simp [base]
    rw [e2] at d2
    have d6 := fc_at (base f) 6 (by decide)
    have d7 := fc_at (base f) 7 (by decide)
    have q1 := blk_cells hf1
    have q2 := blk_cells hg1
    have r2 := frz_blk hg1
    clear e2
    by_cases hk : pk (f 2) 2 = 1
    · have H0 : Hid (mk0 f = upd (upd (base f) 6 (1 + pk (f 6) 3)) 7 1) := by show mk0 f = _; simp [mk0, hk]
      have g2 := set_blk hg1 (show 6 < 24 by omega) (1 + pk (f 6) 3)
      have g3 := set_blk g2 (show 7 < 24 by omega) 1
      have q3 := blk_cells g2
      have r3 := frz_blk g2
      have d7' := fc_at (upd (base f) 6 (1 + pk (f 6) 3)) 7 (by decide)
      rw [← unhide H0] at g3
      have HG3 := hide g3
      have hk' : (pk (f 2) 2 == 1) = true := by simp [hk]
      clear g3
      go_wp2_with (go_at_call 5; refine (K6 _).mono ?_; rintro e w9 ⟨rfl, rfl⟩)
      have SF := (Below.heap_setCell (wc.setCell ⟨w.heap.size + 2, 6, none⟩ (.int .i64 (1 + pk (f 6) 3))) ⟨w.heap.size + 2, 7, none⟩ (.int .i64 1) w.heap.size (by simp)).trans ((Below.heap_setCell wc ⟨w.heap.size + 2, 6, none⟩ (.int .i64 (1 + pk (f 6) 3)) w.heap.size (by simp)).trans hf1)
      have SZ := (Below.heap_setCell (wc.setCell ⟨w.heap.size + 2, 6, none⟩ (.int .i64 (1 + pk (f 6) 3))) ⟨w.heap.size + 2, 7, none⟩ (.int .i64 1) (w.heap.size + 1) (by simp)).trans ((Below.heap_setCell wc ⟨w.heap.size + 2, 6, none⟩ (.int .i64 (1 + pk (f 6) 3)) (w.heap.size + 1) (by simp)).trans hz1)
      have SB := (hb1.setCell (p := ⟨w.heap.size + 2, 6, none⟩) (by simp) (.int .i64 (1 + pk (f 6) 3))).setCell (p := ⟨w.heap.size + 2, 7, none⟩) (by simp) (.int .i64 1)
      have HMK : Hid (mk f = mkS f (mkN f).toNat) := rfl
      clear hg1 g2 q1 q2 q3 r2 r3 d2 d6 d7 d7' K6 K7 hk hk' hf1 hz1 hb1 c6 c7
      go_loopw [4] (fun i wr => ∃ k : Nat, (k : Int) ≤ mkN f ∧ i = .int .i64 k ∧ wr.heap[w.heap.size]? = some (.cells (fc f) 54 (0, 0)) ∧ wr.heap[w.heap.size + 1]? = some (.cells (fc zf) 54 (0, 0)) ∧ wr.heap[w.heap.size + 2]? = some (.cells (fc (mkS f k)) 54 (0, 0)) ∧ Below w.heap.size w wr) (fun i _ => 8 - (intOf i).toNat)
      case atStart => exact ⟨0, by have := mkN_in f; omega, rfl, SF, SZ, unhide HG3, SB⟩
      case round =>
        obtain ⟨k, hk0, rfl, hf1, hz1, hg1, hb1⟩ := hrel
        have p1 := blk_cells hf1
        have p2 := blk_cells hg1
        have s7 := fc_at (mkS f k) 7 (by decide)
        rw [mkS_7] at s7
        obtain ⟨n1, n2⟩ := mkN_in f
        generalize mkN f = N at s7 n1 n2 hk0 HMK ⊢
        by_cases hlt : (k : Int) < N
        · have hk8 : (k : Int) < 8 := by omega
          have cx := fc_at f (8 + k) (by omega)
          have cy := fc_at f (16 + k) (by omega)
          have KX := fun W => pick_any (f (8 + k)) 1073741825 W (unhide HF (8 + k) (by omega)) (by omega)
          have KY := fun W => pick_any (f (16 + k)) 1073741825 W (unhide HF (16 + k) (by omega)) (by omega)
          have m1 := fc_at (mkS f k) (8 + k) (by omega)
          have g2 := set_blk hg1 (show 8 + k < 24 by omega) (pk (f (8 + k)) 1073741825)
          have m2 := fc_at (upd (mkS f k) (8 + k) (pk (f (8 + k)) 1073741825)) (16 + k) (by omega)
          have g3 := set_blk g2 (show 16 + k < 24 by omega) (pk (f (16 + k)) 1073741825)
          have p3 := blk_cells g2
          have r1 := frz_blk hg1
          have r3 := frz_blk g2
          have f2 := (Below.heap_setCell wr ⟨w.heap.size + 2, 8 + k, none⟩ (.int .i64 (pk (f (8 + k)) 1073741825)) w.heap.size (by simp)).trans hf1
          have z2 := (Below.heap_setCell wr ⟨w.heap.size + 2, 8 + k, none⟩ (.int .i64 (pk (f (8 + k)) 1073741825)) (w.heap.size + 1) (by simp)).trans hz1
          have f3 := (Below.heap_setCell (wr.setCell ⟨w.heap.size + 2, 8 + k, none⟩ (.int .i64 (pk (f (8 + k)) 1073741825))) ⟨w.heap.size + 2, 16 + k, none⟩ (.int .i64 (pk (f (16 + k)) 1073741825)) w.heap.size (by simp)).trans f2
          have z3 := (Below.heap_setCell (wr.setCell ⟨w.heap.size + 2, 8 + k, none⟩ (.int .i64 (pk (f (8 + k)) 1073741825))) ⟨w.heap.size + 2, 16 + k, none⟩ (.int .i64 (pk (f (16 + k)) 1073741825)) (w.heap.size + 1) (by simp)).trans z2
          have p4 := blk_cells f2
          have HB := hide ((hb1.setCell (p := ⟨w.heap.size + 2, 8 + k, none⟩) (by simp) (.int .i64 (pk (f (8 + k)) 1073741825))).setCell (p := ⟨w.heap.size + 2, 16 + k, none⟩) (by simp) (.int .i64 (pk (f (16 + k)) 1073741825)))
          have HE := hide (And.intro g3 (And.intro f3 z3))
          clear g3 f3 z3 hb1
          go_wp2_with fail
          refine (KX _).mono ?_
          rintro e w9 ⟨rfl, rfl⟩
          go_wp2_with fail
          refine (KY _).mono ?_
          rintro e w9 ⟨rfl, rfl⟩
          go_wp2_with fail
          go_roundw
          case rel => exact ⟨k + 1, by omega, by go_num, (unhide HE).2.1, (unhide HE).2.2, (unhide HE).1, unhide HB⟩
          case measure => simp [intOf]; omega
        · have hkN : Hid (mkS f k = mk f) := by
            show mkS f k = mk f
            rw [unhide HMK, show N.toNat = k by omega]
          have HZ := setRow_heap _ _ _ (fc (mkS f k)) _ _ hz1
          have HB := hide (below_setRow hb1 (show w.heap.size ≤ w.heap.size + 1 by omega) (fc (mkS f k)))
          go_wp2_with (first | (refine ld26 rfl _ rfl _ rfl (mkS f k) hg1 ?_) | (refine st26 rfl _ _ rfl (w.heap.size + 1) (mkS f k) rfl rfl zf hz1 ?_))
          refine bodyPost_ret (v := .agg (fc (mkS f k))) (results_cell_row Try.results34 _ _ (w.heap.size + 1) 54 (fc (mkS f k)) (0, 0) _ rfl HZ Try.underlying54 rfl (szf _)) rfl ⟨by rw [unhide hkN], unhide HB⟩
    · have H0 : Hid (mk0 f = upd (base f) 7 (3 + pk (f 7) 6)) := by show mk0 f = _; simp [mk0, hk]
      have g3 := set_blk hg1 (show 7 < 24 by omega) (3 + pk (f 7) 6)
      rw [← unhide H0] at g3
      have HG3 := hide g3
      have hk' : (pk (f 2) 2 == 1) = false := by simp [hk]
      clear g3
      go_wp2_with (go_at_call 5; refine (K7 _).mono ?_; rintro e w9 ⟨rfl, rfl⟩)
      have SF := (Below.heap_setCell wc ⟨w.heap.size + 2, 7, none⟩ (.int .i64 (3 + pk (f 7) 6)) w.heap.size (by simp)).trans hf1
      have SZ := (Below.heap_setCell wc ⟨w.heap.size + 2, 7, none⟩ (.int .i64 (3 + pk (f 7) 6)) (w.heap.size + 1) (by simp)).trans hz1
      have SB := hb1.setCell (p := ⟨w.heap.size + 2, 7, none⟩) (by simp) (.int .i64 (3 + pk (f 7) 6))
      have HMK : Hid (mk f = mkS f (mkN f).toNat) := rfl
      clear hg1 q1 q2 r2 d2 d6 d7 K6 K7 hk hk' hf1 hz1 hb1 c6 c7
      go_loopw [4] (fun i wr => ∃ k : Nat, (k : Int) ≤ mkN f ∧ i = .int .i64 k ∧ wr.heap[w.heap.size]? = some (.cells (fc f) 54 (0, 0)) ∧ wr.heap[w.heap.size + 1]? = some (.cells (fc zf) 54 (0, 0)) ∧ wr.heap[w.heap.size + 2]? = some (.cells (fc (mkS f k)) 54 (0, 0)) ∧ Below w.heap.size w wr) (fun i _ => 8 - (intOf i).toNat)
      case atStart => exact ⟨0, by have := mkN_in f; omega, rfl, SF, SZ, unhide HG3, SB⟩
      case round =>
        obtain ⟨k, hk0, rfl, hf1, hz1, hg1, hb1⟩ := hrel
        have p1 := blk_cells hf1
        have p2 := blk_cells hg1
        have s7 := fc_at (mkS f k) 7 (by decide)
        rw [mkS_7] at s7
        obtain ⟨n1, n2⟩ := mkN_in f
        generalize mkN f = N at s7 n1 n2 hk0 HMK ⊢
        by_cases hlt : (k : Int) < N
        · have hk8 : (k : Int) < 8 := by omega
          have cx := fc_at f (8 + k) (by omega)
          have cy := fc_at f (16 + k) (by omega)
          have KX := fun W => pick_any (f (8 + k)) 1073741825 W (unhide HF (8 + k) (by omega)) (by omega)
          have KY := fun W => pick_any (f (16 + k)) 1073741825 W (unhide HF (16 + k) (by omega)) (by omega)
          have m1 := fc_at (mkS f k) (8 + k) (by omega)
          have g2 := set_blk hg1 (show 8 + k < 24 by omega) (pk (f (8 + k)) 1073741825)
          have m2 := fc_at (upd (mkS f k) (8 + k) (pk (f (8 + k)) 1073741825)) (16 + k) (by omega)
          have g3 := set_blk g2 (show 16 + k < 24 by omega) (pk (f (16 + k)) 1073741825)
          have p3 := blk_cells g2
          have r1 := frz_blk hg1
          have r3 := frz_blk g2
          have f2 := (Below.heap_setCell wr ⟨w.heap.size + 2, 8 + k, none⟩ (.int .i64 (pk (f (8 + k)) 1073741825)) w.heap.size (by simp)).trans hf1
          have z2 := (Below.heap_setCell wr ⟨w.heap.size + 2, 8 + k, none⟩ (.int .i64 (pk (f (8 + k)) 1073741825)) (w.heap.size + 1) (by simp)).trans hz1
          have f3 := (Below.heap_setCell (wr.setCell ⟨w.heap.size + 2, 8 + k, none⟩ (.int .i64 (pk (f (8 + k)) 1073741825))) ⟨w.heap.size + 2, 16 + k, none⟩ (.int .i64 (pk (f (16 + k)) 1073741825)) w.heap.size (by simp)).trans f2
          have z3 := (Below.heap_setCell (wr.setCell ⟨w.heap.size + 2, 8 + k, none⟩ (.int .i64 (pk (f (8 + k)) 1073741825))) ⟨w.heap.size + 2, 16 + k, none⟩ (.int .i64 (pk (f (16 + k)) 1073741825)) (w.heap.size + 1) (by simp)).trans z2
          have p4 := blk_cells f2
          have HB := hide ((hb1.setCell (p := ⟨w.heap.size + 2, 8 + k, none⟩) (by simp) (.int .i64 (pk (f (8 + k)) 1073741825))).setCell (p := ⟨w.heap.size + 2, 16 + k, none⟩) (by simp) (.int .i64 (pk (f (16 + k)) 1073741825)))
          have HE := hide (And.intro g3 (And.intro f3 z3))
          clear g3 f3 z3 hb1
          go_wp2_with fail
          refine (KX _).mono ?_
          rintro e w9 ⟨rfl, rfl⟩
          go_wp2_with fail
          refine (KY _).mono ?_
          rintro e w9 ⟨rfl, rfl⟩
          go_wp2_with fail
          go_roundw
          case rel => exact ⟨k + 1, by omega, by go_num, (unhide HE).2.1, (unhide HE).2.2, (unhide HE).1, unhide HB⟩
          case measure => simp [intOf]; omega
        · have hkN : Hid (mkS f k = mk f) := by
            show mkS f k = mk f
            rw [unhide HMK, show N.toNat = k by omega]
          have HZ := setRow_heap _ _ _ (fc (mkS f k)) _ _ hz1
          have HB := hide (below_setRow hb1 (show w.heap.size ≤ w.heap.size + 1 by omega) (fc (mkS f k)))
          go_wp2_with (first | (refine ld26 rfl _ rfl _ rfl (mkS f k) hg1 ?_) | (refine st26 rfl _ _ rfl (w.heap.size + 1) (mkS f k) rfl rfl zf hz1 ?_))
          refine bodyPost_ret (v := .agg (fc (mkS f k))) (results_cell_row Try.results34 _ _ (w.heap.size + 1) 54 (fc (mkS f k)) (0, 0) _ rfl HZ Try.underlying54 rfl (szf _)) rfl ⟨by rw [unhide hkN], unhide HB⟩
end Go.Proofs.Ytppcpbhnpdjfpab
