/-
  The texts ScC, ScD, OpenS, ScE, SkE.
-/
import Derived.Test.YtpabpniaekldeaaGreatDoorSkse02
import Derived.Deep.Slices
import Derived.SizedLaws
namespace Go.Proofs.YtpabpniaekldeaaGreatDoor
open Go.RowKit
set_option maxRecDepth 20000
theorem pick_any (c n : Int) (w : World) (hc : -9223372036854775808 <= c /\ c <= 9223372036854775807) (hn : 0 < n /\ n <= 9223372036854775807) :
    Calls Tryz.prog 13 #[.int .i64 c, .int .i64 n] w fun e w' => e = .returned (.int .i64 (pk c n)) /\ w = w' := by
  by_cases h : c < 0
  . have H : Hid (pk c n = (-(c + 1)) % n) := by show pk c n = _; simp [pk, h]
    go_enter Tryz.func13, Tryz.ntmps13
    go_wp2
    go_ret
    refine ⟨ret_int ?_, rfl⟩
    rw [unhide H, <- Int.neg_tmod, Int.tmod_eq_emod_of_nonneg (by omega)]
  . have H : Hid (pk c n = c % n) := by show pk c n = _; simp [pk, h]
    go_enter Tryz.func13, Tryz.ntmps13
    go_wp2
    go_ret
    refine ⟨ret_int ?_, rfl⟩
    rw [unhide H]
structure OpOk (w0 : World) (o : OpV) (b : Bat) : Prop where
  bat : AtR rE w0 o.bat b
  len : b.length <= 1000000000000
  on : -9223372036854775808 <= o.on /\ o.on <= 9223372036854775807
section
variable {w0 w : World} {wb ob n : Nat} {sv : Value} {D : List DV} {O : OL} {c : Nat -> Nat} {o : OpV} {b : Bat}
theorem stored_any (h : WI w0 w wb ob sv D O c) (hl : D.length <= n /\ O.IS.length <= n /\ O.FS.length <= n /\ O.ES.length <= n) (hn : n <= 900000000000) (ho : OpOk w0 o b) {i : Nat} {d : DV} (hd : D[i]? = some d) (hk : 2 <= o.kind /\ o.kind <= 7) :
    Calls Tryz.prog 12 #[.pointer (some ⟨wb, 0, none⟩), .agg #[.pointer (some ⟨d.sb, 0, none⟩), .pointer (some ⟨d.rb, 0, none⟩)], .agg o.v] w fun e w' => e = .returned (.bool true) /\ Frm (fun k => DFoot d k \/ OF ob O k) w w' /\ ∃ D' O' c', WI w0 w' wb ob sv D' O' c' /\ D'.length <= n + 1 /\ O'.IS.length <= n + 1 /\ O'.FS.length <= n + 1 /\ O'.ES.length <= n + 1 := by
  have hD := h.dep i d hd
  have hdj := h.dj hd
  have hc2 : w.cell? ⟨wb, 2, none⟩ = some (.pointer (some ⟨ob, 0, none⟩)) := (blk_cells h.blk 2).trans rfl
  have hlw := blk_lt h.blk
  have hwb := h.wbn hd
  have hbt : 0 < b.length -> ∀ g, o.bat.ownBlock = some g -> ¬ DFoot d g /\ ¬ OF ob O g := fun h0 g hg => by
    obtain ⟨oa, cap, e, _, _, hr⟩ := ho.bat
    obtain ⟨b', off, e', hlt, _⟩ := hr h0
    have : g < w0.heap.size := by
      rw [e, e'] at hg
      cases hg
      exact hlt
    have := h.cb g this
    exact ⟨fun q => by have := h.cd i d g hd q; omega, fun q => by have := h.co g q; omega⟩
  have main : Calls Tryz.prog 12 #[.pointer (some ⟨wb, 0, none⟩), .agg #[.pointer (some ⟨d.sb, 0, none⟩), .pointer (some ⟨d.rb, 0, none⟩)], .agg o.v] w fun e w' => e = .returned (.bool true) /\ ∃ d' O', Pst w d ob O w' d' O' := by
    by_cases k2 : o.kind = 2
    . exact stored_apply hD h.own hdj hc2 hwb hlw (by omega) b (ho.bat.on h.base) ho.len hbt k2
    . by_cases k3 : o.kind = 3
      . exact stored_pin hD h.own hdj k3
      . by_cases k4 : o.kind = 4
        . exact stored_unpin hD h.own hdj k4
        . by_cases k5 : o.kind = 5
          . exact stored_read hD h.own hdj hc2 hlw (by omega) k5
          . by_cases k6 : o.kind = 6
            . exact stored_stamp hD h.own hdj k6
            . exact stored_held hD h.own hdj hc2 hlw (by omega) (by omega)
  refine main.mono ?_
  rintro e w' ⟨rfl, d', O', hP⟩
  obtain ⟨c', hW⟩ := h.step hd hP
  have := hP.ost
  exact ⟨rfl, hP.frm, _, O', c', hW, by rw [List.length_set]; omega, by have := this.il; omega, by have := this.fl; omega, by have := this.el; omega⟩
theorem run_ldR (ty : TypeId) (cs : Array Value) {dd : TypeDesc} (hu : Tryz.prog.underlying ty = some dd) (hd : dd.isRow = true) (hi : (Tryz.prog.info? ty).map (·.size) = some cs.size) (ev : Operand -> Value) (o : Oper) (x : Operand) (ho : o.op = .load ty x) (g off : Nat) (hx : ev x = .pointer (some ⟨g, off, none⟩)) {w : World} (hr : w.rangeAt g off cs.toList) : (execOp ev o).run Tryz.prog w = .ok (.value (.agg cs)) w := by
  have h := run_loadVar_mid w g off ty cs.toList _ hr hu hd (by rw [Array.length_toList]; exact hi)
  unfold execOp
  simp only [ho, hx, Instr.loadAt, Instr.sureAddr, Sem.run_bind, Sem.run_pure, Result.andThen_ok, h]
theorem sz44 (o : OpV) : (Tryz.prog.info? 44).map (·.size) = some o.v.size := by kernel_rfl
theorem sz53 (p q : Nat) : (Tryz.prog.info? 53).map (·.size) = some (#[Value.pointer (some ⟨p, 0, none⟩), .pointer (some ⟨q, 0, none⟩)] : Array Value).size := by kernel_rfl
theorem t_callW {l : List Oper} {Q : Exit -> Act -> World -> Prop} {S : World -> Prop} {listed : Array Bool} {a : Act} {w : World} {fuel : Nat} {o : Oper} {rest : List Oper} (i : Nat) (hd : l.drop i = o :: rest) (hw : Region.wanted o (yielded l.toArray a.tmps) = true) (f : FuncId) (args : Array Value) (h0 : (execOp a.eval o).run Tryz.prog w = .ok (.enter f args) w) (v : Value) (R : World -> Prop)
    (hc : Calls Tryz.prog f args w fun e w' => e = .returned v /\ R w') (h : ∀ w', R w' -> S w' /\ wpAnyH Tryz.prog .any l.toArray Q S fuel (listed.setIfInBounds i true) (a.put o.dst v) w') :
    wpOp Tryz.prog l.toArray Q i (fun a' w' => S w' /\ wpAnyH Tryz.prog .any l.toArray Q S fuel (listed.setIfInBounds i true) a' w') a w := by
  unfold wpOp
  simp only [at_drop hd]
  rw [if_pos hw]
  left
  unfold Oper.wp
  rw [h0]
  exact hc.mono fun e w' ⟨e1, e2⟩ => by subst e1; exact h w' e2
set_option maxHeartbeats 12800000 in
theorem wstep_any (h : WIE w0 w wb ob n) (hn : n <= 900000000000) (ho : OpOk w0 o b) (hk : 1 <= o.kind /\ o.kind <= 7) :
    Calls Tryz.prog 7 #[.pointer (some ⟨wb, 0, none⟩), .agg o.v] w fun e w' => e = .returned (.bool true) /\ WIE w0 w' wb ob (n + 1) := by
  have hA := heap_alloc_new w (.cells o.v 44 (0, 0))
  have hb0 := below_one w (.cells o.v 44)
  have k0 := (blk_cells hA 0).trans (show _ = some (Value.int .i64 o.kind) from rfl)
  have k1 := (blk_cells hA 1).trans (show _ = some (Value.int .i64 o.on) from rfl)
  have k2 := (blk_cells hA 2).trans (show _ = some (Value.int .i64 o.a) from rfl)
  have h1 := h.on hb0
  have hz : (w.alloc (.cells o.v 44)).heap.size = w.heap.size + 1 := by simp
  have HOK := hide ho
  clear ho
  by_cases hk1 : o.kind = 1
  . have HO := hide (opened_any o.a h1 hn)
    rw [hk1] at k0
    clear h h1 hb0 hk hk1
    go_enter Tryz.func7, Tryz.ntmps7
    go_wp2_with fail
    refine (unhide HO).mono ?_
    rintro e w2 ⟨rfl, hW⟩
    have HW := hide hW
    clear hW
    go_wp2_with fail
    go_ret
    exact ⟨rfl, unhide HW⟩
  . obtain ⟨sv, D, O, c, hI0, hl⟩ := h
    have hI := hI0.on hb0
    obtain ⟨sa, sk, hsv⟩ := hI.st.slice
    have c0 := (blk_cells hI.blk 0).trans (show _ = some sv from rfl)
    rw [hsv, List.length_map] at c0
    have n1 : ¬ o.kind = 1 := hk1
    have n11 : ¬ o.kind = 11 := by omega
    have g2 : 2 <= o.kind := by omega
    have g7 : o.kind <= 7 := hk.2
    by_cases hD0 : D.length = 0
    . have HW : Hid (WIE w0 (w.alloc (.cells o.v 44)) wb ob (n + 1)) := WIE.more ⟨sv, D, O, c, hI, hl⟩ (Nat.le_succ n)
      rw [hD0] at c0
      clear hI hI0 hb0 h1 hsv hl hk hk1 hD0
      go_enter Tryz.func7, Tryz.ntmps7
      go_wp2_with fail
      go_ret
      exact ⟨rfl, unhide HW⟩
    . have hDp : ¬ ((D.length : Nat) : Int) = 0 := by omega
      have hon := (unhide HOK).on
      have hpk := pk_in o.on (n := ((D.length : Nat) : Int)) (by omega)
      obtain ⟨i, hi⟩ : ∃ i : Nat, pk o.on ((D.length : Nat) : Int) = i := ⟨(pk o.on ((D.length : Nat) : Int)).toNat, by omega⟩
      have hiD : i < D.length := by omega
      have hiN : (i : Int) < D.length := by omega
      obtain ⟨d, hd⟩ : ∃ d, D[i]? = some d := ⟨_, List.getElem?_eq_getElem hiD⟩
      obtain ⟨ta, tc, te, _, _, hr⟩ := hI.st.at
      rw [List.length_map] at te hr
      rw [hsv, List.length_map] at te
      cases te
      obtain ⟨tb, tf, rfl, htl, hrr⟩ := hr (by omega)
      have hrow : (w.alloc (.cells o.v 44)).rangeAt tb (tf + i * 2) #[Value.pointer (some ⟨d.sb, 0, none⟩), .pointer (some ⟨d.rb, 0, none⟩)].toList := hrr i (twoOf d) (by rw [List.getElem?_map, hd]; rfl)
      have hcb : c tb = 1 := hI.cs tb (by rw [hsv]; rfl)
      have PK := fun W => pick_any o.on ((D.length : Nat) : Int) W hon (by omega)
      rw [hi] at PK
      have HPK := hide PK
      have HI := hide hI
      have HROW := hide hrow
      have HA := hide hA
      have HI0 := hide hI0
      clear hr hrr PK hpk hi hrow hA hI hI0 hb0 h1 hk hk1
      go_enter Tryz.func7, Tryz.ntmps7
      go_wp2_with fail
      refine wp_region_held (S := fun w' => w'.heap[wb]? = some (.cells #[sv, .slice none 0 0, .pointer (some ⟨ob, 0, none⟩)] 37 (0, 0)) /\ w'.heap[w.heap.size]? = some (.cells o.v 44 (0, 0)) /\ w'.heap[tb]? = (w.alloc (.cells o.v 44)).heap[tb]?) (by kernel_rfl) ?_
      change wpAnyH _ _ _ _ _ _ _ _ (World.drew _)
      have hS : (World.drew (w.alloc (.cells o.v 44))).heap[wb]? = some (.cells #[sv, .slice none 0 0, .pointer (some ⟨ob, 0, none⟩)] 37 (0, 0)) /\ (World.drew (w.alloc (.cells o.v 44))).heap[w.heap.size]? = some (.cells o.v 44 (0, 0)) /\ (World.drew (w.alloc (.cells o.v 44))).heap[tb]? = (w.alloc (.cells o.v 44)).heap[tb]? := ⟨(unhide HI).blk, unhide HA, rfl⟩
      have hbD : Below (w.alloc (.cells o.v 44)).heap.size (w.alloc (.cells o.v 44)) (World.drew (w.alloc (.cells o.v 44))) := Below.drew (Below.refl _ _)
      have hI2 := (unhide HI).on hbD
      generalize World.drew (w.alloc (.cells o.v 44)) = w2 at hS hbD hI2 ⊢
      have ST := stored_any hI2 hl hn (unhide HOK) hd ⟨g2, g7⟩
      have HI2 := hide hI2
      have SV : ∀ W : World, W.heap[wb]? = some (.cells #[sv, .slice none 0 0, .pointer (some ⟨ob, 0, none⟩)] 37 (0, 0)) -> W.cell? ⟨wb, 0, none⟩ = some (.slice (some ⟨tb, tf, none⟩) D.length sk) := fun W hW => by rw [blk_cells hW 0]; show some sv = _; rw [hsv, List.length_map]
      have ON : ∀ W : World, W.heap[w.heap.size]? = some (.cells o.v 44 (0, 0)) -> W.cell? ⟨w.heap.size, 1, none⟩ = some (.int .i64 o.on) := fun W hW => (blk_cells hW 1).trans rfl
      have RW : ∀ W : World, W.heap[tb]? = (w.alloc (.cells o.v 44)).heap[tb]? -> W.rangeAt tb (tf + i * 2) #[Value.pointer (some ⟨d.sb, 0, none⟩), .pointer (some ⟨d.rb, 0, none⟩)].toList := fun W hW j u hu => by
        rw [World.cell?_of_block (a := ⟨tb, tf + i * 2 + j, none⟩) hW]; exact unhide HROW j u hu
      clear hsv hI2
      refine t_tk 0 rfl (.pointer (some ⟨wb, 0, none⟩)) (by kernel_rfl) (fun _ _ _ h => h) rfl (fun w' hw' => by simp [go_sem]) hS ?_
      simp only [Act.put, qA, qB, qC]
      refine t_tk 1 rfl (.pointer (some ⟨wb, 0, none⟩)) (by kernel_rfl) (fun _ _ _ h => h) rfl (fun w' hw' => by simp [go_sem]) hS ?_
      simp only [Act.put, qA, qB, qC]
      refine t_tk 2 rfl (.pointer (some ⟨wb, 0, none⟩)) (by kernel_rfl) (fun _ _ _ h => h) rfl (fun w' hw' => by simp [go_sem]) hS ?_
      simp only [Act.put, qA, qB, qC]
      refine t_tk 3 rfl (.pointer (some ⟨wb, 0, none⟩)) (by kernel_rfl) (fun _ _ _ h => h) rfl (fun w' hw' => by simp [go_sem]) hS ?_
      simp only [Act.put, qA, qB, qC]
      refine t_tk 4 rfl (.slice (some ⟨tb, tf, none⟩) D.length sk) (by kernel_rfl) (fun _ _ _ h => h) rfl (fun w' hw' => by simp [go_sem, SV w' hw'.1]) hS ?_
      simp only [Act.put, qA, qB, qC]
      refine t_tk 5 rfl (.pointer (some ⟨w.heap.size, 1, none⟩)) (by kernel_rfl) (fun _ _ _ h => h) rfl (fun w' hw' => by simp [go_sem]) hS ?_
      simp only [Act.put, qA, qB, qC]
      refine t_tk 6 rfl (.int .i64 o.on) (by kernel_rfl) (fun _ _ _ h => h) rfl (fun w' hw' => by simp [go_sem, ON w' hw'.2.1]) hS ?_
      simp only [Act.put, qA, qB, qC]
      refine t_tk 7 rfl (.pointer (some ⟨wb, 0, none⟩)) (by kernel_rfl) (fun _ _ _ h => h) rfl (fun w' hw' => by simp [go_sem]) hS ?_
      simp only [Act.put, qA, qB, qC]
      refine t_tk 8 rfl (.pointer (some ⟨wb, 0, none⟩)) (by kernel_rfl) (fun _ _ _ h => h) rfl (fun w' hw' => by simp [go_sem]) hS ?_
      simp only [Act.put, qA, qB, qC]
      refine t_tk 9 rfl (.pointer (some ⟨wb, 0, none⟩)) (by kernel_rfl) (fun _ _ _ h => h) rfl (fun w' hw' => by simp [go_sem]) hS ?_
      simp only [Act.put, qA, qB, qC]
      refine t_tk 10 rfl (.slice (some ⟨tb, tf, none⟩) D.length sk) (by kernel_rfl) (fun _ _ _ h => h) rfl (fun w' hw' => by simp [go_sem, SV w' hw'.1]) hS ?_
      simp only [Act.put, qA, qB, qC]
      refine t_tk 11 rfl (.int .i64 (D.length : Nat)) (by kernel_rfl) (fun _ _ _ h => h) rfl (fun w' hw' => by simp [go_sem]) hS ?_
      simp only [Act.put, qA, qB, qC]
      refine t_tk 15 rfl (.agg o.v) (by kernel_rfl) (fun _ _ _ h => h) rfl (fun w' hw' => run_ldR 44 o.v Tryz.underlying44 rfl (sz44 o) _ _ _ rfl w.heap.size 0 rfl (rng_blk hw'.2.1)) hS ?_
      simp only [Act.put, qA, qB, qC]
      refine wpAnyH_all (rs := [12]) (by kernel_rfl) (by simp) ?_
      intro i hi
      simp only [List.mem_singleton] at hi
      subst hi
      refine t_call 12 rfl rfl 13 #[.int .i64 o.on, .int .i64 (D.length : Nat)] (by simp [go_sem]) (.int .i64 i) (unhide HPK w2) hS ?_
      simp only [Act.put, qA, qB, qC]
      refine t_tk 13 rfl (.pointer (some ⟨tb, tf + i * 2, none⟩)) (by kernel_rfl) (fun _ _ _ h => h) rfl (fun w' hw' => by simp [go_sem, hiN]) hS ?_
      simp only [Act.put, qA, qB, qC]
      refine t_tk 14 rfl (.agg #[.pointer (some ⟨d.sb, 0, none⟩), .pointer (some ⟨d.rb, 0, none⟩)]) (by kernel_rfl) (fun _ _ _ h => h) rfl (fun w' hw' => run_ldR 53 #[.pointer (some ⟨d.sb, 0, none⟩), .pointer (some ⟨d.rb, 0, none⟩)] Tryz.underlying53 rfl (sz53 _ _) _ _ _ rfl tb (tf + i * 2) rfl (RW w' hw'.2.2)) hS ?_
      simp only [Act.put, qA, qB, qC]
      refine wpAnyH_all (rs := [16]) (by kernel_rfl) (by simp) ?_
      intro i hi
      simp only [List.mem_singleton] at hi
      subst hi
      refine t_callW 16 rfl rfl 12 #[.pointer (some ⟨wb, 0, none⟩), .agg #[.pointer (some ⟨d.sb, 0, none⟩), .pointer (some ⟨d.rb, 0, none⟩)], .agg o.v] (by simp [go_sem]) (.bool true) _ ST ?_
      rintro w3 ⟨hF3, D', O', c', hW3, hl3⟩
      have hsz := hbD.size
      have nf : ∀ k, c k = 1 -> ¬ (DFoot d k \/ OF ob O k) := fun k hk q => by
        rcases q with q | q
        . have := (unhide HI2).cd i d k hd q; omega
        . have := (unhide HI2).co k q; omega
      have nw : ¬ (DFoot d w.heap.size \/ OF ob O w.heap.size) := fun q => by
        rcases q with q | q
        . have := ((unhide HI0).dep i d hd).lt q; omega
        . have := OwnI.lt (unhide HI0).own q; omega
      have hS3 : w3.heap[wb]? = some (.cells #[sv, .slice none 0 0, .pointer (some ⟨ob, 0, none⟩)] 37 (0, 0)) /\ w3.heap[w.heap.size]? = some (.cells o.v 44 (0, 0)) /\ w3.heap[tb]? = (w.alloc (.cells o.v 44)).heap[tb]? := ⟨hW3.blk, blk_frm hS.2.1 hF3 nw, (hF3.block tb (by omega) (nf tb hcb)).trans hS.2.2⟩
      refine ⟨hS3, ?_⟩
      simp only [Act.put, qA, qB, qC]
      refine t_tk 17 rfl (.bool true) (by kernel_rfl) (fun _ _ _ h => h) rfl (fun w' hw' => by simp [go_sem]) hS3 ?_
      simp only [Act.put, qA, qB, qC]
      refine wpAnyH_done (by kernel_rfl) ?_ _
      have HW3 : Hid (WIE w0 w3 wb ob (n + 1)) := ⟨sv, D', O', c', hW3, hl3⟩
      clear hS hS3 hF3 hW3 hl3 nf nw ST SV ON RW hbD
      go_wp2_with fail
      go_ret
      exact ⟨rfl, unhide HW3⟩
end
section
variable {w0 w : World} {wb ob n : Nat}
theorem WI.looks {sv : Value} {D : List DV} {O : OL} {c : Nat -> Nat} (h : WI w0 w wb ob sv D O c) (h1 : O.IS.length <= 1900000000000) (h2 : O.FS.length <= 1900000000000) (h3 : O.ES.length <= 1900000000000) :
    Calls Tryz.prog 8 #[.pointer (some ⟨ob, 0, none⟩)] w fun e w' => e = .returned (.bool true) /\ Below w.heap.size w w' := by
  have := h.own
  unfold OwnL at this
  rw [h.r0, h.g0] at this
  exact looks_st this h1 h2 h3
set_option maxHeartbeats 6400000 in
theorem ends_any (h : WIE w0 w wb ob n) (hn : n <= 900000000000) :
    Calls Tryz.prog 9 #[.pointer (some ⟨wb, 0, none⟩)] w fun e w' => e = .returned (.bool true) /\ Below w0.heap.size w0 w' := by
  obtain ⟨sv, D, O, c, hI, hl⟩ := h
  obtain ⟨sa, sk, hsv⟩ := hI.st.slice
  rw [List.length_map] at hsv
  obtain ⟨L, hL⟩ : ∃ L, D.length = L := ⟨_, rfl⟩
  rw [hL] at hsv hl
  have HI := hide hI
  have HSV := hide hsv
  have HL := hide hL
  clear hI hsv hL
  go_enter Tryz.func9, Tryz.ntmps9
  go_wp2_with fail
  go_loopw [3, 4] (fun i _ wr => ∃ (k : Nat), k <= L /\ i = .int .i64 k /\ Hid (∃ D' O' c', WI w0 wr wb ob sv D' O' c' /\ D'.length = L /\ O'.IS.length <= n + k /\ O'.FS.length <= n + k /\ O'.ES.length <= n + k)) (fun i _ _ => L - (intOf i).toNat)
  case atStart => exact ⟨0, by omega, rfl, hide ⟨D, O, c, unhide HI, unhide HL, by omega, by omega, by omega⟩⟩
  case round =>
    obtain ⟨k, hk, rfl, hW⟩ := hrel
    obtain ⟨D', O', c', hI, hD', l1, l2, l3⟩ := unhide hW
    have c0 := (blk_cells hI.blk 0).trans (show _ = some sv from rfl)
    rw [unhide HSV] at c0
    by_cases hlt : k < L
    . have hkn : (k : Int) < L := by omega
      obtain ⟨d, hd⟩ : ∃ d, D'[k]? = some d := ⟨_, List.getElem?_eq_getElem (by omega)⟩
      obtain ⟨ta, tc, te, _, _, hr⟩ := hI.st.at
      rw [List.length_map, hD'] at te hr
      rw [unhide HSV] at te
      cases te
      obtain ⟨tb, tf, rfl, htl, hrr⟩ := hr (by omega)
      have hrow : wr.rangeAt tb (tf + k * 2) #[Value.pointer (some ⟨d.sb, 0, none⟩), .pointer (some ⟨d.rb, 0, none⟩)].toList := hrr k (twoOf d) (by rw [List.getElem?_map, hd]; rfl)
      have HH := hide (held_any (hI.dep k d hd) hI.own (hI.dj hd) ((blk_cells hI.blk 2).trans rfl) (blk_lt hI.blk) (by omega))
      have HI2 := hide hI
      clear hr hrr hI hW
      go_wp2_with (refine ldG 53 #[.pointer (some ⟨d.sb, 0, none⟩), .pointer (some ⟨d.rb, 0, none⟩)] Tryz.underlying53 rfl (sz53 _ _) tb (tf + k * 2) hrow rfl _ rfl rfl ?_)
      refine (unhide HH).mono ?_
      rintro e w2 ⟨rfl, O2, hP⟩
      obtain ⟨c2, hW2⟩ := (unhide HI2).step hd hP
      have HW2 := hide (show ∃ D' O' c', WI w0 w2 wb ob sv D' O' c' /\ D'.length = L /\ O'.IS.length <= n + (k + 1) /\ O'.FS.length <= n + (k + 1) /\ O'.ES.length <= n + (k + 1) from ⟨_, O2, c2, hW2, by rw [List.length_set]; exact hD', by have := hP.ost.il; omega, by have := hP.ost.fl; omega, by have := hP.ost.el; omega⟩)
      clear hP hW2 c0 hrow
      go_wp2_with fail
      go_roundw
      case rel => exact ⟨k + 1, by omega, by go_num, HW2⟩
      case measure => simp [intOf]; omega
    . have hkn : k = L := by omega
      subst hkn
      have f1 := (blk_cells hI.blk 1).trans (show _ = some (Value.slice none 0 0) from rfl)
      have f2 := (blk_cells hI.blk 2).trans (show _ = some (Value.pointer (some ⟨ob, 0, none⟩)) from rfl)
      have HK := hide (hI.looks (by omega) (by omega) (by omega))
      have HBS := hide hI.base
      clear hI hW
      go_wp2_with fail
      go_loopw [5, 6] (fun i _ w2 => i = .int .i64 0 /\ w2 = wr) (fun _ _ _ => 0)
      case atStart => exact ⟨rfl, rfl⟩
      case round =>
        obtain ⟨rfl, rfl⟩ := hrel
        go_wp2_with fail
        refine (unhide HK).mono ?_
        rintro e w3 ⟨rfl, hb3⟩
        have HB3 := hide ((unhide HBS).trans (hb3.mono (unhide HBS).size))
        clear hb3 c0 f1 f2
        go_wp2_with fail
        go_ret
        exact ⟨rfl, unhide HB3⟩
end
theorem built33 : Tryz.prog.built 33 [] = some #[.slice none 0 0, .slice none 0 0, .slice none 0 0, .slice none 0 0, .slice none 0 0] := by kernel_rfl
theorem built37 (p : Nat) : Tryz.prog.built 37 [(2, .pointer (some ⟨p, 0, none⟩))] = some #[.slice none 0 0, .slice none 0 0, .pointer (some ⟨p, 0, none⟩)] := by kernel_rfl
theorem run_b33 (A : Act) (o : Oper) (ho : o.op = .build 33 #[]) (w : World) : (execOp A.eval o).run Tryz.prog w = .ok (.value (.agg #[.slice none 0 0, .slice none 0 0, .slice none 0 0, .slice none 0 0, .slice none 0 0])) w := by
  have hb := run_build (P := Tryz.prog) w 33 #[] _ built33
  unfold execOp
  simp [ho, hb]
theorem run_b37 (p : Nat) (A : Act) (o : Oper) (x : Operand) (ho : o.op = .build 37 #[(2, x)]) (hx : A.eval x = .pointer (some ⟨p, 0, none⟩)) (w : World) : (execOp A.eval o).run Tryz.prog w = .ok (.value (.agg #[.slice none 0 0, .slice none 0 0, .pointer (some ⟨p, 0, none⟩)])) w := by
  have hb := run_build (P := Tryz.prog) w 37 #[(2, .pointer (some ⟨p, 0, none⟩))] _ (built37 p)
  unfold execOp
  simp [ho, hx, hb]
theorem wi_new (w : World) : WIE w ((w.alloc (.cells #[.slice none 0 0, .slice none 0 0, .slice none 0 0, .slice none 0 0, .slice none 0 0] 33)).alloc (.cells #[.slice none 0 0, .slice none 0 0, .pointer (some ⟨w.heap.size, 0, none⟩)] 37)) (w.heap.size + 1) w.heap.size 0 := by
  have h1 := heap_alloc_new w (.cells #[.slice none 0 0, .slice none 0 0, .slice none 0 0, .slice none 0 0, .slice none 0 0] 33 (0, 0))
  have h2 := heap_alloc_new (w.alloc (.cells #[.slice none 0 0, .slice none 0 0, .slice none 0 0, .slice none 0 0, .slice none 0 0] 33)) (.cells #[.slice none 0 0, .slice none 0 0, .pointer (some ⟨w.heap.size, 0, none⟩)] 37 (0, 0))
  refine ⟨.slice none 0 0, [], ⟨⟨.slice none 0 0, .slice none 0 0, .slice none 0 0, .slice none 0 0, .slice none 0 0⟩, [], [], [], [], []⟩, fun k => if k = w.heap.size then 2 else if k = w.heap.size + 1 then 1 else 0, ⟨((Below.refl _ _).alloc (Nat.le_refl _) _).alloc (by simp) _, by simpa using h2, ownR_nil, fun i d hd => by simp at hd, ⟨?_, ownR_nil, ownR_nil, ownR_nil, ownR_nil, ownR_nil, fun j s hs => by simp at hs, fun j s hs => by simp at hs, fun j s hs => by simp at hs, fun j s hs => by simp at hs, fun j s hs => by simp at hs⟩, fun i d k hd => by simp at hd, fun k q => ?_, ?_, fun k q => by simp [Value.ownBlock] at q, fun k hk => ?_, rfl, rfl⟩, by simp, by simp, by simp, by simp⟩
  . rw [heap_alloc_old _ _ (by simp)]; exact h1
  . rcases q with q | q | q | q | q | q | ⟨s, hs, _⟩
    . subst q; simp
    . simp [Value.ownBlock] at q
    . simp [Value.ownBlock] at q
    . simp [Value.ownBlock] at q
    . simp [Value.ownBlock] at q
    . simp [Value.ownBlock] at q
    . simp at hs
  . simp
  . show (if k = w.heap.size then 2 else if k = w.heap.size + 1 then 1 else 0) = 0
    rw [if_neg (by omega), if_neg (by omega)]
structure ScrOk (w : World) (v : Value) (l : List OpV) : Prop where
  at_ : AtR rOp w v l
  ok : ∀ (i : Nat) (o : OpV), l[i]? = some o -> ∃ b, OpOk w o b
  len : l.length <= 900000000000
set_option maxHeartbeats 6400000 in
theorem upTo_st (v : Value) (l : List OpV) (w : World) (h : ScrOk w v l) :
    Calls Tryz.prog 6 #[v, .int .i64 1, .int .i64 7] w fun e w' => e = .returned (.int .i64 (-1)) /\ Below w.heap.size w w' := by
  obtain ⟨oa, cap, rfl, _, _, hr⟩ := h.at_
  have hlen := h.len
  have HR := hide hr
  have HOK := hide h.ok
  have HN := hide (wi_new w)
  clear h hr
  go_enter Tryz.func6, Tryz.ntmps6
  go_wp2_with (first | refine wlV _ _ (run_b33 _ _ rfl _) rfl ?_ | refine wlV _ _ (run_b37 w.heap.size _ _ _ rfl rfl _) rfl ?_)
  go_loopw [8, 9] (fun i _ wr => ∃ (k : Nat), k <= l.length /\ i = .int .i64 k /\ Hid (WIE w wr (w.heap.size + 1) w.heap.size k)) (fun i _ _ => l.length - (intOf i).toNat)
  case atStart => exact ⟨0, by omega, rfl, HN⟩
  case round =>
    obtain ⟨k, hk, rfl, hW⟩ := hrel
    by_cases hlt : k < l.length
    . have hkn : (k : Int) < l.length := by omega
      obtain ⟨o, ho⟩ : ∃ o, l[k]? = some o := ⟨_, List.getElem?_eq_getElem hlt⟩
      obtain ⟨b, off, rfl, hbl, hc0⟩ := unhide HR (by omega)
      have hB : Below w.heap.size w wr := by obtain ⟨_, _, _, _, q, _⟩ := unhide hW; exact q.base
      have hrg : wr.rangeAt b (off + k * 17) o.v.toList := fun j u hu => (hB.cell (p := ⟨b, off + k * 17 + j, none⟩) hbl).trans (hc0 k o ho j u hu)
      have kd : wr.cell? ⟨b, off + k * 17, none⟩ = some (.int .i64 o.kind) := hrg 0 _ rfl
      obtain ⟨bt, hok⟩ := unhide HOK k o ho
      clear hc0 hB
      by_cases hin : 1 <= o.kind /\ o.kind <= 7
      . have HS := hide (wstep_any (unhide hW) (by omega) hok hin)
        have g1 : ¬ o.kind < 1 := by omega
        have g7 : ¬ 7 < o.kind := by omega
        clear hok hin
        go_wp2_with (refine ldG 44 o.v Tryz.underlying44 rfl (sz44 o) b (off + k * 17) hrg rfl _ rfl rfl ?_)
        refine (unhide HS).mono ?_
        rintro e w2 ⟨rfl, hW2⟩
        obtain ⟨sv, D, O, c, hI, l0, l1, l2, l3⟩ := id hW2
        have f2 := (blk_cells hI.blk 2).trans (show _ = some (Value.pointer (some ⟨w.heap.size, 0, none⟩)) from rfl)
        have HK := hide (hI.looks (by omega) (by omega) (by omega))
        have HW2 := hide hW2
        clear hI hW2 kd hrg l0 l1 l2 l3
        go_wp2_with fail
        refine (unhide HK).mono ?_
        rintro e w3 ⟨rfl, hb3⟩
        have HW3 := hide ((unhide HW2).on hb3)
        clear hb3 f2
        go_wp2_with fail
        go_roundw
        case rel => exact ⟨k + 1, by omega, by go_num, HW3⟩
        case measure => simp [intOf]; omega
      . have HW3 := hide ((unhide hW).more (Nat.le_succ k))
        by_cases g1 : o.kind < 1
        . clear hok hin
          go_wp2_with fail
          go_roundw
          case rel => exact ⟨k + 1, by omega, by go_num, HW3⟩
          case measure => simp [intOf]; omega
        . have g7 : 7 < o.kind := by omega
          clear hok hin
          go_wp2_with fail
          go_roundw
          case rel => exact ⟨k + 1, by omega, by go_num, HW3⟩
          case measure => simp [intOf]; omega
    . have hkn : k = l.length := by omega
      subst hkn
      have HE := hide (ends_any (unhide hW) hlen)
      go_wp2_with fail
      refine (unhide HE).mono ?_
      rintro e w2 ⟨rfl, hb2⟩
      have HB2 := hide hb2
      clear hb2
      go_wp2_with fail
      go_ret
      exact ⟨rfl, unhide HB2⟩
theorem Stores_st (v : Value) (l : List OpV) (w : World) (h : ScrOk w v l) :
    Calls Tryz.prog 3 #[v] w fun e w' => e = .returned (.bool true) /\ Below w.heap.size w w' := by
  have HU := hide (upTo_st v l w h)
  clear h
  go_enter Tryz.func3, Tryz.ntmps3
  go_wp2_with fail
  refine (unhide HU).mono ?_
  rintro e w2 ⟨rfl, hb2⟩
  have HB2 := hide hb2
  clear hb2
  go_wp2_with fail
  go_ret
  exact ⟨rfl, unhide HB2⟩
end Go.Proofs.YtpabpniaekldeaaGreatDoor
namespace Go.Proofs.YtpabpniaekldeaaGreatDoor
set_option maxRecDepth 20000
open Go.ChangeShapes Go.WideShapes Go.ChangeAt Go.RowKit
section
variable {H : Type} {enc : TypeId × Value -> H}
theorem add_add (a : Addr) (m j : Nat) (h : a.spot = none) : (a.add m).add j = ⟨a.block, a.off + m + j, none⟩ := by
  obtain ⟨b, o, s⟩ := a
  simp only at h
  subst h
  rw [Addr.add_mid, Addr.add_mid]
end
end Go.Proofs.YtpabpniaekldeaaGreatDoor
namespace Go.Proofs.YtpabpniaekldeaaGreatDoor
set_option maxRecDepth 20000
open Go.ChangeShapes Go.WideShapes Go.ChangeAt Go.RowKit Go.Joins
theorem cells100 : Tryz.prog.cellsOf 100 = 25 := by kernel_rfl
theorem cells44 : Tryz.prog.cellsOf 44 = 17 := by kernel_rfl
theorem cells40 : Tryz.prog.cellsOf 40 = 1 := by kernel_rfl
theorem cells9 : Tryz.prog.cellsOf 9 = 1 := by kernel_rfl
theorem cells42 : Tryz.prog.cellsOf 42 = 5 := by kernel_rfl
section
variable {H : Type} {enc : TypeId × Value -> H}
theorem edit_cells {w : World} {base : Nat} {sp : Nat -> Bool} {held : Bool} {n : Nat} {cs : List Value} {x : DataW H × List MemPlace} (h : DataW.trod enc Tryz.prog w base sp held n 100 cs = some x) :
    cs.length = 25 /\ ∀ j, j < 25 -> ∃ m, cs[j]? = some (.int .i64 m) /\ (Lit.int .i64 m).wf = true := by
  obtain ⟨xs, n1, _, _, hlen, hn, hel⟩ := DataW.trod_struct Tryz.underlying100 h
  rw [cells100] at hlen
  have hs : ∀ i, i < 2 -> (xs[i]?).isSome = true := by
    intro i hi
    have hx : xs.length = 2 := hn
    simp [hx, hi]
  have go0 : ∀ (fd : Field), fd.type = 3 -> fd.offset = 0 -> DataW.trod enc Tryz.prog w base sp held n1 fd.type ((cs.drop fd.offset).take (Tryz.prog.cellsOf fd.type)) = xs[0]? -> ∃ m, cs[0]? = some (.int .i64 m) /\ (Lit.int .i64 m).wf = true := by
    intro fd e1 e2 he
    rw [e1, e2, cells3] at he
    obtain ⟨z, hz⟩ := Option.isSome_iff_exists.1 (hs 0 (by omega))
    rw [hz] at he
    obtain ⟨k, e3, _, e4⟩ := DataW.trod_int Tryz.underlying3 he
    refine ⟨k, ?_, e4⟩
    have h1 : ((cs.drop 0).take 1)[0]? = some (.int .i64 k) := by rw [e3]; rfl
    rw [List.getElem?_take_of_lt (by omega), List.getElem?_drop] at h1
    simpa using h1
  have go1 : ∀ (fd : Field), fd.type = 66 -> fd.offset = 1 -> DataW.trod enc Tryz.prog w base sp held n1 fd.type ((cs.drop fd.offset).take (Tryz.prog.cellsOf fd.type)) = xs[1]? -> ∀ j, j < 24 -> ∃ m, cs[1 + j]? = some (.int .i64 m) /\ (Lit.int .i64 m).wf = true := by
    intro fd e1 e2 he j hj
    rw [e1, e2, cells26] at he
    obtain ⟨z, hz⟩ := Option.isSome_iff_exists.1 (hs 1 (by omega))
    rw [hz] at he
    obtain ⟨_, h2⟩ := feat_cells he
    obtain ⟨m, hm, hw⟩ := h2 j hj
    rw [List.getElem?_take_of_lt hj, List.getElem?_drop] at hm
    exact ⟨m, hm, hw⟩
  refine ⟨hlen, fun j hj => ?_⟩
  by_cases c : j = 0
  . subst c; exact go0 _ rfl rfl (hel 0 _ rfl)
  . have := go1 _ rfl rfl (hel 1 _ rfl) (j - 1) (by omega)
    rwa [show 1 + (j - 1) = j by omega] at this
theorem take_one {l : List Value} {off : Nat} {v : Value} (h : (l.drop off).take 1 = [v]) : l[off]? = some v := by
  have h1 : ((l.drop off).take 1)[0]? = some v := by rw [h]; rfl
  rw [List.getElem?_take_of_lt (by omega), List.getElem?_drop] at h1
  simpa using h1
end
theorem bytes100 : Tryz.prog.bytesOf 100 = 200 := by kernel_rfl
theorem bytes44 : Tryz.prog.bytesOf 44 = 168 := by kernel_rfl
section
variable {H : Type} {enc : TypeId × Value -> H}
theorem w_all {P : Program} {e : TypeId} {d : DataW H} : ∀ {l : List (DataW H)}, d ∈ l -> ∀ n ∈ DataW.weights P e d, n ∈ DataW.weightsAll P e l
  | [], h, _, _ => by simp at h
  | c :: l, h, n, hn => by
    simp only [DataW.weightsAll, List.mem_append]
    rcases List.mem_cons.1 h with rfl | h
    . exact Or.inl hn
    . exact Or.inr (w_all h n hn)
theorem edits_ofS {W : World} {base fuel : Nat} {cs : List Value} {x : DataW H × List MemPlace} (hf : DataW.trod enc Tryz.prog W base (fun _ => true) true fuel 40 cs = some x) (hw : ∀ n ∈ DataW.weights Tryz.prog 40 x.1, n <= 140737488351232) :
    ∃ bo bn bc b, cs = [.slice bo bn bc] /\ AtR rE W (.slice bo bn bc) b /\ b.length <= 1000000000000 := by
  rcases Go.Deep.open_slice Tryz.underlying40 hf with ⟨e, hx⟩ | ⟨a, len, cap, m, k, D, Pl, e, hb, hl, hcap, hm, hx, hel⟩
  . exact ⟨none, 0, 0, [], e, (ownR_nil (T := 100)).at, by simp⟩
  . rw [if_pos rfl] at hm
    subst hm
    rw [cells100] at hel
    have each : ∀ i, ∃ f : Nat -> Int, i < len -> ∀ j, j < 25 -> W.cell? ((a.add (i * 25)).add j) = some (.int .i64 (f j)) := by
      intro i
      by_cases hi : i < len
      . obtain ⟨cs', h1, h2⟩ := hel i (by omega)
        obtain ⟨g1, g2⟩ := edit_cells h2
        have hc : ∀ j, ∃ q, j < 25 -> cs'[j]? = some (.int .i64 q) := by
          intro j
          by_cases hj : j < 25
          . obtain ⟨q, hq⟩ := g2 j hj; exact ⟨q, fun _ => hq.1⟩
          . exact ⟨0, fun h => absurd h hj⟩
        refine ⟨fun j => Classical.choose (hc j), fun _ j hj => ?_⟩
        have q1 := Classical.choose_spec (hc j) hj
        have h3 := (World.cells?_some h1).2.2 j hj
        exact h3.trans q1
      . exact ⟨fun _ => 0, fun h => absurd h hi⟩
    have hL : ((List.range len).map fun i => Classical.choose (each i)).length = len := by simp
    refine ⟨some a, len, m, (List.range len).map fun i => Classical.choose (each i), e, ⟨some a, m, by rw [hL], by rw [hL]; omega, by rw [hL]; omega, fun h0 => ?_⟩, ?_⟩
    . rw [hL] at h0
      have hsp : a.spot = none := by
        have h1 := World.cell?_spot (Classical.choose_spec (each 0) h0 0 (by omega))
        simpa [Addr.add] using h1
      refine ⟨a.block, a.off, ?_, ?_, fun i f hi => ?_⟩
      . obtain ⟨b, o, s⟩ := a
        simp only at hsp
        subst hsp
        rfl
      . obtain ⟨cs', h1, _⟩ := hel 0 (by omega)
        have := World.cells?_block h1 (by omega)
        simpa [Addr.add] using this
      . have hlt : i < len := by have := (List.getElem?_eq_some_iff.1 hi).1; rwa [hL] at this
        rw [List.getElem?_map, List.getElem?_range hlt] at hi
        simp only [Option.map_some, Option.some.injEq] at hi
        subst hi
        intro j u hu
        have hj : j < 25 := by
          have := (List.getElem?_eq_some_iff.1 hu).1
          rw [rE.len] at this
          exact this
        have hu' : (cc 25 (Classical.choose (each i))).toList[j]? = some u := hu
        rw [Array.getElem?_toList, cc_at 25 _ j hj] at hu'
        cases hu'
        have := Classical.choose_spec (each i) hlt j hj
        rw [add_add _ _ _ hsp] at this
        exact this
    . rw [hL]
      rw [hx] at hw
      have := hw _ (by simp only [DataW.weights, Tryz.underlying40]; exact List.mem_cons_self ..)
      rw [bytes100, List.length_map, List.length_range] at this
      omega
theorem op_cellsS {W : World} {base n : Nat} {cs : List Value} {x : DataW H × List MemPlace} (h : DataW.trod enc Tryz.prog W base (fun _ => true) true n 44 cs = some x) (hx1 : ∀ n ∈ DataW.weights Tryz.prog 44 x.1, n <= 140737488351232) : ∃ (o : OpV) (b : Bat), OpOk W o b /\ ∀ j, j < 17 -> cs[j]? = o.v[j]? := by
  obtain ⟨xs, n1, _, hxx, hlen, hn, hel⟩ := DataW.trod_struct Tryz.underlying44 h
  have hxl : xs.length = 10 := hn
  have hs : ∀ i, i < 10 -> (xs[i]?).isSome = true := by
    intro i hi
    simp [hxl, hi]
  have goI : ∀ (i : Nat) (fd : Field), i < 5 -> fd.type = 3 -> fd.offset = i -> DataW.trod enc Tryz.prog W base (fun _ => true) true n1 fd.type ((cs.drop fd.offset).take (Tryz.prog.cellsOf fd.type)) = xs[i]? -> ∃ m, cs[i]? = some (.int .i64 m) /\ (Lit.int .i64 m).wf = true := by
    intro i fd hi e1 e2 he
    rw [e1, e2, cells3] at he
    obtain ⟨z, hz⟩ := Option.isSome_iff_exists.1 (hs i (by omega))
    rw [hz] at he
    obtain ⟨k, e3, _, e4⟩ := DataW.trod_int Tryz.underlying3 he
    exact ⟨k, take_one e3, e4⟩
  have goK : ∀ (fd : Field), fd.type = 39 -> fd.offset = 5 -> DataW.trod enc Tryz.prog W base (fun _ => true) true n1 fd.type ((cs.drop fd.offset).take (Tryz.prog.cellsOf fd.type)) = xs[5]? -> ∀ j, j < 4 -> ∃ m, cs[5 + j]? = some (.int .i64 m) := by
    intro fd e1 e2 he j hj
    rw [e1, e2, cells28] at he
    obtain ⟨z, hz⟩ := Option.isSome_iff_exists.1 (hs 5 (by omega))
    rw [hz] at he
    obtain ⟨ys, n2, _, _, hlen2, hn2, hel2⟩ := DataW.trod_struct Tryz.underlying39 he
    have hs2 : ∀ i, i < 4 -> (ys[i]?).isSome = true := by
      intro i hi
      have hx : ys.length = 4 := hn2
      simp [hx, hi]
    have go : ∀ (i : Nat) (fd : Field), i < 4 -> fd.type = 3 -> fd.offset = i -> DataW.trod enc Tryz.prog W base (fun _ => true) true n2 fd.type ((((cs.drop 5).take 4).drop fd.offset).take (Tryz.prog.cellsOf fd.type)) = ys[i]? -> ∃ m, cs[5 + i]? = some (.int .i64 m) := by
      intro i fd hi e1 e2 he
      rw [e1, e2, cells3] at he
      obtain ⟨z, hz⟩ := Option.isSome_iff_exists.1 (hs2 i hi)
      rw [hz] at he
      obtain ⟨k, e3, _, e4⟩ := DataW.trod_int Tryz.underlying3 he
      refine ⟨k, ?_⟩
      have := take_one e3
      rw [List.getElem?_take_of_lt hi, List.getElem?_drop] at this
      exact this
    match j, hj with
    | 0, _ => exact go 0 _ (by omega) rfl rfl (hel2 0 _ rfl)
    | 1, _ => exact go 1 _ (by omega) rfl rfl (hel2 1 _ rfl)
    | 2, _ => exact go 2 _ (by omega) rfl rfl (hel2 2 _ rfl)
    | 3, _ => exact go 3 _ (by omega) rfl rfl (hel2 3 _ rfl)
  have goT : ∀ (i o : Nat) (fd : Field), i < 10 -> fd.type = 9 -> fd.offset = o -> DataW.trod enc Tryz.prog W base (fun _ => true) true n1 fd.type ((cs.drop fd.offset).take (Tryz.prog.cellsOf fd.type)) = xs[i]? -> ∃ s : ByteArray, cs[o]? = some (.string s) := by
    intro i o fd hi e1 e2 he
    rw [e1, e2, cells9] at he
    obtain ⟨z, hz⟩ := Option.isSome_iff_exists.1 (hs i hi)
    rw [hz] at he
    obtain ⟨s, e3, _, _⟩ := DataW.trod_string Tryz.underlying9 he
    exact ⟨s, take_one e3⟩
  have goS : ∀ (fd : Field), fd.type = 40 -> fd.offset = 11 -> DataW.trod enc Tryz.prog W base (fun _ => true) true n1 fd.type ((cs.drop fd.offset).take (Tryz.prog.cellsOf fd.type)) = xs[8]? -> ∃ bo bn bc b, cs[11]? = some (.slice bo bn bc) /\ AtR rE W (.slice bo bn bc) b /\ b.length <= 1000000000000 := by
    intro fd e1 e2 he
    rw [e1, e2, cells40] at he
    obtain ⟨z, hz⟩ := Option.isSome_iff_exists.1 (hs 8 (by omega))
    rw [hz] at he
    obtain ⟨bo, bn, bc, b, e3, r1, r2⟩ := edits_ofS he (fun n hn => hx1 n (by
      rw [hxx]
      simp only [DataW.weights, Tryz.underlying44]
      exact DataW.weights_mem_each (j := 8) (t := 40) rfl (by rw [List.getElem?_map, hz]; rfl) n hn))
    exact ⟨bo, bn, bc, b, take_one e3, r1, r2⟩
  have goF : ∀ (fd : Field), fd.type = 42 -> fd.offset = 12 -> DataW.trod enc Tryz.prog W base (fun _ => true) true n1 fd.type ((cs.drop fd.offset).take (Tryz.prog.cellsOf fd.type)) = xs[9]? -> ∀ j, j < 5 -> ∃ m, cs[12 + j]? = some (.int .i64 m) := by
    intro fd e1 e2 he j hj
    rw [e1, e2, cells42] at he
    obtain ⟨z, hz⟩ := Option.isSome_iff_exists.1 (hs 9 (by omega))
    rw [hz] at he
    obtain ⟨ys, n2, _, _, hlen2, hn2, hel2⟩ := DataW.trod_struct Tryz.underlying42 he
    have hs2 : ∀ i, i < 5 -> (ys[i]?).isSome = true := by
      intro i hi
      have hx : ys.length = 5 := hn2
      simp [hx, hi]
    have go : ∀ (i : Nat) (fd : Field), i < 5 -> fd.type = 3 -> fd.offset = i -> DataW.trod enc Tryz.prog W base (fun _ => true) true n2 fd.type ((((cs.drop 12).take 5).drop fd.offset).take (Tryz.prog.cellsOf fd.type)) = ys[i]? -> ∃ m, cs[12 + i]? = some (.int .i64 m) := by
      intro i fd hi e1 e2 he
      rw [e1, e2, cells3] at he
      obtain ⟨z, hz⟩ := Option.isSome_iff_exists.1 (hs2 i hi)
      rw [hz] at he
      obtain ⟨k, e3, _, e4⟩ := DataW.trod_int Tryz.underlying3 he
      refine ⟨k, ?_⟩
      have := take_one e3
      rw [List.getElem?_take_of_lt hi, List.getElem?_drop] at this
      exact this
    match j, hj with
    | 0, _ => exact go 0 _ (by omega) rfl rfl (hel2 0 _ rfl)
    | 1, _ => exact go 1 _ (by omega) rfl rfl (hel2 1 _ rfl)
    | 2, _ => exact go 2 _ (by omega) rfl rfl (hel2 2 _ rfl)
    | 3, _ => exact go 3 _ (by omega) rfl rfl (hel2 3 _ rfl)
    | 4, _ => exact go 4 _ (by omega) rfl rfl (hel2 4 _ rfl)
  obtain ⟨kd, h0, _⟩ := goI 0 _ (by omega) rfl rfl (hel 0 _ rfl)
  obtain ⟨on, h1, q1⟩ := goI 1 _ (by omega) rfl rfl (hel 1 _ rfl)
  obtain ⟨a, h2, _⟩ := goI 2 _ (by omega) rfl rfl (hel 2 _ rfl)
  obtain ⟨b', h3, _⟩ := goI 3 _ (by omega) rfl rfl (hel 3 _ rfl)
  obtain ⟨c, h4, _⟩ := goI 4 _ (by omega) rfl rfl (hel 4 _ rfl)
  have hK := goK _ rfl rfl (hel 5 _ rfl)
  obtain ⟨l, h5⟩ := hK 0 (by omega)
  obtain ⟨z, h6⟩ := hK 1 (by omega)
  obtain ⟨x', h7⟩ := hK 2 (by omega)
  obtain ⟨y, h8⟩ := hK 3 (by omega)
  obtain ⟨S, h9⟩ := goT 6 9 _ (by omega) rfl rfl (hel 6 _ rfl)
  obtain ⟨T, h10⟩ := goT 7 10 _ (by omega) rfl rfl (hel 7 _ rfl)
  obtain ⟨bo, bn, bc, b, h11, q8, q9⟩ := goS _ rfl rfl (hel 8 _ rfl)
  have hF := goF _ rfl rfl (hel 9 _ rfl)
  obtain ⟨f0, h12⟩ := hF 0 (by omega)
  obtain ⟨f1, h13⟩ := hF 1 (by omega)
  obtain ⟨f2, h14⟩ := hF 2 (by omega)
  obtain ⟨f3, h15⟩ := hF 3 (by omega)
  obtain ⟨f4, h16⟩ := hF 4 (by omega)
  refine ⟨⟨kd, on, a, b', c, l, z, x', y, S, T, bo, bn, bc, f0, f1, f2, f3, f4⟩, b, ⟨q8, by omega, wf_64 q1⟩, fun j hj => ?_⟩
  match j, hj with
  | 0, _ => exact h0
  | 1, _ => exact h1
  | 2, _ => exact h2
  | 3, _ => exact h3
  | 4, _ => exact h4
  | 5, _ => exact h5
  | 6, _ => exact h6
  | 7, _ => exact h7
  | 8, _ => exact h8
  | 9, _ => exact h9
  | 10, _ => exact h10
  | 11, _ => exact h11
  | 12, _ => exact h12
  | 13, _ => exact h13
  | 14, _ => exact h14
  | 15, _ => exact h15
  | 16, _ => exact h16
  | j + 17, hj => omega
theorem open_scriptS {W : World} {r : Reach} {b0 base : Nat} {v : Value} {d : DataW H} {p : List MemPlace} (hv : Value.okWide Tryz.prog W r b0 22 v) (h : DataW.Trod enc Tryz.prog W base (fun _ => true) true 22 v d p) (hk : ∀ n ∈ DataW.weights Tryz.prog 22 d, n <= 140737488351232) : ∃ L, ScrOk W v L := by
  obtain ⟨a0, len, cap, rfl⟩ := okWide_slice Tryz.underlying22 hv
  obtain ⟨fuel, hf⟩ := h
  rcases Go.Deep.open_slice Tryz.underlying22 hf with ⟨e, _⟩ | ⟨a, len', cap', m, k, D, Pl, e, hb, hl, hcap, hm, hx, hel⟩
  . simp only [Value.cells, List.cons.injEq, Value.slice.injEq, and_true] at e
    obtain ⟨rfl, rfl, rfl⟩ := e
    exact ⟨[], (ownR_nil (R := rOp) (T := 44)).at, fun i s h => by simp at h, by simp⟩
  . simp only [Value.cells, List.cons.injEq, Value.slice.injEq, and_true] at e
    obtain ⟨rfl, rfl, rfl⟩ := e
    rw [if_pos rfl] at hm
    subst hm
    rw [cells44] at hel
    simp only [Prod.mk.injEq] at hx
    rw [hx.1] at hk
    simp only [DataW.weights, Tryz.underlying22] at hk
    have hlen : len <= 900000000000 := by
      have := hk _ (List.mem_cons_self ..)
      rw [bytes44, List.length_map, List.length_range] at this
      omega
    have each : ∀ i, ∃ s : OpV, i < len -> (∃ b, OpOk W s b) /\ ∀ j, j < 17 -> W.cell? ((a.add (i * 17)).add j) = s.v[j]? := by
      intro i
      by_cases hi : i < len
      . obtain ⟨cs', h1, h2⟩ := hel i (by omega)
        have hm : D i ∈ (List.range len).map D := List.mem_map_of_mem (List.mem_range.2 hi)
        obtain ⟨s, b, g1, g2⟩ := op_cellsS h2 (fun n hn => hk n (List.mem_cons_of_mem _ (List.mem_append_left _ (w_all hm n hn))))
        have hc := (World.cells?_some h1).2.2
        exact ⟨s, fun _ => ⟨⟨b, g1⟩, fun j hj => (hc j (by omega)).trans (g2 j hj)⟩⟩
      . exact ⟨⟨0, 0, 0, 0, 0, 0, 0, 0, 0, ⟨#[]⟩, ⟨#[]⟩, none, 0, 0, 0, 0, 0, 0, 0⟩, fun h => absurd h hi⟩
    have hL : ((List.range len).map fun i => Classical.choose (each i)).length = len := by simp
    have hget : ∀ (i : Nat) (s : OpV), ((List.range len).map fun i => Classical.choose (each i))[i]? = some s -> i < len /\ s = Classical.choose (each i) := by
      intro i s hi
      have hlt : i < len := by have := (List.getElem?_eq_some_iff.1 hi).1; rwa [hL] at this
      refine ⟨hlt, ?_⟩
      rw [List.getElem?_map, List.getElem?_range hlt] at hi
      simpa using hi.symm
    refine ⟨(List.range len).map fun i => Classical.choose (each i), ⟨some a, m, by rw [hL], by rw [hL]; omega, by rw [hL]; omega, fun h0 => ?_⟩, fun i s hi => ?_, by rw [hL]; omega⟩
    . rw [hL] at h0
      have hsp : a.spot = none := by
        have h1 := World.cell?_spot ((Classical.choose_spec (each 0) h0).2 0 (by omega) |>.trans (show (Classical.choose (each 0)).v[0]? = some (.int .i64 (Classical.choose (each 0)).kind) from rfl))
        simpa [Addr.add] using h1
      refine ⟨a.block, a.off, ?_, ?_, fun i s hi => ?_⟩
      . obtain ⟨b, o, sp⟩ := a
        simp only at hsp
        subst hsp
        rfl
      . obtain ⟨cs', h1, _⟩ := hel 0 (by omega)
        have := World.cells?_block h1 (by omega)
        simpa [Addr.add] using this
      . obtain ⟨hlt, rfl⟩ := hget i s hi
        intro j u hu
        have hj : j < 17 := (List.getElem?_eq_some_iff.1 hu).1
        have := (Classical.choose_spec (each i) hlt).2 j hj
        rw [add_add _ _ _ hsp] at this
        have e : (rOp.enc (Classical.choose (each i)))[j]? = (Classical.choose (each i)).v[j]? := Array.getElem?_toList
        rw [e] at hu
        exact this.trans hu
    . obtain ⟨hlt, rfl⟩ := hget i s hi
      exact (Classical.choose_spec (each i) hlt).1
end
end Go.Proofs.YtpabpniaekldeaaGreatDoor
