/-
  The texts FcG, FcH, FdA, FdB, FdC, FeA, FeB, FeC, FeE, FeF, FeG.
-/
import Derived.Test.YtpopchckldbhdaaGreatDoorLase03
namespace Go.Proofs.YtpopchckldbhdaaGreatDoor
open Go.RowKit
set_option maxRecDepth 20000
def rF : Row Ft := ⟨24,fun f => (cc 24 f).toList,fun f => ccl_len 24 f,fun f v hv => by
  have := cc_one 24 f
  rw [Array.all_eq_true_iff_forall_mem] at this
  exact this v (by simpa using hv),by decide⟩
theorem OwnC.toR {w : World} {B : Nat} {v : Value} {l : List Ft} (h : OwnC 86 24 w B v l) : OwnR rF 86 w v l := by
  obtain ⟨h1,h2⟩ := h
  rcases h2 with ⟨rfl,hn⟩ | ⟨g,cap,cur,rfl,_,hh,r1,r2,r3,r4⟩
  . exact Or.inl ⟨rfl,List.eq_nil_of_length_eq_zero hn⟩
  . exact Or.inr ⟨g,0,cap,cur,rfl,hh,r1,r2,by rw [r3]; show 0 + cap * 24 <= cap * 24; omega,by rw [List.drop_zero]; exact r4⟩
theorem AtR.fs {w : World} {v : Value} {l : List Ft} (h : AtR rF w v l) : CsAt 24 w v l.length (gf l) := by
  obtain ⟨oa,cap,e,h1,h2,h3⟩ := h
  refine ⟨oa,cap,e,h2,fun h0 => ?_⟩
  obtain ⟨b,off,e',hb,hc⟩ := h3 h0
  refine ⟨b,off,e',hb,fun i hi j hj => ?_⟩
  have hg : l[i]? = some (gf l i) := by
    unfold gf
    rw [List.getElem?_eq_getElem hi]
    rfl
  exact hc i (gf l i) hg j _ (by show (cc 24 (gf l i)).toList[j]? = _; rw [Array.getElem?_toList,cc_at 24 _ j hj])
theorem inf86 : (Tryz.prog.info? 86).map (fun i => (i.zero,i.size,i.bytes)) = some (some (.agg (cc 24 zf)),24,192) := by kernel_rfl
theorem apF {w : World} {v x : Value} {l news : List Ft} (ho : OwnR rF 86 w v l) (hx : AtR rF w x news) (hl : l.length + news.length <= 10000000) :
    ∃ v' w',(Builtin.append_ #[69,69] 69 #[v,x]).run Tryz.prog w = .ok v' w' /\ OwnR rF 86 w' v' (l ++ news) /\ w.grownBy w' v.ownBlock /\ (v'.ownBlock = v.ownBlock \/ ∀ g,v'.ownBlock = some g -> w.heap.size <= g) := by
  obtain ⟨i,h1,h2,h3,h4⟩ := infoP inf86
  exact OwnR.append (R := rF) (P := Tryz.prog) 69 69 i _ 192 Tryz.underlying69 h1 h2 h3 h4 (show (cc 24 zf).size = 24 from cc_size 24 zf) ho news x hx (by unfold maxLen; omega) (by omega)
theorem gf_l {A B : List Ft} {i : Nat} (h : i < A.length) : gf (A ++ B) i = gf A i := by unfold gf; rw [List.getElem?_append_left h]
theorem gf_r {A B : List Ft} (i : Nat) : gf (A ++ B) (A.length + i) = gf B i := by unfold gf; rw [List.getElem?_append_right (by omega),Nat.add_sub_cancel_left]
theorem pid_l {a : Int} {A B : List Ft} {i : Nat} (h : i <= A.length) : pid a (A ++ B) i = pid a A i := by
  cases i with
  | zero => rfl
  | succ i => show gf (A ++ B) i 0 = gf A i 0; rw [gf_l (by omega)]
theorem pid_r (a : Int) (A B : List Ft) (i : Nat) : pid a (A ++ B) (A.length + i) = pid (pid a A A.length) B i := by
  cases i with
  | zero => exact pid_l (Nat.le_refl _)
  | succ i => show gf (A ++ B) (A.length + i) 0 = gf B i 0; rw [gf_r]
theorem RdP.app {FL A B : List Ft} {a : Int} (h : RdP FL a A) (h' : RdP FL (pid a A A.length) B) : RdP FL a (A ++ B) := by
  refine ⟨fun i hi => ?_,fun i hi => ?_,?_⟩
  . by_cases c : i < A.length
    . rw [gf_l c]; exact h.mem i c
    . obtain ⟨q,rfl⟩ : ∃ q,i = A.length + q := ⟨i - A.length,by omega⟩
      rw [gf_r]; exact h'.mem q (by simp at hi; omega)
  . by_cases c : i < A.length
    . rw [gf_l c,pid_l (by omega)]; exact h.ris i c
    . obtain ⟨q,rfl⟩ : ∃ q,i = A.length + q := ⟨i - A.length,by omega⟩
      rw [gf_r,pid_r]; exact h'.ris q (by simp at hi; omega)
  . rw [List.length_append,pid_r,h'.cnt,h.cnt,Nat.add_assoc]
set_option maxHeartbeats 12800000 in
theorem step_any (fb : Nat) (X : FV) (ver : Int) (sl pv : Value) (LS PL FL R : List Ft) (ch : Nat) (g : Nat) (bl bz bx by' reads left : Int) (rv : Value) (w : World) (hf : FBlk w fb X) (hch : X.ch = ch) (hc : 1 <= ch /\ ch <= 8) (hs : StP w X.sb 0 ver sl pv LS PL) (hl : LS.length <= 1000) (hp : PL.length <= 100) (hver : 0 <= ver /\ ver <= 100) (hh : heldB 0 ver PL reads = true) (hR : RelV reads LS FL)
    (hu : w.heap[g]? = some (.cells #[.int .i64 bl,.int .i64 bz,.int .i64 bx,.int .i64 by',.int .i64 reads,.int .i64 left,rv] 102 (0,0))) (ho : OwnR rF 86 w rv R) (hrd : RdP FL 0 R) (hle : 1 <= left /\ left <= 1000) :
    Calls Tryz.prog 48 #[.pointer (some ⟨fb,0,none⟩),.pointer (some ⟨g,0,none⟩)] w fun e w' => e = .returned (.tuple #[]) /\ (∃ R2 rv',w'.heap[g]? = some (.cells #[.int .i64 bl,.int .i64 bz,.int .i64 bx,.int .i64 by',.int .i64 reads,.int .i64 (left - 1),rv'] 102 (0,0)) /\ OwnR rF 86 w' rv' (R ++ R2) /\ RdP FL 0 (R ++ R2) /\ R2.length = min ch (FL.length - R.length) /\ (rv'.ownBlock = rv.ownBlock \/ ∀ k,rv'.ownBlock = some k -> w.heap.size <= k)) /\ Frm (fun k => k = g \/ rv.ownBlock = some k) w w' := by
  have hF6 : ∀ W,FBlk W fb X -> W.cell? ⟨fb,6,none⟩ = some (.pointer (some ⟨X.sb,0,none⟩)) := fun W h => (FBlk.cells h).2.2.2.2.2.2.1
  have hF2 : ∀ W,FBlk W fb X -> W.cell? ⟨fb,2,none⟩ = some (.int .i64 ch) := fun W h => by rw [<- hch]; exact (FBlk.cells h).2.2.1
  have h40 := hR.le40
  have hcl0 : cle FL 0 FL.length = 0 := cle_none _ fun j hj => by have := (hR.rt j hj).id; omega
  have hcl : cle FL (lid R) FL.length = R.length := by have := hrd.cnt; rw [hcl0] at this; unfold lid; omega
  have hRl : R.length <= 40 := by rw [<- hcl]; exact Nat.le_trans (cle_le _ _ _) h40
  have RD : ∀ W,Below w.heap.size w W -> Calls Tryz.prog 76 #[.pointer (some ⟨X.sb,0,none⟩),.int .i64 reads,.int .i64 (lid R),.int .i64 ch] W fun e w' => ∃ t,e = .returned t /\ ∃ R' rv,t = .tuple #[rv,.int .i64 0] /\ OwnC 86 24 w' W.heap.size rv R' /\ RdP FL (lid R) R' /\ R'.length = min ch (FL.length - cle FL (lid R) FL.length) /\ Below W.heap.size W w' := fun W h => ReadC X.sb ver sl pv LS PL FL reads (lid R) ch W (hs.on h) hl hp hver hh hR hc
  have c6 := (blk_cells hu 6).trans (show _ = some rv from rfl)
  have LI := lastId_any rv R w ho.at.fs (by omega)
  obtain ⟨ra,rn,rc,hrv⟩ := ho.sl
  have hG4 : ∀ W : World,W.heap[g]? = some (.cells #[.int .i64 bl,.int .i64 bz,.int .i64 bx,.int .i64 by',.int .i64 reads,.int .i64 left,rv] 102 (0,0)) -> W.cell? ⟨g,4,none⟩ = some (.int .i64 reads) := fun W h => (blk_cells h 4).trans rfl
  have HF := hide hf
  have HU := hide hu
  have HRD := hide RD
  have HO := hide ho
  have HP := hide hrd
  have HCL := hide hcl
  have HRV := hide hrv
  clear hf hs hR RD hch hcl0 hh hu ho hrd hcl
  subst hrv
  generalize hA : lid R = A at LI HRD HCL
  go_enter Tryz.func48,Tryz.ntmps48
  go_wp2_with fail
  refine LI.mono ?_
  rintro e w9 ⟨rfl,rfl⟩
  clear LI c6
  go_wp2_with fail
  refine wp_region_held (S := fun w' => FBlk w' fb X /\ w'.heap[g]? = some (.cells #[.int .i64 bl,.int .i64 bz,.int .i64 bx,.int .i64 by',.int .i64 reads,.int .i64 left,.slice ra rn rc] 102 (0,0))) (by kernel_rfl) ?_
  change wpAnyH _ _ _ _ _ _ _ _ (World.drew _)
  have hS : FBlk (World.drew w) fb X /\ (World.drew w).heap[g]? = some (.cells #[.int .i64 bl,.int .i64 bz,.int .i64 bx,.int .i64 by',.int .i64 reads,.int .i64 left,.slice ra rn rc] 102 (0,0)) := ⟨unhide HF,unhide HU⟩
  have hb1 : Below w.heap.size w (World.drew w) := Below.drew (Below.refl _ _)
  have RD1 := unhide HRD (World.drew w) hb1
  generalize World.drew w = w1 at hS hb1 RD1 ⊢
  refine t_tk 0 rfl (.pointer (some ⟨fb,0,none⟩)) (by kernel_rfl) (fun _ _ _ h => h) rfl (fun w' hw' => by simp [go_sem]) hS ?_
  simp only [Act.put,qA,qB,qC]
  refine t_tk 1 rfl (.pointer (some ⟨fb,0,none⟩)) (by kernel_rfl) (fun _ _ _ h => h) rfl (fun w' hw' => by simp [go_sem]) hS ?_
  simp only [Act.put,qA,qB,qC]
  refine t_tk 2 rfl (.pointer (some ⟨fb,6,none⟩)) (by kernel_rfl) (fun _ _ _ h => h) rfl (fun w' hw' => by simp [go_sem]) hS ?_
  simp only [Act.put,qA,qB,qC]
  refine t_tk 3 rfl (.pointer (some ⟨X.sb,0,none⟩)) (by kernel_rfl) (fun _ _ _ h => h) rfl (fun w' hw' => by simp [go_sem,hF6 w' hw'.1]) hS ?_
  simp only [Act.put,qA,qB,qC]
  refine t_tk 4 rfl (.pointer (some ⟨g,0,none⟩)) (by kernel_rfl) (fun _ _ _ h => h) rfl (fun w' hw' => by simp [go_sem]) hS ?_
  simp only [Act.put,qA,qB,qC]
  refine t_tk 5 rfl (.pointer (some ⟨g,0,none⟩)) (by kernel_rfl) (fun _ _ _ h => h) rfl (fun w' hw' => by simp [go_sem]) hS ?_
  simp only [Act.put,qA,qB,qC]
  refine t_tk 6 rfl (.pointer (some ⟨g,4,none⟩)) (by kernel_rfl) (fun _ _ _ h => h) rfl (fun w' hw' => by simp [go_sem]) hS ?_
  simp only [Act.put,qA,qB,qC]
  refine t_tk 7 rfl (.int .i64 reads) (by kernel_rfl) (fun _ _ _ h => h) rfl (fun w' hw' => by simp [go_sem,hG4 w' hw'.2]) hS ?_
  simp only [Act.put,qA,qB,qC]
  refine t_tk 8 rfl (.int .i64 A) (by kernel_rfl) (fun _ _ _ h => h) rfl (fun w' hw' => by simp [go_sem]) hS ?_
  simp only [Act.put,qA,qB,qC]
  refine t_tk 9 rfl (.pointer (some ⟨fb,0,none⟩)) (by kernel_rfl) (fun _ _ _ h => h) rfl (fun w' hw' => by simp [go_sem]) hS ?_
  simp only [Act.put,qA,qB,qC]
  refine t_tk 10 rfl (.pointer (some ⟨fb,0,none⟩)) (by kernel_rfl) (fun _ _ _ h => h) rfl (fun w' hw' => by simp [go_sem]) hS ?_
  simp only [Act.put,qA,qB,qC]
  refine t_tk 11 rfl (.pointer (some ⟨fb,2,none⟩)) (by kernel_rfl) (fun _ _ _ h => h) rfl (fun w' hw' => by simp [go_sem]) hS ?_
  simp only [Act.put,qA,qB,qC]
  refine t_tk 12 rfl (.int .i64 ch) (by kernel_rfl) (fun _ _ _ h => h) rfl (fun w' hw' => by simp [go_sem,hF2 w' hw'.1]) hS ?_
  simp only [Act.put,qA,qB,qC]
  refine wpAnyH_all (rs := [13]) (by kernel_rfl) (by simp) ?_
  intro i hi
  simp only [List.mem_singleton] at hi
  subst hi
  refine t_callE 13 rfl rfl 76 #[.pointer (some ⟨X.sb,0,none⟩),.int .i64 reads,.int .i64 A,.int .i64 ch] (by simp [go_sem]) _ RD1 ?_
  rintro t w2 ⟨R2,rv2,rfl,ho2,hrp,hlen,hb2⟩
  have hS2 : FBlk w2 fb X /\ w2.heap[g]? = some (.cells #[.int .i64 bl,.int .i64 bz,.int .i64 bx,.int .i64 by',.int .i64 reads,.int .i64 left,.slice ra rn rc] 102 (0,0)) := ⟨blk_on hS.1 hb2,blk_on hS.2 hb2⟩
  refine ⟨hS2,?_⟩
  simp only [Act.put,qA,qB,qC]
  have hS := hS2
  have hoR2 := ho2.toR
  obtain ⟨qa,qn,qc,rfl⟩ := hoR2.sl
  refine t_tk 14 rfl (.tuple #[.slice qa qn qc,.int .i64 0]) (by kernel_rfl) (fun _ _ _ h => h) rfl (fun w' hw' => by simp [go_sem]) hS ?_
  simp only [Act.put,qA,qB,qC]
  refine t_tk 15 rfl (.slice qa qn qc) (by kernel_rfl) (fun _ _ _ h => h) rfl (fun w' hw' => by simp [go_sem]) hS ?_
  simp only [Act.put,qA,qB,qC]
  refine t_tk 16 rfl (.int .i64 0) (by kernel_rfl) (fun _ _ _ h => h) rfl (fun w' hw' => by simp [go_sem]) hS ?_
  simp only [Act.put,qA,qB,qC]
  refine t_tk 17 rfl (.slice qa qn qc) (by kernel_rfl) (fun _ _ _ h => h) rfl (fun w' hw' => by simp [go_sem]) hS ?_
  simp only [Act.put,qA,qB,qC]
  refine t_tk 18 rfl (.int .i64 0) (by kernel_rfl) (fun _ _ _ h => h) rfl (fun w' hw' => by simp [go_sem]) hS ?_
  simp only [Act.put,qA,qB,qC]
  refine wpAnyH_done (by kernel_rfl) ?_ _
  have hB2 := hb1.trans (hb2.mono hb1.size)
  have hoR := (unhide HO).on hB2
  obtain ⟨v3,w3,r1,r2,r3,r4⟩ := apF hoR hoR2.at (by have := hlen; omega)
  have hgne := own_ne hoR hS.2 (by decide)
  have hu3 := (r3.block g (blk_lt hS.2) (fun q => hgne g q.symm rfl)).trans hS.2
  have hfz6 := frz_blk hu3 6
  have c63 := (blk_cells hu3 6).trans (show _ = some (Value.slice ra rn rc) from rfl)
  obtain ⟨pa,pn,pc,rfl⟩ := r2.sl
  have hu4 := blk_set (i := 6) hu3 (.slice pa pn pc)
  have hfz5 := frz_blk hu4 5
  have c54 := (blk_cells hu4 5).trans (show _ = some (Value.int .i64 left) from rfl)
  have hu5 := blk_set (i := 5) hu4 (.int .i64 (left - 1))
  have hwl : IntKind.i64.wrap (left - 1) = left - 1 := i64_of _ (by omega)
  have ho5 : OwnR rF 86 ((w3.setCell ⟨g,6,none⟩ (.slice pa pn pc)).setCell ⟨g,5,none⟩ (.int .i64 (left - 1))) (.slice pa pn pc) (R ++ R2) := by
    have hn3 := own_ne r2 hu3 (by decide)
    refine (r2.same fun k hk => Below.heap_setCell _ _ _ _ (hn3 k hk)).same fun k hk => Below.heap_setCell _ _ _ _ (hn3 k hk)
  have hF5 : Frm (fun k => k = g \/ Value.ownBlock (.slice ra rn rc) = some k) w ((w3.setCell ⟨g,6,none⟩ (.slice pa pn pc)).setCell ⟨g,5,none⟩ (.int .i64 (left - 1))) :=
    (((Frm.of_below (S := fun k => k = g \/ Value.ownBlock (.slice ra rn rc) = some k) hB2).grown r3 (fun k hk _ => Or.inr hk)).setCell (p := ⟨g,6,none⟩) _ (fun _ => Or.inl rfl)).setCell (p := ⟨g,5,none⟩) _ (fun _ => Or.inl rfl)
  have hrp' : RdP FL 0 (R ++ R2) := (unhide HP).app (by rw [<- hA] at hrp; exact hrp)
  have hlen' : R2.length = min ch (FL.length - R.length) := by rw [unhide HCL] at hlen; exact hlen
  have HH : Hid (∃ R2 rv',((w3.setCell ⟨g,6,none⟩ (.slice pa pn pc)).setCell ⟨g,5,none⟩ (.int .i64 (left - 1))).heap[g]? = some (.cells #[.int .i64 bl,.int .i64 bz,.int .i64 bx,.int .i64 by',.int .i64 reads,.int .i64 (left - 1),rv'] 102 (0,0)) /\ OwnR rF 86 ((w3.setCell ⟨g,6,none⟩ (.slice pa pn pc)).setCell ⟨g,5,none⟩ (.int .i64 (left - 1))) rv' (R ++ R2) /\ RdP FL 0 (R ++ R2) /\ R2.length = min ch (FL.length - R.length) /\ (rv'.ownBlock = Value.ownBlock (.slice ra rn rc) \/ ∀ k,rv'.ownBlock = some k -> w.heap.size <= k)) :=
    ⟨R2,.slice pa pn pc,hu5,ho5,hrp',hlen',by
      rcases r4 with r4 | r4
      . exact Or.inl r4
      . exact Or.inr fun k hk => by have := r4 k hk; have := hB2.size; omega⟩
  have HF5 := hide hF5
  have c62 := (blk_cells hS.2 6).trans (show _ = some (Value.slice ra rn rc) from rfl)
  clear hS2 hb1 hb2 RD1 ho2 hrp hlen hS hoR2 hB2 hoR r2 r3 r4 hgne hu3 hu4 hu5 ho5 hF5 hrp' hlen'
  go_wp2_with (first | (at_builtin; refine wlR 69 r1 rfl _ _ rfl rfl rfl rfl ?_))
  exact bodyPost_end (results_none Tryz.results48 _ _ _) rfl ⟨rfl,unhide HH,unhide HF5⟩
section
variable {ops : Array Oper} {rest : List Oper} {o : Oper} {a : Act} {Q : Exit -> Act -> World -> Prop} {w : World}
theorem wlSk (w1 : World) (hr : (execOp a.eval o).run Tryz.prog w = .ok .skip w1) (hgd : o.guard = none) (h : wpList Tryz.prog ops Q rest (a.put o.dst undef) w1) : wpList Tryz.prog ops Q (o :: rest) a w :=
  wpList_plain hgd fun _ hK => by
    unfold Oper.wp
    rw [hr]
    exact hK _ _ h
end
theorem stI (ev : Operand -> Value) (o : Oper) (x y : Operand) (ho : o.op = .store 3 x y) (g i : Nat) (n : Int) (hx : ev x = .pointer (some ⟨g,i,none⟩)) (hy : ev y = .int .i64 n) (w w1 : World) {u : Value} (hc : w.cell? ⟨g,i,none⟩ = some u) (hf : w.frozen? ⟨g,i,none⟩ = false) (h1 : w.setCell ⟨g,i,none⟩ (.int .i64 n) = w1) : (execOp ev o).run Tryz.prog w = .ok .skip w1 := by
  subst h1
  unfold execOp
  simp only [ho,hx,hy]
  simp [go_sem,hc,hf]
theorem stS1 (ev : Operand -> Value) (o : Oper) (x y : Operand) (t : TypeId) (ho : o.op = .store t x y) (hz : ∀ w,(sizeOf t).run Tryz.prog w = .ok 1 w) (fb i : Nat) (oa : Option Addr) (n c : Nat) (hx : ev x = .pointer (some ⟨fb,i,none⟩)) (hy : ev y = .slice oa n c) (w w1 : World) {u : Value} (hc : w.cell? ⟨fb,i,none⟩ = some u) (hf : w.frozen? ⟨fb,i,none⟩ = false) (h1 : w.setCell ⟨fb,i,none⟩ (.slice oa n c) = w1) : (execOp ev o).run Tryz.prog w = .ok .skip w1 := by
  subst h1
  exact stS ev o x y t ho hz fb i oa n c hx hy w hc hf
theorem bt102 (bl bz bx by' : Int) (ev : Operand -> Value) (o : Oper) (x : Operand) (ho : o.op = .build 102 #[(0,x)]) (hx : ev x = .agg #[.int .i64 bl,.int .i64 bz,.int .i64 bx,.int .i64 by']) (w : World) : (execOp ev o).run Tryz.prog w = .ok (.value (.agg #[.int .i64 bl,.int .i64 bz,.int .i64 bx,.int .i64 by',.int .i64 0,.int .i64 0,.slice none 0 0])) w := by
  have hb := run_build (P := Tryz.prog) w 102 #[(0,.agg #[.int .i64 bl,.int .i64 bz,.int .i64 bx,.int .i64 by'])] #[.int .i64 bl,.int .i64 bz,.int .i64 bx,.int .i64 by',.int .i64 0,.int .i64 0,.slice none 0 0] (by kernel_rfl)
  unfold execOp
  simp [ho,hx,hb]
theorem bx102 (bl bz bx by' : Int) (ev : Operand -> Value) (o : Oper) (x : Operand) (ho : o.op = .box 102 x) (hx : ev x = .agg #[.int .i64 bl,.int .i64 bz,.int .i64 bx,.int .i64 by',.int .i64 0,.int .i64 0,.slice none 0 0]) (w w1 : World) (h1 : w.alloc (.cells #[.int .i64 bl,.int .i64 bz,.int .i64 bx,.int .i64 by',.int .i64 0,.int .i64 0,.slice none 0 0] 102) = w1) : (execOp ev o).run Tryz.prog w = .ok (.value (.pointer (some ⟨w.heap.size,0,none⟩))) w1 := by
  subst h1
  unfold execOp
  simp only [ho,hx]
  kernel_rfl
theorem OwnR.rest {α : Type} {R : Row α} {T : TypeId} {w : World} {g off cap : Nat} {a : α} {l : List α} (h : OwnR R T w (.slice (some ⟨g,off,none⟩) (l.length + 1) cap) (a :: l)) : OwnR R T w (.slice (some (if cap = 1 then ⟨g,off,none⟩ else ⟨g,off + R.wid,none⟩)) l.length (cap - 1)) l := by
  by_cases c : cap = 1
  . subst c
    obtain ⟨e,h'⟩ := OwnR.tail0 h
    subst e
    rw [if_pos rfl]
    exact h'
  . rw [if_neg c]
    exact OwnR.tail h
theorem sl93 (ev : Operand -> Value) (o : Oper) (x : Operand) (b off n cap : Nat) (ho : o.op = .slice 93 x (some (.const (.int .i64 1))) none none) (hx : ev x = .slice (some ⟨b,off,none⟩) (n + 1) cap) (h1 : ev (.const (.int .i64 1)) = .int .i64 1) (hc : n + 1 <= cap) (W : World) : (execOp ev o).run Tryz.prog W = .ok (.value (.slice (some (if cap = 1 then ⟨b,off,none⟩ else ⟨b,off + 4,none⟩)) n (cap - 1))) W := by
  unfold execOp
  simp only [ho,Option.map_some,Option.map_none,hx,h1]
  by_cases c : cap = 1
  . subst c
    obtain rfl : n = 0 := by omega
    simp [go_sem]
  . simp [go_sem,c]
    intro h
    omega
theorem heldNow (ver : Int) (PL : List Ft) (h : 0 <= ver) : heldB 0 ver PL ver = true := by unfold heldB; simp [h]
theorem take_none (fb : Nat) (X : FV) (w : World) (hf : FBlk w fb X) (ho : OwnR rKey 39 w X.lv []) :
    Calls Tryz.prog 47 #[.pointer (some ⟨fb,0,none⟩)] w fun e w' => e = .returned (.pointer none) /\ w = w' := by
  obtain ⟨oa,cap,e,_⟩ := ho.at
  have c8 : w.cell? ⟨fb,8,none⟩ = some (.slice oa 0 cap) := by rw [show (Value.slice oa 0 cap) = X.lv from e.symm]; exact hf.cells.2.2.2.2.2.2.2.2.1
  clear hf ho e
  go_enter Tryz.func47,Tryz.ntmps47
  go_wp2_with fail
  go_ret
  exact ⟨rfl,rfl⟩
set_option maxHeartbeats 12800000 in
theorem take_some (fb : Nat) (X : FV) (ver : Int) (sl pv : Value) (LS FL : List Ft) (PI : List Int) (ch : Nat) (bl bz bx by' : Int) (rest : List K4) (w : World) (hf : FBlk w fb X) (hch : X.ch = ch) (hc : 1 <= ch /\ ch <= 8) (hs : StP w X.sb 0 ver sl pv LS (ri PI)) (hl : LS.length <= 1000) (hp : PI.length < 6) (hver : 0 <= ver /\ ver <= 100) (hR : RelV ver LS FL) (hst : 0 <= X.st /\ X.st <= 3000000000000) (ho : OwnR rKey 39 w X.lv (⟨bl,bz,bx,by'⟩ :: rest)) :
    Calls Tryz.prog 47 #[.pointer (some ⟨fb,0,none⟩)] w fun e w' => e = .returned (.pointer (some ⟨w.heap.size,0,none⟩)) /\ w'.heap[w.heap.size]? = some (.cells #[.int .i64 bl,.int .i64 bz,.int .i64 bx,.int .i64 by',.int .i64 ver,.int .i64 (nsteps FL.length ch),.slice none 0 0] 102 (0,0)) /\ (∃ lv' pv',FBlk w' fb { X with lv := lv',st := X.st + 1 } /\ OwnR rKey 39 w' lv' rest /\ lv'.ownBlock = X.lv.ownBlock /\ StP w' X.sb 0 ver sl pv' LS (ri (PI ++ [ver])) /\ (pv'.ownBlock = pv.ownBlock \/ ∀ g,pv'.ownBlock = some g -> w.heap.size <= g)) /\ Frm (fun k => k = fb \/ k = X.sb \/ pv.ownBlock = some k) w w' := by
  have hlt0 := blk_lt hf
  have h0 := ho
  rcases ho with ⟨_,e⟩ | ⟨b,off,cap,cur,elv,hblk,hcap,hmax,hcs,htk⟩
  . simp at e
  . simp only [List.length_cons] at hcap elv
    have c8 : w.cell? ⟨fb,8,none⟩ = some (.slice (some ⟨b,off,none⟩) (rest.length + 1) cap) := by rw [<- elv]; exact hf.cells.2.2.2.2.2.2.2.2.1
    have hrg : w.rangeAt b off #[.int .i64 bl,.int .i64 bz,.int .i64 bx,.int .i64 by'].toList := by
      obtain ⟨oa,cp,e1,_,_,hc0⟩ := h0.at
      obtain ⟨b',off',e2,_,hc1⟩ := hc0 (by simp)
      rw [elv] at e1
      cases e1
      cases e2
      have := hc1 0 ⟨bl,bz,bx,by'⟩ rfl
      rw [Nat.zero_mul,Nat.add_zero] at this
      exact this
    have hsl := sl93 (b := b) (off := off) (n := rest.length) (cap := cap)
    have hrest := OwnR.rest (a := ⟨bl,bz,bx,by'⟩) (l := rest) (R := rKey) (show OwnR rKey 39 w (.slice (some ⟨b,off,none⟩) (rest.length + 1) cap) _ by rw [<- elv]; exact h0)
    have hsab : (if cap = 1 then (⟨b,off,none⟩ : Addr) else ⟨b,off + 4,none⟩).block = b := by split <;> rfl
    change OwnR rKey 39 w (.slice (some (if cap = 1 then ⟨b,off,none⟩ else ⟨b,off + 4,none⟩)) rest.length (cap - 1)) rest at hrest
    obtain ⟨sa,hsa⟩ : ∃ sa,(if cap = 1 then (⟨b,off,none⟩ : Addr) else ⟨b,off + 4,none⟩) = sa := ⟨_,rfl⟩
    rw [hsa] at hrest hsab hsl
    have HSL := hide hsl
    clear hsl hsa
    have hbA := (Below.refl w.heap.size w).alloc (Nat.le_refl _) (.cells #[.int .i64 bl,.int .i64 bz,.int .i64 bx,.int .i64 by',.int .i64 0,.int .i64 0,.slice none 0 0] 102)
    have hfA : FBlk (w.alloc (.cells #[.int .i64 bl,.int .i64 bz,.int .i64 bx,.int .i64 by',.int .i64 0,.int .i64 0,.slice none 0 0] 102)) fb X := blk_on hf hbA
    have hgA := heap_alloc_new w (.cells #[.int .i64 bl,.int .i64 bz,.int .i64 bx,.int .i64 by',.int .i64 0,.int .i64 0,.slice none 0 0] 102 (0,0))
    obtain ⟨wA,hwA⟩ : ∃ wA,w.alloc (.cells #[.int .i64 bl,.int .i64 bz,.int .i64 bx,.int .i64 by',.int .i64 0,.int .i64 0,.slice none 0 0] 102) = wA := ⟨_,rfl⟩
    rw [hwA] at hbA hfA hgA
    have c8A : wA.cell? ⟨fb,8,none⟩ = some (.slice (some ⟨b,off,none⟩) (rest.length + 1) cap) := (hbA.cell (p := ⟨fb,8,none⟩) hlt0).trans c8
    have fz8 := frzF hfA 8
    have hne : w.heap.size ≠ fb := by omega
    have hf2 := FBlk.set hfA 8 (.slice (some sa) rest.length (cap - 1)) (FV.set_lv X _)
    have hg2 := (Below.heap_setCell wA ⟨fb,8,none⟩ (.slice (some sa) rest.length (cap - 1)) w.heap.size hne).trans hgA
    have hF2 := (Frm.of_below (S := fun k => k = fb) hbA).setCell (p := ⟨fb,8,none⟩) (.slice (some sa) rest.length (cap - 1)) (fun _ => rfl)
    obtain ⟨w2,hw2⟩ : ∃ w2,wA.setCell ⟨fb,8,none⟩ (.slice (some sa) rest.length (cap - 1)) = w2 := ⟨_,rfl⟩
    rw [hw2] at hf2 hg2 hF2
    have fz5 := frzF hf2 5
    have c52 : w2.cell? ⟨fb,5,none⟩ = some (.int .i64 X.st) := (FBlk.cells hf2).2.2.2.2.2.1
    have hf3 := FBlk.set hf2 5 (.int .i64 (X.st + 1)) (FV.set_st _ _)
    have hg3 := (Below.heap_setCell w2 ⟨fb,5,none⟩ (.int .i64 (X.st + 1)) w.heap.size hne).trans hg2
    have hF3 := hF2.setCell (p := ⟨fb,5,none⟩) (.int .i64 (X.st + 1)) (fun _ => rfl)
    obtain ⟨w3,hw3⟩ : ∃ w3,w2.setCell ⟨fb,5,none⟩ (.int .i64 (X.st + 1)) = w3 := ⟨_,rfl⟩
    rw [hw3] at hf3 hg3 hF3
    have c63 : w3.cell? ⟨fb,6,none⟩ = some (.pointer (some ⟨X.sb,0,none⟩)) := (FBlk.cells hf3).2.2.2.2.2.2.1
    have fz43 := frz_blk hg3 4
    have c43 : w3.cell? ⟨w.heap.size,4,none⟩ = some (.int .i64 0) := (blk_cells hg3 4).trans rfl
    have hg4 : (w3.setCell ⟨w.heap.size,4,none⟩ (.int .i64 ver)).heap[w.heap.size]? = some (.cells #[.int .i64 bl,.int .i64 bz,.int .i64 bx,.int .i64 by',.int .i64 ver,.int .i64 0,.slice none 0 0] 102 (0,0)) := blk_set (i := 4) hg3 (.int .i64 ver)
    have hf4 : FBlk (w3.setCell ⟨w.heap.size,4,none⟩ (.int .i64 ver)) fb { X with lv := (.slice (some sa) rest.length (cap - 1)),st := X.st + 1 } := (Below.heap_setCell _ _ _ _ (Ne.symm hne)).trans hf3
    have hF4 := hF3.setCell (p := ⟨w.heap.size,4,none⟩) (.int .i64 ver) (fun h => absurd h (by show ¬ w.heap.size < w.heap.size; omega))
    obtain ⟨w4,hw4⟩ : ∃ w4,w3.setCell ⟨w.heap.size,4,none⟩ (.int .i64 ver) = w4 := ⟨_,rfl⟩
    rw [hw4] at hf4 hg4 hF4
    have hs3 := hs.fb hf hF3
    have hs4 := hs.fb hf hF4
    have ho4 : OwnR rKey 39 w4 (.slice (some sa) rest.length (cap - 1)) rest := by
      have hbne := own_ne h0 hf (by decide) b (by rw [elv]; rfl)
      exact hrest.frm hF4 (fun k hk => by simp [Value.ownBlock] at hk; omega)
    have VE := Version_any X.sb 0 ver sl pv LS (ri PI) _ hs3
    have hwst : IntKind.i64.wrap (X.st + 1) = X.st + 1 := i64_of _ (by omega)
    have HCAP := hide hcap
    have HF4 := hide hf4
    have HG4 := hide hg4
    have HS4 := hide hs4
    have HO4 := hide ho4
    have HFF4 := hide hF4
    have HR := hide hR
    have HELV := hide elv
    have HCH := hide hch
    have HWA := hide hwA
    have HW2 := hide hw2
    have HW3 := hide hw3
    have HW4 := hide hw4
    clear hf hs hR ho4 hs4 hs3 hf4 hg4 hF4 hF3 h0 hblk hcs htk hfA hgA elv hbA hf2 hf3 hch hcap hmax hrest hwA hw2 hw3 hw4 hg2 hg3 hF2 hne
    go_enter Tryz.func47,Tryz.ntmps47
    go_wp2_with (first | refine ldG 39 #[.int .i64 bl,.int .i64 bz,.int .i64 bx,.int .i64 by'] Tryz.underlying39 rfl (sz39 _ _ _ _) b off hrg rfl _ rfl rfl ?_ | refine wlV _ _ (bt102 bl bz bx by' _ _ _ rfl rfl _) rfl ?_ | refine wlV _ _ (bx102 bl bz bx by' _ _ _ rfl rfl _ _ (unhide HWA)) rfl ?_ | refine wlSk _ (stS1 _ _ _ _ 93 rfl (fun _ => by simp [go_sem]) fb 8 (some sa) rest.length (cap - 1) rfl rfl _ _ c8A fz8 (unhide HW2)) rfl ?_ | refine wlV _ _ (unhide HSL _ _ _ rfl rfl rfl (unhide HCAP) _) rfl ?_ | refine wlSk _ (stI _ _ _ _ rfl fb 5 (X.st + 1) rfl rfl _ _ c52 fz5 (unhide HW3)) rfl ?_)
    refine VE.mono ?_
    rintro e w9 ⟨rfl,rfl⟩
    clear VE
    go_wp2_with (refine wlSk _ (stI _ _ _ _ rfl w.heap.size 4 ver rfl rfl _ _ c43 fz43 (unhide HW4)) rfl ?_)
    refine wp_region_held (S := fun w' => FBlk w' fb ({ X with lv := (.slice (some sa) rest.length (cap - 1)),st := X.st + 1 } : FV) /\ w'.heap[w.heap.size]? = some (.cells #[.int .i64 bl,.int .i64 bz,.int .i64 bx,.int .i64 by',.int .i64 ver,.int .i64 0,.slice none 0 0] 102 (0,0))) (by kernel_rfl) ?_
    change wpAnyH _ _ _ _ _ _ _ _ (World.drew _)
    have hS : FBlk (World.drew w4) fb ({ X with lv := (.slice (some sa) rest.length (cap - 1)),st := X.st + 1 } : FV) /\ (World.drew w4).heap[w.heap.size]? = some (.cells #[.int .i64 bl,.int .i64 bz,.int .i64 bx,.int .i64 by',.int .i64 ver,.int .i64 0,.slice none 0 0] 102 (0,0)) := ⟨unhide HF4,unhide HG4⟩
    have hs5 : StP (World.drew w4) X.sb 0 ver sl pv LS (ri PI) := (unhide HS4).on (Below.drew (Below.refl _ _))
    have ho5 : OwnR rKey 39 (World.drew w4) (.slice (some sa) rest.length (cap - 1)) rest := unhide HO4
    have hF5 : Frm (fun k => k = fb) w (World.drew w4) := ⟨(unhide HFF4).os,(unhide HFF4).tape,(unhide HFF4).output,(unhide HFF4).size,(unhide HFF4).block⟩
    generalize World.drew w4 = w5 at hS hs5 ho5 hF5 ⊢
    have PN : Calls Tryz.prog 73 #[.pointer (some ⟨X.sb,0,none⟩),.int .i64 ver] w5 fun e w' => e = .returned (.int .i64 0) /\ (Frm (fun k => k = X.sb \/ pv.ownBlock = some k) w5 w' /\ ∃ pv',StP w' X.sb 0 ver sl pv' LS (ri (PI ++ [ver])) /\ (pv'.ownBlock = pv.ownBlock \/ ∀ g,pv'.ownBlock = some g -> w5.heap.size <= g)) := by
      refine (Pin_any X.sb 0 ver sl pv LS PI ver w5 hs5 (fun g hg e => by
        obtain ⟨c1,d1⟩ := hs5.pins.ty hg
        obtain ⟨c2,d2⟩ := hs5.own.ty e
        exact blk_ne d1 d2 (by decide) rfl) (by omega) ⟨by omega,by omega⟩ hver).mono ?_
      rintro e w' (⟨q,_⟩ | ⟨_,q,_⟩ | ⟨_,_,rfl,q1,q2⟩)
      . rw [heldNow ver _ hver.1] at q; cases q
      . omega
      . exact ⟨rfl,⟨q1.os,q1.tape,q1.output,q1.size,q1.block⟩,q2⟩
    have hF6 : ∀ W,FBlk W fb ({ X with lv := (.slice (some sa) rest.length (cap - 1)),st := X.st + 1 } : FV) -> W.cell? ⟨fb,6,none⟩ = some (.pointer (some ⟨X.sb,0,none⟩)) := fun W h => (FBlk.cells h).2.2.2.2.2.2.1
    have hG4' : ∀ W : World,W.heap[w.heap.size]? = some (.cells #[.int .i64 bl,.int .i64 bz,.int .i64 bx,.int .i64 by',.int .i64 ver,.int .i64 0,.slice none 0 0] 102 (0,0)) -> W.cell? ⟨w.heap.size,4,none⟩ = some (.int .i64 ver) := fun W h => (blk_cells h 4).trans rfl
    refine t_tk 0 rfl (.pointer (some ⟨fb,0,none⟩)) (by kernel_rfl) (fun _ _ _ h => h) rfl (fun w' hw' => by simp [go_sem]) hS ?_
    simp only [Act.put,qA,qB,qC]
    refine t_tk 1 rfl (.pointer (some ⟨fb,0,none⟩)) (by kernel_rfl) (fun _ _ _ h => h) rfl (fun w' hw' => by simp [go_sem]) hS ?_
    simp only [Act.put,qA,qB,qC]
    refine t_tk 2 rfl (.pointer (some ⟨fb,6,none⟩)) (by kernel_rfl) (fun _ _ _ h => h) rfl (fun w' hw' => by simp [go_sem]) hS ?_
    simp only [Act.put,qA,qB,qC]
    refine t_tk 3 rfl (.pointer (some ⟨X.sb,0,none⟩)) (by kernel_rfl) (fun _ _ _ h => h) rfl (fun w' hw' => by simp [go_sem,hF6 w' hw'.1]) hS ?_
    simp only [Act.put,qA,qB,qC]
    refine t_tk 4 rfl (.pointer (some ⟨w.heap.size,0,none⟩)) (by kernel_rfl) (fun _ _ _ h => h) rfl (fun w' hw' => by simp [go_sem]) hS ?_
    simp only [Act.put,qA,qB,qC]
    refine t_tk 5 rfl (.pointer (some ⟨w.heap.size,0,none⟩)) (by kernel_rfl) (fun _ _ _ h => h) rfl (fun w' hw' => by simp [go_sem]) hS ?_
    simp only [Act.put,qA,qB,qC]
    refine t_tk 6 rfl (.pointer (some ⟨w.heap.size,4,none⟩)) (by kernel_rfl) (fun _ _ _ h => h) rfl (fun w' hw' => by simp [go_sem]) hS ?_
    simp only [Act.put,qA,qB,qC]
    refine t_tk 7 rfl (.int .i64 ver) (by kernel_rfl) (fun _ _ _ h => h) rfl (fun w' hw' => by simp [go_sem,hG4' w' hw'.2]) hS ?_
    simp only [Act.put,qA,qB,qC]
    refine wpAnyH_all (rs := [8]) (by kernel_rfl) (by simp) ?_
    intro i hi
    simp only [List.mem_singleton] at hi
    subst hi
    refine t_callG 8 rfl rfl 73 #[.pointer (some ⟨X.sb,0,none⟩),.int .i64 ver] (by simp [go_sem]) (.int .i64 0) _ PN ?_
    rintro w6 ⟨hF6',pv',hs6,hpv⟩
    have n1 : ¬ (fb = X.sb \/ pv.ownBlock = some fb) := by
      rintro (q | q)
      . exact blk_ne hS.1 hs5.blk (by decide) q
      . obtain ⟨c1,d1⟩ := hs5.pins.ty q; exact blk_ne d1 hS.1 (by decide) rfl
    have n2 : ¬ (w.heap.size = X.sb \/ pv.ownBlock = some w.heap.size) := by
      rintro (q | q)
      . exact blk_ne hS.2 hs5.blk (by decide) q
      . obtain ⟨c1,d1⟩ := hs5.pins.ty q; exact blk_ne d1 hS.2 (by decide) rfl
    have hf6 : FBlk w6 fb ({ X with lv := (.slice (some sa) rest.length (cap - 1)),st := X.st + 1 } : FV) := blk_frm hS.1 hF6' n1
    have hg6 := blk_frm hS.2 hF6' n2
    have ho6 : OwnR rKey 39 w6 (.slice (some sa) rest.length (cap - 1)) rest := ho5.frm hF6' (fun k hk => by
      rintro (q | q)
      . subst q; exact own_ne ho5 hs5.blk (by decide) _ hk rfl
      . obtain ⟨c1,d1⟩ := hs5.pins.ty q; exact own_ne ho5 d1 (by decide) _ hk rfl)
    have hFa : Frm (fun k => k = fb \/ k = X.sb \/ pv.ownBlock = some k) w w6 := (hF5.mono (fun k _ q => Or.inl q)).then hF6' (fun k _ q => Or.inr q)
    have hsz5 := hF5.size
    refine ⟨⟨hf6,hg6⟩,?_⟩
    simp only [Act.put,qA,qB,qC]
    refine wpAnyH_done (by kernel_rfl) ?_ _
    have ST := steps_any fb ({ X with lv := (.slice (some sa) rest.length (cap - 1)),st := X.st + 1 } : FV) ver ver sl pv' LS (ri (PI ++ [ver])) FL ch w6 hf6 (unhide HCH) hc hs6 hl (by rw [ri_len]; simp; omega) hver (heldNow ver _ hver.1) (unhide HR)
    have c46 := hG4' w6 hg6
    have HF6 := hide hf6
    have HG6 := hide hg6
    have HO6 := hide ho6
    have HS6 := hide hs6
    have HFa := hide hFa
    have HPV := hide hpv
    clear hS hs5 ho5 hF5 PN hF6 hG4' hF6' hs6 hpv n1 n2 hf6 hg6 ho6 hFa
    go_wp2_with fail
    refine ST.mono ?_
    rintro e w7 ⟨rfl,hb7⟩
    have hf7 := blk_on (unhide HF6) hb7
    have hg7 := blk_on (unhide HG6) hb7
    have fz7 := frz_blk hg7 5
    have c57 := (blk_cells hg7 5).trans (show _ = some (Value.int .i64 0) from rfl)
    have hg8 : (w7.setCell ⟨w.heap.size,5,none⟩ (.int .i64 (nsteps FL.length ch))).heap[w.heap.size]? = some (.cells #[.int .i64 bl,.int .i64 bz,.int .i64 bx,.int .i64 by',.int .i64 ver,.int .i64 (nsteps FL.length ch),.slice none 0 0] 102 (0,0)) := blk_set (i := 5) hg7 (.int .i64 (nsteps FL.length ch))
    have hne7 : fb ≠ w.heap.size := by omega
    have hf8 : FBlk (w7.setCell ⟨w.heap.size,5,none⟩ (.int .i64 (nsteps FL.length ch))) fb ({ X with lv := (.slice (some sa) rest.length (cap - 1)),st := X.st + 1 } : FV) := (Below.heap_setCell _ _ _ _ hne7).trans hf7
    have hF78 : Frm (fun k => k = w.heap.size) w7 (w7.setCell ⟨w.heap.size,5,none⟩ (.int .i64 (nsteps FL.length ch))) := (Frm.rfl' _ _).setCell (p := ⟨w.heap.size,5,none⟩) _ (fun _ => rfl)
    have ho7 := (unhide HO6).on hb7
    have ho8 := ho7.frm hF78 (fun k hk => own_ne ho7 hg7 (by decide) k hk)
    have hs7 := (unhide HS6).on hb7
    have hs8 : StP (w7.setCell ⟨w.heap.size,5,none⟩ (.int .i64 (nsteps FL.length ch))) X.sb 0 ver sl pv' LS (ri (PI ++ [ver])) := hs7.frm hF78 (blk_ne hs7.blk hg7 (by decide)) (fun k hk => by obtain ⟨c1,d1⟩ := hs7.own.ty hk; exact blk_ne d1 hg7 (by decide)) (fun k hk => by obtain ⟨c1,d1⟩ := hs7.pins.ty hk; exact blk_ne d1 hg7 (by decide))
    have hF8 := ((unhide HFa).then (Frm.of_below (S := fun _ => False) hb7) (fun _ _ q => q.elim)).then hF78 (fun k hk q => by subst q; exact absurd hk (Nat.lt_irrefl _))
    have HH : Hid ((w7.setCell ⟨w.heap.size,5,none⟩ (.int .i64 (nsteps FL.length ch))).heap[w.heap.size]? = some (.cells #[.int .i64 bl,.int .i64 bz,.int .i64 bx,.int .i64 by',.int .i64 ver,.int .i64 (nsteps FL.length ch),.slice none 0 0] 102 (0,0)) /\ (∃ lv' pv',FBlk (w7.setCell ⟨w.heap.size,5,none⟩ (.int .i64 (nsteps FL.length ch))) fb { X with lv := lv',st := X.st + 1 } /\ OwnR rKey 39 (w7.setCell ⟨w.heap.size,5,none⟩ (.int .i64 (nsteps FL.length ch))) lv' rest /\ lv'.ownBlock = X.lv.ownBlock /\ StP (w7.setCell ⟨w.heap.size,5,none⟩ (.int .i64 (nsteps FL.length ch))) X.sb 0 ver sl pv' LS (ri (PI ++ [ver])) /\ (pv'.ownBlock = pv.ownBlock \/ ∀ g,pv'.ownBlock = some g -> w.heap.size <= g)) /\ Frm (fun k => k = fb \/ k = X.sb \/ pv.ownBlock = some k) w (w7.setCell ⟨w.heap.size,5,none⟩ (.int .i64 (nsteps FL.length ch)))) := by
      refine ⟨hg8,⟨(.slice (some sa) rest.length (cap - 1)),pv',hf8,ho8,by rw [unhide HELV]; show some sa.block = some b; rw [hsab],hs8,?_⟩,hF8⟩
      rcases unhide HPV with q | q
      . exact Or.inl q
      . exact Or.inr fun k hk => by have := q k hk; omega
    clear hb7 hf7 hg7 hg8 hf8 hF78 ho7 ho8 hs7 hs8 hF8 ST
    go_wp2_with (refine wlSk _ (stI _ _ _ _ rfl w.heap.size 5 (nsteps FL.length ch) rfl rfl _ _ c57 fz7 rfl) rfl ?_)
    go_ret
    exact ⟨rfl,unhide HH⟩
theorem rngB {W : World} {g : Nat} {bl bz bx by' reads left : Int} {rv : Value} (h : W.heap[g]? = some (.cells #[.int .i64 bl,.int .i64 bz,.int .i64 bx,.int .i64 by',.int .i64 reads,.int .i64 left,rv] 102 (0,0))) : W.rangeAt g 0 #[.int .i64 bl,.int .i64 bz,.int .i64 bx,.int .i64 by'].toList := by
  intro j v hv
  rw [blk_cells h,Nat.zero_add]
  rcases j with _ | _ | _ | _ | j
  . exact hv
  . exact hv
  . exact hv
  . exact hv
  . simp at hv
structure FinR (fb g : Nat) (X : FV) (room : Nat) (ver : Int) (sl : Value) (LS R : List Ft) (PI : List Int) (ws : List Req) (ls : List K4) (cs : List Tile) (b : K4) (reads : Int) (w : World) (rv : Value) (w' : World) : Prop where
  reps : OwnR rRep 35 w' rv (fineRr ver LS (b.keys.map (tileR R LS reads)) reads ws)
  repf : ∀ k,rv.ownBlock = some k -> w.heap.size <= k
  rest : ∃ wv' lv' tv' pv',FBlk w' fb { X with wv := wv',lv := lv',tv := tv' } /\ OwnR rReq 138 w' wv' (fineLl ver LS (b.keys.map (tileR R LS reads)) reads ws) /\ OwnR rTile 136 w' tv' (layUl ver LS room reads cs (b.keys.map (tileR R LS reads))) /\
    OwnR rKey 39 w' lv' (if 0 < countFor (fineLl ver LS (b.keys.map (tileR R LS reads)) reads ws) b then ls ++ [b] else ls) /\ StP w' X.sb 0 ver sl pv' LS (ri (PI.erase reads)) /\
    (∀ k,wv'.ownBlock = some k -> w.heap.size <= k) /\ (∀ k,tv'.ownBlock = some k -> X.tv.ownBlock = some k \/ w.heap.size <= k) /\ (∀ k,lv'.ownBlock = some k -> X.lv.ownBlock = some k \/ w.heap.size <= k) /\ (∀ k,pv'.ownBlock = some k -> w.heap.size <= k)
  frm : Frm (fun k => k = fb \/ k = X.sb \/ X.lv.ownBlock = some k) w w'
set_option maxHeartbeats 12800000 in
theorem finish_any (fb : Nat) (X : FV) (room : Nat) (ver : Int) (sl pv : Value) (LS R : List Ft) (PI : List Int) (ws : List Req) (ls : List K4) (cs : List Tile) (g : Nat) (bl bz bx by' reads left : Int) (rv : Value) (w : World) (hf : FBlk w fb X) (hrm : X.rm = room) (hro : room ≤ 1000000) (hs : StP w X.sb 0 ver sl pv LS (ri PI)) (hl : LS.length ≤ 1000) (hk : ∀ k ∈ (⟨bl, bz, bx, by'⟩ : K4).keys, KOk k) (hx : 0 ≤ bx ∧ bx ≤ 4194304) (hy : 0 ≤ by' ∧ by' ≤ 4194304) (hv : 0 ≤ reads ∧ reads ≤ ver) (hver : ver ≤ 100) (hg : Glb w)
    (hp : PI.length ≤ 6) (hin : reads ∈ PI) (hu : w.heap[g]? = some (.cells #[.int .i64 bl, .int .i64 bz, .int .i64 bx, .int .i64 by', .int .i64 reads, .int .i64 left, rv] 102 (0, 0))) (hoR : OwnR rF 86 w rv R) (hR40 : R.length ≤ 40) (hRt : ∀ i, i < R.length → Rt (gf R i)) (how : OwnR rReq 138 w X.wv ws) (hkw : ∀ r ∈ ws, KOk r.k) (hol : OwnR rKey 39 w X.lv ls) (hot : OwnR rTile 136 w X.tv cs) (hlw : ws.length ≤ 100000) (hll : ls.length ≤ 100000) (hlc : cs.length ≤ 1000) (hbc : bytesT cs ≤ 1000000) :
    Calls Tryz.prog 49 #[.pointer (some ⟨fb, 0, none⟩), .pointer (some ⟨g, 0, none⟩)] w fun e w' => ∃ v, e = .returned v ∧ FinR fb g X room ver sl LS R PI ws ls cs ⟨bl, bz, bx, by'⟩ reads w v w' := by
  have PT := paint_any fb X ver sl pv LS (ri PI) R g bl bz bx by' reads left rv w hf hs hl hk hx hy hv hver hg hu hoR.at.fs hR40 hRt
  have hkt : ∀ t ∈ (⟨bl, bz, bx, by'⟩ : K4).keys.map (tileR R LS reads), KOk t.k ∧ t.body.size ≤ 1000000 := by
    intro t ht
    obtain ⟨k, hk1, rfl⟩ := List.mem_map.1 ht
    have := bodyB_size hRt k
    exact ⟨hk k hk1, by show (bodyB R k).size ≤ _; omega⟩
  have hlk : ((⟨bl, bz, bx, by'⟩ : K4).keys.map (tileR R LS reads)).length ≤ 1000 := by have := keys_len ⟨bl, bz, bx, by'⟩; rw [List.length_map]; omega
  have HF := hide hf
  have HS := hide hs
  have HU := hide hu
  have HOW := hide how
  have HOL := hide hol
  have HOT := hide hot
  have HKW := hide hkw
  have HKT := hide hkt
  have HRM := hide hrm
  have hltf := blk_lt hf
  have hltg := blk_lt hu
  clear hf hs hu how hol hot hkw hkt hg hoR hk hrm
  generalize hTS : (⟨bl, bz, bx, by'⟩ : K4).keys.map (tileR R LS reads) = ts at PT HKT hlk
  have HTS := hide hTS
  clear hTS
  go_enter Tryz.func49, Tryz.ntmps49
  go_wp2_with fail
  refine PT.mono ?_
  rintro e w1 ⟨⟨tsv, rfl, hots, hfts⟩, hb1⟩
  have hf1 := blk_on (unhide HF) hb1
  have hu1 := blk_on (unhide HU) hb1
  have hs1 := (unhide HS).on hb1
  have HB1 := hide hb1
  have HOTS := hide hots
  have HFTS := hide hfts
  obtain ⟨ta, tn, tc, rfl⟩ := hots.sl
  clear PT hb1 hots hfts
  go_wp2_with fail
  refine wp_region_held (S := fun w' => FBlk w' fb X ∧ w'.heap[g]? = some (.cells #[.int .i64 bl, .int .i64 bz, .int .i64 bx, .int .i64 by', .int .i64 reads, .int .i64 left, rv] 102 (0, 0))) (by kernel_rfl) ?_
  change wpAnyH _ _ _ _ _ _ _ _ (World.drew _)
  have hS : FBlk (World.drew w1) fb X ∧ (World.drew w1).heap[g]? = some (.cells #[.int .i64 bl, .int .i64 bz, .int .i64 bx, .int .i64 by', .int .i64 reads, .int .i64 left, rv] 102 (0, 0)) := ⟨hf1, hu1⟩
  have hbD : Below w1.heap.size w1 (World.drew w1) := Below.drew (Below.refl _ _)
  have hs2 := hs1.on hbD
  have hB2 := (unhide HB1).trans (hbD.mono (unhide HB1).size)
  have hots2 := (unhide HOTS).on hbD
  generalize World.drew w1 = w2 at hS hs2 hB2 hots2 hbD ⊢
  have UN : Calls Tryz.prog 78 #[.pointer (some ⟨X.sb, 0, none⟩), .int .i64 reads] w2 fun e w' => e = .returned (.int .i64 0) ∧ (Frm (fun k => k = X.sb) w2 w' ∧ ∃ pv', StP w' X.sb 0 ver sl pv' LS (ri (PI.erase reads)) ∧ ∀ q, pv'.ownBlock = some q → w2.heap.size ≤ q) := by
    refine (Unpin_any X.sb 0 ver sl pv LS PI reads w2 hs2 hp).mono ?_
    rintro e w' (⟨q, _⟩ | ⟨_, rfl, q1, q2⟩)
    · exact absurd hin q
    · exact ⟨rfl, ⟨q1.os, q1.tape, q1.output, q1.size, q1.block⟩, q2⟩
  have hF6 : ∀ W, FBlk W fb X → W.cell? ⟨fb, 6, none⟩ = some (.pointer (some ⟨X.sb, 0, none⟩)) := fun W h => (FBlk.cells h).2.2.2.2.2.2.1
  have hG4 : ∀ W : World, W.heap[g]? = some (.cells #[.int .i64 bl, .int .i64 bz, .int .i64 bx, .int .i64 by', .int .i64 reads, .int .i64 left, rv] 102 (0, 0)) → W.cell? ⟨g, 4, none⟩ = some (.int .i64 reads) := fun W h => (blk_cells h 4).trans rfl
  refine t_tk 0 rfl (.pointer (some ⟨fb, 0, none⟩)) (by kernel_rfl) (fun _ _ _ h => h) rfl (fun w' hw' => by simp [go_sem]) hS ?_
  simp only [Act.put, qA, qB, qC]
  refine t_tk 1 rfl (.pointer (some ⟨fb, 0, none⟩)) (by kernel_rfl) (fun _ _ _ h => h) rfl (fun w' hw' => by simp [go_sem]) hS ?_
  simp only [Act.put, qA, qB, qC]
  refine t_tk 2 rfl (.pointer (some ⟨fb, 6, none⟩)) (by kernel_rfl) (fun _ _ _ h => h) rfl (fun w' hw' => by simp [go_sem]) hS ?_
  simp only [Act.put, qA, qB, qC]
  refine t_tk 3 rfl (.pointer (some ⟨X.sb, 0, none⟩)) (by kernel_rfl) (fun _ _ _ h => h) rfl (fun w' hw' => by simp [go_sem, hF6 w' hw'.1]) hS ?_
  simp only [Act.put, qA, qB, qC]
  refine t_tk 4 rfl (.pointer (some ⟨g, 0, none⟩)) (by kernel_rfl) (fun _ _ _ h => h) rfl (fun w' hw' => by simp [go_sem]) hS ?_
  simp only [Act.put, qA, qB, qC]
  refine t_tk 5 rfl (.pointer (some ⟨g, 0, none⟩)) (by kernel_rfl) (fun _ _ _ h => h) rfl (fun w' hw' => by simp [go_sem]) hS ?_
  simp only [Act.put, qA, qB, qC]
  refine t_tk 6 rfl (.pointer (some ⟨g, 4, none⟩)) (by kernel_rfl) (fun _ _ _ h => h) rfl (fun w' hw' => by simp [go_sem]) hS ?_
  simp only [Act.put, qA, qB, qC]
  refine t_tk 7 rfl (.int .i64 reads) (by kernel_rfl) (fun _ _ _ h => h) rfl (fun w' hw' => by simp [go_sem, hG4 w' hw'.2]) hS ?_
  simp only [Act.put, qA, qB, qC]
  refine wpAnyH_all (rs := [8]) (by kernel_rfl) (by simp) ?_
  intro i hi
  simp only [List.mem_singleton] at hi
  subst hi
  refine t_callG 8 rfl rfl 78 #[.pointer (some ⟨X.sb, 0, none⟩), .int .i64 reads] (by simp [go_sem]) (.int .i64 0) _ UN ?_
  rintro w3 ⟨hF3, pv3, hs3, hpv3⟩
  have hf3 : FBlk w3 fb X := blk_frm hS.1 hF3 (blk_ne hS.1 hs2.blk (by decide))
  have hu3 := blk_frm hS.2 hF3 (blk_ne hS.2 hs2.blk (by decide))
  have hots3 := hots2.frm hF3 (fun k hk => own_ne hots2 hs2.blk (by decide) k hk)
  have how2 := (unhide HOW).on hB2
  have hol2 := (unhide HOL).on hB2
  have hot2 := (unhide HOT).on hB2
  have how3 := how2.frm hF3 (fun k hk => own_ne how2 hs2.blk (by decide) k hk)
  have hol3 := hol2.frm hF3 (fun k hk => own_ne hol2 hs2.blk (by decide) k hk)
  have hot3 := hot2.frm hF3 (fun k hk => own_ne hot2 hs2.blk (by decide) k hk)
  have hFw3 : Frm (fun k => k = fb ∨ k = X.sb ∨ X.lv.ownBlock = some k) w w3 := (Frm.of_below hB2).then hF3 (fun k _ q => Or.inr (Or.inl q))
  have hsz3 : w.heap.size ≤ w3.heap.size := hFw3.size
  have hpv3' : ∀ q, pv3.ownBlock = some q → w.heap.size ≤ q := fun q hq => by have := hpv3 q hq; have := hB2.size; omega
  refine ⟨⟨hf3, hu3⟩, ?_⟩
  simp only [Act.put, qA, qB, qC]
  refine wpAnyH_done (by kernel_rfl) ?_ _
  have AF := answerFine_any fb X ver sl pv3 LS (ri (PI.erase reads)) ws (.slice ta tn tc) ts reads w3 hf3 hs3 hl (by omega) how3 (unhide HKW) hots3.at (by omega)
  have c43 := hG4 w3 hu3
  have H3 := hide (show FBlk w3 fb X ∧ w3.heap[g]? = some (.cells #[.int .i64 bl, .int .i64 bz, .int .i64 bx, .int .i64 by', .int .i64 reads, .int .i64 left, rv] 102 (0, 0)) ∧ OwnR rTile 136 w3 (.slice ta tn tc) ts ∧ OwnR rKey 39 w3 X.lv ls ∧ OwnR rTile 136 w3 X.tv cs ∧ StP w3 X.sb 0 ver sl pv3 LS (ri (PI.erase reads)) ∧ Frm (fun k => k = fb ∨ k = X.sb ∨ X.lv.ownBlock = some k) w w3 from ⟨hf3, hu3, hots3, hol3, hot3, hs3, hFw3⟩)
  have HPV3 := hide hpv3'
  have HG4 := hide hG4
  clear hf1 hu1 hs1 hS hs2 hB2 hots2 hbD UN hF6 hF3 hs3 hpv3 hf3 hu3 hots3 how2 hol2 hot2 how3 hol3 hot3 hFw3 hpv3' hG4
  go_wp2_with fail
  refine AF.mono ?_
  rintro e w4 ⟨⟨rpv, rfl, hrp, hrpf⟩, ⟨wv4, hf4, how4, hwvf⟩, hF4⟩
  obtain ⟨a1, a2, a3, a4, a5, a6, a7⟩ := unhide H3
  have hu4 := blk_frm a2 hF4 (blk_ne a2 a1 (by decide))
  have hots4 := a3.frm hF4 (fun k hk => own_ne a3 a1 (by decide) k hk)
  have hol4 := a4.frm hF4 (fun k hk => own_ne a4 a1 (by decide) k hk)
  have hot4 := a5.frm hF4 (fun k hk => own_ne a5 a1 (by decide) k hk)
  have hs4 := a6.fb a1 hF4
  have hFw4 := a7.then hF4 (fun k _ q => Or.inl q)
  have LU := layUnchanged_any fb { X with wv := wv4 } room ver reads sl pv3 LS (ri (PI.erase reads)) cs ts (.slice ta tn tc) w4 hf4 (unhide HRM) hs4 hl (by omega) hot4 hots4 (unhide HKT) hlc hlk hbc hro
  have c44 := unhide HG4 w4 hu4
  obtain ⟨ra, rn, rc, rfl⟩ := hrp.sl
  have H4 := hide (show FBlk w4 fb { X with wv := wv4 } ∧ w4.heap[g]? = some (.cells #[.int .i64 bl, .int .i64 bz, .int .i64 bx, .int .i64 by', .int .i64 reads, .int .i64 left, rv] 102 (0, 0)) ∧ OwnR rRep 35 w4 (.slice ra rn rc) (fineRr ver LS ts reads ws) ∧ OwnR rKey 39 w4 X.lv ls ∧ OwnR rReq 138 w4 wv4 (fineLl ver LS ts reads ws) ∧ StP w4 X.sb 0 ver sl pv3 LS (ri (PI.erase reads)) ∧ Frm (fun k => k = fb ∨ k = X.sb ∨ X.lv.ownBlock = some k) w w4 from ⟨hf4, hu4, hrp, hol4, how4, hs4, hFw4⟩)
  have HRPF := hide (show ∀ k, Value.ownBlock (.slice ra rn rc) = some k → w.heap.size ≤ k from fun k hk => by have := hrpf k hk; omega)
  have HWVF := hide (show ∀ k, wv4.ownBlock = some k → w.heap.size ≤ k from fun k hk => by have := hwvf k hk; omega)
  have hsz4 := hF4.size
  clear AF c43 H3 a1 a2 a3 a4 a5 a6 a7 hrp hrpf hf4 how4 hwvf hF4 hu4 hots4 hol4 hot4 hs4 hFw4
  go_wp2_with fail
  refine LU.mono ?_
  rintro e w5 ⟨rfl, ⟨tv5, hf5, hot5, htvf⟩, hF5⟩
  obtain ⟨a1, a2, a3, a4, a5, a6, a7⟩ := unhide H4
  have hu5 := blk_frm a2 hF5 (blk_ne a2 a1 (by decide))
  have hrp5 := a3.frm hF5 (fun k hk => own_ne a3 a1 (by decide) k hk)
  have hol5 := a4.frm hF5 (fun k hk => own_ne a4 a1 (by decide) k hk)
  have how5 := a5.frm hF5 (fun k hk => own_ne a5 a1 (by decide) k hk)
  have hs5 := a6.fb a1 hF5
  have hFw5 := a7.then hF5 (fun k _ q => Or.inl q)
  have hsm : ∀ r ∈ fineLl ver LS ts reads ws, Small r.k := fun r hr => (unhide HKW r (List.mem_filter.1 hr).1).small
  have CF := countFor_any fb { X with wv := wv4, tv := tv5 } _ bl bz bx by' w5 hf5 how5.at hsm (by have := fineL_len (ver := ver) (LS := LS) (ts := ts) (reads := reads) (ws := ws); omega)
  have hrgb := rngB hu5
  have H5 := hide (show FBlk w5 fb { X with wv := wv4, tv := tv5 } ∧ w5.heap[g]? = some (.cells #[.int .i64 bl, .int .i64 bz, .int .i64 bx, .int .i64 by', .int .i64 reads, .int .i64 left, rv] 102 (0, 0)) ∧ OwnR rRep 35 w5 (.slice ra rn rc) (fineRr ver LS ts reads ws) ∧ OwnR rKey 39 w5 X.lv ls ∧ OwnR rReq 138 w5 wv4 (fineLl ver LS ts reads ws) ∧ StP w5 X.sb 0 ver sl pv3 LS (ri (PI.erase reads)) ∧ OwnR rTile 136 w5 tv5 (layUl ver LS room reads cs ts) ∧ Frm (fun k => k = fb ∨ k = X.sb ∨ X.lv.ownBlock = some k) w w5 from ⟨hf5, hu5, hrp5, hol5, how5, hs5, hot5, hFw5⟩)
  have HTVF := hide (show ∀ k, tv5.ownBlock = some k → X.tv.ownBlock = some k ∨ w.heap.size ≤ k from fun k hk => by rcases htvf k hk with q | q
                                                                                                                    · exact Or.inl q
                                                                                                                    · right; omega)
  clear LU c44 H4 a1 a2 a3 a4 a5 a6 a7 hf5 hot5 htvf hF5 hu5 hrp5 hol5 how5 hs5 hFw5 hsm
  go_wp2_with (refine ldG 39 #[.int .i64 bl, .int .i64 bz, .int .i64 bx, .int .i64 by'] Tryz.underlying39 rfl (sz39 _ _ _ _) g 0 hrgb rfl _ rfl rfl ?_)
  refine CF.mono ?_
  rintro e w6 ⟨rfl, hb6⟩
  obtain ⟨a1, a2, a3, a4, a5, a6, a8, a7⟩ := unhide H5
  have hf6 := blk_on a1 hb6
  have hu6 := blk_on a2 hb6
  have hrp6 := a3.on hb6
  have hol6 := a4.on hb6
  have how6 := a5.on hb6
  have hs6 := a6.on hb6
  have hot6 := a8.on hb6
  have hFw6 := a7.then (Frm.of_below (S := fun _ => False) hb6) (fun _ _ q => q.elim)
  clear CF hrgb H5 a1 a2 a3 a4 a5 a6 a7 a8 hb6
  by_cases hpos : 0 < countFor (fineLl ver LS ts reads ws) ⟨bl, bz, bx, by'⟩
  · have hpi : (0 : Int) < (countFor (fineLl ver LS ts reads ws) ⟨bl, bz, bx, by'⟩ : Int) := by omega
    have H6 := hide (show FBlk w6 fb ({ X with wv := wv4, tv := tv5 } : FV) ∧ w6.heap[g]? = some (.cells #[.int .i64 bl, .int .i64 bz, .int .i64 bx, .int .i64 by', .int .i64 reads, .int .i64 left, rv] 102 (0, 0)) ∧ OwnR rRep 35 w6 (.slice ra rn rc) (fineRr ver LS ts reads ws) ∧ OwnR rKey 39 w6 X.lv ls ∧ OwnR rReq 138 w6 wv4 (fineLl ver LS ts reads ws) ∧ StP w6 X.sb 0 ver sl pv3 LS (ri (PI.erase reads)) ∧ OwnR rTile 136 w6 tv5 (layUl ver LS room reads cs ts) ∧ Frm (fun k => k = fb ∨ k = X.sb ∨ X.lv.ownBlock = some k) w w6 from ⟨hf6, hu6, hrp6, hol6, how6, hs6, hot6, hFw6⟩)
    have HPOS := hide hpos
    clear hf6 hu6 hrp6 hol6 how6 hs6 hot6 hFw6 hpos
    go_wp2_with fail
    obtain ⟨hf6, hu6, hrp6, hol6, how6, hs6, hot6, hFw6⟩ := unhide H6
    refine wp_region_held (S := fun w' => w'.heap[g]? = some (.cells #[.int .i64 bl, .int .i64 bz, .int .i64 bx, .int .i64 by', .int .i64 reads, .int .i64 left, rv] 102 (0, 0))) (by kernel_rfl) ?_
    change wpAnyH _ _ _ _ _ _ _ _ (World.drew _)
    have hbD : Below w6.heap.size w6 (World.drew w6) := Below.drew (Below.refl _ _)
    have hS : (World.drew w6).heap[g]? = some (.cells #[.int .i64 bl, .int .i64 bz, .int .i64 bx, .int .i64 by', .int .i64 reads, .int .i64 left, rv] 102 (0, 0)) := hu6
    have hf7 : FBlk (World.drew w6) fb ({ X with wv := wv4, tv := tv5 } : FV) := hf6
    have hrp7 := hrp6.on hbD
    have hol7 := hol6.on hbD
    have how7 := how6.on hbD
    have hs7 := hs6.on hbD
    have hot7 := hot6.on hbD
    have hF7 := hFw6.then (Frm.of_below (S := fun _ => False) hbD) (fun _ _ q => q.elim)
    generalize World.drew w6 = w7 at hS hf7 hrp7 hol7 how7 hs7 hot7 hF7 hbD ⊢
    clear hf6 hu6 hrp6 hol6 how6 hs6 hot6 hFw6 hbD
    have hfl : fb < w7.heap.size := blk_lt hf7
    have c8 : w7.cell? ⟨fb, 8, none⟩ = some X.lv := (blk_cells hf7 8).trans rfl
    have hbA := (Below.refl w7.heap.size w7).alloc (Nat.le_refl _) (.cells #[.int .i64 bl, .int .i64 bz, .int .i64 bx, .int .i64 by'] 39)
    have hSA := blk_on hS hbA
    have hfA := blk_on hf7 hbA
    have c8A := (hbA.cell (p := ⟨fb, 8, none⟩) hfl).trans c8
    have hat := at_new rKey 39 w7 ⟨bl, bz, bx, by'⟩ #[.int .i64 bl, .int .i64 bz, .int .i64 bx, .int .i64 by'] rfl
    have holA := hol7.on hbA
    have hrpA := hrp7.on hbA
    have howA := how7.on hbA
    have hsA := hs7.on hbA
    have hotA := hot7.on hbA
    obtain ⟨v4, w8, r1, r2, r3, r4⟩ := apKey holA hat (by simp; omega)
    have hS8 := (r3.block g (blk_lt hSA) (fun q => own_ne holA hSA (by decide) g q.symm rfl)).trans hSA
    have hf8 : FBlk w8 fb ({ X with wv := wv4, tv := tv5 } : FV) := (r3.block fb (blk_lt hfA) (fun q => own_ne holA hfA (by decide) fb q.symm rfl)).trans hfA
    have hrp8 := hrpA.same (w' := w8) fun k hk => r3.block k (hrpA.lt hk) (fun q => by
      obtain ⟨c1, d1⟩ := holA.ty q.symm
      exact own_ne hrpA d1 (by decide) k hk rfl)
    have how8 := howA.same (w' := w8) fun k hk => r3.block k (howA.lt hk) (fun q => by
      obtain ⟨c1, d1⟩ := holA.ty q.symm
      exact own_ne howA d1 (by decide) k hk rfl)
    have hot8 := hotA.same (w' := w8) fun k hk => r3.block k (hotA.lt hk) (fun q => by
      obtain ⟨c1, d1⟩ := holA.ty q.symm
      exact own_ne hotA d1 (by decide) k hk rfl)
    have hF8a : Frm (fun k => X.lv.ownBlock = some k) (w7.alloc (.cells #[.int .i64 bl, .int .i64 bz, .int .i64 bx, .int .i64 by'] 39)) w8 := (Frm.rfl' _ _).grown r3 (fun k hk _ => hk)
    have hs8 := hsA.frm hF8a (fun q => own_ne holA hsA.blk (by decide) X.sb q rfl) (fun k hk q => by obtain ⟨c1, d1⟩ := hsA.own.ty hk; exact own_ne holA d1 (by decide) k q rfl) (fun k hk q => by obtain ⟨c1, d1⟩ := hsA.pins.ty hk; exact own_ne holA d1 (by decide) k q rfl)
    have hF8 := (hF7.then (Frm.of_below (S := fun _ => False) hbA) (fun _ _ q => q.elim)).then hF8a (fun k _ q => Or.inr (Or.inr q))
    have hfz := frzF hf8 8
    have c88 : w8.cell? ⟨fb, 8, none⟩ = some X.lv := (blk_cells hf8 8).trans rfl
    obtain ⟨oa4, n4, k4, rfl⟩ := r2.sl
    have hF89 : Frm (fun k => k = fb) w8 (w8.setCell ⟨fb, 8, none⟩ (.slice oa4 n4 k4)) := (Frm.rfl' _ _).setCell (p := ⟨fb, 8, none⟩) _ (fun _ => rfl)
    have hf9 := FBlk.set hf8 8 (.slice oa4 n4 k4) (FV.set_lv ({ X with wv := wv4, tv := tv5 } : FV) _)
    have hS9 := blk_frm hS8 hF89 (blk_ne hS8 hf8 (by decide))
    have hsz7 : w.heap.size ≤ w7.heap.size := hF7.size
    have HH : Hid (FinR fb g X room ver sl LS R PI ws ls cs ⟨bl, bz, bx, by'⟩ reads w (.slice ra rn rc) (w8.setCell ⟨fb, 8, none⟩ (.slice oa4 n4 k4))) := by
      refine ⟨?_, unhide HRPF, ⟨wv4, .slice oa4 n4 k4, tv5, pv3, hf9, ?_, ?_, ?_, hs8.fb hf8 hF89, unhide HWVF, unhide HTVF, fun k hk => ?_, unhide HPV3⟩, hF8.then hF89 (fun k _ q => Or.inl q)⟩
      · rw [unhide HTS]; exact hrp8.frm hF89 (fun k hk => own_ne hrp8 hf8 (by decide) k hk)
      · rw [unhide HTS]; exact how8.frm hF89 (fun k hk => own_ne how8 hf8 (by decide) k hk)
      · rw [unhide HTS]; exact hot8.frm hF89 (fun k hk => own_ne hot8 hf8 (by decide) k hk)
      · rw [unhide HTS, if_pos (unhide HPOS)]; exact r2.frm hF89 (fun k hk => own_ne r2 hf8 (by decide) k hk)
      · rcases r4 with q | q
        · exact Or.inl (q ▸ hk)
        · right; have := q k hk; simp at this; omega
    refine t_tk 0 rfl (.pointer (some ⟨fb, 0, none⟩)) (by kernel_rfl) (fun _ _ _ h => h) rfl (fun w' hw' => by simp [go_sem]) hS ?_
    simp only [Act.put, qA, qB, qC]
    refine t_tk 1 rfl (.pointer (some ⟨fb, 0, none⟩)) (by kernel_rfl) (fun _ _ _ h => h) rfl (fun w' hw' => by simp [go_sem]) hS ?_
    simp only [Act.put, qA, qB, qC]
    refine t_tk 2 rfl (.pointer (some ⟨fb, 0, none⟩)) (by kernel_rfl) (fun _ _ _ h => h) rfl (fun w' hw' => by simp [go_sem]) hS ?_
    simp only [Act.put, qA, qB, qC]
    refine t_tk 3 rfl (.pointer (some ⟨fb, 8, none⟩)) (by kernel_rfl) (fun _ _ _ h => h) rfl (fun w' hw' => by simp [go_sem]) hS ?_
    simp only [Act.put, qA, qB, qC]
    refine t_tk 5 rfl (.pointer (some ⟨g, 0, none⟩)) (by kernel_rfl) (fun _ _ _ h => h) rfl (fun w' hw' => by simp [go_sem]) hS ?_
    simp only [Act.put, qA, qB, qC]
    refine t_tk 6 rfl (.pointer (some ⟨g, 0, none⟩)) (by kernel_rfl) (fun _ _ _ h => h) rfl (fun w' hw' => by simp [go_sem]) hS ?_
    simp only [Act.put, qA, qB, qC]
    refine t_tk 7 rfl (.pointer (some ⟨g, 0, none⟩)) (by kernel_rfl) (fun _ _ _ h => h) rfl (fun w' hw' => by simp [go_sem]) hS ?_
    simp only [Act.put, qA, qB, qC]
    refine t_tk 8 rfl (.agg #[.int .i64 bl, .int .i64 bz, .int .i64 bx, .int .i64 by']) (by kernel_rfl) (fun _ _ _ h => h) rfl (fun w' hw' => ldcR _ _ _ 39 rfl _ rfl _ Tryz.underlying39 rfl (sz39 _ _ _ _) g 0 rfl _ (rngB hw')) hS ?_
    simp only [Act.put, qA, qB, qC]
    refine wpAnyH_all (rs := [4, 9]) (by kernel_rfl) (by simp) ?_
    intro i hi
    simp only [List.mem_cons, List.not_mem_nil, or_false] at hi
    rcases hi with rfl | rfl
    · refine t_op 4 rfl rfl (X.lv) (w7) (by simp [go_sem, c8]) (hS) ?_
      simp only [Act.put, qA, qB, qC]
      refine wpAnyH_all (rs := [9]) (by kernel_rfl) (by simp) ?_
      intro i hi
      simp only [List.mem_singleton] at hi
      subst hi
      refine t_op 9 rfl rfl (.slice (some ⟨w7.heap.size, 0, none⟩) 1 1) (w7.alloc (.cells #[.int .i64 bl, .int .i64 bz, .int .i64 bx, .int .i64 by'] 39)) (bsKey bl bz bx by' _ _ _ rfl rfl _) (hSA) ?_
      simp only [Act.put, qA, qB, qC]
      refine wpAnyH_all (rs := [10]) (by kernel_rfl) (by simp) ?_
      intro i hi
      simp only [List.mem_singleton] at hi
      subst hi
      refine t_op 10 rfl rfl (.slice oa4 n4 k4) (w8) (exR 93 r1 _ _ _ _ rfl rfl rfl rfl) (hS8) ?_
      simp only [Act.put, qA, qB, qC]
      refine t_tk 11 rfl (.pointer (some ⟨fb, 0, none⟩)) (by kernel_rfl) (fun _ _ _ h => h) rfl (fun w' hw' => by simp [go_sem]) hS8 ?_
      simp only [Act.put, qA, qB, qC]
      refine t_tk 12 rfl (.pointer (some ⟨fb, 8, none⟩)) (by kernel_rfl) (fun _ _ _ h => h) rfl (fun w' hw' => by simp [go_sem]) hS8 ?_
      simp only [Act.put, qA, qB, qC]
      refine wpAnyH_all (rs := [13]) (by kernel_rfl) (by simp) ?_
      intro i hi
      simp only [List.mem_singleton] at hi
      subst hi
      refine t_skip 13 rfl rfl (w8.setCell ⟨fb, 8, none⟩ (.slice oa4 n4 k4)) (stS _ _ _ _ 93 rfl (fun _ => by simp [go_sem]) fb 8 oa4 n4 k4 rfl rfl w8 c88 hfz) (hS9) ?_
      simp only [Act.put]
      refine wpAnyH_done (by kernel_rfl) ?_ _
      clear hS hf7 hrp7 hol7 how7 hs7 hot7 hF7 c8 hbA hSA hfA c8A hat holA hrpA howA hsA hotA r1 r2 r3 r4 hS8 hf8 hrp8 how8 hot8 hF8a hs8 hF8 hfz c88 hF89 hf9 hS9 H6
      go_wp2_with fail
      go_ret
      exact ⟨_, rfl, unhide HH⟩
    · refine t_op 9 rfl rfl (.slice (some ⟨w7.heap.size, 0, none⟩) 1 1) (w7.alloc (.cells #[.int .i64 bl, .int .i64 bz, .int .i64 bx, .int .i64 by'] 39)) (bsKey bl bz bx by' _ _ _ rfl rfl _) (hSA) ?_
      simp only [Act.put, qA, qB, qC]
      refine wpAnyH_all (rs := [4]) (by kernel_rfl) (by simp) ?_
      intro i hi
      simp only [List.mem_singleton] at hi
      subst hi
      refine t_op 4 rfl rfl (X.lv) (w7.alloc (.cells #[.int .i64 bl, .int .i64 bz, .int .i64 bx, .int .i64 by'] 39)) (by simp [go_sem, c8A]) (hSA) ?_
      simp only [Act.put, qA, qB, qC]
      refine wpAnyH_all (rs := [10]) (by kernel_rfl) (by simp) ?_
      intro i hi
      simp only [List.mem_singleton] at hi
      subst hi
      refine t_op 10 rfl rfl (.slice oa4 n4 k4) (w8) (exR 93 r1 _ _ _ _ rfl rfl rfl rfl) (hS8) ?_
      simp only [Act.put, qA, qB, qC]
      refine t_tk 11 rfl (.pointer (some ⟨fb, 0, none⟩)) (by kernel_rfl) (fun _ _ _ h => h) rfl (fun w' hw' => by simp [go_sem]) hS8 ?_
      simp only [Act.put, qA, qB, qC]
      refine t_tk 12 rfl (.pointer (some ⟨fb, 8, none⟩)) (by kernel_rfl) (fun _ _ _ h => h) rfl (fun w' hw' => by simp [go_sem]) hS8 ?_
      simp only [Act.put, qA, qB, qC]
      refine wpAnyH_all (rs := [13]) (by kernel_rfl) (by simp) ?_
      intro i hi
      simp only [List.mem_singleton] at hi
      subst hi
      refine t_skip 13 rfl rfl (w8.setCell ⟨fb, 8, none⟩ (.slice oa4 n4 k4)) (stS _ _ _ _ 93 rfl (fun _ => by simp [go_sem]) fb 8 oa4 n4 k4 rfl rfl w8 c88 hfz) (hS9) ?_
      simp only [Act.put]
      refine wpAnyH_done (by kernel_rfl) ?_ _
      clear hS hf7 hrp7 hol7 how7 hs7 hot7 hF7 c8 hbA hSA hfA c8A hat holA hrpA howA hsA hotA r1 r2 r3 r4 hS8 hf8 hrp8 how8 hot8 hF8a hs8 hF8 hfz c88 hF89 hf9 hS9 H6
      go_wp2_with fail
      go_ret
      exact ⟨_, rfl, unhide HH⟩
  · have hpi : ¬ (0 : Int) < (countFor (fineLl ver LS ts reads ws) ⟨bl, bz, bx, by'⟩ : Int) := by omega
    have HH : Hid (FinR fb g X room ver sl LS R PI ws ls cs ⟨bl, bz, bx, by'⟩ reads w (.slice ra rn rc) w6) := by
      refine ⟨?_, unhide HRPF, ⟨wv4, X.lv, tv5, pv3, hf6, ?_, ?_, ?_, hs6, unhide HWVF, unhide HTVF, fun k hk => Or.inl hk, unhide HPV3⟩, hFw6⟩
      · rw [unhide HTS]; exact hrp6
      · rw [unhide HTS]; exact how6
      · rw [unhide HTS]; exact hot6
      · rw [unhide HTS, if_neg hpos]; exact hol6
    clear hf6 hu6 hrp6 hol6 how6 hs6 hot6 hFw6 hpos
    go_wp2_with fail
    go_ret
    exact ⟨_, rfl, unhide HH⟩
theorem bt138 (who l z x y a d : Int) (ev : Operand -> Value) (o : Oper) (p q r s : Operand) (ho : o.op = .build 138 #[(0,p),(1,q),(2,r),(3,s)]) (h1 : ev p = .int .i64 who) (h2 : ev q = .agg #[.int .i64 l,.int .i64 z,.int .i64 x,.int .i64 y]) (h3 : ev r = .int .i64 a) (h4 : ev s = .int .i64 d) (w : World) : (execOp ev o).run Tryz.prog w = .ok (.value (.agg #[.int .i64 who,.int .i64 l,.int .i64 z,.int .i64 x,.int .i64 y,.int .i64 a,.int .i64 d])) w := by
  have hb := run_build (P := Tryz.prog) w 138 #[(0,.int .i64 who),(1,.agg #[.int .i64 l,.int .i64 z,.int .i64 x,.int .i64 y]),(2,.int .i64 a),(3,.int .i64 d)] #[.int .i64 who,.int .i64 l,.int .i64 z,.int .i64 x,.int .i64 y,.int .i64 a,.int .i64 d] (by kernel_rfl)
  unfold execOp
  simp [ho,h1,h2,h3,h4,hb]
theorem WksAt.frm {w w' : World} {kv : Value} {W : List (Option Wk)} {S : Nat -> Prop} (h : WksAt w kv W) (hf : Frm S w w') (h1 : ∀ k,kv.ownBlock = some k -> ¬ S k) (h2 : ∀ (i : Nat) (u : Wk),W[i]? = some (some u) -> ¬ S u.g) : WksAt w' kv W := by
  refine ⟨?_,fun i u hu => blk_frm (h.at_ i u hu) hf (h2 i u hu)⟩
  obtain ⟨oa,cap,e,a1,a2,a3⟩ := h.kv
  refine ⟨oa,cap,e,a1,a2,fun hn => ?_⟩
  obtain ⟨b,off,e',hlt,hc⟩ := a3 hn
  refine ⟨b,off,e',Nat.lt_of_lt_of_le hlt hf.size,fun i a hi j x hx => ?_⟩
  rw [World.cell?_of_block (a := ⟨b,off + i * rPtr.wid + j,none⟩) (hf.block b hlt (h1 b (by rw [e,e']; rfl)))]
  exact hc i a hi j x hx
def joinL (ls : List K4) (W : List (Option Wk)) (b : K4) : List K4 := if (ls.any (fun k => decide (k = b)) || hasW W b) then ls else ls ++ [b]
set_option maxHeartbeats 12800000 in
theorem join_any (fb : Nat) (X : FV) (ver : Int) (sl pv : Value) (LS PL : List Ft) (ws : List Req) (ls : List K4) (W : List (Option Wk)) (who l z x y : Int) (w : World) (hf : FBlk w fb X) (hs : StP w X.sb 0 ver sl pv LS PL) (how : OwnR rReq 138 w X.wv ws) (hol : OwnR rKey 39 w X.lv ls) (hok : OwnR rPtr 100 w X.kv (W.map (Option.map Wk.g))) (hwk : WksAt w X.kv W) (hx : 0 <= x /\ x <= 4194304) (hy : 0 <= y /\ y <= 4194304)
    (hd : 0 <= X.nw /\ X.nw <= 3000000000000 /\ 0 <= X.wt /\ X.wt <= 1000) (hlw : ws.length <= 100000) (hll : ls.length <= 100000) (hlk : W.length <= 100) :
    Calls Tryz.prog 63 #[.pointer (some ⟨fb,0,none⟩),.int .i64 who,.agg #[.int .i64 l,.int .i64 z,.int .i64 x,.int .i64 y]] w fun e w' => e = .returned (.tuple #[]) /\ (∃ wv' lv',FBlk w' fb { X with wv := wv',lv := lv' } /\ OwnR rReq 138 w' wv' (ws ++ [⟨who,⟨l,z,x,y⟩,ver,X.nw + X.wt⟩]) /\ OwnR rKey 39 w' lv' (joinL ls W ⟨l,z,x - x % 2,y - y % 2⟩) /\
      (∀ k,wv'.ownBlock = some k -> X.wv.ownBlock = some k \/ w.heap.size <= k) /\ (∀ k,lv'.ownBlock = some k -> X.lv.ownBlock = some k \/ w.heap.size <= k)) /\ Frm (fun k => k = fb \/ X.wv.ownBlock = some k \/ X.lv.ownBlock = some k) w w' := by
  have hlt0 := blk_lt hf
  have hb0 := (Below.refl w.heap.size w).alloc (Nat.le_refl _) (.cells #[.int .i64 l,.int .i64 z,.int .i64 x,.int .i64 y] 39)
  have hA := heap_alloc_new w (.cells #[.int .i64 l,.int .i64 z,.int .i64 x,.int .i64 y] 39 (0,0))
  have hz0 : (w.alloc (.cells #[.int .i64 l,.int .i64 z,.int .i64 x,.int .i64 y] 39)).heap.size = w.heap.size + 1 := by simp
  have hf1 : FBlk (w.alloc (.cells #[.int .i64 l,.int .i64 z,.int .i64 x,.int .i64 y] 39)) fb X := blk_on hf hb0
  have hs1 := hs.on hb0
  have how1 := how.on hb0
  have hol1 := hol.on hb0
  have hok1 := hok.on hb0
  have hwk1 := hwk.on hb0
  obtain ⟨w1,hw1⟩ : ∃ w1,w.alloc (.cells #[.int .i64 l,.int .i64 z,.int .i64 x,.int .i64 y] 39) = w1 := ⟨_,rfl⟩
  rw [hw1] at hb0 hA hz0 hf1 hs1 how1 hol1 hok1 hwk1
  have c6 : w1.cell? ⟨fb,6,none⟩ = some (.pointer (some ⟨X.sb,0,none⟩)) := (FBlk.cells hf1).2.2.2.2.2.2.1
  have VE := Version_any X.sb 0 ver sl pv LS PL w1 hs1
  have hbx : ∀ (ev : Operand -> Value) (o : Oper) (p : Operand),o.op = .box 39 p -> ev p = .agg #[.int .i64 l,.int .i64 z,.int .i64 x,.int .i64 y] -> (execOp ev o).run Tryz.prog w = .ok (.value (.pointer (some ⟨w.heap.size,0,none⟩))) w1 := by
    intro ev o p ho hp
    rw [<- hw1]
    unfold execOp
    simp only [ho,hp]
    kernel_rfl
  have H1 := hide (show FBlk w1 fb X /\ w1.heap[w.heap.size]? = some (.cells #[.int .i64 l,.int .i64 z,.int .i64 x,.int .i64 y] 39 (0,0)) /\ OwnR rReq 138 w1 X.wv ws /\ OwnR rKey 39 w1 X.lv ls /\ OwnR rPtr 100 w1 X.kv (W.map (Option.map Wk.g)) /\ WksAt w1 X.kv W /\ Below w.heap.size w w1 from ⟨hf1,hA,how1,hol1,hok1,hwk1,hb0⟩)
  have HBX := hide hbx
  have hlw0 : ∀ k,X.lv.ownBlock = some k -> k < w.heap.size := fun k hk => hol.lt hk
  have HLW := hide hlw0
  clear hf hs how hol hok hwk hb0 hA hf1 hs1 how1 hol1 hok1 hwk1 hw1 hbx hlw0
  go_enter Tryz.func63,Tryz.ntmps63
  go_wp2_with (refine wlV _ _ (unhide HBX _ _ _ rfl rfl) rfl ?_)
  refine VE.mono ?_
  rintro e w9 ⟨rfl,rfl⟩
  clear VE c6
  go_wp2_with fail
  obtain ⟨hf1,hA,how1,hol1,hok1,hwk1,hb0⟩ := unhide H1
  refine wp_region_held (S := fun w' => (w'.cell? ⟨fb,3,none⟩ = some (.int .i64 X.nw) /\ w'.cell? ⟨fb,1,none⟩ = some (.int .i64 X.wt)) /\ w'.heap[w.heap.size]? = some (.cells #[.int .i64 l,.int .i64 z,.int .i64 x,.int .i64 y] 39 (0,0))) (by kernel_rfl) ?_
  change wpAnyH _ _ _ _ _ _ _ _ (World.drew _)
  have hbD : Below w1.heap.size w1 (World.drew w1) := Below.drew (Below.refl _ _)
  have hA3 : (World.drew w1).heap[w.heap.size]? = some (.cells #[.int .i64 l,.int .i64 z,.int .i64 x,.int .i64 y] 39 (0,0)) := hA
  have hf3 : FBlk (World.drew w1) fb X := hf1
  have how3 := how1.on hbD
  have hol3 := hol1.on hbD
  have hok3 := hok1.on hbD
  have hwk3 := hwk1.on hbD
  have hb3 := hb0.trans (hbD.mono hb0.size)
  have hz3 : w.heap.size + 1 <= (World.drew w1).heap.size := by have := hbD.size; omega
  generalize World.drew w1 = w3 at hA3 hf3 how3 hol3 hok3 hwk3 hb3 hz3 hbD ⊢
  clear hf1 hA how1 hol1 hok1 hwk1 hb0 hbD
  have hS : (w3.cell? ⟨fb,3,none⟩ = some (.int .i64 X.nw) /\ w3.cell? ⟨fb,1,none⟩ = some (.int .i64 X.wt)) /\ w3.heap[w.heap.size]? = some (.cells #[.int .i64 l,.int .i64 z,.int .i64 x,.int .i64 y] 39 (0,0)) := ⟨⟨(FBlk.cells hf3).2.2.2.1,(FBlk.cells hf3).2.1⟩,hA3⟩
  have c7 : w3.cell? ⟨fb,7,none⟩ = some X.wv := (blk_cells hf3 7).trans rfl
  have hbA := (Below.refl w3.heap.size w3).alloc (Nat.le_refl _) (.cells #[.int .i64 who,.int .i64 l,.int .i64 z,.int .i64 x,.int .i64 y,.int .i64 ver,.int .i64 (X.nw + X.wt)] 138)
  have hfA : FBlk (w3.alloc (.cells #[.int .i64 who,.int .i64 l,.int .i64 z,.int .i64 x,.int .i64 y,.int .i64 ver,.int .i64 (X.nw + X.wt)] 138)) fb X := blk_on hf3 hbA
  have hAA := blk_on hA3 hbA
  have hSA : ((w3.alloc (.cells #[.int .i64 who,.int .i64 l,.int .i64 z,.int .i64 x,.int .i64 y,.int .i64 ver,.int .i64 (X.nw + X.wt)] 138)).cell? ⟨fb,3,none⟩ = some (.int .i64 X.nw) /\ (w3.alloc (.cells #[.int .i64 who,.int .i64 l,.int .i64 z,.int .i64 x,.int .i64 y,.int .i64 ver,.int .i64 (X.nw + X.wt)] 138)).cell? ⟨fb,1,none⟩ = some (.int .i64 X.wt)) /\ (w3.alloc (.cells #[.int .i64 who,.int .i64 l,.int .i64 z,.int .i64 x,.int .i64 y,.int .i64 ver,.int .i64 (X.nw + X.wt)] 138)).heap[w.heap.size]? = some (.cells #[.int .i64 l,.int .i64 z,.int .i64 x,.int .i64 y] 39 (0,0)) := ⟨⟨(FBlk.cells hfA).2.2.2.1,(FBlk.cells hfA).2.1⟩,hAA⟩
  have c7A : (w3.alloc (.cells #[.int .i64 who,.int .i64 l,.int .i64 z,.int .i64 x,.int .i64 y,.int .i64 ver,.int .i64 (X.nw + X.wt)] 138)).cell? ⟨fb,7,none⟩ = some X.wv := (blk_cells hfA 7).trans rfl
  have hat := at_new rReq 138 w3 ⟨who,⟨l,z,x,y⟩,ver,X.nw + X.wt⟩ #[.int .i64 who,.int .i64 l,.int .i64 z,.int .i64 x,.int .i64 y,.int .i64 ver,.int .i64 (X.nw + X.wt)] rfl
  have howA := how3.on hbA
  have holA := hol3.on hbA
  have hokA := hok3.on hbA
  have hwkA := hwk3.on hbA
  obtain ⟨v4,w4,r1,r2,r3,r4⟩ := apReq howA hat (by simp; omega)
  have hFa : Frm (fun k => X.wv.ownBlock = some k) (w3.alloc (.cells #[.int .i64 who,.int .i64 l,.int .i64 z,.int .i64 x,.int .i64 y,.int .i64 ver,.int .i64 (X.nw + X.wt)] 138)) w4 := (Frm.rfl' _ _).grown r3 (fun k hk _ => hk)
  have hf4 : FBlk w4 fb X := blk_frm hfA hFa (fun q => own_ne howA hfA (by decide) fb q rfl)
  have hA4 := blk_frm hAA hFa (fun q => own_ne howA hAA (by decide) _ q rfl)
  have hol4 := holA.frm hFa (fun k hk q => by obtain ⟨c1,d1⟩ := howA.ty q; exact own_ne holA d1 (by decide) k hk rfl)
  have hok4 := hokA.frm hFa (fun k hk q => by obtain ⟨c1,d1⟩ := howA.ty q; exact own_ne hokA d1 (by decide) k hk rfl)
  have hwk4 := hwkA.frm hFa (fun k hk q => by obtain ⟨c1,d1⟩ := howA.ty q; exact own_ne hokA d1 (by decide) k hk rfl) (fun i u hu q => own_ne howA (hwkA.at_ i u hu) (by decide) u.g q rfl)
  have hS4 : (w4.cell? ⟨fb,3,none⟩ = some (.int .i64 X.nw) /\ w4.cell? ⟨fb,1,none⟩ = some (.int .i64 X.wt)) /\ w4.heap[w.heap.size]? = some (.cells #[.int .i64 l,.int .i64 z,.int .i64 x,.int .i64 y] 39 (0,0)) := ⟨⟨(FBlk.cells hf4).2.2.2.1,(FBlk.cells hf4).2.1⟩,hA4⟩
  have c74 : w4.cell? ⟨fb,7,none⟩ = some X.wv := (blk_cells hf4 7).trans rfl
  have hfz := frzF hf4 7
  obtain ⟨oa4,n4,k4,rfl⟩ := r2.sl
  have hF45 : Frm (fun k => k = fb) w4 (w4.setCell ⟨fb,7,none⟩ (.slice oa4 n4 k4)) := (Frm.rfl' _ _).setCell (p := ⟨fb,7,none⟩) _ (fun _ => rfl)
  have hf5 := FBlk.set hf4 7 (.slice oa4 n4 k4) (FV.set_wv X _)
  have hA5 := blk_frm hA4 hF45 (blk_ne hA4 hf4 (by decide))
  have hS5 : ((w4.setCell ⟨fb,7,none⟩ (.slice oa4 n4 k4)).cell? ⟨fb,3,none⟩ = some (.int .i64 X.nw) /\ (w4.setCell ⟨fb,7,none⟩ (.slice oa4 n4 k4)).cell? ⟨fb,1,none⟩ = some (.int .i64 X.wt)) /\ (w4.setCell ⟨fb,7,none⟩ (.slice oa4 n4 k4)).heap[w.heap.size]? = some (.cells #[.int .i64 l,.int .i64 z,.int .i64 x,.int .i64 y] 39 (0,0)) := ⟨⟨(FBlk.cells hf5).2.2.2.1,(FBlk.cells hf5).2.1⟩,hA5⟩
  have how5 := r2.frm hF45 (fun k hk => own_ne r2 hf4 (by decide) k hk)
  have hol5 := hol4.frm hF45 (fun k hk => own_ne hol4 hf4 (by decide) k hk)
  have hwk5 := hwk4.frm hF45 (fun k hk => own_ne hok4 hf4 (by decide) k hk) (fun i u hu => blk_ne (hwk4.at_ i u hu) hf4 (by decide))
  have hFw5 : Frm (fun k => k = fb \/ X.wv.ownBlock = some k \/ X.lv.ownBlock = some k) w (w4.setCell ⟨fb,7,none⟩ (.slice oa4 n4 k4)) := (((Frm.of_below hb3).then (Frm.of_below (S := fun _ => False) hbA) (fun _ _ q => q.elim)).then hFa (fun k _ q => Or.inr (Or.inl q))).then hF45 (fun k _ q => Or.inl q)
  have hwvf : ∀ k,Value.ownBlock (.slice oa4 n4 k4) = some k -> X.wv.ownBlock = some k \/ w.heap.size <= k := fun k hk => by
    rcases r4 with q | q
    . exact Or.inl (q ▸ hk)
    . right; have := q k hk; simp at this; omega
  have hdw : IntKind.i64.wrap (X.nw + X.wt) = X.nw + X.wt := i64_of _ (by omega)
  obtain ⟨w5,hw5⟩ : ∃ w5,w4.setCell ⟨fb,7,none⟩ (.slice oa4 n4 k4) = w5 := ⟨_,rfl⟩
  rw [hw5] at hf5 hA5 hS5 how5 hol5 hwk5 hFw5
  have H5 := hide (show FBlk w5 fb { X with wv := .slice oa4 n4 k4 } /\ w5.heap[w.heap.size]? = some (.cells #[.int .i64 l,.int .i64 z,.int .i64 x,.int .i64 y] 39 (0,0)) /\ OwnR rReq 138 w5 (.slice oa4 n4 k4) (ws ++ [⟨who,⟨l,z,x,y⟩,ver,X.nw + X.wt⟩]) /\ OwnR rKey 39 w5 X.lv ls /\ WksAt w5 X.kv W /\ Frm (fun k => k = fb \/ X.wv.ownBlock = some k \/ X.lv.ownBlock = some k) w w5 from ⟨hf5,hA5,how5,hol5,hwk5,hFw5⟩)
  have HWVF := hide hwvf
  clear hf5 hA5 how5 hol5 hwk5 hFw5 hwvf hol4 hok4 hwk4 hF45 hFa holA hokA hwkA
  refine t_tk 0 rfl (.pointer (some ⟨fb,0,none⟩)) (by kernel_rfl) (fun _ _ _ h => h) rfl (fun w' hw' => by simp [go_sem]) hS ?_
  simp only [Act.put,qA,qB,qC]
  refine t_tk 1 rfl (.pointer (some ⟨fb,0,none⟩)) (by kernel_rfl) (fun _ _ _ h => h) rfl (fun w' hw' => by simp [go_sem]) hS ?_
  simp only [Act.put,qA,qB,qC]
  refine t_tk 2 rfl (.pointer (some ⟨fb,0,none⟩)) (by kernel_rfl) (fun _ _ _ h => h) rfl (fun w' hw' => by simp [go_sem]) hS ?_
  simp only [Act.put,qA,qB,qC]
  refine t_tk 3 rfl (.pointer (some ⟨fb,7,none⟩)) (by kernel_rfl) (fun _ _ _ h => h) rfl (fun w' hw' => by simp [go_sem]) hS ?_
  simp only [Act.put,qA,qB,qC]
  refine t_tk 5 rfl (.int .i64 who) (by kernel_rfl) (fun _ _ _ h => h) rfl (fun w' hw' => by simp [go_sem]) hS ?_
  simp only [Act.put,qA,qB,qC]
  refine t_tk 6 rfl (.agg #[.int .i64 l,.int .i64 z,.int .i64 x,.int .i64 y]) (by kernel_rfl) (fun _ _ _ h => h) rfl (fun w' hw' => ldcR _ _ _ 39 rfl _ rfl _ Tryz.underlying39 rfl (sz39 _ _ _ _) w.heap.size 0 rfl _ (rng_blk hw'.2)) hS ?_
  simp only [Act.put,qA,qB,qC]
  refine t_tk 7 rfl (.int .i64 ver) (by kernel_rfl) (fun _ _ _ h => h) rfl (fun w' hw' => by simp [go_sem]) hS ?_
  simp only [Act.put,qA,qB,qC]
  refine t_tk 8 rfl (.pointer (some ⟨fb,0,none⟩)) (by kernel_rfl) (fun _ _ _ h => h) rfl (fun w' hw' => by simp [go_sem]) hS ?_
  simp only [Act.put,qA,qB,qC]
  refine t_tk 9 rfl (.pointer (some ⟨fb,0,none⟩)) (by kernel_rfl) (fun _ _ _ h => h) rfl (fun w' hw' => by simp [go_sem]) hS ?_
  simp only [Act.put,qA,qB,qC]
  refine t_tk 10 rfl (.pointer (some ⟨fb,3,none⟩)) (by kernel_rfl) (fun _ _ _ h => h) rfl (fun w' hw' => by simp [go_sem]) hS ?_
  simp only [Act.put,qA,qB,qC]
  refine t_tk 11 rfl (.int .i64 X.nw) (by kernel_rfl) (fun _ _ _ h => h) rfl (fun w' hw' => by simp [go_sem,hw'.1.1]) hS ?_
  simp only [Act.put,qA,qB,qC]
  refine t_tk 12 rfl (.pointer (some ⟨fb,0,none⟩)) (by kernel_rfl) (fun _ _ _ h => h) rfl (fun w' hw' => by simp [go_sem]) hS ?_
  simp only [Act.put,qA,qB,qC]
  refine t_tk 13 rfl (.pointer (some ⟨fb,0,none⟩)) (by kernel_rfl) (fun _ _ _ h => h) rfl (fun w' hw' => by simp [go_sem]) hS ?_
  simp only [Act.put,qA,qB,qC]
  refine t_tk 14 rfl (.pointer (some ⟨fb,1,none⟩)) (by kernel_rfl) (fun _ _ _ h => h) rfl (fun w' hw' => by simp [go_sem]) hS ?_
  simp only [Act.put,qA,qB,qC]
  refine t_tk 15 rfl (.int .i64 X.wt) (by kernel_rfl) (fun _ _ _ h => h) rfl (fun w' hw' => by simp [go_sem,hw'.1.2]) hS ?_
  simp only [Act.put,qA,qB,qC]
  refine t_tk 16 rfl (.int .i64 (X.nw + X.wt)) (by kernel_rfl) (fun _ _ _ h => h) rfl (fun w' hw' => by simp [go_sem,hdw]) hS ?_
  simp only [Act.put,qA,qB,qC]
  refine t_tk 17 rfl (.agg #[.int .i64 who,.int .i64 l,.int .i64 z,.int .i64 x,.int .i64 y,.int .i64 ver,.int .i64 (X.nw + X.wt)]) (by kernel_rfl) (fun _ _ _ h => h) rfl (fun w' hw' => bt138 who l z x y ver (X.nw + X.wt) _ _ _ _ _ _ rfl rfl rfl rfl rfl _) hS ?_
  simp only [Act.put,qA,qB,qC]
  refine wpAnyH_all (rs := [4,18]) (by kernel_rfl) (by simp) ?_
  intro i hi
  simp only [List.mem_cons,List.not_mem_nil,or_false] at hi
  rcases hi with rfl | rfl
  . refine t_op 4 rfl rfl (X.wv) (w3) (by simp [go_sem,c7]) (hS) ?_
    simp only [Act.put,qA,qB,qC]
    refine wpAnyH_all (rs := [18]) (by kernel_rfl) (by simp) ?_
    intro i hi
    simp only [List.mem_singleton] at hi
    subst hi
    refine t_op 18 rfl rfl (.slice (some ⟨w3.heap.size,0,none⟩) 1 1) (w3.alloc (.cells #[.int .i64 who,.int .i64 l,.int .i64 z,.int .i64 x,.int .i64 y,.int .i64 ver,.int .i64 (X.nw + X.wt)] 138)) (bsReq who l z x y ver (X.nw + X.wt) _ _ _ rfl rfl _) (hSA) ?_
    simp only [Act.put,qA,qB,qC]
    refine wpAnyH_all (rs := [19]) (by kernel_rfl) (by simp) ?_
    intro i hi
    simp only [List.mem_singleton] at hi
    subst hi
    refine t_op 19 rfl rfl (.slice oa4 n4 k4) (w4) (exR 92 r1 _ _ _ _ rfl rfl rfl rfl) (hS4) ?_
    simp only [Act.put,qA,qB,qC]
    refine t_tk 20 rfl (.pointer (some ⟨fb,0,none⟩)) (by kernel_rfl) (fun _ _ _ h => h) rfl (fun w' hw' => by simp [go_sem]) hS4 ?_
    simp only [Act.put,qA,qB,qC]
    refine t_tk 21 rfl (.pointer (some ⟨fb,7,none⟩)) (by kernel_rfl) (fun _ _ _ h => h) rfl (fun w' hw' => by simp [go_sem]) hS4 ?_
    simp only [Act.put,qA,qB,qC]
    refine wpAnyH_all (rs := [22]) (by kernel_rfl) (by simp) ?_
    intro i hi
    simp only [List.mem_singleton] at hi
    subst hi
    refine t_skip 22 rfl rfl (w5) (stS1 _ _ _ _ 92 rfl (fun _ => by simp [go_sem]) fb 7 oa4 n4 k4 rfl rfl w4 w5 c74 hfz hw5) (hS5) ?_
    simp only [Act.put]
    refine wpAnyH_done (by kernel_rfl) ?_ _
    clear hS hA3 hf3 how3 hol3 hok3 hwk3 hb3 hz3 c7 hbA hfA hAA hSA c7A hat howA r1 r2 r3 r4 hf4 hA4 hS4 c74 hfz hS5 hdw hw5
    obtain ⟨hf5,hA5,how5,hol5,hwk5,hFw5⟩ := unhide H5
    have hrg5 : w5.rangeAt w.heap.size 0 #[.int .i64 l,.int .i64 z,.int .i64 x,.int .i64 y].toList := rng_blk hA5
    have BL := blockOf_any l z x y w5 ⟨hx.1,by omega⟩ ⟨hy.1,by omega⟩
    clear hf5 hA5 how5 hol5 hwk5 hFw5
    go_wp2_with (refine ldG 39 #[.int .i64 l,.int .i64 z,.int .i64 x,.int .i64 y] Tryz.underlying39 rfl (sz39 _ _ _ _) w.heap.size 0 hrg5 rfl _ rfl rfl ?_)
    refine BL.mono ?_
    rintro e w6 ⟨rfl,hb6⟩
    obtain ⟨hf5,hA5,how5,hol5,hwk5,hFw5⟩ := unhide H5
    have hb7 := hb6.trans ((Below.refl w5.heap.size w6).alloc hb6.size (.cells #[.int .i64 l,.int .i64 z,.int .i64 (x - x % 2),.int .i64 (y - y % 2)] 39))
    have hG7 := heap_alloc_new w6 (.cells #[.int .i64 l,.int .i64 z,.int .i64 (x - x % 2),.int .i64 (y - y % 2)] 39 (0,0))
    have hf7 : FBlk (w6.alloc (.cells #[.int .i64 l,.int .i64 z,.int .i64 (x - x % 2),.int .i64 (y - y % 2)] 39)) fb { X with wv := .slice oa4 n4 k4 } := blk_on hf5 hb7
    have how7 := how5.on hb7
    have hol7 := hol5.on hb7
    have hwk7 := hwk5.on hb7
    have hFw7 := hFw5.then (Frm.of_below (S := fun _ => False) hb7) (fun _ _ q => q.elim)
    have hGw : w.heap.size <= w6.heap.size := by have := hFw5.size; have := hb6.size; omega
    have HFL := hasFlight_any fb { X with wv := .slice oa4 n4 k4 } ls W l z (x - x % 2) (y - y % 2) (w6.alloc (.cells #[.int .i64 l,.int .i64 z,.int .i64 (x - x % 2),.int .i64 (y - y % 2)] 39)) hf7 hol7.at hwk7 (by omega) hlk
    obtain ⟨Bo,hBo⟩ : ∃ Bo,(ls.any (fun k => decide (k = (⟨l,z,x - x % 2,y - y % 2⟩ : K4))) || hasW W ⟨l,z,x - x % 2,y - y % 2⟩) = Bo := ⟨_,rfl⟩
    rw [hBo] at HFL
    have HBB := hide hBo
    clear hBo
    have H7 := hide (show FBlk (w6.alloc (.cells #[.int .i64 l,.int .i64 z,.int .i64 (x - x % 2),.int .i64 (y - y % 2)] 39)) fb { X with wv := .slice oa4 n4 k4 } /\ (w6.alloc (.cells #[.int .i64 l,.int .i64 z,.int .i64 (x - x % 2),.int .i64 (y - y % 2)] 39)).heap[w6.heap.size]? = some (.cells #[.int .i64 l,.int .i64 z,.int .i64 (x - x % 2),.int .i64 (y - y % 2)] 39 (0,0)) /\ OwnR rReq 138 (w6.alloc (.cells #[.int .i64 l,.int .i64 z,.int .i64 (x - x % 2),.int .i64 (y - y % 2)] 39)) (.slice oa4 n4 k4) (ws ++ [⟨who,⟨l,z,x,y⟩,ver,X.nw + X.wt⟩]) /\ OwnR rKey 39 (w6.alloc (.cells #[.int .i64 l,.int .i64 z,.int .i64 (x - x % 2),.int .i64 (y - y % 2)] 39)) X.lv ls /\ Frm (fun k => k = fb \/ X.wv.ownBlock = some k \/ X.lv.ownBlock = some k) w (w6.alloc (.cells #[.int .i64 l,.int .i64 z,.int .i64 (x - x % 2),.int .i64 (y - y % 2)] 39)) from ⟨hf7,hG7,how7,hol7,hFw7⟩)
    clear BL hrg5 hf5 hA5 how5 hol5 hwk5 hFw5 hb6 hb7 hG7 hf7 how7 hol7 hwk7 hFw7 H5
    go_wp2_with fail
    refine HFL.mono ?_
    rintro e w8 ⟨rfl,hb8⟩
    obtain ⟨hf7,hG7,how7,hol7,hFw7⟩ := unhide H7
    have hf8 := blk_on hf7 hb8
    have hG8 := blk_on hG7 hb8
    have how8 := how7.on hb8
    have hol8 := hol7.on hb8
    have hFw8 := hFw7.then (Frm.of_below (S := fun _ => False) hb8) (fun _ _ q => q.elim)
    clear HFL hf7 hG7 how7 hol7 hFw7 hb8 H7
    cases Bo with
    | true =>
      have HH : Hid ((∃ wv' lv',FBlk w8 fb { X with wv := wv',lv := lv' } /\ OwnR rReq 138 w8 wv' (ws ++ [⟨who,⟨l,z,x,y⟩,ver,X.nw + X.wt⟩]) /\ OwnR rKey 39 w8 lv' (joinL ls W ⟨l,z,x - x % 2,y - y % 2⟩) /\ (∀ k,wv'.ownBlock = some k -> X.wv.ownBlock = some k \/ w.heap.size <= k) /\ (∀ k,lv'.ownBlock = some k -> X.lv.ownBlock = some k \/ w.heap.size <= k)) /\ Frm (fun k => k = fb \/ X.wv.ownBlock = some k \/ X.lv.ownBlock = some k) w w8) :=
        ⟨⟨.slice oa4 n4 k4,X.lv,hf8,how8,by unfold joinL; rw [unhide HBB]; exact hol8,unhide HWVF,fun k hk => Or.inl hk⟩,hFw8⟩
      clear hf8 hG8 how8 hol8 hFw8
      go_wp2_with fail
      exact bodyPost_end (results_none Tryz.results63 _ _ _) rfl ⟨rfl,unhide HH⟩
    | false =>
      have H8 := hide (show FBlk w8 fb { X with wv := .slice oa4 n4 k4 } /\ w8.heap[w6.heap.size]? = some (.cells #[.int .i64 l,.int .i64 z,.int .i64 (x - x % 2),.int .i64 (y - y % 2)] 39 (0,0)) /\ OwnR rReq 138 w8 (.slice oa4 n4 k4) (ws ++ [⟨who,⟨l,z,x,y⟩,ver,X.nw + X.wt⟩]) /\ OwnR rKey 39 w8 X.lv ls /\ Frm (fun k => k = fb \/ X.wv.ownBlock = some k \/ X.lv.ownBlock = some k) w w8 from ⟨hf8,hG8,how8,hol8,hFw8⟩)
      clear hf8 hG8 how8 hol8 hFw8
      go_wp2_with fail
      obtain ⟨hf8,hG8,how8,hol8,hFw8⟩ := unhide H8
      refine wp_region_held (S := fun w' => w'.heap[w6.heap.size]? = some (.cells #[.int .i64 l,.int .i64 z,.int .i64 (x - x % 2),.int .i64 (y - y % 2)] 39 (0,0))) (by kernel_rfl) ?_
      change wpAnyH _ _ _ _ _ _ _ _ (World.drew _)
      have hbD : Below w8.heap.size w8 (World.drew w8) := Below.drew (Below.refl _ _)
      have hS : (World.drew w8).heap[w6.heap.size]? = some (.cells #[.int .i64 l,.int .i64 z,.int .i64 (x - x % 2),.int .i64 (y - y % 2)] 39 (0,0)) := hG8
      have hfq : FBlk (World.drew w8) fb { X with wv := .slice oa4 n4 k4 } := hf8
      have howq := how8.on hbD
      have holq := hol8.on hbD
      have hFq := hFw8.then (Frm.of_below (S := fun _ => False) hbD) (fun _ _ q => q.elim)
      generalize World.drew w8 = wq at hS hfq howq holq hFq hbD ⊢
      clear hf8 hG8 how8 hol8 hFw8 hbD H8
      have hfl : fb < wq.heap.size := blk_lt hfq
      have c8 : wq.cell? ⟨fb,8,none⟩ = some X.lv := (blk_cells hfq 8).trans rfl
      have hbA := (Below.refl wq.heap.size wq).alloc (Nat.le_refl _) (.cells #[.int .i64 l,.int .i64 z,.int .i64 (x - x % 2),.int .i64 (y - y % 2)] 39)
      have hSA := blk_on hS hbA
      have hfA : FBlk (wq.alloc (.cells #[.int .i64 l,.int .i64 z,.int .i64 (x - x % 2),.int .i64 (y - y % 2)] 39)) fb _ := blk_on hfq hbA
      have c8A := (hbA.cell (p := ⟨fb,8,none⟩) hfl).trans c8
      have hat := at_new rKey 39 wq ⟨l,z,x - x % 2,y - y % 2⟩ #[.int .i64 l,.int .i64 z,.int .i64 (x - x % 2),.int .i64 (y - y % 2)] rfl
      have holA := holq.on hbA
      have howA := howq.on hbA
      obtain ⟨v9,w9,r1,r2,r3,r4⟩ := apKey holA hat (by simp; omega)
      have hFa : Frm (fun k => X.lv.ownBlock = some k) (wq.alloc (.cells #[.int .i64 l,.int .i64 z,.int .i64 (x - x % 2),.int .i64 (y - y % 2)] 39)) w9 := (Frm.rfl' _ _).grown r3 (fun k hk _ => hk)
      have hS9 := blk_frm hSA hFa (fun q => by have := unhide HLW _ q; omega)
      have hf9 : FBlk w9 fb { X with wv := .slice oa4 n4 k4 } := blk_frm hfA hFa (fun q => own_ne holA hfA (by decide) fb q rfl)
      have how9 := howA.frm hFa (fun k hk q => by obtain ⟨c1,d1⟩ := holA.ty q; exact own_ne howA d1 (by decide) k hk rfl)
      have c89 : w9.cell? ⟨fb,8,none⟩ = some X.lv := (blk_cells hf9 8).trans rfl
      have hfz := frzF hf9 8
      obtain ⟨oa9,n9,k9,rfl⟩ := r2.sl
      have hF90 : Frm (fun k => k = fb) w9 (w9.setCell ⟨fb,8,none⟩ (.slice oa9 n9 k9)) := (Frm.rfl' _ _).setCell (p := ⟨fb,8,none⟩) _ (fun _ => rfl)
      have hf0 := FBlk.set hf9 8 (.slice oa9 n9 k9) (FV.set_lv _ _)
      have hS0 := blk_frm hS9 hF90 (blk_ne hS9 hf9 (by decide))
      have hFq0 := hFq.size
      have HH : Hid ((∃ wv' lv',FBlk (w9.setCell ⟨fb,8,none⟩ (.slice oa9 n9 k9)) fb { X with wv := wv',lv := lv' } /\ OwnR rReq 138 (w9.setCell ⟨fb,8,none⟩ (.slice oa9 n9 k9)) wv' (ws ++ [⟨who,⟨l,z,x,y⟩,ver,X.nw + X.wt⟩]) /\ OwnR rKey 39 (w9.setCell ⟨fb,8,none⟩ (.slice oa9 n9 k9)) lv' (joinL ls W ⟨l,z,x - x % 2,y - y % 2⟩) /\ (∀ k,wv'.ownBlock = some k -> X.wv.ownBlock = some k \/ w.heap.size <= k) /\ (∀ k,lv'.ownBlock = some k -> X.lv.ownBlock = some k \/ w.heap.size <= k)) /\ Frm (fun k => k = fb \/ X.wv.ownBlock = some k \/ X.lv.ownBlock = some k) w (w9.setCell ⟨fb,8,none⟩ (.slice oa9 n9 k9))) := by
        refine ⟨⟨.slice oa4 n4 k4,.slice oa9 n9 k9,hf0,how9.frm hF90 (fun k hk => own_ne how9 hf9 (by decide) k hk),?_,unhide HWVF,fun k hk => ?_⟩,((hFq.then (Frm.of_below (S := fun _ => False) hbA) (fun _ _ q => q.elim)).then hFa (fun k _ q => Or.inr (Or.inr q))).then hF90 (fun k _ q => Or.inl q)⟩
        . unfold joinL; rw [unhide HBB]; exact r2.frm hF90 (fun k hk => own_ne r2 hf9 (by decide) k hk)
        . rcases r4 with q | q
          . exact Or.inl (q ▸ hk)
          . right; have := q k hk; simp at this; omega
      refine t_tk 0 rfl (.pointer (some ⟨fb,0,none⟩)) (by kernel_rfl) (fun _ _ _ h => h) rfl (fun w' hw' => by simp [go_sem]) hS ?_
      simp only [Act.put,qA,qB,qC]
      refine t_tk 1 rfl (.pointer (some ⟨fb,0,none⟩)) (by kernel_rfl) (fun _ _ _ h => h) rfl (fun w' hw' => by simp [go_sem]) hS ?_
      simp only [Act.put,qA,qB,qC]
      refine t_tk 2 rfl (.pointer (some ⟨fb,0,none⟩)) (by kernel_rfl) (fun _ _ _ h => h) rfl (fun w' hw' => by simp [go_sem]) hS ?_
      simp only [Act.put,qA,qB,qC]
      refine t_tk 3 rfl (.pointer (some ⟨fb,8,none⟩)) (by kernel_rfl) (fun _ _ _ h => h) rfl (fun w' hw' => by simp [go_sem]) hS ?_
      simp only [Act.put,qA,qB,qC]
      refine t_tk 5 rfl (.agg #[.int .i64 l,.int .i64 z,.int .i64 (x - x % 2),.int .i64 (y - y % 2)]) (by kernel_rfl) (fun _ _ _ h => h) rfl (fun w' hw' => ldcR _ _ _ 39 rfl _ rfl _ Tryz.underlying39 rfl (sz39 _ _ _ _) w6.heap.size 0 rfl _ (rng_blk hw')) hS ?_
      simp only [Act.put,qA,qB,qC]
      refine wpAnyH_all (rs := [4,6]) (by kernel_rfl) (by simp) ?_
      intro i hi
      simp only [List.mem_cons,List.not_mem_nil,or_false] at hi
      rcases hi with rfl | rfl
      . refine t_op 4 rfl rfl (X.lv) (wq) (by simp [go_sem,c8]) (hS) ?_
        simp only [Act.put,qA,qB,qC]
        refine wpAnyH_all (rs := [6]) (by kernel_rfl) (by simp) ?_
        intro i hi
        simp only [List.mem_singleton] at hi
        subst hi
        refine t_op 6 rfl rfl (.slice (some ⟨wq.heap.size,0,none⟩) 1 1) (wq.alloc (.cells #[.int .i64 l,.int .i64 z,.int .i64 (x - x % 2),.int .i64 (y - y % 2)] 39)) (bsKey l z (x - x % 2) (y - y % 2) _ _ _ rfl rfl _) (hSA) ?_
        simp only [Act.put,qA,qB,qC]
        refine wpAnyH_all (rs := [7]) (by kernel_rfl) (by simp) ?_
        intro i hi
        simp only [List.mem_singleton] at hi
        subst hi
        refine t_op 7 rfl rfl (.slice oa9 n9 k9) (w9) (exR 93 r1 _ _ _ _ rfl rfl rfl rfl) (hS9) ?_
        simp only [Act.put,qA,qB,qC]
        refine t_tk 8 rfl (.pointer (some ⟨fb,0,none⟩)) (by kernel_rfl) (fun _ _ _ h => h) rfl (fun w' hw' => by simp [go_sem]) hS9 ?_
        simp only [Act.put,qA,qB,qC]
        refine t_tk 9 rfl (.pointer (some ⟨fb,8,none⟩)) (by kernel_rfl) (fun _ _ _ h => h) rfl (fun w' hw' => by simp [go_sem]) hS9 ?_
        simp only [Act.put,qA,qB,qC]
        refine wpAnyH_all (rs := [10]) (by kernel_rfl) (by simp) ?_
        intro i hi
        simp only [List.mem_singleton] at hi
        subst hi
        refine t_skip 10 rfl rfl (w9.setCell ⟨fb,8,none⟩ (.slice oa9 n9 k9)) (stS _ _ _ _ 93 rfl (fun _ => by simp [go_sem]) fb 8 oa9 n9 k9 rfl rfl w9 c89 hfz) (hS0) ?_
        simp only [Act.put]
        refine wpAnyH_done (by kernel_rfl) ?_ _
        clear hS hfq howq holq hFq hfl c8 hbA hSA hfA c8A hat holA howA r1 r2 r3 r4 hFa hS9 hf9 how9 c89 hfz hF90 hf0 hS0 hFq0
        go_wp2_with fail
        exact bodyPost_end (results_none Tryz.results63 _ _ _) rfl ⟨rfl,unhide HH⟩
      . refine t_op 6 rfl rfl (.slice (some ⟨wq.heap.size,0,none⟩) 1 1) (wq.alloc (.cells #[.int .i64 l,.int .i64 z,.int .i64 (x - x % 2),.int .i64 (y - y % 2)] 39)) (bsKey l z (x - x % 2) (y - y % 2) _ _ _ rfl rfl _) (hSA) ?_
        simp only [Act.put,qA,qB,qC]
        refine wpAnyH_all (rs := [4]) (by kernel_rfl) (by simp) ?_
        intro i hi
        simp only [List.mem_singleton] at hi
        subst hi
        refine t_op 4 rfl rfl (X.lv) (wq.alloc (.cells #[.int .i64 l,.int .i64 z,.int .i64 (x - x % 2),.int .i64 (y - y % 2)] 39)) (by simp [go_sem,c8A]) (hSA) ?_
        simp only [Act.put,qA,qB,qC]
        refine wpAnyH_all (rs := [7]) (by kernel_rfl) (by simp) ?_
        intro i hi
        simp only [List.mem_singleton] at hi
        subst hi
        refine t_op 7 rfl rfl (.slice oa9 n9 k9) (w9) (exR 93 r1 _ _ _ _ rfl rfl rfl rfl) (hS9) ?_
        simp only [Act.put,qA,qB,qC]
        refine t_tk 8 rfl (.pointer (some ⟨fb,0,none⟩)) (by kernel_rfl) (fun _ _ _ h => h) rfl (fun w' hw' => by simp [go_sem]) hS9 ?_
        simp only [Act.put,qA,qB,qC]
        refine t_tk 9 rfl (.pointer (some ⟨fb,8,none⟩)) (by kernel_rfl) (fun _ _ _ h => h) rfl (fun w' hw' => by simp [go_sem]) hS9 ?_
        simp only [Act.put,qA,qB,qC]
        refine wpAnyH_all (rs := [10]) (by kernel_rfl) (by simp) ?_
        intro i hi
        simp only [List.mem_singleton] at hi
        subst hi
        refine t_skip 10 rfl rfl (w9.setCell ⟨fb,8,none⟩ (.slice oa9 n9 k9)) (stS _ _ _ _ 93 rfl (fun _ => by simp [go_sem]) fb 8 oa9 n9 k9 rfl rfl w9 c89 hfz) (hS0) ?_
        simp only [Act.put]
        refine wpAnyH_done (by kernel_rfl) ?_ _
        clear hS hfq howq holq hFq hfl c8 hbA hSA hfA c8A hat holA howA r1 r2 r3 r4 hFa hS9 hf9 how9 c89 hfz hF90 hf0 hS0 hFq0
        go_wp2_with fail
        exact bodyPost_end (results_none Tryz.results63 _ _ _) rfl ⟨rfl,unhide HH⟩
  . refine t_op 18 rfl rfl (.slice (some ⟨w3.heap.size,0,none⟩) 1 1) (w3.alloc (.cells #[.int .i64 who,.int .i64 l,.int .i64 z,.int .i64 x,.int .i64 y,.int .i64 ver,.int .i64 (X.nw + X.wt)] 138)) (bsReq who l z x y ver (X.nw + X.wt) _ _ _ rfl rfl _) (hSA) ?_
    simp only [Act.put,qA,qB,qC]
    refine wpAnyH_all (rs := [4]) (by kernel_rfl) (by simp) ?_
    intro i hi
    simp only [List.mem_singleton] at hi
    subst hi
    refine t_op 4 rfl rfl (X.wv) (w3.alloc (.cells #[.int .i64 who,.int .i64 l,.int .i64 z,.int .i64 x,.int .i64 y,.int .i64 ver,.int .i64 (X.nw + X.wt)] 138)) (by simp [go_sem,c7A]) (hSA) ?_
    simp only [Act.put,qA,qB,qC]
    refine wpAnyH_all (rs := [19]) (by kernel_rfl) (by simp) ?_
    intro i hi
    simp only [List.mem_singleton] at hi
    subst hi
    refine t_op 19 rfl rfl (.slice oa4 n4 k4) (w4) (exR 92 r1 _ _ _ _ rfl rfl rfl rfl) (hS4) ?_
    simp only [Act.put,qA,qB,qC]
    refine t_tk 20 rfl (.pointer (some ⟨fb,0,none⟩)) (by kernel_rfl) (fun _ _ _ h => h) rfl (fun w' hw' => by simp [go_sem]) hS4 ?_
    simp only [Act.put,qA,qB,qC]
    refine t_tk 21 rfl (.pointer (some ⟨fb,7,none⟩)) (by kernel_rfl) (fun _ _ _ h => h) rfl (fun w' hw' => by simp [go_sem]) hS4 ?_
    simp only [Act.put,qA,qB,qC]
    refine wpAnyH_all (rs := [22]) (by kernel_rfl) (by simp) ?_
    intro i hi
    simp only [List.mem_singleton] at hi
    subst hi
    refine t_skip 22 rfl rfl (w5) (stS1 _ _ _ _ 92 rfl (fun _ => by simp [go_sem]) fb 7 oa4 n4 k4 rfl rfl w4 w5 c74 hfz hw5) (hS5) ?_
    simp only [Act.put]
    refine wpAnyH_done (by kernel_rfl) ?_ _
    clear hS hA3 hf3 how3 hol3 hok3 hwk3 hb3 hz3 c7 hbA hfA hAA hSA c7A hat howA r1 r2 r3 r4 hf4 hA4 hS4 c74 hfz hS5 hdw hw5
    obtain ⟨hf5,hA5,how5,hol5,hwk5,hFw5⟩ := unhide H5
    have hrg5 : w5.rangeAt w.heap.size 0 #[.int .i64 l,.int .i64 z,.int .i64 x,.int .i64 y].toList := rng_blk hA5
    have BL := blockOf_any l z x y w5 ⟨hx.1,by omega⟩ ⟨hy.1,by omega⟩
    clear hf5 hA5 how5 hol5 hwk5 hFw5
    go_wp2_with (refine ldG 39 #[.int .i64 l,.int .i64 z,.int .i64 x,.int .i64 y] Tryz.underlying39 rfl (sz39 _ _ _ _) w.heap.size 0 hrg5 rfl _ rfl rfl ?_)
    refine BL.mono ?_
    rintro e w6 ⟨rfl,hb6⟩
    obtain ⟨hf5,hA5,how5,hol5,hwk5,hFw5⟩ := unhide H5
    have hb7 := hb6.trans ((Below.refl w5.heap.size w6).alloc hb6.size (.cells #[.int .i64 l,.int .i64 z,.int .i64 (x - x % 2),.int .i64 (y - y % 2)] 39))
    have hG7 := heap_alloc_new w6 (.cells #[.int .i64 l,.int .i64 z,.int .i64 (x - x % 2),.int .i64 (y - y % 2)] 39 (0,0))
    have hf7 : FBlk (w6.alloc (.cells #[.int .i64 l,.int .i64 z,.int .i64 (x - x % 2),.int .i64 (y - y % 2)] 39)) fb { X with wv := .slice oa4 n4 k4 } := blk_on hf5 hb7
    have how7 := how5.on hb7
    have hol7 := hol5.on hb7
    have hwk7 := hwk5.on hb7
    have hFw7 := hFw5.then (Frm.of_below (S := fun _ => False) hb7) (fun _ _ q => q.elim)
    have hGw : w.heap.size <= w6.heap.size := by have := hFw5.size; have := hb6.size; omega
    have HFL := hasFlight_any fb { X with wv := .slice oa4 n4 k4 } ls W l z (x - x % 2) (y - y % 2) (w6.alloc (.cells #[.int .i64 l,.int .i64 z,.int .i64 (x - x % 2),.int .i64 (y - y % 2)] 39)) hf7 hol7.at hwk7 (by omega) hlk
    obtain ⟨Bo,hBo⟩ : ∃ Bo,(ls.any (fun k => decide (k = (⟨l,z,x - x % 2,y - y % 2⟩ : K4))) || hasW W ⟨l,z,x - x % 2,y - y % 2⟩) = Bo := ⟨_,rfl⟩
    rw [hBo] at HFL
    have HBB := hide hBo
    clear hBo
    have H7 := hide (show FBlk (w6.alloc (.cells #[.int .i64 l,.int .i64 z,.int .i64 (x - x % 2),.int .i64 (y - y % 2)] 39)) fb { X with wv := .slice oa4 n4 k4 } /\ (w6.alloc (.cells #[.int .i64 l,.int .i64 z,.int .i64 (x - x % 2),.int .i64 (y - y % 2)] 39)).heap[w6.heap.size]? = some (.cells #[.int .i64 l,.int .i64 z,.int .i64 (x - x % 2),.int .i64 (y - y % 2)] 39 (0,0)) /\ OwnR rReq 138 (w6.alloc (.cells #[.int .i64 l,.int .i64 z,.int .i64 (x - x % 2),.int .i64 (y - y % 2)] 39)) (.slice oa4 n4 k4) (ws ++ [⟨who,⟨l,z,x,y⟩,ver,X.nw + X.wt⟩]) /\ OwnR rKey 39 (w6.alloc (.cells #[.int .i64 l,.int .i64 z,.int .i64 (x - x % 2),.int .i64 (y - y % 2)] 39)) X.lv ls /\ Frm (fun k => k = fb \/ X.wv.ownBlock = some k \/ X.lv.ownBlock = some k) w (w6.alloc (.cells #[.int .i64 l,.int .i64 z,.int .i64 (x - x % 2),.int .i64 (y - y % 2)] 39)) from ⟨hf7,hG7,how7,hol7,hFw7⟩)
    clear BL hrg5 hf5 hA5 how5 hol5 hwk5 hFw5 hb6 hb7 hG7 hf7 how7 hol7 hwk7 hFw7 H5
    go_wp2_with fail
    refine HFL.mono ?_
    rintro e w8 ⟨rfl,hb8⟩
    obtain ⟨hf7,hG7,how7,hol7,hFw7⟩ := unhide H7
    have hf8 := blk_on hf7 hb8
    have hG8 := blk_on hG7 hb8
    have how8 := how7.on hb8
    have hol8 := hol7.on hb8
    have hFw8 := hFw7.then (Frm.of_below (S := fun _ => False) hb8) (fun _ _ q => q.elim)
    clear HFL hf7 hG7 how7 hol7 hFw7 hb8 H7
    cases Bo with
    | true =>
      have HH : Hid ((∃ wv' lv',FBlk w8 fb { X with wv := wv',lv := lv' } /\ OwnR rReq 138 w8 wv' (ws ++ [⟨who,⟨l,z,x,y⟩,ver,X.nw + X.wt⟩]) /\ OwnR rKey 39 w8 lv' (joinL ls W ⟨l,z,x - x % 2,y - y % 2⟩) /\ (∀ k,wv'.ownBlock = some k -> X.wv.ownBlock = some k \/ w.heap.size <= k) /\ (∀ k,lv'.ownBlock = some k -> X.lv.ownBlock = some k \/ w.heap.size <= k)) /\ Frm (fun k => k = fb \/ X.wv.ownBlock = some k \/ X.lv.ownBlock = some k) w w8) :=
        ⟨⟨.slice oa4 n4 k4,X.lv,hf8,how8,by unfold joinL; rw [unhide HBB]; exact hol8,unhide HWVF,fun k hk => Or.inl hk⟩,hFw8⟩
      clear hf8 hG8 how8 hol8 hFw8
      go_wp2_with fail
      exact bodyPost_end (results_none Tryz.results63 _ _ _) rfl ⟨rfl,unhide HH⟩
    | false =>
      have H8 := hide (show FBlk w8 fb { X with wv := .slice oa4 n4 k4 } /\ w8.heap[w6.heap.size]? = some (.cells #[.int .i64 l,.int .i64 z,.int .i64 (x - x % 2),.int .i64 (y - y % 2)] 39 (0,0)) /\ OwnR rReq 138 w8 (.slice oa4 n4 k4) (ws ++ [⟨who,⟨l,z,x,y⟩,ver,X.nw + X.wt⟩]) /\ OwnR rKey 39 w8 X.lv ls /\ Frm (fun k => k = fb \/ X.wv.ownBlock = some k \/ X.lv.ownBlock = some k) w w8 from ⟨hf8,hG8,how8,hol8,hFw8⟩)
      clear hf8 hG8 how8 hol8 hFw8
      go_wp2_with fail
      obtain ⟨hf8,hG8,how8,hol8,hFw8⟩ := unhide H8
      refine wp_region_held (S := fun w' => w'.heap[w6.heap.size]? = some (.cells #[.int .i64 l,.int .i64 z,.int .i64 (x - x % 2),.int .i64 (y - y % 2)] 39 (0,0))) (by kernel_rfl) ?_
      change wpAnyH _ _ _ _ _ _ _ _ (World.drew _)
      have hbD : Below w8.heap.size w8 (World.drew w8) := Below.drew (Below.refl _ _)
      have hS : (World.drew w8).heap[w6.heap.size]? = some (.cells #[.int .i64 l,.int .i64 z,.int .i64 (x - x % 2),.int .i64 (y - y % 2)] 39 (0,0)) := hG8
      have hfq : FBlk (World.drew w8) fb { X with wv := .slice oa4 n4 k4 } := hf8
      have howq := how8.on hbD
      have holq := hol8.on hbD
      have hFq := hFw8.then (Frm.of_below (S := fun _ => False) hbD) (fun _ _ q => q.elim)
      generalize World.drew w8 = wq at hS hfq howq holq hFq hbD ⊢
      clear hf8 hG8 how8 hol8 hFw8 hbD H8
      have hfl : fb < wq.heap.size := blk_lt hfq
      have c8 : wq.cell? ⟨fb,8,none⟩ = some X.lv := (blk_cells hfq 8).trans rfl
      have hbA := (Below.refl wq.heap.size wq).alloc (Nat.le_refl _) (.cells #[.int .i64 l,.int .i64 z,.int .i64 (x - x % 2),.int .i64 (y - y % 2)] 39)
      have hSA := blk_on hS hbA
      have hfA : FBlk (wq.alloc (.cells #[.int .i64 l,.int .i64 z,.int .i64 (x - x % 2),.int .i64 (y - y % 2)] 39)) fb _ := blk_on hfq hbA
      have c8A := (hbA.cell (p := ⟨fb,8,none⟩) hfl).trans c8
      have hat := at_new rKey 39 wq ⟨l,z,x - x % 2,y - y % 2⟩ #[.int .i64 l,.int .i64 z,.int .i64 (x - x % 2),.int .i64 (y - y % 2)] rfl
      have holA := holq.on hbA
      have howA := howq.on hbA
      obtain ⟨v9,w9,r1,r2,r3,r4⟩ := apKey holA hat (by simp; omega)
      have hFa : Frm (fun k => X.lv.ownBlock = some k) (wq.alloc (.cells #[.int .i64 l,.int .i64 z,.int .i64 (x - x % 2),.int .i64 (y - y % 2)] 39)) w9 := (Frm.rfl' _ _).grown r3 (fun k hk _ => hk)
      have hS9 := blk_frm hSA hFa (fun q => by have := unhide HLW _ q; omega)
      have hf9 : FBlk w9 fb { X with wv := .slice oa4 n4 k4 } := blk_frm hfA hFa (fun q => own_ne holA hfA (by decide) fb q rfl)
      have how9 := howA.frm hFa (fun k hk q => by obtain ⟨c1,d1⟩ := holA.ty q; exact own_ne howA d1 (by decide) k hk rfl)
      have c89 : w9.cell? ⟨fb,8,none⟩ = some X.lv := (blk_cells hf9 8).trans rfl
      have hfz := frzF hf9 8
      obtain ⟨oa9,n9,k9,rfl⟩ := r2.sl
      have hF90 : Frm (fun k => k = fb) w9 (w9.setCell ⟨fb,8,none⟩ (.slice oa9 n9 k9)) := (Frm.rfl' _ _).setCell (p := ⟨fb,8,none⟩) _ (fun _ => rfl)
      have hf0 := FBlk.set hf9 8 (.slice oa9 n9 k9) (FV.set_lv _ _)
      have hS0 := blk_frm hS9 hF90 (blk_ne hS9 hf9 (by decide))
      have hFq0 := hFq.size
      have HH : Hid ((∃ wv' lv',FBlk (w9.setCell ⟨fb,8,none⟩ (.slice oa9 n9 k9)) fb { X with wv := wv',lv := lv' } /\ OwnR rReq 138 (w9.setCell ⟨fb,8,none⟩ (.slice oa9 n9 k9)) wv' (ws ++ [⟨who,⟨l,z,x,y⟩,ver,X.nw + X.wt⟩]) /\ OwnR rKey 39 (w9.setCell ⟨fb,8,none⟩ (.slice oa9 n9 k9)) lv' (joinL ls W ⟨l,z,x - x % 2,y - y % 2⟩) /\ (∀ k,wv'.ownBlock = some k -> X.wv.ownBlock = some k \/ w.heap.size <= k) /\ (∀ k,lv'.ownBlock = some k -> X.lv.ownBlock = some k \/ w.heap.size <= k)) /\ Frm (fun k => k = fb \/ X.wv.ownBlock = some k \/ X.lv.ownBlock = some k) w (w9.setCell ⟨fb,8,none⟩ (.slice oa9 n9 k9))) := by
        refine ⟨⟨.slice oa4 n4 k4,.slice oa9 n9 k9,hf0,how9.frm hF90 (fun k hk => own_ne how9 hf9 (by decide) k hk),?_,unhide HWVF,fun k hk => ?_⟩,((hFq.then (Frm.of_below (S := fun _ => False) hbA) (fun _ _ q => q.elim)).then hFa (fun k _ q => Or.inr (Or.inr q))).then hF90 (fun k _ q => Or.inl q)⟩
        . unfold joinL; rw [unhide HBB]; exact r2.frm hF90 (fun k hk => own_ne r2 hf9 (by decide) k hk)
        . rcases r4 with q | q
          . exact Or.inl (q ▸ hk)
          . right; have := q k hk; simp at this; omega
      refine t_tk 0 rfl (.pointer (some ⟨fb,0,none⟩)) (by kernel_rfl) (fun _ _ _ h => h) rfl (fun w' hw' => by simp [go_sem]) hS ?_
      simp only [Act.put,qA,qB,qC]
      refine t_tk 1 rfl (.pointer (some ⟨fb,0,none⟩)) (by kernel_rfl) (fun _ _ _ h => h) rfl (fun w' hw' => by simp [go_sem]) hS ?_
      simp only [Act.put,qA,qB,qC]
      refine t_tk 2 rfl (.pointer (some ⟨fb,0,none⟩)) (by kernel_rfl) (fun _ _ _ h => h) rfl (fun w' hw' => by simp [go_sem]) hS ?_
      simp only [Act.put,qA,qB,qC]
      refine t_tk 3 rfl (.pointer (some ⟨fb,8,none⟩)) (by kernel_rfl) (fun _ _ _ h => h) rfl (fun w' hw' => by simp [go_sem]) hS ?_
      simp only [Act.put,qA,qB,qC]
      refine t_tk 5 rfl (.agg #[.int .i64 l,.int .i64 z,.int .i64 (x - x % 2),.int .i64 (y - y % 2)]) (by kernel_rfl) (fun _ _ _ h => h) rfl (fun w' hw' => ldcR _ _ _ 39 rfl _ rfl _ Tryz.underlying39 rfl (sz39 _ _ _ _) w6.heap.size 0 rfl _ (rng_blk hw')) hS ?_
      simp only [Act.put,qA,qB,qC]
      refine wpAnyH_all (rs := [4,6]) (by kernel_rfl) (by simp) ?_
      intro i hi
      simp only [List.mem_cons,List.not_mem_nil,or_false] at hi
      rcases hi with rfl | rfl
      . refine t_op 4 rfl rfl (X.lv) (wq) (by simp [go_sem,c8]) (hS) ?_
        simp only [Act.put,qA,qB,qC]
        refine wpAnyH_all (rs := [6]) (by kernel_rfl) (by simp) ?_
        intro i hi
        simp only [List.mem_singleton] at hi
        subst hi
        refine t_op 6 rfl rfl (.slice (some ⟨wq.heap.size,0,none⟩) 1 1) (wq.alloc (.cells #[.int .i64 l,.int .i64 z,.int .i64 (x - x % 2),.int .i64 (y - y % 2)] 39)) (bsKey l z (x - x % 2) (y - y % 2) _ _ _ rfl rfl _) (hSA) ?_
        simp only [Act.put,qA,qB,qC]
        refine wpAnyH_all (rs := [7]) (by kernel_rfl) (by simp) ?_
        intro i hi
        simp only [List.mem_singleton] at hi
        subst hi
        refine t_op 7 rfl rfl (.slice oa9 n9 k9) (w9) (exR 93 r1 _ _ _ _ rfl rfl rfl rfl) (hS9) ?_
        simp only [Act.put,qA,qB,qC]
        refine t_tk 8 rfl (.pointer (some ⟨fb,0,none⟩)) (by kernel_rfl) (fun _ _ _ h => h) rfl (fun w' hw' => by simp [go_sem]) hS9 ?_
        simp only [Act.put,qA,qB,qC]
        refine t_tk 9 rfl (.pointer (some ⟨fb,8,none⟩)) (by kernel_rfl) (fun _ _ _ h => h) rfl (fun w' hw' => by simp [go_sem]) hS9 ?_
        simp only [Act.put,qA,qB,qC]
        refine wpAnyH_all (rs := [10]) (by kernel_rfl) (by simp) ?_
        intro i hi
        simp only [List.mem_singleton] at hi
        subst hi
        refine t_skip 10 rfl rfl (w9.setCell ⟨fb,8,none⟩ (.slice oa9 n9 k9)) (stS _ _ _ _ 93 rfl (fun _ => by simp [go_sem]) fb 8 oa9 n9 k9 rfl rfl w9 c89 hfz) (hS0) ?_
        simp only [Act.put]
        refine wpAnyH_done (by kernel_rfl) ?_ _
        clear hS hfq howq holq hFq hfl c8 hbA hSA hfA c8A hat holA howA r1 r2 r3 r4 hFa hS9 hf9 how9 c89 hfz hF90 hf0 hS0 hFq0
        go_wp2_with fail
        exact bodyPost_end (results_none Tryz.results63 _ _ _) rfl ⟨rfl,unhide HH⟩
      . refine t_op 6 rfl rfl (.slice (some ⟨wq.heap.size,0,none⟩) 1 1) (wq.alloc (.cells #[.int .i64 l,.int .i64 z,.int .i64 (x - x % 2),.int .i64 (y - y % 2)] 39)) (bsKey l z (x - x % 2) (y - y % 2) _ _ _ rfl rfl _) (hSA) ?_
        simp only [Act.put,qA,qB,qC]
        refine wpAnyH_all (rs := [4]) (by kernel_rfl) (by simp) ?_
        intro i hi
        simp only [List.mem_singleton] at hi
        subst hi
        refine t_op 4 rfl rfl (X.lv) (wq.alloc (.cells #[.int .i64 l,.int .i64 z,.int .i64 (x - x % 2),.int .i64 (y - y % 2)] 39)) (by simp [go_sem,c8A]) (hSA) ?_
        simp only [Act.put,qA,qB,qC]
        refine wpAnyH_all (rs := [7]) (by kernel_rfl) (by simp) ?_
        intro i hi
        simp only [List.mem_singleton] at hi
        subst hi
        refine t_op 7 rfl rfl (.slice oa9 n9 k9) (w9) (exR 93 r1 _ _ _ _ rfl rfl rfl rfl) (hS9) ?_
        simp only [Act.put,qA,qB,qC]
        refine t_tk 8 rfl (.pointer (some ⟨fb,0,none⟩)) (by kernel_rfl) (fun _ _ _ h => h) rfl (fun w' hw' => by simp [go_sem]) hS9 ?_
        simp only [Act.put,qA,qB,qC]
        refine t_tk 9 rfl (.pointer (some ⟨fb,8,none⟩)) (by kernel_rfl) (fun _ _ _ h => h) rfl (fun w' hw' => by simp [go_sem]) hS9 ?_
        simp only [Act.put,qA,qB,qC]
        refine wpAnyH_all (rs := [10]) (by kernel_rfl) (by simp) ?_
        intro i hi
        simp only [List.mem_singleton] at hi
        subst hi
        refine t_skip 10 rfl rfl (w9.setCell ⟨fb,8,none⟩ (.slice oa9 n9 k9)) (stS _ _ _ _ 93 rfl (fun _ => by simp [go_sem]) fb 8 oa9 n9 k9 rfl rfl w9 c89 hfz) (hS0) ?_
        simp only [Act.put]
        refine wpAnyH_done (by kernel_rfl) ?_ _
        clear hS hfq howq holq hFq hfl c8 hbA hSA hfA c8A hat holA howA r1 r2 r3 r4 hFa hS9 hf9 how9 c89 hfz hF90 hf0 hS0 hFq0
        go_wp2_with fail
        exact bodyPost_end (results_none Tryz.results63 _ _ _) rfl ⟨rfl,unhide HH⟩
theorem stR (ev : Operand -> Value) (o : Oper) (x y : Operand) (ty : TypeId) (ho : o.op = .store ty x y) (cs old : Array Value) (hi : (Tryz.prog.info? ty).map (·.size) = some cs.size) (h1 : cs.all (·.oneCell') = true) (hs : old.size = cs.size) (g : Nat) (hx : ev x = .pointer (some ⟨g,0,none⟩)) (hy : ev y = .agg cs) (w : World) (hg : w.heap[g]? = some (.cells old ty (0,0))) : (execOp ev o).run Tryz.prog w = .ok .skip (w.setRow g cs) := by
  unfold execOp
  simp only [ho,hx,hy,Instr.storeAt,Instr.sureAddr,Sem.run_bind,Sem.run_pure,Result.andThen_ok,run_storeVar_row w g ty ty old cs hg hi hs h1]
theorem Frm.setRow {S : Nat -> Prop} {a b : World} (h : Frm S a b) {g : Nat} (cs : Array Value) (hg : a.heap.size <= g) : Frm S a (b.setRow g cs) := by
  have hb := below_setRow (Below.refl g b) (Nat.le_refl _) cs
  exact ⟨hb.os.trans h.os,hb.tape.trans h.tape,hb.output.trans h.output,Nat.le_trans h.size hb.size,fun k hk hs => (setRow_other (by omega) cs).trans (h.block k hk hs)⟩
theorem bytes_eq {a b : ByteArray} (h : a.toList = b.toList) : a = b := by
  rw [ByteArray.toList_eq,ByteArray.toList_eq] at h
  exact ByteArray.ext (Array.toList_inj.1 h)
theorem sz35 (n s : Int) (b t : ByteArray) : (Tryz.prog.info? 35).map (·.size) = some (#[Value.int .i64 n,Value.int .i64 s,Value.string b,Value.string t] : Array Value).size := by kernel_rfl
theorem rep_one (n s : Int) (b t : ByteArray) : (#[Value.int .i64 n,Value.int .i64 s,Value.string b,Value.string t] : Array Value).all (·.oneCell') = true := by simp [Value.oneCell']
def OnR (fb : Nat) (X : FV) (ver : Int) (LS : List Ft) (ws : List Req) (ts : List Tile) (k : K4) (tag : ByteArray) (w : World) (e : Ending) (w' : World) : Prop :=
  ∃ (r : Rep) (b : Bool),e = .returned (.tuple #[.agg r.a,.bool b]) /\
    ((tag = tagB k (stK ver k LS) /\ b = true /\ r = ⟨0,304,⟨#[]⟩,tag⟩ /\ Below w.heap.size w w') \/
     (tag ≠ tagB k (stK ver k LS) /\ ∃ t,findT ts k = some t /\ b = true /\ r = ⟨0,200,t.body,t.tag⟩ /\ (∃ tv',FBlk w' fb { X with tv := tv' } /\ OwnR rTile 136 w' tv' (outT ts t.k ++ [t]) /\ ∀ g,tv'.ownBlock = some g -> w.heap.size <= g) /\ Frm (fun k => k = fb) w w') \/
     (tag ≠ tagB k (stK ver k LS) /\ findT ts k = none /\ X.q <= ws.length /\ b = true /\ r = ⟨0,503,⟨#[]⟩,⟨#[]⟩⟩ /\ Below w.heap.size w w') \/
     (tag ≠ tagB k (stK ver k LS) /\ findT ts k = none /\ ¬ X.q <= ws.length /\ b = false /\ r = ⟨0,0,⟨#[]⟩,⟨#[]⟩⟩ /\ Below w.heap.size w w'))
set_option maxHeartbeats 12800000 in
theorem atOnce_any (fb : Nat) (X : FV) (ver : Int) (sl pv : Value) (LS PL : List Ft) (ws : List Req) (ts : List Tile) (l z x y : Int) (tag : ByteArray) (w : World) (hf : FBlk w fb X) (hs : StP w X.sb 0 ver sl pv LS PL) (hl : LS.length <= 1000) (hk : KOk ⟨l,z,x,y⟩) (hver : 0 <= ver /\ ver <= 100) (hg : Glb w) (how : OwnR rReq 138 w X.wv ws) (hot : OwnR rTile 136 w X.tv ts) (hlt : ts.length <= 1000000) :
    Calls Tryz.prog 62 #[.pointer (some ⟨fb,0,none⟩),.agg #[.int .i64 l,.int .i64 z,.int .i64 x,.int .i64 y],.string tag] w fun e w' => OnR fb X ver LS ws ts ⟨l,z,x,y⟩ tag w e w' := by
  have hlt0 := blk_lt hf
  have hwl : ∃ oa cap,X.wv = .slice oa ws.length cap := by obtain ⟨oa,cap,e,_⟩ := how.at; exact ⟨oa,cap,e⟩
  obtain ⟨wa,wc,hwv⟩ := hwl
  have hwn : ws.length <= 9223372036854775807 := by have := how.len_le; unfold maxLen at this; omega
  obtain ⟨w1,hw1⟩ : ∃ w1,w.alloc (.cells #[.int .i64 l,.int .i64 z,.int .i64 x,.int .i64 y] 39) = w1 := ⟨_,rfl⟩
  obtain ⟨w2,hw2⟩ : ∃ w2,w1.alloc (.cells #[.int .i64 0,.int .i64 0,.string ⟨#[]⟩,.string ⟨#[]⟩] 35) = w2 := ⟨_,rfl⟩
  have hb1 : Below w.heap.size w w1 := hw1 ▸ (Below.refl w.heap.size w).alloc (Nat.le_refl _) (.cells #[.int .i64 l,.int .i64 z,.int .i64 x,.int .i64 y] 39)
  have hb2 : Below w.heap.size w w2 := hw2 ▸ hb1.alloc hb1.size (.cells #[.int .i64 0,.int .i64 0,.string ⟨#[]⟩,.string ⟨#[]⟩] 35)
  have hA1 : w1.heap[w.heap.size]? = some (.cells #[.int .i64 l,.int .i64 z,.int .i64 x,.int .i64 y] 39 (0,0)) := hw1 ▸ heap_alloc_new w (.cells #[.int .i64 l,.int .i64 z,.int .i64 x,.int .i64 y] 39 (0,0))
  have hz1 : w1.heap.size = w.heap.size + 1 := by rw [<- hw1]; simp
  have hz2 : w2.heap.size = w1.heap.size + 1 := by rw [<- hw2]; simp
  have hA2 : w2.heap[w.heap.size]? = some (.cells #[.int .i64 l,.int .i64 z,.int .i64 x,.int .i64 y] 39 (0,0)) := hw2 ▸ (heap_alloc_old w1 (.cells #[.int .i64 0,.int .i64 0,.string ⟨#[]⟩,.string ⟨#[]⟩] 35) (by omega)).trans hA1
  have hB2 : w2.heap[w1.heap.size]? = some (.cells #[.int .i64 0,.int .i64 0,.string ⟨#[]⟩,.string ⟨#[]⟩] 35 (0,0)) := hw2 ▸ heap_alloc_new w1 (.cells #[.int .i64 0,.int .i64 0,.string ⟨#[]⟩,.string ⟨#[]⟩] 35 (0,0))
  have hf2 : FBlk w2 fb X := blk_on hf hb2
  have hs2 := hs.on hb2
  have c6 : w2.cell? ⟨fb,6,none⟩ = some (.pointer (some ⟨X.sb,0,none⟩)) := (FBlk.cells hf2).2.2.2.2.2.2.1
  have VE := Version_any X.sb 0 ver sl pv LS PL w2 hs2
  have TG := tagAt_any fb X ver ver sl pv LS PL l z x y w2 hf2 hs2 hl hk ⟨hver.1,by omega⟩ hver.2 (hg.on hb2)
  have hbx : ∀ (ev : Operand -> Value) (o : Oper) (p : Operand),o.op = .box 39 p -> ev p = .agg #[.int .i64 l,.int .i64 z,.int .i64 x,.int .i64 y] -> (execOp ev o).run Tryz.prog w = .ok (.value (.pointer (some ⟨w.heap.size,0,none⟩))) w1 := by
    intro ev o p ho hp
    rw [<- hw1]
    unfold execOp
    simp only [ho,hp]
    kernel_rfl
  have hal : ∀ (ev : Operand -> Value) (o : Oper),o.op = .alloc 35 -> (execOp ev o).run Tryz.prog w1 = .ok (.value (.pointer (some ⟨w1.heap.size,0,none⟩))) w2 := by
    intro ev o ho
    rw [<- hw2]
    unfold execOp
    simp only [ho]
    kernel_rfl
  have HBX := hide hbx
  have HAL := hide hal
  have hrk2 : w2.rangeAt w.heap.size 0 #[.int .i64 l,.int .i64 z,.int .i64 x,.int .i64 y].toList := rng_blk hA2
  have how2 := how.on hb2
  have hot2 := hot.on hb2
  have H2 := hide (show FBlk w2 fb X /\ w2.heap[w.heap.size]? = some (.cells #[.int .i64 l,.int .i64 z,.int .i64 x,.int .i64 y] 39 (0,0)) /\ w2.heap[w1.heap.size]? = some (.cells #[.int .i64 0,.int .i64 0,.string ⟨#[]⟩,.string ⟨#[]⟩] 35 (0,0)) /\ OwnR rTile 136 w2 X.tv ts /\ Below w.heap.size w w2 from ⟨hf2,hA2,hB2,hot2,hb2⟩)
  have HWV := hide hwv
  generalize hg2 : w1.heap.size = g2 at *
  have hzg : w.heap.size <= g2 := by omega
  have HZ1 := hide hz1
  clear hz1 hz2 hf hs how hot hb1 hb2 hA1 hA2 hB2 hf2 hs2 hbx hal how2 hot2 hw1 hw2 hg hg2 hwv
  generalize hpt : tagB ⟨l,z,x,y⟩ (stK ver ⟨l,z,x,y⟩ LS) = pt at TG
  have HPT := hide hpt
  clear hpt
  go_enter Tryz.func62,Tryz.ntmps62
  go_wp2_with (first | refine wlV _ _ (unhide HBX _ _ _ rfl rfl) rfl ?_ | refine wlV _ _ (unhide HAL _ _ rfl) rfl ?_)
  refine VE.mono ?_
  rintro e w9 ⟨rfl,rfl⟩
  clear VE c6
  go_wp2_with (refine ldG 39 #[.int .i64 l,.int .i64 z,.int .i64 x,.int .i64 y] Tryz.underlying39 rfl (sz39 _ _ _ _) w.heap.size 0 hrk2 rfl _ rfl rfl ?_)
  refine TG.mono ?_
  rintro e w3 ⟨rfl,hb3⟩
  obtain ⟨hf2,hA2,hB2,hot2,hb2⟩ := unhide H2
  have hf3 : FBlk w3 fb X := blk_on hf2 hb3
  have hA3 := blk_on hA2 hb3
  have hB3 := blk_on hB2 hb3
  have hot3 := hot2.on hb3
  have hb03 := hb2.trans (hb3.mono hb2.size)
  clear TG hrk2 H2 HBX HAL hf2 hA2 hB2 hot2 hb2 hb3
  by_cases htg : tag = pt
  . subst htg
    have hS1 := setRow_heap _ _ _ (#[.int .i64 0,.int .i64 304,.string ⟨#[]⟩,.string tag]) _ _ hB3
    have hbS := below_setRow hb03 (show w.heap.size <= g2 by omega) (#[.int .i64 0,.int .i64 304,.string ⟨#[]⟩,.string tag])
    have HS1 := hide hS1
    have HBS := hide hbS
    clear hS1 hbS hb03
    go_wp2_with (refine stG 35 #[.int .i64 0,.int .i64 304,.string ⟨#[]⟩,.string tag] #[.int .i64 0,.int .i64 0,.string ⟨#[]⟩,.string ⟨#[]⟩] (sz35 _ _ _ _) (rep_one _ _ _ _) rfl g2 hB3 rfl _ _ rfl rfl rfl ?_)
    refine bodyPost_ret (v := .tuple #[.agg #[.int .i64 0,.int .i64 304,.string ⟨#[]⟩,.string tag],.bool true]) (rct Tryz.results62 _ _ g2 35 _ (0,0) _ (.bool true) rfl rfl (unhide HS1) Tryz.underlying35 rfl (sz35 _ _ _ _)) rfl ?_
    exact ⟨⟨0,304,⟨#[]⟩,tag⟩,true,rfl,Or.inl ⟨(unhide HPT).symm,rfl,rfl,unhide HBS⟩⟩
  . have HTG := hide htg
    have htl : ¬ tag.toList = pt.toList := fun q => htg (bytes_eq q)
    have hte : (tag.toList == pt.toList) = false := by rw [beq_eq_false_iff_ne]; exact htl
    have H3 := hide (show FBlk w3 fb X /\ w3.heap[w.heap.size]? = some (.cells #[.int .i64 l,.int .i64 z,.int .i64 x,.int .i64 y] 39 (0,0)) /\ w3.heap[g2]? = some (.cells #[.int .i64 0,.int .i64 0,.string ⟨#[]⟩,.string ⟨#[]⟩] 35 (0,0)) /\ OwnR rTile 136 w3 X.tv ts /\ Below w.heap.size w w3 from ⟨hf3,hA3,hB3,hot3,hb03⟩)
    clear hf3 hA3 hB3 hot3 hb03
    go_wp2_with fail
    obtain ⟨hf3,hA3,hB3,hot3,hb03⟩ := unhide H3
    refine wp_region_held (S := fun w' => FBlk w' fb X /\ w'.heap[w.heap.size]? = some (.cells #[.int .i64 l,.int .i64 z,.int .i64 x,.int .i64 y] 39 (0,0))) (by kernel_rfl) ?_
    change wpAnyH _ _ _ _ _ _ _ _ (World.drew _)
    have hbD : Below w3.heap.size w3 (World.drew w3) := Below.drew (Below.refl _ _)
    have hS : FBlk (World.drew w3) fb X /\ (World.drew w3).heap[w.heap.size]? = some (.cells #[.int .i64 l,.int .i64 z,.int .i64 x,.int .i64 y] 39 (0,0)) := ⟨hf3,hA3⟩
    have hB4 : (World.drew w3).heap[g2]? = some (.cells #[.int .i64 0,.int .i64 0,.string ⟨#[]⟩,.string ⟨#[]⟩] 35 (0,0)) := hB3
    have hot4 := hot3.on hbD
    have hb04 := hb03.trans (hbD.mono hb03.size)
    generalize World.drew w3 = w4 at hS hB4 hot4 hb04 ⊢
    clear hf3 hA3 hB3 hot3 hb03 hbD H3
    have hF11 : ∀ W,FBlk W fb X -> W.cell? ⟨fb,11,none⟩ = some X.tv := fun W h => (FBlk.cells h).2.2.2.2.2.2.2.2.2.2.2
    have FI1 := find_any X.tv ts l z x y w4 hot4.at
    have hbA := (Below.refl w4.heap.size w4).alloc (Nat.le_refl _) (.cells (tv none) 136)
    have hSA : FBlk (w4.alloc (.cells (tv none) 136)) fb X /\ (w4.alloc (.cells (tv none) 136)).heap[w.heap.size]? = some (.cells #[.int .i64 l,.int .i64 z,.int .i64 x,.int .i64 y] 39 (0,0)) := ⟨blk_on hS.1 hbA,blk_on hS.2 hbA⟩
    have FI2 := find_any X.tv ts l z x y (w4.alloc (.cells (tv none) 136)) (hot4.on hbA).at
    generalize hfo : findT ts ⟨l,z,x,y⟩ = fo at FI1 FI2
    have HFO := hide hfo
    clear hfo
    have hsz4 := hb04.size
    refine t_tk 0 rfl (.pointer (some ⟨fb,0,none⟩)) (by kernel_rfl) (fun _ _ _ h => h) rfl (fun w' hw' => by simp [go_sem]) hS ?_
    simp only [Act.put,qA,qB,qC]
    refine t_tk 1 rfl (.pointer (some ⟨fb,0,none⟩)) (by kernel_rfl) (fun _ _ _ h => h) rfl (fun w' hw' => by simp [go_sem]) hS ?_
    simp only [Act.put,qA,qB,qC]
    refine t_tk 2 rfl (.pointer (some ⟨fb,10,none⟩)) (by kernel_rfl) (fun _ _ _ h => h) rfl (fun w' hw' => by simp [go_sem]) hS ?_
    simp only [Act.put,qA,qB,qC]
    refine t_tk 3 rfl (.pointer (some ⟨fb,11,none⟩)) (by kernel_rfl) (fun _ _ _ h => h) rfl (fun w' hw' => by simp [go_sem]) hS ?_
    simp only [Act.put,qA,qB,qC]
    refine t_tk 4 rfl (X.tv) (by kernel_rfl) (fun _ _ _ h => h) rfl (fun w' hw' => by simp [go_sem,hF11 w' hw'.1]) hS ?_
    simp only [Act.put,qA,qB,qC]
    refine t_tk 5 rfl (.agg #[.int .i64 l,.int .i64 z,.int .i64 x,.int .i64 y]) (by kernel_rfl) (fun _ _ _ h => h) rfl (fun w' hw' => ldcR _ _ _ 39 rfl _ rfl _ Tryz.underlying39 rfl (sz39 _ _ _ _) w.heap.size 0 rfl _ (rng_blk hw'.2)) hS ?_
    simp only [Act.put,qA,qB,qC]
    refine wpAnyH_all (rs := [6,10]) (by kernel_rfl) (by simp) ?_
    intro i hi
    simp only [List.mem_cons,List.not_mem_nil,or_false] at hi
    rcases hi with rfl | rfl
    . refine t_callG 6 rfl rfl 97 #[X.tv,.agg #[.int .i64 l,.int .i64 z,.int .i64 x,.int .i64 y]] (by simp [go_sem]) (.tuple #[.agg (tv fo),.bool fo.isSome]) _ FI1 ?_
      intro w5 hb5
      have hf5 : FBlk w5 fb X := blk_on hS.1 hb5
      have hA5 := blk_on hS.2 hb5
      have hB5 := blk_on hB4 hb5
      have hot5 := hot4.on hb5
      have hb05 := hb04.trans (hb5.mono hb04.size)
      have hS5 : FBlk w5 fb X /\ w5.heap[w.heap.size]? = some (.cells #[.int .i64 l,.int .i64 z,.int .i64 x,.int .i64 y] 39 (0,0)) := ⟨hf5,hA5⟩
      refine ⟨hS5,?_⟩
      simp only [Act.put,qA,qB,qC]
      refine t_tk 7 rfl (.tuple #[.agg (tv fo),.bool fo.isSome]) (by kernel_rfl) (fun _ _ _ h => h) rfl (fun w' hw' => by simp [go_sem]) hS5 ?_
      simp only [Act.put,qA,qB,qC]
      refine t_tk 8 rfl (.agg (tv fo)) (by kernel_rfl) (fun _ _ _ h => h) rfl (fun w' hw' => by simp [go_sem]) hS5 ?_
      simp only [Act.put,qA,qB,qC]
      refine t_tk 9 rfl (.bool fo.isSome) (by kernel_rfl) (fun _ _ _ h => h) rfl (fun w' hw' => by simp [go_sem]) hS5 ?_
      simp only [Act.put,qA,qB,qC]
      have hbT := (Below.refl w5.heap.size w5).alloc (Nat.le_refl _) (.cells (tv none) 136)
      have hT0 := heap_alloc_new w5 (.cells (tv none) 136 (0,0))
      obtain ⟨w6,hw6⟩ : ∃ w6,w5.alloc (.cells (tv none) 136) = w6 := ⟨_,rfl⟩
      have hal6 : ∀ (ev : Operand -> Value) (o : Oper),o.op = .alloc 136 -> (execOp ev o).run Tryz.prog w5 = .ok (.value (.pointer (some ⟨w5.heap.size,0,none⟩))) w6 := by
        intro ev o ho
        rw [<- hw6]
        unfold execOp
        simp only [ho]
        kernel_rfl
      rw [hw6] at hbT hT0
      have hS6 : FBlk w6 fb X /\ w6.heap[w.heap.size]? = some (.cells #[.int .i64 l,.int .i64 z,.int .i64 x,.int .i64 y] 39 (0,0)) := ⟨blk_on hf5 hbT,blk_on hA5 hbT⟩
      have hB6 := blk_on hB5 hbT
      have hot6 := hot5.on hbT
      have hb06 := hb05.trans (hbT.mono hb05.size)
      have hg6 : g2 < w5.heap.size := blk_lt hB5
      have OTL : ∀ g,X.tv.ownBlock = some g -> g < w5.heap.size := fun g hg => hot5.lt hg
      obtain ⟨g3,hg3⟩ : ∃ g3,w5.heap.size = g3 := ⟨_,rfl⟩
      rw [hg3] at hT0 hal6 hg6 OTL
      refine wpAnyH_all (rs := [10]) (by kernel_rfl) (by simp) ?_
      intro i hi
      simp only [List.mem_singleton] at hi
      subst hi
      refine t_op 10 rfl rfl (.pointer (some ⟨g3,0,none⟩)) (w6) (hal6 _ _ rfl) (hS6) ?_
      simp only [Act.put,qA,qB,qC]
      have hT7 := setRow_heap _ _ _ (tv fo) _ _ hT0
      have hb07 := below_setRow hb06 (show w.heap.size <= g3 by omega) (tv fo)
      have hB7 := (setRow_other (w := w6) (show g3 ≠ g2 by omega) (tv fo)).trans hB6
      have hf7 : FBlk (w6.setRow g3 (tv fo)) fb X := (setRow_other (w := w6) (show g3 ≠ fb by omega) (tv fo)).trans hS6.1
      have hA7 := (setRow_other (w := w6) (show g3 ≠ w.heap.size by omega) (tv fo)).trans hS6.2
      have hot7 : OwnR rTile 136 (w6.setRow g3 (tv fo)) X.tv ts := hot6.same fun g hg => setRow_other (w := w6) (show g3 ≠ g by have := show g < g3 from OTL g hg; omega) (tv fo)
      have hst7 : ∀ (ev : Operand -> Value) (o : Oper) (p q : Operand),o.op = .store 136 p q -> ev p = .pointer (some ⟨g3,0,none⟩) -> ev q = .agg (tv fo) -> (execOp ev o).run Tryz.prog w6 = .ok .skip (w6.setRow g3 (tv fo)) := fun ev o p q ho hp hq => stR ev o p q 136 ho (tv fo) (tv none) (sz136 _) (tv_one _) (by cases fo <;> rfl) g3 hp hq w6 hT0
      generalize w6.setRow g3 (tv fo) = w7 at hT7 hb07 hB7 hf7 hA7 hot7 hst7
      have hS7 : FBlk w7 fb X /\ w7.heap[w.heap.size]? = some (.cells #[.int .i64 l,.int .i64 z,.int .i64 x,.int .i64 y] 39 (0,0)) := ⟨hf7,hA7⟩
      refine wpAnyH_all (rs := [11]) (by kernel_rfl) (by simp) ?_
      intro i hi
      simp only [List.mem_singleton] at hi
      subst hi
      refine t_skip 11 rfl rfl (w7) (hst7 _ _ _ _ rfl rfl rfl) (hS7) ?_
      simp only [Act.put]
      refine t_tk 12 rfl (.bool fo.isSome) (by kernel_rfl) (fun _ _ _ h => h) rfl (fun w' hw' => by simp [go_sem]) hS7 ?_
      simp only [Act.put,qA,qB,qC]
      refine wpAnyH_done (by kernel_rfl) ?_ _
      cases fo with
      | some T =>
        obtain ⟨⟨tl,tz,tx,ty⟩,tb,tt⟩ := T
        have H7 := hide (show FBlk w7 fb X /\ w7.heap[g3]? = some (.cells (tv (some ⟨⟨tl,tz,tx,ty⟩,tb,tt⟩)) 136 (0,0)) /\ w7.heap[g2]? = some (.cells #[.int .i64 0,.int .i64 0,.string ⟨#[]⟩,.string ⟨#[]⟩] 35 (0,0)) /\ OwnR rTile 136 w7 X.tv ts /\ Below w.heap.size w w7 from ⟨hf7,hT7,hB7,hot7,hb07⟩)
        clear hf7 hT7 hB7 hot7 hb07 hS7 hst7 hT0 hS6 hB6 hot6 hb06 hA7 FI1 FI2 hbA hSA hS hB4 hot4 hb04 hF11
        simp only [Option.isSome_some]
        go_wp2_with fail
        obtain ⟨hf7,hT7,hB7,hot7,hb07⟩ := unhide H7
        refine wp_region_held (S := fun w' => w'.heap[g3]? = some (.cells (tv (some ⟨⟨tl,tz,tx,ty⟩,tb,tt⟩)) 136 (0,0))) (by kernel_rfl) ?_
        change wpAnyH _ _ _ _ _ _ _ _ (World.drew _)
        have hbD : Below w7.heap.size w7 (World.drew w7) := Below.drew (Below.refl _ _)
        have hS8 : (World.drew w7).heap[g3]? = some (.cells (tv (some ⟨⟨tl,tz,tx,ty⟩,tb,tt⟩)) 136 (0,0)) := hT7
        have hf8 : FBlk (World.drew w7) fb X := hf7
        have hB8 : (World.drew w7).heap[g2]? = some (.cells #[.int .i64 0,.int .i64 0,.string ⟨#[]⟩,.string ⟨#[]⟩] 35 (0,0)) := hB7
        have hot8 := hot7.on hbD
        have hb08 := hb07.trans (hbD.mono hb07.size)
        generalize World.drew w7 = w8 at hS8 hf8 hB8 hot8 hb08 ⊢
        clear hf7 hT7 hB7 hot7 hb07 hbD H7
        have US := use_any fb X ts tl tz tx ty tb tt w8 hf8 hot8 hlt
        refine t_tk 0 rfl (.pointer (some ⟨fb,0,none⟩)) (by kernel_rfl) (fun _ _ _ h => h) rfl (fun w' hw' => by simp [go_sem]) hS8 ?_
        simp only [Act.put,qA,qB,qC]
        refine t_tk 1 rfl (.pointer (some ⟨fb,0,none⟩)) (by kernel_rfl) (fun _ _ _ h => h) rfl (fun w' hw' => by simp [go_sem]) hS8 ?_
        simp only [Act.put,qA,qB,qC]
        refine t_tk 2 rfl (.pointer (some ⟨fb,10,none⟩)) (by kernel_rfl) (fun _ _ _ h => h) rfl (fun w' hw' => by simp [go_sem]) hS8 ?_
        simp only [Act.put,qA,qB,qC]
        refine t_tk 3 rfl (.agg (tv (some ⟨⟨tl,tz,tx,ty⟩,tb,tt⟩))) (by kernel_rfl) (fun _ _ _ h => h) rfl (fun w' hw' => ldcR _ _ _ 136 rfl _ rfl _ Tryz.underlying136 rfl (sz136 _) g3 0 rfl _ (rng_blk hw')) hS8 ?_
        simp only [Act.put,qA,qB,qC]
        refine wpAnyH_all (rs := [4]) (by kernel_rfl) (by simp) ?_
        intro i hi
        simp only [List.mem_singleton] at hi
        subst hi
        refine t_callG 4 rfl rfl 98 #[.pointer (some ⟨fb,10,none⟩),.agg (tv (some ⟨⟨tl,tz,tx,ty⟩,tb,tt⟩))] (by simp [go_sem]) (.tuple #[]) _ US ?_
        rintro w9 ⟨⟨tv9,hf9,hot9,hfr9⟩,hF9⟩
        have hT9 := blk_frm hS8 hF9 (blk_ne hS8 hf8 (by decide))
        have hB9 := blk_frm hB8 hF9 (blk_ne hB8 hf8 (by decide))
        have hF09 : Frm (fun k => k = fb) w w9 := (Frm.of_below hb08).trans (hF9.mono (fun _ _ q => q))
        refine ⟨hT9,?_⟩
        simp only [Act.put,qA,qB,qC]
        refine wpAnyH_done (by kernel_rfl) ?_ _
        have hRE := setRow_heap _ _ _ (#[.int .i64 0,.int .i64 200,.string tb,.string tt]) _ _ hB9
        have hfx : FBlk (w9.setRow g2 (#[.int .i64 0,.int .i64 200,.string tb,.string tt])) fb { X with tv := tv9 } := (setRow_other (w := w9) (show g2 ≠ fb by omega) _).trans hf9
        have hotx : OwnR rTile 136 (w9.setRow g2 (#[.int .i64 0,.int .i64 200,.string tb,.string tt])) tv9 (outT ts ⟨tl,tz,tx,ty⟩ ++ [⟨⟨tl,tz,tx,ty⟩,tb,tt⟩]) := hot9.same fun g hg => setRow_other (w := w9) (show g2 ≠ g by have := own_ne hot9 hB9 (by decide) g hg; omega) _
        have hFx : Frm (fun k => k = fb) w (w9.setRow g2 (#[.int .i64 0,.int .i64 200,.string tb,.string tt])) := hF09.setRow _ (by omega)
        have q4 := (blk_cells hT9 4).trans (show _ = some (Value.string tb) from rfl)
        have q5 := (blk_cells hT9 5).trans (show _ = some (Value.string tt) from rfl)
        have HH : Hid (OnR fb X ver LS ws ts ⟨l,z,x,y⟩ tag w (.returned (.tuple #[.agg #[.int .i64 0,.int .i64 200,.string tb,.string tt],.bool true])) (w9.setRow g2 (#[.int .i64 0,.int .i64 200,.string tb,.string tt]))) := ⟨⟨0,200,tb,tt⟩,true,rfl,Or.inr (Or.inl ⟨fun q => unhide HTG (q.trans (unhide HPT)),⟨⟨tl,tz,tx,ty⟩,tb,tt⟩,unhide HFO,rfl,rfl,⟨tv9,hfx,hotx,fun g hg => by have := hfr9 g hg; have := hb08.size; omega⟩,hFx⟩)⟩
        have HRE := hide hRE
        clear hS8 hf8 hB8 hot8 hb08 US hf9 hot9 hfr9 hF9 hT9 hF09 hfx hotx hFx hRE
        go_wp2_with (refine stG 35 #[.int .i64 0,.int .i64 200,.string tb,.string tt] #[.int .i64 0,.int .i64 0,.string ⟨#[]⟩,.string ⟨#[]⟩] (sz35 _ _ _ _) (rep_one _ _ _ _) rfl g2 hB9 rfl _ _ rfl rfl rfl ?_)
        exact bodyPost_ret (v := .tuple #[.agg #[.int .i64 0,.int .i64 200,.string tb,.string tt],.bool true]) (rct Tryz.results62 _ _ g2 35 #[.int .i64 0,.int .i64 200,.string tb,.string tt] (0,0) _ (.bool true) rfl rfl (unhide HRE) Tryz.underlying35 rfl (sz35 _ _ _ _)) rfl (unhide HH)
      | none =>
        have c0 : w7.cell? ⟨fb,0,none⟩ = some (.int .i64 X.q) := (FBlk.cells hf7).1
        have c7 : w7.cell? ⟨fb,7,none⟩ = some (.slice wa ws.length wc) := by rw [<- unhide HWV]; exact (FBlk.cells hf7).2.2.2.2.2.2.2.1
        have H7 := hide (show w7.heap[g2]? = some (.cells #[.int .i64 0,.int .i64 0,.string ⟨#[]⟩,.string ⟨#[]⟩] 35 (0,0)) /\ Below w.heap.size w w7 from ⟨hB7,hb07⟩)
        clear hf7 hT7 hB7 hot7 hb07 hS7 hst7 hT0 hS6 hB6 hot6 hb06 hA7 FI1 FI2 hbA hSA hS hB4 hot4 hb04 hF11
        simp only [Option.isSome_none]
        by_cases hq : X.q <= (ws.length : Int)
        . have hqd : decide (X.q <= (ws.length : Int)) = true := by simp [hq]
          go_wp2_with fail
          go_quiet (fail)
          obtain ⟨hB7,hb07⟩ := unhide H7
          have hB8 := blk_on hB7 (dnB w7 nq)
          have hb08 := hb07.trans ((dnB w7 nq).mono hb07.size)
          generalize w7.drewN nq = w8 at hB8 hb08 ⊢
          have hRE := setRow_heap _ _ _ (#[.int .i64 0,.int .i64 503,.string ⟨#[]⟩,.string ⟨#[]⟩]) _ _ hB8
          have HH : Hid (OnR fb X ver LS ws ts ⟨l,z,x,y⟩ tag w (.returned (.tuple #[.agg #[.int .i64 0,.int .i64 503,.string ⟨#[]⟩,.string ⟨#[]⟩],.bool true])) (w8.setRow g2 (#[.int .i64 0,.int .i64 503,.string ⟨#[]⟩,.string ⟨#[]⟩]))) := ⟨⟨0,503,⟨#[]⟩,⟨#[]⟩⟩,true,rfl,Or.inr (Or.inr (Or.inl ⟨fun q => unhide HTG (q.trans (unhide HPT)),unhide HFO,hq,rfl,rfl,below_setRow hb08 hzg _⟩))⟩
          have HRE := hide hRE
          clear hRE hB7 hb07 hb08 H7
          go_wp2_with (refine stG 35 (#[.int .i64 0,.int .i64 503,.string ⟨#[]⟩,.string ⟨#[]⟩]) #[.int .i64 0,.int .i64 0,.string ⟨#[]⟩,.string ⟨#[]⟩] (sz35 _ _ _ _) (rep_one _ _ _ _) rfl g2 hB8 rfl _ _ rfl rfl rfl ?_)
          exact bodyPost_ret (v := .tuple #[.agg #[.int .i64 0,.int .i64 503,.string ⟨#[]⟩,.string ⟨#[]⟩],.bool true]) (rct Tryz.results62 _ _ g2 35 (#[.int .i64 0,.int .i64 503,.string ⟨#[]⟩,.string ⟨#[]⟩]) (0,0) _ (.bool true) rfl rfl (unhide HRE) Tryz.underlying35 rfl (sz35 _ _ _ _)) rfl (unhide HH)
        . have hqd : decide (X.q <= (ws.length : Int)) = false := by simp [hq]
          go_wp2_with fail
          go_quiet (fail)
          obtain ⟨hB7,hb07⟩ := unhide H7
          have hB8 := blk_on hB7 (dnB w7 nq)
          have hb08 := hb07.trans ((dnB w7 nq).mono hb07.size)
          generalize w7.drewN nq = w8 at hB8 hb08 ⊢
          have hRE := setRow_heap _ _ _ (#[.int .i64 0,.int .i64 0,.string ⟨#[]⟩,.string ⟨#[]⟩]) _ _ hB8
          have HH : Hid (OnR fb X ver LS ws ts ⟨l,z,x,y⟩ tag w (.returned (.tuple #[.agg #[.int .i64 0,.int .i64 0,.string ⟨#[]⟩,.string ⟨#[]⟩],.bool false])) (w8.setRow g2 (#[.int .i64 0,.int .i64 0,.string ⟨#[]⟩,.string ⟨#[]⟩]))) := ⟨⟨0,0,⟨#[]⟩,⟨#[]⟩⟩,false,rfl,Or.inr (Or.inr (Or.inr ⟨fun q => unhide HTG (q.trans (unhide HPT)),unhide HFO,by omega,rfl,rfl,below_setRow hb08 hzg _⟩))⟩
          have HRE := hide hRE
          clear hRE hB7 hb07 hb08 H7
          go_wp2_with (refine stG 35 (#[.int .i64 0,.int .i64 0,.string ⟨#[]⟩,.string ⟨#[]⟩]) #[.int .i64 0,.int .i64 0,.string ⟨#[]⟩,.string ⟨#[]⟩] (sz35 _ _ _ _) (rep_one _ _ _ _) rfl g2 hB8 rfl _ _ rfl rfl rfl ?_)
          exact bodyPost_ret (v := .tuple #[.agg #[.int .i64 0,.int .i64 0,.string ⟨#[]⟩,.string ⟨#[]⟩],.bool false]) (rct Tryz.results62 _ _ g2 35 (#[.int .i64 0,.int .i64 0,.string ⟨#[]⟩,.string ⟨#[]⟩]) (0,0) _ (.bool false) rfl rfl (unhide HRE) Tryz.underlying35 rfl (sz35 _ _ _ _)) rfl (unhide HH)
    . obtain ⟨w5,hw5⟩ : ∃ w5,w4.alloc (.cells (tv none) 136) = w5 := ⟨_,rfl⟩
      have hT5 := heap_alloc_new w4 (.cells (tv none) 136 (0,0))
      have hal5 : ∀ (ev : Operand -> Value) (o : Oper),o.op = .alloc 136 -> (execOp ev o).run Tryz.prog w4 = .ok (.value (.pointer (some ⟨w4.heap.size,0,none⟩))) w5 := by
        intro ev o ho
        rw [<- hw5]
        unfold execOp
        simp only [ho]
        kernel_rfl
      rw [hw5] at hbA hSA FI2 hT5
      have hB5 := blk_on hB4 hbA
      have hot5 := hot4.on hbA
      have hb05 := hb04.trans (hbA.mono hb04.size)
      have hg6 : g2 < w4.heap.size := blk_lt hB4
      have OTL : ∀ g,X.tv.ownBlock = some g -> g < w4.heap.size := fun g hg => hot4.lt hg
      obtain ⟨g3,hg3⟩ : ∃ g3,w4.heap.size = g3 := ⟨_,rfl⟩
      rw [hg3] at hT5 hal5 hg6 OTL
      refine t_op 10 rfl rfl (.pointer (some ⟨g3,0,none⟩)) (w5) (hal5 _ _ rfl) (hSA) ?_
      simp only [Act.put,qA,qB,qC]
      refine wpAnyH_all (rs := [6]) (by kernel_rfl) (by simp) ?_
      intro i hi
      simp only [List.mem_singleton] at hi
      subst hi
      refine t_callG 6 rfl rfl 97 #[X.tv,.agg #[.int .i64 l,.int .i64 z,.int .i64 x,.int .i64 y]] (by simp [go_sem]) (.tuple #[.agg (tv fo),.bool fo.isSome]) _ FI2 ?_
      intro w6 hb6
      have hS6 : FBlk w6 fb X /\ w6.heap[w.heap.size]? = some (.cells #[.int .i64 l,.int .i64 z,.int .i64 x,.int .i64 y] 39 (0,0)) := ⟨blk_on hSA.1 hb6,blk_on hSA.2 hb6⟩
      have hB6 := blk_on hB5 hb6
      have hot6 := hot5.on hb6
      have hT0 := blk_on hT5 hb6
      have hb06 := hb05.trans (hb6.mono hb05.size)
      refine ⟨hS6,?_⟩
      simp only [Act.put,qA,qB,qC]
      refine t_tk 7 rfl (.tuple #[.agg (tv fo),.bool fo.isSome]) (by kernel_rfl) (fun _ _ _ h => h) rfl (fun w' hw' => by simp [go_sem]) hS6 ?_
      simp only [Act.put,qA,qB,qC]
      refine t_tk 8 rfl (.agg (tv fo)) (by kernel_rfl) (fun _ _ _ h => h) rfl (fun w' hw' => by simp [go_sem]) hS6 ?_
      simp only [Act.put,qA,qB,qC]
      refine t_tk 9 rfl (.bool fo.isSome) (by kernel_rfl) (fun _ _ _ h => h) rfl (fun w' hw' => by simp [go_sem]) hS6 ?_
      simp only [Act.put,qA,qB,qC]
      have hT7 := setRow_heap _ _ _ (tv fo) _ _ hT0
      have hb07 := below_setRow hb06 (show w.heap.size <= g3 by omega) (tv fo)
      have hB7 := (setRow_other (w := w6) (show g3 ≠ g2 by omega) (tv fo)).trans hB6
      have hf7 : FBlk (w6.setRow g3 (tv fo)) fb X := (setRow_other (w := w6) (show g3 ≠ fb by omega) (tv fo)).trans hS6.1
      have hA7 := (setRow_other (w := w6) (show g3 ≠ w.heap.size by omega) (tv fo)).trans hS6.2
      have hot7 : OwnR rTile 136 (w6.setRow g3 (tv fo)) X.tv ts := hot6.same fun g hg => setRow_other (w := w6) (show g3 ≠ g by have := show g < g3 from OTL g hg; omega) (tv fo)
      have hst7 : ∀ (ev : Operand -> Value) (o : Oper) (p q : Operand),o.op = .store 136 p q -> ev p = .pointer (some ⟨g3,0,none⟩) -> ev q = .agg (tv fo) -> (execOp ev o).run Tryz.prog w6 = .ok .skip (w6.setRow g3 (tv fo)) := fun ev o p q ho hp hq => stR ev o p q 136 ho (tv fo) (tv none) (sz136 _) (tv_one _) (by cases fo <;> rfl) g3 hp hq w6 hT0
      generalize w6.setRow g3 (tv fo) = w7 at hT7 hb07 hB7 hf7 hA7 hot7 hst7
      have hS7 : FBlk w7 fb X /\ w7.heap[w.heap.size]? = some (.cells #[.int .i64 l,.int .i64 z,.int .i64 x,.int .i64 y] 39 (0,0)) := ⟨hf7,hA7⟩
      refine wpAnyH_all (rs := [11]) (by kernel_rfl) (by simp) ?_
      intro i hi
      simp only [List.mem_singleton] at hi
      subst hi
      refine t_skip 11 rfl rfl (w7) (hst7 _ _ _ _ rfl rfl rfl) (hS7) ?_
      simp only [Act.put]
      refine t_tk 12 rfl (.bool fo.isSome) (by kernel_rfl) (fun _ _ _ h => h) rfl (fun w' hw' => by simp [go_sem]) hS7 ?_
      simp only [Act.put,qA,qB,qC]
      refine wpAnyH_done (by kernel_rfl) ?_ _
      cases fo with
      | some T =>
        obtain ⟨⟨tl,tz,tx,ty⟩,tb,tt⟩ := T
        have H7 := hide (show FBlk w7 fb X /\ w7.heap[g3]? = some (.cells (tv (some ⟨⟨tl,tz,tx,ty⟩,tb,tt⟩)) 136 (0,0)) /\ w7.heap[g2]? = some (.cells #[.int .i64 0,.int .i64 0,.string ⟨#[]⟩,.string ⟨#[]⟩] 35 (0,0)) /\ OwnR rTile 136 w7 X.tv ts /\ Below w.heap.size w w7 from ⟨hf7,hT7,hB7,hot7,hb07⟩)
        clear hf7 hT7 hB7 hot7 hb07 hS7 hst7 hT0 hS6 hB6 hot6 hb06 hA7 FI1 FI2 hbA hSA hS hB4 hot4 hb04 hF11
        simp only [Option.isSome_some]
        go_wp2_with fail
        obtain ⟨hf7,hT7,hB7,hot7,hb07⟩ := unhide H7
        refine wp_region_held (S := fun w' => w'.heap[g3]? = some (.cells (tv (some ⟨⟨tl,tz,tx,ty⟩,tb,tt⟩)) 136 (0,0))) (by kernel_rfl) ?_
        change wpAnyH _ _ _ _ _ _ _ _ (World.drew _)
        have hbD : Below w7.heap.size w7 (World.drew w7) := Below.drew (Below.refl _ _)
        have hS8 : (World.drew w7).heap[g3]? = some (.cells (tv (some ⟨⟨tl,tz,tx,ty⟩,tb,tt⟩)) 136 (0,0)) := hT7
        have hf8 : FBlk (World.drew w7) fb X := hf7
        have hB8 : (World.drew w7).heap[g2]? = some (.cells #[.int .i64 0,.int .i64 0,.string ⟨#[]⟩,.string ⟨#[]⟩] 35 (0,0)) := hB7
        have hot8 := hot7.on hbD
        have hb08 := hb07.trans (hbD.mono hb07.size)
        generalize World.drew w7 = w8 at hS8 hf8 hB8 hot8 hb08 ⊢
        clear hf7 hT7 hB7 hot7 hb07 hbD H7
        have US := use_any fb X ts tl tz tx ty tb tt w8 hf8 hot8 hlt
        refine t_tk 0 rfl (.pointer (some ⟨fb,0,none⟩)) (by kernel_rfl) (fun _ _ _ h => h) rfl (fun w' hw' => by simp [go_sem]) hS8 ?_
        simp only [Act.put,qA,qB,qC]
        refine t_tk 1 rfl (.pointer (some ⟨fb,0,none⟩)) (by kernel_rfl) (fun _ _ _ h => h) rfl (fun w' hw' => by simp [go_sem]) hS8 ?_
        simp only [Act.put,qA,qB,qC]
        refine t_tk 2 rfl (.pointer (some ⟨fb,10,none⟩)) (by kernel_rfl) (fun _ _ _ h => h) rfl (fun w' hw' => by simp [go_sem]) hS8 ?_
        simp only [Act.put,qA,qB,qC]
        refine t_tk 3 rfl (.agg (tv (some ⟨⟨tl,tz,tx,ty⟩,tb,tt⟩))) (by kernel_rfl) (fun _ _ _ h => h) rfl (fun w' hw' => ldcR _ _ _ 136 rfl _ rfl _ Tryz.underlying136 rfl (sz136 _) g3 0 rfl _ (rng_blk hw')) hS8 ?_
        simp only [Act.put,qA,qB,qC]
        refine wpAnyH_all (rs := [4]) (by kernel_rfl) (by simp) ?_
        intro i hi
        simp only [List.mem_singleton] at hi
        subst hi
        refine t_callG 4 rfl rfl 98 #[.pointer (some ⟨fb,10,none⟩),.agg (tv (some ⟨⟨tl,tz,tx,ty⟩,tb,tt⟩))] (by simp [go_sem]) (.tuple #[]) _ US ?_
        rintro w9 ⟨⟨tv9,hf9,hot9,hfr9⟩,hF9⟩
        have hT9 := blk_frm hS8 hF9 (blk_ne hS8 hf8 (by decide))
        have hB9 := blk_frm hB8 hF9 (blk_ne hB8 hf8 (by decide))
        have hF09 : Frm (fun k => k = fb) w w9 := (Frm.of_below hb08).trans (hF9.mono (fun _ _ q => q))
        refine ⟨hT9,?_⟩
        simp only [Act.put,qA,qB,qC]
        refine wpAnyH_done (by kernel_rfl) ?_ _
        have hRE := setRow_heap _ _ _ (#[.int .i64 0,.int .i64 200,.string tb,.string tt]) _ _ hB9
        have hfx : FBlk (w9.setRow g2 (#[.int .i64 0,.int .i64 200,.string tb,.string tt])) fb { X with tv := tv9 } := (setRow_other (w := w9) (show g2 ≠ fb by omega) _).trans hf9
        have hotx : OwnR rTile 136 (w9.setRow g2 (#[.int .i64 0,.int .i64 200,.string tb,.string tt])) tv9 (outT ts ⟨tl,tz,tx,ty⟩ ++ [⟨⟨tl,tz,tx,ty⟩,tb,tt⟩]) := hot9.same fun g hg => setRow_other (w := w9) (show g2 ≠ g by have := own_ne hot9 hB9 (by decide) g hg; omega) _
        have hFx : Frm (fun k => k = fb) w (w9.setRow g2 (#[.int .i64 0,.int .i64 200,.string tb,.string tt])) := hF09.setRow _ (by omega)
        have q4 := (blk_cells hT9 4).trans (show _ = some (Value.string tb) from rfl)
        have q5 := (blk_cells hT9 5).trans (show _ = some (Value.string tt) from rfl)
        have HH : Hid (OnR fb X ver LS ws ts ⟨l,z,x,y⟩ tag w (.returned (.tuple #[.agg #[.int .i64 0,.int .i64 200,.string tb,.string tt],.bool true])) (w9.setRow g2 (#[.int .i64 0,.int .i64 200,.string tb,.string tt]))) := ⟨⟨0,200,tb,tt⟩,true,rfl,Or.inr (Or.inl ⟨fun q => unhide HTG (q.trans (unhide HPT)),⟨⟨tl,tz,tx,ty⟩,tb,tt⟩,unhide HFO,rfl,rfl,⟨tv9,hfx,hotx,fun g hg => by have := hfr9 g hg; have := hb08.size; omega⟩,hFx⟩)⟩
        have HRE := hide hRE
        clear hS8 hf8 hB8 hot8 hb08 US hf9 hot9 hfr9 hF9 hT9 hF09 hfx hotx hFx hRE
        go_wp2_with (refine stG 35 #[.int .i64 0,.int .i64 200,.string tb,.string tt] #[.int .i64 0,.int .i64 0,.string ⟨#[]⟩,.string ⟨#[]⟩] (sz35 _ _ _ _) (rep_one _ _ _ _) rfl g2 hB9 rfl _ _ rfl rfl rfl ?_)
        exact bodyPost_ret (v := .tuple #[.agg #[.int .i64 0,.int .i64 200,.string tb,.string tt],.bool true]) (rct Tryz.results62 _ _ g2 35 #[.int .i64 0,.int .i64 200,.string tb,.string tt] (0,0) _ (.bool true) rfl rfl (unhide HRE) Tryz.underlying35 rfl (sz35 _ _ _ _)) rfl (unhide HH)
      | none =>
        have c0 : w7.cell? ⟨fb,0,none⟩ = some (.int .i64 X.q) := (FBlk.cells hf7).1
        have c7 : w7.cell? ⟨fb,7,none⟩ = some (.slice wa ws.length wc) := by rw [<- unhide HWV]; exact (FBlk.cells hf7).2.2.2.2.2.2.2.1
        have H7 := hide (show w7.heap[g2]? = some (.cells #[.int .i64 0,.int .i64 0,.string ⟨#[]⟩,.string ⟨#[]⟩] 35 (0,0)) /\ Below w.heap.size w w7 from ⟨hB7,hb07⟩)
        clear hf7 hT7 hB7 hot7 hb07 hS7 hst7 hT0 hS6 hB6 hot6 hb06 hA7 FI1 FI2 hbA hSA hS hB4 hot4 hb04 hF11
        simp only [Option.isSome_none]
        by_cases hq : X.q <= (ws.length : Int)
        . have hqd : decide (X.q <= (ws.length : Int)) = true := by simp [hq]
          go_wp2_with fail
          go_quiet (fail)
          obtain ⟨hB7,hb07⟩ := unhide H7
          have hB8 := blk_on hB7 (dnB w7 nq)
          have hb08 := hb07.trans ((dnB w7 nq).mono hb07.size)
          generalize w7.drewN nq = w8 at hB8 hb08 ⊢
          have hRE := setRow_heap _ _ _ (#[.int .i64 0,.int .i64 503,.string ⟨#[]⟩,.string ⟨#[]⟩]) _ _ hB8
          have HH : Hid (OnR fb X ver LS ws ts ⟨l,z,x,y⟩ tag w (.returned (.tuple #[.agg #[.int .i64 0,.int .i64 503,.string ⟨#[]⟩,.string ⟨#[]⟩],.bool true])) (w8.setRow g2 (#[.int .i64 0,.int .i64 503,.string ⟨#[]⟩,.string ⟨#[]⟩]))) := ⟨⟨0,503,⟨#[]⟩,⟨#[]⟩⟩,true,rfl,Or.inr (Or.inr (Or.inl ⟨fun q => unhide HTG (q.trans (unhide HPT)),unhide HFO,hq,rfl,rfl,below_setRow hb08 hzg _⟩))⟩
          have HRE := hide hRE
          clear hRE hB7 hb07 hb08 H7
          go_wp2_with (refine stG 35 (#[.int .i64 0,.int .i64 503,.string ⟨#[]⟩,.string ⟨#[]⟩]) #[.int .i64 0,.int .i64 0,.string ⟨#[]⟩,.string ⟨#[]⟩] (sz35 _ _ _ _) (rep_one _ _ _ _) rfl g2 hB8 rfl _ _ rfl rfl rfl ?_)
          exact bodyPost_ret (v := .tuple #[.agg #[.int .i64 0,.int .i64 503,.string ⟨#[]⟩,.string ⟨#[]⟩],.bool true]) (rct Tryz.results62 _ _ g2 35 (#[.int .i64 0,.int .i64 503,.string ⟨#[]⟩,.string ⟨#[]⟩]) (0,0) _ (.bool true) rfl rfl (unhide HRE) Tryz.underlying35 rfl (sz35 _ _ _ _)) rfl (unhide HH)
        . have hqd : decide (X.q <= (ws.length : Int)) = false := by simp [hq]
          go_wp2_with fail
          go_quiet (fail)
          obtain ⟨hB7,hb07⟩ := unhide H7
          have hB8 := blk_on hB7 (dnB w7 nq)
          have hb08 := hb07.trans ((dnB w7 nq).mono hb07.size)
          generalize w7.drewN nq = w8 at hB8 hb08 ⊢
          have hRE := setRow_heap _ _ _ (#[.int .i64 0,.int .i64 0,.string ⟨#[]⟩,.string ⟨#[]⟩]) _ _ hB8
          have HH : Hid (OnR fb X ver LS ws ts ⟨l,z,x,y⟩ tag w (.returned (.tuple #[.agg #[.int .i64 0,.int .i64 0,.string ⟨#[]⟩,.string ⟨#[]⟩],.bool false])) (w8.setRow g2 (#[.int .i64 0,.int .i64 0,.string ⟨#[]⟩,.string ⟨#[]⟩]))) := ⟨⟨0,0,⟨#[]⟩,⟨#[]⟩⟩,false,rfl,Or.inr (Or.inr (Or.inr ⟨fun q => unhide HTG (q.trans (unhide HPT)),unhide HFO,by omega,rfl,rfl,below_setRow hb08 hzg _⟩))⟩
          have HRE := hide hRE
          clear hRE hB7 hb07 hb08 H7
          go_wp2_with (refine stG 35 (#[.int .i64 0,.int .i64 0,.string ⟨#[]⟩,.string ⟨#[]⟩]) #[.int .i64 0,.int .i64 0,.string ⟨#[]⟩,.string ⟨#[]⟩] (sz35 _ _ _ _) (rep_one _ _ _ _) rfl g2 hB8 rfl _ _ rfl rfl rfl ?_)
          exact bodyPost_ret (v := .tuple #[.agg #[.int .i64 0,.int .i64 0,.string ⟨#[]⟩,.string ⟨#[]⟩],.bool false]) (rct Tryz.results62 _ _ g2 35 (#[.int .i64 0,.int .i64 0,.string ⟨#[]⟩,.string ⟨#[]⟩]) (0,0) _ (.bool false) rfl rfl (unhide HRE) Tryz.underlying35 rfl (sz35 _ _ _ _)) rfl (unhide HH)
def nf (f : Ft) : Ft := fun j => if j < 24 then f j else 0
theorem nf_sf (f : Ft) : SF (nf f) f := fun j hj => by simp [nf,hj]
theorem nf_nf (f : Ft) : nf (nf f) = nf f := by funext j; simp only [nf]; split <;> rfl
theorem nf_eq {f g : Ft} (hf : nf f = f) (hg : nf g = g) (h : SF f g) : f = g := by
  rw [<- hf,<- hg]
  funext j
  simp only [nf]
  split
  . exact h j (by assumption)
  . rfl
theorem nf_cc (f : Ft) : cc 24 (nf f) = cc 24 f := cc_ext fun i hi => nf_sf f i hi
theorem Rt.sf {f g : Ft} (h : Rt f) (hs : SF g f) : Rt g := right_out ((right_ext hs).trans (right_in h))
def Nor (L : List Ft) : Prop := ∀ f ∈ L,nf f = f
theorem gf_mem {L : List Ft} {i : Nat} (h : i < L.length) : gf L i ∈ L := by
  have : gf L i = L[i] := by simp [gf,h]
  rw [this]; exact List.getElem_mem h
theorem nor_map (L : List Ft) : Nor (L.map nf) := fun f hf => by
  obtain ⟨g,_,rfl⟩ := List.mem_map.1 hf
  exact nf_nf g
theorem gf_nf {L : List Ft} {i : Nat} (h : i < L.length) : gf (L.map nf) i = nf (gf L i) := by simp [gf,h]
theorem relV_nf {v : Int} {LS FL : List Ft} (h : RelV v LS FL) : RelV v LS (FL.map nf) := by
  have hl : (FL.map nf).length = FL.length := List.length_map _
  refine ⟨fun i hi hv => ?_,fun j hj => ?_,fun j hj => ?_,fun j j' hj hj' e => ?_,by rw [hl]; exact h.le40⟩
  . obtain ⟨j,hj,hs⟩ := h.fwd i hi hv
    exact ⟨j,by omega,by rw [gf_nf hj]; exact hs.trans (nf_sf _).symm⟩
  . rw [hl] at hj
    obtain ⟨i,hi,hv,hs⟩ := h.fro j hj
    exact ⟨i,hi,hv,by rw [gf_nf hj]; exact hs.trans (nf_sf _).symm⟩
  . rw [hl] at hj
    rw [gf_nf hj]
    exact (h.rt j hj).sf (nf_sf _)
  . rw [hl] at hj hj'
    rw [gf_nf hj,gf_nf hj'] at e
    exact h.dis j j' hj hj' e
theorem rel_nf {LS FL : List Ft} (h : Rel LS FL) : Rel LS (FL.map nf) := by
  have hl : (FL.map nf).length = FL.length := List.length_map _
  refine ⟨by rw [hl]; exact h.cnt,fun i hi hv => ?_,fun j hj => ?_,fun j hj => ?_,fun j j' hj hj' e => ?_,h.one⟩
  . obtain ⟨j,hj,hs⟩ := h.fwd i hi hv
    exact ⟨j,by omega,by rw [gf_nf hj]; exact hs.trans (nf_sf _).symm⟩
  . rw [hl] at hj
    obtain ⟨i,hi,hv,hs⟩ := h.fro j hj
    exact ⟨i,hi,hv,by rw [gf_nf hj]; exact hs.trans (nf_sf _).symm⟩
  . rw [hl] at hj
    rw [gf_nf hj]
    exact (h.rt j hj).sf (nf_sf _)
  . rw [hl] at hj hj'
    rw [gf_nf hj,gf_nf hj'] at e
    exact h.dis j j' hj hj' e
theorem inV_still {v v' : Int} {g : Ft} (hv : v <= v') (h : lc v' g <= v) : inV v g = inV v' g /\ lc v g = lc v' g := by
  unfold lc inV at *
  split at h
  . rename_i q
    rw [if_pos ⟨q.1,h⟩,if_pos q]
    refine ⟨?_,rfl⟩
    simp [q.1,show ¬ v < g 25 by omega,show ¬ v' < g 25 by omega]
  . rename_i q
    rw [if_neg (show ¬ (g 25 ≠ 0 /\ g 25 <= v) from fun p => q ⟨p.1,by omega⟩),if_neg q]
    have e25 : (decide (g 25 = 0) || decide (v < g 25)) = true := by
      by_cases e : g 25 = 0
      . simp [e]
      . have : ¬ g 25 <= v' := fun p => q ⟨e,p⟩
        simp [show v < g 25 by omega]
    have e25' : (decide (g 25 = 0) || decide (v' < g 25)) = true := by
      by_cases e : g 25 = 0
      . simp [e]
      . have : ¬ g 25 <= v' := fun p => q ⟨e,p⟩
        simp [show v' < g 25 by omega]
    rw [e25,e25']
    split at h
    . rename_i r
      simp [r,h]
    . rename_i r
      simp [r,show ¬ g 24 <= v by omega]
theorem body_set {A B : List Ft} {k : K4} (hk : KOk k) (hrA : ∀ i,i < A.length -> Rt (gf A i)) (hrB : ∀ i,i < B.length -> Rt (gf B i)) (hd : ∀ i j,i < A.length -> j < A.length -> gf A i 0 = gf A j 0 -> i = j)
    (h1 : ∀ i,i < A.length -> Tch (gf A i) k.l k.z k.x k.y = true -> ∃ j,j < B.length /\ gf B j = gf A i) (h2 : ∀ j,j < B.length -> Tch (gf B j) k.l k.z k.x k.y = true -> ∃ i,i < A.length /\ gf A i = gf B j) : bodyB B k = bodyB A k := by
  have he := hk.err
  have hp : pic (gf B) B.length k.l k.z k.x k.y 64 = pic (gf A) A.length k.l k.z k.x k.y 64 := by
    refine ink_of_top fun p hp => top_set _ _ _ _ _ hrA hrB (fun i hi hv => h1 i hi ?_) (fun j hj hv => h2 j hj ?_) (fun i j hi hj e => by rw [hd i j hi hj e])
    . cases ht : Tch (gf A i) k.l k.z k.x k.y with
      | true => rfl
      | false => rw [far_vis (hrA i hi) he ht p hp] at hv; cases hv
    . cases ht : Tch (gf B j) k.l k.z k.x k.y with
      | true => rfl
      | false => rw [far_vis (hrB j hj) he ht p hp] at hv; cases hv
  unfold bodyB tile
  rw [hp]
def Oz : Ora := ⟨fun LS v k => stK v k LS,bodyB,tagB⟩
theorem still_of {LS A B : List Ft} {v v' : Int} (h : RelV v LS A) (h' : RelV v' LS B) (nA : Nor A) (nB : Nor B) (hv : v <= v') {k : K4} (hk : KOk k) (hs : stK v' k LS <= v) : bodyB A k = bodyB B k /\ stK v k LS = stK v' k LS := by
  have hlc : ∀ i,i < LS.length -> Tch (gf LS i) k.l k.z k.x k.y = true -> inV v (gf LS i) = inV v' (gf LS i) /\ lc v (gf LS i) = lc v' (gf LS i) := fun i hi ht => inV_still hv (by
    have : lc v' (gf LS i) <= stp v' k.l k.z k.x k.y LS LS.length := stp_ge _ i hi ht
    unfold stK at hs; omega)
  constructor
  . refine body_set hk h'.rt h.rt h'.dis (fun i hi ht => ?_) (fun j hj ht => ?_)
    . obtain ⟨a,ha,hin,hsf⟩ := h'.fro i hi
      have hta := (Tch_ext hsf k.l k.z k.x k.y).trans ht
      obtain ⟨j,hj,hsj⟩ := h.fwd a ha ((hlc a ha hta).1.trans hin)
      exact ⟨j,hj,nf_eq (nA _ (gf_mem hj)) (nB _ (gf_mem hi)) (hsj.symm.trans hsf)⟩
    . obtain ⟨a,ha,hin,hsf⟩ := h.fro j hj
      have hta := (Tch_ext hsf k.l k.z k.x k.y).trans ht
      obtain ⟨i,hi,hsi⟩ := h'.fwd a ha ((hlc a ha hta).1.symm.trans hin)
      exact ⟨i,hi,nf_eq (nB _ (gf_mem hi)) (nA _ (gf_mem hj)) (hsi.symm.trans hsf)⟩
  . unfold stK
    exact stp_congr _ fun i hi => ⟨rfl,fun ht => (hlc i hi ht).2⟩
theorem hi_of {LS : List Ft} {n : Nat} {FLs : Nat -> List Ft} (h : ∀ v : Nat,v <= n -> RelV v LS (FLs v) /\ Nor (FLs v)) : Hi Oz LS n FLs := by
  refine ⟨fun v hv k hk => stK_in (by omega) k,fun v v' hvv hv' k hk hs => ?_,fun v hv k hk => bodyB_size (h v hv).1.rt k,fun v hv => (h v hv).1.le40⟩
  exact still_of (h v (by omega)).1 (h v' hv').1 (h v (by omega)).2 (h v' hv').2 (by omega) hk hs
theorem EditR.old {n v : Int} {e : Nat -> Int} {LS LS' : List Ft} (h : EditR (n + 1) e LS 0 LS') (hv : v <= n) (k : K4) : stK v k LS' = stK v k LS := by
  unfold stK
  rcases h with ⟨_,h⟩ | ⟨_,h⟩ | ⟨_,_,h,_⟩
  . rcases h with ⟨_,h,_⟩ | ⟨_,h⟩
    . cases h
    . rcases h with ⟨i,hf,_,rfl⟩ | ⟨_,_,h,_⟩ | ⟨_,_,_,rfl⟩
      . rw [stp_join_old _ hv,stp_end_old hf.1 hf.2.1.1 hv]
      . cases h
      . rw [stp_join_old _ hv]
  . rcases h with ⟨i,hf,_,rfl⟩ | ⟨_,h,_⟩
    . rw [stp_end_old hf.1 hf.2.1.1 hv]
    . cases h
  . cases h
theorem AppK.old {n v : Int} {es : Nat -> Nat -> Int} {LS : List Ft} (hv : v <= n) (k : K4) : ∀ {m : Nat} {LS' : List Ft},AppK (n + 1) es LS m LS' -> stK v k LS' = stK v k LS
  | 0,LS',h => by cases h; rfl
  | m + 1,LS',h => by
    obtain ⟨L,h1,h2⟩ := h
    exact (EditR.old h2 hv k).trans (AppK.old hv k h1)
theorem nodup_lenI {α : Type} : ∀ (l l' : List α),l.Nodup -> l ⊆ l' -> l.length <= l'.length
  | [],_,_,_ => by simp
  | a :: l,l',hn,hs => by
    have ha : a ∈ l' := hs (by simp)
    obtain ⟨s,t,rfl⟩ := List.append_of_mem ha
    have hn' := List.nodup_cons.1 hn
    have := nodup_lenI l (s ++ t) hn'.2 (fun x hx => by
      have := hs (List.mem_cons_of_mem _ hx)
      simp only [List.mem_append,List.mem_cons] at this ⊢
      rcases this with q | rfl | q
      . exact Or.inl q
      . exact absurd hx hn'.1
      . exact Or.inr q)
    simp only [List.length_append,List.length_cons] at this ⊢
    omega
theorem RdP.lt {FL R : List Ft} {a : Int} (h : RdP FL a R) : ∀ i j,i < j -> j < R.length -> gf R i 0 < gf R j 0 := by
  intro i j hij hj
  induction j with
  | zero => omega
  | succ j ih =>
    have h1 : gf R j 0 < gf R (j + 1) 0 := h.ris (j + 1) hj
    rcases Nat.lt_or_ge i j with q | q
    . have := ih q (by omega); omega
    . have : i = j := by omega
      subst this; exact h1
theorem ids_nodup (L : List Ft) (hd : ∀ i j,i < L.length -> j < L.length -> gf L i 0 = gf L j 0 -> i = j) : (L.map fun f => f 0).Nodup := by
  rw [List.nodup_iff_pairwise_ne,List.pairwise_iff_getElem]
  intro i j hi hj hij e
  simp only [List.length_map] at hi hj
  simp only [List.getElem_map] at e
  have := hd i j hi hj (by simpa [gf,hi,hj] using e)
  omega
theorem RdP.all {FL R : List Ft} (h : RdP FL 0 R) (hn : Nor FL) (hl : R.length = FL.length) (hd : ∀ i j,i < FL.length -> j < FL.length -> gf FL i 0 = gf FL j 0 -> i = j) : ∀ j,j < FL.length -> ∃ i,i < R.length /\ nf (gf R i) = gf FL j := by
  have hR : (R.map fun f => f 0).Nodup := ids_nodup R fun i j hi hj e => by
    rcases Nat.lt_trichotomy i j with q | q | q
    . have := h.lt i j q hj; omega
    . exact q
    . have := h.lt j i q hi; omega
  intro j hj
  by_cases hm : gf FL j 0 ∈ R.map fun f => f 0
  . obtain ⟨f,hf,e⟩ := List.mem_map.1 hm
    obtain ⟨i,hi,rfl⟩ := List.mem_iff_getElem.1 hf
    have hgi : gf R i = R[i] := by simp [gf,hi]
    obtain ⟨j',hj',hs⟩ := h.mem i hi
    have : j' = j := hd j' j hj' hj (by rw [<- hs 0 (by decide),hgi]; exact e)
    subst this
    exact ⟨i,hi,nf_eq (nf_nf _) (hn _ (gf_mem hj)) ((nf_sf _).trans hs)⟩
  . exfalso
    have := nodup_lenI (gf FL j 0 :: R.map fun f => f 0) (FL.map fun f => f 0) (List.nodup_cons.2 ⟨hm,hR⟩) (fun x hx => by
      rcases List.mem_cons.1 hx with rfl | hx
      . exact List.mem_map_of_mem (gf_mem hj)
      . obtain ⟨f,hf,rfl⟩ := List.mem_map.1 hx
        obtain ⟨i,hi,rfl⟩ := List.mem_iff_getElem.1 hf
        obtain ⟨j',hj',hs⟩ := h.mem i hi
        have hgi : gf R i = R[i] := by simp [gf,hi]
        exact List.mem_map.2 ⟨gf FL j',gf_mem hj',by rw [<- hs 0 (by decide),hgi]⟩)
    simp only [List.length_cons,List.length_map] at this
    omega
theorem RdP.rt {FL R : List Ft} {a : Int} (h : RdP FL a R) (hr : ∀ j,j < FL.length -> Rt (gf FL j)) : ∀ i,i < R.length -> Rt (gf R i) := fun i hi => by
  obtain ⟨j,hj,hs⟩ := h.mem i hi
  exact (hr j hj).sf hs
theorem RdP.norm {FL R : List Ft} {a : Int} (h : RdP FL a R) : RdP FL a (R.map nf) := by
  have hl : (R.map nf).length = R.length := List.length_map _
  have hp : ∀ i,i <= R.length -> pid a (R.map nf) i = pid a R i := fun i hi => by
    cases i with
    | zero => rfl
    | succ i => show gf (R.map nf) i 0 = gf R i 0; rw [gf_nf (by omega)]; rfl
  refine ⟨fun i hi => ?_,fun i hi => ?_,?_⟩
  . rw [hl] at hi
    obtain ⟨j,hj,hs⟩ := h.mem i hi
    exact ⟨j,hj,by rw [gf_nf hi]; exact (nf_sf _).trans hs⟩
  . rw [hl] at hi
    rw [hp i (by omega),gf_nf hi]
    exact h.ris i hi
  . rw [hl,hp _ (Nat.le_refl _)]; exact h.cnt
theorem body_read {FL R : List Ft} (h : RdP FL 0 R) (hn : Nor FL) (hnR : Nor R) (hl : R.length = FL.length) (hr : ∀ j,j < FL.length -> Rt (gf FL j)) (hd : ∀ i j,i < FL.length -> j < FL.length -> gf FL i 0 = gf FL j 0 -> i = j) {k : K4} (hk : KOk k) : bodyB R k = bodyB FL k := by
  refine body_set hk hr (h.rt hr) hd (fun i hi _ => ?_) (fun j hj _ => ?_)
  . obtain ⟨j,hj,e⟩ := h.all hn hl hd i hi
    exact ⟨j,hj,by rw [<- hnR _ (gf_mem hj)]; exact e⟩
  . obtain ⟨i,hi,hs⟩ := h.mem j hj
    exact ⟨i,hi,(nf_eq (hnR _ (gf_mem hj)) (hn _ (gf_mem hi)) hs).symm⟩
def Foot (fb : Nat) (X : FV) (sl pv : Value) (W : List (Option Wk)) (k : Nat) : Prop :=
  k = fb \/ k = X.sb \/ sl.ownBlock = some k \/ pv.ownBlock = some k \/ X.wv.ownBlock = some k \/ X.lv.ownBlock = some k \/ X.kv.ownBlock = some k \/ X.tv.ownBlock = some k \/ ∃ (i : Nat) (u : Wk),W[i]? = some (some u) /\ (k = u.g \/ u.rv.ownBlock = some k)
theorem Foot.elim {P : Nat -> Prop} {fb : Nat} {X : FV} {sl pv : Value} {W : List (Option Wk)} {k : Nat} (hk : Foot fb X sl pv W k) (h0 : P fb) (h1 : P X.sb) (h2 : ∀ k,sl.ownBlock = some k -> P k) (h3 : ∀ k,pv.ownBlock = some k -> P k) (h4 : ∀ k,X.wv.ownBlock = some k -> P k) (h5 : ∀ k,X.lv.ownBlock = some k -> P k) (h6 : ∀ k,X.kv.ownBlock = some k -> P k) (h7 : ∀ k,X.tv.ownBlock = some k -> P k)
    (h8 : ∀ (i : Nat) (u : Wk),W[i]? = some (some u) -> P u.g /\ ∀ k,u.rv.ownBlock = some k -> P k) : P k := by
  rcases hk with rfl | rfl | q | q | q | q | q | q | ⟨i,u,hu,q⟩
  . exact h0
  . exact h1
  . exact h2 k q
  . exact h3 k q
  . exact h4 k q
  . exact h5 k q
  . exact h6 k q
  . exact h7 k q
  . rcases q with rfl | q
    . exact (h8 i u hu).1
    . exact (h8 i u hu).2 k q
section
variable {fb : Nat} {X : FV} {sl pv : Value} {W : List (Option Wk)} {k : Nat}
theorem Foot.iF : Foot fb X sl pv W fb := Or.inl rfl
theorem Foot.iS : Foot fb X sl pv W X.sb := Or.inr (Or.inl rfl)
theorem Foot.iL (h : sl.ownBlock = some k) : Foot fb X sl pv W k := Or.inr (Or.inr (Or.inl h))
theorem Foot.iP (h : pv.ownBlock = some k) : Foot fb X sl pv W k := Or.inr (Or.inr (Or.inr (Or.inl h)))
theorem Foot.iW (h : X.wv.ownBlock = some k) : Foot fb X sl pv W k := Or.inr (Or.inr (Or.inr (Or.inr (Or.inl h))))
theorem Foot.iN (h : X.lv.ownBlock = some k) : Foot fb X sl pv W k := Or.inr (Or.inr (Or.inr (Or.inr (Or.inr (Or.inl h)))))
theorem Foot.iK (h : X.kv.ownBlock = some k) : Foot fb X sl pv W k := Or.inr (Or.inr (Or.inr (Or.inr (Or.inr (Or.inr (Or.inl h))))))
theorem Foot.iT (h : X.tv.ownBlock = some k) : Foot fb X sl pv W k := Or.inr (Or.inr (Or.inr (Or.inr (Or.inr (Or.inr (Or.inr (Or.inl h)))))))
theorem Foot.iG {i : Nat} {u : Wk} (h : W[i]? = some (some u)) : Foot fb X sl pv W u.g := Or.inr (Or.inr (Or.inr (Or.inr (Or.inr (Or.inr (Or.inr (Or.inr ⟨i,u,h,Or.inl rfl⟩)))))))
theorem Foot.iR {i : Nat} {u : Wk} (h : W[i]? = some (some u)) (hk : u.rv.ownBlock = some k) : Foot fb X sl pv W k := Or.inr (Or.inr (Or.inr (Or.inr (Or.inr (Or.inr (Or.inr (Or.inr ⟨i,u,h,Or.inr hk⟩)))))))
end
structure FNum (X : FV) (F : FM) : Prop where
  q : X.q = F.queue
  wt : X.wt = F.wait
  ch : X.ch = F.chunk
  nw : X.nw = F.now
  ar : X.ar = F.arrived
  st : X.st = F.started
  rm : X.rm = F.room
structure FPu (W : List (Option Wk)) (F : FM) : Prop where
  wks : F.wks = W.map (Option.map Wk.f)
  rd : ∀ (i : Nat) (u : Wk),W[i]? = some (some u) -> RdP (F.FLs u.f.reads) 0 u.R /\ u.R.length = u.f.got /\ Nor u.R
  dis : ∀ (i j : Nat) (u v : Wk),i ≠ j -> W[i]? = some (some u) -> W[j]? = some (some v) -> u.g ≠ v.g /\ ∀ k,u.rv.ownBlock = some k -> v.rv.ownBlock ≠ some k
structure FVer (LS : List Ft) (ver : Nat) (FLs : Nat -> List Ft) : Prop where
  rel : ∀ v : Nat,v <= ver -> RelV v LS (FLs v) /\ Nor (FLs v)
  now : Rel LS (FLs ver)
  bnd : Bnd LS ver
  len : LS.length <= 8 * ver
structure FMem (w : World) (X : FV) (sl pv : Value) (W : List (Option Wk)) (ver : Nat) (LS : List Ft) (PI : List Int) (ws : List Req) (ls : List K4) (ts : List Tile) : Prop where
  sto : StP w X.sb 0 ver sl pv LS (ri PI)
  wai : OwnR rReq 138 w X.wv ws
  lin : OwnR rKey 39 w X.lv ls
  til : OwnR rTile 136 w X.tv ts
  wkv : OwnR rPtr 100 w X.kv (W.map (Option.map Wk.g))
  wat : ∀ (i : Nat) (u : Wk),W[i]? = some (some u) -> w.heap[u.g]? = some (.cells u.a 102 (0,0)) /\ OwnR rF 86 w u.rv u.R
structure Fro (w : World) (fb : Nat) (X : FV) (sl pv : Value) (W : List (Option Wk)) (F : FM) : Prop where
  blk : FBlk w fb X
  num : FNum X F
  pu : FPu W F
  ver : FVer F.LS F.ver F.FLs
  mem : FMem w X sl pv W F.ver F.LS F.PI F.waiting F.line F.tiles
  glb : Glb w
  lo : ∀ k,Foot fb X sl pv W k -> 4 <= k
def FroE (w : World) (fb : Nat) (Ψ : Nat -> Prop) (F : FM) : Prop := ∃ X sl pv W,Fro w fb X sl pv W F /\ ∀ k,Foot fb X sl pv W k -> Ψ k
def NewS (Ψ : Nat -> Prop) (n : Nat) (k : Nat) : Prop := Ψ k \/ n <= k
structure FPost (w : World) (fb : Nat) (Ψ : Nat -> Prop) (F : FM) (l : List Rep) (rv : Value) (w' : World) : Prop where
  rep : OwnR rRep 35 w' rv l
  repf : ∀ g,rv.ownBlock = some g -> w.heap.size <= g
  fro : FroE w' fb (NewS Ψ w.heap.size) F
  frm : Frm Ψ w w'
theorem StP.slt {w : World} {sb : Nat} {keep ver : Int} {sl pv : Value} {LS PL : List Ft} (h : StP w sb keep ver sl pv LS PL) : (∀ g,sl.ownBlock = some g -> g < w.heap.size) /\ ∀ g,pv.ownBlock = some g -> g < w.heap.size := ⟨fun g hg => (h.own.lt g hg).2,fun g hg => (h.pins.lt g hg).2⟩
theorem FMem.frm {w w' : World} {X : FV} {sl pv : Value} {W : List (Option Wk)} {ver : Nat} {LS : List Ft} {PI : List Int} {ws : List Req} {ls : List K4} {ts : List Tile} {S : Nat -> Prop} (h : FMem w X sl pv W ver LS PI ws ls ts) (hf : Frm S w w') (fb : Nat) {Y : FV} (hS : ∀ k,Foot fb X sl pv W k -> k ≠ fb -> ¬ S k) (hfb : FBlk w fb Y) : FMem w' X sl pv W ver LS PI ws ls ts := by
  have n1 : X.sb ≠ fb := blk_ne h.sto.blk hfb (by decide)
  refine ⟨h.sto.frm hf (hS _ (Or.inr (Or.inl rfl)) n1) (fun g hg => hS g (Or.inr (Or.inr (Or.inl hg))) ?_) (fun g hg => hS g (Or.inr (Or.inr (Or.inr (Or.inl hg)))) ?_),
    h.wai.frm hf fun g hg => hS g (Or.inr (Or.inr (Or.inr (Or.inr (Or.inl hg))))) (own_ne h.wai hfb (by decide) g hg),
    h.lin.frm hf fun g hg => hS g (Or.inr (Or.inr (Or.inr (Or.inr (Or.inr (Or.inl hg)))))) (own_ne h.lin hfb (by decide) g hg),
    h.til.frm hf fun g hg => hS g (Or.inr (Or.inr (Or.inr (Or.inr (Or.inr (Or.inr (Or.inr (Or.inl hg)))))))) (own_ne h.til hfb (by decide) g hg),
    h.wkv.frm hf fun g hg => hS g (Or.inr (Or.inr (Or.inr (Or.inr (Or.inr (Or.inr (Or.inl hg))))))) (own_ne h.wkv hfb (by decide) g hg),fun i u hu => ?_⟩
  . obtain ⟨c,hc⟩ := h.sto.own.ty hg
    exact blk_ne hc hfb (by decide)
  . obtain ⟨c,hc⟩ := h.sto.pins.ty hg
    exact blk_ne hc hfb (by decide)
  . obtain ⟨h1,h2⟩ := h.wat i u hu
    exact ⟨blk_frm h1 hf (hS u.g (Or.inr (Or.inr (Or.inr (Or.inr (Or.inr (Or.inr (Or.inr (Or.inr ⟨i,u,hu,Or.inl rfl⟩)))))))) (blk_ne h1 hfb (by decide))),
      h2.frm hf fun g hg => hS g (Or.inr (Or.inr (Or.inr (Or.inr (Or.inr (Or.inr (Or.inr (Or.inr ⟨i,u,hu,Or.inr hg⟩)))))))) (own_ne h2 hfb (by decide) g hg)⟩
theorem Foot.lt {w : World} {fb : Nat} {X : FV} {sl pv : Value} {W : List (Option Wk)} {F : FM} (h : Fro w fb X sl pv W F) {k : Nat} (hk : Foot fb X sl pv W k) : k < w.heap.size := by
  rcases hk with rfl | rfl | q | q | q | q | q | q | ⟨i,u,hu,q⟩
  . exact blk_lt h.blk
  . exact h.mem.sto.lt
  . exact h.mem.sto.slt.1 k q
  . exact h.mem.sto.slt.2 k q
  . exact h.mem.wai.lt q
  . exact h.mem.lin.lt q
  . exact h.mem.wkv.lt q
  . exact h.mem.til.lt q
  . obtain ⟨h1,h2⟩ := h.mem.wat i u hu
    rcases q with rfl | q
    . exact blk_lt h1
    . exact h2.lt q
theorem Fro.frm {w w' : World} {fb : Nat} {X : FV} {sl pv : Value} {W : List (Option Wk)} {F : FM} {S : Nat -> Prop} (h : Fro w fb X sl pv W F) (hf : Frm S w w') (hS : ∀ k,Foot fb X sl pv W k -> ¬ S k) (h4 : ∀ k,S k -> 4 <= k) : Fro w' fb X sl pv W F :=
  ⟨blk_frm h.blk hf (hS fb (Or.inl rfl)),h.num,h.pu,h.ver,h.mem.frm hf fb (fun k hk _ => hS k hk) h.blk,h.glb.frm hf h4,h.lo⟩
theorem FroE.frm {w w' : World} {fb : Nat} {Ψ : Nat -> Prop} {F : FM} {S : Nat -> Prop} (h : FroE w fb Ψ F) (hf : Frm S w w') (hS : ∀ k,Ψ k -> ¬ S k) (h4 : ∀ k,S k -> 4 <= k) : FroE w' fb Ψ F := by
  obtain ⟨X,sl,pv,W,h1,h2⟩ := h
  exact ⟨X,sl,pv,W,h1.frm hf (fun k hk => hS k (h2 k hk)) h4,h2⟩
theorem FroE.on {w w' : World} {fb : Nat} {Ψ : Nat -> Prop} {F : FM} (h : FroE w fb Ψ F) (hb : Below w.heap.size w w') : FroE w' fb Ψ F := h.frm (S := fun _ => False) (Frm.of_below hb) (fun _ _ q => q) (fun _ q => q.elim)
theorem FroE.mono {w : World} {fb : Nat} {Ψ Ψ' : Nat -> Prop} {F : FM} (h : FroE w fb Ψ F) (hS : ∀ k,Ψ k -> Ψ' k) : FroE w fb Ψ' F := by
  obtain ⟨X,sl,pv,W,h1,h2⟩ := h
  exact ⟨X,sl,pv,W,h1,fun k hk => hS k (h2 k hk)⟩
theorem FroE.tight {w : World} {fb : Nat} {Ψ : Nat -> Prop} {F : FM} (h : FroE w fb Ψ F) : FroE w fb (fun k => Ψ k /\ k < w.heap.size) F := by
  obtain ⟨X,sl,pv,W,h1,h2⟩ := h
  exact ⟨X,sl,pv,W,h1,fun k hk => ⟨h2 k hk,Foot.lt h1 hk⟩⟩
theorem FroE.ver {w : World} {fb : Nat} {Ψ : Nat -> Prop} {F : FM} (h : FroE w fb Ψ F) : FVer F.LS F.ver F.FLs := by
  obtain ⟨X,sl,pv,W,h1,h2⟩ := h
  exact h1.ver
theorem FroE.glb {w : World} {fb : Nat} {Ψ : Nat -> Prop} {F : FM} (h : FroE w fb Ψ F) : Glb w := by
  obtain ⟨X,sl,pv,W,h1,h2⟩ := h
  exact h1.glb
set_option maxHeartbeats 6400000 in
theorem Tick_any (fb : Nat) (Ψ : Nat -> Prop) (F : FM) (w : World) (h : FroE w fb Ψ F) (ho : Ok Oz F) (hn : F.now <= 2000000000000) :
    Calls Tryz.prog 46 #[.pointer (some ⟨fb,0,none⟩)] w fun e w' => ∃ rv,e = .returned rv /\ FPost w fb Ψ F.tick.1 F.tick.2 rv w' := by
  obtain ⟨X,sl,pv,W,h,hΨ⟩ := h
  have hf := h.blk
  have hnw : X.nw = F.now := h.num.nw
  have hlw : F.waiting.length <= 8 := by have := ho.wq; have := ho.q; omega
  have hll : F.line.length <= 8 := by have := ho.linLe; omega
  have hks : ∀ r ∈ F.waiting,KOk r.k := fun r hr => (ho.req r hr).2.2.2.1
  obtain ⟨w1,hw1⟩ : ∃ w1,w.setCell ⟨fb,3,none⟩ (.int .i64 (X.nw + 1)) = w1 := ⟨_,rfl⟩
  have hF1 : Frm (fun k => k = fb) w w1 := hw1 ▸ (Frm.rfl' _ _).setCell (p := ⟨fb,3,none⟩) _ (fun _ => rfl)
  have hf1 : FBlk w1 fb { X with nw := X.nw + 1 } := hw1 ▸ FBlk.set hf 3 _ (FV.set_nw X _)
  have c3 := (FBlk.cells hf).2.2.2.1
  have fz := frzF hf 3
  have hM1 := h.mem.frm hF1 fb (fun k _ hne q => hne q) hf
  have AL := answerLate_any fb { X with nw := X.nw + 1 } F.waiting w1 hf1 hM1.wai (by omega)
  have HW1 := hide hw1
  have HH := hide h
  have HF1 := hide hF1
  have HM1 := hide hM1
  have HFB1 := hide hf1
  have HKS := hide hks
  have hov : IntKind.i64.wrap (X.nw + 1) = X.nw + 1 := i64_of _ (by omega)
  have hnb : 0 <= X.nw /\ X.nw <= 2000000000000 := by omega
  have HNW := hide hnw
  clear hf h hF1 hM1 hf1 hw1 hks hnw
  go_enter Tryz.func46,Tryz.ntmps46
  go_wp2_with (refine wlSk w1 (stI _ _ _ _ rfl fb 3 (X.nw + 1) rfl (by simp [go_sem]) w w1 c3 fz (unhide HW1)) rfl ?_)
  refine AL.mono ?_
  rintro e w2 ⟨⟨rv,rfl,hrv,hrf⟩,⟨wv2,hf2,hwv2,hwf⟩,hF2⟩
  have hM2 := (unhide HM1).frm hF2 fb (fun k _ hne q => hne q) (unhide HFB1)
  have hsm : ∀ r ∈ lateL F.waiting (X.nw + 1),Small r.k := fun r hr => (unhide HKS r (List.mem_filter.1 hr).1).small
  have EF := endForsaken_any fb { X with nw := X.nw + 1,wv := wv2 } F.line (lateL F.waiting (X.nw + 1)) w2 hf2 hwv2.at hM2.lin hsm (by have := lateL_len F.waiting (X.nw + 1); omega) (by omega)
  obtain ⟨ra,rn,rc,rfl⟩ := hrv.sl
  have H2 := hide (And.intro hrv (And.intro hrf (And.intro hf2 (And.intro hwv2 (And.intro hwf (And.intro hF2 hM2))))))
  clear hrv hrf hf2 hwv2 hwf hF2 hM2 hsm AL
  go_wp2_with fail
  refine EF.mono ?_
  rintro e w3 ⟨rfl,⟨lv3,hf3,hlv3,hlf⟩,hF3⟩
  have HQ : Hid (FPost w fb Ψ F.tick.1 F.tick.2 (.slice ra rn rc) w3) := by
    obtain ⟨hrv,hrf,hf2,hwv2,hwf,hF2,hM2⟩ := unhide H2
    have h := unhide HH
    have hnw := unhide HNW
    have hsz1 := (unhide HF1).size
    have hsz2 := hF2.size
    have hfbΨ : Ψ fb := hΨ fb (Or.inl rfl)
    have hFw : Frm (fun k => k = fb) w w3 := ((unhide HF1).trans hF2).trans hF3
    have hM3 := (h.mem.frm hFw fb (fun k _ hne q => hne q) h.blk)
    have hrv3 := hrv.frm hF3 (fun g hg => own_ne hrv hf2 (by decide) g hg)
    have hwv3 := hwv2.frm hF3 (fun g hg => own_ne hwv2 hf2 (by decide) g hg)
    have e1 : lateR F.waiting (X.nw + 1) = F.tick.2 := by rw [hnw]; rfl
    have e2 : lateL F.waiting (X.nw + 1) = F.tick.1.waiting := by rw [hnw]; rfl
    have h4 : 4 <= w.heap.size := h.glb.1
    have hsub : ∀ k,Foot fb { X with nw := X.nw + 1,wv := wv2,lv := lv3 } sl pv W k -> Foot fb X sl pv W k \/ w.heap.size <= k := fun k hk => hk.elim (Or.inl Foot.iF) (Or.inl Foot.iS) (fun k q => Or.inl (Foot.iL q)) (fun k q => Or.inl (Foot.iP q)) (fun k q => Or.inr (by have := hwf k q; omega)) (fun k q => Or.inr (by have := hlf k q; omega)) (fun k q => Or.inl (Foot.iK q)) (fun k q => Or.inl (Foot.iT q)) (fun i u hu => ⟨Or.inl (Foot.iG hu),fun k q => Or.inl (Foot.iR hu q)⟩)
    refine ⟨e1 ▸ hrv3,fun g hg => by have := hrf g hg; omega,⟨{ X with nw := X.nw + 1,wv := wv2,lv := lv3 },sl,pv,W,⟨hf3,⟨h.num.q,h.num.wt,h.num.ch,?_,h.num.ar,h.num.st,h.num.rm⟩,⟨h.pu.wks,h.pu.rd,h.pu.dis⟩,h.ver,⟨hM3.sto,e2 ▸ hwv3,?_,hM3.til,hM3.wkv,hM3.wat⟩,?_,fun k hk => ?_⟩,fun k hk => ?_⟩,hFw.mono fun k _ q => q ▸ hfbΨ⟩
    . show X.nw + 1 = ((F.now + 1 : Nat) : Int); omega
    . show OwnR rKey 39 w3 lv3 (F.line.filter fun b => decide (0 < countFor F.tick.1.waiting b))
      rw [<- e2]; exact hlv3
    . exact h.glb.frm hFw fun k q => q ▸ h.lo fb (Or.inl rfl)
    . exact (hsub k hk).elim (h.lo k) (fun q => by omega)
    . exact (hsub k hk).imp (hΨ k) id
  clear H2 EF hf3 hlv3 hlf hF3 HF1 HM1 HFB1 HH HKS
  go_wp2_with fail
  go_ret
  exact ⟨_,rfl,unhide HQ⟩
theorem wk_fls {W : List (Option Wk)} {F : FM} (h : F.wks = W.map (Option.map Wk.f)) {i : Nat} {u : Wk} (hu : W[i]? = some (some u)) : u.f ∈ F.fls := by
  refine mem_fls (i := i) ?_
  rw [h,List.getElem?_map,hu]
  rfl
def WrR (w : World) (fb : Nat) (Ψ : Nat -> Prop) (F : FM) (n : Nat) (es : Nat -> Nat -> Int) (e : Ending) (w' : World) : Prop :=
  (∃ r : Int,r ≠ 0 /\ e = .returned (.tuple #[.int .i64 0,.int .i64 r]) /\ Below w.heap.size w w' /\ (n = 0 \/ 100 <= F.ver \/ ∃ k LSk LS',k < n /\ AppK ((F.ver : Int) + 1) es F.LS k LSk /\ EditR ((F.ver : Int) + 1) (es k) LSk r LS')) \/
  (0 < n /\ F.ver < 100 /\ e = .returned (.tuple #[.int .i64 ((F.ver : Int) + 1),.int .i64 0]) /\ Frm Ψ w w' /\ ∃ LS',AppK ((F.ver : Int) + 1) es F.LS n LS' /\ ∀ FL',FVer LS' (F.ver + 1) (fun v => if v = F.ver + 1 then FL' else F.FLs v) -> FroE w' fb (NewS Ψ w.heap.size) (F.write Oz LS' FL'))
theorem bytes_len : ∀ ts : List Tile,(∀ t ∈ ts,7 <= t.body.size) -> 7 * ts.length <= bytesT ts
  | [],_ => by simp [bytesT]
  | t :: ts,h => by
    have h1 := bytes_len ts fun u hu => h u (List.mem_cons_of_mem _ hu)
    have h2 := h t (by simp)
    simp only [List.length_cons,bytesT]
    omega
set_option maxHeartbeats 6400000 in
theorem Write_any (fb : Nat) (Ψ : Nat → Prop) (F : FM) (bv : Value) (n : Nat) (es : Nat → Nat → Int) (w : World) (h : FroE w fb Ψ F) (ho : Ok Oz F) (hv : CsAt 25 w bv n es) (hn : n ≤ 8) :
    Calls Tryz.prog 66 #[.pointer (some ⟨fb, 0, none⟩), bv] w fun e w' => WrR w fb Ψ F n es e w' := by
  obtain ⟨X, sl, pv, W, h, hΨ⟩ := h
  have hf := h.blk
  have h100 := ho.v100
  have hls := h.ver.len
  have hs := h.mem.sto
  have AP := Apply_any X.sb 0 F.ver sl pv F.LS bv n es w hs.blk hs.own (by omega) hv hn (by omega)
  have c6 := (FBlk.cells hf).2.2.2.2.2.2.1
  have hsl : ∃ oa m c, bv = .slice oa m c := by obtain ⟨oa, c, e, _⟩ := hv; exact ⟨oa, n, c, e⟩
  obtain ⟨oa, m, c, rfl⟩ := hsl
  have HH := hide h
  have HO := hide ho
  have HS := hide hs
  clear h hf ho hs hv
  go_enter Tryz.func66, Tryz.ntmps66
  go_wp2_with fail
  refine AP.mono ?_
  rintro e w1 (⟨h0, rfl, hb⟩ | ⟨h0, h1, rfl, hb⟩ | ⟨h0, h1, k, LSk, hk, ⟨rfl, rfl, hg, sl', hb1, ho1⟩ | ⟨hkn, r, LS', hE, hr, rfl, hb⟩⟩)
  · have HB : Hid (WrR w fb Ψ F n es (.returned (.tuple #[.int .i64 0, .int .i64 8])) w1) := Or.inl ⟨8, by decide, rfl, hb, Or.inl h0⟩
    clear hb AP
    go_wp2_with fail
    go_ret2
    exact unhide HB
  · have HB : Hid (WrR w fb Ψ F n es (.returned (.tuple #[.int .i64 0, .int .i64 11])) w1) := Or.inl ⟨11, by decide, rfl, hb, Or.inr (Or.inl (by omega))⟩
    clear hb AP
    go_wp2_with fail
    go_ret2
    exact unhide HB
  · have h := unhide HH
    have ho := unhide HO
    have hs := unhide HS
    have hsb := hs.lt
    have hF1 : Frm (fun q => q = X.sb) w w1 := (Frm.rfl' _ _).grown hg (fun q hq _ => (Option.some.inj hq).symm)
    have hs1 : StP w1 X.sb 0 ((F.ver : Int) + 1) sl' pv LSk (ri F.PI) := ⟨hb1, ho1.mono (by omega), hs.pins.same fun g hg' => hF1.block g (hs.slt.2 g hg') (fun q => by
      obtain ⟨c, hc⟩ := hs.pins.ty hg'
      exact blk_ne hc hs.blk (by decide) q)⟩
    have hf1 : FBlk w1 fb X := blk_frm h.blk hF1 (blk_ne h.blk hs.blk (by decide))
    have ht1 := h.mem.til.frm hF1 (fun g hg' => own_ne h.mem.til hs.blk (by decide) g hg')
    have hlk : LSk.length ≤ F.LS.length + k := AppK.len hk
    have hbt : bytesT F.tiles ≤ 2000 := by have := ho.byt; have := ho.rm; omega
    have hlt : F.tiles.length ≤ 10000000 := by
      have h7 : ∀ t ∈ F.tiles, 7 ≤ t.body.size := fun t ht => by
        obtain ⟨a, b⟩ := ho.til t ht
        rw [b]; exact (ho.hi.bod F.ver (Nat.le_refl _) t.k a).1
      have := bytes_len F.tiles h7
      omega
    have DT := dropTouched_any fb X ((F.ver : Int) + 1) ((F.ver : Int) + 1) sl' pv LSk (ri F.PI) F.tiles w1 hf1 hs1 (by omega) (by omega) (by omega) ht1 (fun t ht => (ho.til t ht).1) hlt
    have H1 := hide (And.intro hF1 (And.intro hs1 hf1))
    have HK := hide hk
    have HOF := hide (show ∀ g, sl'.ownBlock = some g → w.heap.size ≤ g from fun g hg' => (ho1.lt g hg').1)
    clear h ho hs hF1 hs1 hf1 ht1 hk hg hb1 ho1 AP
    go_wp2_with fail
    refine DT.mono ?_
    rintro e w2 ⟨rfl, ⟨tv2, hf2, ht2, htf⟩, hF2⟩
    have HQ : Hid (WrR w fb Ψ F k es (.returned (.tuple #[.int .i64 ((F.ver : Int) + 1), .int .i64 0])) w2) := by
      obtain ⟨hF1, hs1, hf1⟩ := unhide H1
      have h := unhide HH
      have ho := unhide HO
      have hsz1 := hF1.size
      have h4 : 4 ≤ w.heap.size := h.glb.1
      have hFw : Frm (fun q => q = fb ∨ q = X.sb) w w2 := (hF1.mono (S' := fun q => q = fb ∨ q = X.sb) fun q _ e => Or.inr e).then hF2 (fun q _ e => Or.inl e)
      have hs2 := hs1.fb hf1 hF2
      refine Or.inr ⟨h0, by omega, rfl, hFw.mono fun q _ e => by rcases e with rfl | rfl
                                                                 · exact hΨ _ Foot.iF
                                                                 · exact hΨ _ Foot.iS, LSk, unhide HK, fun FL' hV => ?_⟩
      have nb : ∀ {α : Type} {R : Row α} {T : TypeId} {v : Value} {l : List α}, OwnR R T w v l → T ≠ 99 → T ≠ 133 → OwnR R T w2 v l := fun ho h1 h2 => ho.frm hFw (fun g hg q => by
        rcases q with q | q
        · exact own_ne ho h.blk h1 g hg q
        · exact own_ne ho h.mem.sto.blk h2 g hg q)
      have hsub : ∀ q, Foot fb { X with tv := tv2 } sl' pv W q → Foot fb X sl pv W q ∨ w.heap.size ≤ q := fun q hq => hq.elim (Or.inl Foot.iF) (Or.inl Foot.iS) (fun q e => Or.inr (unhide HOF q e)) (fun q e => Or.inl (Foot.iP e)) (fun q e => Or.inl (Foot.iW e)) (fun q e => Or.inl (Foot.iN e)) (fun q e => Or.inl (Foot.iK e)) (fun q e => Or.inr (by have := htf q e; omega)) (fun i u hu => ⟨Or.inl (Foot.iG hu), fun q e => Or.inl (Foot.iR hu e)⟩)
      refine ⟨{ X with tv := tv2 }, sl', pv, W, ⟨hf2, ⟨h.num.q, h.num.wt, h.num.ch, h.num.nw, h.num.ar, h.num.st, h.num.rm⟩, ⟨h.pu.wks, fun i u hu => ?_, h.pu.dis⟩, hV, ⟨?_, nb h.mem.wai (by decide) (by decide), nb h.mem.lin (by decide) (by decide), ?_, nb h.mem.wkv (by decide) (by decide), fun i u hu => ?_⟩, ?_, fun q hq => (hsub q hq).elim (h.lo q) (fun e => by omega)⟩, fun q hq => (hsub q hq).imp (hΨ q) id⟩
      · have hfl := (ho.flt u.f (wk_fls h.pu.wks hu)).1
        have e : (F.write Oz LSk FL').FLs u.f.reads = F.FLs u.f.reads := by
          show (if u.f.reads = F.ver + 1 then FL' else F.FLs u.f.reads) = _
          rw [if_neg (by omega)]
        rw [e]
        exact h.pu.rd i u hu
      · exact hs2
      · show OwnR rTile 136 w2 tv2 (F.tiles.filter fun t => decide (stK ((F.ver + 1 : Nat) : Int) t.k LSk ≤ (F.ver : Int)))
        have e : (F.tiles.filter fun t => decide (stK ((F.ver + 1 : Nat) : Int) t.k LSk ≤ (F.ver : Int))) = F.tiles.filter fun t => decide (stK ((F.ver : Int) + 1) t.k LSk ≤ (F.ver : Int) + 1 - 1) := by
          congr 1; funext t; congr 1; rw [show (F.ver : Int) + 1 - 1 = F.ver by omega]; rfl
        rw [e]
        exact ht2
      · obtain ⟨a, b⟩ := h.mem.wat i u hu
        refine ⟨blk_frm a hFw (fun q => ?_), nb b (by decide) (by decide)⟩
        rcases q with q | q
        · exact blk_ne a h.blk (by decide) q
        · exact blk_ne a h.mem.sto.blk (by decide) q
      · exact h.glb.frm hFw fun q e => by
          rcases e with rfl | rfl
          · exact h.lo _ Foot.iF
          · exact h.lo _ Foot.iS
    clear hf2 ht2 htf hF2 H1 HK HOF DT
    go_wp2_with fail
    go_ret2
    exact unhide HQ
  · have HB : Hid (WrR w fb Ψ F n es (.returned (.tuple #[.int .i64 0, .int .i64 r])) w1) := Or.inl ⟨r, hr, rfl, hb, Or.inr (Or.inr ⟨k, LSk, LS', hkn, hk, hE⟩)⟩
    clear hb AP hE hk
    go_wp2_with fail
    go_ret2
    exact unhide HB
theorem all_nf (l : List Ft) : rF.all (l.map nf) = rF.all l := by
  unfold Row.all
  rw [List.flatMap_map]
  congr 1
  funext f
  show (cc 24 (nf f)).toList = (cc 24 f).toList
  rw [nf_cc]
theorem ownR_nf {w : World} {v : Value} {l : List Ft} (h : OwnR rF 86 w v l) : OwnR rF 86 w v (l.map nf) := by
  rcases h with ⟨rfl,rfl⟩ | ⟨g,off,cap,cur,h1,h2,h3,h4,h5,h6⟩
  . exact Or.inl ⟨rfl,rfl⟩
  . refine Or.inr ⟨g,off,cap,cur,?_,h2,?_,h4,h5,?_⟩
    . rw [List.length_map]; exact h1
    . rw [List.length_map]; exact h3
    . rw [List.length_map,all_nf]; exact h6
def wrk (F : FM) (a : Int) : FM × List Rep := if a < 0 then (F,[]) else F.work Oz a.toNat
theorem stP1 (ev : Operand -> Value) (o : Oper) (x y : Operand) (ho : o.op = .store 100 x y) (g i : Nat) (q : Option Addr) (hx : ev x = .pointer (some ⟨g,i,none⟩)) (hy : ev y = .pointer q) (w w1 : World) {u : Value} (hc : w.cell? ⟨g,i,none⟩ = some u) (hf : w.frozen? ⟨g,i,none⟩ = false) (h1 : w.setCell ⟨g,i,none⟩ (.pointer q) = w1) : (execOp ev o).run Tryz.prog w = .ok .skip w1 := by
  rw [<- h1]
  unfold execOp
  simp [ho,hx,hy,go_sem,hc,hf]
theorem wk_set {W : List (Option Wk)} {i : Nat} (_hi : i < W.length) (o : Option Wk) (j : Nat) (u : Wk) (h : (W.set i o)[j]? = some (some u)) : (j = i /\ o = some u) \/ (j ≠ i /\ W[j]? = some (some u)) := by
  rw [List.getElem?_set] at h
  split at h
  . rename_i e
    subst e
    simp only [Option.some.injEq] at h
    exact Or.inl ⟨rfl,h⟩
  . rename_i e
    exact Or.inr ⟨fun q => e q.symm,h⟩
structure WkC (w : World) (kv : Value) (n : Nat) (i : Nat) (p : Option Nat) (b off cap : Nat) : Prop where
  kv : kv = .slice (some ⟨b,off,none⟩) n cap
  c : w.cell? ⟨b,off + i,none⟩ = some (ptr p)
  fz : w.frozen? ⟨b,off + i,none⟩ = false
theorem OwnR.wkC {w : World} {kv : Value} {L : List (Option Nat)} (h : OwnR rPtr 100 w kv L) {i : Nat} {p : Option Nat} (hp : L[i]? = some p) : ∃ b off cap,WkC w kv L.length i p b off cap := by
  have hi := (List.getElem?_eq_some_iff.1 hp).1
  rcases h with ⟨_,rfl⟩ | ⟨g,off,cap,cur,h1,h2,h3,h4,h5,h6⟩
  . simp at hp
  . refine ⟨g,off,cap,h1,?_,?_⟩
    . have hO : OwnR rPtr 100 w (.slice (some ⟨g,off,none⟩) L.length cap) L := Or.inr ⟨g,off,cap,cur,rfl,h2,h3,h4,h5,h6⟩
      rw [hO.cellAt i (by show i < L.length * 1; omega)]
      have := rPtr.all_at L i p 0 hp (by decide)
      simpa [rPtr] using this
    . simp [World.frozen?,h2]
def Tys (S : Nat -> Prop) (w : World) (Ts : List TypeId) : Prop := ∀ k,S k -> ∃ c T,w.heap[k]? = some (.cells c T (0,0)) /\ T ∈ Ts
theorem OwnR.frmT {α : Type} {R : Row α} {T : TypeId} {w w' : World} {v : Value} {l : List α} {S : Nat -> Prop} {Ts : List TypeId} (h : OwnR R T w v l) (hF : Frm S w w') (hS : Tys S w Ts) (hT : T ∉ Ts) : OwnR R T w' v l := h.frm hF fun g hg q => by
  obtain ⟨c,T',h1,h2⟩ := hS g q
  exact own_ne h h1 (fun e => hT (e ▸ h2)) g hg rfl
theorem blk_frmT {w w' : World} {g : Nat} {c : Array Value} {T : TypeId} {f : Nat × Nat} {S : Nat -> Prop} {Ts : List TypeId} (h : w.heap[g]? = some (.cells c T f)) (hF : Frm S w w') (hS : Tys S w Ts) (hT : T ∉ Ts) : w'.heap[g]? = some (.cells c T f) := blk_frm h hF fun q => by
  obtain ⟨c',T',h1,h2⟩ := hS g q
  exact blk_ne h h1 (fun e => hT (e ▸ h2)) rfl
theorem StP.frmT {w w' : World} {sb : Nat} {keep ver : Int} {sl pv : Value} {LS PL : List Ft} {S : Nat -> Prop} {Ts : List TypeId} (h : StP w sb keep ver sl pv LS PL) (hF : Frm S w w') (hS : Tys S w Ts) (h1 : 133 ∉ Ts) (h2 : 195 ∉ Ts) (h3 : 3 ∉ Ts) : StP w' sb keep ver sl pv LS PL := by
  refine h.frm hF (fun q => ?_) (fun g hg q => ?_) (fun g hg q => ?_)
  . obtain ⟨c',T',a,b⟩ := hS sb q
    exact blk_ne h.blk a (fun e => h1 (e ▸ b)) rfl
  . obtain ⟨c',T',a,b⟩ := hS g q
    obtain ⟨c,hc⟩ := h.own.ty hg
    exact blk_ne hc a (fun e => h2 (e ▸ b)) rfl
  . obtain ⟨c',T',a,b⟩ := hS g q
    obtain ⟨c,hc⟩ := h.pins.ty hg
    exact blk_ne hc a (fun e => h3 (e ▸ b)) rfl
theorem OwnR.kvset {w : World} {kv : Value} {L : List (Option Nat)} (h : OwnR rPtr 100 w kv L) {i : Nat} {p : Option Nat} {b off cap : Nat} (hi : i < L.length) (hC : WkC w kv L.length i p b off cap) (q : Option Nat) :
    OwnR rPtr 100 (w.setCell ⟨b,off + i,none⟩ (ptr q)) kv (L.set i q) /\ Frm (fun k => kv.ownBlock = some k) w (w.setCell ⟨b,off + i,none⟩ (ptr q)) /\ Tys (fun k => kv.ownBlock = some k) w [100] := by
  have e := hC.kv
  subst e
  refine ⟨OwnR.set1 h rfl i hi q (ptr q) rfl,(Frm.rfl' _ _).setCell (p := ⟨b,off + i,none⟩) _ (fun _ => rfl),fun k hk => ?_⟩
  obtain ⟨c,hc⟩ := h.ty hk
  exact ⟨c,100,hc,by simp⟩
theorem FPost.same {w : World} {fb : Nat} {Ψ : Nat -> Prop} {F : FM} (h : FroE w fb Ψ F) : FPost w fb Ψ F [] (.slice none 0 0) w := ⟨ownR_nil,fun g hg => by simp [Value.ownBlock] at hg,h.mono fun _ q => Or.inl q,Frm.rfl' _ _⟩
theorem Fro.wlen {w : World} {fb : Nat} {X : FV} {sl pv : Value} {W : List (Option Wk)} {F : FM} (h : Fro w fb X sl pv W F) : F.wks.length = W.length := by rw [h.pu.wks,List.length_map]
theorem Fro.wat? {w : World} {fb : Nat} {X : FV} {sl pv : Value} {W : List (Option Wk)} {F : FM} (h : Fro w fb X sl pv W F) {i : Nat} {o : Option Wk} (hi : W[i]? = some o) : F.wks[i]? = some (o.map Wk.f) := by rw [h.pu.wks,List.getElem?_map,hi]; rfl
def Wk.next (u : Wk) (n chunk : Nat) (rv : Value) (R2 : List Ft) : Wk := ⟨u.g,u.f.step n chunk,rv,(u.R ++ R2).map nf⟩
theorem Fro.step {w w' : World} {fb : Nat} {X : FV} {sl pv : Value} {W : List (Option Wk)} {F : FM} (h : Fro w fb X sl pv W F) (ho : Ok Oz F) {i : Nat} {u : Wk} (hu : W[i]? = some (some u)) {rv' : Value} {R2 : List Ft}
    (hb : w'.heap[u.g]? = some (.cells #[.int .i64 u.f.b.l,.int .i64 u.f.b.z,.int .i64 u.f.b.x,.int .i64 u.f.b.y,.int .i64 u.f.reads,.int .i64 ((u.f.left : Int) - 1),rv'] 102 (0,0))) (hR : OwnR rF 86 w' rv' (u.R ++ R2)) (hrd : RdP (F.FLs u.f.reads) 0 (u.R ++ R2)) (hl : R2.length = min F.chunk ((F.FLs u.f.reads).length - u.R.length))
    (hn : rv'.ownBlock = u.rv.ownBlock \/ ∀ k,rv'.ownBlock = some k -> w.heap.size <= k) (hF : Frm (fun k => k = u.g \/ u.rv.ownBlock = some k) w w') :
    Fro w' fb X sl pv (W.set i (some (u.next (F.FLs u.f.reads).length F.chunk rv' R2))) { F with wks := F.wks.set i (some (u.f.step (F.FLs u.f.reads).length F.chunk)) } /\ (∀ k,Foot fb X sl pv (W.set i (some (u.next (F.FLs u.f.reads).length F.chunk rv' R2))) k -> Foot fb X sl pv W k \/ w.heap.size <= k) /\ (u.next (F.FLs u.f.reads).length F.chunk rv' R2).R.length = min (u.f.got + F.chunk) (F.FLs u.f.reads).length := by
  have hi : i < W.length := (List.getElem?_eq_some_iff.1 hu).1
  obtain ⟨a,b⟩ := h.mem.wat i u hu
  obtain ⟨r1,r2,r3⟩ := h.pu.rd i u hu
  obtain ⟨f1,f2,k0,f3,f4⟩ := ho.flt u.f (wk_fls h.pu.wks hu)
  have hpos := f2.pos
  have hgot : u.f.got <= (F.FLs u.f.reads).length := by
    rcases f2 with ⟨q1,_,q3⟩ | ⟨_,q2,_⟩
    . omega
    . have : u.f.got <= u.f.got + (u.f.left - 1) * F.chunk := Nat.le_add_right _ _
      omega
  have hlen : (u.next (F.FLs u.f.reads).length F.chunk rv' R2).R.length = min (u.f.got + F.chunk) (F.FLs u.f.reads).length := by
    show ((u.R ++ R2).map nf).length = _
    rw [List.length_map,List.length_append,hl,r2]
    omega
  have hT : Tys (fun k => k = u.g \/ u.rv.ownBlock = some k) w [102,86] := fun k q => by
    rcases q with rfl | q
    . exact ⟨_,_,a,by simp⟩
    . obtain ⟨c,hc⟩ := b.ty q
      exact ⟨_,_,hc,by simp⟩
  have h4 := h.glb.1
  have hsub : ∀ k,Foot fb X sl pv (W.set i (some (u.next (F.FLs u.f.reads).length F.chunk rv' R2))) k -> Foot fb X sl pv W k \/ w.heap.size <= k := fun k hk => hk.elim (Or.inl Foot.iF) (Or.inl Foot.iS) (fun _ q => Or.inl (Foot.iL q)) (fun _ q => Or.inl (Foot.iP q)) (fun _ q => Or.inl (Foot.iW q)) (fun _ q => Or.inl (Foot.iN q)) (fun _ q => Or.inl (Foot.iK q)) (fun _ q => Or.inl (Foot.iT q)) (fun j v hv => by
    rcases wk_set hi _ j v hv with ⟨rfl,q⟩ | ⟨_,q⟩
    . have q := (Option.some.inj q).symm
      subst q
      refine ⟨Or.inl (Foot.iG (u := u) hu),fun k q => ?_⟩
      rcases hn with e | e
      . exact Or.inl (Foot.iR hu (e ▸ q))
      . exact Or.inr (e k q)
    . exact ⟨Or.inl (Foot.iG q),fun k e => Or.inl (Foot.iR q e)⟩)
  refine ⟨⟨blk_frmT h.blk hF hT (by decide),⟨h.num.q,h.num.wt,h.num.ch,h.num.nw,h.num.ar,h.num.st,h.num.rm⟩,⟨?_,fun j v hv => ?_,fun j j' v v' hne hv hv' => ?_⟩,h.ver,⟨h.mem.sto.frmT hF hT (by decide) (by decide) (by decide),h.mem.wai.frmT hF hT (by decide),h.mem.lin.frmT hF hT (by decide),h.mem.til.frmT hF hT (by decide),?_,fun j v hv => ?_⟩,?_,fun k hk => (hsub k hk).elim (h.lo k) (fun q => by omega)⟩,hsub,hlen⟩
  . show F.wks.set i _ = _
    rw [h.pu.wks,List.map_set]
    rfl
  . rcases wk_set hi _ j v hv with ⟨rfl,q⟩ | ⟨_,q⟩
    . have q := (Option.some.inj q).symm
      subst q
      exact ⟨hrd.norm,hlen,nor_map _⟩
    . exact h.pu.rd j v q
  . rcases wk_set hi _ j v hv with ⟨rfl,q⟩ | ⟨hj,q⟩ <;> rcases wk_set hi _ j' v' hv' with ⟨rfl,q'⟩ | ⟨hj',q'⟩
    . exact absurd rfl hne
    . have q := (Option.some.inj q).symm
      subst q
      obtain ⟨d1,d2⟩ := h.pu.dis j j' u v' hne hu q'
      refine ⟨d1,fun k hk => ?_⟩
      rcases hn with e | e
      . exact d2 k (e ▸ hk)
      . exact fun q => absurd ((h.mem.wat j' v' q').2.lt q) (by have := e k hk; omega)
    . have q' := (Option.some.inj q').symm
      subst q'
      obtain ⟨d1,d2⟩ := h.pu.dis j j' v u hne q hu
      refine ⟨d1,fun k hk => ?_⟩
      rcases hn with e | e
      . exact fun p => d2 k hk (e ▸ p)
      . exact fun p => absurd ((h.mem.wat j v q).2.lt hk) (by have := e k p; omega)
    . exact h.pu.dis j j' v v' hne q q'
  . have e : (W.set i (some (u.next (F.FLs u.f.reads).length F.chunk rv' R2))).map (Option.map Wk.g) = W.map (Option.map Wk.g) := by
      rw [List.map_set]
      apply List.ext_getElem?
      intro j
      rw [List.getElem?_set]
      split
      . rename_i e
        subst e
        rw [List.length_map,if_pos hi,List.getElem?_map,hu]
        rfl
      . rfl
    rw [e]
    exact h.mem.wkv.frmT hF hT (by decide)
  . rcases wk_set hi _ j v hv with ⟨rfl,q⟩ | ⟨hj,q⟩
    . have q := (Option.some.inj q).symm
      subst q
      refine ⟨?_,ownR_nf hR⟩
      have : (((u.f.left - 1 : Nat)) : Int) = (u.f.left : Int) - 1 := by omega
      show w'.heap[u.g]? = some (.cells #[.int .i64 u.f.b.l,.int .i64 u.f.b.z,.int .i64 u.f.b.x,.int .i64 u.f.b.y,.int .i64 u.f.reads,.int .i64 ((u.f.left - 1 : Nat) : Int),rv'] 102 (0,0))
      rw [this]
      exact hb
    . obtain ⟨d1,d2⟩ := h.pu.dis i j u v (fun e => hj e.symm) hu q
      obtain ⟨a',b'⟩ := h.mem.wat j v q
      refine ⟨blk_frm a' hF (fun p => ?_),b'.frm hF fun g hg p => ?_⟩
      . rcases p with p | p
        . exact d1 p.symm
        . exact own_ne b a' (by decide) _ p rfl
      . rcases p with p | p
        . exact own_ne b' a (by decide) g hg p
        . exact d2 g p hg
  . exact h.glb.frm hF fun k q => by
      rcases q with rfl | q
      . exact h.lo _ (Foot.iG hu)
      . exact h.lo _ (Foot.iR hu q)
theorem set_none {L : List (Option Nat)} {i : Nat} {p : Option Nat} (h : L[i]? = some p) : L.set i p = L := by
  apply List.ext_getElem?
  intro j
  rw [List.getElem?_set]
  split
  . rename_i e
    subst e
    rw [if_pos (List.getElem?_eq_some_iff.1 h).1,h]
  . rfl
theorem Fro.idle {w w' : World} {fb : Nat} {X : FV} {sl pv : Value} {W : List (Option Wk)} {F : FM} (h : Fro w fb X sl pv W F) {i : Nat} (hi : W[i]? = some none) (hk : OwnR rPtr 100 w' X.kv ((W.map (Option.map Wk.g)).set i none)) (hF : Frm (fun k => X.kv.ownBlock = some k) w w') (hT : Tys (fun k => X.kv.ownBlock = some k) w [100]) : Fro w' fb X sl pv W F := by
  have e : (W.map (Option.map Wk.g)).set i none = W.map (Option.map Wk.g) := set_none (by rw [List.getElem?_map,hi]; rfl)
  rw [e] at hk
  exact ⟨blk_frmT h.blk hF hT (by decide),h.num,h.pu,h.ver,⟨h.mem.sto.frmT hF hT (by decide) (by decide) (by decide),h.mem.wai.frmT hF hT (by decide),h.mem.lin.frmT hF hT (by decide),h.mem.til.frmT hF hT (by decide),hk,fun j v hv => ⟨blk_frmT (h.mem.wat j v hv).1 hF hT (by decide),(h.mem.wat j v hv).2.frmT hF hT (by decide)⟩⟩,h.glb.frm hF (fun k q => h.lo k (Foot.iK q)),h.lo⟩
theorem Fro.take {w w1 w' : World} {fb : Nat} {X : FV} {sl pv pv' lv' : Value} {W : List (Option Wk)} {F : FM} (h : Fro w fb X sl pv W F) {i : Nat} (hi : W[i]? = some none) {b : K4} {rest : List K4} (hl : F.line = b :: rest)
    (hu : w1.heap[w.heap.size]? = some (.cells #[.int .i64 b.l,.int .i64 b.z,.int .i64 b.x,.int .i64 b.y,.int .i64 F.ver,.int .i64 (nsteps (F.FLs F.ver).length F.chunk),.slice none 0 0] 102 (0,0))) (hf : FBlk w1 fb { X with lv := lv',st := X.st + 1 }) (hlv : OwnR rKey 39 w1 lv' rest) (hlo : lv'.ownBlock = X.lv.ownBlock) (hs : StP w1 X.sb 0 F.ver sl pv' F.LS (ri (F.PI ++ [(F.ver : Int)]))) (hpo : pv'.ownBlock = pv.ownBlock \/ ∀ g,pv'.ownBlock = some g -> w.heap.size <= g) (hF : Frm (fun k => k = fb \/ k = X.sb \/ pv.ownBlock = some k) w w1)
    (hk : OwnR rPtr 100 w' X.kv ((W.map (Option.map Wk.g)).set i (some w.heap.size))) (hF2 : Frm (fun k => X.kv.ownBlock = some k) w1 w') (hT2 : Tys (fun k => X.kv.ownBlock = some k) w1 [100]) :
    Fro w' fb { X with lv := lv',st := X.st + 1 } sl pv' (W.set i (some ⟨w.heap.size,⟨b,F.ver,nsteps (F.FLs F.ver).length F.chunk,0⟩,.slice none 0 0,[]⟩)) (F.takeW i) /\ (∀ k,Foot fb { X with lv := lv',st := X.st + 1 } sl pv' (W.set i (some ⟨w.heap.size,⟨b,F.ver,nsteps (F.FLs F.ver).length F.chunk,0⟩,.slice none 0 0,[]⟩)) k -> Foot fb X sl pv W k \/ w.heap.size <= k) /\ Frm (fun k => Foot fb X sl pv W k) w w' := by
  have hil : i < W.length := (List.getElem?_eq_some_iff.1 hi).1
  have h4 := h.glb.1
  have hT : Tys (fun k => k = fb \/ k = X.sb \/ pv.ownBlock = some k) w [99,133,3] := fun k q => by
    rcases q with rfl | rfl | q
    . exact ⟨_,_,h.blk,by simp⟩
    . exact ⟨_,_,h.mem.sto.blk,by simp⟩
    . obtain ⟨c,hc⟩ := h.mem.sto.pins.ty q
      exact ⟨_,_,hc,by simp⟩
  have hsub : ∀ k,Foot fb { X with lv := lv',st := X.st + 1 } sl pv' (W.set i (some ⟨w.heap.size,⟨b,F.ver,nsteps (F.FLs F.ver).length F.chunk,0⟩,.slice none 0 0,[]⟩)) k -> Foot fb X sl pv W k \/ w.heap.size <= k := fun k hk => hk.elim (Or.inl Foot.iF) (Or.inl Foot.iS) (fun _ q => Or.inl (Foot.iL q)) (fun k q => by
      rcases hpo with e | e
      . exact Or.inl (Foot.iP (e ▸ q))
      . exact Or.inr (e k q)) (fun _ q => Or.inl (Foot.iW q)) (fun _ q => Or.inl (Foot.iN (hlo ▸ q))) (fun _ q => Or.inl (Foot.iK q)) (fun _ q => Or.inl (Foot.iT q)) (fun j v hv => by
    rcases wk_set hil _ j v hv with ⟨rfl,q⟩ | ⟨_,q⟩
    . have q := (Option.some.inj q).symm
      subst q
      exact ⟨Or.inr (Nat.le_refl _),fun k q => by simp [Value.ownBlock] at q⟩
    . exact ⟨Or.inl (Foot.iG q),fun k e => Or.inl (Foot.iR q e)⟩)
  have hFw : Frm (fun k => Foot fb X sl pv W k) w w' := (hF.mono fun k _ q => by
      rcases q with rfl | rfl | q
      . exact Foot.iF
      . exact Foot.iS
      . exact Foot.iP q).then hF2 (fun k _ q => Foot.iK q)
  have hE : F.takeW i = { F with line := rest,started := F.started + 1,PI := F.PI ++ [(F.ver : Int)],wks := F.wks.set i (some ⟨b,F.ver,nsteps (F.FLs F.ver).length F.chunk,0⟩) } := by unfold FM.takeW; rw [hl]
  rw [hE]
  refine ⟨⟨blk_frmT hf hF2 hT2 (by decide),⟨h.num.q,h.num.wt,h.num.ch,h.num.nw,h.num.ar,by have := h.num.st; show X.st + 1 = ((F.started + 1 : Nat) : Int); omega,h.num.rm⟩,⟨?_,fun j v hv => ?_,fun j j' v v' hne hv hv' => ?_⟩,h.ver,⟨hs.frmT hF2 hT2 (by decide) (by decide) (by decide),(h.mem.wai.frmT hF hT (by decide)).frmT hF2 hT2 (by decide),hlv.frmT hF2 hT2 (by decide),(h.mem.til.frmT hF hT (by decide)).frmT hF2 hT2 (by decide),?_,fun j v hv => ?_⟩,h.glb.frm hFw h.lo,fun k hk => (hsub k hk).elim (h.lo k) (fun q => by omega)⟩,hsub,hFw⟩
  . show F.wks.set i _ = _
    rw [h.pu.wks,List.map_set]
    rfl
  . rcases wk_set hil _ j v hv with ⟨rfl,q⟩ | ⟨_,q⟩
    . have q := (Option.some.inj q).symm
      subst q
      exact ⟨rdP_nil _ _,rfl,fun f hf => by simp at hf⟩
    . exact h.pu.rd j v q
  . rcases wk_set hil _ j v hv with ⟨rfl,q⟩ | ⟨hj,q⟩ <;> rcases wk_set hil _ j' v' hv' with ⟨rfl,q'⟩ | ⟨hj',q'⟩
    . exact absurd rfl hne
    . have q := (Option.some.inj q).symm
      subst q
      have := blk_lt (h.mem.wat j' v' q').1
      exact ⟨by show w.heap.size ≠ v'.g; omega,fun k hk => by simp [Value.ownBlock] at hk⟩
    . have q' := (Option.some.inj q').symm
      subst q'
      have := blk_lt (h.mem.wat j v q).1
      exact ⟨by show v.g ≠ w.heap.size; omega,fun k _ => by simp [Value.ownBlock]⟩
    . exact h.pu.dis j j' v v' hne q q'
  . rw [List.map_set]
    exact hk
  . rcases wk_set hil _ j v hv with ⟨rfl,q⟩ | ⟨hj,q⟩
    . have q := (Option.some.inj q).symm
      subst q
      exact ⟨blk_frmT hu hF2 hT2 (by decide),ownR_nil⟩
    . obtain ⟨a,c⟩ := h.mem.wat j v q
      exact ⟨blk_frmT (blk_frmT a hF hT (by decide)) hF2 hT2 (by decide),(c.frmT hF hT (by decide)).frmT hF2 hT2 (by decide)⟩
theorem Fro.finish {w w' : World} {fb : Nat} {X : FV} {sl pv rv : Value} {W : List (Option Wk)} {F : FM} {R : List Ft} {fl : Fl} (h : Fro w fb X sl pv W F) {i : Nat} (hi : W[i]? = some none) {room : Nat} {g : Nat} (hroom : room = F.room) (hts : fl.b.keys.map (tileR R F.LS fl.reads) = F.tilesOf Oz fl) (hr : FinR fb g X room F.ver sl F.LS R F.PI F.waiting F.line F.tiles fl.b fl.reads w rv w') :
    FPost w fb (fun k => Foot fb X sl pv W k) (F.finishW Oz i fl).1 (F.finishW Oz i fl).2 rv w' := by
  subst hroom
  have h4 := h.glb.1
  obtain ⟨h1,h2,⟨wv',lv',tv',pv',b1,b2,b3,b4,b5,b6,b7,b8,b9⟩,hF⟩ := hr
  rw [hts] at h1 b2 b3 b4
  have hT : Tys (fun k => k = fb \/ k = X.sb \/ X.lv.ownBlock = some k) w [99,133,39] := fun k q => by
    rcases q with rfl | rfl | q
    . exact ⟨_,_,h.blk,by simp⟩
    . exact ⟨_,_,h.mem.sto.blk,by simp⟩
    . obtain ⟨c,hc⟩ := h.mem.lin.ty q
      exact ⟨_,_,hc,by simp⟩
  have hsub : ∀ k,Foot fb { X with wv := wv',lv := lv',tv := tv' } sl pv' W k -> Foot fb X sl pv W k \/ w.heap.size <= k := fun k hk => hk.elim (Or.inl Foot.iF) (Or.inl Foot.iS) (fun _ q => Or.inl (Foot.iL q)) (fun k q => Or.inr (b9 k q)) (fun k q => Or.inr (b6 k q)) (fun k q => (b8 k q).imp (fun e => Foot.iN e) id) (fun _ q => Or.inl (Foot.iK q)) (fun k q => (b7 k q).imp (fun e => Foot.iT e) id) (fun j v hv => ⟨Or.inl (Foot.iG hv),fun k e => Or.inl (Foot.iR hv e)⟩)
  have hFw : Frm (fun k => Foot fb X sl pv W k) w w' := hF.mono fun k _ q => by
    rcases q with rfl | rfl | q
    . exact Foot.iF
    . exact Foot.iS
    . exact Foot.iN q
  have hwi : F.wks.set i none = F.wks := set_self _ _ _ (by rw [h.wat? hi]; rfl)
  refine ⟨h1,h2,⟨{ X with wv := wv',lv := lv',tv := tv' },sl,pv',W,⟨b1,⟨h.num.q,h.num.wt,h.num.ch,h.num.nw,h.num.ar,h.num.st,h.num.rm⟩,⟨?_,h.pu.rd,h.pu.dis⟩,h.ver,⟨b5,b2,b4,b3,h.mem.wkv.frmT hF hT (by decide),fun j v hv => ⟨blk_frmT (h.mem.wat j v hv).1 hF hT (by decide),(h.mem.wat j v hv).2.frmT hF hT (by decide)⟩⟩,h.glb.frm hFw h.lo,fun k hk => (hsub k hk).elim (h.lo k) (fun q => by omega)⟩,hsub⟩,hFw⟩
  show F.wks.set i none = _
  rw [hwi]
  exact h.pu.wks
theorem Fro.gone {w w' : World} {fb : Nat} {X : FV} {sl pv : Value} {W : List (Option Wk)} {F : FM} (h : Fro w fb X sl pv W F) {i : Nat} (hi : i < W.length) (hk : OwnR rPtr 100 w' X.kv ((W.map (Option.map Wk.g)).set i none)) (hF : Frm (fun k => X.kv.ownBlock = some k) w w') (hT : Tys (fun k => X.kv.ownBlock = some k) w [100]) :
    Fro w' fb X sl pv (W.set i none) { F with wks := F.wks.set i none } /\ ∀ k,Foot fb X sl pv (W.set i none) k -> Foot fb X sl pv W k := by
  have hsub : ∀ k,Foot fb X sl pv (W.set i none) k -> Foot fb X sl pv W k := fun k hk => hk.elim Foot.iF Foot.iS (fun _ q => Foot.iL q) (fun _ q => Foot.iP q) (fun _ q => Foot.iW q) (fun _ q => Foot.iN q) (fun _ q => Foot.iK q) (fun _ q => Foot.iT q) (fun j v hv => by
    rcases wk_set hi _ j v hv with ⟨rfl,q⟩ | ⟨_,q⟩
    . cases q
    . exact ⟨Foot.iG q,fun k e => Foot.iR q e⟩)
  have hold : ∀ (j : Nat) (v : Wk),(W.set i none)[j]? = some (some v) -> W[j]? = some (some v) := fun j v hv => by
    rcases wk_set hi _ j v hv with ⟨rfl,q⟩ | ⟨_,q⟩
    . cases q
    . exact q
  refine ⟨⟨blk_frmT h.blk hF hT (by decide),⟨h.num.q,h.num.wt,h.num.ch,h.num.nw,h.num.ar,h.num.st,h.num.rm⟩,⟨?_,fun j v hv => h.pu.rd j v (hold j v hv),fun j j' v v' hne hv hv' => h.pu.dis j j' v v' hne (hold j v hv) (hold j' v' hv')⟩,h.ver,⟨h.mem.sto.frmT hF hT (by decide) (by decide) (by decide),h.mem.wai.frmT hF hT (by decide),h.mem.lin.frmT hF hT (by decide),h.mem.til.frmT hF hT (by decide),?_,fun j v hv => ⟨blk_frmT (h.mem.wat j v (hold j v hv)).1 hF hT (by decide),(h.mem.wat j v (hold j v hv)).2.frmT hF hT (by decide)⟩⟩,h.glb.frm hF (fun k q => h.lo k (Foot.iK q)),fun k hk => h.lo k (hsub k hk)⟩,hsub⟩
  . show F.wks.set i none = _
    rw [h.pu.wks,List.map_set]
    rfl
  . rw [List.map_set]
    exact hk
theorem FPost.trans {w w1 w' : World} {fb : Nat} {Ψ Ψ1 : Nat -> Prop} {F : FM} {l : List Rep} {rv : Value} (hF : Frm Ψ w w1) (h : FPost w1 fb Ψ1 F l rv w') (h1 : ∀ k,Ψ1 k -> Ψ k \/ w.heap.size <= k) : FPost w fb Ψ F l rv w' := by
  have hsz := hF.size
  refine ⟨h.rep,fun g hg => by have := h.repf g hg; omega,h.fro.mono fun k q => ?_,hF.then h.frm fun k hk q => ?_⟩
  . rcases q with q | q
    . exact h1 k q
    . right; omega
  . rcases h1 k q with e | e
    . exact e
    . omega
end Go.Proofs.YtpopchckldbhdaaGreatDoor
