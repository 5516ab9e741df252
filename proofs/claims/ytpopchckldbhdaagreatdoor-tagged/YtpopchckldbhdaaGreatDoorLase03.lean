/-
  The texts FbF, FbG, FbH, DwParts, DwLeaf, DwLeafB, DwLeafD, DwParse, DwParseB, DwShelf, DwPrint, DwTag, FcA, FcB, PkParts, PkLeaf, PkLeafB, PkOwn, PkPack, PkUnpack, FcC, FcD, FcE, FcF.
-/
import Derived.Test.YtpopchckldbhdaaGreatDoorLase02
import Derived.Test.YtpopchckldbhdaaGreatDoorRows
import Derived.Test.YtpopchckldbhdaaGreatDoorProg
import Derived.WalkKit
import Derived.WalkSpells
import Derived.WalkLawsBesides
import Derived.Deep.QuietTactic
import Derived.BigQuiet
import Derived.Lib.Strings
import Derived.Lib.ItoaNum
import Derived.Laws.IdiomStrings
import Derived.Shelf.LaysM
import Derived.Shelf.Strconv.Itoa3
import Derived.Lib.AppendIntMem
import Derived.Laws.BytesArg
namespace Go.Proofs.YtpopchckldbhdaaGreatDoor
open Go.RowKit
set_option maxRecDepth 20000
theorem evict_nil (room n : Nat) : evict room n [] = [] := by unfold evict; rfl
theorem evict_go {room n : Nat} {t : Tile} {ts : List Tile} (h : room < bytesT (t :: ts) + n) : evict room n (t :: ts) = evict room n (outT (t :: ts) t.k) := by
  rw [evict,if_pos h]; congr 1; simp [outT]
theorem evict_stop {room n : Nat} {t : Tile} {ts : List Tile} (h : ¬ room < bytesT (t :: ts) + n) : evict room n (t :: ts) = t :: ts := by rw [evict,if_neg h]
theorem outT_less (t : Tile) (ts : List Tile) : (outT (t :: ts) t.k).length < (t :: ts).length := by
  have : outT (t :: ts) t.k = outT ts t.k := by simp [outT]
  rw [this]
  have := outT_len ts t.k
  simp only [List.length_cons]; omega
theorem dnB (w : World) (n : Nat) : Below w.heap.size w (w.drewN n) := ⟨rfl,rfl,rfl,Nat.le_refl _,fun _ _ => rfl⟩
def tlen (fb : Nat) (w : World) : Nat := match w.cell? ⟨fb,11,none⟩ with
  | some (.slice _ n _) => n
  | _ => 0
theorem tlen_eq {fb : Nat} {w : World} {X : FV} {ts : List Tile} (hf : FBlk w fb X) (ho : AtR rTile w X.tv ts) : tlen fb w = ts.length := by
  obtain ⟨oa,cap,e,_⟩ := ho
  have := hf.cells.2.2.2.2.2.2.2.2.2.2.2
  unfold tlen
  rw [this,e]
set_option maxHeartbeats 12800000 in
theorem lay_any (fb : Nat) (X : FV) (room : Nat) (ts : List Tile) (tl tz tx ty : Int) (tb tt : ByteArray) (w : World) (hf : FBlk w fb X) (hrm : X.rm = room) (ho : OwnR rTile 136 w X.tv ts) (hl : ts.length <= 1000000) (hby : bytesT ts <= 100000000) (hbs : tb.size <= 1000000) :
    Calls Tryz.prog 111 #[.pointer (some ⟨fb,10,none⟩),.agg #[.int .i64 tl,.int .i64 tz,.int .i64 tx,.int .i64 ty,.string tb,.string tt]] w fun e w' => e = .returned (.tuple #[]) /\ (∃ tv',FBlk w' fb { X with tv := tv' } /\ OwnR rTile 136 w' tv' (layT room ts ⟨⟨tl,tz,tx,ty⟩,tb,tt⟩) /\ ∀ g,tv'.ownBlock = some g -> X.tv.ownBlock = some g \/ w.heap.size <= g) /\ Frm (fun k => k = fb) w w' := by
  have hlt0 := blk_lt hf
  have hb0 := (Below.refl w.heap.size w).alloc (Nat.le_refl _) (.cells #[.int .i64 tl,.int .i64 tz,.int .i64 tx,.int .i64 ty,.string tb,.string tt] 136)
  have hA := heap_alloc_new w (.cells #[.int .i64 tl,.int .i64 tz,.int .i64 tx,.int .i64 ty,.string tb,.string tt] 136 (0,0))
  have hz1 : (w.alloc (.cells #[.int .i64 tl,.int .i64 tz,.int .i64 tx,.int .i64 ty,.string tb,.string tt] 136)).heap.size = w.heap.size + 1 := by simp
  have hf1 := blk_on hf hb0
  have ho1 := ho.on hb0
  have c10 : (w.alloc (.cells #[.int .i64 tl,.int .i64 tz,.int .i64 tx,.int .i64 ty,.string tb,.string tt] 136)).cell? ⟨fb,10,none⟩ = some (.int .i64 room) := by rw [<- hrm]; exact (FBlk.cells hf1).2.2.2.2.2.2.2.2.2.2.1
  have hC10 : ∀ W,Below (w.alloc (.cells #[.int .i64 tl,.int .i64 tz,.int .i64 tx,.int .i64 ty,.string tb,.string tt] 136)).heap.size (w.alloc (.cells #[.int .i64 tl,.int .i64 tz,.int .i64 tx,.int .i64 ty,.string tb,.string tt] 136)) W -> W.cell? ⟨fb,10,none⟩ = some (.int .i64 room) := fun W h => (h.cell (p := ⟨fb,10,none⟩) (by show fb < _; omega)).trans c10
  have hT4 : ∀ W,Below (w.alloc (.cells #[.int .i64 tl,.int .i64 tz,.int .i64 tx,.int .i64 ty,.string tb,.string tt] 136)).heap.size (w.alloc (.cells #[.int .i64 tl,.int .i64 tz,.int .i64 tx,.int .i64 ty,.string tb,.string tt] 136)) W -> W.cell? ⟨w.heap.size,4,none⟩ = some (.string tb) := fun W h => (blk_cells (blk_on hA h) 4).trans rfl
  have HF1 := hide hf1
  have HO1 := hide ho1
  have HA := hide hA
  have HB0 := hide hb0
  have HBY := hide hby
  have HRM := hide hrm
  clear hf ho hb0 hA hf1 ho1 hby c10 hrm
  go_enter Tryz.func111,Tryz.ntmps111
  go_wp2_with fail
  refine region_bq (by kernel_rfl) (by kernel_rfl) ?_
  refine q_val rfl (.pointer (some ⟨w.heap.size,4,none⟩)) (fun w' hw' => by simp [go_sem]) ?_
  simp only [Act.put,qA,qB,qC]
  refine q_val rfl (.string tb) (fun w' hw' => by simp [go_sem,hT4 w' hw']) ?_
  simp only [Act.put,qA,qB,qC]
  refine q_val rfl (.int .i64 tb.size) (fun w' hw' => by simp [go_sem]) ?_
  simp only [Act.put,qA,qB,qC]
  refine q_move rfl _ rfl (.pointer (some ⟨fb,10,none⟩)) rfl ?_
  simp only [Act.put,qA,qB,qC]
  refine q_val rfl (.pointer (some ⟨fb,10,none⟩)) (fun w' hw' => by simp [go_sem]) ?_
  simp only [Act.put,qA,qB,qC]
  refine q_val rfl (.pointer (some ⟨fb,10,none⟩)) (fun w' hw' => by simp [go_sem]) ?_
  simp only [Act.put,qA,qB,qC]
  refine q_val rfl (.int .i64 room) (fun w' hw' => by simp [go_sem,hC10 w' hw']) ?_
  simp only [Act.put,qA,qB,qC]
  refine q_val rfl (.bool (decide ((room : Int) < (tb.size : Int)))) (fun w' hw' => by simp [go_sem]) ?_
  simp only [Act.put,qA,qB,qC]
  refine wpQuiet_nil ?_
  intro w2 hw2
  have hf2 := blk_on (unhide HF1) hw2
  have ho2 := (unhide HO1).on hw2
  have hA2 := blk_on (unhide HA) hw2
  have hb2 := (unhide HB0).trans (hw2.mono (by simp))
  have hsz2 := hw2.size
  rw [hz1] at hsz2
  clear hC10 hT4 hw2
  by_cases hbig : room < tb.size
  . have hbig' : decide ((room : Int) < (tb.size : Int)) = true := decide_eq_true (by omega)
    have HH : Hid ((∃ tv',FBlk w2 fb { X with tv := tv' } /\ OwnR rTile 136 w2 tv' (layT room ts ⟨⟨tl,tz,tx,ty⟩,tb,tt⟩) /\ ∀ g,tv'.ownBlock = some g -> X.tv.ownBlock = some g \/ w.heap.size <= g) /\ Frm (fun k => k = fb) w w2) :=
      ⟨⟨X.tv,hf2,by unfold layT; rw [if_pos hbig]; exact ho2,fun g hg => Or.inl hg⟩,Frm.of_below hb2⟩
    clear hf2 ho2 hA2 hb2
    simp only [hbig']
    go_wp2_with fail
    exact bodyPost_ret (results_none Tryz.results111 _ _ _) rfl ⟨rfl,unhide HH⟩
  . have hbig' : decide ((room : Int) < (tb.size : Int)) = false := decide_eq_false (by omega)
    have hlay : layT room ts ⟨⟨tl,tz,tx,ty⟩,tb,tt⟩ = evict room tb.size (outT ts ⟨tl,tz,tx,ty⟩) ++ [⟨⟨tl,tz,tx,ty⟩,tb,tt⟩] := by unfold layT; rw [if_neg hbig]
    have HLAY := hide hlay
    have TO := takeOut_any fb X ts tl tz tx ty w2 hf2 ho2 (by omega)
    have hrgK : w2.rangeAt w.heap.size 0 #[Value.int .i64 tl,.int .i64 tz,.int .i64 tx,.int .i64 ty].toList := rng4 (t := ⟨⟨tl,tz,tx,ty⟩,tb,tt⟩) (rng_blk hA2)
    have HA2 := hide hA2
    have HB2 := hide hb2
    clear hf2 ho2 hA2 hb2 hlay
    simp only [hbig']
    go_wp2_with (refine ldG 39 #[.int .i64 tl,.int .i64 tz,.int .i64 tx,.int .i64 ty] Tryz.underlying39 rfl (sz39 _ _ _ _) w.heap.size 0 hrgK rfl _ rfl rfl ?_)
    refine TO.mono ?_
    rintro e w3 ⟨rfl,⟨tv3,hf3,ho3,hfr3⟩,hF3⟩
    have hne : w.heap.size ≠ fb := by omega
    have hA3 := blk_frm (unhide HA2) hF3 hne
    have hF03 : Frm (fun k => k = fb) w w3 := (Frm.of_below (unhide HB2)).then hF3 (fun _ _ h => h)
    have hby3 : bytesT (outT ts ⟨tl,tz,tx,ty⟩) <= 100000000 := Nat.le_trans (bytesT_sub (outT_sub _ _)) (unhide HBY)
    have hln3 : (outT ts ⟨tl,tz,tx,ty⟩).length <= 1000000 := Nat.le_trans (outT_len _ _) hl
    have HX : Hid (∃ (tvr : Value) (us : List Tile),FBlk w3 fb { X with tv := tvr } /\ OwnR rTile 136 w3 tvr us /\ (∀ g,tvr.ownBlock = some g -> w.heap.size + 1 <= g) /\ evict room tb.size us = evict room tb.size (outT ts ⟨tl,tz,tx,ty⟩) /\ us.length <= 1000000 /\ bytesT us <= 100000000 /\ w3.heap[w.heap.size]? = some (.cells #[.int .i64 tl,.int .i64 tz,.int .i64 tx,.int .i64 ty,.string tb,.string tt] 136 (0,0)) /\ Frm (fun k => k = fb) w w3) :=
      ⟨tv3,_,hf3,ho3,fun g hg => by have := hfr3 g hg; omega,rfl,hln3,hby3,hA3,hF03⟩
    clear TO hrgK hf3 ho3 hfr3 hF3 hA3 hF03 hby3 hln3
    go_wp2_with fail
    go_loopw [4] (fun _ wr => Hid (∃ (tvr : Value) (us : List Tile),FBlk wr fb { X with tv := tvr } /\ OwnR rTile 136 wr tvr us /\ (∀ g,tvr.ownBlock = some g -> w.heap.size + 1 <= g) /\ evict room tb.size us = evict room tb.size (outT ts ⟨tl,tz,tx,ty⟩) /\ us.length <= 1000000 /\ bytesT us <= 100000000 /\ wr.heap[w.heap.size]? = some (.cells #[.int .i64 tl,.int .i64 tz,.int .i64 tx,.int .i64 ty,.string tb,.string tt] 136 (0,0)) /\ Frm (fun k => k = fb) w wr)) (fun _ wr => tlen fb wr)
    case atStart => exact HX
    case round =>
      obtain ⟨tvr,us,hf4,ho4,hfr4,hev,hln4,hby4,hA4,hF4⟩ := unhide hrel
      have hsz4 : w.heap.size < wr.heap.size := blk_lt hA4
      have htl := tlen_eq hf4 ho4.at
      obtain ⟨oa,cap,eq,hcap,hm,hc⟩ := ho4.at
      have d10 : ∀ W,Below wr.heap.size wr W -> W.cell? ⟨fb,10,none⟩ = some (.int .i64 room) := fun W h => by rw [<- unhide HRM]; exact (FBlk.cells (blk_on hf4 h)).2.2.2.2.2.2.2.2.2.2.1
      have d11 : ∀ W,Below wr.heap.size wr W -> W.cell? ⟨fb,11,none⟩ = some (.slice oa us.length cap) := fun W h => by rw [<- eq]; exact (FBlk.cells (blk_on hf4 h)).2.2.2.2.2.2.2.2.2.2.2
      have d4 : ∀ W,Below wr.heap.size wr W -> W.cell? ⟨w.heap.size,4,none⟩ = some (.string tb) := fun W h => (blk_cells (blk_on hA4 h) 4).trans rfl
      have BY := fun q => bytes_any fb { X with tv := tvr } us (wr.drewN q) (blk_on hf4 (dnB wr q)) (ho4.at.on (dnB wr q)) (by omega) (by omega)
      have dT : ∀ W,Below wr.heap.size wr W -> W.rangeAt w.heap.size 0 #[.int .i64 tl,.int .i64 tz,.int .i64 tx,.int .i64 ty,.string tb,.string tt].toList := fun W h => rng_blk (blk_on hA4 h)
      have HEX : Hid (evict room tb.size us = us -> ∀ w5,Below wr.heap.size wr w5 -> (∃ tvr : Value,FBlk w5 fb { X with tv := tvr } /\ OwnR rTile 136 w5 tvr (evict room tb.size (outT ts ⟨tl,tz,tx,ty⟩)) /\ (∀ g,tvr.ownBlock = some g -> w.heap.size + 1 <= g) /\ w5.heap[w.heap.size]? = some (.cells #[.int .i64 tl,.int .i64 tz,.int .i64 tx,.int .i64 ty,.string tb,.string tt] 136 (0,0)) /\ Frm (fun k => k = fb) w w5)) :=
        fun q w5 h5 => ⟨tvr,blk_on hf4 h5,by rw [<- hev,q]; exact ho4.on h5,hfr4,blk_on hA4 h5,hF4.then (Frm.of_below h5) (fun _ _ h => h)⟩
      have hlen : (evict room tb.size (outT ts ⟨tl,tz,tx,ty⟩)).length <= 1000000 := by rw [<- hev]; exact Nat.le_trans (evict_sub room tb.size _ us (Nat.le_refl _)).1.length_le hln4
      rcases hus : us with _ | ⟨⟨⟨al,az,ax,ay⟩,ab,at'⟩,rest⟩
      . have h0 : us.length = 0 := by rw [hus]; rfl
        have HE := hide (unhide HEX (by rw [hus]; exact evict_nil _ _))
        rw [h0] at d11
        clear hf4 ho4 hfr4 hev hby4 hA4 hF4 hc BY d10 d4 dT HEX hrel hus h0 htl hln4 eq hcap hm
        have c11 := d11 wr (Below.refl _ _)
        go_wp2_with fail
        go_quiet (fail)
        have hw2 := dnB wr nq
        obtain ⟨tv2,hf2,ho2,hfr2,hA2,hF02⟩ := unhide HE (wr.drewN nq) hw2
        generalize wr.drewN nq = w2 at hf2 ho2 hA2 hF02 ⊢
        have HA2 := hide hA2
        have HF2 := hide hf2
        have HO2 := hide ho2
        have HFR2 := hide hfr2
        have HF02 := hide hF02
        clear hf2 ho2 hfr2 hA2 hF02 HE hw2 d11 c11
        go_wp2_with fail
        refine wp_region_held (S := fun w' => w'.heap[w.heap.size]? = some (.cells #[.int .i64 tl,.int .i64 tz,.int .i64 tx,.int .i64 ty,.string tb,.string tt] 136 (0,0))) (by kernel_rfl) ?_
        change wpAnyH _ _ _ _ _ _ _ _ (World.drew _)
        have hS : (World.drew w2).heap[w.heap.size]? = some (.cells #[.int .i64 tl,.int .i64 tz,.int .i64 tx,.int .i64 ty,.string tb,.string tt] 136 (0,0)) := unhide HA2
        have hf3 : FBlk (World.drew w2) fb { X with tv := tv2 } := unhide HF2
        have ho3 : OwnR rTile 136 (World.drew w2) tv2 (evict room tb.size (outT ts ⟨tl,tz,tx,ty⟩)) := unhide HO2
        have hF3 : Frm (fun k => k = fb) w (World.drew w2) := ⟨(unhide HF02).os,(unhide HF02).tape,(unhide HF02).output,(unhide HF02).size,(unhide HF02).block⟩
        have hfr3 := unhide HFR2
        generalize World.drew w2 = w3 at hS hf3 ho3 hF3 ⊢
        have hgl : w.heap.size < w3.heap.size := blk_lt hS
        have hfl : fb < w3.heap.size := blk_lt hf3
        have c11 : w3.cell? ⟨fb,11,none⟩ = some tv2 := (blk_cells hf3 11).trans rfl
        have hbA := (Below.refl w3.heap.size w3).alloc (Nat.le_refl _) (.cells #[.int .i64 tl,.int .i64 tz,.int .i64 tx,.int .i64 ty,.string tb,.string tt] 136)
        have hSA := blk_on hS hbA
        have hfA := blk_on hf3 hbA
        have c11A := (hbA.cell (p := ⟨fb,11,none⟩) hfl).trans c11
        have hat := at_new rTile 136 w3 ⟨⟨tl,tz,tx,ty⟩,tb,tt⟩ #[.int .i64 tl,.int .i64 tz,.int .i64 tx,.int .i64 ty,.string tb,.string tt] rfl
        have hoA := ho3.on hbA
        obtain ⟨v4,w4,r1,r2,r3,r4⟩ := apTile hoA hat (by simp; omega)
        have hS4 := (r3.block w.heap.size (by simp; omega) (fun q => by have := hfr3 w.heap.size q.symm; omega)).trans hSA
        have hf4 : FBlk w4 fb { X with tv := tv2 } := (r3.block fb (by simp; omega) (fun q => own_ne hoA hfA (by decide) fb q.symm rfl)).trans hfA
        have hfz := frzF hf4 11
        have c114 : w4.cell? ⟨fb,11,none⟩ = some tv2 := (blk_cells hf4 11).trans rfl
        have hF4 := (hF3.then (Frm.of_below hbA) (fun _ _ h => h)).grown r3 (fun g hg hlt => by have := hfr3 g hg; omega)
        have hfr4 := fresh_of (B := w.heap.size) (fun g hg => by have := hfr3 g hg; omega) r4 (by simp; have := hF3.size; omega)
        obtain ⟨oa4,n4,k4,rfl⟩ := r2.sl
        have hf5 := FBlk.set hf4 11 (.slice oa4 n4 k4) (FV.set_tv { X with tv := tv2 } _)
        have ho5 : OwnR rTile 136 (w4.setCell ⟨fb,11,none⟩ (.slice oa4 n4 k4)) (.slice oa4 n4 k4) _ := r2.same (fun g hg => Below.heap_setCell _ _ _ _ (own_ne r2 hf4 (by decide) g hg))
        have hF5 := hF4.setCell (p := ⟨fb,11,none⟩) (.slice oa4 n4 k4) (fun _ => rfl)
        have hS5 := (Below.heap_setCell w4 ⟨fb,11,none⟩ (.slice oa4 n4 k4) w.heap.size (by show w.heap.size ≠ fb; omega)).trans hS4
        have HF5 := hide hf5
        have HO5 := hide ho5
        have HFF5 := hide hF5
        have HFR5 := hide hfr4
        obtain ⟨oa2,n2,k2,rfl⟩ := ho3.sl
        refine t_tk 0 rfl (.pointer (some ⟨fb,10,none⟩)) (by kernel_rfl) (fun _ _ _ h => h) rfl (fun w' hw' => by simp [go_sem]) hS ?_
        simp only [Act.put,qA,qB,qC]
        refine t_tk 1 rfl (.pointer (some ⟨fb,10,none⟩)) (by kernel_rfl) (fun _ _ _ h => h) rfl (fun w' hw' => by simp [go_sem]) hS ?_
        simp only [Act.put,qA,qB,qC]
        refine t_tk 2 rfl (.pointer (some ⟨fb,10,none⟩)) (by kernel_rfl) (fun _ _ _ h => h) rfl (fun w' hw' => by simp [go_sem]) hS ?_
        simp only [Act.put,qA,qB,qC]
        refine t_tk 3 rfl (.pointer (some ⟨fb,11,none⟩)) (by kernel_rfl) (fun _ _ _ h => h) rfl (fun w' hw' => by simp [go_sem]) hS ?_
        simp only [Act.put,qA,qB,qC]
        refine t_tk 5 rfl (.agg #[.int .i64 tl,.int .i64 tz,.int .i64 tx,.int .i64 ty,.string tb,.string tt]) (by kernel_rfl) (fun _ _ _ h => h) rfl (fun w' hw' => ldcR _ _ _ 136 rfl _ rfl _ Tryz.underlying136 rfl (sz136 (some ⟨⟨tl,tz,tx,ty⟩,tb,tt⟩)) w.heap.size 0 rfl _ (rng_blk hw')) hS ?_
        simp only [Act.put,qA,qB,qC]
        refine wpAnyH_all (rs := [4,6]) (by kernel_rfl) (by simp) ?_
        intro i hi
        simp only [List.mem_cons,List.not_mem_nil,or_false] at hi
        rcases hi with rfl | rfl
        . refine t_op 4 rfl rfl (.slice oa2 n2 k2) (w3) (by simp [go_sem,c11]) (hS) ?_
          simp only [Act.put,qA,qB,qC]
          refine wpAnyH_all (rs := [6]) (by kernel_rfl) (by simp) ?_
          intro i hi
          simp only [List.mem_singleton] at hi
          subst hi
          refine t_op 6 rfl rfl (.slice (some ⟨w3.heap.size,0,none⟩) 1 1) (w3.alloc (.cells #[.int .i64 tl,.int .i64 tz,.int .i64 tx,.int .i64 ty,.string tb,.string tt] 136)) (bsTile tl tz tx ty tb tt _ _ _ rfl rfl _) (hSA) ?_
          simp only [Act.put,qA,qB,qC]
          refine wpAnyH_all (rs := [7]) (by kernel_rfl) (by simp) ?_
          intro i hi
          simp only [List.mem_singleton] at hi
          subst hi
          refine t_op 7 rfl rfl (.slice oa4 n4 k4) (w4) (exR 95 r1 _ _ _ _ rfl rfl rfl rfl) (hS4) ?_
          simp only [Act.put,qA,qB,qC]
          refine t_tk 8 rfl (.pointer (some ⟨fb,10,none⟩)) (by kernel_rfl) (fun _ _ _ h => h) rfl (fun w' hw' => by simp [go_sem]) hS4 ?_
          simp only [Act.put,qA,qB,qC]
          refine t_tk 9 rfl (.pointer (some ⟨fb,11,none⟩)) (by kernel_rfl) (fun _ _ _ h => h) rfl (fun w' hw' => by simp [go_sem]) hS4 ?_
          simp only [Act.put,qA,qB,qC]
          refine wpAnyH_all (rs := [10]) (by kernel_rfl) (by simp) ?_
          intro i hi
          simp only [List.mem_singleton] at hi
          subst hi
          refine t_skip 10 rfl rfl (w4.setCell ⟨fb,11,none⟩ (.slice oa4 n4 k4)) (stS _ _ _ _ 95 rfl (fun _ => by simp [go_sem]) fb 11 oa4 n4 k4 rfl rfl w4 c114 hfz) (hS5) ?_
          simp only [Act.put]
          refine wpAnyH_done (by kernel_rfl) ?_ _
          clear hS hf3 ho3 hF3 hgl hfl c11 hbA hSA hfA c11A hat hoA r1 r3 r4 hS4 hf4 hfz c114 hF4 hf5 ho5 hF5 hS5 hfr4 r2 hfr3
          go_wp2_with fail
          exact bodyPost_end (results_none Tryz.results111 _ _ _) rfl ⟨rfl,⟨_,unhide HF5,(unhide HLAY).symm ▸ unhide HO5,fun g hg => Or.inr (unhide HFR5 g hg)⟩,unhide HFF5⟩
        . refine t_op 6 rfl rfl (.slice (some ⟨w3.heap.size,0,none⟩) 1 1) (w3.alloc (.cells #[.int .i64 tl,.int .i64 tz,.int .i64 tx,.int .i64 ty,.string tb,.string tt] 136)) (bsTile tl tz tx ty tb tt _ _ _ rfl rfl _) (hSA) ?_
          simp only [Act.put,qA,qB,qC]
          refine wpAnyH_all (rs := [4]) (by kernel_rfl) (by simp) ?_
          intro i hi
          simp only [List.mem_singleton] at hi
          subst hi
          refine t_op 4 rfl rfl (.slice oa2 n2 k2) (w3.alloc (.cells #[.int .i64 tl,.int .i64 tz,.int .i64 tx,.int .i64 ty,.string tb,.string tt] 136)) (by simp [go_sem,c11A]) (hSA) ?_
          simp only [Act.put,qA,qB,qC]
          refine wpAnyH_all (rs := [7]) (by kernel_rfl) (by simp) ?_
          intro i hi
          simp only [List.mem_singleton] at hi
          subst hi
          refine t_op 7 rfl rfl (.slice oa4 n4 k4) (w4) (exR 95 r1 _ _ _ _ rfl rfl rfl rfl) (hS4) ?_
          simp only [Act.put,qA,qB,qC]
          refine t_tk 8 rfl (.pointer (some ⟨fb,10,none⟩)) (by kernel_rfl) (fun _ _ _ h => h) rfl (fun w' hw' => by simp [go_sem]) hS4 ?_
          simp only [Act.put,qA,qB,qC]
          refine t_tk 9 rfl (.pointer (some ⟨fb,11,none⟩)) (by kernel_rfl) (fun _ _ _ h => h) rfl (fun w' hw' => by simp [go_sem]) hS4 ?_
          simp only [Act.put,qA,qB,qC]
          refine wpAnyH_all (rs := [10]) (by kernel_rfl) (by simp) ?_
          intro i hi
          simp only [List.mem_singleton] at hi
          subst hi
          refine t_skip 10 rfl rfl (w4.setCell ⟨fb,11,none⟩ (.slice oa4 n4 k4)) (stS _ _ _ _ 95 rfl (fun _ => by simp [go_sem]) fb 11 oa4 n4 k4 rfl rfl w4 c114 hfz) (hS5) ?_
          simp only [Act.put]
          refine wpAnyH_done (by kernel_rfl) ?_ _
          clear hS hf3 ho3 hF3 hgl hfl c11 hbA hSA hfA c11A hat hoA r1 r3 r4 hS4 hf4 hfz c114 hF4 hf5 ho5 hF5 hS5 hfr4 r2 hfr3
          go_wp2_with fail
          exact bodyPost_end (results_none Tryz.results111 _ _ _) rfl ⟨rfl,⟨_,unhide HF5,(unhide HLAY).symm ▸ unhide HO5,fun g hg => Or.inr (unhide HFR5 g hg)⟩,unhide HFF5⟩
      . have hpos : (0 : Int) < us.length := by rw [hus]; simp
        have hwr : IntKind.i64.wrap ((bytesT us : Int) + (tb.size : Int)) = (bytesT us : Int) + (tb.size : Int) := i64_of _ (by omega)
        obtain ⟨b,off,hoa,hbl,hc0⟩ := hc (by omega)
        have hrgT := rng4 (AtR.tile hc0 (show us[0]? = some ⟨⟨al,az,ax,ay⟩,ab,at'⟩ by rw [hus]; rfl))
        rw [Nat.zero_mul,Nat.add_zero] at hrgT
        dsimp only at hrgT
        subst hoa
        have HC4 := hide (show FBlk wr fb { X with tv := tvr } /\ OwnR rTile 136 wr tvr us /\ (∀ g,tvr.ownBlock = some g -> w.heap.size + 1 <= g) /\ wr.heap[w.heap.size]? = some (.cells #[.int .i64 tl,.int .i64 tz,.int .i64 tx,.int .i64 ty,.string tb,.string tt] 136 (0,0)) /\ Frm (fun k => k = fb) w wr from ⟨hf4,ho4,hfr4,hA4,hF4⟩)
        have HUS := hide hus
        have HEV := hide hev
        have HTL := hide htl
        have HEQ := hide eq
        clear hf4 ho4 hfr4 hA4 hF4 hc hc0 dT hrel hus hev htl eq
        have c10 := d10 wr (Below.refl _ _)
        have c11 := d11 wr (Below.refl _ _)
        have c4 := d4 wr (Below.refl _ _)
        have BQ : ∀ q,Calls Tryz.prog 41 #[.pointer (some ⟨fb,10,none⟩)] (wr.drewN q) fun e w' => e = .returned (.int .i64 (bytesT us)) /\ wr.drewN q = w' := BY
        have hpn : 0 < us.length := by omega
        have hpd : decide (0 < us.length) = true := decide_eq_true hpn
        clear d10 d11 d4
        by_cases hgo : room < bytesT us + tb.size
        . have hgo' : (room : Int) < (bytesT us : Int) + (tb.size : Int) := by omega
          have hevn : evict room tb.size (outT us ⟨al,az,ax,ay⟩) = evict room tb.size (outT ts ⟨tl,tz,tx,ty⟩) := by
            rw [<- unhide HEV,unhide HUS]
            rw [unhide HUS] at hgo
            exact (evict_go hgo).symm
          have hless : (outT us ⟨al,az,ax,ay⟩).length < us.length := by rw [unhide HUS]; exact outT_less _ _
          have hless2 : bytesT (outT us ⟨al,az,ax,ay⟩) <= 100000000 := Nat.le_trans (bytesT_sub (outT_sub _ _)) hby4
          obtain ⟨g1,g2,g3,g4,g5⟩ := unhide HC4
          have HEVN := hide hevn
          have HLESS := hide hless
          have HLESS2 := hide hless2
          clear HEX HEV HC4 HUS hgo hevn hless hless2
          have hw2 := fun q => dnB wr q
          go_wp2_with fail
          go_quiet (exact (BQ _).mono fun e w' h => ⟨h.1,_,h.2.symm⟩)
          have hf2 := blk_on g1 (hw2 nq)
          have ho2 := g2.on (hw2 nq)
          have hA2 := blk_on g4 (hw2 nq)
          have hF2 := g5.then (Frm.of_below (hw2 nq)) (fun _ _ h => h)
          have hrg2 := rng_in hrgT (hw2 nq) hbl
          generalize wr.drewN nq = w2 at hf2 ho2 hA2 hF2 hrg2 ⊢
          have c11 : w2.cell? ⟨fb,11,none⟩ = some (.slice (some ⟨b,off,none⟩) us.length cap) := by rw [<- unhide HEQ]; exact (FBlk.cells hf2).2.2.2.2.2.2.2.2.2.2.2
          have hbA := (Below.refl w2.heap.size w2).alloc (Nat.le_refl _) (.cells #[.int .i64 al,.int .i64 az,.int .i64 ax,.int .i64 ay] 39)
          have TO := takeOut_any fb { X with tv := tvr } us al az ax ay _ (blk_on hf2 hbA) (ho2.on hbA) (by omega)
          have HA2 := hide (blk_on hA2 hbA)
          have HF2 := hide (hF2.then (Frm.of_below hbA) (fun _ _ h => h))
          have hsz2 : w.heap.size < w2.heap.size := blk_lt hA2
          clear hf2 ho2 hA2 hF2 hbA g1 g2 g4 g5 hw2 c10 c4 BQ BY hrgT
          go_wp2_with (refine ldG 39 #[.int .i64 al,.int .i64 az,.int .i64 ax,.int .i64 ay] Tryz.underlying39 rfl (sz39 _ _ _ _) b off hrg2 rfl _ rfl rfl ?_)
          refine TO.mono ?_
          rintro e w3 ⟨rfl,⟨tv3,hf3,ho3,hfr3⟩,hF3⟩
          have HX3 : Hid (∃ (tvr : Value) (us : List Tile),FBlk w3 fb { X with tv := tvr } /\ OwnR rTile 136 w3 tvr us /\ (∀ g,tvr.ownBlock = some g -> w.heap.size + 1 <= g) /\ evict room tb.size us = evict room tb.size (outT ts ⟨tl,tz,tx,ty⟩) /\ us.length <= 1000000 /\ bytesT us <= 100000000 /\ w3.heap[w.heap.size]? = some (.cells #[.int .i64 tl,.int .i64 tz,.int .i64 tx,.int .i64 ty,.string tb,.string tt] 136 (0,0)) /\ Frm (fun k => k = fb) w w3) :=
            ⟨tv3,_,hf3,ho3,fun g hg => by have := hfr3 g hg; simp at this; omega,unhide HEVN,by have := unhide HLESS; omega,unhide HLESS2,blk_frm (unhide HA2) hF3 (by omega),(unhide HF2).then hF3 (fun _ _ h => h)⟩
          have HT3 := hide (tlen_eq hf3 ho3.at)
          clear TO hf3 ho3 hfr3 hF3 c11
          go_wp2_with fail
          go_roundw
          case rel => exact HX3
          case measure =>
            have q1 := unhide HT3
            have q2 := unhide HTL
            have q3 := unhide HLESS
            omega
        . have hgo' : ¬ (room : Int) < (bytesT us : Int) + (tb.size : Int) := by omega
          have HE := hide (unhide HEX (by rw [unhide HUS]; rw [unhide HUS] at hgo; exact evict_stop hgo))
          clear HEX HEV HC4 HUS HTL hgo
          go_wp2_with fail
          go_quiet (exact (BQ _).mono fun e w' h => ⟨h.1,_,h.2.symm⟩)
          have hw2 := dnB wr nq
          obtain ⟨tv2,hf2,ho2,hfr2,hA2,hF02⟩ := unhide HE (wr.drewN nq) hw2
          generalize wr.drewN nq = w2 at hf2 ho2 hA2 hF02 ⊢
          have HA2 := hide hA2
          have HF2 := hide hf2
          have HO2 := hide ho2
          have HFR2 := hide hfr2
          have HF02 := hide hF02
          clear hf2 ho2 hfr2 hA2 hF02 HE hw2 c10 c11 c4 BQ
          go_wp2_with fail
          refine wp_region_held (S := fun w' => w'.heap[w.heap.size]? = some (.cells #[.int .i64 tl,.int .i64 tz,.int .i64 tx,.int .i64 ty,.string tb,.string tt] 136 (0,0))) (by kernel_rfl) ?_
          change wpAnyH _ _ _ _ _ _ _ _ (World.drew _)
          have hS : (World.drew w2).heap[w.heap.size]? = some (.cells #[.int .i64 tl,.int .i64 tz,.int .i64 tx,.int .i64 ty,.string tb,.string tt] 136 (0,0)) := unhide HA2
          have hf3 : FBlk (World.drew w2) fb { X with tv := tv2 } := unhide HF2
          have ho3 : OwnR rTile 136 (World.drew w2) tv2 (evict room tb.size (outT ts ⟨tl,tz,tx,ty⟩)) := unhide HO2
          have hF3 : Frm (fun k => k = fb) w (World.drew w2) := ⟨(unhide HF02).os,(unhide HF02).tape,(unhide HF02).output,(unhide HF02).size,(unhide HF02).block⟩
          have hfr3 := unhide HFR2
          generalize World.drew w2 = w3 at hS hf3 ho3 hF3 ⊢
          have hgl : w.heap.size < w3.heap.size := blk_lt hS
          have hfl : fb < w3.heap.size := blk_lt hf3
          have c11 : w3.cell? ⟨fb,11,none⟩ = some tv2 := (blk_cells hf3 11).trans rfl
          have hbA := (Below.refl w3.heap.size w3).alloc (Nat.le_refl _) (.cells #[.int .i64 tl,.int .i64 tz,.int .i64 tx,.int .i64 ty,.string tb,.string tt] 136)
          have hSA := blk_on hS hbA
          have hfA := blk_on hf3 hbA
          have c11A := (hbA.cell (p := ⟨fb,11,none⟩) hfl).trans c11
          have hat := at_new rTile 136 w3 ⟨⟨tl,tz,tx,ty⟩,tb,tt⟩ #[.int .i64 tl,.int .i64 tz,.int .i64 tx,.int .i64 ty,.string tb,.string tt] rfl
          have hoA := ho3.on hbA
          obtain ⟨v4,w4,r1,r2,r3,r4⟩ := apTile hoA hat (by simp; omega)
          have hS4 := (r3.block w.heap.size (by simp; omega) (fun q => by have := hfr3 w.heap.size q.symm; omega)).trans hSA
          have hf4 : FBlk w4 fb { X with tv := tv2 } := (r3.block fb (by simp; omega) (fun q => own_ne hoA hfA (by decide) fb q.symm rfl)).trans hfA
          have hfz := frzF hf4 11
          have c114 : w4.cell? ⟨fb,11,none⟩ = some tv2 := (blk_cells hf4 11).trans rfl
          have hF4 := (hF3.then (Frm.of_below hbA) (fun _ _ h => h)).grown r3 (fun g hg hlt => by have := hfr3 g hg; omega)
          have hfr4 := fresh_of (B := w.heap.size) (fun g hg => by have := hfr3 g hg; omega) r4 (by simp; have := hF3.size; omega)
          obtain ⟨oa4,n4,k4,rfl⟩ := r2.sl
          have hf5 := FBlk.set hf4 11 (.slice oa4 n4 k4) (FV.set_tv { X with tv := tv2 } _)
          have ho5 : OwnR rTile 136 (w4.setCell ⟨fb,11,none⟩ (.slice oa4 n4 k4)) (.slice oa4 n4 k4) _ := r2.same (fun g hg => Below.heap_setCell _ _ _ _ (own_ne r2 hf4 (by decide) g hg))
          have hF5 := hF4.setCell (p := ⟨fb,11,none⟩) (.slice oa4 n4 k4) (fun _ => rfl)
          have hS5 := (Below.heap_setCell w4 ⟨fb,11,none⟩ (.slice oa4 n4 k4) w.heap.size (by show w.heap.size ≠ fb; omega)).trans hS4
          have HF5 := hide hf5
          have HO5 := hide ho5
          have HFF5 := hide hF5
          have HFR5 := hide hfr4
          obtain ⟨oa2,n2,k2,rfl⟩ := ho3.sl
          refine t_tk 0 rfl (.pointer (some ⟨fb,10,none⟩)) (by kernel_rfl) (fun _ _ _ h => h) rfl (fun w' hw' => by simp [go_sem]) hS ?_
          simp only [Act.put,qA,qB,qC]
          refine t_tk 1 rfl (.pointer (some ⟨fb,10,none⟩)) (by kernel_rfl) (fun _ _ _ h => h) rfl (fun w' hw' => by simp [go_sem]) hS ?_
          simp only [Act.put,qA,qB,qC]
          refine t_tk 2 rfl (.pointer (some ⟨fb,10,none⟩)) (by kernel_rfl) (fun _ _ _ h => h) rfl (fun w' hw' => by simp [go_sem]) hS ?_
          simp only [Act.put,qA,qB,qC]
          refine t_tk 3 rfl (.pointer (some ⟨fb,11,none⟩)) (by kernel_rfl) (fun _ _ _ h => h) rfl (fun w' hw' => by simp [go_sem]) hS ?_
          simp only [Act.put,qA,qB,qC]
          refine t_tk 5 rfl (.agg #[.int .i64 tl,.int .i64 tz,.int .i64 tx,.int .i64 ty,.string tb,.string tt]) (by kernel_rfl) (fun _ _ _ h => h) rfl (fun w' hw' => ldcR _ _ _ 136 rfl _ rfl _ Tryz.underlying136 rfl (sz136 (some ⟨⟨tl,tz,tx,ty⟩,tb,tt⟩)) w.heap.size 0 rfl _ (rng_blk hw')) hS ?_
          simp only [Act.put,qA,qB,qC]
          refine wpAnyH_all (rs := [4,6]) (by kernel_rfl) (by simp) ?_
          intro i hi
          simp only [List.mem_cons,List.not_mem_nil,or_false] at hi
          rcases hi with rfl | rfl
          . refine t_op 4 rfl rfl (.slice oa2 n2 k2) (w3) (by simp [go_sem,c11]) (hS) ?_
            simp only [Act.put,qA,qB,qC]
            refine wpAnyH_all (rs := [6]) (by kernel_rfl) (by simp) ?_
            intro i hi
            simp only [List.mem_singleton] at hi
            subst hi
            refine t_op 6 rfl rfl (.slice (some ⟨w3.heap.size,0,none⟩) 1 1) (w3.alloc (.cells #[.int .i64 tl,.int .i64 tz,.int .i64 tx,.int .i64 ty,.string tb,.string tt] 136)) (bsTile tl tz tx ty tb tt _ _ _ rfl rfl _) (hSA) ?_
            simp only [Act.put,qA,qB,qC]
            refine wpAnyH_all (rs := [7]) (by kernel_rfl) (by simp) ?_
            intro i hi
            simp only [List.mem_singleton] at hi
            subst hi
            refine t_op 7 rfl rfl (.slice oa4 n4 k4) (w4) (exR 95 r1 _ _ _ _ rfl rfl rfl rfl) (hS4) ?_
            simp only [Act.put,qA,qB,qC]
            refine t_tk 8 rfl (.pointer (some ⟨fb,10,none⟩)) (by kernel_rfl) (fun _ _ _ h => h) rfl (fun w' hw' => by simp [go_sem]) hS4 ?_
            simp only [Act.put,qA,qB,qC]
            refine t_tk 9 rfl (.pointer (some ⟨fb,11,none⟩)) (by kernel_rfl) (fun _ _ _ h => h) rfl (fun w' hw' => by simp [go_sem]) hS4 ?_
            simp only [Act.put,qA,qB,qC]
            refine wpAnyH_all (rs := [10]) (by kernel_rfl) (by simp) ?_
            intro i hi
            simp only [List.mem_singleton] at hi
            subst hi
            refine t_skip 10 rfl rfl (w4.setCell ⟨fb,11,none⟩ (.slice oa4 n4 k4)) (stS _ _ _ _ 95 rfl (fun _ => by simp [go_sem]) fb 11 oa4 n4 k4 rfl rfl w4 c114 hfz) (hS5) ?_
            simp only [Act.put]
            refine wpAnyH_done (by kernel_rfl) ?_ _
            clear hS hf3 ho3 hF3 hgl hfl c11 hbA hSA hfA c11A hat hoA r1 r3 r4 hS4 hf4 hfz c114 hF4 hf5 ho5 hF5 hS5 hfr4 r2 hfr3
            go_wp2_with fail
            exact bodyPost_end (results_none Tryz.results111 _ _ _) rfl ⟨rfl,⟨_,unhide HF5,(unhide HLAY).symm ▸ unhide HO5,fun g hg => Or.inr (unhide HFR5 g hg)⟩,unhide HFF5⟩
          . refine t_op 6 rfl rfl (.slice (some ⟨w3.heap.size,0,none⟩) 1 1) (w3.alloc (.cells #[.int .i64 tl,.int .i64 tz,.int .i64 tx,.int .i64 ty,.string tb,.string tt] 136)) (bsTile tl tz tx ty tb tt _ _ _ rfl rfl _) (hSA) ?_
            simp only [Act.put,qA,qB,qC]
            refine wpAnyH_all (rs := [4]) (by kernel_rfl) (by simp) ?_
            intro i hi
            simp only [List.mem_singleton] at hi
            subst hi
            refine t_op 4 rfl rfl (.slice oa2 n2 k2) (w3.alloc (.cells #[.int .i64 tl,.int .i64 tz,.int .i64 tx,.int .i64 ty,.string tb,.string tt] 136)) (by simp [go_sem,c11A]) (hSA) ?_
            simp only [Act.put,qA,qB,qC]
            refine wpAnyH_all (rs := [7]) (by kernel_rfl) (by simp) ?_
            intro i hi
            simp only [List.mem_singleton] at hi
            subst hi
            refine t_op 7 rfl rfl (.slice oa4 n4 k4) (w4) (exR 95 r1 _ _ _ _ rfl rfl rfl rfl) (hS4) ?_
            simp only [Act.put,qA,qB,qC]
            refine t_tk 8 rfl (.pointer (some ⟨fb,10,none⟩)) (by kernel_rfl) (fun _ _ _ h => h) rfl (fun w' hw' => by simp [go_sem]) hS4 ?_
            simp only [Act.put,qA,qB,qC]
            refine t_tk 9 rfl (.pointer (some ⟨fb,11,none⟩)) (by kernel_rfl) (fun _ _ _ h => h) rfl (fun w' hw' => by simp [go_sem]) hS4 ?_
            simp only [Act.put,qA,qB,qC]
            refine wpAnyH_all (rs := [10]) (by kernel_rfl) (by simp) ?_
            intro i hi
            simp only [List.mem_singleton] at hi
            subst hi
            refine t_skip 10 rfl rfl (w4.setCell ⟨fb,11,none⟩ (.slice oa4 n4 k4)) (stS _ _ _ _ 95 rfl (fun _ => by simp [go_sem]) fb 11 oa4 n4 k4 rfl rfl w4 c114 hfz) (hS5) ?_
            simp only [Act.put]
            refine wpAnyH_done (by kernel_rfl) ?_ _
            clear hS hf3 ho3 hF3 hgl hfl c11 hbA hSA hfA c11A hat hoA r1 r3 r4 hS4 hf4 hfz c114 hF4 hf5 ho5 hF5 hS5 hfr4 r2 hfr3
            go_wp2_with fail
            exact bodyPost_end (results_none Tryz.results111 _ _ _) rfl ⟨rfl,⟨_,unhide HF5,(unhide HLAY).symm ▸ unhide HO5,fun g hg => Or.inr (unhide HFR5 g hg)⟩,unhide HFF5⟩
theorem t_callG {l : List Oper} {Q : Exit -> Act -> World -> Prop} {S : World -> Prop} {listed : Array Bool} {a : Act} {w : World} {fuel : Nat} {o : Oper} {rest : List Oper} (i : Nat) (hd : l.drop i = o :: rest) (hw : Region.wanted o (yielded l.toArray a.tmps) = true) (f : FuncId) (args : Array Value) (h0 : (execOp a.eval o).run Tryz.prog w = .ok (.enter f args) w) (v : Value) (R : World -> Prop)
    (hc : Calls Tryz.prog f args w fun e w' => e = .returned v /\ R w') (h : ∀ w',R w' -> S w' /\ wpAnyH Tryz.prog .any l.toArray Q S fuel (listed.setIfInBounds i true) (a.put o.dst v) w') :
    wpOp Tryz.prog l.toArray Q i (fun a' w' => S w' /\ wpAnyH Tryz.prog .any l.toArray Q S fuel (listed.setIfInBounds i true) a' w') a w := by
  unfold wpOp
  simp only [at_drop hd]
  rw [if_pos hw]
  left
  unfold Oper.wp
  rw [h0]
  exact hc.mono fun e w' ⟨e1,e2⟩ => by subst e1; exact h w' e2
set_option maxHeartbeats 6400000 in
theorem dropTouched_any (fb : Nat) (X : FV) (ver newest : Int) (sl pv : Value) (LS PL : List Ft) (ts : List Tile) (w : World) (hf : FBlk w fb X) (hst : StP w X.sb 0 ver sl pv LS PL) (hLS : LS.length <= 1000) (hver : 0 <= ver) (hnw : 0 <= newest /\ newest <= 1000) (ho : OwnR rTile 136 w X.tv ts) (hk : ∀ t ∈ ts,KOk t.k) (hll : ts.length <= 10000000) :
    Calls Tryz.prog 103 #[.pointer (some ⟨fb,0,none⟩),.int .i64 newest] w fun e w' => e = .returned (.tuple #[]) /\ (∃ tv',FBlk w' fb { X with tv := tv' } /\ OwnR rTile 136 w' tv' (ts.filter fun t => decide (stK ver t.k LS <= newest - 1)) /\ ∀ g,tv'.ownBlock = some g -> w.heap.size <= g) /\ Frm (fun k => k = fb) w w' := by
  have hlt0 := blk_lt hf
  obtain ⟨oa,cap,e,hcap,hm,hc⟩ := ho.at
  have HC := hide hc
  have HF := hide hf
  have HST := hide hst
  have HK := hide hk
  unfold maxLen at hm
  have hN := ownR_lit (R := rTile) (T := 136) w [] #[] rfl (by simp)
  have hB1 := (Below.refl w.heap.size w).alloc (Nat.le_refl _) (.cells #[] 136)
  have HN := hide hN
  have HB1 := hide hB1
  have c8 : w.cell? ⟨fb,11,none⟩ = some (.slice oa ts.length cap) := by rw [<- e]; exact hf.cells.2.2.2.2.2.2.2.2.2.2.2
  have HC8 := hide c8
  have hwn : IntKind.i64.wrap (newest - 1) = newest - 1 := i64_of _ (by omega)
  clear hf ho hc hN hB1 e c8 hst hk
  go_enter Tryz.func103,Tryz.ntmps103
  go_wp2_with fail
  go_loopw [4,5] (fun lv i wr => ∃ k : Nat,k <= ts.length /\ i = .int .i64 k /\ OwnR rTile 136 wr lv ((ts.take k).filter fun t => decide (stK ver t.k LS <= newest - 1)) /\ Hid (∀ g,lv.ownBlock = some g -> w.heap.size <= g) /\ Below w.heap.size w wr) (fun _ i _ => ts.length - (intOf i).toNat)
  case atStart => exact ⟨0,by omega,rfl,by simpa using unhide HN,hide (fun g hg => by simp [Value.ownBlock] at hg; omega),unhide HB1⟩
  case round =>
    obtain ⟨k,hk,rfl,hown,hfr,hb⟩ := hrel
    have hsz := hb.size
    have r8 := (hb.cell (p := ⟨fb,11,none⟩) hlt0).trans (unhide HC8)
    by_cases hlt : k < ts.length
    . have hkn : (k : Int) < ts.length := by omega
      obtain ⟨b,off,rfl,hbl,hc0⟩ := unhide HC (by omega)
      obtain ⟨⟨⟨tl,tz,tx,ty⟩,tb,tt⟩,ht⟩ : ∃ t,ts[k]? = some t := ⟨_,List.getElem?_eq_getElem hlt⟩
      have hko := unhide HK _ (List.mem_of_getElem? ht)
      dsimp only at hko
      have hrg0 : w.rangeAt b (off + k * 6) (tv (some ⟨⟨tl,tz,tx,ty⟩,tb,tt⟩)).toList := AtR.tile hc0 ht
      have hrgk := rng4 (rng_in hrg0 hb hbl)
      have CF := isUnchanged_any fb X ver sl pv LS PL tl tz tx ty (newest - 1) wr (blk_on (unhide HF) hb) ((unhide HST).on hb) hLS hko hver
      have HB := hide hb
      have HR0 := hide hrg0
      have HO := hide hown
      clear hb hc0 hrg0 hown
      go_wp2_with (refine ldG 39 #[.int .i64 tl,.int .i64 tz,.int .i64 tx,.int .i64 ty] Tryz.underlying39 rfl (sz39 _ _ _ _) b (off + k * 6) hrgk rfl _ rfl rfl ?_)
      refine CF.mono ?_
      rintro e w2 ⟨rfl,hb2⟩
      have hB2 := (unhide HB).trans (hb2.mono (unhide HB).size)
      have hrg2 := rng_in (unhide HR0) hB2 hbl
      have q8 := (hB2.cell (p := ⟨fb,11,none⟩) hlt0).trans (unhide HC8)
      have hown2 := (unhide HO).on hb2
      have hsz2 := hB2.size
      have HB2 := hide hB2
      have hfs := filter_snoc (fun t : Tile => decide (stK ver t.k LS <= newest - 1)) ht
      dsimp only at hfs
      clear CF hb2 hB2 hrgk r8
      cases hp : decide (stK ver ⟨tl,tz,tx,ty⟩ LS <= newest - 1) with
      | true =>
        rw [if_pos hp] at hfs
        have hat := at_new rTile 136 w2 ⟨⟨tl,tz,tx,ty⟩,tb,tt⟩ #[.int .i64 tl,.int .i64 tz,.int .i64 tx,.int .i64 ty,.string tb,.string tt] rfl
        have hownA := hown2.on ((Below.refl _ _).alloc (Nat.le_refl _) (.cells #[.int .i64 tl,.int .i64 tz,.int .i64 tx,.int .i64 ty,.string tb,.string tt] 136))
        obtain ⟨v3,w3,r1,r2,r3,r4⟩ := apTile hownA hat (by have := List.length_filter_le (fun t : Tile => decide (stK ver t.k LS <= newest - 1)) (ts.take k); simp at this ⊢; omega)
        rw [<- hfs] at r2
        have HO3 := hide r2
        have HB3 := hide (((unhide HB2).alloc hsz2 (.cells #[.int .i64 tl,.int .i64 tz,.int .i64 tx,.int .i64 ty,.string tb,.string tt] 136)).grown r3 (by simp; omega) (fun g hg => unhide hfr g hg))
        have HFR := hide (fresh_of (unhide hfr) r4 (by simp; omega))
        clear hown2 hat hownA r2 r3 r4 hfs hp
        go_wp2_with (first | refine ldG 136 (tv (some ⟨⟨tl,tz,tx,ty⟩,tb,tt⟩)) Tryz.underlying136 rfl (sz136 _) b (off + k * 6) hrg2 rfl _ rfl rfl ?_ | refine wlV _ _ (bsTile tl tz tx ty tb tt _ _ _ rfl rfl _) rfl ?_ | (at_builtin; refine wlR 95 r1 rfl _ _ rfl rfl rfl rfl ?_))
        go_roundw
        case rel => exact ⟨k + 1,by omega,by go_num,unhide HO3,unhide HFR,unhide HB3⟩
        case measure => simp [intOf]; omega
      | false =>
        rw [if_neg (by rw [hp]; simp),List.append_nil] at hfs
        rw [<- hfs] at hown2
        have HO3 := hide hown2
        clear hown2 hfs hp
        go_wp2_with fail
        go_roundw
        case rel => exact ⟨k + 1,by omega,by go_num,unhide HO3,hfr,unhide HB2⟩
        case measure => simp [intOf]; omega
    . have hkn : k = ts.length := by omega
      have hfb := blk_on (unhide HF) hb
      have hfz := frzF hfb 11
      have htl : ts.take k = ts := by rw [hkn,List.take_length]
      rw [htl] at hown
      have HH : Hid ((∃ tv',FBlk (wr.setCell ⟨fb,11,none⟩ u4) fb { X with tv := tv' } /\ OwnR rTile 136 (wr.setCell ⟨fb,11,none⟩ u4) tv' (ts.filter fun t => decide (stK ver t.k LS <= newest - 1)) /\ ∀ g,tv'.ownBlock = some g -> w.heap.size <= g) /\ Frm (fun k => k = fb) w (wr.setCell ⟨fb,11,none⟩ u4)) :=
        ⟨⟨u4,FBlk.set hfb 11 u4 (FV.set_tv X u4),hown.same (fun g hg => Below.heap_setCell _ _ _ _ (by have := unhide hfr g hg; show g ≠ fb; omega)),unhide hfr⟩,(Frm.of_below hb).setCell u4 (fun _ => rfl)⟩
      obtain ⟨oa4,n4,c4,rfl⟩ := hown.sl
      clear hown hb hfb htl
      subst hkn
      go_wp2_with fail
      exact bodyPost_end (results_none Tryz.results103 _ _ _) rfl ⟨rfl,unhide HH⟩
theorem StP.frm {w w' : World} {sb : Nat} {keep ver : Int} {sl pv : Value} {LS PL : List (Nat -> Int)} {S : Nat -> Prop} (h : StP w sb keep ver sl pv LS PL) (hf : Frm S w w') (h1 : ¬ S sb) (h2 : ∀ g,sl.ownBlock = some g -> ¬ S g) (h3 : ∀ g,pv.ownBlock = some g -> ¬ S g) : StP w' sb keep ver sl pv LS PL :=
  ⟨blk_frm h.blk hf h1,h.own.same fun g hg => hf.block g (World.ownsRow.lt h.own g hg).2 (h2 g hg),h.pins.same fun g hg => hf.block g (World.ownsRow.lt h.pins g hg).2 (h3 g hg)⟩
theorem StP.fb {w w' : World} {sb : Nat} {keep ver : Int} {sl pv : Value} {LS PL : List (Nat -> Int)} {fb : Nat} {X : FV} (h : StP w sb keep ver sl pv LS PL) (hF : FBlk w fb X) (hf : Frm (fun k => k = fb) w w') : StP w' sb keep ver sl pv LS PL := by
  refine h.frm hf (blk_ne h.blk hF (by decide)) (fun g hg => ?_) (fun g hg => ?_)
  . obtain ⟨c,hc⟩ := h.own.ty hg; exact blk_ne hc hF (by decide)
  . obtain ⟨c,hc⟩ := h.pins.ty hg; exact blk_ne hc hF (by decide)
def layUl (ver : Int) (LS : List Ft) (room : Nat) (reads : Int) (cs ts : List Tile) : List Tile := ts.foldl (fun c t => if decide (stK ver t.k LS <= reads) then layT room c t else c) cs
theorem layUl_snoc {ver : Int} {LS : List Ft} {room : Nat} {reads : Int} {cs ts : List Tile} {k : Nat} {t : Tile} (h : ts[k]? = some t) : layUl ver LS room reads cs (ts.take (k + 1)) = if decide (stK ver t.k LS <= reads) then layT room (layUl ver LS room reads cs (ts.take k)) t else layUl ver LS room reads cs (ts.take k) := by
  unfold layUl
  rw [take_succ h,List.foldl_append]
  rfl
theorem layT_bytes (room : Nat) (ts : List Tile) (t : Tile) : bytesT (layT room ts t) <= max (bytesT ts) room := by
  unfold layT
  split
  . exact Nat.le_max_left _ _
  . have := (evict_sub room t.body.size _ (outT ts t.k) (Nat.le_refl _)).2 (by omega)
    rw [bytesT_app]
    simp only [bytesT]
    have := Nat.le_max_right (bytesT ts) room
    omega
theorem layT_len (room : Nat) (ts : List Tile) (t : Tile) : (layT room ts t).length <= ts.length + 1 := by
  unfold layT
  split
  . omega
  . have := (evict_sub room t.body.size _ (outT ts t.k) (Nat.le_refl _)).1.length_le
    have := outT_len ts t.k
    simp; omega
set_option maxHeartbeats 6400000 in
theorem layUnchanged_any (fb : Nat) (X : FV) (room : Nat) (ver reads : Int) (sl pv : Value) (LS PL : List Ft) (cs ts : List Tile) (tsv : Value) (w : World) (hf : FBlk w fb X) (hrm : X.rm = room) (hst : StP w X.sb 0 ver sl pv LS PL) (hLS : LS.length <= 1000) (hver : 0 <= ver) (ho : OwnR rTile 136 w X.tv cs) (hot : OwnR rTile 136 w tsv ts) (hk : ∀ t ∈ ts,KOk t.k /\ t.body.size <= 1000000) (hl : cs.length <= 1000) (hlt : ts.length <= 1000) (hby : bytesT cs <= 1000000) (hro : room <= 1000000) :
    Calls Tryz.prog 80 #[.pointer (some ⟨fb,0,none⟩),tsv,.int .i64 reads] w fun e w' => e = .returned (.tuple #[]) /\ (∃ tv',FBlk w' fb { X with tv := tv' } /\ OwnR rTile 136 w' tv' (layUl ver LS room reads cs ts) /\ ∀ g,tv'.ownBlock = some g -> X.tv.ownBlock = some g \/ w.heap.size <= g) /\ Frm (fun k => k = fb) w w' := by
  have hlt0 := blk_lt hf
  have hne := own_ne hot hf (by decide)
  obtain ⟨oa,cap,e,hcap,hm,hc⟩ := hot.at
  have HC := hide hc
  have HF := hide hf
  have HST := hide hst
  have HK := hide hk
  have HO := hide ho
  have HRM := hide hrm
  unfold maxLen at hm
  rw [e] at hne
  have HNE := hide hne
  clear hf ho hot hc hst hk hrm hne
  subst e
  go_enter Tryz.func80,Tryz.ntmps80
  go_wp2_with fail
  go_loopw [6] (fun i wr => ∃ (k : Nat) (tvr : Value),k <= ts.length /\ i = .int .i64 k /\ Hid (FBlk wr fb { X with tv := tvr } /\ OwnR rTile 136 wr tvr (layUl ver LS room reads cs (ts.take k)) /\ (∀ g,tvr.ownBlock = some g -> X.tv.ownBlock = some g \/ w.heap.size <= g) /\ (layUl ver LS room reads cs (ts.take k)).length <= 1000 + k /\ bytesT (layUl ver LS room reads cs (ts.take k)) <= 1000000 /\ Frm (fun k => k = fb) w wr)) (fun i _ => ts.length - (intOf i).toNat)
  case atStart => exact ⟨0,X.tv,by omega,rfl,hide ⟨unhide HF,by simpa [layUl] using unhide HO,fun g hg => Or.inl hg,by simpa [layUl] using hl,by simpa [layUl] using hby,Frm.rfl' _ _⟩⟩
  case round =>
    obtain ⟨k,tvr,hk,rfl,hh⟩ := hrel
    obtain ⟨g1,g2,g3,g4,g5,g6⟩ := unhide hh
    by_cases hlk : k < ts.length
    . have hkn : (k : Int) < ts.length := by omega
      obtain ⟨b,off,rfl,hbl,hc0⟩ := unhide HC (by omega)
      obtain ⟨⟨⟨tl,tz,tx,ty⟩,tb,tt⟩,ht⟩ : ∃ t,ts[k]? = some t := ⟨_,List.getElem?_eq_getElem hlk⟩
      obtain ⟨hko,htb⟩ := unhide HK _ (List.mem_of_getElem? ht)
      dsimp only at hko htb
      have hbf : b ≠ fb := unhide HNE b rfl
      have hrg : ∀ W,Frm (fun k => k = fb) w W -> W.rangeAt b (off + k * 6) (tv (some ⟨⟨tl,tz,tx,ty⟩,tb,tt⟩)).toList := fun W h j u hu => by
        rw [World.cell?_of_block (a := ⟨b,off + k * 6 + j,none⟩) (h.block b hbl hbf)]; exact AtR.tile hc0 ht j u hu
      have hrgk := rng4 (hrg wr g6)
      have hstr := (unhide HST).fb (unhide HF) g6
      have CF := isUnchanged_any fb { X with tv := tvr } ver sl pv LS PL tl tz tx ty reads wr g1 hstr hLS hko hver
      have hls := layUl_snoc (ver := ver) (LS := LS) (room := room) (reads := reads) (cs := cs) ht
      dsimp only at hls
      have HG := hide (show FBlk wr fb { X with tv := tvr } /\ OwnR rTile 136 wr tvr (layUl ver LS room reads cs (ts.take k)) /\ Frm (fun k => k = fb) w wr from ⟨g1,g2,g6⟩)
      have HRG := hide hrg
      have HG3 := hide g3
      have HG4 := hide g4
      have HG5 := hide g5
      clear hc0 g1 g2 g3 g4 g5 g6 hh hrg hstr
      go_wp2_with (refine ldG 39 #[.int .i64 tl,.int .i64 tz,.int .i64 tx,.int .i64 ty] Tryz.underlying39 rfl (sz39 _ _ _ _) b (off + k * 6) hrgk rfl _ rfl rfl ?_)
      refine CF.mono ?_
      rintro e w2 ⟨rfl,hb2⟩
      obtain ⟨g1,g2,g6⟩ := unhide HG
      have hf2 := blk_on g1 hb2
      have ho2 := g2.on hb2
      have hF2 := g6.then (Frm.of_below hb2) (fun _ _ h => h)
      have hsz : w.heap.size <= wr.heap.size := g6.size
      have hsz2 := hb2.size
      clear CF hb2 hrgk g1 g2 g6
      cases hp : decide (stK ver ⟨tl,tz,tx,ty⟩ LS <= reads) with
      | false =>
        rw [if_neg (by rw [hp]; simp)] at hls
        rw [<- hls] at ho2
        have HH : Hid (FBlk w2 fb { X with tv := tvr } /\ OwnR rTile 136 w2 tvr (layUl ver LS room reads cs (ts.take (k + 1))) /\ (∀ g,tvr.ownBlock = some g -> X.tv.ownBlock = some g \/ w.heap.size <= g) /\ (layUl ver LS room reads cs (ts.take (k + 1))).length <= 1000 + (k + 1) /\ bytesT (layUl ver LS room reads cs (ts.take (k + 1))) <= 1000000 /\ Frm (fun k => k = fb) w w2) :=
          ⟨hf2,ho2,unhide HG3,by rw [hls]; have := unhide HG4; omega,by rw [hls]; exact unhide HG5,hF2⟩
        clear hf2 ho2 hF2 hls hp
        go_wp2_with fail
        go_roundw
        case rel => exact ⟨k + 1,tvr,by omega,by go_num,HH⟩
        case measure => simp [intOf]; omega
      | true =>
        rw [if_pos hp] at hls
        have hlb := layT_bytes room (layUl ver LS room reads cs (ts.take k)) ⟨⟨tl,tz,tx,ty⟩,tb,tt⟩
        have hll := layT_len room (layUl ver LS room reads cs (ts.take k)) ⟨⟨tl,tz,tx,ty⟩,tb,tt⟩
        rw [<- hls] at hlb hll
        have hrg2 := unhide HRG w2 hF2
        have HF2 := hide hf2
        have HO2 := hide ho2
        have HFF2 := hide hF2
        have HLS := hide hls
        clear hf2 ho2 hF2 hls hp
        go_wp2_with fail
        refine wp_region_held (S := fun w' => w'.rangeAt b (off + k * 6) (tv (some ⟨⟨tl,tz,tx,ty⟩,tb,tt⟩)).toList) (by kernel_rfl) ?_
        change wpAnyH _ _ _ _ _ _ _ _ (World.drew _)
        have hS : (World.drew w2).rangeAt b (off + k * 6) (tv (some ⟨⟨tl,tz,tx,ty⟩,tb,tt⟩)).toList := hrg2
        have hf3 : FBlk (World.drew w2) fb { X with tv := tvr } := unhide HF2
        have ho3 : OwnR rTile 136 (World.drew w2) tvr (layUl ver LS room reads cs (ts.take k)) := unhide HO2
        have hF3 : Frm (fun k => k = fb) w (World.drew w2) := ⟨(unhide HFF2).os,(unhide HFF2).tape,(unhide HFF2).output,(unhide HFF2).size,(unhide HFF2).block⟩
        generalize World.drew w2 = w3 at hS hf3 ho3 hF3 ⊢
        have hq4 := unhide HG4
        have hq5 := unhide HG5
        have LY := lay_any fb { X with tv := tvr } room _ tl tz tx ty tb tt w3 hf3 (unhide HRM) ho3 (by omega) (by omega) htb
        have HRF : Hid (∀ w4,((∃ tv',FBlk w4 fb { X with tv := tv' } /\ OwnR rTile 136 w4 tv' (layT room (layUl ver LS room reads cs (ts.take k)) ⟨⟨tl,tz,tx,ty⟩,tb,tt⟩) /\ ∀ g,tv'.ownBlock = some g -> tvr.ownBlock = some g \/ w3.heap.size <= g) /\ Frm (fun k => k = fb) w3 w4) -> w4.rangeAt b (off + k * 6) (tv (some ⟨⟨tl,tz,tx,ty⟩,tb,tt⟩)).toList /\ ∃ tv',FBlk w4 fb { X with tv := tv' } /\ OwnR rTile 136 w4 tv' (layUl ver LS room reads cs (ts.take (k + 1))) /\ (∀ g,tv'.ownBlock = some g -> X.tv.ownBlock = some g \/ w.heap.size <= g) /\ (layUl ver LS room reads cs (ts.take (k + 1))).length <= 1000 + (k + 1) /\ bytesT (layUl ver LS room reads cs (ts.take (k + 1))) <= 1000000 /\ Frm (fun k => k = fb) w w4) := by
          rintro w4 ⟨⟨tv',z1,z2,z3⟩,z4⟩
          have zf := hF3.then z4 (fun _ _ h => h)
          refine ⟨unhide HRG w4 zf,tv',z1,by rw [unhide HLS]; exact z2,fun g hg => ?_,by omega,by omega,zf⟩
          rcases z3 g hg with z | z
          . exact unhide HG3 g z
          . right; have := hF3.size; omega
        refine t_tk 0 rfl (.pointer (some ⟨fb,0,none⟩)) (by kernel_rfl) (fun _ _ _ h => h) rfl (fun w' hw' => by simp [go_sem]) hS ?_
        simp only [Act.put,qA,qB,qC]
        refine t_tk 1 rfl (.pointer (some ⟨fb,0,none⟩)) (by kernel_rfl) (fun _ _ _ h => h) rfl (fun w' hw' => by simp [go_sem]) hS ?_
        simp only [Act.put,qA,qB,qC]
        refine t_tk 2 rfl (.pointer (some ⟨fb,10,none⟩)) (by kernel_rfl) (fun _ _ _ h => h) rfl (fun w' hw' => by simp [go_sem]) hS ?_
        simp only [Act.put,qA,qB,qC]
        refine t_tk 3 rfl (.slice (some ⟨b,off,none⟩) ts.length cap) (by kernel_rfl) (fun _ _ _ h => h) rfl (fun w' hw' => by simp [go_sem]) hS ?_
        simp only [Act.put,qA,qB,qC]
        refine t_tk 4 rfl (.int .i64 k) (by kernel_rfl) (fun _ _ _ h => h) rfl (fun w' hw' => by simp [go_sem]) hS ?_
        simp only [Act.put,qA,qB,qC]
        refine t_tk 5 rfl (.pointer (some ⟨b,off + k * 6,none⟩)) (by kernel_rfl) (fun _ _ _ h => h) rfl (fun w' hw' => by simp [go_sem,hkn]) hS ?_
        simp only [Act.put,qA,qB,qC]
        refine t_tk 6 rfl (.agg (tv (some ⟨⟨tl,tz,tx,ty⟩,tb,tt⟩))) (by kernel_rfl) (fun _ _ _ h => h) rfl (fun w' hw' => ldcR _ _ _ 136 rfl _ rfl _ Tryz.underlying136 rfl (sz136 (some ⟨⟨tl,tz,tx,ty⟩,tb,tt⟩)) b (off + k * 6) rfl _ hw') hS ?_
        simp only [Act.put,qA,qB,qC]
        refine wpAnyH_all (rs := [7]) (by kernel_rfl) (by simp) ?_
        intro i hi
        simp only [List.mem_singleton] at hi
        subst hi
        refine t_callG 7 rfl rfl 111 #[.pointer (some ⟨fb,10,none⟩),.agg #[.int .i64 tl,.int .i64 tz,.int .i64 tx,.int .i64 ty,.string tb,.string tt]] (by simp [go_sem,tv]) (.tuple #[]) _ LY ?_
        intro w4 hR4
        obtain ⟨hS4,tv4,z1,z2,z3,z4,z5,z6⟩ := unhide HRF w4 hR4
        refine ⟨hS4,?_⟩
        simp only [Act.put,qA,qB,qC]
        refine wpAnyH_done (by kernel_rfl) ?_ _
        have HH := hide (And.intro z1 (And.intro z2 (And.intro z3 (And.intro z4 (And.intro z5 z6)))))
        clear hS hf3 ho3 hF3 LY hR4 hS4 z1 z2 z3 z4 z5 z6 HRF hrg2 hlb hll hq4 hq5
        go_wp2_with fail
        go_roundw
        case rel => exact ⟨k + 1,tv4,by omega,by go_num,HH⟩
        case measure => simp [intOf]; omega
    . have hkn : k = ts.length := by omega
      have htl : ts.take k = ts := by rw [hkn,List.take_length]
      rw [htl] at g2
      have HH := hide (show (∃ tv',FBlk wr fb { X with tv := tv' } /\ OwnR rTile 136 wr tv' (layUl ver LS room reads cs ts) /\ ∀ g,tv'.ownBlock = some g -> X.tv.ownBlock = some g \/ w.heap.size <= g) /\ Frm (fun k => k = fb) w wr from ⟨⟨tvr,g1,g2,g3⟩,g6⟩)
      clear g1 g2 g3 g4 g5 g6 hh htl
      subst hkn
      go_wp2_with fail
      exact bodyPost_end (results_none Tryz.results80 _ _ _) rfl ⟨rfl,unhide HH⟩
end Go.Proofs.YtpopchckldbhdaaGreatDoor
namespace Go.Proofs.YtpopchckldbhdaaGreatDoor.Dw
namespace Pp
def cutL (m : UInt8) : List UInt8 -> List UInt8 × List UInt8
  | [] => ([],[])
  | c :: r => if c = m then ([],r) else (c :: (cutL m r).1,(cutL m r).2)
theorem cutL_none (m : UInt8) : ∀ l : List UInt8,m ∉ l -> cutL m l = (l,[])
  | [],_ => rfl
  | c :: r,h => by
    have hc : c ≠ m := fun e => h (by simp [e])
    have ih := cutL_none m r (fun e => h (by simp [e]))
    simp [cutL,hc,ih]
theorem cutL_found (m : UInt8) (r : List UInt8) : ∀ a : List UInt8,m ∉ a -> cutL m (a ++ m :: r) = (a,r)
  | [],_ => by simp [cutL]
  | c :: a,h => by
    have hc : c ≠ m := fun e => h (by simp [e])
    have ih := cutL_found m r a (fun e => h (by simp [e]))
    simp [cutL,hc,ih]
theorem cutL_back (m : UInt8) : ∀ l : List UInt8,(cutL m l).2 ≠ [] -> l = (cutL m l).1 ++ m :: (cutL m l).2
  | [],h => by simp [cutL] at h
  | c :: r,h => by
    by_cases hc : c = m
    . simp [cutL,hc]
    . simp only [cutL,hc,if_false] at h ⊢
      have ih := cutL_back m r h
      rw [List.cons_append,<- ih]
def within (lo hi : Nat) (l : List UInt8) : Bool := l.all fun c => decide (lo <= c.toNat /\ c.toNat <= hi)
def nameB (l : List UInt8) : Bool := decide (1 <= l.length /\ l.length <= 8) && within 97 122 l
def numB (l : List UInt8) : Bool := decide (1 <= l.length /\ l.length <= 9) && (!(decide (1 < l.length) && (l.getD 0 0 == 48)) && within 48 57 l)
theorem within_not (lo hi : Nat) (l : List UInt8) (m : UInt8) (hm : m.toNat < lo \/ hi < m.toNat) (h : within lo hi l = true) : m ∉ l := by
  intro hx
  simp only [within,List.all_eq_true,decide_eq_true_eq] at h
  have := h m hx
  omega
theorem nameB_within (l : List UInt8) (h : nameB l = true) : within 97 122 l = true := by
  simp only [nameB,Bool.and_eq_true] at h; exact h.2
theorem numB_within (l : List UInt8) (h : numB l = true) : within 48 57 l = true := by
  simp only [numB,Bool.and_eq_true] at h; exact h.2.2
theorem numB_len (l : List UInt8) (h : numB l = true) : 1 <= l.length /\ l.length <= 9 := by
  simp only [numB,Bool.and_eq_true,decide_eq_true_eq] at h; exact h.1
theorem name_47 (l : List UInt8) (h : nameB l = true) : (47 : UInt8) ∉ l := within_not _ _ l 47 (Or.inl (by decide)) (nameB_within l h)
theorem num_47 (l : List UInt8) (h : numB l = true) : (47 : UInt8) ∉ l := within_not _ _ l 47 (Or.inl (by decide)) (numB_within l h)
theorem num_46 (l : List UInt8) (h : numB l = true) : (46 : UInt8) ∉ l := within_not _ _ l 46 (Or.inl (by decide)) (numB_within l h)
def tile : List UInt8 := [116,105,108,101]
def dotTile : List UInt8 := [46,116,105,108,101]
abbrev Quad := List UInt8 × List UInt8 × List UInt8 × List UInt8
def Form (p : List UInt8) (q : Quad) : Prop :=
  p = 47 :: (q.1 ++ 47 :: (q.2.1 ++ 47 :: (q.2.2.1 ++ 47 :: (q.2.2.2 ++ 46 :: tile)))) /\ nameB q.1 = true /\ numB q.2.1 = true /\ numB q.2.2.1 = true /\ numB q.2.2.2 = true
def splitOk (a n z x y : List UInt8 × List UInt8) : Bool := decide (a.1 = [] /\ y.2 = tile) && (nameB n.1 && (numB z.1 && (numB x.1 && numB y.1)))
def splitL (p : List UInt8) : Option Quad :=
  let a := cutL 47 p
  let n := cutL 47 a.2
  let z := cutL 47 n.2
  let x := cutL 47 z.2
  let y := cutL 46 x.2
  if splitOk a n z x y = true then some (n.1,z.1,x.1,y.1) else none
theorem splitOk_iff (a n z x y : List UInt8 × List UInt8) : splitOk a n z x y = true ↔ (a.1 = [] /\ y.2 = tile) /\ nameB n.1 = true /\ numB z.1 = true /\ numB x.1 = true /\ numB y.1 = true := by
  simp [splitOk]
theorem splitL_iff (p : List UInt8) (q : Quad) : splitL p = some q ↔ Form p q := by
  constructor
  . intro h
    unfold splitL at h
    simp only at h
    generalize ha : cutL 47 p = a at h
    generalize hn : cutL 47 a.2 = n at h
    generalize hz : cutL 47 n.2 = z at h
    generalize hx : cutL 47 z.2 = x at h
    generalize hy : cutL 46 x.2 = y at h
    by_cases hok : splitOk a n z x y = true
    . rw [if_pos hok] at h
      obtain ⟨⟨h1,h2⟩,h3,h4,h5,h6⟩ := (splitOk_iff _ _ _ _ _).1 hok
      have ey := cutL_back 46 x.2 (by rw [hy,h2]; decide)
      rw [hy,h2] at ey
      have ex := cutL_back 47 z.2 (by rw [hx,ey]; simp)
      rw [hx,ey] at ex
      have ez := cutL_back 47 n.2 (by rw [hz,ex]; simp)
      rw [hz,ex] at ez
      have en := cutL_back 47 a.2 (by rw [hn,ez]; simp)
      rw [hn,ez] at en
      have ea := cutL_back 47 p (by rw [ha,en]; simp)
      rw [ha,h1,en] at ea
      have hq := Option.some.inj h
      subst hq
      exact ⟨by simpa using ea,h3,h4,h5,h6⟩
    . rw [if_neg hok] at h
      cases h
  . rintro ⟨rfl,h3,h4,h5,h6⟩
    obtain ⟨n,z,x,y⟩ := q
    simp only at h3 h4 h5 h6 ⊢
    unfold splitL
    have e1 : cutL 47 (47 :: (n ++ 47 :: (z ++ 47 :: (x ++ 47 :: (y ++ 46 :: tile))))) = ([],n ++ 47 :: (z ++ 47 :: (x ++ 47 :: (y ++ 46 :: tile)))) := by simp [cutL]
    simp only [e1,cutL_found 47 _ n (name_47 n h3),cutL_found 47 _ z (num_47 z h4),cutL_found 47 _ x (num_47 x h5),cutL_found 46 _ y (num_46 y h6)]
    rw [if_pos ((splitOk_iff _ _ _ _ _).2 ⟨⟨rfl,rfl⟩,h3,h4,h5,h6⟩)]
def valL (l : List UInt8) : Nat := l.foldl (fun n c => 10 * n + (c.toNat - 48)) 0
theorem valL_snoc (l : List UInt8) (c : UInt8) : valL (l ++ [c]) = 10 * valL l + (c.toNat - 48) := by simp [valL]
theorem valL_lt (l : List UInt8) (h : within 48 57 l = true) : valL l < 10 ^ l.length := by
  have key : ∀ (l : List UInt8) (n k : Nat),within 48 57 l = true -> n < 10 ^ k -> l.foldl (fun n c => 10 * n + (c.toNat - 48)) n < 10 ^ (k + l.length) := by
    intro l
    induction l with
    | nil => intro n k _ hn; simpa using hn
    | cons c r ih =>
      intro n k hw hn
      simp only [within,List.all_cons,Bool.and_eq_true,decide_eq_true_eq] at hw
      have := ih (10 * n + (c.toNat - 48)) (k + 1) hw.2 (by rw [Nat.pow_succ]; omega)
      rw [List.foldl_cons,List.length_cons,show k + (r.length + 1) = k + 1 + r.length from by omega]
      exact this
  have := key l 0 0 h (by decide)
  simpa [valL] using this
def land : List UInt8 := [108,97,110,100]
def water : List UInt8 := [119,97,116,101,114]
def road : List UInt8 := [114,111,97,100]
def mark : List UInt8 := [109,97,114,107]
def names (i : Nat) : List UInt8 := [land,water,road,mark].getD i []
def layerL (l : List UInt8) : Int := if l = land then 0 else if l = water then 1 else if l = road then 2 else if l = mark then 3 else -1
def keyErr (l z x y : Int) : Int :=
  if l < 0 \/ 3 < l then 2 else if z < 0 \/ 22 < z then 3 else if x < 0 \/ (2 : Int) ^ z.toNat <= x \/ y < 0 \/ (2 : Int) ^ z.toNat <= y then 4 else 0
end Pp
end Go.Proofs.YtpopchckldbhdaaGreatDoor.Dw
namespace Go.Proofs.YtpopchckldbhdaaGreatDoor.Dw
open Go.RowKit
set_option maxRecDepth 20000
theorem hide {p : Prop} (h : p) : Hid p := h
theorem unhide {p : Prop} (h : Hid p) : p := h
theorem ret_bool {a b : Bool} (h : a = b) : Ending.returned (.bool a) = .returned (.bool b) := by rw [h]
theorem ret_int {k : IntKind} {a b : Int} (h : a = b) : Ending.returned (.int k a) = .returned (.int k b) := by rw [h]
theorem ret_str {a b : List UInt8} (h : a = b) : Ending.returned (.string ⟨a.toArray⟩) = .returned (.string ⟨b.toArray⟩) := by rw [h]
theorem take_snoc (s : ByteArray) (k : Nat) (h : k < s.size) : s.data.toList.take (k + 1) = s.data.toList.take k ++ [s[k]] := by
  rw [List.take_succ_eq_append_getElem (by simpa using h)]; rfl
theorem drop_cons (s : ByteArray) (k : Nat) (h : k < s.size) : s.data.toList.drop k = s[k] :: s.data.toList.drop (k + 1) := by
  rw [List.drop_eq_getElem_cons (by simpa using h)]; rfl
theorem i64_in (x : Int) (h1 : -9223372036854775808 <= x) (h2 : x <= 9223372036854775807) : IntKind.i64.wrap x = x := by rw [IntKind.wrap_i64]; omega
theorem dd (w : World) (q n : Nat) : ∃ k,(w.drewN q).drewN n = w.drewN k := ⟨_,World.drewN_drewN _ _ _⟩
theorem within_false (lo hi : Nat) (s : ByteArray) (k : Nat) (h : k < s.size) (hb : ¬ (lo <= s[k].toNat /\ s[k].toNat <= hi)) : Pp.within lo hi s.data.toList = false := by
  rw [Bool.eq_false_iff]
  intro ht
  simp only [Pp.within,List.all_eq_true,decide_eq_true_eq] at ht
  exact hb (ht s[k] (Array.mem_toList_iff.2 (Array.getElem_mem _)))
theorem within_snoc (lo hi : Nat) (s : ByteArray) (k : Nat) (h : k < s.size) (h0 : Pp.within lo hi (s.data.toList.take k) = true) (hb : lo <= s[k].toNat /\ s[k].toNat <= hi) : Pp.within lo hi (s.data.toList.take (k + 1)) = true := by
  rw [take_snoc s k h]
  unfold Pp.within at h0 ⊢
  rw [List.all_append,h0]
  simp [hb]
theorem within_all (lo hi : Nat) (s : ByteArray) (h : Pp.within lo hi s.data.toList = true) (k : Nat) (hk : k < s.size) : lo <= s[k].toNat /\ s[k].toNat <= hi := by
  simp only [Pp.within,List.all_eq_true,decide_eq_true_eq] at h
  exact h s[k] (Array.mem_toList_iff.2 (Array.getElem_mem _))
set_option maxHeartbeats 400000 in
theorem allWithin_any (s : ByteArray) (lo hi : Nat) (lo' hi' : Int) (w : World) (hs : s.size <= maxLen) (e1 : (lo : Int) = lo') (e2 : (hi : Int) = hi') :
    Calls Tryz.prog 112 #[.string s,.int .u8 lo',.int .u8 hi'] w fun e w' => e = .returned (.bool (Pp.within lo hi s.data.toList)) /\ w = w' := by
  unfold maxLen at hs
  have g1 : (lo : Int) <= lo' := by omega
  have g2 : lo' <= (lo : Int) := by omega
  have g3 : (hi : Int) <= hi' := by omega
  have g4 : hi' <= (hi : Int) := by omega
  clear e1 e2
  go_enter Tryz.func112,Tryz.ntmps112
  go_wp2
  go_loop [7] (fun i => ∃ k : Nat,k <= s.size /\ i = .int .i64 k /\ Hid (Pp.within lo hi (s.data.toList.take k) = true)) (fun i => s.size - (intOf i).toNat)
  case atStart => exact ⟨0,Nat.zero_le _,rfl,hide rfl⟩
  case round =>
    obtain ⟨k,hk,rfl,hall⟩ := hrel
    by_cases hlt : k < s.size
    . by_cases h1 : (s[k].toNat : Int) < lo'
      . go_wp2
        go_ret
        exact ⟨ret_bool (within_false lo hi s k hlt (by omega)).symm,rfl⟩
      . by_cases h2 : hi' < (s[k].toNat : Int)
        . go_wp2
          go_ret
          exact ⟨ret_bool (within_false lo hi s k hlt (by omega)).symm,rfl⟩
        . go_wp2
          go_round
          case rel => exact ⟨k + 1,by omega,by go_num,hide (within_snoc lo hi s k hlt (unhide hall) (by omega))⟩
          case measure => simp [intOf]; omega
    . go_wp2
      go_ret
      refine ⟨ret_bool ?_,rfl⟩
      have := unhide hall
      rw [List.take_of_length_le (by simp; omega)] at this
      exact this.symm
theorem len_size (s : ByteArray) : s.data.toList.length = s.size := by simp
set_option maxHeartbeats 400000 in
theorem isName_any (s : ByteArray) (w : World) (hs : s.size <= maxLen) :
    Calls Tryz.prog 94 #[.string s] w fun e w' => e = .returned (.bool (Pp.nameB s.data.toList)) /\ w = w' := by
  have hs' := hs
  unfold maxLen at hs'
  by_cases h1 : 1 <= s.size
  . by_cases h8 : s.size <= 8
    . have hn : Hid (Pp.nameB s.data.toList = Pp.within 97 122 s.data.toList) := by
        show Pp.nameB s.data.toList = _
        unfold Pp.nameB; rw [len_size]; simp [h1,h8]
      have g1 : (1 : Int) <= (s.size : Int) := by omega
      have g2 : (s.size : Int) <= 8 := by omega
      go_enter Tryz.func94,Tryz.ntmps94
      go_wp2_with (go_at_call 112; refine (allWithin_any s 97 122 _ _ _ hs rfl rfl).mono ?_; rintro e w' ⟨rfl,rfl⟩)
      go_ret
      exact ⟨ret_bool (unhide hn).symm,rfl⟩
    . have hn : Hid (Pp.nameB s.data.toList = false) := by
        show Pp.nameB s.data.toList = _
        unfold Pp.nameB; rw [len_size]; simp [h8]
      have g1 : decide ((s.size : Int) <= 8) = false := by simp; omega
      go_enter Tryz.func94,Tryz.ntmps94
      go_wp2_with fail
      go_ret
      exact ⟨ret_bool (unhide hn).symm,rfl⟩
  . have hn : Hid (Pp.nameB s.data.toList = false) := by
      show Pp.nameB s.data.toList = _
      unfold Pp.nameB; rw [len_size]; simp [h1]
    have g1 : decide ((1 : Int) <= (s.size : Int)) = false := by simp; omega
    go_enter Tryz.func94,Tryz.ntmps94
    go_wp2_with fail
    go_ret
    exact ⟨ret_bool (unhide hn).symm,rfl⟩
theorem head_at (s : ByteArray) (h : 0 < s.size) : s.data.toList.getD 0 0 = s[0] := by
  rw [List.getD_eq_getElem?_getD,List.getElem?_eq_getElem (by simpa using h)]; rfl
set_option maxHeartbeats 400000 in
theorem isNumber_any (s : ByteArray) (w : World) (hs : s.size <= maxLen) :
    Calls Tryz.prog 95 #[.string s] w fun e w' => e = .returned (.bool (Pp.numB s.data.toList)) /\ w = w' := by
  have hs' := hs
  unfold maxLen at hs'
  by_cases h1 : s.size < 1
  . have hn : Hid (Pp.numB s.data.toList = false) := by
      show Pp.numB s.data.toList = _
      have : ¬ 1 <= s.size := by omega
      unfold Pp.numB; rw [len_size]; simp [this]
    go_enter Tryz.func95,Tryz.ntmps95
    go_wp2_with fail
    go_ret
    exact ⟨ret_bool (unhide hn).symm,rfl⟩
  by_cases h9 : 9 < s.size
  . have hn : Hid (Pp.numB s.data.toList = false) := by
      show Pp.numB s.data.toList = _
      have : ¬ s.size <= 9 := by omega
      unfold Pp.numB; rw [len_size]; simp [this]
    go_enter Tryz.func95,Tryz.ntmps95
    go_wp2_with fail
    go_ret
    exact ⟨ret_bool (unhide hn).symm,rfl⟩
  have hpos : 0 < s.size := by omega
  have hh := hide (head_at s hpos)
  by_cases hg : 1 < s.size
  . by_cases h0 : s[0] = 48
    . have hn : Hid (Pp.numB s.data.toList = false) := by
        show Pp.numB s.data.toList = _
        unfold Pp.numB; rw [len_size,unhide hh]; simp [hg,h0]
      have g0 : ((s[0].toNat : Int) == 48) = true := by rw [h0]; rfl
      clear h0
      go_enter Tryz.func95,Tryz.ntmps95
      go_wp2_with fail
      go_ret
      exact ⟨ret_bool (unhide hn).symm,rfl⟩
    . have hn : Hid (Pp.numB s.data.toList = Pp.within 48 57 s.data.toList) := by
        show Pp.numB s.data.toList = _
        have a1 : 1 <= s.size := by omega
        have a2 : s.size <= 9 := by omega
        unfold Pp.numB; rw [len_size,unhide hh]; simp [a1,a2,h0]
      have g0 : ((s[0].toNat : Int) == 48) = false := by
        rw [beq_eq_false_iff_ne]
        intro h
        apply h0
        apply UInt8.toNat_inj.1
        have : (48 : UInt8).toNat = 48 := rfl
        omega
      clear h0
      go_enter Tryz.func95,Tryz.ntmps95
      go_wp2_with (go_at_call 112; refine (allWithin_any s 48 57 _ _ _ hs rfl rfl).mono ?_; rintro e w' ⟨rfl,rfl⟩)
      go_ret
      exact ⟨ret_bool (unhide hn).symm,rfl⟩
  . have hn : Hid (Pp.numB s.data.toList = Pp.within 48 57 s.data.toList) := by
      show Pp.numB s.data.toList = _
      have a1 : 1 <= s.size := by omega
      have a2 : s.size <= 9 := by omega
      unfold Pp.numB; rw [len_size]; simp [a1,a2,hg]
    have g0 : decide ((1 : Int) < (s.size : Int)) = false := by simp; omega
    go_enter Tryz.func95,Tryz.ntmps95
    go_wp2_with (go_at_call 112; refine (allWithin_any s 48 57 _ _ _ hs rfl rfl).mono ?_; rintro e w' ⟨rfl,rfl⟩)
    go_ret
    exact ⟨ret_bool (unhide hn).symm,rfl⟩
theorem cut_lo (S : ByteArray) (i : Nat) : (S.extract 0 i).data.toList = S.data.toList.take i := by rw [Lib.extract_data]; simp
theorem cut_hi (S : ByteArray) (i : Nat) : (S.extract i S.size).data.toList = S.data.toList.drop i := by rw [Lib.extract_data,List.take_of_length_le (by simp)]
theorem cut_at (s : ByteArray) (m : UInt8) (k : Nat) (h : k < s.size) (hk : s[k] = m) (h0 : m ∉ s.data.toList.take k) : Pp.cutL m s.data.toList = (s.data.toList.take k,s.data.toList.drop (k + 1)) := by
  have e : s.data.toList = s.data.toList.take k ++ m :: s.data.toList.drop (k + 1) := by
    rw [<- hk,<- drop_cons s k h,List.take_append_drop]
  have := Pp.cutL_found m (s.data.toList.drop (k + 1)) (s.data.toList.take k) h0
  rw [<- e] at this
  exact this
theorem not_snoc (s : ByteArray) (m : UInt8) (k : Nat) (h : k < s.size) (hk : ¬ s[k] = m) (h0 : m ∉ s.data.toList.take k) : m ∉ s.data.toList.take (k + 1) := by
  rw [take_snoc s k h]
  intro hm
  rcases List.mem_append.1 hm with hm | hm
  . exact h0 hm
  . exact hk (List.mem_singleton.1 hm).symm
set_option maxHeartbeats 400000 in
theorem cut_any (s : ByteArray) (m : UInt8) (m' : Int) (w : World) (hs : s.size <= maxLen) (em : (m.toNat : Int) = m') :
    Calls Tryz.prog 93 #[.string s,.int .u8 m'] w fun e w' => ∃ A R : ByteArray,e = .returned (.tuple #[.string A,.string R]) /\ A.data.toList = (Pp.cutL m s.data.toList).1 /\ R.data.toList = (Pp.cutL m s.data.toList).2 /\ A.size <= s.size /\ R.size <= s.size /\ ∃ q,w' = w.drewN q := by
  unfold maxLen at hs
  have g1 : (m.toNat : Int) <= m' := by omega
  have g2 : m' <= (m.toNat : Int) := by omega
  clear em
  go_enter Tryz.func93,Tryz.ntmps93
  go_wp2
  go_loop [6] (fun i => ∃ k : Nat,k <= s.size /\ i = .int .i64 k /\ Hid (m ∉ s.data.toList.take k)) (fun i => s.size - (intOf i).toNat)
  case atStart => exact ⟨0,Nat.zero_le _,rfl,hide (by simp)⟩
  case round =>
    obtain ⟨k,hk,rfl,hno⟩ := hrel
    by_cases hlt : k < s.size
    . by_cases he : s[k] = m
      . have hb : ((s[k].toNat : Int) == m') = true := by rw [he]; simp; omega
        have hc := hide (cut_at s m k hlt he (unhide hno))
        have hk1 : k <= s.size := by omega
        have hk2 : k + 1 <= s.size := by omega
        clear he hno
        go_wp2_with fail
        go_region
        all_goals
          go_wp2
          go_ret2
          exact ⟨_,_,rfl,by rw [unhide hc,cut_lo],by rw [unhide hc,cut_hi],by simp; omega,by simp,1,rfl⟩
      . have hb : ((s[k].toNat : Int) == m') = false := by
          rw [beq_eq_false_iff_ne]
          intro h
          exact he (UInt8.toNat_inj.1 (by omega))
        have hn := hide (not_snoc s m k hlt he (unhide hno))
        clear he
        go_wp2
        go_round
        case rel => exact ⟨k + 1,by omega,by go_num,hn⟩
        case measure => simp [intOf]; omega
    . have hc : Hid (Pp.cutL m s.data.toList = (s.data.toList,[])) := by
        have := unhide hno
        rw [List.take_of_length_le (by simp; omega)] at this
        exact Pp.cutL_none m _ this
      go_wp2
      go_ret2
      exact ⟨_,_,rfl,by rw [unhide hc],by rw [unhide hc],Nat.le_refl _,Nat.zero_le _,0,rfl⟩
theorem val_snoc (s : ByteArray) (k : Nat) (h : k < s.size) : Pp.valL (s.data.toList.take (k + 1)) = 10 * Pp.valL (s.data.toList.take k) + (s[k].toNat - 48) := by
  rw [take_snoc s k h,Pp.valL_snoc]
theorem within_take (lo hi : Nat) (l : List UInt8) (k : Nat) (h : Pp.within lo hi l = true) : Pp.within lo hi (l.take k) = true := by
  simp only [Pp.within,List.all_eq_true] at h ⊢
  exact fun c hc => h c (List.mem_of_mem_take hc)
theorem val_cap (s : ByteArray) (k : Nat) (h9 : s.size <= 9) (h : Pp.within 48 57 s.data.toList = true) : Pp.valL (s.data.toList.take k) < 1000000000 := by
  have h1 := Pp.valL_lt _ (within_take 48 57 _ k h)
  have h2 : (s.data.toList.take k).length <= 9 := by simp; omega
  have h3 : 10 ^ (s.data.toList.take k).length <= 10 ^ 9 := Nat.pow_le_pow_right (by decide) h2
  omega
set_option maxHeartbeats 400000 in
theorem value_any (s : ByteArray) (w : World) (h9 : s.size <= 9) (hw : Pp.within 48 57 s.data.toList = true) :
    Calls Tryz.prog 60 #[.string s] w fun e w' => e = .returned (.int .i64 (Pp.valL s.data.toList : Int)) /\ w = w' := by
  have HW := hide hw
  clear hw
  go_enter Tryz.func60,Tryz.ntmps60
  go_wp2
  go_loop [3,4] (fun n i => ∃ k : Nat,k <= s.size /\ i = .int .i64 k /\ n = .int .i64 (Pp.valL (s.data.toList.take k) : Int)) (fun _ i => s.size - (intOf i).toNat)
  case atStart => exact ⟨0,Nat.zero_le _,rfl,rfl⟩
  case round =>
    obtain ⟨k,hk,rfl,rfl⟩ := hrel
    have hcap := val_cap s k h9 (unhide HW)
    by_cases hlt : k < s.size
    . have hsn := hide (val_snoc s k hlt)
      obtain ⟨d1,d2⟩ := within_all 48 57 s (unhide HW) k hlt
      generalize Pp.valL (s.data.toList.take k) = V at hcap hsn
      go_wp2
      go_round
      case rel => exact ⟨k + 1,by omega,by go_num,by rw [unhide hsn]; go_num⟩
      case measure => simp [intOf]; omega
    . go_wp2
      go_ret
      exact ⟨ret_int (by rw [List.take_of_length_le (by simp; omega)]),rfl⟩
def NamesIn (w : World) : Prop :=
  w.cell? ⟨0,0,none⟩ = some (.string ⟨#[108,97,110,100]⟩) /\ w.cell? ⟨0,1,none⟩ = some (.string ⟨#[119,97,116,101,114]⟩) /\
  w.cell? ⟨0,2,none⟩ = some (.string ⟨#[114,111,97,100]⟩) /\ w.cell? ⟨0,3,none⟩ = some (.string ⟨#[109,97,114,107]⟩)
theorem beq_yes (a b : List UInt8) (h : b = a) : (a == b) = true := by simp [h]
theorem beq_no (a b : List UInt8) (h : ¬ b = a) : (a == b) = false := by
  rw [beq_eq_false_iff_ne]; exact fun e => h e.symm
set_option maxHeartbeats 800000 in
theorem layerOf_any (s : ByteArray) (w : World) (hN : NamesIn w) :
    Calls Tryz.prog 59 #[.string s] w fun e w' => e = .returned (.int .i64 (Pp.layerL s.data.toList)) /\ w = w' := by
  obtain ⟨c0,c1,c2,c3⟩ := hN
  have hsl : s.toList = s.data.toList := ByteArray.toList_eq s
  by_cases h0 : s.data.toList = Pp.land
  . have hL : Hid (Pp.layerL s.data.toList = 0) := by show Pp.layerL s.data.toList = _; simp [Pp.layerL,h0]
    have b0 : ([108,97,110,100] == s.data.toList) = true := beq_yes _ _ h0
    clear h0
    go_enter Tryz.func59,Tryz.ntmps59
    go_wp2
    refine wp_loop_rounds 4 ?_
    rw [rounds_succ]; go_wp2
    go_ret
    exact ⟨ret_int (unhide hL).symm,rfl⟩
  have b0 : ([108,97,110,100] == s.data.toList) = false := beq_no _ _ h0
  by_cases h1 : s.data.toList = Pp.water
  . have hL : Hid (Pp.layerL s.data.toList = 1) := by show Pp.layerL s.data.toList = _; simp [Pp.layerL,h1,Pp.land,Pp.water]
    have b1 : ([119,97,116,101,114] == s.data.toList) = true := beq_yes _ _ h1
    clear h0 h1
    go_enter Tryz.func59,Tryz.ntmps59
    go_wp2
    refine wp_loop_rounds 4 ?_
    rw [rounds_succ]; go_wp2
    rw [rounds_succ]; go_wp2
    go_ret
    exact ⟨ret_int (unhide hL).symm,rfl⟩
  have b1 : ([119,97,116,101,114] == s.data.toList) = false := beq_no _ _ h1
  by_cases h2 : s.data.toList = Pp.road
  . have hL : Hid (Pp.layerL s.data.toList = 2) := by show Pp.layerL s.data.toList = _; simp [Pp.layerL,h2,Pp.land,Pp.water,Pp.road]
    have b2 : ([114,111,97,100] == s.data.toList) = true := beq_yes _ _ h2
    clear h0 h1 h2
    go_enter Tryz.func59,Tryz.ntmps59
    go_wp2
    refine wp_loop_rounds 4 ?_
    rw [rounds_succ]; go_wp2
    rw [rounds_succ]; go_wp2
    rw [rounds_succ]; go_wp2
    go_ret
    exact ⟨ret_int (unhide hL).symm,rfl⟩
  have b2 : ([114,111,97,100] == s.data.toList) = false := beq_no _ _ h2
  by_cases h3 : s.data.toList = Pp.mark
  . have hL : Hid (Pp.layerL s.data.toList = 3) := by show Pp.layerL s.data.toList = _; simp [Pp.layerL,h3,Pp.land,Pp.water,Pp.road,Pp.mark]
    have b3 : ([109,97,114,107] == s.data.toList) = true := beq_yes _ _ h3
    clear h0 h1 h2 h3
    go_enter Tryz.func59,Tryz.ntmps59
    go_wp2
    refine wp_loop_rounds 4 ?_
    rw [rounds_succ]; go_wp2
    rw [rounds_succ]; go_wp2
    rw [rounds_succ]; go_wp2
    rw [rounds_succ]; go_wp2
    go_ret
    exact ⟨ret_int (unhide hL).symm,rfl⟩
  have b3 : ([109,97,114,107] == s.data.toList) = false := beq_no _ _ h3
  have hL : Hid (Pp.layerL s.data.toList = -1) := by show Pp.layerL s.data.toList = _; simp [Pp.layerL,h0,h1,h2,h3]
  clear h0 h1 h2 h3
  go_enter Tryz.func59,Tryz.ntmps59
  go_wp2
  refine wp_loop_rounds 5 ?_
  rw [rounds_succ]; go_wp2
  rw [rounds_succ]; go_wp2
  rw [rounds_succ]; go_wp2
  rw [rounds_succ]; go_wp2
  rw [rounds_succ]; go_wp2
  go_ret
  exact ⟨ret_int (unhide hL).symm,rfl⟩
theorem pow_cap (z : Int) (h : z <= 22) : (1 : Int) <= (2 : Int) ^ z.toNat /\ (2 : Int) ^ z.toNat <= 4194304 := by
  have h1 : z.toNat <= 22 := by omega
  have h2 : (2 : Nat) ^ z.toNat <= 2 ^ 22 := Nat.pow_le_pow_right (by decide) h1
  have h3 : 1 <= (2 : Nat) ^ z.toNat := Nat.one_le_two_pow
  have e : ((2 : Int) ^ z.toNat) = (((2 : Nat) ^ z.toNat : Nat) : Int) := by simp
  rw [e]
  omega
theorem keyErr_2 (l z x y : Int) (h : l < 0 \/ 3 < l) : Pp.keyErr l z x y = 2 := by unfold Pp.keyErr; rw [if_pos h]
theorem keyErr_3 (l z x y : Int) (h : ¬ (l < 0 \/ 3 < l)) (h' : z < 0 \/ 22 < z) : Pp.keyErr l z x y = 3 := by unfold Pp.keyErr; rw [if_neg h,if_pos h']
theorem keyErr_4 (l z x y : Int) (h : ¬ (l < 0 \/ 3 < l)) (h' : ¬ (z < 0 \/ 22 < z)) (h'' : x < 0 \/ (2 : Int) ^ z.toNat <= x \/ y < 0 \/ (2 : Int) ^ z.toNat <= y) : Pp.keyErr l z x y = 4 := by unfold Pp.keyErr; rw [if_neg h,if_neg h',if_pos h'']
theorem keyErr_0 (l z x y : Int) (h : ¬ (l < 0 \/ 3 < l)) (h' : ¬ (z < 0 \/ 22 < z)) (h'' : ¬ (x < 0 \/ (2 : Int) ^ z.toNat <= x \/ y < 0 \/ (2 : Int) ^ z.toNat <= y)) : Pp.keyErr l z x y = 0 := by unfold Pp.keyErr; rw [if_neg h,if_neg h',if_neg h'']
def inR (n lo hi : Int) : Bool := decide (lo <= n /\ n <= hi)
theorem inR_t {n lo hi : Int} (h : lo <= n) (h' : n <= hi) : inR n lo hi = true := by simp [inR,h,h']
theorem inR_f1 {n lo hi : Int} (h : n < lo) : inR n lo hi = false := by simp [inR]; omega
theorem inR_f2 {n lo hi : Int} (h : hi < n) : inR n lo hi = false := by simp [inR]; omega
theorem isZoom_any (z : Int) (w : World) :
    Calls Tryz.prog 56 #[.int .i64 z] w fun e w' => e = .returned (.bool (inR z 0 22)) /\ w = w' := by
  by_cases h1 : 0 <= z
  . by_cases h2 : z <= 22
    . have H := hide (inR_t h1 h2)
      go_enter Tryz.func56,Tryz.ntmps56
      go_wp2
      go_ret
      exact ⟨ret_bool (unhide H).symm,rfl⟩
    . have H := hide (inR_f2 (n := z) (lo := 0) (hi := 22) (by omega))
      go_enter Tryz.func56,Tryz.ntmps56
      go_wp2
      go_ret
      exact ⟨ret_bool (unhide H).symm,rfl⟩
  . have H := hide (inR_f1 (n := z) (lo := 0) (hi := 22) (by omega))
    go_enter Tryz.func56,Tryz.ntmps56
    go_wp2
    go_ret
    exact ⟨ret_bool (unhide H).symm,rfl⟩
set_option maxHeartbeats 1600000 in
theorem keyError_any (l z x y : Int) (w : World) :
    Calls Tryz.prog 33 #[.agg #[.int .i64 l,.int .i64 z,.int .i64 x,.int .i64 y]] w fun e w' => e = .returned (.int .i64 (Pp.keyErr l z x y)) /\ Below w.heap.size w w' := by
  by_cases h1 : l < 0
  . have HK := hide (keyErr_2 l z x y (Or.inl h1))
    go_enter Tryz.func33,Tryz.ntmps33
    go_wp2_with (go_at_call 56; refine (isZoom_any _ _).mono ?_; rintro e w1 ⟨rfl,rfl⟩)
    go_ret
    exact ⟨ret_int (unhide HK).symm,(Below.refl _ _).alloc (Nat.le_refl _) _⟩
  by_cases h2 : 3 < l
  . have HK := hide (keyErr_2 l z x y (Or.inr h2))
    go_enter Tryz.func33,Tryz.ntmps33
    go_wp2_with (go_at_call 56; refine (isZoom_any _ _).mono ?_; rintro e w1 ⟨rfl,rfl⟩)
    go_ret
    exact ⟨ret_int (unhide HK).symm,(Below.refl _ _).alloc (Nat.le_refl _) _⟩
  have hl : ¬ (l < 0 \/ 3 < l) := by omega
  by_cases h3 : z < 0
  . have HK := hide (keyErr_3 l z x y hl (Or.inl h3))
    have hzz := inR_f1 (n := z) (lo := 0) (hi := 22) h3
    clear hl
    go_enter Tryz.func33,Tryz.ntmps33
    go_wp2_with (go_at_call 56; refine (isZoom_any _ _).mono ?_; rintro e w1 ⟨rfl,rfl⟩)
    go_ret
    exact ⟨ret_int (unhide HK).symm,(Below.refl _ _).alloc (Nat.le_refl _) _⟩
  by_cases h4 : 22 < z
  . have HK := hide (keyErr_3 l z x y hl (Or.inr h4))
    have hzz := inR_f2 (n := z) (lo := 0) (hi := 22) h4
    clear hl
    go_enter Tryz.func33,Tryz.ntmps33
    go_wp2_with (go_at_call 56; refine (isZoom_any _ _).mono ?_; rintro e w1 ⟨rfl,rfl⟩)
    go_ret
    exact ⟨ret_int (unhide HK).symm,(Below.refl _ _).alloc (Nat.le_refl _) _⟩
  have hz : ¬ (z < 0 \/ 22 < z) := by omega
  have hzz := inR_t (n := z) (lo := 0) (hi := 22) (by omega) (by omega)
  have K4 := hide (keyErr_4 l z x y hl hz)
  have K0 := hide (keyErr_0 l z x y hl hz)
  obtain ⟨p1,p2⟩ := pow_cap z (by omega)
  have hw : wrap64 ((2 : Int) ^ z.toNat) = (2 : Int) ^ z.toNat := IntWalk.wrap64_in _ ⟨by omega,by omega⟩
  obtain ⟨N,hN⟩ : ∃ N,(2 : Int) ^ z.toNat = N := ⟨_,rfl⟩
  rw [hN] at p1 p2 K4 K0
  have hw' : wrap64 ((2 : Int) ^ z.toNat) = N := hw.trans hN
  clear hN hw hl hz
  by_cases h5 : x < 0
  . have HK := hide (unhide K4 (Or.inl h5))
    clear K4 K0
    go_enter Tryz.func33,Tryz.ntmps33
    go_wp2_with (go_at_call 56; refine (isZoom_any _ _).mono ?_; rintro e w1 ⟨rfl,rfl⟩)
    go_ret
    exact ⟨ret_int (unhide HK).symm,(Below.refl _ _).alloc (Nat.le_refl _) _⟩
  by_cases h6 : N <= x
  . have HK := hide (unhide K4 (Or.inr (Or.inl h6)))
    clear K4 K0
    go_enter Tryz.func33,Tryz.ntmps33
    go_wp2_with (go_at_call 56; refine (isZoom_any _ _).mono ?_; rintro e w1 ⟨rfl,rfl⟩)
    go_ret
    exact ⟨ret_int (unhide HK).symm,(Below.refl _ _).alloc (Nat.le_refl _) _⟩
  by_cases h7 : y < 0
  . have HK := hide (unhide K4 (Or.inr (Or.inr (Or.inl h7))))
    clear K4 K0
    go_enter Tryz.func33,Tryz.ntmps33
    go_wp2_with (go_at_call 56; refine (isZoom_any _ _).mono ?_; rintro e w1 ⟨rfl,rfl⟩)
    go_ret
    exact ⟨ret_int (unhide HK).symm,(Below.refl _ _).alloc (Nat.le_refl _) _⟩
  by_cases h8 : N <= y
  . have HK := hide (unhide K4 (Or.inr (Or.inr (Or.inr h8))))
    clear K4 K0
    go_enter Tryz.func33,Tryz.ntmps33
    go_wp2_with (go_at_call 56; refine (isZoom_any _ _).mono ?_; rintro e w1 ⟨rfl,rfl⟩)
    go_ret
    exact ⟨ret_int (unhide HK).symm,(Below.refl _ _).alloc (Nat.le_refl _) _⟩
  have HK := hide (unhide K0 (by omega))
  clear K4 K0
  go_enter Tryz.func33,Tryz.ntmps33
  go_wp2_with (go_at_call 56; refine (isZoom_any _ _).mono ?_; rintro e w1 ⟨rfl,rfl⟩)
  go_ret
  exact ⟨ret_int (unhide HK).symm,(Below.refl _ _).alloc (Nat.le_refl _) _⟩
theorem dec_len (u : Nat) : (Lib.decDigits u).length <= u + 1 := by
  induction u using Nat.strongRecOn with
  | _ u ih =>
    rw [Lib.decDigits]
    split
    . simp
    . have := ih (u / 10) (by omega)
      simp
      omega
theorem empty_of (A : ByteArray) (l : List UInt8) (h : A.data.toList = l) : A.toList.isEmpty = l.isEmpty := by rw [ByteArray.toList_eq,h]
theorem below_dn {B : Nat} {a w : World} (h : Below B a w) (n : Nat) : Below B a (w.drewN n) := h.trans ⟨rfl,rfl,rfl,Nat.le_refl _,fun _ _ => rfl⟩
theorem split_no1 (p : List UInt8) (h : (Pp.cutL 47 p).1.isEmpty = false) : Pp.splitL p = none := by
  unfold Pp.splitL
  have h' : ¬ (Pp.cutL 47 p).1 = [] := fun e => by rw [e] at h; cases h
  simp [Pp.splitOk,h']
theorem split_eq (p a r0 n r1 z r2 x r3 y r4 : List UInt8) (h1 : a = (Pp.cutL 47 p).1) (h2 : r0 = (Pp.cutL 47 p).2) (h3 : n = (Pp.cutL 47 r0).1) (h4 : r1 = (Pp.cutL 47 r0).2)
    (h5 : z = (Pp.cutL 47 r1).1) (h6 : r2 = (Pp.cutL 47 r1).2) (h7 : x = (Pp.cutL 47 r2).1) (h8 : r3 = (Pp.cutL 47 r2).2) (h9 : y = (Pp.cutL 46 r3).1) (h10 : r4 = (Pp.cutL 46 r3).2) :
    Pp.splitL p = if (decide (a = [] /\ r4 = Pp.tile) && (Pp.nameB n && (Pp.numB z && (Pp.numB x && Pp.numB y)))) = true then some (n,z,x,y) else none := by
  subst h1 h2 h3 h4 h5 h6 h7 h8 h9 h10
  rfl
theorem below4 (w : World) (o : Obj) (q : Nat) (a b c d : Value) : Below w.heap.size w ((((((w.alloc o).drewN q).setCell ⟨w.heap.size,0,none⟩ a).setCell ⟨w.heap.size,1,none⟩ b).setCell ⟨w.heap.size,2,none⟩ c).setCell ⟨w.heap.size,3,none⟩ d) :=
  ((((below_dn ((Below.refl _ _).alloc (Nat.le_refl _) _) _).setCell (Nat.le_refl _) _).setCell (Nat.le_refl _) _).setCell (Nat.le_refl _) _).setCell (Nat.le_refl _) _
set_option maxHeartbeats 1600000 in
theorem split_any (s : ByteArray) (w : World) (hs : s.size <= maxLen) :
    Calls Tryz.prog 58 #[.string s] w fun e w' =>
      ((Pp.splitL s.data.toList = none /\ e = .returned (.tuple #[.agg #[.string ⟨#[]⟩,.string ⟨#[]⟩,.string ⟨#[]⟩,.string ⟨#[]⟩],.bool false])) \/
       (∃ N Z X Y : ByteArray,Pp.splitL s.data.toList = some (N.data.toList,Z.data.toList,X.data.toList,Y.data.toList) /\ e = .returned (.tuple #[.agg #[.string N,.string Z,.string X,.string Y],.bool true]))) /\ Below w.heap.size w w' := by
  go_enter Tryz.func58,Tryz.ntmps58
  go_wp2_with fail
  refine (cut_any s 47 _ _ hs rfl).mono ?_
  rintro e w1 ⟨A,R0,rfl,hA,hR0,-,sR0,q0,rfl⟩
  have HA := hide hA
  have HR0 := hide hR0
  have hE := empty_of A _ hA
  clear hA hR0
  cases hAe : (Pp.cutL 47 s.data.toList).1.isEmpty with
  | false =>
    rw [hAe] at hE
    have hno := hide (split_no1 _ hAe)
    clear hAe
    go_wp2_with fail
    exact bodyPost_ret (v := .tuple #[.agg #[.string ⟨#[]⟩,.string ⟨#[]⟩,.string ⟨#[]⟩,.string ⟨#[]⟩],.bool false]) (by simp [results,Tryz.results58,go_sem]) rfl ⟨Or.inl ⟨unhide hno,rfl⟩,below4 _ _ _ _ _ _ _⟩
  | true =>
    rw [hAe] at hE
    have hA0 : Hid (A.data.toList = []) := by
      show A.data.toList = []
      rw [unhide HA]; exact List.isEmpty_iff.1 hAe
    clear hAe
    go_wp2_with fail
    refine (cut_any R0 47 _ _ (Nat.le_trans sR0 hs) rfl).mono ?_
    rintro e w1 ⟨N,R1,rfl,hN,hR1,sN,sR1,q1,rfl⟩
    have HN := hide hN
    have HR1 := hide hR1
    clear hN hR1
    have mN : N.size <= maxLen := Nat.le_trans (Nat.le_trans sN sR0) hs
    have m1 : R1.size <= maxLen := Nat.le_trans (Nat.le_trans sR1 sR0) hs
    clear sN sR1 sR0
    go_wp2_with fail
    refine (cut_any R1 47 _ _ m1 rfl).mono ?_
    rintro e w1 ⟨Z,R2,rfl,hZ,hR2,sZ,sR2,q2,rfl⟩
    have HZ := hide hZ
    have HR2 := hide hR2
    clear hZ hR2
    have mZ : Z.size <= maxLen := Nat.le_trans sZ m1
    have m2 : R2.size <= maxLen := Nat.le_trans sR2 m1
    clear sZ sR2 m1
    go_wp2_with fail
    refine (cut_any R2 47 _ _ m2 rfl).mono ?_
    rintro e w1 ⟨X,R3,rfl,hX,hR3,sX,sR3,q3,rfl⟩
    have HX := hide hX
    have HR3 := hide hR3
    clear hX hR3
    have mX : X.size <= maxLen := Nat.le_trans sX m2
    have m3 : R3.size <= maxLen := Nat.le_trans sR3 m2
    clear sX sR3 m2
    go_wp2_with fail
    refine (cut_any R3 46 _ _ m3 rfl).mono ?_
    rintro e w1 ⟨Y,R4,rfl,hY,hR4,sY,-,q4,rfl⟩
    have HS := hide (split_eq _ _ _ _ _ _ _ _ _ _ _ (unhide HA) (unhide HR0) (unhide HN) (unhide HR1) (unhide HZ) (unhide HR2) (unhide HX) (unhide HR3) hY hR4)
    clear HA HR0 HN HR1 HZ HR2 HX HR3 hY hR4
    have mY : Y.size <= maxLen := Nat.le_trans sY m3
    clear sY m3
    have hRl : R4.toList = R4.data.toList := ByteArray.toList_eq R4
    rw [unhide hA0] at HS
    by_cases ht : R4.data.toList = Pp.tile
    . have gt : (R4.data.toList == [116,105,108,101]) = true := by rw [ht]; rfl
      rw [ht] at HS
      clear ht
      cases hn : Pp.nameB N.data.toList with
      | false =>
        have hno : Hid (Pp.splitL s.data.toList = none) := by
          show Pp.splitL s.data.toList = none
          rw [unhide HS]; simp [hn]
        have Hn := hide hn
        clear hn HS
        go_wp2_with (go_at_call 94; refine (isName_any N _ mN).mono ?_; rintro e w' ⟨rfl,rfl⟩; rw [unhide Hn])
        exact bodyPost_ret (v := .tuple #[.agg #[.string ⟨#[]⟩,.string ⟨#[]⟩,.string ⟨#[]⟩,.string ⟨#[]⟩],.bool false]) (by simp [results,Tryz.results58,go_sem]) rfl ⟨Or.inl ⟨unhide hno,rfl⟩,below4 _ _ _ _ _ _ _⟩
      | true =>
        cases hz : Pp.numB Z.data.toList with
        | false =>
          have hno : Hid (Pp.splitL s.data.toList = none) := by
            show Pp.splitL s.data.toList = none
            rw [unhide HS]; simp [hn,hz]
          have Hn := hide hn
          have Hz := hide hz
          clear hn hz HS
          go_wp2_with (first | (go_at_call 94; refine (isName_any N _ mN).mono ?_; rintro e w' ⟨rfl,rfl⟩; rw [unhide Hn]) | (go_at_call 95; refine (isNumber_any Z _ mZ).mono ?_; rintro e w' ⟨rfl,rfl⟩; rw [unhide Hz]))
          exact bodyPost_ret (v := .tuple #[.agg #[.string ⟨#[]⟩,.string ⟨#[]⟩,.string ⟨#[]⟩,.string ⟨#[]⟩],.bool false]) (by simp [results,Tryz.results58,go_sem]) rfl ⟨Or.inl ⟨unhide hno,rfl⟩,below4 _ _ _ _ _ _ _⟩
        | true =>
          cases hx : Pp.numB X.data.toList with
          | false =>
            have hno : Hid (Pp.splitL s.data.toList = none) := by
              show Pp.splitL s.data.toList = none
              rw [unhide HS]; simp [hn,hz,hx]
            have Hn := hide hn
            have Hz := hide hz
            have Hx := hide hx
            clear hn hz hx HS
            go_wp2_with fail
            refine (isName_any N _ mN).mono ?_
            rintro e w' ⟨rfl,rfl⟩
            rw [unhide Hn]
            go_wp2_with fail
            refine (isNumber_any Z _ mZ).mono ?_
            rintro e w' ⟨rfl,rfl⟩
            rw [unhide Hz]
            go_wp2_with fail
            refine (isNumber_any X _ mX).mono ?_
            rintro e w' ⟨rfl,rfl⟩
            rw [unhide Hx]
            go_wp2_with fail
            exact bodyPost_ret (v := .tuple #[.agg #[.string ⟨#[]⟩,.string ⟨#[]⟩,.string ⟨#[]⟩,.string ⟨#[]⟩],.bool false]) (by simp [results,Tryz.results58,go_sem]) rfl ⟨Or.inl ⟨unhide hno,rfl⟩,below4 _ _ _ _ _ _ _⟩
          | true =>
            cases hy : Pp.numB Y.data.toList with
            | false =>
              have hno : Hid (Pp.splitL s.data.toList = none) := by
                show Pp.splitL s.data.toList = none
                rw [unhide HS]; simp [hn,hz,hx,hy]
              have Hn := hide hn
              have Hz := hide hz
              have Hx := hide hx
              have Hy := hide hy
              clear hn hz hx hy HS
              go_wp2_with fail
              refine (isName_any N _ mN).mono ?_
              rintro e w' ⟨rfl,rfl⟩
              rw [unhide Hn]
              go_wp2_with fail
              refine (isNumber_any Z _ mZ).mono ?_
              rintro e w' ⟨rfl,rfl⟩
              rw [unhide Hz]
              go_wp2_with fail
              refine (isNumber_any X _ mX).mono ?_
              rintro e w' ⟨rfl,rfl⟩
              rw [unhide Hx]
              go_wp2_with fail
              refine (isNumber_any Y _ mY).mono ?_
              rintro e w' ⟨rfl,rfl⟩
              rw [unhide Hy]
              go_wp2_with fail
              exact bodyPost_ret (v := .tuple #[.agg #[.string ⟨#[]⟩,.string ⟨#[]⟩,.string ⟨#[]⟩,.string ⟨#[]⟩],.bool false]) (by simp [results,Tryz.results58,go_sem]) rfl ⟨Or.inl ⟨unhide hno,rfl⟩,below4 _ _ _ _ _ _ _⟩
            | true =>
              have hyes : Hid (Pp.splitL s.data.toList = some (N.data.toList,Z.data.toList,X.data.toList,Y.data.toList)) := by
                show Pp.splitL s.data.toList = _
                rw [unhide HS]; simp [hn,hz,hx,hy]
              have Hn := hide hn
              have Hz := hide hz
              have Hx := hide hx
              have Hy := hide hy
              clear hn hz hx hy HS
              go_wp2_with fail
              refine (isName_any N _ mN).mono ?_
              rintro e w' ⟨rfl,rfl⟩
              rw [unhide Hn]
              go_wp2_with fail
              refine (isNumber_any Z _ mZ).mono ?_
              rintro e w' ⟨rfl,rfl⟩
              rw [unhide Hz]
              go_wp2_with fail
              refine (isNumber_any X _ mX).mono ?_
              rintro e w' ⟨rfl,rfl⟩
              rw [unhide Hx]
              go_wp2_with fail
              refine (isNumber_any Y _ mY).mono ?_
              rintro e w' ⟨rfl,rfl⟩
              rw [unhide Hy]
              go_wp2_with fail
              exact bodyPost_ret (v := .tuple #[.agg #[.string N,.string Z,.string X,.string Y],.bool true]) (by simp [results,Tryz.results58,go_sem]) rfl ⟨Or.inr ⟨N,Z,X,Y,unhide hyes,rfl⟩,below4 _ _ _ _ _ _ _⟩
    . have gt : (R4.data.toList == [116,105,108,101]) = false := by
        rw [beq_eq_false_iff_ne]; exact ht
      have hno : Hid (Pp.splitL s.data.toList = none) := by
        show Pp.splitL s.data.toList = none
        rw [unhide HS]; simp [ht]
      clear ht HS
      go_wp2_with fail
      exact bodyPost_ret (v := .tuple #[.agg #[.string ⟨#[]⟩,.string ⟨#[]⟩,.string ⟨#[]⟩,.string ⟨#[]⟩],.bool false]) (by simp [results,Tryz.results58,go_sem]) rfl ⟨Or.inl ⟨unhide hno,rfl⟩,below4 _ _ _ _ _ _ _⟩
theorem bcell {W w1 : World} (hb : Below W.heap.size W w1) : (∀ b o,b < W.heap.size -> w1.cell? ⟨b,o,none⟩ = W.cell? ⟨b,o,none⟩) /\ (∀ b o,b < W.heap.size -> w1.frozen? ⟨b,o,none⟩ = W.frozen? ⟨b,o,none⟩) :=
  ⟨fun b o h => hb.cell (p := ⟨b,o,none⟩) h,fun b o h => hb.frozen (p := ⟨b,o,none⟩) h⟩
def Nm (w : World) : Prop := 0 < w.heap.size /\ NamesIn w
theorem Nm.on {w w' : World} (h : Nm w) (hb : Below w.heap.size w w') : Nm w' := by
  obtain ⟨h0,c0,c1,c2,c3⟩ := h
  have hs := hb.size
  refine ⟨by omega,?_,?_,?_,?_⟩
  . rw [hb.cell (p := ⟨0,0,none⟩) h0]; exact c0
  . rw [hb.cell (p := ⟨0,1,none⟩) h0]; exact c1
  . rw [hb.cell (p := ⟨0,2,none⟩) h0]; exact c2
  . rw [hb.cell (p := ⟨0,3,none⟩) h0]; exact c3
def parseL (p : List UInt8) : (Int × Int × Int × Int) × Int :=
  match Pp.splitL p with
  | none => ((0,0,0,0),1)
  | some (n,z,x,y) =>
    if Pp.keyErr (Pp.layerL n) (Pp.valL z) (Pp.valL x) (Pp.valL y) = 0 then ((Pp.layerL n,(Pp.valL z : Int),(Pp.valL x : Int),(Pp.valL y : Int)),0)
    else ((0,0,0,0),Pp.keyErr (Pp.layerL n) (Pp.valL z) (Pp.valL x) (Pp.valL y))
theorem parseL_none (p : List UInt8) (h : Pp.splitL p = none) : parseL p = ((0,0,0,0),1) := by unfold parseL; rw [h]
theorem parseL_ok (p n z x y : List UInt8) (h : Pp.splitL p = some (n,z,x,y)) (he : Pp.keyErr (Pp.layerL n) (Pp.valL z) (Pp.valL x) (Pp.valL y) = 0) :
    parseL p = ((Pp.layerL n,(Pp.valL z : Int),(Pp.valL x : Int),(Pp.valL y : Int)),0) := by unfold parseL; rw [h]; simp only; rw [if_pos he]
theorem parseL_err (p n z x y : List UInt8) (h : Pp.splitL p = some (n,z,x,y)) (he : ¬ Pp.keyErr (Pp.layerL n) (Pp.valL z) (Pp.valL x) (Pp.valL y) = 0) :
    parseL p = ((0,0,0,0),Pp.keyErr (Pp.layerL n) (Pp.valL z) (Pp.valL x) (Pp.valL y)) := by unfold parseL; rw [h]; simp only; rw [if_neg he]
theorem split_nums (p n z x y : List UInt8) (h : Pp.splitL p = some (n,z,x,y)) : Pp.nameB n = true /\ Pp.numB z = true /\ Pp.numB x = true /\ Pp.numB y = true :=
  ((Pp.splitL_iff p (n,z,x,y)).1 h).2
theorem layer_cap (n : List UInt8) : -1 <= Pp.layerL n /\ Pp.layerL n <= 3 := by
  unfold Pp.layerL
  split
  . omega
  . split
    . omega
    . split
      . omega
      . split <;> omega
set_option maxHeartbeats 1600000 in
theorem parse_any (s : ByteArray) (w : World) (hs : s.size <= maxLen) (hN : Nm w) :
    Calls Tryz.prog 35 #[.string s] w fun e w' => (∃ l z x y er : Int,parseL s.data.toList = ((l,z,x,y),er) /\ e = .returned (.tuple #[.agg #[.int .i64 l,.int .i64 z,.int .i64 x,.int .i64 y],.int .i64 er])) /\ Below w.heap.size w w' := by
  have HN := hide hN
  clear hN
  go_enter Tryz.func35,Tryz.ntmps35
  go_wp2_with fail
  refine (split_any s _ hs).mono ?_
  rintro e w1 ⟨⟨hn,rfl⟩ | ⟨N,Z,X,Y,hsp,rfl⟩,hb⟩
  . have hP := hide (parseL_none _ hn)
    clear hn
    obtain ⟨hc,hf⟩ := bcell hb
    have hz : w.heap.size < w1.heap.size := by have := hb.size; simp at this; omega
    have HB := hide hb
    clear hb
    have hBw : Below w.heap.size w w1 := ((Below.refl _ _).alloc (Nat.le_refl _) _).trans ((unhide HB).mono (by simp))
    have HBw := hide hBw
    clear hBw
    go_wp2_with fail
    refine bodyPost_ret (v := .tuple #[.agg #[.int .i64 0,.int .i64 0,.int .i64 0,.int .i64 0],.int .i64 1]) (by simp [results,Tryz.results35,go_sem,hz,hc]) rfl ⟨⟨0,0,0,0,1,unhide hP,rfl⟩,?_⟩
    exact (((((unhide HBw).setCell (Nat.le_refl _) _).setCell (Nat.le_refl _) _).setCell (Nat.le_refl _) _).setCell (Nat.le_refl _) _).alloc (by simp; omega) _
  . have HSP := hide hsp
    obtain ⟨n1,n2,n3,n4⟩ := split_nums _ _ _ _ _ hsp
    have hok := hide (parseL_ok _ _ _ _ _ hsp)
    have herr := hide (parseL_err _ _ _ _ _ hsp)
    clear hsp
    have hlc := layer_cap N.data.toList
    have z9 := (Pp.numB_len _ n2).2
    have x9 := (Pp.numB_len _ n3).2
    have y9 := (Pp.numB_len _ n4).2
    rw [len_size] at z9 x9 y9
    have hZ := hide (Pp.numB_within _ n2)
    have hX := hide (Pp.numB_within _ n3)
    have hY := hide (Pp.numB_within _ n4)
    have cZ := val_cap Z 9 z9 (unhide hZ)
    have cX := val_cap X 9 x9 (unhide hX)
    have cY := val_cap Y 9 y9 (unhide hY)
    rw [List.take_of_length_le (by simp; omega)] at cZ cX cY
    clear n1 n2 n3 n4
    obtain ⟨hc,hf⟩ := bcell hb
    have hz : w.heap.size < w1.heap.size := by have := hb.size; simp at this; omega
    have hBw : Below w.heap.size w w1 := ((Below.refl _ _).alloc (Nat.le_refl _) _).trans (hb.mono (by simp))
    have hNm : Nm w1 := (unhide HN).on hBw
    have hNm2 : ∀ o1 o2,Hid (NamesIn ((w1.alloc o1).alloc o2)) := fun o1 o2 => ((hNm.on ((Below.refl _ _).alloc (Nat.le_refl _) o1)).on ((Below.refl _ _).alloc (Nat.le_refl _) o2)).2
    have HBw := hide hBw
    clear hBw hb hNm
    go_wp2_with fail
    refine (layerOf_any N _ (unhide (hNm2 _ _))).mono ?_
    rintro e w2 ⟨rfl,rfl⟩
    clear hNm2
    obtain ⟨L,hL⟩ : ∃ L,Pp.layerL N.data.toList = L := ⟨_,rfl⟩
    obtain ⟨vz,hvz⟩ : ∃ v,Pp.valL Z.data.toList = v := ⟨_,rfl⟩
    obtain ⟨vx,hvx⟩ : ∃ v,Pp.valL X.data.toList = v := ⟨_,rfl⟩
    obtain ⟨vy,hvy⟩ : ∃ v,Pp.valL Y.data.toList = v := ⟨_,rfl⟩
    rw [hL] at hok herr hlc ⊢
    rw [hvz] at hok herr cZ
    rw [hvx] at hok herr cX
    rw [hvy] at hok herr cY
    have HVZ := hide hvz
    have HVX := hide hvx
    have HVY := hide hvy
    clear hL hvz hvx hvy
    go_wp2_with fail
    refine (value_any Z _ z9 (unhide hZ)).mono ?_
    rintro e w2 ⟨rfl,rfl⟩
    rw [unhide HVZ]
    go_wp2_with fail
    refine (value_any X _ x9 (unhide hX)).mono ?_
    rintro e w2 ⟨rfl,rfl⟩
    rw [unhide HVX]
    go_wp2_with fail
    refine (value_any Y _ y9 (unhide hY)).mono ?_
    rintro e w2 ⟨rfl,rfl⟩
    rw [unhide HVY]
    clear HVZ HVX HVY hZ hX hY HSP
    go_wp2_with fail
    refine (keyError_any L vz vx vy _).mono ?_
    rintro e w2 ⟨rfl,hb2⟩
    generalize Pp.keyErr L vz vx vy = E at hok herr
    obtain ⟨hc2,hf2⟩ := bcell hb2
    have hz2 : w1.heap.size + 1 < w2.heap.size := by have := hb2.size; simp at this; omega
    have hz3 : w.heap.size < w1.heap.size + 1 + 1 := by omega
    have hz4 : w.heap.size < w1.heap.size + 1 := by omega
    have hB2 : Below w.heap.size w w2 := (((unhide HBw).alloc (by omega) _).alloc (by simp; omega) _).trans (hb2.mono (by simp; omega))
    have HB2 := hide hB2
    clear hb2 hB2 HBw
    by_cases hE : E = 0
    . have hP := hide (unhide hok hE)
      subst hE
      clear hok herr
      go_wp2_with fail
      refine bodyPost_ret (v := .tuple #[.agg #[.int .i64 L,.int .i64 vz,.int .i64 vx,.int .i64 vy],.int .i64 0]) (by simp [results,Tryz.results35,go_sem,hz,hz3,hz4,hc,hc2]) rfl ⟨⟨L,vz,vx,vy,0,unhide hP,rfl⟩,?_⟩
      exact ((((unhide HB2).setCell (Nat.le_refl _) _).setCell (Nat.le_refl _) _).setCell (Nat.le_refl _) _).setCell (Nat.le_refl _) _
    . have hP := hide (unhide herr hE)
      have hbe : (E != 0) = true := by rw [bne_iff_ne]; exact hE
      clear hok herr hE
      go_wp2_with fail
      refine bodyPost_ret (v := .tuple #[.agg #[.int .i64 0,.int .i64 0,.int .i64 0,.int .i64 0],.int .i64 E]) (by simp [results,Tryz.results35,go_sem,hz,hz3,hz4,hc,hc2]) rfl ⟨⟨0,0,0,0,E,unhide hP,rfl⟩,?_⟩
      exact ((((unhide HB2).setCell (Nat.le_refl _) _).setCell (Nat.le_refl _) _).setCell (Nat.le_refl _) _).setCell (Nat.le_refl _) _
end Go.Proofs.YtpopchckldbhdaaGreatDoor.Dw
namespace Go.Proofs
open Go.Shelf
def Tryz.laysM171_ren : Go.Shelf.Ren := ⟨fun | 171 => 34 | 243 => 57 | 246 => 92 | 283 => 118 | 284 => 119 | 285 => 120 | 286 => 121 | 129 => 130 | 317 => 129 | 318 => 131 | 319 => 132 | 320 => 133 | 337 => 138 | 338 => 139 | n => n,fun | 3 => 3 | 9 => 9 | 2 => 2 | 4 => 4 | 171 => 182 | 0 => 0 | 53 => 183 | 37 => 114 | 5 => 5 | 173 => 186 | 212 => 198 | 51 => 199 | 20 => 20 | 213 => 200 | 46 => 201 | 232 => 210 | 233 => 211 | n => n,fun | 17 => 1 | 18 => 2 | 19 => 3 | n => n⟩
theorem Tryz.laysM171 : Go.Proofs.LaysM.n171 Tryz.prog Tryz.laysM171_ren := {
  mixed := by kernel_rfl
  f129 := Tryz.func130.trans (congrArg some (by kernel_rfl))
  f171 := Tryz.func34.trans (congrArg some (by kernel_rfl))
  f243 := Tryz.func57.trans (congrArg some (by kernel_rfl))
  f246 := Tryz.func92.trans (congrArg some (by kernel_rfl))
  f283 := Tryz.func118.trans (congrArg some (by kernel_rfl))
  f284 := Tryz.func119.trans (congrArg some (by kernel_rfl))
  f285 := Tryz.func120.trans (congrArg some (by kernel_rfl))
  f286 := Tryz.func121.trans (congrArg some (by kernel_rfl))
  f317 := Tryz.func129.trans (congrArg some (by kernel_rfl))
  f318 := Tryz.func131.trans (congrArg some (by kernel_rfl))
  f319 := Tryz.func132.trans (congrArg some (by kernel_rfl))
  f320 := Tryz.func133.trans (congrArg some (by kernel_rfl))
  f337 := Tryz.func138.trans (congrArg some (by kernel_rfl))
  f338 := Tryz.func139.trans (congrArg some (by kernel_rfl))
  t0 := Tryz.underlying0
  a0 := Tryz.isAgg0
  z0 := Tryz.sizeOf0
  v0 := Tryz.zeroValue0
  t2 := Tryz.underlying2
  a2 := Tryz.isAgg2
  z2 := Tryz.sizeOf2
  v2 := Tryz.zeroValue2
  t3 := Tryz.underlying3
  a3 := Tryz.isAgg3
  z3 := Tryz.sizeOf3
  v3 := Tryz.zeroValue3
  t4 := Tryz.underlying4
  a4 := Tryz.isAgg4
  z4 := Tryz.sizeOf4
  v4 := Tryz.zeroValue4
  t5 := Tryz.underlying5
  a5 := Tryz.isAgg5
  z5 := Tryz.sizeOf5
  v5 := Tryz.zeroValue5
  t9 := Tryz.underlying9
  a9 := Tryz.isAgg9
  z9 := Tryz.sizeOf9
  v9 := Tryz.zeroValue9
  t20 := Tryz.underlying20
  a20 := Tryz.isAgg20
  z20 := Tryz.sizeOf20
  v20 := Tryz.zeroValue20
  t37 := Tryz.underlying114
  a37 := Tryz.isAgg114
  z37 := Tryz.sizeOf114
  v37 := Tryz.zeroValue114
  t46 := Tryz.underlying201
  a46 := Tryz.isAgg201
  z46 := Tryz.sizeOf201
  v46 := Tryz.zeroValue201
  t51 := Tryz.underlying199
  a51 := Tryz.isAgg199
  z51 := Tryz.sizeOf199
  v51 := Tryz.zeroValue199
  t53 := Tryz.underlying183
  a53 := Tryz.isAgg183
  z53 := Tryz.sizeOf183
  v53 := Tryz.zeroValue183
  t171 := Tryz.underlying182
  a171 := Tryz.isAgg182
  z171 := Tryz.sizeOf182
  v171 := Tryz.zeroValue182
  t173 := Tryz.underlying186
  a173 := Tryz.isAgg186
  z173 := Tryz.sizeOf186
  v173 := Tryz.zeroValue186
  t212 := Tryz.underlying198
  a212 := Tryz.isAgg198
  z212 := Tryz.sizeOf198
  v212 := Tryz.zeroValue198
  t213 := Tryz.underlying200
  a213 := Tryz.isAgg200
  z213 := Tryz.sizeOf200
  t232 := Tryz.underlying210
  a232 := Tryz.isAgg210
  z232 := Tryz.sizeOf210
  v232 := Tryz.zeroValue210
  t233 := Tryz.underlying211
  a233 := Tryz.isAgg211
  z233 := Tryz.sizeOf211
  v233 := Tryz.zeroValue211
  g17 := by kernel_rfl
  g18 := by kernel_rfl
  g19 := by kernel_rfl
  i0 := by kernel_rfl
  i2 := by kernel_rfl
  i3 := by kernel_rfl
  i4 := by kernel_rfl
  i5 := by kernel_rfl
  i9 := by kernel_rfl
  i20 := by kernel_rfl
  i37 := by kernel_rfl
  i46 := by kernel_rfl
  i51 := by kernel_rfl
  i53 := by kernel_rfl
  i171 := by kernel_rfl
  i173 := by kernel_rfl
  i212 := by kernel_rfl
  i232 := by kernel_rfl
  i233 := by kernel_rfl
  m17 := by kernel_rfl
  m18 := by kernel_rfl
  m19 := by kernel_rfl }
theorem Tryz.itoa_any (n : Int) (h0 : -9223372036854775808 ≤ n) (h1 : n ≤ 9223372036854775807) (w : World) (htab : Lib.TabIs Tryz.prog w "internal/strconv.uint64pow10" .u64 Lib.pow10Tab) :
    Calls Tryz.prog 34 #[.int .i64 n] w fun e w' => e = .returned (.string ⟨(Lib.itoa n).toArray⟩) /\ ∃ k os,w' = Sort.grow (w.drewN k) os := Any.strconv_Itoa Tryz.laysM171 n h0 h1 w htab
end Go.Proofs
namespace Go.Proofs.YtpopchckldbhdaaGreatDoor.Dw
open Go.RowKit
set_option maxRecDepth 20000
def printL (l z x y : Nat) : List UInt8 := 47 :: (Pp.names l ++ 47 :: (Lib.decDigits z ++ 47 :: (Lib.decDigits x ++ 47 :: (Lib.decDigits y ++ Pp.dotTile))))
abbrev Tab (w : World) : Prop := Lib.TabBelow Tryz.prog w.heap.size w "internal/strconv.uint64pow10" .u64 Lib.pow10Tab
theorem dig_size (n : Nat) : (⟨(Lib.decDigits n).toArray⟩ : ByteArray).size <= n + 1 := dec_len n
theorem itoa_at (n : Nat) (w W : World) (hn : n <= 1000000000) (hT : Tab w) (hb : Below w.heap.size w W) :
    Calls Tryz.prog 34 #[.int .i64 n] W fun e w' => (∃ D : ByteArray,e = .returned (.string D) /\ D.data.toList = Lib.decDigits n /\ D.size <= 1000000001) /\ Below W.heap.size W w' := by
  refine (Tryz.itoa_any n (by omega) (by omega) W (hT W hb)).mono ?_
  rintro e w' ⟨rfl,k,os,rfl⟩
  refine ⟨⟨_,rfl,?_,?_⟩,Lib.below_grow _ _ (Nat.le_refl _) k os⟩
  . rw [Lib.itoa_nonneg]
  . rw [Lib.itoa_nonneg]
    have := dig_size n
    omega
theorem name_in (l : Nat) (hl : l < 4) (w : World) (h : NamesIn w) : ∃ M : ByteArray,w.cell? ⟨0,l,none⟩ = some (.string M) /\ M.data.toList = Pp.names l /\ M.size <= 10 := by
  obtain ⟨c0,c1,c2,c3⟩ := h
  match l,hl with
  | 0,_ => exact ⟨_,c0,rfl,by decide⟩
  | 1,_ => exact ⟨_,c1,rfl,by decide⟩
  | 2,_ => exact ⟨_,c2,rfl,by decide⟩
  | 3,_ => exact ⟨_,c3,rfl,by decide⟩
theorem size_lit (a : Array UInt8) : (⟨a⟩ : ByteArray).size = a.size := rfl
structure KB (w : World) (l z x y : Nat) (W : World) : Prop where
  kl : W.cell? ⟨w.heap.size,0,none⟩ = some (.int .i64 l)
  kz : W.cell? ⟨w.heap.size,1,none⟩ = some (.int .i64 z)
  kx : W.cell? ⟨w.heap.size,2,none⟩ = some (.int .i64 x)
  ky : W.cell? ⟨w.heap.size,3,none⟩ = some (.int .i64 y)
  wl : w.heap.size < W.heap.size
  bel : Below w.heap.size w W
theorem KB.start (w : World) (l z x y : Nat) : KB w l z x y (w.alloc (.cells #[.int .i64 l,.int .i64 z,.int .i64 x,.int .i64 y] 39)) := by
  refine ⟨?_,?_,?_,?_,?_,?_⟩
  all_goals first
    | exact (Below.refl _ _).alloc (Nat.le_refl _) _
    | simp [go_sem]
theorem KB.on {w W W' : World} {l z x y : Nat} (h : KB w l z x y W) (hb : Below W.heap.size W W') : KB w l z x y W' := by
  have hs := hb.size
  have hw := h.wl
  exact ⟨(hb.cell (p := ⟨w.heap.size,0,none⟩) hw).trans h.kl,(hb.cell (p := ⟨w.heap.size,1,none⟩) hw).trans h.kz,(hb.cell (p := ⟨w.heap.size,2,none⟩) hw).trans h.kx,(hb.cell (p := ⟨w.heap.size,3,none⟩) hw).trans h.ky,by omega,h.bel.trans (hb.mono (by omega))⟩
set_option maxHeartbeats 1600000 in
theorem print_yes (l z x y : Nat) (w : World) (hl : l < 4) (hz : z <= 1000000) (hx : x <= 10000000) (hy : y <= 10000000) (h : Pp.keyErr l z x y = 0) (hN : Nm w) (hT : Tab w) :
    Calls Tryz.prog 16 #[.agg #[.int .i64 l,.int .i64 z,.int .i64 x,.int .i64 y]] w fun e w' => (∃ P : ByteArray,e = .returned (.tuple #[.string P,.int .i64 0]) /\ P.data.toList = printL l z x y /\ P.size <= 5000000000) /\ Below w.heap.size w w' := by
  have HT := hide hT
  have HN := hide hN
  have HK := hide h
  clear hT hN h
  have hl4 : (l : Int) < 4 := by omega
  go_enter Tryz.func16,Tryz.ntmps16
  go_wp2_with fail
  refine (keyError_any l z x y _).mono ?_
  rintro e w1 ⟨rfl,hb⟩
  rw [unhide HK]
  have hI := (KB.start w l z x y).on hb
  have HI := hide hI
  obtain ⟨kl,kz,kx,ky,wl,bel⟩ := hI
  obtain ⟨M,cM,hM,sM⟩ := name_in l hl w1 ((unhide HN).on bel).2
  have HM := hide hM
  clear hb bel hM
  go_wp2_with fail
  refine (itoa_at z w w1 (by omega) (unhide HT) (unhide HI).bel).mono ?_
  rintro e w2 ⟨⟨Dz,rfl,hDz,sz⟩,hb2⟩
  have HDz := hide hDz
  have hI2 := (unhide HI).on hb2
  clear kl kz kx ky wl HI hb2 hDz cM
  have HI := hide hI2
  obtain ⟨kl,kz,kx,ky,wl,bel⟩ := hI2
  clear bel
  go_wp2_with fail
  refine (itoa_at x w w2 (by omega) (unhide HT) (unhide HI).bel).mono ?_
  rintro e w3 ⟨⟨Dx,rfl,hDx,sx⟩,hb3⟩
  have HDx := hide hDx
  have hI3 := (unhide HI).on hb3
  clear kl kz kx ky wl HI hb3 hDx
  have HI := hide hI3
  obtain ⟨kl,kz,kx,ky,wl,bel⟩ := hI3
  clear bel
  go_wp2_with fail
  refine (itoa_at y w w3 (by omega) (unhide HT) (unhide HI).bel).mono ?_
  rintro e w4 ⟨⟨Dy,rfl,hDy,sy⟩,hb4⟩
  have HDy := hide hDy
  have hI4 := (unhide HI).on hb4
  clear kl kz kx ky wl HI hb4 hDy
  have HBf := hide hI4.bel
  clear hI4
  go_wp2_with fail
  go_ret2
  refine ⟨⟨_,rfl,?_,?_⟩,unhide HBf⟩
  . simp [unhide HM,unhide HDz,unhide HDx,unhide HDy,printL,Pp.dotTile]
  . simp only [ByteArray.size_append,size_lit]
    simp
    omega
theorem tab_on {w W : World} (hT : Tab w) (hb : Below w.heap.size w W) : Tab W := fun w' hb' => hT w' (hb.trans (hb'.mono hb.size))
theorem below_one (w : World) (o : Obj) : Below w.heap.size w (w.alloc o) := (Below.refl _ _).alloc (Nat.le_refl _) _
set_option maxHeartbeats 800000 in
theorem tag_yes (l z x y v : Nat) (w : World) (hl : l < 4) (hz : z <= 1000000) (hx : x <= 10000000) (hy : y <= 10000000) (h : Pp.keyErr l z x y = 0) (hN : Nm w) (hT : Tab w) (hv : v <= 100) :
    Calls Tryz.prog 123 #[.agg #[.int .i64 l,.int .i64 z,.int .i64 x,.int .i64 y],.int .i64 v] w fun e w' => (∃ T : ByteArray,e = .returned (.tuple #[.string T,.int .i64 0]) /\ T.data.toList = printL l z x y ++ 64 :: Lib.decDigits v) /\ Below w.heap.size w w' := by
  have HK := hide h
  clear h
  have HN := hide hN
  have HT := hide hT
  clear hN hT
  go_enter Tryz.func123,Tryz.ntmps123
  go_wp2_with fail
  refine (print_yes l z x y _ hl hz hx hy (unhide HK) ((unhide HN).on (below_one _ _)) (tab_on (unhide HT) (below_one _ _))).mono ?_
  rintro e w1 ⟨⟨P,rfl,hP,sP⟩,hb⟩
  have hB : Below w.heap.size w w1 := ((Below.refl _ _).alloc (Nat.le_refl _) _).trans (hb.mono (by simp))
  have HB := hide hB
  have HP := hide hP
  clear hb hB hP
  go_wp2_with fail
  refine (itoa_at v w w1 (by omega) (unhide HT) (unhide HB)).mono ?_
  rintro e w2 ⟨⟨D,rfl,hD,sD⟩,hb2⟩
  have hB2 : Below w.heap.size w w2 := (unhide HB).trans (hb2.mono (unhide HB).size)
  have HB2 := hide hB2
  have HD := hide hD
  clear hb2 hB2 hD
  go_wp2_with fail
  go_ret2
  refine ⟨⟨_,rfl,?_⟩,unhide HB2⟩
  simp [unhide HP,unhide HD]
end Go.Proofs.YtpopchckldbhdaaGreatDoor.Dw
namespace Go.Proofs.YtpopchckldbhdaaGreatDoor
open Go.RowKit
set_option maxRecDepth 20000
def Glb (w : World) : Prop := 4 ≤ w.heap.size ∧ ∀ W : World, (∀ i, i < 4 → W.heap[i]? = w.heap[i]?) → Dw.NamesIn W ∧ Lib.TabIs Tryz.prog W "internal/strconv.uint64pow10" .u64 Lib.pow10Tab
theorem Glb.nm {w : World} (h : Glb w) : Dw.Nm w := ⟨by have := h.1; omega,(h.2 w fun _ _ => rfl).1⟩
theorem Glb.on {w w' : World} (h : Glb w) (hb : Below w.heap.size w w') : Glb w' := ⟨by have := hb.size; have := h.1; omega,fun W hW => h.2 W fun i hi => (hW i hi).trans (hb.block i (by have := h.1; omega))⟩
theorem Glb.tab {w : World} (h : Glb w) : Dw.Tab w := fun w' hb => ((h.on hb).2 w' fun _ _ => rfl).2
theorem Glb.frm {w w' : World} {S : Nat -> Prop} (h : Glb w) (hf : Frm S w w') (hS : ∀ k,S k -> 4 <= k) : Glb w' := ⟨by have := hf.size; have := h.1; omega,fun W hW => h.2 W fun i hi => (hW i hi).trans (hf.block i (by have := h.1; omega) (fun q => by have := hS i q; omega))⟩
theorem KOk.perr {k : K4} (h : KOk k) : Dw.Pp.keyErr k.l k.z k.x k.y = 0 := by
  have h1 := h.l
  have h2 := h.z
  have h3 := h.x
  have h4 := h.y
  unfold Dw.Pp.keyErr
  rw [if_neg (by omega),if_neg (by omega),if_neg (by omega)]
theorem pow22 {z : Int} (h : z <= 22) : (2 : Int) ^ z.toNat <= 4194304 := by
  have h1 : z.toNat <= 22 := by omega
  have h2 : (2 : Nat) ^ z.toNat <= 2 ^ 22 := Nat.pow_le_pow_right (by decide) h1
  have h3 : ((2 : Int) ^ z.toNat) = ((2 ^ z.toNat : Nat) : Int) := by simp
  rw [h3]
  omega
theorem KOk.small {k : K4} (h : KOk k) : Small k := by
  have h1 := pow22 h.z.2
  have h2 := h.x
  have h3 := h.y
  exact ⟨by omega,by omega⟩
def tagB (k : K4) (s : Int) : ByteArray := ⟨(Dw.printL k.l.toNat k.z.toNat k.x.toNat k.y.toNat ++ 64 :: Lib.decDigits s.toNat).toArray⟩
theorem ba_of (T : ByteArray) (l : List UInt8) (h : T.data.toList = l) : T = ⟨l.toArray⟩ := by
  subst h; cases T; simp
theorem Tag_any (l z x y s : Int) (w : World) (hk : KOk ⟨l,z,x,y⟩) (hs : 0 <= s /\ s <= 100) (hg : Glb w) :
    Calls Tryz.prog 123 #[.agg #[.int .i64 l,.int .i64 z,.int .i64 x,.int .i64 y],.int .i64 s] w fun e w' => e = .returned (.tuple #[.string (tagB ⟨l,z,x,y⟩ s),.int .i64 0]) /\ Below w.heap.size w w' := by
  have hsm := hk.small
  obtain ⟨⟨x1,x2⟩,⟨y1,y2⟩⟩ := hsm
  have hl := hk.l
  have hz := hk.z
  have hpe := hk.perr
  dsimp only at x1 x2 y1 y2 hl hz hpe
  have e1 : (l.toNat : Int) = l := Int.toNat_of_nonneg hl.1
  have e2 : (z.toNat : Int) = z := Int.toNat_of_nonneg hz.1
  have e3 : (x.toNat : Int) = x := Int.toNat_of_nonneg x1
  have e4 : (y.toNat : Int) = y := Int.toNat_of_nonneg y1
  have e5 : (s.toNat : Int) = s := Int.toNat_of_nonneg hs.1
  have T := Dw.tag_yes l.toNat z.toNat x.toNat y.toNat s.toNat w (by omega) (by omega) (by omega) (by omega) (by rw [e1,e2,e3,e4]; exact hpe) hg.nm hg.tab (by omega)
  rw [e1,e2,e3,e4,e5] at T
  refine T.mono ?_
  rintro e w' ⟨⟨B,rfl,hB⟩,hb⟩
  exact ⟨by rw [ba_of B _ hB]; rfl,hb⟩
theorem stK_in {v : Int} {LS : List Ft} (hv : 0 <= v) (k : K4) : 0 <= stK v k LS /\ stK v k LS <= v := by
  unfold stK
  exact ⟨stp_nn _ _ _ _ _ _ _,stp_le hv _ fun i _ => lc_le hv⟩
set_option maxHeartbeats 3200000 in
theorem tagAt_any (fb : Nat) (X : FV) (ver v : Int) (sl pv : Value) (LS PL : List Ft) (l z x y : Int) (w : World) (hf : FBlk w fb X) (hs : StP w X.sb 0 ver sl pv LS PL) (hl : LS.length <= 1000) (hk : KOk ⟨l,z,x,y⟩) (hv : 0 <= v /\ v <= ver) (hver : ver <= 100) (hg : Glb w) :
    Calls Tryz.prog 96 #[.pointer (some ⟨fb,0,none⟩),.int .i64 v,.agg #[.int .i64 l,.int .i64 z,.int .i64 x,.int .i64 y]] w fun e w' => e = .returned (.tuple #[.string (tagB ⟨l,z,x,y⟩ (stK v ⟨l,z,x,y⟩ LS)),.int .i64 0]) /\ Below w.heap.size w w' := by
  have hlt0 := blk_lt hf
  have he := hk.err
  have hb0 := (Below.refl w.heap.size w).alloc (Nat.le_refl _) (.cells #[.int .i64 l,.int .i64 z,.int .i64 x,.int .i64 y] 39)
  have hA := heap_alloc_new w (.cells #[.int .i64 l,.int .i64 z,.int .i64 x,.int .i64 y] 39 (0,0))
  have hz1 : (w.alloc (.cells #[.int .i64 l,.int .i64 z,.int .i64 x,.int .i64 y] 39)).heap.size = w.heap.size + 1 := by simp
  have c6 := (hb0.cell (p := ⟨fb,6,none⟩) hlt0).trans hf.cells.2.2.2.2.2.2.1
  have hs1 := hs.on hb0
  have hsi := stK_in (LS := LS) hv.1 ⟨l,z,x,y⟩
  have hF : ∀ W,Below (w.alloc (.cells #[.int .i64 l,.int .i64 z,.int .i64 x,.int .i64 y] 39)).heap.size (w.alloc (.cells #[.int .i64 l,.int .i64 z,.int .i64 x,.int .i64 y] 39)) W -> W.cell? ⟨fb,6,none⟩ = some (.pointer (some ⟨X.sb,0,none⟩)) := fun W h => (h.cell (p := ⟨fb,6,none⟩) (by show fb < _; omega)).trans c6
  have hK : ∀ W,Below (w.alloc (.cells #[.int .i64 l,.int .i64 z,.int .i64 x,.int .i64 y] 39)).heap.size (w.alloc (.cells #[.int .i64 l,.int .i64 z,.int .i64 x,.int .i64 y] 39)) W -> W.rangeAt w.heap.size 0 #[.int .i64 l,.int .i64 z,.int .i64 x,.int .i64 y].toList := fun W h => rng_blk (blk_on hA h)
  have ST : ∀ W,Below (w.alloc (.cells #[.int .i64 l,.int .i64 z,.int .i64 x,.int .i64 y] 39)).heap.size (w.alloc (.cells #[.int .i64 l,.int .i64 z,.int .i64 x,.int .i64 y] 39)) W -> Calls Tryz.prog 122 #[.pointer (some ⟨X.sb,0,none⟩),.int .i64 v,.agg #[.int .i64 l,.int .i64 z,.int .i64 x,.int .i64 y]] W fun e w' => e = .returned (.tuple #[.int .i64 (stK v ⟨l,z,x,y⟩ LS),.int .i64 0]) /\ Below W.heap.size W w' := fun W h => Stamp_any X.sb 0 ver sl pv LS v l z x y W (hs1.on h).sto hl he hv
  have HG := hide hg
  have HB0 := hide hb0
  have HA := hide hA
  have HKO := hide hk
  clear hf hs hs1 hb0 he hk hg
  generalize stK v ⟨l,z,x,y⟩ LS = S at ST hsi ⊢
  go_enter Tryz.func96,Tryz.ntmps96
  go_wp2_with fail
  refine region_bq (by kernel_rfl) (by kernel_rfl) ?_
  refine q_move rfl _ rfl (.pointer (some ⟨fb,0,none⟩)) rfl ?_
  simp only [Act.put,qA,qB,qC]
  refine q_val rfl (.pointer (some ⟨fb,0,none⟩)) (fun w' hw' => by simp [go_sem]) ?_
  simp only [Act.put,qA,qB,qC]
  refine q_val rfl (.pointer (some ⟨fb,6,none⟩)) (fun w' hw' => by simp [go_sem]) ?_
  simp only [Act.put,qA,qB,qC]
  refine q_val rfl (.pointer (some ⟨X.sb,0,none⟩)) (fun w' hw' => by simp [go_sem,hF w' hw']) ?_
  simp only [Act.put,qA,qB,qC]
  refine q_move rfl _ rfl (.int .i64 v) rfl ?_
  simp only [Act.put,qA,qB,qC]
  refine q_load rfl 39 _ rfl (w.heap.size) (0) rfl (#[.int .i64 l,.int .i64 z,.int .i64 x,.int .i64 y]) _ Tryz.underlying39 rfl (sz39 _ _ _ _) (hK) ?_
  simp only [Act.put,qA,qB,qC]
  refine q_callC rfl 122 (#[.pointer (some ⟨X.sb,0,none⟩),.int .i64 v,.agg #[.int .i64 l,.int .i64 z,.int .i64 x,.int .i64 y]]) (fun _ => by simp [go_sem]) (.tuple #[.int .i64 S,.int .i64 0]) (ST) ?_
  simp only [Act.put,qA,qB,qC]
  refine q_move rfl _ rfl (.tuple #[.int .i64 S,.int .i64 0]) rfl ?_
  simp only [Act.put,qA,qB,qC]
  refine q_val rfl (.int .i64 S) (fun w' hw' => by simp [go_sem]) ?_
  simp only [Act.put,qA,qB,qC]
  refine q_val rfl (.int .i64 0) (fun w' hw' => by simp [go_sem]) ?_
  simp only [Act.put,qA,qB,qC]
  refine q_assign rfl _ rfl (.int .i64 S) rfl ?_
  simp only [Act.put,qA,qB,qC]
  refine q_assign rfl _ rfl (.int .i64 0) rfl ?_
  simp only [Act.put,qA,qB,qC]
  refine wpQuiet_nil ?_
  intro w2 hw2
  have hA2 := blk_on (unhide HA) hw2
  have hB2 := (unhide HB0).trans (hw2.mono (by simp))
  have TG := Tag_any l z x y S w2 (unhide HKO) (by omega) ((unhide HG).on hB2)
  have hrg2 : w2.rangeAt w.heap.size 0 #[.int .i64 l,.int .i64 z,.int .i64 x,.int .i64 y].toList := rng_blk hA2
  have HB2 := hide hB2
  clear hw2 hF hK ST hA c6 hA2 hB2 hsi
  go_wp2_with (refine ldG 39 #[.int .i64 l,.int .i64 z,.int .i64 x,.int .i64 y] Tryz.underlying39 rfl (sz39 _ _ _ _) w.heap.size 0 hrg2 rfl _ rfl rfl ?_)
  refine TG.mono ?_
  rintro e w9 ⟨rfl,hb9⟩
  have HB9 := hide ((unhide HB2).trans (hb9.mono (unhide HB2).size))
  clear hb9 TG
  go_wp2_with fail
  go_ret2
  exact ⟨rfl,unhide HB9⟩
def kk (l z x y : Int) (j i : Nat) : List K4 := ((List.range j).flatMap fun (q : Nat) => [(⟨l,z,x,y + (q : Int)⟩ : K4),⟨l,z,x + 1,y + (q : Int)⟩]) ++ (List.range i).map fun (p : Nat) => (⟨l,z,x + (p : Int),y + (j : Int)⟩ : K4)
theorem kk_next (l z x y : Int) (j i : Nat) : kk l z x y j (i + 1) = kk l z x y j i ++ [⟨l,z,x + i,y + j⟩] := by
  unfold kk
  rw [List.range_succ,List.map_append,<- List.append_assoc]
  rfl
theorem kk_line (l z x y : Int) (j : Nat) : kk l z x y (j + 1) 0 = kk l z x y j 2 := by
  unfold kk
  rw [List.range_succ,List.flatMap_append]
  simp [List.range_succ]
theorem kk_len (l z x y : Int) (j i : Nat) (hj : j <= 2) (hi : i <= 2) : (kk l z x y j i).length <= 6 := by
  unfold kk
  rw [List.length_append,List.length_map,List.length_range,List.length_flatMap]
  have : ((List.range j).map fun (q : Nat) => [(⟨l,z,x,y + (q : Int)⟩ : K4),⟨l,z,x + 1,y + (q : Int)⟩].length).sum = 2 * j := by
    have : j = 0 \/ j = 1 \/ j = 2 := by omega
    rcases this with rfl | rfl | rfl <;> rfl
  rw [this]
  omega
set_option maxHeartbeats 6400000 in
theorem keysOf_any (l z x y : Int) (w : World) (hx : 0 <= x /\ x <= 4194304) (hy : 0 <= y /\ y <= 4194304) :
    Calls Tryz.prog 107 #[.agg #[.int .i64 l,.int .i64 z,.int .i64 x,.int .i64 y]] w fun e w' => (∃ v,e = .returned v /\ OwnR rKey 39 w' v (K4.keys ⟨l,z,x,y⟩) /\ ∀ g,v.ownBlock = some g -> w.heap.size <= g) /\ Below w.heap.size w w' := by
  have hb0 := (Below.refl w.heap.size w).alloc (Nat.le_refl _) (.cells #[.int .i64 l,.int .i64 z,.int .i64 x,.int .i64 y] 39)
  have hA := heap_alloc_new w (.cells #[.int .i64 l,.int .i64 z,.int .i64 x,.int .i64 y] 39 (0,0))
  have hz1 : (w.alloc (.cells #[.int .i64 l,.int .i64 z,.int .i64 x,.int .i64 y] 39)).heap.size = w.heap.size + 1 := by simp
  by_cases hz : z = 0
  . have hb1 := hb0.alloc (by simp) (.cells #[.int .i64 l,.int .i64 z,.int .i64 x,.int .i64 y] 39)
    have HH : Hid ((∃ v,Ending.returned (.slice (some ⟨w.heap.size + 1,0,none⟩) 1 1) = .returned v /\ OwnR rKey 39 ((w.alloc (.cells #[.int .i64 l,.int .i64 z,.int .i64 x,.int .i64 y] 39)).alloc (.cells #[.int .i64 l,.int .i64 z,.int .i64 x,.int .i64 y] 39)) v (K4.keys ⟨l,z,x,y⟩) /\ ∀ g,v.ownBlock = some g -> w.heap.size <= g) /\ Below w.heap.size w ((w.alloc (.cells #[.int .i64 l,.int .i64 z,.int .i64 x,.int .i64 y] 39)).alloc (.cells #[.int .i64 l,.int .i64 z,.int .i64 x,.int .i64 y] 39))) := by
      refine ⟨⟨_,rfl,?_,fun g hg => by simp [Value.ownBlock] at hg; omega⟩,hb1⟩
      have h := ownR_lit (R := rKey) (T := 39) (w.alloc (.cells #[.int .i64 l,.int .i64 z,.int .i64 x,.int .i64 y] 39)) [⟨l,z,x,y⟩] #[.int .i64 l,.int .i64 z,.int .i64 x,.int .i64 y] rfl (by simp [maxLen])
      rw [hz1] at h
      unfold K4.keys
      rw [if_pos hz]
      exact h
    subst hz
    clear hb0 hA hb1
    go_enter Tryz.func107,Tryz.ntmps107
    go_wp2_with (refine wlV _ _ (bsKey l 0 x y _ _ _ rfl rfl _) rfl ?_)
    go_ret
    exact unhide HH
  . have hkeys : K4.keys ⟨l,z,x,y⟩ = kk l z x y 2 0 := by
      unfold K4.keys kk
      rw [if_neg hz]
      simp [List.range_succ]
    have hN := ownR_lit (R := rKey) (T := 39) (w.alloc (.cells #[.int .i64 l,.int .i64 z,.int .i64 x,.int .i64 y] 39)) [] #[] rfl (by simp)
    have hb1 := hb0.alloc (by simp) (.cells #[] 39)
    have hA1 := (heap_alloc_old (w.alloc (.cells #[.int .i64 l,.int .i64 z,.int .i64 x,.int .i64 y] 39)) (.cells #[] 39) (show w.heap.size < _ by simp)).trans hA
    have HN := hide hN
    have HB1 := hide hb1
    have HA1 := hide hA1
    rw [hkeys]
    have hwy : IntKind.i64.wrap (y + 1) = y + 1 := i64_of _ (by omega)
    have hwx : IntKind.i64.wrap (x + 1) = x + 1 := i64_of _ (by omega)
    have hzb : (z == 0) = false := by simp [hz]
    clear hN hb0 hb1 hA hA1 hkeys
    go_enter Tryz.func107,Tryz.ntmps107
    go_wp2_with fail
    go_loopw [3,4,5] (fun v yv _ wr => ∃ j : Nat,j <= 2 /\ yv = .int .i64 (y + j) /\ OwnR rKey 39 wr v (kk l z x y j 0) /\ Hid (∀ g,v.ownBlock = some g -> w.heap.size + 1 <= g) /\ wr.heap[w.heap.size]? = some (.cells #[.int .i64 l,.int .i64 z,.int .i64 x,.int .i64 y] 39 (0,0)) /\ Below w.heap.size w wr) (fun _ yv _ _ => (y + 2 - intOf yv).toNat)
    case atStart => exact ⟨0,by omega,by simp,by simpa [kk] using unhide HN,hide (fun g hg => by simp [Value.ownBlock] at hg; omega),unhide HA1,unhide HB1⟩
    case round =>
      obtain ⟨j,hj,rfl,hown,hfr,hA,hb⟩ := hrel
      have hc := blk_cells hA
      have c0 := (hc 0).trans (show _ = some (Value.int .i64 l) from rfl)
      have c1 := (hc 1).trans (show _ = some (Value.int .i64 z) from rfl)
      have c2 := (hc 2).trans (show _ = some (Value.int .i64 x) from rfl)
      have c3 := (hc 3).trans (show _ = some (Value.int .i64 y) from rfl)
      have HO := hide hown
      have HA := hide hA
      have HB := hide hb
      clear hown hA hb hc
      by_cases hjj : j < 2
      . have hle : y + (j : Int) <= y + 1 := by omega
        go_wp2_with fail
        go_loopw [3,5] (fun v xv wr => ∃ i : Nat,i <= 2 /\ xv = .int .i64 (x + i) /\ OwnR rKey 39 wr v (kk l z x y j i) /\ Hid (∀ g,v.ownBlock = some g -> w.heap.size + 1 <= g) /\ wr.heap[w.heap.size]? = some (.cells #[.int .i64 l,.int .i64 z,.int .i64 x,.int .i64 y] 39 (0,0)) /\ Below w.heap.size w wr) (fun _ xv _ => (x + 2 - intOf xv).toNat)
        case atStart => exact ⟨0,by omega,by simp,unhide HO,hfr,unhide HA,unhide HB⟩
        case round =>
          obtain ⟨i,hi,rfl,hown,hfr2,hA,hb⟩ := hrel
          have hc := blk_cells hA
          have c0 := (hc 0).trans (show _ = some (Value.int .i64 l) from rfl)
          have c1 := (hc 1).trans (show _ = some (Value.int .i64 z) from rfl)
          have c2 := (hc 2).trans (show _ = some (Value.int .i64 x) from rfl)
          have hszr := hb.size
          by_cases hii : i < 2
          . have hle2 : x + (i : Int) <= x + 1 := by omega
            have hwi : IntKind.i64.wrap (x + (i : Int) + 1) = x + ((i + 1 : Nat) : Int) := by rw [i64_of _ (by omega)]; omega
            have hat := at_new rKey 39 wr ⟨l,z,x + i,y + j⟩ #[.int .i64 l,.int .i64 z,.int .i64 (x + i),.int .i64 (y + j)] rfl
            have hbA := (Below.refl wr.heap.size wr).alloc (Nat.le_refl _) (.cells #[.int .i64 l,.int .i64 z,.int .i64 (x + i),.int .i64 (y + j)] 39)
            have hoA := hown.on hbA
            obtain ⟨v3,w3,r1,r2,r3,r4⟩ := apKey hoA hat (by have := kk_len l z x y j i hj hi; simp; omega)
            rw [<- kk_next] at r2
            have HO3 := hide r2
            have HB3 := hide ((hb.alloc hszr (.cells #[.int .i64 l,.int .i64 z,.int .i64 (x + i),.int .i64 (y + j)] 39)).grown r3 (by simp; omega) (fun g hg => by have := unhide hfr2 g hg; omega))
            have HA3 := hide ((r3.block w.heap.size (by have := blk_lt hA; simp; omega) (fun q => by have := unhide hfr2 w.heap.size q.symm; omega)).trans (blk_on hA hbA))
            have HFR := hide (fresh_of (unhide hfr2) r4 (by have := blk_lt hA; simp; omega))
            clear hown hA hb hc hat hbA hoA r2 r3 r4
            go_wp2_with (first | refine wlV _ _ (bsKey l z (x + i) (y + j) _ _ _ rfl rfl _) rfl ?_ | (at_builtin; refine wlR 93 r1 rfl _ _ rfl rfl rfl rfl ?_))
            go_roundw
            case rel => exact ⟨i + 1,by omega,by go_num,unhide HO3,unhide HFR,unhide HA3,unhide HB3⟩
            case measure => simp [intOf]; omega
          . have hi2 : i = 2 := by omega
            subst hi2
            have hle2 : ¬ x + ((2 : Nat) : Int) <= x + 1 := by omega
            rw [<- kk_line] at hown
            have HO3 := hide hown
            have HA3 := hide hA
            have HB3 := hide hb
            clear hown hA hb hc
            go_wp2_with fail
            go_roundw
            case rel => exact ⟨j + 1,by omega,by go_num,unhide HO3,hfr2,unhide HA3,unhide HB3⟩
            case measure => simp [intOf]; omega
      . have hj2 : j = 2 := by omega
        subst hj2
        have hle : ¬ y + ((2 : Nat) : Int) <= y + 1 := by omega
        go_wp2_with fail
        go_ret
        exact ⟨⟨_,rfl,unhide HO,fun g hg => by have := unhide hfr g hg; omega⟩,unhide HB⟩
end Go.Proofs.YtpopchckldbhdaaGreatDoor
namespace Go.Proofs.YtpopchckldbhdaaGreatDoor.Pk
namespace Pt
def okPic (l : List UInt8) : Bool := decide (l.length = 64 /\ ∀ c ∈ l,c.toNat <= 15)
theorem okPic_iff (l : List UInt8) : okPic l = true ↔ l.length = 64 /\ ∀ c ∈ l,c.toNat <= 15 := by simp [okPic]
def runByte (n : Nat) (c : UInt8) : UInt8 := UInt8.ofNat (16 * n + c.toNat)
def go (c : UInt8) (n : Nat) : List UInt8 -> List UInt8
  | [] => [runByte n c]
  | x :: r => if x = c /\ n < 15 then go c (n + 1) r else runByte n c :: go x 0 r
def runs : List UInt8 -> List UInt8
  | [] => []
  | x :: r => go x 0 r
def lead (c : UInt8) : Nat -> List UInt8 -> Nat
  | 0,_ => 0
  | _ + 1,[] => 0
  | n + 1,x :: r => if x = c then lead c n r + 1 else 0
theorem lead_le (c : UInt8) : ∀ (n : Nat) (l : List UInt8),lead c n l <= n /\ lead c n l <= l.length
  | 0,_ => by simp [lead]
  | _ + 1,[] => by simp [lead]
  | n + 1,x :: r => by
    have h := lead_le c n r
    unfold lead
    split <;> simp <;> omega
theorem go_lead (c : UInt8) : ∀ (r : List UInt8) (n m : Nat),n + m = 15 -> go c n r = runByte (n + lead c m r) c :: runs (r.drop (lead c m r))
  | [],n,m,h => by cases m <;> simp [go,lead,runs]
  | x :: r,n,m,h => by
    cases m with
    | zero =>
      have hn : ¬ n < 15 := by omega
      simp [go,lead,runs,hn]
    | succ m =>
      have hn : n < 15 := by omega
      by_cases hx : x = c
      . subst hx
        have ih := go_lead x r (n + 1) m (by omega)
        simp only [go,lead,hn,and_self,if_true,ih]
        rw [show n + 1 + lead x m r = n + (lead x m r + 1) from by omega]
        simp
      . simp [go,lead,runs,hx]
theorem runs_cons (x : UInt8) (r : List UInt8) : runs (x :: r) = runByte (lead x 15 r) x :: runs (r.drop (lead x 15 r)) := by
  have := go_lead x r 0 15 rfl
  simpa [runs] using this
def ofRun (b : UInt8) : List UInt8 := List.replicate (b.toNat / 16 + 1) (b % 16)
def spread (l : List UInt8) : List UInt8 := l.flatMap ofRun
theorem ofRun_runByte (n : Nat) (c : UInt8) (hn : n <= 15) (hc : c.toNat <= 15) : ofRun (runByte n c) = List.replicate (n + 1) c := by
  unfold ofRun runByte
  have h1 : (UInt8.ofNat (16 * n + c.toNat)).toNat = 16 * n + c.toNat := by simp; omega
  rw [h1]
  have h2 : (16 * n + c.toNat) / 16 = n := by omega
  have h3 : UInt8.ofNat (16 * n + c.toNat) % 16 = c := by
    apply UInt8.toNat_inj.1
    simp only [UInt8.toNat_mod,h1]
    have : (16 : UInt8).toNat = 16 := rfl
    rw [this]; omega
  rw [h2,h3]
theorem spread_go (c : UInt8) : ∀ (r : List UInt8) (n : Nat),n <= 15 -> c.toNat <= 15 -> (∀ x ∈ r,x.toNat <= 15) -> spread (go c n r) = List.replicate (n + 1) c ++ r
  | [],n,hn,hc,_ => by simp [go,spread,ofRun_runByte n c hn hc]
  | x :: r,n,hn,hc,h => by
    unfold go
    by_cases hx : x = c /\ n < 15
    . rw [if_pos hx]
      obtain ⟨rfl,hlt⟩ := hx
      rw [spread_go x r (n + 1) (by omega) hc (fun y hy => h y (by simp [hy]))]
      rw [List.replicate_succ' (n := n + 1)]
      simp
    . rw [if_neg hx]
      have ih := spread_go x r 0 (by omega) (h x (by simp)) (fun y hy => h y (by simp [hy]))
      simp only [spread,List.flatMap_cons] at ih ⊢
      rw [ih,ofRun_runByte n c hn hc]
      simp
theorem spread_runs (l : List UInt8) (h : ∀ x ∈ l,x.toNat <= 15) : spread (runs l) = l := by
  cases l with
  | nil => rfl
  | cons x r =>
    have := spread_go x r 0 (by omega) (h x (by simp)) (fun y hy => h y (by simp [hy]))
    simpa [runs] using this
def wt (l : List UInt8) : Nat := (spread l).length
theorem wt_nil : wt [] = 0 := rfl
theorem wt_cons (b : UInt8) (l : List UInt8) : wt (b :: l) = b.toNat / 16 + 1 + wt l := by simp [wt,spread,ofRun]
theorem wt_le : ∀ l : List UInt8,l.length <= wt l /\ wt l <= 16 * l.length
  | [] => by simp [wt_nil]
  | b :: l => by
    have := wt_le l
    have hb : b.toNat < 256 := b.toNat_lt
    rw [wt_cons]
    simp only [List.length_cons]
    omega
def sum1 : List UInt8 -> Nat
  | [] => 0
  | c :: r => c.toNat + sum1 r
def sum2 (n : Int) : List UInt8 -> Int
  | [] => 0
  | c :: r => n * c.toNat + sum2 (n - 1) r
theorem sum1_append : ∀ a b : List UInt8,sum1 (a ++ b) = sum1 a + sum1 b
  | [],b => by simp [sum1]
  | c :: a,b => by simp [sum1,sum1_append a b]; omega
theorem sum2_append : ∀ (a b : List UInt8) (n : Int),sum2 n (a ++ b) = sum2 n a + sum2 (n - a.length) b
  | [],b,n => by simp [sum2]
  | c :: a,b,n => by
    simp only [List.cons_append,sum2,sum2_append a b (n - 1),List.length_cons]
    rw [show n - 1 - (a.length : Int) = n - ((a.length + 1 : Nat) : Int) from by omega]
    omega
theorem sum1_le : ∀ l : List UInt8,sum1 l <= 255 * l.length
  | [] => by simp [sum1]
  | c :: r => by
    have := sum1_le r
    have hc : c.toNat < 256 := c.toNat_lt
    simp only [sum1,List.length_cons]
    omega
theorem sum2_le : ∀ (l : List UInt8) (n : Int),(l.length : Int) <= n -> n <= 64 -> 0 <= sum2 n l /\ sum2 n l <= 16320 * l.length
  | [],_,_,_ => by simp [sum2]
  | c :: r,n,h,h' => by
    have hc : c.toNat < 256 := c.toNat_lt
    simp only [List.length_cons] at h
    have ih := sum2_le r (n - 1) (by omega) (by omega)
    have h1 : 0 <= n * (c.toNat : Int) := Int.mul_nonneg (by omega) (by omega)
    have h2 : n * (c.toNat : Int) <= 64 * 255 := Int.mul_le_mul h' (by omega) (by omega) (by omega)
    simp only [sum2,List.length_cons]
    omega
def ch1 (l : List UInt8) : UInt8 := UInt8.ofNat ((1 + sum1 l) % 251)
def ch2 (l : List UInt8) : UInt8 := UInt8.ofNat ((64 + sum2 64 l) % 251).toNat
def body (l : List UInt8) : List UInt8 := 84 :: (runs l ++ [ch1 l,ch2 l])
def mid (b : List UInt8) : List UInt8 := (b.drop 1).take (b.length - 3)
theorem mid_mk (a c d : UInt8) (r : List UInt8) : mid (a :: (r ++ [c,d])) = r := by simp [mid]
def okBody (b : List UInt8) : Bool := decide (7 <= b.length /\ b.length <= 67) && (okPic (spread (mid b)) && decide (body (spread (mid b)) = b))
theorem okBody_iff (b : List UInt8) : okBody b = true ↔ (7 <= b.length /\ b.length <= 67) /\ okPic (spread (mid b)) = true /\ body (spread (mid b)) = b := by simp [okBody]
theorem body_len (l : List UInt8) (h : okPic l = true) : 7 <= (body l).length /\ (body l).length <= 67 := by
  obtain ⟨h1,h2⟩ := (okPic_iff l).1 h
  have hs := spread_runs l h2
  have hw : wt (runs l) = 64 := by simp [wt,hs,h1]
  have := wt_le (runs l)
  simp only [body,List.length_cons,List.length_append,List.length_nil]
  omega
theorem mid_body (l : List UInt8) : mid (body l) = runs l := mid_mk _ _ _ _
theorem spread_mid_body (l : List UInt8) (h : okPic l = true) : spread (mid (body l)) = l := by
  rw [mid_body,spread_runs l ((okPic_iff l).1 h).2]
theorem okBody_body (l : List UInt8) (h : okPic l = true) : okBody (body l) = true := by
  rw [okBody_iff,spread_mid_body l h]
  exact ⟨body_len l h,h,rfl⟩
end Pt
end Go.Proofs.YtpopchckldbhdaaGreatDoor.Pk
namespace Go.Proofs.YtpopchckldbhdaaGreatDoor.Pk
open Go.RowKit
theorem hide {p : Prop} (h : p) : Hid p := h
theorem unhide {p : Prop} (h : Hid p) : p := h
theorem ret_bool {a b : Bool} (h : a = b) : Ending.returned (.bool a) = .returned (.bool b) := by rw [h]
theorem ret_int {k : IntKind} {a b : Int} (h : a = b) : Ending.returned (.int k a) = .returned (.int k b) := by rw [h]
theorem take_snoc (s : ByteArray) (k : Nat) (h : k < s.size) : s.data.toList.take (k + 1) = s.data.toList.take k ++ [s[k]] := by
  rw [List.take_succ_eq_append_getElem (by simpa using h)]; rfl
def within (lo hi : Int) (l : List UInt8) : Bool := l.all fun c => decide (lo <= (c.toNat : Int) /\ (c.toNat : Int) <= hi)
theorem within_false (lo hi : Int) (s : ByteArray) (k : Nat) (h : k < s.size) (hb : ¬ (lo <= (s[k].toNat : Int) /\ (s[k].toNat : Int) <= hi)) : within lo hi s.data.toList = false := by
  rw [Bool.eq_false_iff]
  intro ht
  simp only [within,List.all_eq_true,decide_eq_true_eq] at ht
  exact hb (ht s[k] (Array.mem_toList_iff.2 (Array.getElem_mem _)))
theorem within_snoc (lo hi : Int) (s : ByteArray) (k : Nat) (h : k < s.size) (h0 : within lo hi (s.data.toList.take k) = true) (hb : lo <= (s[k].toNat : Int) /\ (s[k].toNat : Int) <= hi) : within lo hi (s.data.toList.take (k + 1)) = true := by
  rw [take_snoc s k h]
  unfold within at h0 ⊢
  rw [List.all_append,h0]
  simp [hb]
set_option maxHeartbeats 400000 in
theorem allWithin_any (s : ByteArray) (lo hi : Int) (w : World) (hs : s.size <= maxLen) :
    Calls Tryz.prog 112 #[.string s,.int .u8 lo,.int .u8 hi] w fun e w' => e = .returned (.bool (within lo hi s.data.toList)) /\ w = w' := by
  unfold maxLen at hs
  go_enter Tryz.func112,Tryz.ntmps112
  go_wp2
  go_loop [7] (fun i => ∃ k : Nat,k <= s.size /\ i = .int .i64 k /\ Hid (within lo hi (s.data.toList.take k) = true)) (fun i => s.size - (intOf i).toNat)
  case atStart => exact ⟨0,Nat.zero_le _,rfl,hide rfl⟩
  case round =>
    obtain ⟨k,hk,rfl,hall⟩ := hrel
    by_cases hlt : k < s.size
    . by_cases h1 : (s[k].toNat : Int) < lo
      . go_wp2
        go_ret
        exact ⟨ret_bool (within_false lo hi s k hlt (by omega)).symm,rfl⟩
      . by_cases h2 : hi < (s[k].toNat : Int)
        . go_wp2
          go_ret
          exact ⟨ret_bool (within_false lo hi s k hlt (by omega)).symm,rfl⟩
        . go_wp2
          go_round
          case rel => exact ⟨k + 1,by omega,by go_num,hide (within_snoc lo hi s k hlt (unhide hall) (by omega))⟩
          case measure => simp [intOf]; omega
    . go_wp2
      go_ret
      refine ⟨ret_bool ?_,rfl⟩
      have := unhide hall
      rw [List.take_of_length_le (by simp; omega)] at this
      exact this.symm
theorem within_pic (l : List UInt8) (hl : l.length = 64) : within 0 15 l = Pt.okPic l := by
  rw [Bool.eq_iff_iff,Pt.okPic_iff]
  simp only [within,List.all_eq_true,decide_eq_true_eq]
  exact ⟨fun h => ⟨hl,fun c hc => by have := h c hc; omega⟩,fun h c hc => by have := h.2 c hc; omega⟩
theorem notpic (s : ByteArray) (h : s.size ≠ 64) : Pt.okPic s.data.toList = false := by
  rw [Bool.eq_false_iff,ne_eq,Pt.okPic_iff]
  simp
  intro h'; exact absurd h' h
set_option maxHeartbeats 400000 in
theorem isPicture_any (s : ByteArray) (w : World) (hs : s.size <= maxLen) :
    Calls Tryz.prog 81 #[.string s] w fun e w' => e = .returned (.bool (Pt.okPic s.data.toList)) /\ w = w' := by
  by_cases h : s.size = 64
  . have hb : ((s.size : Int) == 64) = true := by simp; omega
    have hp' : Hid (within 0 15 s.data.toList = Pt.okPic s.data.toList) := within_pic _ (by simpa using h)
    clear h
    go_enter Tryz.func81,Tryz.ntmps81
    go_wp2_with (go_at_call 112; refine (allWithin_any s 0 15 _ hs).mono ?_; rintro e w' ⟨rfl,rfl⟩)
    go_ret
    exact ⟨ret_bool (unhide hp'),rfl⟩
  . have hb : ((s.size : Int) == 64) = false := by simp; omega
    go_enter Tryz.func81,Tryz.ntmps81
    go_wp2_with fail
    go_ret
    exact ⟨ret_bool (notpic s h).symm,rfl⟩
theorem drop_cons (s : ByteArray) (k : Nat) (h : k < s.size) : s.data.toList.drop k = s[k] :: s.data.toList.drop (k + 1) := by
  rw [List.drop_eq_getElem_cons (by simpa using h)]; rfl
def RunSo (s : ByteArray) (i : Nat) (c : UInt8) (n : Nat) : Prop := Pt.lead c 15 (s.data.toList.drop (i + 1)) + 1 = n + Pt.lead c (16 - n) (s.data.toList.drop (i + n))
theorem runSo_one (s : ByteArray) (i : Nat) (c : UInt8) : RunSo s i c 1 := by unfold RunSo; show _ = 1 + Pt.lead c 15 _; omega
theorem runSo_more (s : ByteArray) (i : Nat) (c : UInt8) (n : Nat) (hn : n < 16) (hk : i + n < s.size) (hc : s[i + n] = c) (h : RunSo s i c n) : RunSo s i c (n + 1) := by
  unfold RunSo at h ⊢
  rw [h,drop_cons s (i + n) hk,show 16 - n = (16 - (n + 1)) + 1 from by omega]
  simp only [Pt.lead,hc,if_true]
  rw [show i + n + 1 = i + (n + 1) from by omega]
  omega
theorem runSo_end16 (s : ByteArray) (i : Nat) (c : UInt8) (n : Nat) (hn : ¬ n < 16) (hn' : n <= 16) (h : RunSo s i c n) : Pt.lead c 15 (s.data.toList.drop (i + 1)) + 1 = n := by
  unfold RunSo at h
  rw [show 16 - n = 0 from by omega] at h
  simpa [Pt.lead] using h
theorem runSo_endS (s : ByteArray) (i : Nat) (c : UInt8) (n : Nat) (hn : n < 16) (hk : ¬ i + n < s.size) (h : RunSo s i c n) : Pt.lead c 15 (s.data.toList.drop (i + 1)) + 1 = n := by
  unfold RunSo at h
  rw [List.drop_of_length_le (l := s.data.toList) (i := i + n) (by simp; omega),show 16 - n = (15 - n) + 1 from by omega] at h
  simpa [Pt.lead] using h
theorem runSo_endC (s : ByteArray) (i : Nat) (c : UInt8) (n : Nat) (hn : n < 16) (hk : i + n < s.size) (hc : ¬ s[i + n] = c) (h : RunSo s i c n) : Pt.lead c 15 (s.data.toList.drop (i + 1)) + 1 = n := by
  unfold RunSo at h
  rw [drop_cons s (i + n) hk,show 16 - n = (15 - n) + 1 from by omega] at h
  simpa [Pt.lead,hc] using h
theorem i64_in (x : Int) (h1 : -9223372036854775808 <= x) (h2 : x <= 9223372036854775807) : IntKind.i64.wrap x = x := by rw [IntKind.wrap_i64]; omega
theorem dd (w : World) (q n : Nat) : ∃ k,(w.drewN q).drewN n = w.drewN k := ⟨_,World.drewN_drewN _ _ _⟩
set_option maxHeartbeats 400000 in
theorem runLength_any (s : ByteArray) (i : Nat) (w : World) (hs : s.size <= 1000) (hi : i < s.size) :
    Calls Tryz.prog 82 #[.string s,.int .i64 i] w fun e w' => e = .returned (.int .i64 ((Pt.lead s[i] 15 (s.data.toList.drop (i + 1)) + 1 : Nat) : Int)) /\ ∃ q,w' = w.drewN q := by
  obtain ⟨c,hc⟩ : ∃ c,c = s[i] := ⟨_,rfl⟩
  rw [<- hc]
  have HC := hide hc
  clear hc
  go_enter Tryz.func82,Tryz.ntmps82
  go_wp2
  go_loopw [5] (fun v wr => ∃ n : Nat,1 <= n /\ n <= 16 /\ v = .int .i64 n /\ Hid (RunSo s i c n) /\ ∃ q,wr = w.drewN q) (fun v _ => 16 - (intOf v).toNat)
  case atStart => exact ⟨1,by omega,by omega,rfl,runSo_one s i c,0,rfl⟩
  case round =>
    obtain ⟨n,h1,h2,rfl,hR,q,rfl⟩ := hrel
    by_cases hn : n < 16
    . have ew : IntKind.i64.wrap ((i : Int) + (n : Int)) = (i : Int) + (n : Int) := i64_in _ (by omega) (by omega)
      by_cases hk : i + n < s.size
      . have hk' : (i : Int) + (n : Int) < (s.size : Int) := by omega
        have hn' : (n : Int) < 16 := by omega
        have hi' : (i : Int) < (s.size : Int) := by omega
        have p1 : (0 : Int) <= (i : Int) + (n : Int) := by omega
        have e1 : ((i : Int) + (n : Int)).toNat = i + n := by omega
        by_cases he : s[i + n] = s[i]
        . have hb : ((s[i + n].toNat : Int) == (s[i].toNat : Int)) = true := by rw [he]; simp
          have hR' := hide (runSo_more s i c n hn hk (he.trans (unhide HC).symm) (unhide hR))
          clear he
          go_wp2_with fail
          go_quiet (fail)
          go_wp2
          go_roundw
          case rel => exact ⟨n + 1,by omega,by omega,by go_num,hR',_,rfl⟩
          case measure => simp [intOf]; omega
        . have hb : ((s[i + n].toNat : Int) == (s[i].toNat : Int)) = false := by
            rw [beq_eq_false_iff_ne]
            intro h
            exact he (UInt8.toNat_inj.1 (by omega))
          have hR' := hide (runSo_endC s i c n hn hk (by rw [unhide HC]; exact he) (unhide hR))
          clear he
          go_wp2_with fail
          go_quiet (fail)
          go_wp2
          go_ret
          exact ⟨ret_int (by rw [unhide hR']),dd _ _ _⟩
      . have hn' : (n : Int) < 16 := by omega
        have hd : decide ((i : Int) + (n : Int) < (s.size : Int)) = false := by simp; omega
        have hR' := hide (runSo_endS s i c n hn hk (unhide hR))
        go_wp2_with fail
        go_quiet (fail)
        go_wp2
        go_ret
        exact ⟨ret_int (by rw [unhide hR']),dd _ _ _⟩
    . have hd : decide ((n : Int) < 16) = false := by simp; omega
      have hR' := hide (runSo_end16 s i c n hn h2 (unhide hR))
      go_wp2_with fail
      go_quiet (fail)
      go_wp2
      go_ret
      exact ⟨ret_int (by rw [unhide hR']),dd _ _ _⟩
theorem sum1_snoc (s : ByteArray) (k : Nat) (h : k < s.size) : Pt.sum1 (s.data.toList.take (k + 1)) = Pt.sum1 (s.data.toList.take k) + s[k].toNat := by
  rw [take_snoc s k h,Pt.sum1_append]; simp [Pt.sum1]
theorem sum2_snoc (s : ByteArray) (k : Nat) (h : k < s.size) : Pt.sum2 64 (s.data.toList.take (k + 1)) = Pt.sum2 64 (s.data.toList.take k) + (64 - (k : Int)) * s[k].toNat := by
  rw [take_snoc s k h,Pt.sum2_append]
  have : (s.data.toList.take k).length = k := by simp; omega
  simp [Pt.sum2,this]
theorem ret_two {k k' : IntKind} {a b c d : Int} (h : a = c) (h' : b = d) : Ending.returned (.tuple #[.int k a,.int k' b]) = .returned (.tuple #[.int k c,.int k' d]) := by rw [h,h']
theorem ch1_int (l : List UInt8) : ((Pt.ch1 l).toNat : Int) = (1 + (Pt.sum1 l : Int)) % 251 := by
  unfold Pt.ch1
  rw [UInt8.toNat_ofNat']
  omega
theorem ch2_int (l : List UInt8) : ((Pt.ch2 l).toNat : Int) = (64 + Pt.sum2 64 l) % 251 := by
  unfold Pt.ch2
  rw [UInt8.toNat_ofNat']
  omega
set_option maxHeartbeats 400000 in
theorem checks_any (s : ByteArray) (w : World) (hs : s.size = 64) :
    Calls Tryz.prog 83 #[.string s] w fun e w' => e = .returned (.tuple #[.int .u8 (Pt.ch1 s.data.toList).toNat,.int .u8 (Pt.ch2 s.data.toList).toNat]) /\ w = w' := by
  have hle : s.size <= 64 := by omega
  have hge : 64 <= s.size := by omega
  have HS := hide hs
  clear hs
  go_enter Tryz.func83,Tryz.ntmps83
  go_wp2
  go_loop [4,5,6,7] (fun a b i _ => ∃ k : Nat,k <= s.size /\ i = .int .i64 k /\ a = .int .i64 (1 + (Pt.sum1 (s.data.toList.take k) : Int)) /\ b = .int .i64 (64 + Pt.sum2 64 (s.data.toList.take k))) (fun _ _ i _ => s.size - (intOf i).toNat)
  case atStart => exact ⟨0,Nat.zero_le _,rfl,rfl,rfl⟩
  case round =>
    obtain ⟨k,hk,rfl,rfl,rfl⟩ := hrel
    have hl : (s.data.toList.take k).length = k := by simp; omega
    have b1 := Pt.sum1_le (s.data.toList.take k)
    have b2 := Pt.sum2_le (s.data.toList.take k) 64 (by omega) (by omega)
    rw [hl] at b1 b2
    clear hl
    by_cases hlt : k < s.size
    . have e1 := hide (sum1_snoc s k hlt)
      have e2 := hide (sum2_snoc s k hlt)
      have hc : s[k].toNat < 256 := s[k].toNat_lt
      have m1 : 0 <= (64 - (k : Int)) * s[k].toNat := Int.mul_nonneg (by omega) (by omega)
      have m2 : (64 - (k : Int)) * s[k].toNat <= 64 * 255 := Int.mul_le_mul (by omega) (by omega) (by omega) (by omega)
      go_wp2
      go_round
      case rel => exact ⟨k + 1,by omega,by go_num,by rw [unhide e1]; go_num,by rw [unhide e2]; go_num⟩
      case measure => simp [intOf]; omega
    . go_wp2
      go_ret2
      have ek : s.data.toList.take k = s.data.toList := List.take_of_length_le (by simp; omega)
      exact ⟨ret_two (by rw [ch1_int,ek]) (by rw [ch2_int,ek]),rfl⟩
theorem Tryz.info5 : (Tryz.prog.info? 5).map (fun i => (i.zero,i.size,i.bytes)) = some (some (.int .u8 0),1,1) := by kernel_rfl
def bv (b : UInt8) : Value := .int .u8 b.toNat
def OwnB (w : World) (B : Nat) (v : Value) (l : List UInt8) : Prop := w.ownsRow B 5 1 v l.length (l.map bv)
theorem ownB_none (w : World) (B : Nat) (hB : B <= w.heap.size) : OwnB (w.alloc (.cells #[] 5)) B (.slice (some ⟨w.heap.size,0,none⟩) 0 0) [] :=
  World.ownsRow_lit w #[] 0 hB (Nat.zero_le _) rfl
theorem ownB_one (w : World) (B : Nat) (hB : B <= w.heap.size) (b : UInt8) (n : Int) (hn : n = b.toNat) : OwnB (w.alloc (.cells #[.int .u8 n] 5)) B (.slice (some ⟨w.heap.size,0,none⟩) 1 1) [b] := by
  subst hn
  exact World.ownsRow_lit w #[bv b] 1 hB (by decide) rfl
theorem OwnB.alloc {w : World} {B : Nat} {v : Value} {l : List UInt8} (h : OwnB w B v l) (o : Obj) : OwnB (w.alloc o) B v l := World.ownsRow.alloc h o
theorem OwnB.drewN {w : World} {B : Nat} {v : Value} {l : List UInt8} (h : OwnB w B v l) (q : Nat) : OwnB (w.drewN q) B v l := h
theorem OwnB.str {w : World} {B : Nat} {v : Value} {l : List UInt8} (h : OwnB w B v l) (q : Nat) : (convert 114 9 v).run Tryz.prog (w.drewN q) = .ok (.string ⟨l.toArray⟩) (w.drewN q) := by
  have h0 := h
  rcases h.2 with ⟨rfl,hn⟩ | ⟨g,cap,cur,rfl,_,hg,_,_,_,htake⟩
  . have : l = [] := List.length_eq_zero_iff.1 hn
    subst this
    exact run_convert_bytes_nil (P := Tryz.prog) (w.drewN q) 114 5 Tryz.underlying114 Tryz.underlying5 0 0 9 Tryz.underlying9
  . refine run_convert_bytes_back (w.drewN q) 114 9 5 ⟨g,0,none⟩ cap l Tryz.underlying114 Tryz.underlying5 Tryz.underlying9 ?_
    intro j hj
    have := World.ownsRow.cellAt h0 j (by simpa using hj)
    rw [World.cell?_drewN]
    have e : (⟨g,0,none⟩ : Addr).add j = ⟨g,j,none⟩ := by simp [Addr.add]; exact fun h => h.symm
    rw [e,this]
    simp [hj,bv]
theorem wp_append_byte {ops : Array Oper} {rest : List Oper} {o : Oper} {a : Act} {Q : Exit -> Act -> World -> Prop} (hgd : o.guard = none) (s x : Operand)
    (ho : o.op = .call { callee := .builtin .append,args := #[s,x],argTypes := #[114,114] })
    (W : World) (B : Nat) (v : Value) (l : List UInt8) (b : UInt8) (n : Int) (hs : a.eval s = v) (hown : OwnB W B v l) (hx : a.eval x = .slice (some ⟨W.heap.size,0,none⟩) 1 1)
    (hb : n = b.toNat) (hlen : l.length <= 1000000) (hB : B <= W.heap.size)
    (h : ∀ v' w',OwnB w' B v' (l ++ [b]) -> Below B W w' -> wpList Tryz.prog ops Q rest (a.put o.dst v') w') :
    wpList Tryz.prog ops Q (o :: rest) a (W.alloc (.cells #[.int .u8 n] 5)) := by
  subst hb
  obtain ⟨i0,hi,hz0,hz1,hz2⟩ := info_parts Tryz.info5
  refine wpList_append_own _ hgd s x 114 ho B 5 i0 (.int .u8 0) 1 1 Tryz.underlying114 hi hz0 hz1 hz2 rfl (by decide) v l.length (l.map bv) hs (hown.alloc _) ⟨W.heap.size,0,none⟩ 1 1 [bv b] hx rfl (cell_one_new _ _ _) ?_ ?_ ?_ ?_ ?_
  . intro u hu; simp at hu; subst hu; rfl
  . unfold maxLen; omega
  . omega
  . simp; omega
  . intro v' w1 hown' hgrow _
    refine h v' w1 ?_ ?_
    . unfold OwnB
      simpa using hown'
    . exact ((Below.refl B W).alloc hB _).grown hgrow (by simp; omega) (fun k hk => (World.ownsRow.lt hown k hk).1)
theorem cell_two (w : World) (x y : Value) (t : TypeId) : ∀ j u,[x,y][j]? = some u -> (w.alloc (.cells #[x,y] t)).cell? ((⟨w.heap.size,0,none⟩ : Addr).add j) = some u := by
  intro j u hj
  match j,hj with
  | 0,hj => simp at hj; subst hj; simp [Addr.add]
  | 1,hj => simp at hj; subst hj; simp [Addr.add]
theorem wp_append_two {ops : Array Oper} {rest : List Oper} {o : Oper} {a : Act} {Q : Exit -> Act -> World -> Prop} (hgd : o.guard = none) (s x : Operand)
    (ho : o.op = .call { callee := .builtin .append,args := #[s,x],argTypes := #[114,114] })
    (W : World) (B : Nat) (v : Value) (l : List UInt8) (b c : UInt8) (hs : a.eval s = v) (hown : OwnB W B v l) (hx : a.eval x = .slice (some ⟨W.heap.size,0,none⟩) 2 2)
    (hlen : l.length <= 1000000) (hB : B <= W.heap.size)
    (h : ∀ v' w',OwnB w' B v' (l ++ [b,c]) -> Below B W w' -> wpList Tryz.prog ops Q rest (a.put o.dst v') w') :
    wpList Tryz.prog ops Q (o :: rest) a (W.alloc (.cells #[.int .u8 b.toNat,.int .u8 c.toNat] 5)) := by
  obtain ⟨i0,hi,hz0,hz1,hz2⟩ := info_parts Tryz.info5
  refine wpList_append_own _ hgd s x 114 ho B 5 i0 (.int .u8 0) 1 1 Tryz.underlying114 hi hz0 hz1 hz2 rfl (by decide) v l.length (l.map bv) hs (hown.alloc _) ⟨W.heap.size,0,none⟩ 2 2 [bv b,bv c] hx rfl (cell_two _ _ _ _) ?_ ?_ ?_ ?_ ?_
  . intro u hu; simp at hu; rcases hu with rfl | rfl <;> rfl
  . unfold maxLen; omega
  . omega
  . simp; omega
  . intro v' w1 hown' hgrow _
    refine h v' w1 ?_ ?_
    . unfold OwnB
      simpa using hown'
    . exact ((Below.refl B W).alloc hB _).grown hgrow (by simp; omega) (fun k hk => (World.ownsRow.lt hown k hk).1)
theorem size_of_len (l : List UInt8) : (⟨l.toArray⟩ : ByteArray).size = l.length := rfl
theorem spread_snoc (s : ByteArray) (k : Nat) (h : k < s.size) : Pt.spread (s.data.toList.take (k + 1)) = Pt.spread (s.data.toList.take k) ++ List.replicate (s[k].toNat / 16 + 1) (s[k] % 16) := by
  rw [take_snoc s k h]; simp [Pt.spread,Pt.ofRun]
theorem spread_len (s : ByteArray) (k : Nat) (h : k <= s.size) : (Pt.spread (s.data.toList.take k)).length <= 16 * k := by
  have := (Pt.wt_le (s.data.toList.take k)).2
  have e : (s.data.toList.take k).length = k := by simp; omega
  rw [e] at this
  exact this
theorem rep_snoc (l : List UInt8) (j : Nat) (c : UInt8) : l ++ (List.replicate j c ++ [c]) = l ++ List.replicate (j + 1) c := by
  rw [List.replicate_succ']
theorem ret_str {a b : List UInt8} (h : a = b) : Ending.returned (.string ⟨a.toArray⟩) = .returned (.string ⟨b.toArray⟩) := by rw [h]
set_option maxHeartbeats 400000 in
theorem spread_any (s : ByteArray) (w : World) (hs : s.size <= 1000) :
    Calls Tryz.prog 50 #[.string s] w fun e w' => e = .returned (.string ⟨(Pt.spread s.data.toList).toArray⟩) /\ Below w.heap.size w w' := by
  go_enter Tryz.func50,Tryz.ntmps50
  go_wp2
  go_loopw [3,4] (fun v i wr => ∃ k : Nat,k <= s.size /\ i = .int .i64 k /\ OwnB wr w.heap.size v (Pt.spread (s.data.toList.take k)) /\ Below w.heap.size w wr) (fun _ i _ => s.size - (intOf i).toNat)
  case atStart => exact ⟨0,Nat.zero_le _,rfl,ownB_none w _ (Nat.le_refl _),(Below.refl _ _).alloc (Nat.le_refl _) _⟩
  case round =>
    obtain ⟨k,hk,rfl,hown,hbel⟩ := hrel
    by_cases hlt : k < s.size
    . have hc : s[k].toNat < 256 := s[k].toNat_lt
      have hsn := hide (spread_snoc s k hlt)
      have hsl := spread_len s k hk
      generalize hl : Pt.spread (s.data.toList.take k) = l at hown hsl hsn
      clear hl
      go_wp2
      go_loopw [3,6] (fun v i wr => ∃ j : Nat,j <= s[k].toNat / 16 + 1 /\ i = .int .i64 j /\ OwnB wr w.heap.size v (l ++ List.replicate j (s[k] % 16)) /\ Below w.heap.size w wr) (fun _ i _ => 17 - (intOf i).toNat)
      case atStart => exact ⟨0,Nat.zero_le _,rfl,by simpa using hown,hbel⟩
      case round =>
        clear hown hbel
        obtain ⟨j,hj,rfl,hown,hbel⟩ := hrel
        have hsz := hbel.size
        have hlen : (l ++ List.replicate j (s[k] % 16)).length <= 1000000 := by simp; omega
        by_cases hjl : j < s[k].toNat / 16 + 1
        . go_wp2_with (at_builtin; refine wp_append_byte rfl (.tmp 25) (.tmp 30) rfl _ w.heap.size _ (l ++ List.replicate j (s[k] % 16)) (s[k] % 16) _ rfl hown rfl ?_ hlen hsz ?_)
          . simp
          . intro v' w1 hown' hbel'
            rw [rep_snoc] at hown'
            have hbel2 := hbel.trans hbel'
            clear hown hbel hbel'
            go_wp2
            go_roundw
            case rel => exact ⟨j + 1,by omega,by go_num,hown',hbel2⟩
            case measure => simp [intOf]; omega
        . go_wp2
          go_roundw
          case rel =>
            refine ⟨k + 1,by omega,by go_num,?_,hbel⟩
            rw [unhide hsn,show s[k].toNat / 16 + 1 = j from by omega]
            exact hown
          case measure => simp [intOf]; omega
    . have hcv := hown.str 0
      rw [World.drewN_zero] at hcv
      go_wp2
      go_ret
      exact ⟨ret_str (by rw [List.take_of_length_le (by simp; omega)]),hbel⟩
theorem runByte_int (n : Nat) (c : UInt8) (hn : n <= 15) (hc : c.toNat <= 15) : ((Pt.runByte n c).toNat : Int) = 16 * (n : Int) + c.toNat := by
  unfold Pt.runByte
  rw [UInt8.toNat_ofNat']
  omega
def Laid (s : ByteArray) (k : Nat) (l : List UInt8) : Prop := l ++ Pt.runs (s.data.toList.drop k) = 84 :: Pt.runs s.data.toList
theorem laid_start (s : ByteArray) : Laid s 0 [84] := rfl
theorem laid_step (s : ByteArray) (k : Nat) (h : k < s.size) (l : List UInt8) (hl : Laid s k l) :
    Laid s (k + (Pt.lead s[k] 15 (s.data.toList.drop (k + 1)) + 1)) (l ++ [Pt.runByte (Pt.lead s[k] 15 (s.data.toList.drop (k + 1))) s[k]]) := by
  unfold Laid at hl ⊢
  rw [<- hl,drop_cons s k h,Pt.runs_cons,List.drop_drop]
  simp [Nat.add_assoc,Nat.add_comm]
theorem laid_end (s : ByteArray) (k : Nat) (h : ¬ k < s.size) (l : List UInt8) (hl : Laid s k l) : l = 84 :: Pt.runs s.data.toList := by
  unfold Laid at hl
  rw [List.drop_of_length_le (by simp; omega)] at hl
  simpa [Pt.runs] using hl
theorem ret_str2 {a b : List UInt8} {n : Int} (h : a = b) : Ending.returned (.tuple #[.string ⟨a.toArray⟩,.int .i64 n]) = .returned (.tuple #[.string ⟨b.toArray⟩,.int .i64 n]) := by rw [h]
set_option maxHeartbeats 400000 in
theorem pack_no (s : ByteArray) (w : World) (hs : s.size <= maxLen) (h : Pt.okPic s.data.toList = false) :
    Calls Tryz.prog 51 #[.string s] w fun e w' => e = .returned (.tuple #[.string ⟨#[]⟩,.int .i64 5]) /\ w = w' := by
  go_enter Tryz.func51,Tryz.ntmps51
  go_wp2_with (go_at_call 81; refine (isPicture_any s _ hs).mono ?_; rintro e w' ⟨rfl,rfl⟩)
  go_ret2
  exact ⟨rfl,rfl⟩
set_option maxHeartbeats 800000 in
theorem pack_yes (s : ByteArray) (w : World) (h : Pt.okPic s.data.toList = true) :
    Calls Tryz.prog 51 #[.string s] w fun e w' => e = .returned (.tuple #[.string ⟨(Pt.body s.data.toList).toArray⟩,.int .i64 0]) /\ Below w.heap.size w w' := by
  obtain ⟨h64,hink⟩ := (Pt.okPic_iff _).1 h
  have hs64 : s.size = 64 := by simpa using h64
  have hs : s.size <= maxLen := by rw [hs64]; decide
  have hs' : s.size <= 1000 := by omega
  have HI := hide hink
  have H64 := hide hs64
  clear h64 hink hs64
  go_enter Tryz.func51,Tryz.ntmps51
  go_wp2_with (go_at_call 81; refine (isPicture_any s _ hs).mono ?_; rintro e w' ⟨rfl,rfl⟩)
  go_loopw [4,5,6] (fun v i _ wr => ∃ (k : Nat) (l : List UInt8),k <= s.size /\ i = .int .i64 k /\ l.length <= k + 1 /\ Hid (Laid s k l) /\ OwnB wr w.heap.size v l /\ Below w.heap.size w wr) (fun _ i _ _ => s.size - (intOf i).toNat)
  case atStart => exact ⟨0,[84],Nat.zero_le _,rfl,by simp,laid_start s,ownB_one w _ (Nat.le_refl _) 84 84 rfl,(Below.refl _ _).alloc (Nat.le_refl _) _⟩
  case round =>
    obtain ⟨k,l,hk,rfl,hlen,hL,hown,hbel⟩ := hrel
    have hsz := hbel.size
    by_cases hlt : k < s.size
    . have hc15 : s[k].toNat <= 15 := unhide HI _ (Array.mem_toList_iff.2 (Array.getElem_mem _))
      have hstep := hide (laid_step s k hlt l (unhide hL))
      have hcall := fun wx => runLength_any s k wx hs' hlt
      have hle := Pt.lead_le s[k] 15 (s.data.toList.drop (k + 1))
      rw [List.length_drop] at hle
      generalize Pt.lead s[k] 15 (s.data.toList.drop (k + 1)) = n at hstep hcall hle
      have hcall' := hide hcall
      clear hcall hL
      obtain ⟨hn15,hnl⟩ := hle
      have hnl' : k + 1 + n <= s.size := by simp at hnl; omega
      clear hnl
      go_wp2_with (first | (go_at_call 82; refine (unhide hcall' _).mono ?_; rintro e w1 ⟨rfl,q,hq⟩; subst hq) | (at_builtin; refine wp_append_byte rfl (.tmp 20) (.tmp 29) rfl _ w.heap.size _ l (Pt.runByte n s[k]) _ rfl (hown.drewN _) rfl ?_ ?_ ?_ ?_))
      . rw [runByte_int n _ hn15 hc15]; omega
      . omega
      . simpa using hsz
      . intro v' w1 hown' hbel'
        have hbel2 : Below w.heap.size w w1 := (below_drewN hbel _).trans hbel'
        clear hown hbel hbel'
        go_wp2
        go_roundw
        case rel => exact ⟨k + (n + 1),_,by omega,by go_num,by simp; omega,hstep,hown',hbel2⟩
        case measure => simp [intOf]; omega
    . have hE := laid_end s k hlt l (unhide hL)
      clear hL
      have hE' := hide hE
      clear hE
      go_wp2_with (first | (go_at_call 83; refine (checks_any s _ (unhide H64)).mono ?_; rintro e w1 ⟨rfl,rfl⟩) | (at_builtin; refine wp_append_two rfl (.tmp 39) (.tmp 42) rfl _ w.heap.size _ l (Pt.ch1 s.data.toList) (Pt.ch2 s.data.toList) rfl hown rfl ?_ ?_ ?_))
      . omega
      . exact hsz
      . intro v' w1 hown' hbel'
        have hcv := hown'.str 0
        rw [World.drewN_zero] at hcv
        have hbel2 : Below w.heap.size w w1 := hbel.trans hbel'
        clear hown hbel hbel'
        go_wp2
        go_ret2
        exact ⟨ret_str2 (by rw [unhide hE']; rfl),hbel2⟩
theorem mid_extract (s : ByteArray) (h : 3 <= s.size) : (s.extract 1 (s.size - 2)).data.toList = Pt.mid s.data.toList := by
  rw [Lib.extract_data]
  unfold Pt.mid
  rw [show s.data.toList.length = s.size from by simp,show s.size - 2 - 1 = s.size - 3 from by omega]
set_option maxHeartbeats 400000 in
theorem unpack_short (s : ByteArray) (w : World) (hs : s.size <= maxLen) (h : s.size < 7 \/ 67 < s.size) :
    Calls Tryz.prog 27 #[.string s] w fun e w' => e = .returned (.tuple #[.string ⟨#[]⟩,.int .i64 6]) /\ w = w' := by
  unfold maxLen at hs
  rcases h with h | h
  . go_enter Tryz.func27,Tryz.ntmps27
    go_wp2_with fail
    go_ret2
    exact ⟨rfl,rfl⟩
  . have h' : ¬ s.size < 7 := by omega
    go_enter Tryz.func27,Tryz.ntmps27
    go_wp2_with fail
    go_ret2
    exact ⟨rfl,rfl⟩
theorem okBody_no1 (l : List UInt8) (h : Pt.okPic (Pt.spread (Pt.mid l)) = false) : Pt.okBody l = false := by unfold Pt.okBody; rw [h]; simp
theorem okBody_no2 (l : List UInt8) (h : ¬ Pt.body (Pt.spread (Pt.mid l)) = l) : Pt.okBody l = false := by unfold Pt.okBody; simp [h]
theorem okBody_yes (l : List UInt8) (h : 7 <= l.length /\ l.length <= 67) (h1 : Pt.okPic (Pt.spread (Pt.mid l)) = true) (h2 : Pt.body (Pt.spread (Pt.mid l)) = l) : Pt.okBody l = true := (Pt.okBody_iff l).2 ⟨h,h1,h2⟩
theorem spread_cap (l : List UInt8) (h : l.length <= 67) : (Pt.spread (Pt.mid l)).length <= 1072 := by
  have := (Pt.wt_le (Pt.mid l)).2
  have e : (Pt.mid l).length <= 67 := by unfold Pt.mid; simp; omega
  unfold Pt.wt at this
  omega
set_option maxHeartbeats 400000 in
theorem unpack_mid (s : ByteArray) (w : World) (h7 : 7 <= s.size) (h67 : s.size <= 67) :
    Calls Tryz.prog 27 #[.string s] w fun e w' => (Pt.okBody s.data.toList = true /\ e = .returned (.tuple #[.string ⟨(Pt.spread (Pt.mid s.data.toList)).toArray⟩,.int .i64 0]) \/ Pt.okBody s.data.toList = false /\ e = .returned (.tuple #[.string ⟨#[]⟩,.int .i64 6])) /\ Below w.heap.size w w' := by
  have hm := hide (mid_extract s (by omega))
  have hcap := spread_cap s.data.toList (by simp; omega)
  have n1 := hide (okBody_no1 s.data.toList)
  have n2 := hide (okBody_no2 s.data.toList)
  have n3 := hide (okBody_yes s.data.toList (by simp; omega))
  have hsl : s.toList = s.data.toList := ByteArray.toList_eq s
  have hle : (s.extract 1 (s.size - 2)).size <= 1000 := by simp; omega
  go_enter Tryz.func27,Tryz.ntmps27
  go_wp2_with fail
  refine (spread_any _ _ hle).mono ?_
  rintro e w1 ⟨rfl,hb1⟩
  rw [unhide hm]
  generalize hM : Pt.spread (Pt.mid s.data.toList) = m at hcap n1 n2 n3
  have HM := hide hM
  clear hM hm hle
  have hms : (⟨m.toArray⟩ : ByteArray).size <= maxLen := by rw [size_of_len]; unfold maxLen; omega
  cases hp : Pt.okPic m with
  | false =>
    have hb : Pt.okBody s.data.toList = false := unhide n1 hp
    have HP := hide hp
    clear hp
    go_wp2_with fail
    refine (pack_no ⟨m.toArray⟩ _ hms (by simpa using unhide HP)).mono ?_
    rintro e w2 ⟨rfl,rfl⟩
    go_wp2_with fail
    go_ret2
    exact ⟨.inr ⟨hb,rfl⟩,hb1⟩
  | true =>
    have HP := hide hp
    clear hp
    go_wp2_with fail
    refine (pack_yes ⟨m.toArray⟩ _ (by simpa using unhide HP)).mono ?_
    rintro e w2 ⟨rfl,hb2⟩
    have hb3 := hb1.trans (hb2.mono hb1.size)
    clear hb1 hb2
    by_cases hq : Pt.body m = s.data.toList
    . have hB : Pt.okBody s.data.toList = true := unhide n3 (unhide HP) hq
      have hbe : (Pt.body m == s.data.toList) = true := by simp [hq]
      clear hq
      go_wp2_with fail
      go_ret2
      exact ⟨.inl ⟨hB,ret_str2 (unhide HM).symm⟩,hb3⟩
    . have hB : Pt.okBody s.data.toList = false := unhide n2 hq
      have hbe : (Pt.body m == s.data.toList) = false := by simp [hq]
      clear hq
      go_wp2_with fail
      go_ret2
      exact ⟨.inr ⟨hB,rfl⟩,hb3⟩
theorem okBody_short (l : List UInt8) (h : l.length < 7 \/ 67 < l.length) : Pt.okBody l = false := by
  rw [Bool.eq_false_iff]
  intro h'
  have := ((Pt.okBody_iff l).1 h').1
  omega
theorem unpack_any (s : ByteArray) (w : World) (hs : s.size <= maxLen) :
    Calls Tryz.prog 27 #[.string s] w fun e w' => (Pt.okBody s.data.toList = true /\ e = .returned (.tuple #[.string ⟨(Pt.spread (Pt.mid s.data.toList)).toArray⟩,.int .i64 0]) \/ Pt.okBody s.data.toList = false /\ e = .returned (.tuple #[.string ⟨#[]⟩,.int .i64 6])) /\ Below w.heap.size w w' := by
  by_cases h : 7 <= s.size /\ s.size <= 67
  . exact unpack_mid s w h.1 h.2
  . refine (unpack_short s w hs (by omega)).mono ?_
    rintro e w' ⟨rfl,rfl⟩
    exact ⟨.inr ⟨okBody_short _ (by simp; omega),rfl⟩,Below.refl _ _⟩
theorem unpack_yes (s : ByteArray) (w : World) (hs : s.size <= maxLen) (h : Pt.okBody s.data.toList = true) :
    Calls Tryz.prog 27 #[.string s] w fun e w' => e = .returned (.tuple #[.string ⟨(Pt.spread (Pt.mid s.data.toList)).toArray⟩,.int .i64 0]) /\ Below w.heap.size w w' := by
  refine (unpack_any s w hs).mono ?_
  rintro e w' ⟨⟨_,rfl⟩ | ⟨h',_⟩,hb⟩
  . exact ⟨rfl,hb⟩
  . rw [h] at h'; cases h'
end Go.Proofs.YtpopchckldbhdaaGreatDoor.Pk
namespace Go.Proofs.YtpopchckldbhdaaGreatDoor
open Go.RowKit
set_option maxRecDepth 20000
def bodyB (FL : List Ft) (k : K4) : ByteArray := ⟨(Pk.Pt.body (tile FL k.l k.z k.x k.y).data.toList).toArray⟩
theorem tile_list (FL : List Ft) (l z x y : Int) : (tile FL l z x y).data.toList = pic (gf FL) FL.length l z x y 64 := by unfold tile; rfl
theorem okTile {FL : List Ft} (hr : ∀ i,i < FL.length -> Rt (gf FL i)) (l z x y : Int) : Pk.Pt.okPic (tile FL l z x y).data.toList = true := by
  rw [tile_list,Pk.Pt.okPic_iff]
  refine ⟨pic_len _ _ _ _ _ _ _,fun c hc => ?_⟩
  unfold pic at hc
  obtain ⟨p,_,rfl⟩ := List.mem_map.1 hc
  have hall := allR_of hr
  have h1 := ink_byte hall l z x y p
  have h2 := top_ink (allR_at hall) l z (un z) (cen x (un z) ((p : Int) % 8)) (cen y (un z) ((p : Int) / 8))
  have h3 : ink (gf FL) FL.length l z x y p <= 15 := h2.2
  omega
theorem bodyB_size {FL : List Ft} (hr : ∀ i,i < FL.length -> Rt (gf FL i)) (k : K4) : 7 <= (bodyB FL k).size /\ (bodyB FL k).size <= 67 := Pk.Pt.body_len _ (okTile hr k.l k.z k.x k.y)
def tileR (R LS : List Ft) (reads : Int) (k : K4) : Tile := ⟨k,bodyB R k,tagB k (stK reads k LS)⟩
set_option maxHeartbeats 6400000 in
theorem paintTile_any (fb : Nat) (X : FV) (ver : Int) (sl pv : Value) (LS PL R : List Ft) (g : Nat) (bl bz bx by' reads left : Int) (rv : Value) (l z x y : Int) (w : World) (hf : FBlk w fb X) (hs : StP w X.sb 0 ver sl pv LS PL) (hl : LS.length <= 1000) (hk : KOk ⟨l,z,x,y⟩) (hv : 0 <= reads /\ reads <= ver) (hver : ver <= 100) (hg : Glb w)
    (hu : w.heap[g]? = some (.cells #[.int .i64 bl,.int .i64 bz,.int .i64 bx,.int .i64 by',.int .i64 reads,.int .i64 left,rv] 102 (0,0))) (hR : FsAt w rv R.length (gf R)) (hR40 : R.length <= 40) (hRt : ∀ i,i < R.length -> Rt (gf R i)) :
    Calls Tryz.prog 108 #[.pointer (some ⟨fb,0,none⟩),.pointer (some ⟨g,0,none⟩),.agg #[.int .i64 l,.int .i64 z,.int .i64 x,.int .i64 y]] w fun e w' => e = .returned (.tuple #[.agg (tv (some (tileR R LS reads ⟨l,z,x,y⟩))),.int .i64 0]) /\ Below w.heap.size w w' := by
  have hltg := blk_lt hu
  have hltf := blk_lt hf
  have hb0 := (Below.refl w.heap.size w).alloc (Nat.le_refl _) (.cells #[.int .i64 l,.int .i64 z,.int .i64 x,.int .i64 y] 39)
  have hb1 := hb0.alloc (by simp) (.cells (tv none) 136)
  have hz1 : ((w.alloc (.cells #[.int .i64 l,.int .i64 z,.int .i64 x,.int .i64 y] 39)).alloc (.cells (tv none) 136)).heap.size = w.heap.size + 2 := by simp
  have hA := (heap_alloc_old (w.alloc (.cells #[.int .i64 l,.int .i64 z,.int .i64 x,.int .i64 y] 39)) (.cells (tv none) 136) (show w.heap.size < _ by simp)).trans (heap_alloc_new w (.cells #[.int .i64 l,.int .i64 z,.int .i64 x,.int .i64 y] 39 (0,0)))
  have hB := heap_alloc_new (w.alloc (.cells #[.int .i64 l,.int .i64 z,.int .i64 x,.int .i64 y] 39)) (.cells (tv none) 136 (0,0))
  rw [show (w.alloc (.cells #[.int .i64 l,.int .i64 z,.int .i64 x,.int .i64 y] 39)).heap.size = w.heap.size + 1 by simp] at hB
  have he := hk.err
  dsimp only at he
  have hu1 := blk_on hu hb1
  have hok := okTile hRt l z x y
  have hP : ∀ W,Below ((w.alloc (.cells #[.int .i64 l,.int .i64 z,.int .i64 x,.int .i64 y] 39)).alloc (.cells (tv none) 136)).heap.size ((w.alloc (.cells #[.int .i64 l,.int .i64 z,.int .i64 x,.int .i64 y] 39)).alloc (.cells (tv none) 136)) W -> Calls Tryz.prog 28 #[rv,.agg #[.int .i64 l,.int .i64 z,.int .i64 x,.int .i64 y]] W fun e w' => e = .returned (.tuple #[.string (tile R l z x y),.int .i64 0]) /\ Below W.heap.size W w' := fun W h => paint_tile he hR40 hRt rv W ((hR.on hb1).on h)
  have h6 : ∀ W,Below ((w.alloc (.cells #[.int .i64 l,.int .i64 z,.int .i64 x,.int .i64 y] 39)).alloc (.cells (tv none) 136)).heap.size ((w.alloc (.cells #[.int .i64 l,.int .i64 z,.int .i64 x,.int .i64 y] 39)).alloc (.cells (tv none) 136)) W -> W.cell? ⟨g,6,none⟩ = some rv := fun W h => (blk_cells (blk_on hu1 h) 6).trans rfl
  have hK : ∀ W,Below ((w.alloc (.cells #[.int .i64 l,.int .i64 z,.int .i64 x,.int .i64 y] 39)).alloc (.cells (tv none) 136)).heap.size ((w.alloc (.cells #[.int .i64 l,.int .i64 z,.int .i64 x,.int .i64 y] 39)).alloc (.cells (tv none) 136)) W -> W.rangeAt w.heap.size 0 #[.int .i64 l,.int .i64 z,.int .i64 x,.int .i64 y].toList := fun W h => rng_blk (blk_on hA h)
  obtain ⟨ra,rn,rc,hrv⟩ : ∃ a n c,rv = .slice a n c := by obtain ⟨a1,a2,a3,_⟩ := hR; exact ⟨_,_,_,a3⟩
  subst hrv
  have HF := hide hf
  have HS := hide hs
  have HG := hide hg
  have HU := hide hu
  have HA := hide hA
  have HB := hide hB
  have HB1 := hide hb1
  have HKO := hide hk
  have HBD : Hid ((⟨(Pk.Pt.body (tile R l z x y).data.toList).toArray⟩ : ByteArray) = bodyB R ⟨l,z,x,y⟩) := rfl
  clear hf hs hg hu hA hB hb0 hb1 hu1 hk hR he
  go_enter Tryz.func108,Tryz.ntmps108
  go_wp2_with fail
  refine region_bq (by kernel_rfl) (by kernel_rfl) ?_
  refine q_move rfl _ rfl (.pointer (some ⟨g,0,none⟩)) rfl ?_
  simp only [Act.put,qA,qB,qC]
  refine q_val rfl (.pointer (some ⟨g,0,none⟩)) (fun w' hw' => by simp [go_sem]) ?_
  simp only [Act.put,qA,qB,qC]
  refine q_val rfl (.pointer (some ⟨g,6,none⟩)) (fun w' hw' => by simp [go_sem]) ?_
  simp only [Act.put,qA,qB,qC]
  refine q_val rfl (.slice ra rn rc) (fun w' hw' => by simp [go_sem,h6 w' hw']) ?_
  simp only [Act.put,qA,qB,qC]
  refine q_load rfl 39 _ rfl (w.heap.size) (0) rfl (#[.int .i64 l,.int .i64 z,.int .i64 x,.int .i64 y]) _ Tryz.underlying39 rfl (sz39 _ _ _ _) (hK) ?_
  simp only [Act.put,qA,qB,qC]
  refine q_callC rfl 28 (#[.slice ra rn rc,.agg #[.int .i64 l,.int .i64 z,.int .i64 x,.int .i64 y]]) (fun _ => by simp [go_sem]) (.tuple #[.string (tile R l z x y),.int .i64 0]) (hP) ?_
  simp only [Act.put,qA,qB,qC]
  refine q_move rfl _ rfl (.tuple #[.string (tile R l z x y),.int .i64 0]) rfl ?_
  simp only [Act.put,qA,qB,qC]
  refine q_val rfl (.string (tile R l z x y)) (fun w' hw' => by simp [go_sem]) ?_
  simp only [Act.put,qA,qB,qC]
  refine q_val rfl (.int .i64 0) (fun w' hw' => by simp [go_sem]) ?_
  simp only [Act.put,qA,qB,qC]
  refine q_assign rfl _ rfl (.string (tile R l z x y)) rfl ?_
  simp only [Act.put,qA,qB,qC]
  refine q_assign rfl _ rfl (.int .i64 0) rfl ?_
  simp only [Act.put,qA,qB,qC]
  refine wpQuiet_nil ?_
  intro w2 hw2
  have hA2 := blk_on (unhide HA) hw2
  have hB2 := blk_on (unhide HB) hw2
  have hb2 := (unhide HB1).trans (hw2.mono (unhide HB1).size)
  have PK := Pk.pack_yes (tile R l z x y) w2 hok
  rw [unhide HBD] at PK
  have HA2 := hide hA2
  have HB2 := hide hB2
  have HBB2 := hide hb2
  clear hw2 hP h6 hK hA2 hB2 hb2
  go_wp2_with fail
  refine PK.mono ?_
  rintro e w3 ⟨rfl,hb3⟩
  have hA3 := blk_on (unhide HA2) hb3
  have hB3 := blk_on (unhide HB2) hb3
  have hbb3 := (unhide HBB2).trans (hb3.mono (unhide HBB2).size)
  have hu3 := blk_on (unhide HU) hbb3
  have hf3 := blk_on (unhide HF) hbb3
  have hs3 := (unhide HS).on hbb3
  have hg3 := (unhide HG).on hbb3
  have TG : ∀ W,Below w3.heap.size w3 W -> Calls Tryz.prog 96 #[.pointer (some ⟨fb,0,none⟩),.int .i64 reads,.agg #[.int .i64 l,.int .i64 z,.int .i64 x,.int .i64 y]] W fun e w' => e = .returned (.tuple #[.string (tagB ⟨l,z,x,y⟩ (stK reads ⟨l,z,x,y⟩ LS)),.int .i64 0]) /\ Below W.heap.size W w' := fun W h => tagAt_any fb X ver reads sl pv LS PL l z x y W (blk_on hf3 h) (hs3.on h) hl (unhide HKO) hv hver (hg3.on h)
  have h4 : ∀ W,Below w3.heap.size w3 W -> W.cell? ⟨g,4,none⟩ = some (.int .i64 reads) := fun W h => (blk_cells (blk_on hu3 h) 4).trans rfl
  have hK3 : ∀ W,Below w3.heap.size w3 W -> W.rangeAt w.heap.size 0 #[.int .i64 l,.int .i64 z,.int .i64 x,.int .i64 y].toList := fun W h => rng_blk (blk_on hA3 h)
  have HA3 := hide hA3
  have HB3 := hide hB3
  have HBB3 := hide hbb3
  clear hb3 PK hA3 hB3 hbb3 hu3 hf3 hs3 hg3 hok
  go_wp2_with fail
  refine region_bq (by kernel_rfl) (by kernel_rfl) ?_
  refine q_move rfl _ rfl (.pointer (some ⟨fb,0,none⟩)) rfl ?_
  simp only [Act.put,qA,qB,qC]
  refine q_move rfl _ rfl (.pointer (some ⟨g,0,none⟩)) rfl ?_
  simp only [Act.put,qA,qB,qC]
  refine q_val rfl (.pointer (some ⟨g,0,none⟩)) (fun w' hw' => by simp [go_sem]) ?_
  simp only [Act.put,qA,qB,qC]
  refine q_val rfl (.pointer (some ⟨g,4,none⟩)) (fun w' hw' => by simp [go_sem]) ?_
  simp only [Act.put,qA,qB,qC]
  refine q_val rfl (.int .i64 reads) (fun w' hw' => by simp [go_sem,h4 w' hw']) ?_
  simp only [Act.put,qA,qB,qC]
  refine q_load rfl 39 _ rfl (w.heap.size) (0) rfl (#[.int .i64 l,.int .i64 z,.int .i64 x,.int .i64 y]) _ Tryz.underlying39 rfl (sz39 _ _ _ _) (hK3) ?_
  simp only [Act.put,qA,qB,qC]
  refine q_callC rfl 96 (#[.pointer (some ⟨fb,0,none⟩),.int .i64 reads,.agg #[.int .i64 l,.int .i64 z,.int .i64 x,.int .i64 y]]) (fun _ => by simp [go_sem]) (.tuple #[.string (tagB ⟨l,z,x,y⟩ (stK reads ⟨l,z,x,y⟩ LS)),.int .i64 0]) (TG) ?_
  simp only [Act.put,qA,qB,qC]
  refine q_move rfl _ rfl (.tuple #[.string (tagB ⟨l,z,x,y⟩ (stK reads ⟨l,z,x,y⟩ LS)),.int .i64 0]) rfl ?_
  simp only [Act.put,qA,qB,qC]
  refine q_val rfl (.string (tagB ⟨l,z,x,y⟩ (stK reads ⟨l,z,x,y⟩ LS))) (fun w' hw' => by simp [go_sem]) ?_
  simp only [Act.put,qA,qB,qC]
  refine q_val rfl (.int .i64 0) (fun w' hw' => by simp [go_sem]) ?_
  simp only [Act.put,qA,qB,qC]
  refine q_assign rfl _ rfl (.string (tagB ⟨l,z,x,y⟩ (stK reads ⟨l,z,x,y⟩ LS))) rfl ?_
  simp only [Act.put,qA,qB,qC]
  refine q_assign rfl _ rfl (.int .i64 0) rfl ?_
  simp only [Act.put,qA,qB,qC]
  refine wpQuiet_nil ?_
  intro w2 hw2
  have hA4 := blk_on (unhide HA3) hw2
  have hB4 := blk_on (unhide HB3) hw2
  have hbb4 := (unhide HBB3).trans (hw2.mono (unhide HBB3).size)
  have hrg4 : w2.rangeAt w.heap.size 0 #[.int .i64 l,.int .i64 z,.int .i64 x,.int .i64 y].toList := rng_blk hA4
  have hS4 := setRow_heap _ _ _ (tv (some (tileR R LS reads ⟨l,z,x,y⟩))) _ _ hB4
  have HS4 := hide hS4
  have HB5 := hide (below_setRow hbb4 (show w.heap.size <= w.heap.size + 1 by omega) (tv (some (tileR R LS reads ⟨l,z,x,y⟩))))
  have hbt : ∀ (A : Act) (o : Oper) (p q r : Operand),o.op = .build 136 #[(0,p),(1,q),(2,r)] -> A.eval p = .agg #[.int .i64 l,.int .i64 z,.int .i64 x,.int .i64 y] -> A.eval q = .string (bodyB R ⟨l,z,x,y⟩) -> A.eval r = .string (tagB ⟨l,z,x,y⟩ (stK reads ⟨l,z,x,y⟩ LS)) -> ∀ W,(execOp A.eval o).run Tryz.prog W = .ok (.value (.agg (tv (some (tileR R LS reads ⟨l,z,x,y⟩))))) W := by
    intro A o p q r ho hp hq hr W
    have hb := run_build (P := Tryz.prog) W 136 #[(0,.agg #[.int .i64 l,.int .i64 z,.int .i64 x,.int .i64 y]),(1,.string (bodyB R ⟨l,z,x,y⟩)),(2,.string (tagB ⟨l,z,x,y⟩ (stK reads ⟨l,z,x,y⟩ LS)))] (tv (some (tileR R LS reads ⟨l,z,x,y⟩))) (by kernel_rfl)
    unfold execOp
    simp [ho,hp,hq,hr,hb]
  clear hw2 hA4 hbb4 TG h4 hK3 hS4
  go_wp2_with (first | refine ldG 39 #[.int .i64 l,.int .i64 z,.int .i64 x,.int .i64 y] Tryz.underlying39 rfl (sz39 _ _ _ _) w.heap.size 0 hrg4 rfl _ rfl rfl ?_ | refine wlV _ _ (hbt _ _ _ _ _ rfl rfl rfl rfl _) rfl ?_ | refine stG 136 (tv (some (tileR R LS reads ⟨l,z,x,y⟩))) (tv none) (sz136 _) (tv_one _) rfl (w.heap.size + 1) hB4 rfl _ _ rfl rfl rfl ?_)
  refine bodyPost_ret (v := .tuple #[.agg (tv (some (tileR R LS reads ⟨l,z,x,y⟩))),.int .i64 0]) (rct Tryz.results108 _ _ (w.heap.size + 1) 136 (tv (some (tileR R LS reads ⟨l,z,x,y⟩))) (0,0) _ (.int .i64 0) rfl rfl (unhide HS4) Tryz.underlying136 rfl (sz136 _)) rfl ⟨rfl,unhide HB5⟩
theorem map_snoc {α β : Type} {l : List α} {k : Nat} {a : α} (f : α -> β) (h : l[k]? = some a) : (l.take (k + 1)).map f = (l.take k).map f ++ [f a] := by rw [take_succ h,List.map_append]; rfl
theorem keys_len (b : K4) : b.keys.length <= 4 := by unfold K4.keys; split <;> simp
set_option maxHeartbeats 6400000 in
theorem paint_any (fb : Nat) (X : FV) (ver : Int) (sl pv : Value) (LS PL R : List Ft) (g : Nat) (bl bz bx by' reads left : Int) (rv : Value) (w : World) (hf : FBlk w fb X) (hs : StP w X.sb 0 ver sl pv LS PL) (hl : LS.length <= 1000) (hk : ∀ k ∈ (⟨bl,bz,bx,by'⟩ : K4).keys,KOk k) (hx : 0 <= bx /\ bx <= 4194304) (hy : 0 <= by' /\ by' <= 4194304) (hv : 0 <= reads /\ reads <= ver) (hver : ver <= 100) (hg : Glb w)
    (hu : w.heap[g]? = some (.cells #[.int .i64 bl,.int .i64 bz,.int .i64 bx,.int .i64 by',.int .i64 reads,.int .i64 left,rv] 102 (0,0))) (hR : FsAt w rv R.length (gf R)) (hR40 : R.length <= 40) (hRt : ∀ i,i < R.length -> Rt (gf R i)) :
    Calls Tryz.prog 77 #[.pointer (some ⟨fb,0,none⟩),.pointer (some ⟨g,0,none⟩)] w fun e w' => (∃ v,e = .returned v /\ OwnR rTile 136 w' v ((⟨bl,bz,bx,by'⟩ : K4).keys.map (tileR R LS reads)) /\ ∀ g,v.ownBlock = some g -> w.heap.size <= g) /\ Below w.heap.size w w' := by
  have hltg := blk_lt hu
  have hb0 := (Below.refl w.heap.size w).alloc (Nat.le_refl _) (.cells #[] 136)
  have hN := ownR_lit (R := rTile) (T := 136) w [] #[] rfl (by simp)
  have hu1 := blk_on hu hb0
  have hrgb : (w.alloc (.cells #[] 136)).rangeAt g 0 #[.int .i64 bl,.int .i64 bz,.int .i64 bx,.int .i64 by'].toList := by
    intro j v hv
    rw [blk_cells hu1,Nat.zero_add]
    rcases j with _ | _ | _ | _ | j
    . exact hv
    . exact hv
    . exact hv
    . exact hv
    . simp at hv
  have KO := keysOf_any bl bz bx by' (w.alloc (.cells #[] 136)) hx hy
  have HF := hide hf
  have HS := hide hs
  have HG := hide hg
  have HU := hide hu
  have HR := hide hR
  have HK := hide hk
  have HN := hide hN
  have HB0 := hide hb0
  clear hf hs hg hu hN hb0 hu1 hk hR
  go_enter Tryz.func77,Tryz.ntmps77
  go_wp2_with (refine ldG 39 #[.int .i64 bl,.int .i64 bz,.int .i64 bx,.int .i64 by'] Tryz.underlying39 rfl (sz39 _ _ _ _) g 0 hrgb rfl _ rfl rfl ?_)
  refine KO.mono ?_
  rintro e w2 ⟨⟨kv,rfl,hokv,hfrk⟩,hb2⟩
  have hb02 := (unhide HB0).trans (hb2.mono (by simp))
  have hN2 := (unhide HN).on hb2
  have HN2 := hide hN2
  have HB02 := hide hb02
  have hkl := keys_len ⟨bl,bz,bx,by'⟩
  generalize hKS : K4.keys ⟨bl,bz,bx,by'⟩ = ks at hkl hokv HK ⊢
  obtain ⟨ka,kc,rfl,_⟩ := hokv.at
  have HKV := hide hokv
  have HKS := hide hKS
  clear KO hrgb hokv hfrk hb2 hN2 hb02 hKS
  go_wp2_with fail
  go_loopw [5,7,8,9] (fun v i _ _ wr => ∃ k : Nat,k <= ks.length /\ i = .int .i64 k /\ OwnR rTile 136 wr v ((ks.take k).map (tileR R LS reads)) /\ Hid (∀ g,v.ownBlock = some g -> w.heap.size <= g) /\ OwnR rKey 39 wr (.slice ka ks.length kc) ks /\ Below w.heap.size w wr) (fun _ i _ _ _ => ks.length - (intOf i).toNat)
  case atStart => exact ⟨0,by omega,rfl,by simpa using unhide HN2,hide (fun g hg => by simp [Value.ownBlock] at hg; omega),unhide HKV,unhide HB02⟩
  case round =>
    obtain ⟨k,hk,rfl,hown,hfr,hbk,hb⟩ := hrel
    have hsz := hb.size
    by_cases hlt : k < ks.length
    . have hkn : (k : Int) < ks.length := by omega
      obtain ⟨oa',kc',ek,_,_,hkc⟩ := hbk.at
      obtain ⟨b,off,e1,hbl,hc0⟩ := hkc (by omega)
      cases ek
      subst e1
      obtain ⟨⟨rl,rz,rx,ry⟩,ht⟩ : ∃ t,ks[k]? = some t := ⟨_,List.getElem?_eq_getElem hlt⟩
      have hko := unhide HK _ (List.mem_of_getElem? ht)
      have hrg : wr.rangeAt b (off + k * 4) #[.int .i64 rl,.int .i64 rz,.int .i64 rx,.int .i64 ry].toList := AtR.key hc0 ht
      have PT := paintTile_any fb X ver sl pv LS PL R g bl bz bx by' reads left rv rl rz rx ry wr (blk_on (unhide HF) hb) ((unhide HS).on hb) hl hko hv hver ((unhide HG).on hb) (blk_on (unhide HU) hb) ((unhide HR).on hb) hR40 hRt
      have hms := map_snoc (tileR R LS reads) ht
      have HO := hide hown
      have HB := hide hb
      have HBK := hide hbk
      clear hown hb hbk hc0 hkc
      go_wp2_with (refine ldG 39 #[.int .i64 rl,.int .i64 rz,.int .i64 rx,.int .i64 ry] Tryz.underlying39 rfl (sz39 _ _ _ _) b (off + k * 4) hrg rfl _ rfl rfl ?_)
      refine PT.mono ?_
      rintro e w3 ⟨rfl,hb3⟩
      have hT0 := heap_alloc_new w3 (.cells (tv none) 136 (0,0))
      have hbT := (Below.refl w3.heap.size w3).alloc (Nat.le_refl _) (.cells (tv none) 136)
      have hS1 := setRow_heap _ _ _ (tv (some (tileR R LS reads ⟨rl,rz,rx,ry⟩))) _ _ hT0
      have hbS := below_setRow hbT (Nat.le_refl _) (tv (some (tileR R LS reads ⟨rl,rz,rx,ry⟩)))
      have hown4 := ((unhide HO).on hb3).on hbS
      have hB4 := ((unhide HB).trans (hb3.mono (unhide HB).size)).trans (hbS.mono (by have := hb3.size; omega))
      have hBK4 := ((unhide HBK).on hb3).on hbS
      have hzS : ((w3.alloc (.cells (tv none) 136)).setRow w3.heap.size (tv (some (tileR R LS reads ⟨rl,rz,rx,ry⟩)))).heap.size = w3.heap.size + 1 := by simp [World.setRow]
      have hz3 : wr.heap.size <= w3.heap.size := hb3.size
      have hrg4 : ((w3.alloc (.cells (tv none) 136)).setRow w3.heap.size (tv (some (tileR R LS reads ⟨rl,rz,rx,ry⟩)))).rangeAt w3.heap.size 0 (tv (some (tileR R LS reads ⟨rl,rz,rx,ry⟩))).toList := rng_blk hS1
      have hat := at_new rTile 136 ((w3.alloc (.cells (tv none) 136)).setRow w3.heap.size (tv (some (tileR R LS reads ⟨rl,rz,rx,ry⟩)))) (tileR R LS reads ⟨rl,rz,rx,ry⟩) (tv (some (tileR R LS reads ⟨rl,rz,rx,ry⟩))) rfl
      have hbA := (Below.refl ((w3.alloc (.cells (tv none) 136)).setRow w3.heap.size (tv (some (tileR R LS reads ⟨rl,rz,rx,ry⟩)))).heap.size ((w3.alloc (.cells (tv none) 136)).setRow w3.heap.size (tv (some (tileR R LS reads ⟨rl,rz,rx,ry⟩))))).alloc (Nat.le_refl _) (.cells (tv (some (tileR R LS reads ⟨rl,rz,rx,ry⟩))) 136)
      have hoA := hown4.on hbA
      obtain ⟨v5,w5,r1,r2,r3,r4⟩ := apTile hoA hat (by simp; omega)
      rw [<- hms] at r2
      have HO5 := hide r2
      have hszz := hB4.size
      have HB5 := hide ((hB4.alloc hszz (.cells (tv (some (tileR R LS reads ⟨rl,rz,rx,ry⟩))) 136)).grown r3 (by simp [hzS]; omega) (fun q hq => unhide hfr q hq))
      have hBKA := hBK4.on hbA
      have HBK5 := hide (hBKA.same (w' := w5) fun q hq => r3.block q (hBKA.lt hq) (fun z => by
        obtain ⟨c1,d1⟩ := hoA.ty z.symm
        exact own_ne hBKA d1 (by decide) q hq rfl))
      have HFR := hide (fresh_of (unhide hfr) r4 (by simp [hzS]; omega))
      clear hb3 PT hbT hS1 hbS hown4 hB4 hBK4 hBKA hat hbA hoA r2 r3 r4 hms hrg hszz hzS hz3
      go_wp2_with (first | refine stG 136 (tv (some (tileR R LS reads ⟨rl,rz,rx,ry⟩))) (tv none) (sz136 _) (tv_one _) rfl w3.heap.size hT0 rfl _ _ rfl rfl rfl ?_ | refine ldG 136 (tv (some (tileR R LS reads ⟨rl,rz,rx,ry⟩))) Tryz.underlying136 rfl (sz136 _) w3.heap.size 0 hrg4 rfl _ rfl rfl ?_ | refine wlV _ _ (bsTile _ _ _ _ _ _ _ _ _ rfl rfl _) rfl ?_ | (at_builtin; refine wlR 95 r1 rfl _ _ rfl rfl rfl rfl ?_))
      go_roundw
      case rel => exact ⟨k + 1,by omega,by go_num,unhide HO5,unhide HFR,unhide HBK5,unhide HB5⟩
      case measure => simp [intOf]; omega
    . have hkn : k = ks.length := by omega
      have htl : ks.take k = ks := by rw [hkn,List.take_length]
      rw [htl] at hown
      subst hkn
      go_wp2_with fail
      go_ret
      exact ⟨⟨u5,rfl,by rw [unhide HKS]; exact hown,unhide hfr⟩,hb⟩
theorem t_callE {l : List Oper} {Q : Exit -> Act -> World -> Prop} {S : World -> Prop} {listed : Array Bool} {a : Act} {w : World} {fuel : Nat} {o : Oper} {rest : List Oper} (i : Nat) (hd : l.drop i = o :: rest) (hw : Region.wanted o (yielded l.toArray a.tmps) = true) (f : FuncId) (args : Array Value) (h0 : (execOp a.eval o).run Tryz.prog w = .ok (.enter f args) w) (R : Value -> World -> Prop)
    (hc : Calls Tryz.prog f args w fun e w' => ∃ v,e = .returned v /\ R v w') (h : ∀ v w',R v w' -> S w' /\ wpAnyH Tryz.prog .any l.toArray Q S fuel (listed.setIfInBounds i true) (a.put o.dst v) w') :
    wpOp Tryz.prog l.toArray Q i (fun a' w' => S w' /\ wpAnyH Tryz.prog .any l.toArray Q S fuel (listed.setIfInBounds i true) a' w') a w := by
  unfold wpOp
  simp only [at_drop hd]
  rw [if_pos hw]
  left
  unfold Oper.wp
  rw [h0]
  exact hc.mono fun e w' ⟨v,e1,e2⟩ => by subst e1; exact h v w' e2
theorem ReadC (sb : Nat) (ver : Int) (sl pv : Value) (LS PL FL : List Ft) (v a : Int) (n : Nat) (w : World) (hs : StP w sb 0 ver sl pv LS PL) (hl : LS.length <= 1000) (hp : PL.length <= 100) (hv : 0 <= ver /\ ver <= 100) (hh : heldB 0 ver PL v = true) (hR : RelV v LS FL) (hn : 1 <= n /\ n <= 8) :
    Calls Tryz.prog 76 #[.pointer (some ⟨sb,0,none⟩),.int .i64 v,.int .i64 a,.int .i64 n] w fun e w' => ∃ t,e = .returned t /\ ∃ R rv,t = .tuple #[rv,.int .i64 0] /\ OwnC 86 24 w' w.heap.size rv R /\ RdP FL a R /\ R.length = min n (FL.length - cle FL a FL.length) /\ Below w.heap.size w w' := by
  refine (Read_any sb 0 ver sl pv LS PL FL v a n w hs hl hp ⟨by omega,by omega⟩ hv hh hR hn).mono ?_
  rintro e w' ⟨⟨R,rv,rfl,h1,h2,h3,h4⟩,hb⟩
  refine ⟨_,rfl,R,rv,rfl,h1,h2,?_,hb⟩
  have hc := h2.cnt
  have hle := cle_le FL (pid a R R.length) FL.length
  rcases h4 with h4 | h4
  . omega
  . omega
def lid (R : List Ft) : Int := pid 0 R R.length
set_option maxHeartbeats 1600000 in
theorem lastId_any (v : Value) (R : List Ft) (w : World) (hv : CsAt 24 w v R.length (gf R)) (hl : R.length <= 1000000) :
    Calls Tryz.prog 75 #[v] w fun e w' => e = .returned (.int .i64 (lid R)) /\ w = w' := by
  obtain ⟨oa,cap,rfl,_,hc⟩ := hv
  by_cases h0 : R.length = 0
  . have e : lid R = 0 := by unfold lid; rw [h0]; rfl
    rw [e,h0]
    clear e h0 hc hl
    go_enter Tryz.func75,Tryz.ntmps75
    go_wp2_with fail
    go_ret
    exact ⟨rfl,rfl⟩
  . obtain ⟨m,hm⟩ : ∃ m,R.length = m + 1 := ⟨R.length - 1,by omega⟩
    obtain ⟨b,off,rfl,hbl,hc0⟩ := hc (by omega)
    have e : lid R = gf R m 0 := by unfold lid; rw [hm]; rfl
    have c := hc0 m (by omega) 0 (by omega)
    rw [Nat.add_zero] at c
    rw [e,hm]
    obtain ⟨I,hI⟩ : ∃ I,gf R m 0 = I := ⟨_,rfl⟩
    rw [hI] at c ⊢
    have hz : ((m + 1 : Nat) : Int) = (m : Int) + 1 := by omega
    have hw : IntKind.i64.wrap ((m : Int) + 1 - 1) = m := by rw [i64_of _ (by omega)]; omega
    have hw64 : wrap64 (m : Int) = m := IntWalk.wrap64_in _ ⟨by omega,by omega⟩
    clear e hI h0 hc hc0 hw
    have hne : ¬ ((m + 1 : Nat) : Int) = 0 := by omega
    clear hm
    go_enter Tryz.func75,Tryz.ntmps75
    go_wp2_with fail
    go_ret
    exact ⟨rfl,rfl⟩
theorem nsteps_eq {n N c : Nat} (hc : 1 <= c) (h1 : n = 0 \/ (n - 1) * c < N) (h2 : N <= n * c) : (if n = 0 then 1 else n) = nsteps N c := by
  unfold nsteps
  by_cases e : n = 0
  . rw [if_pos e]
    rw [e,Nat.zero_mul] at h2
    rw [if_pos (by omega)]
  . rw [if_neg e]
    have h1 := h1.resolve_left e
    rw [if_neg (by omega)]
    obtain ⟨m,rfl⟩ : ∃ m,n = m + 1 := ⟨n - 1,by omega⟩
    rw [Nat.add_sub_cancel] at h1
    rw [Nat.succ_mul] at h2
    symm
    rw [Nat.div_eq_iff (by omega)]
    rw [Nat.succ_mul]
    omega
structure StepI (FL : List Ft) (ch n : Nat) (a : Int) (R : List Ft) : Prop where
  n41 : n <= 41
  cl : cle FL a FL.length = min (n * ch) FL.length
  pr : n = 0 \/ (n - 1) * ch < FL.length
  ln : R.length = min ch (FL.length - cle FL a FL.length)
  rd : RdP FL a R
theorem StepI.len {FL : List Ft} {ch n : Nat} {a : Int} {R : List Ft} (h : StepI FL ch n a R) (hc : 1 <= ch /\ ch <= 8) : R.length <= 8 := by have := h.ln; omega
theorem StepI.n40 {FL : List Ft} {ch n : Nat} {a : Int} {R : List Ft} (h : StepI FL ch n a R) (hc : 1 <= ch /\ ch <= 8) (h40 : FL.length <= 40) : n <= 40 := by
  rcases h.pr with q | q
  . omega
  . have := Nat.mul_le_mul_left (n - 1) hc.1
    omega
theorem StepI.end_ {FL : List Ft} {ch n : Nat} {a : Int} {R : List Ft} (h : StepI FL ch n a R) (hc : 1 <= ch /\ ch <= 8) (h0 : R.length = 0) : (if n = 0 then 1 else n) = nsteps FL.length ch := by
  refine nsteps_eq hc.1 h.pr ?_
  have h1 := h.ln
  have h2 := h.cl
  omega
theorem StepI.lid {FL : List Ft} {ch n : Nat} {a : Int} {R : List Ft} (_h : StepI FL ch n a R) (h0 : 0 < R.length) : lid R = pid a R R.length := by
  unfold Go.Proofs.YtpopchckldbhdaaGreatDoor.lid
  obtain ⟨m,hm⟩ : ∃ m,R.length = m + 1 := ⟨R.length - 1,by omega⟩
  rw [hm]
  rfl
theorem StepI.next {FL : List Ft} {ch n : Nat} {a A : Int} {R R2 : List Ft} (h : StepI FL ch n a R) (hc : 1 <= ch /\ ch <= 8) (h40 : FL.length <= 40) (h0 : 0 < R.length) (hA : pid a R R.length = A) (hrp : RdP FL A R2) (hlen : R2.length = min ch (FL.length - cle FL A FL.length)) : StepI FL ch (n + 1) A R2 := by
  have h1 := h.ln
  have h2 := h.cl
  have h3 := h.rd.cnt
  rw [hA] at h3
  have h4 : n * ch < FL.length := by omega
  have h5 := Nat.mul_le_mul_left n hc.1
  refine ⟨by omega,?_,Or.inr (by rw [Nat.add_sub_cancel]; exact h4),hlen,hrp⟩
  rw [Nat.succ_mul]
  omega
set_option maxHeartbeats 12800000 in
theorem steps_any (fb : Nat) (X : FV) (ver v : Int) (sl pv : Value) (LS PL FL : List Ft) (ch : Nat) (w : World) (hf : FBlk w fb X) (hch : X.ch = ch) (hc : 1 <= ch /\ ch <= 8) (hs : StP w X.sb 0 ver sl pv LS PL) (hl : LS.length <= 1000) (hp : PL.length <= 100) (hver : 0 <= ver /\ ver <= 100) (hh : heldB 0 ver PL v = true) (hR : RelV v LS FL) :
    Calls Tryz.prog 74 #[.pointer (some ⟨fb,0,none⟩),.int .i64 v] w fun e w' => e = .returned (.int .i64 (nsteps FL.length ch)) /\ Below w.heap.size w w' := by
  have hF6 : ∀ W,FBlk W fb X -> W.cell? ⟨fb,6,none⟩ = some (.pointer (some ⟨X.sb,0,none⟩)) := fun W h => (FBlk.cells h).2.2.2.2.2.2.1
  have hF2 : ∀ W,FBlk W fb X -> W.cell? ⟨fb,2,none⟩ = some (.int .i64 ch) := fun W h => by rw [<- hch]; exact (FBlk.cells h).2.2.1
  have h40 := hR.le40
  have hcl0 : cle FL 0 FL.length = 0 := cle_none _ fun j hj => by have := (hR.rt j hj).id; omega
  have RD : ∀ W a,Below w.heap.size w W -> Calls Tryz.prog 76 #[.pointer (some ⟨X.sb,0,none⟩),.int .i64 v,.int .i64 a,.int .i64 ch] W fun e w' => ∃ t,e = .returned t /\ ∃ R rv,t = .tuple #[rv,.int .i64 0] /\ OwnC 86 24 w' W.heap.size rv R /\ RdP FL a R /\ R.length = min ch (FL.length - cle FL a FL.length) /\ Below W.heap.size W w' := fun W a h => ReadC X.sb ver sl pv LS PL FL v a ch W (hs.on h) hl hp hver hh hR hc
  have HF := hide hf
  have HRD := hide RD
  have HCL0 := hide hcl0
  clear hf hs hR RD hch hcl0 hh
  go_enter Tryz.func74,Tryz.ntmps74
  go_wp2_with fail
  refine wp_region_held (S := fun w' => FBlk w' fb X) (by kernel_rfl) ?_
  change wpAnyH _ _ _ _ _ _ _ _ (World.drew _)
  have hS : FBlk (World.drew w) fb X := unhide HF
  have hb1 : Below w.heap.size w (World.drew w) := Below.drew (Below.refl _ _)
  have RD1 := unhide HRD (World.drew w) 0 hb1
  generalize World.drew w = w1 at hS hb1 RD1 ⊢
  refine t_tk 0 rfl (.pointer (some ⟨fb,0,none⟩)) (by kernel_rfl) (fun _ _ _ h => h) rfl (fun w' hw' => by simp [go_sem]) hS ?_
  simp only [Act.put,qA,qB,qC]
  refine t_tk 1 rfl (.pointer (some ⟨fb,0,none⟩)) (by kernel_rfl) (fun _ _ _ h => h) rfl (fun w' hw' => by simp [go_sem]) hS ?_
  simp only [Act.put,qA,qB,qC]
  refine t_tk 2 rfl (.pointer (some ⟨fb,6,none⟩)) (by kernel_rfl) (fun _ _ _ h => h) rfl (fun w' hw' => by simp [go_sem]) hS ?_
  simp only [Act.put,qA,qB,qC]
  refine t_tk 3 rfl (.pointer (some ⟨X.sb,0,none⟩)) (by kernel_rfl) (fun _ _ _ h => h) rfl (fun w' hw' => by simp [go_sem,hF6 w' hw']) hS ?_
  simp only [Act.put,qA,qB,qC]
  refine t_tk 4 rfl (.int .i64 v) (by kernel_rfl) (fun _ _ _ h => h) rfl (fun w' hw' => by simp [go_sem]) hS ?_
  simp only [Act.put,qA,qB,qC]
  refine t_tk 5 rfl (.pointer (some ⟨fb,0,none⟩)) (by kernel_rfl) (fun _ _ _ h => h) rfl (fun w' hw' => by simp [go_sem]) hS ?_
  simp only [Act.put,qA,qB,qC]
  refine t_tk 6 rfl (.pointer (some ⟨fb,0,none⟩)) (by kernel_rfl) (fun _ _ _ h => h) rfl (fun w' hw' => by simp [go_sem]) hS ?_
  simp only [Act.put,qA,qB,qC]
  refine t_tk 7 rfl (.pointer (some ⟨fb,2,none⟩)) (by kernel_rfl) (fun _ _ _ h => h) rfl (fun w' hw' => by simp [go_sem]) hS ?_
  simp only [Act.put,qA,qB,qC]
  refine t_tk 8 rfl (.int .i64 ch) (by kernel_rfl) (fun _ _ _ h => h) rfl (fun w' hw' => by simp [go_sem,hF2 w' hw']) hS ?_
  simp only [Act.put,qA,qB,qC]
  refine wpAnyH_all (rs := [9]) (by kernel_rfl) (by simp) ?_
  intro i hi
  simp only [List.mem_singleton] at hi
  subst hi
  refine t_callE 9 rfl rfl 76 #[.pointer (some ⟨X.sb,0,none⟩),.int .i64 v,.int .i64 0,.int .i64 ch] (by simp [go_sem]) _ RD1 ?_
  rintro t w2 ⟨R,rv,rfl,ho,hrp,hlen,hb2⟩
  have hS2 := blk_on hS hb2
  refine ⟨hS2,?_⟩
  simp only [Act.put,qA,qB,qC]
  have hS := hS2
  obtain ⟨ra,rn,rc,rfl⟩ : ∃ a n c,rv = .slice a n c := by
    rcases ho.2 with ⟨rfl,_⟩ | ⟨g,cap,cur,rfl,_⟩
    . exact ⟨_,_,_,rfl⟩
    . exact ⟨_,_,_,rfl⟩
  refine t_tk 10 rfl (.tuple #[.slice ra rn rc,.int .i64 0]) (by kernel_rfl) (fun _ _ _ h => h) rfl (fun w' hw' => by simp [go_sem]) hS ?_
  simp only [Act.put,qA,qB,qC]
  refine t_tk 11 rfl (.slice ra rn rc) (by kernel_rfl) (fun _ _ _ h => h) rfl (fun w' hw' => by simp [go_sem]) hS ?_
  simp only [Act.put,qA,qB,qC]
  refine t_tk 12 rfl (.int .i64 0) (by kernel_rfl) (fun _ _ _ h => h) rfl (fun w' hw' => by simp [go_sem]) hS ?_
  simp only [Act.put,qA,qB,qC]
  refine t_tk 13 rfl (.slice ra rn rc) (by kernel_rfl) (fun _ _ _ h => h) rfl (fun w' hw' => by simp [go_sem]) hS ?_
  simp only [Act.put,qA,qB,qC]
  refine t_tk 14 rfl (.int .i64 0) (by kernel_rfl) (fun _ _ _ h => h) rfl (fun w' hw' => by simp [go_sem]) hS ?_
  simp only [Act.put,qA,qB,qC]
  refine wpAnyH_done (by kernel_rfl) ?_ _
  have hrn : rn = R.length := by
    rcases ho.2 with ⟨q,hn⟩ | ⟨g,cap,cur,q,_⟩
    . cases q; omega
    . cases q; rfl
  subst hrn
  have HX : Hid (StepI FL ch 0 0 R /\ OwnC 86 24 w2 w1.heap.size (.slice ra R.length rc) R) := ⟨⟨by omega,by rw [unhide HCL0]; simp,Or.inl rfl,hlen,hrp⟩,ho⟩
  have HB2 := hide (hb1.trans (hb2.mono hb1.size))
  clear hS hS2 hb1 hb2 RD1 ho hrp hlen
  go_wp2_with fail
  go_loopw [5,6,7,8] (fun nv cv ev _ wr => ∃ (n : Nat) (a : Int) (R : List Ft) (B : Nat) (ra : Option Addr) (rc : Nat),nv = .int .i64 n /\ cv = .slice ra R.length rc /\ ev = .int .i64 0 /\ Hid (StepI FL ch n a R) /\ Hid (OwnC 86 24 wr B (.slice ra R.length rc) R) /\ Below w.heap.size w wr) (fun nv _ _ _ _ => 50 - (intOf nv).toNat)
  case atStart => exact ⟨0,0,R,_,ra,rc,rfl,rfl,rfl,hide (unhide HX).1,hide (unhide HX).2,unhide HB2⟩
  case round =>
    obtain ⟨n,a,R,B,ra,rc,rfl,rfl,rfl,hst,hown,hb⟩ := hrel
    have hst0 := unhide hst
    have hn40 := hst0.n40 hc h40
    by_cases h0 : R.length = 0
    . have HE := hide (hst0.end_ hc h0)
      have HB := hide hb
      obtain rfl : R = [] := List.eq_nil_of_length_eq_zero h0
      clear hst hst0 hown hb HX h0
      by_cases hn0 : n = 0
      . subst hn0
        go_wp2_with fail
        go_ret
        exact ⟨ret_int (by have := unhide HE; simp at this; omega),unhide HB⟩
      . have hni : ¬ (n : Int) = 0 := by omega
        go_wp2_with fail
        go_ret
        exact ⟨ret_int (by have := unhide HE; rw [if_neg hn0] at this; omega),unhide HB⟩
    . have hpos : (0 : Int) < R.length := by omega
      have hpn : 0 < R.length := by omega
      have hl8 := hst0.len hc
      have LI := lastId_any (.slice ra R.length rc) R wr ((unhide hown).at (by unfold maxLen; omega)) (by omega)
      have hlid := hst0.lid (by omega)
      have HST := hide hst0
      have HB := hide hb
      rw [hlid] at LI
      obtain ⟨A,hA⟩ : ∃ A,pid a R R.length = A := ⟨_,rfl⟩
      rw [hA] at LI
      have HAA := hide hA
      have hR0 : R ≠ [] := fun e => h0 (by rw [e]; rfl)
      clear hst hst0 hb HX hlid hA h0
      go_wp2_with fail
      refine LI.mono ?_
      rintro e w9 ⟨rfl,rfl⟩
      clear LI
      go_wp2_with fail
      refine wp_region_held (S := fun w' => FBlk w' fb X) (by kernel_rfl) ?_
      change wpAnyH _ _ _ _ _ _ _ _ (World.drew _)
      have hb1 : Below w.heap.size w (World.drew wr) := Below.drew (unhide HB)
      have hS : FBlk (World.drew wr) fb X := blk_on (unhide HF) hb1
      have RD1 := unhide HRD (World.drew wr) A hb1
      generalize World.drew wr = w1 at hS hb1 RD1 ⊢
      refine t_tk 0 rfl (.pointer (some ⟨fb,0,none⟩)) (by kernel_rfl) (fun _ _ _ h => h) rfl (fun w' hw' => by simp [go_sem]) hS ?_
      simp only [Act.put,qA,qB,qC]
      refine t_tk 1 rfl (.pointer (some ⟨fb,0,none⟩)) (by kernel_rfl) (fun _ _ _ h => h) rfl (fun w' hw' => by simp [go_sem]) hS ?_
      simp only [Act.put,qA,qB,qC]
      refine t_tk 2 rfl (.pointer (some ⟨fb,6,none⟩)) (by kernel_rfl) (fun _ _ _ h => h) rfl (fun w' hw' => by simp [go_sem]) hS ?_
      simp only [Act.put,qA,qB,qC]
      refine t_tk 3 rfl (.pointer (some ⟨X.sb,0,none⟩)) (by kernel_rfl) (fun _ _ _ h => h) rfl (fun w' hw' => by simp [go_sem,hF6 w' hw']) hS ?_
      simp only [Act.put,qA,qB,qC]
      refine t_tk 4 rfl (.int .i64 v) (by kernel_rfl) (fun _ _ _ h => h) rfl (fun w' hw' => by simp [go_sem]) hS ?_
      simp only [Act.put,qA,qB,qC]
      refine t_tk 5 rfl (.int .i64 A) (by kernel_rfl) (fun _ _ _ h => h) rfl (fun w' hw' => by simp [go_sem]) hS ?_
      simp only [Act.put,qA,qB,qC]
      refine t_tk 6 rfl (.pointer (some ⟨fb,0,none⟩)) (by kernel_rfl) (fun _ _ _ h => h) rfl (fun w' hw' => by simp [go_sem]) hS ?_
      simp only [Act.put,qA,qB,qC]
      refine t_tk 7 rfl (.pointer (some ⟨fb,0,none⟩)) (by kernel_rfl) (fun _ _ _ h => h) rfl (fun w' hw' => by simp [go_sem]) hS ?_
      simp only [Act.put,qA,qB,qC]
      refine t_tk 8 rfl (.pointer (some ⟨fb,2,none⟩)) (by kernel_rfl) (fun _ _ _ h => h) rfl (fun w' hw' => by simp [go_sem]) hS ?_
      simp only [Act.put,qA,qB,qC]
      refine t_tk 9 rfl (.int .i64 ch) (by kernel_rfl) (fun _ _ _ h => h) rfl (fun w' hw' => by simp [go_sem,hF2 w' hw']) hS ?_
      simp only [Act.put,qA,qB,qC]
      refine wpAnyH_all (rs := [10]) (by kernel_rfl) (by simp) ?_
      intro i hi
      simp only [List.mem_singleton] at hi
      subst hi
      refine t_callE 10 rfl rfl 76 #[.pointer (some ⟨X.sb,0,none⟩),.int .i64 v,.int .i64 A,.int .i64 ch] (by simp [go_sem]) _ RD1 ?_
      rintro t w2 ⟨R2,rv,rfl,ho,hrp,hlen,hb2⟩
      have hS2 := blk_on hS hb2
      refine ⟨hS2,?_⟩
      simp only [Act.put,qA,qB,qC]
      have hS := hS2
      obtain ⟨ra,rn,rc,rfl⟩ : ∃ a n c,rv = .slice a n c := by
        rcases ho.2 with ⟨rfl,_⟩ | ⟨g,cap,cur,rfl,_⟩
        . exact ⟨_,_,_,rfl⟩
        . exact ⟨_,_,_,rfl⟩
      refine t_tk 11 rfl (.tuple #[.slice ra rn rc,.int .i64 0]) (by kernel_rfl) (fun _ _ _ h => h) rfl (fun w' hw' => by simp [go_sem]) hS ?_
      simp only [Act.put,qA,qB,qC]
      refine t_tk 12 rfl (.slice ra rn rc) (by kernel_rfl) (fun _ _ _ h => h) rfl (fun w' hw' => by simp [go_sem]) hS ?_
      simp only [Act.put,qA,qB,qC]
      refine t_tk 13 rfl (.int .i64 0) (by kernel_rfl) (fun _ _ _ h => h) rfl (fun w' hw' => by simp [go_sem]) hS ?_
      simp only [Act.put,qA,qB,qC]
      refine t_tk 14 rfl (.slice ra rn rc) (by kernel_rfl) (fun _ _ _ h => h) rfl (fun w' hw' => by simp [go_sem]) hS ?_
      simp only [Act.put,qA,qB,qC]
      refine t_tk 15 rfl (.int .i64 0) (by kernel_rfl) (fun _ _ _ h => h) rfl (fun w' hw' => by simp [go_sem]) hS ?_
      simp only [Act.put,qA,qB,qC]
      refine wpAnyH_done (by kernel_rfl) ?_ _
      have hrn : rn = R2.length := by
        rcases ho.2 with ⟨q,hn⟩ | ⟨g,cap,cur,q,_⟩
        . cases q; omega
        . cases q; rfl
      subst hrn
      have HN := hide ((unhide HST).next hc h40 hpn (unhide HAA) hrp hlen)
      have HO2 := hide ho
      have HB2 := hide (hb1.trans (hb2.mono hb1.size))
      clear hS hS2 hb1 hb2 RD1 ho hrp hlen
      go_wp2_with fail
      go_roundw
      case rel => exact ⟨n + 1,A,R2,_,_,_,by go_num,rfl,rfl,HN,HO2,unhide HB2⟩
      case measure => simp [intOf]; omega
end Go.Proofs.YtpopchckldbhdaaGreatDoor
