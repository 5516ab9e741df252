/-
  The texts FgB, FgG, FgH, FgI, FjA, FjF, FjB, FjD, FjG, FjE, FjH, FhA, FhC, FhD, FjI, FjC, FkT.
-/
import Derived.Test.YtpopchckldbhdaaGreatDoorLase06
namespace Go.Proofs.YtpopchckldbhdaaGreatDoor
open Go.RowKit
set_option maxRecDepth 20000
theorem blk_setL {w : World} {g : Nat} {cs : Array Value} {T : TypeId} (h : w.heap[g]? = some (.cells cs T (0,0))) (i : Nat) (v : Value) {cs' : Array Value} (e : cs.setIfInBounds i v = cs') : (w.setCell ⟨g,i,none⟩ v).heap[g]? = some (.cells cs' T (0,0)) := by
  rw [<- e]
  simp [World.setCell,Array.getElem?_modify,h]
theorem heap_setRow_ne (w : World) (g : Nat) (cs : Array Value) {k : Nat} (h : k ≠ g) : (w.setRow g cs).heap[k]? = w.heap[k]? := by
  have := (below_setRow (B := 0) (Below.refl 0 w) (Nat.zero_le g) cs)
  unfold World.setRow
  simp [Array.getElem?_modify,Ne.symm h]
theorem tagB_ne (k : K4) (s : Int) : tagB k s ≠ ⟨#[]⟩ := by
  intro h
  have := congrArg (fun b : ByteArray => b.data.toList) h
  simp [tagB] at this
theorem str_ne {a b : ByteArray} (h : a ≠ b) : (a.toList == b.toList) = false := by
  rw [beq_eq_false_iff_ne]
  exact fun q => h (bytes_eq q)
theorem unp_tile {A : List Ft} (hA : ∀ i,i < A.length -> Rt (gf A i)) (k : K4) : (⟨(Pk.Pt.spread (Pk.Pt.mid (bodyB A k).data.toList)).toArray⟩ : ByteArray) = tile A k.l k.z k.x k.y := by
  have e : (bodyB A k).data.toList = Pk.Pt.body (tile A k.l k.z k.x k.y).data.toList := by unfold bodyB; rfl
  rw [e,Pk.Pt.spread_mid_body _ (okTile hA k.l k.z k.x k.y)]
theorem OwnR.sli {w : World} {v : Value} {WS : List Sli} (h : OwnR rSli 69 w v WS) {i : Nat} {s : Sli} (hi : WS[i]? = some s) : ∃ g off cap,v = .slice (some ⟨g,off,none⟩) WS.length cap /\ w.cell? ⟨g,off + i,none⟩ = some (.slice s.at_ s.n s.cap) /\ g < w.heap.size := by
  obtain ⟨g,off,cap,e,hrg,_⟩ := h.spot hi
  refine ⟨g,off,cap,e,?_,h.lt (by rw [e]; rfl)⟩
  have := hrg 0 _ rfl
  rwa [show off + i * rSli.wid + 0 = off + i by simp [rSli]] at this
set_option maxHeartbeats 12800000 in
theorem is_any (w0 : Bas) (bb fb : Nat) (F : FM) (M : BM) (A : List Ft) (l z x y : Int) (v : Nat) (w : World) (h : StE w0 w bb fb F M) (hA : ∀ i,i < A.length -> Rt (gf A i)) (hk : KOk ⟨l,z,x,y⟩) (hv : v <= F.ver) :
    Calls Tryz.prog 11 #[.pointer (some ⟨bb,0,none⟩),.string (bodyB A ⟨l,z,x,y⟩),.agg #[.int .i64 l,.int .i64 z,.int .i64 x,.int .i64 y],.int .i64 v] w fun e w' => e = .returned (.bool (decide (tile A l z x y = tile (F.FLs v) l z x y))) /\ Below w.heap.size w w' := by
  obtain ⟨Φ,Ψ,B,WS,hS⟩ := h
  obtain ⟨w1,hw1⟩ : ∃ w1,w.alloc (.cells #[.int .i64 l,.int .i64 z,.int .i64 x,.int .i64 y] 39) = w1 := ⟨_,rfl⟩
  have hb1 : Below w.heap.size w w1 := hw1 ▸ (Below.refl w.heap.size w).alloc (Nat.le_refl _) (.cells #[.int .i64 l,.int .i64 z,.int .i64 x,.int .i64 y] 39)
  have hA1 : w1.heap[w.heap.size]? = some (.cells #[.int .i64 l,.int .i64 z,.int .i64 x,.int .i64 y] 39 (0,0)) := hw1 ▸ heap_alloc_new w (.cells #[.int .i64 l,.int .i64 z,.int .i64 x,.int .i64 y] 39 (0,0))
  have HBX := hide (show ∀ (W : World) (ev : Operand -> Value) (o : Oper) (p : Operand),o.op = .box 39 p -> ev p = .agg #[.int .i64 l,.int .i64 z,.int .i64 x,.int .i64 y] -> W = w -> (execOp ev o).run Tryz.prog W = .ok (.value (.pointer (some ⟨w.heap.size,0,none⟩))) w1 from fun W ev o p q1 q2 e => by
    subst e
    rw [<- hw1]
    unfold execOp
    simp only [q1,q2]
    kernel_rfl)
  have hsz := bodyB_size hA ⟨l,z,x,y⟩
  have hok : Pk.Pt.okBody (bodyB A ⟨l,z,x,y⟩).data.toList = true := by
    have e : (bodyB A ⟨l,z,x,y⟩).data.toList = Pk.Pt.body (tile A l z x y).data.toList := by unfold bodyB; rfl
    rw [e]
    exact Pk.Pt.okBody_body _ (okTile hA l z x y)
  have UN := Pk.unpack_yes (bodyB A ⟨l,z,x,y⟩) w1 (by unfold maxLen; omega) hok
  rw [unp_tile hA ⟨l,z,x,y⟩] at UN
  dsimp only at UN
  have hSver : RelV v F.LS (F.FLs v) := by
    obtain ⟨X,sl,pv,W,hf,_⟩ := hS.fro
    exact (hf.ver.rel v hv).1
  have HR := hide hSver
  have hS1 := hS.on hb1
  have H1 := hide (show St w0 w1 bb fb Φ Ψ B WS F M /\ Below w.heap.size w w1 /\ w1.heap[w.heap.size]? = some (.cells #[.int .i64 l,.int .i64 z,.int .i64 x,.int .i64 y] 39 (0,0)) from ⟨hS1,hb1,hA1⟩)
  have hsA := tile_size A l z x y
  have hke := hk.err
  dsimp only at hke
  have HKE := hide hke
  clear hS hw1 hb1 hA1 hsz hok hSver hS1 hA hk hke
  go_enter Tryz.func11,Tryz.ntmps11
  go_wp2_with (refine wlV _ _ (unhide HBX _ _ _ _ rfl rfl rfl) rfl ?_)
  refine UN.mono ?_
  rintro e w2 ⟨rfl,hb2⟩
  obtain ⟨hS1,hb1,hA1⟩ := unhide H1
  have hS2 := hS1.on hb2
  have hA2 := blk_on hA1 hb2
  have hB2 := hb1.trans (hb2.mono hb1.size)
  obtain ⟨⟨so,sn,sc⟩,hWv⟩ : ∃ s,WS[v]? = some s := ⟨_,List.getElem?_eq_getElem (by rw [hS2.bk.mem.len]; omega)⟩
  obtain ⟨gW,oW,cW,eW,hcW,hgW⟩ := hS2.bk.mem.was.sli hWv
  rw [hS2.bk.mem.len] at eW
  dsimp only at hcW
  have hfea : OwnR rF 86 w2 (.slice so sn sc) (F.FLs v) := hS2.bk.mem.fea v _ hWv
  have hvI : (v : Int) < (F.ver : Int) + 1 := by omega
  have hltb : bb < w2.heap.size := blk_lt hS2.bk.blk
  have c6 : w2.cell? ⟨bb,6,none⟩ = some (.slice (some ⟨gW,oW,none⟩) (F.ver + 1) cW) := by rw [<- eW]; exact hS2.bk.blk.cells 6
  have hF : ∀ W,Below w2.heap.size w2 W -> W.cell? ⟨bb,6,none⟩ = some (.slice (some ⟨gW,oW,none⟩) (F.ver + 1) cW) /\ W.cell? ⟨gW,oW + v,none⟩ = some (.slice so sn sc) /\ W.rangeAt w.heap.size 0 (#[.int .i64 l,.int .i64 z,.int .i64 x,.int .i64 y] : Array Value).toList := fun W hW => ⟨(hW.cell (p := ⟨bb,6,none⟩) hltb).trans c6,(hW.cell (p := ⟨gW,oW + v,none⟩) hgW).trans hcW,rng_blk (blk_on hA2 hW)⟩
  have hP : ∀ W,Below w2.heap.size w2 W -> Calls Tryz.prog 28 #[.slice so sn sc,.agg #[.int .i64 l,.int .i64 z,.int .i64 x,.int .i64 y]] W fun e w' => e = .returned (.tuple #[.string (tile (F.FLs v) l z x y),.int .i64 0]) /\ Below W.heap.size W w' := fun W hW => paint_tile (unhide HKE) (unhide HR).le40 (unhide HR).rt (.slice so sn sc) W ((csAt_fs _ _ _ _).1 (hfea.on hW).at.fs)
  have HB2 := hide hB2
  clear UN H1 hS1 hb1 hA1 hS2 hA2 hB2 hb2 hWv eW hcW hgW hfea hltb c6 HBX HR HKE
  go_wp2_with fail
  refine region_bq (by kernel_rfl) (by kernel_rfl) ?_
  refine q_move rfl _ rfl (.pointer (some ⟨bb,0,none⟩)) rfl ?_
  simp only [Act.put,qA,qB,qC]
  refine q_val rfl (.pointer (some ⟨bb,0,none⟩)) (fun w' hw' => by simp [go_sem]) ?_
  simp only [Act.put,qA,qB,qC]
  refine q_val rfl (.pointer (some ⟨bb,6,none⟩)) (fun w' hw' => by simp [go_sem]) ?_
  simp only [Act.put,qA,qB,qC]
  refine q_val rfl (.slice (some ⟨gW,oW,none⟩) (F.ver + 1) cW) (fun w' hw' => by simp [go_sem,(hF w' hw').1]) ?_
  simp only [Act.put,qA,qB,qC]
  refine q_move rfl _ rfl (.int .i64 v) rfl ?_
  simp only [Act.put,qA,qB,qC]
  refine q_val rfl (.pointer (some ⟨gW,oW + v,none⟩)) (fun w' hw' => by simp [go_sem,hvI]) ?_
  simp only [Act.put,qA,qB,qC]
  refine q_val rfl (.slice so sn sc) (fun w' hw' => by simp [go_sem,(hF w' hw').2.1]) ?_
  simp only [Act.put,qA,qB,qC]
  refine q_load rfl 39 _ rfl (w.heap.size) (0) rfl (#[.int .i64 l,.int .i64 z,.int .i64 x,.int .i64 y]) _ Tryz.underlying39 rfl (sz39 _ _ _ _) (fun W h => (hF W h).2.2) ?_
  simp only [Act.put,qA,qB,qC]
  refine q_callC rfl 28 (#[.slice so sn sc,.agg #[.int .i64 l,.int .i64 z,.int .i64 x,.int .i64 y]]) (fun _ => by simp [go_sem]) (.tuple #[.string (tile (F.FLs v) l z x y),.int .i64 0]) (hP) ?_
  simp only [Act.put,qA,qB,qC]
  refine q_move rfl _ rfl (.tuple #[.string (tile (F.FLs v) l z x y),.int .i64 0]) rfl ?_
  simp only [Act.put,qA,qB,qC]
  refine q_val rfl (.string (tile (F.FLs v) l z x y)) (fun w' hw' => by simp [go_sem]) ?_
  simp only [Act.put,qA,qB,qC]
  refine q_val rfl (.int .i64 0) (fun w' hw' => by simp [go_sem]) ?_
  simp only [Act.put,qA,qB,qC]
  refine q_assign rfl _ rfl (.string (tile (F.FLs v) l z x y)) rfl ?_
  simp only [Act.put,qA,qB,qC]
  refine q_assign rfl _ rfl (.int .i64 0) rfl ?_
  simp only [Act.put,qA,qB,qC]
  refine wpQuiet_nil ?_
  intro w3 hw3
  have HB3 := hide ((unhide HB2).trans (hw3.mono (unhide HB2).size))
  clear hF hP hw3
  obtain ⟨tA,htA⟩ : ∃ tA,tile A l z x y = tA := ⟨_,rfl⟩
  obtain ⟨tB,htB⟩ : ∃ tB,tile (F.FLs v) l z x y = tB := ⟨_,rfl⟩
  rw [htA] at hsA
  by_cases he : tA = tB
  . have HQ : Hid (decide (tile A l z x y = tile (F.FLs v) l z x y) = true) := hide (by rw [htA,htB]; exact decide_eq_true he)
    simp only [htA,htB]
    clear htA htB
    subst he
    go_wp2_with fail
    go_ret
    exact ⟨ret_bool (unhide HQ).symm,unhide HB3⟩
  . have HQ : Hid (decide (tile A l z x y = tile (F.FLs v) l z x y) = false) := hide (by rw [htA,htB]; exact decide_eq_false he)
    have hd : (tA.toList == tB.toList) = false := str_ne he
    simp only [htA,htB]
    clear htA htB
    go_wp2_with fail
    go_ret
    exact ⟨ret_bool (unhide HQ).symm,unhide HB3⟩
theorem ne_nil {a : ByteArray} (h : a ≠ ⟨#[]⟩) : a.toList.isEmpty = false := by
  rw [List.isEmpty_eq_false_iff]
  exact fun q => h (bytes_eq (by rw [q,ByteArray.toList_eq]))
theorem say_strings {F : FM} {s : Say} {a : Ask} (ho : Ok Oz F) (hk : a.e = 0 -> KOk a.k) (h : SayOk Oz F s a) : (s.r.st = 200 -> s.r.body ≠ ⟨#[]⟩ /\ s.r.tag ≠ ⟨#[]⟩) /\ (s.r.st = 304 -> s.r.tag ≠ ⟨#[]⟩) := by
  rcases h with g | g | g | g | g
  . have h1 := g.2.2.1
    constructor <;> intro q <;> rw [q] at h1 <;> split at h1 <;> omega
  . exact ⟨fun q => by have := g.2.2.1; omega,fun q => by have := g.2.2.1; omega⟩
  . obtain ⟨g1,_,g3,_,v,_,_,g7,g8,g9⟩ := g
    refine ⟨fun _ => ⟨fun q => ?_,fun q => ?_⟩,fun q => by omega⟩
    . have := (ho.hi.bod v g7 a.k (hk g1)).1
      rw [<- g8,q] at this
      exact absurd this (by decide)
    . rw [g9] at q; exact tagB_ne _ _ q
  . obtain ⟨g1,_,g3,_,_,_,v,_,_,g9⟩ := g
    exact ⟨fun q => by omega,fun _ q => by rw [g9] at q; exact tagB_ne _ _ q⟩
  . exact ⟨fun q => by have := g.2.2.1; omega,fun q => by have := g.2.2.1; omega⟩
theorem dec_val : ∀ n : Nat,Dw.Pp.valL (Lib.decDigits n) = n := by
  intro n
  induction n using Nat.strongRecOn with
  | _ n ih =>
    rw [Lib.decDigits]
    split
    . rename_i h
      have : (UInt8.ofNat (48 + n)).toNat = 48 + n := by rw [UInt8.toNat_ofNat']; omega
      simp only [Dw.Pp.valL,List.foldl_cons,List.foldl_nil,this]
      omega
    . rename_i h
      have : (UInt8.ofNat (48 + n % 10)).toNat = 48 + n % 10 := by rw [UInt8.toNat_ofNat']; omega
      rw [Dw.Pp.valL_snoc,ih (n / 10) (by omega),this]
      omega
theorem dec_within : ∀ n : Nat,Dw.Pp.within 48 57 (Lib.decDigits n) = true := by
  intro n
  induction n using Nat.strongRecOn with
  | _ n ih =>
    rw [Lib.decDigits]
    split
    . rename_i h
      have : (UInt8.ofNat (48 + n)).toNat = 48 + n := by rw [UInt8.toNat_ofNat']; omega
      simp only [Dw.Pp.within,List.all_cons,List.all_nil,this,Bool.and_true,decide_eq_true_eq]
      omega
    . rename_i h
      have : (UInt8.ofNat (48 + n % 10)).toNat = 48 + n % 10 := by rw [UInt8.toNat_ofNat']; omega
      have h1 := ih (n / 10) (by omega)
      unfold Dw.Pp.within at h1 ⊢
      rw [List.all_append,h1]
      simp only [List.all_cons,List.all_nil,this,Bool.and_true,Bool.true_and,decide_eq_true_eq]
      omega
theorem dec_length : ∀ (k n : Nat),1 <= k -> n < 10 ^ k -> 1 <= (Lib.decDigits n).length /\ (Lib.decDigits n).length <= k := by
  intro k
  induction k with
  | zero => intro n h; omega
  | succ k ih =>
    intro n _ hn
    rw [Lib.decDigits]
    split
    . simp
    . rename_i h
      have hk : 1 <= k := by
        rcases Nat.eq_zero_or_pos k with e | e
        . subst e; simp at hn; omega
        . exact e
      have := ih (n / 10) hk (by rw [Nat.pow_succ] at hn; omega)
      simp only [List.length_append,List.length_singleton]
      omega
theorem dec_lead : ∀ n : Nat,1 <= n -> (Lib.decDigits n).getD 0 0 ≠ 48 := by
  intro n
  induction n using Nat.strongRecOn with
  | _ n ih =>
    intro hn
    rw [Lib.decDigits]
    split
    . rename_i h
      simp only [List.getD_cons_zero]
      intro e
      have := congrArg UInt8.toNat e
      rw [UInt8.toNat_ofNat'] at this
      simp at this
      omega
    . rename_i h
      have h1 := ih (n / 10) (by omega) (by omega)
      have h2 := (dec_length 40 (n / 10) (by omega))
      cases hd : Lib.decDigits (n / 10) with
      | nil =>
        have := dec_val (n / 10)
        rw [hd] at this
        simp [Dw.Pp.valL] at this
        omega
      | cons a l =>
        rw [hd] at h1
        simpa using h1
theorem dec_num {n : Nat} (h : n < 1000000000) : Dw.Pp.numB (Lib.decDigits n) = true := by
  have hl := dec_length 9 n (by omega) (by simpa using h)
  unfold Dw.Pp.numB
  rw [dec_within,decide_eq_true hl]
  simp only [Bool.true_and,Bool.and_true,Bool.not_eq_true',Bool.and_eq_false_iff,decide_eq_false_iff_not]
  rcases Nat.lt_or_ge n 10 with q | q
  . left
    rw [Lib.decDigits_one q]
    simp
  . right
    rw [beq_eq_false_iff_ne]
    exact dec_lead n (by omega)
theorem KOk.nat {k : K4} (h : KOk k) : ∃ l z x y : Nat,k = ⟨l,z,x,y⟩ /\ l <= 3 /\ z <= 22 /\ x <= 4194304 /\ y <= 4194304 := by
  have h1 := h.l
  have h2 := h.z
  have h3 := h.small
  have h4 := h3.1
  have h5 := h3.2
  exact ⟨k.l.toNat,k.z.toNat,k.x.toNat,k.y.toNat,k4_ext (by simp; omega) (by simp; omega) (by simp; omega) (by simp; omega),by omega,by omega,by omega,by omega⟩
theorem parse_path {k : K4} (h : KOk k) (P : ByteArray) (hP : P.data.toList = Dw.printL k.l.toNat k.z.toNat k.x.toNat k.y.toNat) : prs P = (k,0) := by
  obtain ⟨l,z,x,y,rfl,hl,hz,hx,hy⟩ := h.nat
  have he := h.perr
  simp only [Int.toNat_natCast] at hP he
  have hn : Dw.Pp.nameB (Dw.Pp.names l) = true /\ Dw.Pp.layerL (Dw.Pp.names l) = l := by
    match l,hl with
    | 0,_ => exact ⟨by decide,by decide⟩
    | 1,_ => exact ⟨by decide,by decide⟩
    | 2,_ => exact ⟨by decide,by decide⟩
    | 3,_ => exact ⟨by decide,by decide⟩
  have hs : Dw.Pp.splitL P.data.toList = some (Dw.Pp.names l,Lib.decDigits z,Lib.decDigits x,Lib.decDigits y) := by
    rw [Dw.Pp.splitL_iff,hP]
    exact ⟨rfl,hn.1,dec_num (by omega),dec_num (by omega),dec_num (by omega)⟩
  have := Dw.parseL_ok _ _ _ _ _ hs (by rw [hn.2,dec_val,dec_val,dec_val]; exact he)
  unfold prs
  rw [this,hn.2,dec_val,dec_val,dec_val]
theorem no64 {k : K4} (h : KOk k) : (64 : UInt8) ∉ Dw.printL k.l.toNat k.z.toNat k.x.toNat k.y.toNat := by
  obtain ⟨l,z,x,y,rfl,hl,_⟩ := h.nat
  simp only [Int.toNat_natCast]
  have hd : ∀ n : Nat,(64 : UInt8) ∉ Lib.decDigits n := fun n => Dw.Pp.within_not 48 57 _ 64 (Or.inr (by decide)) (dec_within n)
  have hn : (64 : UInt8) ∉ Dw.Pp.names l := by
    match l,hl with
    | 0,_ => decide
    | 1,_ => decide
    | 2,_ => decide
    | 3,_ => decide
  unfold Dw.printL
  have ht : (64 : UInt8) ∉ Dw.Pp.dotTile := by decide
  intro q
  rcases List.mem_cons.1 q with q | q
  . exact absurd q (by decide)
  rcases List.mem_append.1 q with q | q
  . exact hn q
  rcases List.mem_cons.1 q with q | q
  . exact absurd q (by decide)
  rcases List.mem_append.1 q with q | q
  . exact hd _ q
  rcases List.mem_cons.1 q with q | q
  . exact absurd q (by decide)
  rcases List.mem_append.1 q with q | q
  . exact hd _ q
  rcases List.mem_cons.1 q with q | q
  . exact absurd q (by decide)
  rcases List.mem_append.1 q with q | q
  . exact hd _ q
  . exact ht q
theorem tag_inj : ∀ k k' : K4,∀ s s' : Int,KOk k -> KOk k' -> 0 <= s -> 0 <= s' -> Oz.tag k s = Oz.tag k' s' -> k = k' /\ s = s' := by
  intro k k' s s' hk hk' hs hs' h
  have h1 : (tagB k s).data.toList = (tagB k' s').data.toList := by rw [show tagB k s = tagB k' s' from h]
  have c1 := Dw.Pp.cutL_found 64 (Lib.decDigits s.toNat) _ (no64 hk)
  have c2 := Dw.Pp.cutL_found 64 (Lib.decDigits s'.toNat) _ (no64 hk')
  have h2 : Dw.printL k.l.toNat k.z.toNat k.x.toNat k.y.toNat ++ 64 :: Lib.decDigits s.toNat = Dw.printL k'.l.toNat k'.z.toNat k'.x.toNat k'.y.toNat ++ 64 :: Lib.decDigits s'.toNat := h1
  rw [h2,c2] at c1
  simp only [Prod.mk.injEq] at c1
  have p1 := parse_path hk ⟨(Dw.printL k.l.toNat k.z.toNat k.x.toNat k.y.toNat).toArray⟩ rfl
  have p2 := parse_path hk' ⟨(Dw.printL k'.l.toNat k'.z.toNat k'.x.toNat k'.y.toNat).toArray⟩ rfl
  rw [<- c1.1,p2] at p1
  have v1 := dec_val s.toNat
  have v2 := dec_val s'.toNat
  rw [c1.2] at v2
  exact ⟨(Prod.mk.inj p1).1.symm,by omega⟩
def midF (k : K4) : Ft := fun j => if j = 1 then k.l else if j = 2 then 1 else if j = 7 then 1 else if j = 8 then (k.x * 8 + 4) * un k.z else if j = 16 then (k.y * 8 + 4) * un k.z else 0
theorem mid_in {k : K4} (h : KOk k) : 0 <= (k.x * 8 + 4) * un k.z /\ (k.x * 8 + 4) * un k.z <= 1073741824 /\ 0 <= (k.y * 8 + 4) * un k.z /\ (k.y * 8 + 4) * un k.z <= 1073741824 /\ 32 <= un k.z /\ un k.z <= 134217728 := by
  have hz := h.z
  obtain ⟨_,u1,u2,u3⟩ := un_eq k.z.toNat (by omega)
  have e : un k.z = (2 : Int) ^ (27 - k.z.toNat) := rfl
  rw [<- e] at u1 u2 u3
  have key : ∀ a : Int,0 <= a -> a < (2 : Int) ^ k.z.toNat -> 0 <= (a * 8 + 4) * un k.z /\ (a * 8 + 4) * un k.z <= 1073741824 := by
    intro a h0 h1
    have m1 : 0 <= a * un k.z := Int.mul_nonneg h0 (by omega)
    have m2 : (a + 1) * un k.z <= (2 : Int) ^ k.z.toNat * un k.z := Int.mul_le_mul_of_nonneg_right (by omega) (by omega)
    rw [u3,Int.add_mul] at m2
    rw [Int.add_mul,Int.mul_assoc,Int.mul_comm 8,<- Int.mul_assoc]
    omega
  obtain ⟨a1,a2⟩ := key k.x h.x.1 h.x.2
  obtain ⟨b1,b2⟩ := key k.y h.y.1 h.y.2
  exact ⟨a1,a2,b1,b2,u1,u2⟩
theorem mid_tch {k : K4} (h : KOk k) : Tch (mk (midF k)) k.l k.z k.x k.y = true := by
  have hl := h.l
  have hz := h.z
  obtain ⟨x0,x1,y0,y1,u0,u1⟩ := mid_in h
  have e1 : mk (midF k) 1 = k.l := by
    rw [mk_lo _ 1 (by omega)]
    show pk (midF k 1) 4 = _
    show pk k.l 4 = _
    unfold pk
    rw [if_neg (by omega)]
    omega
  have e5 : mk (midF k) 5 = 0 := by rw [mk_lo _ 5 (by omega)]; rfl
  have e6 : mk (midF k) 6 = 1 := by rfl
  have e7 : mk (midF k) 7 = 1 := by rfl
  have e8 : mk (midF k) 8 = (k.x * 8 + 4) * un k.z := by
    have : mk (midF k) 8 = pk ((k.x * 8 + 4) * un k.z) 1073741825 := rfl
    rw [this]
    unfold pk
    rw [if_neg (by omega)]
    omega
  have e16 : mk (midF k) 16 = (k.y * 8 + 4) * un k.z := by
    have : mk (midF k) 16 = pk ((k.y * 8 + 4) * un k.z) 1073741825 := rfl
    rw [this]
    unfold pk
    rw [if_neg (by omega)]
    omega
  have ax : ∀ (g : Nat -> Int) (a : Int),g 0 = (a * 8 + 4) * un k.z -> axT g 1 (1 * un k.z) (8 * a * un k.z) (8 * (a + 1) * un k.z) = true := by
    intro g a hg
    have q1 : (a * 8 + 4) * un k.z = 8 * a * un k.z + 4 * un k.z := by rw [Int.add_mul,Int.mul_comm a 8]
    have q2 : 8 * (a + 1) * un k.z = 8 * a * un k.z + 8 * un k.z := by rw [Int.mul_add,Int.mul_one,Int.add_mul]
    unfold axT apB apA
    simp only [List.range_one,List.all_cons,List.all_nil,Bool.and_true,hg,q1,q2,Int.one_mul]
    rw [decide_eq_false (by omega),decide_eq_false (by omega)]
    rfl
  unfold Tch
  rw [right_in (mk_rt (midF k)),e7,e6]
  simp only [Bool.true_and,Bool.and_eq_true,decide_eq_true_eq]
  refine ⟨⟨h.err,?_⟩,ax _ k.x e8,ax _ k.y e16⟩
  unfold shw
  rw [e1,e5]
  simp only [decide_true,Bool.true_and,decide_eq_true_eq]
  omega
theorem put_stamp {n : Int} (hn : 0 <= n) {e : Nat -> Int} (h0 : e 0 = 0) {LS LS' : List Ft} (h : EditR (n + 1) e LS 0 LS') {k : K4} (ht : Tch (eF e) k.l k.z k.x k.y = true) : stK (n + 1) k LS' = n + 1 := by
  unfold stK
  have ht' : Tch (fun j => e (1 + j)) k.l k.z k.x k.y = true := ht
  rcases h with ⟨_,h⟩ | ⟨h1,_⟩ | ⟨h1,_⟩
  . rcases h with ⟨_,h,_⟩ | ⟨_,h⟩
    . cases h
    . rcases h with ⟨i,_,_,rfl⟩ | ⟨_,_,h,_⟩ | ⟨_,_,_,rfl⟩
      . rw [stp_join_new _ hn,ht']; rfl
      . cases h
      . rw [stp_join_new _ hn,ht']; rfl
  . omega
  . exact absurd h0 h1
abbrev tagP (F : FM) (k : K4) : ByteArray := Oz.tag k (Oz.stamp F.LS F.ver k)
theorem same_rep (F : FM) (k : K4) : (arrR Oz F k 0 (tagP F k)).2 = [⟨F.arrived,304,⟨#[]⟩,tagP F k⟩] := by
  unfold arrR FM.arriveK
  rw [if_pos rfl]
  dsimp only [FM.stamp]
  rw [if_pos rfl]
theorem cached_rep {F : FM} (h : Ok Oz F) {k : K4} {t : Tile} (hf : findT F.tiles k = some t) {tag : ByteArray} (ht : tag ≠ tagP F k) : (arrR Oz F k 0 tag).2 = [⟨F.arrived,200,Oz.body (F.FLs F.ver) k,tagP F k⟩] := by
  obtain ⟨h1,h2⟩ := findT_some hf
  have h3 := (h.til t h1).2
  rw [h2] at h3
  unfold arrR FM.arriveK
  rw [if_pos rfl]
  dsimp only [FM.stamp]
  rw [if_neg ht,hf]
  dsimp only
  rw [h3]
  rfl
theorem wr_none {F : FM} {LS' FL' : List Ft} {k : K4} (hs : stK ((F.ver : Int) + 1) k LS' = (F.ver : Int) + 1) : findT (F.write Oz LS' FL').tiles k = none := by
  cases hf : findT (F.write Oz LS' FL').tiles k with
  | none => rfl
  | some t =>
    obtain ⟨h1,h2⟩ := findT_some hf
    have h3 := (List.mem_filter.1 h1).2
    rw [h2] at h3
    have h4 : stK (((F.ver + 1 : Nat) : Int)) k LS' <= (F.ver : Int) := of_decide_eq_true h3
    rw [show (((F.ver + 1 : Nat) : Int)) = (F.ver : Int) + 1 from by omega] at h4
    omega
theorem wr_tag {F : FM} (h : Ok Oz F) {LS' FL' : List Ft} {k : K4} (hk : KOk k) (hs : stK ((F.ver : Int) + 1) k LS' = (F.ver : Int) + 1) : tagP F k ≠ tagP (F.write Oz LS' FL') k := by
  intro e
  have hr := h.hi.rng F.ver (Nat.le_refl _) k hk
  have hs' : Oz.stamp (F.write Oz LS' FL').LS (F.write Oz LS' FL').ver k = (F.ver : Int) + 1 := by
    show stK (((F.ver + 1 : Nat) : Int)) k LS' = _
    rw [show (((F.ver + 1 : Nat) : Int)) = (F.ver : Int) + 1 from by omega,hs]
  have := (tag_inj k k _ _ hk hk hr.1 (by rw [hs']; omega) e).2
  rw [hs'] at this
  have := hr.2
  omega
theorem wr_rep {F : FM} (h : Ok Oz F) (hw : F.waiting = []) {LS' FL' : List Ft} {k : K4} (hk : KOk k) (hs : stK ((F.ver : Int) + 1) k LS' = (F.ver : Int) + 1) : (arrR Oz (F.write Oz LS' FL') k 0 (tagP F k)).2 = [] := by
  have h1 := wr_tag (LS' := LS') (FL' := FL') h hk hs
  have h2 := wr_none (F := F) (FL' := FL') hs
  have hq := h.q
  unfold arrR FM.arriveK
  rw [if_pos rfl]
  dsimp only [FM.stamp]
  rw [if_neg h1,h2]
  dsimp only
  rw [if_neg (by show ¬ F.queue <= F.waiting.length; rw [hw]; simp; omega)]
def edK (k : K4) : Nat -> Int := fun j => if j = 0 then 0 else midF k (j - 1)
theorem eF_edK (k : K4) : eF (edK k) = midF k := by
  funext j
  unfold eF edK
  rw [if_neg (by omega),show 1 + j - 1 = j from by omega]
theorem wr_stamp {v : Nat} {LS LS' : List Ft} {k : K4} (hk : KOk k) (h : AppK ((v : Int) + 1) (gf (mkEs (fun _ => edK k) (min 1 8))) LS (mkEs (fun _ => edK k) (min 1 8)).length LS') : stK ((v : Int) + 1) k LS' = (v : Int) + 1 := by
  rw [mkEs_len] at h
  change AppK _ _ LS 1 LS' at h
  obtain ⟨A,hA,hE⟩ := h
  cases hA
  rw [gf_mkEs _ _ _ (by decide)] at hE
  refine put_stamp (by omega) ?_ hE ?_
  . rfl
  . rw [eF_mkE,eF_edK]
    exact mid_tch hk
theorem bt35z (ev : Operand -> Value) (o : Oper) (ho : o.op = .build 35 #[]) (w : World) : (execOp ev o).run Tryz.prog w = .ok (.value (.agg #[.int .i64 0,.int .i64 0,.string ⟨#[]⟩,.string ⟨#[]⟩])) w := by
  have hb := run_build (P := Tryz.prog) w 35 #[] #[.int .i64 0,.int .i64 0,.string ⟨#[]⟩,.string ⟨#[]⟩] (by kernel_rfl)
  unfold execOp
  simp [ho,hb]
set_option maxHeartbeats 6400000 in
theorem last_no (w0 : Bas) (bb fb : Nat) (F : FM) (M : BM) (m : Nat) (a : Ask) (w : World) (h : StE w0 w bb fb F M) (hm : M.reqs.length = m + 1) (ha : M.reqs[m]? = some a) (hs : a.said = -1) (hl : m <= 1420000000000) :
    Calls Tryz.prog 18 #[.pointer (some ⟨bb,0,none⟩)] w fun e w' => e = .returned (.tuple #[.agg #[.int .i64 0,.int .i64 0,.string ⟨#[]⟩,.string ⟨#[]⟩],.bool false]) /\ Below w.heap.size w w' := by
  obtain ⟨Φ,Ψ,B,WS,hS⟩ := h
  obtain ⟨w1,hw1⟩ : ∃ w1,w.alloc (.cells #[.int .i64 0,.int .i64 0,.string ⟨#[]⟩,.string ⟨#[]⟩] 35) = w1 := ⟨_,rfl⟩
  have hb1 : Below w.heap.size w w1 := hw1 ▸ (Below.refl w.heap.size w).alloc (Nat.le_refl _) (.cells #[.int .i64 0,.int .i64 0,.string ⟨#[]⟩,.string ⟨#[]⟩] 35)
  have hA1 : w1.heap[w.heap.size]? = some (.cells #[.int .i64 0,.int .i64 0,.string ⟨#[]⟩,.string ⟨#[]⟩] 35 (0,0)) := hw1 ▸ heap_alloc_new w (.cells #[.int .i64 0,.int .i64 0,.string ⟨#[]⟩,.string ⟨#[]⟩] 35 (0,0))
  have HAL := hide (show ∀ (W : World) (ev : Operand -> Value) (o : Oper),o.op = .alloc 35 -> W = w -> (execOp ev o).run Tryz.prog W = .ok (.value (.pointer (some ⟨w.heap.size,0,none⟩))) w1 from fun W ev o q e => by subst e; exact al35 ev o q W w1 hw1)
  have hS1 := hS.on hb1
  obtain ⟨g8,off8,cap8,e8,hrg8,_⟩ := hS1.bk.mem.req.spot ha
  rw [hm] at e8
  have c8 : w1.cell? ⟨bb,8,none⟩ = some (.slice (some ⟨g8,off8,none⟩) (m + 1) cap8) := by rw [<- e8]; exact hS1.bk.blk.cells 8
  have c12 : w1.cell? ⟨bb,12,none⟩ = some (.bool false) := hS1.bk.blk.cells 12
  have cs : w1.cell? ⟨g8,off8 + m * 10 + 9,none⟩ = some (.int .i64 a.said) := hrg8 9 _ rfl
  have d0 : decide ((m : Int) < 0) = false := decide_eq_false (by omega)
  have hmI : (m : Int) < (m : Int) + 1 := by omega
  have hov : IntKind.i64.wrap (m : Int) = (m : Int) := i64_of _ (by omega)
  rw [hs] at cs
  obtain ⟨w2,hw2⟩ : ∃ w2,w1.setRow w.heap.size #[.int .i64 0,.int .i64 0,.string ⟨#[]⟩,.string ⟨#[]⟩] = w2 := ⟨_,rfl⟩
  have hA2 : w2.heap[w.heap.size]? = some (.cells #[.int .i64 0,.int .i64 0,.string ⟨#[]⟩,.string ⟨#[]⟩] 35 (0,0)) := hw2 ▸ setRow_heap _ _ _ #[.int .i64 0,.int .i64 0,.string ⟨#[]⟩,.string ⟨#[]⟩] _ _ hA1
  have hb2 : Below w.heap.size w w2 := hw2 ▸ below_setRow hb1 (Nat.le_refl _) #[.int .i64 0,.int .i64 0,.string ⟨#[]⟩,.string ⟨#[]⟩]
  have HST := hide (show ∀ (W : World) (ev : Operand -> Value) (o : Oper) (s t : Operand),o.op = .store 35 s t -> ev s = .pointer (some ⟨w.heap.size,0,none⟩) -> ev t = .agg #[.int .i64 0,.int .i64 0,.string ⟨#[]⟩,.string ⟨#[]⟩] -> W = w1 -> (execOp ev o).run Tryz.prog W = .ok .skip w2 from fun W ev o s t q q1 q2 e => by subst e; exact hw2 ▸ stR ev o s t 35 q #[.int .i64 0,.int .i64 0,.string ⟨#[]⟩,.string ⟨#[]⟩] #[.int .i64 0,.int .i64 0,.string ⟨#[]⟩,.string ⟨#[]⟩] (sz35 _ _ _ _) (rep_one _ _ _ _) rfl w.heap.size q1 q2 W hA1)
  have HBU := hide (show ∀ (W : World) (ev : Operand -> Value) (o : Oper),o.op = .build 35 #[] -> (execOp ev o).run Tryz.prog W = .ok (.value (.agg #[.int .i64 0,.int .i64 0,.string ⟨#[]⟩,.string ⟨#[]⟩])) W from fun W ev o q => bt35z ev o q W)
  have H2 := hide (show w2.heap[w.heap.size]? = some (.cells #[.int .i64 0,.int .i64 0,.string ⟨#[]⟩,.string ⟨#[]⟩] 35 (0,0)) /\ Below w.heap.size w w2 from ⟨hA2,hb2⟩)
  clear hS hS1 hw1 hb1 hA1 e8 hrg8 hw2 hA2 hb2 ha
  go_enter Tryz.func18,Tryz.ntmps18
  go_wp2_with (first | refine wlV _ _ (unhide HAL _ _ _ rfl rfl) rfl ?_ | refine wlV _ _ (unhide HBU _ _ _ rfl) rfl ?_ | refine wlSk _ (unhide HST _ _ _ _ _ rfl rfl rfl rfl) rfl ?_)
  exact bodyPost_ret (v := .tuple #[.agg #[.int .i64 0,.int .i64 0,.string ⟨#[]⟩,.string ⟨#[]⟩],.bool false]) (res_cell_tmp Tryz.results18 _ _ w.heap.size 35 #[.int .i64 0,.int .i64 0,.string ⟨#[]⟩,.string ⟨#[]⟩] (0,0) _ (.bool false) rfl rfl (unhide H2).1 Tryz.underlying35 rfl (sz35 _ _ _ _)) rfl ⟨rfl,(unhide H2).2⟩
set_option maxHeartbeats 6400000 in
theorem last_yes (w0 : Bas) (bb fb : Nat) (F : FM) (M : BM) (m sn : Nat) (a : Ask) (who st : Int) (bd tg : ByteArray) (sv sm sb : Int) (w : World) (h : StE w0 w bb fb F M) (hm : M.reqs.length = m + 1) (ha : M.reqs[m]? = some a) (hs : a.said = sn) (hss : M.says[sn]? = some ⟨⟨who,st,bd,tg⟩,sv,sm,sb⟩) (hl : m <= 1420000000000) :
    Calls Tryz.prog 18 #[.pointer (some ⟨bb,0,none⟩)] w fun e w' => e = .returned (.tuple #[.agg #[.int .i64 who,.int .i64 st,.string bd,.string tg],.bool true]) /\ Below w.heap.size w w' := by
  obtain ⟨Φ,Ψ,B,WS,hS⟩ := h
  obtain ⟨w1,hw1⟩ : ∃ w1,w.alloc (.cells #[.int .i64 0,.int .i64 0,.string ⟨#[]⟩,.string ⟨#[]⟩] 35) = w1 := ⟨_,rfl⟩
  have hb1 : Below w.heap.size w w1 := hw1 ▸ (Below.refl w.heap.size w).alloc (Nat.le_refl _) (.cells #[.int .i64 0,.int .i64 0,.string ⟨#[]⟩,.string ⟨#[]⟩] 35)
  have hA1 : w1.heap[w.heap.size]? = some (.cells #[.int .i64 0,.int .i64 0,.string ⟨#[]⟩,.string ⟨#[]⟩] 35 (0,0)) := hw1 ▸ heap_alloc_new w (.cells #[.int .i64 0,.int .i64 0,.string ⟨#[]⟩,.string ⟨#[]⟩] 35 (0,0))
  have HAL := hide (show ∀ (W : World) (ev : Operand -> Value) (o : Oper),o.op = .alloc 35 -> W = w -> (execOp ev o).run Tryz.prog W = .ok (.value (.pointer (some ⟨w.heap.size,0,none⟩))) w1 from fun W ev o q e => by subst e; exact al35 ev o q W w1 hw1)
  have hS1 := hS.on hb1
  obtain ⟨g8,off8,cap8,e8,hrg8,_⟩ := hS1.bk.mem.req.spot ha
  rw [hm] at e8
  have c8 : w1.cell? ⟨bb,8,none⟩ = some (.slice (some ⟨g8,off8,none⟩) (m + 1) cap8) := by rw [<- e8]; exact hS1.bk.blk.cells 8
  have c12 : w1.cell? ⟨bb,12,none⟩ = some (.bool false) := hS1.bk.blk.cells 12
  have cs : w1.cell? ⟨g8,off8 + m * 10 + 9,none⟩ = some (.int .i64 a.said) := hrg8 9 _ rfl
  have d0 : decide ((m : Int) < 0) = false := decide_eq_false (by omega)
  have hmI : (m : Int) < (m : Int) + 1 := by omega
  have hov : IntKind.i64.wrap (m : Int) = (m : Int) := i64_of _ (by omega)
  rw [hs] at cs
  obtain ⟨g9,off9,cap9,e9,hrg9,_⟩ := hS1.bk.mem.say.spot hss
  have c9 : w1.cell? ⟨bb,9,none⟩ = some (.slice (some ⟨g9,off9,none⟩) M.says.length cap9) := by rw [<- e9]; exact hS1.bk.blk.cells 9
  have hrg : w1.rangeAt g9 (off9 + sn * 7) (#[.int .i64 who,.int .i64 st,.string bd,.string tg] : Array Value).toList := rngP (C := [.int .i64 sv,.int .i64 sm,.int .i64 sb]) hrg9
  have hsl : sn < M.says.length := (List.getElem?_eq_some_iff.1 hss).1
  have hsi : (sn : Int) < (M.says.length : Int) := by omega
  have d1 : ((sn : Int) == -1) = false := by simp
  have l8 : g8 < w.heap.size := hS.bk.mem.req.lt (by have := hS1.bk.mem.req.ty (g := g8) (by rw [e8]; rfl); rw [e8]; rfl)
  have l9 : g9 < w.heap.size := hS.bk.mem.say.lt (by rw [e9]; rfl)
  have lb : bb < w.heap.size := blk_lt hS.bk.blk
  have hsz : w.heap.size < w1.heap.size := blk_lt hA1
  have HALL := hide (show ∀ w' : World,(∀ k,k < w1.heap.size -> k ≠ w.heap.size -> w'.heap[k]? = w1.heap[k]?) -> w'.cell? ⟨bb,9,none⟩ = some (.slice (some ⟨g9,off9,none⟩) M.says.length cap9) /\ w'.cell? ⟨bb,8,none⟩ = some (.slice (some ⟨g8,off8,none⟩) (m + 1) cap8) /\ w'.cell? ⟨g8,off8 + m * 10 + 9,none⟩ = some (.int .i64 sn) /\ w'.rangeAt g9 (off9 + sn * 7) (#[.int .i64 who,.int .i64 st,.string bd,.string tg] : Array Value).toList from fun w' hk => ⟨(World.cell?_of_block (a := ⟨bb,9,none⟩) (hk bb (by omega) (by omega))).trans c9,(World.cell?_of_block (a := ⟨bb,8,none⟩) (hk bb (by omega) (by omega))).trans c8,(World.cell?_of_block (a := ⟨g8,off8 + m * 10 + 9,none⟩) (hk g8 (by omega) (by omega))).trans cs,fun j v hv => (World.cell?_of_block (a := ⟨g9,off9 + sn * 7 + j,none⟩) (hk g9 (by omega) (by omega))).trans (hrg j v hv)⟩)
  have H1 := hide (show w1.heap[w.heap.size]? = some (.cells #[.int .i64 0,.int .i64 0,.string ⟨#[]⟩,.string ⟨#[]⟩] 35 (0,0)) /\ Below w.heap.size w w1 from ⟨hA1,hb1⟩)
  clear hS hS1 hw1 hb1 hA1 e8 hrg8 e9 hrg9 ha hss hs l8 l9 lb hsz hrg
  go_enter Tryz.func18,Tryz.ntmps18
  go_wp2_with (refine wlV _ _ (unhide HAL _ _ _ rfl rfl) rfl ?_)
  refine wp_region_held (S := fun w' => w'.cell? ⟨bb,9,none⟩ = some (.slice (some ⟨g9,off9,none⟩) M.says.length cap9) /\ w'.cell? ⟨bb,8,none⟩ = some (.slice (some ⟨g8,off8,none⟩) (m + 1) cap8) /\ w'.cell? ⟨g8,off8 + m * 10 + 9,none⟩ = some (.int .i64 sn) /\ w'.rangeAt g9 (off9 + sn * 7) (#[.int .i64 who,.int .i64 st,.string bd,.string tg] : Array Value).toList) (by kernel_rfl) ?_
  change wpAnyH _ _ _ _ _ _ _ _ (World.drew _)
  have hbD := (Below.refl w1.heap.size w1).drew
  obtain ⟨hA1,hb1⟩ := unhide H1
  have hA2 : (World.drew w1).heap[w.heap.size]? = some (.cells #[.int .i64 0,.int .i64 0,.string ⟨#[]⟩,.string ⟨#[]⟩] 35 (0,0)) := hA1
  generalize World.drew w1 = w2 at hbD hA2 ⊢
  have hS2 := unhide HALL w2 (fun k hk _ => hbD.block k hk)
  have hb2 := hb1.trans (hbD.mono hb1.size)
  obtain ⟨w3,hw3⟩ : ∃ w3,w2.setRow w.heap.size #[.int .i64 who,.int .i64 st,.string bd,.string tg] = w3 := ⟨_,rfl⟩
  have hA3 : w3.heap[w.heap.size]? = some (.cells #[.int .i64 who,.int .i64 st,.string bd,.string tg] 35 (0,0)) := hw3 ▸ setRow_heap _ _ _ #[.int .i64 who,.int .i64 st,.string bd,.string tg] _ _ hA2
  have hb3 : Below w.heap.size w w3 := hw3 ▸ below_setRow hb2 (Nat.le_refl _) #[.int .i64 who,.int .i64 st,.string bd,.string tg]
  have hS3 := unhide HALL w3 (fun k hk hne => by rw [<- hw3,heap_setRow_ne w2 w.heap.size #[.int .i64 who,.int .i64 st,.string bd,.string tg] hne]; exact hbD.block k hk)
  have HST := hide (show ∀ (ev : Operand -> Value) (o : Oper) (s t : Operand),o.op = .store 35 s t -> ev s = .pointer (some ⟨w.heap.size,0,none⟩) -> ev t = .agg #[.int .i64 who,.int .i64 st,.string bd,.string tg] -> (execOp ev o).run Tryz.prog w2 = .ok .skip w3 from fun ev o s t q q1 q2 => hw3 ▸ stR ev o s t 35 q #[.int .i64 who,.int .i64 st,.string bd,.string tg] #[.int .i64 0,.int .i64 0,.string ⟨#[]⟩,.string ⟨#[]⟩] (sz35 _ _ _ _) (rep_one _ _ _ _) rfl w.heap.size q1 q2 w2 hA2)
  have H3 := hide (show w3.heap[w.heap.size]? = some (.cells #[.int .i64 who,.int .i64 st,.string bd,.string tg] 35 (0,0)) /\ Below w.heap.size w w3 from ⟨hA3,hb3⟩)
  clear hA1 hb1 hA2 hb2 hw3 hA3 hb3 hbD H1
  refine t_tk 0 rfl (.pointer (some ⟨bb,0,none⟩)) (by kernel_rfl) (fun _ _ _ h => h) rfl (fun w' hw' => by simp [go_sem]) hS2 ?_
  simp only [Act.put,qA,qB,qC]
  refine t_tk 1 rfl (.pointer (some ⟨bb,0,none⟩)) (by kernel_rfl) (fun _ _ _ h => h) rfl (fun w' hw' => by simp [go_sem]) hS2 ?_
  simp only [Act.put,qA,qB,qC]
  refine t_tk 2 rfl (.pointer (some ⟨bb,9,none⟩)) (by kernel_rfl) (fun _ _ _ h => h) rfl (fun w' hw' => by simp [go_sem]) hS2 ?_
  simp only [Act.put,qA,qB,qC]
  refine t_tk 3 rfl (.slice (some ⟨g9,off9,none⟩) M.says.length cap9) (by kernel_rfl) (fun _ _ _ h => h) rfl (fun w' hw' => by simp [go_sem,hw'.1]) hS2 ?_
  simp only [Act.put,qA,qB,qC]
  refine t_tk 4 rfl (.pointer (some ⟨bb,0,none⟩)) (by kernel_rfl) (fun _ _ _ h => h) rfl (fun w' hw' => by simp [go_sem]) hS2 ?_
  simp only [Act.put,qA,qB,qC]
  refine t_tk 5 rfl (.pointer (some ⟨bb,0,none⟩)) (by kernel_rfl) (fun _ _ _ h => h) rfl (fun w' hw' => by simp [go_sem]) hS2 ?_
  simp only [Act.put,qA,qB,qC]
  refine t_tk 6 rfl (.pointer (some ⟨bb,8,none⟩)) (by kernel_rfl) (fun _ _ _ h => h) rfl (fun w' hw' => by simp [go_sem]) hS2 ?_
  simp only [Act.put,qA,qB,qC]
  refine t_tk 7 rfl (.slice (some ⟨g8,off8,none⟩) (m + 1) cap8) (by kernel_rfl) (fun _ _ _ h => h) rfl (fun w' hw' => by simp [go_sem,hw'.2.1]) hS2 ?_
  simp only [Act.put,qA,qB,qC]
  refine t_tk 8 rfl (.int .i64 m) (by kernel_rfl) (fun _ _ _ h => h) rfl (fun w' hw' => by simp [go_sem]) hS2 ?_
  simp only [Act.put,qA,qB,qC]
  refine t_tk 9 rfl (.pointer (some ⟨g8,off8 + m * 10,none⟩)) (by kernel_rfl) (fun _ _ _ h => h) rfl (fun w' hw' => by simp [go_sem,hmI]) hS2 ?_
  simp only [Act.put,qA,qB,qC]
  refine t_tk 10 rfl (.pointer (some ⟨g8,off8 + m * 10 + 9,none⟩)) (by kernel_rfl) (fun _ _ _ h => h) rfl (fun w' hw' => by simp [go_sem]) hS2 ?_
  simp only [Act.put,qA,qB,qC]
  refine t_tk 11 rfl (.int .i64 sn) (by kernel_rfl) (fun _ _ _ h => h) rfl (fun w' hw' => by simp [go_sem,hw'.2.2.1]) hS2 ?_
  simp only [Act.put,qA,qB,qC]
  refine t_tk 12 rfl (.pointer (some ⟨g9,off9 + sn * 7,none⟩)) (by kernel_rfl) (fun _ _ _ h => h) rfl (fun w' hw' => by simp [go_sem,hsi]) hS2 ?_
  simp only [Act.put,qA,qB,qC]
  refine t_tk 13 rfl (.pointer (some ⟨g9,off9 + sn * 7,none⟩)) (by kernel_rfl) (fun _ _ _ h => h) rfl (fun w' hw' => by simp [go_sem]) hS2 ?_
  simp only [Act.put,qA,qB,qC]
  refine t_tk 14 rfl (.agg #[.int .i64 who,.int .i64 st,.string bd,.string tg]) (by kernel_rfl) (fun _ _ _ h => h) rfl (fun w' hw' => ldcR _ _ _ 35 rfl _ rfl _ Tryz.underlying35 rfl (sz35 _ _ _ _) g9 (off9 + sn * 7) rfl _ hw'.2.2.2) hS2 ?_
  simp only [Act.put,qA,qB,qC]
  refine wpAnyH_all (rs := [15]) (by kernel_rfl) (by simp) ?_
  intro i hi
  simp only [List.mem_singleton] at hi
  subst hi
  refine t_skip 15 rfl rfl (w3) (unhide HST _ _ _ _ rfl rfl rfl) (hS3) ?_
  simp only [Act.put]
  refine t_tk 16 rfl (.bool true) (by kernel_rfl) (fun _ _ _ h => h) rfl (fun w' hw' => by simp [go_sem]) hS3 ?_
  simp only [Act.put,qA,qB,qC]
  refine wpAnyH_done (by kernel_rfl) ?_ _
  obtain ⟨hA3,hb3⟩ := unhide H3
  clear hS2 hS3 HST HALL
  go_wp2_with fail
  exact bodyPost_ret (v := .tuple #[.agg #[.int .i64 who,.int .i64 st,.string bd,.string tg],.bool true]) (res_cell_tmp Tryz.results18 _ _ w.heap.size 35 #[.int .i64 who,.int .i64 st,.string bd,.string tg] (0,0) _ (.bool true) rfl rfl hA3 Tryz.underlying35 rfl (sz35 _ _ _ _)) rfl ⟨rfl,hb3⟩
theorem keepUnit_any (z : Int) (w : World) (h1 : 0 <= z) (h2 : z <= 22) :
    Calls Tryz.prog 67 #[.int .i64 z] w fun e w' => e = .returned (.int .i64 (un z)) /\ w = w' := by
  obtain ⟨p1,p2,p3⟩ := un8 z.toNat (by omega)
  have hw : wrap64 (8 * (2 : Int) ^ z.toNat) = 8 * (2 : Int) ^ z.toNat := IntWalk.wrap64_in _ ⟨by omega,by omega⟩
  obtain ⟨D,hD⟩ : ∃ D,(8 : Int) * (2 : Int) ^ z.toNat = D := ⟨_,rfl⟩
  rw [hD] at p1 p2 p3
  have hw' : wrap64 (8 * (2 : Int) ^ z.toNat) = D := hw.trans hD
  have H : Hid (1073741824 / D = un z) := p3
  clear hD hw p3
  go_enter Tryz.func67,Tryz.ntmps67
  go_wp2
  go_ret
  exact ⟨ret_int (unhide H),rfl⟩
theorem al86 (W : World) (ev : Operand -> Value) (o : Oper) (ho : o.op = .alloc 86) (w w1 : World) (h1 : w.alloc (.cells (fc zf) 86) = w1) (e : W = w) : (execOp ev o).run Tryz.prog W = .ok (.value (.pointer (some ⟨w.heap.size,0,none⟩))) w1 := by
  subst e
  rw [<- h1]
  unfold execOp
  simp only [ho]
  kernel_rfl
theorem bx86 (W : World) (f : Ft) (ev : Operand -> Value) (o : Oper) (p : Operand) (ho : o.op = .box 86 p) (hp : ev p = .agg (fc f)) (w w1 : World) (h1 : w.alloc (.cells (fc f) 86) = w1) (e : W = w) : (execOp ev o).run Tryz.prog W = .ok (.value (.pointer (some ⟨w.heap.size,0,none⟩))) w1 := by
  subst e
  rw [<- h1]
  unfold execOp
  simp only [ho,hp]
  kernel_rfl
def pok0 (l : Int) : Ft := fun j => if j = 0 then 1 else if j = 1 then l else if j = 2 then 1 else if j = 3 then 1 else if j = 6 then 1 else if j = 7 then 1 else 0
theorem built_pok (l : Int) : Tryz.prog.built 86 [(0,.int .i64 1),(1,.int .i64 l),(2,.int .i64 1),(3,.int .i64 1),(6,.int .i64 1),(7,.int .i64 1)] = some (fc (pok0 l)) := by kernel_rfl
theorem bt86p {l : Int} (ev : Operand -> Value) (o : Oper) (a b c d e f : Operand) (ho : o.op = .build 86 #[(0,a),(1,b),(2,c),(3,d),(6,e),(7,f)]) (h0 : ev a = .int .i64 1) (h1 : ev b = .int .i64 l) (h2 : ev c = .int .i64 1) (h3 : ev d = .int .i64 1) (h4 : ev e = .int .i64 1) (h5 : ev f = .int .i64 1) (w : World) : (execOp ev o).run Tryz.prog w = .ok (.value (.agg (fc (pok0 l)))) w := by
  have hb := run_build (P := Tryz.prog) w 86 #[(0,.int .i64 1),(1,.int .i64 l),(2,.int .i64 1),(3,.int .i64 1),(6,.int .i64 1),(7,.int .i64 1)] _ (built_pok l)
  unfold execOp
  simp [ho,h0,h1,h2,h3,h4,h5,hb]
theorem stW (W : World) (ev : Operand -> Value) (o : Oper) (s t : Operand) (q : o.op = .store 86 s t) (g : Nat) (f old : Ft) (q1 : ev s = .pointer (some ⟨g,0,none⟩)) (q2 : ev t = .agg (fc f)) (w w1 : World) (hg : w.heap[g]? = some (.cells (fc old) 86 (0,0))) (h1 : w.setRow g (fc f) = w1) (e : W = w) : (execOp ev o).run Tryz.prog W = .ok .skip w1 := by
  subst e
  rw [<- h1]
  exact stR ev o s t 86 q (fc f) (fc old) (szf f) (fc_one f) (by rw [fc_size,fc_size]) g q1 q2 W hg
theorem stIW (W : World) (ev : Operand -> Value) (o : Oper) (s t : Operand) (q : o.op = .store 3 s t) (g i : Nat) (n : Int) (q1 : ev s = .pointer (some ⟨g,i,none⟩)) (q2 : ev t = .int .i64 n) (w w1 : World) {u : Value} (hc : w.cell? ⟨g,i,none⟩ = some u) (hf : w.frozen? ⟨g,i,none⟩ = false) (h1 : w.setCell ⟨g,i,none⟩ (.int .i64 n) = w1) (e : W = w) : (execOp ev o).run Tryz.prog W = .ok .skip w1 := by
  subst e
  exact stI ev o s t q g i n q1 q2 W w1 hc hf h1
theorem blk_fc {w : World} {g : Nat} {f : Ft} (h : w.heap[g]? = some (.cells (fc f) 86 (0,0))) (i : Nat) (hi : i < 24) (v : Int) : (w.setCell ⟨g,i,none⟩ (.int .i64 v)).heap[g]? = some (.cells (fc (upd f i v)) 86 (0,0)) := blk_setL h i _ (fc_set f i v hi)
def pokF (k : K4) : Ft := upd (upd (pok0 k.l) 8 ((k.x * 8 + 4) * un k.z)) 16 ((k.y * 8 + 4) * un k.z)
set_option maxHeartbeats 6400000 in
theorem poke_any (l z x y : Int) (w : World) (hk : KOk ⟨l,z,x,y⟩) :
    Calls Tryz.prog 39 #[.agg #[.int .i64 l,.int .i64 z,.int .i64 x,.int .i64 y]] w fun e w' => e = .returned (.agg (fc (pokF ⟨l,z,x,y⟩))) /\ Below w.heap.size w w' := by
  obtain ⟨m1,m2,m3,m4,m5,m6⟩ := mid_in hk
  have hz := hk.z
  have hs := hk.small
  have hsx := hs.1
  have hsy := hs.2
  dsimp only at m1 m2 m3 m4 m5 m6 hz hsx hsy
  obtain ⟨w1,hw1⟩ : ∃ w1,w.alloc (.cells #[.int .i64 l,.int .i64 z,.int .i64 x,.int .i64 y] 39) = w1 := ⟨_,rfl⟩
  have hb1 : Below w.heap.size w w1 := hw1 ▸ (Below.refl w.heap.size w).alloc (Nat.le_refl _) (.cells #[.int .i64 l,.int .i64 z,.int .i64 x,.int .i64 y] 39)
  have hA1 : w1.heap[w.heap.size]? = some (.cells #[.int .i64 l,.int .i64 z,.int .i64 x,.int .i64 y] 39 (0,0)) := hw1 ▸ heap_alloc_new w (.cells #[.int .i64 l,.int .i64 z,.int .i64 x,.int .i64 y] 39 (0,0))
  have hs1 : w1.heap.size = w.heap.size + 1 := by rw [<- hw1]; simp
  obtain ⟨w2,hw2⟩ : ∃ w2,w1.alloc (.cells (fc zf) 86) = w2 := ⟨_,rfl⟩
  have hb2 : Below w1.heap.size w1 w2 := hw2 ▸ (Below.refl w1.heap.size w1).alloc (Nat.le_refl _) (.cells (fc zf) 86)
  have hR2 : w2.heap[w.heap.size + 1]? = some (.cells (fc zf) 86 (0,0)) := by rw [<- hs1]; exact hw2 ▸ heap_alloc_new w1 (.cells (fc zf) 86 (0,0))
  have hA2 := blk_on hA1 hb2
  have hs2 : w2.heap.size = w.heap.size + 2 := by rw [<- hw2]; simp [hs1]
  obtain ⟨w3,hw3⟩ : ∃ w3,w2.alloc (.cells (fc zf) 86) = w3 := ⟨_,rfl⟩
  have hb3 : Below w2.heap.size w2 w3 := hw3 ▸ (Below.refl w2.heap.size w2).alloc (Nat.le_refl _) (.cells (fc zf) 86)
  have hL3 : w3.heap[w.heap.size + 2]? = some (.cells (fc zf) 86 (0,0)) := by rw [<- hs2]; exact hw3 ▸ heap_alloc_new w2 (.cells (fc zf) 86 (0,0))
  have hA3 := blk_on hA2 hb3
  have hR3 := blk_on hR2 hb3
  obtain ⟨w4,hw4⟩ : ∃ w4,w3.setRow (w.heap.size + 2) (fc (pok0 l)) = w4 := ⟨_,rfl⟩
  have hL4 : w4.heap[w.heap.size + 2]? = some (.cells (fc (pok0 l)) 86 (0,0)) := hw4 ▸ setRow_heap _ _ _ (fc (pok0 l)) _ _ hL3
  have hA4 : w4.heap[w.heap.size]? = some (.cells #[.int .i64 l,.int .i64 z,.int .i64 x,.int .i64 y] 39 (0,0)) := by rw [<- hw4,heap_setRow_ne _ _ _ (by omega)]; exact hA3
  have hR4 : w4.heap[w.heap.size + 1]? = some (.cells (fc zf) 86 (0,0)) := by rw [<- hw4,heap_setRow_ne _ _ _ (by omega)]; exact hR3
  obtain ⟨w5,hw5⟩ : ∃ w5,w4.setCell ⟨w.heap.size + 2,8,none⟩ (.int .i64 ((x * 8 + 4) * un z)) = w5 := ⟨_,rfl⟩
  have hL5 : w5.heap[w.heap.size + 2]? = some (.cells (fc (upd (pok0 l) 8 ((x * 8 + 4) * un z))) 86 (0,0)) := hw5 ▸ blk_fc hL4 8 (by omega) _
  have hA5 : w5.heap[w.heap.size]? = some (.cells #[.int .i64 l,.int .i64 z,.int .i64 x,.int .i64 y] 39 (0,0)) := by rw [<- hw5,Below.heap_setCell _ _ _ _ (by show w.heap.size ≠ w.heap.size + 2; omega)]; exact hA4
  have hR5 : w5.heap[w.heap.size + 1]? = some (.cells (fc zf) 86 (0,0)) := by rw [<- hw5,Below.heap_setCell _ _ _ _ (by show w.heap.size + 1 ≠ w.heap.size + 2; omega)]; exact hR4
  obtain ⟨w6,hw6⟩ : ∃ w6,w5.setCell ⟨w.heap.size + 2,16,none⟩ (.int .i64 ((y * 8 + 4) * un z)) = w6 := ⟨_,rfl⟩
  have hL6 : w6.heap[w.heap.size + 2]? = some (.cells (fc (pokF ⟨l,z,x,y⟩)) 86 (0,0)) := hw6 ▸ blk_fc hL5 16 (by omega) _
  have hR6 : w6.heap[w.heap.size + 1]? = some (.cells (fc zf) 86 (0,0)) := by rw [<- hw6,Below.heap_setCell _ _ _ _ (by show w.heap.size + 1 ≠ w.heap.size + 2; omega)]; exact hR5
  obtain ⟨w7,hw7⟩ : ∃ w7,w6.setRow (w.heap.size + 1) (fc (pokF ⟨l,z,x,y⟩)) = w7 := ⟨_,rfl⟩
  have hR7 : w7.heap[w.heap.size + 1]? = some (.cells (fc (pokF ⟨l,z,x,y⟩)) 86 (0,0)) := hw7 ▸ setRow_heap _ _ _ (fc _) _ _ hR6
  have hB3 : Below w.heap.size w w3 := hb1.trans ((hb2.trans (hb3.mono hb2.size)).mono hb1.size)
  have hB7 : Below w.heap.size w w7 := by
    have b4 : Below w.heap.size w w4 := hw4 ▸ below_setRow hB3 (by omega) _
    have b5 : Below w.heap.size w w5 := hw5 ▸ b4.setCell (p := ⟨w.heap.size + 2,8,none⟩) (by show w.heap.size <= w.heap.size + 2; omega) _
    have b6 : Below w.heap.size w w6 := hw6 ▸ b5.setCell (p := ⟨w.heap.size + 2,16,none⟩) (by show w.heap.size <= w.heap.size + 2; omega) _
    exact hw7 ▸ below_setRow b6 (by omega) _
  have S0 := hide (show ∀ (W : World) (ev : Operand -> Value) (o : Oper) (p : Operand),o.op = .box 39 p -> ev p = .agg #[.int .i64 l,.int .i64 z,.int .i64 x,.int .i64 y] -> W = w -> (execOp ev o).run Tryz.prog W = .ok (.value (.pointer (some ⟨w.heap.size,0,none⟩))) w1 from fun W ev o p q1 q2 e => by
    subst e
    rw [<- hw1]
    unfold execOp
    simp only [q1,q2]
    kernel_rfl)
  have S1 := hide (show ∀ (W : World) (ev : Operand -> Value) (o : Oper),o.op = .alloc 86 -> W = w1 -> (execOp ev o).run Tryz.prog W = .ok (.value (.pointer (some ⟨w.heap.size + 1,0,none⟩))) w2 from fun W ev o q e => hs1 ▸ al86 W ev o q w1 w2 hw2 e)
  have S2 := hide (show ∀ (W : World) (ev : Operand -> Value) (o : Oper),o.op = .alloc 86 -> W = w2 -> (execOp ev o).run Tryz.prog W = .ok (.value (.pointer (some ⟨w.heap.size + 2,0,none⟩))) w3 from fun W ev o q e => hs2 ▸ al86 W ev o q w2 w3 hw3 e)
  have S3 := hide (fun (W : World) (ev : Operand -> Value) (o : Oper) (s t : Operand) (q : o.op = .store 86 s t) q1 q2 (e : W = w3) => stW W ev o s t q (w.heap.size + 2) (pok0 l) zf q1 q2 w3 w4 hL3 hw4 e)
  have S4 := hide (fun (W : World) (ev : Operand -> Value) (o : Oper) (s t : Operand) (q : o.op = .store 3 s t) q1 q2 (e : W = w4) => stIW W ev o s t q (w.heap.size + 2) 8 ((x * 8 + 4) * un z) q1 q2 w4 w5 ((blk_cells hL4 8).trans (fc_at _ 8 (by omega))) (frz_blk hL4 8) hw5 e)
  have S5 := hide (fun (W : World) (ev : Operand -> Value) (o : Oper) (s t : Operand) (q : o.op = .store 3 s t) q1 q2 (e : W = w5) => stIW W ev o s t q (w.heap.size + 2) 16 ((y * 8 + 4) * un z) q1 q2 w5 w6 ((blk_cells hL5 16).trans (fc_at _ 16 (by omega))) (frz_blk hL5 16) hw6 e)
  have S6 := hide (fun (W : World) (ev : Operand -> Value) (o : Oper) (s t : Operand) (q : o.op = .store 86 s t) q1 q2 (e : W = w6) => stW W ev o s t q (w.heap.size + 1) (pokF ⟨l,z,x,y⟩) zf q1 q2 w6 w7 hR6 hw7 e)
  have hrg6 : ∀ {W : World},W = w6 -> W.rangeAt (w.heap.size + 2) 0 (fc (pokF ⟨l,z,x,y⟩)).toList := fun e => e ▸ rng_blk hL6
  have c21 : w2.cell? ⟨w.heap.size,0,none⟩ = some (.int .i64 l) := blk_cells hA2 0
  have c41 : w4.cell? ⟨w.heap.size,1,none⟩ = some (.int .i64 z) := blk_cells hA4 1
  have c42 : w4.cell? ⟨w.heap.size,2,none⟩ = some (.int .i64 x) := blk_cells hA4 2
  have c53 : w5.cell? ⟨w.heap.size,3,none⟩ = some (.int .i64 y) := blk_cells hA5 3
  have UN := keepUnit_any z w4 hz.1 hz.2
  have H7 := hide (show w7.heap[w.heap.size + 1]? = some (.cells (fc (pokF ⟨l,z,x,y⟩)) 86 (0,0)) /\ Below w.heap.size w w7 from ⟨hR7,hB7⟩)
  have o1 : IntKind.i64.wrap (x * 8) = x * 8 := i64_of _ (by omega)
  have o2 : IntKind.i64.wrap (x * 8 + 4) = x * 8 + 4 := i64_of _ (by omega)
  have o3 : IntKind.i64.wrap ((x * 8 + 4) * un z) = (x * 8 + 4) * un z := i64_of _ (by omega)
  have o4 : IntKind.i64.wrap (y * 8) = y * 8 := i64_of _ (by omega)
  have o5 : IntKind.i64.wrap (y * 8 + 4) = y * 8 + 4 := i64_of _ (by omega)
  have o6 : IntKind.i64.wrap ((y * 8 + 4) * un z) = (y * 8 + 4) * un z := i64_of _ (by omega)
  clear hw1 hb1 hA1 hs1 hw2 hb2 hR2 hA2 hs2 hw3 hb3 hL3 hA3 hR3 hw4 hL4 hA4 hR4 hw5 hL5 hA5 hR5 hw6 hL6 hR6 hw7 hR7 hB3 hB7 hk hs
  go_enter Tryz.func39,Tryz.ntmps39
  go_wp2_with (first | refine wlV _ _ (unhide S0 _ _ _ _ rfl rfl rfl) rfl ?_ | refine wlV _ _ (unhide S1 _ _ _ rfl rfl) rfl ?_ | refine wlV _ _ (unhide S2 _ _ _ rfl rfl) rfl ?_ | refine wlV _ _ (bt86p _ _ _ _ _ _ _ _ rfl rfl rfl rfl rfl rfl rfl _) rfl ?_ | refine wlSk _ (unhide S3 _ _ _ _ _ rfl rfl rfl rfl) rfl ?_)
  refine UN.mono ?_
  rintro e wv ⟨rfl,rfl⟩
  clear UN S0 S1 S2 S3
  go_wp2_with (first | refine wlSk _ (unhide S4 _ _ _ _ _ rfl rfl (by simp [go_sem]) rfl) rfl ?_ | refine wlSk _ (unhide S5 _ _ _ _ _ rfl rfl (by simp [go_sem]) rfl) rfl ?_ | refine ldG 86 (fc (pokF ⟨l,z,x,y⟩)) Tryz.underlying86 rfl (szf _) (w.heap.size + 2) 0 (hrg6 rfl) rfl _ rfl rfl ?_ | refine wlSk _ (unhide S6 _ _ _ _ _ rfl rfl rfl rfl) rfl ?_)
  exact bodyPost_ret (v := .agg (fc (pokF ⟨l,z,x,y⟩))) (results_cell_row Tryz.results39 _ _ (w.heap.size + 1) 86 _ (0,0) _ rfl (unhide H7).1 Tryz.underlying86 rfl (szf _)) rfl ⟨rfl,(unhide H7).2⟩
def rawF (f : Ft) : Ft := upd (upd (upd f 0 (f 0 - 1)) 3 (f 3 - 1)) 6 (f 6 - 1)
set_option maxHeartbeats 6400000 in
theorem rawOf_any (f : Ft) (w : World) (h0 : 0 <= f 0 /\ f 0 <= 1000) (h3 : 0 <= f 3 /\ f 3 <= 1000) (h6 : 0 <= f 6 /\ f 6 <= 1000) :
    Calls Tryz.prog 38 #[.agg (fc f)] w fun e w' => e = .returned (.agg (fc (rawF f))) /\ Below w.heap.size w w' := by
  obtain ⟨w1,hw1⟩ : ∃ w1,w.alloc (.cells (fc f) 86) = w1 := ⟨_,rfl⟩
  have hb1 : Below w.heap.size w w1 := hw1 ▸ (Below.refl w.heap.size w).alloc (Nat.le_refl _) (.cells (fc f) 86)
  have hA1 : w1.heap[w.heap.size]? = some (.cells (fc f) 86 (0,0)) := hw1 ▸ heap_alloc_new w (.cells (fc f) 86 (0,0))
  have hs1 : w1.heap.size = w.heap.size + 1 := by rw [<- hw1]; simp
  obtain ⟨w2,hw2⟩ : ∃ w2,w1.alloc (.cells (fc zf) 86) = w2 := ⟨_,rfl⟩
  have hb2 : Below w1.heap.size w1 w2 := hw2 ▸ (Below.refl w1.heap.size w1).alloc (Nat.le_refl _) (.cells (fc zf) 86)
  have hR2 : w2.heap[w.heap.size + 1]? = some (.cells (fc zf) 86 (0,0)) := by rw [<- hs1]; exact hw2 ▸ heap_alloc_new w1 (.cells (fc zf) 86 (0,0))
  have hA2 := blk_on hA1 hb2
  obtain ⟨w3,hw3⟩ : ∃ w3,w2.setCell ⟨w.heap.size,0,none⟩ (.int .i64 (f 0 - 1)) = w3 := ⟨_,rfl⟩
  have hA3 : w3.heap[w.heap.size]? = some (.cells (fc (upd f 0 (f 0 - 1))) 86 (0,0)) := hw3 ▸ blk_fc hA2 0 (by omega) _
  have hR3 : w3.heap[w.heap.size + 1]? = some (.cells (fc zf) 86 (0,0)) := by rw [<- hw3,Below.heap_setCell _ _ _ _ (by show w.heap.size + 1 ≠ w.heap.size; omega)]; exact hR2
  obtain ⟨w4,hw4⟩ : ∃ w4,w3.setCell ⟨w.heap.size,3,none⟩ (.int .i64 (f 3 - 1)) = w4 := ⟨_,rfl⟩
  have hA4 : w4.heap[w.heap.size]? = some (.cells (fc (upd (upd f 0 (f 0 - 1)) 3 (f 3 - 1))) 86 (0,0)) := hw4 ▸ blk_fc hA3 3 (by omega) _
  have hR4 : w4.heap[w.heap.size + 1]? = some (.cells (fc zf) 86 (0,0)) := by rw [<- hw4,Below.heap_setCell _ _ _ _ (by show w.heap.size + 1 ≠ w.heap.size; omega)]; exact hR3
  obtain ⟨w5,hw5⟩ : ∃ w5,w4.setCell ⟨w.heap.size,6,none⟩ (.int .i64 (f 6 - 1)) = w5 := ⟨_,rfl⟩
  have hA5 : w5.heap[w.heap.size]? = some (.cells (fc (rawF f)) 86 (0,0)) := hw5 ▸ blk_fc hA4 6 (by omega) _
  have hR5 : w5.heap[w.heap.size + 1]? = some (.cells (fc zf) 86 (0,0)) := by rw [<- hw5,Below.heap_setCell _ _ _ _ (by show w.heap.size + 1 ≠ w.heap.size; omega)]; exact hR4
  obtain ⟨w6,hw6⟩ : ∃ w6,w5.setRow (w.heap.size + 1) (fc (rawF f)) = w6 := ⟨_,rfl⟩
  have hR6 : w6.heap[w.heap.size + 1]? = some (.cells (fc (rawF f)) 86 (0,0)) := hw6 ▸ setRow_heap _ _ _ (fc _) _ _ hR5
  have hB6 : Below w.heap.size w w6 := by
    have b2 : Below w.heap.size w w2 := hb1.trans (hb2.mono hb1.size)
    have b3 : Below w.heap.size w w3 := hw3 ▸ b2.setCell (p := ⟨w.heap.size,0,none⟩) (Nat.le_refl _) _
    have b4 : Below w.heap.size w w4 := hw4 ▸ b3.setCell (p := ⟨w.heap.size,3,none⟩) (Nat.le_refl _) _
    have b5 : Below w.heap.size w w5 := hw5 ▸ b4.setCell (p := ⟨w.heap.size,6,none⟩) (Nat.le_refl _) _
    exact hw6 ▸ below_setRow b5 (by omega) _
  have S0 := hide (fun (W : World) (ev : Operand -> Value) (o : Oper) (p : Operand) (q : o.op = .box 86 p) q1 (e : W = w) => bx86 W f ev o p q q1 w w1 hw1 e)
  have S1 := hide (show ∀ (W : World) (ev : Operand -> Value) (o : Oper),o.op = .alloc 86 -> W = w1 -> (execOp ev o).run Tryz.prog W = .ok (.value (.pointer (some ⟨w.heap.size + 1,0,none⟩))) w2 from fun W ev o q e => hs1 ▸ al86 W ev o q w1 w2 hw2 e)
  have c0 : w2.cell? ⟨w.heap.size,0,none⟩ = some (.int .i64 (f 0)) := (blk_cells hA2 0).trans (fc_at _ 0 (by omega))
  have c3 : w3.cell? ⟨w.heap.size,3,none⟩ = some (.int .i64 (f 3)) := (blk_cells hA3 3).trans (fc_at _ 3 (by omega))
  have c6 : w4.cell? ⟨w.heap.size,6,none⟩ = some (.int .i64 (f 6)) := (blk_cells hA4 6).trans (fc_at _ 6 (by omega))
  have S2 := hide (fun (W : World) (ev : Operand -> Value) (o : Oper) (s t : Operand) (q : o.op = .store 3 s t) q1 q2 (e : W = w2) => stIW W ev o s t q w.heap.size 0 (f 0 - 1) q1 q2 w2 w3 c0 (frz_blk hA2 0) hw3 e)
  have S3 := hide (fun (W : World) (ev : Operand -> Value) (o : Oper) (s t : Operand) (q : o.op = .store 3 s t) q1 q2 (e : W = w3) => stIW W ev o s t q w.heap.size 3 (f 3 - 1) q1 q2 w3 w4 c3 (frz_blk hA3 3) hw4 e)
  have S4 := hide (fun (W : World) (ev : Operand -> Value) (o : Oper) (s t : Operand) (q : o.op = .store 3 s t) q1 q2 (e : W = w4) => stIW W ev o s t q w.heap.size 6 (f 6 - 1) q1 q2 w4 w5 c6 (frz_blk hA4 6) hw5 e)
  have S5 := hide (fun (W : World) (ev : Operand -> Value) (o : Oper) (s t : Operand) (q : o.op = .store 86 s t) q1 q2 (e : W = w5) => stW W ev o s t q (w.heap.size + 1) (rawF f) zf q1 q2 w5 w6 hR5 hw6 e)
  have hrg5 : ∀ {W : World},W = w5 -> W.rangeAt w.heap.size 0 (fc (rawF f)).toList := fun e => e ▸ rng_blk hA5
  have H6 := hide (show w6.heap[w.heap.size + 1]? = some (.cells (fc (rawF f)) 86 (0,0)) /\ Below w.heap.size w w6 from ⟨hR6,hB6⟩)
  have o0 : IntKind.i64.wrap (f 0 - 1) = f 0 - 1 := i64_of _ (by omega)
  have o3 : IntKind.i64.wrap (f 3 - 1) = f 3 - 1 := i64_of _ (by omega)
  have o6 : IntKind.i64.wrap (f 6 - 1) = f 6 - 1 := i64_of _ (by omega)
  clear hw1 hb1 hA1 hs1 hw2 hb2 hR2 hA2 hw3 hA3 hR3 hw4 hA4 hR4 hw5 hA5 hR5 hw6 hR6 hB6
  go_enter Tryz.func38,Tryz.ntmps38
  go_wp2_with (first | refine wlV _ _ (unhide S0 _ _ _ _ rfl rfl rfl) rfl ?_ | refine wlV _ _ (unhide S1 _ _ _ rfl rfl) rfl ?_ | refine wlSk _ (unhide S2 _ _ _ _ _ rfl rfl (by simp [go_sem]) rfl) rfl ?_ | refine wlSk _ (unhide S3 _ _ _ _ _ rfl rfl (by simp [go_sem]) rfl) rfl ?_ | refine wlSk _ (unhide S4 _ _ _ _ _ rfl rfl (by simp [go_sem]) rfl) rfl ?_ | refine ldG 86 (fc (rawF f)) Tryz.underlying86 rfl (szf _) w.heap.size 0 (hrg5 rfl) rfl _ rfl rfl ?_ | refine wlSk _ (unhide S5 _ _ _ _ _ rfl rfl rfl rfl) rfl ?_)
  exact bodyPost_ret (v := .agg (fc (rawF f))) (results_cell_row Tryz.results38 _ _ (w.heap.size + 1) 86 _ (0,0) _ rfl (unhide H6).1 Tryz.underlying86 rfl (szf _)) rfl ⟨rfl,(unhide H6).2⟩
theorem raw_mid (k : K4) : ∀ j,j < 24 -> rawF (pokF k) j = midF k j := by
  intro j hj
  match j,hj with
  | 0,_ => rfl
  | 1,_ => rfl
  | 2,_ => rfl
  | 3,_ => rfl
  | 4,_ => rfl
  | 5,_ => rfl
  | 6,_ => rfl
  | 7,_ => rfl
  | 8,_ => rfl
  | 9,_ => rfl
  | 10,_ => rfl
  | 11,_ => rfl
  | 12,_ => rfl
  | 13,_ => rfl
  | 14,_ => rfl
  | 15,_ => rfl
  | 16,_ => rfl
  | 17,_ => rfl
  | 18,_ => rfl
  | 19,_ => rfl
  | 20,_ => rfl
  | 21,_ => rfl
  | 22,_ => rfl
  | 23,_ => rfl
  | n + 24,h => exact absurd h (by omega)
theorem bt90 (f : Ft) (ev : Operand -> Value) (o : Oper) (x y : Operand) (ho : o.op = .build 90 #[(0,x),(1,y)]) (hx : ev x = .int .i64 0) (hy : ev y = .agg (fc f)) (w : World) : (execOp ev o).run Tryz.prog w = .ok (.value (.agg (cc 25 (editOf 0 f)))) w := by
  have hb := run_build (P := Tryz.prog) w 90 #[(0,.int .i64 0),(1,.agg (fc f))] (cc 25 (editOf 0 f)) (built56 0 f)
  unfold execOp
  simp [ho,hx,hy,hb]
theorem edit_cc {k : K4} {f : Ft} (h : ∀ j,j < 24 -> f j = midF k j) : cc 25 (editOf 0 f) = cc 25 (edK k) := by
  unfold cc
  apply Array.map_congr_left
  intro j hj
  have hj' := Array.mem_range.1 hj
  unfold editOf edK
  by_cases e : j = 0
  . simp [e]
  . simp only [e,if_false]
    rw [h (j - 1) (by omega)]
theorem ed_at {k : K4} {w w1 : World} (h : w.alloc (.cells (cc 25 (edK k)) 90) = w1) : CsAt 25 w1 (.slice (some ⟨w.heap.size,0,none⟩) 1 1) 1 (fun _ => edK k) := by
  have hA : w1.heap[w.heap.size]? = some (.cells (cc 25 (edK k)) 90 (0,0)) := h ▸ heap_alloc_new w (.cells (cc 25 (edK k)) 90 (0,0))
  refine ⟨_,1,rfl,by decide,fun _ => ⟨w.heap.size,0,rfl,blk_lt hA,fun i hi j hj => ?_⟩⟩
  obtain rfl : i = 0 := by omega
  rw [show 0 + 0 * 25 + j = j from by omega,blk_cells hA j,cc_at 25 _ j hj]
theorem ed_64 {k : K4} (hk : KOk k) (j : Nat) : -9223372036854775808 <= edK k j /\ edK k j <= 9223372036854775807 := by
  obtain ⟨m1,m2,m3,m4,_,_⟩ := mid_in hk
  have hl := hk.l
  unfold edK midF
  split
  . omega
  split
  . omega
  split
  . omega
  split
  . omega
  split
  . omega
  split
  . omega
  . omega
def BasUp (a b : Bas) : Prop := Kp a b.w /\ ∀ k,a.T k -> b.T k
theorem BasUp.trans {a b c : Bas} (h : BasUp a b) (g : BasUp b c) : BasUp a c := ⟨⟨g.1.os.trans h.1.os,g.1.tape.trans h.1.tape,g.1.output.trans h.1.output,Nat.le_trans h.1.size g.1.size,fun k hk => (g.1.block k (h.2 k hk)).trans (h.1.block k hk)⟩,fun k hk => g.2 k (h.2 k hk)⟩
theorem Kp.back {a b : Bas} {w : World} (h : Kp b w) (hu : BasUp a b) : Kp a w := ⟨h.os.trans hu.1.os,h.tape.trans hu.1.tape,h.output.trans hu.1.output,Nat.le_trans hu.1.size h.size,fun k hk => (h.block k (hu.2 k hk)).trans (hu.1.block k hk)⟩
theorem StE.back {a b : Bas} {w : World} {bb fb : Nat} {F : FM} {M : BM} (h : StE b w bb fb F M) (hu : BasUp a b) : StE a w bb fb F M := by
  obtain ⟨Φ,Ψ,B,WS,h⟩ := h
  exact ⟨Φ,Ψ,B,WS,h.fro,h.bk,h.foot,h.dj,fun k hk q => h.up k hk (hu.2 k q),h.lt,h.bel.back hu⟩
theorem StE.kp {b : Bas} {w : World} {bb fb : Nat} {F : FM} {M : BM} (h : StE b w bb fb F M) : Kp b w := by
  obtain ⟨Φ,Ψ,B,WS,h⟩ := h
  exact h.bel
theorem StE.grow {a : Bas} {w w' : World} {bb fb : Nat} {F : FM} {M : BM} (h : StE a w bb fb F M) (hb : Below w.heap.size w w') : ∃ b : Bas,b.w = w' /\ BasUp a b /\ (∀ k,w.heap.size <= k -> k < w'.heap.size -> b.T k) /\ StE b w' bb fb F M := by
  obtain ⟨Φ,Ψ,B,WS,h⟩ := h
  have ht := h.tight
  have h2 := ht.on hb
  have h4 := a.size4
  have hs : a.w.heap.size <= w'.heap.size := Nat.le_trans h.bel.size hb.size
  refine ⟨⟨w',fun k => k < w'.heap.size /\ ¬ (Φ k \/ (Ψ k /\ k < w.heap.size)),fun k q => q.1,fun k q => ⟨by omega,fun e => ?_⟩⟩,rfl,⟨h2.bel,fun k hk => ⟨?_,fun e => h2.up k e hk⟩⟩,fun k h1 h3 => ⟨h3,fun e => ?_⟩,Φ,_,B,WS,h2.fro,h2.bk,h2.foot,h2.dj,fun k hk e => e.2 hk,h2.lt,?_⟩
  . have := Bas.four (h2.up k e); omega
  . have := a.lt k hk; omega
  . rcases e with e | e
    . have := h.lt k e; omega
    . have := e.2; omega
  . exact ⟨rfl,rfl,rfl,Nat.le_refl _,fun _ _ => rfl⟩
theorem ver_any {w0 : Bas} {w : World} {bb fb : Nat} {F : FM} {M : BM} (h : StE w0 w bb fb F M) (hv : F.ver <= 100) : Calls Tryz.prog 29 #[.pointer (some ⟨bb,0,none⟩)] w fun e w' => e = .returned (.int .i64 F.ver) /\ w = w' := by
  obtain ⟨Φ,Ψ,B,WS,hS⟩ := h
  obtain ⟨oa6,cap6,e6,_,_,_⟩ := hS.bk.mem.was.at
  rw [hS.bk.mem.len] at e6
  refine (version_any bb B (F.ver + 1) w hS.bk.blk (by omega) ⟨oa6,cap6,e6⟩).mono ?_
  rintro e w' ⟨rfl,rfl⟩
  exact ⟨by rw [show (((F.ver + 1 : Nat) : Int)) - 1 = (F.ver : Int) from by omega],rfl⟩
theorem StE.bad {w0 : Bas} {w : World} {bb fb : Nat} {F : FM} {M : BM} (h : StE w0 w bb fb F M) : w.cell? ⟨bb,12,none⟩ = some (.bool false) := by
  obtain ⟨_,_,_,_,h⟩ := h
  exact h.bk.blk.cells 12
theorem Bd.write {n : Nat} {F : FM} {M : BM} (h : Bd n F M) (LS' FL' : List Ft) : Bd n (F.write Oz LS' FL') M := ⟨h.now,h.arr,h.joi,h.sum⟩
theorem bx35 (a c : Int) (s t : ByteArray) (ev : Operand -> Value) (o : Oper) (p : Operand) (ho : o.op = .box 35 p) (hp : ev p = .agg #[.int .i64 a,.int .i64 c,.string s,.string t]) (w w1 : World) (h1 : w.alloc (.cells #[.int .i64 a,.int .i64 c,.string s,.string t] 35) = w1) : (execOp ev o).run Tryz.prog w = .ok (.value (.pointer (some ⟨w.heap.size,0,none⟩))) w1 := by
  rw [<- h1]
  unfold execOp
  simp only [ho,hp]
  kernel_rfl
theorem bx39 (l z x y : Int) (ev : Operand -> Value) (o : Oper) (p : Operand) (ho : o.op = .box 39 p) (hp : ev p = .agg #[.int .i64 l,.int .i64 z,.int .i64 x,.int .i64 y]) (w w1 : World) (h1 : w.alloc (.cells #[.int .i64 l,.int .i64 z,.int .i64 x,.int .i64 y] 39) = w1) : (execOp ev o).run Tryz.prog w = .ok (.value (.pointer (some ⟨w.heap.size,0,none⟩))) w1 := by
  rw [<- h1]
  unfold execOp
  simp only [ho,hp]
  kernel_rfl
theorem pok_in {k : K4} : 0 <= pokF k 0 /\ pokF k 0 <= 1000 := by rw [show pokF k 0 = 1 from rfl]; decide
theorem pok_in3 {k : K4} : 0 <= pokF k 3 /\ pokF k 3 <= 1000 := by rw [show pokF k 3 = 1 from rfl]; decide
theorem pok_in6 {k : K4} : 0 <= pokF k 6 /\ pokF k 6 <= 1000 := by rw [show pokF k 6 = 1 from rfl]; decide
set_option maxHeartbeats 12800000 in
theorem renewed_any (n : Nat) (w0 : Bas) (bb fb : Nat) (F : FM) (M : BM) (p : ByteArray) (l z x y : Int) (who st : Int) (bd : ByteArray) (w : World) (h : StE w0 w bb fb F M) (hi : Inv Oz F M) (hbd : Bd n F M) (hn : n <= 1410000000000) (hw : F.waiting = []) (hk : KOk ⟨l,z,x,y⟩) (hp : p.size <= maxLen) (hpp : prs p = (⟨l,z,x,y⟩,0))
    (TA : ∀ (n : Nat) (w0 : Bas) (F : FM) (M : BM) (w : World),StE w0 w bb fb F M -> Inv Oz F M -> Bd n F M -> n <= 1420000000000 -> Calls Tryz.prog 19 #[.pointer (some ⟨bb,0,none⟩)] w fun e w' => e = .returned (.bool true) /\ StE w0 w' bb fb F M /\ Below w.heap.size w w') :
    Calls Tryz.prog 20 #[.pointer (some ⟨bb,0,none⟩),.string p,.agg #[.int .i64 l,.int .i64 z,.int .i64 x,.int .i64 y],.agg #[.int .i64 who,.int .i64 st,.string bd,.string (tagP F ⟨l,z,x,y⟩)]] w fun e w' => e = .returned (.bool true) /\ ∃ F' M',StE w0 w' bb fb F' M' := by
  obtain ⟨tg,htg⟩ : ∃ tg,tagP F ⟨l,z,x,y⟩ = tg := ⟨_,rfl⟩
  rw [htg]
  have hv100 := hi.ok.v100
  obtain ⟨w1,hw1⟩ : ∃ w1,w.alloc (.cells #[.int .i64 l,.int .i64 z,.int .i64 x,.int .i64 y] 39) = w1 := ⟨_,rfl⟩
  have hb1 : Below w.heap.size w w1 := hw1 ▸ (Below.refl w.heap.size w).alloc (Nat.le_refl _) (.cells #[.int .i64 l,.int .i64 z,.int .i64 x,.int .i64 y] 39)
  have hA1 : w1.heap[w.heap.size]? = some (.cells #[.int .i64 l,.int .i64 z,.int .i64 x,.int .i64 y] 39 (0,0)) := hw1 ▸ heap_alloc_new w (.cells #[.int .i64 l,.int .i64 z,.int .i64 x,.int .i64 y] 39 (0,0))
  have HBX1 := hide (show ∀ (W : World) (ev : Operand -> Value) (o : Oper) (p : Operand),o.op = .box 39 p -> ev p = .agg #[.int .i64 l,.int .i64 z,.int .i64 x,.int .i64 y] -> W = w -> (execOp ev o).run Tryz.prog W = .ok (.value (.pointer (some ⟨w.heap.size,0,none⟩))) w1 from fun W ev o p q1 q2 e => by subst e; exact bx39 l z x y ev o p q1 q2 W w1 hw1)
  obtain ⟨w2,hw2⟩ : ∃ w2,w1.alloc (.cells #[.int .i64 who,.int .i64 st,.string bd,.string tg] 35) = w2 := ⟨_,rfl⟩
  have hb2 : Below w1.heap.size w1 w2 := hw2 ▸ (Below.refl w1.heap.size w1).alloc (Nat.le_refl _) (.cells #[.int .i64 who,.int .i64 st,.string bd,.string tg] 35)
  have hR2 : w2.heap[w1.heap.size]? = some (.cells #[.int .i64 who,.int .i64 st,.string bd,.string tg] 35 (0,0)) := hw2 ▸ heap_alloc_new w1 (.cells #[.int .i64 who,.int .i64 st,.string bd,.string tg] 35 (0,0))
  have HBX2 := hide (show ∀ (W : World) (ev : Operand -> Value) (o : Oper) (p : Operand),o.op = .box 35 p -> ev p = .agg #[.int .i64 who,.int .i64 st,.string bd,.string tg] -> W = w1 -> (execOp ev o).run Tryz.prog W = .ok (.value (.pointer (some ⟨w1.heap.size,0,none⟩))) w2 from fun W ev o p q1 q2 e => by subst e; exact bx35 who st bd tg ev o p q1 q2 W w2 hw2)
  have hK2 := blk_on hA1 hb2
  have hB2 : Below w.heap.size w w2 := hb1.trans (hb2.mono hb1.size)
  obtain ⟨b,hbw,hup,hT,h2⟩ := h.grow hB2
  have HK := hide (show ∀ (W : World) (F : FM) (M : BM),StE b W bb fb F M -> W.heap[w.heap.size]? = some (.cells #[.int .i64 l,.int .i64 z,.int .i64 x,.int .i64 y] 39 (0,0)) /\ W.heap[w1.heap.size]? = some (.cells #[.int .i64 who,.int .i64 st,.string bd,.string tg] 35 (0,0)) from fun W F M hW => by
    have k1 := hW.kp.block w.heap.size (hT _ (Nat.le_refl _) (blk_lt hK2))
    have k2 := hW.kp.block w1.heap.size (hT _ hb1.size (blk_lt hR2))
    rw [hbw] at k1 k2
    exact ⟨k1.trans hK2,k2.trans hR2⟩)
  have HUP := hide hup
  obtain ⟨g1,hg1⟩ : ∃ g1,w.heap.size = g1 := ⟨_,rfl⟩
  obtain ⟨g2,hg2⟩ : ∃ g2,w1.heap.size = g2 := ⟨_,rfl⟩
  rw [hg1] at HBX1 HK
  rw [hg2] at HBX2 HK
  have hrgK : w2.rangeAt g1 0 (#[.int .i64 l,.int .i64 z,.int .i64 x,.int .i64 y] : Array Value).toList := rng_blk (unhide HK _ _ _ h2).1
  have VE := ver_any h2 hv100
  have PO := poke_any l z x y w2 hk
  have H2 := hide h2
  have HI := hide hi
  have HBD := hide hbd
  have HKO := hide hk
  have HTG := hide htg
  have HW := hide hw
  have HPP := hide hpp
  clear hw1 hA1 hb1 hw2 hb2 hR2 hK2 hB2 hbw hup hT h2 hg1 hg2 h hi hbd hk htg hw hpp
  go_enter Tryz.func20,Tryz.ntmps20
  go_wp2_with (first | refine wlV _ _ (unhide HBX1 _ _ _ _ rfl rfl rfl) rfl ?_ | refine wlV _ _ (unhide HBX2 _ _ _ _ rfl rfl rfl) rfl ?_)
  refine VE.mono ?_
  rintro e w' ⟨rfl,rfl⟩
  go_wp2_with (refine ldG 39 #[.int .i64 l,.int .i64 z,.int .i64 x,.int .i64 y] Tryz.underlying39 rfl (sz39 _ _ _ _) g1 0 hrgK rfl _ rfl rfl ?_)
  refine PO.mono ?_
  rintro e w3 ⟨rfl,hb3⟩
  have RO := rawOf_any (pokF ⟨l,z,x,y⟩) w3 pok_in pok_in3 pok_in6
  have HB3 := hide hb3
  clear PO VE hb3 hrgK HBX1 HBX2
  go_wp2_with fail
  refine RO.mono ?_
  rintro e w4 ⟨rfl,hb4⟩
  obtain ⟨w5,hw5⟩ : ∃ w5,w4.alloc (.cells (cc 25 (edK ⟨l,z,x,y⟩)) 90) = w5 := ⟨_,rfl⟩
  have hb5 : Below w4.heap.size w4 w5 := hw5 ▸ (Below.refl w4.heap.size w4).alloc (Nat.le_refl _) (.cells (cc 25 (edK ⟨l,z,x,y⟩)) 90)
  have HBT := hide (show ∀ (W : World) (ev : Operand -> Value) (o : Oper) (s t : Operand),o.op = .build 90 #[(0,s),(1,t)] -> ev s = .int .i64 0 -> ev t = .agg (fc (rawF (pokF ⟨l,z,x,y⟩))) -> (execOp ev o).run Tryz.prog W = .ok (.value (.agg (cc 25 (edK ⟨l,z,x,y⟩)))) W from fun W ev o s t q q1 q2 => (edit_cc (raw_mid ⟨l,z,x,y⟩)) ▸ bt90 _ ev o s t q q1 q2 W)
  have HBS := hide (show ∀ (W : World) (ev : Operand -> Value) (o : Oper) (s : Operand),o.op = .buildSlice 61 1 #[(0,s)] -> ev s = .agg (cc 25 (edK ⟨l,z,x,y⟩)) -> W = w4 -> (execOp ev o).run Tryz.prog W = .ok (.value (.slice (some ⟨w4.heap.size,0,none⟩) 1 1)) w5 from fun W ev o s q q1 e => by subst e; exact hw5 ▸ run_bsE ev o s q _ q1 W)
  have h4 := ((unhide H2).on (unhide HB3)).on hb4
  have h5 := h4.on hb5
  have WR := write_any b bb fb F M (.slice (some ⟨w4.heap.size,0,none⟩) 1 1) 1 (fun _ => edK ⟨l,z,x,y⟩) w5 h5 (unhide HI) (ed_at hw5) (fun _ _ j _ => ed_64 (unhide HKO) j)
  clear RO hb4 hw5 hb5 h4 h5 HB3
  go_wp2_with (first | refine wlV _ _ (unhide HBT _ _ _ _ _ rfl rfl rfl) rfl ?_ | refine wlV _ _ (unhide HBS _ _ _ _ rfl rfl rfl) rfl ?_)
  refine WR.mono ?_
  rintro e w6 ⟨rfl,hw6⟩
  rcases hw6 with h6 | ⟨LS',FL0,hv,hA,hE,hx,h6⟩
  . have c12 := h6.bad
    have VE := ver_any h6 hv100
    have H6 := hide h6
    clear WR h6
    go_wp2_with fail
    refine VE.mono ?_
    rintro e w' ⟨rfl,rfl⟩
    have he : ((F.ver : Int) == (F.ver : Int)) = true := beq_self_eq_true _
    go_wp2_with fail
    go_ret
    exact ⟨rfl,F,M,(unhide H6).back (unhide HUP)⟩
  . have c12 := h6.bad
    have hi6 := (unhide HI).write hv hx
    have hbd6 := (unhide HBD).write LS' (FL0.map nf)
    have hs6 := wr_stamp (unhide HKO) hA
    have hr6 := wr_rep (FL' := FL0.map nf) (unhide HI).ok (unhide HW) (unhide HKO) hs6
    have ht6 := wr_tag (FL' := FL0.map nf) (unhide HI).ok (unhide HKO) hs6
    have hw6 : (F.write Oz LS' (FL0.map nf)).waiting = [] := unhide HW
    rw [unhide HTG] at hr6 ht6
    have hvg : (F.write Oz LS' (FL0.map nf)).ver = F.ver + 1 := rfl
    obtain ⟨G,hG⟩ : ∃ G,F.write Oz LS' (FL0.map nf) = G := ⟨_,rfl⟩
    rw [hG] at h6 hi6 hbd6 hr6 ht6 hw6 hvg
    have VE := ver_any h6 hi6.ok.v100
    rw [hvg] at VE
    have hne : (((F.ver + 1 : Nat) : Int) == (F.ver : Int)) = false := beq_false_of_ne (by omega)
    have AR := arrive_any n b bb fb G M p tg w6 h6 hi6 hbd6 (by omega) hp
    rw [unhide HPP] at AR
    dsimp only at AR
    have ct : w6.cell? ⟨g2,3,none⟩ = some (.string tg) := blk_cells (unhide HK _ _ _ h6).2 3
    have HF := hide (show Inv Oz G M /\ Bd n G M /\ (arrR Oz G ⟨l,z,x,y⟩ 0 tg).2 = [] /\ tg ≠ tagP G ⟨l,z,x,y⟩ /\ G.waiting = [] from ⟨hi6,hbd6,hr6,ht6,hw6⟩)
    clear WR h6 hi6 hbd6 hs6 hr6 ht6 hw6 hG hA hE hx hv hvg
    go_wp2_with fail
    refine VE.mono ?_
    rintro e w' ⟨rfl,rfl⟩
    go_wp2_with fail
    refine AR.mono ?_
    rintro e w7 ⟨rfl,h7⟩
    obtain ⟨hi6,hbd6,hr6,ht6,hw6⟩ := unhide HF
    have hi7 := hi6.arrB (p := (G,M)) (k := ⟨l,z,x,y⟩) (e := 0) (Or.inl ⟨rfl,unhide HKO⟩) tg
    have hbd7 := hbd6.arrB (O := Oz) (p := (G,M)) ⟨l,z,x,y⟩ 0 tg
    obtain ⟨hq1,hq2⟩ := arrB_none (O := Oz) (p := (G,M)) (k := ⟨l,z,x,y⟩) (e := 0) (tag := tg) hr6
    have hlf := fun q => last_fine (O := Oz) (p := (G,M)) (q := q) hi6 (k := ⟨l,z,x,y⟩) (tag := tg) (arr_plain (p := (G,M)) hi6 hw6 ht6)
    obtain ⟨P,hP⟩ : ∃ P,arrB Oz (G,M) ⟨l,z,x,y⟩ 0 tg = P := ⟨_,rfl⟩
    rw [hP] at h7 hi7 hbd7 hq1 hq2
    have hsz := hbd7.said hi7
    have hl7 : M.reqs.length <= 1420000000000 := by
      have : P.2.reqs.length = M.reqs.length + 1 := by rw [hq1]; simp
      omega
    have LN := last_no b bb fb P.1 P.2 M.reqs.length ⟨tg,⟨l,z,x,y⟩,0,G.ver,G.now,M.waiting,-1⟩ w7 h7 (by rw [hq1]; simp) (by rw [hq1]; simp) rfl hl7
    obtain ⟨ho,hre⟩ := calm_rest (O := Oz) P hi7
    have hbd8 := ho.bd hbd7
    have hlq := hlf (calmP Oz P) (hP ▸ ho) hre.waiting
    have HF2 := hide (show Inv Oz P.1 P.2 /\ Bd (n + 1) P.1 P.2 /\ On (O := Oz) P (calmP Oz P) /\ Bd (n + 1) (calmP Oz P).1 (calmP Oz P).2 from ⟨hi7,hbd7,ho,hbd8⟩)
    have HLQ := hide hlq
    have hla := arrR_like (O := Oz) G ⟨l,z,x,y⟩ 0 tg
    have HPV := hide (show P.1.ver = G.ver from by rw [<- hP]; exact hla.ver)
    have HPF := hide (show P.1.FLs = G.FLs from by rw [<- hP]; exact hla.FLs)
    clear hla
    have H7 := hide h7
    have HSZ := hide hsz
    have HNE := hide ht6
    clear AR VE h7 hi6 hbd6 hr6 ht6 hw6 hi7 hbd7 hq1 hq2 hlf hP hsz ho hre hbd8 hlq ct c12 HF
    go_wp2_with fail
    refine LN.mono ?_
    rintro e w8 ⟨rfl,hb8⟩
    obtain ⟨w9,hw9⟩ : ∃ W',w8.alloc (.cells #[.int .i64 0,.int .i64 0,.string ⟨#[]⟩,.string ⟨#[]⟩] 35) = W' := ⟨_,rfl⟩
    have hAw9 : w9.heap[w8.heap.size]? = some (.cells #[.int .i64 0,.int .i64 0,.string ⟨#[]⟩,.string ⟨#[]⟩] 35 (0,0)) := hw9 ▸ heap_alloc_new w8 (.cells #[.int .i64 0,.int .i64 0,.string ⟨#[]⟩,.string ⟨#[]⟩] 35 (0,0))
    have hbw9 : Below w8.heap.size w8 w9 := hw9 ▸ (Below.refl w8.heap.size w8).alloc (Nat.le_refl _) (.cells #[.int .i64 0,.int .i64 0,.string ⟨#[]⟩,.string ⟨#[]⟩] 35)
    have HALA := hide (show ∀ (W : World) (ev : Operand -> Value) (o : Oper),o.op = .alloc 35 -> W = w8 -> (execOp ev o).run Tryz.prog W = .ok (.value (.pointer (some ⟨w8.heap.size,0,none⟩))) w9 from fun W ev o q e => by subst e; exact al35 ev o q W w9 hw9)
    obtain ⟨w10,hw10⟩ : ∃ W',w9.setRow w8.heap.size #[.int .i64 0,.int .i64 0,.string ⟨#[]⟩,.string ⟨#[]⟩] = W' := ⟨_,rfl⟩
    have hAw10 : w10.heap[w8.heap.size]? = some (.cells #[.int .i64 0,.int .i64 0,.string ⟨#[]⟩,.string ⟨#[]⟩] 35 (0,0)) := hw10 ▸ setRow_heap _ _ _ #[.int .i64 0,.int .i64 0,.string ⟨#[]⟩,.string ⟨#[]⟩] _ _ hAw9
    have hbw10 : Below w8.heap.size w8 w10 := hw10 ▸ below_setRow hbw9 (Nat.le_refl _) #[.int .i64 0,.int .i64 0,.string ⟨#[]⟩,.string ⟨#[]⟩]
    have HSTA := hide (show ∀ (W : World) (ev : Operand -> Value) (o : Oper) (s t : Operand),o.op = .store 35 s t -> ev s = .pointer (some ⟨w8.heap.size,0,none⟩) -> ev t = .agg #[.int .i64 0,.int .i64 0,.string ⟨#[]⟩,.string ⟨#[]⟩] -> W = w9 -> (execOp ev o).run Tryz.prog W = .ok .skip w10 from fun W ev o s t q q1 q2 e => by subst e; exact hw10 ▸ stR ev o s t 35 q #[.int .i64 0,.int .i64 0,.string ⟨#[]⟩,.string ⟨#[]⟩] #[.int .i64 0,.int .i64 0,.string ⟨#[]⟩,.string ⟨#[]⟩] (sz35 _ _ _ _) (by simp [Value.oneCell']) rfl _ q1 q2 W hAw9)
    have h10 := ((unhide H7).on hb8).on hbw10
    have c12 := h10.bad
    have CA := calm_any (n + 1) b bb fb P.1 P.2 w10 h10 (unhide HF2).1 (unhide HF2).2.1 (by omega)
    clear LN hb8 hw9 hAw9 hbw9 hw10 hAw10 hbw10 h10
    go_wp2_with (first | refine wlV _ _ (unhide HALA _ _ _ rfl rfl) rfl ?_ | refine wlSk _ (unhide HSTA _ _ _ _ _ rfl rfl rfl rfl) rfl ?_)
    refine CA.mono ?_
    rintro e w11 ⟨rfl,h11⟩
    obtain ⟨⟨a,⟨⟨fw,fs,fb4,ft⟩,sv,sm,sb⟩,q1,q2,q3,q4,q5,q6,q7,q8⟩,q9,_⟩ := unhide HLQ
    dsimp only at q1 q6 q7 q8 q9
    subst q6
    have LY := last_yes b bb fb (calmP Oz P).1 (calmP Oz P).2 M.reqs.length a.said.toNat a fw 200 fb4 ft sv sm sb w11 h11 q9 q1 (by omega) q5 hl7
    have hft : (ft.toList == tg.toList) = false := str_ne (fun e => (unhide HNE) (e.symm.trans q8))
    have HQ7 := hide q7
    have H11 := hide h11
    clear CA h11 q1 q2 q3 q4 q5 q7 q8 q9 c12 HALA HSTA
    go_wp2_with fail
    refine LY.mono ?_
    rintro e w12 ⟨rfl,hb12⟩
    obtain ⟨w13,hw13⟩ : ∃ W',w12.alloc (.cells #[.int .i64 0,.int .i64 0,.string ⟨#[]⟩,.string ⟨#[]⟩] 35) = W' := ⟨_,rfl⟩
    have hAw13 : w13.heap[w12.heap.size]? = some (.cells #[.int .i64 0,.int .i64 0,.string ⟨#[]⟩,.string ⟨#[]⟩] 35 (0,0)) := hw13 ▸ heap_alloc_new w12 (.cells #[.int .i64 0,.int .i64 0,.string ⟨#[]⟩,.string ⟨#[]⟩] 35 (0,0))
    have hbw13 : Below w12.heap.size w12 w13 := hw13 ▸ (Below.refl w12.heap.size w12).alloc (Nat.le_refl _) (.cells #[.int .i64 0,.int .i64 0,.string ⟨#[]⟩,.string ⟨#[]⟩] 35)
    have HALB := hide (show ∀ (W : World) (ev : Operand -> Value) (o : Oper),o.op = .alloc 35 -> W = w12 -> (execOp ev o).run Tryz.prog W = .ok (.value (.pointer (some ⟨w12.heap.size,0,none⟩))) w13 from fun W ev o q e => by subst e; exact al35 ev o q W w13 hw13)
    obtain ⟨w14,hw14⟩ : ∃ W',w13.setRow w12.heap.size #[.int .i64 fw,.int .i64 200,.string fb4,.string ft] = W' := ⟨_,rfl⟩
    have hAw14 : w14.heap[w12.heap.size]? = some (.cells #[.int .i64 fw,.int .i64 200,.string fb4,.string ft] 35 (0,0)) := hw14 ▸ setRow_heap _ _ _ #[.int .i64 fw,.int .i64 200,.string fb4,.string ft] _ _ hAw13
    have hbw14 : Below w12.heap.size w12 w14 := hw14 ▸ below_setRow hbw13 (Nat.le_refl _) #[.int .i64 fw,.int .i64 200,.string fb4,.string ft]
    have HSTB := hide (show ∀ (W : World) (ev : Operand -> Value) (o : Oper) (s t : Operand),o.op = .store 35 s t -> ev s = .pointer (some ⟨w12.heap.size,0,none⟩) -> ev t = .agg #[.int .i64 fw,.int .i64 200,.string fb4,.string ft] -> W = w13 -> (execOp ev o).run Tryz.prog W = .ok .skip w14 from fun W ev o s t q q1 q2 e => by subst e; exact hw14 ▸ stR ev o s t 35 q #[.int .i64 fw,.int .i64 200,.string fb4,.string ft] #[.int .i64 0,.int .i64 0,.string ⟨#[]⟩,.string ⟨#[]⟩] (sz35 _ _ _ _) (by simp [Value.oneCell']) rfl _ q1 q2 W hAw13)
    have h14 := ((unhide H11).on hb12).on hbw14
    obtain ⟨g3,hg3⟩ : ∃ g3,w12.heap.size = g3 := ⟨_,rfl⟩
    rw [hg3] at HALB HSTB hAw14
    have k1 : w14.cell? ⟨g3,1,none⟩ = some (.int .i64 200) := blk_cells hAw14 1
    have k3 : w14.cell? ⟨g3,3,none⟩ = some (.string ft) := blk_cells hAw14 3
    have ct : w14.cell? ⟨g2,3,none⟩ = some (.string tg) := blk_cells (unhide HK _ _ _ h14).2 3
    have hF : ∀ W,Below w14.heap.size w14 W -> W.cell? ⟨g3,2,none⟩ = some (.string fb4) /\ W.rangeAt g1 0 (#[.int .i64 l,.int .i64 z,.int .i64 x,.int .i64 y] : Array Value).toList := fun W hW => ⟨blk_cells (blk_on hAw14 hW) 2,rng_blk (blk_on (unhide HK _ _ _ h14).1 hW)⟩
    have hlk := (unhide HF2).2.2.1.like
    have hvN : (calmP Oz P).1.ver <= 100 := (unhide HF2).2.2.1.inv.ok.v100
    have hfl : fb4 = bodyB ((calmP Oz P).1.FLs (calmP Oz P).1.ver) ⟨l,z,x,y⟩ := by
      rw [hlk.ver,hlk.FLs,unhide HPV,unhide HPF]
      exact unhide HQ7
    have hrt : ∀ i,i < ((calmP Oz P).1.FLs (calmP Oz P).1.ver).length -> Rt (gf ((calmP Oz P).1.FLs (calmP Oz P).1.ver) i) := by
      obtain ⟨_,_,_,_,hS⟩ := h14
      exact (hS.fro.ver.rel _ (Nat.le_refl _)).1.rt
    have hV : ∀ W,Below w14.heap.size w14 W -> Calls Tryz.prog 29 #[.pointer (some ⟨bb,0,none⟩)] W fun e w' => e = .returned (.int .i64 ((calmP Oz P).1.ver : Int)) /\ Below W.heap.size W w' := fun W hW => (ver_any (h14.on hW) hvN).mono fun e w' q => ⟨q.1,q.2 ▸ Below.refl _ _⟩
    have hI : ∀ W,Below w14.heap.size w14 W -> Calls Tryz.prog 11 #[.pointer (some ⟨bb,0,none⟩),.string fb4,.agg #[.int .i64 l,.int .i64 z,.int .i64 x,.int .i64 y],.int .i64 ((calmP Oz P).1.ver : Int)] W fun e w' => e = .returned (.bool true) /\ Below W.heap.size W w' := fun W hW => by
      have := is_any b bb fb (calmP Oz P).1 (calmP Oz P).2 ((calmP Oz P).1.FLs (calmP Oz P).1.ver) l z x y (calmP Oz P).1.ver W (h14.on hW) hrt (unhide HKO) (Nat.le_refl _)
      rw [<- hfl] at this
      simpa using this
    have H14 := hide h14
    clear LY hb12 hw13 hAw13 hbw13 hw14 hAw14 hbw14 hg3 hlk hfl hrt h14
    go_wp2_with (first | refine wlV _ _ (unhide HALB _ _ _ rfl rfl) rfl ?_ | refine wlSk _ (unhide HSTB _ _ _ _ _ rfl rfl rfl rfl) rfl ?_)
    refine region_bq (by kernel_rfl) (by kernel_rfl) ?_
    refine q_move rfl _ rfl (.pointer (some ⟨bb,0,none⟩)) rfl ?_
    simp only [Act.put,qA,qB,qC]
    refine q_val rfl (.pointer (some ⟨g3,2,none⟩)) (fun w' hw' => by simp [go_sem]) ?_
    simp only [Act.put,qA,qB,qC]
    refine q_val rfl (.string fb4) (fun w' hw' => by simp [go_sem,(hF w' hw').1]) ?_
    simp only [Act.put,qA,qB,qC]
    refine q_load rfl 39 _ rfl g1 0 rfl (#[.int .i64 l,.int .i64 z,.int .i64 x,.int .i64 y]) _ Tryz.underlying39 rfl (sz39 _ _ _ _) (fun W h => (hF W h).2) ?_
    simp only [Act.put,qA,qB,qC]
    refine q_move rfl _ rfl (.pointer (some ⟨bb,0,none⟩)) rfl ?_
    simp only [Act.put,qA,qB,qC]
    refine q_callC rfl 29 (#[.pointer (some ⟨bb,0,none⟩)]) (fun _ => by simp [go_sem]) (.int .i64 ((calmP Oz P).1.ver : Int)) hV ?_
    simp only [Act.put,qA,qB,qC]
    refine q_callC rfl 11 (#[.pointer (some ⟨bb,0,none⟩),.string fb4,.agg #[.int .i64 l,.int .i64 z,.int .i64 x,.int .i64 y],.int .i64 ((calmP Oz P).1.ver : Int)]) (fun _ => by simp [go_sem]) (.bool true) hI ?_
    simp only [Act.put,qA,qB,qC]
    refine q_assign rfl _ rfl (.bool true) rfl ?_
    simp only [Act.put,qA,qB,qC]
    refine wpQuiet_nil ?_
    intro w15 hw15
    have TG := TA (n + 1) b (calmP Oz P).1 (calmP Oz P).2 w15 ((unhide H14).on hw15) (unhide HF2).2.2.1.inv (unhide HF2).2.2.2 (by omega)
    clear hF hV hI hw15 k1 k3 ct hft
    go_wp2_with fail
    refine TG.mono ?_
    rintro e w16 ⟨rfl,h16,_⟩
    have H16 := hide h16
    clear TG h16
    go_wp2_with fail
    go_ret
    exact ⟨rfl,_,_,(unhide H16).back (unhide HUP)⟩
theorem ScAt.on {w w' : World} {oa : Option Addr} {cap : Nat} {L : List Stp} (h : ScAt w oa cap L) (hb : Below w.heap.size w w') : ScAt w' oa cap L := by
  refine ⟨h.len,fun hl => ?_,fun i s hi => ?_⟩
  . obtain ⟨b,off,e,hlt,hc⟩ := h.at_ hl
    exact ⟨b,off,e,Nat.lt_of_lt_of_le hlt hb.size,fun i s hi => rng_in (hc i s hi) hb hlt⟩
  . obtain ⟨k1,k2,k3,k4,k5,k6,k7⟩ := h.ok i s hi
    exact ⟨k1,k2,k3,k4,k5,k6.on hb,k7⟩
theorem sz37 (a b : Int) (s t : ByteArray) (c d e : Int) : (Tryz.prog.info? 37).map (·.size) = some (#[.int .i64 a,.int .i64 b,.string s,.string t,.int .i64 c,.int .i64 d,.int .i64 e] : Array Value).size := by kernel_rfl
theorem al37 (ev : Operand -> Value) (o : Oper) (ho : o.op = .alloc 37) (w w1 : World) (h1 : w.alloc (.cells #[.int .i64 0,.int .i64 0,.string ⟨#[]⟩,.string ⟨#[]⟩,.int .i64 0,.int .i64 0,.int .i64 0] 37) = w1) : (execOp ev o).run Tryz.prog w = .ok (.value (.pointer (some ⟨w.heap.size,0,none⟩))) w1 := by
  rw [<- h1]
  unfold execOp
  simp only [ho]
  kernel_rfl
theorem say_one (a b : Int) (s t : ByteArray) (c d e : Int) : (#[.int .i64 a,.int .i64 b,.string s,.string t,.int .i64 c,.int .i64 d,.int .i64 e] : Array Value).all (·.oneCell') = true := by simp [Value.oneCell']
theorem arrR_rest {F : FM} {k : K4} {tag : ByteArray} (hw : F.waiting = []) {r : Rep} (hr : (arrR Oz F k 0 tag).2 = [r]) : (arrR Oz F k 0 tag).1.waiting = [] := by
  revert hr
  unfold arrR FM.arriveK
  rw [if_pos rfl]
  dsimp only
  split
  . intro _; exact hw
  . split
    . intro _; exact hw
    . split
      . intro _; exact hw
      . intro q; cases q
theorem same_tiles (F : FM) (k : K4) : (arrR Oz F k 0 (tagP F k)).1.tiles = F.tiles := by
  unfold arrR FM.arriveK
  rw [if_pos rfl]
  dsimp only [FM.stamp]
  rw [if_pos rfl]
set_option maxHeartbeats 12800000 in
theorem tagged_any (q wk wt ca ch l0 z0 x0 y0 : Int) (oa : Option Addr) (cap : Nat) (L : List Stp) (w : World) (rq : -9223372036854775808 <= q /\ q <= 9223372036854775807) (rwk : -9223372036854775808 <= wk /\ wk <= 9223372036854775807) (rwt : -9223372036854775808 <= wt /\ wt <= 9223372036854775807) (rca : -9223372036854775808 <= ca /\ ca <= 9223372036854775807) (rch : -9223372036854775808 <= ch /\ ch <= 9223372036854775807) (rl0 : -9223372036854775808 <= l0 /\ l0 <= 9223372036854775807) (rz0 : -9223372036854775808 <= z0 /\ z0 <= 9223372036854775807) (rx0 : -9223372036854775808 <= x0 /\ x0 <= 9223372036854775807) (ry0 : -9223372036854775808 <= y0 /\ y0 <= 9223372036854775807) (hg : Glb w) (hs : ScAt w oa cap L)
    (TA : ∀ (bb fb n : Nat) (w0 : Bas) (F : FM) (M : BM) (w : World),StE w0 w bb fb F M -> Inv Oz F M -> Bd n F M -> n <= 1420000000000 -> Calls Tryz.prog 19 #[.pointer (some ⟨bb,0,none⟩)] w fun e w' => e = .returned (.bool true) /\ StE w0 w' bb fb F M /\ Below w.heap.size w w') :
    Calls Tryz.prog 6 #[.agg #[.int .i64 q,.int .i64 wk,.int .i64 wt,.int .i64 ca,.int .i64 ch],.slice oa L.length cap,.agg #[.int .i64 l0,.int .i64 z0,.int .i64 x0,.int .i64 y0]] w fun e w' => e = .returned (.bool true) /\ Below w.heap.size w w' := by
  obtain ⟨w1,hw1⟩ : ∃ w1,w.alloc (.cells #[.int .i64 q,.int .i64 wk,.int .i64 wt,.int .i64 ca,.int .i64 ch] 23) = w1 := ⟨_,rfl⟩
  have hA : w1.heap[w.heap.size]? = some (.cells #[.int .i64 q,.int .i64 wk,.int .i64 wt,.int .i64 ca,.int .i64 ch] 23 (0,0)) := hw1 ▸ heap_alloc_new w (.cells #[.int .i64 q,.int .i64 wk,.int .i64 wt,.int .i64 ca,.int .i64 ch] 23 (0,0))
  have hb1 : Below w.heap.size w w1 := hw1 ▸ (Below.refl w.heap.size w).alloc (Nat.le_refl _) (.cells #[.int .i64 q,.int .i64 wk,.int .i64 wt,.int .i64 ca,.int .i64 ch] 23)
  have HBX := hide (show ∀ (W : World) (ev : Operand -> Value) (o : Oper) (p : Operand),o.op = .box 23 p -> ev p = .agg #[.int .i64 q,.int .i64 wk,.int .i64 wt,.int .i64 ca,.int .i64 ch] -> W = w -> (execOp ev o).run Tryz.prog W = .ok (.value (.pointer (some ⟨w.heap.size,0,none⟩))) w1 from fun W ev o p q1 q2 e => by
    subst e
    rw [<- hw1]
    unfold execOp
    simp only [q1,q2]
    kernel_rfl)
  obtain ⟨w2,hw2⟩ : ∃ w2,w1.alloc (.cells #[.int .i64 l0,.int .i64 z0,.int .i64 x0,.int .i64 y0] 39) = w2 := ⟨_,rfl⟩
  have hb2 : Below w1.heap.size w1 w2 := hw2 ▸ (Below.refl w1.heap.size w1).alloc (Nat.le_refl _) (.cells #[.int .i64 l0,.int .i64 z0,.int .i64 x0,.int .i64 y0] 39)
  have hK2 : w2.heap[w1.heap.size]? = some (.cells #[.int .i64 l0,.int .i64 z0,.int .i64 x0,.int .i64 y0] 39 (0,0)) := hw2 ▸ heap_alloc_new w1 (.cells #[.int .i64 l0,.int .i64 z0,.int .i64 x0,.int .i64 y0] 39 (0,0))
  have HBY := hide (show ∀ (W : World) (ev : Operand -> Value) (o : Oper) (p : Operand),o.op = .box 39 p -> ev p = .agg #[.int .i64 l0,.int .i64 z0,.int .i64 x0,.int .i64 y0] -> W = w1 -> (execOp ev o).run Tryz.prog W = .ok (.value (.pointer (some ⟨w1.heap.size,0,none⟩))) w2 from fun W ev o p q1 q2 e => by subst e; exact bx39 l0 z0 x0 y0 ev o p q1 q2 W w2 hw2)
  have hB2 : Below w.heap.size w w2 := hb1.trans (hb2.mono hb1.size)
  have hrg1 : w2.rangeAt w.heap.size 0 (#[.int .i64 q,.int .i64 wk,.int .i64 wt,.int .i64 ca,.int .i64 ch] : Array Value).toList := rng_blk (blk_on hA hb2)
  have PL := play_any q wk wt ca ch oa cap L false (fun h => nomatch h) w2 rq rwk rwt rca rch (hg.on hB2) (hs.on hB2)
  have hln := hs.len
  have HB2 := hide hB2
  have HK2 := hide hK2
  obtain ⟨g5,hg5⟩ : ∃ g,w1.heap.size = g := ⟨_,rfl⟩
  rw [hg5] at HBY HK2
  clear hw1 hA hb1 hg hs rq rwk rwt rca rch hw2 hb2 hK2 hB2 hg5
  go_enter Tryz.func6,Tryz.ntmps6
  go_wp2_with (first | refine wlV _ _ (unhide HBX _ _ _ _ rfl rfl rfl) rfl ?_ | refine wlV _ _ (unhide HBY _ _ _ _ rfl rfl rfl) rfl ?_ | refine ldG 23 #[.int .i64 q,.int .i64 wk,.int .i64 wt,.int .i64 ca,.int .i64 ch] Tryz.underlying23 rfl (sz23 _ _ _ _ _) w.heap.size 0 hrg1 rfl _ rfl rfl ?_)
  refine PL.mono ?_
  rintro e w3 ⟨w0,bb,fb,F,M,rfl,hb0,hst,hi,hbd⟩
  have HB0 := hide (BelB.pre (unhide HB2) hb0)
  have HK0 := hide (show ∀ (W : World) (F : FM) (M : BM),StE w0 W bb fb F M -> W.heap[g5]? = some (.cells #[.int .i64 l0,.int .i64 z0,.int .i64 x0,.int .i64 y0] 39 (0,0)) from fun W F M hW => by
    have hlt := blk_lt (unhide HK2)
    exact ((hW.kp.block g5 (hb0.2 g5 hlt)).trans (hb0.1.block g5 hlt)).trans (unhide HK2))
  clear PL hb0 hrg1 HBX HBY HB2 HK2
  have hn : L.length <= 1400000000000 := hln
  have CA := calm_any L.length w0 bb fb F M w3 hst hi hbd (by omega)
  obtain ⟨hon,hrest⟩ := calm_rest (F,M) hi
  have hbd1 := hon.bd hbd
  have HP := hide (show Inv Oz (calmP Oz (F,M)).1 (calmP Oz (F,M)).2 /\ Rest (calmP Oz (F,M)).1 /\ Bd L.length (calmP Oz (F,M)).1 (calmP Oz (F,M)).2 from ⟨hon.inv,hrest,hbd1⟩)
  clear hst hi hbd hon hrest hbd1 hln
  go_wp2_with fail
  refine CA.mono ?_
  rintro e w4 ⟨rfl,h4⟩
  obtain ⟨⟨G,B⟩,hG⟩ : ∃ P,calmP Oz (F,M) = P := ⟨_,rfl⟩
  rw [hG] at h4 HP
  dsimp only at h4 HP
  have hrgk : w4.rangeAt g5 0 (#[.int .i64 l0,.int .i64 z0,.int .i64 x0,.int .i64 y0] : Array Value).toList := rng_blk (unhide HK0 _ _ _ h4)
  have PC := place_any l0 z0 x0 y0 w4 rl0 rz0 rx0 ry0
  have hk0 := place_ok l0 z0 x0 y0
  obtain ⟨l,hl⟩ : ∃ l,pk l0 4 = l := ⟨_,rfl⟩
  obtain ⟨z,hz⟩ : ∃ z,pk z0 23 = z := ⟨_,rfl⟩
  rw [hl,hz] at PC hk0
  obtain ⟨x,hx⟩ : ∃ x,pk x0 ((2 : Int) ^ z.toNat) = x := ⟨_,rfl⟩
  obtain ⟨y,hy⟩ : ∃ y,pk y0 ((2 : Int) ^ z.toNat) = y := ⟨_,rfl⟩
  rw [hx,hy] at PC hk0
  have HKO := hide hk0
  have H4 := hide h4
  clear CA h4 hG hk0 hl hz hx hy HK0
  go_wp2_with (refine ldG 39 #[.int .i64 l0,.int .i64 z0,.int .i64 x0,.int .i64 y0] Tryz.underlying39 rfl (sz39 _ _ _ _) g5 0 hrgk rfl _ rfl rfl ?_)
  refine PC.mono ?_
  rintro e w5 ⟨rfl,hb5⟩
  obtain ⟨w6,hw6⟩ : ∃ W',w5.alloc (.cells #[.int .i64 0,.int .i64 0,.int .i64 0,.int .i64 0] 39) = W' := ⟨_,rfl⟩
  have hAw6 : w6.heap[w5.heap.size]? = some (.cells #[.int .i64 0,.int .i64 0,.int .i64 0,.int .i64 0] 39 (0,0)) := hw6 ▸ heap_alloc_new w5 (.cells #[.int .i64 0,.int .i64 0,.int .i64 0,.int .i64 0] 39 (0,0))
  have hbw6 : Below w5.heap.size w5 w6 := hw6 ▸ (Below.refl w5.heap.size w5).alloc (Nat.le_refl _) (.cells #[.int .i64 0,.int .i64 0,.int .i64 0,.int .i64 0] 39)
  have HALk := hide (show ∀ (W : World) (ev : Operand -> Value) (o : Oper),o.op = .alloc 39 -> W = w5 -> (execOp ev o).run Tryz.prog W = .ok (.value (.pointer (some ⟨w5.heap.size,0,none⟩))) w6 from fun W ev o q e => by subst e; exact al39 ev o q W w6 hw6)
  obtain ⟨w7,hw7⟩ : ∃ W',w6.setRow w5.heap.size #[.int .i64 l,.int .i64 z,.int .i64 x,.int .i64 y] = W' := ⟨_,rfl⟩
  have hAw7 : w7.heap[w5.heap.size]? = some (.cells #[.int .i64 l,.int .i64 z,.int .i64 x,.int .i64 y] 39 (0,0)) := hw7 ▸ setRow_heap _ _ _ #[.int .i64 l,.int .i64 z,.int .i64 x,.int .i64 y] _ _ hAw6
  have hbw7 : Below w5.heap.size w5 w7 := hw7 ▸ below_setRow hbw6 (Nat.le_refl _) #[.int .i64 l,.int .i64 z,.int .i64 x,.int .i64 y]
  have HSTk := hide (show ∀ (W : World) (ev : Operand -> Value) (o : Oper) (s t : Operand),o.op = .store 39 s t -> ev s = .pointer (some ⟨w5.heap.size,0,none⟩) -> ev t = .agg #[.int .i64 l,.int .i64 z,.int .i64 x,.int .i64 y] -> W = w6 -> (execOp ev o).run Tryz.prog W = .ok .skip w7 from fun W ev o s t q q1 q2 e => by subst e; exact hw7 ▸ stR ev o s t 39 q #[.int .i64 l,.int .i64 z,.int .i64 x,.int .i64 y] #[.int .i64 0,.int .i64 0,.int .i64 0,.int .i64 0] (sz39 _ _ _ _) (by simp [Value.oneCell']) rfl _ q1 q2 W hAw6)
  obtain ⟨gk,hgk⟩ : ∃ g,w5.heap.size = g := ⟨_,rfl⟩
  rw [hgk] at HALk HSTk hAw7
  have hb7 : Below w4.heap.size w4 w7 := hb5.trans (hbw7.mono hb5.size)
  obtain ⟨b,hbw,hup,hT,h7⟩ := (unhide H4).grow hb7
  have HKB := hide (show ∀ (W : World) (F : FM) (M : BM),StE b W bb fb F M -> W.heap[gk]? = some (.cells #[.int .i64 l,.int .i64 z,.int .i64 x,.int .i64 y] 39 (0,0)) from fun W F M hW => by
    have k1 := hW.kp.block gk (hT gk (by have := hb5.size; omega) (blk_lt hAw7))
    rw [hbw] at k1
    exact k1.trans hAw7)
  have HUP := hide hup
  have hrg7 : w7.rangeAt gk 0 (#[.int .i64 l,.int .i64 z,.int .i64 x,.int .i64 y] : Array Value).toList := rng_blk hAw7
  have PR := Print_key ⟨l,z,x,y⟩ (unhide HKO) w7 (by obtain ⟨_,_,_,_,q⟩ := h7; exact q.fro.glb)
  have H7 := hide h7
  clear PC hrgk hb5 hw6 hAw6 hbw6 hw7 hAw7 hbw7 hgk hb7 hbw hup hT h7 H4
  go_wp2_with (first | refine wlV _ _ (unhide HALk _ _ _ rfl rfl) rfl ?_ | refine wlSk _ (unhide HSTk _ _ _ _ _ rfl rfl rfl rfl) rfl ?_ | refine ldG 39 #[.int .i64 l,.int .i64 z,.int .i64 x,.int .i64 y] Tryz.underlying39 rfl (sz39 _ _ _ _) gk 0 hrg7 rfl _ rfl rfl ?_)
  refine PR.mono ?_
  rintro e w8 ⟨⟨P,rfl,hP1,hP2⟩,hb8⟩
  have hpp := parse_path (unhide HKO) P hP1
  have h8 := (unhide H7).on hb8
  obtain ⟨hi8,hr8,hbd8⟩ := unhide HP
  have hpl : P.size <= maxLen := by unfold maxLen; omega
  have AR := arrive_any L.length b bb fb G B P ⟨#[]⟩ w8 h8 hi8 hbd8 (by omega) hpl
  rw [hpp] at AR
  dsimp only at AR
  have HPP := hide hpp
  have HPL := hide hpl
  clear PR hP1 hP2 hb8 hpp h8 hi8 hr8 hbd8 H7 HALk HSTk hrg7 hpl
  go_wp2_with fail
  refine AR.mono ?_
  rintro e w9 ⟨rfl,h9⟩
  obtain ⟨hi8,hr8,hbd8⟩ := unhide HP
  have hne0 : (⟨#[]⟩ : ByteArray) ≠ tagP G ⟨l,z,x,y⟩ := fun e => tagB_ne _ _ e.symm
  have hi9 := hi8.arrB (p := (G,B)) (k := ⟨l,z,x,y⟩) (e := 0) (Or.inl ⟨rfl,unhide HKO⟩) ⟨#[]⟩
  have hbd9 := hbd8.arrB (O := Oz) (p := (G,B)) ⟨l,z,x,y⟩ 0 ⟨#[]⟩
  obtain ⟨ho,hre⟩ := calm_rest (O := Oz) (arrB Oz (G,B) ⟨l,z,x,y⟩ 0 ⟨#[]⟩) hi9
  have hlf := last_fine (O := Oz) (p := (G,B)) hi8 (k := ⟨l,z,x,y⟩) (tag := ⟨#[]⟩) (arr_plain (p := (G,B)) hi8 hr8.waiting hne0) ho hre.waiting
  have hbd10 := ho.bd hbd9
  have hlo := fun q => lone_in (O := Oz) (p := (G,B)) hi8 hr8 q (unhide HKO) hne0
  have hla := arrR_like (O := Oz) G ⟨l,z,x,y⟩ 0 ⟨#[]⟩
  have CA := calm_any (L.length + 1) b bb fb _ _ w9 h9 hi9 hbd9 (by omega)
  have hlk : tagP (calmP Oz (arrB Oz (G,B) ⟨l,z,x,y⟩ 0 ⟨#[]⟩)).1 ⟨l,z,x,y⟩ = tagP G ⟨l,z,x,y⟩ /\ (calmP Oz (arrB Oz (G,B) ⟨l,z,x,y⟩ 0 ⟨#[]⟩)).1.FLs = G.FLs /\ (calmP Oz (arrB Oz (G,B) ⟨l,z,x,y⟩ 0 ⟨#[]⟩)).1.ver = G.ver /\ (calmP Oz (arrB Oz (G,B) ⟨l,z,x,y⟩ 0 ⟨#[]⟩)).1.room = G.room := by
    have hl := ho.like
    refine ⟨?_,hl.FLs.trans hla.FLs,hl.ver.trans hla.ver,hl.room.trans hla.room⟩
    unfold tagP
    rw [hl.LS.trans hla.LS,hl.ver.trans hla.ver]
  have hi10 := ho.inv
  have hw10 := hre.waiting
  obtain ⟨⟨G1,B1⟩,hG1⟩ : ∃ Q,calmP Oz (arrB Oz (G,B) ⟨l,z,x,y⟩ 0 ⟨#[]⟩) = Q := ⟨_,rfl⟩
  rw [hG1] at hlf hbd10 hlo CA hlk hi10 hw10
  dsimp only at hlf hbd10 hlo CA hlk hi10 hw10
  obtain ⟨⟨a,⟨⟨fw,fs,fbd,tg⟩,sv,sm,sb⟩,q1,q2,q3,q4,q5,q6,q7,q8⟩,q9,_⟩ := hlf
  dsimp only at q1 q5 q6 q7 q8 q9
  subst q6
  have hsz := hbd10.said hi10
  have hlen : B.reqs.length <= 1410000000000 := by omega
  have HA := hide (show B1.reqs.length = B.reqs.length + 1 /\ B1.reqs[B.reqs.length]? = some a /\ a.said = ((a.said.toNat : Nat) : Int) /\ B1.says[a.said.toNat]? = some ⟨⟨fw,200,fbd,tg⟩,sv,sm,sb⟩ from ⟨q9,q1,by omega,q5⟩)
  have HT := hide (show tg = tagP G1 ⟨l,z,x,y⟩ /\ fbd = Oz.body (G1.FLs G1.ver) ⟨l,z,x,y⟩ from ⟨by rw [hlk.1]; exact q8,by rw [hlk.2.1,hlk.2.2.1]; exact q7⟩)
  have HLO := hide (show 268 <= G1.room -> ∃ t,findT G1.tiles ⟨l,z,x,y⟩ = some t from fun q => hlo (by rw [<- hlk.2.2.2]; exact q))
  have HI1 := hide (show Inv Oz G1 B1 /\ Bd (L.length + 1) G1 B1 /\ G1.waiting = [] from ⟨hi10,hbd10,hw10⟩)
  clear AR h9 hi8 hr8 hbd8 hne0 hi9 hbd9 ho hre hlo hla hlk hbd10 hi10 hw10 hG1 q1 q2 q3 q4 q5 q7 q8 q9 hsz HP
  go_wp2_with fail
  refine CA.mono ?_
  rintro e w10 ⟨rfl,h10⟩
  have htg0 : tg.toList.isEmpty = false := ne_nil (by rw [(unhide HT).1]; exact tagB_ne _ _)
  obtain ⟨u1,u2,u3,u4⟩ := unhide HA
  have LY := last_yes b bb fb G1 B1 B.reqs.length a.said.toNat a fw 200 fbd tg sv sm sb w10 h10 u1 u2 u3 u4 (by omega)
  have H10 := hide h10
  clear CA h10 u1 u2 u3 u4
  go_wp2_with fail
  refine LY.mono ?_
  rintro e w11 ⟨rfl,hb11⟩
  obtain ⟨w12,hw12⟩ : ∃ W',w11.alloc (.cells #[.int .i64 0,.int .i64 0,.string ⟨#[]⟩,.string ⟨#[]⟩] 35) = W' := ⟨_,rfl⟩
  have hAw12 : w12.heap[w11.heap.size]? = some (.cells #[.int .i64 0,.int .i64 0,.string ⟨#[]⟩,.string ⟨#[]⟩] 35 (0,0)) := hw12 ▸ heap_alloc_new w11 (.cells #[.int .i64 0,.int .i64 0,.string ⟨#[]⟩,.string ⟨#[]⟩] 35 (0,0))
  have hbw12 : Below w11.heap.size w11 w12 := hw12 ▸ (Below.refl w11.heap.size w11).alloc (Nat.le_refl _) (.cells #[.int .i64 0,.int .i64 0,.string ⟨#[]⟩,.string ⟨#[]⟩] 35)
  have HALo := hide (show ∀ (W : World) (ev : Operand -> Value) (o : Oper),o.op = .alloc 35 -> W = w11 -> (execOp ev o).run Tryz.prog W = .ok (.value (.pointer (some ⟨w11.heap.size,0,none⟩))) w12 from fun W ev o q e => by subst e; exact al35 ev o q W w12 hw12)
  obtain ⟨w13,hw13⟩ : ∃ W',w12.setRow w11.heap.size #[.int .i64 fw,.int .i64 200,.string fbd,.string tg] = W' := ⟨_,rfl⟩
  have hAw13 : w13.heap[w11.heap.size]? = some (.cells #[.int .i64 fw,.int .i64 200,.string fbd,.string tg] 35 (0,0)) := hw13 ▸ setRow_heap _ _ _ #[.int .i64 fw,.int .i64 200,.string fbd,.string tg] _ _ hAw12
  have hbw13 : Below w11.heap.size w11 w13 := hw13 ▸ below_setRow hbw12 (Nat.le_refl _) #[.int .i64 fw,.int .i64 200,.string fbd,.string tg]
  have HSTo := hide (show ∀ (W : World) (ev : Operand -> Value) (o : Oper) (s t : Operand),o.op = .store 35 s t -> ev s = .pointer (some ⟨w11.heap.size,0,none⟩) -> ev t = .agg #[.int .i64 fw,.int .i64 200,.string fbd,.string tg] -> W = w12 -> (execOp ev o).run Tryz.prog W = .ok .skip w13 from fun W ev o s t q q1 q2 e => by subst e; exact hw13 ▸ stR ev o s t 35 q #[.int .i64 fw,.int .i64 200,.string fbd,.string tg] #[.int .i64 0,.int .i64 0,.string ⟨#[]⟩,.string ⟨#[]⟩] (sz35 _ _ _ _) (by simp [Value.oneCell']) rfl _ q1 q2 W hAw12)
  obtain ⟨go,hgo⟩ : ∃ g,w11.heap.size = g := ⟨_,rfl⟩
  rw [hgo] at HALo HSTo hAw13
  have hb13 : Below w10.heap.size w10 w13 := hb11.trans (hbw13.mono hb11.size)
  obtain ⟨c,hcw,hup,hT,h13⟩ := (unhide H10).grow hb13
  have HKC := hide (show ∀ (W : World) (F : FM) (M : BM),StE c W bb fb F M -> W.heap[gk]? = some (.cells #[.int .i64 l,.int .i64 z,.int .i64 x,.int .i64 y] 39 (0,0)) /\ W.heap[go]? = some (.cells #[.int .i64 fw,.int .i64 200,.string fbd,.string tg] 35 (0,0)) from fun W F M hW => by
    have k1 := hW.kp.block go (hT go (by have := hb11.size; omega) (blk_lt hAw13))
    rw [hcw] at k1
    exact ⟨unhide HKB _ _ _ (hW.back hup),k1.trans hAw13⟩)
  have HUC := hide ((unhide HUP).trans hup)
  have k1 : w13.cell? ⟨go,1,none⟩ = some (.int .i64 200) := blk_cells hAw13 1
  have k3 : w13.cell? ⟨go,3,none⟩ = some (.string tg) := blk_cells hAw13 3
  obtain ⟨hi10,hbd10,hw10⟩ := unhide HI1
  have AR := arrive_any (L.length + 1) c bb fb G1 B1 P tg w13 h13 hi10 hbd10 (by omega) (unhide HPL)
  rw [unhide HPP] at AR
  dsimp only at AR
  clear LY hb11 hw12 hAw12 hbw12 hw13 hAw13 hbw13 hgo hb13 hcw hup hT h13 H10 HKB HUP hi10 hbd10 hw10
  go_wp2_with (first | refine wlV _ _ (unhide HALo _ _ _ rfl rfl) rfl ?_ | refine wlSk _ (unhide HSTo _ _ _ _ _ rfl rfl rfl rfl) rfl ?_)
  refine AR.mono ?_
  rintro e w14 ⟨rfl,h14⟩
  obtain ⟨hi10,hbd10,hw10⟩ := unhide HI1
  obtain ⟨ht1,hbo1⟩ := unhide HT
  have hr := same_rep G1 ⟨l,z,x,y⟩
  have hti := same_tiles G1 ⟨l,z,x,y⟩
  rw [<- ht1] at hr hti
  obtain ⟨v1,v2,v3,_⟩ := arrB_one (O := Oz) (p := (G1,B1)) hi10 hr
  have hi11 := hi10.arrB (p := (G1,B1)) (k := ⟨l,z,x,y⟩) (e := 0) (Or.inl ⟨rfl,unhide HKO⟩) tg
  have hbd11 := hbd10.arrB (O := Oz) (p := (G1,B1)) ⟨l,z,x,y⟩ 0 tg
  have hw11 := arrR_rest hw10 hr
  have hla := arrR_like (O := Oz) G1 ⟨l,z,x,y⟩ 0 tg
  have hlk : tagP (arrB Oz (G1,B1) ⟨l,z,x,y⟩ 0 tg).1 ⟨l,z,x,y⟩ = tagP G1 ⟨l,z,x,y⟩ /\ (arrB Oz (G1,B1) ⟨l,z,x,y⟩ 0 tg).1.FLs = G1.FLs /\ (arrB Oz (G1,B1) ⟨l,z,x,y⟩ 0 tg).1.ver = G1.ver /\ (arrB Oz (G1,B1) ⟨l,z,x,y⟩ 0 tg).1.room = G1.room := by
    refine ⟨?_,hla.FLs,hla.ver,hla.room⟩
    show Oz.tag _ (Oz.stamp (arrR Oz G1 ⟨l,z,x,y⟩ 0 tg).1.LS (arrR Oz G1 ⟨l,z,x,y⟩ 0 tg).1.ver _) = _
    rw [hla.LS,hla.ver]
  change (arrB Oz (G1,B1) ⟨l,z,x,y⟩ 0 tg).1.waiting = [] at hw11
  change (arrB Oz (G1,B1) ⟨l,z,x,y⟩ 0 tg).1.tiles = G1.tiles at hti
  obtain ⟨⟨G2,B2⟩,hG2⟩ : ∃ Q,arrB Oz (G1,B1) ⟨l,z,x,y⟩ 0 tg = Q := ⟨_,rfl⟩
  rw [hG2] at h14 v1 v2 v3 hi11 hbd11 hw11 hlk hti
  dsimp only at h14 v1 v2 v3 hi11 hbd11 hw11 hlk hti
  have hsz := hbd11.said hi11
  obtain ⟨sw,hsw⟩ : ∃ sw : Int,(G1.arrived : Int) = sw := ⟨_,rfl⟩
  rw [hsw] at v2
  have LY := last_yes c bb fb G2 B2 B1.reqs.length B1.says.length _ sw 304 ⟨#[]⟩ tg G1.ver G1.now 1 w14 h14 v3 v1 rfl (by rw [v2]; simp) (by omega)
  have HT2 := hide (show tg = tagP G2 ⟨l,z,x,y⟩ /\ fbd = Oz.body (G2.FLs G2.ver) ⟨l,z,x,y⟩ from ⟨by rw [hlk.1]; exact ht1,by rw [hlk.2.1,hlk.2.2.1]; exact hbo1⟩)
  have HLO2 := hide (show 268 <= G2.room -> ∃ t,findT G2.tiles ⟨l,z,x,y⟩ = some t from fun q => by rw [hti]; exact unhide HLO (by rw [<- hlk.2.2.2]; exact q))
  have HI2 := hide (show Inv Oz G2 B2 /\ Bd (L.length + 1 + 1) G2 B2 /\ G2.waiting = [] from ⟨hi11,hbd11,hw11⟩)
  have H14 := hide h14
  clear AR h14 hi10 hbd10 hw10 ht1 hbo1 hr hti v1 v2 v3 hi11 hbd11 hw11 hla hlk hG2 hsz hsw k1 k3 HT HLO HI1 HALo HSTo HA
  go_wp2_with fail
  refine LY.mono ?_
  rintro e w15 ⟨rfl,hb15⟩
  obtain ⟨w16,hw16⟩ : ∃ W',w15.alloc (.cells #[.int .i64 0,.int .i64 0,.string ⟨#[]⟩,.string ⟨#[]⟩] 35) = W' := ⟨_,rfl⟩
  have hAw16 : w16.heap[w15.heap.size]? = some (.cells #[.int .i64 0,.int .i64 0,.string ⟨#[]⟩,.string ⟨#[]⟩] 35 (0,0)) := hw16 ▸ heap_alloc_new w15 (.cells #[.int .i64 0,.int .i64 0,.string ⟨#[]⟩,.string ⟨#[]⟩] 35 (0,0))
  have hbw16 : Below w15.heap.size w15 w16 := hw16 ▸ (Below.refl w15.heap.size w15).alloc (Nat.le_refl _) (.cells #[.int .i64 0,.int .i64 0,.string ⟨#[]⟩,.string ⟨#[]⟩] 35)
  have HALt := hide (show ∀ (W : World) (ev : Operand -> Value) (o : Oper),o.op = .alloc 35 -> W = w15 -> (execOp ev o).run Tryz.prog W = .ok (.value (.pointer (some ⟨w15.heap.size,0,none⟩))) w16 from fun W ev o q e => by subst e; exact al35 ev o q W w16 hw16)
  obtain ⟨w17,hw17⟩ : ∃ W',w16.setRow w15.heap.size #[.int .i64 sw,.int .i64 304,.string ⟨#[]⟩,.string tg] = W' := ⟨_,rfl⟩
  have hAw17 : w17.heap[w15.heap.size]? = some (.cells #[.int .i64 sw,.int .i64 304,.string ⟨#[]⟩,.string tg] 35 (0,0)) := hw17 ▸ setRow_heap _ _ _ #[.int .i64 sw,.int .i64 304,.string ⟨#[]⟩,.string tg] _ _ hAw16
  have hbw17 : Below w15.heap.size w15 w17 := hw17 ▸ below_setRow hbw16 (Nat.le_refl _) #[.int .i64 sw,.int .i64 304,.string ⟨#[]⟩,.string tg]
  have HSTt := hide (show ∀ (W : World) (ev : Operand -> Value) (o : Oper) (s t : Operand),o.op = .store 35 s t -> ev s = .pointer (some ⟨w15.heap.size,0,none⟩) -> ev t = .agg #[.int .i64 sw,.int .i64 304,.string ⟨#[]⟩,.string tg] -> W = w16 -> (execOp ev o).run Tryz.prog W = .ok .skip w17 from fun W ev o s t q q1 q2 e => by subst e; exact hw17 ▸ stR ev o s t 35 q #[.int .i64 sw,.int .i64 304,.string ⟨#[]⟩,.string tg] #[.int .i64 0,.int .i64 0,.string ⟨#[]⟩,.string ⟨#[]⟩] (sz35 _ _ _ _) (by simp [Value.oneCell']) rfl _ q1 q2 W hAw16)
  obtain ⟨gt,hgt⟩ : ∃ g,w15.heap.size = g := ⟨_,rfl⟩
  rw [hgt] at HALt HSTt hAw17
  have h17 := ((unhide H14).on hb15).on hbw17
  have k1 : w17.cell? ⟨gt,1,none⟩ = some (.int .i64 304) := blk_cells hAw17 1
  have k3 : w17.cell? ⟨gt,3,none⟩ = some (.string tg) := blk_cells hAw17 3
  have o3 : w17.cell? ⟨go,3,none⟩ = some (.string tg) := blk_cells (unhide HKC _ _ _ h17).2 3
  have htt : (tg.toList == tg.toList) = true := beq_self_eq_true _
  have c4 : w17.cell? ⟨bb,4,none⟩ = some (.int .i64 G2.room) := by
    obtain ⟨_,_,_,_,hS⟩ := h17
    exact hS.cs.2.2.2.2.1
  have H17 := hide h17
  clear LY hb15 hw16 hAw16 hbw16 hw17 hAw17 hbw17 hgt h17 H14
  by_cases hroom : 268 <= G2.room
  . have d1 : decide ((268 : Int) <= (G2.room : Int)) = true := decide_eq_true (by omega)
    have d2 : decide ((G2.room : Int) < 268) = false := decide_eq_false (by omega)
    have AR := arrive_any (L.length + 1 + 1) c bb fb G2 B2 P ⟨#[]⟩ w17 (unhide H17) (unhide HI2).1 (unhide HI2).2.1 (by omega) (unhide HPL)
    rw [unhide HPP] at AR
    dsimp only at AR
    go_wp2_with (first | refine wlV _ _ (unhide HALt _ _ _ rfl rfl) rfl ?_ | refine wlSk _ (unhide HSTt _ _ _ _ _ rfl rfl rfl rfl) rfl ?_)
    refine AR.mono ?_
    rintro e w18 ⟨rfl,h18⟩
    obtain ⟨hi12,hbd12,hw12⟩ := unhide HI2
    obtain ⟨ht2,hbo2⟩ := unhide HT2
    obtain ⟨t,hf⟩ := unhide HLO2 hroom
    have hne0 : (⟨#[]⟩ : ByteArray) ≠ tagP G2 ⟨l,z,x,y⟩ := fun e => tagB_ne _ _ e.symm
    have hr := cached_rep hi12.ok hf hne0
    rw [<- ht2,<- hbo2] at hr
    obtain ⟨v1,v2,v3,_⟩ := arrB_one (O := Oz) (p := (G2,B2)) hi12 hr
    have hi13 := hi12.arrB (p := (G2,B2)) (k := ⟨l,z,x,y⟩) (e := 0) (Or.inl ⟨rfl,unhide HKO⟩) ⟨#[]⟩
    have hbd13 := hbd12.arrB (O := Oz) (p := (G2,B2)) ⟨l,z,x,y⟩ 0 ⟨#[]⟩
    have hw13 := arrR_rest hw12 hr
    have hla := arrR_like (O := Oz) G2 ⟨l,z,x,y⟩ 0 ⟨#[]⟩
    have hlk : tagP (arrB Oz (G2,B2) ⟨l,z,x,y⟩ 0 ⟨#[]⟩).1 ⟨l,z,x,y⟩ = tagP G2 ⟨l,z,x,y⟩ := by
      show Oz.tag _ (Oz.stamp (arrR Oz G2 ⟨l,z,x,y⟩ 0 ⟨#[]⟩).1.LS (arrR Oz G2 ⟨l,z,x,y⟩ 0 ⟨#[]⟩).1.ver _) = _
      rw [hla.LS,hla.ver]
    change (arrB Oz (G2,B2) ⟨l,z,x,y⟩ 0 ⟨#[]⟩).1.waiting = [] at hw13
    obtain ⟨⟨G3,B3⟩,hG3⟩ : ∃ Q,arrB Oz (G2,B2) ⟨l,z,x,y⟩ 0 ⟨#[]⟩ = Q := ⟨_,rfl⟩
    rw [hG3] at h18 v1 v2 v3 hi13 hbd13 hw13 hlk
    dsimp only at h18 v1 v2 v3 hi13 hbd13 hw13 hlk
    have hsz := hbd13.said hi13
    obtain ⟨cw,hcw⟩ : ∃ cw : Int,(G2.arrived : Int) = cw := ⟨_,rfl⟩
    rw [hcw] at v2
    have LY := last_yes c bb fb G3 B3 B2.reqs.length B2.says.length _ cw 200 fbd tg G2.ver G2.now 1 w18 h18 v3 v1 rfl (by rw [v2]; simp) (by omega)
    have HT3 := hide (show tg = tagP G3 ⟨l,z,x,y⟩ from by rw [hlk]; exact ht2)
    have HI3 := hide (show Inv Oz G3 B3 /\ Bd (L.length + 1 + 1 + 1) G3 B3 /\ G3.waiting = [] from ⟨hi13,hbd13,hw13⟩)
    have H18 := hide h18
    clear AR h18 hi12 hbd12 hw12 ht2 hbo2 hf hne0 hr v1 v2 v3 hi13 hbd13 hw13 hla hlk hG3 hsz hcw k1 k3 o3 c4 d1 d2 HT2 HLO2 HI2 HALt HSTt H17
    go_wp2_with fail
    refine LY.mono ?_
    rintro e w19 ⟨rfl,hb19⟩
    obtain ⟨w20,hw20⟩ : ∃ W',w19.alloc (.cells #[.int .i64 0,.int .i64 0,.string ⟨#[]⟩,.string ⟨#[]⟩] 35) = W' := ⟨_,rfl⟩
    have hAw20 : w20.heap[w19.heap.size]? = some (.cells #[.int .i64 0,.int .i64 0,.string ⟨#[]⟩,.string ⟨#[]⟩] 35 (0,0)) := hw20 ▸ heap_alloc_new w19 (.cells #[.int .i64 0,.int .i64 0,.string ⟨#[]⟩,.string ⟨#[]⟩] 35 (0,0))
    have hbw20 : Below w19.heap.size w19 w20 := hw20 ▸ (Below.refl w19.heap.size w19).alloc (Nat.le_refl _) (.cells #[.int .i64 0,.int .i64 0,.string ⟨#[]⟩,.string ⟨#[]⟩] 35)
    have HALh := hide (show ∀ (W : World) (ev : Operand -> Value) (o : Oper),o.op = .alloc 35 -> W = w19 -> (execOp ev o).run Tryz.prog W = .ok (.value (.pointer (some ⟨w19.heap.size,0,none⟩))) w20 from fun W ev o q e => by subst e; exact al35 ev o q W w20 hw20)
    obtain ⟨w21,hw21⟩ : ∃ W',w20.setRow w19.heap.size #[.int .i64 cw,.int .i64 200,.string fbd,.string tg] = W' := ⟨_,rfl⟩
    have hAw21 : w21.heap[w19.heap.size]? = some (.cells #[.int .i64 cw,.int .i64 200,.string fbd,.string tg] 35 (0,0)) := hw21 ▸ setRow_heap _ _ _ #[.int .i64 cw,.int .i64 200,.string fbd,.string tg] _ _ hAw20
    have hbw21 : Below w19.heap.size w19 w21 := hw21 ▸ below_setRow hbw20 (Nat.le_refl _) #[.int .i64 cw,.int .i64 200,.string fbd,.string tg]
    have HSTh := hide (show ∀ (W : World) (ev : Operand -> Value) (o : Oper) (s t : Operand),o.op = .store 35 s t -> ev s = .pointer (some ⟨w19.heap.size,0,none⟩) -> ev t = .agg #[.int .i64 cw,.int .i64 200,.string fbd,.string tg] -> W = w20 -> (execOp ev o).run Tryz.prog W = .ok .skip w21 from fun W ev o s t q q1 q2 e => by subst e; exact hw21 ▸ stR ev o s t 35 q #[.int .i64 cw,.int .i64 200,.string fbd,.string tg] #[.int .i64 0,.int .i64 0,.string ⟨#[]⟩,.string ⟨#[]⟩] (sz35 _ _ _ _) (by simp [Value.oneCell']) rfl _ q1 q2 W hAw20)
    obtain ⟨gh,hgh⟩ : ∃ g,w19.heap.size = g := ⟨_,rfl⟩
    rw [hgh] at HALh HSTh hAw21
    have h21 := ((unhide H18).on hb19).on hbw21
    have k1 : w21.cell? ⟨gh,1,none⟩ = some (.int .i64 200) := blk_cells hAw21 1
    have k2 : w21.cell? ⟨gh,2,none⟩ = some (.string fbd) := blk_cells hAw21 2
    have k3 : w21.cell? ⟨gh,3,none⟩ = some (.string tg) := blk_cells hAw21 3
    have o2 : w21.cell? ⟨go,2,none⟩ = some (.string fbd) := blk_cells (unhide HKC _ _ _ h21).2 2
    have o3 : w21.cell? ⟨go,3,none⟩ = some (.string tg) := blk_cells (unhide HKC _ _ _ h21).2 3
    have hbb : (fbd.toList == fbd.toList) = true := beq_self_eq_true _
    have TG := TA bb fb (L.length + 1 + 1 + 1) c G3 B3 w21 h21 (unhide HI3).1 (unhide HI3).2.1 (by omega)
    clear LY hb19 hw20 hAw20 hbw20 hw21 hAw21 hbw21 hgh h21 H18
    go_wp2_with (first | refine wlV _ _ (unhide HALh _ _ _ rfl rfl) rfl ?_ | refine wlSk _ (unhide HSTh _ _ _ _ _ rfl rfl rfl rfl) rfl ?_)
    refine TG.mono ?_
    rintro e w22 ⟨rfl,h22,_⟩
    have RN := renewed_any (L.length + 1 + 1 + 1) c bb fb G3 B3 P l z x y fw 200 fbd w22 h22 (unhide HI3).1 (unhide HI3).2.1 (by omega) (unhide HI3).2.2 (unhide HKO) (unhide HPL) (unhide HPP) (fun n w0 F M w => TA bb fb n w0 F M w)
    rw [<- unhide HT3] at RN
    have hrK : w22.rangeAt gk 0 (#[.int .i64 l,.int .i64 z,.int .i64 x,.int .i64 y] : Array Value).toList := rng_blk (unhide HKC _ _ _ h22).1
    have hrR : w22.rangeAt go 0 (#[.int .i64 fw,.int .i64 200,.string fbd,.string tg] : Array Value).toList := rng_blk (unhide HKC _ _ _ h22).2
    clear TG h22 TA k1 k3 o3 htt
    go_wp2_with (first | refine ldG 39 #[.int .i64 l,.int .i64 z,.int .i64 x,.int .i64 y] Tryz.underlying39 rfl (sz39 _ _ _ _) gk 0 hrK rfl _ rfl rfl ?_ | refine ldG 35 #[.int .i64 fw,.int .i64 200,.string fbd,.string tg] Tryz.underlying35 rfl (sz35 _ _ _ _) go 0 hrR rfl _ rfl rfl ?_)
    refine RN.mono ?_
    rintro e wz ⟨rfl,Fz,Mz,hz⟩
    have HZ := hide ((hz.back (unhide HUC)).below (unhide HB0))
    clear RN hz hrK hrR
    go_wp2_with fail
    go_ret
    exact ⟨rfl,unhide HZ⟩
  . have d1 : decide ((268 : Int) <= (G2.room : Int)) = false := decide_eq_false (by omega)
    have d2 : decide ((G2.room : Int) < 268) = true := decide_eq_true (by omega)
    have TG := TA bb fb (L.length + 1 + 1) c G2 B2 w17 (unhide H17) (unhide HI2).1 (unhide HI2).2.1 (by omega)
    go_wp2_with (first | refine wlV _ _ (unhide HALt _ _ _ rfl rfl) rfl ?_ | refine wlSk _ (unhide HSTt _ _ _ _ _ rfl rfl rfl rfl) rfl ?_)
    refine TG.mono ?_
    rintro e w18 ⟨rfl,h18,_⟩
    have RN := renewed_any (L.length + 1 + 1) c bb fb G2 B2 P l z x y fw 200 fbd w18 h18 (unhide HI2).1 (unhide HI2).2.1 (by omega) (unhide HI2).2.2 (unhide HKO) (unhide HPL) (unhide HPP) (fun n w0 F M w => TA bb fb n w0 F M w)
    rw [<- (unhide HT2).1] at RN
    have hrK : w18.rangeAt gk 0 (#[.int .i64 l,.int .i64 z,.int .i64 x,.int .i64 y] : Array Value).toList := rng_blk (unhide HKC _ _ _ h18).1
    have hrR : w18.rangeAt go 0 (#[.int .i64 fw,.int .i64 200,.string fbd,.string tg] : Array Value).toList := rng_blk (unhide HKC _ _ _ h18).2
    clear TG h18 TA k1 k3 o3 htt
    go_wp2_with (first | refine ldG 39 #[.int .i64 l,.int .i64 z,.int .i64 x,.int .i64 y] Tryz.underlying39 rfl (sz39 _ _ _ _) gk 0 hrK rfl _ rfl rfl ?_ | refine ldG 35 #[.int .i64 fw,.int .i64 200,.string fbd,.string tg] Tryz.underlying35 rfl (sz35 _ _ _ _) go 0 hrR rfl _ rfl rfl ?_)
    refine RN.mono ?_
    rintro e wz ⟨rfl,Fz,Mz,hz⟩
    have HZ := hide ((hz.back (unhide HUC)).below (unhide HB0))
    clear RN hz hrK hrR
    go_wp2_with fail
    go_ret
    exact ⟨rfl,unhide HZ⟩
set_option maxHeartbeats 25600000 in
theorem tags_any (n : Nat) (w0 : Bas) (bb fb : Nat) (F : FM) (M : BM) (w : World) (hst : StE w0 w bb fb F M) (hi : Inv Oz F M) (hbd : Bd n F M) (hn : n <= 1420000000000) :
    Calls Tryz.prog 19 #[.pointer (some ⟨bb,0,none⟩)] w fun e w' => e = .returned (.bool true) /\ StE w0 w' bb fb F M /\ Below w.heap.size w w' := by
  have hsz := hbd.said hi
  have hpl : M.says.length <= 1420000000000 := by omega
  have HI := hide hi
  have HST0 := hide hst
  clear hst hi hbd hsz hn
  go_enter Tryz.func19,Tryz.ntmps19
  go_wp2_with fail
  go_loopw [3,4,5,6,7] (fun i _ _ _ _ wr => ∃ k : Nat,k <= M.says.length /\ i = .int .i64 k /\ Hid (Below w.heap.size w wr)) (fun i _ _ _ _ _ => M.says.length - (intOf i).toNat)
  case atStart => exact ⟨0,by omega,rfl,hide (Below.refl _ _)⟩
  case round =>
    obtain ⟨k,hk,rfl,hbr⟩ := hrel
    have hst := (unhide HST0).on (unhide hbr)
    have HST1 := hide hst
    obtain ⟨_,_,B,_,hS⟩ := hst
    by_cases hlt : k < M.says.length
    . have hkn : (k : Int) < M.says.length := by omega
      obtain ⟨⟨⟨who,is_,ib,it⟩,iv,im,iy⟩,hsk⟩ : ∃ s,M.says[k]? = some s := ⟨_,List.getElem?_eq_getElem hlt⟩
      obtain ⟨hw0,_,_,a,ha,hsd,hok⟩ := (unhide HI).bi.say k _ hsk
      dsimp only at hw0 ha
      obtain ⟨iw,rfl⟩ : ∃ wn : Nat,who = wn := ⟨who.toNat,by omega⟩
      have hstr := say_strings (unhide HI).ok ((unhide HI).asks _ a ha).2.2.2.2.1 hok
      dsimp only at hstr
      clear hsd hok ha a hw0
      obtain ⟨g9,off9,cap9,e9,hrg9,_⟩ := hS.bk.mem.say.spot hsk
      have c9 : wr.cell? ⟨bb,9,none⟩ = some (.slice (some ⟨g9,off9,none⟩) M.says.length cap9) := by rw [<- e9]; exact hS.bk.blk.cells 9
      have hrg : ∀ {W : World},W = wr -> W.rangeAt g9 (off9 + k * 7) (#[.int .i64 (iw : Int),.int .i64 is_,.string ib,.string it,.int .i64 iv,.int .i64 im,.int .i64 iy] : Array Value).toList := fun e => e ▸ hrg9
      obtain ⟨w4,hw4⟩ : ∃ W',wr.alloc (.cells #[.int .i64 0,.int .i64 0,.string ⟨#[]⟩,.string ⟨#[]⟩,.int .i64 0,.int .i64 0,.int .i64 0] 37) = W' := ⟨_,rfl⟩
      have hAw4 : w4.heap[wr.heap.size]? = some (.cells #[.int .i64 0,.int .i64 0,.string ⟨#[]⟩,.string ⟨#[]⟩,.int .i64 0,.int .i64 0,.int .i64 0] 37 (0,0)) := hw4 ▸ heap_alloc_new wr (.cells #[.int .i64 0,.int .i64 0,.string ⟨#[]⟩,.string ⟨#[]⟩,.int .i64 0,.int .i64 0,.int .i64 0] 37 (0,0))
      have hbw4 : Below wr.heap.size wr w4 := hw4 ▸ (Below.refl wr.heap.size wr).alloc (Nat.le_refl _) (.cells #[.int .i64 0,.int .i64 0,.string ⟨#[]⟩,.string ⟨#[]⟩,.int .i64 0,.int .i64 0,.int .i64 0] 37)
      obtain ⟨gS,hggS⟩ : ∃ g1,wr.heap.size = g1 := ⟨_,rfl⟩
      have HALgS := hide (show ∀ (W : World) (ev : Operand -> Value) (o : Oper),o.op = .alloc 37 -> W = wr -> (execOp ev o).run Tryz.prog W = .ok (.value (.pointer (some ⟨gS,0,none⟩))) w4 from fun W ev o q e => by subst e; exact hggS ▸ al37 ev o q W w4 hw4)
      rw [hggS] at hAw4
      obtain ⟨w5,hw5⟩ : ∃ W',w4.setRow gS #[.int .i64 (iw : Int),.int .i64 is_,.string ib,.string it,.int .i64 iv,.int .i64 im,.int .i64 iy] = W' := ⟨_,rfl⟩
      have hAw5 : w5.heap[gS]? = some (.cells #[.int .i64 (iw : Int),.int .i64 is_,.string ib,.string it,.int .i64 iv,.int .i64 im,.int .i64 iy] 37 (0,0)) := hw5 ▸ setRow_heap _ _ _ #[.int .i64 (iw : Int),.int .i64 is_,.string ib,.string it,.int .i64 iv,.int .i64 im,.int .i64 iy] _ _ hAw4
      have hbw5 : Below wr.heap.size wr w5 := hw5 ▸ below_setRow hbw4 (by omega) #[.int .i64 (iw : Int),.int .i64 is_,.string ib,.string it,.int .i64 iv,.int .i64 im,.int .i64 iy]
      have HSTgS := hide (show ∀ (W : World) (ev : Operand -> Value) (o : Oper) (s t : Operand),o.op = .store 37 s t -> ev s = .pointer (some ⟨gS,0,none⟩) -> ev t = .agg #[.int .i64 (iw : Int),.int .i64 is_,.string ib,.string it,.int .i64 iv,.int .i64 im,.int .i64 iy] -> W = w4 -> (execOp ev o).run Tryz.prog W = .ok .skip w5 from fun W ev o s t q q1 q2 e => by subst e; exact hw5 ▸ stR ev o s t 37 q #[.int .i64 (iw : Int),.int .i64 is_,.string ib,.string it,.int .i64 iv,.int .i64 im,.int .i64 iy] #[.int .i64 0,.int .i64 0,.string ⟨#[]⟩,.string ⟨#[]⟩,.int .i64 0,.int .i64 0,.int .i64 0] (sz37 _ _ _ _ _ _ _) (say_one _ _ _ _ _ _ _) rfl gS q1 q2 W hAw4)
      have HAS := hide hAw5
      have hbr5 := hbw5
      have hltb : bb < wr.heap.size := blk_lt hS.bk.blk
      have HB5 := hide ((unhide hbr).trans (hbw5.mono (unhide hbr).size))
      have k1 : w5.cell? ⟨gS,1,none⟩ = some (.int .i64 is_) := blk_cells hAw5 1
      have HSK := hide hsk
      have HSTR := hide hstr
      clear hS e9 hrg9 hw4 hAw4 hbw4 hw5 hAw5 hbw5 hggS hbr hsk hstr
      by_cases h200 : is_ = 200
      . subst h200
        have hne := ((unhide HSTR).1 rfl).2
        have HNE := hide hne
        have c9b : w5.cell? ⟨bb,9,none⟩ = some (.slice (some ⟨g9,off9,none⟩) M.says.length cap9) := (hbr5.cell (p := ⟨bb,9,none⟩) hltb).trans c9
        clear hne hbr5
        go_wp2_with (guard_target =~ wpList Tryz.prog _ _ _ _ _; first | refine ldG 37 #[.int .i64 (iw : Int),.int .i64 200,.string ib,.string it,.int .i64 iv,.int .i64 im,.int .i64 iy] Tryz.underlying37 rfl (sz37 _ _ _ _ _ _ _) g9 (off9 + k * 7) (hrg rfl) rfl _ rfl rfl ?_ | refine wlV _ _ (unhide HALgS _ _ _ rfl rfl) rfl ?_ | refine wlSk _ (unhide HSTgS _ _ _ _ _ rfl rfl rfl rfl) rfl ?_)
        go_loopw [5,6,7] (fun j _ _ wx => ∃ m : Nat,m <= M.says.length /\ j = .int .i64 m /\ Hid (Below w.heap.size w wx /\ wx.heap[gS]? = some (.cells #[.int .i64 (iw : Int),.int .i64 200,.string ib,.string it,.int .i64 iv,.int .i64 im,.int .i64 iy] 37 (0,0)))) (fun j _ _ _ => M.says.length - (intOf j).toNat)
        case atStart => exact ⟨0,by omega,rfl,hide ⟨unhide HB5,unhide HAS⟩⟩
        case round =>
          clear c9b
          obtain ⟨m,hm,rfl,hx⟩ := hrel
          obtain ⟨hbx,hSx⟩ := unhide hx
          have hstx := (unhide HST0).on hbx
          have HSTX := hide hstx
          obtain ⟨_,_,Bx,_,hSX⟩ := hstx
          by_cases hltm : m < M.says.length
          . have hmn : (m : Int) < M.says.length := by omega
            obtain ⟨⟨⟨who,js,jb,jt⟩,jv,jm,jy⟩,hsm⟩ : ∃ s,M.says[m]? = some s := ⟨_,List.getElem?_eq_getElem hltm⟩
            obtain ⟨hw0,_,_,a,ha,hsd,_⟩ := (unhide HI).bi.say m _ hsm
            dsimp only at hw0 ha
            obtain ⟨jw,rfl⟩ : ∃ wn : Nat,who = wn := ⟨who.toNat,by omega⟩
            rw [Int.toNat_natCast] at ha
            clear hsd hw0
            obtain ⟨h9,o9,p9,f9,hrgm,_⟩ := hSX.bk.mem.say.spot hsm
            have c9m : wr.cell? ⟨bb,9,none⟩ = some (.slice (some ⟨h9,o9,none⟩) M.says.length p9) := by rw [<- f9]; exact hSX.bk.blk.cells 9
            have hrgt : ∀ {W : World},W = wr -> W.rangeAt h9 (o9 + m * 7) (#[.int .i64 (jw : Int),.int .i64 js,.string jb,.string jt,.int .i64 jv,.int .i64 jm,.int .i64 jy] : Array Value).toList := fun e => e ▸ hrgm
            obtain ⟨w3,hw3⟩ : ∃ W',wr.alloc (.cells #[.int .i64 0,.int .i64 0,.string ⟨#[]⟩,.string ⟨#[]⟩,.int .i64 0,.int .i64 0,.int .i64 0] 37) = W' := ⟨_,rfl⟩
            have hAw3 : w3.heap[wr.heap.size]? = some (.cells #[.int .i64 0,.int .i64 0,.string ⟨#[]⟩,.string ⟨#[]⟩,.int .i64 0,.int .i64 0,.int .i64 0] 37 (0,0)) := hw3 ▸ heap_alloc_new wr (.cells #[.int .i64 0,.int .i64 0,.string ⟨#[]⟩,.string ⟨#[]⟩,.int .i64 0,.int .i64 0,.int .i64 0] 37 (0,0))
            have hbw3 : Below wr.heap.size wr w3 := hw3 ▸ (Below.refl wr.heap.size wr).alloc (Nat.le_refl _) (.cells #[.int .i64 0,.int .i64 0,.string ⟨#[]⟩,.string ⟨#[]⟩,.int .i64 0,.int .i64 0,.int .i64 0] 37)
            obtain ⟨gT,hggT⟩ : ∃ g1,wr.heap.size = g1 := ⟨_,rfl⟩
            have HALgT := hide (show ∀ (W : World) (ev : Operand -> Value) (o : Oper),o.op = .alloc 37 -> W = wr -> (execOp ev o).run Tryz.prog W = .ok (.value (.pointer (some ⟨gT,0,none⟩))) w3 from fun W ev o q e => by subst e; exact hggT ▸ al37 ev o q W w3 hw3)
            rw [hggT] at hAw3
            obtain ⟨w4,hw4⟩ : ∃ W',w3.setRow gT #[.int .i64 (jw : Int),.int .i64 js,.string jb,.string jt,.int .i64 jv,.int .i64 jm,.int .i64 jy] = W' := ⟨_,rfl⟩
            have hAw4 : w4.heap[gT]? = some (.cells #[.int .i64 (jw : Int),.int .i64 js,.string jb,.string jt,.int .i64 jv,.int .i64 jm,.int .i64 jy] 37 (0,0)) := hw4 ▸ setRow_heap _ _ _ #[.int .i64 (jw : Int),.int .i64 js,.string jb,.string jt,.int .i64 jv,.int .i64 jm,.int .i64 jy] _ _ hAw3
            have hbw4 : Below wr.heap.size wr w4 := hw4 ▸ below_setRow hbw3 (by omega) #[.int .i64 (jw : Int),.int .i64 js,.string jb,.string jt,.int .i64 jv,.int .i64 jm,.int .i64 jy]
            have HSTgT := hide (show ∀ (W : World) (ev : Operand -> Value) (o : Oper) (s t : Operand),o.op = .store 37 s t -> ev s = .pointer (some ⟨gT,0,none⟩) -> ev t = .agg #[.int .i64 (jw : Int),.int .i64 js,.string jb,.string jt,.int .i64 jv,.int .i64 jm,.int .i64 jy] -> W = w3 -> (execOp ev o).run Tryz.prog W = .ok .skip w4 from fun W ev o s t q q1 q2 e => by subst e; exact hw4 ▸ stR ev o s t 37 q #[.int .i64 (jw : Int),.int .i64 js,.string jb,.string jt,.int .i64 jv,.int .i64 jm,.int .i64 jy] #[.int .i64 0,.int .i64 0,.string ⟨#[]⟩,.string ⟨#[]⟩,.int .i64 0,.int .i64 0,.int .i64 0] (sz37 _ _ _ _ _ _ _) (say_one _ _ _ _ _ _ _) rfl gT q1 q2 W hAw3)
            have hS4 := blk_on hSx hbw4
            have hB4 := hbx.trans (hbw4.mono hbx.size)
            have HX4 := hide (show Below w.heap.size w w4 /\ w4.heap[gS]? = some (.cells #[.int .i64 (iw : Int),.int .i64 200,.string ib,.string it,.int .i64 iv,.int .i64 im,.int .i64 iy] 37 (0,0)) from ⟨hB4,hS4⟩)
            have hot := one_tag (unhide HI) tag_inj (unhide HSK) hsm rfl
            dsimp only at hot
            have t3 : w4.cell? ⟨gT,3,none⟩ = some (.string jt) := blk_cells hAw4 3
            have s3 : w4.cell? ⟨gS,3,none⟩ = some (.string it) := blk_cells hS4 3
            have t1 : w4.cell? ⟨gT,1,none⟩ = some (.int .i64 js) := blk_cells hAw4 1
            have t2 : w4.cell? ⟨gT,2,none⟩ = some (.string jb) := blk_cells hAw4 2
            have s2 : w4.cell? ⟨gS,2,none⟩ = some (.string ib) := blk_cells hS4 2
            have HAT := hide hAw4
            by_cases htag : jt = it
            . subst htag
              obtain ⟨o1,o2⟩ := hot rfl (unhide HNE)
              by_cases h2 : js = 200
              . subst h2
                obtain rfl := o1 rfl
                clear hSX f9 hrgm hw3 hAw3 hbw3 hw4 hAw4 hbw4 hggT hsm hot hS4 hB4 hbx hSx hx ha o2
                go_wp2_with (guard_target =~ wpList Tryz.prog _ _ _ _ _; first | refine ldG 37 #[.int .i64 (jw : Int),.int .i64 200,.string jb,.string jt,.int .i64 jv,.int .i64 jm,.int .i64 jy] Tryz.underlying37 rfl (sz37 _ _ _ _ _ _ _) h9 (o9 + m * 7) (hrgt rfl) rfl _ rfl rfl ?_ | refine wlV _ _ (unhide HALgT _ _ _ rfl rfl) rfl ?_ | refine wlSk _ (unhide HSTgT _ _ _ _ _ rfl rfl rfl rfl) rfl ?_)
                go_roundw
                case rel => exact ⟨m + 1,by omega,by go_num,hide (unhide HX4)⟩
                case measure => simp [intOf]; omega
              . have d2 : (js == 200) = false := by simpa using h2
                by_cases h3 : js = 304
                . subst h3
                  obtain ⟨a',v,q1,q2,q3,q4,q5⟩ := o2 rfl
                  rw [Int.toNat_natCast,ha] at q1
                  simp only [Option.some.injEq] at q1
                  subst q1
                  obtain ⟨at_,⟨al,az,ax,ay⟩,ae,av,an,aw,as_⟩ := a
                  dsimp only at q2 q5
                  subst q3
                  have hst4 := (unhide HST0).on hB4
                  have HST4 := hide hst4
                  obtain ⟨Φ4,Ψ4,B4,WS4,hSF⟩ := hst4
                  obtain ⟨g8,off8,cap8,e8,hrg8,_⟩ := hSF.bk.mem.req.spot ha
                  have c8 : w4.cell? ⟨bb,8,none⟩ = some (.slice (some ⟨g8,off8,none⟩) M.reqs.length cap8) := by rw [<- e8]; exact hSF.bk.blk.cells 8
                  have hlt8 : g8 < w4.heap.size := hSF.bk.mem.req.lt (by rw [e8]; rfl)
                  have hltb : bb < w4.heap.size := blk_lt hSF.bk.blk
                  have hrgK : w4.rangeAt g8 (off8 + jw * 10 + 1) (#[.int .i64 al,.int .i64 az,.int .i64 ax,.int .i64 ay] : Array Value).toList := rngP (C := [.int .i64 ae,.int .i64 av,.int .i64 an,.int .i64 aw,.int .i64 as_]) (rngT hrg8)
                  have hwl : jw < M.reqs.length := (List.getElem?_eq_some_iff.1 ha).1
                  have hwi : (jw : Int) < (M.reqs.length : Int) := by omega
                  have hA0 : ∀ i,i < (F.FLs v).length -> Rt (gf (F.FLs v) i) := by
                    obtain ⟨X,sl,pv,W,hf,_⟩ := hSF.fro
                    exact (hf.ver.rel v q4).1.rt
                  have hF : ∀ W,Below w4.heap.size w4 W -> W.cell? ⟨gS,2,none⟩ = some (.string ib) /\ W.cell? ⟨bb,8,none⟩ = some (.slice (some ⟨g8,off8,none⟩) M.reqs.length cap8) /\ W.cell? ⟨gT,0,none⟩ = some (.int .i64 (jw : Int)) /\ W.cell? ⟨gT,4,none⟩ = some (.int .i64 (v : Int)) /\ W.rangeAt g8 (off8 + jw * 10 + 1) (#[.int .i64 al,.int .i64 az,.int .i64 ax,.int .i64 ay] : Array Value).toList := fun W hW => ⟨blk_cells (blk_on hS4 hW) 2,(hW.cell (p := ⟨bb,8,none⟩) hltb).trans c8,blk_cells (blk_on (unhide HAT) hW) 0,blk_cells (blk_on (unhide HAT) hW) 4,rng_in hrgK hW hlt8⟩
                  have hI : ∀ W,Below w4.heap.size w4 W -> Calls Tryz.prog 11 #[.pointer (some ⟨bb,0,none⟩),.string ib,.agg #[.int .i64 al,.int .i64 az,.int .i64 ax,.int .i64 ay],.int .i64 (v : Int)] W fun e w' => e = .returned (.bool true) /\ Below W.heap.size W w' := fun W hW => by
                    have := is_any w0 bb fb F M (F.FLs v) al az ax ay v W ((unhide HST4).on hW) hA0 q2 q4
                    rw [show bodyB (F.FLs v) ⟨al,az,ax,ay⟩ = ib from q5.symm] at this
                    simpa using this
                  clear hSX f9 hrgm hw3 hAw3 hbw3 hw4 hAw4 hbw4 hggT hsm hot hS4 hB4 hbx hSx hx ha o1 o2 hSF e8 hrg8 c8 hlt8 hltb hrgK hwl hA0 q2 q4 q5 d2 h2
                  have HF0 := hide hF
                  have HI0 := hide hI
                  clear hF hI
                  go_wp2_with (guard_target =~ wpList Tryz.prog _ _ _ _ _; first | refine ldG 37 #[.int .i64 (jw : Int),.int .i64 304,.string jb,.string jt,.int .i64 (v : Int),.int .i64 jm,.int .i64 jy] Tryz.underlying37 rfl (sz37 _ _ _ _ _ _ _) h9 (o9 + m * 7) (hrgt rfl) rfl _ rfl rfl ?_ | refine wlV _ _ (unhide HALgT _ _ _ rfl rfl) rfl ?_ | refine wlSk _ (unhide HSTgT _ _ _ _ _ rfl rfl rfl rfl) rfl ?_)
                  have hF := unhide HF0
                  have hI := unhide HI0
                  refine region_bq (by kernel_rfl) (by kernel_rfl) ?_
                  refine q_move rfl _ rfl (.pointer (some ⟨bb,0,none⟩)) rfl ?_
                  simp only [Act.put,qA,qB,qC]
                  refine q_val rfl (.pointer (some ⟨gS,0,none⟩)) (fun w' hw' => by simp [go_sem]) ?_
                  simp only [Act.put,qA,qB,qC]
                  refine q_val rfl (.pointer (some ⟨gS,2,none⟩)) (fun w' hw' => by simp [go_sem]) ?_
                  simp only [Act.put,qA,qB,qC]
                  refine q_val rfl (.string ib) (fun w' hw' => by simp [go_sem,(hF w' hw').1]) ?_
                  simp only [Act.put,qA,qB,qC]
                  refine q_move rfl _ rfl (.pointer (some ⟨bb,0,none⟩)) rfl ?_
                  simp only [Act.put,qA,qB,qC]
                  refine q_val rfl (.pointer (some ⟨bb,0,none⟩)) (fun w' hw' => by simp [go_sem]) ?_
                  simp only [Act.put,qA,qB,qC]
                  refine q_val rfl (.pointer (some ⟨bb,8,none⟩)) (fun w' hw' => by simp [go_sem]) ?_
                  simp only [Act.put,qA,qB,qC]
                  refine q_val rfl (.slice (some ⟨g8,off8,none⟩) M.reqs.length cap8) (fun w' hw' => by simp [go_sem,(hF w' hw').2.1]) ?_
                  simp only [Act.put,qA,qB,qC]
                  refine q_val rfl (.pointer (some ⟨gT,0,none⟩)) (fun w' hw' => by simp [go_sem]) ?_
                  simp only [Act.put,qA,qB,qC]
                  refine q_val rfl (.pointer (some ⟨gT,0,none⟩)) (fun w' hw' => by simp [go_sem]) ?_
                  simp only [Act.put,qA,qB,qC]
                  refine q_val rfl (.int .i64 (jw : Int)) (fun w' hw' => by simp [go_sem,(hF w' hw').2.2.1]) ?_
                  simp only [Act.put,qA,qB,qC]
                  refine q_val rfl (.pointer (some ⟨g8,off8 + jw * 10,none⟩)) (fun w' hw' => by simp [go_sem,hwi]) ?_
                  simp only [Act.put,qA,qB,qC]
                  refine q_val rfl (.pointer (some ⟨g8,off8 + jw * 10 + 1,none⟩)) (fun w' hw' => by simp [go_sem]) ?_
                  simp only [Act.put,qA,qB,qC]
                  refine q_load rfl 39 _ rfl (g8) (off8 + jw * 10 + 1) rfl (#[.int .i64 al,.int .i64 az,.int .i64 ax,.int .i64 ay]) _ Tryz.underlying39 rfl (sz39 _ _ _ _) (fun W h => (hF W h).2.2.2.2) ?_
                  simp only [Act.put,qA,qB,qC]
                  refine q_val rfl (.pointer (some ⟨gT,4,none⟩)) (fun w' hw' => by simp [go_sem]) ?_
                  simp only [Act.put,qA,qB,qC]
                  refine q_val rfl (.int .i64 (v : Int)) (fun w' hw' => by simp [go_sem,(hF w' hw').2.2.2.1]) ?_
                  simp only [Act.put,qA,qB,qC]
                  refine q_callC rfl 11 (#[.pointer (some ⟨bb,0,none⟩),.string ib,.agg #[.int .i64 al,.int .i64 az,.int .i64 ax,.int .i64 ay],.int .i64 (v : Int)]) (fun _ => by simp [go_sem]) (.bool true) (hI) ?_
                  simp only [Act.put,qA,qB,qC]
                  refine q_assign rfl _ rfl (.bool true) rfl ?_
                  simp only [Act.put,qA,qB,qC]
                  refine wpQuiet_nil ?_
                  intro w7 hw7
                  have HN := hide (show Below w.heap.size w w7 /\ w7.heap[gS]? = some (.cells #[.int .i64 (iw : Int),.int .i64 200,.string ib,.string jt,.int .i64 iv,.int .i64 im,.int .i64 iy] 37 (0,0)) from ⟨(unhide HX4).1.trans (hw7.mono (unhide HX4).1.size),blk_on (unhide HX4).2 hw7⟩)
                  clear hF hI hw7
                  go_wp2_with fail
                  go_roundw
                  case rel => exact ⟨m + 1,by omega,by go_num,hide (unhide HN)⟩
                  case measure => simp [intOf]; omega
                . have d3 : (js == 304) = false := by simpa using h3
                  clear hSX f9 hrgm hw3 hAw3 hbw3 hw4 hAw4 hbw4 hggT hsm hot hS4 hB4 hbx hSx hx ha o1 o2 h2 h3
                  go_wp2_with (guard_target =~ wpList Tryz.prog _ _ _ _ _; first | refine ldG 37 #[.int .i64 (jw : Int),.int .i64 js,.string jb,.string jt,.int .i64 jv,.int .i64 jm,.int .i64 jy] Tryz.underlying37 rfl (sz37 _ _ _ _ _ _ _) h9 (o9 + m * 7) (hrgt rfl) rfl _ rfl rfl ?_ | refine wlV _ _ (unhide HALgT _ _ _ rfl rfl) rfl ?_ | refine wlSk _ (unhide HSTgT _ _ _ _ _ rfl rfl rfl rfl) rfl ?_)
                  go_roundw
                  case rel => exact ⟨m + 1,by omega,by go_num,hide (unhide HX4)⟩
                  case measure => simp [intOf]; omega
            . have dt := str_ne htag
              clear hSX f9 hrgm hw3 hAw3 hbw3 hw4 hAw4 hbw4 hggT hsm hot hS4 hB4 hbx hSx hx ha htag
              go_wp2_with (guard_target =~ wpList Tryz.prog _ _ _ _ _; first | refine ldG 37 #[.int .i64 (jw : Int),.int .i64 js,.string jb,.string jt,.int .i64 jv,.int .i64 jm,.int .i64 jy] Tryz.underlying37 rfl (sz37 _ _ _ _ _ _ _) h9 (o9 + m * 7) (hrgt rfl) rfl _ rfl rfl ?_ | refine wlV _ _ (unhide HALgT _ _ _ rfl rfl) rfl ?_ | refine wlSk _ (unhide HSTgT _ _ _ _ _ rfl rfl rfl rfl) rfl ?_)
              go_roundw
              case rel => exact ⟨m + 1,by omega,by go_num,hide (unhide HX4)⟩
              case measure => simp [intOf]; omega
          . have hml : m = M.says.length := by omega
            obtain ⟨oa9,p9,f9,_⟩ := hSX.bk.mem.say.at
            have c9m : wr.cell? ⟨bb,9,none⟩ = some (.slice oa9 M.says.length p9) := by rw [<- f9]; exact hSX.bk.blk.cells 9
            have HN := hide hbx
            subst hml
            clear hSX f9 hbx hSx hx
            go_wp2_with fail
            go_roundw
            case rel => exact ⟨k + 1,by omega,by go_num,hide (unhide HN)⟩
            case measure => simp [intOf]; omega
      . have d2 : (is_ == 200) = false := by simpa using h200
        clear h200 hbr5
        go_wp2_with (guard_target =~ wpList Tryz.prog _ _ _ _ _; first | refine ldG 37 #[.int .i64 (iw : Int),.int .i64 is_,.string ib,.string it,.int .i64 iv,.int .i64 im,.int .i64 iy] Tryz.underlying37 rfl (sz37 _ _ _ _ _ _ _) g9 (off9 + k * 7) (hrg rfl) rfl _ rfl rfl ?_ | refine wlV _ _ (unhide HALgS _ _ _ rfl rfl) rfl ?_ | refine wlSk _ (unhide HSTgS _ _ _ _ _ rfl rfl rfl rfl) rfl ?_)
        go_roundw
        case rel => exact ⟨k + 1,by omega,by go_num,hide (unhide HB5)⟩
        case measure => simp [intOf]; omega
    . have hkl : k = M.says.length := by omega
      obtain ⟨oa9,cap9,e9,_⟩ := hS.bk.mem.say.at
      have c9 : wr.cell? ⟨bb,9,none⟩ = some (.slice oa9 M.says.length cap9) := by rw [<- e9]; exact hS.bk.blk.cells 9
      subst hkl
      clear hS e9
      go_wp2_with fail
      go_ret
      exact ⟨rfl,unhide HST1,unhide hbr⟩
end Go.Proofs.YtpopchckldbhdaaGreatDoor
namespace Go.Proofs.YtpopchckldbhdaaGreatDoor
set_option maxRecDepth 20000
open Go.ChangeShapes Go.WideShapes Go.ChangeAt Go.RowKit Go.Joins
open Go.ChangeMaps (open_string shut_string)
theorem tagged_contract (H : Type) (enc : TypeId × Value -> H) (W : World) (base : Nat) (args : Array Value) (ds gs : List (DataW H)) (before : List MemPlace)
    (hval : ∀ (j : Nat) t v,Tryz.f6.params[j]? = some t -> args[j]? = some v -> Value.okWide Tryz.prog W .any base t v)
    (hW : DataW.Whole enc Tryz.prog Tryz.f6.params.toList Rows.taggedSpec.vars false W args.toList ds gs before) (hsz : (DataW.weightsEach Tryz.prog (Tryz.f6.params.toList ++ (OpenSpec.ofChange Rows.taggedSpec).bare.plain.varTypes Tryz.prog) (ds ++ gs)).all (· <= reachBytes) = true) (hL : laidMetH Tryz.prog Rows.taggedRow.laid W) :
    Calls Tryz.prog 6 args W fun e W' => ∃ v,e = .returned v /\ Rows.taggedSpec.post enc Tryz.prog Tryz.f6 false true false false W args v W' := by
  have hW' := hW
  obtain ⟨p,q,hA0,hV,rfl,hfz,hnd⟩ := hW
  have hA : DataW.TrodAll enc Tryz.prog W 0 (fun _ => true) true Tryz.f6.params.toList args.toList ds p := hA0
  rw [Tryz.params6] at hA hval
  obtain ⟨v0,v1,v2,d0,d1,d2,p0,p1,p2,rfl,rfl,rfl,h0,h1,h2⟩ := trodAll_three hA
  obtain ⟨rfl,rfl⟩ := trodVars_none hV
  clear hA0
  obtain ⟨cq,wk,wt,ca,ch,rfl,r1,r2,r3,r4,r5⟩ := open_config (hval 0 23 v0 rfl rfl) h0
  have hb : ∀ elems spare,d1 = .slice elems spare -> (elems.length + spare.length) * 104 <= 140737488351232 := fun elems spare e => by
    subst e
    have := sized_slice hsz (j := 1) rfl rfl Tryz.underlying24
    rw [bytes63] at this
    unfold reachBytes at this
    omega
  obtain ⟨oa,cap,L,rfl,hs⟩ := open_scriptS (hval 1 24 v1 rfl rfl) h1 hb
  obtain ⟨kl,kz,kx,ky,rfl,s1,s2,s3,s4⟩ := open_key (hval 2 39 v2 rfl rfl) h2
  refine (tagged_any cq wk wt ca ch kl kz kx ky oa cap L W r1 r2 r3 r4 r5 s1 s2 s3 s4 (glb_of (show laidMetH Tryz.prog Rows.freshUptoRow.laid W from hL)) hs fun bb fb n w0 F M w a1 a2 a3 a4 => tags_any n w0 bb fb F M w a1 a2 a3 a4).mono fun e W' ⟨he,bel⟩ => ?_
  subst he
  exact ⟨_,rfl,law_post hW' rfl rfl (by kernel_rfl) (fun gs' e => by subst e; rfl) bel⟩
theorem tagged_met (os : Os) : laidMet Tryz.prog Rows.taggedRow.laid ((World.doorLaid Tryz.prog 29 os).forCall (fun _ _ => 0) ⟨#[],#[.agg #[.int .i64 0,.int .i64 0,.int .i64 0,.int .i64 0,.int .i64 0],.slice none 0 0,.agg #[.int .i64 0,.int .i64 0,.int .i64 0,.int .i64 0]],[]⟩).memory :=
  laidMet_of_run' 8 (by kernel_rfl) (by kernel_rfl)
theorem tagged_reads (os : Os) {H : Type} (enc : TypeId × Value -> H) : ∃ places,DataW.whole enc Tryz.prog ((World.doorLaid Tryz.prog 29 os).forCall (fun _ _ => 0) ⟨#[],#[.agg #[.int .i64 0,.int .i64 0,.int .i64 0,.int .i64 0,.int .i64 0],.slice none 0 0,.agg #[.int .i64 0,.int .i64 0,.int .i64 0,.int .i64 0]],[]⟩).memory Tryz.f6.params.toList Rows.taggedSpec.vars false
    #[.agg #[.int .i64 0,.int .i64 0,.int .i64 0,.int .i64 0,.int .i64 0],.slice none 0 0,.agg #[.int .i64 0,.int .i64 0,.int .i64 0,.int .i64 0]].toList 8 = some ([.agg [.lit (.int .i64 0),.lit (.int .i64 0),.lit (.int .i64 0),.lit (.int .i64 0),.lit (.int .i64 0)],.nil,.agg [.lit (.int .i64 0),.lit (.int .i64 0),.lit (.int .i64 0),.lit (.int .i64 0)]],[],places) :=
  ⟨[],by kernel_rfl⟩
set_option maxRecDepth 100000 in
theorem tagged_lifted (os : Os) (started : os.Started) (H : Type) (enc : TypeId × Value -> H) (F : Stop.Interp) :
    ReturnsInHanded {} Tryz.checked os 6 .any ((OpenSpec.ofChange Rows.taggedSpec).preRow enc Tryz.prog Tryz.f6 Rows.taggedRow.domain false Rows.taggedRow.laid) (((OpenSpec.ofChange Rows.taggedSpec).at F).post enc Tryz.prog Tryz.f6 false true false false) := by
  obtain ⟨places,hx⟩ := tagged_reads os enc
  refine returnsInHanded_of_row (C := Tryz.checked) (s := OpenSpec.ofChange Rows.taggedSpec) Tryz.own started (by kernel_rfl) Tryz.func6
    (witness_row_at (enc := enc) (C := Tryz.checked) false (World.doorLaid Tryz.prog 29 os) #[.agg #[.int .i64 0,.int .i64 0,.int .i64 0,.int .i64 0,.int .i64 0],.slice none 0 0,.agg #[.int .i64 0,.int .i64 0,.int .i64 0,.int .i64 0]] rfl (by kernel_rfl) (by kernel_rfl) (by kernel_rfl)
      (OpenSpec.preRow_of_cond 8 hx (by kernel_rfl) (fun k hk => by cases hk) (by kernel_rfl) (tagged_met os))) ?_
  intro W base args ds gs before hval hW _ _ hsz hL _ _
  exact tagged_contract H enc W base args ds gs before hval hW hsz hL
theorem tagged_said : Rows.TaggedSaid :=
  OpenClaim.holds_of_cond 6 Tryz.f6 rfl rfl rfl rfl rfl rfl rfl ⟨rfl,rfl,rfl,rfl,rfl⟩ rfl rfl rfl rfl rfl (by kernel_rfl) Tryz.func6 (by kernel_rfl)
    (of_decide_eq_true (by kernel_rfl)) (by unfold Func.isWrapper; first | (rw [if_pos (by decide +kernel)]; kernel_rfl) | (rw [if_neg (by decide +kernel)]; exact ⟨rfl,rfl⟩))
    (fun os started H enc _ F => by rw [OpenClaim.pre_eq_preRow]; exact tagged_lifted os started H enc F)
theorem tagged_plain (f : FuncId) (fn : Func) (hf : Tryz.pinned.checked.prog.funcNamed "atlas/atlaskeep.Tagged" = some f) (hfn : Tryz.pinned.checked.prog.funcs[f]? = some fn) :
    false = Tryz.pinned.checked.prog.looks [] /\ ∀ (j : Nat) t,fn.params[j]? = some t -> Tryz.pinned.checked.prog.wantsStandIn t = false := by
  obtain rfl : f = 6 := Option.some.inj ((show Tryz.prog.funcNamed "atlas/atlaskeep.Tagged" = some 6 by kernel_rfl).symm.trans hf) |>.symm
  obtain rfl : fn = Tryz.f6 := (Option.some.inj (Tryz.func6.symm.trans hfn)).symm
  refine ⟨by kernel_rfl,fun j t ht => ?_⟩
  rw [Tryz.params6] at ht
  have hm : t ∈ [23,24,39] := by simpa using Array.mem_of_getElem? ht
  have hall : ([23,24,39].all fun u => !Tryz.prog.wantsStandIn u) = true := by kernel_rfl
  exact (show Tryz.prog.wantsStandIn t = false by simpa using List.all_eq_true.1 hall t hm)
theorem tagged_card : Rows.TaggedCardSaid :=
  Claim7.holds_tied_plain_at .later [] _ _ _ _ tagged_said (fun _ h => by cases h) (by kernel_rfl) (fun _ h => by cases h) tagged_row_tie rfl ⟨rfl,rfl⟩ (by kernel_rfl) rfl tagged_plain (by kernel_rfl)
end Go.Proofs.YtpopchckldbhdaaGreatDoor
