/-
  The texts FrB, FrM, FrI, FaC, FrQ, FrR, FgA, FgB, FgC, FgD, FgE, FgF, FgG, FhA, FkB.
-/
import Derived.Test.YtpopchckldbhdaaGreatDoorKase06
namespace Go.Proofs.YtpopchckldbhdaaGreatDoor
open Go.RowKit
structure Told where
  k : K4
  worker : Int
  reads : Int
  left : Int
  waiting : Int
def Told.a (t : Told) : Array Value := #[.int .i64 t.k.l, .int .i64 t.k.z, .int .i64 t.k.x, .int .i64 t.k.y, .int .i64 t.worker, .int .i64 t.reads, .int .i64 t.left, .int .i64 t.waiting]
def rTold : Row Told := ⟨8, fun r => r.a.toList, fun _ => rfl, fun k v hv => by simp [Told.a] at hv; rcases hv with rfl | rfl | rfl | rfl | rfl | rfl | rfl | rfl <;> rfl, by decide⟩
end Go.Proofs.YtpopchckldbhdaaGreatDoor
namespace Go.Proofs.YtpopchckldbhdaaGreatDoor
section
variable (O : Ora)
def FM.busy (F : FM) : Nat := F.wks.countP (·.isSome)
def FM.told (F : FM) : List Told :=
  (F.wks.zipIdx.filterMap fun (o, i) => o.map fun fl => ⟨fl.b, i, fl.reads, fl.left, countFor F.waiting fl.b⟩) ++ F.line.map fun b => ⟨b, -1, -1, 0, countFor F.waiting b⟩
end
theorem blk_blk (k : K4) : k.blk.blk = k.blk := by
  apply k4_ext <;> simp only [K4.blk] <;> omega
theorem busy_fls (F : FM) : F.busy = F.fls.length := by
  unfold FM.busy FM.fls
  induction F.wks with
  | nil => rfl
  | cons a l ih => cases a <;> simp [ih]
end Go.Proofs.YtpopchckldbhdaaGreatDoor
namespace Go.Proofs.YtpopchckldbhdaaGreatDoor
open Go.RowKit
set_option maxRecDepth 20000
theorem inf73 : (Tryz.prog.info? 73).map (fun i => (i.zero, i.size, i.bytes)) = some (some (.agg #[.int .i64 0, .int .i64 0, .int .i64 0, .int .i64 0, .int .i64 0, .int .i64 0, .int .i64 0, .int .i64 0]), 8, 64) := by kernel_rfl
theorem apTold {w : World} {v x : Value} {l news : List Told} (ho : OwnR rTold 73 w v l) (hx : AtR rTold w x news) (hl : l.length + news.length <= 100000000) :
    ∃ v' w', (Builtin.append_ #[57, 57] 57 #[v, x]).run Tryz.prog w = .ok v' w' /\ OwnR rTold 73 w' v' (l ++ news) /\ w.grownBy w' v.ownBlock /\ (v'.ownBlock = v.ownBlock \/ ∀ g, v'.ownBlock = some g -> w.heap.size <= g) := by
  obtain ⟨i, h1, h2, h3, h4⟩ := infoP inf73
  exact OwnR.append (P := Tryz.prog) 57 57 i _ 64 Tryz.underlying57 h1 h2 h3 h4 rfl ho news x hx (by unfold maxLen; omega) (by omega)
theorem bsTold (l z x0 y a b c d : Int) (ev : Operand -> Value) (o : Oper) (x : Operand) (ho : o.op = .buildSlice 57 1 #[(0, x)]) (hx : ev x = .agg #[.int .i64 l, .int .i64 z, .int .i64 x0, .int .i64 y, .int .i64 a, .int .i64 b, .int .i64 c, .int .i64 d]) (w : World) : (execOp ev o).run Tryz.prog w = .ok (.value (.slice (some ⟨w.heap.size, 0, none⟩) 1 1)) (w.alloc (.cells #[.int .i64 l, .int .i64 z, .int .i64 x0, .int .i64 y, .int .i64 a, .int .i64 b, .int .i64 c, .int .i64 d] 73)) := by
  unfold execOp
  simp only [ho]
  simp only [List.map_toArray, List.map_cons, List.map_nil, hx]
  kernel_rfl
section
variable {O : Ora} {F G : FM} {b c : BM}
theorem bytes_up : ∀ ts : List Tile, (∀ t ∈ ts, t.body.size <= 67) -> bytesT ts <= 67 * ts.length
  | [], _ => by simp [bytesT]
  | t :: ts, h => by
    have h1 := bytes_up ts fun u hu => h u (List.mem_cons_of_mem _ hu)
    have h2 := h t (List.mem_cons_self ..)
    simp only [List.length_cons, bytesT]
    omega
end
section
variable {O : Ora} {F : FM} {b : BM}
def toldW (ws : List Req) (l : List (Option Fl)) (n : Nat) : List Told := (l.zipIdx n).filterMap fun (o, i) => o.map fun fl => ⟨fl.b, i, fl.reads, fl.left, countFor ws fl.b⟩
def toldL (ws : List Req) (l : List K4) : List Told := l.map fun b => ⟨b, -1, -1, 0, countFor ws b⟩
theorem told_eq (F : FM) : F.told = toldW F.waiting F.wks 0 ++ toldL F.waiting F.line := rfl
theorem toldW_none (ws : List Req) (l : List (Option Fl)) (n : Nat) : toldW ws (none :: l) n = toldW ws l (n + 1) := by simp [toldW, List.zipIdx_cons]
theorem toldW_some (ws : List Req) (f : Fl) (l : List (Option Fl)) (n : Nat) : toldW ws (some f :: l) n = ⟨f.b, n, f.reads, f.left, countFor ws f.b⟩ :: toldW ws l (n + 1) := by simp [toldW, List.zipIdx_cons]
theorem toldW_k (ws : List Req) : ∀ (l : List (Option Fl)) (n : Nat), (toldW ws l n).map Told.k = (l.filterMap id).map Fl.b
  | [], n => rfl
  | none :: l, n => by rw [toldW_none, toldW_k ws l (n + 1)]; rfl
  | some f :: l, n => by rw [toldW_some, List.map_cons, toldW_k ws l (n + 1)]; rfl
theorem toldW_mem (ws : List Req) : ∀ (l : List (Option Fl)) (n : Nat) (t : Told), t ∈ toldW ws l n -> ∃ f ∈ l.filterMap id, t.k = f.b /\ (n : Int) <= t.worker /\ t.worker < ((n + l.length : Nat) : Int) /\ t.reads = f.reads /\ t.left = f.left /\ t.waiting = countFor ws f.b
  | [], n, t, h => by simp [toldW] at h
  | none :: l, n, t, h => by
    rw [toldW_none] at h
    obtain ⟨f, h1, h2, h3, h4, h5⟩ := toldW_mem ws l (n + 1) t h
    refine ⟨f, by simpa using h1, h2, by omega, ?_, h5⟩
    simp only [List.length_cons]; omega
  | some f :: l, n, t, h => by
    rw [toldW_some] at h
    rcases List.mem_cons.1 h with rfl | h
    . refine ⟨f, by simp, rfl, Int.le_refl _, ?_, rfl, rfl, rfl⟩
      simp only [List.length_cons]; omega
    . obtain ⟨g, h1, h2, h3, h4, h5⟩ := toldW_mem ws l (n + 1) t h
      refine ⟨g, by simp only [List.filterMap_cons, id]; exact List.mem_cons_of_mem _ h1, h2, by omega, ?_, h5⟩
      simp only [List.length_cons]; omega
theorem toldW_pw (ws : List Req) : ∀ (l : List (Option Fl)) (n : Nat), (toldW ws l n).Pairwise fun p q => p.worker < q.worker
  | [], n => by simp [toldW]
  | none :: l, n => by rw [toldW_none]; exact toldW_pw ws l (n + 1)
  | some f :: l, n => by
    rw [toldW_some]
    refine List.pairwise_cons.2 ⟨fun t ht => ?_, toldW_pw ws l (n + 1)⟩
    obtain ⟨_, _, _, h3, _⟩ := toldW_mem ws l (n + 1) t ht
    show (n : Int) < t.worker
    omega
theorem told_k (F : FM) : F.told.map Told.k = F.fls.map Fl.b ++ F.line := by
  rw [told_eq, List.map_append, toldW_k]
  congr 1
  unfold toldL
  rw [List.map_map]
  exact (List.map_congr_left fun _ _ => rfl).trans (List.map_id _)
structure TOk (F : FM) (t : Told) : Prop where
  blk : t.k.blk = t.k
  xy : 0 <= t.k.x /\ 0 <= t.k.y
  wai : t.waiting = countFor F.waiting t.k
  kind : (t.worker = -1 /\ t.reads = -1 /\ t.left = 0 /\ 0 < t.waiting) \/ (0 <= t.worker /\ t.worker < F.wks.length /\ 0 <= t.reads /\ t.reads <= F.ver /\ 0 < t.left)
theorem told_ok (h : Ok O F) (t : Told) (ht : t ∈ F.told) : TOk F t := by
  rw [told_eq] at ht
  rcases List.mem_append.1 ht with ht | ht
  . obtain ⟨f, h1, h2, h3, h4, h5, h6, h7⟩ := toldW_mem _ _ _ _ ht
    obtain ⟨g1, g2, k, g3, g4⟩ := h.flt f h1
    have := g2.pos
    refine ⟨by rw [h2, g4, blk_blk], ?_, by rw [h2]; exact h7, Or.inr ⟨by omega, by omega, by omega, by omega, by omega⟩⟩
    rw [h2, g4]
    have := g3.x.1
    have := g3.y.1
    show 0 <= k.x - k.x % 2 /\ 0 <= k.y - k.y % 2
    omega
  . unfold toldL at ht
    obtain ⟨b, hb, rfl⟩ := List.mem_map.1 ht
    obtain ⟨r, hr, e⟩ := h.lin b hb
    have hk := (h.req r hr).2.2.2.1
    have := hk.x.1
    have := hk.y.1
    refine ⟨by show b.blk = b; rw [<- e, blk_blk], ?_, rfl, Or.inl ⟨rfl, rfl, rfl, ?_⟩⟩
    . show 0 <= b.x /\ 0 <= b.y
      rw [<- e]
      show 0 <= r.k.x - r.k.x % 2 /\ 0 <= r.k.y - r.k.y % 2
      omega
    . show (0 : Int) < countFor F.waiting b
      have := (countFor_pos F.waiting b).2 ⟨r, hr, e⟩
      omega
theorem told_pw (h : Ok O F) : F.told.Pairwise fun p q => p.k ≠ q.k /\ (0 <= q.worker -> p.worker < q.worker /\ 0 <= p.worker) := by
  have h1 : (F.told.map Told.k).Nodup := by rw [told_k]; exact (List.perm_append_comm.nodup_iff).1 h.nod
  have h2 : F.told.Pairwise fun p q => p.k ≠ q.k := by
    rw [List.nodup_iff_pairwise_ne, List.pairwise_map] at h1
    exact h1
  have h3 : F.told.Pairwise fun p q => 0 <= q.worker -> p.worker < q.worker /\ 0 <= p.worker := by
    rw [told_eq, List.pairwise_append]
    refine ⟨(toldW_pw _ _ _).imp_of_mem fun {p q} hp hq hpq _ => ⟨hpq, ?_⟩, ?_, fun p hp q hq c => ?_⟩
    . obtain ⟨_, _, _, g, _⟩ := toldW_mem _ _ _ _ hp
      omega
    . unfold toldL
      rw [List.pairwise_map]
      induction F.line with
      | nil => exact List.Pairwise.nil
      | cons a l ih => exact List.pairwise_cons.2 ⟨fun _ _ q => by simp at q, ih⟩
    . unfold toldL at hq
      obtain ⟨_, _, rfl⟩ := List.mem_map.1 hq
      simp at c
  exact List.Pairwise.and h2 h3
theorem count_one (r : K4) : ∀ B : List K4, B.Nodup -> (B.map fun b => if r = b then 1 else 0).sum = if r ∈ B then 1 else 0
  | [], _ => by simp
  | b :: B, h => by
    have h' := List.nodup_cons.1 h
    have ih := count_one r B h'.2
    rw [List.map_cons, List.sum_cons, ih]
    by_cases e : r = b
    . subst e; simp [h'.1]
    . simp [e]
theorem sum_add (f g : K4 -> Nat) : ∀ B : List K4, (B.map fun b => f b + g b).sum = (B.map f).sum + (B.map g).sum
  | [] => rfl
  | b :: B => by simp only [List.map_cons, List.sum_cons, sum_add f g B]; omega
theorem count_all (B : List K4) (hB : B.Nodup) : ∀ ws : List Req, (∀ r ∈ ws, r.k.blk ∈ B) -> (B.map (countFor ws)).sum = ws.length
  | [], _ => by
    have : ∀ B : List K4, (B.map (countFor [])).sum = 0 := fun B => by
      induction B with
      | nil => rfl
      | cons a B ih => rw [List.map_cons, List.sum_cons, ih]; rfl
    rw [this]; rfl
  | r :: ws, h => by
    have ih := count_all B hB ws fun q hq => h q (List.mem_cons_of_mem _ hq)
    have hr := h r (List.mem_cons_self ..)
    have : B.map (countFor (r :: ws)) = B.map fun b => countFor ws b + (if r.k.blk = b then 1 else 0) := List.map_congr_left fun b _ => by
      unfold countFor
      rw [List.countP_cons]
      simp
    rw [this, sum_add (countFor ws) (fun b => if r.k.blk = b then 1 else 0), ih, count_one _ B hB, if_pos hr]
    simp
theorem told_sum (h : Ok O F) : (F.told.map Told.waiting).sum = F.waiting.length := by
  have hn : (F.told.map Told.k).Nodup := by rw [told_k]; exact (List.perm_append_comm.nodup_iff).1 h.nod
  have hc := count_all (F.told.map Told.k) hn F.waiting fun r hr => by
    rw [told_k]
    rcases h.fl r hr with q | q
    . exact List.mem_append_right _ q
    . exact List.mem_append_left _ q
  have : ∀ l : List Told, (∀ t ∈ l, t.waiting = ((countFor F.waiting t.k : Nat) : Int)) -> (l.map Told.waiting).sum = (((l.map Told.k).map (countFor F.waiting)).sum : Nat) := by
    intro l
    induction l with
    | nil => intro _; rfl
    | cons t l ih =>
      intro hl
      have := ih fun u hu => hl u (List.mem_cons_of_mem _ hu)
      have := hl t (List.mem_cons_self ..)
      simp only [List.map_cons, List.sum_cons]
      omega
  rw [this F.told fun t ht => (told_ok h t ht).wai, hc]
theorem told_len (h : Ok O F) : F.told.length <= 12 := by
  have e := congrArg List.length (told_k F)
  rw [List.length_map, List.length_append, List.length_map] at e
  have := fls_len F
  have := h.wn
  have := h.linLe
  have := h.wq
  have := h.q
  omega
def waitB (l : List Ask) (k : K4) : Nat := l.countP fun a => decide (a.said = -1) && decide (a.k.blk = k)
theorem waitB_eq (wait : Nat) (k : K4) : ∀ (l : List Ask) (o : Nat), countFor (unsaid wait o l) k = waitB l k
  | [], o => rfl
  | a :: l, o => by
    have ih := waitB_eq wait k l (o + 1)
    unfold countFor waitB at *
    rw [unsaid, List.countP_cons]
    split
    . rename_i c
      rw [List.countP_cons, ih]
      simp [c]
    . rename_i c
      rw [ih]
      simp [c]
theorem Inv.waitB (h : Inv O F b) (k : K4) : waitB b.reqs k = countFor F.waiting k := by rw [h.wai, waitB_eq]
theorem waitB_take (l : List Ask) (k : K4) {i : Nat} {a : Ask} (h : l[i]? = some a) : Go.Proofs.YtpopchckldbhdaaGreatDoor.waitB (l.take (i + 1)) k = Go.Proofs.YtpopchckldbhdaaGreatDoor.waitB (l.take i) k + if a.said = -1 /\ a.k.blk = k then 1 else 0 := by
  unfold Go.Proofs.YtpopchckldbhdaaGreatDoor.waitB
  rw [List.take_add_one, h, List.countP_append]
  congr 1
  by_cases c : a.said = -1 /\ a.k.blk = k
  . simp [c]
  . rw [if_neg c]
    simp only [Option.toList, List.countP_singleton, Bool.and_eq_true, decide_eq_true_eq]
    rw [if_neg c]
end
set_option maxHeartbeats 1600000 in
theorem block_any (l z x y : Int) (w : World) (hx : 0 <= x /\ x <= 9223372036854775807) (hy : 0 <= y /\ y <= 9223372036854775807) :
    Calls Tryz.prog 55 #[.agg #[.int .i64 l, .int .i64 z, .int .i64 x, .int .i64 y]] w fun e w' => e = .returned (.agg #[.int .i64 l, .int .i64 z, .int .i64 (x - x % 2), .int .i64 (y - y % 2)]) /\ Below w.heap.size w w' := by
  have hX : IntKind.i64.wrap (x - Int.tmod x 2) = x - x % 2 := by rw [Int.tmod_eq_emod_of_nonneg hx.1]; exact i64_of _ (by omega)
  have hY : IntKind.i64.wrap (y - Int.tmod y 2) = y - y % 2 := by rw [Int.tmod_eq_emod_of_nonneg hy.1]; exact i64_of _ (by omega)
  go_enter Tryz.func55, Tryz.ntmps55
  go_wp2_with fail
  have HZ := heap_alloc_new (w.alloc (.cells #[.int .i64 l, .int .i64 z, .int .i64 x, .int .i64 y] 39)) (.cells #[.int .i64 l, .int .i64 z, .int .i64 (x - x % 2), .int .i64 (y - y % 2)] 39 (0, 0))
  rw [show (w.alloc (.cells #[.int .i64 l, .int .i64 z, .int .i64 x, .int .i64 y] 39)).heap.size = w.heap.size + 1 by simp] at HZ
  refine bodyPost_ret (v := .agg #[.int .i64 l, .int .i64 z, .int .i64 (x - x % 2), .int .i64 (y - y % 2)]) (results_cell_row Tryz.results55 _ _ (w.heap.size + 1) 39 _ (0, 0) _ rfl HZ Tryz.underlying39 rfl (sz39 _ _ _ _)) rfl ⟨rfl, ?_⟩
  exact ((Below.refl _ _).alloc (Nat.le_refl _) _).alloc (by simp) _
theorem waitB_le (l : List Ask) (k : K4) : waitB l k <= l.length := List.countP_le_length
def Pos (k : K4) : Prop := (0 <= k.x /\ k.x <= 9223372036854775807) /\ (0 <= k.y /\ k.y <= 9223372036854775807)
set_option maxHeartbeats 6400000 in
theorem waitFor_any (bb : Nat) (B : BV) (L : List Ask) (l z x y : Int) (w : World) (hf : BBlk w bb B) (hv : OwnR rAsk 42 w B.rv L) (hs : ∀ a ∈ L, a.said = -1 -> Pos a.k) (hl : L.length <= 1500000000000) :
    Calls Tryz.prog 54 #[.pointer (some ⟨bb, 0, none⟩), .agg #[.int .i64 l, .int .i64 z, .int .i64 x, .int .i64 y]] w fun e w' => e = .returned (.int .i64 (waitB L ⟨l, z, x, y⟩)) /\ Below w.heap.size w w' := by
  have hlt0 := blk_lt hf
  obtain ⟨oa, cap, e, hcap, hm, hc⟩ := hv.at
  have HC := hide hc
  have HS := hide hs
  have c8 : w.cell? ⟨bb, 8, none⟩ = some (.slice oa L.length cap) := by rw [<- e]; exact hf.cells 8
  have HC8 := hide c8
  have HA := hide (heap_alloc_new w (.cells #[.int .i64 l, .int .i64 z, .int .i64 x, .int .i64 y] 39 (0, 0)))
  have HB0 := hide ((Below.refl w.heap.size w).alloc (Nat.le_refl _) (.cells #[.int .i64 l, .int .i64 z, .int .i64 x, .int .i64 y] 39))
  clear hf hc hm e hs c8 hv
  go_enter Tryz.func54, Tryz.ntmps54
  go_wp2_with fail
  go_loopw [5, 6] (fun n i wr => ∃ k : Nat, k <= L.length /\ i = .int .i64 k /\ n = .int .i64 (waitB (L.take k) ⟨l, z, x, y⟩) /\ wr.heap[w.heap.size]? = some (.cells #[.int .i64 l, .int .i64 z, .int .i64 x, .int .i64 y] 39 (0, 0)) /\ Below w.heap.size w wr) (fun _ i _ => L.length - (intOf i).toNat)
  case atStart => exact ⟨0, by omega, rfl, by simp [waitB], unhide HA, unhide HB0⟩
  case round =>
    obtain ⟨k, hk, rfl, rfl, h0, hb⟩ := hrel
    have hsz := hb.size
    have r8 := (hb.cell (p := ⟨bb, 8, none⟩) hlt0).trans (unhide HC8)
    by_cases hlt : k < L.length
    . have hkn : (k : Int) < L.length := by omega
      obtain ⟨b, off, rfl, hbl, hc0⟩ := unhide HC (by omega)
      obtain ⟨⟨rt, ⟨rl, rz, rx, ry⟩, re, rv, rn, rwt, rs⟩, ht⟩ : ∃ t, L[k]? = some t := ⟨_, List.getElem?_eq_getElem hlt⟩
      have hrg0 : w.rangeAt b (off + k * 10) (Ask.a ⟨rt, ⟨rl, rz, rx, ry⟩, re, rv, rn, rwt, rs⟩).toList := hc0 k _ ht
      have hrg : w.rangeAt b (off + k * 10 + 1) #[Value.int .i64 rl, .int .i64 rz, .int .i64 rx, .int .i64 ry].toList := fun j v hj => by
        rw [Nat.add_assoc]
        refine hrg0 (1 + j) v ?_
        rcases j with _ | _ | _ | _ | j
        . exact hj
        . exact hj
        . exact hj
        . exact hj
        . simp at hj
      have hC : ∀ W, Below wr.heap.size wr W -> W.cell? ⟨b, off + k * 10 + 9, none⟩ = some (.int .i64 rs) := fun W h => ((hb.trans (h.mono hb.size)).cell (p := ⟨b, off + k * 10 + 9, none⟩) hbl).trans (hrg0 9 _ rfl)
      have hW : ∀ W, Below wr.heap.size wr W -> W.rangeAt b (off + k * 10 + 1) #[.int .i64 rl, .int .i64 rz, .int .i64 rx, .int .i64 ry].toList := fun W h => rng_in hrg (hb.trans (h.mono hb.size)) hbl
      have hK : ∀ W, Below wr.heap.size wr W -> W.rangeAt w.heap.size 0 #[.int .i64 l, .int .i64 z, .int .i64 x, .int .i64 y].toList := fun W h => rng_blk (blk_on h0 h)
      have hF : ∀ W, Below wr.heap.size wr W -> W.cell? ⟨bb, 8, none⟩ = some (.slice (some ⟨b, off, none⟩) L.length cap) := fun W h => (h.cell (p := ⟨bb, 8, none⟩) (by show bb < _; omega)).trans r8
      have hct := waitB_take L ⟨l, z, x, y⟩ ht
      have hcl := waitB_le (L.take k) ⟨l, z, x, y⟩
      rw [List.length_take] at hcl
      clear hrg0 hrg hc0
      by_cases hsm : rs = -1
      . obtain ⟨⟨x1, x2⟩, ⟨y1, y2⟩⟩ := unhide HS _ (List.mem_of_getElem? ht) hsm
        dsimp only at x1 x2 y1 y2
        have BL := fun W => block_any rl rz rx ry W ⟨x1, x2⟩ ⟨y1, y2⟩
        subst hsm
        go_wp2_with fail
        refine region_bq (by kernel_rfl) (by kernel_rfl) ?_
        refine q_move rfl _ rfl (.pointer (some ⟨bb, 0, none⟩)) rfl ?_
        simp only [Act.put, qA, qB, qC]
        refine q_val rfl (.pointer (some ⟨bb, 0, none⟩)) (fun w' hw' => by simp [go_sem]) ?_
        simp only [Act.put, qA, qB, qC]
        refine q_val rfl (.pointer (some ⟨bb, 8, none⟩)) (fun w' hw' => by simp [go_sem]) ?_
        simp only [Act.put, qA, qB, qC]
        refine q_val rfl (.slice (some ⟨b, off, none⟩) L.length cap) (fun w' hw' => by simp [go_sem, hF w' hw']) ?_
        simp only [Act.put, qA, qB, qC]
        refine q_move rfl _ rfl (.int .i64 k) rfl ?_
        simp only [Act.put, qA, qB, qC]
        refine q_val rfl (.pointer (some ⟨b, off + k * 10, none⟩)) (fun w' hw' => by simp [go_sem, hkn]) ?_
        simp only [Act.put, qA, qB, qC]
        refine q_val rfl (.pointer (some ⟨b, off + k * 10 + 9, none⟩)) (fun w' hw' => by simp [go_sem]) ?_
        simp only [Act.put, qA, qB, qC]
        refine q_val rfl (.int .i64 (-1)) (fun w' hw' => by simp [go_sem, hC w' hw']) ?_
        simp only [Act.put, qA, qB, qC]
        refine q_val rfl (.bool true) (fun w' hw' => by simp [go_sem]) ?_
        simp only [Act.put, qA, qB, qC]
        refine q_move rfl _ rfl (.bool true) rfl ?_
        simp only [Act.put, qA, qB, qC]
        refine q_move rfl _ rfl (.pointer (some ⟨bb, 0, none⟩)) rfl ?_
        simp only [Act.put, qA, qB, qC]
        refine q_val rfl (.pointer (some ⟨bb, 0, none⟩)) (fun w' hw' => by simp [go_sem]) ?_
        simp only [Act.put, qA, qB, qC]
        refine q_val rfl (.pointer (some ⟨bb, 8, none⟩)) (fun w' hw' => by simp [go_sem]) ?_
        simp only [Act.put, qA, qB, qC]
        refine q_val rfl (.slice (some ⟨b, off, none⟩) L.length cap) (fun w' hw' => by simp [go_sem, hF w' hw']) ?_
        simp only [Act.put, qA, qB, qC]
        refine q_move rfl _ rfl (.int .i64 k) rfl ?_
        simp only [Act.put, qA, qB, qC]
        refine q_val rfl (.pointer (some ⟨b, off + k * 10, none⟩)) (fun w' hw' => by simp [go_sem, hkn]) ?_
        simp only [Act.put, qA, qB, qC]
        refine q_val rfl (.pointer (some ⟨b, off + k * 10 + 1, none⟩)) (fun w' hw' => by simp [go_sem]) ?_
        simp only [Act.put, qA, qB, qC]
        refine q_load rfl 39 _ rfl (b) (off + k * 10 + 1) rfl (#[.int .i64 rl, .int .i64 rz, .int .i64 rx, .int .i64 ry]) _ Tryz.underlying39 rfl (sz39 _ _ _ _) (hW) ?_
        simp only [Act.put, qA, qB, qC]
        refine q_call rfl 55 (#[.agg #[.int .i64 rl, .int .i64 rz, .int .i64 rx, .int .i64 ry]]) (fun _ => by simp [go_sem]) _ (BL) ?_
        simp only [Act.put, qA, qB, qC]
        refine q_load rfl 39 _ rfl (w.heap.size) (0) rfl (#[.int .i64 l, .int .i64 z, .int .i64 x, .int .i64 y]) _ Tryz.underlying39 rfl (sz39 _ _ _ _) (hK) ?_
        simp only [Act.put, qA, qB, qC]
        refine q_val rfl (.bool (decide ((⟨rl, rz, rx - rx % 2, ry - ry % 2⟩ : K4) = ⟨l, z, x, y⟩))) (fun w' hw' => by simp [go_sem, eql39]) ?_
        simp only [Act.put, qA, qB, qC]
        refine q_val rfl (.bool (decide ((⟨rl, rz, rx - rx % 2, ry - ry % 2⟩ : K4) = ⟨l, z, x, y⟩))) (fun w' hw' => by simp [go_sem]) ?_
        simp only [Act.put, qA, qB, qC]
        refine wpQuiet_nil ?_
        intro w2 hw2
        have hw0 := blk_on h0 hw2
        have HB2 := hide (hb.trans (hw2.mono hb.size))
        have HW0 := hide hw0
        clear hW hK hF hb h0 hw0 hw2 BL hC
        by_cases he : (⟨rl, rz, rx - rx % 2, ry - ry % 2⟩ : K4) = ⟨l, z, x, y⟩
        . have hde : decide ((⟨rl, rz, rx - rx % 2, ry - ry % 2⟩ : K4) = ⟨l, z, x, y⟩) = true := by simp [he]
          have hct' : waitB (L.take (k + 1)) ⟨l, z, x, y⟩ = waitB (L.take k) ⟨l, z, x, y⟩ + 1 := by rw [hct, if_pos ⟨by trivial, show (⟨rl, rz, rx, ry⟩ : K4).blk = _ from he⟩]
          have HCT := hide hct'
          obtain ⟨C, hC⟩ : ∃ C, waitB (L.take k) ⟨l, z, x, y⟩ = C := ⟨_, rfl⟩
          rw [hC] at HCT hcl ⊢
          clear he hct hct' hC
          simp only [hde]
          go_wp2_with fail
          go_roundw
          case rel => exact ⟨k + 1, by omega, by go_num, by rw [unhide HCT]; go_num, unhide HW0, unhide HB2⟩
          case measure => simp [intOf]; omega
        . have hde : decide ((⟨rl, rz, rx - rx % 2, ry - ry % 2⟩ : K4) = ⟨l, z, x, y⟩) = false := by simp [he]
          have hct' : waitB (L.take (k + 1)) ⟨l, z, x, y⟩ = waitB (L.take k) ⟨l, z, x, y⟩ := by rw [hct, if_neg (fun q => he (show (⟨rl, rz, rx, ry⟩ : K4).blk = _ from q.2)), Nat.add_zero]
          have HCT := hide hct'
          clear he hct hct'
          simp only [hde]
          go_wp2_with fail
          go_roundw
          case rel => exact ⟨k + 1, by omega, by go_num, by rw [unhide HCT], unhide HW0, unhide HB2⟩
          case measure => simp [intOf]; omega
      . have hsn : (rs == -1) = false := by simpa using hsm
        go_wp2_with fail
        have c9 := hC wr (Below.refl _ _)
        go_quiet (fail)
        obtain ⟨w2, hd, hw2⟩ : ∃ W, wr.drewN nq = W /\ Below wr.heap.size wr W := ⟨_, rfl, dnB wr nq⟩
        rw [hd]
        clear hd c9
        have hw0 := blk_on h0 hw2
        have HB2 := hide (hb.trans (hw2.mono hb.size))
        have HW0 := hide hw0
        have hct' : waitB (L.take (k + 1)) ⟨l, z, x, y⟩ = waitB (L.take k) ⟨l, z, x, y⟩ := by rw [hct, if_neg (fun q => hsm q.1), Nat.add_zero]
        have HCT := hide hct'
        clear hW hK hF hb h0 hw0 hw2 hC hct hct'
        go_wp2_with fail
        go_roundw
        case rel => exact ⟨k + 1, by omega, by go_num, by rw [unhide HCT], unhide HW0, unhide HB2⟩
        case measure => simp [intOf]; omega
    . have hkn : k = L.length := by omega
      subst hkn
      go_wp2_with fail
      go_ret
      exact ⟨ret_int (by rw [List.take_length]), hb⟩
theorem al55 (ev : Operand -> Value) (o : Oper) (ho : o.op = .alloc 55) (w w1 : World) (h1 : w.alloc (.cells #[.int .i64 0, .int .i64 0, .int .i64 0, .int .i64 0, .int .i64 0, .int .i64 0, .int .i64 0, .int .i64 0, .int .i64 0] 55) = w1) : (execOp ev o).run Tryz.prog w = .ok (.value (.pointer (some ⟨w.heap.size, 0, none⟩))) w1 := by
  rw [<- h1]
  unfold execOp
  simp only [ho]
  kernel_rfl
theorem built55 (n a s : Int) : Tryz.prog.built 55 [(1, .int .i64 n), (2, .int .i64 a), (8, .int .i64 s)] = some #[.int .i64 0, .int .i64 n, .int .i64 a, .int .i64 0, .int .i64 0, .int .i64 0, .int .i64 0, .int .i64 0, .int .i64 s] := by kernel_rfl
theorem bt55 {n a s : Int} (ev : Operand -> Value) (o : Oper) (p q r : Operand) (ho : o.op = .build 55 #[(1, p), (2, q), (8, r)]) (h1 : ev p = .int .i64 n) (h2 : ev q = .int .i64 a) (h3 : ev r = .int .i64 s) (w : World) : (execOp ev o).run Tryz.prog w = .ok (.value (.agg #[.int .i64 0, .int .i64 n, .int .i64 a, .int .i64 0, .int .i64 0, .int .i64 0, .int .i64 0, .int .i64 0, .int .i64 s])) w := by
  have hb := run_build (P := Tryz.prog) w 55 #[(1, .int .i64 n), (2, .int .i64 a), (8, .int .i64 s)] _ (built55 n a s)
  unfold execOp
  simp [ho, h1, h2, h3, hb]
theorem sz55 (a b c d e f g h i : Int) : (Tryz.prog.info? 55).map (·.size) = some (#[.int .i64 a, .int .i64 b, .int .i64 c, .int .i64 d, .int .i64 e, .int .i64 f, .int .i64 g, .int .i64 h, .int .i64 i] : Array Value).size := by kernel_rfl
theorem lk_one (a b c d e f g h i : Int) : (#[.int .i64 a, .int .i64 b, .int .i64 c, .int .i64 d, .int .i64 e, .int .i64 f, .int .i64 g, .int .i64 h, .int .i64 i] : Array Value).all (·.oneCell') = true := by simp [Value.oneCell']
theorem blk_setL {w : World} {g : Nat} {cs : Array Value} {T : TypeId} (h : w.heap[g]? = some (.cells cs T (0, 0))) (i : Nat) (v : Value) {cs' : Array Value} (e : cs.setIfInBounds i v = cs') : (w.setCell ⟨g, i, none⟩ v).heap[g]? = some (.cells cs' T (0, 0)) := by
  rw [<- e]
  simp [World.setCell, Array.getElem?_modify, h]
theorem heap_setRow_ne (w : World) (g : Nat) (cs : Array Value) {k : Nat} (h : k ≠ g) : (w.setRow g cs).heap[k]? = w.heap[k]? := by
  have := (below_setRow (B := 0) (Below.refl 0 w) (Nat.zero_le g) cs)
  unfold World.setRow
  simp [Array.getElem?_modify, Ne.symm h]
def busyW (W : List (Option Wk)) : Nat := W.countP (·.isSome)
theorem busyW_take {W : List (Option Wk)} {k : Nat} {o : Option Wk} (h : W[k]? = some o) : busyW (W.take (k + 1)) = busyW (W.take k) + (if o.isSome then 1 else 0) := by
  unfold busyW
  rw [take_succ h, List.countP_append]
  cases o <;> simp
theorem busyW_le (W : List (Option Wk)) : busyW W <= W.length := List.countP_le_length
set_option maxHeartbeats 12800000 in
theorem look_any (fb : Nat) (X : FV) (ver : Int) (sl pv : Value) (LS PL : List Ft) (ws : List Req) (ls : List K4) (W : List (Option Wk)) (ts : List Tile) (w : World) (hf : FBlk w fb X) (hs : StP w X.sb 0 ver sl pv LS PL) (hw : AtR rReq w X.wv ws) (hl : AtR rKey w X.lv ls) (hk : WksAt w X.kv W) (hts : AtR rTile w X.tv ts) (hbt : bytesT ts <= 1000000000) (hlt_ : ts.length <= 100000000) (hl' : W.length <= 100) :
    Calls Tryz.prog 21 #[.pointer (some ⟨fb, 0, none⟩)] w fun e w' => e = .returned (.agg #[.int .i64 ver, .int .i64 X.nw, .int .i64 X.ar, .int .i64 (ws.length : Int), .int .i64 (ls.length : Int), .int .i64 (busyW W : Int), .int .i64 (ts.length : Int), .int .i64 (bytesT ts : Int), .int .i64 X.st]) /\ Below w.heap.size w w' := by
  have hlt0 := blk_lt hf
  obtain ⟨w1, hw1⟩ : ∃ w1, w.alloc (.cells #[.int .i64 0, .int .i64 0, .int .i64 0, .int .i64 0, .int .i64 0, .int .i64 0, .int .i64 0, .int .i64 0, .int .i64 0] 55) = w1 := ⟨_, rfl⟩
  have hb1 : Below w.heap.size w w1 := hw1 ▸ (Below.refl w.heap.size w).alloc (Nat.le_refl _) (.cells #[.int .i64 0, .int .i64 0, .int .i64 0, .int .i64 0, .int .i64 0, .int .i64 0, .int .i64 0, .int .i64 0, .int .i64 0] 55)
  have h01 : w1.heap[w.heap.size]? = some (.cells #[.int .i64 0, .int .i64 0, .int .i64 0, .int .i64 0, .int .i64 0, .int .i64 0, .int .i64 0, .int .i64 0, .int .i64 0] 55 (0, 0)) := hw1 ▸ heap_alloc_new w (.cells #[.int .i64 0, .int .i64 0, .int .i64 0, .int .i64 0, .int .i64 0, .int .i64 0, .int .i64 0, .int .i64 0, .int .i64 0] 55 (0, 0))
  have hf1 : FBlk w1 fb X := blk_on hf hb1
  have HF := hide hf
  have HSP := hide hs
  have HTS := hide hts
  have HB1 := hide hb1
  have H01 := hide h01
  have HF1 := hide hf1
  have HAL0 := hide (show ∀ (ev : Operand -> Value) (o : Oper), o.op = .alloc 55 -> (execOp ev o).run Tryz.prog w = .ok (.value (.pointer (some ⟨w.heap.size, 0, none⟩))) w1 from fun ev o q => al55 ev o q w w1 hw1)
  obtain ⟨oaw, capw, ew, _, _, _⟩ := hw
  obtain ⟨oal, capl, el, _, _, _⟩ := hl
  obtain ⟨⟨oak, capk, ek, _, _, hck⟩, _⟩ := hk
  obtain ⟨oat, capt, et, _, _, _⟩ := hts
  rw [List.length_map] at ek hck
  have HEW := hide ew
  have HEL := hide el
  have HEK := hide ek
  have HET := hide et
  have HCK := hide hck
  clear hf hs hw1 hb1 h01 hf1 ew el ek et hck
  go_enter Tryz.func21, Tryz.ntmps21
  go_wp2_with (refine wlV _ _ (unhide HAL0 _ _ rfl) rfl ?_)
  clear HAL0
  refine wp_region_held (S := fun w' => FBlk w' fb X) (by kernel_rfl) ?_
  change wpAnyH _ _ _ _ _ _ _ _ (World.drew _)
  have hbD := (unhide HB1).drew
  have hfd : FBlk (World.drew w1) fb X := unhide HF1
  have h0d : (World.drew w1).heap[w.heap.size]? = some (.cells #[.int .i64 0, .int .i64 0, .int .i64 0, .int .i64 0, .int .i64 0, .int .i64 0, .int .i64 0, .int .i64 0, .int .i64 0] 55 (0, 0)) := unhide H01
  generalize World.drew w1 = w2 at hbD hfd h0d ⊢
  obtain ⟨w3, hw3⟩ : ∃ w3, w2.alloc (.cells #[.int .i64 0, .int .i64 0, .int .i64 0, .int .i64 0, .int .i64 0, .int .i64 0, .int .i64 0, .int .i64 0, .int .i64 0] 55) = w3 := ⟨_, rfl⟩
  have hsz2 := hbD.size
  have hb3 : Below w.heap.size w w3 := hw3 ▸ hbD.alloc hsz2 (.cells #[.int .i64 0, .int .i64 0, .int .i64 0, .int .i64 0, .int .i64 0, .int .i64 0, .int .i64 0, .int .i64 0, .int .i64 0] 55)
  have hA3 : w3.heap[w2.heap.size]? = some (.cells #[.int .i64 0, .int .i64 0, .int .i64 0, .int .i64 0, .int .i64 0, .int .i64 0, .int .i64 0, .int .i64 0, .int .i64 0] 55 (0, 0)) := hw3 ▸ heap_alloc_new w2 (.cells #[.int .i64 0, .int .i64 0, .int .i64 0, .int .i64 0, .int .i64 0, .int .i64 0, .int .i64 0, .int .i64 0, .int .i64 0] 55 (0, 0))
  have hf3 : FBlk w3 fb X := hw3 ▸ (heap_alloc_old w2 (.cells #[.int .i64 0, .int .i64 0, .int .i64 0, .int .i64 0, .int .i64 0, .int .i64 0, .int .i64 0, .int .i64 0, .int .i64 0] 55) (show fb < _ by have := blk_lt hfd; omega)).trans hfd
  have h03 : w3.heap[w.heap.size]? = some (.cells #[.int .i64 0, .int .i64 0, .int .i64 0, .int .i64 0, .int .i64 0, .int .i64 0, .int .i64 0, .int .i64 0, .int .i64 0] 55 (0, 0)) := hw3 ▸ (heap_alloc_old w2 (.cells #[.int .i64 0, .int .i64 0, .int .i64 0, .int .i64 0, .int .i64 0, .int .i64 0, .int .i64 0, .int .i64 0, .int .i64 0] 55) (show w.heap.size < _ by have := blk_lt h0d; omega)).trans h0d
  have hg1 : w.heap.size < w2.heap.size := blk_lt h0d
  have HW3 := hide hw3
  obtain ⟨g1, hg⟩ : ∃ g1, w2.heap.size = g1 := ⟨_, rfl⟩
  have HAL := hide (show ∀ (ev : Operand -> Value) (o : Oper), o.op = .alloc 55 -> (execOp ev o).run Tryz.prog w2 = .ok (.value (.pointer (some ⟨g1, 0, none⟩))) w3 from fun ev o q => hg ▸ al55 ev o q w2 w3 (unhide HW3))
  rw [hg] at hA3 hg1
  obtain ⟨w4, hw4⟩ : ∃ w4, w3.setRow g1 #[.int .i64 0, .int .i64 X.nw, .int .i64 X.ar, .int .i64 0, .int .i64 0, .int .i64 0, .int .i64 0, .int .i64 0, .int .i64 X.st] = w4 := ⟨_, rfl⟩
  have hA4 : w4.heap[g1]? = some (.cells #[.int .i64 0, .int .i64 X.nw, .int .i64 X.ar, .int .i64 0, .int .i64 0, .int .i64 0, .int .i64 0, .int .i64 0, .int .i64 X.st] 55 (0, 0)) := hw4 ▸ setRow_heap _ _ _ #[.int .i64 0, .int .i64 X.nw, .int .i64 X.ar, .int .i64 0, .int .i64 0, .int .i64 0, .int .i64 0, .int .i64 0, .int .i64 X.st] _ _ hA3
  have hb4 : Below w.heap.size w w4 := hw4 ▸ below_setRow hb3 (by omega) #[.int .i64 0, .int .i64 X.nw, .int .i64 X.ar, .int .i64 0, .int .i64 0, .int .i64 0, .int .i64 0, .int .i64 0, .int .i64 X.st]
  have hf4 : FBlk w4 fb X := blk_on (unhide HF) hb4
  have h04 : w4.heap[w.heap.size]? = some (.cells #[.int .i64 0, .int .i64 0, .int .i64 0, .int .i64 0, .int .i64 0, .int .i64 0, .int .i64 0, .int .i64 0, .int .i64 0] 55 (0, 0)) := by rw [<- hw4]; exact (heap_setRow_ne w3 g1 _ (by omega)).trans h03
  have HST := hide (show ∀ (ev : Operand -> Value) (o : Oper) (s t : Operand), o.op = .store 55 s t -> ev s = .pointer (some ⟨g1, 0, none⟩) -> ev t = .agg #[.int .i64 0, .int .i64 X.nw, .int .i64 X.ar, .int .i64 0, .int .i64 0, .int .i64 0, .int .i64 0, .int .i64 0, .int .i64 X.st] -> (execOp ev o).run Tryz.prog w3 = .ok .skip w4 from fun ev o s t q q1 q2 => hw4 ▸ stR ev o s t 55 q #[.int .i64 0, .int .i64 X.nw, .int .i64 X.ar, .int .i64 0, .int .i64 0, .int .i64 0, .int .i64 0, .int .i64 0, .int .i64 X.st] #[.int .i64 0, .int .i64 0, .int .i64 0, .int .i64 0, .int .i64 0, .int .i64 0, .int .i64 0, .int .i64 0, .int .i64 0] (sz55 _ _ _ _ _ _ _ _ _) (lk_one _ _ _ _ _ _ _ _ _) rfl g1 q1 q2 w3 hA3)
  have H4 := hide (show Below w.heap.size w w4 /\ w4.heap[g1]? = some (.cells #[.int .i64 0, .int .i64 X.nw, .int .i64 X.ar, .int .i64 0, .int .i64 0, .int .i64 0, .int .i64 0, .int .i64 0, .int .i64 X.st] 55 (0, 0)) /\ w4.heap[w.heap.size]? = some (.cells #[.int .i64 0, .int .i64 0, .int .i64 0, .int .i64 0, .int .i64 0, .int .i64 0, .int .i64 0, .int .i64 0, .int .i64 0] 55 (0, 0)) /\ w.heap.size < g1 from ⟨hb4, hA4, h04, hg1⟩)
  clear hb3 hA3 h03 hb4 hA4 h04 hw4 hw3 h0d hbD hsz2 HF1 H01 HB1
  refine t_tk 0 rfl (.pointer (some ⟨fb, 0, none⟩)) (by kernel_rfl) (fun _ _ _ h => h) rfl (fun w' hw' => by simp [go_sem]) hfd ?_
  simp only [Act.put, qA, qB, qC]
  refine t_tk 1 rfl (.pointer (some ⟨fb, 0, none⟩)) (by kernel_rfl) (fun _ _ _ h => h) rfl (fun w' hw' => by simp [go_sem]) hfd ?_
  simp only [Act.put, qA, qB, qC]
  refine t_tk 2 rfl (.pointer (some ⟨fb, 3, none⟩)) (by kernel_rfl) (fun _ _ _ h => h) rfl (fun w' hw' => by simp [go_sem]) hfd ?_
  simp only [Act.put, qA, qB, qC]
  refine t_tk 3 rfl (.int .i64 X.nw) (by kernel_rfl) (fun _ _ _ h => h) rfl (fun w' hw' => by simp [go_sem, (FBlk.cells hw').2.2.2.1]) hfd ?_
  simp only [Act.put, qA, qB, qC]
  refine t_tk 4 rfl (.pointer (some ⟨fb, 0, none⟩)) (by kernel_rfl) (fun _ _ _ h => h) rfl (fun w' hw' => by simp [go_sem]) hfd ?_
  simp only [Act.put, qA, qB, qC]
  refine t_tk 5 rfl (.pointer (some ⟨fb, 0, none⟩)) (by kernel_rfl) (fun _ _ _ h => h) rfl (fun w' hw' => by simp [go_sem]) hfd ?_
  simp only [Act.put, qA, qB, qC]
  refine t_tk 6 rfl (.pointer (some ⟨fb, 4, none⟩)) (by kernel_rfl) (fun _ _ _ h => h) rfl (fun w' hw' => by simp [go_sem]) hfd ?_
  simp only [Act.put, qA, qB, qC]
  refine t_tk 7 rfl (.int .i64 X.ar) (by kernel_rfl) (fun _ _ _ h => h) rfl (fun w' hw' => by simp [go_sem, (FBlk.cells hw').2.2.2.2.1]) hfd ?_
  simp only [Act.put, qA, qB, qC]
  refine t_tk 8 rfl (.pointer (some ⟨fb, 0, none⟩)) (by kernel_rfl) (fun _ _ _ h => h) rfl (fun w' hw' => by simp [go_sem]) hfd ?_
  simp only [Act.put, qA, qB, qC]
  refine t_tk 9 rfl (.pointer (some ⟨fb, 0, none⟩)) (by kernel_rfl) (fun _ _ _ h => h) rfl (fun w' hw' => by simp [go_sem]) hfd ?_
  simp only [Act.put, qA, qB, qC]
  refine t_tk 10 rfl (.pointer (some ⟨fb, 5, none⟩)) (by kernel_rfl) (fun _ _ _ h => h) rfl (fun w' hw' => by simp [go_sem]) hfd ?_
  simp only [Act.put, qA, qB, qC]
  refine t_tk 11 rfl (.int .i64 X.st) (by kernel_rfl) (fun _ _ _ h => h) rfl (fun w' hw' => by simp [go_sem, (FBlk.cells hw').2.2.2.2.2.1]) hfd ?_
  simp only [Act.put, qA, qB, qC]
  refine t_tk 12 rfl (.agg #[.int .i64 0, .int .i64 X.nw, .int .i64 X.ar, .int .i64 0, .int .i64 0, .int .i64 0, .int .i64 0, .int .i64 0, .int .i64 X.st]) (by kernel_rfl) (fun _ _ _ h => h) rfl (fun w' _ => bt55 _ _ _ _ _ rfl rfl rfl rfl w') hfd ?_
  simp only [Act.put, qA, qB, qC]
  refine wpAnyH_all (rs := [13]) (by kernel_rfl) (by simp) ?_
  intro i hi
  simp only [List.mem_singleton] at hi
  subst hi
  refine t_op 13 rfl rfl (.pointer (some ⟨g1, 0, none⟩)) (w3) (unhide HAL _ _ rfl) (hf3) ?_
  simp only [Act.put, qA, qB, qC]
  refine wpAnyH_all (rs := [14]) (by kernel_rfl) (by simp) ?_
  intro i hi
  simp only [List.mem_singleton] at hi
  subst hi
  refine t_skip 14 rfl rfl (w4) (unhide HST _ _ _ _ rfl rfl rfl) (hf4) ?_
  simp only [Act.put]
  refine wpAnyH_done (by kernel_rfl) ?_ _
  clear HAL HST HW3 hg
  obtain ⟨hb4, hA4, h04, hg1⟩ := unhide H4
  have hs4 := (unhide HSP).on hb4
  have VE := Version_any X.sb 0 ver sl pv LS PL w4 hs4
  have e6 : w4.cell? ⟨fb, 6, none⟩ = some (.pointer (some ⟨X.sb, 0, none⟩)) := (FBlk.cells hf4).2.2.2.2.2.2.1
  obtain ⟨wa, hwa⟩ : ∃ W', w4.setCell ⟨g1, 0, none⟩ (.int .i64 ver) = W' := ⟨_, rfl⟩
  have hAwa : wa.heap[g1]? = some (.cells #[.int .i64 ver, .int .i64 X.nw, .int .i64 X.ar, .int .i64 0, .int .i64 0, .int .i64 0, .int .i64 0, .int .i64 0, .int .i64 X.st] 55 (0, 0)) := hwa ▸ blk_setL hA4 0 (.int .i64 ver) rfl
  have hbwa : Below w.heap.size w wa := hwa ▸ hb4.setCell (p := ⟨g1, 0, none⟩) (by show w.heap.size <= g1; omega) _
  have h0wa : wa.heap[w.heap.size]? = some (.cells #[.int .i64 0, .int .i64 0, .int .i64 0, .int .i64 0, .int .i64 0, .int .i64 0, .int .i64 0, .int .i64 0, .int .i64 0] 55 (0, 0)) := by rw [<- hwa]; exact (Below.heap_setCell w4 ⟨g1, 0, none⟩ _ w.heap.size (by show w.heap.size ≠ g1; omega)).trans h04
  have ccwa := blk_cells hA4 0
  have fzwa := frz_blk hA4 0
  have hfwa : FBlk wa fb X := blk_on (unhide HF) hbwa
  obtain ⟨wb, hwb⟩ : ∃ W', wa.setCell ⟨g1, 3, none⟩ (.int .i64 (ws.length : Int)) = W' := ⟨_, rfl⟩
  have hAwb : wb.heap[g1]? = some (.cells #[.int .i64 ver, .int .i64 X.nw, .int .i64 X.ar, .int .i64 (ws.length : Int), .int .i64 0, .int .i64 0, .int .i64 0, .int .i64 0, .int .i64 X.st] 55 (0, 0)) := hwb ▸ blk_setL hAwa 3 (.int .i64 (ws.length : Int)) rfl
  have hbwb : Below w.heap.size w wb := hwb ▸ hbwa.setCell (p := ⟨g1, 3, none⟩) (by show w.heap.size <= g1; omega) _
  have h0wb : wb.heap[w.heap.size]? = some (.cells #[.int .i64 0, .int .i64 0, .int .i64 0, .int .i64 0, .int .i64 0, .int .i64 0, .int .i64 0, .int .i64 0, .int .i64 0] 55 (0, 0)) := by rw [<- hwb]; exact (Below.heap_setCell wa ⟨g1, 3, none⟩ _ w.heap.size (by show w.heap.size ≠ g1; omega)).trans h0wa
  have ccwb := blk_cells hAwa 3
  have fzwb := frz_blk hAwa 3
  have hfwb : FBlk wb fb X := blk_on (unhide HF) hbwb
  obtain ⟨wc, hwc⟩ : ∃ W', wb.setCell ⟨g1, 4, none⟩ (.int .i64 (ls.length : Int)) = W' := ⟨_, rfl⟩
  have hAwc : wc.heap[g1]? = some (.cells #[.int .i64 ver, .int .i64 X.nw, .int .i64 X.ar, .int .i64 (ws.length : Int), .int .i64 (ls.length : Int), .int .i64 0, .int .i64 0, .int .i64 0, .int .i64 X.st] 55 (0, 0)) := hwc ▸ blk_setL hAwb 4 (.int .i64 (ls.length : Int)) rfl
  have hbwc : Below w.heap.size w wc := hwc ▸ hbwb.setCell (p := ⟨g1, 4, none⟩) (by show w.heap.size <= g1; omega) _
  have h0wc : wc.heap[w.heap.size]? = some (.cells #[.int .i64 0, .int .i64 0, .int .i64 0, .int .i64 0, .int .i64 0, .int .i64 0, .int .i64 0, .int .i64 0, .int .i64 0] 55 (0, 0)) := by rw [<- hwc]; exact (Below.heap_setCell wb ⟨g1, 4, none⟩ _ w.heap.size (by show w.heap.size ≠ g1; omega)).trans h0wb
  have ccwc := blk_cells hAwb 4
  have fzwc := frz_blk hAwb 4
  have hfwc : FBlk wc fb X := blk_on (unhide HF) hbwc
  have c7 : wa.cell? ⟨fb, 7, none⟩ = some (.slice oaw ws.length capw) := by rw [<- unhide HEW]; exact (FBlk.cells hfwa).2.2.2.2.2.2.2.1
  have c8 : wb.cell? ⟨fb, 8, none⟩ = some (.slice oal ls.length capl) := by rw [<- unhide HEL]; exact (FBlk.cells hfwb).2.2.2.2.2.2.2.2.1
  have HC := hide (show Below w.heap.size w wc /\ wc.heap[g1]? = some (.cells #[.int .i64 ver, .int .i64 X.nw, .int .i64 X.ar, .int .i64 (ws.length : Int), .int .i64 (ls.length : Int), .int .i64 0, .int .i64 0, .int .i64 0, .int .i64 X.st] 55 (0, 0)) /\ wc.heap[w.heap.size]? = some (.cells #[.int .i64 0, .int .i64 0, .int .i64 0, .int .i64 0, .int .i64 0, .int .i64 0, .int .i64 0, .int .i64 0, .int .i64 0] 55 (0, 0)) from ⟨hbwc, hAwc, h0wc⟩)
  have S1 := hide (fun (ev : Operand -> Value) (o : Oper) (s t : Operand) (q : o.op = .store 3 s t) q1 q2 => stI ev o s t q g1 0 ver q1 q2 w4 wa ccwa fzwa hwa)
  have S2 := hide (fun (ev : Operand -> Value) (o : Oper) (s t : Operand) (q : o.op = .store 3 s t) q1 q2 => stI ev o s t q g1 3 (ws.length : Int) q1 q2 wa wb ccwb fzwb hwb)
  have S3 := hide (fun (ev : Operand -> Value) (o : Oper) (s t : Operand) (q : o.op = .store 3 s t) q1 q2 => stI ev o s t q g1 4 (ls.length : Int) q1 q2 wb wc ccwc fzwc hwc)
  clear hfd hf3 hf4 H4 hb4 hA4 h04 hs4 hwa hAwa hbwa h0wa ccwa fzwa hfwa hwb hAwb hbwb h0wb ccwb fzwb hfwb hwc hAwc hbwc h0wc ccwc fzwc hfwc
  go_wp2_with fail
  refine VE.mono ?_
  rintro e wv ⟨rfl, rfl⟩
  clear VE e6
  go_wp2_with (first | refine wlSk wa (unhide S1 _ _ _ _ rfl rfl rfl) rfl ?_ | refine wlSk wb (unhide S2 _ _ _ _ rfl rfl (by simp [go_sem])) rfl ?_ | refine wlSk wc (unhide S3 _ _ _ _ rfl rfl (by simp [go_sem])) rfl ?_)
  clear S1 S2 S3 c7 c8
  go_loopw [4] (fun i wr => ∃ k : Nat, k <= W.length /\ i = .int .i64 k /\ Hid (Below w.heap.size w wr /\ wr.heap[g1]? = some (.cells #[.int .i64 ver, .int .i64 X.nw, .int .i64 X.ar, .int .i64 (ws.length : Int), .int .i64 (ls.length : Int), .int .i64 (busyW (W.take k) : Int), .int .i64 0, .int .i64 0, .int .i64 X.st] 55 (0, 0)) /\ wr.heap[w.heap.size]? = some (.cells #[.int .i64 0, .int .i64 0, .int .i64 0, .int .i64 0, .int .i64 0, .int .i64 0, .int .i64 0, .int .i64 0, .int .i64 0] 55 (0, 0)))) (fun i _ => W.length - (intOf i).toNat)
  case atStart => exact ⟨0, by omega, rfl, hide (by simpa [busyW] using unhide HC)⟩
  case round =>
    obtain ⟨k, hk, rfl, hr⟩ := hrel
    obtain ⟨hb, hA, h0⟩ := unhide hr
    have c9 : wr.cell? ⟨fb, 9, none⟩ = some (.slice oak W.length capk) := by rw [<- unhide HEK]; exact (FBlk.cells (blk_on (unhide HF) hb)).2.2.2.2.2.2.2.2.2.1
    by_cases hlt : k < W.length
    . have hkn : (k : Int) < W.length := by omega
      obtain ⟨b, off, rfl, hbl, hc0⟩ := unhide HCK (by omega)
      obtain ⟨o, ht⟩ : ∃ t, W[k]? = some t := ⟨_, List.getElem?_eq_getElem hlt⟩
      have hp0 : w.cell? ⟨b, off + k, none⟩ = some (ptr (o.map Wk.g)) := by
        have := hc0 k (o.map Wk.g) (by rw [List.getElem?_map, ht]; rfl) 0 _ rfl
        rwa [show off + k * rPtr.wid + 0 = off + k by simp [rPtr]] at this
      have hp := (hb.cell (p := ⟨b, off + k, none⟩) hbl).trans hp0
      have hct := busyW_take ht
      have hcl := busyW_le (W.take k)
      rw [List.length_take] at hcl
      cases o with
      | none =>
        have hp' : wr.cell? ⟨b, off + k, none⟩ = some (.pointer none) := hp
        have HN : Hid (Below w.heap.size w wr /\ wr.heap[g1]? = some (.cells #[.int .i64 ver, .int .i64 X.nw, .int .i64 X.ar, .int .i64 (ws.length : Int), .int .i64 (ls.length : Int), .int .i64 (busyW (W.take (k + 1)) : Int), .int .i64 0, .int .i64 0, .int .i64 X.st] 55 (0, 0)) /\ wr.heap[w.heap.size]? = some (.cells #[.int .i64 0, .int .i64 0, .int .i64 0, .int .i64 0, .int .i64 0, .int .i64 0, .int .i64 0, .int .i64 0, .int .i64 0] 55 (0, 0))) := hide (by rw [hct]; exact unhide hr)
        clear hp hp0 hc0 hct hb hA h0
        go_wp2_with fail
        go_roundw
        case rel => exact ⟨k + 1, by omega, by go_num, hide (unhide HN)⟩
        case measure => simp [intOf]; omega
      | some u =>
        have hp' : wr.cell? ⟨b, off + k, none⟩ = some (.pointer (some ⟨u.g, 0, none⟩)) := hp
        have hct' : (busyW (W.take (k + 1)) : Int) = (busyW (W.take k) : Int) + 1 := by rw [hct]; simp
        have HCT := hide hct'
        obtain ⟨C, hC⟩ : ∃ C : Int, (busyW (W.take k) : Int) = C := ⟨_, rfl⟩
        have hC0 : 0 <= C /\ C <= 100 := by omega
        rw [hC] at hA HCT
        have hov : IntKind.i64.wrap (C + 1) = C + 1 := i64_of _ (by omega)
        have c5 : wr.cell? ⟨g1, 5, none⟩ = some (.int .i64 C) := blk_cells hA 5
        have fz5 := frz_blk hA 5
        obtain ⟨wz, hwz⟩ : ∃ W', wr.setCell ⟨g1, 5, none⟩ (.int .i64 (C + 1)) = W' := ⟨_, rfl⟩
        have hAz : wz.heap[g1]? = some (.cells #[.int .i64 ver, .int .i64 X.nw, .int .i64 X.ar, .int .i64 (ws.length : Int), .int .i64 (ls.length : Int), .int .i64 (C + 1), .int .i64 0, .int .i64 0, .int .i64 X.st] 55 (0, 0)) := hwz ▸ blk_setL hA 5 (.int .i64 (C + 1)) rfl
        have hbz : Below w.heap.size w wz := hwz ▸ hb.setCell (p := ⟨g1, 5, none⟩) (by show w.heap.size <= g1; omega) _
        have h0z : wz.heap[w.heap.size]? = some (.cells #[.int .i64 0, .int .i64 0, .int .i64 0, .int .i64 0, .int .i64 0, .int .i64 0, .int .i64 0, .int .i64 0, .int .i64 0] 55 (0, 0)) := by rw [<- hwz]; exact (Below.heap_setCell wr ⟨g1, 5, none⟩ _ w.heap.size (by show w.heap.size ≠ g1; omega)).trans h0
        have S5 := hide (fun (ev : Operand -> Value) (o : Oper) (s t : Operand) (q : o.op = .store 3 s t) q1 q2 => stI ev o s t q g1 5 (C + 1) q1 q2 wr wz c5 fz5 hwz)
        have HN : Hid (Below w.heap.size w wz /\ wz.heap[g1]? = some (.cells #[.int .i64 ver, .int .i64 X.nw, .int .i64 X.ar, .int .i64 (ws.length : Int), .int .i64 (ls.length : Int), .int .i64 (busyW (W.take (k + 1)) : Int), .int .i64 0, .int .i64 0, .int .i64 X.st] 55 (0, 0)) /\ wz.heap[w.heap.size]? = some (.cells #[.int .i64 0, .int .i64 0, .int .i64 0, .int .i64 0, .int .i64 0, .int .i64 0, .int .i64 0, .int .i64 0, .int .i64 0] 55 (0, 0))) := hide (by rw [unhide HCT]; exact ⟨hbz, hAz, h0z⟩)
        clear hp hp0 hc0 hct hct' hC hA h0 hb hwz hAz hbz h0z fz5 hcl
        go_wp2_with (refine wlSk wz (unhide S5 _ _ _ _ rfl rfl (by simp [go_sem])) rfl ?_)
        go_roundw
        case rel => exact ⟨k + 1, by omega, by go_num, hide (unhide HN)⟩
        case measure => simp [intOf]; omega
    . have hkn : k = W.length := by omega
      subst hkn
      rw [List.take_length] at hA
      have hfr := blk_on (unhide HF) hb
      have c11 : wr.cell? ⟨fb, 11, none⟩ = some (.slice oat ts.length capt) := by rw [<- unhide HET]; exact (FBlk.cells hfr).2.2.2.2.2.2.2.2.2.2.2
      obtain ⟨wd, hwd⟩ : ∃ W', wr.setCell ⟨g1, 6, none⟩ (.int .i64 (ts.length : Int)) = W' := ⟨_, rfl⟩
      have hAwd : wd.heap[g1]? = some (.cells #[.int .i64 ver, .int .i64 X.nw, .int .i64 X.ar, .int .i64 (ws.length : Int), .int .i64 (ls.length : Int), .int .i64 (busyW W : Int), .int .i64 (ts.length : Int), .int .i64 0, .int .i64 X.st] 55 (0, 0)) := hwd ▸ blk_setL hA 6 (.int .i64 (ts.length : Int)) rfl
      have hbwd : Below w.heap.size w wd := hwd ▸ hb.setCell (p := ⟨g1, 6, none⟩) (by show w.heap.size <= g1; omega) _
      have h0wd : wd.heap[w.heap.size]? = some (.cells #[.int .i64 0, .int .i64 0, .int .i64 0, .int .i64 0, .int .i64 0, .int .i64 0, .int .i64 0, .int .i64 0, .int .i64 0] 55 (0, 0)) := by rw [<- hwd]; exact (Below.heap_setCell wr ⟨g1, 6, none⟩ _ w.heap.size (by show w.heap.size ≠ g1; omega)).trans h0
      have ccwd := blk_cells hA 6
      have fzwd := frz_blk hA 6
      have hfwd : FBlk wd fb X := blk_on (unhide HF) hbwd
      have BY := bytes_any fb X ts wd hfwd ((unhide HTS).on hbwd) hbt hlt_
      obtain ⟨we, hwe⟩ : ∃ W', wd.setCell ⟨g1, 7, none⟩ (.int .i64 (bytesT ts : Int)) = W' := ⟨_, rfl⟩
      have hAwe : we.heap[g1]? = some (.cells #[.int .i64 ver, .int .i64 X.nw, .int .i64 X.ar, .int .i64 (ws.length : Int), .int .i64 (ls.length : Int), .int .i64 (busyW W : Int), .int .i64 (ts.length : Int), .int .i64 (bytesT ts : Int), .int .i64 X.st] 55 (0, 0)) := hwe ▸ blk_setL hAwd 7 (.int .i64 (bytesT ts : Int)) rfl
      have hbwe : Below w.heap.size w we := hwe ▸ hbwd.setCell (p := ⟨g1, 7, none⟩) (by show w.heap.size <= g1; omega) _
      have h0we : we.heap[w.heap.size]? = some (.cells #[.int .i64 0, .int .i64 0, .int .i64 0, .int .i64 0, .int .i64 0, .int .i64 0, .int .i64 0, .int .i64 0, .int .i64 0] 55 (0, 0)) := by rw [<- hwe]; exact (Below.heap_setCell wd ⟨g1, 7, none⟩ _ w.heap.size (by show w.heap.size ≠ g1; omega)).trans h0wd
      have ccwe := blk_cells hAwd 7
      have fzwe := frz_blk hAwd 7
      have hfwe : FBlk we fb X := blk_on (unhide HF) hbwe
      have hrg : we.rangeAt g1 0 (#[.int .i64 ver, .int .i64 X.nw, .int .i64 X.ar, .int .i64 (ws.length : Int), .int .i64 (ls.length : Int), .int .i64 (busyW W : Int), .int .i64 (ts.length : Int), .int .i64 (bytesT ts : Int), .int .i64 X.st] : Array Value).toList := rng_blk hAwe
      obtain ⟨wf, hwf⟩ : ∃ W', we.setRow w.heap.size #[.int .i64 ver, .int .i64 X.nw, .int .i64 X.ar, .int .i64 (ws.length : Int), .int .i64 (ls.length : Int), .int .i64 (busyW W : Int), .int .i64 (ts.length : Int), .int .i64 (bytesT ts : Int), .int .i64 X.st] = W' := ⟨_, rfl⟩
      have h0f : wf.heap[w.heap.size]? = some (.cells #[.int .i64 ver, .int .i64 X.nw, .int .i64 X.ar, .int .i64 (ws.length : Int), .int .i64 (ls.length : Int), .int .i64 (busyW W : Int), .int .i64 (ts.length : Int), .int .i64 (bytesT ts : Int), .int .i64 X.st] 55 (0, 0)) := hwf ▸ setRow_heap _ _ _ #[.int .i64 ver, .int .i64 X.nw, .int .i64 X.ar, .int .i64 (ws.length : Int), .int .i64 (ls.length : Int), .int .i64 (busyW W : Int), .int .i64 (ts.length : Int), .int .i64 (bytesT ts : Int), .int .i64 X.st] _ _ h0we
      have hbf : Below w.heap.size w wf := hwf ▸ below_setRow hbwe (Nat.le_refl _) #[.int .i64 ver, .int .i64 X.nw, .int .i64 X.ar, .int .i64 (ws.length : Int), .int .i64 (ls.length : Int), .int .i64 (busyW W : Int), .int .i64 (ts.length : Int), .int .i64 (bytesT ts : Int), .int .i64 X.st]
      have S6 := hide (fun (ev : Operand -> Value) (o : Oper) (s t : Operand) (q : o.op = .store 3 s t) q1 q2 => stI ev o s t q g1 6 (ts.length : Int) q1 q2 wr wd ccwd fzwd hwd)
      have S7 := hide (fun (ev : Operand -> Value) (o : Oper) (s t : Operand) (q : o.op = .store 3 s t) q1 q2 => stI ev o s t q g1 7 (bytesT ts : Int) q1 q2 wd we ccwe fzwe hwe)
      have S8 := hide (show ∀ (ev : Operand -> Value) (o : Oper) (s t : Operand), o.op = .store 55 s t -> ev s = .pointer (some ⟨w.heap.size, 0, none⟩) -> ev t = .agg #[.int .i64 ver, .int .i64 X.nw, .int .i64 X.ar, .int .i64 (ws.length : Int), .int .i64 (ls.length : Int), .int .i64 (busyW W : Int), .int .i64 (ts.length : Int), .int .i64 (bytesT ts : Int), .int .i64 X.st] -> (execOp ev o).run Tryz.prog we = .ok .skip wf from fun ev o s t q q1 q2 => hwf ▸ stR ev o s t 55 q #[.int .i64 ver, .int .i64 X.nw, .int .i64 X.ar, .int .i64 (ws.length : Int), .int .i64 (ls.length : Int), .int .i64 (busyW W : Int), .int .i64 (ts.length : Int), .int .i64 (bytesT ts : Int), .int .i64 X.st] #[.int .i64 0, .int .i64 0, .int .i64 0, .int .i64 0, .int .i64 0, .int .i64 0, .int .i64 0, .int .i64 0, .int .i64 0] (sz55 _ _ _ _ _ _ _ _ _) (lk_one _ _ _ _ _ _ _ _ _) rfl w.heap.size q1 q2 we h0we)
      have H0F := hide h0f
      have HBF := hide hbf
      clear hA h0 hb hfr hwd hAwd hbwd h0wd ccwd fzwd hfwd hwe hAwe hbwe h0we ccwe fzwe hfwe hwf h0f hbf
      go_wp2_with (refine wlSk wd (unhide S6 _ _ _ _ rfl rfl (by simp [go_sem])) rfl ?_)
      refine BY.mono ?_
      rintro e wv ⟨rfl, rfl⟩
      clear BY
      go_wp2_with (first | refine wlSk we (unhide S7 _ _ _ _ rfl rfl rfl) rfl ?_ | refine ldG 55 #[.int .i64 ver, .int .i64 X.nw, .int .i64 X.ar, .int .i64 (ws.length : Int), .int .i64 (ls.length : Int), .int .i64 (busyW W : Int), .int .i64 (ts.length : Int), .int .i64 (bytesT ts : Int), .int .i64 X.st] Tryz.underlying55 rfl (sz55 _ _ _ _ _ _ _ _ _) g1 0 hrg rfl _ rfl rfl ?_ | refine wlSk wf (unhide S8 _ _ _ _ rfl rfl rfl) rfl ?_)
      exact bodyPost_ret (v := .agg #[.int .i64 ver, .int .i64 X.nw, .int .i64 X.ar, .int .i64 (ws.length : Int), .int .i64 (ls.length : Int), .int .i64 (busyW W : Int), .int .i64 (ts.length : Int), .int .i64 (bytesT ts : Int), .int .i64 X.st]) (results_cell_row Tryz.results21 _ _ w.heap.size 55 _ (0, 0) _ rfl (unhide H0F) Tryz.underlying55 rfl (sz55 _ _ _ _ _ _ _ _ _)) rfl ⟨rfl, unhide HBF⟩
theorem al73 (ev : Operand -> Value) (o : Oper) (ho : o.op = .alloc 73) (w w1 : World) (h1 : w.alloc (.cells #[.int .i64 0, .int .i64 0, .int .i64 0, .int .i64 0, .int .i64 0, .int .i64 0, .int .i64 0, .int .i64 0] 73) = w1) : (execOp ev o).run Tryz.prog w = .ok (.value (.pointer (some ⟨w.heap.size, 0, none⟩))) w1 := by
  rw [<- h1]
  unfold execOp
  simp only [ho]
  kernel_rfl
theorem sz73 (a b c d e f g h : Int) : (Tryz.prog.info? 73).map (·.size) = some (#[.int .i64 a, .int .i64 b, .int .i64 c, .int .i64 d, .int .i64 e, .int .i64 f, .int .i64 g, .int .i64 h] : Array Value).size := by kernel_rfl
theorem told_one (a b c d e f g h : Int) : (#[.int .i64 a, .int .i64 b, .int .i64 c, .int .i64 d, .int .i64 e, .int .i64 f, .int .i64 g, .int .i64 h] : Array Value).all (·.oneCell') = true := by simp [Value.oneCell']
theorem bt73 (l z x y a b c : Int) (ev : Operand -> Value) (o : Oper) (p q r s : Operand) (ho : o.op = .build 73 #[(0, p), (1, q), (2, r), (3, s)]) (h1 : ev p = .agg #[.int .i64 l, .int .i64 z, .int .i64 x, .int .i64 y]) (h2 : ev q = .int .i64 a) (h3 : ev r = .int .i64 b) (h4 : ev s = .int .i64 c) (w : World) : (execOp ev o).run Tryz.prog w = .ok (.value (.agg #[.int .i64 l, .int .i64 z, .int .i64 x, .int .i64 y, .int .i64 a, .int .i64 b, .int .i64 c, .int .i64 0])) w := by
  have hb := run_build (P := Tryz.prog) w 73 #[(0, .agg #[.int .i64 l, .int .i64 z, .int .i64 x, .int .i64 y]), (1, .int .i64 a), (2, .int .i64 b), (3, .int .i64 c)] #[.int .i64 l, .int .i64 z, .int .i64 x, .int .i64 y, .int .i64 a, .int .i64 b, .int .i64 c, .int .i64 0] (by kernel_rfl)
  unfold execOp
  simp [ho, h1, h2, h3, h4, hb]
theorem bt73b (l z x y a b : Int) (ev : Operand -> Value) (o : Oper) (p q r : Operand) (ho : o.op = .build 73 #[(0, p), (1, q), (2, r)]) (h1 : ev p = .agg #[.int .i64 l, .int .i64 z, .int .i64 x, .int .i64 y]) (h2 : ev q = .int .i64 a) (h3 : ev r = .int .i64 b) (w : World) : (execOp ev o).run Tryz.prog w = .ok (.value (.agg #[.int .i64 l, .int .i64 z, .int .i64 x, .int .i64 y, .int .i64 a, .int .i64 b, .int .i64 0, .int .i64 0])) w := by
  have hb := run_build (P := Tryz.prog) w 73 #[(0, .agg #[.int .i64 l, .int .i64 z, .int .i64 x, .int .i64 y]), (1, .int .i64 a), (2, .int .i64 b)] #[.int .i64 l, .int .i64 z, .int .i64 x, .int .i64 y, .int .i64 a, .int .i64 b, .int .i64 0, .int .i64 0] (by kernel_rfl)
  unfold execOp
  simp [ho, h1, h2, h3, hb]
theorem rng4w {W : World} {g : Nat} {l z x y : Int} {a b c : Value} (h : W.heap[g]? = some (.cells #[.int .i64 l, .int .i64 z, .int .i64 x, .int .i64 y, a, b, c] 102 (0, 0))) : W.rangeAt g 0 (#[.int .i64 l, .int .i64 z, .int .i64 x, .int .i64 y] : Array Value).toList := fun j v hv => (rng_blk h) j v (by
  rcases j with _ | _ | _ | _ | j
  . exact hv
  . exact hv
  . exact hv
  . exact hv
  . simp at hv)
theorem toldW_app (ws : List Req) (l l' : List (Option Fl)) (n : Nat) : toldW ws (l ++ l') n = toldW ws l n ++ toldW ws l' (n + l.length) := by
  unfold toldW
  rw [List.zipIdx_append, List.filterMap_append]
theorem toldW_take (ws : List Req) {l : List (Option Fl)} {k : Nat} {f : Fl} (h : l[k]? = some (some f)) : toldW ws (l.take (k + 1)) 0 = toldW ws (l.take k) 0 ++ [⟨f.b, k, f.reads, f.left, countFor ws f.b⟩] := by
  have hk : (l.take k).length = k := by rw [List.length_take]; have := (List.getElem?_eq_some_iff.1 h).1; omega
  rw [take_succ h, toldW_app, hk, toldW_some]
  simp [toldW]
theorem toldW_take0 (ws : List Req) {l : List (Option Fl)} {k : Nat} (h : l[k]? = some none) : toldW ws (l.take (k + 1)) 0 = toldW ws (l.take k) 0 := by
  rw [take_succ h, toldW_app, toldW_none]
  simp [toldW]
theorem toldL_take (ws : List Req) (A : List Told) {l : List K4} {k : Nat} {b : K4} (h : l[k]? = some b) : A ++ toldL ws (l.take (k + 1)) = A ++ toldL ws (l.take k) ++ [⟨b, -1, -1, 0, countFor ws b⟩] := by
  rw [take_succ h]
  simp [toldL]
theorem toldL_len (ws : List Req) (l : List K4) : (toldL ws l).length = l.length := by simp [toldL]
theorem toldW_len (ws : List Req) (l : List (Option Fl)) (n : Nat) : (toldW ws l n).length <= l.length := by
  unfold toldW
  have := List.length_filterMap_le (fun (x : Option Fl × Nat) => x.1.map fun fl => (⟨fl.b, x.2, fl.reads, fl.left, countFor ws fl.b⟩ : Told)) (l.zipIdx n)
  rw [List.length_zipIdx] at this
  exact this
set_option maxHeartbeats 12800000 in
theorem flights_any (fb : Nat) (X : FV) (ws : List Req) (ls : List K4) (W : List (Option Wk)) (w : World) (hf : FBlk w fb X) (hv : AtR rReq w X.wv ws) (ho : AtR rKey w X.lv ls) (hk : WksAt w X.kv W) (hs : ∀ r ∈ ws, Small r.k) (hl : ws.length <= 100000000) (hll : ls.length <= 10000000) (hl' : W.length <= 100) :
    Calls Tryz.prog 22 #[.pointer (some ⟨fb, 0, none⟩)] w fun e w' => (∃ rv, e = .returned rv /\ OwnR rTold 73 w' rv (toldW ws (W.map (Option.map Wk.f)) 0 ++ toldL ws ls)) /\ Below w.heap.size w w' := by
  have hlt0 := blk_lt hf
  obtain ⟨oa, cap, e, hcap, hm, hc⟩ := ho
  obtain ⟨⟨ob, capb, eb, hcapb, hmb, hcb⟩, hu⟩ := hk
  rw [List.length_map] at eb hcapb hmb hcb
  have HC := hide hc
  have HCB := hide hcb
  have HU := hide hu
  have HF := hide hf
  have HV := hide hv
  have HS := hide hs
  have hN := ownR_lit (R := rTold) (T := 73) w [] #[] rfl (by simp)
  have hB1 := (Below.refl w.heap.size w).alloc (Nat.le_refl _) (.cells #[] 73)
  have HN := hide hN
  have HB1 := hide hB1
  have c8 : w.cell? ⟨fb, 8, none⟩ = some (.slice oa ls.length cap) := by rw [<- e]; exact hf.cells.2.2.2.2.2.2.2.2.1
  have HC8 := hide c8
  have c9 : w.cell? ⟨fb, 9, none⟩ = some (.slice ob W.length capb) := by rw [<- eb]; exact hf.cells.2.2.2.2.2.2.2.2.2.1
  have HC9 := hide c9
  clear hf hc hN hB1 e c8 c9 hv hs hcb hu eb hm hmb
  go_enter Tryz.func22, Tryz.ntmps22
  go_wp2_with fail
  go_loopw [3, 4, 5, 6] (fun lv i _ _ wr => ∃ k : Nat, k <= W.length /\ i = .int .i64 k /\ OwnR rTold 73 wr lv (toldW ws ((W.map (Option.map Wk.f)).take k) 0) /\ Hid (∀ g, lv.ownBlock = some g -> w.heap.size <= g) /\ Below w.heap.size w wr) (fun _ i _ _ _ => W.length - (intOf i).toNat)
  case atStart => exact ⟨0, by omega, rfl, by simpa [toldW] using unhide HN, hide (fun g hg => by simp [Value.ownBlock] at hg; omega), unhide HB1⟩
  case round =>
    obtain ⟨k, hk, rfl, hown, hfr, hb⟩ := hrel
    have hsz := hb.size
    have r9 := (hb.cell (p := ⟨fb, 9, none⟩) hlt0).trans (unhide HC9)
    by_cases hlt : k < W.length
    . have hkn : (k : Int) < W.length := by omega
      obtain ⟨b, off, rfl, hbl, hc0⟩ := unhide HCB (by omega)
      obtain ⟨o, ht⟩ : ∃ t, W[k]? = some t := ⟨_, List.getElem?_eq_getElem hlt⟩
      have hp0 : w.cell? ⟨b, off + k, none⟩ = some (ptr (o.map Wk.g)) := by
        have := hc0 k (o.map Wk.g) (by rw [List.getElem?_map, ht]; rfl) 0 _ rfl
        rwa [show off + k * rPtr.wid + 0 = off + k by simp [rPtr]] at this
      have hp := (hb.cell (p := ⟨b, off + k, none⟩) hbl).trans hp0
      have HB := hide hb
      have HO := hide hown
      have htf : (W.map (Option.map Wk.f))[k]? = some (o.map Wk.f) := by rw [List.getElem?_map, ht]; rfl
      cases o with
      | none =>
        have hp' : wr.cell? ⟨b, off + k, none⟩ = some (.pointer none) := hp
        have HO3 : Hid (OwnR rTold 73 wr u3 (toldW ws ((W.map (Option.map Wk.f)).take (k + 1)) 0)) := hide (by rw [toldW_take0 ws htf]; exact hown)
        obtain ⟨oal, nl, cl, rfl⟩ := hown.sl
        clear hp hc0 hp0 hb hown htf
        go_wp2_with fail
        go_roundw
        case rel => exact ⟨k + 1, by omega, by go_num, unhide HO3, hfr, unhide HB⟩
        case measure => simp [intOf]; omega
      | some u =>
        have hp' : wr.cell? ⟨b, off + k, none⟩ = some (.pointer (some ⟨u.g, 0, none⟩)) := hp
        have hug0 := unhide HU k u ht
        have hug := blk_on hug0 hb
        obtain ⟨ug, ⟨⟨rl, rz, rx, ry⟩, ur, ul, uo⟩, urv, uR⟩ := u
        replace hug : wr.heap[ug]? = some (.cells #[.int .i64 rl, .int .i64 rz, .int .i64 rx, .int .i64 ry, .int .i64 ur, .int .i64 ul, urv] 102 (0, 0)) := hug
        have HUG := hide hug
        clear hp hc0 hp0 hb hown hug0
        go_wp2_with fail
        refine wp_region_held (S := fun w' => w'.heap[ug]? = some (.cells #[.int .i64 rl, .int .i64 rz, .int .i64 rx, .int .i64 ry, .int .i64 ur, .int .i64 ul, urv] 102 (0, 0))) (by kernel_rfl) ?_
        change wpAnyH _ _ _ _ _ _ _ _ (World.drew _)
        have hbD := (Below.refl wr.heap.size wr).drew
        have hud : (World.drew wr).heap[ug]? = some (.cells #[.int .i64 rl, .int .i64 rz, .int .i64 rx, .int .i64 ry, .int .i64 ur, .int .i64 ul, urv] 102 (0, 0)) := hug
        generalize World.drew wr = w2 at hbD hud ⊢
        obtain ⟨w3, hw3⟩ : ∃ w3, w2.alloc (.cells #[.int .i64 0, .int .i64 0, .int .i64 0, .int .i64 0, .int .i64 0, .int .i64 0, .int .i64 0, .int .i64 0] 73) = w3 := ⟨_, rfl⟩
        have hb3 : Below w2.heap.size w2 w3 := hw3 ▸ (Below.refl w2.heap.size w2).alloc (Nat.le_refl _) (.cells #[.int .i64 0, .int .i64 0, .int .i64 0, .int .i64 0, .int .i64 0, .int .i64 0, .int .i64 0, .int .i64 0] 73)
        have hA3 : w3.heap[w2.heap.size]? = some (.cells #[.int .i64 0, .int .i64 0, .int .i64 0, .int .i64 0, .int .i64 0, .int .i64 0, .int .i64 0, .int .i64 0] 73 (0, 0)) := hw3 ▸ heap_alloc_new w2 (.cells #[.int .i64 0, .int .i64 0, .int .i64 0, .int .i64 0, .int .i64 0, .int .i64 0, .int .i64 0, .int .i64 0] 73 (0, 0))
        have HW3 := hide hw3
        obtain ⟨g1, hg⟩ : ∃ g1, w2.heap.size = g1 := ⟨_, rfl⟩
        have HAL := hide (show ∀ (ev : Operand -> Value) (o : Oper), o.op = .alloc 73 -> (execOp ev o).run Tryz.prog w2 = .ok (.value (.pointer (some ⟨g1, 0, none⟩))) w3 from fun ev o q => hg ▸ al73 ev o q w2 w3 (unhide HW3))
        rw [hg] at hA3
        obtain ⟨w4, hw4⟩ : ∃ w4, w3.setRow g1 #[.int .i64 rl, .int .i64 rz, .int .i64 rx, .int .i64 ry, .int .i64 k, .int .i64 ur, .int .i64 ul, .int .i64 0] = w4 := ⟨_, rfl⟩
        have hA4 : w4.heap[g1]? = some (.cells #[.int .i64 rl, .int .i64 rz, .int .i64 rx, .int .i64 ry, .int .i64 k, .int .i64 ur, .int .i64 ul, .int .i64 0] 73 (0, 0)) := hw4 ▸ setRow_heap _ _ _ #[.int .i64 rl, .int .i64 rz, .int .i64 rx, .int .i64 ry, .int .i64 k, .int .i64 ur, .int .i64 ul, .int .i64 0] _ _ hA3
        have hb4 : Below w2.heap.size w2 w4 := hw4 ▸ below_setRow hb3 (by omega) #[.int .i64 rl, .int .i64 rz, .int .i64 rx, .int .i64 ry, .int .i64 k, .int .i64 ur, .int .i64 ul, .int .i64 0]
        have HST := hide (show ∀ (ev : Operand -> Value) (o : Oper) (s t : Operand), o.op = .store 73 s t -> ev s = .pointer (some ⟨g1, 0, none⟩) -> ev t = .agg #[.int .i64 rl, .int .i64 rz, .int .i64 rx, .int .i64 ry, .int .i64 k, .int .i64 ur, .int .i64 ul, .int .i64 0] -> (execOp ev o).run Tryz.prog w3 = .ok .skip w4 from fun ev o s t q q1 q2 => hw4 ▸ stR ev o s t 73 q #[.int .i64 rl, .int .i64 rz, .int .i64 rx, .int .i64 ry, .int .i64 k, .int .i64 ur, .int .i64 ul, .int .i64 0] #[.int .i64 0, .int .i64 0, .int .i64 0, .int .i64 0, .int .i64 0, .int .i64 0, .int .i64 0, .int .i64 0] (sz73 _ _ _ _ _ _ _ _) (told_one _ _ _ _ _ _ _ _) rfl g1 q1 q2 w3 hA3)
        have hu3 := blk_on hud hb3
        have hu4 := blk_on hud hb4
        have hbr4 := hbD.trans (hb4.mono hbD.size)
        have H4 := hide (show Below wr.heap.size wr w4 /\ w4.heap[g1]? = some (.cells #[.int .i64 rl, .int .i64 rz, .int .i64 rx, .int .i64 ry, .int .i64 k, .int .i64 ur, .int .i64 ul, .int .i64 0] 73 (0, 0)) /\ wr.heap.size <= g1 from ⟨hbr4, hA4, by have := hbD.size; omega⟩)
        clear hb3 hA3 hw4 hw3 hb4 hA4 hbr4 hbD
        refine t_tk 0 rfl (.pointer (some ⟨ug, 0, none⟩)) (by kernel_rfl) (fun _ _ _ h => h) rfl (fun w' hw' => by simp [go_sem]) hud ?_
        simp only [Act.put, qA, qB, qC]
        refine t_tk 1 rfl (.pointer (some ⟨ug, 0, none⟩)) (by kernel_rfl) (fun _ _ _ h => h) rfl (fun w' hw' => by simp [go_sem]) hud ?_
        simp only [Act.put, qA, qB, qC]
        refine t_tk 2 rfl (.pointer (some ⟨ug, 0, none⟩)) (by kernel_rfl) (fun _ _ _ h => h) rfl (fun w' hw' => by simp [go_sem]) hud ?_
        simp only [Act.put, qA, qB, qC]
        refine t_tk 3 rfl (.agg #[.int .i64 rl, .int .i64 rz, .int .i64 rx, .int .i64 ry]) (by kernel_rfl) (fun _ _ _ h => h) rfl (fun w' hw' => ldcR _ _ _ 39 rfl _ rfl _ Tryz.underlying39 rfl (sz39 _ _ _ _) ug 0 rfl _ (rng4w hw')) hud ?_
        simp only [Act.put, qA, qB, qC]
        refine t_tk 4 rfl (.int .i64 k) (by kernel_rfl) (fun _ _ _ h => h) rfl (fun w' hw' => by simp [go_sem]) hud ?_
        simp only [Act.put, qA, qB, qC]
        refine t_tk 5 rfl (.pointer (some ⟨ug, 0, none⟩)) (by kernel_rfl) (fun _ _ _ h => h) rfl (fun w' hw' => by simp [go_sem]) hud ?_
        simp only [Act.put, qA, qB, qC]
        refine t_tk 6 rfl (.pointer (some ⟨ug, 0, none⟩)) (by kernel_rfl) (fun _ _ _ h => h) rfl (fun w' hw' => by simp [go_sem]) hud ?_
        simp only [Act.put, qA, qB, qC]
        refine t_tk 7 rfl (.pointer (some ⟨ug, 4, none⟩)) (by kernel_rfl) (fun _ _ _ h => h) rfl (fun w' hw' => by simp [go_sem]) hud ?_
        simp only [Act.put, qA, qB, qC]
        refine t_tk 8 rfl (.int .i64 ur) (by kernel_rfl) (fun _ _ _ h => h) rfl (fun w' hw' => by simp [go_sem, (blk_cells hw' 4).trans rfl]) hud ?_
        simp only [Act.put, qA, qB, qC]
        refine t_tk 9 rfl (.pointer (some ⟨ug, 0, none⟩)) (by kernel_rfl) (fun _ _ _ h => h) rfl (fun w' hw' => by simp [go_sem]) hud ?_
        simp only [Act.put, qA, qB, qC]
        refine t_tk 10 rfl (.pointer (some ⟨ug, 0, none⟩)) (by kernel_rfl) (fun _ _ _ h => h) rfl (fun w' hw' => by simp [go_sem]) hud ?_
        simp only [Act.put, qA, qB, qC]
        refine t_tk 11 rfl (.pointer (some ⟨ug, 5, none⟩)) (by kernel_rfl) (fun _ _ _ h => h) rfl (fun w' hw' => by simp [go_sem]) hud ?_
        simp only [Act.put, qA, qB, qC]
        refine t_tk 12 rfl (.int .i64 ul) (by kernel_rfl) (fun _ _ _ h => h) rfl (fun w' hw' => by simp [go_sem, (blk_cells hw' 5).trans rfl]) hud ?_
        simp only [Act.put, qA, qB, qC]
        refine t_tk 13 rfl (.agg #[.int .i64 rl, .int .i64 rz, .int .i64 rx, .int .i64 ry, .int .i64 k, .int .i64 ur, .int .i64 ul, .int .i64 0]) (by kernel_rfl) (fun _ _ _ h => h) rfl (fun w' _ => bt73 rl rz rx ry k ur ul _ _ _ _ _ _ rfl rfl rfl rfl rfl w') hud ?_
        simp only [Act.put, qA, qB, qC]
        refine wpAnyH_all (rs := [14]) (by kernel_rfl) (by simp) ?_
        intro i hi
        simp only [List.mem_singleton] at hi
        subst hi
        refine t_op 14 rfl rfl (.pointer (some ⟨g1, 0, none⟩)) (w3) (unhide HAL _ _ rfl) (hu3) ?_
        simp only [Act.put, qA, qB, qC]
        refine wpAnyH_all (rs := [15]) (by kernel_rfl) (by simp) ?_
        intro i hi
        simp only [List.mem_singleton] at hi
        subst hi
        refine t_skip 15 rfl rfl (w4) (unhide HST _ _ _ _ rfl rfl rfl) (hu4) ?_
        simp only [Act.put]
        refine wpAnyH_done (by kernel_rfl) ?_ _
        obtain ⟨hbr4, hA4, hgr⟩ := unhide H4
        have hB4 := (unhide HB).trans (hbr4.mono (unhide HB).size)
        have hsz4 := hB4.size
        have hrg4 : w4.rangeAt ug 0 (#[.int .i64 rl, .int .i64 rz, .int .i64 rx, .int .i64 ry] : Array Value).toList := rng4w (blk_on (unhide HUG) hbr4)
        have CF := countFor_any fb X ws rl rz rx ry w4 (blk_on (unhide HF) hB4) ((unhide HV).on hB4) (unhide HS) hl
        have hown4 := (unhide HO).on hbr4
        have HO4 := hide hown4
        have HA4 := hide hA4
        have HB4 := hide hB4
        clear hbr4 hA4 hB4 H4 hown4 hud hu3 hu4 HAL HST HW3 hg
        go_wp2_with (refine ldG 39 #[.int .i64 rl, .int .i64 rz, .int .i64 rx, .int .i64 ry] Tryz.underlying39 rfl (sz39 _ _ _ _) ug 0 hrg4 rfl _ rfl rfl ?_)
        refine CF.mono ?_
        rintro e w5 ⟨rfl, hb5⟩
        have hA5 := blk_on (unhide HA4) hb5
        have hB5 := (unhide HB4).trans (hb5.mono (unhide HB4).size)
        have hown5 := (unhide HO4).on hb5
        have hfs := toldW_take ws htf
        obtain ⟨C, hC⟩ : ∃ C, countFor ws ⟨rl, rz, rx, ry⟩ = C := ⟨_, rfl⟩
        rw [hC] at hfs
        rw [hC]
        have c7 : w5.cell? ⟨g1, 7, none⟩ = some (.int .i64 0) := blk_cells hA5 7
        have fz7 := frz_blk hA5 7
        obtain ⟨w6, hw6⟩ : ∃ W', w5.setCell ⟨g1, 7, none⟩ (.int .i64 (C : Int)) = W' := ⟨_, rfl⟩
        have hA6 : w6.heap[g1]? = some (.cells #[.int .i64 rl, .int .i64 rz, .int .i64 rx, .int .i64 ry, .int .i64 k, .int .i64 ur, .int .i64 ul, .int .i64 (C : Int)] 73 (0, 0)) := hw6 ▸ blk_setL hA5 7 (.int .i64 (C : Int)) rfl
        have hB6 : Below w.heap.size w w6 := hw6 ▸ hB5.setCell (p := ⟨g1, 7, none⟩) (by show w.heap.size <= g1; omega) _
        have hown6 : OwnR rTold 73 w6 u3 (toldW ws ((W.map (Option.map Wk.f)).take k) 0) := by
          rw [<- hw6]
          exact hown5.same fun g hg => Below.heap_setCell _ _ _ _ (fun e => by
            have := (unhide HO).lt hg
            have : g = g1 := e
            omega)
        have S7 := hide (fun (ev : Operand -> Value) (o : Oper) (s t : Operand) (q : o.op = .store 3 s t) q1 q2 => stI ev o s t q g1 7 (C : Int) q1 q2 w5 w6 c7 fz7 hw6)
        have hrg6 : w6.rangeAt g1 0 (#[.int .i64 rl, .int .i64 rz, .int .i64 rx, .int .i64 ry, .int .i64 k, .int .i64 ur, .int .i64 ul, .int .i64 (C : Int)] : Array Value).toList := rng_blk hA6
        have hat := at_new rTold 73 w6 ⟨⟨rl, rz, rx, ry⟩, k, ur, ul, (C : Int)⟩ #[.int .i64 rl, .int .i64 rz, .int .i64 rx, .int .i64 ry, .int .i64 k, .int .i64 ur, .int .i64 ul, .int .i64 (C : Int)] rfl
        have hownA := hown6.on ((Below.refl _ _).alloc (Nat.le_refl _) (.cells #[.int .i64 rl, .int .i64 rz, .int .i64 rx, .int .i64 ry, .int .i64 k, .int .i64 ur, .int .i64 ul, .int .i64 (C : Int)] 73))
        obtain ⟨v7, w7, r1, r2, r3, r4⟩ := apTold hownA hat (by simp only [List.length_singleton]; have := toldW_len ws ((W.map (Option.map Wk.f)).take k) 0; rw [List.length_take, List.length_map] at this; omega)
        rw [<- hfs] at r2
        have hsz6 := hB6.size
        have HO3 := hide r2
        have HB3 := hide ((hB6.alloc hsz6 (.cells #[.int .i64 rl, .int .i64 rz, .int .i64 rx, .int .i64 ry, .int .i64 k, .int .i64 ur, .int .i64 ul, .int .i64 (C : Int)] 73)).grown r3 (by simp; omega) (fun g hg => unhide hfr g hg))
        have HFR := hide (show ∀ g, v7.ownBlock = some g -> w.heap.size <= g from fun g hg => by
          rcases r4 with r4 | r4
          . exact unhide hfr g (r4 ▸ hg)
          . have := r4 g hg; simp at this; omega)
        obtain ⟨oal, nl, cl, rfl⟩ := hown6.sl
        clear hA5 hB5 hown5 hfs hC c7 fz7 hw6 hA6 hB6 hown6 hat hownA r2 r3 r4 HO4 HA4 HB4 hrg4 CF hb5
        go_wp2_with (first | refine wlSk w6 (unhide S7 _ _ _ _ rfl rfl rfl) rfl ?_ | refine ldG 73 #[.int .i64 rl, .int .i64 rz, .int .i64 rx, .int .i64 ry, .int .i64 k, .int .i64 ur, .int .i64 ul, .int .i64 (C : Int)] Tryz.underlying73 rfl (sz73 _ _ _ _ _ _ _ _) g1 0 hrg6 rfl _ rfl rfl ?_ | refine wlV _ _ (bsTold rl rz rx ry k ur ul (C : Int) _ _ _ rfl rfl _) rfl ?_ | (at_builtin; refine wlR 57 r1 rfl _ _ rfl rfl rfl rfl ?_))
        go_roundw
        case rel => exact ⟨k + 1, by omega, by go_num, unhide HO3, unhide HFR, unhide HB3⟩
        case measure => simp [intOf]; omega
    . have hkn : k = W.length := by omega
      have htl : (W.map (Option.map Wk.f)).take k = W.map (Option.map Wk.f) := by rw [hkn, <- List.length_map (f := Option.map Wk.f), List.take_length]
      rw [htl] at hown
      have HO1 := hide hown
      have HB2 := hide hb
      obtain ⟨oal, nl, cl, rfl⟩ := hown.sl
      clear hown hb htl
      subst hkn
      go_wp2_with fail
      go_loopw [3, 7, 8] (fun lv i _ wr => ∃ k : Nat, k <= ls.length /\ i = .int .i64 k /\ OwnR rTold 73 wr lv (toldW ws (W.map (Option.map Wk.f)) 0 ++ toldL ws (ls.take k)) /\ Hid (∀ g, lv.ownBlock = some g -> w.heap.size <= g) /\ Below w.heap.size w wr) (fun _ i _ _ => ls.length - (intOf i).toNat)
      case atStart => exact ⟨0, by omega, rfl, by simpa [toldL] using unhide HO1, hfr, unhide HB2⟩
      case round =>
        clear hfr
        obtain ⟨k, hk, rfl, hown, hfr, hb⟩ := hrel
        have hsz := hb.size
        have r8 := (hb.cell (p := ⟨fb, 8, none⟩) hlt0).trans (unhide HC8)
        by_cases hlt : k < ls.length
        . have hkn : (k : Int) < ls.length := by omega
          obtain ⟨b, off, rfl, hbl, hc0⟩ := unhide HC (by omega)
          obtain ⟨⟨rl, rz, rx, ry⟩, ht⟩ : ∃ t, ls[k]? = some t := ⟨_, List.getElem?_eq_getElem hlt⟩
          have hrg0 : w.rangeAt b (off + k * 4) #[.int .i64 rl, .int .i64 rz, .int .i64 rx, .int .i64 ry].toList := AtR.key hc0 ht
          have hrg := rng_in hrg0 hb hbl
          have HB := hide hb
          have HO := hide hown
          obtain ⟨w3, hw3⟩ : ∃ w3, wr.alloc (.cells #[.int .i64 0, .int .i64 0, .int .i64 0, .int .i64 0, .int .i64 0, .int .i64 0, .int .i64 0, .int .i64 0] 73) = w3 := ⟨_, rfl⟩
          have hb3 : Below wr.heap.size wr w3 := hw3 ▸ (Below.refl wr.heap.size wr).alloc (Nat.le_refl _) (.cells #[.int .i64 0, .int .i64 0, .int .i64 0, .int .i64 0, .int .i64 0, .int .i64 0, .int .i64 0, .int .i64 0] 73)
          have hA3 : w3.heap[wr.heap.size]? = some (.cells #[.int .i64 0, .int .i64 0, .int .i64 0, .int .i64 0, .int .i64 0, .int .i64 0, .int .i64 0, .int .i64 0] 73 (0, 0)) := hw3 ▸ heap_alloc_new wr (.cells #[.int .i64 0, .int .i64 0, .int .i64 0, .int .i64 0, .int .i64 0, .int .i64 0, .int .i64 0, .int .i64 0] 73 (0, 0))
          have HW3 := hide hw3
          obtain ⟨g1, hg⟩ : ∃ g1, wr.heap.size = g1 := ⟨_, rfl⟩
          have HAL := hide (show ∀ (ev : Operand -> Value) (o : Oper), o.op = .alloc 73 -> (execOp ev o).run Tryz.prog wr = .ok (.value (.pointer (some ⟨g1, 0, none⟩))) w3 from fun ev o q => hg ▸ al73 ev o q wr w3 (unhide HW3))
          rw [hg] at hA3
          obtain ⟨w4, hw4⟩ : ∃ w4, w3.setRow g1 #[.int .i64 rl, .int .i64 rz, .int .i64 rx, .int .i64 ry, .int .i64 (-1), .int .i64 (-1), .int .i64 0, .int .i64 0] = w4 := ⟨_, rfl⟩
          have hA4 : w4.heap[g1]? = some (.cells #[.int .i64 rl, .int .i64 rz, .int .i64 rx, .int .i64 ry, .int .i64 (-1), .int .i64 (-1), .int .i64 0, .int .i64 0] 73 (0, 0)) := hw4 ▸ setRow_heap _ _ _ #[.int .i64 rl, .int .i64 rz, .int .i64 rx, .int .i64 ry, .int .i64 (-1), .int .i64 (-1), .int .i64 0, .int .i64 0] _ _ hA3
          have hb4 : Below wr.heap.size wr w4 := hw4 ▸ below_setRow hb3 (by omega) #[.int .i64 rl, .int .i64 rz, .int .i64 rx, .int .i64 ry, .int .i64 (-1), .int .i64 (-1), .int .i64 0, .int .i64 0]
          have HST := hide (show ∀ (ev : Operand -> Value) (o : Oper) (s t : Operand), o.op = .store 73 s t -> ev s = .pointer (some ⟨g1, 0, none⟩) -> ev t = .agg #[.int .i64 rl, .int .i64 rz, .int .i64 rx, .int .i64 ry, .int .i64 (-1), .int .i64 (-1), .int .i64 0, .int .i64 0] -> (execOp ev o).run Tryz.prog w3 = .ok .skip w4 from fun ev o s t q q1 q2 => hw4 ▸ stR ev o s t 73 q #[.int .i64 rl, .int .i64 rz, .int .i64 rx, .int .i64 ry, .int .i64 (-1), .int .i64 (-1), .int .i64 0, .int .i64 0] #[.int .i64 0, .int .i64 0, .int .i64 0, .int .i64 0, .int .i64 0, .int .i64 0, .int .i64 0, .int .i64 0] (sz73 _ _ _ _ _ _ _ _) (told_one _ _ _ _ _ _ _ _) rfl g1 q1 q2 w3 hA3)
          have H4 := hide (show Below wr.heap.size wr w4 /\ w4.heap[g1]? = some (.cells #[.int .i64 rl, .int .i64 rz, .int .i64 rx, .int .i64 ry, .int .i64 (-1), .int .i64 (-1), .int .i64 0, .int .i64 0] 73 (0, 0)) /\ wr.heap.size <= g1 from ⟨hb4, hA4, by omega⟩)
          clear hb3 hA3 hw4 hw3 hb4 hA4 hc0 hown hb
          obtain ⟨hbr4, hA4, hgr⟩ := unhide H4
          have hB4 := (unhide HB).trans (hbr4.mono (unhide HB).size)
          have hsz4 := hB4.size
          have hrg4 := rng_in hrg0 hB4 hbl
          have r8b := ((hB4).cell (p := ⟨fb, 8, none⟩) hlt0).trans (unhide HC8)
          have CF := countFor_any fb X ws rl rz rx ry w4 (blk_on (unhide HF) hB4) ((unhide HV).on hB4) (unhide HS) hl
          have hown4 := (unhide HO).on hbr4
          have HO4 := hide hown4
          have HA4 := hide hA4
          have HB4 := hide hB4
          clear hbr4 hA4 hB4 H4 hown4 HW3 hg
          have HAL2 : ∀ (W : World) (ev : Operand -> Value) (o : Oper), o.op = .alloc 73 -> W = wr -> (execOp ev o).run Tryz.prog W = .ok (.value (.pointer (some ⟨g1, 0, none⟩))) w3 := fun W ev o q e => e ▸ unhide HAL ev o q
          have HST2 : ∀ (W : World) (ev : Operand -> Value) (o : Oper) (s t : Operand), o.op = .store 73 s t -> ev s = .pointer (some ⟨g1, 0, none⟩) -> ev t = .agg #[.int .i64 rl, .int .i64 rz, .int .i64 rx, .int .i64 ry, .int .i64 (-1), .int .i64 (-1), .int .i64 0, .int .i64 0] -> W = w3 -> (execOp ev o).run Tryz.prog W = .ok .skip w4 := fun W ev o s t q q1 q2 e => e ▸ unhide HST ev o s t q q1 q2
          clear HAL HST
          have hrgA : ∀ {W : World}, W = wr \/ W = w4 -> W.rangeAt b (off + k * 4) (#[.int .i64 rl, .int .i64 rz, .int .i64 rx, .int .i64 ry] : Array Value).toList := fun h => h.elim (fun e => e ▸ hrg) (fun e => e ▸ hrg4)
          go_wp2_with (first | refine ldG 39 #[.int .i64 rl, .int .i64 rz, .int .i64 rx, .int .i64 ry] Tryz.underlying39 rfl (sz39 _ _ _ _) b (off + k * 4) (hrgA (Or.inl rfl)) rfl _ rfl rfl ?_ | refine wlV _ _ (bt73b rl rz rx ry (-1) (-1) _ _ _ _ _ rfl rfl rfl rfl _) rfl ?_ | refine wlV _ _ (HAL2 _ _ _ rfl rfl) rfl ?_ | refine wlSk _ (HST2 _ _ _ _ _ rfl rfl rfl rfl) rfl ?_ | refine ldG 39 #[.int .i64 rl, .int .i64 rz, .int .i64 rx, .int .i64 ry] Tryz.underlying39 rfl (sz39 _ _ _ _) b (off + k * 4) (hrgA (Or.inr rfl)) rfl _ rfl rfl ?_)
          clear HAL2 HST2 hrg r8 hrgA
          refine CF.mono ?_
          rintro e w5 ⟨rfl, hb5⟩
          have hA5 := blk_on (unhide HA4) hb5
          have hB5 := (unhide HB4).trans (hb5.mono (unhide HB4).size)
          have hown5 := (unhide HO4).on hb5
          have hfs := toldL_take ws (toldW ws (W.map (Option.map Wk.f)) 0) ht
          obtain ⟨C, hC⟩ : ∃ C, countFor ws ⟨rl, rz, rx, ry⟩ = C := ⟨_, rfl⟩
          rw [hC] at hfs
          rw [hC]
          have c7 : w5.cell? ⟨g1, 7, none⟩ = some (.int .i64 0) := blk_cells hA5 7
          have fz7 := frz_blk hA5 7
          obtain ⟨w6, hw6⟩ : ∃ W', w5.setCell ⟨g1, 7, none⟩ (.int .i64 (C : Int)) = W' := ⟨_, rfl⟩
          have hA6 : w6.heap[g1]? = some (.cells #[.int .i64 rl, .int .i64 rz, .int .i64 rx, .int .i64 ry, .int .i64 (-1), .int .i64 (-1), .int .i64 0, .int .i64 (C : Int)] 73 (0, 0)) := hw6 ▸ blk_setL hA5 7 (.int .i64 (C : Int)) rfl
          have hB6 : Below w.heap.size w w6 := hw6 ▸ hB5.setCell (p := ⟨g1, 7, none⟩) (by show w.heap.size <= g1; omega) _
          have hown6 : OwnR rTold 73 w6 u3 (toldW ws (W.map (Option.map Wk.f)) 0 ++ toldL ws (ls.take k)) := by
            rw [<- hw6]
            exact hown5.same fun g hg => Below.heap_setCell _ _ _ _ (fun e => by
              have := (unhide HO).lt hg
              have : g = g1 := e
              omega)
          have S7 := hide (fun (ev : Operand -> Value) (o : Oper) (s t : Operand) (q : o.op = .store 3 s t) q1 q2 => stI ev o s t q g1 7 (C : Int) q1 q2 w5 w6 c7 fz7 hw6)
          have hrg6 : w6.rangeAt g1 0 (#[.int .i64 rl, .int .i64 rz, .int .i64 rx, .int .i64 ry, .int .i64 (-1), .int .i64 (-1), .int .i64 0, .int .i64 (C : Int)] : Array Value).toList := rng_blk hA6
          have hat := at_new rTold 73 w6 ⟨⟨rl, rz, rx, ry⟩, -1, -1, 0, (C : Int)⟩ #[.int .i64 rl, .int .i64 rz, .int .i64 rx, .int .i64 ry, .int .i64 (-1), .int .i64 (-1), .int .i64 0, .int .i64 (C : Int)] rfl
          have hownA := hown6.on ((Below.refl _ _).alloc (Nat.le_refl _) (.cells #[.int .i64 rl, .int .i64 rz, .int .i64 rx, .int .i64 ry, .int .i64 (-1), .int .i64 (-1), .int .i64 0, .int .i64 (C : Int)] 73))
          obtain ⟨v7, w7, r1, r2, r3, r4⟩ := apTold hownA hat (by simp only [List.length_singleton]; have := toldW_len ws (W.map (Option.map Wk.f)) 0; rw [List.length_map] at this; rw [List.length_append, toldL_len, List.length_take]; omega)
          rw [<- hfs] at r2
          have hsz6 := hB6.size
          have HO3 := hide r2
          have HB3 := hide ((hB6.alloc hsz6 (.cells #[.int .i64 rl, .int .i64 rz, .int .i64 rx, .int .i64 ry, .int .i64 (-1), .int .i64 (-1), .int .i64 0, .int .i64 (C : Int)] 73)).grown r3 (by simp; omega) (fun g hg => unhide hfr g hg))
          have HFR := hide (show ∀ g, v7.ownBlock = some g -> w.heap.size <= g from fun g hg => by
            rcases r4 with r4 | r4
            . exact unhide hfr g (r4 ▸ hg)
            . have := r4 g hg; simp at this; omega)
          obtain ⟨oal, nl, cl, rfl⟩ := hown6.sl
          clear hA5 hB5 hown5 hfs hC c7 fz7 hw6 hA6 hB6 hown6 hat hownA r2 r3 r4 HO4 HA4 HB4 hrg4 CF hb5
          go_wp2_with (first | refine wlSk w6 (unhide S7 _ _ _ _ rfl rfl rfl) rfl ?_ | refine ldG 73 #[.int .i64 rl, .int .i64 rz, .int .i64 rx, .int .i64 ry, .int .i64 (-1), .int .i64 (-1), .int .i64 0, .int .i64 (C : Int)] Tryz.underlying73 rfl (sz73 _ _ _ _ _ _ _ _) g1 0 hrg6 rfl _ rfl rfl ?_ | refine wlV _ _ (bsTold rl rz rx ry (-1) (-1) 0 (C : Int) _ _ _ rfl rfl _) rfl ?_ | (at_builtin; refine wlR 57 r1 rfl _ _ rfl rfl rfl rfl ?_))
          go_roundw
          case rel => exact ⟨k + 1, by omega, by go_num, unhide HO3, unhide HFR, unhide HB3⟩
          case measure => simp [intOf]; omega
        . have hkn : k = ls.length := by omega
          have htl : ls.take k = ls := by rw [hkn, List.take_length]
          rw [htl] at hown
          have HH : Hid (∃ rv, Ending.returned u3 = .returned rv /\ OwnR rTold 73 wr rv (toldW ws (W.map (Option.map Wk.f)) 0 ++ toldL ws ls)) := ⟨_, rfl, hown⟩
          have HBE := hide hb
          obtain ⟨oal, nl, cl, rfl⟩ := hown.sl
          clear hown hb htl
          subst hkn
          go_wp2_with fail
          go_ret
          exact ⟨unhide HH, unhide HBE⟩
theorem busy_W {W : List (Option Wk)} {F : FM} (h : F.wks = W.map (Option.map Wk.f)) : busyW W = F.busy := by
  unfold busyW FM.busy
  rw [h, List.countP_map]
  congr 1
  funext o
  cases o <;> rfl
theorem Ok.tlen {F : FM} (h : Ok Oz F) : 7 * F.tiles.length <= bytesT F.tiles /\ bytesT F.tiles <= 67 * F.tiles.length := by
  have hs : ∀ t ∈ F.tiles, 7 <= t.body.size /\ t.body.size <= 67 := fun t ht => by
    obtain ⟨h1, h2⟩ := h.til t ht
    rw [h2]
    exact h.hi.bod F.ver (Nat.le_refl _) t.k h1
  exact ⟨bytes_len _ fun t ht => (hs t ht).1, bytes_up _ fun t ht => (hs t ht).2⟩
theorem Look_E (fb : Nat) (Ψ : Nat -> Prop) (F : FM) (w : World) (h : FroE w fb Ψ F) (ho : Ok Oz F) :
    Calls Tryz.prog 21 #[.pointer (some ⟨fb, 0, none⟩)] w fun e w' => e = .returned (.agg #[.int .i64 (F.ver : Int), .int .i64 (F.now : Int), .int .i64 (F.arrived : Int), .int .i64 (F.waiting.length : Int), .int .i64 (F.line.length : Int), .int .i64 (F.busy : Int), .int .i64 (F.tiles.length : Int), .int .i64 (bytesT F.tiles : Int), .int .i64 (F.started : Int)]) /\ Below w.heap.size w w' := by
  obtain ⟨X, sl, pv, W, h, _⟩ := h
  have hr := ho.rm
  have hb := ho.byt
  have ht := ho.tlen
  have hwl : W.length <= 4 := by have := ho.wn; rw [h.pu.wks, List.length_map] at this; omega
  have := look_any fb X F.ver sl pv F.LS (ri F.PI) F.waiting F.line W F.tiles w h.blk h.mem.sto h.mem.wai.at h.mem.lin.at h.wksAt h.mem.til.at (by omega) (by omega) (by omega)
  rw [h.num.nw, h.num.ar, h.num.st, busy_W h.pu.wks] at this
  exact this
theorem Flights_E (fb : Nat) (Ψ : Nat -> Prop) (F : FM) (w : World) (h : FroE w fb Ψ F) (ho : Ok Oz F) :
    Calls Tryz.prog 22 #[.pointer (some ⟨fb, 0, none⟩)] w fun e w' => (∃ rv, e = .returned rv /\ OwnR rTold 73 w' rv F.told) /\ Below w.heap.size w w' := by
  obtain ⟨X, sl, pv, W, h, _⟩ := h
  have hq := ho.wq
  have hq8 := ho.q
  have hll := ho.linLe
  have hwl : W.length <= 4 := by have := ho.wn; rw [h.pu.wks, List.length_map] at this; omega
  have := flights_any fb X F.waiting F.line W w h.blk h.mem.wai.at h.mem.lin.at h.wksAt (fun r hr => (ho.req r hr).2.2.2.1.small) (by omega) (by omega) (by omega)
  rw [<- h.pu.wks, <- told_eq] at this
  exact this
set_option maxHeartbeats 12800000 in
theorem bounded_any (n : Nat) (w0 : Bas) (bb fb : Nat) (F : FM) (M : BM) (w : World) (hst : StE w0 w bb fb F M) (hi : Inv Oz F M) (hbd : Bd n F M) :
    Calls Tryz.prog 13 #[.pointer (some ⟨bb, 0, none⟩)] w fun e w' => e = .returned (.bool true) /\ Below w.heap.size w w' := by
  obtain ⟨Φ, Ψ, B, WS, hS⟩ := hst
  obtain ⟨c0, _⟩ := hS.cs
  have LO := Look_E fb Ψ F w hS.fro hi.ok
  have ho := hi.ok
  have hts := ho.tlen
  have hq := ho.q
  have hwq := ho.wq
  have hll := ho.linLe
  have hbf := busy_fls F
  have hfl := fls_len F
  have hbus := ho.bus
  have hwn := ho.wn
  have hjoi := hi.joi
  have hbyt := ho.byt
  have hrm := ho.rm
  obtain ⟨z1, z2, z3, z4, z5, z6, z7⟩ := hbd.said hi
  have hcnt := hi.cnt
  have hnq := hi.nreq
  have harr := hbd.arr
  have hnow := hbd.now
  have hver := ho.v100
  obtain ⟨oa8, cap8, e8, _, _, _⟩ := hS.bk.mem.req.at
  obtain ⟨oa6, cap6, e6, _⟩ := hS.bk.mem.was.at
  rw [hS.bk.mem.len] at e6
  have HS := hide hS
  have HE8 := hide e8
  have HE6 := hide e6
  have d1 : decide ((F.queue : Int) < (F.waiting.length : Int)) = false := decide_eq_false (by omega)
  have d2 : decide ((F.line.length : Int) < 0) = false := decide_eq_false (by omega)
  have d3 : decide ((F.waiting.length : Int) < (F.line.length : Int)) = false := decide_eq_false (by omega)
  have d4 : decide ((F.busy : Int) < 0) = false := decide_eq_false (by omega)
  have d5 : decide ((F.wks.length : Int) < (F.busy : Int)) = false := decide_eq_false (by omega)
  have d6 : decide (M.joined < (F.started : Int)) = false := decide_eq_false (by omega)
  have d7 : decide ((F.started : Int) < (F.busy : Int)) = false := decide_eq_false (by omega)
  have d8 : decide ((bytesT F.tiles : Int) <= (F.room : Int)) = true := decide_eq_true (by omega)
  have d9 : decide ((F.tiles.length : Int) * 7 <= (bytesT F.tiles : Int)) = true := decide_eq_true (by omega)
  have d10 : decide ((bytesT F.tiles : Int) <= (F.tiles.length : Int) * 67) = true := decide_eq_true (by omega)
  have e1 : decide (F.queue < F.waiting.length) = false := decide_eq_false (by omega)
  have e3 : decide (F.waiting.length < F.line.length) = false := decide_eq_false (by omega)
  have e5 : decide (F.wks.length < F.busy) = false := decide_eq_false (by omega)
  have e7 : decide (F.started < F.busy) = false := decide_eq_false (by omega)
  have e8' : decide (bytesT F.tiles <= F.room) = true := decide_eq_true (by omega)
  have o1 : IntKind.i64.wrap ((F.tiles.length : Int) * 7) = (F.tiles.length : Int) * 7 := i64_of _ (by omega)
  have o2 : IntKind.i64.wrap ((F.tiles.length : Int) * 67) = (F.tiles.length : Int) * 67 := i64_of _ (by omega)
  have hAr : (F.arrived : Int) = (M.reqs.length : Int) := by omega
  rw [hAr] at LO
  clear hS e8 e6 hAr hi ho hts hq hwq hll hbf hfl hbus hwn hjoi hbyt hrm z1 z2 z3 z4 z5 z6 z7 harr hnow hbd
  go_enter Tryz.func13, Tryz.ntmps13
  go_wp2_with fail
  refine LO.mono ?_
  rintro e w2 ⟨rfl, hb2⟩
  have hS2 := (unhide HS).on hb2
  obtain ⟨w3, hw3⟩ : ∃ w3, w2.alloc (.cells #[.int .i64 (F.ver : Int), .int .i64 (F.now : Int), .int .i64 (M.reqs.length : Int), .int .i64 (F.waiting.length : Int), .int .i64 (F.line.length : Int), .int .i64 (F.busy : Int), .int .i64 (F.tiles.length : Int), .int .i64 (bytesT F.tiles : Int), .int .i64 (F.started : Int)] 55) = w3 := ⟨_, rfl⟩
  obtain ⟨w3', hw3'⟩ : ∃ w3', w2.alloc (.cells #[.int .i64 0, .int .i64 0, .int .i64 0, .int .i64 0, .int .i64 0, .int .i64 0, .int .i64 0, .int .i64 0, .int .i64 0] 55) = w3' := ⟨_, rfl⟩
  have hA3' : w3'.heap[w2.heap.size]? = some (.cells #[.int .i64 0, .int .i64 0, .int .i64 0, .int .i64 0, .int .i64 0, .int .i64 0, .int .i64 0, .int .i64 0, .int .i64 0] 55 (0, 0)) := hw3' ▸ heap_alloc_new w2 (.cells #[.int .i64 0, .int .i64 0, .int .i64 0, .int .i64 0, .int .i64 0, .int .i64 0, .int .i64 0, .int .i64 0, .int .i64 0] 55 (0, 0))
  have hb3' : Below w2.heap.size w2 w3' := hw3' ▸ (Below.refl w2.heap.size w2).alloc (Nat.le_refl _) (.cells #[.int .i64 0, .int .i64 0, .int .i64 0, .int .i64 0, .int .i64 0, .int .i64 0, .int .i64 0, .int .i64 0, .int .i64 0] 55)
  clear hw3 w3
  obtain ⟨g1, hg⟩ : ∃ g1, w2.heap.size = g1 := ⟨_, rfl⟩
  have HAL := hide (show ∀ (ev : Operand -> Value) (o : Oper), o.op = .alloc 55 -> (execOp ev o).run Tryz.prog w2 = .ok (.value (.pointer (some ⟨g1, 0, none⟩))) w3' from fun ev o q => hg ▸ al55 ev o q w2 w3' hw3')
  rw [hg] at hA3'
  obtain ⟨w3, hw3⟩ : ∃ w3, w3'.setRow g1 #[.int .i64 (F.ver : Int), .int .i64 (F.now : Int), .int .i64 (M.reqs.length : Int), .int .i64 (F.waiting.length : Int), .int .i64 (F.line.length : Int), .int .i64 (F.busy : Int), .int .i64 (F.tiles.length : Int), .int .i64 (bytesT F.tiles : Int), .int .i64 (F.started : Int)] = w3 := ⟨_, rfl⟩
  have hA3 : w3.heap[g1]? = some (.cells #[.int .i64 (F.ver : Int), .int .i64 (F.now : Int), .int .i64 (M.reqs.length : Int), .int .i64 (F.waiting.length : Int), .int .i64 (F.line.length : Int), .int .i64 (F.busy : Int), .int .i64 (F.tiles.length : Int), .int .i64 (bytesT F.tiles : Int), .int .i64 (F.started : Int)] 55 (0, 0)) := hw3 ▸ setRow_heap _ _ _ #[.int .i64 (F.ver : Int), .int .i64 (F.now : Int), .int .i64 (M.reqs.length : Int), .int .i64 (F.waiting.length : Int), .int .i64 (F.line.length : Int), .int .i64 (F.busy : Int), .int .i64 (F.tiles.length : Int), .int .i64 (bytesT F.tiles : Int), .int .i64 (F.started : Int)] _ _ hA3'
  have hb3 : Below w2.heap.size w2 w3 := hw3 ▸ below_setRow hb3' (by omega) #[.int .i64 (F.ver : Int), .int .i64 (F.now : Int), .int .i64 (M.reqs.length : Int), .int .i64 (F.waiting.length : Int), .int .i64 (F.line.length : Int), .int .i64 (F.busy : Int), .int .i64 (F.tiles.length : Int), .int .i64 (bytesT F.tiles : Int), .int .i64 (F.started : Int)]
  have HST := hide (show ∀ (ev : Operand -> Value) (o : Oper) (s t : Operand), o.op = .store 55 s t -> ev s = .pointer (some ⟨g1, 0, none⟩) -> ev t = .agg #[.int .i64 (F.ver : Int), .int .i64 (F.now : Int), .int .i64 (M.reqs.length : Int), .int .i64 (F.waiting.length : Int), .int .i64 (F.line.length : Int), .int .i64 (F.busy : Int), .int .i64 (F.tiles.length : Int), .int .i64 (bytesT F.tiles : Int), .int .i64 (F.started : Int)] -> (execOp ev o).run Tryz.prog w3' = .ok .skip w3 from fun ev o s t q q1 q2 => hw3 ▸ stR ev o s t 55 q #[.int .i64 (F.ver : Int), .int .i64 (F.now : Int), .int .i64 (M.reqs.length : Int), .int .i64 (F.waiting.length : Int), .int .i64 (F.line.length : Int), .int .i64 (F.busy : Int), .int .i64 (F.tiles.length : Int), .int .i64 (bytesT F.tiles : Int), .int .i64 (F.started : Int)] #[.int .i64 0, .int .i64 0, .int .i64 0, .int .i64 0, .int .i64 0, .int .i64 0, .int .i64 0, .int .i64 0, .int .i64 0] (sz55 _ _ _ _ _ _ _ _ _) (lk_one _ _ _ _ _ _ _ _ _) rfl g1 q1 q2 w3' hA3')
  have hS3 := hS2.on hb3
  have HB3 := hide (hb2.trans (hb3.mono hb2.size))
  have hcs : ∀ W, Below w3.heap.size w3 W -> W.cell? ⟨g1, 0, none⟩ = some (.int .i64 (F.ver : Int)) /\ W.cell? ⟨g1, 1, none⟩ = some (.int .i64 (F.now : Int)) /\ W.cell? ⟨g1, 2, none⟩ = some (.int .i64 (M.reqs.length : Int)) /\ W.cell? ⟨g1, 3, none⟩ = some (.int .i64 (F.waiting.length : Int)) /\ W.cell? ⟨g1, 4, none⟩ = some (.int .i64 (F.line.length : Int)) /\ W.cell? ⟨g1, 5, none⟩ = some (.int .i64 (F.busy : Int)) /\ W.cell? ⟨g1, 6, none⟩ = some (.int .i64 (F.tiles.length : Int)) /\ W.cell? ⟨g1, 7, none⟩ = some (.int .i64 (bytesT F.tiles : Int)) /\ W.cell? ⟨g1, 8, none⟩ = some (.int .i64 (F.started : Int)) /\ W.cell? ⟨bb, 1, none⟩ = some (.int .i64 (F.queue : Int)) /\ W.cell? ⟨bb, 2, none⟩ = some (.int .i64 (F.wks.length : Int)) /\ W.cell? ⟨bb, 4, none⟩ = some (.int .i64 (F.room : Int)) /\ W.cell? ⟨bb, 7, none⟩ = some (.int .i64 (F.now : Int)) /\ W.cell? ⟨bb, 8, none⟩ = some (.slice oa8 M.reqs.length cap8) /\ W.cell? ⟨bb, 10, none⟩ = some (.int .i64 (F.waiting.length : Int)) /\ W.cell? ⟨bb, 11, none⟩ = some (.int .i64 M.joined) := fun W hW => by
    have hSW := hS3.on hW
    obtain ⟨_, q1, q2, _, q4, q7, q10, q11, _⟩ := hSW.cs
    have hAW := blk_on hA3 hW
    exact ⟨blk_cells hAW 0, blk_cells hAW 1, blk_cells hAW 2, blk_cells hAW 3, blk_cells hAW 4, blk_cells hAW 5, blk_cells hAW 6, blk_cells hAW 7, blk_cells hAW 8, q1, q2, q4, q7, by rw [<- unhide HE8]; exact hSW.bk.blk.cells 8, by rw [<- hcnt]; exact q10, q11⟩
  have hvq : ∀ q, Calls Tryz.prog 29 #[.pointer (some ⟨bb, 0, none⟩)] (w3.drewN q) fun e w' => e = .returned (.int .i64 (F.ver : Int)) /\ w3.drewN q = w' := fun q => by
    have := version_any bb B (F.ver + 1) (w3.drewN q) ((hS3.on (dnB w3 q)).bk.blk) (by omega) ⟨oa6, cap6, unhide HE6⟩
    rwa [show (((F.ver + 1 : Nat) : Int) - 1) = F.ver by omega] at this
  have CS := hide hcs
  have VQ := hide hvq
  have HW := hide (Below.refl w3.heap.size w3)
  clear hb2 hS2 hA3' hb3' hg hw3 hw3' hA3 hb3 hS3 hcs hvq LO c0 HS HE8 HE6 hver hcnt hnq
  go_wp2_with (first | refine wlV _ _ (unhide HAL _ _ rfl) rfl ?_ | refine wlSk _ (unhide HST _ _ _ _ rfl rfl rfl) rfl ?_)
  clear HAL HST
  obtain ⟨k0, k1, k2, k3, k4, k5, k6, k7, k8, k9, k10, k11, k12, k13, k14, k15⟩ := unhide CS w3 (unhide HW)
  go_wp2_with fail
  go_quiet (exact (unhide VQ _).mono fun e w' h => ⟨h.1, _, h.2.symm⟩)
  obtain ⟨w4, hd, hw⟩ : ∃ W, w3.drewN nq = W /\ Below w3.heap.size w3 W := ⟨_, rfl, dnB w3 nq⟩
  rw [hd]
  clear hd k0 k1 k2 k3 k4 k5 k6 k7 k8 k9 k10 k11 k12 k13 k14 k15
  obtain ⟨k0, k1, k2, k3, k4, k5, k6, k7, k8, k9, k10, k11, k12, k13, k14, k15⟩ := unhide CS w4 ((unhide HW).trans (hw.mono (unhide HW).size))
  have HW := hide ((unhide HW).trans (hw.mono (unhide HW).size))
  clear hw
  clear VQ
  go_wp2_with fail
  go_quiet (fail)
  obtain ⟨w5, hd, hw⟩ : ∃ W, w4.drewN nq = W /\ Below w4.heap.size w4 W := ⟨_, rfl, dnB w4 nq⟩
  rw [hd]
  clear hd k0 k1 k2 k3 k4 k5 k6 k7 k8 k9 k10 k11 k12 k13 k14 k15
  obtain ⟨k0, k1, k2, k3, k4, k5, k6, k7, k8, k9, k10, k11, k12, k13, k14, k15⟩ := unhide CS w5 ((unhide HW).trans (hw.mono (unhide HW).size))
  have HW := hide ((unhide HW).trans (hw.mono (unhide HW).size))
  clear hw
  go_wp2_with fail
  go_quiet (fail)
  obtain ⟨w6, hd, hw⟩ : ∃ W, w5.drewN nq = W /\ Below w5.heap.size w5 W := ⟨_, rfl, dnB w5 nq⟩
  rw [hd]
  clear hd k0 k1 k2 k3 k4 k5 k6 k7 k8 k9 k10 k11 k12 k13 k14 k15
  obtain ⟨k0, k1, k2, k3, k4, k5, k6, k7, k8, k9, k10, k11, k12, k13, k14, k15⟩ := unhide CS w6 ((unhide HW).trans (hw.mono (unhide HW).size))
  have HW := hide ((unhide HW).trans (hw.mono (unhide HW).size))
  clear hw
  go_wp2_with fail
  go_quiet (fail)
  have hwe := dnB w6 nq
  go_wp2_with fail
  go_ret
  exact ⟨rfl, (unhide HB3).trans ((unhide HW).trans (hwe.mono (unhide HW).size) |>.mono (unhide HB3).size)⟩
theorem told_rng {W : World} {g off : Nat} {l z x y a b c d : Int} (h : W.rangeAt g off (#[.int .i64 l, .int .i64 z, .int .i64 x, .int .i64 y, .int .i64 a, .int .i64 b, .int .i64 c, .int .i64 d] : Array Value).toList) : W.rangeAt g off (#[.int .i64 l, .int .i64 z, .int .i64 x, .int .i64 y] : Array Value).toList := rngP (C := [.int .i64 a, .int .i64 b, .int .i64 c, .int .i64 d]) h
set_option maxHeartbeats 12800000 in
theorem flies_any (n : Nat) (w0 : Bas) (bb fb : Nat) (F : FM) (M : BM) (l z x y wk rd lf wn : Int) (w : World) (hst : StE w0 w bb fb F M) (hi : Inv Oz F M) (hbd : Bd n F M) (hn : n <= 1420000000000) (ht : TOk F ⟨⟨l, z, x, y⟩, wk, rd, lf, wn⟩) (hxy : x <= 4194304 /\ y <= 4194304) :
    Calls Tryz.prog 30 #[.pointer (some ⟨bb, 0, none⟩), .agg #[.int .i64 l, .int .i64 z, .int .i64 x, .int .i64 y, .int .i64 wk, .int .i64 rd, .int .i64 lf, .int .i64 wn]] w fun e w' => e = .returned (.bool true) /\ Below w.heap.size w w' := by
  obtain ⟨Φ, Ψ, B, WS, hS⟩ := hst
  obtain ⟨t1, t2, t3, t4⟩ := ht
  dsimp only at t1 t2 t3 t4
  have hx2 : x - x % 2 = x := congrArg K4.x t1
  have hy2 : y - y % 2 = y := congrArg K4.y t1
  obtain ⟨z1, z2, z3, z4, z5, z6, z7⟩ := hbd.said hi
  have hver := hi.ok.v100
  have hwB := hi.waitB ⟨l, z, x, y⟩
  have hpos : ∀ a ∈ M.reqs, a.said = -1 -> Pos a.k := fun a ha hs => by
    obtain ⟨i, hi'⟩ := List.mem_iff_getElem?.1 ha
    obtain ⟨_, _, _, _, q5, q6, q7, q8⟩ := hi.asks i a hi'
    have hk := (q5 (q6 hs)).small
    exact ⟨⟨q7, by have := hk.1.2; omega⟩, ⟨q8, by have := hk.2.2; omega⟩⟩
  have hb1 := (Below.refl w.heap.size w).alloc (Nat.le_refl _) (.cells #[.int .i64 l, .int .i64 z, .int .i64 x, .int .i64 y, .int .i64 wk, .int .i64 rd, .int .i64 lf, .int .i64 wn] 73)
  have hA1 := heap_alloc_new w (.cells #[.int .i64 l, .int .i64 z, .int .i64 x, .int .i64 y, .int .i64 wk, .int .i64 rd, .int .i64 lf, .int .i64 wn] 73 (0, 0))
  obtain ⟨w1, hw1⟩ : ∃ w1, w.alloc (.cells #[.int .i64 l, .int .i64 z, .int .i64 x, .int .i64 y, .int .i64 wk, .int .i64 rd, .int .i64 lf, .int .i64 wn] 73) = w1 := ⟨_, rfl⟩
  rw [hw1] at hb1 hA1
  have hS1 := hS.on hb1
  have WF := waitFor_any bb B M.reqs l z x y w1 hS1.bk.blk hS1.bk.mem.req hpos (by omega)
  rw [hwB, <- t3] at WF
  obtain ⟨oa6, cap6, e6, _⟩ := hS.bk.mem.was.at
  rw [hS.bk.mem.len] at e6
  have HBX := hide (show ∀ (W : World) (ev : Operand -> Value) (o : Oper) (p : Operand), o.op = .box 73 p -> ev p = .agg #[.int .i64 l, .int .i64 z, .int .i64 x, .int .i64 y, .int .i64 wk, .int .i64 rd, .int .i64 lf, .int .i64 wn] -> W = w -> (execOp ev o).run Tryz.prog W = .ok (.value (.pointer (some ⟨w.heap.size, 0, none⟩))) w1 from fun W ev o p q1 q2 e => by
    subst e
    rw [<- hw1]
    unfold execOp
    simp only [q1, q2]
    kernel_rfl)
  have hrg1 := told_rng (rng_blk hA1)
  have H1 := hide (show St w0 w1 bb fb Φ Ψ B WS F M /\ Below w.heap.size w w1 /\ w1.heap[w.heap.size]? = some (.cells #[.int .i64 l, .int .i64 z, .int .i64 x, .int .i64 y, .int .i64 wk, .int .i64 rd, .int .i64 lf, .int .i64 wn] 73 (0, 0)) from ⟨hS1, hb1, hA1⟩)
  have HE6 := hide e6
  have HT4 := hide t4
  have hvp : 1 <= F.ver + 1 /\ F.ver + 1 <= 2000000000000 := by omega
  clear hS hS1 hb1 hA1 hw1 e6 hi hbd t4 hpos hwB z1 z2 z3 z4 z5 z6 z7 t1 hn t3 hver
  go_enter Tryz.func30, Tryz.ntmps30
  go_wp2_with (first | refine wlV _ _ (unhide HBX _ _ _ _ rfl rfl rfl) rfl ?_ | refine ldG 39 #[.int .i64 l, .int .i64 z, .int .i64 x, .int .i64 y] Tryz.underlying39 rfl (sz39 _ _ _ _) w.heap.size 0 hrg1 rfl _ rfl rfl ?_)
  refine WF.mono ?_
  rintro e w2 ⟨rfl, hb2⟩
  obtain ⟨hS1, hb1, hA1⟩ := unhide H1
  have hS2 := hS1.on hb2
  have hA2 := blk_on hA1 hb2
  have hB2 := hb1.trans (hb2.mono hb1.size)
  have hK : ∀ W, Below w2.heap.size w2 W -> W.rangeAt w.heap.size 0 (#[.int .i64 l, .int .i64 z, .int .i64 x, .int .i64 y] : Array Value).toList := fun W h => told_rng (rng_blk (blk_on hA2 h))
  have hC7 : ∀ W, Below w2.heap.size w2 W -> W.cell? ⟨w.heap.size, 7, none⟩ = some (.int .i64 wn) := fun W h => blk_cells (blk_on hA2 h) 7
  have BL := fun W => block_any l z x y W ⟨t2.1, by omega⟩ ⟨t2.2, by omega⟩
  rw [hx2, hy2] at BL
  have H2 := hide (show St w0 w2 bb fb Φ Ψ B WS F M /\ Below w.heap.size w w2 /\ w2.heap[w.heap.size]? = some (.cells #[.int .i64 l, .int .i64 z, .int .i64 x, .int .i64 y, .int .i64 wk, .int .i64 rd, .int .i64 lf, .int .i64 wn] 73 (0, 0)) from ⟨hS2, hB2, hA2⟩)
  clear hS1 hb1 hA1 hS2 hA2 hB2 hb2 H1 WF hrg1 HBX hx2 hy2 t2 hxy
  go_wp2_with fail
  refine region_bq (by kernel_rfl) (by kernel_rfl) ?_
  refine q_val rfl (.pointer (some ⟨w.heap.size, 0, none⟩)) (fun w' hw' => by simp [go_sem]) ?_
  simp only [Act.put, qA, qB, qC]
  refine q_load rfl 39 _ rfl (w.heap.size) (0) rfl (#[.int .i64 l, .int .i64 z, .int .i64 x, .int .i64 y]) _ Tryz.underlying39 rfl (sz39 _ _ _ _) (hK) ?_
  simp only [Act.put, qA, qB, qC]
  refine q_call rfl 55 (#[.agg #[.int .i64 l, .int .i64 z, .int .i64 x, .int .i64 y]]) (fun _ => by simp [go_sem]) _ (BL) ?_
  simp only [Act.put, qA, qB, qC]
  refine q_val rfl (.pointer (some ⟨w.heap.size, 0, none⟩)) (fun w' hw' => by simp [go_sem]) ?_
  simp only [Act.put, qA, qB, qC]
  refine q_load rfl 39 _ rfl (w.heap.size) (0) rfl (#[.int .i64 l, .int .i64 z, .int .i64 x, .int .i64 y]) _ Tryz.underlying39 rfl (sz39 _ _ _ _) (hK) ?_
  simp only [Act.put, qA, qB, qC]
  refine q_val rfl (.bool false) (fun w' hw' => by simp [go_sem, neq39]) ?_
  simp only [Act.put, qA, qB, qC]
  refine q_move rfl _ rfl (.bool false) rfl ?_
  simp only [Act.put, qA, qB, qC]
  refine q_val rfl (.pointer (some ⟨w.heap.size, 7, none⟩)) (fun w' hw' => by simp [go_sem]) ?_
  simp only [Act.put, qA, qB, qC]
  refine q_val rfl (.int .i64 wn) (fun w' hw' => by simp [go_sem, hC7 w' hw']) ?_
  simp only [Act.put, qA, qB, qC]
  refine q_move rfl _ rfl (.int .i64 wn) rfl ?_
  simp only [Act.put, qA, qB, qC]
  refine q_val rfl (.bool false) (fun w' hw' => by simp [go_sem]) ?_
  simp only [Act.put, qA, qB, qC]
  refine q_val rfl (.bool false) (fun w' hw' => by simp [go_sem]) ?_
  simp only [Act.put, qA, qB, qC]
  refine wpQuiet_nil ?_
  intro w3 hw3
  obtain ⟨hS2, hB2, hA2⟩ := unhide H2
  have hS3 := hS2.on hw3
  have hA3 := blk_on hA2 hw3
  have hB3 := hB2.trans (hw3.mono hB2.size)
  have k4 : w3.cell? ⟨w.heap.size, 4, none⟩ = some (.int .i64 wk) := blk_cells hA3 4
  have k5 : w3.cell? ⟨w.heap.size, 5, none⟩ = some (.int .i64 rd) := blk_cells hA3 5
  have k6 : w3.cell? ⟨w.heap.size, 6, none⟩ = some (.int .i64 lf) := blk_cells hA3 6
  have c2 : w3.cell? ⟨bb, 2, none⟩ = some (.int .i64 F.wks.length) := hS3.cs.2.2.1
  have VQ : ∀ q, Calls Tryz.prog 29 #[.pointer (some ⟨bb, 0, none⟩)] (w3.drewN q) fun e w' => e = .returned (.int .i64 (F.ver : Int)) /\ w3.drewN q = w' := fun q => by
    have := version_any bb B (F.ver + 1) (w3.drewN q) ((hS3.on (dnB w3 q)).bk.blk) hvp ⟨oa6, cap6, unhide HE6⟩
    rwa [show (((F.ver + 1 : Nat) : Int) - 1) = F.ver by omega] at this
  have HVQ := hide VQ
  have HB3 := hide hB3
  clear hS2 hB2 hA2 hS3 hA3 hB3 hw3 hK hC7 BL H2 VQ
  rcases unhide HT4 with ⟨rfl, rfl, rfl, h0⟩ | ⟨h1, h2, h3, h4, h5⟩
  . have d0 : decide ((0 : Int) < wn) = true := decide_eq_true h0
    go_wp2_with fail
    go_ret
    exact ⟨rfl, unhide HB3⟩
  . have d0 : (wk == -1) = false := by simp; omega
    have d1 : decide ((0 : Int) <= wk) = true := decide_eq_true h1
    have d2 : decide (wk < (F.wks.length : Int)) = true := decide_eq_true h2
    have d3 : decide ((0 : Int) <= rd) = true := decide_eq_true h3
    have d4 : decide (rd <= (F.ver : Int)) = true := decide_eq_true h4
    have d5 : decide ((0 : Int) < lf) = true := decide_eq_true h5
    go_wp2_with fail
    go_quiet (exact (unhide HVQ _).mono fun e w' h => ⟨h.1, _, h.2.symm⟩)
    have hwe := dnB w3 nq
    have HBE := hide ((unhide HB3).trans (hwe.mono (unhide HB3).size))
    go_wp2_with fail
    go_ret
    exact ⟨rfl, unhide HBE⟩
theorem pw_get {α : Type} {R : α -> α -> Prop} : ∀ {l : List α}, l.Pairwise R -> ∀ {i j : Nat} {a b : α}, i < j -> l[i]? = some a -> l[j]? = some b -> R a b
  | [], _, i, j, a, b, _, h, _ => by simp at h
  | x :: l, h, 0, j + 1, a, b, _, h1, h2 => by
    simp at h1
    subst h1
    exact (List.pairwise_cons.1 h).1 b (List.mem_of_getElem? (by simpa using h2))
  | x :: l, h, i + 1, j + 1, a, b, hij, h1, h2 => pw_get (List.pairwise_cons.1 h).2 (Nat.lt_of_succ_lt_succ hij) (by simpa using h1) (by simpa using h2)
  | x :: l, h, i, 0, a, b, hij, _, _ => by omega
def sumW (T : List Told) : Int := (T.map Told.waiting).sum
theorem sumW_take {T : List Told} {k : Nat} {t : Told} (h : T[k]? = some t) : sumW (T.take (k + 1)) = sumW (T.take k) + t.waiting := by
  unfold sumW
  rw [take_succ h]
  simp
theorem sumW_le : ∀ T : List Told, (∀ t ∈ T, 0 <= t.waiting /\ t.waiting <= 8) -> 0 <= sumW T /\ sumW T <= 8 * T.length
  | [], _ => by simp [sumW]
  | t :: T, h => by
    have ih := sumW_le T fun s hs => h s (List.mem_cons_of_mem _ hs)
    have h0 := h t (List.mem_cons_self ..)
    have e : sumW (t :: T) = t.waiting + sumW T := by simp [sumW]
    rw [e]
    simp only [List.length_cons]
    omega
theorem told_small {F : FM} (h : Ok Oz F) (t : Told) (ht : t ∈ F.told) : t.k.x <= 4194304 /\ t.k.y <= 4194304 := by
  have hk : t.k ∈ F.told.map Told.k := List.mem_map.2 ⟨t, ht, rfl⟩
  rw [told_k] at hk
  have key : ∃ k, KOk k /\ t.k = k.blk := by
    rcases List.mem_append.1 hk with q | q
    . obtain ⟨f, hf, e⟩ := List.mem_map.1 q
      obtain ⟨_, _, k, h1, h2⟩ := h.flt f hf
      exact ⟨k, h1, by rw [<- e, h2]⟩
    . obtain ⟨r, hr, e⟩ := h.lin _ q
      exact ⟨r.k, (h.req r hr).2.2.2.1, e.symm⟩
  obtain ⟨k, h1, e⟩ := key
  have hs := h1.small
  have := hs.1
  have := hs.2
  rw [e]
  show k.x - k.x % 2 <= 4194304 /\ k.y - k.y % 2 <= 4194304
  omega
set_option maxHeartbeats 12800000 in
theorem single_any (n : Nat) (w0 : Bas) (bb fb : Nat) (F : FM) (M : BM) (w : World) (hst : StE w0 w bb fb F M) (hi : Inv Oz F M) (hbd : Bd n F M) (hn : n <= 1420000000000) :
    Calls Tryz.prog 14 #[.pointer (some ⟨bb, 0, none⟩)] w fun e w' => e = .returned (.bool true) /\ Below w.heap.size w w' := by
  obtain ⟨Φ, Ψ, B, WS, hS⟩ := hst
  have FL := Flights_E fb Ψ F w hS.fro hi.ok
  have hTok := told_ok hi.ok
  have hTsm := told_small hi.ok
  have hTpw := told_pw hi.ok
  have hTsum : sumW F.told = M.waiting := by rw [hi.cnt]; exact told_sum hi.ok
  have hTlen := told_len hi.ok
  have hw8 : ∀ t ∈ F.told, 0 <= t.waiting /\ t.waiting <= 8 := fun t ht => by
    have h1 := (hTok t ht).wai
    have h2 := countFor_le F.waiting t.k
    have h3 := hi.ok.wq
    have h4 := hi.ok.q
    omega
  obtain ⟨T, hT⟩ : ∃ T, F.told = T := ⟨_, rfl⟩
  rw [hT] at FL hTok hTsm hTpw hTsum hTlen hw8
  have c0 : w.cell? ⟨bb, 0, none⟩ = some (.pointer (some ⟨fb, 0, none⟩)) := hS.cs.1
  have HS := hide hS
  have HI := hide hi
  have HBD := hide hbd
  have HTOK := hide hTok
  have HTSM := hide hTsm
  have HTPW := hide hTpw
  have HTSUM := hide hTsum
  have HW8 := hide hw8
  clear hS hi hbd hTok hTsm hTpw hTsum hw8 hT
  go_enter Tryz.func14, Tryz.ntmps14
  go_wp2_with fail
  refine FL.mono ?_
  rintro e w2 ⟨⟨rv, rfl, hown⟩, hb2⟩
  obtain ⟨oa, cap, rfl, hcap, hm, hc⟩ := hown.at
  have HOWN := hide hown
  have HC := hide hc
  have HB2 := hide hb2
  clear FL hown hc hb2 c0 hm
  go_wp2_with fail
  go_loopw [4, 5, 6, 7] (fun s i _ _ wr => ∃ k : Nat, k <= T.length /\ i = .int .i64 k /\ s = .int .i64 (sumW (T.take k)) /\ Hid (Below w2.heap.size w2 wr)) (fun _ i _ _ _ => T.length - (intOf i).toNat)
  case atStart => exact ⟨0, by omega, rfl, by simp [sumW], hide (Below.refl _ _)⟩
  case round =>
    obtain ⟨k, hk, rfl, rfl, hbr⟩ := hrel
    have hsk := sumW_le (T.take k) (fun t ht => unhide HW8 t (List.mem_of_mem_take ht))
    rw [List.length_take] at hsk
    by_cases hlt : k < T.length
    . have hkn : (k : Int) < T.length := by omega
      obtain ⟨⟨⟨il, iz, ix, iy⟩, iw, ir, if_, in_⟩, hTk⟩ : ∃ t, T[k]? = some t := ⟨_, List.getElem?_eq_getElem hlt⟩
      obtain ⟨b, off, rfl, hbl, hc0⟩ := unhide HC (by omega)
      have hmem := List.mem_of_getElem? hTk
      have hrg0 : w2.rangeAt b (off + k * 8) (#[.int .i64 il, .int .i64 iz, .int .i64 ix, .int .i64 iy, .int .i64 iw, .int .i64 ir, .int .i64 if_, .int .i64 in_] : Array Value).toList := hc0 k _ hTk
      have hrg := rng_in hrg0 (unhide hbr) hbl
      have hB := (unhide HB2).trans ((unhide hbr).mono (unhide HB2).size)
      have hSr := (unhide HS).on hB
      have FY := flies_any n w0 bb fb F M il iz ix iy iw ir if_ in_ wr ⟨_, _, _, _, hSr⟩ (unhide HI) (unhide HBD) hn (unhide HTOK _ hmem) (unhide HTSM _ hmem)
      have hst := sumW_take hTk
      dsimp only at hst
      have h8 := unhide HW8 _ hmem
      dsimp only at h8
      have HRG0 := hide hrg0
      have HC0 := hide hc0
      have HST := hide hst
      clear hrg0 hc0 hB hSr hmem hst
      go_wp2_with (refine ldG 73 #[.int .i64 il, .int .i64 iz, .int .i64 ix, .int .i64 iy, .int .i64 iw, .int .i64 ir, .int .i64 if_, .int .i64 in_] Tryz.underlying73 rfl (sz73 _ _ _ _ _ _ _ _) b (off + k * 8) hrg rfl _ rfl rfl ?_)
      refine FY.mono ?_
      rintro e w3 ⟨rfl, hb3⟩
      have hbr3 := (unhide hbr).trans (hb3.mono (unhide hbr).size)
      have c7 : w3.cell? ⟨b, off + k * 8 + 7, none⟩ = some (.int .i64 in_) := (rng_in (unhide HRG0) hbr3 hbl) 7 _ rfl
      have hov : IntKind.i64.wrap (sumW (T.take k) + in_) = sumW (T.take k) + in_ := i64_of _ (by omega)
      have HB3 := hide hbr3
      obtain ⟨sk, hsk'⟩ : ∃ sk, sumW (T.take k) = sk := ⟨_, rfl⟩
      rw [hsk'] at hov HST ⊢
      clear FY hb3 hbr3 hrg hsk hsk' h8 hbr
      go_wp2_with fail
      go_loopw [7] (fun j wm => ∃ m : Nat, m <= k /\ j = .int .i64 m /\ Hid (Below w2.heap.size w2 wm)) (fun j _ => k - (intOf j).toNat)
      case atStart => exact ⟨0, by omega, rfl, hide (unhide HB3)⟩
      case round =>
        obtain ⟨m, hmk, rfl, hbm⟩ := hrel
        by_cases hml : m < k
        . have hmkn : (m : Int) < (k : Int) := by omega
          have hmn : (m : Int) < T.length := by omega
          obtain ⟨⟨⟨jl, jz, jx, jy⟩, jw, jr, jf, jn⟩, hTm⟩ : ∃ t, T[m]? = some t := ⟨_, List.getElem?_eq_getElem (by omega)⟩
          have hpr := pw_get (unhide HTPW) hml hTm hTk
          dsimp only at hpr
          have hrgJ : w2.rangeAt b (off + m * 8) (#[.int .i64 jl, .int .i64 jz, .int .i64 jx, .int .i64 jy, .int .i64 jw, .int .i64 jr, .int .i64 jf, .int .i64 jn] : Array Value).toList := unhide HC0 m _ hTm
          have hne : jl = il -> jz = iz -> jx = ix -> ¬ jy = iy := fun a b c d => hpr.1 (by rw [a, b, c, d])
          have HBm := hide (unhide hbm)
          have hAll : ∀ W, Below wr.heap.size wr W -> Below w2.heap.size w2 W := fun W h => (unhide hbm).trans (h.mono (unhide hbm).size)
          have hKJ : ∀ W, Below wr.heap.size wr W -> W.rangeAt b (off + m * 8) (#[.int .i64 jl, .int .i64 jz, .int .i64 jx, .int .i64 jy] : Array Value).toList := fun W h => told_rng (rng_in hrgJ (hAll W h) hbl)
          have hKI : ∀ W, Below wr.heap.size wr W -> W.rangeAt b (off + k * 8) (#[.int .i64 il, .int .i64 iz, .int .i64 ix, .int .i64 iy] : Array Value).toList := fun W h => told_rng (rng_in (unhide HRG0) (hAll W h) hbl)
          have hCJ : ∀ W, Below wr.heap.size wr W -> W.cell? ⟨b, off + m * 8 + 4, none⟩ = some (.int .i64 jw) := fun W h => (rng_in hrgJ (hAll W h) hbl) 4 _ rfl
          have hCI : ∀ W, Below wr.heap.size wr W -> W.cell? ⟨b, off + k * 8 + 4, none⟩ = some (.int .i64 iw) := fun W h => (rng_in (unhide HRG0) (hAll W h) hbl) 4 _ rfl
          clear hAll hrgJ
          by_cases hw0 : 0 <= iw
          . have d0 : decide ((0 : Int) <= iw) = true := decide_eq_true hw0
            have d1 : decide (iw <= jw) = false := decide_eq_false (by have := hpr.2 hw0; omega)
            have d2 : decide (jw < 0) = false := decide_eq_false (by have := hpr.2 hw0; omega)
            clear hpr hbm
            go_wp2_with fail
            refine region_bq (by kernel_rfl) (by kernel_rfl) ?_
            refine q_move rfl _ rfl (.slice (some ⟨b, off, none⟩) T.length cap) rfl ?_
            simp only [Act.put, qA, qB, qC]
            refine q_move rfl _ rfl (.int .i64 m) rfl ?_
            simp only [Act.put, qA, qB, qC]
            refine q_val rfl (.pointer (some ⟨b, off + m * 8, none⟩)) (fun w' hw' => by simp [go_sem, hmn]) ?_
            simp only [Act.put, qA, qB, qC]
            refine q_val rfl (.pointer (some ⟨b, off + m * 8, none⟩)) (fun w' hw' => by simp [go_sem]) ?_
            simp only [Act.put, qA, qB, qC]
            refine q_load rfl 39 _ rfl (b) (off + m * 8) rfl (#[.int .i64 jl, .int .i64 jz, .int .i64 jx, .int .i64 jy]) _ Tryz.underlying39 rfl (sz39 _ _ _ _) (hKJ) ?_
            simp only [Act.put, qA, qB, qC]
            refine q_move rfl _ rfl (.slice (some ⟨b, off, none⟩) T.length cap) rfl ?_
            simp only [Act.put, qA, qB, qC]
            refine q_move rfl _ rfl (.int .i64 k) rfl ?_
            simp only [Act.put, qA, qB, qC]
            refine q_val rfl (.pointer (some ⟨b, off + k * 8, none⟩)) (fun w' hw' => by simp [go_sem, hkn]) ?_
            simp only [Act.put, qA, qB, qC]
            refine q_val rfl (.pointer (some ⟨b, off + k * 8, none⟩)) (fun w' hw' => by simp [go_sem]) ?_
            simp only [Act.put, qA, qB, qC]
            refine q_load rfl 39 _ rfl (b) (off + k * 8) rfl (#[.int .i64 il, .int .i64 iz, .int .i64 ix, .int .i64 iy]) _ Tryz.underlying39 rfl (sz39 _ _ _ _) (hKI) ?_
            simp only [Act.put, qA, qB, qC]
            refine q_val rfl (.bool false) (fun w' hw' => by simp [go_sem, eql39]; exact hne) ?_
            simp only [Act.put, qA, qB, qC]
            refine q_move rfl _ rfl (.bool false) rfl ?_
            simp only [Act.put, qA, qB, qC]
            refine q_move rfl _ rfl (.slice (some ⟨b, off, none⟩) T.length cap) rfl ?_
            simp only [Act.put, qA, qB, qC]
            refine q_move rfl _ rfl (.int .i64 k) rfl ?_
            simp only [Act.put, qA, qB, qC]
            refine q_val rfl (.pointer (some ⟨b, off + k * 8, none⟩)) (fun w' hw' => by simp [go_sem, hkn]) ?_
            simp only [Act.put, qA, qB, qC]
            refine q_val rfl (.pointer (some ⟨b, off + k * 8 + 4, none⟩)) (fun w' hw' => by simp [go_sem]) ?_
            simp only [Act.put, qA, qB, qC]
            refine q_val rfl (.int .i64 iw) (fun w' hw' => by simp [go_sem, hCI w' hw']) ?_
            simp only [Act.put, qA, qB, qC]
            refine q_val rfl (.bool true) (fun w' hw' => by simp [go_sem, d0]) ?_
            simp only [Act.put, qA, qB, qC]
            refine q_move rfl _ rfl (.bool true) rfl ?_
            simp only [Act.put, qA, qB, qC]
            refine q_move rfl _ rfl (.slice (some ⟨b, off, none⟩) T.length cap) rfl ?_
            simp only [Act.put, qA, qB, qC]
            refine q_move rfl _ rfl (.int .i64 m) rfl ?_
            simp only [Act.put, qA, qB, qC]
            refine q_val rfl (.pointer (some ⟨b, off + m * 8, none⟩)) (fun w' hw' => by simp [go_sem, hmn]) ?_
            simp only [Act.put, qA, qB, qC]
            refine q_val rfl (.pointer (some ⟨b, off + m * 8 + 4, none⟩)) (fun w' hw' => by simp [go_sem]) ?_
            simp only [Act.put, qA, qB, qC]
            refine q_val rfl (.int .i64 jw) (fun w' hw' => by simp [go_sem, hCJ w' hw']) ?_
            simp only [Act.put, qA, qB, qC]
            refine q_move rfl _ rfl (.slice (some ⟨b, off, none⟩) T.length cap) rfl ?_
            simp only [Act.put, qA, qB, qC]
            refine q_move rfl _ rfl (.int .i64 k) rfl ?_
            simp only [Act.put, qA, qB, qC]
            refine q_val rfl (.pointer (some ⟨b, off + k * 8, none⟩)) (fun w' hw' => by simp [go_sem, hkn]) ?_
            simp only [Act.put, qA, qB, qC]
            refine q_val rfl (.pointer (some ⟨b, off + k * 8 + 4, none⟩)) (fun w' hw' => by simp [go_sem]) ?_
            simp only [Act.put, qA, qB, qC]
            refine q_val rfl (.int .i64 iw) (fun w' hw' => by simp [go_sem, hCI w' hw']) ?_
            simp only [Act.put, qA, qB, qC]
            refine q_val rfl (.bool false) (fun w' hw' => by simp [go_sem, d1]) ?_
            simp only [Act.put, qA, qB, qC]
            refine q_val rfl (.bool false) (fun w' hw' => by simp [go_sem]) ?_
            simp only [Act.put, qA, qB, qC]
            refine q_val rfl (.bool false) (fun w' hw' => by simp [go_sem]) ?_
            simp only [Act.put, qA, qB, qC]
            refine q_move rfl _ rfl (.bool false) rfl ?_
            simp only [Act.put, qA, qB, qC]
            refine q_move rfl _ rfl (.slice (some ⟨b, off, none⟩) T.length cap) rfl ?_
            simp only [Act.put, qA, qB, qC]
            refine q_move rfl _ rfl (.int .i64 k) rfl ?_
            simp only [Act.put, qA, qB, qC]
            refine q_val rfl (.pointer (some ⟨b, off + k * 8, none⟩)) (fun w' hw' => by simp [go_sem, hkn]) ?_
            simp only [Act.put, qA, qB, qC]
            refine q_val rfl (.pointer (some ⟨b, off + k * 8 + 4, none⟩)) (fun w' hw' => by simp [go_sem]) ?_
            simp only [Act.put, qA, qB, qC]
            refine q_val rfl (.int .i64 iw) (fun w' hw' => by simp [go_sem, hCI w' hw']) ?_
            simp only [Act.put, qA, qB, qC]
            refine q_val rfl (.bool true) (fun w' hw' => by simp [go_sem, d0]) ?_
            simp only [Act.put, qA, qB, qC]
            refine q_move rfl _ rfl (.bool true) rfl ?_
            simp only [Act.put, qA, qB, qC]
            refine q_move rfl _ rfl (.slice (some ⟨b, off, none⟩) T.length cap) rfl ?_
            simp only [Act.put, qA, qB, qC]
            refine q_move rfl _ rfl (.int .i64 m) rfl ?_
            simp only [Act.put, qA, qB, qC]
            refine q_val rfl (.pointer (some ⟨b, off + m * 8, none⟩)) (fun w' hw' => by simp [go_sem, hmn]) ?_
            simp only [Act.put, qA, qB, qC]
            refine q_val rfl (.pointer (some ⟨b, off + m * 8 + 4, none⟩)) (fun w' hw' => by simp [go_sem]) ?_
            simp only [Act.put, qA, qB, qC]
            refine q_val rfl (.int .i64 jw) (fun w' hw' => by simp [go_sem, hCJ w' hw']) ?_
            simp only [Act.put, qA, qB, qC]
            refine q_val rfl (.bool false) (fun w' hw' => by simp [go_sem, d2]) ?_
            simp only [Act.put, qA, qB, qC]
            refine q_val rfl (.bool false) (fun w' hw' => by simp [go_sem]) ?_
            simp only [Act.put, qA, qB, qC]
            refine q_val rfl (.bool false) (fun w' hw' => by simp [go_sem]) ?_
            simp only [Act.put, qA, qB, qC]
            refine wpQuiet_nil ?_
            intro w5 hw5
            have HBj := hide ((unhide HBm).trans (hw5.mono (unhide HBm).size))
            clear hCI hCJ hKI hKJ hw5
            go_wp2_with fail
            go_roundw
            case rel => exact ⟨m + 1, by omega, by go_num, hide (unhide HBj)⟩
            case measure => simp [intOf]; omega
          . have d0 : decide ((0 : Int) <= iw) = false := decide_eq_false hw0
            clear hpr hbm
            go_wp2_with fail
            refine region_bq (by kernel_rfl) (by kernel_rfl) ?_
            refine q_move rfl _ rfl (.slice (some ⟨b, off, none⟩) T.length cap) rfl ?_
            simp only [Act.put, qA, qB, qC]
            refine q_move rfl _ rfl (.int .i64 m) rfl ?_
            simp only [Act.put, qA, qB, qC]
            refine q_val rfl (.pointer (some ⟨b, off + m * 8, none⟩)) (fun w' hw' => by simp [go_sem, hmn]) ?_
            simp only [Act.put, qA, qB, qC]
            refine q_val rfl (.pointer (some ⟨b, off + m * 8, none⟩)) (fun w' hw' => by simp [go_sem]) ?_
            simp only [Act.put, qA, qB, qC]
            refine q_load rfl 39 _ rfl (b) (off + m * 8) rfl (#[.int .i64 jl, .int .i64 jz, .int .i64 jx, .int .i64 jy]) _ Tryz.underlying39 rfl (sz39 _ _ _ _) (hKJ) ?_
            simp only [Act.put, qA, qB, qC]
            refine q_move rfl _ rfl (.slice (some ⟨b, off, none⟩) T.length cap) rfl ?_
            simp only [Act.put, qA, qB, qC]
            refine q_move rfl _ rfl (.int .i64 k) rfl ?_
            simp only [Act.put, qA, qB, qC]
            refine q_val rfl (.pointer (some ⟨b, off + k * 8, none⟩)) (fun w' hw' => by simp [go_sem, hkn]) ?_
            simp only [Act.put, qA, qB, qC]
            refine q_val rfl (.pointer (some ⟨b, off + k * 8, none⟩)) (fun w' hw' => by simp [go_sem]) ?_
            simp only [Act.put, qA, qB, qC]
            refine q_load rfl 39 _ rfl (b) (off + k * 8) rfl (#[.int .i64 il, .int .i64 iz, .int .i64 ix, .int .i64 iy]) _ Tryz.underlying39 rfl (sz39 _ _ _ _) (hKI) ?_
            simp only [Act.put, qA, qB, qC]
            refine q_val rfl (.bool false) (fun w' hw' => by simp [go_sem, eql39]; exact hne) ?_
            simp only [Act.put, qA, qB, qC]
            refine q_move rfl _ rfl (.bool false) rfl ?_
            simp only [Act.put, qA, qB, qC]
            refine q_move rfl _ rfl (.slice (some ⟨b, off, none⟩) T.length cap) rfl ?_
            simp only [Act.put, qA, qB, qC]
            refine q_move rfl _ rfl (.int .i64 k) rfl ?_
            simp only [Act.put, qA, qB, qC]
            refine q_val rfl (.pointer (some ⟨b, off + k * 8, none⟩)) (fun w' hw' => by simp [go_sem, hkn]) ?_
            simp only [Act.put, qA, qB, qC]
            refine q_val rfl (.pointer (some ⟨b, off + k * 8 + 4, none⟩)) (fun w' hw' => by simp [go_sem]) ?_
            simp only [Act.put, qA, qB, qC]
            refine q_val rfl (.int .i64 iw) (fun w' hw' => by simp [go_sem, hCI w' hw']) ?_
            simp only [Act.put, qA, qB, qC]
            refine q_val rfl (.bool false) (fun w' hw' => by simp [go_sem, d0]) ?_
            simp only [Act.put, qA, qB, qC]
            refine q_move rfl _ rfl (.bool false) rfl ?_
            simp only [Act.put, qA, qB, qC]
            go_big_quiet_skip
            go_big_quiet_skip
            go_big_quiet_skip
            go_big_quiet_skip
            go_big_quiet_skip
            go_big_quiet_skip
            go_big_quiet_skip
            go_big_quiet_skip
            go_big_quiet_skip
            go_big_quiet_skip
            go_big_quiet_skip
            refine q_val rfl (.bool false) (fun w' hw' => by simp [go_sem]) ?_
            simp only [Act.put, qA, qB, qC]
            refine q_val rfl (.bool false) (fun w' hw' => by simp [go_sem]) ?_
            simp only [Act.put, qA, qB, qC]
            refine q_move rfl _ rfl (.bool false) rfl ?_
            simp only [Act.put, qA, qB, qC]
            refine q_move rfl _ rfl (.slice (some ⟨b, off, none⟩) T.length cap) rfl ?_
            simp only [Act.put, qA, qB, qC]
            refine q_move rfl _ rfl (.int .i64 k) rfl ?_
            simp only [Act.put, qA, qB, qC]
            refine q_val rfl (.pointer (some ⟨b, off + k * 8, none⟩)) (fun w' hw' => by simp [go_sem, hkn]) ?_
            simp only [Act.put, qA, qB, qC]
            refine q_val rfl (.pointer (some ⟨b, off + k * 8 + 4, none⟩)) (fun w' hw' => by simp [go_sem]) ?_
            simp only [Act.put, qA, qB, qC]
            refine q_val rfl (.int .i64 iw) (fun w' hw' => by simp [go_sem, hCI w' hw']) ?_
            simp only [Act.put, qA, qB, qC]
            refine q_val rfl (.bool false) (fun w' hw' => by simp [go_sem, d0]) ?_
            simp only [Act.put, qA, qB, qC]
            refine q_move rfl _ rfl (.bool false) rfl ?_
            simp only [Act.put, qA, qB, qC]
            go_big_quiet_skip
            go_big_quiet_skip
            go_big_quiet_skip
            go_big_quiet_skip
            go_big_quiet_skip
            go_big_quiet_skip
            refine q_val rfl (.bool false) (fun w' hw' => by simp [go_sem]) ?_
            simp only [Act.put, qA, qB, qC]
            refine q_val rfl (.bool false) (fun w' hw' => by simp [go_sem]) ?_
            simp only [Act.put, qA, qB, qC]
            refine wpQuiet_nil ?_
            intro w5 hw5
            have HBj := hide ((unhide HBm).trans (hw5.mono (unhide HBm).size))
            clear hCI hCJ hKI hKJ hw5
            go_wp2_with fail
            go_roundw
            case rel => exact ⟨m + 1, by omega, by go_num, hide (unhide HBj)⟩
            case measure => simp [intOf]; omega
        . have hmkn : ¬ (m : Int) < (k : Int) := by omega
          have HBe := hide (unhide hbm)
          clear hbm
          go_wp2_with fail
          go_roundw
          case rel => exact ⟨k + 1, by omega, by go_num, by rw [unhide HST], hide (unhide HBe)⟩
          case measure => simp [intOf]; omega
    . have hkn : k = T.length := by omega
      have hB := (unhide HB2).trans ((unhide hbr).mono (unhide HB2).size)
      have c10 : wr.cell? ⟨bb, 10, none⟩ = some (.int .i64 M.waiting) := ((unhide HS).on hB).cs.2.2.2.2.2.2.1
      have HBe := hide hB
      subst hkn
      rw [List.take_length, unhide HTSUM]
      clear hB hbr hsk
      go_wp2_with fail
      go_ret
      exact ⟨rfl, unhide HBe⟩
theorem lookC : LookC := fun n w0 bb fb F M w h1 h2 h3 h4 => ⟨bounded_any n w0 bb fb F M w h1 h2 h3, single_any n w0 bb fb F M w h1 h2 h3 (by omega)⟩
theorem tagB_ne (k : K4) (s : Int) : tagB k s ≠ ⟨#[]⟩ := by
  intro h
  have := congrArg (fun b : ByteArray => b.data.toList) h
  simp [tagB] at this
theorem prs0 : prs (⟨#[47, 108, 97, 110, 100, 47, 48, 47, 48, 47, 48, 46, 116, 105, 108, 101]⟩ : ByteArray) = (⟨0, 0, 0, 0⟩, 0) := by kernel_rfl
abbrev oneP (p : FM × BM) : FM × BM := arrB Oz p ⟨0, 0, 0, 0⟩ 0 ⟨#[]⟩
abbrev servP (p : FM × BM) : FM × BM := calmP Oz (oneP p)
theorem kok0 : KOk ⟨0, 0, 0, 0⟩ := ⟨by decide, by decide, by decide, by decide⟩
structure Srv (p q : FM × BM) : Prop where
  on : On (O := Oz) (oneP p) q
  rest : Rest q.1
  last : ∃ a s, q.2.reqs[p.2.reqs.length]? = some a /\ 0 <= a.said /\ a.e = 0 /\ q.2.says[a.said.toNat]? = some s /\ s.r.st = 200
  len : q.2.reqs.length = p.2.reqs.length + 1
  says : ∃ x, q.2.says = p.2.says ++ x /\ ∀ s ∈ x, s.r.st = 200
theorem served_math {p : FM × BM} (h : Inv Oz p.1 p.2) (hr : Rest p.1) : Srv p (servP p) := by
  have h1 : Inv Oz (oneP p).1 (oneP p).2 := h.arrB (Or.inl ⟨rfl, kok0⟩) ⟨#[]⟩
  obtain ⟨ho, hrest⟩ := calm_rest (oneP p) h1
  obtain ⟨⟨a, s, q1, q2, q3, _, q5, q6, _⟩, q9, q10⟩ := last_fine h (arr_plain h hr.waiting (tag := ⟨#[]⟩) (k := ⟨0, 0, 0, 0⟩) (fun e => tagB_ne _ _ e.symm)) ho hrest.waiting
  exact ⟨ho, hrest, ⟨a, s, q1, q2, q3, q5, q6⟩, q9, q10⟩
set_option maxHeartbeats 12800000 in
theorem served_any (n : Nat) (w0 : Bas) (bb fb : Nat) (F : FM) (M : BM) (w : World) (h : StE w0 w bb fb F M) (hi : Inv Oz F M) (hbd : Bd n F M) (hn : n <= 1410000000000) (hr : Rest F) :
    Calls Tryz.prog 10 #[.pointer (some ⟨bb, 0, none⟩)] w fun e w' => e = .returned (.bool true) /\ StE w0 w' bb fb (servP (F, M)).1 (servP (F, M)).2 := by
  have AR := arrive_any n w0 bb fb F M (⟨#[47, 108, 97, 110, 100, 47, 48, 47, 48, 47, 48, 46, 116, 105, 108, 101]⟩ : ByteArray) ⟨#[]⟩ w h hi hbd (by omega) (by unfold maxLen; decide)
  rw [prs0] at AR
  dsimp only at AR
  have hi1 : Inv Oz (oneP (F, M)).1 (oneP (F, M)).2 := Inv.arrB (p := (F, M)) hi (Or.inl ⟨rfl, kok0⟩) ⟨#[]⟩
  have hbd1 : Bd (n + 1) (oneP (F, M)).1 (oneP (F, M)).2 := Bd.arrB (p := (F, M)) hbd ⟨0, 0, 0, 0⟩ 0 ⟨#[]⟩
  have hsv := served_math (p := (F, M)) hi hr
  have HI1 := hide hi1
  have HBD1 := hide hbd1
  have hsz := (hsv.on.bd hbd1).said hsv.on.inv
  have HSV := hide hsv
  clear h hi hbd hr hi1 hbd1 hsv
  obtain ⟨z1, z2, _⟩ := hsz
  go_enter Tryz.func10, Tryz.ntmps10
  go_wp2_with fail
  refine AR.mono ?_
  rintro e w1 ⟨rfl, h1⟩
  have CA := calm_any (n + 1) w0 bb fb (oneP (F, M)).1 (oneP (F, M)).2 w1 h1 (unhide HI1) (unhide HBD1) (by omega)
  clear h1 AR HI1 HBD1
  go_wp2_with fail
  refine CA.mono ?_
  rintro e w2 ⟨rfl, h2⟩
  change StE w0 w2 bb fb (servP (F, M)).1 (servP (F, M)).2 at h2
  have HST := hide h2
  obtain ⟨a, s, q1, q2, q3, q4, q5⟩ := (unhide HSV).last
  have hlen := (unhide HSV).len
  obtain ⟨Φ, Ψ, B, WS, hS⟩ := h2
  obtain ⟨P, hP⟩ : ∃ P, servP (F, M) = P := ⟨_, rfl⟩
  rw [hP] at q1 q4 hlen hS z1 z2
  obtain ⟨m, hm⟩ : ∃ m, M.reqs.length = m := ⟨_, rfl⟩
  dsimp only at q1 hlen
  rw [hm] at q1 hlen
  obtain ⟨at_, ak, ae, av, an, aw, as'⟩ := a
  dsimp only at q2 q3 q4
  obtain ⟨sn, rfl⟩ : ∃ sn : Nat, as' = sn := ⟨as'.toNat, by omega⟩
  rw [Int.toNat_natCast] at q4
  subst q3
  obtain ⟨⟨who, st, bd, tg⟩, sv, sm, sb⟩ := s
  dsimp only at q5
  subst q5
  have hsl : sn < P.2.says.length := (List.getElem?_eq_some_iff.1 q4).1
  have hsi : (sn : Int) < (P.2.says.length : Int) := by omega
  have hmI : (m : Int) < (m : Int) + 1 := by omega
  obtain ⟨g8, off8, cap8, e8, hrg8, _⟩ := hS.bk.mem.req.spot q1
  obtain ⟨g9, off9, cap9, e9, hrg9, _⟩ := hS.bk.mem.say.spot q4
  rw [hlen] at e8
  have c8 : w2.cell? ⟨bb, 8, none⟩ = some (.slice (some ⟨g8, off8, none⟩) (m + 1) cap8) := by rw [<- e8]; exact hS.bk.blk.cells 8
  have c9 : w2.cell? ⟨bb, 9, none⟩ = some (.slice (some ⟨g9, off9, none⟩) P.2.says.length cap9) := by rw [<- e9]; exact hS.bk.blk.cells 9
  have c12 : w2.cell? ⟨bb, 12, none⟩ = some (.bool false) := hS.bk.blk.cells 12
  have ce : w2.cell? ⟨g8, off8 + m * 10 + 5, none⟩ = some (.int .i64 0) := hrg8 5 _ rfl
  have cs : w2.cell? ⟨g8, off8 + m * 10 + 9, none⟩ = some (.int .i64 sn) := hrg8 9 _ rfl
  have cst : w2.cell? ⟨g9, off9 + sn * 7 + 1, none⟩ = some (.int .i64 200) := hrg9 1 _ rfl
  have hm5 : m <= 1420000000000 := by omega
  have d0 : decide ((m : Int) < 0) = false := decide_eq_false (by omega)
  have d1 : ((sn : Int) == -1) = false := by simp
  have hov : IntKind.i64.wrap (m : Int) = (m : Int) := i64_of _ (by omega)
  clear hS hrg8 hrg9 e8 e9 CA q1 q2 q4 hm hlen z1 z2 HSV hsl hP
  go_wp2_with fail
  go_quiet (fail)
  have HSE := hide ((unhide HST).on (dnB w2 nq))
  go_wp2_with fail
  go_ret
  exact ⟨rfl, unhide HSE⟩
theorem ScAt.on {w w' : World} {oa : Option Addr} {cap : Nat} {L : List Stp} (h : ScAt w oa cap L) (hb : Below w.heap.size w w') : ScAt w' oa cap L := by
  refine ⟨h.len, fun hl => ?_, fun i s hi => ?_⟩
  . obtain ⟨b, off, e, hlt, hc⟩ := h.at_ hl
    exact ⟨b, off, e, Nat.lt_of_lt_of_le hlt hb.size, fun i s hi => rng_in (hc i s hi) hb hlt⟩
  . obtain ⟨k1, k2, k3, k4, k5, k6, k7⟩ := h.ok i s hi
    exact ⟨k1, k2, k3, k4, k5, k6.on hb, k7⟩
set_option maxHeartbeats 12800000 in
theorem bounds_any (q wk wt ca ch : Int) (oa : Option Addr) (cap : Nat) (L : List Stp) (w : World) (rq : -9223372036854775808 <= q /\ q <= 9223372036854775807) (rwk : -9223372036854775808 <= wk /\ wk <= 9223372036854775807) (rwt : -9223372036854775808 <= wt /\ wt <= 9223372036854775807) (rca : -9223372036854775808 <= ca /\ ca <= 9223372036854775807) (rch : -9223372036854775808 <= ch /\ ch <= 9223372036854775807) (hg : Glb w) (hs : ScAt w oa cap L) :
    Calls Tryz.prog 5 #[.agg #[.int .i64 q, .int .i64 wk, .int .i64 wt, .int .i64 ca, .int .i64 ch], .slice oa L.length cap] w fun e w' => e = .returned (.bool true) /\ Below w.heap.size w w' := by
  obtain ⟨w1, hw1⟩ : ∃ w1, w.alloc (.cells #[.int .i64 q, .int .i64 wk, .int .i64 wt, .int .i64 ca, .int .i64 ch] 23) = w1 := ⟨_, rfl⟩
  have hA : w1.heap[w.heap.size]? = some (.cells #[.int .i64 q, .int .i64 wk, .int .i64 wt, .int .i64 ca, .int .i64 ch] 23 (0, 0)) := hw1 ▸ heap_alloc_new w (.cells #[.int .i64 q, .int .i64 wk, .int .i64 wt, .int .i64 ca, .int .i64 ch] 23 (0, 0))
  have hb1 : Below w.heap.size w w1 := hw1 ▸ (Below.refl w.heap.size w).alloc (Nat.le_refl _) (.cells #[.int .i64 q, .int .i64 wk, .int .i64 wt, .int .i64 ca, .int .i64 ch] 23)
  have HBX := hide (show ∀ (W : World) (ev : Operand -> Value) (o : Oper) (p : Operand), o.op = .box 23 p -> ev p = .agg #[.int .i64 q, .int .i64 wk, .int .i64 wt, .int .i64 ca, .int .i64 ch] -> W = w -> (execOp ev o).run Tryz.prog W = .ok (.value (.pointer (some ⟨w.heap.size, 0, none⟩))) w1 from fun W ev o p q1 q2 e => by
    subst e
    rw [<- hw1]
    unfold execOp
    simp only [q1, q2]
    kernel_rfl)
  have hrg1 : w1.rangeAt w.heap.size 0 (#[.int .i64 q, .int .i64 wk, .int .i64 wt, .int .i64 ca, .int .i64 ch] : Array Value).toList := rng_blk hA
  have PL := play_any q wk wt ca ch oa cap L true (fun _ => lookC) w1 rq rwk rwt rca rch (hg.on hb1) (hs.on hb1)
  have hln := hs.len
  have HB1 := hide hb1
  clear hw1 hA hb1 hg hs rq rwk rwt rca rch
  go_enter Tryz.func5, Tryz.ntmps5
  go_wp2_with (first | refine wlV _ _ (unhide HBX _ _ _ _ rfl rfl rfl) rfl ?_ | refine ldG 23 #[.int .i64 q, .int .i64 wk, .int .i64 wt, .int .i64 ca, .int .i64 ch] Tryz.underlying23 rfl (sz23 _ _ _ _ _) w.heap.size 0 hrg1 rfl _ rfl rfl ?_)
  refine PL.mono ?_
  rintro e w2 ⟨w0, bb, fb, F, M, rfl, hb0, hst, hi, hbd⟩
  have HB0 := hide (BelB.pre (unhide HB1) hb0)
  clear PL hb0 hrg1 HBX HB1
  have hn : L.length <= 1400000000000 := hln
  have CA := calm_any L.length w0 bb fb F M w2 hst hi hbd (by omega)
  obtain ⟨hon, hrest⟩ := calm_rest (F, M) hi
  have hbd1 := hon.bd hbd
  have HP := hide (show On (O := Oz) (F, M) (calmP Oz (F, M)) /\ Rest (calmP Oz (F, M)).1 /\ Bd L.length (calmP Oz (F, M)).1 (calmP Oz (F, M)).2 from ⟨hon, hrest, hbd1⟩)
  clear hst hi hbd hon hrest hbd1 hln
  go_wp2_with fail
  refine CA.mono ?_
  rintro e w3 ⟨rfl, h3⟩
  obtain ⟨hon, hrest, hbd1⟩ := unhide HP
  have SV := served_any L.length w0 bb fb (calmP Oz (F, M)).1 (calmP Oz (F, M)).2 w3 h3 hon.inv hbd1 (by omega) hrest
  have hsv := served_math (p := calmP Oz (F, M)) hon.inv hrest
  have hbo : Bd (L.length + 1) (oneP (calmP Oz (F, M))).1 (oneP (calmP Oz (F, M))).2 := hbd1.arrB ⟨0, 0, 0, 0⟩ 0 ⟨#[]⟩
  have hbd2 := hsv.on.bd hbo
  have HSV := hide hsv
  have HBD2 := hide hbd2
  have HON := hide hon
  clear CA h3 hon hrest hbd1 hsv hbo hbd2 HP
  go_wp2_with fail
  refine SV.mono ?_
  rintro e w4 ⟨rfl, h4⟩
  change StE w0 w4 bb fb (servP (calmP Oz (F, M))).1 (servP (calmP Oz (F, M))).2 at h4
  obtain ⟨P, hP⟩ : ∃ P, servP (calmP Oz (F, M)) = P := ⟨_, rfl⟩
  rw [hP] at h4 HSV HBD2
  have BO := bounded_any (L.length + 1) w0 bb fb P.1 P.2 w4 h4 (unhide HSV).on.inv (unhide HBD2)
  have H4 := hide h4
  clear SV h4 hP HON
  go_wp2_with fail
  refine BO.mono ?_
  rintro e w5 ⟨rfl, hb5⟩
  have h5 := (unhide H4).on hb5
  have SI := single_any (L.length + 1) w0 bb fb P.1 P.2 w5 h5 (unhide HSV).on.inv (unhide HBD2) (by omega)
  have H5 := hide h5
  clear BO hb5 h5 H4
  go_wp2_with fail
  refine SI.mono ?_
  rintro e w6 ⟨rfl, hb6⟩
  have HBE := hide (((unhide H5).on hb6).below (unhide HB0))
  clear SI hb6 H5
  go_wp2_with fail
  go_ret
  exact ⟨rfl, unhide HBE⟩
end Go.Proofs.YtpopchckldbhdaaGreatDoor
namespace Go.Proofs.YtpopchckldbhdaaGreatDoor
set_option maxRecDepth 20000
open Go.ChangeShapes Go.WideShapes Go.ChangeAt Go.RowKit Go.Joins
open Go.ChangeMaps (open_string shut_string)
theorem bounds_contract (H : Type) (enc : TypeId × Value -> H) (W : World) (base : Nat) (args : Array Value) (ds gs : List (DataW H)) (before : List MemPlace)
    (hval : ∀ (j : Nat) t v, Tryz.f5.params[j]? = some t -> args[j]? = some v -> Value.okWide Tryz.prog W .any base t v)
    (hW : DataW.Whole enc Tryz.prog Tryz.f5.params.toList Rows.boundsSpec.vars false W args.toList ds gs before) (hsz : (DataW.weightsEach Tryz.prog (Tryz.f5.params.toList ++ (OpenSpec.ofChange Rows.boundsSpec).bare.plain.varTypes Tryz.prog) (ds ++ gs)).all (· <= reachBytes) = true) (hL : laidMetH Tryz.prog Rows.boundsRow.laid W) :
    Calls Tryz.prog 5 args W fun e W' => ∃ v, e = .returned v /\ Rows.boundsSpec.post enc Tryz.prog Tryz.f5 false true false false W args v W' := by
  have hW' := hW
  obtain ⟨p, q, hA0, hV, rfl, hfz, hnd⟩ := hW
  have hA : DataW.TrodAll enc Tryz.prog W 0 (fun _ => true) true Tryz.f5.params.toList args.toList ds p := hA0
  rw [Tryz.params5] at hA hval
  obtain ⟨v0, v1, d0, d1, p0, p1, rfl, rfl, rfl, h0, h1⟩ := trodAll_two hA
  obtain ⟨rfl, rfl⟩ := trodVars_none hV
  clear hA0
  obtain ⟨cq, wk, wt, ca, ch, rfl, r1, r2, r3, r4, r5⟩ := open_config (hval 0 23 v0 rfl rfl) h0
  have hb : ∀ elems spare, d1 = .slice elems spare -> (elems.length + spare.length) * 104 <= 140737488351232 := fun elems spare e => by
    subst e
    have := sized_slice hsz (j := 1) rfl rfl Tryz.underlying24
    rw [bytes63] at this
    unfold reachBytes at this
    omega
  obtain ⟨oa, cap, L, rfl, hs⟩ := open_scriptS (hval 1 24 v1 rfl rfl) h1 hb
  refine (bounds_any cq wk wt ca ch oa cap L W r1 r2 r3 r4 r5 (glb_of (show laidMetH Tryz.prog Rows.freshUptoRow.laid W from hL)) hs).mono fun e W' ⟨he, bel⟩ => ?_
  subst he
  exact ⟨_, rfl, law_post hW' rfl rfl (by kernel_rfl) (fun gs' e => by subst e; rfl) bel⟩
theorem bounds_met (os : Os) : laidMet Tryz.prog Rows.boundsRow.laid ((World.doorLaid Tryz.prog 29 os).forCall (fun _ _ => 0) ⟨#[], #[.agg #[.int .i64 0, .int .i64 0, .int .i64 0, .int .i64 0, .int .i64 0], .slice none 0 0], []⟩).memory :=
  laidMet_of_run' 8 (by kernel_rfl) (by kernel_rfl)
theorem bounds_reads (os : Os) {H : Type} (enc : TypeId × Value -> H) : ∃ places, DataW.whole enc Tryz.prog ((World.doorLaid Tryz.prog 29 os).forCall (fun _ _ => 0) ⟨#[], #[.agg #[.int .i64 0, .int .i64 0, .int .i64 0, .int .i64 0, .int .i64 0], .slice none 0 0], []⟩).memory Tryz.f5.params.toList Rows.boundsSpec.vars false
    #[.agg #[.int .i64 0, .int .i64 0, .int .i64 0, .int .i64 0, .int .i64 0], .slice none 0 0].toList 8 = some ([.agg [.lit (.int .i64 0), .lit (.int .i64 0), .lit (.int .i64 0), .lit (.int .i64 0), .lit (.int .i64 0)], .nil], [], places) :=
  ⟨[], by kernel_rfl⟩
set_option maxRecDepth 100000 in
theorem bounds_lifted (os : Os) (started : os.Started) (H : Type) (enc : TypeId × Value -> H) (F : Stop.Interp) :
    ReturnsInHanded {} Tryz.checked os 5 .any ((OpenSpec.ofChange Rows.boundsSpec).preRow enc Tryz.prog Tryz.f5 Rows.boundsRow.domain false Rows.boundsRow.laid) (((OpenSpec.ofChange Rows.boundsSpec).at F).post enc Tryz.prog Tryz.f5 false true false false) := by
  obtain ⟨places, hx⟩ := bounds_reads os enc
  refine returnsInHanded_of_row (C := Tryz.checked) (s := OpenSpec.ofChange Rows.boundsSpec) Tryz.own started (by kernel_rfl) Tryz.func5
    (witness_row_at (enc := enc) (C := Tryz.checked) false (World.doorLaid Tryz.prog 29 os) #[.agg #[.int .i64 0, .int .i64 0, .int .i64 0, .int .i64 0, .int .i64 0], .slice none 0 0] rfl (by kernel_rfl) (by kernel_rfl) (by kernel_rfl)
      (OpenSpec.preRow_of_cond 8 hx (by kernel_rfl) (fun k hk => by cases hk) (by kernel_rfl) (bounds_met os))) ?_
  intro W base args ds gs before hval hW _ _ hsz hL _ _
  exact bounds_contract H enc W base args ds gs before hval hW hsz hL
theorem bounds_said : Rows.BoundsSaid :=
  OpenClaim.holds_of_cond 5 Tryz.f5 rfl rfl rfl rfl rfl rfl rfl ⟨rfl, rfl, rfl, rfl, rfl⟩ rfl rfl rfl rfl rfl (by kernel_rfl) Tryz.func5 (by kernel_rfl)
    (of_decide_eq_true (by kernel_rfl)) (by unfold Func.isWrapper; first | (rw [if_pos (by decide +kernel)]; kernel_rfl) | (rw [if_neg (by decide +kernel)]; exact ⟨rfl, rfl⟩))
    (fun os started H enc _ F => by rw [OpenClaim.pre_eq_preRow]; exact bounds_lifted os started H enc F)
theorem bounds_plain (f : FuncId) (fn : Func) (hf : Tryz.pinned.checked.prog.funcNamed "atlas/atlaskeep.Bounds" = some f) (hfn : Tryz.pinned.checked.prog.funcs[f]? = some fn) :
    false = Tryz.pinned.checked.prog.looks [] /\ ∀ (j : Nat) t, fn.params[j]? = some t -> Tryz.pinned.checked.prog.wantsStandIn t = false := by
  obtain rfl : f = 5 := Option.some.inj ((show Tryz.prog.funcNamed "atlas/atlaskeep.Bounds" = some 5 by kernel_rfl).symm.trans hf) |>.symm
  obtain rfl : fn = Tryz.f5 := (Option.some.inj (Tryz.func5.symm.trans hfn)).symm
  refine ⟨by kernel_rfl, fun j t ht => ?_⟩
  rw [Tryz.params5] at ht
  have hm : t ∈ [23, 24] := by simpa using Array.mem_of_getElem? ht
  have hall : ([23, 24].all fun u => !Tryz.prog.wantsStandIn u) = true := by kernel_rfl
  exact (show Tryz.prog.wantsStandIn t = false by simpa using List.all_eq_true.1 hall t hm)
theorem bounds_card : Rows.BoundsCardSaid :=
  Claim7.holds_tied_plain_at .later [] _ _ _ _ bounds_said (fun _ h => by cases h) (by kernel_rfl) (fun _ h => by cases h) bounds_row_tie rfl ⟨rfl, rfl⟩ (by kernel_rfl) rfl bounds_plain (by kernel_rfl)
end Go.Proofs.YtpopchckldbhdaaGreatDoor
