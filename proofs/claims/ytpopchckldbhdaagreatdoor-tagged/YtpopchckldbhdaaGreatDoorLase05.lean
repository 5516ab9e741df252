/-
  The texts FeD, FeH, FrK, FrL, FrN, FrO, FfA, FrP, FfP, FfB, FrQ.
-/
import Derived.Test.YtpopchckldbhdaaGreatDoorLase04
namespace Go.Proofs.YtpopchckldbhdaaGreatDoor
open Go.RowKit
set_option maxRecDepth 20000
def prs (p : ByteArray) : K4 × Int := (⟨(Dw.parseL p.data.toList).1.1,(Dw.parseL p.data.toList).1.2.1,(Dw.parseL p.data.toList).1.2.2.1,(Dw.parseL p.data.toList).1.2.2.2⟩,(Dw.parseL p.data.toList).2)
theorem perr_ok {k : K4} (h : Dw.Pp.keyErr k.l k.z k.x k.y = 0) : KOk k := by
  unfold Dw.Pp.keyErr at h
  split at h
  . cases h
  . split at h
    . cases h
    . split at h
      . cases h
      . exact ⟨by omega,by omega,by omega,by omega⟩
theorem prs_or (p : ByteArray) : ((prs p).2 = 0 /\ KOk (prs p).1) \/ ((prs p).2 ≠ 0 /\ (prs p).1 = ⟨0,0,0,0⟩) := by
  unfold prs Dw.parseL
  split
  . exact Or.inr ⟨by decide,rfl⟩
  . split
    . rename_i h
      exact Or.inl ⟨rfl,perr_ok h⟩
    . rename_i h
      exact Or.inr ⟨h,rfl⟩
def arr (F : FM) (p tag : ByteArray) : FM × List Rep := if (prs p).2 = 0 then F.arriveK Oz (prs p).1 tag else F.arriveE (prs p).2
theorem refusal_any (e : Int) (w : World) : Calls Tryz.prog 61 #[.int .i64 e] w fun r w' => r = .returned (.int .i64 (if e = 1 then 400 else 404)) /\ w = w' := by
  by_cases h : e = 1
  . subst h
    go_enter Tryz.func61,Tryz.ntmps61
    go_wp2_with fail
    go_ret
    exact ⟨rfl,rfl⟩
  . rw [if_neg h]
    have h' : (e == 1) = false := by simpa using h
    go_enter Tryz.func61,Tryz.ntmps61
    go_wp2_with fail
    go_ret
    exact ⟨rfl,rfl⟩
theorem bt35 (n s : Int) (ev : Operand -> Value) (o : Oper) (p q : Operand) (ho : o.op = .build 35 #[(0,p),(1,q)]) (h1 : ev p = .int .i64 n) (h2 : ev q = .int .i64 s) (w : World) : (execOp ev o).run Tryz.prog w = .ok (.value (.agg #[.int .i64 n,.int .i64 s,.string ⟨#[]⟩,.string ⟨#[]⟩])) w := by
  have hb := run_build (P := Tryz.prog) w 35 #[(0,.int .i64 n),(1,.int .i64 s)] #[.int .i64 n,.int .i64 s,.string ⟨#[]⟩,.string ⟨#[]⟩] (by kernel_rfl)
  unfold execOp
  simp [ho,h1,h2,hb]
theorem key_one (l z x y : Int) : (#[.int .i64 l,.int .i64 z,.int .i64 x,.int .i64 y] : Array Value).all (·.oneCell') = true := by simp [Value.oneCell']
theorem al39 (ev : Operand -> Value) (o : Oper) (ho : o.op = .alloc 39) (w w1 : World) (h1 : w.alloc (.cells #[.int .i64 0,.int .i64 0,.int .i64 0,.int .i64 0] 39) = w1) : (execOp ev o).run Tryz.prog w = .ok (.value (.pointer (some ⟨w.heap.size,0,none⟩))) w1 := by
  rw [<- h1]
  unfold execOp
  simp only [ho]
  kernel_rfl
theorem al35 (ev : Operand -> Value) (o : Oper) (ho : o.op = .alloc 35) (w w1 : World) (h1 : w.alloc (.cells #[.int .i64 0,.int .i64 0,.string ⟨#[]⟩,.string ⟨#[]⟩] 35) = w1) : (execOp ev o).run Tryz.prog w = .ok (.value (.pointer (some ⟨w.heap.size,0,none⟩))) w1 := by
  rw [<- h1]
  unfold execOp
  simp only [ho]
  kernel_rfl
theorem hasW_eq {W : List (Option Wk)} {wks : List (Option Fl)} (h : wks = W.map (Option.map Wk.f)) (b : K4) : hasW W b = wks.any fun o => match o with
  | some fl => decide (fl.b = b)
  | none => false := by
  rw [h,List.any_map]
  unfold hasW
  congr 1
  funext o
  cases o <;> rfl
theorem Fro.wksAt {w : World} {fb : Nat} {X : FV} {sl pv : Value} {W : List (Option Wk)} {F : FM} (h : Fro w fb X sl pv W F) : WksAt w X.kv W := ⟨h.mem.wkv.at,fun i u hu => (h.mem.wat i u hu).1⟩
theorem Fro.arr {w w' : World} {fb : Nat} {X : FV} {sl pv : Value} {W : List (Option Wk)} {F : FM} (h : Fro w fb X sl pv W F) (hF : Frm (fun k => k = fb) w w') (hf : FBlk w' fb { X with ar := X.ar + 1 }) : Fro w' fb { X with ar := X.ar + 1 } sl pv W { F with arrived := F.arrived + 1 } := by
  have hM := h.mem.frm hF fb (fun k _ hne q => hne q) h.blk
  exact ⟨hf,⟨h.num.q,h.num.wt,h.num.ch,h.num.nw,by have := h.num.ar; show X.ar + 1 = ((F.arrived + 1 : Nat) : Int); omega,h.num.st,h.num.rm⟩,⟨h.pu.wks,h.pu.rd,h.pu.dis⟩,h.ver,⟨hM.sto,hM.wai,hM.lin,hM.til,hM.wkv,hM.wat⟩,h.glb.frm hF (fun k q => q ▸ h.lo fb Foot.iF),fun k hk => h.lo k (hk.elim Foot.iF Foot.iS (fun _ q => Foot.iL q) (fun _ q => Foot.iP q) (fun _ q => Foot.iW q) (fun _ q => Foot.iN q) (fun _ q => Foot.iK q) (fun _ q => Foot.iT q) (fun _ _ hu => ⟨Foot.iG hu,fun _ q => Foot.iR hu q⟩))⟩
theorem Fro.tiles' {w w' : World} {fb : Nat} {X : FV} {sl pv tv : Value} {W : List (Option Wk)} {F : FM} {ts : List Tile} (h : Fro w fb X sl pv W F) (hF : Frm (fun k => k = fb) w w') (hf : FBlk w' fb { X with tv := tv }) (ht : OwnR rTile 136 w' tv ts) (hn : ∀ k,tv.ownBlock = some k -> w.heap.size <= k) :
    Fro w' fb { X with tv := tv } sl pv W { F with tiles := ts } /\ ∀ k,Foot fb { X with tv := tv } sl pv W k -> Foot fb X sl pv W k \/ w.heap.size <= k := by
  have hM := h.mem.frm hF fb (fun k _ hne q => hne q) h.blk
  have h4 := h.glb.1
  have hsub : ∀ k,Foot fb { X with tv := tv } sl pv W k -> Foot fb X sl pv W k \/ w.heap.size <= k := fun k hk => hk.elim (Or.inl Foot.iF) (Or.inl Foot.iS) (fun _ q => Or.inl (Foot.iL q)) (fun _ q => Or.inl (Foot.iP q)) (fun _ q => Or.inl (Foot.iW q)) (fun _ q => Or.inl (Foot.iN q)) (fun _ q => Or.inl (Foot.iK q)) (fun k q => Or.inr (hn k q)) (fun _ _ hu => ⟨Or.inl (Foot.iG hu),fun _ q => Or.inl (Foot.iR hu q)⟩)
  exact ⟨⟨hf,⟨h.num.q,h.num.wt,h.num.ch,h.num.nw,h.num.ar,h.num.st,h.num.rm⟩,⟨h.pu.wks,h.pu.rd,h.pu.dis⟩,h.ver,⟨hM.sto,hM.wai,hM.lin,ht,hM.wkv,hM.wat⟩,h.glb.frm hF (fun k q => q ▸ h.lo fb Foot.iF),fun k hk => (hsub k hk).elim (h.lo k) (fun q => by omega)⟩,hsub⟩
set_option maxHeartbeats 12800000 in
theorem Arrive_any (fb : Nat) (Ψ : Nat -> Prop) (F : FM) (p tag : ByteArray) (w : World) (h : FroE w fb Ψ F) (ho : Ok Oz F) (hp : p.size <= maxLen) (hna : F.arrived <= 2000000000000) (hnn : F.now <= 2000000000000) :
    Calls Tryz.prog 36 #[.pointer (some ⟨fb,0,none⟩),.string p,.string tag] w fun e w' => ∃ rv,e = .returned (.tuple #[.int .i64 F.arrived,rv]) /\ FPost w fb Ψ (arr F p tag).1 (arr F p tag).2 rv w' := by
  obtain ⟨X,sl,pv,W,h,hΨ⟩ := h
  have hf := h.blk
  have har : X.ar = F.arrived := h.num.ar
  have c4 : w.cell? ⟨fb,4,none⟩ = some (.int .i64 F.arrived) := har ▸ (FBlk.cells hf).2.2.2.2.1
  have fz := frzF hf 4
  obtain ⟨w1,hw1⟩ : ∃ w1,w.setCell ⟨fb,4,none⟩ (.int .i64 (F.arrived + 1)) = w1 := ⟨_,rfl⟩
  have hF1 : Frm (fun k => k = fb) w w1 := hw1 ▸ (Frm.rfl' _ _).setCell (p := ⟨fb,4,none⟩) _ (fun _ => rfl)
  have hf1 : FBlk w1 fb { X with ar := X.ar + 1 } := by rw [<- hw1,har]; exact FBlk.set hf 4 _ (FV.set_ar X _)
  have h1 := h.arr hF1 hf1
  have hsub1 : ∀ k,Foot fb { X with ar := X.ar + 1 } sl pv W k -> Foot fb X sl pv W k := fun k hk => hk.elim Foot.iF Foot.iS (fun _ q => Foot.iL q) (fun _ q => Foot.iP q) (fun _ q => Foot.iW q) (fun _ q => Foot.iN q) (fun _ q => Foot.iK q) (fun _ q => Foot.iT q) (fun _ _ hu => ⟨Foot.iG hu,fun _ q => Foot.iR hu q⟩)
  have PA := Dw.parse_any p w1 hp h1.glb.nm
  have HW1 := hide hw1
  have HH1 := hide h1
  have HF1 := hide hF1
  have HS1 := hide hsub1
  have hfbΨ : Ψ fb := hΨ fb Foot.iF
  have hov : IntKind.i64.wrap ((F.arrived : Int) + 1) = (F.arrived : Int) + 1 := i64_of _ (by omega)
  have hab : (0 : Int) <= (F.arrived : Int) /\ (F.arrived : Int) <= 2000000000000 := by omega
  have HLO := hide h.lo
  have hG4 : 4 <= w.heap.size := h.glb.1
  generalize hX1 : ({ X with ar := X.ar + 1 } : FV) = X1 at HH1 HS1
  clear hf h hF1 hf1 hw1 har hsub1 h1 hX1
  go_enter Tryz.func36,Tryz.ntmps36
  go_wp2_with (refine wlSk w1 (stI _ _ _ _ rfl fb 4 (F.arrived + 1) rfl (by simp [go_sem]) w w1 c4 fz (unhide HW1)) rfl ?_)
  refine PA.mono ?_
  rintro e w2 ⟨⟨l,z,x,y,er,hpr,rfl⟩,hb2⟩
  have hprs : prs p = (⟨l,z,x,y⟩,er) := by unfold prs; rw [hpr]
  have HPR := hide hprs
  obtain ⟨w3,hw3⟩ : ∃ w3,w2.alloc (.cells #[.int .i64 0,.int .i64 0,.int .i64 0,.int .i64 0] 39) = w3 := ⟨_,rfl⟩
  have hb3 : Below w2.heap.size w2 w3 := hw3 ▸ (Below.refl w2.heap.size w2).alloc (Nat.le_refl _) (.cells #[.int .i64 0,.int .i64 0,.int .i64 0,.int .i64 0] 39)
  have hA3 : w3.heap[w2.heap.size]? = some (.cells #[.int .i64 0,.int .i64 0,.int .i64 0,.int .i64 0] 39 (0,0)) := hw3 ▸ heap_alloc_new w2 (.cells #[.int .i64 0,.int .i64 0,.int .i64 0,.int .i64 0] 39 (0,0))
  have HW3 := hide hw3
  clear hw3
  obtain ⟨g1,hg1⟩ : ∃ g1,w2.heap.size = g1 := ⟨_,rfl⟩
  have HAL := hide (show ∀ (ev : Operand -> Value) (o : Oper),o.op = .alloc 39 -> (execOp ev o).run Tryz.prog w2 = .ok (.value (.pointer (some ⟨g1,0,none⟩))) w3 from fun ev o q => hg1 ▸ al39 ev o q w2 w3 (unhide HW3))
  rw [hg1] at hA3
  have hb23 : Below w1.heap.size w1 w3 := hb2.trans (hb3.mono hb2.size)
  have hg1' : w1.heap.size <= g1 := by have := hb2.size; omega
  obtain ⟨w4,hw4⟩ : ∃ w4,w3.setRow g1 #[.int .i64 l,.int .i64 z,.int .i64 x,.int .i64 y] = w4 := ⟨_,rfl⟩
  have hA4 : w4.heap[g1]? = some (.cells #[.int .i64 l,.int .i64 z,.int .i64 x,.int .i64 y] 39 (0,0)) := hw4 ▸ setRow_heap _ _ _ #[.int .i64 l,.int .i64 z,.int .i64 x,.int .i64 y] _ _ hA3
  have hb14 : Below w1.heap.size w1 w4 := hw4 ▸ below_setRow hb23 hg1' #[.int .i64 l,.int .i64 z,.int .i64 x,.int .i64 y]
  have HST := hide (show ∀ (ev : Operand -> Value) (o : Oper) (s t : Operand),o.op = .store 39 s t -> ev s = .pointer (some ⟨g1,0,none⟩) -> ev t = .agg #[.int .i64 l,.int .i64 z,.int .i64 x,.int .i64 y] -> (execOp ev o).run Tryz.prog w3 = .ok .skip w4 from fun ev o s t q q1 q2 => hw4 ▸ stR ev o s t 39 q #[.int .i64 l,.int .i64 z,.int .i64 x,.int .i64 y] #[.int .i64 0,.int .i64 0,.int .i64 0,.int .i64 0] (sz39 _ _ _ _) (key_one _ _ _ _) rfl g1 q1 q2 w3 hA3)
  have h4 := (unhide HH1).frm (S := fun _ => False) (Frm.of_below hb14) (fun _ _ q => q) (fun _ q => q.elim)
  have hF4 : Frm (fun k => k = fb) w w4 := (unhide HF1).then (Frm.of_below (S := fun _ => False) hb14) (fun _ _ q => q.elim)
  have HH4 := hide h4
  have HF4 := hide hF4
  have HA4 := hide hA4
  clear hb2 hb3 hA3 hb23 hb14 h4 hF4 hA4 hg1 HW3 HH1 HF1 PA hw4 HW1 c4 fz
  by_cases her : er = 0
  . subst her
    have hkk : KOk ⟨l,z,x,y⟩ := by
      rcases prs_or p with q | q
      . rw [hprs] at q; exact q.2
      . rw [hprs] at q; exact absurd rfl q.1
    have h4 := unhide HH4
    have h100 := ho.v100
    have hls := h4.ver.len
    have hlt : F.tiles.length <= 2000 := by
      have h7 : ∀ t ∈ F.tiles,7 <= t.body.size := fun t ht => by
        obtain ⟨a,b⟩ := ho.til t ht
        rw [b]; exact (ho.hi.bod F.ver (Nat.le_refl _) t.k a).1
      have := bytes_len F.tiles h7
      have := ho.byt; have := ho.rm
      omega
    have AO := atOnce_any fb X1 F.ver sl pv F.LS (ri F.PI) F.waiting F.tiles l z x y tag w4 h4.blk h4.mem.sto (by have : F.LS.length <= 8 * F.ver := hls; omega) hkk (by omega) h4.glb h4.mem.wai h4.mem.til (by omega)
    have hrk : w4.rangeAt g1 0 #[.int .i64 l,.int .i64 z,.int .i64 x,.int .i64 y].toList := rng_blk (unhide HA4)
    have hG : (arr F p tag) = F.arriveK Oz ⟨l,z,x,y⟩ tag := by unfold arr; rw [hprs]; exact if_pos rfl
    have HGA := hide hG
    clear h4 hls hG hprs
    go_wp2_with (first | refine wlV _ _ (unhide HAL _ _ rfl) rfl ?_ | refine wlSk _ (unhide HST _ _ _ _ rfl rfl rfl) rfl ?_ | refine ldG 39 #[.int .i64 l,.int .i64 z,.int .i64 x,.int .i64 y] Tryz.underlying39 rfl (sz39 _ _ _ _) g1 0 hrk rfl _ rfl rfl ?_)
    refine AO.mono ?_
    intro e w5 hOn
    have key : (∃ r : Rep,e = .returned (.tuple #[.agg r.a,.bool true]) /\ (arr F p tag).2 = [⟨F.arrived,r.st,r.body,r.tag⟩] /\ FroE w5 fb (NewS Ψ w.heap.size) (arr F p tag).1 /\ Frm Ψ w w5) \/
        (e = .returned (.tuple #[.agg #[.int .i64 0,.int .i64 0,.string ⟨#[]⟩,.string ⟨#[]⟩],.bool false]) /\ (arr F p tag) = (FM.join { F with arrived := F.arrived + 1 } F.arrived ⟨l,z,x,y⟩,[]) /\ Below w4.heap.size w4 w5) := by
      obtain ⟨r,b,rfl,hcase⟩ := hOn
      have h4 := unhide HH4
      have hF4 := unhide HF4
      rw [unhide HGA]
      have hst : F.stamp Oz F.ver ⟨l,z,x,y⟩ = stK F.ver ⟨l,z,x,y⟩ F.LS := rfl
      rcases hcase with ⟨ht,rfl,rfl,hb⟩ | ⟨ht,t,hfi,rfl,rfl,⟨tv',q1,q2,q3⟩,hFr⟩ | ⟨ht,hfi,hq,rfl,rfl,hb⟩ | ⟨ht,hfi,hq,rfl,rfl,hb⟩
      . refine Or.inl ⟨_,rfl,?_,?_,(hF4.then (Frm.of_below (S := fun _ => False) hb) (fun _ _ q => q.elim)).mono fun k _ q => q ▸ hfbΨ⟩
        . unfold FM.arriveK; rw [if_pos (show tag = Oz.tag ⟨l,z,x,y⟩ (F.stamp Oz F.ver ⟨l,z,x,y⟩) from ht)]; exact congrArg (fun t => [(⟨F.arrived,304,⟨#[]⟩,t⟩ : Rep)]) ht.symm
        . unfold FM.arriveK; rw [if_pos (show tag = Oz.tag ⟨l,z,x,y⟩ (F.stamp Oz F.ver ⟨l,z,x,y⟩) from ht)]
          exact ⟨X1,sl,pv,W,h4.frm (S := fun _ => False) (Frm.of_below hb) (fun _ _ q => q) (fun _ q => q.elim),fun k hk => Or.inl (hΨ k (unhide HS1 k hk))⟩
      . have e1 : F.arriveK Oz ⟨l,z,x,y⟩ tag = ({ F with arrived := F.arrived + 1,tiles := outT F.tiles t.k ++ [t] },[⟨F.arrived,200,t.body,t.tag⟩]) := by
          unfold FM.arriveK; rw [if_neg (show ¬ tag = Oz.tag ⟨l,z,x,y⟩ (F.stamp Oz F.ver ⟨l,z,x,y⟩) from ht)]; simp only [hfi]
        rw [e1]
        obtain ⟨a1,a2⟩ := h4.tiles' hFr q1 q2 q3
        refine Or.inl ⟨_,rfl,rfl,⟨_,sl,pv,W,a1,fun k hk => (a2 k hk).imp (fun q => hΨ k (unhide HS1 k q)) (fun q => by have := hF4.size; omega)⟩,(hF4.then hFr (fun _ _ q => q)).mono fun k _ q => q ▸ hfbΨ⟩
      . have e1 : F.arriveK Oz ⟨l,z,x,y⟩ tag = ({ F with arrived := F.arrived + 1 },[⟨F.arrived,503,⟨#[]⟩,⟨#[]⟩⟩]) := by
          unfold FM.arriveK; rw [if_neg (show ¬ tag = Oz.tag ⟨l,z,x,y⟩ (F.stamp Oz F.ver ⟨l,z,x,y⟩) from ht)]; simp only [hfi]
          rw [if_pos (by have : X1.q = F.queue := h4.num.q; omega)]
        rw [e1]
        exact Or.inl ⟨_,rfl,rfl,⟨X1,sl,pv,W,h4.frm (S := fun _ => False) (Frm.of_below hb) (fun _ _ q => q) (fun _ q => q.elim),fun k hk => Or.inl (hΨ k (unhide HS1 k hk))⟩,(hF4.then (Frm.of_below (S := fun _ => False) hb) (fun _ _ q => q.elim)).mono fun k _ q => q ▸ hfbΨ⟩
      . have e1 : F.arriveK Oz ⟨l,z,x,y⟩ tag = (FM.join { F with arrived := F.arrived + 1 } F.arrived ⟨l,z,x,y⟩,[]) := by
          unfold FM.arriveK; rw [if_neg (show ¬ tag = Oz.tag ⟨l,z,x,y⟩ (F.stamp Oz F.ver ⟨l,z,x,y⟩) from ht)]; simp only [hfi]
          rw [if_neg (by have : X1.q = F.queue := h4.num.q; omega)]
        exact Or.inr ⟨rfl,e1,hb⟩
    clear hOn AO hrk HAL HST HGA
    rcases key with ⟨r,rfl,hr2,hfr,hFr⟩ | ⟨rfl,hG,hb⟩
    . have hsz5 := hFr.size
      have HR2 := hide hr2
      have HFR := hide hfr
      have HFRM := hide hFr
      clear hr2 hfr hFr HH4 HF4 HA4
      obtain ⟨rw',rs,rb,rt⟩ := r
      obtain ⟨w6,hw6⟩ : ∃ w6,w5.alloc (.cells #[.int .i64 0,.int .i64 0,.string ⟨#[]⟩,.string ⟨#[]⟩] 35) = w6 := ⟨_,rfl⟩
      have hb6 : Below w5.heap.size w5 w6 := hw6 ▸ (Below.refl w5.heap.size w5).alloc (Nat.le_refl _) (.cells #[.int .i64 0,.int .i64 0,.string ⟨#[]⟩,.string ⟨#[]⟩] 35)
      have hA6 : w6.heap[w5.heap.size]? = some (.cells #[.int .i64 0,.int .i64 0,.string ⟨#[]⟩,.string ⟨#[]⟩] 35 (0,0)) := hw6 ▸ heap_alloc_new w5 (.cells #[.int .i64 0,.int .i64 0,.string ⟨#[]⟩,.string ⟨#[]⟩] 35 (0,0))
      have HW6 := hide hw6
      clear hw6
      obtain ⟨g2,hg2⟩ : ∃ g2,w5.heap.size = g2 := ⟨_,rfl⟩
      have HAL := hide (show ∀ (ev : Operand -> Value) (o : Oper),o.op = .alloc 35 -> (execOp ev o).run Tryz.prog w5 = .ok (.value (.pointer (some ⟨g2,0,none⟩))) w6 from fun ev o q => hg2 ▸ al35 ev o q w5 w6 (unhide HW6))
      rw [hg2] at hA6
      obtain ⟨w7,hw7⟩ : ∃ w7,w6.setRow g2 #[.int .i64 rw',.int .i64 rs,.string rb,.string rt] = w7 := ⟨_,rfl⟩
      have hA7 : w7.heap[g2]? = some (.cells #[.int .i64 rw',.int .i64 rs,.string rb,.string rt] 35 (0,0)) := hw7 ▸ setRow_heap _ _ _ _ _ _ hA6
      have hb7 : Below w5.heap.size w5 w7 := hw7 ▸ below_setRow hb6 (by omega) _
      have HST := hide (show ∀ (ev : Operand -> Value) (o : Oper) (s t : Operand),o.op = .store 35 s t -> ev s = .pointer (some ⟨g2,0,none⟩) -> ev t = .agg #[.int .i64 rw',.int .i64 rs,.string rb,.string rt] -> (execOp ev o).run Tryz.prog w6 = .ok .skip w7 from fun ev o s t q q1 q2 => hw7 ▸ stR ev o s t 35 q #[.int .i64 rw',.int .i64 rs,.string rb,.string rt] #[.int .i64 0,.int .i64 0,.string ⟨#[]⟩,.string ⟨#[]⟩] (sz35 _ _ _ _) (rep_one _ _ _ _) rfl g2 q1 q2 w6 hA6)
      obtain ⟨w8,hw8⟩ : ∃ w8,w7.setCell ⟨g2,0,none⟩ (.int .i64 F.arrived) = w8 := ⟨_,rfl⟩
      have hA8 : w8.heap[g2]? = some (.cells #[.int .i64 F.arrived,.int .i64 rs,.string rb,.string rt] 35 (0,0)) := hw8 ▸ by simp [World.setCell,Array.getElem?_modify,hA7]
      have hb8 : Below w5.heap.size w5 w8 := hw8 ▸ hb7.setCell (p := ⟨g2,0,none⟩) (show w5.heap.size <= g2 by omega) _
      have c0 : w7.cell? ⟨g2,0,none⟩ = some (.int .i64 rw') := (blk_cells hA7 0).trans rfl
      have fz7 : w7.frozen? ⟨g2,0,none⟩ = false := by simp [World.frozen?,hA7]
      have HW8 := hide hw8
      have HA8 := hide hA8
      have HB8 := hide hb8
      clear hb6 hA6 hb7 hw7 hw8 hA8 hb8 HW6 hA7
      go_wp2_with (first | refine wlV _ _ (unhide HAL _ _ rfl) rfl ?_ | refine wlSk _ (unhide HST _ _ _ _ rfl rfl rfl) rfl ?_ | refine wlSk w8 (stI _ _ _ _ rfl g2 0 F.arrived rfl rfl w7 w8 c0 fz7 (unhide HW8)) rfl ?_)
      refine wp_region_held (S := fun w' => w'.heap[g2]? = some (.cells #[.int .i64 F.arrived,.int .i64 rs,.string rb,.string rt] 35 (0,0))) (by kernel_rfl) ?_
      change wpAnyH _ _ _ _ _ _ _ _ (World.drew _)
      have hS : (World.drew w8).heap[g2]? = some (.cells #[.int .i64 F.arrived,.int .i64 rs,.string rb,.string rt] 35 (0,0)) := unhide HA8
      have hbD : Below w8.heap.size w8 (World.drew w8) := Below.drew (Below.refl _ _)
      have hb9 : Below w5.heap.size w5 (World.drew w8) := (unhide HB8).trans (hbD.mono (unhide HB8).size)
      generalize World.drew w8 = w9 at hS hb9 ⊢
      have hbN := (Below.refl w9.heap.size w9).alloc (Nat.le_refl _) (.cells #[.int .i64 F.arrived,.int .i64 rs,.string rb,.string rt] 35)
      have hSN := blk_on hS hbN
      have hown : OwnR rRep 35 (w9.alloc (.cells #[.int .i64 F.arrived,.int .i64 rs,.string rb,.string rt] 35)) (.slice (some ⟨w9.heap.size,0,none⟩) 1 1) [⟨F.arrived,rs,rb,rt⟩] := ownR_lit (R := rRep) (T := 35) w9 [⟨F.arrived,rs,rb,rt⟩] #[.int .i64 F.arrived,.int .i64 rs,.string rb,.string rt] rfl (show 1 <= maxLen by decide)
      have hb10 := hb9.trans (hbN.mono hb9.size)
      have HQ : Hid (∃ rv,Ending.returned (.tuple #[.int .i64 F.arrived,.slice (some ⟨w9.heap.size,0,none⟩) 1 1]) = .returned (.tuple #[.int .i64 F.arrived,rv]) /\ FPost w fb Ψ (arr F p tag).1 (arr F p tag).2 rv (w9.alloc (.cells #[.int .i64 F.arrived,.int .i64 rs,.string rb,.string rt] 35))) := by
        refine ⟨_,rfl,?_⟩
        rw [unhide HR2]
        exact ⟨hown,fun g hg => by have := hb9.size; simp only [Value.ownBlock,Option.some.injEq] at hg; omega,(unhide HFR).on hb10,(unhide HFRM).then (Frm.of_below (S := fun _ => False) hb10) (fun _ _ q => q.elim)⟩
      refine t_tk 0 rfl (.int .i64 F.arrived) (by kernel_rfl) (fun _ _ _ h => h) rfl (fun w' hw' => by simp [go_sem]) hS ?_
      simp only [Act.put,qA,qB,qC]
      refine t_tk 1 rfl (.agg #[.int .i64 F.arrived,.int .i64 rs,.string rb,.string rt]) (by kernel_rfl) (fun _ _ _ h => h) rfl (fun w' hw' => ldcR _ _ _ 35 rfl _ rfl _ Tryz.underlying35 rfl (sz35 _ _ _ _) g2 0 rfl _ (rng_blk hw')) hS ?_
      simp only [Act.put,qA,qB,qC]
      refine t_tk 3 rfl (.int .i64 F.arrived) (by kernel_rfl) (fun _ _ _ h => h) rfl (fun w' hw' => by simp [go_sem]) hS ?_
      simp only [Act.put,qA,qB,qC]
      refine wpAnyH_all (rs := [2]) (by kernel_rfl) (by simp) ?_
      intro i hi
      simp only [List.mem_singleton] at hi
      subst hi
      refine t_op 2 rfl rfl (.slice (some ⟨w9.heap.size,0,none⟩) 1 1) (w9.alloc (.cells #[.int .i64 F.arrived,.int .i64 rs,.string rb,.string rt] 35)) (bsRep F.arrived rs rb rt _ _ _ rfl rfl _) (hSN) ?_
      simp only [Act.put,qA,qB,qC]
      refine t_tk 4 rfl (.slice (some ⟨w9.heap.size,0,none⟩) 1 1) (by kernel_rfl) (fun _ _ _ h => h) rfl (fun w' hw' => by simp [go_sem]) hSN ?_
      simp only [Act.put,qA,qB,qC]
      refine wpAnyH_done (by kernel_rfl) ?_ _
      clear hS hb9 hbN hSN hown hb10 HA8 HB8 HFR HFRM HR2
      go_wp2_with fail
      go_ret2
      exact unhide HQ
    . have h4 := unhide HH4
      have h5 := h4.frm (S := fun _ => False) (Frm.of_below hb) (fun _ _ q => q) (fun _ q => q.elim)
      have hF5 := (unhide HF4).then (Frm.of_below (S := fun _ => False) hb) (fun _ _ q => q.elim)
      have hA5 := blk_on (unhide HA4) hb
      have HH5 := hide h5
      have HF5 := hide hF5
      have HA5 := hide hA5
      have HG := hide hG
      clear h4 h5 hF5 hA5 hb HH4 HF4 HA4 hG
      obtain ⟨w6,hw6⟩ : ∃ w6,w5.alloc (.cells #[.int .i64 0,.int .i64 0,.string ⟨#[]⟩,.string ⟨#[]⟩] 35) = w6 := ⟨_,rfl⟩
      have hb6 : Below w5.heap.size w5 w6 := hw6 ▸ (Below.refl w5.heap.size w5).alloc (Nat.le_refl _) (.cells #[.int .i64 0,.int .i64 0,.string ⟨#[]⟩,.string ⟨#[]⟩] 35)
      have hA6 : w6.heap[w5.heap.size]? = some (.cells #[.int .i64 0,.int .i64 0,.string ⟨#[]⟩,.string ⟨#[]⟩] 35 (0,0)) := hw6 ▸ heap_alloc_new w5 (.cells #[.int .i64 0,.int .i64 0,.string ⟨#[]⟩,.string ⟨#[]⟩] 35 (0,0))
      have HW6 := hide hw6
      clear hw6
      obtain ⟨g2,hg2⟩ : ∃ g2,w5.heap.size = g2 := ⟨_,rfl⟩
      have HAL := hide (show ∀ (ev : Operand -> Value) (o : Oper),o.op = .alloc 35 -> (execOp ev o).run Tryz.prog w5 = .ok (.value (.pointer (some ⟨g2,0,none⟩))) w6 from fun ev o q => hg2 ▸ al35 ev o q w5 w6 (unhide HW6))
      rw [hg2] at hA6
      obtain ⟨w7,hw7⟩ : ∃ w7,w6.setRow g2 #[.int .i64 0,.int .i64 0,.string ⟨#[]⟩,.string ⟨#[]⟩] = w7 := ⟨_,rfl⟩
      have hb7 : Below w5.heap.size w5 w7 := hw7 ▸ below_setRow hb6 (by omega) _
      have HST := hide (show ∀ (ev : Operand -> Value) (o : Oper) (s t : Operand),o.op = .store 35 s t -> ev s = .pointer (some ⟨g2,0,none⟩) -> ev t = .agg #[.int .i64 0,.int .i64 0,.string ⟨#[]⟩,.string ⟨#[]⟩] -> (execOp ev o).run Tryz.prog w6 = .ok .skip w7 from fun ev o s t q q1 q2 => hw7 ▸ stR ev o s t 35 q _ #[.int .i64 0,.int .i64 0,.string ⟨#[]⟩,.string ⟨#[]⟩] (sz35 _ _ _ _) (rep_one _ _ _ _) rfl g2 q1 q2 w6 hA6)
      have h7 := (unhide HH5).frm (S := fun _ => False) (Frm.of_below hb7) (fun _ _ q => q) (fun _ q => q.elim)
      have hF7 := (unhide HF5).then (Frm.of_below (S := fun _ => False) hb7) (fun _ _ q => q.elim)
      have hA7 := blk_on (unhide HA5) hb7
      have hks := hkk.small
      have hnw : X1.nw = F.now := h7.num.nw
      have hwt : X1.wt = F.wait := h7.num.wt
      have hwl := ho.wt
      have hwq := ho.wq
      have hqq := ho.q
      have hlL := ho.linLe
      have hwn := ho.wn
      have hWl : W.length = F.wks.length := by rw [show F.wks = W.map (Option.map Wk.f) from h7.pu.wks,List.length_map]
      have JO := join_any fb X1 F.ver sl pv F.LS (ri F.PI) F.waiting F.line W F.arrived l z x y w7 h7.blk h7.mem.sto h7.mem.wai h7.mem.lin h7.mem.wkv h7.wksAt hks.1 hks.2 (by omega) (by omega) (by omega) (by omega)
      have hrk : w7.rangeAt g1 0 #[.int .i64 l,.int .i64 z,.int .i64 x,.int .i64 y].toList := rng_blk hA7
      have HH7 := hide h7
      have HF7 := hide hF7
      clear hb6 hA6 hb7 hw7 HW6 h7 hF7 hA7 HH5 HF5 HA5 hnw hwt hwl hwq hqq hlL hwn hWl hks
      go_wp2_with (first | refine wlV _ _ (unhide HAL _ _ rfl) rfl ?_ | refine wlSk _ (unhide HST _ _ _ _ rfl rfl rfl) rfl ?_ | refine ldG 39 #[.int .i64 l,.int .i64 z,.int .i64 x,.int .i64 y] Tryz.underlying39 rfl (sz39 _ _ _ _) g1 0 hrk rfl _ rfl rfl ?_)
      refine JO.mono ?_
      rintro e w8 ⟨rfl,⟨wv8,lv8,hf8,hw8,hl8,hwf,hlf⟩,hF8⟩
      have HQ : Hid (∃ rv,Ending.returned (.tuple #[.int .i64 F.arrived,.slice none 0 0]) = .returned (.tuple #[.int .i64 F.arrived,rv]) /\ FPost w fb Ψ (arr F p tag).1 (arr F p tag).2 rv w8) := by
        refine ⟨_,rfl,?_⟩
        rw [unhide HG]
        have h := unhide HH7
        have hF7 := unhide HF7
        have hsz7 := hF7.size
        have hfr : Frm (fun k => k = fb \/ X1.wv.ownBlock = some k \/ X1.lv.ownBlock = some k) w w8 := (hF7.mono (S' := fun k => k = fb \/ X1.wv.ownBlock = some k \/ X1.lv.ownBlock = some k) fun k _ q => Or.inl q).then hF8 (fun k _ q => q)
        have hne1 : ∀ {α : Type} {R : Row α} {T : TypeId} {v : Value} {q : List α},OwnR R T w7 v q -> T ≠ 99 -> T ≠ 138 -> T ≠ 39 -> OwnR R T w8 v q := fun ho h1 h2 h3 => ho.frm hF8 (fun g hg q => by
          rcases q with q | q | q
          . exact own_ne ho h.blk h1 g hg q
          . obtain ⟨c,hc⟩ := h.mem.wai.ty q
            exact own_ne ho hc h2 g hg rfl
          . obtain ⟨c,hc⟩ := h.mem.lin.ty q
            exact own_ne ho hc h3 g hg rfl)
        have hbne : ∀ {c : Array Value} {T : TypeId} {f : Nat × Nat} {g : Nat},w7.heap[g]? = some (.cells c T f) -> T ≠ 99 -> T ≠ 138 -> T ≠ 39 -> ¬ (g = fb \/ X1.wv.ownBlock = some g \/ X1.lv.ownBlock = some g) := fun hb h1 h2 h3 q => by
          rcases q with q | q | q
          . exact blk_ne hb h.blk h1 q
          . obtain ⟨c,hc⟩ := h.mem.wai.ty q
            exact blk_ne hb hc h2 rfl
          . obtain ⟨c,hc⟩ := h.mem.lin.ty q
            exact blk_ne hb hc h3 rfl
        have hs8 := h.mem.sto.frm hF8 (hbne h.mem.sto.blk (by decide) (by decide) (by decide)) (fun g hg => by obtain ⟨c,hc⟩ := h.mem.sto.own.ty hg; exact hbne hc (by decide) (by decide) (by decide)) (fun g hg => by obtain ⟨c,hc⟩ := h.mem.sto.pins.ty hg; exact hbne hc (by decide) (by decide) (by decide))
        have hsub : ∀ k,Foot fb { X1 with wv := wv8,lv := lv8 } sl pv W k -> Foot fb X1 sl pv W k \/ w.heap.size <= k := fun k hk => hk.elim (Or.inl Foot.iF) (Or.inl Foot.iS) (fun _ q => Or.inl (Foot.iL q)) (fun _ q => Or.inl (Foot.iP q)) (fun k q => (hwf k q).imp (fun q => Foot.iW q) (fun q => by omega)) (fun k q => (hlf k q).imp (fun q => Foot.iN q) (fun q => by omega)) (fun _ q => Or.inl (Foot.iK q)) (fun _ q => Or.inl (Foot.iT q)) (fun _ _ hu => ⟨Or.inl (Foot.iG hu),fun _ q => Or.inl (Foot.iR hu q)⟩)
        have hS4 : ∀ k,(k = fb \/ X1.wv.ownBlock = some k \/ X1.lv.ownBlock = some k) -> Foot fb X1 sl pv W k := fun k q => by
          rcases q with rfl | q | q
          . exact Foot.iF
          . exact Foot.iW q
          . exact Foot.iN q
        refine ⟨ownR_nil,fun g hg => by simp [Value.ownBlock] at hg,⟨{ X1 with wv := wv8,lv := lv8 },sl,pv,W,⟨hf8,⟨h.num.q,h.num.wt,h.num.ch,h.num.nw,h.num.ar,h.num.st,h.num.rm⟩,⟨h.pu.wks,h.pu.rd,h.pu.dis⟩,h.ver,⟨hs8,?_,?_,hne1 h.mem.til (by decide) (by decide) (by decide),hne1 h.mem.wkv (by decide) (by decide) (by decide),fun i u hu => ?_⟩,?_,fun k hk => (hsub k hk).elim (h.lo k) (fun q => by omega)⟩,fun k hk => (hsub k hk).imp (fun q => hΨ k (unhide HS1 k q)) id⟩,hfr.mono fun k _ q => hΨ k (unhide HS1 k (hS4 k q))⟩
        . have e : X1.nw + X1.wt = (F.now : Int) + F.wait := by rw [show X1.nw = F.now from h.num.nw,show X1.wt = F.wait from h.num.wt]
          rw [e] at hw8
          exact hw8
        . have e : joinL F.line W (⟨l,z,x - x % 2,y - y % 2⟩ : K4) = (FM.join { F with arrived := F.arrived + 1 } F.arrived ⟨l,z,x,y⟩).line := by
            unfold joinL FM.join FM.hasFl
            rw [hasW_eq h.pu.wks]
            rfl
          rw [<- e]
          exact hl8
        . obtain ⟨a,b⟩ := h.mem.wat i u hu
          exact ⟨blk_frm a hF8 (hbne a (by decide) (by decide) (by decide)),hne1 b (by decide) (by decide) (by decide)⟩
        . exact h.glb.frm hF8 fun k q => h.lo k (hS4 k q)
      clear hf8 hw8 hl8 hwf hlf hF8 HH7 HF7 HG JO hrk
      go_wp2_with fail
      go_ret2
      exact unhide HQ
  . have hen : (er == 0) = false := by simpa using her
    have RF := refusal_any er w4
    have hG : arr F p tag = F.arriveE er := by unfold arr; rw [hprs]; exact if_neg her
    have HG := hide hG
    clear hG hprs
    obtain ⟨st,hst⟩ : ∃ st : Int,(if er = 1 then 400 else 404) = st := ⟨_,rfl⟩
    rw [hst] at RF
    have HS := hide hst
    clear hst
    have hbN := (Below.refl w4.heap.size w4).alloc (Nat.le_refl _) (.cells #[.int .i64 F.arrived,.int .i64 st,.string ⟨#[]⟩,.string ⟨#[]⟩] 35)
    have hown : OwnR rRep 35 (w4.alloc (.cells #[.int .i64 F.arrived,.int .i64 st,.string ⟨#[]⟩,.string ⟨#[]⟩] 35)) (.slice (some ⟨w4.heap.size,0,none⟩) 1 1) [⟨F.arrived,st,⟨#[]⟩,⟨#[]⟩⟩] := ownR_lit (R := rRep) (T := 35) w4 [⟨F.arrived,st,⟨#[]⟩,⟨#[]⟩⟩] #[.int .i64 F.arrived,.int .i64 st,.string ⟨#[]⟩,.string ⟨#[]⟩] rfl (show 1 <= maxLen by decide)
    have HQ : Hid (∃ rv,Ending.returned (.tuple #[.int .i64 F.arrived,.slice (some ⟨w4.heap.size,0,none⟩) 1 1]) = .returned (.tuple #[.int .i64 F.arrived,rv]) /\ FPost w fb Ψ (arr F p tag).1 (arr F p tag).2 rv (w4.alloc (.cells #[.int .i64 F.arrived,.int .i64 st,.string ⟨#[]⟩,.string ⟨#[]⟩] 35))) := by
      refine ⟨_,rfl,?_⟩
      rw [unhide HG]
      have e : (F.arriveE er).2 = [⟨F.arrived,st,⟨#[]⟩,⟨#[]⟩⟩] := by unfold FM.arriveE; rw [unhide HS]
      rw [e]
      have h4 := unhide HH4
      exact ⟨hown,fun g hg => by have := (unhide HF4).size; simp only [Value.ownBlock,Option.some.injEq] at hg; omega,⟨X1,sl,pv,W,h4.frm (S := fun _ => False) (Frm.of_below hbN) (fun _ _ q => q) (fun _ q => q.elim),fun k hk => Or.inl (hΨ k (unhide HS1 k hk))⟩,((unhide HF4).then (Frm.of_below (S := fun _ => False) hbN) (fun _ _ q => q.elim)).mono fun k _ q => q ▸ hfbΨ⟩
    clear hbN hown HH4 HF4 HA4 HG
    go_wp2_with (first | refine wlV _ _ (unhide HAL _ _ rfl) rfl ?_ | refine wlSk _ (unhide HST _ _ _ _ rfl rfl rfl) rfl ?_)
    refine RF.mono ?_
    rintro e w5 ⟨rfl,rfl⟩
    clear RF
    go_wp2_with (first | refine wlV _ _ (bt35 F.arrived st _ _ _ _ rfl rfl rfl _) rfl ?_ | refine wlV _ _ (bsRep F.arrived st ⟨#[]⟩ ⟨#[]⟩ _ _ _ rfl rfl _) rfl ?_)
    go_ret2
    exact unhide HQ
variable {F : FM}
theorem Ok.pins (h : Ok Oz F) : F.PI.length <= 4 := by
  have := h.pin.length_eq
  have := fls_len F
  have := h.wn
  simp only [List.length_map] at *
  omega
theorem Ok.held (h : Ok Oz F) {f : Fl} (hf : f ∈ F.fls) : (f.reads : Int) ∈ F.PI := h.pin.mem_iff.2 (List.mem_map.2 ⟨f,hf,rfl⟩)
theorem heldP {ver : Nat} {PI : List Int} {v : Nat} (hv : v <= ver) (h : (v : Int) ∈ PI) : heldB 0 ver (ri PI) v = true := by
  unfold heldB
  rw [hasP_ri]
  simp [h,hv]
set_option maxHeartbeats 12800000 in
theorem Work_any (fb : Nat) (Ψ : Nat -> Prop) (F : FM) (a : Int) (w : World) (h : FroE w fb Ψ F) (ho : Ok Oz F) (hst : F.started <= 2000000000000) :
    Calls Tryz.prog 25 #[.pointer (some ⟨fb,0,none⟩),.int .i64 a] w fun e w' => ∃ rv,e = .returned rv /\ FPost w fb Ψ (wrk F a).1 (wrk F a).2 rv w' := by
  have hE := h
  obtain ⟨X,sl,pv,W,h,hΨ⟩ := h
  have hf := h.blk
  have hwl := h.wlen
  have hwn := ho.wn
  by_cases ha : a < 0
  . have HQ : Hid (∃ rv,Ending.returned (.slice none 0 0) = .returned rv /\ FPost w fb Ψ (wrk F a).1 (wrk F a).2 rv w) := by
      have e : wrk F a = (F,[]) := by unfold wrk; rw [if_pos ha]
      rw [e]
      exact ⟨_,rfl,FPost.same hE⟩
    clear h hE hf hΨ ho
    go_enter Tryz.func25,Tryz.ntmps25
    go_wp2_with fail
    go_ret
    exact unhide HQ
  obtain ⟨i,rfl⟩ : ∃ i : Nat,a = i := ⟨a.toNat,by omega⟩
  obtain ⟨oa,cap,ekv,_,_,_⟩ := h.mem.wkv.at
  rw [List.length_map] at ekv
  have c9 : w.cell? ⟨fb,9,none⟩ = some (.slice oa W.length cap) := by rw [<- ekv]; exact hf.cells.2.2.2.2.2.2.2.2.2.1
  have hwrk : wrk F (i : Int) = F.work Oz i := by unfold wrk; rw [if_neg ha]; simp
  by_cases hlt : i < W.length
  . have hil : (i : Int) < (W.length : Int) := by omega
    cases hWi : W[i]? with
    | none => exact absurd (List.getElem?_eq_none_iff.1 hWi) (by omega)
    | some o =>
    have hLi : (W.map (Option.map Wk.g))[i]? = some (o.map Wk.g) := by rw [List.getElem?_map,hWi]; rfl
    obtain ⟨b,off,cap',hC⟩ := h.mem.wkv.wkC hLi
    have hC1 := hC.kv
    rw [List.length_map,ekv] at hC1
    simp only [Value.slice.injEq,true_and] at hC1
    obtain ⟨rfl,rfl⟩ := hC1
    cases o with
    | none =>
      have cI : w.cell? ⟨b,off + i,none⟩ = some (.pointer none) := hC.c
      have hwi := h.wat? hWi
      cases hln : F.line with
      | nil =>
        have TN := take_none fb X w hf (hln ▸ h.mem.lin)
        obtain ⟨k1,k2,k3⟩ := h.mem.wkv.kvset (by rw [List.length_map]; exact hlt) hC none
        obtain ⟨w1,hw1⟩ : ∃ w1,w.setCell ⟨b,off + i,none⟩ (.pointer none) = w1 := ⟨_,rfl⟩
        have e1 : w.setCell ⟨b,off + i,none⟩ (ptr none) = w1 := hw1
        rw [e1] at k1 k2
        have h1 := h.idle hWi k1 k2 k3
        have HQ : Hid (∃ rv,Ending.returned (.slice none 0 0) = .returned rv /\ FPost w fb Ψ (wrk F (i : Int)).1 (wrk F (i : Int)).2 rv w1) := by
          have e : F.work Oz i = (F,[]) := by unfold FM.work; simp only [hwi,Option.map_none]; unfold FM.takeW; rw [hln]
          rw [hwrk,e]
          exact ⟨_,rfl,⟨ownR_nil,fun g hg => by simp [Value.ownBlock] at hg,⟨X,sl,pv,W,h1,fun k hk => Or.inl (hΨ k hk)⟩,k2.mono fun k _ q => hΨ k (Foot.iK q)⟩⟩
        have fzI := hC.fz
        have HW1 := hide hw1
        clear h hE hf hΨ ho k1 k2 k3 h1 hw1 e1 hC hLi hWi hwi hwrk
        go_enter Tryz.func25,Tryz.ntmps25
        go_wp2_with fail
        refine TN.mono ?_
        rintro e w9 ⟨rfl,rfl⟩
        clear TN
        go_wp2_with (refine wlSk w1 (stP1 _ _ _ _ rfl b (off + i) none rfl rfl w w1 cI fzI (unhide HW1)) rfl ?_)
        go_ret
        exact unhide HQ
      | cons bb rest =>
        obtain ⟨bl,bz,bx,by'⟩ := bb
        have h100 := ho.v100
        have hpl := ho.pins
        have hls := h.ver.len
        have hch := ho.ch
        have TS := take_some fb X F.ver sl pv F.LS (F.FLs F.ver) F.PI F.chunk bl bz bx by' rest w hf h.num.ch hch h.mem.sto (by omega) (by omega) (by omega) (h.ver.rel F.ver (Nat.le_refl _)).1 (by have := h.num.st; omega) (hln ▸ h.mem.lin)
        have HH := hide h
        have HK := hide (h.mem.wkv)
        have HC := hide hC
        clear h hE hf hC hls hpl hch
        go_enter Tryz.func25,Tryz.ntmps25
        go_wp2_with fail
        refine TS.mono ?_
        rintro e w1 ⟨rfl,hu,⟨lv',pv',hf1,hlv1,hlo,hs1,hpo⟩,hF1⟩
        have h := unhide HH
        have hT : Tys (fun k => k = fb \/ k = X.sb \/ pv.ownBlock = some k) w [99,133,3] := fun k q => by
          rcases q with rfl | rfl | q
          . exact ⟨_,_,h.blk,by simp⟩
          . exact ⟨_,_,h.mem.sto.blk,by simp⟩
          . obtain ⟨c,hc⟩ := h.mem.sto.pins.ty q
            exact ⟨_,_,hc,by simp⟩
        have hk1 := h.mem.wkv.frmT hF1 hT (by decide)
        obtain ⟨b1,off1,cap1,hC1⟩ := hk1.wkC hLi
        have e9 := hC1.kv
        rw [List.length_map,ekv] at e9
        simp only [Value.slice.injEq,Option.some.injEq,Addr.mk.injEq,true_and,and_true] at e9
        obtain ⟨⟨rfl,rfl⟩,rfl⟩ := e9
        obtain ⟨k1,k2,k3⟩ := hk1.kvset (by rw [List.length_map]; exact hlt) hC1 (some w.heap.size)
        obtain ⟨w2,hw2⟩ : ∃ w2,w1.setCell ⟨b,off + i,none⟩ (.pointer (some ⟨w.heap.size,0,none⟩)) = w2 := ⟨_,rfl⟩
        have e1 : w1.setCell ⟨b,off + i,none⟩ (ptr (some w.heap.size)) = w2 := hw2
        rw [e1] at k1 k2
        obtain ⟨n1,n2,n3⟩ := h.take hWi hln hu hf1 hlv1 hlo hs1 hpo hF1 k1 k2 k3
        have HQ : Hid (∃ rv,Ending.returned (.slice none 0 0) = .returned rv /\ FPost w fb Ψ (wrk F (i : Int)).1 (wrk F (i : Int)).2 rv w2) := by
          have e : F.work Oz i = (F.takeW i,[]) := by unfold FM.work; simp only [hwi,Option.map_none]
          rw [hwrk,e]
          exact ⟨_,rfl,⟨ownR_nil,fun g hg => by simp [Value.ownBlock] at hg,⟨_,sl,pv',_,n1,fun k hk => (n2 k hk).imp (hΨ k) id⟩,n3.mono fun k _ q => hΨ k q⟩⟩
        have cI1 : w1.cell? ⟨b,off + i,none⟩ = some (.pointer none) := hC1.c
        have fz1 := hC1.fz
        have c91 : w1.cell? ⟨fb,9,none⟩ = some (.slice (some ⟨b,off,none⟩) W.length cap) := by rw [<- ekv]; exact (FBlk.cells hf1).2.2.2.2.2.2.2.2.2.1
        have HW2 := hide hw2
        clear h hΨ ho k1 k2 k3 n1 n2 n3 hw2 e1 hu hf1 hlv1 hlo hs1 hpo hF1 hT hk1 hC1 TS HH HK HC hLi hWi hwi hwrk
        go_wp2_with (refine wlSk w2 (stP1 _ _ _ _ rfl b (off + i) (some ⟨w.heap.size,0,none⟩) rfl rfl w1 w2 cI1 fz1 (unhide HW2)) rfl ?_)
        go_ret
        exact unhide HQ
    | some u =>
      have cI : w.cell? ⟨b,off + i,none⟩ = some (.pointer (some ⟨u.g,0,none⟩)) := hC.c
      have hwi := h.wat? hWi
      have hfm := wk_fls h.pu.wks hWi
      obtain ⟨f1,f2,k0,f3,f4⟩ := ho.flt u.f hfm
      have h100 := ho.v100
      have hpl := ho.pins
      have hls := h.ver.len
      have hch := ho.ch
      have hpos := f2.pos
      obtain ⟨u1,u2⟩ := h.mem.wat i u hWi
      obtain ⟨r1,r2,r3⟩ := h.pu.rd i u hWi
      have hle40 := f2.le (h.ver.rel u.f.reads f1).1.le40 hch.1
      have SP := step_any fb X F.ver sl pv F.LS (ri F.PI) (F.FLs u.f.reads) u.R F.chunk u.g u.f.b.l u.f.b.z u.f.b.x u.f.b.y u.f.reads u.f.left u.rv w hf h.num.ch hch h.mem.sto (by omega) (by rw [ri_len]; omega) (by omega) (heldP f1 (ho.held hfm)) (h.ver.rel u.f.reads f1).1 u1 u2 r1 (by omega)
      have HH := hide h
      have HO := hide ho
      have HC := hide hC
      have HF2 := hide f2
      have HU1 := hide u1
      have HF4 := hide f4
      have HF3 := hide f3
      have HFM := hide hfm
      clear h hE hf hC ho u1 u2 r1 r2 r3 f2 f4 f3 hfm
      go_enter Tryz.func25,Tryz.ntmps25
      go_wp2_with fail
      refine SP.mono ?_
      rintro e w1 ⟨rfl,⟨R2,rv',hb1,hR1,hrd1,hl1,hn1⟩,hF1⟩
      obtain ⟨n1,n2,n3⟩ := (unhide HH).step (unhide HO) hWi hb1 hR1 hrd1 hl1 hn1 hF1
      have hFw1 : Frm Ψ w w1 := hF1.mono fun k _ q => by
        rcases q with rfl | q
        . exact hΨ _ (Foot.iG hWi)
        . exact hΨ _ (Foot.iR hWi q)
      have c5 : w1.cell? ⟨u.g,5,none⟩ = some (.int .i64 ((u.f.left : Int) - 1)) := (blk_cells hb1 5).trans rfl
      by_cases hlf : 1 < u.f.left
      . have hlp : (0 : Int) < (u.f.left : Int) - 1 := by omega
        have HQ : Hid (∃ rv,Ending.returned (.slice none 0 0) = .returned rv /\ FPost w fb Ψ (wrk F (i : Int)).1 (wrk F (i : Int)).2 rv w1) := by
          have e : F.work Oz i = ({ F with wks := F.wks.set i (some (u.f.step (F.FLs u.f.reads).length F.chunk)) },[]) := by unfold FM.work; simp only [hwi,Option.map_some]; rw [if_pos hlf]
          rw [hwrk,e]
          exact ⟨_,rfl,⟨ownR_nil,fun g hg => by simp [Value.ownBlock] at hg,⟨_,sl,pv,_,n1,fun k hk => (n2 k hk).imp (hΨ k) id⟩,hFw1⟩⟩
        clear n1 n2 n3 hFw1 hb1 hR1 hrd1 hl1 hn1 hF1 SP HH HO HC HF2 HU1 HF4 HF3 HFM hWi hLi hwi hwrk hΨ hls
        go_wp2_with fail
        go_ret
        exact unhide HQ
      . have hl1' : u.f.left = 1 := by omega
        have hlp : ¬ (0 : Int) < (u.f.left : Int) - 1 := by omega
        have hi2 : i < (W.set i (some (u.next (F.FLs u.f.reads).length F.chunk rv' R2))).length := by rw [List.length_set]; exact hlt
        have hk1 := n1.mem.wkv
        have hLi1 : ((W.set i (some (u.next (F.FLs u.f.reads).length F.chunk rv' R2))).map (Option.map Wk.g))[i]? = some (some u.g) := by
          rw [List.getElem?_map,List.getElem?_set,if_pos rfl,if_pos hlt]; rfl
        obtain ⟨b1,off1,cap1,hC1⟩ := hk1.wkC hLi1
        have e9 := hC1.kv
        rw [List.length_map,List.length_set,ekv] at e9
        simp only [Value.slice.injEq,Option.some.injEq,Addr.mk.injEq,true_and,and_true] at e9
        obtain ⟨⟨rfl,rfl⟩,rfl⟩ := e9
        obtain ⟨k1,k2,k3⟩ := hk1.kvset (by rw [List.length_map]; exact hi2) hC1 none
        obtain ⟨w2,hw2⟩ : ∃ w2,w1.setCell ⟨b,off + i,none⟩ (.pointer none) = w2 := ⟨_,rfl⟩
        have e1 : w1.setCell ⟨b,off + i,none⟩ (ptr none) = w2 := hw2
        rw [e1] at k1 k2
        obtain ⟨m1,m2⟩ := n1.gone hi2 k1 k2 k3
        have hb2 := blk_frmT hb1 k2 k3 (by decide)
        have hR2 := (ownR_nf hR1).frmT k2 k3 (by decide)
        have hw0 : ((W.set i (some (u.next (F.FLs u.f.reads).length F.chunk rv' R2))).set i none)[i]? = some none := by
          rw [List.getElem?_set,if_pos rfl,if_pos hi2]
        have ho := unhide HO
        have hroom := ho.rm
        have hlen : ((u.R ++ R2).map nf).length = (F.FLs u.f.reads).length := by
          have q : ((u.R ++ R2).map nf).length = min (u.f.got + F.chunk) (F.FLs u.f.reads).length := n3
          rw [q]; exact (unhide HF2).end_ hl1'
        have hver := (unhide HH).ver.rel u.f.reads f1
        have hkeys : ∀ k ∈ u.f.b.keys,KOk k := fun k hk => by rw [unhide HF4] at hk; exact ((mem_keys (unhide HF3)).1 hk).1
        have hts : u.f.b.keys.map (tileR ((u.R ++ R2).map nf) F.LS u.f.reads) = F.tilesOf Oz u.f := by
          unfold FM.tilesOf
          apply List.map_congr_left
          intro k hk
          show (⟨k,bodyB ((u.R ++ R2).map nf) k,tagB k (stK u.f.reads k F.LS)⟩ : Tile) = ⟨k,bodyB (F.FLs u.f.reads) k,tagB k (stK u.f.reads k F.LS)⟩
          rw [body_read hrd1.norm hver.2 (nor_map _) hlen hver.1.rt hver.1.dis (hkeys k hk)]
        have hsm : (0 <= u.f.b.x /\ u.f.b.x <= 4194304) /\ (0 <= u.f.b.y /\ u.f.b.y <= 4194304) := by
          rw [unhide HF4]
          obtain ⟨s1,s2⟩ := (unhide HF3).small
          show (0 <= k0.x - k0.x % 2 /\ k0.x - k0.x % 2 <= 4194304) /\ (0 <= k0.y - k0.y % 2 /\ k0.y - k0.y % 2 <= 4194304)
          omega
        have hlw := ho.wq
        have hqq := ho.q
        have hlL := ho.linLe
        have hbt := ho.byt
        have hrt := hrd1.norm.rt hver.1.rt
        have hlt7 : 7 * F.tiles.length <= bytesT F.tiles := bytes_len F.tiles fun t ht => by
          obtain ⟨a,b⟩ := ho.til t ht
          rw [b]; exact (ho.hi.bod F.ver (Nat.le_refl _) t.k a).1
        have FI := finish_any fb X F.room F.ver sl pv F.LS ((u.R ++ R2).map nf) F.PI F.waiting F.line F.tiles u.g u.f.b.l u.f.b.z u.f.b.x u.f.b.y u.f.reads ((u.f.left : Int) - 1) rv' w2 m1.blk m1.num.rm (by omega) m1.mem.sto (by omega) hkeys hsm.1 hsm.2 (by omega) (by omega) m1.glb (by omega) (ho.held (unhide HFM)) hb2 hR2 (by rw [hlen]; exact hver.1.le40) hrt m1.mem.wai (fun r hr => (ho.req r hr).2.2.2.1) m1.mem.lin m1.mem.til (by omega) (by omega) (by omega) (by omega)
        have cI1 : w1.cell? ⟨b,off + i,none⟩ = some (.pointer (some ⟨u.g,0,none⟩)) := hC1.c
        have fz1 := hC1.fz
        have c91 : w1.cell? ⟨fb,9,none⟩ = some (.slice (some ⟨b,off,none⟩) W.length cap) := by rw [<- ekv]; exact (FBlk.cells n1.blk).2.2.2.2.2.2.2.2.2.1
        have hFw2 : Frm Ψ w w2 := hFw1.then k2 fun k _ q => hΨ k (Foot.iK q)
        have HQ : Hid (∀ rv w3,FinR fb u.g X F.room F.ver sl F.LS ((u.R ++ R2).map nf) F.PI F.waiting F.line F.tiles u.f.b u.f.reads w2 rv w3 -> FPost w fb Ψ (wrk F (i : Int)).1 (wrk F (i : Int)).2 rv w3) := by
          intro rv w3 hr
          have P := Fro.finish (fl := u.f) m1 hw0 rfl hts hr
          have e : F.work Oz i = F.finishW Oz i u.f := by unfold FM.work; simp only [hwi,Option.map_some]; rw [if_neg hlf]
          have e2 : (({ F with wks := (F.wks.set i (some (u.f.step (F.FLs u.f.reads).length F.chunk))).set i none } : FM)).finishW Oz i u.f = F.finishW Oz i u.f := by
            unfold FM.finishW
            simp only [List.set_set]
            rfl
          have P' : FPost w2 fb (fun k => Foot fb X sl pv ((W.set i (some (u.next (F.FLs u.f.reads).length F.chunk rv' R2))).set i none) k) (F.finishW Oz i u.f).1 (F.finishW Oz i u.f).2 rv w3 := by rw [<- e2]; exact P
          rw [hwrk,e]
          exact P'.trans hFw2 fun k q => (n2 k (m2 k q)).imp (hΨ k) id
        have HW2 := hide hw2
        clear n1 n2 n3 hFw1 hb1 hR1 hrd1 hl1 hn1 hF1 SP HH HO HC HF2 HU1 HF4 HF3 HFM hWi hLi hwi hwrk hΨ hls k1 k2 k3 m1 m2 hb2 hR2 hw0 ho hver hkeys hts hsm hrt hFw2 hk1 hC1 hLi1 hlen hw2 e1
        go_wp2_with (refine wlSk w2 (stP1 _ _ _ _ rfl b (off + i) none rfl rfl w1 w2 cI1 fz1 (unhide HW2)) rfl ?_)
        refine FI.mono ?_
        rintro e w3 ⟨rv,rfl,hr⟩
        obtain ⟨ra,rn,rc,rfl⟩ := hr.reps.sl
        have HP := hide (unhide HQ _ w3 hr)
        clear hr FI HQ
        go_wp2_with fail
        go_ret
        exact ⟨_,rfl,unhide HP⟩
  . have HQ : Hid (∃ rv,Ending.returned (.slice none 0 0) = .returned rv /\ FPost w fb Ψ (wrk F (i : Int)).1 (wrk F (i : Int)).2 rv w) := by
      have e : F.work Oz i = (F,[]) := by
        unfold FM.work
        have : F.wks[i]? = none := List.getElem?_eq_none_iff.2 (by omega)
        simp only [this]
      rw [hwrk,e]
      exact ⟨_,rfl,FPost.same hE⟩
    have hge : ¬ (i : Int) < (W.length : Int) := by omega
    clear h hE hf hΨ ho hwrk
    go_enter Tryz.func25,Tryz.ntmps25
    go_wp2_with fail
    go_ret
    exact unhide HQ
end Go.Proofs.YtpopchckldbhdaaGreatDoor
namespace Go.Proofs.YtpopchckldbhdaaGreatDoor
section
variable (O : Ora)
def FM.part (F : FM) : Nat -> FM
  | 0 => F
  | j + 1 => ((F.part j).work O j).1
def FM.rounds (F : FM) (W : Nat) : Nat -> FM
  | 0 => F
  | n + 1 => (F.rounds W n).part O W
variable {O} {F : FM}
structure Like (F G : FM) : Prop where
  queue : G.queue = F.queue
  wait : G.wait = F.wait
  chunk : G.chunk = F.chunk
  room : G.room = F.room
  now : G.now = F.now
  arrived : G.arrived = F.arrived
  ver : G.ver = F.ver
  LS : G.LS = F.LS
  FLs : G.FLs = F.FLs
  wks : G.wks.length = F.wks.length
theorem Like.rfl' (F : FM) : Like F F := ⟨rfl,rfl,rfl,rfl,rfl,rfl,rfl,rfl,rfl,rfl⟩
theorem Like.trans {F G H : FM} (a : Like F G) (b : Like G H) : Like F H :=
  ⟨b.queue.trans a.queue,b.wait.trans a.wait,b.chunk.trans a.chunk,b.room.trans a.room,b.now.trans a.now,b.arrived.trans a.arrived,b.ver.trans a.ver,b.LS.trans a.LS,b.FLs.trans a.FLs,b.wks.trans a.wks⟩
theorem work_like (F : FM) (i : Nat) : Like F (F.work O i).1 := by
  unfold FM.work
  cases F.wks[i]? with
  | none => exact Like.rfl' F
  | some o =>
    cases o with
    | none =>
      dsimp only
      unfold FM.takeW
      cases F.line with
      | nil => exact Like.rfl' F
      | cons b rest => exact ⟨rfl,rfl,rfl,rfl,rfl,rfl,rfl,rfl,rfl,by simp⟩
    | some f =>
      dsimp only
      split
      . exact ⟨rfl,rfl,rfl,rfl,rfl,rfl,rfl,rfl,rfl,by simp⟩
      . exact ⟨rfl,rfl,rfl,rfl,rfl,rfl,rfl,rfl,rfl,by simp [FM.finishW]⟩
theorem part_like (F : FM) : ∀ j,Like F (F.part O j)
  | 0 => Like.rfl' F
  | j + 1 => (part_like F j).trans (work_like _ j)
theorem rounds_like (F : FM) (W : Nat) : ∀ n,Like F (F.rounds O W n)
  | 0 => Like.rfl' F
  | n + 1 => (rounds_like F W n).trans (part_like _ W)
theorem Ok.part (h : Ok O F) : ∀ j,Ok O (F.part O j)
  | 0 => h
  | j + 1 => (Ok.part h j).work j
theorem Ok.rounds (h : Ok O F) (W : Nat) : ∀ n,Ok O (F.rounds O W n)
  | 0 => h
  | n + 1 => (Ok.rounds h W n).part W
theorem work_wks (F : FM) (i j : Nat) (f : Fl) (h : (F.work O i).1.wks[j]? = some (some f)) :
    (j ≠ i /\ F.wks[j]? = some (some f)) \/ (j = i /\ F.wks[i]? = some none /\ F.line ≠ [] /\ f.reads = F.ver /\ f.left = nsteps (F.FLs F.ver).length F.chunk) \/ (j = i /\ ∃ g,F.wks[i]? = some (some g) /\ f.reads = g.reads /\ f.left + 1 = g.left) := by
  unfold FM.work at h
  cases e : F.wks[i]? with
  | none =>
    rw [e] at h
    dsimp only at h
    left
    refine ⟨fun q => ?_,h⟩
    subst q
    rw [e] at h; simp at h
  | some o =>
    rw [e] at h
    have hi : i < F.wks.length := (List.getElem?_eq_some_iff.1 e).1
    cases o with
    | none =>
      dsimp only at h
      unfold FM.takeW at h
      cases hl : F.line with
      | nil =>
        rw [hl] at h
        dsimp only at h
        left
        refine ⟨fun q => ?_,h⟩
        subst q
        rw [e] at h; simp at h
      | cons b rest =>
        rw [hl] at h
        dsimp only at h
        rw [List.getElem?_set] at h
        by_cases q : i = j
        . subst q
          rw [if_pos rfl,if_pos hi] at h
          simp only [Option.some.injEq] at h
          subst h
          exact Or.inr (Or.inl ⟨rfl,rfl,by simp,rfl,rfl⟩)
        . rw [if_neg q] at h
          exact Or.inl ⟨fun c => q c.symm,h⟩
    | some g =>
      dsimp only at h
      split at h
      . dsimp only at h
        rw [List.getElem?_set] at h
        by_cases q : i = j
        . subst q
          rw [if_pos rfl,if_pos hi] at h
          simp only [Option.some.injEq] at h
          subst h
          refine Or.inr (Or.inr ⟨rfl,g,rfl,rfl,?_⟩)
          show g.left - 1 + 1 = g.left
          omega
        . rw [if_neg q] at h
          exact Or.inl ⟨fun c => q c.symm,h⟩
      . unfold FM.finishW at h
        dsimp only at h
        rw [List.getElem?_set] at h
        by_cases q : i = j
        . subst q
          rw [if_pos rfl,if_pos hi] at h
          simp at h
        . rw [if_neg q] at h
          exact Or.inl ⟨fun c => q c.symm,h⟩
def AllNew (F : FM) : Prop := ∀ (i : Nat) (f : Fl),F.wks[i]? = some (some f) -> f.reads = F.ver
theorem AllNew.work (h : AllNew F) (i : Nat) : AllNew (F.work O i).1 := by
  intro j f hf
  rw [(work_like F i).ver]
  rcases work_wks F i j f hf with ⟨_,q⟩ | ⟨_,_,_,q,_⟩ | ⟨_,g,q,q',_⟩
  . exact h j f q
  . exact q
  . rw [q']; exact h i g q
theorem work_line (h : Ok O F) (ha : AllNew F) (i : Nat) : (F.work O i).1.line = F.line \/ (F.wks[i]? = some none /\ (F.work O i).1.line.length + 1 = F.line.length) := by
  unfold FM.work
  cases e : F.wks[i]? with
  | none => exact Or.inl rfl
  | some o =>
    cases o with
    | none =>
      dsimp only
      unfold FM.takeW
      cases hl : F.line with
      | nil => left; exact hl
      | cons b rest => right; exact ⟨rfl,by simp⟩
    | some f =>
      dsimp only
      split
      . exact Or.inl rfl
      . left
        show (if 0 < countFor (F.fineL O (F.tilesOf O f) f.reads) f.b then F.line ++ [f.b] else F.line) = F.line
        rw [if_neg]
        intro hc
        obtain ⟨r,hr,hb⟩ := (countFor_pos _ _).1 hc
        unfold FM.fineL at hr
        rw [List.mem_filter] at hr
        have hreq := h.req r hr.1
        have hreads := ha i f e
        rw [h.good (mem_fls e) hr.1,if_pos ⟨hb,Or.inl (by rw [hreads]; exact hreq.2.2.1)⟩] at hr
        simp at hr
theorem work_line0 (i : Nat) (hi : F.wks[i]? = some none) (hl : F.line ≠ []) : (F.work O i).1.line.length + 1 = F.line.length := by
  unfold FM.work
  rw [hi]
  dsimp only
  unfold FM.takeW
  cases e : F.line with
  | nil => exact absurd e hl
  | cons b rest => simp
def lf : Option (Option Fl) -> Nat
  | some (some f) => f.left
  | _ => 0
def psi (F : FM) : Nat := 41 * F.line.length + lf F.wks[0]?
theorem Ok.left40 (h : Ok O F) {i : Nat} {f : Fl} (hi : F.wks[i]? = some (some f)) : f.left <= 40 := by
  have := h.flt f (mem_fls hi)
  exact this.2.1.le (h.hi.le40 _ this.1) h.ch.1
theorem psi_le (h : Ok O F) : psi F <= 41 * F.queue + 40 := by
  have h1 := h.linLe
  have h2 := h.wq
  have h3 : lf F.wks[0]? <= 40 := by
    cases e : F.wks[0]? with
    | none => exact Nat.zero_le _
    | some o =>
      cases o with
      | none => exact Nat.zero_le _
      | some f => exact h.left40 e
  unfold psi
  omega
theorem psi_work (h : Ok O F) (ha : AllNew F) (i : Nat) : psi (F.work O i).1 <= psi F /\ (i = 0 -> psi (F.work O i).1 <= psi F - 1) := by
  have hok := h.work i
  have hline : (F.work O i).1.line.length <= F.line.length := by
    rcases work_line h ha i with q | ⟨_,q⟩
    . rw [q]; exact Nat.le_refl _
    . omega
  by_cases e0 : i = 0
  . subst e0
    suffices hh : psi (F.work O 0).1 <= psi F - 1 from ⟨by omega,fun _ => hh⟩
    cases e : (F.work O 0).1.wks[0]? with
    | none =>
      exfalso
      have := hok.wn.1
      rw [List.getElem?_eq_none_iff] at e
      omega
    | some o =>
      cases e1 : F.wks[0]? with
      | none =>
        exfalso
        have := h.wn.1
        rw [List.getElem?_eq_none_iff] at e1
        omega
      | some o1 =>
        have p1 : psi F = 41 * F.line.length + lf (some o1) := by unfold psi; rw [e1]
        have p2 : psi (F.work O 0).1 = 41 * (F.work O 0).1.line.length + lf (some o) := by unfold psi; rw [e]
        rw [p1,p2]
        cases o with
        | none =>
          cases o1 with
          | none =>
            simp only [lf]
            by_cases hl : F.line = []
            . have : (F.work O 0).1.line.length = 0 := by rw [hl] at hline; simpa using hline
              omega
            . have := work_line0 (O := O) 0 e1 hl
              omega
          | some f1 =>
            simp only [lf]
            have := (h.flt f1 (mem_fls e1)).2.1.pos
            omega
        | some f =>
          simp only [lf]
          have h40 := hok.left40 e
          rcases work_wks F 0 0 f e with ⟨q,_⟩ | ⟨_,q,q',_⟩ | ⟨_,g,q,_,q'⟩
          . exact absurd rfl q
          . have := work_line0 (O := O) 0 q q'
            omega
          . rw [e1] at q
            simp only [Option.some.injEq] at q
            subst q
            dsimp only
            omega
  . refine ⟨?_,fun q => absurd q e0⟩
    have hw : (F.work O i).1.wks[0]? = F.wks[0]? := by
      unfold FM.work
      cases e : F.wks[i]? with
      | none => rfl
      | some o =>
        cases o with
        | none =>
          dsimp only
          unfold FM.takeW
          cases F.line with
          | nil => rfl
          | cons b rest => dsimp only; rw [List.getElem?_set,if_neg e0]
        | some f =>
          dsimp only
          split
          . dsimp only; rw [List.getElem?_set,if_neg e0]
          . unfold FM.finishW; dsimp only; rw [List.getElem?_set,if_neg e0]
    unfold psi
    rw [hw]
    omega
theorem part_psi (h : Ok O F) (ha : AllNew F) : ∀ j,AllNew (F.part O j) /\ psi (F.part O j) <= psi F /\ (1 <= j -> psi (F.part O j) <= psi F - 1)
  | 0 => ⟨ha,Nat.le_refl _,fun q => absurd q (by omega)⟩
  | j + 1 => by
    obtain ⟨i1,i2,i3⟩ := part_psi h ha j
    have := psi_work (h.part j) i1 j
    refine ⟨i1.work j,?_,fun _ => ?_⟩
    . show psi ((F.part O j).work O j).1 <= _
      omega
    . show psi ((F.part O j).work O j).1 <= _
      by_cases e : j = 0
      . have := this.2 e; omega
      . have := i3 (by omega); omega
theorem rounds_psi (h : Ok O F) (ha : AllNew F) {W : Nat} (hW : 1 <= W) : ∀ n,AllNew (F.rounds O W n) /\ psi (F.rounds O W n) <= psi F - n
  | 0 => ⟨ha,Nat.le_refl _⟩
  | n + 1 => by
    obtain ⟨i1,i2⟩ := rounds_psi h ha hW n
    have := part_psi (h.rounds W n) i1 W
    refine ⟨this.1,?_⟩
    show psi ((F.rounds O W n).part O W) <= _
    have := this.2.2 hW
    omega
theorem part_old (m : Nat) : ∀ j,(∀ (i : Nat) (f : Fl),F.wks[i]? = some (some f) -> f.reads = F.ver \/ f.left + m <= 40) -> ∀ (i : Nat) (f : Fl),(F.part O j).wks[i]? = some (some f) -> f.reads = F.ver \/ f.left + (if i < j then m + 1 else m) <= 40
  | 0,h,i,f,hf => by rw [if_neg (by omega)]; exact h i f hf
  | j + 1,h,i,f,hf => by
    have ih := part_old m j h
    rcases work_wks (F.part O j) j i f hf with ⟨q0,q⟩ | ⟨_,_,_,q,_⟩ | ⟨q0,g,q,q',q''⟩
    . rcases ih i f q with c | c
      . exact Or.inl c
      . right
        by_cases d : i < j
        . rw [if_pos d] at c; rw [if_pos (by omega)]; exact c
        . rw [if_neg d] at c; rw [if_neg (by omega)]; exact c
    . left; rw [q,(part_like F j).ver]
    . rcases ih j g q with c | c
      . left; rw [q',c]
      . right
        rw [if_neg (by omega)] at c
        rw [if_pos (by omega)]
        omega
theorem rounds_old (h : Ok O F) (W : Nat) (hW : F.wks.length = W) : ∀ m,∀ (i : Nat) (f : Fl),(F.rounds O W m).wks[i]? = some (some f) -> f.reads = F.ver \/ f.left + m <= 40
  | 0,i,f,hf => Or.inr (h.left40 hf)
  | m + 1,i,f,hf => by
    have ih := rounds_old h W hW m
    have hv := (rounds_like (O := O) F W m).ver
    have := part_old (O := O) (F := F.rounds O W m) m W (fun i f hf => by rw [hv]; exact ih i f hf) i f hf
    rw [hv] at this
    have hi : i < W := by
      have := (List.getElem?_eq_some_iff.1 hf).1
      rw [(rounds_like (O := O) F W (m + 1)).wks,hW] at this
      exact this
    rw [if_pos hi] at this
    rcases this with c | c
    . exact Or.inl c
    . right; omega
theorem allNew_40 (h : Ok O F) (W : Nat) (hW : F.wks.length = W) : AllNew (F.rounds O W 40) := by
  intro i f hf
  rw [(rounds_like F W 40).ver]
  rcases rounds_old h W hW 40 i f hf with c | c
  . exact c
  . have := ((h.rounds W 40).flt f (mem_fls hf)).2.1.pos
    omega
theorem part_last (m : Nat) : ∀ j,Ok O F -> AllNew F -> F.line = [] -> (∀ (i : Nat) (f : Fl),F.wks[i]? = some (some f) -> f.left + m <= 40) ->
    (F.part O j).line = [] /\ AllNew (F.part O j) /\ ∀ (i : Nat) (f : Fl),(F.part O j).wks[i]? = some (some f) -> f.left + (if i < j then m + 1 else m) <= 40
  | 0,_,ha,hl,h => ⟨hl,ha,fun i f hf => by rw [if_neg (by omega)]; exact h i f hf⟩
  | j + 1,ho,ha,hl,h => by
    obtain ⟨i1,i2,i3⟩ := part_last m j ho ha hl h
    refine ⟨?_,i2.work j,fun i f hf => ?_⟩
    . show ((F.part O j).work O j).1.line = []
      rcases work_line (ho.part j) i2 j with q | ⟨_,q⟩
      . rw [q,i1]
      . rw [i1] at q; simp at q
    . rcases work_wks (F.part O j) j i f hf with ⟨q0,q⟩ | ⟨_,_,q,_⟩ | ⟨q0,g,q,q',q''⟩
      . have c := i3 i f q
        by_cases d : i < j
        . rw [if_pos d] at c; rw [if_pos (by omega)]; exact c
        . rw [if_neg d] at c; rw [if_neg (by omega)]; exact c
      . exact absurd i1 q
      . have c := i3 j g q
        rw [if_neg (by omega)] at c
        rw [if_pos (by omega)]
        omega
theorem rounds_last (h : Ok O F) (ha : AllNew F) (hl : F.line = []) (W : Nat) (hW : F.wks.length = W) : ∀ m,(F.rounds O W m).line = [] /\ AllNew (F.rounds O W m) /\ ∀ (i : Nat) (f : Fl),(F.rounds O W m).wks[i]? = some (some f) -> f.left + m <= 40
  | 0 => ⟨hl,ha,fun i f hf => h.left40 hf⟩
  | m + 1 => by
    obtain ⟨i1,i2,i3⟩ := rounds_last h ha hl W hW m
    obtain ⟨j1,j2,j3⟩ := part_last (O := O) m W (h.rounds W m) i2 i1 i3
    refine ⟨j1,j2,fun i f hf => ?_⟩
    have hi : i < W := by
      have := (List.getElem?_eq_some_iff.1 hf).1
      rw [(rounds_like (O := O) F W (m + 1)).wks,hW] at this
      exact this
    have := j3 i f hf
    rw [if_pos hi] at this
    omega
theorem rounds_add (F : FM) (W : Nat) (a : Nat) : ∀ b,F.rounds O W (a + b) = (F.rounds O W a).rounds O W b
  | 0 => rfl
  | b + 1 => by
    show (F.rounds O W (a + b)).part O W = ((F.rounds O W a).rounds O W b).part O W
    rw [rounds_add F W a b]
theorem calm_done (h : Ok O F) (W : Nat) (hW : F.wks.length = W) (n : Nat) (hn : 41 * F.queue + 80 <= n) : (F.rounds O W n).line = [] /\ (F.rounds O W n).fls = [] /\ (F.rounds O W n).waiting = [] := by
  have hW1 : 1 <= W := by rw [<- hW]; exact h.wn.1
  obtain ⟨c,rfl⟩ : ∃ c,n = 40 + (41 * F.queue + (40 + c)) := ⟨n - (41 * F.queue + 80),by omega⟩
  rw [rounds_add F W 40]
  have a1 := allNew_40 h W hW
  have h1 := h.rounds W 40
  have l1 := rounds_like (O := O) F W 40
  have w1 := l1.wks.trans hW
  have q1 := l1.queue
  generalize F.rounds O W 40 = G at a1 h1 w1 q1
  rw [rounds_add G W (41 * F.queue)]
  obtain ⟨a2,p2⟩ := rounds_psi h1 a1 hW1 (41 * F.queue)
  have h2 := h1.rounds W (41 * F.queue)
  have w2 := (rounds_like (O := O) G W (41 * F.queue)).wks.trans w1
  have hp := psi_le h1
  rw [q1] at hp
  have hl2 : (G.rounds O W (41 * F.queue)).line = [] := by
    apply List.eq_nil_of_length_eq_zero
    have : 41 * (G.rounds O W (41 * F.queue)).line.length <= psi (G.rounds O W (41 * F.queue)) := by unfold psi; omega
    omega
  generalize G.rounds O W (41 * F.queue) = H at a2 h2 w2 hl2
  obtain ⟨z1,z2,z3⟩ := rounds_last h2 a2 hl2 W w2 (40 + c)
  have h3 := h2.rounds W (40 + c)
  have hf : (H.rounds O W (40 + c)).fls = [] := by
    apply List.eq_nil_iff_forall_not_mem.2
    intro f hf
    unfold FM.fls at hf
    rw [List.mem_filterMap] at hf
    obtain ⟨o,ho,e⟩ := hf
    simp only [id] at e
    subst e
    obtain ⟨i,hi⟩ := List.mem_iff_getElem?.1 ho
    have := z3 i f hi
    have := (h3.flt f (mem_fls hi)).2.1.pos
    omega
  refine ⟨z1,hf,?_⟩
  apply List.eq_nil_iff_forall_not_mem.2
  intro r hr
  rcases h3.fl r hr with q | q
  . rw [z1] at q; simp at q
  . rw [hf] at q; simp at q
end
structure BM where
  reqs : List Ask
  says : List Say
  waiting : Int
  joined : Int
def BM.hear1 (ver now by_ : Int) (b : BM) (r : Rep) : BM :=
  { b with reqs := b.reqs.modify r.who.toNat fun a => { a with said := b.says.length },says := b.says ++ [⟨r,ver,now,by_⟩],waiting := b.waiting - 1 }
def BM.hear (ver now by_ : Int) (b : BM) (l : List Rep) : BM := l.foldl (BM.hear1 ver now by_) b
def BM.add (b : BM) (tag : ByteArray) (k : K4) (e ver now : Int) (none_ : Bool) : BM :=
  { b with reqs := b.reqs ++ [⟨tag,k,e,ver,now,b.waiting,-1⟩],waiting := b.waiting + 1,joined := if none_ then b.joined + 1 else b.joined }
def unsaid (wait : Nat) : Nat -> List Ask -> List Req
  | _,[] => []
  | o,a :: l => if a.said = -1 then ⟨o,a.k,a.ver,a.now + wait⟩ :: unsaid wait (o + 1) l else unsaid wait (o + 1) l
theorem unsaid_app (wait : Nat) : ∀ (l l' : List Ask) (o : Nat),unsaid wait o (l ++ l') = unsaid wait o l ++ unsaid wait (o + l.length) l'
  | [],l',o => by simp [unsaid]
  | a :: l,l',o => by
    have ih := unsaid_app wait l l' (o + 1)
    have e : o + 1 + l.length = o + (a :: l).length := by simp; omega
    rw [e] at ih
    rw [List.cons_append,unsaid,unsaid]
    split
    . rw [ih]; rfl
    . exact ih
theorem unsaid_who (wait : Nat) : ∀ (l : List Ask) (o : Nat),∀ r ∈ unsaid wait o l,(o : Int) <= r.who
  | [],o,r,hr => by simp [unsaid] at hr
  | a :: l,o,r,hr => by
    rw [unsaid] at hr
    split at hr
    . rcases List.mem_cons.1 hr with rfl | hr
      . exact Int.le_refl _
      . have := unsaid_who wait l (o + 1) r hr; omega
    . have := unsaid_who wait l (o + 1) r hr; omega
theorem unsaid_mod (wait : Nat) (n : Nat) : ∀ (l : List Ask) (o w : Nat),w < l.length -> unsaid wait o (l.modify w fun a => { a with said := (n : Int) }) = (unsaid wait o l).filter fun r => decide (r.who ≠ ((o + w : Nat) : Int))
  | [],o,w,h => by simp at h
  | a :: l,o,0,_ => by
    have hno : (unsaid wait (o + 1) l).filter (fun r => decide (r.who ≠ ((o + 0 : Nat) : Int))) = unsaid wait (o + 1) l := by
      rw [List.filter_eq_self]
      intro r hr
      have := unsaid_who wait l (o + 1) r hr
      simp only [decide_eq_true_eq]
      omega
    rw [List.modify_zero_cons,unsaid,unsaid,if_neg (by show ¬ (n : Int) = -1; omega)]
    split
    . rw [List.filter_cons_of_neg (by simp),hno]
    . rw [hno]
  | a :: l,o,w + 1,h => by
    have ih := unsaid_mod wait n l (o + 1) w (by simpa using h)
    rw [show o + 1 + w = o + (w + 1) by omega] at ih
    rw [List.modify_succ_cons,unsaid,unsaid]
    split
    . rw [List.filter_cons_of_pos (by simp; omega),ih]
    . exact ih
theorem mem_unsaid (wait : Nat) : ∀ (l : List Ask) (o : Nat) (r : Req),r ∈ unsaid wait o l ↔ ∃ i a,l[i]? = some a /\ a.said = -1 /\ r = ⟨((o + i : Nat) : Int),a.k,a.ver,a.now + wait⟩
  | [],o,r => by simp [unsaid]
  | a :: l,o,r => by
    have ih := mem_unsaid wait l (o + 1) r
    have sh : (∃ i b,(a :: l)[i]? = some b /\ b.said = -1 /\ r = ⟨((o + i : Nat) : Int),b.k,b.ver,b.now + wait⟩) ↔ (a.said = -1 /\ r = ⟨(o : Int),a.k,a.ver,a.now + wait⟩) \/ r ∈ unsaid wait (o + 1) l := by
      rw [ih]
      constructor
      . rintro ⟨i,b,h1,h2,h3⟩
        cases i with
        | zero => simp at h1; subst h1; exact Or.inl ⟨h2,by simpa using h3⟩
        | succ i => exact Or.inr ⟨i,b,by simpa using h1,h2,by rw [h3]; congr 1; omega⟩
      . rintro (⟨h1,h2⟩ | ⟨i,b,h1,h2,h3⟩)
        . exact ⟨0,a,rfl,h1,by simpa using h2⟩
        . exact ⟨i + 1,b,by simpa using h1,h2,by rw [h3]; congr 1; omega⟩
    rw [sh,unsaid]
    split
    . rename_i c; simp [c]
    . rename_i c; simp [c]
section
variable (O : Ora)
def SayOk (F : FM) (s : Say) (a : Ask) : Prop :=
  (a.e ≠ 0 /\ s.by_ = 1 /\ s.r.st = (if a.e = 1 then 400 else 404) /\ s.r.body = ⟨#[]⟩ /\ s.r.tag = ⟨#[]⟩) \/
  (a.e = 0 /\ s.by_ = 6 /\ s.r.st = 504 /\ s.now = a.now + F.wait /\ s.r.body = ⟨#[]⟩ /\ s.r.tag = ⟨#[]⟩) \/
  (a.e = 0 /\ (s.by_ = 1 \/ s.by_ = 4) /\ s.r.st = 200 /\ s.now < a.now + F.wait /\ ∃ v : Nat,a.ver <= v /\ (v : Int) <= s.ver /\ v <= F.ver /\ s.r.body = O.body (F.FLs v) a.k /\ s.r.tag = O.tag a.k (O.stamp F.LS v a.k)) \/
  (a.e = 0 /\ s.by_ = 1 /\ s.r.st = 304 /\ s.now < a.now + F.wait /\ s.r.body = ⟨#[]⟩ /\ s.r.tag = a.tag /\ ∃ v : Nat,s.ver = v /\ v <= F.ver /\ s.r.tag = O.tag a.k (O.stamp F.LS v a.k)) \/
  (a.e = 0 /\ s.by_ = 1 /\ s.r.st = 503 /\ s.now < a.now + F.wait /\ a.waiting = F.queue /\ s.r.body = ⟨#[]⟩ /\ s.r.tag = ⟨#[]⟩)
structure BInv (F : FM) (b : BM) : Prop where
  say : ∀ (j : Nat) (s : Say),b.says[j]? = some s -> 0 <= s.r.who /\ 0 <= s.ver /\ s.ver <= F.ver /\ ∃ a,b.reqs[s.r.who.toNat]? = some a /\ a.said = j /\ SayOk O F s a
  ask : ∀ (i : Nat) (a : Ask),b.reqs[i]? = some a -> a.said = -1 \/ (0 <= a.said /\ ∃ s,b.says[a.said.toNat]? = some s /\ s.r.who = i)
variable {O} {F : FM} {b : BM}
theorem BInv.hear1 (h : BInv O F b) {r : Rep} {ver now by_ : Int} (hv : 0 <= ver /\ ver <= F.ver) (hw : 0 <= r.who) {a : Ask} (ha : b.reqs[r.who.toNat]? = some a) (hs : a.said = -1) (hok : SayOk O F ⟨r,ver,now,by_⟩ a) : BInv O F (b.hear1 ver now by_ r) := by
  have hget : ∀ i,(b.reqs.modify r.who.toNat fun a => { a with said := (b.says.length : Int) })[i]? = if i = r.who.toNat then some { a with said := (b.says.length : Int) } else b.reqs[i]? := by
    intro i
    rw [List.getElem?_modify]
    by_cases e : i = r.who.toNat
    . subst e; simp [ha]
    . rw [if_neg e]; cases b.reqs[i]? <;> simp [Ne.symm e]
  constructor
  . intro j s hj
    have hj' : (b.says ++ [⟨r,ver,now,by_⟩])[j]? = some s := hj
    rw [List.getElem?_append] at hj'
    split at hj'
    . rename_i hlt
      obtain ⟨h1,h2,h3,a',h4,h5,h6⟩ := h.say j s hj'
      refine ⟨h1,h2,h3,a',?_,h5,h6⟩
      show (b.reqs.modify _ _)[s.r.who.toNat]? = _
      rw [hget,if_neg]
      . exact h4
      . intro e
        rw [e,ha] at h4
        simp only [Option.some.injEq] at h4
        subst h4
        omega
    . rename_i hlt
      have hj0 : j = b.says.length := by
        by_cases c : j - b.says.length = 0
        . omega
        . rw [List.getElem?_eq_none (by simp; omega)] at hj'; simp at hj'
      subst hj0
      simp at hj'
      subst hj'
      exact ⟨hw,hv.1,hv.2,{ a with said := (b.says.length : Int) },by show (b.reqs.modify _ _)[r.who.toNat]? = _; rw [hget,if_pos rfl],rfl,hok⟩
  . intro i a' hi
    have hi' : (b.reqs.modify r.who.toNat fun a => { a with said := (b.says.length : Int) })[i]? = some a' := hi
    rw [hget] at hi'
    split at hi'
    . rename_i e
      simp only [Option.some.injEq] at hi'
      subst hi'
      right
      refine ⟨by show (0 : Int) <= b.says.length; omega,⟨r,ver,now,by_⟩,?_,?_⟩
      . show (b.says ++ [_])[((b.says.length : Int)).toNat]? = _
        simp
      . show r.who = i; omega
    . rcases h.ask i a' hi' with q | ⟨q,s,q1,q2⟩
      . exact Or.inl q
      . right
        refine ⟨q,s,?_,q2⟩
        show (b.says ++ [_])[a'.said.toNat]? = _
        rw [List.getElem?_append_left (List.getElem?_eq_some_iff.1 q1).1,q1]
theorem BInv.hear {ver now by_ : Int} (hv : 0 <= ver /\ ver <= F.ver) : ∀ (l : List Rep) (b : BM),BInv O F b -> (∀ r ∈ l,0 <= r.who /\ ∃ a,b.reqs[r.who.toNat]? = some a /\ a.said = -1 /\ SayOk O F ⟨r,ver,now,by_⟩ a) -> l.Pairwise (fun p q => p.who ≠ q.who) ->
    BInv O F (b.hear ver now by_ l) /\ (∀ wait,unsaid wait 0 (b.hear ver now by_ l).reqs = (unsaid wait 0 b.reqs).filter fun q => l.all fun r => decide (q.who ≠ r.who)) /\ (b.hear ver now by_ l).reqs.length = b.reqs.length /\ (b.hear ver now by_ l).waiting = b.waiting - l.length /\ (b.hear ver now by_ l).joined = b.joined /\
    (b.hear ver now by_ l).says.length = b.says.length + l.length /\ (∀ (i : Nat) (a' : Ask),(b.hear ver now by_ l).reqs[i]? = some a' -> ∃ (a : Ask) (n : Int),b.reqs[i]? = some a /\ a' = { a with said := n })
  | [],b,h,_,_ => ⟨h,fun wait => (List.filter_eq_self.2 fun _ _ => rfl).symm,rfl,by simp [BM.hear],rfl,rfl,fun i a' ha => ⟨a',a'.said,ha,rfl⟩⟩
  | r :: l,b,h,hl,hp => by
    obtain ⟨hw,a,ha,hs,hok⟩ := hl r (List.mem_cons_self ..)
    have hp' := List.pairwise_cons.1 hp
    have hlt : r.who.toNat < b.reqs.length := (List.getElem?_eq_some_iff.1 ha).1
    have h1 := h.hear1 (now := now) (by_ := by_) hv hw ha hs hok
    have hget : ∀ i,(b.hear1 ver now by_ r).reqs[i]? = if i = r.who.toNat then some { a with said := (b.says.length : Int) } else b.reqs[i]? := by
      intro i
      show (b.reqs.modify r.who.toNat fun a => { a with said := (b.says.length : Int) })[i]? = _
      rw [List.getElem?_modify]
      by_cases e : i = r.who.toNat
      . subst e; simp [ha]
      . rw [if_neg e]; cases b.reqs[i]? <;> simp [Ne.symm e]
    have hl' : ∀ q ∈ l,0 <= q.who /\ ∃ a,(b.hear1 ver now by_ r).reqs[q.who.toNat]? = some a /\ a.said = -1 /\ SayOk O F ⟨q,ver,now,by_⟩ a := by
      intro q hq
      obtain ⟨q1,a',q2,q3⟩ := hl q (List.mem_cons_of_mem _ hq)
      refine ⟨q1,a',?_,q3⟩
      rw [hget,if_neg]
      . exact q2
      . have := hp'.1 q hq
        omega
    obtain ⟨i1,i2,i3,i4,i5,i6,i7⟩ := BInv.hear hv l _ h1 hl' hp'.2
    refine ⟨i1,fun wait => ?_,?_,?_,i5,?_,?_⟩
    . have := i2 wait
      have hm := unsaid_mod wait b.says.length b.reqs 0 r.who.toNat hlt
      rw [show ((0 + r.who.toNat : Nat) : Int) = r.who by omega] at hm
      show unsaid wait 0 ((b.hear1 ver now by_ r).hear ver now by_ l).reqs = _
      rw [this,show (b.hear1 ver now by_ r).reqs = b.reqs.modify r.who.toNat (fun a => { a with said := (b.says.length : Int) }) from rfl,hm,List.filter_filter]
      congr 1
      funext q
      simp [Bool.and_comm]
    . show ((b.hear1 ver now by_ r).hear ver now by_ l).reqs.length = _
      rw [i3]; simp [BM.hear1]
    . show ((b.hear1 ver now by_ r).hear ver now by_ l).waiting = _
      rw [i4]; simp [BM.hear1]; omega
    . show ((b.hear1 ver now by_ r).hear ver now by_ l).says.length = _
      rw [i6]; simp [BM.hear1]; omega
    . intro i a' hi
      obtain ⟨a1,n,q1,q2⟩ := i7 i a' hi
      rw [hget] at q1
      split at q1
      . rename_i e
        simp only [Option.some.injEq] at q1
        subst q1
        exact ⟨a,n,by rw [e]; exact ha,q2⟩
      . exact ⟨a1,n,q1,q2⟩
end
def FM.new (F : FM) (r : Req) : Bool := F.line.any (fun b => decide (b = r.k.blk)) || F.fls.any fun f => decide (f.b = r.k.blk) && decide ((f.reads : Int) < r.asked)
def FM.fresh (F : FM) : Nat := F.waiting.countP F.new
theorem new_iff (F : FM) (r : Req) : F.new r = true ↔ r.k.blk ∈ F.line \/ ∃ f ∈ F.fls,f.b = r.k.blk /\ (f.reads : Int) < r.asked := by
  unfold FM.new
  simp [List.any_eq_true]
theorem countP_le_of {α : Type} {p q : α -> Bool} : ∀ {l : List α},(∀ x ∈ l,p x = true -> q x = true) -> l.countP p <= l.countP q
  | [],_ => by simp
  | a :: l,h => by
    have ih := countP_le_of (l := l) fun x hx => h x (List.mem_cons_of_mem _ hx)
    have ha := h a (List.mem_cons_self ..)
    rw [List.countP_cons,List.countP_cons]
    by_cases c : p a = true
    . rw [if_pos c,if_pos (ha c)]; omega
    . rw [if_neg c]; omega
theorem countP_lt_of {α : Type} {p q : α -> Bool} : ∀ {l : List α},(∀ x ∈ l,p x = true -> q x = true) -> (∃ x ∈ l,q x = true /\ ¬ p x = true) -> l.countP p + 1 <= l.countP q
  | [],_,h => by obtain ⟨x,hx,_⟩ := h; simp at hx
  | a :: l,h,hx => by
    have hle := countP_le_of (l := l) fun x hx => h x (List.mem_cons_of_mem _ hx)
    have ha := h a (List.mem_cons_self ..)
    rw [List.countP_cons,List.countP_cons]
    by_cases c : p a = true
    . obtain ⟨x,h1,h2,h3⟩ := hx
      rcases List.mem_cons.1 h1 with rfl | h1
      . exact absurd c h3
      . have ih := countP_lt_of (l := l) (fun x hx => h x (List.mem_cons_of_mem _ hx)) ⟨x,h1,h2,h3⟩
        rw [if_pos c,if_pos (ha c)]; omega
    . by_cases d : q a = true
      . rw [if_neg c,if_pos d]; omega
      . obtain ⟨x,h1,h2,h3⟩ := hx
        rcases List.mem_cons.1 h1 with rfl | h1
        . exact absurd h2 d
        . have ih := countP_lt_of (l := l) (fun x hx => h x (List.mem_cons_of_mem _ hx)) ⟨x,h1,h2,h3⟩
          rw [if_neg c]; omega
section
variable {O : Ora} {F : FM}
theorem fresh_take (h : Ok O F) {i : Nat} (hi : F.wks[i]? = some none) : (F.takeW i).started + (F.takeW i).fresh <= F.started + F.fresh := by
  unfold FM.takeW
  cases hl : F.line with
  | nil => exact Nat.le_refl _
  | cons b rest =>
    have hlt : i < F.wks.length := (List.getElem?_eq_some_iff.1 hi).1
    have hp : ((F.wks.set i (some ⟨b,F.ver,nsteps (F.FLs F.ver).length F.chunk,0⟩)).filterMap id).Perm (⟨b,F.ver,nsteps (F.FLs F.ver).length F.chunk,0⟩ :: F.fls) := by
      have h1 := fls_set F.wks i (some ⟨b,F.ver,nsteps (F.FLs F.ver).length F.chunk,0⟩) hlt
      rw [set_self F.wks i none hi] at h1
      exact h1
    have hnod := h.nod
    rw [hl] at hnod
    have hb := (List.nodup_cons.1 hnod).1
    have key : ∀ r ∈ F.waiting,FM.new { F with line := rest,started := F.started + 1,PI := F.PI ++ [(F.ver : Int)],wks := F.wks.set i (some ⟨b,F.ver,nsteps (F.FLs F.ver).length F.chunk,0⟩) } r = true -> r.k.blk ∈ rest \/ ∃ f ∈ F.fls,f.b = r.k.blk /\ (f.reads : Int) < r.asked := by
      intro r hr hn
      rcases (new_iff _ _).1 hn with q | ⟨f,hf,q⟩
      . exact Or.inl q
      . rcases List.mem_cons.1 (hp.mem_iff.1 hf) with rfl | hf
        . have := (h.req r hr).2.2.1
          have := q.2
          dsimp only at this
          omega
        . exact Or.inr ⟨f,hf,q⟩
    dsimp only
    have := countP_lt_of (l := F.waiting) (p := FM.new { F with line := rest,started := F.started + 1,PI := F.PI ++ [(F.ver : Int)],wks := F.wks.set i (some ⟨b,F.ver,nsteps (F.FLs F.ver).length F.chunk,0⟩) }) (q := F.new)
      (fun r hr hn => (new_iff _ _).2 (by
        rcases key r hr hn with q | q
        . left; rw [hl]; exact List.mem_cons_of_mem _ q
        . exact Or.inr q)) (by
        obtain ⟨r,hr,e⟩ := h.lin b (by rw [hl]; exact List.mem_cons_self ..)
        refine ⟨r,hr,(new_iff _ _).2 (Or.inl (by rw [hl,e]; exact List.mem_cons_self ..)),fun hn => ?_⟩
        rcases key r hr hn with q | ⟨f,hf,q,_⟩
        . rw [e] at q; exact hb (List.mem_append_left _ q)
        . rw [e] at q; exact hb (List.mem_append_right _ (List.mem_map.2 ⟨f,hf,q⟩)))
    unfold FM.fresh
    dsimp only
    omega
theorem fresh_step {i : Nat} {f : Fl} (hi : F.wks[i]? = some (some f)) (n c : Nat) : FM.fresh { F with wks := F.wks.set i (some (f.step n c)) } <= F.fresh := by
  have hlt : i < F.wks.length := (List.getElem?_eq_some_iff.1 hi).1
  have p1 := fls_set F.wks i (some (f.step n c)) hlt
  have p2 : F.fls.Perm (f :: (F.wks.set i none).filterMap id) := fls_at hi
  refine countP_le_of fun r hr hn => (new_iff _ _).2 ?_
  rcases (new_iff _ _).1 hn with q | ⟨g,hg,q⟩
  . exact Or.inl q
  . right
    rcases List.mem_cons.1 (p1.mem_iff.1 hg) with rfl | hg
    . exact ⟨f,mem_fls hi,q⟩
    . exact ⟨g,p2.mem_iff.2 (List.mem_cons_of_mem _ hg),q⟩
theorem fresh_finish (h : Ok O F) {i : Nat} {f : Fl} (hi : F.wks[i]? = some (some f)) : (F.finishW O i f).1.fresh <= F.fresh := by
  have hf0 := mem_fls hi
  have p2 : F.fls.Perm (f :: (F.wks.set i none).filterMap id) := fls_at hi
  have hsub : (F.fineL O (F.tilesOf O f) f.reads).Sublist F.waiting := List.filter_sublist
  refine Nat.le_trans ?_ hsub.countP_le
  show (F.fineL O (F.tilesOf O f) f.reads).countP _ <= _
  refine countP_le_of fun r hr hn => (new_iff _ _).2 ?_
  have hr0 := hsub.subset hr
  have hno : r.k.blk = f.b -> (f.reads : Int) < r.asked := by
    intro e
    unfold FM.fineL at hr
    have := (List.mem_filter.1 hr).2
    rw [h.good hf0 hr0] at this
    by_cases c : r.asked <= f.reads
    . rw [if_pos ⟨e,Or.inl c⟩] at this; simp at this
    . omega
  rcases (new_iff _ _).1 hn with q | ⟨g,hg,q⟩
  . have q' : r.k.blk ∈ (if 0 < countFor (F.fineL O (F.tilesOf O f) f.reads) f.b then F.line ++ [f.b] else F.line) := q
    by_cases e : r.k.blk = f.b
    . exact Or.inr ⟨f,hf0,e.symm,hno e⟩
    . split at q'
      . rcases List.mem_append.1 q' with q' | q'
        . exact Or.inl q'
        . simp at q'; exact absurd q' e
      . exact Or.inl q'
  . exact Or.inr ⟨g,p2.mem_iff.2 (List.mem_cons_of_mem _ hg),q⟩
theorem fresh_work (h : Ok O F) (i : Nat) : (F.work O i).1.started + (F.work O i).1.fresh <= F.started + F.fresh := by
  unfold FM.work
  cases e : F.wks[i]? with
  | none => exact Nat.le_refl _
  | some o =>
    cases o with
    | none => exact fresh_take h e
    | some f =>
      dsimp only
      split
      . have := fresh_step e (F.FLs f.reads).length F.chunk
        dsimp only
        omega
      . have := fresh_finish h e
        have e2 : (F.finishW O i f).1.started = F.started := rfl
        omega
theorem fresh_tick (F : FM) : F.tick.1.fresh <= F.fresh := by
  have hsub : (F.waiting.filter fun r => decide (¬ r.due <= ((F.now + 1 : Nat) : Int))).Sublist F.waiting := List.filter_sublist
  refine Nat.le_trans ?_ hsub.countP_le
  show (F.waiting.filter fun r => decide (¬ r.due <= ((F.now + 1 : Nat) : Int))).countP _ <= _
  refine countP_le_of fun r _ hn => (new_iff _ _).2 ?_
  rcases (new_iff _ _).1 hn with q | q
  . exact Or.inl (List.mem_filter.1 q).1
  . exact Or.inr q
theorem fresh_join (h : Ok O F) (k : K4) : (FM.join { F with arrived := F.arrived + 1 } F.arrived k).fresh <= F.fresh + 1 := by
  show (F.waiting ++ [_]).countP _ <= _
  rw [List.countP_append]
  have h1 : ∀ p : Req -> Bool,∀ x,[x].countP p <= 1 := fun p x => List.countP_le_length
  have h2 : F.waiting.countP (FM.new (FM.join { F with arrived := F.arrived + 1 } F.arrived k)) <= F.waiting.countP F.new := by
    refine countP_le_of fun r hr hn => (new_iff _ _).2 ?_
    rcases (new_iff _ _).1 hn with q | q
    . have q' : r.k.blk ∈ (if F.hasFl k.blk then F.line else F.line ++ [k.blk]) := q
      split at q'
      . exact Or.inl q'
      . rename_i c
        rcases List.mem_append.1 q' with q' | q'
        . exact Or.inl q'
        . simp at q'
          exact absurd ((hasFl_iff F k.blk).2 (q' ▸ h.fl r hr)) c
    . exact Or.inr q
  have h3 := h1 (FM.new (FM.join { F with arrived := F.arrived + 1 } F.arrived k)) ⟨F.arrived,k,F.ver,F.now + F.wait⟩
  unfold FM.fresh
  exact Nat.add_le_add h2 h3
end
structure Inv (O : Ora) (F : FM) (b : BM) : Prop where
  ok : Ok O F
  nreq : b.reqs.length = F.arrived
  wai : F.waiting = unsaid F.wait 0 b.reqs
  cnt : b.waiting = F.waiting.length
  bi : BInv O F b
  asks : ∀ (i : Nat) (a : Ask),b.reqs[i]? = some a -> 0 <= a.ver /\ a.ver <= F.ver /\ 0 <= a.now /\ a.now <= F.now /\ (a.e = 0 -> KOk a.k) /\ (a.said = -1 -> a.e = 0) /\ 0 <= a.k.x /\ 0 <= a.k.y
  joi : (F.started : Int) + F.fresh <= b.joined
section
variable {O : Ora} {F G : FM} {b : BM}
theorem SayOk.like (hw : G.wait = F.wait) (hq : G.queue = F.queue) (hv : F.ver <= G.ver) {s : Say} {a : Ask} (ho : ∀ v : Nat,v <= F.ver -> G.FLs v = F.FLs v /\ (a.e = 0 -> O.stamp G.LS v a.k = O.stamp F.LS v a.k)) (h : SayOk O F s a) : SayOk O G s a := by
  unfold SayOk at *
  rw [hw,hq]
  rcases h with h | h | ⟨h1,h2,h3,h4,v,h5,h6,h7,h8,h9⟩ | ⟨h1,h2,h3,h4,h5,h6,v,h7,h8,h9⟩ | h
  . exact Or.inl h
  . exact Or.inr (Or.inl h)
  . refine Or.inr (Or.inr (Or.inl ⟨h1,h2,h3,h4,v,h5,h6,by omega,?_,?_⟩))
    . rw [(ho v h7).1]; exact h8
    . rw [(ho v h7).2 h1]; exact h9
  . refine Or.inr (Or.inr (Or.inr (Or.inl ⟨h1,h2,h3,h4,h5,h6,v,h7,by omega,?_⟩)))
    rw [(ho v h8).2 h1]; exact h9
  . exact Or.inr (Or.inr (Or.inr (Or.inr h)))
theorem BInv.like (hw : G.wait = F.wait) (hq : G.queue = F.queue) (hv : F.ver <= G.ver) (ho : ∀ v : Nat,v <= F.ver -> G.FLs v = F.FLs v) (hs : ∀ v : Nat,v <= F.ver -> ∀ (i : Nat) (a : Ask),b.reqs[i]? = some a -> a.e = 0 -> O.stamp G.LS v a.k = O.stamp F.LS v a.k) (h : BInv O F b) : BInv O G b := by
  refine ⟨fun j s hj => ?_,h.ask⟩
  obtain ⟨h1,h2,h3,a,h4,h5,h6⟩ := h.say j s hj
  exact ⟨h1,h2,by omega,a,h4,h5,h6.like hw hq hv fun v hv => ⟨ho v hv,hs v hv _ a h4⟩⟩
theorem Inv.heard (h : Inv O F b) (hG : Ok O G) (hw : G.wait = F.wait) (hq : G.queue = F.queue) (hv : G.ver = F.ver) (hLS : G.LS = F.LS) (hFL : G.FLs = F.FLs) (ha : G.arrived = F.arrived) (hnow : F.now <= G.now) (hst : G.started + G.fresh <= F.started + F.fresh)
    (by_ : Int) (l : List Rep) (hl : ∀ r ∈ l,∃ q ∈ F.waiting,r.who = q.who /\ ∀ a : Ask,a.k = q.k -> a.ver = q.asked -> a.now + F.wait = q.due -> a.e = 0 -> SayOk O G ⟨r,G.ver,G.now,by_⟩ a) (hp : l.Pairwise fun p q => p.who ≠ q.who)
    (hwt : G.waiting = F.waiting.filter fun q => l.all fun r => decide (q.who ≠ r.who)) (hlen : (G.waiting.length : Int) = F.waiting.length - l.length) : Inv O G (b.hear G.ver G.now by_ l) := by
  have hbi : BInv O G b := h.bi.like hw hq (by omega) (fun v _ => by rw [hFL]) (fun v _ i a _ _ => by rw [hLS])
  have hl' : ∀ r ∈ l,0 <= r.who /\ ∃ a,b.reqs[r.who.toNat]? = some a /\ a.said = -1 /\ SayOk O G ⟨r,G.ver,G.now,by_⟩ a := by
    intro r hr
    obtain ⟨q,hq1,hq2,hq3⟩ := hl r hr
    rw [h.wai] at hq1
    obtain ⟨i,a,q1,q2,q3⟩ := (mem_unsaid _ _ _ _).1 hq1
    rw [Nat.zero_add] at q3
    have e1 : q.who = i := by rw [q3]
    refine ⟨by omega,a,?_,q2,hq3 a (by rw [q3]) (by rw [q3]) (by rw [q3]) ((h.asks i a q1).2.2.2.2.2.1 q2)⟩
    rw [hq2,e1]
    exact q1
  obtain ⟨i1,i2,i3,i4,i5,_,i7⟩ := BInv.hear (now := (G.now : Int)) (by_ := by_) (ver := (G.ver : Int)) ⟨by omega,by omega⟩ l b hbi hl' hp
  refine ⟨hG,?_,?_,?_,i1,?_,?_⟩
  . rw [i3,ha]; exact h.nreq
  . rw [i2,hwt,h.wai,hw]
  . rw [i4,hlen,h.cnt]
  . intro i a' hi
    obtain ⟨a,n,q1,q2⟩ := i7 i a' hi
    have := h.asks i a q1
    rcases i1.ask i a' hi with c | c
    . refine ⟨by rw [q2]; exact this.1,by rw [q2,hv]; exact this.2.1,by rw [q2]; exact this.2.2.1,by rw [q2]; show a.now <= _; omega,fun e => by rw [q2]; exact this.2.2.2.2.1 (by rw [q2] at e; exact e),fun _ => ?_,by rw [q2]; exact this.2.2.2.2.2.2⟩
      -- still without a reply: it had none
      have hm := (mem_unsaid F.wait (b.hear G.ver G.now by_ l).reqs 0 ⟨((0 + i : Nat) : Int),a'.k,a'.ver,a'.now + F.wait⟩).2 ⟨i,a',hi,c,rfl⟩
      rw [i2] at hm
      obtain ⟨i',a'',z1,z2,z3⟩ := (mem_unsaid _ _ _ _).1 (List.mem_filter.1 hm).1
      have : i' = i := by
        have := congrArg Req.who z3
        simp only at this
        omega
      subst this
      rw [q1] at z1
      simp only [Option.some.injEq] at z1
      subst z1
      rw [q2]
      exact (h.asks i' a q1).2.2.2.2.2.1 z2
    . refine ⟨by rw [q2]; exact this.1,by rw [q2,hv]; exact this.2.1,by rw [q2]; exact this.2.2.1,by rw [q2]; show a.now <= _; omega,fun e => by rw [q2]; exact this.2.2.2.2.1 (by rw [q2] at e; exact e),fun q => by omega,by rw [q2]; exact this.2.2.2.2.2.2⟩
  . rw [i5]
    have := h.joi
    omega
theorem who_inj : ∀ {ws : List Req},ws.Pairwise (fun a b => a.who < b.who) -> ∀ {p q : Req},p ∈ ws -> q ∈ ws -> p.who = q.who -> p = q
  | [],_,p,q,hp,_,_ => by simp at hp
  | a :: ws,h,p,q,hp,hq,e => by
    have h' := List.pairwise_cons.1 h
    rcases List.mem_cons.1 hp with e1 | hp1
    . rcases List.mem_cons.1 hq with e2 | hq1
      . rw [e1,e2]
      . have := h'.1 q hq1; rw [e1] at e; omega
    . rcases List.mem_cons.1 hq with e2 | hq1
      . have := h'.1 p hp1; rw [e2] at e; omega
      . exact who_inj h'.2 hp1 hq1 e
theorem filter_all {ws : List Req} (hs : ws.Pairwise fun a b => a.who < b.who) (p : Req -> Bool) (l : List Rep) (hl : l.map Rep.who = (ws.filter p).map Req.who) : (ws.filter fun q => !p q) = ws.filter fun q => l.all fun r => decide (q.who ≠ r.who) := by
  apply List.filter_congr
  intro q hq
  have key : (∃ r ∈ l,r.who = q.who) ↔ p q = true := by
    constructor
    . rintro ⟨r,hr,e⟩
      have : r.who ∈ (ws.filter p).map Req.who := by rw [<- hl]; exact List.mem_map.2 ⟨r,hr,rfl⟩
      obtain ⟨q',hq',e'⟩ := List.mem_map.1 this
      have h1 := List.mem_filter.1 hq'
      have : q' = q := who_inj hs h1.1 hq (by omega)
      rw [<- this]; exact h1.2
    . intro hp
      have : q.who ∈ l.map Rep.who := by rw [hl]; exact List.mem_map.2 ⟨q,List.mem_filter.2 ⟨hq,hp⟩,rfl⟩
      obtain ⟨r,hr,e⟩ := List.mem_map.1 this
      exact ⟨r,hr,e⟩
  by_cases c : p q = true
  . obtain ⟨r,hr,e⟩ := key.2 c
    have : (l.all fun r => decide (q.who ≠ r.who)) = false := by
      rw [List.all_eq_false]
      exact ⟨r,hr,by simp [e]⟩
    rw [this,c]; rfl
  . have : (l.all fun r => decide (q.who ≠ r.who)) = true := by
      rw [List.all_eq_true]
      intro r hr
      rw [decide_eq_true_eq]
      exact fun e => c (key.1 ⟨r,hr,e.symm⟩)
    rw [this]; simp only [Bool.not_eq_true] at c; rw [c]; rfl
end
section
variable {O : Ora} {F G : FM} {b : BM}
theorem filterMap_who (p : Req -> Option Tile) : ∀ ws : List Req,(ws.filterMap fun r => (p r).map fun t => (⟨r.who,200,t.body,t.tag⟩ : Rep)).map Rep.who = (ws.filter fun r => (p r).isSome).map Req.who
  | [] => rfl
  | r :: ws => by
    have ih := filterMap_who p ws
    cases e : p r with
    | none => simp [e,ih]
    | some t => simp [e,ih]
theorem filter_len (p : Req -> Bool) : ∀ ws : List Req,(ws.filter fun q => !p q).length + (ws.filter p).length = ws.length
  | [] => rfl
  | r :: ws => by
    have ih := filter_len p ws
    cases e : p r with
    | true => simp only [List.filter_cons,e,Bool.not_true,List.length_cons]; simp; omega
    | false => simp only [List.filter_cons,e,Bool.not_false,List.length_cons]; simp; omega
theorem pw_who {l : List Rep} {ws : List Req} (hs : ws.Pairwise fun a b => a.who < b.who) (p : Req -> Bool) (hl : l.map Rep.who = (ws.filter p).map Req.who) : l.Pairwise fun p q => p.who ≠ q.who := by
  have h1 : ((ws.filter p).map Req.who).Pairwise fun a b => a < b := by
    rw [List.pairwise_map]
    exact hs.sublist List.filter_sublist
  rw [<- hl,List.pairwise_map] at h1
  exact h1.imp fun h => by omega
theorem Inv.quiet (h : Inv O F b) (hG : Ok O G) (hw : G.wait = F.wait) (hq : G.queue = F.queue) (hv : G.ver = F.ver) (hLS : G.LS = F.LS) (hFL : G.FLs = F.FLs) (ha : G.arrived = F.arrived) (hnow : G.now = F.now) (hst : G.started + G.fresh <= F.started + F.fresh)
    (hwt : G.waiting = F.waiting) (by_ : Int) : Inv O G (b.hear G.ver G.now by_ []) := by
  refine h.heard hG hw hq hv hLS hFL ha (by omega) hst by_ [] (fun r hr => by simp at hr) List.Pairwise.nil ?_ (by rw [hwt]; simp)
  rw [hwt]
  exact (List.filter_eq_self.2 fun _ _ => rfl).symm
theorem Inv.work (h : Inv O F b) (i : Nat) : Inv O (F.work O i).1 (b.hear F.ver F.now 4 (F.work O i).2) := by
  have hlk := work_like (O := O) F i
  have hG := h.ok.work i
  have hst := fresh_work h.ok i
  have hvn : (b.hear F.ver F.now 4 (F.work O i).2) = b.hear (F.work O i).1.ver (F.work O i).1.now 4 (F.work O i).2 := by rw [hlk.ver,hlk.now]
  rw [hvn]
  by_cases hr : (F.work O i).2 = [] /\ (F.work O i).1.waiting = F.waiting
  . rw [hr.1]
    exact h.quiet hG hlk.wait hlk.queue hlk.ver hlk.LS hlk.FLs hlk.arrived hlk.now hst hr.2 4
  . cases e : F.wks[i]? with
    | none => exact absurd (by unfold FM.work; rw [e]; exact ⟨rfl,rfl⟩) hr
    | some o =>
      cases o with
      | none =>
        refine absurd ?_ hr
        unfold FM.work
        rw [e]
        refine ⟨rfl,?_⟩
        dsimp only
        unfold FM.takeW
        cases F.line <;> rfl
      | some f =>
        by_cases c : 1 < f.left
        . exact absurd (by unfold FM.work; rw [e]; dsimp only; rw [if_pos c]; exact ⟨rfl,rfl⟩) hr
        . have ew : F.work O i = F.finishW O i f := by unfold FM.work; rw [e]; dsimp only; rw [if_neg c]
          rw [ew] at hlk hG hst ⊢
          have hf0 := mem_fls e
          have hfl := h.ok.flt f hf0
          have hwho := filterMap_who (F.good O (F.tilesOf O f) f.reads) F.waiting
          have hleft : (F.finishW O i f).1.waiting = F.waiting.filter fun q => !(F.good O (F.tilesOf O f) f.reads q).isSome := by
            show F.fineL O (F.tilesOf O f) f.reads = _
            unfold FM.fineL
            congr 1
            funext q
            cases F.good O (F.tilesOf O f) f.reads q <;> rfl
          refine h.heard hG hlk.wait hlk.queue hlk.ver hlk.LS hlk.FLs hlk.arrived (by rw [hlk.now]; exact Nat.le_refl _) hst 4 (F.fineR O (F.tilesOf O f) f.reads) ?_ (pw_who h.ok.srt _ hwho) ?_ ?_
          . intro r hr
            unfold FM.fineR at hr
            obtain ⟨q,hq,hr⟩ := List.mem_filterMap.1 hr
            refine ⟨q,hq,?_,?_⟩
            . rw [Option.map_eq_some_iff] at hr
              obtain ⟨t,_,rfl⟩ := hr
              rfl
            . intro a a1 a2 a3 a4
              rw [Option.map_eq_some_iff] at hr
              obtain ⟨t,ht,rfl⟩ := hr
              rw [h.ok.good hf0 hq] at ht
              have hreq := h.ok.req q hq
              split at ht
              . rename_i cc
                simp only [Option.some.injEq] at ht
                subst ht
                refine Or.inr (Or.inr (Or.inl ⟨a4,Or.inr rfl,rfl,?_,?_⟩))
                . show (F.now : Int) < a.now + F.wait
                  omega
                . by_cases ca : q.asked <= f.reads
                  . refine ⟨f.reads,by omega,by show (f.reads : Int) <= F.ver; omega,hfl.1,?_,?_⟩
                    . rw [a1]; rfl
                    . rw [a1]; rfl
                  . have hs := cc.2.resolve_left ca
                    have hst := h.ok.still hreq.2.2.2.1 hfl.1 hs
                    refine ⟨F.ver,by omega,by show (F.ver : Int) <= F.ver; omega,Nat.le_refl _,?_,?_⟩
                    . rw [a1,hst]; rfl
                    . rw [a1,hst]; rfl
              . simp at ht
          . rw [hleft]
            exact filter_all h.ok.srt _ _ hwho
          . rw [hleft]
            have e1 := filter_len (fun q => (F.good O (F.tilesOf O f) f.reads q).isSome) F.waiting
            have e2 := congrArg List.length hwho
            rw [List.length_map,List.length_map] at e2
            show _ = (F.waiting.length : Int) - ((F.fineR O (F.tilesOf O f) f.reads).length : Nat)
            unfold FM.fineR
            rw [e2]
            omega
theorem Inv.tick (h : Inv O F b) : Inv O F.tick.1 (b.hear F.ver ((F.now : Int) + 1) 6 F.tick.2) := by
  have hwho : (F.tick.2).map Rep.who = (F.waiting.filter fun r => decide (r.due <= ((F.now + 1 : Nat) : Int))).map Req.who := by
    show ((F.waiting.filter _).map _).map Rep.who = _
    rw [List.map_map]
    rfl
  have hleft : F.tick.1.waiting = F.waiting.filter fun q => !decide (q.due <= ((F.now + 1 : Nat) : Int)) := by
    show F.waiting.filter (fun r => decide (¬ r.due <= ((F.now + 1 : Nat) : Int))) = _
    congr 1
    funext q
    by_cases c : q.due <= ((F.now + 1 : Nat) : Int)
    . rw [decide_eq_true c,decide_eq_false (fun q => q c)]; rfl
    . rw [decide_eq_false c,decide_eq_true c]; rfl
  have hG := h.ok.tick
  have ee : ((F.now : Int) + 1) = F.tick.1.now := by show _ = ((F.now + 1 : Nat) : Int); omega
  rw [ee]
  refine h.heard hG rfl rfl rfl rfl rfl rfl (by show F.now <= F.now + 1; omega) (by have := fresh_tick F; show F.started + _ <= _; omega) 6 F.tick.2 ?_ (pw_who h.ok.srt _ hwho) ?_ ?_
  . intro r hr
    obtain ⟨q,hq,rfl⟩ := List.mem_map.1 hr
    have hq' := List.mem_filter.1 hq
    have hd : q.due <= ((F.now + 1 : Nat) : Int) := by simpa using hq'.2
    refine ⟨q,hq'.1,rfl,fun a _ _ a3 a4 => Or.inr (Or.inl ⟨a4,rfl,rfl,?_,rfl,rfl⟩)⟩
    have := (h.ok.req q hq'.1).1
    show ((F.now + 1 : Nat) : Int) = a.now + F.wait
    omega
  . rw [hleft]
    exact filter_all h.ok.srt _ _ hwho
  . rw [hleft]
    have e1 := filter_len (fun q => decide (q.due <= ((F.now + 1 : Nat) : Int))) F.waiting
    have e2 := congrArg List.length hwho
    rw [List.length_map,List.length_map] at e2
    rw [e2]
    omega
theorem Inv.write (h : Inv O F b) {LS' FL' : List Ft} (hv : F.ver < 100) (hx : Nxt O F.LS F.ver F.FLs LS' FL') : Inv O (F.write O LS' FL') b := by
  refine ⟨h.ok.write hv hx,h.nreq,h.wai,h.cnt,?_,?_,h.joi⟩
  . refine BInv.like (F := F) (G := F.write O LS' FL') rfl rfl (by show F.ver <= F.ver + 1; omega) (fun v hv => by show (if v = F.ver + 1 then FL' else F.FLs v) = _; rw [if_neg (by omega)]) ?_ h.bi
    intro v hv i a ha he
    exact hx.old v hv a.k ((h.asks i a ha).2.2.2.2.1 he)
  . intro i a ha
    have := h.asks i a ha
    exact ⟨this.1,by show a.ver <= ((F.ver + 1 : Nat) : Int); omega,this.2.2.1,this.2.2.2⟩
theorem binv_add (h : BInv O F b) (tag : ByteArray) (k : K4) (e ver now : Int) (n : Bool) : BInv O F (b.add tag k e ver now n) := by
  constructor
  . intro j s hj
    obtain ⟨h1,h2,h3,a,h4,h5,h6⟩ := h.say j s hj
    refine ⟨h1,h2,h3,a,?_,h5,h6⟩
    show (b.reqs ++ [_])[s.r.who.toNat]? = _
    rw [List.getElem?_append_left (List.getElem?_eq_some_iff.1 h4).1,h4]
  . intro i a hi
    have hi' : (b.reqs ++ [⟨tag,k,e,ver,now,b.waiting,-1⟩])[i]? = some a := hi
    rw [List.getElem?_append] at hi'
    split at hi'
    . exact h.ask i a hi'
    . by_cases c : i - b.reqs.length = 0
      . rw [c] at hi'; simp at hi'; subst hi'; exact Or.inl rfl
      . rw [List.getElem?_eq_none (by simp; omega)] at hi'; simp at hi'
theorem add_asks (h : Inv O F b) (tag : ByteArray) {k : K4} {e : Int} (hk : e = 0 -> KOk k) (hx : 0 <= k.x /\ 0 <= k.y) (n : Bool) : ∀ (i : Nat) (a : Ask),(b.add tag k e F.ver F.now n).reqs[i]? = some a ->
    0 <= a.ver /\ a.ver <= F.ver /\ 0 <= a.now /\ a.now <= F.now /\ (a.e = 0 -> KOk a.k) /\ (i < b.reqs.length -> a.said = -1 -> a.e = 0) /\ 0 <= a.k.x /\ 0 <= a.k.y := by
  intro i a hi
  have hi' : (b.reqs ++ [⟨tag,k,e,F.ver,F.now,b.waiting,-1⟩])[i]? = some a := hi
  rw [List.getElem?_append] at hi'
  split at hi'
  . have := h.asks i a hi'
    exact ⟨this.1,this.2.1,this.2.2.1,this.2.2.2.1,this.2.2.2.2.1,fun _ => this.2.2.2.2.2.1,this.2.2.2.2.2.2⟩
  . rename_i c0
    by_cases c : i - b.reqs.length = 0
    . rw [c] at hi'; simp at hi'; subst hi'
      exact ⟨by show (0 : Int) <= F.ver; omega,by show (F.ver : Int) <= F.ver; omega,by show (0 : Int) <= F.now; omega,by show (F.now : Int) <= F.now; omega,hk,fun q => absurd q c0,hx⟩
    . rw [List.getElem?_eq_none (by simp; omega)] at hi'; simp at hi'
theorem Inv.atOnce (h : Inv O F b) (hG : Ok O G) (hlk : G.queue = F.queue /\ G.wait = F.wait /\ G.ver = F.ver /\ G.LS = F.LS /\ G.FLs = F.FLs /\ G.arrived = F.arrived + 1 /\ G.now = F.now /\ G.started = F.started /\ G.waiting = F.waiting /\ G.fresh = F.fresh)
    (tag : ByteArray) {k : K4} {e : Int} (hk : e = 0 -> KOk k) (hx : 0 <= k.x /\ 0 <= k.y) (r : Rep) (hr : r.who = F.arrived) (hs : SayOk O F ⟨r,F.ver,F.now,1⟩ ⟨tag,k,e,F.ver,F.now,b.waiting,-1⟩) :
    Inv O G ((b.add tag k e F.ver F.now false).hear F.ver F.now 1 [r]) := by
  obtain ⟨g1,g2,g3,g4,g5,g6,g7,g8,g9,g10⟩ := hlk
  have hb1 := binv_add h.bi tag k e F.ver F.now false
  have hlast : (b.add tag k e F.ver F.now false).reqs[r.who.toNat]? = some ⟨tag,k,e,F.ver,F.now,b.waiting,-1⟩ := by
    show (b.reqs ++ [_])[r.who.toNat]? = _
    rw [hr,show ((F.arrived : Int)).toNat = b.reqs.length by rw [h.nreq]; omega]
    simp
  obtain ⟨i1,i2,i3,i4,i5,_,i7⟩ := BInv.hear (now := (F.now : Int)) (by_ := 1) (ver := (F.ver : Int)) ⟨by omega,by omega⟩ [r] _ hb1 (by
    intro q hq
    simp at hq
    subst hq
    exact ⟨by omega,_,hlast,rfl,hs⟩) (List.pairwise_singleton _ _)
  have hun : ∀ wait,unsaid wait 0 ((b.add tag k e F.ver F.now false).hear F.ver F.now 1 [r]).reqs = unsaid wait 0 b.reqs := by
    intro wait
    rw [i2]
    show (unsaid wait 0 (b.reqs ++ [⟨tag,k,e,F.ver,F.now,b.waiting,-1⟩])).filter _ = _
    rw [unsaid_app,List.filter_append]
    have e1 : (unsaid wait 0 b.reqs).filter (fun q => [r].all fun r => decide (q.who ≠ r.who)) = unsaid wait 0 b.reqs := by
      rw [List.filter_eq_self]
      intro q hq
      obtain ⟨i,a,q1,_,q3⟩ := (mem_unsaid _ _ _ _).1 hq
      have hi : i < b.reqs.length := (List.getElem?_eq_some_iff.1 q1).1
      rw [h.nreq] at hi
      have : q.who = i := by rw [q3]; simp
      simp only [List.all_cons,List.all_nil,Bool.and_true,decide_eq_true_eq]
      omega
    have e2 : (unsaid wait (0 + b.reqs.length) [⟨tag,k,e,F.ver,F.now,b.waiting,-1⟩]).filter (fun q => [r].all fun r => decide (q.who ≠ r.who)) = [] := by
      unfold unsaid
      rw [if_pos rfl,h.nreq]
      simp [unsaid,hr]
    rw [e1,e2,List.append_nil]
  refine ⟨hG,?_,?_,?_,?_,?_,?_⟩
  . rw [i3,g6,<- h.nreq]; simp [BM.add]
  . rw [hun,g9,g2]; exact h.wai
  . rw [i4,g9]
    show b.waiting + 1 - ((1 : Nat) : Int) = _
    rw [h.cnt]; omega
  . exact i1.like g2 g1 (by omega) (fun v _ => by rw [g5]) (fun v _ i a _ _ => by rw [g4])
  . intro i a' hi
    obtain ⟨a,n,q1,q2⟩ := i7 i a' hi
    have := add_asks h tag hk hx false i a q1
    refine ⟨by rw [q2]; exact this.1,by rw [q2,g3]; exact this.2.1,by rw [q2]; exact this.2.2.1,by rw [q2,g7]; exact this.2.2.2.1,fun e => by rw [q2]; exact this.2.2.2.2.1 (by rw [q2] at e; exact e),fun c => ?_,by rw [q2]; exact this.2.2.2.2.2.2.1,by rw [q2]; exact this.2.2.2.2.2.2.2⟩
    have hm := (mem_unsaid F.wait ((b.add tag k e F.ver F.now false).hear F.ver F.now 1 [r]).reqs 0 ⟨((0 + i : Nat) : Int),a'.k,a'.ver,a'.now + F.wait⟩).2 ⟨i,a',hi,c,rfl⟩
    rw [hun] at hm
    obtain ⟨i',a'',z1,z2,z3⟩ := (mem_unsaid _ _ _ _).1 hm
    have hii : i' = i := by
      have := congrArg Req.who z3
      simp only at this
      omega
    subst hii
    have hlt : i' < b.reqs.length := (List.getElem?_eq_some_iff.1 z1).1
    have q1' : (b.reqs ++ [⟨tag,k,e,F.ver,F.now,b.waiting,-1⟩])[i']? = some a := q1
    rw [List.getElem?_append_left hlt,z1] at q1'
    simp only [Option.some.injEq] at q1'
    subst q1'
    rw [q2]
    exact (h.asks i' a'' z1).2.2.2.2.2.1 z2
  . rw [i5,g8,g10]; exact h.joi
theorem Inv.joins (h : Inv O F b) (tag : ByteArray) {k : K4} (hk : KOk k) (hq : F.waiting.length < F.queue) : Inv O (FM.join { F with arrived := F.arrived + 1 } F.arrived k) (b.add tag k 0 F.ver F.now true) := by
  refine ⟨h.ok.join hk hq,?_,?_,?_,?_,?_,?_⟩
  . show (b.reqs ++ [_]).length = F.arrived + 1
    simp [h.nreq]
  . show F.waiting ++ [_] = unsaid F.wait 0 (b.reqs ++ [_])
    rw [unsaid_app,<- h.wai]
    unfold unsaid
    rw [if_pos rfl,h.nreq,Nat.zero_add]
    rfl
  . show b.waiting + 1 = ((F.waiting ++ [_]).length : Int)
    rw [h.cnt]; simp
  . exact BInv.like (F := F) rfl rfl (Nat.le_refl F.ver) (fun _ _ => rfl) (fun _ _ _ _ _ _ => rfl) (binv_add h.bi tag k 0 F.ver F.now true)
  . intro i a hi
    have := add_asks h tag (fun _ => hk) ⟨hk.x.1,hk.y.1⟩ true i a hi
    refine ⟨this.1,this.2.1,this.2.2.1,this.2.2.2.1,this.2.2.2.2.1,fun c => ?_,this.2.2.2.2.2.2⟩
    by_cases hlt : i < b.reqs.length
    . exact this.2.2.2.2.2.1 hlt c
    . have hi' : (b.reqs ++ [⟨tag,k,0,F.ver,F.now,b.waiting,-1⟩])[i]? = some a := hi
      rw [List.getElem?_append_right (by omega)] at hi'
      by_cases d : i - b.reqs.length = 0
      . rw [d] at hi'; simp at hi'; subst hi'; rfl
      . rw [List.getElem?_eq_none (by simp; omega)] at hi'; simp at hi'
  . have := fresh_join h.ok k
    have := h.joi
    show (F.started : Int) + _ <= b.joined + 1
    omega
theorem Inv.arriveK (h : Inv O F b) (tag : ByteArray) {k : K4} (hk : KOk k) : Inv O (F.arriveK O k tag).1 ((b.add tag k 0 F.ver F.now (F.arriveK O k tag).2.isEmpty).hear F.ver F.now 1 (F.arriveK O k tag).2) := by
  have hwt := h.ok.wt
  unfold FM.arriveK
  dsimp only
  split
  . rename_i e
    exact h.atOnce (h.ok.arriveE 0) ⟨rfl,rfl,rfl,rfl,rfl,rfl,rfl,rfl,rfl,rfl⟩ tag (fun _ => hk) ⟨hk.x.1,hk.y.1⟩ _ rfl (Or.inr (Or.inr (Or.inr (Or.inl ⟨rfl,rfl,rfl,by show (F.now : Int) < F.now + F.wait; omega,rfl,e.symm,F.ver,rfl,Nat.le_refl _,rfl⟩))))
  . cases e : findT F.tiles k with
    | some t =>
      dsimp only
      have ht := findT_some e
      have ht2 := h.ok.til t ht.1
      refine h.atOnce (h.ok.used ht.1) ⟨rfl,rfl,rfl,rfl,rfl,rfl,rfl,rfl,rfl,rfl⟩ tag (fun _ => hk) ⟨hk.x.1,hk.y.1⟩ _ rfl (Or.inr (Or.inr (Or.inl ⟨rfl,Or.inl rfl,rfl,by show (F.now : Int) < F.now + F.wait; omega,F.ver,Int.le_refl _,Int.le_refl _,Nat.le_refl _,?_,?_⟩)))
      . show t.body = _
        rw [ht2.2,ht.2]; rfl
      . show t.tag = _
        rw [ht2.2,ht.2]; rfl
    | none =>
      dsimp only
      split
      . rename_i c
        refine h.atOnce (h.ok.arriveE 0) ⟨rfl,rfl,rfl,rfl,rfl,rfl,rfl,rfl,rfl,rfl⟩ tag (fun _ => hk) ⟨hk.x.1,hk.y.1⟩ _ rfl (Or.inr (Or.inr (Or.inr (Or.inr ⟨rfl,rfl,rfl,by show (F.now : Int) < F.now + F.wait; omega,?_,rfl,rfl⟩))))
        show b.waiting = F.queue
        have := h.ok.wq
        rw [h.cnt]; omega
      . exact h.joins tag hk (by omega)
theorem Inv.arriveE (h : Inv O F b) (tag : ByteArray) {e : Int} (he : e ≠ 0) (k : K4) (hx : 0 <= k.x /\ 0 <= k.y) : Inv O (F.arriveE e).1 ((b.add tag k e F.ver F.now (F.arriveE e).2.isEmpty).hear F.ver F.now 1 (F.arriveE e).2) :=
  h.atOnce (h.ok.arriveE e) ⟨rfl,rfl,rfl,rfl,rfl,rfl,rfl,rfl,rfl,rfl⟩ tag (fun q => absurd q he) hx _ rfl (Or.inl ⟨he,rfl,rfl,rfl,rfl⟩)
end
end Go.Proofs.YtpopchckldbhdaaGreatDoor
namespace Go.Proofs.YtpopchckldbhdaaGreatDoor
open Go.RowKit
set_option maxRecDepth 20000
structure BV where
  fb : Nat
  q : Int
  wk : Int
  wt : Int
  ca : Int
  ch : Int
  wv : Value
  nw : Int
  rv : Value
  sv : Value
  wai : Int
  joi : Int
def BV.a (B : BV) : Array Value := #[.pointer (some ⟨B.fb,0,none⟩),.int .i64 B.q,.int .i64 B.wk,.int .i64 B.wt,.int .i64 B.ca,.int .i64 B.ch,B.wv,.int .i64 B.nw,B.rv,B.sv,.int .i64 B.wai,.int .i64 B.joi,.bool false]
abbrev BBlk (w : World) (bb : Nat) (B : BV) : Prop := w.heap[bb]? = some (.cells B.a 33 (0,0))
theorem BBlk.cells {w : World} {bb : Nat} {B : BV} (h : BBlk w bb B) (i : Nat) : w.cell? ⟨bb,i,none⟩ = B.a[i]? := blk_cells h i
theorem BBlk.set {w : World} {bb : Nat} {B : BV} (h : BBlk w bb B) (i : Nat) (v : Value) {C : BV} (e : B.a.setIfInBounds i v = C.a) : BBlk (w.setCell ⟨bb,i,none⟩ v) bb C := by
  show (w.setCell ⟨bb,i,none⟩ v).heap[bb]? = _
  rw [<- e]
  have h' : w.heap[bb]? = some (.cells B.a 33 (0,0)) := h
  simp [World.setCell,Array.getElem?_modify,h']
theorem frzB {w : World} {bb : Nat} {B : BV} (h : BBlk w bb B) (i : Nat) : w.frozen? ⟨bb,i,none⟩ = false := frz_blk h i
theorem BV.set_nw (B : BV) (v : Int) : B.a.setIfInBounds 7 (.int .i64 v) = ({ B with nw := v } : BV).a := rfl
theorem BV.set_wv (B : BV) (v : Value) : B.a.setIfInBounds 6 v = ({ B with wv := v } : BV).a := rfl
theorem BV.set_rv (B : BV) (v : Value) : B.a.setIfInBounds 8 v = ({ B with rv := v } : BV).a := rfl
theorem BV.set_sv (B : BV) (v : Value) : B.a.setIfInBounds 9 v = ({ B with sv := v } : BV).a := rfl
theorem BV.set_wai (B : BV) (v : Int) : B.a.setIfInBounds 10 (.int .i64 v) = ({ B with wai := v } : BV).a := rfl
theorem BV.set_joi (B : BV) (v : Int) : B.a.setIfInBounds 11 (.int .i64 v) = ({ B with joi := v } : BV).a := rfl
def BFoot (bb : Nat) (B : BV) (WS : List Sli) (k : Nat) : Prop := k = bb \/ B.wv.ownBlock = some k \/ B.rv.ownBlock = some k \/ B.sv.ownBlock = some k \/ ∃ (i : Nat) (s : Sli),WS[i]? = some s /\ s.v.ownBlock = some k
theorem BFoot.elim {P : Nat -> Prop} {bb : Nat} {B : BV} {WS : List Sli} {k : Nat} (hk : BFoot bb B WS k) (h0 : P bb) (h1 : ∀ k,B.wv.ownBlock = some k -> P k) (h2 : ∀ k,B.rv.ownBlock = some k -> P k) (h3 : ∀ k,B.sv.ownBlock = some k -> P k) (h4 : ∀ (i : Nat) (s : Sli),WS[i]? = some s -> ∀ k,s.v.ownBlock = some k -> P k) : P k := by
  rcases hk with rfl | q | q | q | ⟨i,s,hs,q⟩
  . exact h0
  . exact h1 k q
  . exact h2 k q
  . exact h3 k q
  . exact h4 i s hs k q
section
variable {bb : Nat} {B : BV} {WS : List Sli} {k : Nat}
theorem BFoot.iB : BFoot bb B WS bb := Or.inl rfl
theorem BFoot.iW (h : B.wv.ownBlock = some k) : BFoot bb B WS k := Or.inr (Or.inl h)
theorem BFoot.iR (h : B.rv.ownBlock = some k) : BFoot bb B WS k := Or.inr (Or.inr (Or.inl h))
theorem BFoot.iS (h : B.sv.ownBlock = some k) : BFoot bb B WS k := Or.inr (Or.inr (Or.inr (Or.inl h)))
theorem BFoot.iF {i : Nat} {s : Sli} (hs : WS[i]? = some s) (h : s.v.ownBlock = some k) : BFoot bb B WS k := Or.inr (Or.inr (Or.inr (Or.inr ⟨i,s,hs,h⟩)))
end
structure BNum (B : BV) (fb : Nat) (F : FM) (M : BM) : Prop where
  fb : B.fb = fb
  q : B.q = F.queue
  wk : B.wk = F.wks.length
  wt : B.wt = F.wait
  ca : B.ca = F.room
  ch : B.ch = F.chunk
  nw : B.nw = F.now
  wai : B.wai = M.waiting
  joi : B.joi = M.joined
structure BMem (w : World) (B : BV) (WS : List Sli) (ver : Nat) (FLs : Nat -> List Ft) (reqs : List Ask) (says : List Say) : Prop where
  was : OwnR rSli 69 w B.wv WS
  len : WS.length = ver + 1
  fea : ∀ (i : Nat) (s : Sli),WS[i]? = some s -> OwnR rF 86 w s.v (FLs i)
  req : OwnR rAsk 42 w B.rv reqs
  say : OwnR rSay 37 w B.sv says
structure Bk (w : World) (bb fb : Nat) (B : BV) (WS : List Sli) (F : FM) (M : BM) : Prop where
  blk : BBlk w bb B
  num : BNum B fb F M
  mem : BMem w B WS F.ver F.FLs M.reqs M.says
theorem BFoot.lt {w : World} {bb fb : Nat} {B : BV} {WS : List Sli} {F : FM} {M : BM} (h : Bk w bb fb B WS F M) {k : Nat} (hk : BFoot bb B WS k) : k < w.heap.size := hk.elim (P := fun k => k < w.heap.size) (blk_lt h.blk) (fun _ q => h.mem.was.lt q) (fun _ q => h.mem.req.lt q) (fun _ q => h.mem.say.lt q) (fun i s hs _ q => (h.mem.fea i s hs).lt q)
theorem Bk.frm {w w' : World} {bb fb : Nat} {B : BV} {WS : List Sli} {F : FM} {M : BM} {S : Nat -> Prop} (h : Bk w bb fb B WS F M) (hF : Frm S w w') (hS : ∀ k,BFoot bb B WS k -> ¬ S k) : Bk w' bb fb B WS F M :=
  ⟨blk_frm h.blk hF (hS _ BFoot.iB),h.num,⟨h.mem.was.frm hF fun _ q => hS _ (BFoot.iW q),h.mem.len,fun i s hs => (h.mem.fea i s hs).frm hF fun _ q => hS _ (BFoot.iF hs q),h.mem.req.frm hF fun _ q => hS _ (BFoot.iR q),h.mem.say.frm hF fun _ q => hS _ (BFoot.iS q)⟩⟩
structure Bas where
  w : World
  T : Nat -> Prop
  lt : ∀ k,T k -> k < w.heap.size
  b4 : ∀ k,k < 4 -> T k
theorem Bas.four {b : Bas} {k : Nat} (h : ¬ b.T k) : 4 <= k := by
  rcases Nat.lt_or_ge k 4 with q | q
  . exact absurd (b.b4 k q) h
  . exact q
theorem Bas.size4 (b : Bas) : 4 <= b.w.heap.size := by have := b.lt 3 (b.b4 3 (by omega)); omega
theorem Bas.out {b : Bas} {k : Nat} (h : b.w.heap.size <= k) : ¬ b.T k := fun q => by have := b.lt k q; omega
def Bas.all (w : World) (h : 4 <= w.heap.size) : Bas := ⟨w,fun k => k < w.heap.size,fun _ q => q,fun k q => by omega⟩
structure Kp (b : Bas) (w : World) : Prop where
  os : w.os = b.w.os
  tape : w.tape = b.w.tape
  output : w.output = b.w.output
  size : b.w.heap.size <= w.heap.size
  block : ∀ k,b.T k -> w.heap[k]? = b.w.heap[k]?
theorem Kp.on {b : Bas} {w w' : World} (h : Kp b w) (hb : Below w.heap.size w w') : Kp b w' := ⟨hb.os.trans h.os,hb.tape.trans h.tape,hb.output.trans h.output,Nat.le_trans h.size hb.size,fun k hk => (hb.block k (Nat.lt_of_lt_of_le (b.lt k hk) h.size)).trans (h.block k hk)⟩
theorem Kp.of {w w' : World} {h4 : 4 <= w.heap.size} (h : Below w.heap.size w w') : Kp (Bas.all w h4) w' := ⟨h.os,h.tape,h.output,h.size,fun k hk => h.block k hk⟩
structure St (w0 : Bas) (w : World) (bb fb : Nat) (Φ Ψ : Nat -> Prop) (B : BV) (WS : List Sli) (F : FM) (M : BM) : Prop where
  fro : FroE w fb Ψ F
  bk : Bk w bb fb B WS F M
  foot : ∀ k,BFoot bb B WS k -> Φ k
  dj : ∀ k,Φ k -> ¬ Ψ k
  up : ∀ k,Φ k \/ Ψ k -> ¬ w0.T k
  lt : ∀ k,Φ k -> k < w.heap.size
  bel : Kp w0 w
def StE (w0 : Bas) (w : World) (bb fb : Nat) (F : FM) (M : BM) : Prop := ∃ Φ Ψ B WS,St w0 w bb fb Φ Ψ B WS F M
theorem Frm.bel {S : Nat -> Prop} {b : Bas} {w w' : World} (hF : Frm S w w') (hb : Kp b w) (hB : b.w.heap.size <= w.heap.size) (hS : ∀ k,S k -> ¬ b.T k) : Kp b w' :=
  ⟨hF.os.trans hb.os,hF.tape.trans hb.tape,hF.output.trans hb.output,Nat.le_trans hb.size hF.size,fun k hk => (hF.block k (Nat.lt_of_lt_of_le (b.lt k hk) hB) (fun q => hS k q hk)).trans (hb.block k hk)⟩
theorem St.call {w0 : Bas} {w w' : World} {bb fb : Nat} {Φ Ψ : Nat -> Prop} {B : BV} {WS : List Sli} {F F' : FM} {M : BM} {l : List Rep} {rv : Value} (h : St w0 w bb fb Φ Ψ B WS F M) (hp : FPost w fb Ψ F' l rv w') : FroE w' fb (NewS Ψ w.heap.size) F' /\ Bk w' bb fb B WS F M /\ (∀ k,Φ k -> ¬ NewS Ψ w.heap.size k) /\ (∀ k,Φ k \/ NewS Ψ w.heap.size k -> ¬ w0.T k) /\ (∀ k,Φ k -> k < w'.heap.size) /\ Kp w0 w' := by
  have hsz := hp.frm.size
  have hb0 := h.bel.size
  refine ⟨hp.fro,h.bk.frm hp.frm fun k hk => h.dj k (h.foot k hk),fun k hk q => ?_,fun k hk => ?_,fun k hk => by have := h.lt k hk; omega,hp.frm.bel h.bel hb0 fun k q => h.up k (Or.inr q)⟩
  . rcases q with q | q
    . exact h.dj k hk q
    . have := h.lt k hk; omega
  . rcases hk with q | q | q
    . exact h.up k (Or.inl q)
    . exact h.up k (Or.inr q)
    . exact Bas.out (by omega)
theorem St.on {w0 : Bas} {w w' : World} {bb fb : Nat} {Φ Ψ : Nat -> Prop} {B : BV} {WS : List Sli} {F : FM} {M : BM} (h : St w0 w bb fb Φ Ψ B WS F M) (hb : Below w.heap.size w w') : St w0 w' bb fb Φ Ψ B WS F M :=
  ⟨h.fro.on hb,h.bk.frm (S := fun _ => False) (Frm.of_below hb) (fun _ _ q => q),h.foot,h.dj,h.up,fun k hk => by have := h.lt k hk; have := hb.size; omega,h.bel.on hb⟩
theorem StE.on {w0 : Bas} {w w' : World} {bb fb : Nat} {F : FM} {M : BM} (h : StE w0 w bb fb F M) (hb : Below w.heap.size w w') : StE w0 w' bb fb F M := by
  obtain ⟨Φ,Ψ,B,WS,h⟩ := h
  exact ⟨Φ,Ψ,B,WS,h.on hb⟩
theorem St.tight {w0 : Bas} {w : World} {bb fb : Nat} {Φ Ψ : Nat -> Prop} {B : BV} {WS : List Sli} {F : FM} {M : BM} (h : St w0 w bb fb Φ Ψ B WS F M) : St w0 w bb fb Φ (fun k => Ψ k /\ k < w.heap.size) B WS F M :=
  ⟨h.fro.tight,h.bk,h.foot,fun k hk q => h.dj k hk q.1,fun k hk => h.up k (hk.imp id And.left),h.lt,h.bel⟩
theorem St.own {w0 : Bas} {w w' : World} {bb fb : Nat} {Φ Ψ S : Nat -> Prop} {B B' : BV} {WS WS' : List Sli} {F : FM} {M M' : BM} (h : St w0 w bb fb Φ Ψ B WS F M) (hF : Frm S w w') (hS : ∀ k,S k -> BFoot bb B WS k \/ w.heap.size <= k) (hb : Bk w' bb fb B' WS' F M') (hn : ∀ k,BFoot bb B' WS' k -> BFoot bb B WS k \/ w.heap.size <= k) :
    St w0 w' bb fb (fun k => Φ k \/ (w.heap.size <= k /\ k < w'.heap.size)) (fun k => Ψ k /\ k < w.heap.size) B' WS' F M' := by
  have hsz := hF.size
  have hb0 := h.bel.size
  refine ⟨h.fro.tight.frm hF (fun k hk q => ?_) (fun k q => ?_),hb,fun k hk => ?_,fun k hk q => ?_,fun k hk => ?_,fun k hk => ?_,hF.bel h.bel hb0 (fun k q => ?_)⟩
  . rcases hS k q with e | e
    . exact h.dj k (h.foot k e) hk.1
    . omega
  . rcases hS k q with e | e
    . exact Bas.four (h.up k (Or.inl (h.foot k e)))
    . have := w0.size4; omega
  . rcases hn k hk with e | e
    . exact Or.inl (h.foot k e)
    . exact Or.inr ⟨e,BFoot.lt hb hk⟩
  . rcases hk with e | e
    . exact h.dj k e q.1
    . omega
  . rcases hk with (e | e) | e
    . exact h.up k (Or.inl e)
    . exact Bas.out (by omega)
    . exact h.up k (Or.inr e.1)
  . rcases hk with e | e
    . have := h.lt k e; omega
    . exact e.2
  . rcases hS k q with e | e
    . exact h.up k (Or.inl (h.foot k e))
    . exact Bas.out (by omega)
def BelB (w : World) (b : Bas) : Prop := Below w.heap.size w b.w /\ ∀ k,k < w.heap.size -> b.T k
theorem BelB.pre {w w1 : World} {b : Bas} (hb : Below w.heap.size w w1) (h : BelB w1 b) : BelB w b := ⟨hb.trans (h.1.mono hb.size),fun k hk => h.2 k (by have := hb.size; omega)⟩
theorem BelB.all (w : World) (h : 4 <= w.heap.size) : BelB w (Bas.all w h) := ⟨Below.refl _ _,fun _ q => q⟩
theorem StE.below {b : Bas} {w w' : World} {bb fb : Nat} {F : FM} {M : BM} (h : StE b w' bb fb F M) (hb : BelB w b) : Below w.heap.size w w' := by
  obtain ⟨_,_,_,_,h⟩ := h
  exact ⟨h.bel.os.trans hb.1.os,h.bel.tape.trans hb.1.tape,h.bel.output.trans hb.1.output,Nat.le_trans hb.1.size h.bel.size,fun k hk => (h.bel.block k (hb.2 k hk)).trans (hb.1.block k hk)⟩
set_option maxHeartbeats 1600000 in
theorem version_any (bb : Nat) (B : BV) (n : Nat) (w : World) (hb : BBlk w bb B) (hn : 1 <= n /\ n <= 2000000000000) (hw : ∃ oa cap,B.wv = .slice oa n cap) :
    Calls Tryz.prog 29 #[.pointer (some ⟨bb,0,none⟩)] w fun e w' => e = .returned (.int .i64 ((n : Int) - 1)) /\ w = w' := by
  obtain ⟨oa,cap,e⟩ := hw
  have c6 : w.cell? ⟨bb,6,none⟩ = some (.slice oa n cap) := by rw [<- e]; exact hb.cells 6
  clear hb e
  go_enter Tryz.func29,Tryz.ntmps29
  go_wp2_with fail
  go_ret
  exact ⟨ret_int (by go_num),rfl⟩
structure Valid (b : BM) (l : List Rep) : Prop where
  each : ∀ r ∈ l,0 <= r.who /\ ∃ a,b.reqs[r.who.toNat]? = some a /\ a.said = -1
  dis : l.Pairwise fun p q => p.who ≠ q.who
section
variable {O : Ora} {F G : FM} {b c : BM} {ver now by_ : Int}
theorem hear1_get {r : Rep} {a : Ask} (ha : b.reqs[r.who.toNat]? = some a) (i : Nat) : (b.hear1 ver now by_ r).reqs[i]? = if i = r.who.toNat then some { a with said := (b.says.length : Int) } else b.reqs[i]? := by
  show (b.reqs.modify r.who.toNat fun a => { a with said := (b.says.length : Int) })[i]? = _
  rw [List.getElem?_modify]
  by_cases e : i = r.who.toNat
  . subst e; simp [ha]
  . rw [if_neg e]; cases b.reqs[i]? <;> simp [Ne.symm e]
theorem Valid.next {r : Rep} {l : List Rep} (h : Valid b (r :: l)) : Valid (b.hear1 ver now by_ r) l := by
  have hp := List.pairwise_cons.1 h.dis
  obtain ⟨h0,a,ha,_⟩ := h.each r (List.mem_cons_self ..)
  refine ⟨fun q hq => ?_,hp.2⟩
  obtain ⟨q0,a',qa,qs⟩ := h.each q (List.mem_cons_of_mem _ hq)
  refine ⟨q0,a',?_,qs⟩
  rw [hear1_get ha,if_neg]
  . exact qa
  . have := hp.1 q hq
    omega
theorem Valid.drop : ∀ {l : List Rep} {b : BM} (k : Nat),Valid b l -> Valid (b.hear ver now by_ (l.take k)) (l.drop k)
  | l,b,0,h => by simpa [BM.hear] using h
  | [],b,k + 1,h => by simpa [BM.hear] using h
  | r :: l,b,k + 1,h => by
    rw [List.take_succ_cons,List.drop_succ_cons]
    exact Valid.drop (b := b.hear1 ver now by_ r) k h.next
theorem hear_snoc (b : BM) (l : List Rep) (r : Rep) : b.hear ver now by_ (l ++ [r]) = (b.hear ver now by_ l).hear1 ver now by_ r := by simp [BM.hear,List.foldl_append]
theorem hear_take (b : BM) {l : List Rep} {k : Nat} {r : Rep} (h : l[k]? = some r) : b.hear ver now by_ (l.take (k + 1)) = (b.hear ver now by_ (l.take k)).hear1 ver now by_ r := by
  rw [List.take_add_one,h]
  exact hear_snoc b _ r
theorem hear_sz : ∀ (l : List Rep) (b : BM),(b.hear ver now by_ l).reqs.length = b.reqs.length /\ (b.hear ver now by_ l).waiting = b.waiting - l.length /\ (b.hear ver now by_ l).joined = b.joined /\ (b.hear ver now by_ l).says = b.says ++ l.map fun r => ⟨r,ver,now,by_⟩
  | [],b => by simp [BM.hear]
  | r :: l,b => by
    obtain ⟨h1,h2,h3,h4⟩ := hear_sz l (b.hear1 ver now by_ r)
    refine ⟨h1.trans (by simp [BM.hear1]),h2.trans ?_,h3,h4.trans ?_⟩
    . simp [BM.hear1]; omega
    . simp [BM.hear1]
theorem hear_req : ∀ (l : List Rep) (b : BM),Valid b l -> ∀ (i : Nat) (a' : Ask),(b.hear ver now by_ l).reqs[i]? = some a' -> ∃ (a : Ask) (n : Int),b.reqs[i]? = some a /\ a' = { a with said := n } /\ (a.said ≠ -1 -> n = a.said)
  | [],b,_,i,a',h => ⟨a',a'.said,h,rfl,fun _ => rfl⟩
  | r :: l,b,hv,i,a',h => by
    obtain ⟨a,n,h1,h2,h3⟩ := hear_req l (b.hear1 ver now by_ r) hv.next i a' h
    obtain ⟨h0,ar,har,hs⟩ := hv.each r (List.mem_cons_self ..)
    rw [hear1_get har] at h1
    split at h1
    . rename_i e
      simp only [Option.some.injEq] at h1
      subst h1
      exact ⟨ar,n,by rw [e]; exact har,h2,fun q => absurd hs q⟩
    . exact ⟨a,n,h1,h2,h3⟩
theorem Inv.valid (h : Inv O F b) (p : Req -> Bool) {l : List Rep} (e : l.map Rep.who = (F.waiting.filter p).map Req.who) : Valid b l := by
  refine ⟨fun r hr => ?_,pw_who h.ok.srt p e⟩
  have hm : r.who ∈ (F.waiting.filter p).map Req.who := by rw [<- e]; exact List.mem_map.2 ⟨r,hr,rfl⟩
  obtain ⟨q,hq,e1⟩ := List.mem_map.1 hm
  have hq1 := (List.mem_filter.1 hq).1
  rw [h.wai] at hq1
  obtain ⟨i,a,q1,q2,q3⟩ := (mem_unsaid _ _ _ _).1 hq1
  have e2 : r.who = i := by rw [<- e1,q3]; simp
  exact ⟨by omega,a,by rw [e2]; simpa using q1,q2⟩
theorem work_who (F : FM) (i : Nat) : ∃ p,(F.work O i).2.map Rep.who = (F.waiting.filter p).map Req.who := by
  unfold FM.work
  cases F.wks[i]? with
  | none => exact ⟨fun _ => false,by simp⟩
  | some o =>
    cases o with
    | none => exact ⟨fun _ => false,by simp⟩
    | some f =>
      dsimp only
      split
      . exact ⟨fun _ => false,by simp⟩
      . exact ⟨_,filterMap_who _ _⟩
theorem work_fine (F : FM) (i : Nat) : ∀ r ∈ (F.work O i).2,r.st = 200 := by
  unfold FM.work
  cases F.wks[i]? with
  | none => intro r hr; simp at hr
  | some o =>
    cases o with
    | none => intro r hr; simp at hr
    | some f =>
      dsimp only
      split
      . intro r hr; simp at hr
      . intro r hr
        have hr' : r ∈ F.waiting.filterMap fun q => (F.good O (F.tilesOf O f) f.reads q).map fun t => (⟨q.who,200,t.body,t.tag⟩ : Rep) := hr
        obtain ⟨q,_,e⟩ := List.mem_filterMap.1 hr'
        obtain ⟨t,_,rfl⟩ := Option.map_eq_some_iff.1 e
        rfl
theorem Inv.validW (h : Inv O F b) (i : Nat) : Valid b (F.work O i).2 := by
  obtain ⟨p,e⟩ := work_who (O := O) F i
  exact h.valid p e
theorem Inv.validT (h : Inv O F b) : Valid b F.tick.2 := by
  refine h.valid (fun r => decide (r.due <= ((F.now + 1 : Nat) : Int))) ?_
  show ((F.waiting.filter _).map _).map Rep.who = _
  rw [List.map_map]
  rfl
theorem arriveK_who (F : FM) (k : K4) (tag : ByteArray) : (F.arriveK O k tag).2 = [] \/ ∃ r,(F.arriveK O k tag).2 = [r] /\ r.who = F.arrived := by
  unfold FM.arriveK
  dsimp only
  split
  . exact Or.inr ⟨_,rfl,rfl⟩
  . cases findT F.tiles k with
    | some t => exact Or.inr ⟨_,rfl,rfl⟩
    | none =>
      dsimp only
      split
      . exact Or.inr ⟨_,rfl,rfl⟩
      . exact Or.inl rfl
theorem Inv.validA (h : Inv O F b) {l : List Rep} (hl : l = [] \/ ∃ r,l = [r] /\ r.who = F.arrived) (tag : ByteArray) (k : K4) (e v n : Int) (x : Bool) : Valid (b.add tag k e v n x) l := by
  rcases hl with rfl | ⟨r,rfl,hw⟩
  . exact ⟨fun r hr => by simp at hr,List.Pairwise.nil⟩
  . refine ⟨fun q hq => ?_,List.pairwise_singleton _ _⟩
    simp only [List.mem_singleton] at hq
    subst hq
    have := h.nreq
    refine ⟨by omega,⟨tag,k,e,v,n,b.waiting,-1⟩,?_,rfl⟩
    show (b.reqs ++ [_])[q.who.toNat]? = _
    rw [hw,show ((F.arrived : Int)).toNat = b.reqs.length by omega]
    simp
structure Bd (n : Nat) (F : FM) (b : BM) : Prop where
  now : F.now <= n
  arr : F.arrived <= n
  joi : b.joined <= F.arrived
  sum : (b.says.length : Int) + b.waiting = b.reqs.length
theorem Bd.hear {n m : Nat} (h : Bd n F b) (hn : G.now <= m) (ha : G.arrived <= m) (hf : F.arrived <= G.arrived) (l : List Rep) : Bd m G (b.hear ver now by_ l) := by
  obtain ⟨h1,h2,h3,h4⟩ := hear_sz (ver := ver) (now := now) (by_ := by_) l b
  refine ⟨hn,ha,by rw [h3]; have := h.joi; omega,?_⟩
  rw [h4,h2,h1]
  have := h.sum
  simp only [List.length_append,List.length_map]
  omega
theorem Bd.add {n : Nat} (h : Bd n F b) (tag : ByteArray) (k : K4) (e v m : Int) (x : Bool) : Bd (n + 1) { F with arrived := F.arrived + 1 } (b.add tag k e v m x) := by
  have h1 := h.now
  have h2 := h.arr
  have h3 := h.joi
  have h4 := h.sum
  refine ⟨by show F.now <= _; omega,by show F.arrived + 1 <= _; omega,?_,?_⟩
  . show (if x then b.joined + 1 else b.joined) <= ((F.arrived + 1 : Nat) : Int)
    split <;> omega
  . show (b.says.length : Int) + (b.waiting + 1) = ((b.reqs ++ [_]).length : Nat)
    simp only [List.length_append,List.length_singleton]
    omega
theorem Bd.mono {n m : Nat} (h : Bd n F b) (hm : n <= m) : Bd m F b := ⟨by have := h.now; omega,by have := h.arr; omega,h.joi,h.sum⟩
theorem Bd.said {n : Nat} (h : Bd n F b) (hi : Inv O F b) : b.says.length <= n /\ b.reqs.length <= n /\ F.started <= n /\ 0 <= b.waiting /\ b.waiting <= 8 /\ 0 <= b.joined /\ b.joined <= n := by
  have h1 := h.arr
  have h2 := h.joi
  have h3 := h.sum
  have h4 := hi.joi
  have h5 := hi.nreq
  have h6 := hi.cnt
  have h7 := hi.ok.wq
  have h8 := hi.ok.q
  omega
variable (O)
def workB (p : FM × BM) (i : Nat) : FM × BM := ((p.1.work O i).1,p.2.hear p.1.ver p.1.now 4 (p.1.work O i).2)
def partB (p : FM × BM) : Nat -> FM × BM
  | 0 => p
  | j + 1 => workB O (partB p j) j
def calmB (p : FM × BM) (W : Nat) : Nat -> FM × BM
  | 0 => p
  | n + 1 => partB O (calmB p W n) W
variable {O}
theorem partB_fst (p : FM × BM) : ∀ j,(partB O p j).1 = p.1.part O j
  | 0 => rfl
  | j + 1 => by
    show ((partB O p j).1.work O j).1 = ((p.1.part O j).work O j).1
    rw [partB_fst p j]
theorem calmB_fst (p : FM × BM) (W : Nat) : ∀ n,(calmB O p W n).1 = p.1.rounds O W n
  | 0 => rfl
  | n + 1 => by
    show (partB O (calmB O p W n) W).1 = (p.1.rounds O W n).part O W
    rw [partB_fst,calmB_fst p W n]
structure Fine4 (b c : BM) : Prop where
  len : c.reqs.length = b.reqs.length
  says : ∃ x,c.says = b.says ++ x /\ ∀ s ∈ x,s.r.st = 200 /\ s.by_ = 4
  req : ∀ (i : Nat) (a' : Ask),c.reqs[i]? = some a' -> ∃ (a : Ask) (n : Int),b.reqs[i]? = some a /\ a' = { a with said := n } /\ (a.said ≠ -1 -> n = a.said)
  joi : c.joined = b.joined
  sum : (c.says.length : Int) + c.waiting = b.says.length + b.waiting
theorem Fine4.rfl' (b : BM) : Fine4 b b := ⟨rfl,⟨[],by simp,by simp⟩,fun i a h => ⟨a,a.said,h,rfl,fun _ => rfl⟩,rfl,rfl⟩
theorem Fine4.trans {a b c : BM} (h : Fine4 a b) (k : Fine4 b c) : Fine4 a c := by
  obtain ⟨x,hx,hx'⟩ := h.says
  obtain ⟨y,hy,hy'⟩ := k.says
  refine ⟨k.len.trans h.len,⟨x ++ y,by rw [hy,hx,List.append_assoc],fun s hs => (List.mem_append.1 hs).elim (hx' s) (hy' s)⟩,fun i a' ha => ?_,k.joi.trans h.joi,k.sum.trans h.sum⟩
  obtain ⟨a1,n1,q1,q2,q3⟩ := k.req i a' ha
  obtain ⟨a0,n0,p1,p2,p3⟩ := h.req i a1 q1
  refine ⟨a0,n1,p1,by rw [q2,p2],fun q => ?_⟩
  have e0 := p3 q
  have e1 : a1.said = n0 := by rw [p2]
  rw [q3 (by rw [e1,e0]; exact q),e1,e0]
theorem fine4_work (h : Inv O F b) (i : Nat) : Fine4 b (workB O (F,b) i).2 := by
  obtain ⟨h1,h2,h3,h4⟩ := hear_sz (ver := (F.ver : Int)) (now := (F.now : Int)) (by_ := 4) (F.work O i).2 b
  refine ⟨h1,⟨_,h4,fun s hs => ?_⟩,hear_req _ _ (h.validW i),h3,?_⟩
  rotate_left
  . show ((b.hear F.ver F.now 4 (F.work O i).2).says.length : Int) + (b.hear F.ver F.now 4 (F.work O i).2).waiting = _
    rw [h4,h2]; simp only [List.length_append,List.length_map]; omega
  obtain ⟨r,hr,rfl⟩ := List.mem_map.1 hs
  exact ⟨work_fine F i r hr,rfl⟩
structure On (p q : FM × BM) : Prop where
  inv : Inv O q.1 q.2
  like : Like p.1 q.1
  fine : Fine4 p.2 q.2
theorem on_work {p : FM × BM} (h : Inv O p.1 p.2) (i : Nat) : On (O := O) p (workB O p i) := ⟨h.work i,work_like _ i,fine4_work h i⟩
theorem On.trans {p q r : FM × BM} (h : On (O := O) p q) (k : On (O := O) q r) : On (O := O) p r := ⟨k.inv,h.like.trans k.like,h.fine.trans k.fine⟩
theorem on_part {p : FM × BM} (h : Inv O p.1 p.2) : ∀ j,On (O := O) p (partB O p j)
  | 0 => ⟨h,Like.rfl' _,Fine4.rfl' _⟩
  | j + 1 => (on_part h j).trans (on_work (on_part h j).inv j)
theorem on_calm {p : FM × BM} (h : Inv O p.1 p.2) (W : Nat) : ∀ n,On (O := O) p (calmB O p W n)
  | 0 => ⟨h,Like.rfl' _,Fine4.rfl' _⟩
  | n + 1 => (on_calm h W n).trans (on_part (on_calm h W n).inv W)
theorem On.bd {p q : FM × BM} {n : Nat} (h : On (O := O) p q) (hb : Bd n p.1 p.2) : Bd n q.1 q.2 := by
  refine ⟨by rw [h.like.now]; exact hb.now,by rw [h.like.arrived]; exact hb.arr,by rw [h.fine.joi,h.like.arrived]; exact hb.joi,?_⟩
  have h1 := hb.sum
  have h2 := h.fine.sum
  have h3 := h.fine.len
  omega
end
theorem all_setAt {α : Type} (R : Row α) (a' : α) (x : Value) (j : Nat) (hj : j < R.wid) : ∀ (l : List α) (i : Nat) (a : α),l[i]? = some a -> R.enc a' = (R.enc a).set j x -> R.all (l.set i a') = (R.all l).set (i * R.wid + j) x
  | [],i,a,h,_ => by simp at h
  | b :: l,0,a,h,he => by
    simp at h
    subst h
    rw [List.set_cons_zero,R.all_cons,R.all_cons,he,Nat.zero_mul,Nat.zero_add,List.set_append_left _ _ (by rw [R.len]; exact hj)]
  | b :: l,i + 1,a,h,he => by
    have ih := all_setAt R a' x j hj l i a (by simpa using h) he
    rw [List.set_cons_succ,R.all_cons,R.all_cons,ih,List.set_append_right _ _ (by rw [R.len,Nat.succ_mul]; omega)]
    congr 2
    rw [R.len,Nat.succ_mul]; omega
theorem OwnR.setAt {α : Type} {R : Row α} {T : TypeId} {w : World} {l : List α} {g off n cap : Nat} (h : OwnR R T w (.slice (some ⟨g,off,none⟩) n cap) l) {i : Nat} {a : α} (hi : l[i]? = some a) (j : Nat) (hj : j < R.wid) (a' : α) (x : Value) (hx : R.enc a' = (R.enc a).set j x) :
    OwnR R T (w.setCell ⟨g,off + i * R.wid + j,none⟩ x) (.slice (some ⟨g,off,none⟩) n cap) (l.set i a') := by
  rcases h with ⟨e,_⟩ | ⟨g',off',cap',cur,e,hh,h2,h3,h4,h5⟩
  . cases e
  . cases e
    have hblk : (w.setCell ⟨g,off + i * R.wid + j,none⟩ x).heap[g]? = some (.cells (cur.setIfInBounds (off + i * R.wid + j) x) T (0,0)) := by
      simp [World.setCell,Array.getElem?_modify,hh]
    refine Or.inr ⟨g,off,cap,cur.setIfInBounds (off + i * R.wid + j) x,by rw [List.length_set],hblk,by rw [List.length_set]; exact h2,h3,by rw [Array.size_setIfInBounds]; exact h4,?_⟩
    rw [List.length_set,all_setAt R a' x j hj l i a hi hx,<- h5,Array.toList_setIfInBounds,List.drop_set,if_neg (by omega),show off + i * R.wid + j - off = i * R.wid + j by omega,List.take_set]
theorem OwnR.spot {α : Type} {R : Row α} {T : TypeId} {w : World} {v : Value} {l : List α} (h : OwnR R T w v l) {i : Nat} {a : α} (hi : l[i]? = some a) : ∃ g off cap,v = .slice (some ⟨g,off,none⟩) l.length cap /\ w.rangeAt g (off + i * R.wid) (R.enc a) /\ ∀ k,w.frozen? ⟨g,k,none⟩ = false := by
  have hl : i < l.length := (List.getElem?_eq_some_iff.1 hi).1
  obtain ⟨oa,c,e,_,_,hr⟩ := h.at
  obtain ⟨b,off,rfl,_,hc⟩ := hr (by omega)
  refine ⟨b,off,c,e,hc i a hi,fun k => ?_⟩
  obtain ⟨cur,hcur⟩ := h.ty (g := b) (by rw [e]; rfl)
  exact frz_blk hcur k
theorem BNum.of {B : BV} {fb : Nat} {F : FM} {M M' : BM} (h : BNum B fb F M) (h1 : M'.waiting = M.waiting) (h2 : M'.joined = M.joined) : BNum B fb F M' := ⟨h.fb,h.q,h.wk,h.wt,h.ca,h.ch,h.nw,h.wai.trans h1.symm,h.joi.trans h2.symm⟩
theorem St.said {w0 : Bas} {w : World} {bb fb : Nat} {Φ Ψ : Nat -> Prop} {B : BV} {WS : List Sli} {F : FM} {M : BM} (h : St w0 w bb fb Φ Ψ B WS F M) {wn : Nat} {a : Ask} (ha : M.reqs[wn]? = some a) {g off n cap : Nat} (e : B.rv = .slice (some ⟨g,off,none⟩) n cap) (x : Int) :
    (∃ Φ' Ψ',St w0 (w.setCell ⟨g,off + wn * 10 + 9,none⟩ (.int .i64 x)) bb fb Φ' Ψ' B WS F { M with reqs := M.reqs.set wn { a with said := x } }) /\ Frm (fun k => k = g) w (w.setCell ⟨g,off + wn * 10 + 9,none⟩ (.int .i64 x)) /\ Tys (fun k => k = g) w [42] := by
  have hF : Frm (fun k => k = g) w (w.setCell ⟨g,off + wn * 10 + 9,none⟩ (.int .i64 x)) := (Frm.rfl' _ _).setCell (p := ⟨g,off + wn * 10 + 9,none⟩) _ (fun _ => rfl)
  have hg : B.rv.ownBlock = some g := by rw [e]; rfl
  have hT : Tys (fun k => k = g) w [42] := fun k q => by
    subst q
    obtain ⟨c,hc⟩ := h.bk.mem.req.ty hg
    exact ⟨c,42,hc,by simp⟩
  have hm := h.bk.mem
  have hr := hm.req
  rw [e] at hr
  have hr' := hr.setAt ha 9 (by decide) { a with said := x } (.int .i64 x) rfl
  exact ⟨⟨_,_,h.own hF (fun k q => Or.inl (q ▸ BFoot.iR hg)) ⟨blk_frmT h.bk.blk hF hT (by decide),h.bk.num.of rfl rfl,⟨hm.was.frmT hF hT (by decide),hm.len,fun i s hs => (hm.fea i s hs).frmT hF hT (by decide),by rw [e]; exact hr',hm.say.frmT hF hT (by decide)⟩⟩ (fun k hk => Or.inl hk)⟩,hF,hT⟩
theorem St.heard {w0 : Bas} {w : World} {bb fb : Nat} {Φ Ψ : Nat → Prop} {B : BV} {WS : List Sli} {F : FM} {M : BM} (h : St w0 w bb fb Φ Ψ B WS F M) {v' : Value} {w4 : World} (s : Say) (r2 : OwnR rSay 37 w4 v' (M.says ++ [s])) (hF : Frm (fun k => B.sv.ownBlock = some k) w w4) (r4 : ∀ g, v'.ownBlock = some g → B.sv.ownBlock = some g ∨ w.heap.size ≤ g) :
    (∃ Φ' Ψ', St w0 (w4.setCell ⟨bb, 9, none⟩ v') bb fb Φ' Ψ' { B with sv := v' } WS F { M with says := M.says ++ [s] }) ∧ Frm (fun k => k = bb ∨ B.sv.ownBlock = some k) w (w4.setCell ⟨bb, 9, none⟩ v') ∧ Tys (fun k => k = bb ∨ B.sv.ownBlock = some k) w [33, 37] ∧ BBlk w4 bb B := by
  have hm := h.bk.mem
  have hT4 : Tys (fun k => B.sv.ownBlock = some k) w [37] := fun k q => by
    obtain ⟨c, hc⟩ := hm.say.ty q
    exact ⟨c, 37, hc, by simp⟩
  have hb4 : BBlk w4 bb B := blk_frmT h.bk.blk hF hT4 (by decide)
  have hb5 := BBlk.set hb4 9 v' (BV.set_sv B v')
  have hF45 : Frm (fun k => k = bb) w4 (w4.setCell ⟨bb, 9, none⟩ v') := (Frm.rfl' _ _).setCell (p := ⟨bb, 9, none⟩) _ (fun _ => rfl)
  have hFw : Frm (fun k => k = bb ∨ B.sv.ownBlock = some k) w (w4.setCell ⟨bb, 9, none⟩ v') := (hF.mono (S' := fun k => k = bb ∨ B.sv.ownBlock = some k) fun k _ q => Or.inr q).then hF45 (fun _ _ q => Or.inl q)
  have hTw : Tys (fun k => k = bb ∨ B.sv.ownBlock = some k) w [33, 37] := fun k q => by
    rcases q with rfl | q
    · exact ⟨_, 33, h.bk.blk, by simp⟩
    · obtain ⟨c, hc⟩ := hm.say.ty q
      exact ⟨c, 37, hc, by simp⟩
  exact ⟨⟨_, _, h.own hFw (fun k q => Or.inl (by rcases q with rfl | q
                                                 · exact BFoot.iB
                                                 · exact BFoot.iS q)) ⟨hb5, ⟨h.bk.num.fb, h.bk.num.q, h.bk.num.wk, h.bk.num.wt, h.bk.num.ca, h.bk.num.ch, h.bk.num.nw, h.bk.num.wai, h.bk.num.joi⟩, ⟨hm.was.frmT hFw hTw (by decide), hm.len, fun i s hs => (hm.fea i s hs).frmT hFw hTw (by decide), hm.req.frmT hFw hTw (by decide), r2.frm hF45 (fun g hg => own_ne r2 hb4 (by decide) g hg)⟩⟩ (fun k hk => hk.elim (P := fun k => BFoot bb B WS k ∨ w.heap.size ≤ k) (Or.inl BFoot.iB) (fun _ q => Or.inl (BFoot.iW q)) (fun _ q => Or.inl (BFoot.iR q)) (fun k q => (r4 k q).imp BFoot.iS id) (fun _ _ hs _ q => Or.inl (BFoot.iF hs q)))⟩, hFw, hTw, hb4⟩
theorem St.asked {w0 : Bas} {w : World} {bb fb : Nat} {Φ Ψ : Nat → Prop} {B : BV} {WS : List Sli} {F : FM} {M : BM} (h : St w0 w bb fb Φ Ψ B WS F M) {v' : Value} {w4 : World} (a : Ask) (r2 : OwnR rAsk 42 w4 v' (M.reqs ++ [a])) (hF : Frm (fun k => B.rv.ownBlock = some k) w w4) (r4 : ∀ g, v'.ownBlock = some g → B.rv.ownBlock = some g ∨ w.heap.size ≤ g) :
    (∃ Φ' Ψ', St w0 (w4.setCell ⟨bb, 8, none⟩ v') bb fb Φ' Ψ' { B with rv := v' } WS F { M with reqs := M.reqs ++ [a] }) ∧ Frm (fun k => k = bb ∨ B.rv.ownBlock = some k) w (w4.setCell ⟨bb, 8, none⟩ v') ∧ Tys (fun k => k = bb ∨ B.rv.ownBlock = some k) w [33, 42] ∧ BBlk w4 bb B := by
  have hm := h.bk.mem
  have hT4 : Tys (fun k => B.rv.ownBlock = some k) w [42] := fun k q => by
    obtain ⟨c, hc⟩ := hm.req.ty q
    exact ⟨c, 42, hc, by simp⟩
  have hb4 : BBlk w4 bb B := blk_frmT h.bk.blk hF hT4 (by decide)
  have hb5 := BBlk.set hb4 8 v' (BV.set_rv B v')
  have hF45 : Frm (fun k => k = bb) w4 (w4.setCell ⟨bb, 8, none⟩ v') := (Frm.rfl' _ _).setCell (p := ⟨bb, 8, none⟩) _ (fun _ => rfl)
  have hFw : Frm (fun k => k = bb ∨ B.rv.ownBlock = some k) w (w4.setCell ⟨bb, 8, none⟩ v') := (hF.mono (S' := fun k => k = bb ∨ B.rv.ownBlock = some k) fun k _ q => Or.inr q).then hF45 (fun _ _ q => Or.inl q)
  have hTw : Tys (fun k => k = bb ∨ B.rv.ownBlock = some k) w [33, 42] := fun k q => by
    rcases q with rfl | q
    · exact ⟨_, 33, h.bk.blk, by simp⟩
    · obtain ⟨c, hc⟩ := hm.req.ty q
      exact ⟨c, 42, hc, by simp⟩
  exact ⟨⟨_, _, h.own hFw (fun k q => Or.inl (by rcases q with rfl | q
                                                 · exact BFoot.iB
                                                 · exact BFoot.iR q)) ⟨hb5, ⟨h.bk.num.fb, h.bk.num.q, h.bk.num.wk, h.bk.num.wt, h.bk.num.ca, h.bk.num.ch, h.bk.num.nw, h.bk.num.wai, h.bk.num.joi⟩, ⟨hm.was.frmT hFw hTw (by decide), hm.len, fun i s hs => (hm.fea i s hs).frmT hFw hTw (by decide), r2.frm hF45 (fun g hg => own_ne r2 hb4 (by decide) g hg), hm.say.frmT hFw hTw (by decide)⟩⟩ (fun k hk => hk.elim (P := fun k => BFoot bb B WS k ∨ w.heap.size ≤ k) (Or.inl BFoot.iB) (fun _ q => Or.inl (BFoot.iW q)) (fun k q => (r4 k q).imp BFoot.iR id) (fun _ q => Or.inl (BFoot.iS q)) (fun _ _ hs _ q => Or.inl (BFoot.iF hs q)))⟩, hFw, hTw, hb4⟩
theorem St.num {w0 : Bas} {w : World} {bb fb : Nat} {Φ Ψ : Nat -> Prop} {B : BV} {WS : List Sli} {F : FM} {M : BM} (h : St w0 w bb fb Φ Ψ B WS F M) (i : Nat) (v : Value) {C : BV} {M' : BM} (e : B.a.setIfInBounds i v = C.a) (e1 : C.wv = B.wv) (e2 : C.rv = B.rv) (e3 : C.sv = B.sv) (hn : BNum C fb F M') (e4 : M'.reqs = M.reqs) (e5 : M'.says = M.says) :
    (∃ Φ' Ψ',St w0 (w.setCell ⟨bb,i,none⟩ v) bb fb Φ' Ψ' C WS F M') /\ Frm (fun k => k = bb) w (w.setCell ⟨bb,i,none⟩ v) /\ Tys (fun k => k = bb) w [33] := by
  have hm := h.bk.mem
  have hF : Frm (fun k => k = bb) w (w.setCell ⟨bb,i,none⟩ v) := (Frm.rfl' _ _).setCell (p := ⟨bb,i,none⟩) _ (fun _ => rfl)
  have hT : Tys (fun k => k = bb) w [33] := fun k q => by subst q; exact ⟨_,33,h.bk.blk,by simp⟩
  exact ⟨⟨_,_,h.own hF (fun k q => Or.inl (q ▸ BFoot.iB)) ⟨BBlk.set h.bk.blk i v e,hn,⟨by rw [e1]; exact hm.was.frmT hF hT (by decide),hm.len,fun i s hs => (hm.fea i s hs).frmT hF hT (by decide),by rw [e2,e4]; exact hm.req.frmT hF hT (by decide),by rw [e3,e5]; exact hm.say.frmT hF hT (by decide)⟩⟩ (fun k hk => Or.inl (hk.elim BFoot.iB (fun _ q => BFoot.iW (e1 ▸ q)) (fun _ q => BFoot.iR (e2 ▸ q)) (fun _ q => BFoot.iS (e3 ▸ q)) (fun _ _ hs _ q => BFoot.iF hs q)))⟩,hF,hT⟩
theorem St.wai {w0 : Bas} {w : World} {bb fb : Nat} {Φ Ψ : Nat -> Prop} {B : BV} {WS : List Sli} {F : FM} {M : BM} (h : St w0 w bb fb Φ Ψ B WS F M) (x : Int) : (∃ Φ' Ψ',St w0 (w.setCell ⟨bb,10,none⟩ (.int .i64 x)) bb fb Φ' Ψ' { B with wai := x } WS F { M with waiting := x }) /\ Frm (fun k => k = bb) w (w.setCell ⟨bb,10,none⟩ (.int .i64 x)) /\ Tys (fun k => k = bb) w [33] :=
  h.num 10 _ (BV.set_wai B x) rfl rfl rfl ⟨h.bk.num.fb,h.bk.num.q,h.bk.num.wk,h.bk.num.wt,h.bk.num.ca,h.bk.num.ch,h.bk.num.nw,rfl,h.bk.num.joi⟩ rfl rfl
theorem St.joi {w0 : Bas} {w : World} {bb fb : Nat} {Φ Ψ : Nat -> Prop} {B : BV} {WS : List Sli} {F : FM} {M : BM} (h : St w0 w bb fb Φ Ψ B WS F M) (x : Int) : (∃ Φ' Ψ',St w0 (w.setCell ⟨bb,11,none⟩ (.int .i64 x)) bb fb Φ' Ψ' { B with joi := x } WS F { M with joined := x }) /\ Frm (fun k => k = bb) w (w.setCell ⟨bb,11,none⟩ (.int .i64 x)) /\ Tys (fun k => k = bb) w [33] :=
  h.num 11 _ (BV.set_joi B x) rfl rfl rfl ⟨h.bk.num.fb,h.bk.num.q,h.bk.num.wk,h.bk.num.wt,h.bk.num.ca,h.bk.num.ch,h.bk.num.nw,h.bk.num.wai,rfl⟩ rfl rfl
theorem modify_set (l : List Ask) (i : Nat) {a : Ask} (h : l[i]? = some a) (f : Ask -> Ask) : l.modify i f = l.set i (f a) := by
  apply List.ext_getElem?
  intro j
  rw [List.getElem?_modify,List.getElem?_set]
  by_cases e : i = j
  . subst e; rw [h]; simp [(List.getElem?_eq_some_iff.1 h).1]
  . rw [if_neg e]; cases l[j]? <;> simp [e]
theorem built37 (n s : Int) (b t : ByteArray) (v m y : Int) : Tryz.prog.built 37 [(0,.agg #[.int .i64 n,.int .i64 s,.string b,.string t]),(1,.int .i64 v),(2,.int .i64 m),(3,.int .i64 y)] = some #[.int .i64 n,.int .i64 s,.string b,.string t,.int .i64 v,.int .i64 m,.int .i64 y] := by kernel_rfl
theorem bt37 (n s : Int) (b t : ByteArray) (v m y : Int) (ev : Operand -> Value) (o : Oper) (p q r u : Operand) (ho : o.op = .build 37 #[(0,p),(1,q),(2,r),(3,u)]) (h1 : ev p = .agg #[.int .i64 n,.int .i64 s,.string b,.string t]) (h2 : ev q = .int .i64 v) (h3 : ev r = .int .i64 m) (h4 : ev u = .int .i64 y) (w : World) : (execOp ev o).run Tryz.prog w = .ok (.value (.agg #[.int .i64 n,.int .i64 s,.string b,.string t,.int .i64 v,.int .i64 m,.int .i64 y])) w := by
  have hb := run_build (P := Tryz.prog) w 37 #[(0,.agg #[.int .i64 n,.int .i64 s,.string b,.string t]),(1,.int .i64 v),(2,.int .i64 m),(3,.int .i64 y)] _ (built37 n s b t v m y)
  unfold execOp
  simp [ho,h1,h2,h3,h4,hb]
set_option maxHeartbeats 12800000 in
theorem hear_any (w0 : Bas) (bb fb : Nat) (F : FM) (M : BM) (by_ : Int) (rv : Value) (l : List Rep) (w : World) (h : StE w0 w bb fb F M) (hr : OwnR rRep 35 w rv l) (hv : Valid M l) (hver : F.ver <= 100) (hns : M.says.length + l.length <= 1500000000000) (hnr : M.reqs.length <= 1500000000000) (hwa : (l.length : Int) <= M.waiting /\ M.waiting <= 1500000000000) :
    Calls Tryz.prog 26 #[.pointer (some ⟨bb,0,none⟩),rv,.int .i64 by_] w fun e w' => e = .returned (.tuple #[]) /\ StE w0 w' bb fb F (M.hear F.ver F.now by_ l) := by
  obtain ⟨oa,cap,rfl,_,_,_⟩ := hr.at
  have HR := hide hr
  have HV := hide hv
  have HST := hide h
  clear h hr hv
  go_enter Tryz.func26,Tryz.ntmps26
  go_wp2_with fail
  go_loopw [6,7] (fun i _ wr => ∃ k : Nat,k <= l.length /\ i = .int .i64 k /\ Hid (StE w0 wr bb fb F (M.hear F.ver F.now by_ (l.take k))) /\ Hid (OwnR rRep 35 wr (.slice oa l.length cap) l)) (fun i _ _ => l.length - (intOf i).toNat)
  case atStart => exact ⟨0,by omega,rfl,hide (unhide HST),hide (unhide HR)⟩
  case round =>
    obtain ⟨k,hk,rfl,hst,hown⟩ := hrel
    by_cases hlt : k < l.length
    . have hkn : (k : Int) < l.length := by omega
      obtain ⟨⟨who,st,bd,tg⟩,hlk⟩ : ∃ r,l[k]? = some r := ⟨_,List.getElem?_eq_getElem hlt⟩
      have hvk := (unhide HV).drop (ver := F.ver) (now := F.now) (by_ := by_) k
      have hmem : (⟨who,st,bd,tg⟩ : Rep) ∈ l.drop k := by
        rw [List.mem_iff_getElem?]
        exact ⟨0,by rw [List.getElem?_drop]; exact hlk⟩
      obtain ⟨h0,a,ha,has⟩ := hvk.each _ hmem
      obtain ⟨wn,rfl⟩ : ∃ wn : Nat,who = wn := ⟨who.toNat,by simp only at h0; omega⟩
      have hMn := hear_take (ver := F.ver) (now := F.now) (by_ := by_) M hlk
      obtain ⟨z1,z2,z3,z4⟩ := hear_sz (ver := F.ver) (now := F.now) (by_ := by_) (l.take k) M
      have hz2 : (M.hear F.ver F.now by_ (l.take k)).waiting = M.waiting - k := by rw [z2,List.length_take,Nat.min_eq_left (by omega)]
      have hz4 : (M.hear F.ver F.now by_ (l.take k)).says.length = M.says.length + k := by rw [z4,List.length_append,List.length_map,List.length_take,Nat.min_eq_left (by omega)]
      have HMN := hide hMn
      clear hMn z2 z3 z4 hvk hmem
      generalize M.hear F.ver F.now by_ (l.take k) = M1 at *
      have hwb : 1 <= M1.waiting /\ M1.waiting <= 1500000000000 := by omega
      have hsb : M1.says.length + 1 <= 1500000000000 := by omega
      have hrb : M1.reqs.length <= 1500000000000 := by omega
      clear z1 hz2 hz4
      simp only [Int.toNat_natCast] at ha
      obtain ⟨at_,ak,ae,av,an,aw,as'⟩ := a
      simp only at has
      subst has
      have hwl : wn < M1.reqs.length := (List.getElem?_eq_some_iff.1 ha).1
      have hwi : (wn : Int) < (M1.reqs.length : Int) := by omega
      obtain ⟨Φ,Ψ,B,WS,hS0⟩ := unhide hst
      obtain ⟨g,off,cap1,e1,hrg,hfz⟩ := hS0.bk.mem.req.spot ha
      obtain ⟨oa3,cap3,e3,_,_,_⟩ := hS0.bk.mem.say.at
      obtain ⟨g2,off2,cap2,e2,hrg2,_⟩ := (unhide hown).spot hlk
      simp only [Value.slice.injEq,true_and] at e2
      obtain ⟨rfl,rfl⟩ := e2
      have c8 : wr.cell? ⟨bb,8,none⟩ = some (.slice (some ⟨g,off,none⟩) M1.reqs.length cap1) := by rw [<- e1]; exact hS0.bk.blk.cells 8
      have c9 : wr.cell? ⟨bb,9,none⟩ = some (.slice oa3 M1.says.length cap3) := by rw [<- e3]; exact hS0.bk.blk.cells 9
      have hrg2' : wr.rangeAt g2 (off2 + k * 4) (#[.int .i64 (wn : Int),.int .i64 st,.string bd,.string tg] : Array Value).toList := hrg2
      have cw : wr.cell? ⟨g2,off2 + k * 4,none⟩ = some (.int .i64 wn) := hrg2' 0 _ rfl
      have hrg' : wr.rangeAt g (off + wn * 10) (Ask.a ⟨at_,ak,ae,av,an,aw,-1⟩).toList := hrg
      have cs : wr.cell? ⟨g,off + wn * 10 + 9,none⟩ = some (.int .i64 (-1)) := hrg' 9 _ rfl
      have fzs := hfz (off + wn * 10 + 9)
      obtain ⟨⟨Φ1,Ψ1,hS1⟩,hF1,hT1⟩ := hS0.said ha e1 (M1.says.length : Int)
      have hown1 := (unhide hown).frmT hF1 hT1 (by decide)
      have HS1 := hide hS1
      have HOWN1 := hide hown1
      have HD0 := hide (show Frm (fun _ => False) wr (World.drew wr) from Frm.of_below (Below.drew (Below.refl _ _)))
      have HS0 := hide hS0
      have HB0 := hide hS0.bk.blk
      have HE1 := hide e1
      have HE3 := hide e3
      have HOWN := hide (unhide hown)
      have hwv : ∃ oa6 cap6,B.wv = .slice oa6 (F.ver + 1) cap6 := by
        obtain ⟨oa6,cap6,e6,_⟩ := hS0.bk.mem.was.at
        exact ⟨oa6,cap6,by rw [e6,hS0.bk.mem.len]⟩
      have HWV := hide hwv
      have hbw : B.wai = M1.waiting := hS0.bk.num.wai
      have hbn : B.nw = F.now := hS0.bk.num.nw
      clear hS1 hown1 hS0 e1 e3 hrg hrg' hrg2 hfz hwv hF1 hT1 hst hown HS1 HOWN1
      go_wp2_with fail
      refine wp_region_held (S := fun w' => w'.cell? ⟨bb,8,none⟩ = some (.slice (some ⟨g,off,none⟩) M1.reqs.length cap1) /\ w'.cell? ⟨bb,9,none⟩ = some (.slice oa3 M1.says.length cap3)) (by kernel_rfl) ?_
      change wpAnyH _ _ _ _ _ _ _ _ (World.drew _)
      have hbD := Below.drew (Below.refl wr.heap.size wr)
      have hSd := (unhide HS0).on hbD
      have hownd := (unhide HOWN).on hbD
      have hS : (World.drew wr).cell? ⟨bb,8,none⟩ = some (.slice (some ⟨g,off,none⟩) M1.reqs.length cap1) /\ (World.drew wr).cell? ⟨bb,9,none⟩ = some (.slice oa3 M1.says.length cap3) := ⟨c8,c9⟩
      have csd : (World.drew wr).cell? ⟨g,off + wn * 10 + 9,none⟩ = some (.int .i64 (-1)) := cs
      have fzd : (World.drew wr).frozen? ⟨g,off + wn * 10 + 9,none⟩ = false := fzs
      clear hbD c8 c9 cs fzs cw hrg2' HS0 HB0 HOWN HD0
      generalize World.drew wr = w1 at hSd hownd hS csd fzd ⊢
      obtain ⟨⟨Φ1,Ψ1,hS1⟩,hF1,hT1⟩ := hSd.said ha (unhide HE1) (M1.says.length : Int)
      have hown1 := hownd.frmT hF1 hT1 (by decide)
      obtain ⟨w2,hw2⟩ : ∃ w2,w1.setCell ⟨g,off + wn * 10 + 9,none⟩ (.int .i64 (M1.says.length : Int)) = w2 := ⟨_,rfl⟩
      rw [hw2] at hS1 hown1
      have hS2 : w2.cell? ⟨bb,8,none⟩ = some (.slice (some ⟨g,off,none⟩) M1.reqs.length cap1) /\ w2.cell? ⟨bb,9,none⟩ = some (.slice oa3 M1.says.length cap3) := ⟨by rw [<- unhide HE1]; exact hS1.bk.blk.cells 8,by rw [<- unhide HE3]; exact hS1.bk.blk.cells 9⟩
      have HS1 := hide hS1
      have HOWN1 := hide hown1
      have HW2 := hide hw2
      clear hSd hownd hS1 hown1 hF1 hT1 hw2
      refine t_tk 0 rfl (.pointer (some ⟨bb,0,none⟩)) (by kernel_rfl) (fun _ _ _ h => h) rfl (fun w' hw' => by simp [go_sem]) hS ?_
      simp only [Act.put,qA,qB,qC]
      refine t_tk 1 rfl (.pointer (some ⟨bb,0,none⟩)) (by kernel_rfl) (fun _ _ _ h => h) rfl (fun w' hw' => by simp [go_sem]) hS ?_
      simp only [Act.put,qA,qB,qC]
      refine t_tk 2 rfl (.pointer (some ⟨bb,8,none⟩)) (by kernel_rfl) (fun _ _ _ h => h) rfl (fun w' hw' => by simp [go_sem]) hS ?_
      simp only [Act.put,qA,qB,qC]
      refine t_tk 3 rfl ((.slice (some ⟨g,off,none⟩) M1.reqs.length cap1)) (by kernel_rfl) (fun _ _ _ h => h) rfl (fun w' hw' => by simp [go_sem,hw'.1]) hS ?_
      simp only [Act.put,qA,qB,qC]
      refine t_tk 4 rfl (.int .i64 wn) (by kernel_rfl) (fun _ _ _ h => h) rfl (fun w' hw' => by simp [go_sem]) hS ?_
      simp only [Act.put,qA,qB,qC]
      refine t_tk 5 rfl (.pointer (some ⟨bb,0,none⟩)) (by kernel_rfl) (fun _ _ _ h => h) rfl (fun w' hw' => by simp [go_sem]) hS ?_
      simp only [Act.put,qA,qB,qC]
      refine t_tk 6 rfl (.pointer (some ⟨bb,0,none⟩)) (by kernel_rfl) (fun _ _ _ h => h) rfl (fun w' hw' => by simp [go_sem]) hS ?_
      simp only [Act.put,qA,qB,qC]
      refine t_tk 7 rfl (.pointer (some ⟨bb,9,none⟩)) (by kernel_rfl) (fun _ _ _ h => h) rfl (fun w' hw' => by simp [go_sem]) hS ?_
      simp only [Act.put,qA,qB,qC]
      refine t_tk 8 rfl ((.slice oa3 M1.says.length cap3)) (by kernel_rfl) (fun _ _ _ h => h) rfl (fun w' hw' => by simp [go_sem,hw'.2]) hS ?_
      simp only [Act.put,qA,qB,qC]
      refine t_tk 9 rfl (.int .i64 M1.says.length) (by kernel_rfl) (fun _ _ _ h => h) rfl (fun w' hw' => by simp [go_sem]) hS ?_
      simp only [Act.put,qA,qB,qC]
      refine t_tk 10 rfl (.pointer (some ⟨g,off + wn * 10,none⟩)) (by kernel_rfl) (fun _ _ _ h => h) rfl (fun w' hw' => by simp [go_sem,hwi]) hS ?_
      simp only [Act.put,qA,qB,qC]
      refine t_tk 11 rfl (.pointer (some ⟨g,off + wn * 10 + 9,none⟩)) (by kernel_rfl) (fun _ _ _ h => h) rfl (fun w' hw' => by simp [go_sem]) hS ?_
      simp only [Act.put,qA,qB,qC]
      refine wpAnyH_all (rs := [12]) (by kernel_rfl) (by simp) ?_
      intro i hi
      simp only [List.mem_singleton] at hi
      subst hi
      refine t_skip 12 rfl rfl (w2) (stI _ _ _ _ rfl g (off + wn * 10 + 9) (M1.says.length : Int) rfl rfl w1 w2 csd fzd (unhide HW2)) (hS2) ?_
      simp only [Act.put]
      refine wpAnyH_done (by kernel_rfl) ?_ _
      clear hS csd fzd HW2 hS2
      go_wp2_with fail
      obtain ⟨oa6,cap6,ewv⟩ := unhide HWV
      refine wp_region_held (S := fun w' => w'.cell? ⟨bb,6,none⟩ = some (.slice oa6 (F.ver + 1) cap6) /\ w'.cell? ⟨bb,7,none⟩ = some (.int .i64 F.now) /\ w'.rangeAt g2 (off2 + k * 4) (#[.int .i64 (wn : Int),.int .i64 st,.string bd,.string tg] : Array Value).toList) (by kernel_rfl) ?_
      change wpAnyH _ _ _ _ _ _ _ _ (World.drew _)
      have hbD := Below.drew (Below.refl w2.heap.size w2)
      have hSd := (unhide HS1).on hbD
      have hownd := (unhide HOWN1).on hbD
      clear hbD HS1 HOWN1
      generalize World.drew w2 = w3 at hSd hownd ⊢
      have SF : ∀ {W : World} {bs : Value},BBlk W bb { B with sv := bs } -> OwnR rRep 35 W (.slice (some ⟨g2,off2,none⟩) l.length cap) l -> W.cell? ⟨bb,6,none⟩ = some (.slice oa6 (F.ver + 1) cap6) /\ W.cell? ⟨bb,7,none⟩ = some (.int .i64 F.now) /\ W.rangeAt g2 (off2 + k * 4) (#[.int .i64 (wn : Int),.int .i64 st,.string bd,.string tg] : Array Value).toList := by
        intro W bs h1 h2
        obtain ⟨g3,off3,cap3',e3',hrg3,_⟩ := h2.spot hlk
        simp only [Value.slice.injEq,Option.some.injEq,Addr.mk.injEq,true_and,and_true] at e3'
        obtain ⟨⟨rfl,rfl⟩,rfl⟩ := e3'
        exact ⟨by rw [<- ewv]; exact h1.cells 6,by rw [<- hbn]; exact h1.cells 7,hrg3⟩
      have hS := SF (bs := B.sv) hSd.bk.blk hownd
      have c9 : w3.cell? ⟨bb,9,none⟩ = some (.slice oa3 M1.says.length cap3) := by rw [<- unhide HE3]; exact hSd.bk.blk.cells 9
      have VE := version_any bb B (F.ver + 1) w3 hSd.bk.blk (by omega) ⟨oa6,cap6,ewv⟩
      have hve : (((F.ver + 1 : Nat) : Int) - 1) = F.ver := by omega
      rw [hve] at VE
      obtain ⟨w4,hw4⟩ : ∃ w4,w3.alloc (.cells #[.int .i64 (wn : Int),.int .i64 st,.string bd,.string tg,.int .i64 (F.ver : Int),.int .i64 (F.now : Int),.int .i64 by_] 37) = w4 := ⟨_,rfl⟩
      have hbA : Below w3.heap.size w3 w4 := hw4 ▸ (Below.refl w3.heap.size w3).alloc (Nat.le_refl _) (.cells #[.int .i64 (wn : Int),.int .i64 st,.string bd,.string tg,.int .i64 (F.ver : Int),.int .i64 (F.now : Int),.int .i64 by_] 37)
      have hat : AtR rSay w4 (.slice (some ⟨w3.heap.size,0,none⟩) 1 1) [⟨⟨wn,st,bd,tg⟩,F.ver,F.now,by_⟩] := hw4 ▸ at_new rSay 37 w3 ⟨⟨wn,st,bd,tg⟩,F.ver,F.now,by_⟩ #[.int .i64 (wn : Int),.int .i64 st,.string bd,.string tg,.int .i64 (F.ver : Int),.int .i64 (F.now : Int),.int .i64 by_] rfl
      have hsA := hSd.on hbA
      have hownA := hownd.on hbA
      have hSA := SF (bs := B.sv) hsA.bk.blk hownA
      have c9A : w4.cell? ⟨bb,9,none⟩ = some (.slice oa3 M1.says.length cap3) := by rw [<- unhide HE3]; exact hsA.bk.blk.cells 9
      have VEA := version_any bb B (F.ver + 1) w4 hsA.bk.blk (by omega) ⟨oa6,cap6,ewv⟩
      rw [hve] at VEA
      obtain ⟨v5,w5,r1,r2,r3,r4⟩ := apSay hsA.bk.mem.say hat (by simp; omega)
      have hF5 : Frm (fun q => B.sv.ownBlock = some q) w4 w5 := (Frm.rfl' _ _).grown r3 (fun q hq _ => hq)
      rw [unhide HE3] at r1
      obtain ⟨⟨Φ6,Ψ6,hS6⟩,hF6,hT6,hB5⟩ := hsA.heard ⟨⟨wn,st,bd,tg⟩,F.ver,F.now,by_⟩ r2 hF5 (fun q hq => by
        rcases r4 with r4 | r4
        . exact Or.inl (r4 ▸ hq)
        . exact Or.inr (r4 q hq))
      have hT5 : Tys (fun q => B.sv.ownBlock = some q) w4 [37] := fun q hq => by
        obtain ⟨c,hc⟩ := hsA.bk.mem.say.ty hq
        exact ⟨c,37,hc,by simp⟩
      have hown5 := hownA.frmT hF5 hT5 (by decide)
      have hown6 := hownA.frmT hF6 hT6 (by decide)
      have hS5 := SF (bs := B.sv) hB5 hown5
      have c95 : w5.cell? ⟨bb,9,none⟩ = some (.slice oa3 M1.says.length cap3) := by rw [<- unhide HE3]; exact hB5.cells 9
      have fz5 := frzB hB5 9
      obtain ⟨oa5,n5,k5,rfl⟩ := r2.sl
      obtain ⟨w6,hw6⟩ : ∃ w6,w5.setCell ⟨bb,9,none⟩ (.slice oa5 n5 k5) = w6 := ⟨_,rfl⟩
      rw [hw6] at hS6 hown6
      have hS6' := SF (bs := .slice oa5 n5 k5) hS6.bk.blk hown6
      have HS6 := hide hS6
      have HOWN6 := hide hown6
      have HW6 := hide hw6
      have HW4 := hide hw4
      have BS : ∀ (ev : Operand -> Value) (o : Oper) (x : Operand),o.op = .buildSlice 31 1 #[(0,x)] -> ev x = .agg #[.int .i64 (wn : Int),.int .i64 st,.string bd,.string tg,.int .i64 (F.ver : Int),.int .i64 (F.now : Int),.int .i64 by_] -> (execOp ev o).run Tryz.prog w3 = .ok (.value (.slice (some ⟨w3.heap.size,0,none⟩) 1 1)) w4 := fun ev o x q1 q2 => unhide HW4 ▸ bsSay wn st bd tg F.ver F.now by_ ev o x q1 q2 w3
      generalize hG3 : w3.heap.size = g3 at BS r1 hat
      clear hSd hownd hbA hsA hownA r2 r3 r4 hF5 hS6 hF6 hT6 hB5 hT5 hown5 hown6 hw6 hw4 SF hat hG3
      refine t_tk 0 rfl (.pointer (some ⟨bb,0,none⟩)) (by kernel_rfl) (fun _ _ _ h => h) rfl (fun w' hw' => by simp [go_sem]) hS ?_
      simp only [Act.put,qA,qB,qC]
      refine t_tk 1 rfl (.pointer (some ⟨bb,0,none⟩)) (by kernel_rfl) (fun _ _ _ h => h) rfl (fun w' hw' => by simp [go_sem]) hS ?_
      simp only [Act.put,qA,qB,qC]
      refine t_tk 2 rfl (.pointer (some ⟨bb,0,none⟩)) (by kernel_rfl) (fun _ _ _ h => h) rfl (fun w' hw' => by simp [go_sem]) hS ?_
      simp only [Act.put,qA,qB,qC]
      refine t_tk 3 rfl (.pointer (some ⟨bb,9,none⟩)) (by kernel_rfl) (fun _ _ _ h => h) rfl (fun w' hw' => by simp [go_sem]) hS ?_
      simp only [Act.put,qA,qB,qC]
      refine t_tk 5 rfl (.slice (some ⟨g2,off2,none⟩) l.length cap) (by kernel_rfl) (fun _ _ _ h => h) rfl (fun w' hw' => by simp [go_sem]) hS ?_
      simp only [Act.put,qA,qB,qC]
      refine t_tk 6 rfl (.int .i64 k) (by kernel_rfl) (fun _ _ _ h => h) rfl (fun w' hw' => by simp [go_sem]) hS ?_
      simp only [Act.put,qA,qB,qC]
      refine t_tk 7 rfl (.pointer (some ⟨g2,off2 + k * 4,none⟩)) (by kernel_rfl) (fun _ _ _ h => h) rfl (fun w' hw' => by simp [go_sem,hkn]) hS ?_
      simp only [Act.put,qA,qB,qC]
      refine t_tk 8 rfl (.agg #[.int .i64 (wn : Int),.int .i64 st,.string bd,.string tg]) (by kernel_rfl) (fun _ _ _ h => h) rfl (fun w' hw' => ldcR _ _ _ 35 rfl _ rfl _ Tryz.underlying35 rfl (sz35 _ _ _ _) g2 (off2 + k * 4) rfl _ hw'.2.2) hS ?_
      simp only [Act.put,qA,qB,qC]
      refine t_tk 9 rfl (.pointer (some ⟨bb,0,none⟩)) (by kernel_rfl) (fun _ _ _ h => h) rfl (fun w' hw' => by simp [go_sem]) hS ?_
      simp only [Act.put,qA,qB,qC]
      refine t_tk 11 rfl (.pointer (some ⟨bb,0,none⟩)) (by kernel_rfl) (fun _ _ _ h => h) rfl (fun w' hw' => by simp [go_sem]) hS ?_
      simp only [Act.put,qA,qB,qC]
      refine t_tk 12 rfl (.pointer (some ⟨bb,0,none⟩)) (by kernel_rfl) (fun _ _ _ h => h) rfl (fun w' hw' => by simp [go_sem]) hS ?_
      simp only [Act.put,qA,qB,qC]
      refine t_tk 13 rfl (.pointer (some ⟨bb,7,none⟩)) (by kernel_rfl) (fun _ _ _ h => h) rfl (fun w' hw' => by simp [go_sem]) hS ?_
      simp only [Act.put,qA,qB,qC]
      refine t_tk 14 rfl (.int .i64 F.now) (by kernel_rfl) (fun _ _ _ h => h) rfl (fun w' hw' => by simp [go_sem,hw'.2.1]) hS ?_
      simp only [Act.put,qA,qB,qC]
      refine t_tk 15 rfl (.int .i64 by_) (by kernel_rfl) (fun _ _ _ h => h) rfl (fun w' hw' => by simp [go_sem]) hS ?_
      simp only [Act.put,qA,qB,qC]
      refine wpAnyH_all (rs := [4,10]) (by kernel_rfl) (by simp) ?_
      intro i hi
      simp only [List.mem_cons,List.not_mem_nil,or_false] at hi
      rcases hi with rfl | rfl
      . refine t_op 4 rfl rfl ((.slice oa3 M1.says.length cap3)) (w3) (by simp [go_sem,c9]) (hS) ?_
        simp only [Act.put,qA,qB,qC]
        refine wpAnyH_all (rs := [10]) (by kernel_rfl) (by simp) ?_
        intro i hi
        simp only [List.mem_singleton] at hi
        subst hi
        refine t_call 10 rfl rfl 29 #[.pointer (some ⟨bb,0,none⟩)] (by simp [go_sem]) (.int .i64 F.ver) VE hS ?_
        simp only [Act.put,qA,qB,qC]
        refine t_tk 16 rfl (.agg #[.int .i64 (wn : Int),.int .i64 st,.string bd,.string tg,.int .i64 (F.ver : Int),.int .i64 (F.now : Int),.int .i64 by_]) (by kernel_rfl) (fun _ _ _ h => h) rfl (fun w' _ => bt37 wn st bd tg F.ver F.now by_ _ _ _ _ _ _ rfl rfl rfl rfl rfl w') hS ?_
        simp only [Act.put,qA,qB,qC]
        refine wpAnyH_all (rs := [17]) (by kernel_rfl) (by simp) ?_
        intro i hi
        simp only [List.mem_singleton] at hi
        subst hi
        refine t_op 17 rfl rfl (.slice (some ⟨g3,0,none⟩) 1 1) (w4) (BS _ _ _ rfl rfl) (hSA) ?_
        simp only [Act.put,qA,qB,qC]
        refine wpAnyH_all (rs := [18]) (by kernel_rfl) (by simp) ?_
        intro i hi
        simp only [List.mem_singleton] at hi
        subst hi
        refine t_op 18 rfl rfl (.slice oa5 n5 k5) (w5) (exR 31 r1 _ _ _ _ rfl rfl rfl rfl) (hS5) ?_
        simp only [Act.put,qA,qB,qC]
        refine t_tk 19 rfl (.pointer (some ⟨bb,0,none⟩)) (by kernel_rfl) (fun _ _ _ h => h) rfl (fun w' hw' => by simp [go_sem]) hS5 ?_
        simp only [Act.put,qA,qB,qC]
        refine t_tk 20 rfl (.pointer (some ⟨bb,9,none⟩)) (by kernel_rfl) (fun _ _ _ h => h) rfl (fun w' hw' => by simp [go_sem]) hS5 ?_
        simp only [Act.put,qA,qB,qC]
        refine wpAnyH_all (rs := [21]) (by kernel_rfl) (by simp) ?_
        intro i hi
        simp only [List.mem_singleton] at hi
        subst hi
        refine t_skip 21 rfl rfl (w6) (stS1 _ _ _ _ 31 rfl (fun _ => by simp [go_sem]) bb 9 oa5 n5 k5 rfl rfl w5 w6 c95 fz5 (unhide HW6)) (hS6') ?_
        simp only [Act.put]
        refine wpAnyH_done (by kernel_rfl) ?_ _
        clear hS c9 VE VEA hve hSA c9A hS5 c95 fz5 hS6' BS r1 HW6 HW4
        obtain ⟨⟨Φ8,Ψ8,hS8⟩,hF8,hT8⟩ := (unhide HS6).wai (M1.waiting - 1)
        have hown8 := (unhide HOWN6).frmT hF8 hT8 (by decide)
        have c10 : w6.cell? ⟨bb,10,none⟩ = some (.int .i64 M1.waiting) := by rw [<- hbw]; exact (unhide HS6).bk.blk.cells 10
        have fz10 := frzB (unhide HS6).bk.blk 10
        obtain ⟨w7,hw7⟩ : ∃ w7,w6.setCell ⟨bb,10,none⟩ (.int .i64 (M1.waiting - 1)) = w7 := ⟨_,rfl⟩
        rw [hw7] at hS8 hown8
        have HQ : Hid (StE w0 w7 bb fb F (M.hear F.ver F.now by_ (l.take (k + 1)))) := by
          rw [unhide HMN]
          refine ⟨Φ8,Ψ8,{ B with sv := .slice oa5 n5 k5,wai := M1.waiting - 1 },WS,?_⟩
          have e : M1.hear1 F.ver F.now by_ ⟨wn,st,bd,tg⟩ = { M1 with reqs := M1.reqs.set wn ⟨at_,ak,ae,av,an,aw,M1.says.length⟩,says := M1.says ++ [⟨⟨wn,st,bd,tg⟩,F.ver,F.now,by_⟩],waiting := M1.waiting - 1 } := by
            unfold BM.hear1
            simp only [Int.toNat_natCast]
            rw [modify_set _ _ ha]
          rw [e]
          exact hS8
        have HOWN8 := hide hown8
        have HW7 := hide hw7
        have hov : IntKind.i64.wrap (M1.waiting - 1) = M1.waiting - 1 := i64_of _ (by omega)
        clear hS8 hF8 hT8 hown8 HS6 HOWN6 hw7 HMN ha
        go_wp2_with (refine wlSk w7 (stI _ _ _ _ rfl bb 10 (M1.waiting - 1) rfl (by simp [go_sem]) w6 w7 c10 fz10 (unhide HW7)) rfl ?_)
        go_roundw
        case rel => exact ⟨k + 1,by omega,by go_num,unhide HQ |> hide,hide (unhide HOWN8)⟩
        case measure => simp [intOf]; omega
      . refine t_call 10 rfl rfl 29 #[.pointer (some ⟨bb,0,none⟩)] (by simp [go_sem]) (.int .i64 F.ver) VE hS ?_
        simp only [Act.put,qA,qB,qC]
        refine t_tk 16 rfl (.agg #[.int .i64 (wn : Int),.int .i64 st,.string bd,.string tg,.int .i64 (F.ver : Int),.int .i64 (F.now : Int),.int .i64 by_]) (by kernel_rfl) (fun _ _ _ h => h) rfl (fun w' _ => bt37 wn st bd tg F.ver F.now by_ _ _ _ _ _ _ rfl rfl rfl rfl rfl w') hS ?_
        simp only [Act.put,qA,qB,qC]
        refine wpAnyH_all (rs := [4,17]) (by kernel_rfl) (by simp) ?_
        intro i hi
        simp only [List.mem_cons,List.not_mem_nil,or_false] at hi
        rcases hi with rfl | rfl
        . refine t_op 4 rfl rfl ((.slice oa3 M1.says.length cap3)) (w3) (by simp [go_sem,c9]) (hS) ?_
          simp only [Act.put,qA,qB,qC]
          refine wpAnyH_all (rs := [17]) (by kernel_rfl) (by simp) ?_
          intro i hi
          simp only [List.mem_singleton] at hi
          subst hi
          refine t_op 17 rfl rfl (.slice (some ⟨g3,0,none⟩) 1 1) (w4) (BS _ _ _ rfl rfl) (hSA) ?_
          simp only [Act.put,qA,qB,qC]
          refine wpAnyH_all (rs := [18]) (by kernel_rfl) (by simp) ?_
          intro i hi
          simp only [List.mem_singleton] at hi
          subst hi
          refine t_op 18 rfl rfl (.slice oa5 n5 k5) (w5) (exR 31 r1 _ _ _ _ rfl rfl rfl rfl) (hS5) ?_
          simp only [Act.put,qA,qB,qC]
          refine t_tk 19 rfl (.pointer (some ⟨bb,0,none⟩)) (by kernel_rfl) (fun _ _ _ h => h) rfl (fun w' hw' => by simp [go_sem]) hS5 ?_
          simp only [Act.put,qA,qB,qC]
          refine t_tk 20 rfl (.pointer (some ⟨bb,9,none⟩)) (by kernel_rfl) (fun _ _ _ h => h) rfl (fun w' hw' => by simp [go_sem]) hS5 ?_
          simp only [Act.put,qA,qB,qC]
          refine wpAnyH_all (rs := [21]) (by kernel_rfl) (by simp) ?_
          intro i hi
          simp only [List.mem_singleton] at hi
          subst hi
          refine t_skip 21 rfl rfl (w6) (stS1 _ _ _ _ 31 rfl (fun _ => by simp [go_sem]) bb 9 oa5 n5 k5 rfl rfl w5 w6 c95 fz5 (unhide HW6)) (hS6') ?_
          simp only [Act.put]
          refine wpAnyH_done (by kernel_rfl) ?_ _
          clear hS c9 VE VEA hve hSA c9A hS5 c95 fz5 hS6' BS r1 HW6 HW4
          obtain ⟨⟨Φ8,Ψ8,hS8⟩,hF8,hT8⟩ := (unhide HS6).wai (M1.waiting - 1)
          have hown8 := (unhide HOWN6).frmT hF8 hT8 (by decide)
          have c10 : w6.cell? ⟨bb,10,none⟩ = some (.int .i64 M1.waiting) := by rw [<- hbw]; exact (unhide HS6).bk.blk.cells 10
          have fz10 := frzB (unhide HS6).bk.blk 10
          obtain ⟨w7,hw7⟩ : ∃ w7,w6.setCell ⟨bb,10,none⟩ (.int .i64 (M1.waiting - 1)) = w7 := ⟨_,rfl⟩
          rw [hw7] at hS8 hown8
          have HQ : Hid (StE w0 w7 bb fb F (M.hear F.ver F.now by_ (l.take (k + 1)))) := by
            rw [unhide HMN]
            refine ⟨Φ8,Ψ8,{ B with sv := .slice oa5 n5 k5,wai := M1.waiting - 1 },WS,?_⟩
            have e : M1.hear1 F.ver F.now by_ ⟨wn,st,bd,tg⟩ = { M1 with reqs := M1.reqs.set wn ⟨at_,ak,ae,av,an,aw,M1.says.length⟩,says := M1.says ++ [⟨⟨wn,st,bd,tg⟩,F.ver,F.now,by_⟩],waiting := M1.waiting - 1 } := by
              unfold BM.hear1
              simp only [Int.toNat_natCast]
              rw [modify_set _ _ ha]
            rw [e]
            exact hS8
          have HOWN8 := hide hown8
          have HW7 := hide hw7
          have hov : IntKind.i64.wrap (M1.waiting - 1) = M1.waiting - 1 := i64_of _ (by omega)
          clear hS8 hF8 hT8 hown8 HS6 HOWN6 hw7 HMN ha
          go_wp2_with (refine wlSk w7 (stI _ _ _ _ rfl bb 10 (M1.waiting - 1) rfl (by simp [go_sem]) w6 w7 c10 fz10 (unhide HW7)) rfl ?_)
          go_roundw
          case rel => exact ⟨k + 1,by omega,by go_num,unhide HQ |> hide,hide (unhide HOWN8)⟩
          case measure => simp [intOf]; omega
        . refine t_op 17 rfl rfl (.slice (some ⟨g3,0,none⟩) 1 1) (w4) (BS _ _ _ rfl rfl) (hSA) ?_
          simp only [Act.put,qA,qB,qC]
          refine wpAnyH_all (rs := [4]) (by kernel_rfl) (by simp) ?_
          intro i hi
          simp only [List.mem_singleton] at hi
          subst hi
          refine t_op 4 rfl rfl ((.slice oa3 M1.says.length cap3)) (w4) (by simp [go_sem,c9A]) (hSA) ?_
          simp only [Act.put,qA,qB,qC]
          refine wpAnyH_all (rs := [18]) (by kernel_rfl) (by simp) ?_
          intro i hi
          simp only [List.mem_singleton] at hi
          subst hi
          refine t_op 18 rfl rfl (.slice oa5 n5 k5) (w5) (exR 31 r1 _ _ _ _ rfl rfl rfl rfl) (hS5) ?_
          simp only [Act.put,qA,qB,qC]
          refine t_tk 19 rfl (.pointer (some ⟨bb,0,none⟩)) (by kernel_rfl) (fun _ _ _ h => h) rfl (fun w' hw' => by simp [go_sem]) hS5 ?_
          simp only [Act.put,qA,qB,qC]
          refine t_tk 20 rfl (.pointer (some ⟨bb,9,none⟩)) (by kernel_rfl) (fun _ _ _ h => h) rfl (fun w' hw' => by simp [go_sem]) hS5 ?_
          simp only [Act.put,qA,qB,qC]
          refine wpAnyH_all (rs := [21]) (by kernel_rfl) (by simp) ?_
          intro i hi
          simp only [List.mem_singleton] at hi
          subst hi
          refine t_skip 21 rfl rfl (w6) (stS1 _ _ _ _ 31 rfl (fun _ => by simp [go_sem]) bb 9 oa5 n5 k5 rfl rfl w5 w6 c95 fz5 (unhide HW6)) (hS6') ?_
          simp only [Act.put]
          refine wpAnyH_done (by kernel_rfl) ?_ _
          clear hS c9 VE VEA hve hSA c9A hS5 c95 fz5 hS6' BS r1 HW6 HW4
          obtain ⟨⟨Φ8,Ψ8,hS8⟩,hF8,hT8⟩ := (unhide HS6).wai (M1.waiting - 1)
          have hown8 := (unhide HOWN6).frmT hF8 hT8 (by decide)
          have c10 : w6.cell? ⟨bb,10,none⟩ = some (.int .i64 M1.waiting) := by rw [<- hbw]; exact (unhide HS6).bk.blk.cells 10
          have fz10 := frzB (unhide HS6).bk.blk 10
          obtain ⟨w7,hw7⟩ : ∃ w7,w6.setCell ⟨bb,10,none⟩ (.int .i64 (M1.waiting - 1)) = w7 := ⟨_,rfl⟩
          rw [hw7] at hS8 hown8
          have HQ : Hid (StE w0 w7 bb fb F (M.hear F.ver F.now by_ (l.take (k + 1)))) := by
            rw [unhide HMN]
            refine ⟨Φ8,Ψ8,{ B with sv := .slice oa5 n5 k5,wai := M1.waiting - 1 },WS,?_⟩
            have e : M1.hear1 F.ver F.now by_ ⟨wn,st,bd,tg⟩ = { M1 with reqs := M1.reqs.set wn ⟨at_,ak,ae,av,an,aw,M1.says.length⟩,says := M1.says ++ [⟨⟨wn,st,bd,tg⟩,F.ver,F.now,by_⟩],waiting := M1.waiting - 1 } := by
              unfold BM.hear1
              simp only [Int.toNat_natCast]
              rw [modify_set _ _ ha]
            rw [e]
            exact hS8
          have HOWN8 := hide hown8
          have HW7 := hide hw7
          have hov : IntKind.i64.wrap (M1.waiting - 1) = M1.waiting - 1 := i64_of _ (by omega)
          clear hS8 hF8 hT8 hown8 HS6 HOWN6 hw7 HMN ha
          go_wp2_with (refine wlSk w7 (stI _ _ _ _ rfl bb 10 (M1.waiting - 1) rfl (by simp [go_sem]) w6 w7 c10 fz10 (unhide HW7)) rfl ?_)
          go_roundw
          case rel => exact ⟨k + 1,by omega,by go_num,unhide HQ |> hide,hide (unhide HOWN8)⟩
          case measure => simp [intOf]; omega
    . have hge : ¬ (k : Int) < l.length := by omega
      have hkl : k = l.length := by omega
      have HQ : Hid (StE w0 wr bb fb F (M.hear F.ver F.now by_ l)) := by have := unhide hst; rwa [hkl,List.take_length] at this
      clear hst hown
      subst hkl
      go_wp2_with fail
      exact bodyPost_end (results_none Tryz.results26 _ _ _) rfl ⟨rfl,unhide HQ⟩
section
variable {O : Ora} {F G : FM} {b c : BM}
structure Rest (F : FM) : Prop where
  line : F.line = []
  fls : F.fls = []
  waiting : F.waiting = []
theorem Inv.allSaid (h : Inv O F b) (hw : F.waiting = []) (i : Nat) (a : Ask) (ha : b.reqs[i]? = some a) : a.said ≠ -1 := by
  intro e
  have hm := (mem_unsaid F.wait b.reqs 0 ⟨((0 + i : Nat) : Int),a.k,a.ver,a.now + F.wait⟩).2 ⟨i,a,ha,e,rfl⟩
  rw [<- h.wai,hw] at hm
  simp at hm
abbrev calmP (O : Ora) (p : FM × BM) : FM × BM := calmB O p p.1.wks.length ((p.1.queue + 2) * 41)
theorem calm_rest (p : FM × BM) (h : Inv O p.1 p.2) : On (O := O) p (calmP O p) /\ Rest (calmP O p).1 := by
  refine ⟨on_calm h _ _,?_⟩
  obtain ⟨h1,h2,h3⟩ := calm_done h.ok p.1.wks.length rfl ((p.1.queue + 2) * 41) (by omega)
  unfold calmP
  rw [<- calmB_fst] at h1 h2 h3
  exact ⟨h1,h2,h3⟩
def arrR (O : Ora) (F : FM) (k : K4) (e : Int) (tag : ByteArray) : FM × List Rep := if e = 0 then F.arriveK O k tag else F.arriveE e
def arrB (O : Ora) (p : FM × BM) (k : K4) (e : Int) (tag : ByteArray) : FM × BM :=
  ((arrR O p.1 k e tag).1,(p.2.add tag k e p.1.ver p.1.now (arrR O p.1 k e tag).2.isEmpty).hear p.1.ver p.1.now 1 (arrR O p.1 k e tag).2)
theorem arrR_who (F : FM) (k : K4) (e : Int) (tag : ByteArray) : (arrR O F k e tag).2 = [] \/ ∃ r,(arrR O F k e tag).2 = [r] /\ r.who = F.arrived := by
  unfold arrR
  split
  . exact arriveK_who F k tag
  . exact Or.inr ⟨_,rfl,rfl⟩
structure LikeA (F G : FM) : Prop where
  queue : G.queue = F.queue
  wait : G.wait = F.wait
  chunk : G.chunk = F.chunk
  room : G.room = F.room
  now : G.now = F.now
  arrived : G.arrived = F.arrived + 1
  ver : G.ver = F.ver
  LS : G.LS = F.LS
  FLs : G.FLs = F.FLs
  wks : G.wks = F.wks
  started : G.started = F.started
theorem arrR_like (F : FM) (k : K4) (e : Int) (tag : ByteArray) : LikeA F (arrR O F k e tag).1 := by
  unfold arrR
  split
  . unfold FM.arriveK
    dsimp only
    split
    . exact ⟨rfl,rfl,rfl,rfl,rfl,rfl,rfl,rfl,rfl,rfl,rfl⟩
    . cases findT F.tiles k with
      | some t => exact ⟨rfl,rfl,rfl,rfl,rfl,rfl,rfl,rfl,rfl,rfl,rfl⟩
      | none =>
        dsimp only
        split
        . exact ⟨rfl,rfl,rfl,rfl,rfl,rfl,rfl,rfl,rfl,rfl,rfl⟩
        . exact ⟨rfl,rfl,rfl,rfl,rfl,rfl,rfl,rfl,rfl,rfl,rfl⟩
  . exact ⟨rfl,rfl,rfl,rfl,rfl,rfl,rfl,rfl,rfl,rfl,rfl⟩
def Named (k : K4) (e : Int) : Prop := (e = 0 /\ KOk k) \/ (e ≠ 0 /\ k = ⟨0,0,0,0⟩)
theorem Inv.arrB {p : FM × BM} (h : Inv O p.1 p.2) {k : K4} {e : Int} (hk : Named k e) (tag : ByteArray) : Inv O (arrB O p k e tag).1 (arrB O p k e tag).2 := by
  unfold Go.Proofs.YtpopchckldbhdaaGreatDoor.arrB arrR
  rcases hk with ⟨rfl,hk⟩ | ⟨he,rfl⟩
  . simp only [if_pos]
    exact h.arriveK tag hk
  . simp only [if_neg he]
    exact h.arriveE tag he _ ⟨Int.le_refl _,Int.le_refl _⟩
theorem Bd.arrB {n : Nat} {p : FM × BM} (h : Bd n p.1 p.2) (k : K4) (e : Int) (tag : ByteArray) : Bd (n + 1) (arrB O p k e tag).1 (arrB O p k e tag).2 := by
  have hl := arrR_like (O := O) p.1 k e tag
  have h1 := h.now
  have h2 := h.arr
  exact (h.add tag k e p.1.ver p.1.now (arrR O p.1 k e tag).2.isEmpty).hear (by show (arrR O p.1 k e tag).1.now <= _; rw [hl.now]; omega) (by show (arrR O p.1 k e tag).1.arrived <= _; rw [hl.arrived]; omega) (by show p.1.arrived + 1 <= (arrR O p.1 k e tag).1.arrived; rw [hl.arrived]; exact Nat.le_refl _) _
theorem arrB_one {p : FM × BM} {k : K4} {e : Int} {tag : ByteArray} {r : Rep} (h : Inv O p.1 p.2) (hr : (arrR O p.1 k e tag).2 = [r]) : (arrB O p k e tag).2.reqs[p.2.reqs.length]? = some ⟨tag,k,e,p.1.ver,p.1.now,p.2.waiting,p.2.says.length⟩ /\ (arrB O p k e tag).2.says = p.2.says ++ [⟨r,p.1.ver,p.1.now,1⟩] /\ (arrB O p k e tag).2.reqs.length = p.2.reqs.length + 1 /\ (arrB O p k e tag).2.joined = p.2.joined := by
  have hw : r.who = p.1.arrived := by
    rcases arrR_who (O := O) p.1 k e tag with q | ⟨r',q,q'⟩
    . rw [hr] at q; simp at q
    . rw [hr] at q; simp at q; rw [q]; exact q'
  have hn := h.nreq
  unfold Go.Proofs.YtpopchckldbhdaaGreatDoor.arrB
  dsimp only
  rw [hr]
  have hlast : (p.2.add tag k e p.1.ver p.1.now [r].isEmpty).reqs[r.who.toNat]? = some ⟨tag,k,e,p.1.ver,p.1.now,p.2.waiting,-1⟩ := by
    show (p.2.reqs ++ [_])[r.who.toNat]? = _
    rw [hw,show ((p.1.arrived : Int)).toNat = p.2.reqs.length by omega]
    simp
  have hx := hear1_get (ver := (p.1.ver : Int)) (now := (p.1.now : Int)) (by_ := 1) hlast p.2.reqs.length
  rw [if_pos (by omega)] at hx
  obtain ⟨q1,q2,q3,q4⟩ := hear_sz (ver := (p.1.ver : Int)) (now := (p.1.now : Int)) (by_ := 1) [r] (p.2.add tag k e p.1.ver p.1.now [r].isEmpty)
  exact ⟨hx,q4,q1.trans (by simp [BM.add]),q3⟩
theorem arrB_none {p : FM × BM} {k : K4} {e : Int} {tag : ByteArray} (hr : (arrR O p.1 k e tag).2 = []) : (arrB O p k e tag).2.reqs = p.2.reqs ++ [⟨tag,k,e,p.1.ver,p.1.now,p.2.waiting,-1⟩] /\ (arrB O p k e tag).2.says = p.2.says := by
  unfold Go.Proofs.YtpopchckldbhdaaGreatDoor.arrB
  dsimp only
  rw [hr]
  exact ⟨rfl,rfl⟩
theorem arrB_last {p : FM × BM} (h : Inv O p.1 p.2) (k : K4) (e : Int) (tag : ByteArray) : ∃ m,(arrB O p k e tag).2.reqs[p.2.reqs.length]? = some ⟨tag,k,e,p.1.ver,p.1.now,p.2.waiting,m⟩ /\ (arrB O p k e tag).2.reqs.length = p.2.reqs.length + 1 := by
  rcases arrR_who (O := O) p.1 k e tag with q | ⟨r',q,q'⟩
  . obtain ⟨h1,h2⟩ := arrB_none (p := p) q
    exact ⟨-1,by rw [h1]; simp,by rw [h1]; simp⟩
  . obtain ⟨h1,h2,h3,_⟩ := arrB_one h q
    exact ⟨_,h1,h3⟩
theorem last_fine {p q : FM × BM} (h : Inv O p.1 p.2) {k : K4} {tag : ByteArray} (hx : ∃ x,(arrB O p k 0 tag).2.says = p.2.says ++ x /\ ∀ s ∈ x,s.r.st = 200) (ho : On (O := O) (arrB O p k 0 tag) q) (hw : q.1.waiting = []) :
    (∃ a s,q.2.reqs[p.2.reqs.length]? = some a /\ 0 <= a.said /\ a.e = 0 /\ a.k = k /\ q.2.says[a.said.toNat]? = some s /\ s.r.st = 200 /\ s.r.body = O.body (p.1.FLs p.1.ver) k /\ s.r.tag = O.tag k (O.stamp p.1.LS p.1.ver k)) /\ q.2.reqs.length = p.2.reqs.length + 1 /\ ∃ x,q.2.says = p.2.says ++ x /\ ∀ s ∈ x,s.r.st = 200 := by
  obtain ⟨x,hx1,hx2⟩ := hx
  obtain ⟨y,hy1,hy2⟩ := ho.fine.says
  have hsay : q.2.says = p.2.says ++ (x ++ y) := by rw [hy1,hx1,List.append_assoc]
  have hst : ∀ s ∈ x ++ y,s.r.st = 200 := fun s hs => (List.mem_append.1 hs).elim (hx2 s) (fun q => (hy2 s q).1)
  obtain ⟨m,ha0,hl0⟩ := arrB_last h k 0 tag
  have hlen := ho.fine.len
  have hl := arrR_like (O := O) p.1 k 0 tag
  refine ⟨?_,by rw [hlen,hl0],_,hsay,hst⟩
  obtain ⟨a,ha⟩ : ∃ a,q.2.reqs[p.2.reqs.length]? = some a := ⟨_,List.getElem?_eq_getElem (by omega)⟩
  obtain ⟨a0,n,h1,h2,h3⟩ := ho.fine.req _ a ha
  rw [ha0] at h1
  simp only [Option.some.injEq] at h1
  subst h1
  have hne := ho.inv.allSaid hw _ a ha
  rcases ho.inv.bi.ask _ a ha with c | ⟨c0,s,cs,cw⟩
  . exact absurd c hne
  . obtain ⟨s1,s2,s3,a',s4,s5,s6⟩ := ho.inv.bi.say _ s cs
    rw [cw] at s4
    have e1 : ((p.2.reqs.length : Nat) : Int).toNat = p.2.reqs.length := by omega
    rw [e1,ha] at s4
    simp only [Option.some.injEq] at s4
    subst s4
    have hst' : s.r.st = 200 := by
      have hm : s ∈ q.2.says := List.mem_of_getElem? cs
      rw [hsay] at hm
      rcases List.mem_append.1 hm with hm | hm
      . obtain ⟨j,hj⟩ := List.mem_iff_getElem?.1 hm
        obtain ⟨_,_,_,b',b4,_⟩ := h.bi.say j s hj
        rw [cw,e1] at b4
        exact absurd (List.getElem?_eq_some_iff.1 b4).1 (by omega)
      . exact hst s hm
    have ev : q.1.ver = p.1.ver := ho.like.ver.trans hl.ver
    have eF : q.1.FLs = p.1.FLs := ho.like.FLs.trans hl.FLs
    have eL : q.1.LS = p.1.LS := ho.like.LS.trans hl.LS
    refine ⟨a,s,ha,c0,by rw [h2],by rw [h2],cs,hst',?_⟩
    rcases s6 with g | g | g | g | g
    . exact absurd (by rw [h2]) g.1
    . have := g.2.2.1; omega
    . obtain ⟨_,_,_,_,v,g5,g6,g7,g8,g9⟩ := g
      have : a.ver = p.1.ver := by rw [h2]
      have ek : a.k = k := by rw [h2]
      have : v = p.1.ver := by omega
      subst this
      rw [ek,eF] at g8
      rw [ek,eL] at g9
      exact ⟨g8,g9⟩
    . have := g.2.2.1; omega
    . have := g.2.2.1; omega
theorem arr_plain {p : FM × BM} (h : Inv O p.1 p.2) (hr : p.1.waiting = []) {k : K4} {tag : ByteArray} (ht : tag ≠ O.tag k (O.stamp p.1.LS p.1.ver k)) : ∃ x,(arrB O p k 0 tag).2.says = p.2.says ++ x /\ ∀ s ∈ x,s.r.st = 200 := by
  have hq := h.ok.q
  have e : arrR O p.1 k 0 tag = p.1.arriveK O k tag := if_pos rfl
  have hne : ¬ tag = O.tag k (p.1.stamp O p.1.ver k) := ht
  cases hf : findT p.1.tiles k with
  | some t =>
    have e2 : (arrR O p.1 k 0 tag).2 = [⟨p.1.arrived,200,t.body,t.tag⟩] := by
      rw [e]; unfold FM.arriveK; rw [if_neg hne]; simp only [hf]
    obtain ⟨_,h2,_,_⟩ := arrB_one h e2
    exact ⟨_,h2,fun s hs => by simp at hs; rw [hs]⟩
  | none =>
    have e2 : (arrR O p.1 k 0 tag).2 = [] := by
      rw [e]; unfold FM.arriveK; rw [if_neg hne]; simp only [hf]
      rw [if_neg (by rw [hr]; simp; omega)]
    exact ⟨[],by rw [(arrB_none e2).2]; simp,by simp⟩
theorem evict_suf (room n : Nat) (S : List Tile) (hS : bytesT S + n <= room) : ∀ (m : Nat) (P : List Tile),P.length <= m -> ((P ++ S).map Tile.k).Nodup -> ∃ P',evict room n (P ++ S) = P' ++ S
  | _,[],_,_ => by
    refine ⟨[],?_⟩
    rw [List.nil_append]
    cases S with
    | nil => unfold evict; rfl
    | cons t S => unfold evict; rw [if_neg (by omega)]
  | 0,t :: P,hm,_ => by simp at hm
  | m + 1,t :: P,hm,hn => by
    rw [List.cons_append]
    unfold evict
    split
    . have hn' : t.k ∉ (P ++ S).map Tile.k /\ ((P ++ S).map Tile.k).Nodup := by
        have := hn
        rw [List.cons_append,List.map_cons] at this
        exact List.nodup_cons.1 this
      have e : outT (P ++ S) t.k = P ++ S := by
        unfold outT
        rw [List.filter_eq_self]
        intro u hu
        simp only [decide_eq_true_eq]
        intro q
        exact hn'.1 (List.mem_map.2 ⟨u,hu,q⟩)
      rw [e]
      exact evict_suf room n S hS m P (by simp at hm; omega) hn'.2
    . exact ⟨t :: P,rfl⟩
theorem layT_suf {room : Nat} {P S : List Tile} {t : Tile} (hS : bytesT S + t.body.size <= room) (hn : ((P ++ S).map Tile.k).Nodup) (ht : t.k ∉ S.map Tile.k) : ∃ P',layT room (P ++ S) t = P' ++ (S ++ [t]) /\ ((P' ++ (S ++ [t])).map Tile.k).Nodup := by
  have e : outT (P ++ S) t.k = outT P t.k ++ S := by
    unfold outT
    rw [List.filter_append]
    congr 1
    rw [List.filter_eq_self]
    intro u hu
    simp only [decide_eq_true_eq]
    exact fun q => ht (List.mem_map.2 ⟨u,hu,q⟩)
  have hsub : (outT (P ++ S) t.k).Sublist (P ++ S) := outT_sub _ _
  obtain ⟨P',hP⟩ := evict_suf room t.body.size S hS _ (outT P t.k) (Nat.le_refl _) (by rw [<- e]; exact (hsub.map _).nodup hn)
  refine ⟨P',?_,?_⟩
  . unfold layT
    rw [if_neg (by omega),e,hP,List.append_assoc]
  . rw [<- List.append_assoc,<- hP,<- e]
    exact nodup_out hn t (evict_sub room t.body.size _ _ (Nat.le_refl _)).1
theorem lays_suf {room : Nat} : ∀ (ts P S : List Tile),bytesT S + bytesT ts <= room -> ((P ++ S).map Tile.k).Nodup -> ((S ++ ts).map Tile.k).Nodup -> ∃ P',ts.foldl (layT room) (P ++ S) = P' ++ (S ++ ts)
  | [],P,S,_,_,_ => ⟨P,by simp⟩
  | t :: ts,P,S,hb,hn,hd => by
    simp only [bytesT] at hb
    have ht : t.k ∉ S.map Tile.k := by
      rw [List.map_append,List.map_cons] at hd
      intro q
      exact (List.nodup_append.1 hd).2.2 _ q _ (List.mem_cons_self ..) rfl
    obtain ⟨P',h1,h2⟩ := layT_suf (room := room) (P := P) (S := S) (t := t) (by omega) hn ht
    rw [List.foldl_cons,h1]
    obtain ⟨P2,h3⟩ := lays_suf (room := room) ts P' (S ++ [t]) (by rw [bytesT_app]; simp only [bytesT]; omega) h2 (by rw [List.append_assoc]; exact hd)
    exact ⟨P2,by rw [h3,List.append_assoc]; rfl⟩
theorem bytes_up : ∀ ts : List Tile,(∀ t ∈ ts,t.body.size <= 67) -> bytesT ts <= 67 * ts.length
  | [],_ => by simp [bytesT]
  | t :: ts,h => by
    have h1 := bytes_up ts fun u hu => h u (List.mem_cons_of_mem _ hu)
    have h2 := h t (List.mem_cons_self ..)
    simp only [List.length_cons,bytesT]
    omega
theorem keys_nodup (b : K4) : b.keys.Nodup := by
  unfold K4.keys
  split
  . simp
  . simp only [List.nodup_cons,List.mem_cons,List.not_mem_nil,or_false,not_or,not_false_eq_true,List.nodup_nil,and_true]
    refine ⟨⟨fun e => ?_,fun e => ?_,fun e => ?_⟩,⟨fun e => ?_,fun e => ?_⟩,fun e => ?_⟩
    . have := congrArg K4.x e; simp only at this; omega
    . have := congrArg K4.y e; simp only at this; omega
    . have := congrArg K4.y e; simp only at this; omega
    . have := congrArg K4.y e; simp only at this; omega
    . have := congrArg K4.y e; simp only at this; omega
    . have := congrArg K4.x e; simp only at this; omega
theorem laid_in (h : Ok O F) (hr : 268 <= F.room) {k : K4} (hk : KOk k) {f : Fl} (hb : f.b = k.blk) (hv : f.reads = F.ver) : ∃ t ∈ F.layU O f.reads F.tiles (F.tilesOf O f),t.k = k := by
  have hm := tilesOf_mem (O := O) F f hk hb
  have hks : (F.tilesOf O f).map Tile.k = f.b.keys := by
    unfold FM.tilesOf
    rw [List.map_map]
    exact (List.map_congr_left fun _ _ => rfl).trans (List.map_id _)
  have hsame : ∀ t ∈ F.tilesOf O f,F.same O t.k f.reads = true := fun t ht => by
    unfold FM.same FM.stamp
    rw [hv,decide_eq_true_eq]
    exact (h.hi.rng F.ver (Nat.le_refl _) t.k (hm t ht).1).2
  have hfold : ∀ (ts : List Tile) (cs : List Tile),(∀ t ∈ ts,F.same O t.k f.reads = true) -> F.layU O f.reads cs ts = ts.foldl (layT F.room) cs := by
    intro ts
    induction ts with
    | nil => intro cs _; rfl
    | cons t ts ih =>
      intro cs hs
      have := ih (layT F.room cs t) fun u hu => hs u (List.mem_cons_of_mem _ hu)
      unfold FM.layU at this ⊢
      rw [List.foldl_cons,List.foldl_cons,if_pos (hs t (List.mem_cons_self ..)),this]
  rw [hfold _ _ hsame]
  have hsz : bytesT (F.tilesOf O f) <= 67 * (F.tilesOf O f).length := bytes_up _ fun t ht => by
    rw [(hm t ht).2.2]
    exact (h.hi.bod f.reads (by omega) t.k (hm t ht).1).2
  have hln : (F.tilesOf O f).length <= 4 := by
    have := congrArg List.length hks
    rw [List.length_map] at this
    rw [this]; exact keys_len _
  obtain ⟨P',hP⟩ := lays_suf (room := F.room) (F.tilesOf O f) F.tiles [] (by simp only [bytesT]; omega) (by rw [List.append_nil]; exact h.tno) (by rw [List.nil_append,hks]; exact keys_nodup _)
  rw [List.append_nil,List.nil_append] at hP
  rw [hP]
  have hkin : k ∈ (F.tilesOf O f).map Tile.k := by rw [hks,hb]; exact (mem_keys hk).2 ⟨hk,rfl⟩
  obtain ⟨t,ht,e⟩ := List.mem_map.1 hkin
  exact ⟨t,List.mem_append_right _ ht,e⟩
structure Lone (k : K4) (F : FM) : Prop where
  room : 268 <= F.room
  line : ∀ b ∈ F.line,b = k.blk
  fls : ∀ f ∈ F.fls,f.b = k.blk /\ f.reads = F.ver
  got : (∃ t ∈ F.tiles,t.k = k) \/ ∃ r ∈ F.waiting,r.k = k
theorem Lone.work (h : Ok O F) {k : K4} (hk : KOk k) (hl : Lone k F) (i : Nat) : Lone k (F.work O i).1 := by
  unfold FM.work
  cases e : F.wks[i]? with
  | none => exact hl
  | some o =>
    have hlt : i < F.wks.length := (List.getElem?_eq_some_iff.1 e).1
    cases o with
    | none =>
      dsimp only
      unfold FM.takeW
      cases hln : F.line with
      | nil => exact hl
      | cons b rest =>
        dsimp only
        refine ⟨hl.room,fun b' hb' => hl.line b' (by rw [hln]; exact List.mem_cons_of_mem _ hb'),fun f hf => ?_,hl.got⟩
        have h1 := fls_set F.wks i (some ⟨b,F.ver,nsteps (F.FLs F.ver).length F.chunk,0⟩) hlt
        rw [set_self F.wks i none e] at h1
        rcases List.mem_cons.1 (h1.mem_iff.1 hf) with rfl | hf
        . exact ⟨hl.line b (by rw [hln]; exact List.mem_cons_self ..),rfl⟩
        . exact hl.fls f hf
    | some f =>
      have p2 : F.fls.Perm (f :: (F.wks.set i none).filterMap id) := fls_at e
      dsimp only
      split
      . refine ⟨hl.room,hl.line,fun g hg => ?_,hl.got⟩
        have p1 := fls_set F.wks i (some (f.step (F.FLs f.reads).length F.chunk)) hlt
        rcases List.mem_cons.1 (p1.mem_iff.1 hg) with rfl | hg
        . exact hl.fls f (mem_fls e)
        . exact hl.fls g (p2.mem_iff.2 (List.mem_cons_of_mem _ hg))
      . obtain ⟨hb,hv⟩ := hl.fls f (mem_fls e)
        refine ⟨hl.room,fun b hb' => ?_,fun g hg => hl.fls g (p2.mem_iff.2 (List.mem_cons_of_mem _ hg)),Or.inl (laid_in h hl.room hk hb hv)⟩
        have hb2 : b ∈ (if 0 < countFor (F.fineL O (F.tilesOf O f) f.reads) f.b then F.line ++ [f.b] else F.line) := hb'
        split at hb2
        . rcases List.mem_append.1 hb2 with q | q
          . exact hl.line b q
          . simp at q; rw [q]; exact hb
        . exact hl.line b hb2
theorem Lone.part (h : Ok O F) {k : K4} (hk : KOk k) (hl : Lone k F) : ∀ j,Lone k (F.part O j)
  | 0 => hl
  | j + 1 => (Lone.part h hk hl j).work (h.part j) hk j
theorem Lone.rounds (h : Ok O F) {k : K4} (hk : KOk k) (hl : Lone k F) (W : Nat) : ∀ n,Lone k (F.rounds O W n)
  | 0 => hl
  | n + 1 => (Lone.rounds h hk hl W n).part (h.rounds W n) hk W
theorem lone_arr {p : FM × BM} (h : Inv O p.1 p.2) (hr : Rest p.1) (hroom : 268 <= p.1.room) {k : K4} {tag : ByteArray} (ht : tag ≠ O.tag k (O.stamp p.1.LS p.1.ver k)) : Lone k (arrB O p k 0 tag).1 := by
  have hq := h.ok.q
  show Lone k (arrR O p.1 k 0 tag).1
  have e : arrR O p.1 k 0 tag = p.1.arriveK O k tag := if_pos rfl
  have hne : ¬ tag = O.tag k (p.1.stamp O p.1.ver k) := ht
  rw [e]
  unfold FM.arriveK
  rw [if_neg hne]
  cases hf : findT p.1.tiles k with
  | some t =>
    exact ⟨hroom,fun b hb => by have hb' : b ∈ p.1.line := hb; rw [hr.line] at hb'; simp at hb',fun f hf => by have hf' : f ∈ p.1.fls := hf; rw [hr.fls] at hf'; simp at hf',Or.inl ⟨t,List.mem_append_right _ (List.mem_cons_self ..),(findT_some hf).2⟩⟩
  | none =>
    dsimp only
    rw [if_neg (by rw [hr.waiting]; simp; omega)]
    refine ⟨hroom,fun b hb => ?_,fun f hf => by have hf' : f ∈ p.1.fls := hf; rw [hr.fls] at hf'; simp at hf',Or.inr ⟨_,List.mem_append_right _ (List.mem_cons_self ..),rfl⟩⟩
    have hb2 : b ∈ (if ({ p.1 with arrived := p.1.arrived + 1 } : FM).hasFl k.blk then p.1.line else p.1.line ++ [k.blk]) := hb
    rw [hr.line] at hb2
    split at hb2
    . simp at hb2
    . simp at hb2; exact hb2
theorem lone_in {p : FM × BM} (h : Inv O p.1 p.2) (hr : Rest p.1) (hroom : 268 <= p.1.room) {k : K4} (hk : KOk k) {tag : ByteArray} (ht : tag ≠ O.tag k (O.stamp p.1.LS p.1.ver k)) : ∃ t,findT (calmP O (arrB O p k 0 tag)).1.tiles k = some t := by
  have h1 := h.arrB (k := k) (Or.inl ⟨rfl,hk⟩) tag
  have hl := lone_arr h hr hroom ht
  have h2 := hl.rounds h1.ok hk (arrB O p k 0 tag).1.wks.length (((arrB O p k 0 tag).1.queue + 2) * 41)
  rw [<- calmB_fst] at h2
  have h3 := (calm_rest _ h1).2
  rcases h2.got with ⟨t,ht,e⟩ | ⟨r,hr,_⟩
  . cases hf : findT (calmP O (arrB O p k 0 tag)).1.tiles k with
    | some t => exact ⟨t,rfl⟩
    | none => exact absurd e (findT_none hf t ht)
  . rw [show (calmB O (arrB O p k 0 tag) (arrB O p k 0 tag).1.wks.length (((arrB O p k 0 tag).1.queue + 2) * 41)).1.waiting = [] from h3.waiting] at hr
    simp at hr
theorem one_tag (h : Inv O F b) (hinj : ∀ k k' : K4,∀ s s' : Int,KOk k -> KOk k' -> 0 <= s -> 0 <= s' -> O.tag k s = O.tag k' s' -> k = k' /\ s = s') {i j : Nat} {s t : Say} (hs : b.says[i]? = some s) (ht : b.says[j]? = some t) (hf : s.r.st = 200) (he : t.r.tag = s.r.tag) (hne : s.r.tag ≠ ⟨#[]⟩) :
    (t.r.st = 200 -> t.r.body = s.r.body) /\ (t.r.st = 304 -> ∃ a v,b.reqs[t.r.who.toNat]? = some a /\ KOk a.k /\ t.ver = ((v : Nat) : Int) /\ v <= F.ver /\ s.r.body = O.body (F.FLs v) a.k) := by
  have key : ∀ {i : Nat} {s : Say},b.says[i]? = some s -> s.r.tag ≠ ⟨#[]⟩ -> ∃ a,∃ v : Nat,b.reqs[s.r.who.toNat]? = some a /\ KOk a.k /\ v <= F.ver /\ s.r.tag = O.tag a.k (O.stamp F.LS v a.k) /\ (s.r.st = 200 -> s.r.body = O.body (F.FLs v) a.k) /\ (s.r.st = 304 -> s.ver = v) := by
    intro i s hs hne
    obtain ⟨_,_,h3,a,h4,_,h6⟩ := h.bi.say i s hs
    have hk := (h.asks _ a h4).2.2.2.2.1
    rcases h6 with g | g | g | g | g
    . exact absurd g.2.2.2.2 hne
    . exact absurd g.2.2.2.2.2 hne
    . obtain ⟨g1,_,g3,_,v,g5,g6,g7,g8,g9⟩ := g
      exact ⟨a,v,h4,hk g1,g7,g9,fun _ => g8,fun q => by omega⟩
    . obtain ⟨g1,_,g3,_,_,_,v,g7,g8,g9⟩ := g
      exact ⟨a,v,h4,hk g1,g8,g9,fun q => by omega,fun _ => g7⟩
    . exact absurd g.2.2.2.2.2.2 hne
  obtain ⟨a,v,a1,a2,a3,a4,a5,_⟩ := key hs hne
  obtain ⟨a',v',b1,b2,b3,b4,b5,b6⟩ := key ht (by rw [he]; exact hne)
  have r1 := h.ok.hi.rng v a3 a.k a2
  have r2 := h.ok.hi.rng v' b3 a'.k b2
  obtain ⟨ek,es⟩ := hinj a'.k a.k _ _ b2 a2 r2.1 r1.1 (by rw [<- b4,<- a4]; exact he)
  have hbody : O.body (F.FLs v') a'.k = O.body (F.FLs v) a.k := by
    rw [ek] at es ⊢
    rw [ek] at r2
    rcases Nat.le_total v v' with q | q
    . exact (h.ok.hi.still v v' q b3 a.k a2 (by rw [es]; exact r1.2)).1.symm
    . exact (h.ok.hi.still v' v q a3 a.k a2 (by rw [<- es]; exact r2.2)).1
  refine ⟨fun q => by rw [b5 q,a5 hf,hbody],fun q => ⟨a',v',b1,b2,b6 q,b3,by rw [a5 hf,hbody]⟩⟩
end
end Go.Proofs.YtpopchckldbhdaaGreatDoor
