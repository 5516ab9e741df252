/-
  The texts FfC, FfD, FfW, FfE, FfF, FfG, FfH, FfI, OpenS, FhP, FhQ, FkP.
-/
import Derived.Test.YtpopchckldbhdaaGreatDoorLase05
import Derived.Test.YtpopchckldbhdaaGreatDoorCards
import Derived.Test.YtpopchckldbhdaaGreatDoorTie
import Derived.Deep.Slices
import Derived.SizedLaws
import Derived.ProofKit
import Derived.OpenShut
import Derived.ShutString
import Derived.LaidMore
import Derived.Lib.SmallJoins
import Derived.Deep.DeepHandedRow
import Derived.Lib.LaidTab
namespace Go.Proofs.YtpopchckldbhdaaGreatDoor
open Go.RowKit
set_option maxRecDepth 20000
theorem built42 (t : ByteArray) (l z x y e v n a s : Int) : Tryz.prog.built 42 [(0,.string t),(1,.agg #[.int .i64 l,.int .i64 z,.int .i64 x,.int .i64 y]),(2,.int .i64 e),(3,.int .i64 v),(4,.int .i64 n),(5,.int .i64 a),(6,.int .i64 s)] = some #[.string t,.int .i64 l,.int .i64 z,.int .i64 x,.int .i64 y,.int .i64 e,.int .i64 v,.int .i64 n,.int .i64 a,.int .i64 s] := by kernel_rfl
theorem bt42 (t : ByteArray) (l z x y e v n a s : Int) (ev : Operand -> Value) (o : Oper) (p0 p1 p2 p3 p4 p5 p6 : Operand) (ho : o.op = .build 42 #[(0,p0),(1,p1),(2,p2),(3,p3),(4,p4),(5,p5),(6,p6)]) (h0 : ev p0 = .string t) (h1 : ev p1 = .agg #[.int .i64 l,.int .i64 z,.int .i64 x,.int .i64 y]) (h2 : ev p2 = .int .i64 e) (h3 : ev p3 = .int .i64 v) (h4 : ev p4 = .int .i64 n) (h5 : ev p5 = .int .i64 a) (h6 : ev p6 = .int .i64 s) (w : World) : (execOp ev o).run Tryz.prog w = .ok (.value (.agg #[.string t,.int .i64 l,.int .i64 z,.int .i64 x,.int .i64 y,.int .i64 e,.int .i64 v,.int .i64 n,.int .i64 a,.int .i64 s])) w := by
  have hb := run_build (P := Tryz.prog) w 42 #[(0,.string t),(1,.agg #[.int .i64 l,.int .i64 z,.int .i64 x,.int .i64 y]),(2,.int .i64 e),(3,.int .i64 v),(4,.int .i64 n),(5,.int .i64 a),(6,.int .i64 s)] _ (built42 t l z x y e v n a s)
  unfold execOp
  simp [ho,h0,h1,h2,h3,h4,h5,h6,hb]
structure LikeB (F G : FM) : Prop where
  queue : G.queue = F.queue
  wait : G.wait = F.wait
  chunk : G.chunk = F.chunk
  room : G.room = F.room
  now : G.now = F.now
  ver : G.ver = F.ver
  FLs : G.FLs = F.FLs
  wks : G.wks.length = F.wks.length
theorem LikeA.b {F G : FM} (h : LikeA F G) : LikeB F G := ⟨h.queue,h.wait,h.chunk,h.room,h.now,h.ver,h.FLs,by rw [h.wks]⟩
theorem Like.b {F G : FM} (h : Like F G) : LikeB F G := ⟨h.queue,h.wait,h.chunk,h.room,h.now,h.ver,h.FLs,h.wks⟩
theorem Bk.like {w : World} {bb fb : Nat} {B : BV} {WS : List Sli} {F G : FM} {M : BM} (h : Bk w bb fb B WS F M) (k : LikeB F G) : Bk w bb fb B WS G M :=
  ⟨h.blk,⟨h.num.fb,by rw [k.queue]; exact h.num.q,by rw [k.wks]; exact h.num.wk,by rw [k.wait]; exact h.num.wt,by rw [k.room]; exact h.num.ca,by rw [k.chunk]; exact h.num.ch,by rw [k.now]; exact h.num.nw,h.num.wai,h.num.joi⟩,by rw [k.ver,k.FLs]; exact h.mem⟩
theorem St.after {w0 : Bas} {w w' : World} {bb fb : Nat} {Φ Ψ : Nat -> Prop} {B : BV} {WS : List Sli} {F F' : FM} {M : BM} {l : List Rep} {rv : Value} (h : St w0 w bb fb Φ Ψ B WS F M) (hp : FPost w fb Ψ F' l rv w') (hl : LikeB F F') : St w0 w' bb fb Φ (NewS Ψ w.heap.size) B WS F' M := by
  obtain ⟨h1,h2,h3,h4,h5,h6⟩ := h.call hp
  exact ⟨h1,h2.like hl,h.foot,h3,h4,h5,h6⟩
theorem arr_R (F : FM) (p tag : ByteArray) : arr F p tag = arrR Oz F (prs p).1 (prs p).2 tag := rfl
theorem named_prs (p : ByteArray) : Named (prs p).1 (prs p).2 := by
  rcases prs_or p with h | h
  . exact Or.inl h
  . exact Or.inr h
set_option maxHeartbeats 12800000 in
theorem arrive_any (n : Nat) (w0 : Bas) (bb fb : Nat) (F : FM) (M : BM) (p tag : ByteArray) (w : World) (h : StE w0 w bb fb F M) (hi : Inv Oz F M) (hbd : Bd n F M) (hn : n <= 1420000000000) (hp : p.size <= maxLen) :
    Calls Tryz.prog 17 #[.pointer (some ⟨bb,0,none⟩),.string p,.string tag] w fun e w' => e = .returned (.tuple #[]) /\ StE w0 w' bb fb (arrB Oz (F,M) (prs p).1 (prs p).2 tag).1 (arrB Oz (F,M) (prs p).1 (prs p).2 tag).2 := by
  obtain ⟨Φ,Ψ,B,WS,h⟩ := h
  replace h := h.tight
  obtain ⟨Ψ1,hΨ1⟩ : ∃ Ψ1 : Nat -> Prop,(fun k => Ψ k /\ k < w.heap.size) = Ψ1 := ⟨_,rfl⟩
  rw [hΨ1] at h
  have hltΨ : ∀ k,Ψ1 k -> k < w.heap.size := fun k hk => by rw [<- hΨ1] at hk; exact hk.2
  clear hΨ1
  obtain ⟨s1,s2,s3,s4,s5,s6,s7⟩ := hbd.said hi
  have hnow := hbd.now
  have harr := hbd.arr
  have hver := hi.ok.v100
  have hnq := hi.nreq
  have PA := Dw.parse_any p w hp h.fro.glb.nm
  have HH := hide h
  have HI := hide hi
  have HLT := hide hltΨ
  clear h hi hltΨ hbd
  go_enter Tryz.func17,Tryz.ntmps17
  go_wp2_with fail
  refine PA.mono ?_
  rintro e w2 ⟨⟨kl,kz,kx,ky,er,hpr,rfl⟩,hb2⟩
  have hprs : prs p = (⟨kl,kz,kx,ky⟩,er) := by unfold prs; rw [hpr]
  have HPR := hide hprs
  obtain ⟨w3,hw3⟩ : ∃ w3,w2.alloc (.cells #[.int .i64 0,.int .i64 0,.int .i64 0,.int .i64 0] 39) = w3 := ⟨_,rfl⟩
  have hb3 : Below w2.heap.size w2 w3 := hw3 ▸ (Below.refl w2.heap.size w2).alloc (Nat.le_refl _) (.cells #[.int .i64 0,.int .i64 0,.int .i64 0,.int .i64 0] 39)
  have hA3 : w3.heap[w2.heap.size]? = some (.cells #[.int .i64 0,.int .i64 0,.int .i64 0,.int .i64 0] 39 (0,0)) := hw3 ▸ heap_alloc_new w2 (.cells #[.int .i64 0,.int .i64 0,.int .i64 0,.int .i64 0] 39 (0,0))
  have HW3 := hide hw3
  clear hw3
  obtain ⟨g1,hg1⟩ : ∃ g1,w2.heap.size = g1 := ⟨_,rfl⟩
  have HAL := hide (show ∀ (ev : Operand -> Value) (o : Oper),o.op = .alloc 39 -> (execOp ev o).run Tryz.prog w2 = .ok (.value (.pointer (some ⟨g1,0,none⟩))) w3 from fun ev o q => hg1 ▸ al39 ev o q w2 w3 (unhide HW3))
  rw [hg1] at hA3
  have hb23 : Below w.heap.size w w3 := hb2.trans (hb3.mono hb2.size)
  have hg1' : w.heap.size <= g1 := by have := hb2.size; omega
  obtain ⟨w4,hw4⟩ : ∃ w4,w3.setRow g1 #[.int .i64 kl,.int .i64 kz,.int .i64 kx,.int .i64 ky] = w4 := ⟨_,rfl⟩
  have hA4 : w4.heap[g1]? = some (.cells #[.int .i64 kl,.int .i64 kz,.int .i64 kx,.int .i64 ky] 39 (0,0)) := hw4 ▸ setRow_heap _ _ _ #[.int .i64 kl,.int .i64 kz,.int .i64 kx,.int .i64 ky] _ _ hA3
  have hb14 : Below w.heap.size w w4 := hw4 ▸ below_setRow hb23 hg1' #[.int .i64 kl,.int .i64 kz,.int .i64 kx,.int .i64 ky]
  have HST := hide (show ∀ (ev : Operand -> Value) (o : Oper) (s t : Operand),o.op = .store 39 s t -> ev s = .pointer (some ⟨g1,0,none⟩) -> ev t = .agg #[.int .i64 kl,.int .i64 kz,.int .i64 kx,.int .i64 ky] -> (execOp ev o).run Tryz.prog w3 = .ok .skip w4 from fun ev o s t q q1 q2 => hw4 ▸ stR ev o s t 39 q #[.int .i64 kl,.int .i64 kz,.int .i64 kx,.int .i64 ky] #[.int .i64 0,.int .i64 0,.int .i64 0,.int .i64 0] (sz39 _ _ _ _) (key_one _ _ _ _) rfl g1 q1 q2 w3 hA3)
  have h4 := (unhide HH).on hb14
  have AR := Arrive_any fb Ψ1 F p tag w4 h4.fro (unhide HI).ok hp (by omega) (by omega)
  have hfb : B.fb = fb := h4.bk.num.fb
  have c0 : w4.cell? ⟨bb,0,none⟩ = some (.pointer (some ⟨fb,0,none⟩)) := by rw [<- hfb]; exact h4.bk.blk.cells 0
  have hgl4 : g1 < w4.heap.size := blk_lt hA4
  have HH4 := hide h4
  have HA4 := hide hA4
  clear hb2 hb3 hA3 hb23 hb14 h4 hA4 hg1 HW3 PA hw4 hpr HH hprs
  go_wp2_with (first | refine wlV _ _ (unhide HAL _ _ rfl) rfl ?_ | refine wlSk _ (unhide HST _ _ _ _ rfl rfl rfl) rfl ?_)
  refine AR.mono ?_
  rintro e w5 ⟨rv,rfl,hP⟩
  have hlk := arrR_like (O := Oz) F (prs p).1 (prs p).2 tag
  have hwho := arrR_who (O := Oz) F (prs p).1 (prs p).2 tag
  rw [<- arr_R] at hlk hwho
  have hval := (unhide HI).validA hwho tag (prs p).1 (prs p).2 F.ver F.now (arr F p tag).2.isEmpty
  have h5 := (unhide HH4).after hP hlk.b
  have hA5 : w5.heap[g1]? = some (.cells #[.int .i64 kl,.int .i64 kz,.int .i64 kx,.int .i64 ky] 39 (0,0)) := blk_frm (unhide HA4) hP.frm (fun q => by have := unhide HLT g1 q; omega)
  have hrv := hP.rep
  have HQE : Hid ((arrB Oz (F,M) (prs p).1 (prs p).2 tag) = ((arr F p tag).1,(M.add tag (prs p).1 (prs p).2 F.ver F.now (arr F p tag).2.isEmpty).hear F.ver F.now 1 (arr F p tag).2)) := rfl
  clear hP AR HAL HST HA4 HH4 c0 hgl4
  generalize hF' : (arr F p tag).1 = F' at h5 hlk HQE
  generalize hl' : (arr F p tag).2 = l at hrv hwho hval HQE
  clear hF' hl'
  have hkk := unhide HPR
  simp only [hkk] at hval HQE
  have HVAL := hide hval
  have HLK := hide hlk
  have HH5 := hide h5
  have HRV := hide hrv
  have HA5 := hide hA5
  obtain ⟨oa9,cap9,e9,_,_,_⟩ := hrv.at
  subst e9
  obtain ⟨oa8,cap8,e8,_,_,_⟩ := h5.bk.mem.req.at
  have c8 : w5.cell? ⟨bb,8,none⟩ = some (.slice oa8 M.reqs.length cap8) := by rw [<- e8]; exact h5.bk.blk.cells 8
  have hnI : (F.arrived : Int) = (M.reqs.length : Int) := by omega
  have HE8 := hide e8
  have hlen : l.length = 0 \/ l.length = 1 := by
    rcases hwho with rfl | ⟨r,rfl,_⟩
    . exact Or.inl rfl
    . exact Or.inr rfl
  have hwho' : ∀ r : Rep,l[0]? = some r -> r.who = (M.reqs.length : Int) := by
    intro r hr
    rcases hwho with rfl | ⟨r',rfl,q⟩
    . simp at hr
    . simp at hr; subst hr; omega
  have hc0 : 0 < l.length -> ∃ b off,oa9 = some ⟨b,off,none⟩ /\ w5.cell? ⟨b,off,none⟩ = some (.int .i64 M.reqs.length) := by
    intro hpos
    obtain ⟨r,hr⟩ : ∃ r,l[0]? = some r := ⟨_,List.getElem?_eq_getElem hpos⟩
    obtain ⟨b,off,cap',e,hrg,_⟩ := (unhide HRV).spot hr
    simp only [Value.slice.injEq,true_and] at e
    refine ⟨b,off,e.1,?_⟩
    rw [<- hwho' r hr]
    have := hrg 0 (.int .i64 r.who) rfl
    simpa using this
  have hnI' : F.arrived = M.reqs.length := by omega
  clear hval hlk h5 hrv hA5 hwho hwho' e8 hkk
  rw [hnI']
  clear hnI hnI' hnq harr
  have KEYF : ∀ {W : World},W.heap[g1]? = some (.cells #[.int .i64 kl,.int .i64 kz,.int .i64 kx,.int .i64 ky] 39 (0,0)) -> W.rangeAt g1 0 (#[.int .i64 kl,.int .i64 kz,.int .i64 kx,.int .i64 ky] : Array Value).toList := fun h => rng_blk h
  have HQE' : Hid (arrB Oz (F,M) ⟨kl,kz,kx,ky⟩ er tag = (F',(M.add tag ⟨kl,kz,kx,ky⟩ er F.ver F.now l.isEmpty).hear F.ver F.now 1 l)) := hide (unhide HQE)
  clear HQE
  rcases hlen with hl0 | hl1
  . obtain rfl : l = [] := List.eq_nil_of_length_eq_zero hl0
    clear hc0 hl0
    change Hid (OwnR rRep 35 w5 (.slice oa9 0 cap9) []) at HRV
    go_wp2_with fail
    have h5 := unhide HH5
    obtain ⟨oa6,cap6,e6,_,_,_⟩ := h5.bk.mem.was.at
    rw [h5.bk.mem.len,(unhide HLK).ver] at e6
    have hbn : B.nw = F.now := by rw [<- (unhide HLK).now]; exact h5.bk.num.nw
    have hbw : B.wai = M.waiting := h5.bk.num.wai
    have hbj : B.joi = M.joined := h5.bk.num.joi
    clear h5
    refine wp_region_held (S := fun w' => w'.cell? ⟨bb,6,none⟩ = some (.slice oa6 (F.ver + 1) cap6) /\ w'.cell? ⟨bb,7,none⟩ = some (.int .i64 F.now) /\ w'.cell? ⟨bb,10,none⟩ = some (.int .i64 M.waiting) /\ w'.rangeAt g1 0 (#[.int .i64 kl,.int .i64 kz,.int .i64 kx,.int .i64 ky] : Array Value).toList) (by kernel_rfl) ?_
    change wpAnyH _ _ _ _ _ _ _ _ (World.drew _)
    have hbD := Below.drew (Below.refl w5.heap.size w5)
    have hSd := (unhide HH5).on hbD
    have hownd := (unhide HRV).on hbD
    have hAd := blk_on (unhide HA5) hbD
    clear hbD HH5 HRV HA5
    generalize World.drew w5 = w6 at hSd hownd hAd ⊢
    have SF : ∀ {W : World} {bs : Value},BBlk W bb { B with rv := bs } -> W.heap[g1]? = some (.cells #[.int .i64 kl,.int .i64 kz,.int .i64 kx,.int .i64 ky] 39 (0,0)) -> W.cell? ⟨bb,6,none⟩ = some (.slice oa6 (F.ver + 1) cap6) /\ W.cell? ⟨bb,7,none⟩ = some (.int .i64 F.now) /\ W.cell? ⟨bb,10,none⟩ = some (.int .i64 M.waiting) /\ W.rangeAt g1 0 (#[.int .i64 kl,.int .i64 kz,.int .i64 kx,.int .i64 ky] : Array Value).toList := fun h1 h2 => ⟨by rw [<- e6]; exact h1.cells 6,by rw [<- hbn]; exact h1.cells 7,by rw [<- hbw]; exact h1.cells 10,KEYF h2⟩
    have hS := SF (bs := B.rv) hSd.bk.blk hAd
    have c8d : w6.cell? ⟨bb,8,none⟩ = some (.slice oa8 M.reqs.length cap8) := by rw [<- unhide HE8]; exact hSd.bk.blk.cells 8
    have VE := version_any bb B (F.ver + 1) w6 hSd.bk.blk (by omega) ⟨oa6,cap6,e6⟩
    have hve : (((F.ver + 1 : Nat) : Int) - 1) = F.ver := by omega
    rw [hve] at VE
    obtain ⟨w7,hw7⟩ : ∃ w7,w6.alloc (.cells #[.string tag,.int .i64 kl,.int .i64 kz,.int .i64 kx,.int .i64 ky,.int .i64 er,.int .i64 (F.ver : Int),.int .i64 (F.now : Int),.int .i64 M.waiting,.int .i64 (-1)] 42) = w7 := ⟨_,rfl⟩
    have hbA : Below w6.heap.size w6 w7 := hw7 ▸ (Below.refl w6.heap.size w6).alloc (Nat.le_refl _) (.cells #[.string tag,.int .i64 kl,.int .i64 kz,.int .i64 kx,.int .i64 ky,.int .i64 er,.int .i64 (F.ver : Int),.int .i64 (F.now : Int),.int .i64 M.waiting,.int .i64 (-1)] 42)
    have hat : AtR rAsk w7 (.slice (some ⟨w6.heap.size,0,none⟩) 1 1) [⟨tag,⟨kl,kz,kx,ky⟩,er,F.ver,F.now,M.waiting,-1⟩] := hw7 ▸ at_new rAsk 42 w6 ⟨tag,⟨kl,kz,kx,ky⟩,er,F.ver,F.now,M.waiting,-1⟩ #[.string tag,.int .i64 kl,.int .i64 kz,.int .i64 kx,.int .i64 ky,.int .i64 er,.int .i64 (F.ver : Int),.int .i64 (F.now : Int),.int .i64 M.waiting,.int .i64 (-1)] rfl
    have hsA := hSd.on hbA
    have hownA := hownd.on hbA
    have hAA := blk_on hAd hbA
    have hSA := SF (bs := B.rv) hsA.bk.blk hAA
    have c8A : w7.cell? ⟨bb,8,none⟩ = some (.slice oa8 M.reqs.length cap8) := by rw [<- unhide HE8]; exact hsA.bk.blk.cells 8
    obtain ⟨v8,w8,r1,r2,r3,r4⟩ := apAsk hsA.bk.mem.req hat (by simp; omega)
    have hF8 : Frm (fun q => B.rv.ownBlock = some q) w7 w8 := (Frm.rfl' _ _).grown r3 (fun q hq _ => hq)
    rw [unhide HE8] at r1
    obtain ⟨⟨Φ9,Ψ9,hS9⟩,hF9,hT9,hB8⟩ := hsA.asked ⟨tag,⟨kl,kz,kx,ky⟩,er,F.ver,F.now,M.waiting,-1⟩ r2 hF8 (fun q hq => by
      rcases r4 with r4 | r4
      . exact Or.inl (r4 ▸ hq)
      . exact Or.inr (r4 q hq))
    have hT8 : Tys (fun q => B.rv.ownBlock = some q) w7 [42] := fun q hq => by
      obtain ⟨c,hc⟩ := hsA.bk.mem.req.ty hq
      exact ⟨c,42,hc,by simp⟩
    have hA8 := blk_frmT hAA hF8 hT8 (by decide)
    have hA9 := blk_frmT hAA hF9 hT9 (by decide)
    have hown9 := hownA.frmT hF9 hT9 (by decide)
    have hS8 := SF (bs := B.rv) hB8 hA8
    have c88 : w8.cell? ⟨bb,8,none⟩ = some (.slice oa8 M.reqs.length cap8) := by rw [<- unhide HE8]; exact hB8.cells 8
    have fz8 := frzB hB8 8
    obtain ⟨oa5,n5,k5,rfl⟩ := r2.sl
    obtain ⟨w9,hw9⟩ : ∃ w9,w8.setCell ⟨bb,8,none⟩ (.slice oa5 n5 k5) = w9 := ⟨_,rfl⟩
    rw [hw9] at hS9 hown9 hA9
    have hS9' := SF (bs := .slice oa5 n5 k5) hS9.bk.blk hA9
    have HS9 := hide hS9
    have HOWN9 := hide hown9
    have HW9 := hide hw9
    have HW7 := hide hw7
    have BS : ∀ (ev : Operand -> Value) (o : Oper) (x : Operand),o.op = .buildSlice 30 1 #[(0,x)] -> ev x = .agg #[.string tag,.int .i64 kl,.int .i64 kz,.int .i64 kx,.int .i64 ky,.int .i64 er,.int .i64 (F.ver : Int),.int .i64 (F.now : Int),.int .i64 M.waiting,.int .i64 (-1)] -> (execOp ev o).run Tryz.prog w6 = .ok (.value (.slice (some ⟨w6.heap.size,0,none⟩) 1 1)) w7 := fun ev o x q1 q2 => unhide HW7 ▸ bsAsk tag kl kz kx ky er F.ver F.now M.waiting (-1) ev o x q1 q2 w6
    generalize hG6 : w6.heap.size = g6 at BS r1 hat
    clear hSd hownd hbA hsA hownA r2 r3 r4 hF8 hS9 hF9 hT9 hB8 hT8 hA8 hA9 hown9 hw9 hw7 SF hat hG6 hAd hAA KEYF
    refine t_tk 0 rfl (.pointer (some ⟨bb,0,none⟩)) (by kernel_rfl) (fun _ _ _ h => h) rfl (fun w' hw' => by simp [go_sem]) hS ?_
    simp only [Act.put,qA,qB,qC]
    refine t_tk 1 rfl (.pointer (some ⟨bb,0,none⟩)) (by kernel_rfl) (fun _ _ _ h => h) rfl (fun w' hw' => by simp [go_sem]) hS ?_
    simp only [Act.put,qA,qB,qC]
    refine t_tk 2 rfl (.pointer (some ⟨bb,0,none⟩)) (by kernel_rfl) (fun _ _ _ h => h) rfl (fun w' hw' => by simp [go_sem]) hS ?_
    simp only [Act.put,qA,qB,qC]
    refine t_tk 3 rfl (.pointer (some ⟨bb,8,none⟩)) (by kernel_rfl) (fun _ _ _ h => h) rfl (fun w' hw' => by simp [go_sem]) hS ?_
    simp only [Act.put,qA,qB,qC]
    refine t_tk 5 rfl (.string tag) (by kernel_rfl) (fun _ _ _ h => h) rfl (fun w' hw' => by simp [go_sem]) hS ?_
    simp only [Act.put,qA,qB,qC]
    refine t_tk 6 rfl (.agg #[.int .i64 kl,.int .i64 kz,.int .i64 kx,.int .i64 ky]) (by kernel_rfl) (fun _ _ _ h => h) rfl (fun w' hw' => ldcR _ _ _ 39 rfl _ rfl _ Tryz.underlying39 rfl (sz39 _ _ _ _) g1 0 rfl _ hw'.2.2.2) hS ?_
    simp only [Act.put,qA,qB,qC]
    refine t_tk 7 rfl (.int .i64 er) (by kernel_rfl) (fun _ _ _ h => h) rfl (fun w' hw' => by simp [go_sem]) hS ?_
    simp only [Act.put,qA,qB,qC]
    refine t_tk 8 rfl (.pointer (some ⟨bb,0,none⟩)) (by kernel_rfl) (fun _ _ _ h => h) rfl (fun w' hw' => by simp [go_sem]) hS ?_
    simp only [Act.put,qA,qB,qC]
    refine t_tk 10 rfl (.pointer (some ⟨bb,0,none⟩)) (by kernel_rfl) (fun _ _ _ h => h) rfl (fun w' hw' => by simp [go_sem]) hS ?_
    simp only [Act.put,qA,qB,qC]
    refine t_tk 11 rfl (.pointer (some ⟨bb,0,none⟩)) (by kernel_rfl) (fun _ _ _ h => h) rfl (fun w' hw' => by simp [go_sem]) hS ?_
    simp only [Act.put,qA,qB,qC]
    refine t_tk 12 rfl (.pointer (some ⟨bb,7,none⟩)) (by kernel_rfl) (fun _ _ _ h => h) rfl (fun w' hw' => by simp [go_sem]) hS ?_
    simp only [Act.put,qA,qB,qC]
    refine t_tk 13 rfl (.int .i64 F.now) (by kernel_rfl) (fun _ _ _ h => h) rfl (fun w' hw' => by simp [go_sem,hw'.2.1]) hS ?_
    simp only [Act.put,qA,qB,qC]
    refine t_tk 14 rfl (.pointer (some ⟨bb,0,none⟩)) (by kernel_rfl) (fun _ _ _ h => h) rfl (fun w' hw' => by simp [go_sem]) hS ?_
    simp only [Act.put,qA,qB,qC]
    refine t_tk 15 rfl (.pointer (some ⟨bb,0,none⟩)) (by kernel_rfl) (fun _ _ _ h => h) rfl (fun w' hw' => by simp [go_sem]) hS ?_
    simp only [Act.put,qA,qB,qC]
    refine t_tk 16 rfl (.pointer (some ⟨bb,10,none⟩)) (by kernel_rfl) (fun _ _ _ h => h) rfl (fun w' hw' => by simp [go_sem]) hS ?_
    simp only [Act.put,qA,qB,qC]
    refine t_tk 17 rfl (.int .i64 M.waiting) (by kernel_rfl) (fun _ _ _ h => h) rfl (fun w' hw' => by simp [go_sem,hw'.2.2.1]) hS ?_
    simp only [Act.put,qA,qB,qC]
    refine wpAnyH_all (rs := [4,9]) (by kernel_rfl) (by simp) ?_
    intro i hi
    simp only [List.mem_cons,List.not_mem_nil,or_false] at hi
    rcases hi with rfl | rfl
    . refine t_op 4 rfl rfl ((.slice oa8 M.reqs.length cap8)) (w6) (by simp [go_sem,c8d]) (hS) ?_
      simp only [Act.put,qA,qB,qC]
      refine wpAnyH_all (rs := [9]) (by kernel_rfl) (by simp) ?_
      intro i hi
      simp only [List.mem_singleton] at hi
      subst hi
      refine t_call 9 rfl rfl 29 #[.pointer (some ⟨bb,0,none⟩)] (by simp [go_sem]) (.int .i64 F.ver) VE hS ?_
      simp only [Act.put,qA,qB,qC]
      refine t_tk 18 rfl (.agg #[.string tag,.int .i64 kl,.int .i64 kz,.int .i64 kx,.int .i64 ky,.int .i64 er,.int .i64 (F.ver : Int),.int .i64 (F.now : Int),.int .i64 M.waiting,.int .i64 (-1)]) (by kernel_rfl) (fun _ _ _ h => h) rfl (fun w' _ => bt42 tag kl kz kx ky er F.ver F.now M.waiting (-1) _ _ _ _ _ _ _ _ _ rfl rfl rfl rfl rfl rfl rfl rfl w') hS ?_
      simp only [Act.put,qA,qB,qC]
      refine wpAnyH_all (rs := [19]) (by kernel_rfl) (by simp) ?_
      intro i hi
      simp only [List.mem_singleton] at hi
      subst hi
      refine t_op 19 rfl rfl (.slice (some ⟨g6,0,none⟩) 1 1) (w7) (BS _ _ _ rfl rfl) (hSA) ?_
      simp only [Act.put,qA,qB,qC]
      refine wpAnyH_all (rs := [20]) (by kernel_rfl) (by simp) ?_
      intro i hi
      simp only [List.mem_singleton] at hi
      subst hi
      refine t_op 20 rfl rfl (.slice oa5 n5 k5) (w8) (exR 30 r1 _ _ _ _ rfl rfl rfl rfl) (hS8) ?_
      simp only [Act.put,qA,qB,qC]
      refine t_tk 21 rfl (.pointer (some ⟨bb,0,none⟩)) (by kernel_rfl) (fun _ _ _ h => h) rfl (fun w' hw' => by simp [go_sem]) hS8 ?_
      simp only [Act.put,qA,qB,qC]
      refine t_tk 22 rfl (.pointer (some ⟨bb,8,none⟩)) (by kernel_rfl) (fun _ _ _ h => h) rfl (fun w' hw' => by simp [go_sem]) hS8 ?_
      simp only [Act.put,qA,qB,qC]
      refine wpAnyH_all (rs := [23]) (by kernel_rfl) (by simp) ?_
      intro i hi
      simp only [List.mem_singleton] at hi
      subst hi
      refine t_skip 23 rfl rfl (w9) (stS1 _ _ _ _ 30 rfl (fun _ => by simp [go_sem]) bb 8 oa5 n5 k5 rfl rfl w8 w9 c88 fz8 (unhide HW9)) (hS9') ?_
      simp only [Act.put]
      refine wpAnyH_done (by kernel_rfl) ?_ _
      clear hS c8d VE hve hSA c8A hS8 c88 fz8 hS9' BS r1 HW9 HW7 c8
      obtain ⟨⟨Φa,Ψa,hSa⟩,hFa,hTa⟩ := (unhide HS9).wai (M.waiting + 1)
      have howna := (unhide HOWN9).frmT hFa hTa (by decide)
      have c10 : w9.cell? ⟨bb,10,none⟩ = some (.int .i64 M.waiting) := by rw [<- hbw]; exact (unhide HS9).bk.blk.cells 10
      have fz10 := frzB (unhide HS9).bk.blk 10
      obtain ⟨wa,hwa⟩ : ∃ wa,w9.setCell ⟨bb,10,none⟩ (.int .i64 (M.waiting + 1)) = wa := ⟨_,rfl⟩
      rw [hwa] at hSa howna
      have HWA := hide hwa
      have hov : IntKind.i64.wrap (M.waiting + 1) = M.waiting + 1 := i64_of _ (by omega)
      clear hFa hTa hwa HS9 HOWN9
      obtain ⟨⟨Φb,Ψb,hSb⟩,hFb,hTb⟩ := hSa.joi (M.joined + 1)
      have hownb := howna.frmT hFb hTb (by decide)
      have c11 : wa.cell? ⟨bb,11,none⟩ = some (.int .i64 M.joined) := by rw [<- hbj]; exact hSa.bk.blk.cells 11
      have fz11 := frzB hSa.bk.blk 11
      obtain ⟨wb,hwb⟩ : ∃ wb,wa.setCell ⟨bb,11,none⟩ (.int .i64 (M.joined + 1)) = wb := ⟨_,rfl⟩
      rw [hwb] at hSb hownb
      have HWB := hide hwb
      have hovj : IntKind.i64.wrap (M.joined + 1) = M.joined + 1 := i64_of _ (by omega)
      have hE : StE w0 wb bb fb F' (M.add tag ⟨kl,kz,kx,ky⟩ er F.ver F.now true) := ⟨_,_,_,_,hSb⟩
      have HE := hear_any w0 bb fb F' _ 1 _ [] wb hE hownb (unhide HVAL) (by rw [(unhide HLK).ver]; omega) (by show M.says.length + 0 <= _; omega) (by show (M.reqs ++ [_]).length <= _; simp; omega) (by show ((0 : Nat) : Int) <= M.waiting + 1 /\ M.waiting + 1 <= _; omega)
      clear hSa howna hSb hownb hFb hTb hwb hE
      go_wp2_with (first | refine wlSk wa (stI _ _ _ _ rfl bb 10 (M.waiting + 1) rfl (by simp [go_sem]) w9 wa c10 fz10 (unhide HWA)) rfl ?_ | refine wlSk wb (stI _ _ _ _ rfl bb 11 (M.joined + 1) rfl (by simp [go_sem]) wa wb c11 fz11 (unhide HWB)) rfl ?_)
      refine HE.mono ?_
      rintro e wz ⟨rfl,hz2⟩
      have HQ : Hid (StE w0 wz bb fb (arrB Oz (F,M) (prs p).1 (prs p).2 tag).1 (arrB Oz (F,M) (prs p).1 (prs p).2 tag).2) := by
        rw [unhide HPR]
        dsimp only
        rw [unhide HQE']
        rw [(unhide HLK).ver,(unhide HLK).now] at hz2
        exact hz2
      clear hz2 HE
      go_wp2_with fail
      exact bodyPost_end (results_none Tryz.results17 _ _ _) rfl ⟨rfl,unhide HQ⟩
    . refine t_call 9 rfl rfl 29 #[.pointer (some ⟨bb,0,none⟩)] (by simp [go_sem]) (.int .i64 F.ver) VE hS ?_
      simp only [Act.put,qA,qB,qC]
      refine t_tk 18 rfl (.agg #[.string tag,.int .i64 kl,.int .i64 kz,.int .i64 kx,.int .i64 ky,.int .i64 er,.int .i64 (F.ver : Int),.int .i64 (F.now : Int),.int .i64 M.waiting,.int .i64 (-1)]) (by kernel_rfl) (fun _ _ _ h => h) rfl (fun w' _ => bt42 tag kl kz kx ky er F.ver F.now M.waiting (-1) _ _ _ _ _ _ _ _ _ rfl rfl rfl rfl rfl rfl rfl rfl w') hS ?_
      simp only [Act.put,qA,qB,qC]
      refine wpAnyH_all (rs := [4,19]) (by kernel_rfl) (by simp) ?_
      intro i hi
      simp only [List.mem_cons,List.not_mem_nil,or_false] at hi
      rcases hi with rfl | rfl
      . refine t_op 4 rfl rfl ((.slice oa8 M.reqs.length cap8)) (w6) (by simp [go_sem,c8d]) (hS) ?_
        simp only [Act.put,qA,qB,qC]
        refine wpAnyH_all (rs := [19]) (by kernel_rfl) (by simp) ?_
        intro i hi
        simp only [List.mem_singleton] at hi
        subst hi
        refine t_op 19 rfl rfl (.slice (some ⟨g6,0,none⟩) 1 1) (w7) (BS _ _ _ rfl rfl) (hSA) ?_
        simp only [Act.put,qA,qB,qC]
        refine wpAnyH_all (rs := [20]) (by kernel_rfl) (by simp) ?_
        intro i hi
        simp only [List.mem_singleton] at hi
        subst hi
        refine t_op 20 rfl rfl (.slice oa5 n5 k5) (w8) (exR 30 r1 _ _ _ _ rfl rfl rfl rfl) (hS8) ?_
        simp only [Act.put,qA,qB,qC]
        refine t_tk 21 rfl (.pointer (some ⟨bb,0,none⟩)) (by kernel_rfl) (fun _ _ _ h => h) rfl (fun w' hw' => by simp [go_sem]) hS8 ?_
        simp only [Act.put,qA,qB,qC]
        refine t_tk 22 rfl (.pointer (some ⟨bb,8,none⟩)) (by kernel_rfl) (fun _ _ _ h => h) rfl (fun w' hw' => by simp [go_sem]) hS8 ?_
        simp only [Act.put,qA,qB,qC]
        refine wpAnyH_all (rs := [23]) (by kernel_rfl) (by simp) ?_
        intro i hi
        simp only [List.mem_singleton] at hi
        subst hi
        refine t_skip 23 rfl rfl (w9) (stS1 _ _ _ _ 30 rfl (fun _ => by simp [go_sem]) bb 8 oa5 n5 k5 rfl rfl w8 w9 c88 fz8 (unhide HW9)) (hS9') ?_
        simp only [Act.put]
        refine wpAnyH_done (by kernel_rfl) ?_ _
        clear hS c8d VE hve hSA c8A hS8 c88 fz8 hS9' BS r1 HW9 HW7 c8
        obtain ⟨⟨Φa,Ψa,hSa⟩,hFa,hTa⟩ := (unhide HS9).wai (M.waiting + 1)
        have howna := (unhide HOWN9).frmT hFa hTa (by decide)
        have c10 : w9.cell? ⟨bb,10,none⟩ = some (.int .i64 M.waiting) := by rw [<- hbw]; exact (unhide HS9).bk.blk.cells 10
        have fz10 := frzB (unhide HS9).bk.blk 10
        obtain ⟨wa,hwa⟩ : ∃ wa,w9.setCell ⟨bb,10,none⟩ (.int .i64 (M.waiting + 1)) = wa := ⟨_,rfl⟩
        rw [hwa] at hSa howna
        have HWA := hide hwa
        have hov : IntKind.i64.wrap (M.waiting + 1) = M.waiting + 1 := i64_of _ (by omega)
        clear hFa hTa hwa HS9 HOWN9
        obtain ⟨⟨Φb,Ψb,hSb⟩,hFb,hTb⟩ := hSa.joi (M.joined + 1)
        have hownb := howna.frmT hFb hTb (by decide)
        have c11 : wa.cell? ⟨bb,11,none⟩ = some (.int .i64 M.joined) := by rw [<- hbj]; exact hSa.bk.blk.cells 11
        have fz11 := frzB hSa.bk.blk 11
        obtain ⟨wb,hwb⟩ : ∃ wb,wa.setCell ⟨bb,11,none⟩ (.int .i64 (M.joined + 1)) = wb := ⟨_,rfl⟩
        rw [hwb] at hSb hownb
        have HWB := hide hwb
        have hovj : IntKind.i64.wrap (M.joined + 1) = M.joined + 1 := i64_of _ (by omega)
        have hE : StE w0 wb bb fb F' (M.add tag ⟨kl,kz,kx,ky⟩ er F.ver F.now true) := ⟨_,_,_,_,hSb⟩
        have HE := hear_any w0 bb fb F' _ 1 _ [] wb hE hownb (unhide HVAL) (by rw [(unhide HLK).ver]; omega) (by show M.says.length + 0 <= _; omega) (by show (M.reqs ++ [_]).length <= _; simp; omega) (by show ((0 : Nat) : Int) <= M.waiting + 1 /\ M.waiting + 1 <= _; omega)
        clear hSa howna hSb hownb hFb hTb hwb hE
        go_wp2_with (first | refine wlSk wa (stI _ _ _ _ rfl bb 10 (M.waiting + 1) rfl (by simp [go_sem]) w9 wa c10 fz10 (unhide HWA)) rfl ?_ | refine wlSk wb (stI _ _ _ _ rfl bb 11 (M.joined + 1) rfl (by simp [go_sem]) wa wb c11 fz11 (unhide HWB)) rfl ?_)
        refine HE.mono ?_
        rintro e wz ⟨rfl,hz2⟩
        have HQ : Hid (StE w0 wz bb fb (arrB Oz (F,M) (prs p).1 (prs p).2 tag).1 (arrB Oz (F,M) (prs p).1 (prs p).2 tag).2) := by
          rw [unhide HPR]
          dsimp only
          rw [unhide HQE']
          rw [(unhide HLK).ver,(unhide HLK).now] at hz2
          exact hz2
        clear hz2 HE
        go_wp2_with fail
        exact bodyPost_end (results_none Tryz.results17 _ _ _) rfl ⟨rfl,unhide HQ⟩
      . refine t_op 19 rfl rfl (.slice (some ⟨g6,0,none⟩) 1 1) (w7) (BS _ _ _ rfl rfl) (hSA) ?_
        simp only [Act.put,qA,qB,qC]
        refine wpAnyH_all (rs := [4]) (by kernel_rfl) (by simp) ?_
        intro i hi
        simp only [List.mem_singleton] at hi
        subst hi
        refine t_op 4 rfl rfl ((.slice oa8 M.reqs.length cap8)) (w7) (by simp [go_sem,c8A]) (hSA) ?_
        simp only [Act.put,qA,qB,qC]
        refine wpAnyH_all (rs := [20]) (by kernel_rfl) (by simp) ?_
        intro i hi
        simp only [List.mem_singleton] at hi
        subst hi
        refine t_op 20 rfl rfl (.slice oa5 n5 k5) (w8) (exR 30 r1 _ _ _ _ rfl rfl rfl rfl) (hS8) ?_
        simp only [Act.put,qA,qB,qC]
        refine t_tk 21 rfl (.pointer (some ⟨bb,0,none⟩)) (by kernel_rfl) (fun _ _ _ h => h) rfl (fun w' hw' => by simp [go_sem]) hS8 ?_
        simp only [Act.put,qA,qB,qC]
        refine t_tk 22 rfl (.pointer (some ⟨bb,8,none⟩)) (by kernel_rfl) (fun _ _ _ h => h) rfl (fun w' hw' => by simp [go_sem]) hS8 ?_
        simp only [Act.put,qA,qB,qC]
        refine wpAnyH_all (rs := [23]) (by kernel_rfl) (by simp) ?_
        intro i hi
        simp only [List.mem_singleton] at hi
        subst hi
        refine t_skip 23 rfl rfl (w9) (stS1 _ _ _ _ 30 rfl (fun _ => by simp [go_sem]) bb 8 oa5 n5 k5 rfl rfl w8 w9 c88 fz8 (unhide HW9)) (hS9') ?_
        simp only [Act.put]
        refine wpAnyH_done (by kernel_rfl) ?_ _
        clear hS c8d VE hve hSA c8A hS8 c88 fz8 hS9' BS r1 HW9 HW7 c8
        obtain ⟨⟨Φa,Ψa,hSa⟩,hFa,hTa⟩ := (unhide HS9).wai (M.waiting + 1)
        have howna := (unhide HOWN9).frmT hFa hTa (by decide)
        have c10 : w9.cell? ⟨bb,10,none⟩ = some (.int .i64 M.waiting) := by rw [<- hbw]; exact (unhide HS9).bk.blk.cells 10
        have fz10 := frzB (unhide HS9).bk.blk 10
        obtain ⟨wa,hwa⟩ : ∃ wa,w9.setCell ⟨bb,10,none⟩ (.int .i64 (M.waiting + 1)) = wa := ⟨_,rfl⟩
        rw [hwa] at hSa howna
        have HWA := hide hwa
        have hov : IntKind.i64.wrap (M.waiting + 1) = M.waiting + 1 := i64_of _ (by omega)
        clear hFa hTa hwa HS9 HOWN9
        obtain ⟨⟨Φb,Ψb,hSb⟩,hFb,hTb⟩ := hSa.joi (M.joined + 1)
        have hownb := howna.frmT hFb hTb (by decide)
        have c11 : wa.cell? ⟨bb,11,none⟩ = some (.int .i64 M.joined) := by rw [<- hbj]; exact hSa.bk.blk.cells 11
        have fz11 := frzB hSa.bk.blk 11
        obtain ⟨wb,hwb⟩ : ∃ wb,wa.setCell ⟨bb,11,none⟩ (.int .i64 (M.joined + 1)) = wb := ⟨_,rfl⟩
        rw [hwb] at hSb hownb
        have HWB := hide hwb
        have hovj : IntKind.i64.wrap (M.joined + 1) = M.joined + 1 := i64_of _ (by omega)
        have hE : StE w0 wb bb fb F' (M.add tag ⟨kl,kz,kx,ky⟩ er F.ver F.now true) := ⟨_,_,_,_,hSb⟩
        have HE := hear_any w0 bb fb F' _ 1 _ [] wb hE hownb (unhide HVAL) (by rw [(unhide HLK).ver]; omega) (by show M.says.length + 0 <= _; omega) (by show (M.reqs ++ [_]).length <= _; simp; omega) (by show ((0 : Nat) : Int) <= M.waiting + 1 /\ M.waiting + 1 <= _; omega)
        clear hSa howna hSb hownb hFb hTb hwb hE
        go_wp2_with (first | refine wlSk wa (stI _ _ _ _ rfl bb 10 (M.waiting + 1) rfl (by simp [go_sem]) w9 wa c10 fz10 (unhide HWA)) rfl ?_ | refine wlSk wb (stI _ _ _ _ rfl bb 11 (M.joined + 1) rfl (by simp [go_sem]) wa wb c11 fz11 (unhide HWB)) rfl ?_)
        refine HE.mono ?_
        rintro e wz ⟨rfl,hz2⟩
        have HQ : Hid (StE w0 wz bb fb (arrB Oz (F,M) (prs p).1 (prs p).2 tag).1 (arrB Oz (F,M) (prs p).1 (prs p).2 tag).2) := by
          rw [unhide HPR]
          dsimp only
          rw [unhide HQE']
          rw [(unhide HLK).ver,(unhide HLK).now] at hz2
          exact hz2
        clear hz2 HE
        go_wp2_with fail
        exact bodyPost_end (results_none Tryz.results17 _ _ _) rfl ⟨rfl,unhide HQ⟩
  . obtain ⟨r1,rfl⟩ : ∃ r,l = [r] := by
      match l,hl1 with
      | [r],_ => exact ⟨r,rfl⟩
    obtain ⟨b9,off9,rfl,c9⟩ := hc0 (by simp)
    clear hc0 hl1
    change Hid (OwnR rRep 35 w5 (.slice (some ⟨b9,off9,none⟩) 1 cap9) [r1]) at HRV
    go_wp2_with fail
    have h5 := unhide HH5
    obtain ⟨oa6,cap6,e6,_,_,_⟩ := h5.bk.mem.was.at
    rw [h5.bk.mem.len,(unhide HLK).ver] at e6
    have hbn : B.nw = F.now := by rw [<- (unhide HLK).now]; exact h5.bk.num.nw
    have hbw : B.wai = M.waiting := h5.bk.num.wai
    have hbj : B.joi = M.joined := h5.bk.num.joi
    clear h5
    refine wp_region_held (S := fun w' => w'.cell? ⟨bb,6,none⟩ = some (.slice oa6 (F.ver + 1) cap6) /\ w'.cell? ⟨bb,7,none⟩ = some (.int .i64 F.now) /\ w'.cell? ⟨bb,10,none⟩ = some (.int .i64 M.waiting) /\ w'.rangeAt g1 0 (#[.int .i64 kl,.int .i64 kz,.int .i64 kx,.int .i64 ky] : Array Value).toList) (by kernel_rfl) ?_
    change wpAnyH _ _ _ _ _ _ _ _ (World.drew _)
    have hbD := Below.drew (Below.refl w5.heap.size w5)
    have hSd := (unhide HH5).on hbD
    have hownd := (unhide HRV).on hbD
    have hAd := blk_on (unhide HA5) hbD
    clear hbD HH5 HRV HA5
    generalize World.drew w5 = w6 at hSd hownd hAd ⊢
    have SF : ∀ {W : World} {bs : Value},BBlk W bb { B with rv := bs } -> W.heap[g1]? = some (.cells #[.int .i64 kl,.int .i64 kz,.int .i64 kx,.int .i64 ky] 39 (0,0)) -> W.cell? ⟨bb,6,none⟩ = some (.slice oa6 (F.ver + 1) cap6) /\ W.cell? ⟨bb,7,none⟩ = some (.int .i64 F.now) /\ W.cell? ⟨bb,10,none⟩ = some (.int .i64 M.waiting) /\ W.rangeAt g1 0 (#[.int .i64 kl,.int .i64 kz,.int .i64 kx,.int .i64 ky] : Array Value).toList := fun h1 h2 => ⟨by rw [<- e6]; exact h1.cells 6,by rw [<- hbn]; exact h1.cells 7,by rw [<- hbw]; exact h1.cells 10,KEYF h2⟩
    have hS := SF (bs := B.rv) hSd.bk.blk hAd
    have c8d : w6.cell? ⟨bb,8,none⟩ = some (.slice oa8 M.reqs.length cap8) := by rw [<- unhide HE8]; exact hSd.bk.blk.cells 8
    have VE := version_any bb B (F.ver + 1) w6 hSd.bk.blk (by omega) ⟨oa6,cap6,e6⟩
    have hve : (((F.ver + 1 : Nat) : Int) - 1) = F.ver := by omega
    rw [hve] at VE
    obtain ⟨w7,hw7⟩ : ∃ w7,w6.alloc (.cells #[.string tag,.int .i64 kl,.int .i64 kz,.int .i64 kx,.int .i64 ky,.int .i64 er,.int .i64 (F.ver : Int),.int .i64 (F.now : Int),.int .i64 M.waiting,.int .i64 (-1)] 42) = w7 := ⟨_,rfl⟩
    have hbA : Below w6.heap.size w6 w7 := hw7 ▸ (Below.refl w6.heap.size w6).alloc (Nat.le_refl _) (.cells #[.string tag,.int .i64 kl,.int .i64 kz,.int .i64 kx,.int .i64 ky,.int .i64 er,.int .i64 (F.ver : Int),.int .i64 (F.now : Int),.int .i64 M.waiting,.int .i64 (-1)] 42)
    have hat : AtR rAsk w7 (.slice (some ⟨w6.heap.size,0,none⟩) 1 1) [⟨tag,⟨kl,kz,kx,ky⟩,er,F.ver,F.now,M.waiting,-1⟩] := hw7 ▸ at_new rAsk 42 w6 ⟨tag,⟨kl,kz,kx,ky⟩,er,F.ver,F.now,M.waiting,-1⟩ #[.string tag,.int .i64 kl,.int .i64 kz,.int .i64 kx,.int .i64 ky,.int .i64 er,.int .i64 (F.ver : Int),.int .i64 (F.now : Int),.int .i64 M.waiting,.int .i64 (-1)] rfl
    have hsA := hSd.on hbA
    have hownA := hownd.on hbA
    have hAA := blk_on hAd hbA
    have hSA := SF (bs := B.rv) hsA.bk.blk hAA
    have c8A : w7.cell? ⟨bb,8,none⟩ = some (.slice oa8 M.reqs.length cap8) := by rw [<- unhide HE8]; exact hsA.bk.blk.cells 8
    obtain ⟨v8,w8,r1,r2,r3,r4⟩ := apAsk hsA.bk.mem.req hat (by simp; omega)
    have hF8 : Frm (fun q => B.rv.ownBlock = some q) w7 w8 := (Frm.rfl' _ _).grown r3 (fun q hq _ => hq)
    rw [unhide HE8] at r1
    obtain ⟨⟨Φ9,Ψ9,hS9⟩,hF9,hT9,hB8⟩ := hsA.asked ⟨tag,⟨kl,kz,kx,ky⟩,er,F.ver,F.now,M.waiting,-1⟩ r2 hF8 (fun q hq => by
      rcases r4 with r4 | r4
      . exact Or.inl (r4 ▸ hq)
      . exact Or.inr (r4 q hq))
    have hT8 : Tys (fun q => B.rv.ownBlock = some q) w7 [42] := fun q hq => by
      obtain ⟨c,hc⟩ := hsA.bk.mem.req.ty hq
      exact ⟨c,42,hc,by simp⟩
    have hA8 := blk_frmT hAA hF8 hT8 (by decide)
    have hA9 := blk_frmT hAA hF9 hT9 (by decide)
    have hown9 := hownA.frmT hF9 hT9 (by decide)
    have hS8 := SF (bs := B.rv) hB8 hA8
    have c88 : w8.cell? ⟨bb,8,none⟩ = some (.slice oa8 M.reqs.length cap8) := by rw [<- unhide HE8]; exact hB8.cells 8
    have fz8 := frzB hB8 8
    obtain ⟨oa5,n5,k5,rfl⟩ := r2.sl
    obtain ⟨w9,hw9⟩ : ∃ w9,w8.setCell ⟨bb,8,none⟩ (.slice oa5 n5 k5) = w9 := ⟨_,rfl⟩
    rw [hw9] at hS9 hown9 hA9
    have hS9' := SF (bs := .slice oa5 n5 k5) hS9.bk.blk hA9
    have HS9 := hide hS9
    have HOWN9 := hide hown9
    have HW9 := hide hw9
    have HW7 := hide hw7
    have BS : ∀ (ev : Operand -> Value) (o : Oper) (x : Operand),o.op = .buildSlice 30 1 #[(0,x)] -> ev x = .agg #[.string tag,.int .i64 kl,.int .i64 kz,.int .i64 kx,.int .i64 ky,.int .i64 er,.int .i64 (F.ver : Int),.int .i64 (F.now : Int),.int .i64 M.waiting,.int .i64 (-1)] -> (execOp ev o).run Tryz.prog w6 = .ok (.value (.slice (some ⟨w6.heap.size,0,none⟩) 1 1)) w7 := fun ev o x q1 q2 => unhide HW7 ▸ bsAsk tag kl kz kx ky er F.ver F.now M.waiting (-1) ev o x q1 q2 w6
    generalize hG6 : w6.heap.size = g6 at BS r1 hat
    clear hSd hownd hbA hsA hownA r2 r3 r4 hF8 hS9 hF9 hT9 hB8 hT8 hA8 hA9 hown9 hw9 hw7 SF hat hG6 hAd hAA KEYF
    refine t_tk 0 rfl (.pointer (some ⟨bb,0,none⟩)) (by kernel_rfl) (fun _ _ _ h => h) rfl (fun w' hw' => by simp [go_sem]) hS ?_
    simp only [Act.put,qA,qB,qC]
    refine t_tk 1 rfl (.pointer (some ⟨bb,0,none⟩)) (by kernel_rfl) (fun _ _ _ h => h) rfl (fun w' hw' => by simp [go_sem]) hS ?_
    simp only [Act.put,qA,qB,qC]
    refine t_tk 2 rfl (.pointer (some ⟨bb,0,none⟩)) (by kernel_rfl) (fun _ _ _ h => h) rfl (fun w' hw' => by simp [go_sem]) hS ?_
    simp only [Act.put,qA,qB,qC]
    refine t_tk 3 rfl (.pointer (some ⟨bb,8,none⟩)) (by kernel_rfl) (fun _ _ _ h => h) rfl (fun w' hw' => by simp [go_sem]) hS ?_
    simp only [Act.put,qA,qB,qC]
    refine t_tk 5 rfl (.string tag) (by kernel_rfl) (fun _ _ _ h => h) rfl (fun w' hw' => by simp [go_sem]) hS ?_
    simp only [Act.put,qA,qB,qC]
    refine t_tk 6 rfl (.agg #[.int .i64 kl,.int .i64 kz,.int .i64 kx,.int .i64 ky]) (by kernel_rfl) (fun _ _ _ h => h) rfl (fun w' hw' => ldcR _ _ _ 39 rfl _ rfl _ Tryz.underlying39 rfl (sz39 _ _ _ _) g1 0 rfl _ hw'.2.2.2) hS ?_
    simp only [Act.put,qA,qB,qC]
    refine t_tk 7 rfl (.int .i64 er) (by kernel_rfl) (fun _ _ _ h => h) rfl (fun w' hw' => by simp [go_sem]) hS ?_
    simp only [Act.put,qA,qB,qC]
    refine t_tk 8 rfl (.pointer (some ⟨bb,0,none⟩)) (by kernel_rfl) (fun _ _ _ h => h) rfl (fun w' hw' => by simp [go_sem]) hS ?_
    simp only [Act.put,qA,qB,qC]
    refine t_tk 10 rfl (.pointer (some ⟨bb,0,none⟩)) (by kernel_rfl) (fun _ _ _ h => h) rfl (fun w' hw' => by simp [go_sem]) hS ?_
    simp only [Act.put,qA,qB,qC]
    refine t_tk 11 rfl (.pointer (some ⟨bb,0,none⟩)) (by kernel_rfl) (fun _ _ _ h => h) rfl (fun w' hw' => by simp [go_sem]) hS ?_
    simp only [Act.put,qA,qB,qC]
    refine t_tk 12 rfl (.pointer (some ⟨bb,7,none⟩)) (by kernel_rfl) (fun _ _ _ h => h) rfl (fun w' hw' => by simp [go_sem]) hS ?_
    simp only [Act.put,qA,qB,qC]
    refine t_tk 13 rfl (.int .i64 F.now) (by kernel_rfl) (fun _ _ _ h => h) rfl (fun w' hw' => by simp [go_sem,hw'.2.1]) hS ?_
    simp only [Act.put,qA,qB,qC]
    refine t_tk 14 rfl (.pointer (some ⟨bb,0,none⟩)) (by kernel_rfl) (fun _ _ _ h => h) rfl (fun w' hw' => by simp [go_sem]) hS ?_
    simp only [Act.put,qA,qB,qC]
    refine t_tk 15 rfl (.pointer (some ⟨bb,0,none⟩)) (by kernel_rfl) (fun _ _ _ h => h) rfl (fun w' hw' => by simp [go_sem]) hS ?_
    simp only [Act.put,qA,qB,qC]
    refine t_tk 16 rfl (.pointer (some ⟨bb,10,none⟩)) (by kernel_rfl) (fun _ _ _ h => h) rfl (fun w' hw' => by simp [go_sem]) hS ?_
    simp only [Act.put,qA,qB,qC]
    refine t_tk 17 rfl (.int .i64 M.waiting) (by kernel_rfl) (fun _ _ _ h => h) rfl (fun w' hw' => by simp [go_sem,hw'.2.2.1]) hS ?_
    simp only [Act.put,qA,qB,qC]
    refine wpAnyH_all (rs := [4,9]) (by kernel_rfl) (by simp) ?_
    intro i hi
    simp only [List.mem_cons,List.not_mem_nil,or_false] at hi
    rcases hi with rfl | rfl
    . refine t_op 4 rfl rfl ((.slice oa8 M.reqs.length cap8)) (w6) (by simp [go_sem,c8d]) (hS) ?_
      simp only [Act.put,qA,qB,qC]
      refine wpAnyH_all (rs := [9]) (by kernel_rfl) (by simp) ?_
      intro i hi
      simp only [List.mem_singleton] at hi
      subst hi
      refine t_call 9 rfl rfl 29 #[.pointer (some ⟨bb,0,none⟩)] (by simp [go_sem]) (.int .i64 F.ver) VE hS ?_
      simp only [Act.put,qA,qB,qC]
      refine t_tk 18 rfl (.agg #[.string tag,.int .i64 kl,.int .i64 kz,.int .i64 kx,.int .i64 ky,.int .i64 er,.int .i64 (F.ver : Int),.int .i64 (F.now : Int),.int .i64 M.waiting,.int .i64 (-1)]) (by kernel_rfl) (fun _ _ _ h => h) rfl (fun w' _ => bt42 tag kl kz kx ky er F.ver F.now M.waiting (-1) _ _ _ _ _ _ _ _ _ rfl rfl rfl rfl rfl rfl rfl rfl w') hS ?_
      simp only [Act.put,qA,qB,qC]
      refine wpAnyH_all (rs := [19]) (by kernel_rfl) (by simp) ?_
      intro i hi
      simp only [List.mem_singleton] at hi
      subst hi
      refine t_op 19 rfl rfl (.slice (some ⟨g6,0,none⟩) 1 1) (w7) (BS _ _ _ rfl rfl) (hSA) ?_
      simp only [Act.put,qA,qB,qC]
      refine wpAnyH_all (rs := [20]) (by kernel_rfl) (by simp) ?_
      intro i hi
      simp only [List.mem_singleton] at hi
      subst hi
      refine t_op 20 rfl rfl (.slice oa5 n5 k5) (w8) (exR 30 r1 _ _ _ _ rfl rfl rfl rfl) (hS8) ?_
      simp only [Act.put,qA,qB,qC]
      refine t_tk 21 rfl (.pointer (some ⟨bb,0,none⟩)) (by kernel_rfl) (fun _ _ _ h => h) rfl (fun w' hw' => by simp [go_sem]) hS8 ?_
      simp only [Act.put,qA,qB,qC]
      refine t_tk 22 rfl (.pointer (some ⟨bb,8,none⟩)) (by kernel_rfl) (fun _ _ _ h => h) rfl (fun w' hw' => by simp [go_sem]) hS8 ?_
      simp only [Act.put,qA,qB,qC]
      refine wpAnyH_all (rs := [23]) (by kernel_rfl) (by simp) ?_
      intro i hi
      simp only [List.mem_singleton] at hi
      subst hi
      refine t_skip 23 rfl rfl (w9) (stS1 _ _ _ _ 30 rfl (fun _ => by simp [go_sem]) bb 8 oa5 n5 k5 rfl rfl w8 w9 c88 fz8 (unhide HW9)) (hS9') ?_
      simp only [Act.put]
      refine wpAnyH_done (by kernel_rfl) ?_ _
      clear hS c8d VE hve hSA c8A hS8 c88 fz8 hS9' BS r1 HW9 HW7 c8
      obtain ⟨⟨Φa,Ψa,hSa⟩,hFa,hTa⟩ := (unhide HS9).wai (M.waiting + 1)
      have howna := (unhide HOWN9).frmT hFa hTa (by decide)
      have c10 : w9.cell? ⟨bb,10,none⟩ = some (.int .i64 M.waiting) := by rw [<- hbw]; exact (unhide HS9).bk.blk.cells 10
      have fz10 := frzB (unhide HS9).bk.blk 10
      obtain ⟨wa,hwa⟩ : ∃ wa,w9.setCell ⟨bb,10,none⟩ (.int .i64 (M.waiting + 1)) = wa := ⟨_,rfl⟩
      rw [hwa] at hSa howna
      have HWA := hide hwa
      have hov : IntKind.i64.wrap (M.waiting + 1) = M.waiting + 1 := i64_of _ (by omega)
      clear hFa hTa hwa HS9 HOWN9
      have hE : StE w0 wa bb fb F' (M.add tag ⟨kl,kz,kx,ky⟩ er F.ver F.now [r1].isEmpty) := ⟨_,_,_,_,hSa⟩
      have HE := hear_any w0 bb fb F' _ 1 _ [r1] wa hE howna (unhide HVAL) (by rw [(unhide HLK).ver]; omega) (by show M.says.length + 1 <= _; omega) (by show (M.reqs ++ [_]).length <= _; simp; omega) (by show ((1 : Nat) : Int) <= M.waiting + 1 /\ M.waiting + 1 <= _; omega)
      clear hSa howna hE
      go_wp2_with (refine wlSk wa (stI _ _ _ _ rfl bb 10 (M.waiting + 1) rfl (by simp [go_sem]) w9 wa c10 fz10 (unhide HWA)) rfl ?_)
      refine HE.mono ?_
      rintro e wz ⟨rfl,hz2⟩
      have HQ : Hid (StE w0 wz bb fb (arrB Oz (F,M) (prs p).1 (prs p).2 tag).1 (arrB Oz (F,M) (prs p).1 (prs p).2 tag).2) := by
        rw [unhide HPR]
        dsimp only
        rw [unhide HQE']
        rw [(unhide HLK).ver,(unhide HLK).now] at hz2
        exact hz2
      clear hz2 HE
      go_wp2_with fail
      exact bodyPost_end (results_none Tryz.results17 _ _ _) rfl ⟨rfl,unhide HQ⟩
    . refine t_call 9 rfl rfl 29 #[.pointer (some ⟨bb,0,none⟩)] (by simp [go_sem]) (.int .i64 F.ver) VE hS ?_
      simp only [Act.put,qA,qB,qC]
      refine t_tk 18 rfl (.agg #[.string tag,.int .i64 kl,.int .i64 kz,.int .i64 kx,.int .i64 ky,.int .i64 er,.int .i64 (F.ver : Int),.int .i64 (F.now : Int),.int .i64 M.waiting,.int .i64 (-1)]) (by kernel_rfl) (fun _ _ _ h => h) rfl (fun w' _ => bt42 tag kl kz kx ky er F.ver F.now M.waiting (-1) _ _ _ _ _ _ _ _ _ rfl rfl rfl rfl rfl rfl rfl rfl w') hS ?_
      simp only [Act.put,qA,qB,qC]
      refine wpAnyH_all (rs := [4,19]) (by kernel_rfl) (by simp) ?_
      intro i hi
      simp only [List.mem_cons,List.not_mem_nil,or_false] at hi
      rcases hi with rfl | rfl
      . refine t_op 4 rfl rfl ((.slice oa8 M.reqs.length cap8)) (w6) (by simp [go_sem,c8d]) (hS) ?_
        simp only [Act.put,qA,qB,qC]
        refine wpAnyH_all (rs := [19]) (by kernel_rfl) (by simp) ?_
        intro i hi
        simp only [List.mem_singleton] at hi
        subst hi
        refine t_op 19 rfl rfl (.slice (some ⟨g6,0,none⟩) 1 1) (w7) (BS _ _ _ rfl rfl) (hSA) ?_
        simp only [Act.put,qA,qB,qC]
        refine wpAnyH_all (rs := [20]) (by kernel_rfl) (by simp) ?_
        intro i hi
        simp only [List.mem_singleton] at hi
        subst hi
        refine t_op 20 rfl rfl (.slice oa5 n5 k5) (w8) (exR 30 r1 _ _ _ _ rfl rfl rfl rfl) (hS8) ?_
        simp only [Act.put,qA,qB,qC]
        refine t_tk 21 rfl (.pointer (some ⟨bb,0,none⟩)) (by kernel_rfl) (fun _ _ _ h => h) rfl (fun w' hw' => by simp [go_sem]) hS8 ?_
        simp only [Act.put,qA,qB,qC]
        refine t_tk 22 rfl (.pointer (some ⟨bb,8,none⟩)) (by kernel_rfl) (fun _ _ _ h => h) rfl (fun w' hw' => by simp [go_sem]) hS8 ?_
        simp only [Act.put,qA,qB,qC]
        refine wpAnyH_all (rs := [23]) (by kernel_rfl) (by simp) ?_
        intro i hi
        simp only [List.mem_singleton] at hi
        subst hi
        refine t_skip 23 rfl rfl (w9) (stS1 _ _ _ _ 30 rfl (fun _ => by simp [go_sem]) bb 8 oa5 n5 k5 rfl rfl w8 w9 c88 fz8 (unhide HW9)) (hS9') ?_
        simp only [Act.put]
        refine wpAnyH_done (by kernel_rfl) ?_ _
        clear hS c8d VE hve hSA c8A hS8 c88 fz8 hS9' BS r1 HW9 HW7 c8
        obtain ⟨⟨Φa,Ψa,hSa⟩,hFa,hTa⟩ := (unhide HS9).wai (M.waiting + 1)
        have howna := (unhide HOWN9).frmT hFa hTa (by decide)
        have c10 : w9.cell? ⟨bb,10,none⟩ = some (.int .i64 M.waiting) := by rw [<- hbw]; exact (unhide HS9).bk.blk.cells 10
        have fz10 := frzB (unhide HS9).bk.blk 10
        obtain ⟨wa,hwa⟩ : ∃ wa,w9.setCell ⟨bb,10,none⟩ (.int .i64 (M.waiting + 1)) = wa := ⟨_,rfl⟩
        rw [hwa] at hSa howna
        have HWA := hide hwa
        have hov : IntKind.i64.wrap (M.waiting + 1) = M.waiting + 1 := i64_of _ (by omega)
        clear hFa hTa hwa HS9 HOWN9
        have hE : StE w0 wa bb fb F' (M.add tag ⟨kl,kz,kx,ky⟩ er F.ver F.now [r1].isEmpty) := ⟨_,_,_,_,hSa⟩
        have HE := hear_any w0 bb fb F' _ 1 _ [r1] wa hE howna (unhide HVAL) (by rw [(unhide HLK).ver]; omega) (by show M.says.length + 1 <= _; omega) (by show (M.reqs ++ [_]).length <= _; simp; omega) (by show ((1 : Nat) : Int) <= M.waiting + 1 /\ M.waiting + 1 <= _; omega)
        clear hSa howna hE
        go_wp2_with (refine wlSk wa (stI _ _ _ _ rfl bb 10 (M.waiting + 1) rfl (by simp [go_sem]) w9 wa c10 fz10 (unhide HWA)) rfl ?_)
        refine HE.mono ?_
        rintro e wz ⟨rfl,hz2⟩
        have HQ : Hid (StE w0 wz bb fb (arrB Oz (F,M) (prs p).1 (prs p).2 tag).1 (arrB Oz (F,M) (prs p).1 (prs p).2 tag).2) := by
          rw [unhide HPR]
          dsimp only
          rw [unhide HQE']
          rw [(unhide HLK).ver,(unhide HLK).now] at hz2
          exact hz2
        clear hz2 HE
        go_wp2_with fail
        exact bodyPost_end (results_none Tryz.results17 _ _ _) rfl ⟨rfl,unhide HQ⟩
      . refine t_op 19 rfl rfl (.slice (some ⟨g6,0,none⟩) 1 1) (w7) (BS _ _ _ rfl rfl) (hSA) ?_
        simp only [Act.put,qA,qB,qC]
        refine wpAnyH_all (rs := [4]) (by kernel_rfl) (by simp) ?_
        intro i hi
        simp only [List.mem_singleton] at hi
        subst hi
        refine t_op 4 rfl rfl ((.slice oa8 M.reqs.length cap8)) (w7) (by simp [go_sem,c8A]) (hSA) ?_
        simp only [Act.put,qA,qB,qC]
        refine wpAnyH_all (rs := [20]) (by kernel_rfl) (by simp) ?_
        intro i hi
        simp only [List.mem_singleton] at hi
        subst hi
        refine t_op 20 rfl rfl (.slice oa5 n5 k5) (w8) (exR 30 r1 _ _ _ _ rfl rfl rfl rfl) (hS8) ?_
        simp only [Act.put,qA,qB,qC]
        refine t_tk 21 rfl (.pointer (some ⟨bb,0,none⟩)) (by kernel_rfl) (fun _ _ _ h => h) rfl (fun w' hw' => by simp [go_sem]) hS8 ?_
        simp only [Act.put,qA,qB,qC]
        refine t_tk 22 rfl (.pointer (some ⟨bb,8,none⟩)) (by kernel_rfl) (fun _ _ _ h => h) rfl (fun w' hw' => by simp [go_sem]) hS8 ?_
        simp only [Act.put,qA,qB,qC]
        refine wpAnyH_all (rs := [23]) (by kernel_rfl) (by simp) ?_
        intro i hi
        simp only [List.mem_singleton] at hi
        subst hi
        refine t_skip 23 rfl rfl (w9) (stS1 _ _ _ _ 30 rfl (fun _ => by simp [go_sem]) bb 8 oa5 n5 k5 rfl rfl w8 w9 c88 fz8 (unhide HW9)) (hS9') ?_
        simp only [Act.put]
        refine wpAnyH_done (by kernel_rfl) ?_ _
        clear hS c8d VE hve hSA c8A hS8 c88 fz8 hS9' BS r1 HW9 HW7 c8
        obtain ⟨⟨Φa,Ψa,hSa⟩,hFa,hTa⟩ := (unhide HS9).wai (M.waiting + 1)
        have howna := (unhide HOWN9).frmT hFa hTa (by decide)
        have c10 : w9.cell? ⟨bb,10,none⟩ = some (.int .i64 M.waiting) := by rw [<- hbw]; exact (unhide HS9).bk.blk.cells 10
        have fz10 := frzB (unhide HS9).bk.blk 10
        obtain ⟨wa,hwa⟩ : ∃ wa,w9.setCell ⟨bb,10,none⟩ (.int .i64 (M.waiting + 1)) = wa := ⟨_,rfl⟩
        rw [hwa] at hSa howna
        have HWA := hide hwa
        have hov : IntKind.i64.wrap (M.waiting + 1) = M.waiting + 1 := i64_of _ (by omega)
        clear hFa hTa hwa HS9 HOWN9
        have hE : StE w0 wa bb fb F' (M.add tag ⟨kl,kz,kx,ky⟩ er F.ver F.now [r1].isEmpty) := ⟨_,_,_,_,hSa⟩
        have HE := hear_any w0 bb fb F' _ 1 _ [r1] wa hE howna (unhide HVAL) (by rw [(unhide HLK).ver]; omega) (by show M.says.length + 1 <= _; omega) (by show (M.reqs ++ [_]).length <= _; simp; omega) (by show ((1 : Nat) : Int) <= M.waiting + 1 /\ M.waiting + 1 <= _; omega)
        clear hSa howna hE
        go_wp2_with (refine wlSk wa (stI _ _ _ _ rfl bb 10 (M.waiting + 1) rfl (by simp [go_sem]) w9 wa c10 fz10 (unhide HWA)) rfl ?_)
        refine HE.mono ?_
        rintro e wz ⟨rfl,hz2⟩
        have HQ : Hid (StE w0 wz bb fb (arrB Oz (F,M) (prs p).1 (prs p).2 tag).1 (arrB Oz (F,M) (prs p).1 (prs p).2 tag).2) := by
          rw [unhide HPR]
          dsimp only
          rw [unhide HQE']
          rw [(unhide HLK).ver,(unhide HLK).now] at hz2
          exact hz2
        clear hz2 HE
        go_wp2_with fail
        exact bodyPost_end (results_none Tryz.results17 _ _ _) rfl ⟨rfl,unhide HQ⟩
theorem wrk_nat (F : FM) (j : Nat) : wrk F (j : Int) = F.work Oz j := by unfold wrk; rw [if_neg (by omega)]; simp
theorem St.cs {w0 : Bas} {w : World} {bb fb : Nat} {Φ Ψ : Nat -> Prop} {B : BV} {WS : List Sli} {F : FM} {M : BM} (h : St w0 w bb fb Φ Ψ B WS F M) : w.cell? ⟨bb,0,none⟩ = some (.pointer (some ⟨fb,0,none⟩)) /\ w.cell? ⟨bb,1,none⟩ = some (.int .i64 F.queue) /\ w.cell? ⟨bb,2,none⟩ = some (.int .i64 F.wks.length) /\ w.cell? ⟨bb,3,none⟩ = some (.int .i64 F.wait) /\ w.cell? ⟨bb,4,none⟩ = some (.int .i64 F.room) /\ w.cell? ⟨bb,7,none⟩ = some (.int .i64 F.now) /\ w.cell? ⟨bb,10,none⟩ = some (.int .i64 M.waiting) /\ w.cell? ⟨bb,11,none⟩ = some (.int .i64 M.joined) /\ w.cell? ⟨bb,12,none⟩ = some (.bool false) := by
  have hc := h.bk.blk.cells
  have hn := h.bk.num
  refine ⟨?_,?_,?_,?_,?_,?_,?_,?_,hc 12⟩
  . rw [<- hn.fb]; exact hc 0
  . rw [<- hn.q]; exact hc 1
  . rw [<- hn.wk]; exact hc 2
  . rw [<- hn.wt]; exact hc 3
  . rw [<- hn.ca]; exact hc 4
  . rw [<- hn.nw]; exact hc 7
  . rw [<- hn.wai]; exact hc 10
  . rw [<- hn.joi]; exact hc 11
theorem Bd.heard {n : Nat} {F : FM} {M : BM} (h : Bd n F M) (hi : Inv Oz F M) (hn : n <= 1420000000000) {l : List Rep} (hl : l.length <= F.waiting.length) : M.says.length + l.length <= 1500000000000 /\ M.reqs.length <= 1500000000000 /\ (l.length : Int) <= M.waiting /\ M.waiting <= 1500000000000 := by
  have := h.said hi
  have := hi.cnt
  omega
theorem work_len (F : FM) (i : Nat) : (F.work Oz i).2.length <= F.waiting.length := by
  obtain ⟨p,e⟩ := work_who (O := Oz) F i
  have := congrArg List.length e
  rw [List.length_map,List.length_map] at this
  rw [this]; exact List.length_filter_le _ _
set_option maxHeartbeats 12800000 in
theorem calm_any (n : Nat) (w0 : Bas) (bb fb : Nat) (F : FM) (M : BM) (w : World) (h : StE w0 w bb fb F M) (hi : Inv Oz F M) (hbd : Bd n F M) (hn : n <= 1420000000000) :
    Calls Tryz.prog 9 #[.pointer (some ⟨bb,0,none⟩)] w fun e w' => e = .returned (.tuple #[]) /\ StE w0 w' bb fb (calmP Oz (F,M)).1 (calmP Oz (F,M)).2 := by
  have hq := hi.ok.q
  have hwn := hi.ok.wn
  have HST := hide h
  have HI := hide hi
  have HBD := hide hbd
  have hov1 : IntKind.i64.wrap ((F.queue : Int) + 2) = (F.queue : Int) + 2 := i64_of _ (by omega)
  have hov2 : IntKind.i64.wrap (((F.queue : Int) + 2) * 41) = ((F.queue : Int) + 2) * 41 := i64_of _ (by omega)
  clear h hi hbd
  go_enter Tryz.func9,Tryz.ntmps9
  go_wp2_with fail
  go_loopw [2,3,4] (fun i _ _ wr => ∃ k : Nat,k <= (F.queue + 2) * 41 /\ i = .int .i64 k /\ Hid (StE w0 wr bb fb (calmB Oz (F,M) F.wks.length k).1 (calmB Oz (F,M) F.wks.length k).2)) (fun i _ _ _ => (F.queue + 2) * 41 - (intOf i).toNat)
  case atStart => exact ⟨0,by omega,rfl,hide (unhide HST)⟩
  case round =>
    obtain ⟨k,hk,rfl,hst⟩ := hrel
    have hon : On (O := Oz) (F,M) (calmB Oz (F,M) F.wks.length k) := on_calm (p := (F,M)) (unhide HI) F.wks.length k
    have hbk := hon.bd (unhide HBD)
    obtain ⟨pk,hpk⟩ : ∃ pk,calmB Oz (F,M) F.wks.length k = pk := ⟨_,rfl⟩
    have HPK := hide hpk
    rw [hpk] at hst hon hbk
    have hlq : pk.1.queue = F.queue := hon.like.queue
    have hlw : pk.1.wks.length = F.wks.length := hon.like.wks
    have HIK := hide hon.inv
    have HBK := hide hbk
    obtain ⟨Φ,Ψ,B,WS,hS⟩ := unhide hst
    obtain ⟨_,c1,_,_,_,_,_,_,c12⟩ := hS.cs
    rw [hlq] at c1
    clear hS hon hbk hpk
    by_cases hlt : k < (F.queue + 2) * 41
    . have hkn : (k : Int) < ((F.queue : Int) + 2) * 41 := by omega
      go_wp2_with fail
      go_loopw [3,4] (fun j _ wr2 => ∃ m : Nat,m <= F.wks.length /\ j = .int .i64 m /\ Hid (StE w0 wr2 bb fb (partB Oz pk m).1 (partB Oz pk m).2)) (fun j _ _ => F.wks.length - (intOf j).toNat)
      case atStart => exact ⟨0,by omega,rfl,hide (unhide hst)⟩
      case round =>
        obtain ⟨m,hm,rfl,hst2⟩ := hrel
        have hon := on_part (unhide HIK) m
        have hbm := hon.bd (unhide HBK)
        obtain ⟨pm,hpm⟩ : ∃ pm,partB Oz pk m = pm := ⟨_,rfl⟩
        have HPM := hide hpm
        rw [hpm] at hst2 hon hbm
        have hlw2 : pm.1.wks.length = F.wks.length := hon.like.wks.trans hlw
        obtain ⟨Φ2,Ψ2,B2,WS2,hS2⟩ := unhide hst2
        obtain ⟨c0,_,c2,_,_,_,_,_,_⟩ := hS2.cs
        rw [hlw2] at c2
        by_cases hlt2 : m < F.wks.length
        . have hmn : (m : Int) < (F.wks.length : Int) := by omega
          obtain ⟨_,_,s3,_⟩ := hbm.said hon.inv
          have WK := Work_any fb Ψ2 pm.1 (m : Int) wr hS2.fro hon.inv.ok (by omega)
          rw [wrk_nat] at WK
          have hval := hon.inv.validW m
          have hbh := hbm.heard hon.inv hn (work_len pm.1 m)
          have hv100 := hon.inv.ok.v100
          have hlkw := work_like (O := Oz) pm.1 m
          have HS2 := hide hS2
          have HVAL := hide hval
          have HBH := hide hbh
          have HLK := hide hlkw
          clear hS2 hon hbm hval hbh hlkw hpm
          go_wp2_with fail
          refine WK.mono ?_
          rintro e w3 ⟨rv,rfl,hP⟩
          have h3 := (unhide HS2).after hP (unhide HLK).b
          obtain ⟨b1,b2,b3,b4⟩ := unhide HBH
          have HE := hear_any w0 bb fb (pm.1.work Oz m).1 pm.2 4 rv (pm.1.work Oz m).2 w3 ⟨_,_,_,_,h3⟩ hP.rep (unhide HVAL) (by rw [(unhide HLK).ver]; exact hv100) b1 b2 ⟨b3,b4⟩
          obtain ⟨ra,rn,rc,rfl⟩ := hP.rep.sl
          clear hP h3 HS2 WK b1 b2 b3 b4
          go_wp2_with fail
          refine HE.mono ?_
          rintro e w4 ⟨rfl,h4⟩
          have HQ : Hid (StE w0 w4 bb fb (partB Oz pk (m + 1)).1 (partB Oz pk (m + 1)).2) := by
            have e : partB Oz pk (m + 1) = ((pm.1.work Oz m).1,pm.2.hear pm.1.ver pm.1.now 4 (pm.1.work Oz m).2) := by
              show workB Oz (partB Oz pk m) m = _
              rw [unhide HPM]; rfl
            rw [e]
            rw [(unhide HLK).ver,(unhide HLK).now] at h4
            exact h4
          clear h4 HE
          go_wp2_with fail
          go_roundw
          case rel => exact ⟨m + 1,by omega,by go_num,hide (unhide HQ)⟩
          case measure => simp [intOf]; omega
        . have hmn : ¬ (m : Int) < (F.wks.length : Int) := by omega
          have hmw : m = F.wks.length := by omega
          have HQ : Hid (StE w0 wr bb fb (calmB Oz (F,M) F.wks.length (k + 1)).1 (calmB Oz (F,M) F.wks.length (k + 1)).2) := by
            have e : calmB Oz (F,M) F.wks.length (k + 1) = pm := by
              show partB Oz (calmB Oz (F,M) F.wks.length k) F.wks.length = _
              rw [unhide HPK,<- hmw]; exact unhide HPM
            rw [e]
            exact unhide hst2
          clear hS2 hon hbm hpm hmw
          go_wp2_with fail
          go_roundw
          case rel => exact ⟨k + 1,by omega,by go_num,hide (unhide HQ)⟩
          case measure => simp [intOf]; omega
    . have hkn : ¬ (k : Int) < ((F.queue : Int) + 2) * 41 := by omega
      have hkq : k = (F.queue + 2) * 41 := by omega
      have HQ : Hid (StE w0 wr bb fb (calmP Oz (F,M)).1 (calmP Oz (F,M)).2) := by
        have e : calmP Oz (F,M) = pk := by
          rw [<- unhide HPK,hkq]
        rw [e]
        exact unhide hst
      clear hkq hst
      go_wp2_with fail
      exact bodyPost_end (results_none Tryz.results9 _ _ _) rfl ⟨rfl,unhide HQ⟩
section
variable {LS : List Ft} {ver : Nat} {FLs : Nat -> List Ft} {es : Nat -> Nat -> Int} {n : Nat}
theorem Bnd.up {LS : List Ft} {a b : Int} (h : Bnd LS a) (hab : a <= b) : Bnd LS b := fun i hi => by have := h i hi; omega
theorem FVer.next (h : FVer LS ver FLs) (hn : n <= 8) (hr : ∀ i,i < n -> Rt (eF (es i))) {LS' FL' : List Ft} (hA : AppK ((ver : Int) + 1) es LS n LS') (hE : EdK es (FLs ver) n FL') :
    FVer LS' (ver + 1) (fun v => if v = ver + 1 then FL'.map nf else FLs v) /\ Nxt Oz LS ver FLs LS' (FL'.map nf) := by
  have h40 := (h.rel ver (Nat.le_refl _)).1.le40
  obtain ⟨q1,q2,q3⟩ := batch_joint (by omega) h.now (h.bnd.up (show (ver : Int) <= (ver : Int) + 1 by omega)) hr hA hE
  have hrel : ∀ v : Nat,v <= ver + 1 -> RelV v LS' (if v = ver + 1 then FL'.map nf else FLs v) /\ Nor (if v = ver + 1 then FL'.map nf else FLs v) := by
    intro v hv
    by_cases e : v = ver + 1
    . subst e
      rw [if_pos rfl]
      exact ⟨relV_nf (relV_now q1 q2 (EdK.len h40 hE)),nor_map _⟩
    . rw [if_neg e]
      have := h.rel v (by omega)
      exact ⟨q3 v (by omega) _ this.1,this.2⟩
  refine ⟨⟨hrel,?_,q2,?_⟩,⟨hi_of hrel,fun v hv k _ => AppK.old (by omega) k hA⟩⟩
  . show Rel LS' (if ver + 1 = ver + 1 then FL'.map nf else FLs (ver + 1))
    rw [if_pos rfl]
    exact rel_nf q1
  . have := AppK.len hA
    have := h.len
    omega
theorem FVer.agree (h : FVer LS ver FLs) (hr : ∀ i,i < n -> Rt (eF (es i))) {FL' : List Ft} (hE : EdK es (FLs ver) n FL') {k : Nat} {LSk LS' : List Ft} {r : Int} (hk : k < n) (hA : AppK ((ver : Int) + 1) es LS k LSk) (hR : EditR ((ver : Int) + 1) (es k) LSk r LS') : r = 0 := by
  obtain ⟨A,B,a1,a2⟩ := hE.pre k hk
  obtain ⟨q1,_,_⟩ := batch_joint (by omega) h.now (h.bnd.up (show (ver : Int) <= (ver : Int) + 1 by omega)) (fun i hi => hr i (by omega)) hA a1
  exact (q1.step (by omega) (hr k hk) a2 hR).1
theorem FVer.refuse (h : FVer LS ver FLs) (hr : ∀ i,i < n -> Rt (eF (es i))) {k : Nat} {FLk LS' : List Ft} (hk : k < n) (hE : EdK es (FLs ver) k FLk) (hN : EdN (es k) FLk) (hA : AppK ((ver : Int) + 1) es LS n LS') : False := by
  obtain ⟨A,B,a1,a2⟩ := hA.pre k hk
  obtain ⟨q1,_,_⟩ := batch_joint (by omega) h.now (h.bnd.up (show (ver : Int) <= (ver : Int) + 1 by omega)) (fun i hi => hr i (by omega)) a1 hE
  exact q1.noStep hN a2 rfl
end
theorem inf69 : (Tryz.prog.info? 69).map (fun i => (i.zero,i.size,i.bytes)) = some (some (.slice none 0 0),1,24) := by kernel_rfl
theorem apSli {w : World} {v x : Value} {l news : List Sli} (ho : OwnR rSli 69 w v l) (hx : AtR rSli w x news) (hl : l.length + news.length <= 100000000) :
    ∃ v' w',(Builtin.append_ #[29,29] 29 #[v,x]).run Tryz.prog w = .ok v' w' /\ OwnR rSli 69 w' v' (l ++ news) /\ w.grownBy w' v.ownBlock /\ (v'.ownBlock = v.ownBlock \/ ∀ g,v'.ownBlock = some g -> w.heap.size <= g) := by
  obtain ⟨i,h1,h2,h3,h4⟩ := infoP inf69
  exact OwnR.append (P := Tryz.prog) 29 29 i _ 24 Tryz.underlying29 h1 h2 h3 h4 rfl ho news x hx (by unfold maxLen; omega) (by omega)
theorem bsSli (oa : Option Addr) (n c : Nat) (ev : Operand -> Value) (o : Oper) (x : Operand) (ho : o.op = .buildSlice 29 1 #[(0,x)]) (hx : ev x = .slice oa n c) (w : World) : (execOp ev o).run Tryz.prog w = .ok (.value (.slice (some ⟨w.heap.size,0,none⟩) 1 1)) (w.alloc (.cells #[.slice oa n c] 69)) := by
  unfold execOp
  simp only [ho]
  simp only [List.map_toArray,List.map_cons,List.map_nil,hx]
  kernel_rfl
theorem OwnR.nilOr {α : Type} {R : Row α} {T : TypeId} {w : World} {v : Value} {l : List α} (h : OwnR R T w v l) : v = .slice none 0 0 \/ ∃ b off c,v = .slice (some ⟨b,off,none⟩) l.length c := by
  rcases h with ⟨h,_⟩ | ⟨g,off,cap,cur,hv,_⟩
  . exact Or.inl h
  . exact Or.inr ⟨g,off,cap,hv⟩
theorem st_mk {w0 : Bas} {w w' : World} {bb fb : Nat} {Φ Ψ S : Nat -> Prop} {B' : BV} {WS' : List Sli} {G : FM} {M' : BM} (hfro : FroE w fb Ψ G) (hdj : ∀ k,Φ k -> ¬ Ψ k) (hup : ∀ k,Φ k \/ Ψ k -> ¬ w0.T k) (hlt : ∀ k,Φ k -> k < w.heap.size) (hbel : Kp w0 w) (hF : Frm S w w') (hS : ∀ k,S k -> Φ k \/ w.heap.size <= k) (hb : Bk w' bb fb B' WS' G M') (hn : ∀ k,BFoot bb B' WS' k -> Φ k \/ w.heap.size <= k) :
    St w0 w' bb fb (fun k => Φ k \/ (w.heap.size <= k /\ k < w'.heap.size)) (fun k => Ψ k /\ k < w.heap.size) B' WS' G M' := by
  have hsz := hF.size
  have hb0 := hbel.size
  refine ⟨hfro.tight.frm hF (fun k hk q => ?_) (fun k q => ?_),hb,fun k hk => ?_,fun k hk q => ?_,fun k hk => ?_,fun k hk => ?_,hF.bel hbel hb0 (fun k q => ?_)⟩
  . rcases hS k q with e | e
    . exact hdj k e hk.1
    . omega
  . rcases hS k q with e | e
    . exact Bas.four (hup k (Or.inl e))
    . have := w0.size4; omega
  . rcases hn k hk with e | e
    . exact Or.inl e
    . exact Or.inr ⟨e,BFoot.lt hb hk⟩
  . rcases hk with e | e
    . exact hdj k e q.1
    . omega
  . rcases hk with (e | e) | e
    . exact hup k (Or.inl e)
    . exact Bas.out (by omega)
    . exact hup k (Or.inr e.1)
  . rcases hk with e | e
    . have := hlt k e; omega
    . exact e.2
  . rcases hS k q with e | e
    . exact hup k (Or.inl e)
    . exact Bas.out (by omega)
def WrB (w0 : Bas) (bb fb : Nat) (F : FM) (M : BM) (L : List Ft) (w' : World) : Prop :=
  StE w0 w' bb fb F M \/ ∃ LS' FL0,F.ver < 100 /\ AppK ((F.ver : Int) + 1) (gf L) F.LS L.length LS' /\ EdK (gf L) (F.FLs F.ver) L.length FL0 /\ Nxt Oz F.LS F.ver F.FLs LS' (FL0.map nf) /\ StE w0 w' bb fb (F.write Oz LS' (FL0.map nf)) M
theorem mkEs_rt (es : Nat -> Nat -> Int) (m : Nat) : ∀ i,i < m -> Rt (eF (gf (mkEs es m) i)) := fun i hi => by rw [gf_mkEs es m i hi,eF_mkE]; exact mk_rt _
theorem St.written {w0 : Bas} {w w1 w4 : World} {bb fb : Nat} {Φ Ψ : Nat -> Prop} {B : BV} {WS : List Sli} {F G : FM} {M : BM} (h : St w0 w bb fb Φ Ψ B WS F M) (hfrm : Frm Ψ w w1) (hfro : FroE w1 fb (NewS Ψ w.heap.size) G) (hq : G.queue = F.queue /\ G.wait = F.wait /\ G.chunk = F.chunk /\ G.room = F.room /\ G.now = F.now /\ G.wks.length = F.wks.length) (hv : G.ver = F.ver + 1) (ho : ∀ i,i <= F.ver -> G.FLs i = F.FLs i)
    {s : Sli} (hs : OwnR rF 86 w s.v (G.FLs (F.ver + 1))) (hsf : ∀ k,s.v.ownBlock = some k -> Φ k) {v' : Value} (r2 : OwnR rSli 69 w4 v' (WS ++ [s])) (hF : Frm (fun k => B.wv.ownBlock = some k) w1 w4) (r4 : ∀ g,v'.ownBlock = some g -> B.wv.ownBlock = some g \/ w1.heap.size <= g) : StE w0 (w4.setCell ⟨bb,6,none⟩ v') bb fb G M /\ BBlk w4 bb B /\ BBlk (w4.setCell ⟨bb,6,none⟩ v') bb { B with wv := v' } := by
  have hsz := hfrm.size
  have hb1 : Bk w1 bb fb B WS F M := h.bk.frm hfrm fun k hk => h.dj k (h.foot k hk)
  have hs1 : OwnR rF 86 w1 s.v (G.FLs (F.ver + 1)) := hs.frm hfrm fun k hk => h.dj k (hsf k hk)
  have hm := hb1.mem
  have hT4 : Tys (fun k => B.wv.ownBlock = some k) w1 [69] := fun k q => by
    obtain ⟨c,hc⟩ := hm.was.ty q
    exact ⟨c,69,hc,by simp⟩
  have hb4 : BBlk w4 bb B := blk_frmT hb1.blk hF hT4 (by decide)
  have hb5 := BBlk.set hb4 6 v' (BV.set_wv B v')
  have hF45 : Frm (fun k => k = bb) w4 (w4.setCell ⟨bb,6,none⟩ v') := (Frm.rfl' _ _).setCell (p := ⟨bb,6,none⟩) _ (fun _ => rfl)
  have hFw : Frm (fun k => k = bb \/ B.wv.ownBlock = some k) w1 (w4.setCell ⟨bb,6,none⟩ v') := (hF.mono (S' := fun k => k = bb \/ B.wv.ownBlock = some k) fun k _ q => Or.inr q).then hF45 (fun _ _ q => Or.inl q)
  have hTw : Tys (fun k => k = bb \/ B.wv.ownBlock = some k) w1 [33,69] := fun k q => by
    rcases q with rfl | q
    . exact ⟨_,33,hb1.blk,by simp⟩
    . obtain ⟨c,hc⟩ := hm.was.ty q
      exact ⟨c,69,hc,by simp⟩
  have hwl := hm.len
  obtain ⟨q1,q2,q3,q4,q5,q6⟩ := hq
  refine ⟨⟨_,_,{ B with wv := v' },WS ++ [s],st_mk (Φ := Φ) hfro (fun k hk q => ?_) (fun k hk => ?_) (fun k hk => by have := h.lt k hk; omega) (hfrm.bel h.bel h.bel.size fun k q => h.up k (Or.inr q)) hFw (fun k q => Or.inl ?_) ⟨hb5,⟨hb1.num.fb,by rw [q1]; exact hb1.num.q,by rw [q6]; exact hb1.num.wk,by rw [q2]; exact hb1.num.wt,by rw [q4]; exact hb1.num.ca,by rw [q3]; exact hb1.num.ch,by rw [q5]; exact hb1.num.nw,hb1.num.wai,hb1.num.joi⟩,⟨r2.frm hF45 (fun g hg => own_ne r2 hb4 (by decide) g hg),by rw [List.length_append,hwl,hv]; rfl,fun i t hi => ?_,hm.req.frmT hFw hTw (by decide),hm.say.frmT hFw hTw (by decide)⟩⟩ (fun k hk => ?_)⟩,hb4,hb5⟩
  . rcases q with q | q
    . exact h.dj k hk q
    . have := h.lt k hk; omega
  . rcases hk with q | q | q
    . exact h.up k (Or.inl q)
    . exact h.up k (Or.inr q)
    . exact Bas.out (by have := h.bel.size; omega)
  . rcases q with rfl | q
    . exact h.foot _ BFoot.iB
    . exact h.foot _ (BFoot.iW q)
  . rw [List.getElem?_append] at hi
    split at hi
    . rename_i hlt
      rw [ho i (by omega)]
      exact (hm.fea i t hi).frmT hFw hTw (by decide)
    . rename_i hlt
      by_cases c : i - WS.length = 0
      . rw [c] at hi
        simp at hi
        subst hi
        have : i = F.ver + 1 := by omega
        subst this
        exact hs1.frmT hFw hTw (by decide)
      . rw [List.getElem?_eq_none (by simp; omega)] at hi; simp at hi
  . refine hk.elim (P := fun k => Φ k \/ w1.heap.size <= k) (Or.inl (h.foot _ BFoot.iB)) (fun k q => (r4 k q).imp (fun q => h.foot k (BFoot.iW q)) id) (fun k q => Or.inl (h.foot k (BFoot.iR q))) (fun k q => Or.inl (h.foot k (BFoot.iS q))) (fun i t hi k q => Or.inl ?_)
    rw [List.getElem?_append] at hi
    split at hi
    . exact h.foot k (BFoot.iF hi q)
    . by_cases c : i - WS.length = 0
      . rw [c] at hi
        simp at hi
        subst hi
        exact hsf k q
      . rw [List.getElem?_eq_none (by simp; omega)] at hi; simp at hi
set_option maxHeartbeats 12800000 in
theorem write_any (w0 : Bas) (bb fb : Nat) (F : FM) (M : BM) (bv : Value) (bn : Nat) (es : Nat -> Nat -> Int) (w : World) (h : StE w0 w bb fb F M) (hi : Inv Oz F M) (hv : CsAt 25 w bv bn es) (h64 : ∀ i,i < bn -> ∀ j,j < 25 -> -9223372036854775808 <= es i j /\ es i j <= 9223372036854775807) :
    Calls Tryz.prog 37 #[.pointer (some ⟨bb,0,none⟩),bv] w fun e w' => e = .returned (.tuple #[]) /\ WrB w0 bb fb F M (mkEs es (min bn 8)) w' := by
  obtain ⟨Φ,Ψ,B,WS,h⟩ := h
  have ED := edits_any bv bn es w hv h64
  obtain ⟨bo,bc,rfl,_,_⟩ := hv
  have hver := hi.ok.v100
  have hLl : (mkEs es (min bn 8)).length <= 8 := by rw [mkEs_len]; omega
  have hrt : ∀ i,i < (mkEs es (min bn 8)).length -> Rt (eF (gf (mkEs es (min bn 8)) i)) := by rw [mkEs_len]; exact mkEs_rt es (min bn 8)
  have HH := hide h
  have HI := hide hi
  have HRT := hide hrt
  clear h hi hrt h64
  go_enter Tryz.func37,Tryz.ntmps37
  go_wp2_with fail
  refine ED.mono ?_
  rintro e w1 ⟨⟨lv,rfl,hoL⟩,hb1⟩
  clear ED
  generalize hL : mkEs es (min bn 8) = L at *
  have hcsL := hoL.at (by unfold maxLen; omega)
  have HCSL := hide hcsL
  obtain ⟨oaL,capL,rfl,_,_⟩ := hcsL
  have HB1 := hide hb1
  have HOL := hide hoL
  have HL := hide hL
  clear hoL hb1 hL
  go_wp2_with fail
  have hbD := (unhide HB1).trans ((Below.drew (Below.refl w1.heap.size w1)).mono (unhide HB1).size)
  have hcsd := (unhide HCSL).on (Below.drew (Below.refl w1.heap.size w1))
  have h1 := (unhide HH).on hbD
  have hwl := h1.bk.mem.len
  obtain ⟨s,hs⟩ : ∃ s,WS[F.ver]? = some s := ⟨_,List.getElem?_eq_getElem (by omega)⟩
  obtain ⟨gW,offW,capW,eW,hrgW,_⟩ := h1.bk.mem.was.spot hs
  rw [hwl] at eW
  obtain ⟨oaF,nF,capF⟩ := s
  have hfea := h1.bk.mem.fea F.ver _ hs
  have h40 := (h1.fro.ver.rel F.ver (Nat.le_refl _)).1.le40
  obtain ⟨nv,hnv⟩ : ∃ nv,F.ver + 1 = nv := ⟨_,rfl⟩
  rw [hnv] at eW
  have SF : ∀ {W : World},BBlk W bb B -> OwnR rSli 69 W B.wv WS -> W.cell? ⟨bb,6,none⟩ = some (.slice (some ⟨gW,offW,none⟩) nv capW) /\ W.cell? ⟨gW,offW + F.ver,none⟩ = some (.slice oaF nF capF) := by
    intro W q1 q2
    refine ⟨by rw [<- eW]; exact q1.cells 6,?_⟩
    obtain ⟨g',off',cap',e',hrg',_⟩ := q2.spot hs
    rw [eW] at e'
    simp only [Value.slice.injEq,Option.some.injEq,Addr.mk.injEq,and_true] at e'
    obtain ⟨⟨rfl,rfl⟩,_⟩ := e'
    have := hrg' 0 _ rfl
    simpa [rSli,Sli.v] using this
  refine wp_region_held (S := fun w' => w'.cell? ⟨bb,6,none⟩ = some (.slice (some ⟨gW,offW,none⟩) nv capW) /\ w'.cell? ⟨gW,offW + F.ver,none⟩ = some (.slice oaF nF capF)) (by kernel_rfl) ?_
  change wpAnyH _ _ _ _ _ _ _ _ (World.drew _)
  have hS := SF h1.bk.blk h1.bk.mem.was
  have VE := version_any bb B nv (World.drew w1) h1.bk.blk (by omega) ⟨_,_,eW⟩
  have EDT := edited_any (.slice oaF nF capF) (F.FLs F.ver) oaL L.length capL (gf L) (World.drew w1) hfea.at.fs hfea.nilOr h40 hcsd hLl
  have hve : ((nv : Int) - 1) = F.ver := by omega
  rw [hve] at VE
  have hvl : (F.ver : Int) < nv := by omega
  have hvn : F.ver < nv := by omega
  have EDE : Calls Tryz.prog 65 #[(.slice oaF nF capF),(.slice oaL L.length capL)] (World.drew w1) fun e w' => ∃ v,e = .returned v /\ (Below (World.drew w1).heap.size (World.drew w1) w' /\ ((∃ FL v',v = .tuple #[v',.bool true] /\ EdK (gf L) (F.FLs F.ver) L.length FL /\ OwnC 86 24 w' (World.drew w1).heap.size v' FL) \/ ∃ k FLk,k < L.length /\ EdK (gf L) (F.FLs F.ver) k FLk /\ EdN (gf L k) FLk /\ v = .tuple #[.slice none 0 0,.bool false])) := by
    refine EDT.mono ?_
    rintro e w' ⟨q,⟨FL,v',rfl,q1,q2⟩ | ⟨k,FLk,q1,q2,q3,rfl⟩⟩
    . exact ⟨_,rfl,q,Or.inl ⟨FL,v',rfl,q1,q2⟩⟩
    . exact ⟨_,rfl,q,Or.inr ⟨k,FLk,q1,q2,q3,rfl⟩⟩
  have HBD := hide hbD
  have HEW := hide eW
  have HB6 := hide h1.bk
  have HCSD := hide hcsd
  clear h1 hrgW hfea hcsd hbD EDT
  generalize World.drew w1 = w2 at *
  refine t_tk 0 rfl (.pointer (some ⟨bb,0,none⟩)) (by kernel_rfl) (fun _ _ _ h => h) rfl (fun w' hw' => by simp [go_sem]) hS ?_
  simp only [Act.put,qA,qB,qC]
  refine t_tk 1 rfl (.pointer (some ⟨bb,0,none⟩)) (by kernel_rfl) (fun _ _ _ h => h) rfl (fun w' hw' => by simp [go_sem]) hS ?_
  simp only [Act.put,qA,qB,qC]
  refine t_tk 2 rfl (.pointer (some ⟨bb,6,none⟩)) (by kernel_rfl) (fun _ _ _ h => h) rfl (fun w' hw' => by simp [go_sem]) hS ?_
  simp only [Act.put,qA,qB,qC]
  refine t_tk 3 rfl ((.slice (some ⟨gW,offW,none⟩) nv capW)) (by kernel_rfl) (fun _ _ _ h => h) rfl (fun w' hw' => by simp [go_sem,hw'.1]) hS ?_
  simp only [Act.put,qA,qB,qC]
  refine t_tk 4 rfl (.pointer (some ⟨bb,0,none⟩)) (by kernel_rfl) (fun _ _ _ h => h) rfl (fun w' hw' => by simp [go_sem]) hS ?_
  simp only [Act.put,qA,qB,qC]
  refine t_tk 8 rfl ((.slice oaL L.length capL)) (by kernel_rfl) (fun _ _ _ h => h) rfl (fun w' hw' => by simp [go_sem]) hS ?_
  simp only [Act.put,qA,qB,qC]
  refine wpAnyH_all (rs := [5]) (by kernel_rfl) (by simp) ?_
  intro i hi
  simp only [List.mem_singleton] at hi
  subst hi
  refine t_call 5 rfl rfl 29 #[.pointer (some ⟨bb,0,none⟩)] (by simp [go_sem]) (.int .i64 F.ver) VE hS ?_
  simp only [Act.put,qA,qB,qC]
  refine t_tk 6 rfl (.pointer (some ⟨gW,offW + F.ver,none⟩)) (by kernel_rfl) (fun _ _ _ h => h) rfl (fun w' hw' => by simp [go_sem,hvl]) hS ?_
  simp only [Act.put,qA,qB,qC]
  refine t_tk 7 rfl ((.slice oaF nF capF)) (by kernel_rfl) (fun _ _ _ h => h) rfl (fun w' hw' => by simp [go_sem,hw'.2]) hS ?_
  simp only [Act.put,qA,qB,qC]
  refine wpAnyH_all (rs := [9]) (by kernel_rfl) (by simp) ?_
  intro i hi
  simp only [List.mem_singleton] at hi
  subst hi
  refine t_callE 9 rfl rfl 65 #[(.slice oaF nF capF),(.slice oaL L.length capL)] (by simp [go_sem]) _ EDE ?_
  rintro v w3 ⟨hb3,hcase⟩
  have hbw3 := (unhide HBD).trans (hb3.mono (unhide HBD).size)
  have h3 := (unhide HH).own (S := fun _ => False) (Frm.of_below hbw3) (fun _ q => q.elim) ((unhide HH).bk.frm (S := fun _ => False) (Frm.of_below hbw3) (fun _ _ q => q)) (fun k hk => Or.inl hk)
  have hS3 := SF h3.bk.blk h3.bk.mem.was
  refine ⟨hS3,?_⟩
  have hcs3 := (unhide HCSD).on hb3
  have WR := Write_any fb _ F (.slice oaL L.length capL) L.length (gf L) w3 h3.fro (unhide HI).ok hcs3 hLl
  have VE3 := version_any bb B nv w3 h3.bk.blk (by omega) ⟨_,_,unhide HEW⟩
  rw [hve] at VE3
  have c0 : w3.cell? ⟨bb,0,none⟩ = some (.pointer (some ⟨fb,0,none⟩)) := by rw [<- h3.bk.num.fb]; exact h3.bk.blk.cells 0
  have hFV := h3.fro.ver
  have HFV := hide hFV
  have HS3 := hide hS3
  have HH3 := hide h3
  have hsz1 : w.heap.size <= w2.heap.size := (unhide HBD).size
  have REF : Hid (∀ w4,Below w3.heap.size w3 w4 -> WrB w0 bb fb F M L w4) := fun w4 hb4 => Or.inl ⟨_,_,_,_,h3.on hb4⟩
  clear h3 hS3 hcs3 hFV hS VE SF HB6 HCSD HBD HCSL HB1 HOL hbw3 EDE
  rcases hcase with ⟨FL,fv,rfl,hE,hoF⟩ | ⟨k,FLk,hk,hE,hN,rfl⟩
  . have hof := hoF.toR
    obtain ⟨oaV,nV,capV,rfl⟩ := hof.sl
    have hofb : ∀ g,Value.ownBlock (.slice oaV nV capV) = some g -> w.heap.size <= g := fun g hg => by have := (World.ownsRow.lt hoF g hg).1; omega
    have HOF := hide hof
    have HOFB := hide hofb
    have HE := hide hE
    clear hoF hof hofb hE hb3
    simp only [Act.put,qA,qB,qC]
    refine t_tk 10 rfl (.tuple #[.slice oaV nV capV,.bool true]) (by kernel_rfl) (fun _ _ _ h => h) rfl (fun w' hw' => by simp [go_sem]) (unhide HS3) ?_
    simp only [Act.put,qA,qB,qC]
    refine t_tk 11 rfl (.slice oaV nV capV) (by kernel_rfl) (fun _ _ _ h => h) rfl (fun w' hw' => by simp [go_sem]) (unhide HS3) ?_
    simp only [Act.put,qA,qB,qC]
    refine t_tk 12 rfl (.bool true) (by kernel_rfl) (fun _ _ _ h => h) rfl (fun w' hw' => by simp [go_sem]) (unhide HS3) ?_
    simp only [Act.put,qA,qB,qC]
    refine t_tk 13 rfl (.slice oaV nV capV) (by kernel_rfl) (fun _ _ _ h => h) rfl (fun w' hw' => by simp [go_sem]) (unhide HS3) ?_
    simp only [Act.put,qA,qB,qC]
    refine t_tk 14 rfl (.bool true) (by kernel_rfl) (fun _ _ _ h => h) rfl (fun w' hw' => by simp [go_sem]) (unhide HS3) ?_
    simp only [Act.put,qA,qB,qC]
    refine wpAnyH_done (by kernel_rfl) ?_ _
    by_cases hm0 : 0 < L.length
    . have hmi : (0 : Int) < (L.length : Int) := by omega
      by_cases h100 : F.ver < 100
      . have h1i : (F.ver : Int) < 100 := by omega
        go_wp2_with fail
        refine VE3.mono ?_
        rintro e w9 ⟨rfl,rfl⟩
        go_wp2_with fail
        refine WR.mono ?_
        rintro e w4 (⟨r,hr,rfl,hb,hc⟩ | ⟨_,_,rfl,hF,LS',hA,hfro⟩)
        . exfalso
          rcases hc with q | q | ⟨k,LSk,LS',q1,q2,q3⟩
          . omega
          . omega
          . exact hr ((unhide HFV).agree (unhide HRT) (unhide HE) q1 q2 q3)
        . obtain ⟨hV2,hN2⟩ := (unhide HFV).next hLl (unhide HRT) hA (unhide HE)
          have hfr := hfro _ hV2
          have h3 := unhide HH3
          have hb4 : Bk w4 bb fb B WS F M := h3.bk.frm hF fun k hk => h3.dj k (h3.foot k hk)
          have hbA : Below w4.heap.size w4 (w4.alloc (.cells #[.slice oaV nV capV] 69)) := (Below.refl w4.heap.size w4).alloc (Nat.le_refl _) (.cells #[.slice oaV nV capV] 69)
          have hat := at_new rSli 69 w4 ⟨oaV,nV,capV⟩ #[.slice oaV nV capV] rfl
          obtain ⟨v5,w5,r1,r2,r3,r4⟩ := apSli (hb4.mem.was.on hbA) hat (by rw [hb4.mem.len]; simp; omega)
          have hF5 : Frm (fun q => B.wv.ownBlock = some q) w4 w5 := (Frm.of_below hbA).then ((Frm.rfl' (fun q => B.wv.ownBlock = some q) _).grown r3 (fun q hq _ => hq)) (fun _ _ q => q)
          rw [unhide HEW] at r1
          obtain ⟨hEnd,hB5,hB6⟩ := h3.written (G := F.write Oz LS' (FL.map nf)) (s := ⟨oaV,nV,capV⟩) hF hfr ⟨rfl,rfl,rfl,rfl,rfl,rfl⟩ rfl (fun i hi => by
            show (if i = F.ver + 1 then FL.map nf else F.FLs i) = _
            rw [if_neg (by omega)]) (by
            show OwnR rF 86 w3 (.slice oaV nV capV) (if F.ver + 1 = F.ver + 1 then FL.map nf else F.FLs (F.ver + 1))
            rw [if_pos rfl]
            exact ownR_nf (unhide HOF)) (fun k hk => Or.inr ⟨unhide HOFB k hk,(unhide HOF).lt hk⟩) r2 hF5 (fun g hg => by
            rcases r4 with r4 | r4
            . exact Or.inl (r4 ▸ hg)
            . right; have := r4 g hg; simp at this; omega)
          have c64 : w4.cell? ⟨bb,6,none⟩ = some (.slice (some ⟨gW,offW,none⟩) nv capW) := by rw [<- unhide HEW]; exact hb4.blk.cells 6
          have c65 : w5.cell? ⟨bb,6,none⟩ = some (.slice (some ⟨gW,offW,none⟩) nv capW) := by rw [<- unhide HEW]; exact hB5.cells 6
          have fz5 := frzB hB5 6
          have hv6 := r2.at
          obtain ⟨oa5,k5,rfl,_,_,_⟩ := hv6
          have hwn : (WS ++ [(⟨oaV,nV,capV⟩ : Sli)]).length = nv + 1 := by rw [List.length_append,hb4.mem.len]; simp; omega
          rw [hwn] at r1 hEnd hB6
          obtain ⟨w6,hw6⟩ : ∃ w6,w5.setCell ⟨bb,6,none⟩ (.slice oa5 (nv + 1) k5) = w6 := ⟨_,rfl⟩
          rw [hw6] at hEnd hB6
          have VE6 := version_any bb _ (nv + 1) w6 hB6 (by omega) ⟨oa5,k5,rfl⟩
          have hve6 : (((nv + 1 : Nat) : Int) - 1) = (F.ver : Int) + 1 := by omega
          rw [hve6] at VE6
          have HQ : Hid (WrB w0 bb fb F M L w6) := Or.inr ⟨LS',FL,h100,hA,unhide HE,hN2,hEnd⟩
          have HW6 := hide hw6
          clear hEnd hB5 hB6 hfr hV2 hN2 hfro hA hF h3 hb4 hbA hat r2 r3 r4 hF5 hw6 hwn hve6 WR VE3
          go_wp2_with (first | refine wlV _ _ (bsSli oaV nV capV _ _ _ rfl rfl _) rfl ?_ | (at_builtin; refine wlR 29 r1 rfl _ _ rfl rfl rfl rfl ?_) | refine wlSk w6 (stS1 _ _ _ _ 29 rfl (fun _ => by simp [go_sem]) bb 6 oa5 (nv + 1) k5 rfl rfl w5 w6 c65 fz5 (unhide HW6)) rfl ?_)
          refine VE6.mono ?_
          rintro e w9 ⟨rfl,rfl⟩
          go_wp2_with fail
          exact bodyPost_end (results_none Tryz.results37 _ _ _) rfl ⟨rfl,by rw [unhide HL]; exact unhide HQ⟩
      . have h1i : ¬ (F.ver : Int) < 100 := by omega
        go_wp2_with fail
        refine VE3.mono ?_
        rintro e w9 ⟨rfl,rfl⟩
        go_wp2_with fail
        refine WR.mono ?_
        rintro e w4 (⟨r,hr,rfl,hb,hc⟩ | ⟨_,q,_⟩)
        . have hr' : (r == 0) = false := by simpa using hr
          have HQ : Hid (WrB w0 bb fb F M L w4) := unhide REF w4 hb
          clear hb hc hr WR
          go_wp2_with fail
          exact bodyPost_end (results_none Tryz.results37 _ _ _) rfl ⟨rfl,by rw [unhide HL]; exact unhide HQ⟩
        . exact absurd q h100
    . have hmi : ¬ (0 : Int) < (L.length : Int) := by omega
      go_wp2_with fail
      refine WR.mono ?_
      rintro e w4 (⟨r,hr,rfl,hb,hc⟩ | ⟨q,_⟩)
      . have hr' : (r == 0) = false := by simpa using hr
        have HQ : Hid (WrB w0 bb fb F M L w4) := unhide REF w4 hb
        clear hb hc hr WR
        go_wp2_with fail
        exact bodyPost_end (results_none Tryz.results37 _ _ _) rfl ⟨rfl,by rw [unhide HL]; exact unhide HQ⟩
      . exact absurd q hm0
  . have HE := hide hE
    have HN := hide hN
    clear hE hN hb3
    simp only [Act.put,qA,qB,qC]
    refine t_tk 10 rfl (.tuple #[.slice none 0 0,.bool false]) (by kernel_rfl) (fun _ _ _ h => h) rfl (fun w' hw' => by simp [go_sem]) (unhide HS3) ?_
    simp only [Act.put,qA,qB,qC]
    refine t_tk 11 rfl (.slice none 0 0) (by kernel_rfl) (fun _ _ _ h => h) rfl (fun w' hw' => by simp [go_sem]) (unhide HS3) ?_
    simp only [Act.put,qA,qB,qC]
    refine t_tk 12 rfl (.bool false) (by kernel_rfl) (fun _ _ _ h => h) rfl (fun w' hw' => by simp [go_sem]) (unhide HS3) ?_
    simp only [Act.put,qA,qB,qC]
    refine t_tk 13 rfl (.slice none 0 0) (by kernel_rfl) (fun _ _ _ h => h) rfl (fun w' hw' => by simp [go_sem]) (unhide HS3) ?_
    simp only [Act.put,qA,qB,qC]
    refine t_tk 14 rfl (.bool false) (by kernel_rfl) (fun _ _ _ h => h) rfl (fun w' hw' => by simp [go_sem]) (unhide HS3) ?_
    simp only [Act.put,qA,qB,qC]
    refine wpAnyH_done (by kernel_rfl) ?_ _
    go_wp2_with fail
    refine WR.mono ?_
    rintro e w4 (⟨r,hr,rfl,hb,hc⟩ | ⟨_,_,rfl,hF,LS',hA,hfro⟩)
    . have hr' : (r == 0) = false := by simpa using hr
      have HQ : Hid (WrB w0 bb fb F M L w4) := unhide REF w4 hb
      clear hb hc hr WR
      go_wp2_with fail
      exact bodyPost_end (results_none Tryz.results37 _ _ _) rfl ⟨rfl,by rw [unhide HL]; exact unhide HQ⟩
    . exact ((unhide HFV).refuse (unhide HRT) hk (unhide HE) (unhide HN) hA).elim
theorem place_ok (l z x y : Int) : KOk ⟨pk l 4,pk z 23,pk x ((2 : Int) ^ (pk z 23).toNat),pk y ((2 : Int) ^ (pk z 23).toNat)⟩ := by
  have h1 := pk_in l (n := 4) (by omega)
  have h2 := pk_in z (n := 23) (by omega)
  have hp : (0 : Int) < (2 : Int) ^ (pk z 23).toNat := Int.pow_pos (by omega)
  have h3 := pk_in x hp
  have h4 := pk_in y hp
  exact ⟨by dsimp only; omega,by dsimp only; omega,h3,h4⟩
theorem Print_key (k : K4) (hk : KOk k) (w : World) (hg : Glb w) : Calls Tryz.prog 16 #[.agg #[.int .i64 k.l,.int .i64 k.z,.int .i64 k.x,.int .i64 k.y]] w fun e w' => (∃ P : ByteArray,e = .returned (.tuple #[.string P,.int .i64 0]) /\ P.data.toList = Dw.printL k.l.toNat k.z.toNat k.x.toNat k.y.toNat /\ P.size <= 5000000000) /\ Below w.heap.size w w' := by
  have h1 := hk.l
  have h2 := hk.z
  obtain ⟨h3,h4⟩ := hk.small
  have hp := hk.perr
  obtain ⟨l,z,x,y⟩ := k
  obtain ⟨l,rfl⟩ : ∃ n : Nat,l = n := ⟨l.toNat,by simp only at h1; omega⟩
  obtain ⟨z,rfl⟩ : ∃ n : Nat,z = n := ⟨z.toNat,by simp only at h2; omega⟩
  obtain ⟨x,rfl⟩ : ∃ n : Nat,x = n := ⟨x.toNat,by simp only at h3; omega⟩
  obtain ⟨y,rfl⟩ : ∃ n : Nat,y = n := ⟨y.toNat,by simp only at h4; omega⟩
  simp only at h1 h2 h3 h4
  have := Dw.print_yes l z x y w (by omega) (by omega) (by omega) (by omega) hp hg.nm hg.tab
  simpa using this
theorem rngP {W : World} {b off : Nat} {A C : List Value} (h : W.rangeAt b off (A ++ C)) : W.rangeAt b off A := fun j v hv => h j v (by rw [List.getElem?_append_left (List.getElem?_eq_some_iff.1 hv).1]; exact hv)
theorem rngT {W : World} {b off : Nat} {a : Value} {C : List Value} (h : W.rangeAt b off (a :: C)) : W.rangeAt b (off + 1) C := fun j v hv => by
  have := h (j + 1) v (by simpa using hv)
  rwa [show off + 1 + j = off + (j + 1) by omega]
set_option maxHeartbeats 12800000 in
theorem given_any (n : Nat) (w0 : Bas) (bb fb : Nat) (F : FM) (M : BM) (kl kz kx ky : Int) (w : World) (h : StE w0 w bb fb F M) (hi : Inv Oz F M) (hbd : Bd n F M) (hn : n <= 1420000000000) :
    Calls Tryz.prog 45 #[.pointer (some ⟨bb,0,none⟩),.agg #[.int .i64 kl,.int .i64 kz,.int .i64 kx,.int .i64 ky]] w fun e w' => (∃ s : ByteArray,e = .returned (.string s)) /\ Below w.heap.size w w' := by
  obtain ⟨Φ,Ψ,B,WS,h⟩ := h
  obtain ⟨s1,s2,_⟩ := hbd.said hi
  obtain ⟨oa9,cap9,e9,_,_,_⟩ := h.bk.mem.say.at
  obtain ⟨oa8,cap8,e8,_,_,_⟩ := h.bk.mem.req.at
  have hA := heap_alloc_new w (.cells #[.int .i64 kl,.int .i64 kz,.int .i64 kx,.int .i64 ky] 39 (0,0))
  have hbl := (Below.refl w.heap.size w).alloc (Nat.le_refl _) (.cells #[.int .i64 kl,.int .i64 kz,.int .i64 kx,.int .i64 ky] 39)
  have HA := hide hA
  have HBL := hide hbl
  have HH := hide h
  have HSAY := hide (show ∀ (j : Nat) (s : Say),M.says[j]? = some s -> 0 <= s.r.who /\ ∃ a,M.reqs[s.r.who.toNat]? = some a from fun j s hs => by
    obtain ⟨q1,_,_,a,q2,_⟩ := hi.bi.say j s hs
    exact ⟨q1,a,q2⟩)
  have HE9 := hide e9
  have HE8 := hide e8
  clear h hi hbd hA hbl e9 e8
  go_enter Tryz.func45,Tryz.ntmps45
  go_wp2_with fail
  go_loopw [5,6,7] (fun s i _ wr => ∃ (k : Nat) (t : ByteArray),k <= M.says.length /\ i = .int .i64 k /\ s = .string t /\ Hid (wr.heap[w.heap.size]? = some (.cells #[.int .i64 kl,.int .i64 kz,.int .i64 kx,.int .i64 ky] 39 (0,0))) /\ Hid (Below w.heap.size w wr)) (fun _ i _ _ => M.says.length - (intOf i).toNat)
  case atStart => exact ⟨0,⟨#[]⟩,by omega,rfl,rfl,hide (unhide HA),hide (unhide HBL)⟩
  case round =>
    obtain ⟨k,t,hk,rfl,rfl,hkey,hb⟩ := hrel
    have hr := (unhide HH).on (unhide hb)
    have c9 : wr.cell? ⟨bb,9,none⟩ = some (.slice oa9 M.says.length cap9) := by rw [<- unhide HE9]; exact hr.bk.blk.cells 9
    by_cases hlt : k < M.says.length
    . have hkn : (k : Int) < M.says.length := by omega
      obtain ⟨⟨⟨who,st,bd,tg⟩,sv,sn,sb⟩,hsk⟩ : ∃ s,M.says[k]? = some s := ⟨_,List.getElem?_eq_getElem hlt⟩
      obtain ⟨q0,a,ha⟩ := unhide HSAY k _ hsk
      simp only at q0 ha
      obtain ⟨wn,rfl⟩ : ∃ wn : Nat,who = wn := ⟨who.toNat,by omega⟩
      simp only [Int.toNat_natCast] at ha
      obtain ⟨at_,⟨al,az,ax,ay⟩,ae,av,an,aw,as'⟩ := a
      have hwl : wn < M.reqs.length := (List.getElem?_eq_some_iff.1 ha).1
      have hwi : (wn : Int) < (M.reqs.length : Int) := by omega
      obtain ⟨g9,off9,cap9',e9',hrg9,_⟩ := hr.bk.mem.say.spot hsk
      rw [unhide HE9] at e9'
      simp only [Value.slice.injEq,true_and] at e9'
      obtain ⟨rfl,rfl⟩ := e9'
      have hrgR : wr.rangeAt g9 (off9 + k * 7) (#[.int .i64 (wn : Int),.int .i64 st,.string bd,.string tg] : Array Value).toList := rngP (C := [.int .i64 sv,.int .i64 sn,.int .i64 sb]) hrg9
      obtain ⟨w1,hw1⟩ : ∃ w1,wr.alloc (.cells (#[.int .i64 0,.int .i64 0,.string ⟨#[]⟩,.string ⟨#[]⟩] : Array Value) 35) = w1 := ⟨_,rfl⟩
      have hb1 : Below wr.heap.size wr w1 := hw1 ▸ (Below.refl wr.heap.size wr).alloc (Nat.le_refl _) (.cells (#[.int .i64 0,.int .i64 0,.string ⟨#[]⟩,.string ⟨#[]⟩] : Array Value) 35)
      have hA1 : w1.heap[wr.heap.size]? = some (.cells (#[.int .i64 0,.int .i64 0,.string ⟨#[]⟩,.string ⟨#[]⟩] : Array Value) 35 (0,0)) := hw1 ▸ heap_alloc_new wr (.cells (#[.int .i64 0,.int .i64 0,.string ⟨#[]⟩,.string ⟨#[]⟩] : Array Value) 35 (0,0))
      have HW1 := hide hw1
      obtain ⟨g5,hg5⟩ : ∃ g5,wr.heap.size = g5 := ⟨_,rfl⟩
      have HAL := hide (show ∀ (ev : Operand -> Value) (o : Oper),o.op = .alloc 35 -> (execOp ev o).run Tryz.prog wr = .ok (.value (.pointer (some ⟨g5,0,none⟩))) w1 from fun ev o q => hg5 ▸ al35 ev o q wr w1 (unhide HW1))
      rw [hg5] at hA1
      obtain ⟨w2,hw2⟩ : ∃ w2,w1.setRow g5 (#[.int .i64 (wn : Int),.int .i64 st,.string bd,.string tg] : Array Value) = w2 := ⟨_,rfl⟩
      have hA2 : w2.heap[g5]? = some (.cells (#[.int .i64 (wn : Int),.int .i64 st,.string bd,.string tg] : Array Value) 35 (0,0)) := hw2 ▸ setRow_heap _ _ _ _ _ _ hA1
      have hb2 : Below wr.heap.size wr w2 := hw2 ▸ below_setRow hb1 (by omega) _
      have HST := hide (show ∀ (ev : Operand -> Value) (o : Oper) (s t : Operand),o.op = .store 35 s t -> ev s = .pointer (some ⟨g5,0,none⟩) -> ev t = .agg (#[.int .i64 (wn : Int),.int .i64 st,.string bd,.string tg] : Array Value) -> (execOp ev o).run Tryz.prog w1 = .ok .skip w2 from fun ev o s t q q1 q2 => hw2 ▸ stR ev o s t 35 q (#[.int .i64 (wn : Int),.int .i64 st,.string bd,.string tg] : Array Value) (#[.int .i64 0,.int .i64 0,.string ⟨#[]⟩,.string ⟨#[]⟩] : Array Value) (sz35 _ _ _ _) (rep_one _ _ _ _) rfl g5 q1 q2 w1 hA1)
      have hBw2 := (unhide hb).trans (hb2.mono (unhide hb).size)
      have hkey2 := blk_on (unhide hkey) hb2
      have h2 := hr.on hb2
      obtain ⟨g8,off8,cap8',e8',hrg8,_⟩ := h2.bk.mem.req.spot ha
      have c82 : w2.cell? ⟨bb,8,none⟩ = some (.slice (some ⟨g8,off8,none⟩) M.reqs.length cap8') := by rw [<- e8']; exact h2.bk.blk.cells 8
      have hrgK : w2.rangeAt g8 (off8 + wn * 10 + 1) (#[.int .i64 al,.int .i64 az,.int .i64 ax,.int .i64 ay] : Array Value).toList := rngP (C := [.int .i64 ae,.int .i64 av,.int .i64 an,.int .i64 aw,.int .i64 as']) (rngT hrg8)
      have hlt8 : g8 < w2.heap.size := h2.bk.mem.req.lt (by rw [e8']; rfl)
      have hltb : bb < w2.heap.size := blk_lt h2.bk.blk
      have hlt5 : g5 < w2.heap.size := blk_lt hA2
      have FA : ∀ W,Below w2.heap.size w2 W -> W.cell? ⟨bb,8,none⟩ = some (.slice (some ⟨g8,off8,none⟩) M.reqs.length cap8') /\ W.rangeAt g8 (off8 + wn * 10 + 1) (#[.int .i64 al,.int .i64 az,.int .i64 ax,.int .i64 ay] : Array Value).toList /\ W.heap[g5]? = some (.cells (#[.int .i64 (wn : Int),.int .i64 st,.string bd,.string tg] : Array Value) 35 (0,0)) /\ W.heap[w.heap.size]? = some (.cells #[.int .i64 kl,.int .i64 kz,.int .i64 kx,.int .i64 ky] 39 (0,0)) := fun W hW => ⟨(hW.cell (p := ⟨bb,8,none⟩) hltb).trans c82,rng_in hrgK hW hlt8,blk_on hA2 hW,blk_on hkey2 hW⟩
      have F1 : ∀ W,Below w2.heap.size w2 W -> W.cell? ⟨g5,1,none⟩ = some (.int .i64 st) := fun W hW => (blk_cells (FA W hW).2.2.1 1).trans rfl
      have F0 : ∀ W,Below w2.heap.size w2 W -> W.cell? ⟨g5,0,none⟩ = some (.int .i64 wn) := fun W hW => (blk_cells (FA W hW).2.2.1 0).trans rfl
      have HFA := hide FA
      have HBW2 := hide hBw2
      clear hr hrg9 hb1 hA1 hw1 hw2 hA2 hb2 h2 e8' hrg8 hrgK hkey2 hBw2 HW1 hb hkey c82
      go_wp2_with (first | refine ldG 35 (#[.int .i64 (wn : Int),.int .i64 st,.string bd,.string tg] : Array Value) Tryz.underlying35 rfl (sz35 _ _ _ _) g9 (off9 + k * 7) hrgR rfl _ rfl rfl ?_ | refine wlV _ _ (unhide HAL _ _ rfl) rfl ?_ | refine wlSk _ (unhide HST _ _ _ _ rfl rfl rfl) rfl ?_)
      by_cases hst : st = 200
      . subst hst
        refine region_bq (by kernel_rfl) (by kernel_rfl) ?_
        refine q_val (by kernel_rfl) (.pointer (some ⟨g5,1,none⟩)) (fun w' hw' => by simp [go_sem]) ?_
        simp only [Act.put,qA,qB,qC]
        refine q_val (by kernel_rfl) (.int .i64 200) (fun w' hw' => by simp [go_sem,F1 w' hw']) ?_
        simp only [Act.put,qA,qB,qC]
        refine q_val (by kernel_rfl) (.bool true) (fun w' hw' => by simp [go_sem]) ?_
        simp only [Act.put,qA,qB,qC]
        refine q_move (by kernel_rfl) _ rfl (.bool true) rfl ?_
        simp only [Act.put,qA,qB,qC]
        refine q_move (by kernel_rfl) _ rfl (.pointer (some ⟨bb,0,none⟩)) rfl ?_
        simp only [Act.put,qA,qB,qC]
        refine q_val (by kernel_rfl) (.pointer (some ⟨bb,0,none⟩)) (fun w' hw' => by simp [go_sem]) ?_
        simp only [Act.put,qA,qB,qC]
        refine q_val (by kernel_rfl) (.pointer (some ⟨bb,8,none⟩)) (fun w' hw' => by simp [go_sem]) ?_
        simp only [Act.put,qA,qB,qC]
        refine q_val (by kernel_rfl) ((.slice (some ⟨g8,off8,none⟩) M.reqs.length cap8')) (fun w' hw' => by simp [go_sem,(FA w' hw').1]) ?_
        simp only [Act.put,qA,qB,qC]
        refine q_val (by kernel_rfl) (.pointer (some ⟨g5,0,none⟩)) (fun w' hw' => by simp [go_sem]) ?_
        simp only [Act.put,qA,qB,qC]
        refine q_val (by kernel_rfl) (.int .i64 wn) (fun w' hw' => by simp [go_sem,F0 w' hw']) ?_
        simp only [Act.put,qA,qB,qC]
        refine q_val (by kernel_rfl) (.pointer (some ⟨g8,off8 + wn * 10,none⟩)) (fun w' hw' => by simp [go_sem,hwi]) ?_
        simp only [Act.put,qA,qB,qC]
        refine q_val (by kernel_rfl) (.pointer (some ⟨g8,off8 + wn * 10 + 1,none⟩)) (fun w' hw' => by simp [go_sem]) ?_
        simp only [Act.put,qA,qB,qC]
        refine q_load (by kernel_rfl) 39 _ rfl (g8) (off8 + wn * 10 + 1) rfl (#[.int .i64 al,.int .i64 az,.int .i64 ax,.int .i64 ay]) _ Tryz.underlying39 rfl (sz39 _ _ _ _) (fun W hW => (FA W hW).2.1) ?_
        simp only [Act.put,qA,qB,qC]
        refine q_load (by kernel_rfl) 39 _ rfl (w.heap.size) (0) rfl (#[.int .i64 kl,.int .i64 kz,.int .i64 kx,.int .i64 ky]) _ Tryz.underlying39 rfl (sz39 _ _ _ _) (fun W hW => rng_blk (FA W hW).2.2.2) ?_
        simp only [Act.put,qA,qB,qC]
        refine q_val (by kernel_rfl) (.bool (decide ((⟨al,az,ax,ay⟩ : K4) = ⟨kl,kz,kx,ky⟩))) (fun w' hw' => by simp [go_sem,eql39]) ?_
        simp only [Act.put,qA,qB,qC]
        refine q_val (by kernel_rfl) (.bool (decide ((⟨al,az,ax,ay⟩ : K4) = ⟨kl,kz,kx,ky⟩))) (fun w' hw' => by simp [go_sem]) ?_
        simp only [Act.put,qA,qB,qC]
        refine wpQuiet_nil ?_
        intro w3 hw3
        obtain ⟨f1,f2,f3,f4⟩ := unhide HFA w3 hw3
        have c53 : w3.cell? ⟨g5,3,none⟩ = some (.string tg) := (blk_cells f3 3).trans rfl
        have HB3 := hide ((unhide HBW2).trans (hw3.mono (unhide HBW2).size))
        have HK3 := hide f4
        clear f1 f2 f3 f4 HFA FA F1 F0 hw3 HST HAL
        by_cases he : (⟨al,az,ax,ay⟩ : K4) = ⟨kl,kz,kx,ky⟩
        . have hde : decide ((⟨al,az,ax,ay⟩ : K4) = ⟨kl,kz,kx,ky⟩) = true := by simp [he]
          clear he
          simp only [hde]
          go_wp2_with fail
          go_roundw
          case rel => exact ⟨k + 1,tg,by omega,by go_num,rfl,hide (unhide HK3),hide (unhide HB3)⟩
          case measure => simp [intOf]; omega
        . have hde : decide ((⟨al,az,ax,ay⟩ : K4) = ⟨kl,kz,kx,ky⟩) = false := by simp [he]
          clear he
          simp only [hde]
          go_wp2_with fail
          go_roundw
          case rel => exact ⟨k + 1,t,by omega,by go_num,rfl,hide (unhide HK3),hide (unhide HB3)⟩
          case measure => simp [intOf]; omega
      . have hst' : (st == 200) = false := by simpa using hst
        have c51 := F1 w2 (Below.refl _ _)
        go_quiet (fail)
        obtain ⟨w3,hd,hw3⟩ : ∃ W,w2.drewN nq = W /\ Below w2.heap.size w2 W := ⟨_,rfl,dnB w2 nq⟩
        rw [hd]
        clear hd c51
        obtain ⟨f1,f2,f3,f4⟩ := unhide HFA w3 hw3
        have HB3 := hide ((unhide HBW2).trans (hw3.mono (unhide HBW2).size))
        have HK3 := hide f4
        clear f1 f2 f3 f4 HFA FA F1 F0 hw3 HST HAL
        go_wp2_with fail
        go_roundw
        case rel => exact ⟨k + 1,t,by omega,by go_num,rfl,hide (unhide HK3),hide (unhide HB3)⟩
        case measure => simp [intOf]; omega
    . have hkn : ¬ (k : Int) < M.says.length := by omega
      have hkl : k = M.says.length := by omega
      have HQ : Hid ((∃ s : ByteArray,Ending.returned (.string t) = .returned (.string s)) /\ Below w.heap.size w wr) := ⟨⟨t,rfl⟩,unhide hb⟩
      clear hr hb hkey
      subst hkl
      go_wp2_with fail
      go_ret
      exact unhide HQ
def newF (q wt ch ca n : Nat) : FM := ⟨q,wt,ch,ca,0,0,0,0,[],fun _ => [],[],[],[],List.replicate n none,[]⟩
def newB : BM := ⟨[],[],0,0⟩
theorem fls_new (q wt ch ca n : Nat) : (newF q wt ch ca n).fls = [] := by
  unfold FM.fls newF
  simp only
  induction n with
  | zero => rfl
  | succ n ih => rw [List.replicate_succ]; exact ih
theorem fver_new : FVer [] 0 (fun _ => []) := ⟨fun v hv => by
  obtain rfl : v = 0 := by omega
  exact ⟨relV_nil,fun f hf => by simp at hf⟩,rel_nil,fun i hi => by simp at hi,by simp⟩
theorem inv_new {q wt ch ca n : Nat} (hq : 1 <= q /\ q <= 8) (hw : 1 <= wt /\ wt <= 50) (hc : 1 <= ch /\ ch <= 8) (hr : ca <= 2000) (hn : 1 <= n /\ n <= 4) : Inv Oz (newF q wt ch ca n) newB := by
  have hf := fls_new q wt ch ca n
  refine ⟨⟨hq,hw,hc,hr,by show 1 <= (List.replicate n none).length /\ (List.replicate n none).length <= 4; simpa using hn,by show 0 <= 100; omega,by show 0 <= q; omega,(fun r hr => by cases hr),List.Pairwise.nil,(fun r hr => by cases hr),(fun b hb => by cases hb),?_,(fun f hf' => by rw [hf] at hf'; cases hf'),?_,by rw [hf]; exact Nat.zero_le _,hi_of (fver_new.rel),by show 0 <= ca; omega,(fun t ht => by cases ht),List.nodup_nil⟩,rfl,rfl,rfl,⟨fun j s hs => by simp [newB] at hs,fun i a ha => by simp [newB] at ha⟩,fun i a ha => by simp [newB] at ha,by show ((0 : Nat) : Int) + ((0 : Nat) : Int) <= 0; omega⟩
  . rw [hf]; exact List.nodup_nil
  . rw [hf]; exact List.Perm.refl _
theorem bd_new (q wt ch ca n : Nat) : Bd 0 (newF q wt ch ca n) newB := ⟨Nat.le_refl _,Nat.le_refl _,by show (0 : Int) <= ((0 : Nat) : Int); omega,rfl⟩
theorem isWithin_yes (n a b : Int) (w : World) (h1 : a <= n) (h2 : n <= b) : Calls Tryz.prog 104 #[.int .i64 n,.int .i64 a,.int .i64 b] w fun e w' => e = .returned (.bool true) /\ w = w' := by
  go_enter Tryz.func104,Tryz.ntmps104
  go_wp2_with fail
  go_ret
  exact ⟨rfl,rfl⟩
theorem sz23 (a b c d e : Int) : (Tryz.prog.info? 23).map (·.size) = some (#[Value.int .i64 a,Value.int .i64 b,Value.int .i64 c,Value.int .i64 d,Value.int .i64 e] : Array Value).size := by kernel_rfl
theorem cfg_one (a b c d e : Int) : (#[Value.int .i64 a,Value.int .i64 b,Value.int .i64 c,Value.int .i64 d,Value.int .i64 e] : Array Value).all (·.oneCell') = true := by simp [Value.oneCell']
theorem isRight_yes (q wk wt ca ch : Int) (w : World) (hq : 1 <= q /\ q <= 8) (hw : 1 <= wk /\ wk <= 4) (ht : 1 <= wt /\ wt <= 50) (hc : 0 <= ca /\ ca <= 2000) (hh : 1 <= ch /\ ch <= 8) :
    Calls Tryz.prog 69 #[.agg #[.int .i64 q,.int .i64 wk,.int .i64 wt,.int .i64 ca,.int .i64 ch]] w fun e w' => e = .returned (.bool true) /\ Below w.heap.size w w' := by
  have hA := heap_alloc_new w (.cells #[.int .i64 q,.int .i64 wk,.int .i64 wt,.int .i64 ca,.int .i64 ch] 23 (0,0))
  have hbl := (Below.refl w.heap.size w).alloc (Nat.le_refl _) (.cells #[.int .i64 q,.int .i64 wk,.int .i64 wt,.int .i64 ca,.int .i64 ch] 23)
  have c0 := (blk_cells hA 0).trans rfl
  have c1 := (blk_cells hA 1).trans rfl
  have c2 := (blk_cells hA 2).trans rfl
  have c3 := (blk_cells hA 3).trans rfl
  have c4 := (blk_cells hA 4).trans rfl
  have HBL := hide hbl
  clear hA hbl
  go_enter Tryz.func69,Tryz.ntmps69
  go_wp2_with fail
  refine (isWithin_yes q 1 8 _ hq.1 hq.2).mono ?_
  rintro e w1 ⟨rfl,rfl⟩
  go_wp2_with fail
  refine (isWithin_yes wk 1 4 _ hw.1 hw.2).mono ?_
  rintro e w1 ⟨rfl,rfl⟩
  go_wp2_with fail
  refine (isWithin_yes wt 1 50 _ ht.1 ht.2).mono ?_
  rintro e w1 ⟨rfl,rfl⟩
  go_wp2_with fail
  refine (isWithin_yes ca 0 2000 _ hc.1 hc.2).mono ?_
  rintro e w1 ⟨rfl,rfl⟩
  go_wp2_with fail
  refine (isWithin_yes ch 1 8 _ hh.1 hh.2).mono ?_
  rintro e w1 ⟨rfl,rfl⟩
  go_wp2_with fail
  go_ret
  exact ⟨rfl,unhide HBL⟩
theorem built23 (a b c d e : Int) : Tryz.prog.built 23 [(0,.int .i64 a),(1,.int .i64 b),(2,.int .i64 c),(3,.int .i64 d),(4,.int .i64 e)] = some #[.int .i64 a,.int .i64 b,.int .i64 c,.int .i64 d,.int .i64 e] := by kernel_rfl
theorem bt23 (a b c d e : Int) (ev : Operand -> Value) (o : Oper) (p0 p1 p2 p3 p4 : Operand) (ho : o.op = .build 23 #[(0,p0),(1,p1),(2,p2),(3,p3),(4,p4)]) (h0 : ev p0 = .int .i64 a) (h1 : ev p1 = .int .i64 b) (h2 : ev p2 = .int .i64 c) (h3 : ev p3 = .int .i64 d) (h4 : ev p4 = .int .i64 e) (w : World) : (execOp ev o).run Tryz.prog w = .ok (.value (.agg #[.int .i64 a,.int .i64 b,.int .i64 c,.int .i64 d,.int .i64 e])) w := by
  have hb := run_build (P := Tryz.prog) w 23 #[(0,.int .i64 a),(1,.int .i64 b),(2,.int .i64 c),(3,.int .i64 d),(4,.int .i64 e)] _ (built23 a b c d e)
  unfold execOp
  simp [ho,h0,h1,h2,h3,h4,hb]
set_option maxHeartbeats 6400000 in
theorem config_any (q wk wt ca ch : Int) (w : World) (rq : -9223372036854775808 <= q /\ q <= 9223372036854775807) (rwk : -9223372036854775808 <= wk /\ wk <= 9223372036854775807) (rwt : -9223372036854775808 <= wt /\ wt <= 9223372036854775807) (rca : -9223372036854775808 <= ca /\ ca <= 9223372036854775807) (rch : -9223372036854775808 <= ch /\ ch <= 9223372036854775807) :
    Calls Tryz.prog 43 #[.agg #[.int .i64 q,.int .i64 wk,.int .i64 wt,.int .i64 ca,.int .i64 ch]] w fun e w' => e = .returned (.agg #[.int .i64 (1 + pk q 8),.int .i64 (1 + pk wk 4),.int .i64 (1 + pk wt 50),.int .i64 (pk ca 2001),.int .i64 (1 + pk ch 8)]) /\ Below w.heap.size w w' := by
  have K0 := fun W => pick_any q 8 W rq (by omega)
  have K1 := fun W => pick_any wk 4 W rwk (by omega)
  have K2 := fun W => pick_any wt 50 W rwt (by omega)
  have K3 := fun W => pick_any ca 2001 W rca (by omega)
  have K4 := fun W => pick_any ch 8 W rch (by omega)
  have b0 := pk_in q (n := 8) (by omega)
  have b1 := pk_in wk (n := 4) (by omega)
  have b2 := pk_in wt (n := 50) (by omega)
  have b4 := pk_in ch (n := 8) (by omega)
  generalize pk q 8 = Q at K0 b0
  generalize pk wk 4 = K at K1 b1
  generalize pk wt 50 = T at K2 b2
  generalize pk ca 2001 = C at K3
  generalize pk ch 8 = H at K4 b4
  obtain ⟨t1,t2,t3⟩ := two_blocks w (.cells #[.int .i64 q,.int .i64 wk,.int .i64 wt,.int .i64 ca,.int .i64 ch] 23 (0,0)) (.cells #[.int .i64 0,.int .i64 0,.int .i64 0,.int .i64 0,.int .i64 0] 23 (0,0))
  have HZ := hide t2
  have HB := hide t3
  have v0 : IntKind.i64.wrap (1 + Q) = 1 + Q := i64_of _ (by omega)
  have v1 : IntKind.i64.wrap (1 + K) = 1 + K := i64_of _ (by omega)
  have v2 : IntKind.i64.wrap (1 + T) = 1 + T := i64_of _ (by omega)
  have v4 : IntKind.i64.wrap (1 + H) = 1 + H := i64_of _ (by omega)
  clear t2 t3 rq rwk rwt rca rch
  go_enter Tryz.func43,Tryz.ntmps43
  go_wp2_with fail
  refine wp_region_held (S := fun w' => w'.heap[w.heap.size]? = some (.cells #[.int .i64 q,.int .i64 wk,.int .i64 wt,.int .i64 ca,.int .i64 ch] 23 (0,0))) (by kernel_rfl) ?_
  change wpAnyH _ _ _ _ _ _ _ _ (World.drew _)
  have hS : (World.drew ((w.alloc (.cells #[.int .i64 q,.int .i64 wk,.int .i64 wt,.int .i64 ca,.int .i64 ch] 23)).alloc (.cells #[.int .i64 0,.int .i64 0,.int .i64 0,.int .i64 0,.int .i64 0] 23))).heap[w.heap.size]? = some (.cells #[.int .i64 q,.int .i64 wk,.int .i64 wt,.int .i64 ca,.int .i64 ch] 23 (0,0)) := t1
  have hZ : (World.drew ((w.alloc (.cells #[.int .i64 q,.int .i64 wk,.int .i64 wt,.int .i64 ca,.int .i64 ch] 23)).alloc (.cells #[.int .i64 0,.int .i64 0,.int .i64 0,.int .i64 0,.int .i64 0] 23))).heap[w.heap.size + 1]? = some (.cells #[.int .i64 0,.int .i64 0,.int .i64 0,.int .i64 0,.int .i64 0] 23 (0,0)) := unhide HZ
  have hB : Below w.heap.size w (World.drew ((w.alloc (.cells #[.int .i64 q,.int .i64 wk,.int .i64 wt,.int .i64 ca,.int .i64 ch] 23)).alloc (.cells #[.int .i64 0,.int .i64 0,.int .i64 0,.int .i64 0,.int .i64 0] 23))) := Below.drew (unhide HB)
  generalize World.drew ((w.alloc (.cells #[.int .i64 q,.int .i64 wk,.int .i64 wt,.int .i64 ca,.int .i64 ch] 23)).alloc (.cells #[.int .i64 0,.int .i64 0,.int .i64 0,.int .i64 0,.int .i64 0] 23)) = w1 at hS hZ hB ⊢
  have HS2 := (setRow_other (w := w1) (show w.heap.size + 1 ≠ w.heap.size by omega) #[.int .i64 (1 + Q),.int .i64 (1 + K),.int .i64 (1 + T),.int .i64 C,.int .i64 (1 + H)]).trans hS
  have HZ2 := setRow_heap _ _ _ #[.int .i64 (1 + Q),.int .i64 (1 + K),.int .i64 (1 + T),.int .i64 C,.int .i64 (1 + H)] _ _ hZ
  have HB2 := below_setRow hB (show w.heap.size <= w.heap.size + 1 by omega) #[.int .i64 (1 + Q),.int .i64 (1 + K),.int .i64 (1 + T),.int .i64 C,.int .i64 (1 + H)]
  refine t_tk 0 rfl (.pointer (some ⟨w.heap.size,0,none⟩)) (by kernel_rfl) (fun _ _ _ h => h) rfl (fun w' hw' => by simp [go_sem]) hS ?_
  simp only [Act.put,qA,qB,qC]
  refine t_tk 1 rfl (.int .i64 q) (by kernel_rfl) (fun _ _ _ h => h) rfl (fun w' hw' => by simp [go_sem,blk_cells hw']) hS ?_
  simp only [Act.put,qA,qB,qC]
  refine t_tk 4 rfl (.pointer (some ⟨w.heap.size,1,none⟩)) (by kernel_rfl) (fun _ _ _ h => h) rfl (fun w' hw' => by simp [go_sem]) hS ?_
  simp only [Act.put,qA,qB,qC]
  refine t_tk 5 rfl (.int .i64 wk) (by kernel_rfl) (fun _ _ _ h => h) rfl (fun w' hw' => by simp [go_sem,blk_cells hw']) hS ?_
  simp only [Act.put,qA,qB,qC]
  refine t_tk 8 rfl (.pointer (some ⟨w.heap.size,2,none⟩)) (by kernel_rfl) (fun _ _ _ h => h) rfl (fun w' hw' => by simp [go_sem]) hS ?_
  simp only [Act.put,qA,qB,qC]
  refine t_tk 9 rfl (.int .i64 wt) (by kernel_rfl) (fun _ _ _ h => h) rfl (fun w' hw' => by simp [go_sem,blk_cells hw']) hS ?_
  simp only [Act.put,qA,qB,qC]
  refine t_tk 12 rfl (.pointer (some ⟨w.heap.size,3,none⟩)) (by kernel_rfl) (fun _ _ _ h => h) rfl (fun w' hw' => by simp [go_sem]) hS ?_
  simp only [Act.put,qA,qB,qC]
  refine t_tk 13 rfl (.int .i64 ca) (by kernel_rfl) (fun _ _ _ h => h) rfl (fun w' hw' => by simp [go_sem,blk_cells hw']) hS ?_
  simp only [Act.put,qA,qB,qC]
  refine t_tk 15 rfl (.pointer (some ⟨w.heap.size,4,none⟩)) (by kernel_rfl) (fun _ _ _ h => h) rfl (fun w' hw' => by simp [go_sem]) hS ?_
  simp only [Act.put,qA,qB,qC]
  refine t_tk 16 rfl (.int .i64 ch) (by kernel_rfl) (fun _ _ _ h => h) rfl (fun w' hw' => by simp [go_sem,blk_cells hw']) hS ?_
  simp only [Act.put,qA,qB,qC]
  refine wpAnyH_all (rs := [2]) (by kernel_rfl) (by simp) ?_
  intro i hi
  simp only [List.mem_singleton] at hi
  subst hi
  refine t_call 2 rfl rfl 31 #[.int .i64 q,.int .i64 8] (by simp [go_sem]) (.int .i64 Q) (K0 _) hS ?_
  simp only [Act.put,qA,qB,qC]
  refine t_tk 3 rfl (.int .i64 (1 + Q)) (by kernel_rfl) (fun _ _ _ h => h) rfl (fun w' hw' => by simp [go_sem,v0]) hS ?_
  simp only [Act.put,qA,qB,qC]
  refine wpAnyH_all (rs := [6]) (by kernel_rfl) (by simp) ?_
  intro i hi
  simp only [List.mem_singleton] at hi
  subst hi
  refine t_call 6 rfl rfl 31 #[.int .i64 wk,.int .i64 4] (by simp [go_sem]) (.int .i64 K) (K1 _) hS ?_
  simp only [Act.put,qA,qB,qC]
  refine t_tk 7 rfl (.int .i64 (1 + K)) (by kernel_rfl) (fun _ _ _ h => h) rfl (fun w' hw' => by simp [go_sem,v1]) hS ?_
  simp only [Act.put,qA,qB,qC]
  refine wpAnyH_all (rs := [10]) (by kernel_rfl) (by simp) ?_
  intro i hi
  simp only [List.mem_singleton] at hi
  subst hi
  refine t_call 10 rfl rfl 31 #[.int .i64 wt,.int .i64 50] (by simp [go_sem]) (.int .i64 T) (K2 _) hS ?_
  simp only [Act.put,qA,qB,qC]
  refine t_tk 11 rfl (.int .i64 (1 + T)) (by kernel_rfl) (fun _ _ _ h => h) rfl (fun w' hw' => by simp [go_sem,v2]) hS ?_
  simp only [Act.put,qA,qB,qC]
  refine wpAnyH_all (rs := [14]) (by kernel_rfl) (by simp) ?_
  intro i hi
  simp only [List.mem_singleton] at hi
  subst hi
  refine t_call 14 rfl rfl 31 #[.int .i64 ca,.int .i64 2001] (by simp [go_sem]) (.int .i64 C) (K3 _) hS ?_
  simp only [Act.put,qA,qB,qC]
  refine wpAnyH_all (rs := [17]) (by kernel_rfl) (by simp) ?_
  intro i hi
  simp only [List.mem_singleton] at hi
  subst hi
  refine t_call 17 rfl rfl 31 #[.int .i64 ch,.int .i64 8] (by simp [go_sem]) (.int .i64 H) (K4 _) hS ?_
  simp only [Act.put,qA,qB,qC]
  refine t_tk 18 rfl (.int .i64 (1 + H)) (by kernel_rfl) (fun _ _ _ h => h) rfl (fun w' hw' => by simp [go_sem,v4]) hS ?_
  simp only [Act.put,qA,qB,qC]
  refine t_tk 19 rfl (.agg #[.int .i64 (1 + Q),.int .i64 (1 + K),.int .i64 (1 + T),.int .i64 C,.int .i64 (1 + H)]) (by kernel_rfl) (fun _ _ _ h => h) rfl (fun w' _ => bt23 (1 + Q) (1 + K) (1 + T) C (1 + H) _ _ _ _ _ _ _ rfl rfl rfl rfl rfl rfl w') hS ?_
  simp only [Act.put,qA,qB,qC]
  refine wpAnyH_all (rs := [20]) (by kernel_rfl) (by simp) ?_
  intro i hi
  simp only [List.mem_singleton] at hi
  subst hi
  refine t_skip 20 rfl rfl (w1.setRow (w.heap.size + 1) #[.int .i64 (1 + Q),.int .i64 (1 + K),.int .i64 (1 + T),.int .i64 C,.int .i64 (1 + H)]) (stR _ _ _ _ 23 rfl #[.int .i64 (1 + Q),.int .i64 (1 + K),.int .i64 (1 + T),.int .i64 C,.int .i64 (1 + H)] #[.int .i64 0,.int .i64 0,.int .i64 0,.int .i64 0,.int .i64 0] (sz23 _ _ _ _ _) (cfg_one _ _ _ _ _) rfl (w.heap.size + 1) rfl rfl w1 hZ) (HS2) ?_
  simp only [Act.put]
  refine wpAnyH_done (by kernel_rfl) ?_ _
  go_wp2_with fail
  refine bodyPost_ret (v := .agg #[.int .i64 (1 + Q),.int .i64 (1 + K),.int .i64 (1 + T),.int .i64 C,.int .i64 (1 + H)]) (results_cell_row Tryz.results43 _ _ (w.heap.size + 1) 23 _ (0,0) _ rfl HZ2 Tryz.underlying23 rfl (sz23 _ _ _ _ _)) rfl ⟨rfl,HB2⟩
theorem mk94_1 (ev : Operand -> Value) (o : Oper) (x : Operand) (ho : o.op = .makeSlice 94 x x) (hx : ev x = .int .i64 1) (w : World) : (execOp ev o).run Tryz.prog w = .ok (.value (.slice (some ⟨w.heap.size,0,none⟩) 1 1)) (w.alloc (.cells (Array.replicate 1 (.pointer none)) 100)) := by
  unfold execOp
  simp only [ho]
  simp only [hx]
  kernel_rfl
theorem mk94_2 (ev : Operand -> Value) (o : Oper) (x : Operand) (ho : o.op = .makeSlice 94 x x) (hx : ev x = .int .i64 2) (w : World) : (execOp ev o).run Tryz.prog w = .ok (.value (.slice (some ⟨w.heap.size,0,none⟩) 2 2)) (w.alloc (.cells (Array.replicate 2 (.pointer none)) 100)) := by
  unfold execOp
  simp only [ho]
  simp only [hx]
  kernel_rfl
theorem mk94_3 (ev : Operand -> Value) (o : Oper) (x : Operand) (ho : o.op = .makeSlice 94 x x) (hx : ev x = .int .i64 3) (w : World) : (execOp ev o).run Tryz.prog w = .ok (.value (.slice (some ⟨w.heap.size,0,none⟩) 3 3)) (w.alloc (.cells (Array.replicate 3 (.pointer none)) 100)) := by
  unfold execOp
  simp only [ho]
  simp only [hx]
  kernel_rfl
theorem mk94_4 (ev : Operand -> Value) (o : Oper) (x : Operand) (ho : o.op = .makeSlice 94 x x) (hx : ev x = .int .i64 4) (w : World) : (execOp ev o).run Tryz.prog w = .ok (.value (.slice (some ⟨w.heap.size,0,none⟩) 4 4)) (w.alloc (.cells (Array.replicate 4 (.pointer none)) 100)) := by
  unfold execOp
  simp only [ho]
  simp only [hx]
  kernel_rfl
theorem mk94 (n : Nat) (hn : 1 <= n /\ n <= 4) (ev : Operand -> Value) (o : Oper) (x : Operand) (ho : o.op = .makeSlice 94 x x) (hx : ev x = .int .i64 n) (w : World) : (execOp ev o).run Tryz.prog w = .ok (.value (.slice (some ⟨w.heap.size,0,none⟩) n n)) (w.alloc (.cells (Array.replicate n (.pointer none)) 100)) := by
  have h : n = 1 \/ n = 2 \/ n = 3 \/ n = 4 := by omega
  rcases h with rfl | rfl | rfl | rfl
  . exact mk94_1 ev o x ho hx w
  . exact mk94_2 ev o x ho hx w
  . exact mk94_3 ev o x ho hx w
  . exact mk94_4 ev o x ho hx w
theorem built97 (c : Int) : Tryz.prog.built 97 [(0,.int .i64 c)] = some #[.int .i64 c,.slice none 0 0] := by kernel_rfl
theorem bt97 (c : Int) (ev : Operand -> Value) (o : Oper) (p0 : Operand) (ho : o.op = .build 97 #[(0,p0)]) (h0 : ev p0 = .int .i64 c) (w : World) : (execOp ev o).run Tryz.prog w = .ok (.value (.agg #[.int .i64 c,.slice none 0 0])) w := by
  have hb := run_build (P := Tryz.prog) w 97 #[(0,.int .i64 c)] _ (built97 c)
  unfold execOp
  simp [ho,h0,hb]
theorem built99 (q wt ch ca : Int) (sb kb n : Nat) : Tryz.prog.built 99 [(0,.int .i64 q),(1,.int .i64 wt),(2,.int .i64 ch),(6,.pointer (some ⟨sb,0,none⟩)),(9,.slice (some ⟨kb,0,none⟩) n n),(10,.agg #[.int .i64 ca,.slice none 0 0])] = some #[.int .i64 q,.int .i64 wt,.int .i64 ch,.int .i64 0,.int .i64 0,.int .i64 0,.pointer (some ⟨sb,0,none⟩),.slice none 0 0,.slice none 0 0,.slice (some ⟨kb,0,none⟩) n n,.int .i64 ca,.slice none 0 0] := by kernel_rfl
theorem bt99 (q wt ch ca : Int) (sb kb n : Nat) (ev : Operand -> Value) (o : Oper) (p0 p1 p2 p3 p4 p5 : Operand) (ho : o.op = .build 99 #[(0,p0),(1,p1),(2,p2),(6,p3),(9,p4),(10,p5)]) (h0 : ev p0 = .int .i64 q) (h1 : ev p1 = .int .i64 wt) (h2 : ev p2 = .int .i64 ch) (h3 : ev p3 = .pointer (some ⟨sb,0,none⟩)) (h4 : ev p4 = .slice (some ⟨kb,0,none⟩) n n) (h5 : ev p5 = .agg #[.int .i64 ca,.slice none 0 0]) (w : World) : (execOp ev o).run Tryz.prog w = .ok (.value (.agg #[.int .i64 q,.int .i64 wt,.int .i64 ch,.int .i64 0,.int .i64 0,.int .i64 0,.pointer (some ⟨sb,0,none⟩),.slice none 0 0,.slice none 0 0,.slice (some ⟨kb,0,none⟩) n n,.int .i64 ca,.slice none 0 0])) w := by
  have hb := run_build (P := Tryz.prog) w 99 #[(0,.int .i64 q),(1,.int .i64 wt),(2,.int .i64 ch),(6,.pointer (some ⟨sb,0,none⟩)),(9,.slice (some ⟨kb,0,none⟩) n n),(10,.agg #[.int .i64 ca,.slice none 0 0])] _ (built99 q wt ch ca sb kb n)
  unfold execOp
  simp [ho,h0,h1,h2,h3,h4,h5,hb]
theorem bx99 (q wt ch ca : Int) (sb kb n : Nat) (ev : Operand -> Value) (o : Oper) (x : Operand) (ho : o.op = .box 99 x) (hx : ev x = .agg #[.int .i64 q,.int .i64 wt,.int .i64 ch,.int .i64 0,.int .i64 0,.int .i64 0,.pointer (some ⟨sb,0,none⟩),.slice none 0 0,.slice none 0 0,.slice (some ⟨kb,0,none⟩) n n,.int .i64 ca,.slice none 0 0]) (w : World) : (execOp ev o).run Tryz.prog w = .ok (.value (.pointer (some ⟨w.heap.size,0,none⟩))) (w.alloc (.cells #[.int .i64 q,.int .i64 wt,.int .i64 ch,.int .i64 0,.int .i64 0,.int .i64 0,.pointer (some ⟨sb,0,none⟩),.slice none 0 0,.slice none 0 0,.slice (some ⟨kb,0,none⟩) n n,.int .i64 ca,.slice none 0 0] 99)) := by
  unfold execOp
  simp only [ho,hx]
  kernel_rfl
theorem fro_new {w : World} {fb sb kb q wt ch ca n : Nat} (hf : w.heap[fb]? = some (.cells #[.int .i64 (q : Int),.int .i64 (wt : Int),.int .i64 (ch : Int),.int .i64 0,.int .i64 0,.int .i64 0,.pointer (some ⟨sb,0,none⟩),.slice none 0 0,.slice none 0 0,.slice (some ⟨kb,0,none⟩) n n,.int .i64 (ca : Int),.slice none 0 0] 99 (0,0))) (hs : w.heap[sb]? = some (.cells #[.int .i64 0,.int .i64 0,.slice none 0 0,.slice none 0 0] 133 (0,0))) (hk : w.heap[kb]? = some (.cells (Array.replicate n (.pointer none)) 100 (0,0))) (hn : 1 <= n /\ n <= 4) (hg : Glb w) (l1 : 4 <= fb) (l2 : 4 <= sb) (l3 : 4 <= kb) : FroE w fb (fun k => k = fb \/ k = sb \/ k = kb) (newF q wt ch ca n) := by
  have hfoot : ∀ k,Foot fb ⟨q,wt,ch,0,0,0,sb,.slice none 0 0,.slice none 0 0,.slice (some ⟨kb,0,none⟩) n n,ca,.slice none 0 0⟩ (.slice none 0 0) (.slice none 0 0) (List.replicate n none) k -> k = fb \/ k = sb \/ k = kb := fun k hk => hk.elim (P := fun k => k = fb \/ k = sb \/ k = kb) (Or.inl rfl) (Or.inr (Or.inl rfl)) (fun _ q => by simp [Value.ownBlock] at q) (fun _ q => by simp [Value.ownBlock] at q) (fun _ q => by simp [Value.ownBlock] at q) (fun _ q => by simp [Value.ownBlock] at q) (fun k q => by simp only [Value.ownBlock,Option.some.injEq] at q; exact Or.inr (Or.inr q.symm)) (fun _ q => by simp [Value.ownBlock] at q) (fun i u hu => by
    have := List.mem_of_getElem? hu
    rw [List.mem_replicate] at this
    cases this.2)
  refine ⟨⟨q,wt,ch,0,0,0,sb,.slice none 0 0,.slice none 0 0,.slice (some ⟨kb,0,none⟩) n n,ca,.slice none 0 0⟩,.slice none 0 0,.slice none 0 0,List.replicate n none,⟨hf,⟨rfl,rfl,rfl,rfl,rfl,rfl,rfl⟩,⟨?_,fun i u hu => ?_,fun i j u v _ hu => ?_⟩,fver_new,⟨⟨hs,ownC_nil _ _ _ _,ownC_nil _ _ _ _⟩,ownR_nil,ownR_nil,ownR_nil,?_,fun i u hu => ?_⟩,hg,fun k hk => ?_⟩,hfoot⟩
  . show List.replicate n none = (List.replicate n none).map (Option.map Wk.f)
    rw [List.map_replicate]; rfl
  . have := List.mem_of_getElem? hu
    rw [List.mem_replicate] at this
    cases this.2
  . have := List.mem_of_getElem? hu
    rw [List.mem_replicate] at this
    cases this.2
  . refine Or.inr ⟨kb,0,n,Array.replicate n (.pointer none),by simp,hk,by simp,by unfold maxLen; omega,by simp [rPtr],?_⟩
    have h : n = 1 \/ n = 2 \/ n = 3 \/ n = 4 := by omega
    rcases h with rfl | rfl | rfl | rfl <;> rfl
  . have := List.mem_of_getElem? hu
    rw [List.mem_replicate] at this
    cases this.2
  . rcases hfoot k hk with rfl | rfl | rfl
    . exact l1
    . exact l2
    . exact l3
set_option maxHeartbeats 6400000 in
theorem front_new (q n wt ca ch : Nat) (w : World) (hq : 1 <= q /\ q <= 8) (hn : 1 <= n /\ n <= 4) (ht : 1 <= wt /\ wt <= 50) (hc : ca <= 2000) (hh : 1 <= ch /\ ch <= 8) (hg : Glb w) :
    Calls Tryz.prog 44 #[.agg #[.int .i64 (q : Int),.int .i64 (n : Int),.int .i64 (wt : Int),.int .i64 (ca : Int),.int .i64 (ch : Int)]] w fun e w' => ∃ fb Ψ,e = .returned (.tuple #[.pointer (some ⟨fb,0,none⟩),.int .i64 0]) /\ FroE w' fb Ψ (newF q wt ch ca n) /\ (∀ k,Ψ k -> w.heap.size <= k) /\ Below w.heap.size w w' := by
  obtain ⟨w1,hw1⟩ : ∃ w1,w.alloc (.cells #[.int .i64 (q : Int),.int .i64 (n : Int),.int .i64 (wt : Int),.int .i64 (ca : Int),.int .i64 (ch : Int)] 23) = w1 := ⟨_,rfl⟩
  have hA : w1.heap[w.heap.size]? = some (.cells #[.int .i64 (q : Int),.int .i64 (n : Int),.int .i64 (wt : Int),.int .i64 (ca : Int),.int .i64 (ch : Int)] 23 (0,0)) := hw1 ▸ heap_alloc_new w (.cells #[.int .i64 (q : Int),.int .i64 (n : Int),.int .i64 (wt : Int),.int .i64 (ca : Int),.int .i64 (ch : Int)] 23 (0,0))
  have hb1 : Below w.heap.size w w1 := hw1 ▸ (Below.refl w.heap.size w).alloc (Nat.le_refl _) (.cells #[.int .i64 (q : Int),.int .i64 (n : Int),.int .i64 (wt : Int),.int .i64 (ca : Int),.int .i64 (ch : Int)] 23)
  have hrg := rng_blk hA
  have hrg' : (w.alloc (.cells #[.int .i64 (q : Int),.int .i64 (n : Int),.int .i64 (wt : Int),.int .i64 (ca : Int),.int .i64 (ch : Int)] 23)).rangeAt w.heap.size 0 (#[.int .i64 (q : Int),.int .i64 (n : Int),.int .i64 (wt : Int),.int .i64 (ca : Int),.int .i64 (ch : Int)] : Array Value).toList := by rw [hw1]; exact hrg
  have IR := isRight_yes q n wt ca ch w1 (by omega) (by omega) (by omega) (by omega) (by omega)
  rw [<- hw1] at IR
  have HW1 := hide hw1
  have HA := hide hA
  have HB1 := hide hb1
  have h4 := hg.1
  have HG := hide hg
  clear hw1 hA hb1 hrg hg
  go_enter Tryz.func44,Tryz.ntmps44
  go_wp2_with (refine ldG 23 #[.int .i64 (q : Int),.int .i64 (n : Int),.int .i64 (wt : Int),.int .i64 (ca : Int),.int .i64 (ch : Int)] Tryz.underlying23 rfl (sz23 _ _ _ _ _) w.heap.size 0 hrg' rfl _ rfl rfl ?_)
  rw [unhide HW1] at IR ⊢
  refine IR.mono ?_
  rintro e w2 ⟨rfl,hb2⟩
  clear IR hrg'
  have NW := New_any 0 w2 (by omega)
  go_wp2_with fail
  refine NW.mono ?_
  rintro e w3 ⟨rfl,hw3⟩
  have hs3 : w3.heap[w2.heap.size]? = some (.cells #[.int .i64 0,.int .i64 0,.slice none 0 0,.slice none 0 0] 133 (0,0)) := hw3 ▸ heap_alloc_new w2 (.cells #[.int .i64 0,.int .i64 0,.slice none 0 0,.slice none 0 0] 133 (0,0))
  have hb3 : Below w2.heap.size w2 w3 := hw3 ▸ (Below.refl w2.heap.size w2).alloc (Nat.le_refl _) (.cells #[.int .i64 0,.int .i64 0,.slice none 0 0,.slice none 0 0] 133)
  have hsz2 : w.heap.size <= w2.heap.size := by have := (unhide HB1).size; have := hb2.size; omega
  have hA3 := blk_on (blk_on (unhide HA) hb2) hb3
  have hbw3 : Below w.heap.size w w3 := ((unhide HB1).trans (hb2.mono (unhide HB1).size)).trans (hb3.mono hsz2)
  obtain ⟨sb,hsb⟩ : ∃ sb,w2.heap.size = sb := ⟨_,rfl⟩
  rw [hsb] at hs3 ⊢
  have HS3 := hide hs3
  have HA3 := hide hA3
  have HBW3 := hide hbw3
  clear hw3 hb3 hb2 hs3 hA3 hbw3 NW HA HB1 HW1
  go_wp2_with fail
  refine wp_region_held (S := fun w' => w'.heap[w.heap.size]? = some (.cells #[.int .i64 (q : Int),.int .i64 (n : Int),.int .i64 (wt : Int),.int .i64 (ca : Int),.int .i64 (ch : Int)] 23 (0,0))) (by kernel_rfl) ?_
  change wpAnyH _ _ _ _ _ _ _ _ (World.drew _)
  have hbD := Below.drew (Below.refl w3.heap.size w3)
  have hS := blk_on (unhide HA3) hbD
  have hs4 := blk_on (unhide HS3) hbD
  have hbw4 := (unhide HBW3).trans (hbD.mono (unhide HBW3).size)
  clear HS3 HA3 HBW3 hbD
  generalize World.drew w3 = w4 at hS hs4 hbw4 ⊢
  obtain ⟨w5,hw5⟩ : ∃ w5,w4.alloc (.cells (Array.replicate n (.pointer none)) 100) = w5 := ⟨_,rfl⟩
  have hb5 : Below w4.heap.size w4 w5 := hw5 ▸ (Below.refl w4.heap.size w4).alloc (Nat.le_refl _) (.cells (Array.replicate n (.pointer none)) 100)
  have hk5 : w5.heap[w4.heap.size]? = some (.cells (Array.replicate n (.pointer none)) 100 (0,0)) := hw5 ▸ heap_alloc_new w4 (.cells (Array.replicate n (.pointer none)) 100 (0,0))
  have hS5 := blk_on hS hb5
  have hsz4 := hbw4.size
  obtain ⟨kb,hkb⟩ : ∃ kb,w4.heap.size = kb := ⟨_,rfl⟩
  have HM := hide (show ∀ (ev : Operand -> Value) (o : Oper) (x : Operand),o.op = .makeSlice 94 x x -> ev x = .int .i64 n -> (execOp ev o).run Tryz.prog w4 = .ok (.value (.slice (some ⟨kb,0,none⟩) n n)) w5 from fun ev o x q1 q2 => hkb ▸ hw5 ▸ mk94 n hn ev o x q1 q2 w4)
  rw [hkb] at hk5
  obtain ⟨w6,hw6⟩ : ∃ w6,w5.alloc (.cells #[.int .i64 (q : Int),.int .i64 (wt : Int),.int .i64 (ch : Int),.int .i64 0,.int .i64 0,.int .i64 0,.pointer (some ⟨sb,0,none⟩),.slice none 0 0,.slice none 0 0,.slice (some ⟨kb,0,none⟩) n n,.int .i64 (ca : Int),.slice none 0 0] 99) = w6 := ⟨_,rfl⟩
  have hb6 : Below w5.heap.size w5 w6 := hw6 ▸ (Below.refl w5.heap.size w5).alloc (Nat.le_refl _) (.cells #[.int .i64 (q : Int),.int .i64 (wt : Int),.int .i64 (ch : Int),.int .i64 0,.int .i64 0,.int .i64 0,.pointer (some ⟨sb,0,none⟩),.slice none 0 0,.slice none 0 0,.slice (some ⟨kb,0,none⟩) n n,.int .i64 (ca : Int),.slice none 0 0] 99)
  have hf6 : w6.heap[w5.heap.size]? = some (.cells #[.int .i64 (q : Int),.int .i64 (wt : Int),.int .i64 (ch : Int),.int .i64 0,.int .i64 0,.int .i64 0,.pointer (some ⟨sb,0,none⟩),.slice none 0 0,.slice none 0 0,.slice (some ⟨kb,0,none⟩) n n,.int .i64 (ca : Int),.slice none 0 0] 99 (0,0)) := hw6 ▸ heap_alloc_new w5 (.cells #[.int .i64 (q : Int),.int .i64 (wt : Int),.int .i64 (ch : Int),.int .i64 0,.int .i64 0,.int .i64 0,.pointer (some ⟨sb,0,none⟩),.slice none 0 0,.slice none 0 0,.slice (some ⟨kb,0,none⟩) n n,.int .i64 (ca : Int),.slice none 0 0] 99 (0,0))
  have hS6 := blk_on hS5 hb6
  obtain ⟨fb,hfb⟩ : ∃ fb,w5.heap.size = fb := ⟨_,rfl⟩
  have HX := hide (show ∀ (ev : Operand -> Value) (o : Oper) (x : Operand),o.op = .box 99 x -> ev x = .agg #[.int .i64 (q : Int),.int .i64 (wt : Int),.int .i64 (ch : Int),.int .i64 0,.int .i64 0,.int .i64 0,.pointer (some ⟨sb,0,none⟩),.slice none 0 0,.slice none 0 0,.slice (some ⟨kb,0,none⟩) n n,.int .i64 (ca : Int),.slice none 0 0] -> (execOp ev o).run Tryz.prog w5 = .ok (.value (.pointer (some ⟨fb,0,none⟩))) w6 from fun ev o x q1 q2 => hfb ▸ hw6 ▸ bx99 q wt ch ca sb kb n ev o x q1 q2 w5)
  rw [hfb] at hf6
  have hsz5 := hb5.size
  have hbw6 : Below w.heap.size w w6 := (hbw4.trans (hb5.mono hsz4)).trans (hb6.mono (by omega))
  have hFr := fro_new (q := q) (wt := wt) (ch := ch) (ca := ca) hf6 (blk_on (blk_on hs4 hb5) hb6) (blk_on hk5 hb6) hn ((unhide HG).on hbw6) (by omega) (by omega) (by omega)
  have HQ : Hid (∃ fb' Ψ,Ending.returned (.tuple #[.pointer (some ⟨fb,0,none⟩),.int .i64 0]) = .returned (.tuple #[.pointer (some ⟨fb',0,none⟩),.int .i64 0]) /\ FroE w6 fb' Ψ (newF q wt ch ca n) /\ (∀ k,Ψ k -> w.heap.size <= k) /\ Below w.heap.size w w6) := ⟨fb,_,rfl,hFr,fun k hk => by
    rcases hk with rfl | rfl | rfl <;> omega,hbw6⟩
  clear hFr hbw6 hf6 hk5 hb5 hb6 hs4 hbw4 hw5 hw6 HG
  refine t_tk 0 rfl (.pointer (some ⟨w.heap.size,0,none⟩)) (by kernel_rfl) (fun _ _ _ h => h) rfl (fun w' hw' => by simp [go_sem]) hS ?_
  simp only [Act.put,qA,qB,qC]
  refine t_tk 1 rfl (.int .i64 q) (by kernel_rfl) (fun _ _ _ h => h) rfl (fun w' hw' => by simp [go_sem,blk_cells hw']) hS ?_
  simp only [Act.put,qA,qB,qC]
  refine t_tk 2 rfl (.pointer (some ⟨w.heap.size,2,none⟩)) (by kernel_rfl) (fun _ _ _ h => h) rfl (fun w' hw' => by simp [go_sem]) hS ?_
  simp only [Act.put,qA,qB,qC]
  refine t_tk 3 rfl (.int .i64 wt) (by kernel_rfl) (fun _ _ _ h => h) rfl (fun w' hw' => by simp [go_sem,blk_cells hw']) hS ?_
  simp only [Act.put,qA,qB,qC]
  refine t_tk 4 rfl (.pointer (some ⟨w.heap.size,4,none⟩)) (by kernel_rfl) (fun _ _ _ h => h) rfl (fun w' hw' => by simp [go_sem]) hS ?_
  simp only [Act.put,qA,qB,qC]
  refine t_tk 5 rfl (.int .i64 ch) (by kernel_rfl) (fun _ _ _ h => h) rfl (fun w' hw' => by simp [go_sem,blk_cells hw']) hS ?_
  simp only [Act.put,qA,qB,qC]
  refine t_tk 6 rfl (.pointer (some ⟨sb,0,none⟩)) (by kernel_rfl) (fun _ _ _ h => h) rfl (fun w' hw' => by simp [go_sem]) hS ?_
  simp only [Act.put,qA,qB,qC]
  refine t_tk 7 rfl (.pointer (some ⟨w.heap.size,1,none⟩)) (by kernel_rfl) (fun _ _ _ h => h) rfl (fun w' hw' => by simp [go_sem]) hS ?_
  simp only [Act.put,qA,qB,qC]
  refine t_tk 8 rfl (.int .i64 n) (by kernel_rfl) (fun _ _ _ h => h) rfl (fun w' hw' => by simp [go_sem,blk_cells hw']) hS ?_
  simp only [Act.put,qA,qB,qC]
  refine t_tk 10 rfl (.pointer (some ⟨w.heap.size,3,none⟩)) (by kernel_rfl) (fun _ _ _ h => h) rfl (fun w' hw' => by simp [go_sem]) hS ?_
  simp only [Act.put,qA,qB,qC]
  refine t_tk 11 rfl (.int .i64 ca) (by kernel_rfl) (fun _ _ _ h => h) rfl (fun w' hw' => by simp [go_sem,blk_cells hw']) hS ?_
  simp only [Act.put,qA,qB,qC]
  refine t_tk 12 rfl (.agg #[.int .i64 (ca : Int),.slice none 0 0]) (by kernel_rfl) (fun _ _ _ h => h) rfl (fun w' _ => bt97 ca _ _ _ rfl rfl w') hS ?_
  simp only [Act.put,qA,qB,qC]
  refine wpAnyH_all (rs := [9]) (by kernel_rfl) (by simp) ?_
  intro i hi
  simp only [List.mem_singleton] at hi
  subst hi
  refine t_op 9 rfl rfl (.slice (some ⟨kb,0,none⟩) n n) (w5) (unhide HM _ _ _ rfl rfl) (hS5) ?_
  simp only [Act.put,qA,qB,qC]
  refine t_tk 13 rfl (.agg #[.int .i64 (q : Int),.int .i64 (wt : Int),.int .i64 (ch : Int),.int .i64 0,.int .i64 0,.int .i64 0,.pointer (some ⟨sb,0,none⟩),.slice none 0 0,.slice none 0 0,.slice (some ⟨kb,0,none⟩) n n,.int .i64 (ca : Int),.slice none 0 0]) (by kernel_rfl) (fun _ _ _ h => h) rfl (fun w' _ => bt99 q wt ch ca sb kb n _ _ _ _ _ _ _ _ rfl rfl rfl rfl rfl rfl rfl w') hS5 ?_
  simp only [Act.put,qA,qB,qC]
  refine wpAnyH_all (rs := [14]) (by kernel_rfl) (by simp) ?_
  intro i hi
  simp only [List.mem_singleton] at hi
  subst hi
  refine t_op 14 rfl rfl (.pointer (some ⟨fb,0,none⟩)) (w6) (unhide HX _ _ _ rfl rfl) (hS6) ?_
  simp only [Act.put,qA,qB,qC]
  refine t_tk 15 rfl (.pointer (some ⟨fb,0,none⟩)) (by kernel_rfl) (fun _ _ _ h => h) rfl (fun w' hw' => by simp [go_sem]) hS6 ?_
  simp only [Act.put,qA,qB,qC]
  refine t_tk 16 rfl (.int .i64 0) (by kernel_rfl) (fun _ _ _ h => h) rfl (fun w' hw' => by simp [go_sem]) hS6 ?_
  simp only [Act.put,qA,qB,qC]
  refine wpAnyH_done (by kernel_rfl) ?_ _
  go_wp2_with fail
  go_ret2
  exact unhide HQ
theorem built33 (fb : Nat) (q n wt ca ch : Int) (gw : Nat) : Tryz.prog.built 33 [(0,.pointer (some ⟨fb,0,none⟩)),(1,.agg #[.int .i64 q,.int .i64 n,.int .i64 wt,.int .i64 ca,.int .i64 ch]),(2,.slice (some ⟨gw,0,none⟩) 1 1)] = some #[.pointer (some ⟨fb,0,none⟩),.int .i64 q,.int .i64 n,.int .i64 wt,.int .i64 ca,.int .i64 ch,.slice (some ⟨gw,0,none⟩) 1 1,.int .i64 0,.slice none 0 0,.slice none 0 0,.int .i64 0,.int .i64 0,.bool false] := by kernel_rfl
theorem bt33 (fb : Nat) (q n wt ca ch : Int) (gw : Nat) (ev : Operand -> Value) (o : Oper) (p0 p1 p2 : Operand) (ho : o.op = .build 33 #[(0,p0),(1,p1),(2,p2)]) (h0 : ev p0 = .pointer (some ⟨fb,0,none⟩)) (h1 : ev p1 = .agg #[.int .i64 q,.int .i64 n,.int .i64 wt,.int .i64 ca,.int .i64 ch]) (h2 : ev p2 = .slice (some ⟨gw,0,none⟩) 1 1) (w : World) : (execOp ev o).run Tryz.prog w = .ok (.value (.agg #[.pointer (some ⟨fb,0,none⟩),.int .i64 q,.int .i64 n,.int .i64 wt,.int .i64 ca,.int .i64 ch,.slice (some ⟨gw,0,none⟩) 1 1,.int .i64 0,.slice none 0 0,.slice none 0 0,.int .i64 0,.int .i64 0,.bool false])) w := by
  have hb := run_build (P := Tryz.prog) w 33 #[(0,.pointer (some ⟨fb,0,none⟩)),(1,.agg #[.int .i64 q,.int .i64 n,.int .i64 wt,.int .i64 ca,.int .i64 ch]),(2,.slice (some ⟨gw,0,none⟩) 1 1)] _ (built33 fb q n wt ca ch gw)
  unfold execOp
  simp [ho,h0,h1,h2,hb]
theorem bx33 (fb : Nat) (q n wt ca ch : Int) (gw : Nat) (ev : Operand -> Value) (o : Oper) (x : Operand) (ho : o.op = .box 33 x) (hx : ev x = .agg #[.pointer (some ⟨fb,0,none⟩),.int .i64 q,.int .i64 n,.int .i64 wt,.int .i64 ca,.int .i64 ch,.slice (some ⟨gw,0,none⟩) 1 1,.int .i64 0,.slice none 0 0,.slice none 0 0,.int .i64 0,.int .i64 0,.bool false]) (w : World) : (execOp ev o).run Tryz.prog w = .ok (.value (.pointer (some ⟨w.heap.size,0,none⟩))) (w.alloc (.cells #[.pointer (some ⟨fb,0,none⟩),.int .i64 q,.int .i64 n,.int .i64 wt,.int .i64 ca,.int .i64 ch,.slice (some ⟨gw,0,none⟩) 1 1,.int .i64 0,.slice none 0 0,.slice none 0 0,.int .i64 0,.int .i64 0,.bool false] 33)) := by
  unfold execOp
  simp only [ho,hx]
  kernel_rfl
theorem al23 (ev : Operand -> Value) (o : Oper) (ho : o.op = .alloc 23) (w w1 : World) (h1 : w.alloc (.cells #[.int .i64 0,.int .i64 0,.int .i64 0,.int .i64 0,.int .i64 0] 23) = w1) : (execOp ev o).run Tryz.prog w = .ok (.value (.pointer (some ⟨w.heap.size,0,none⟩))) w1 := by
  rw [<- h1]
  unfold execOp
  simp only [ho]
  kernel_rfl
set_option maxHeartbeats 6400000 in
theorem opened_any (q wk wt ca ch : Int) (w : World) (rq : -9223372036854775808 <= q /\ q <= 9223372036854775807) (rwk : -9223372036854775808 <= wk /\ wk <= 9223372036854775807) (rwt : -9223372036854775808 <= wt /\ wt <= 9223372036854775807) (rca : -9223372036854775808 <= ca /\ ca <= 9223372036854775807) (rch : -9223372036854775808 <= ch /\ ch <= 9223372036854775807) (hg : Glb w) :
    Calls Tryz.prog 23 #[.agg #[.int .i64 q,.int .i64 wk,.int .i64 wt,.int .i64 ca,.int .i64 ch]] w fun e w' => ∃ b bb fb F,e = .returned (.pointer (some ⟨bb,0,none⟩)) /\ BelB w b /\ StE b w' bb fb F newB /\ Inv Oz F newB /\ Bd 0 F newB := by
  have h0 := pk_in q (n := 8) (by omega)
  have h1 := pk_in wk (n := 4) (by omega)
  have h2 := pk_in wt (n := 50) (by omega)
  have h3 := pk_in ca (n := 2001) (by omega)
  have h5 := pk_in ch (n := 8) (by omega)
  obtain ⟨w1,hw1⟩ : ∃ w1,w.alloc (.cells #[.int .i64 q,.int .i64 wk,.int .i64 wt,.int .i64 ca,.int .i64 ch] 23) = w1 := ⟨_,rfl⟩
  have hA : w1.heap[w.heap.size]? = some (.cells #[.int .i64 q,.int .i64 wk,.int .i64 wt,.int .i64 ca,.int .i64 ch] 23 (0,0)) := hw1 ▸ heap_alloc_new w (.cells #[.int .i64 q,.int .i64 wk,.int .i64 wt,.int .i64 ca,.int .i64 ch] 23 (0,0))
  have hb1 : Below w.heap.size w w1 := hw1 ▸ (Below.refl w.heap.size w).alloc (Nat.le_refl _) (.cells #[.int .i64 q,.int .i64 wk,.int .i64 wt,.int .i64 ca,.int .i64 ch] 23)
  have hrg' : (w.alloc (.cells #[.int .i64 q,.int .i64 wk,.int .i64 wt,.int .i64 ca,.int .i64 ch] 23)).rangeAt w.heap.size 0 (#[.int .i64 q,.int .i64 wk,.int .i64 wt,.int .i64 ca,.int .i64 ch] : Array Value).toList := by rw [hw1]; exact rng_blk hA
  have CF := config_any q wk wt ca ch w1 rq rwk rwt rca rch
  obtain ⟨Q,hQ⟩ : ∃ Q : Nat,1 + pk q 8 = Q := ⟨(1 + pk q 8).toNat,by omega⟩
  obtain ⟨n,hn⟩ : ∃ Q : Nat,1 + pk wk 4 = Q := ⟨(1 + pk wk 4).toNat,by omega⟩
  obtain ⟨T,hT⟩ : ∃ Q : Nat,1 + pk wt 50 = Q := ⟨(1 + pk wt 50).toNat,by omega⟩
  obtain ⟨C,hC⟩ : ∃ Q : Nat,pk ca 2001 = Q := ⟨(pk ca 2001).toNat,by omega⟩
  obtain ⟨H,hH⟩ : ∃ Q : Nat,1 + pk ch 8 = Q := ⟨(1 + pk ch 8).toNat,by omega⟩
  rw [hQ,hn,hT,hC,hH] at CF
  have z1 : 1 <= Q /\ Q <= 8 := by omega
  have z2 : 1 <= n /\ n <= 4 := by omega
  have z3 : 1 <= T /\ T <= 50 := by omega
  have z4 : C <= 2000 := by omega
  have z5 : 1 <= H /\ H <= 8 := by omega
  rw [<- hw1] at CF
  have HW1 := hide hw1
  have HB1 := hide hb1
  have HG := hide hg
  clear hw1 hA hb1 hg h0 h1 h2 h3 h5 hQ hn hT hC hH rq rwk rwt rca rch
  go_enter Tryz.func23,Tryz.ntmps23
  go_wp2_with (refine ldG 23 #[.int .i64 q,.int .i64 wk,.int .i64 wt,.int .i64 ca,.int .i64 ch] Tryz.underlying23 rfl (sz23 _ _ _ _ _) w.heap.size 0 hrg' rfl _ rfl rfl ?_)
  refine CF.mono ?_
  rintro e w2 ⟨rfl,hb2⟩
  clear CF hrg'
  rw [unhide HW1] at hb2
  have hbw2 := (unhide HB1).trans (hb2.mono (unhide HB1).size)
  obtain ⟨w3,hw3⟩ : ∃ w3,w2.alloc (.cells #[.int .i64 0,.int .i64 0,.int .i64 0,.int .i64 0,.int .i64 0] 23) = w3 := ⟨_,rfl⟩
  have hb3 : Below w2.heap.size w2 w3 := hw3 ▸ (Below.refl w2.heap.size w2).alloc (Nat.le_refl _) (.cells #[.int .i64 0,.int .i64 0,.int .i64 0,.int .i64 0,.int .i64 0] 23)
  have hA3 : w3.heap[w2.heap.size]? = some (.cells #[.int .i64 0,.int .i64 0,.int .i64 0,.int .i64 0,.int .i64 0] 23 (0,0)) := hw3 ▸ heap_alloc_new w2 (.cells #[.int .i64 0,.int .i64 0,.int .i64 0,.int .i64 0,.int .i64 0] 23 (0,0))
  have hsz2 := hbw2.size
  obtain ⟨g1,hg1⟩ : ∃ g1,w2.heap.size = g1 := ⟨_,rfl⟩
  have HAL := hide (show ∀ (ev : Operand -> Value) (o : Oper),o.op = .alloc 23 -> (execOp ev o).run Tryz.prog w2 = .ok (.value (.pointer (some ⟨g1,0,none⟩))) w3 from fun ev o q => hg1 ▸ al23 ev o q w2 w3 hw3)
  rw [hg1] at hA3
  obtain ⟨w4,hw4⟩ : ∃ w4,w3.setRow g1 #[.int .i64 (Q : Int),.int .i64 (n : Int),.int .i64 (T : Int),.int .i64 (C : Int),.int .i64 (H : Int)] = w4 := ⟨_,rfl⟩
  have hA4 : w4.heap[g1]? = some (.cells #[.int .i64 (Q : Int),.int .i64 (n : Int),.int .i64 (T : Int),.int .i64 (C : Int),.int .i64 (H : Int)] 23 (0,0)) := hw4 ▸ setRow_heap _ _ _ #[.int .i64 (Q : Int),.int .i64 (n : Int),.int .i64 (T : Int),.int .i64 (C : Int),.int .i64 (H : Int)] _ _ hA3
  have hbw4 : Below w.heap.size w w4 := hw4 ▸ below_setRow (hbw2.trans (hb3.mono hsz2)) (by omega) #[.int .i64 (Q : Int),.int .i64 (n : Int),.int .i64 (T : Int),.int .i64 (C : Int),.int .i64 (H : Int)]
  have HST := hide (show ∀ (ev : Operand -> Value) (o : Oper) (s t : Operand),o.op = .store 23 s t -> ev s = .pointer (some ⟨g1,0,none⟩) -> ev t = .agg #[.int .i64 (Q : Int),.int .i64 (n : Int),.int .i64 (T : Int),.int .i64 (C : Int),.int .i64 (H : Int)] -> (execOp ev o).run Tryz.prog w3 = .ok .skip w4 from fun ev o s t q q1 q2 => hw4 ▸ stR ev o s t 23 q #[.int .i64 (Q : Int),.int .i64 (n : Int),.int .i64 (T : Int),.int .i64 (C : Int),.int .i64 (H : Int)] #[.int .i64 0,.int .i64 0,.int .i64 0,.int .i64 0,.int .i64 0] (sz23 _ _ _ _ _) (cfg_one _ _ _ _ _) rfl g1 q1 q2 w3 hA3)
  have hrg4 : w4.rangeAt g1 0 (#[.int .i64 (Q : Int),.int .i64 (n : Int),.int .i64 (T : Int),.int .i64 (C : Int),.int .i64 (H : Int)] : Array Value).toList := rng_blk hA4
  have FN := front_new Q n T C H w4 z1 z2 z3 z4 z5 ((unhide HG).on hbw4)
  have HA4 := hide hA4
  have HBW4 := hide hbw4
  clear hb2 hbw2 hw3 hb3 hA3 hw4 hA4 hbw4 hg1 HB1
  go_wp2_with (first | refine wlV _ _ (unhide HAL _ _ rfl) rfl ?_ | refine wlSk _ (unhide HST _ _ _ _ rfl rfl rfl) rfl ?_ | refine ldG 23 #[.int .i64 (Q : Int),.int .i64 (n : Int),.int .i64 (T : Int),.int .i64 (C : Int),.int .i64 (H : Int)] Tryz.underlying23 rfl (sz23 _ _ _ _ _) g1 0 hrg4 rfl _ rfl rfl ?_)
  refine FN.mono ?_
  rintro e w5 ⟨fb,Ψ,rfl,hFr,hΨ,hb5⟩
  clear FN HAL HST hrg4
  have hA5 := blk_on (unhide HA4) hb5
  have hrg5 : w5.rangeAt g1 0 (#[.int .i64 (Q : Int),.int .i64 (n : Int),.int .i64 (T : Int),.int .i64 (C : Int),.int .i64 (H : Int)] : Array Value).toList := rng_blk hA5
  have hbw5 := (unhide HBW4).trans (hb5.mono (unhide HBW4).size)
  have hsz4 := (unhide HBW4).size
  have hsz5 := hbw5.size
  obtain ⟨w6,hw6⟩ : ∃ w6,w5.alloc (.cells #[.slice none 0 0] 69) = w6 := ⟨_,rfl⟩
  have hb6 : Below w5.heap.size w5 w6 := hw6 ▸ (Below.refl w5.heap.size w5).alloc (Nat.le_refl _) (.cells #[.slice none 0 0] 69)
  have hs6 : w6.heap[w5.heap.size]? = some (.cells #[.slice none 0 0] 69 (0,0)) := hw6 ▸ heap_alloc_new w5 (.cells #[.slice none 0 0] 69 (0,0))
  obtain ⟨gw,hgw⟩ : ∃ gw,w5.heap.size = gw := ⟨_,rfl⟩
  have HBS := hide (show ∀ (ev : Operand -> Value) (o : Oper) (x : Operand),o.op = .buildSlice 29 1 #[(0,x)] -> ev x = .slice none 0 0 -> (execOp ev o).run Tryz.prog w5 = .ok (.value (.slice (some ⟨gw,0,none⟩) 1 1)) w6 from fun ev o x q1 q2 => hgw ▸ hw6 ▸ bsSli none 0 0 ev o x q1 q2 w5)
  rw [hgw] at hs6
  obtain ⟨w7,hw7⟩ : ∃ w7,w6.alloc (.cells #[.pointer (some ⟨fb,0,none⟩),.int .i64 (Q : Int),.int .i64 (n : Int),.int .i64 (T : Int),.int .i64 (C : Int),.int .i64 (H : Int),.slice (some ⟨gw,0,none⟩) 1 1,.int .i64 0,.slice none 0 0,.slice none 0 0,.int .i64 0,.int .i64 0,.bool false] 33) = w7 := ⟨_,rfl⟩
  have hb7 : Below w6.heap.size w6 w7 := hw7 ▸ (Below.refl w6.heap.size w6).alloc (Nat.le_refl _) (.cells #[.pointer (some ⟨fb,0,none⟩),.int .i64 (Q : Int),.int .i64 (n : Int),.int .i64 (T : Int),.int .i64 (C : Int),.int .i64 (H : Int),.slice (some ⟨gw,0,none⟩) 1 1,.int .i64 0,.slice none 0 0,.slice none 0 0,.int .i64 0,.int .i64 0,.bool false] 33)
  have hB7 : w7.heap[w6.heap.size]? = some (.cells #[.pointer (some ⟨fb,0,none⟩),.int .i64 (Q : Int),.int .i64 (n : Int),.int .i64 (T : Int),.int .i64 (C : Int),.int .i64 (H : Int),.slice (some ⟨gw,0,none⟩) 1 1,.int .i64 0,.slice none 0 0,.slice none 0 0,.int .i64 0,.int .i64 0,.bool false] 33 (0,0)) := hw7 ▸ heap_alloc_new w6 (.cells #[.pointer (some ⟨fb,0,none⟩),.int .i64 (Q : Int),.int .i64 (n : Int),.int .i64 (T : Int),.int .i64 (C : Int),.int .i64 (H : Int),.slice (some ⟨gw,0,none⟩) 1 1,.int .i64 0,.slice none 0 0,.slice none 0 0,.int .i64 0,.int .i64 0,.bool false] 33 (0,0))
  obtain ⟨bb,hbb⟩ : ∃ bb,w6.heap.size = bb := ⟨_,rfl⟩
  have HBX := hide (show ∀ (ev : Operand -> Value) (o : Oper) (x : Operand),o.op = .box 33 x -> ev x = .agg #[.pointer (some ⟨fb,0,none⟩),.int .i64 (Q : Int),.int .i64 (n : Int),.int .i64 (T : Int),.int .i64 (C : Int),.int .i64 (H : Int),.slice (some ⟨gw,0,none⟩) 1 1,.int .i64 0,.slice none 0 0,.slice none 0 0,.int .i64 0,.int .i64 0,.bool false] -> (execOp ev o).run Tryz.prog w6 = .ok (.value (.pointer (some ⟨bb,0,none⟩))) w7 from fun ev o x q1 q2 => hbb ▸ hw7 ▸ bx33 fb Q n T C H gw ev o x q1 q2 w6)
  rw [hbb] at hB7
  have hsz6 := hb6.size
  have hlt6 := blk_lt hs6
  have hbw7 : Below w.heap.size w w7 := (hbw5.trans (hb6.mono hsz5)).trans (hb7.mono (by omega))
  have HQ : Hid (∃ b bb' fb' F,Ending.returned (.pointer (some ⟨bb,0,none⟩)) = .returned (.pointer (some ⟨bb',0,none⟩)) /\ BelB w b /\ StE b w7 bb' fb' F newB /\ Inv Oz F newB /\ Bd 0 F newB) := by
    refine ⟨Bas.all w (unhide HG).1,bb,fb,newF Q T H C n,rfl,BelB.all _ _,?_,inv_new z1 z3 z5 z4 z2,bd_new _ _ _ _ _⟩
    have hFr5 := hFr.tight
    have hFr7 := (hFr5.on hb6).on hb7
    have hs7 := blk_on hs6 hb7
    refine ⟨fun k => k = bb \/ k = gw,_,⟨fb,Q,n,T,C,H,.slice (some ⟨gw,0,none⟩) 1 1,0,.slice none 0 0,.slice none 0 0,0,0⟩,[⟨none,0,0⟩],hFr7,⟨hB7,⟨rfl,rfl,by show (n : Int) = ((List.replicate n none).length : Nat); simp,rfl,rfl,rfl,rfl,rfl,rfl⟩,⟨Or.inr ⟨gw,0,1,_,rfl,hs7,Nat.le_refl _,by unfold maxLen; omega,by simp [rSli],rfl⟩,rfl,fun i s hs => ?_,ownR_nil,ownR_nil⟩⟩,fun k hk => ?_,fun k hk q => ?_,fun k hk => ?_,fun k hk => ?_,Kp.of hbw7⟩
    . cases i with
      | zero => simp at hs; subst hs; exact ownR_nil
      | succ i => simp at hs
    . refine hk.elim (P := fun k => k = bb \/ k = gw) (Or.inl rfl) (fun k q => ?_) (fun k q => by simp [Value.ownBlock] at q) (fun k q => by simp [Value.ownBlock] at q) (fun i s hs k q => ?_)
      . simp only [Value.ownBlock,Option.some.injEq] at q; exact Or.inr q.symm
      . cases i with
        | zero => simp at hs; subst hs; simp [Sli.v,Value.ownBlock] at q
        | succ i => simp at hs
    . have := q.2
      rcases hk with rfl | rfl <;> omega
    . refine fun hT => ?_
      have hT' : k < w.heap.size := hT
      rcases hk with (rfl | rfl) | hk
      . omega
      . omega
      . have := hΨ k hk.1; omega
    . have := blk_lt hB7
      rcases hk with rfl | rfl
      . exact this
      . have := hb7.size; omega
  clear hFr hΨ hb5 hA5 hbw5 hw6 hb6 hs6 hw7 hb7 hB7 hbw7 HBW4 HA4 HG hsz6 hlt6
  go_wp2_with (first | refine ldG 23 #[.int .i64 (Q : Int),.int .i64 (n : Int),.int .i64 (T : Int),.int .i64 (C : Int),.int .i64 (H : Int)] Tryz.underlying23 rfl (sz23 _ _ _ _ _) g1 0 hrg5 rfl _ rfl rfl ?_ | refine wlV _ _ (unhide HBS _ _ _ rfl rfl) rfl ?_ | refine wlV _ _ (bt33 fb Q n T C H gw _ _ _ _ _ rfl rfl rfl rfl _) rfl ?_ | refine wlV _ _ (unhide HBX _ _ _ rfl rfl) rfl ?_)
  go_ret
  exact unhide HQ
theorem St.ticked {w0 : Bas} {w : World} {bb fb : Nat} {Φ Ψ : Nat -> Prop} {B : BV} {WS : List Sli} {F : FM} {M : BM} (h : St w0 w bb fb Φ Ψ B WS F M) :
    FroE (w.setCell ⟨bb,7,none⟩ (.int .i64 ((F.now : Int) + 1))) fb (fun k => Ψ k /\ k < w.heap.size) F /\ BBlk (w.setCell ⟨bb,7,none⟩ (.int .i64 ((F.now : Int) + 1))) bb { B with nw := (F.now : Int) + 1 } /\ ∀ l rv w3,FPost (w.setCell ⟨bb,7,none⟩ (.int .i64 ((F.now : Int) + 1))) fb (fun k => Ψ k /\ k < w.heap.size) F.tick.1 l rv w3 -> StE w0 w3 bb fb F.tick.1 M := by
  have hF : Frm (fun k => k = bb) w (w.setCell ⟨bb,7,none⟩ (.int .i64 ((F.now : Int) + 1))) := (Frm.rfl' _ _).setCell (p := ⟨bb,7,none⟩) _ (fun _ => rfl)
  have hT : Tys (fun k => k = bb) w [33] := fun k q => by subst q; exact ⟨_,33,h.bk.blk,by simp⟩
  have hB := BBlk.set h.bk.blk 7 (.int .i64 ((F.now : Int) + 1)) (BV.set_nw B _)
  have hbbΦ : Φ bb := h.foot bb BFoot.iB
  have hfro := h.fro.tight.frm hF (fun k hk q => by subst q; exact h.dj _ hbbΦ hk.1) (fun k q => by subst q; exact Bas.four (h.up _ (Or.inl hbbΦ)))
  refine ⟨hfro,hB,fun l rv w3 hp => ?_⟩
  have hm := h.bk.mem
  have hsz1 := hF.size
  have hsz := hp.frm.size
  have hbel1 := hF.bel h.bel h.bel.size (fun k q => by subst q; exact h.up _ (Or.inl hbbΦ))
  have hbk2 : Bk (w.setCell ⟨bb,7,none⟩ (.int .i64 ((F.now : Int) + 1))) bb fb { B with nw := (F.now : Int) + 1 } WS F.tick.1 M := ⟨hB,⟨h.bk.num.fb,h.bk.num.q,h.bk.num.wk,h.bk.num.wt,h.bk.num.ca,h.bk.num.ch,by show (F.now : Int) + 1 = ((F.now + 1 : Nat) : Int); omega,h.bk.num.wai,h.bk.num.joi⟩,⟨hm.was.frmT hF hT (by decide),hm.len,fun i s hs => (hm.fea i s hs).frmT hF hT (by decide),hm.req.frmT hF hT (by decide),hm.say.frmT hF hT (by decide)⟩⟩
  have hft : ∀ k,BFoot bb { B with nw := (F.now : Int) + 1 } WS k -> Φ k := fun k hk => h.foot k (hk.elim BFoot.iB (fun _ q => BFoot.iW q) (fun _ q => BFoot.iR q) (fun _ q => BFoot.iS q) (fun _ _ hs _ q => BFoot.iF hs q))
  refine ⟨Φ,_,_,WS,hp.fro,hbk2.frm hp.frm fun k hk q => h.dj k (hft k hk) q.1,hft,fun k hk q => ?_,fun k hk => ?_,fun k hk => by have := h.lt k hk; omega,hp.frm.bel hbel1 (by have := h.bel.size; omega) (fun k q => h.up k (Or.inr q.1))⟩
  . rcases q with q | q
    . exact h.dj k hk q.1
    . have := h.lt k hk; omega
  . rcases hk with q | q | q
    . exact h.up k (Or.inl q)
    . exact h.up k (Or.inr q.1)
    . exact Bas.out (by have := h.bel.size; omega)
theorem wrk_like (F : FM) (a : Int) : LikeB F (wrk F a).1 := by
  unfold wrk
  split
  . exact ⟨rfl,rfl,rfl,rfl,rfl,rfl,rfl,rfl⟩
  . exact (work_like (O := Oz) F a.toNat).b
theorem wrk_arr (F : FM) (a : Int) : (wrk F a).1.arrived = F.arrived := by
  unfold wrk
  split
  . rfl
  . exact (work_like (O := Oz) F a.toNat).arrived
theorem Inv.wrk {F : FM} {M : BM} (h : Inv Oz F M) (a : Int) : Inv Oz (wrk F a).1 (M.hear F.ver F.now 4 (wrk F a).2) /\ Valid M (wrk F a).2 /\ (wrk F a).2.length <= F.waiting.length := by
  unfold Go.Proofs.YtpopchckldbhdaaGreatDoor.wrk
  split
  . exact ⟨h,⟨fun r hr => by simp at hr,List.Pairwise.nil⟩,by simp⟩
  . exact ⟨h.work _,h.validW _,work_len F _⟩
def StepR (w0 : Bas) (bb fb n : Nat) (w' : World) : Prop := ∃ F' M',StE w0 w' bb fb F' M' /\ Inv Oz F' M' /\ Bd (n + 1) F' M'
theorem tick_len (F : FM) : F.tick.2.length <= F.waiting.length := by
  show ((F.waiting.filter _).map _).length <= _
  rw [List.length_map]; exact List.length_filter_le _ _
theorem bx63 (kd a l z x y : Int) (S T : ByteArray) (bo : Option Addr) (bn bc : Nat) (ev : Operand -> Value) (o : Oper) (p : Operand) (ho : o.op = .box 63 p) (hx : ev p = .agg #[.int .i64 kd,.int .i64 a,.int .i64 l,.int .i64 z,.int .i64 x,.int .i64 y,.string S,.string T,.slice bo bn bc]) (w : World) : (execOp ev o).run Tryz.prog w = .ok (.value (.pointer (some ⟨w.heap.size,0,none⟩))) (w.alloc (.cells #[.int .i64 kd,.int .i64 a,.int .i64 l,.int .i64 z,.int .i64 x,.int .i64 y,.string S,.string T,.slice bo bn bc] 63)) := by
  unfold execOp
  simp only [ho,hx]
  kernel_rfl
set_option maxHeartbeats 25600000 in
theorem bstep_any (n : Nat) (w0 : Bas) (bb fb : Nat) (F : FM) (M : BM) (kd a l z x y : Int) (S T : ByteArray) (bo : Option Addr) (bn bc : Nat) (es : Nat -> Nat -> Int) (w : World) (h : StE w0 w bb fb F M) (hi : Inv Oz F M) (hbd : Bd n F M) (hn : n <= 1410000000000)
    (r1 : -9223372036854775808 <= l /\ l <= 9223372036854775807) (r2 : -9223372036854775808 <= z /\ z <= 9223372036854775807) (r3 : -9223372036854775808 <= x /\ x <= 9223372036854775807) (r4 : -9223372036854775808 <= y /\ y <= 9223372036854775807) (hSz : S.size <= maxLen) (hv : CsAt 25 w (.slice bo bn bc) bn es) (h64 : ∀ i,i < bn -> ∀ j,j < 25 -> -9223372036854775808 <= es i j /\ es i j <= 9223372036854775807) :
    Calls Tryz.prog 24 #[.pointer (some ⟨bb,0,none⟩),.agg #[.int .i64 kd,.int .i64 a,.int .i64 l,.int .i64 z,.int .i64 x,.int .i64 y,.string S,.string T,.slice bo bn bc]] w fun e w' => e = .returned (.tuple #[]) /\ StepR w0 bb fb n w' := by
  obtain ⟨Φ,Ψ,B,WS,h⟩ := h
  replace h := h.tight
  obtain ⟨Ψ1,hΨ1⟩ : ∃ Ψ1 : Nat -> Prop,(fun k => Ψ k /\ k < w.heap.size) = Ψ1 := ⟨_,rfl⟩
  rw [hΨ1] at h
  have hltΨ : ∀ k,Ψ1 k -> k < w.heap.size := fun k hk => by rw [<- hΨ1] at hk; exact hk.2
  clear hΨ1
  obtain ⟨w1,hw1⟩ : ∃ w1,w.alloc (.cells #[.int .i64 kd,.int .i64 a,.int .i64 l,.int .i64 z,.int .i64 x,.int .i64 y,.string S,.string T,.slice bo bn bc] 63) = w1 := ⟨_,rfl⟩
  have hA : w1.heap[w.heap.size]? = some (.cells #[.int .i64 kd,.int .i64 a,.int .i64 l,.int .i64 z,.int .i64 x,.int .i64 y,.string S,.string T,.slice bo bn bc] 63 (0,0)) := hw1 ▸ heap_alloc_new w (.cells #[.int .i64 kd,.int .i64 a,.int .i64 l,.int .i64 z,.int .i64 x,.int .i64 y,.string S,.string T,.slice bo bn bc] 63 (0,0))
  have hb1 : Below w.heap.size w w1 := hw1 ▸ (Below.refl w.heap.size w).alloc (Nat.le_refl _) (.cells #[.int .i64 kd,.int .i64 a,.int .i64 l,.int .i64 z,.int .i64 x,.int .i64 y,.string S,.string T,.slice bo bn bc] 63)
  have h1 := h.on hb1
  have hv1 := hv.on hb1
  have hE1 : StE w0 w1 bb fb F M := ⟨_,_,_,_,h1⟩
  obtain ⟨g,hg⟩ : ∃ g,w.heap.size = g := ⟨_,rfl⟩
  have BXR : Hid (∀ (ev : Operand -> Value) (o : Oper) (p : Operand),o.op = .box 63 p -> ev p = .agg #[.int .i64 kd,.int .i64 a,.int .i64 l,.int .i64 z,.int .i64 x,.int .i64 y,.string S,.string T,.slice bo bn bc] -> (execOp ev o).run Tryz.prog w = .ok (.value (.pointer (some ⟨g,0,none⟩))) w1) := fun ev o p q1 q2 => hg ▸ hw1 ▸ bx63 kd a l z x y S T bo bn bc ev o p q1 q2 w
  rw [hg] at hA hltΨ
  have q0 : w1.cell? ⟨g,0,none⟩ = some (.int .i64 kd) := (blk_cells hA 0).trans rfl
  have hgl : g < w1.heap.size := blk_lt hA
  have hrk : w1.rangeAt g 2 #[.int .i64 l,.int .i64 z,.int .i64 x,.int .i64 y].toList := by
    intro j v hv
    rw [blk_cells hA]
    rcases j with _ | _ | _ | _ | j
    . exact hv
    . exact hv
    . exact hv
    . exact hv
    . simp at hv
  have HA := hide hA
  have HRK := hide hrk
  have HI := hide hi
  have HBD := hide hbd
  have HV1 := hide hv1
  have H64 := hide h64
  have HH1 := hide hE1
  have HS1 := hide h1
  have HLT := hide hltΨ
  have hver := hi.ok.v100
  clear h hi hbd hv hv1 h64 h1 hE1 hA hb1 hrk hw1 hg hltΨ
  by_cases h1 : kd = 1
  . subst h1
    have PL := place_any l z x y w1 r1 r2 r3 r4
    have hko := place_ok l z x y
    generalize pk l 4 = kl at PL hko
    generalize pk x ((2 : Int) ^ (pk z 23).toNat) = kx at PL hko
    generalize pk y ((2 : Int) ^ (pk z 23).toNat) = ky at PL hko
    generalize pk z 23 = kz at PL hko
    have hrk := unhide HRK
    go_enter Tryz.func24,Tryz.ntmps24
    go_wp2_with (first | (refine wlV _ _ (unhide BXR _ _ _ rfl rfl) rfl ?_) | refine ldG 39 #[.int .i64 l,.int .i64 z,.int .i64 x,.int .i64 y] Tryz.underlying39 rfl (sz39 _ _ _ _) g 2 hrk rfl _ rfl rfl ?_)
    refine PL.mono ?_
    rintro e w2 ⟨rfl,hb2⟩
    obtain ⟨w3,hw3⟩ : ∃ w3,w2.alloc (.cells #[.int .i64 0,.int .i64 0,.int .i64 0,.int .i64 0] 39) = w3 := ⟨_,rfl⟩
    have hb3 : Below w2.heap.size w2 w3 := hw3 ▸ (Below.refl w2.heap.size w2).alloc (Nat.le_refl _) (.cells #[.int .i64 0,.int .i64 0,.int .i64 0,.int .i64 0] 39)
    have hA3 : w3.heap[w2.heap.size]? = some (.cells #[.int .i64 0,.int .i64 0,.int .i64 0,.int .i64 0] 39 (0,0)) := hw3 ▸ heap_alloc_new w2 (.cells #[.int .i64 0,.int .i64 0,.int .i64 0,.int .i64 0] 39 (0,0))
    have hsz2 := hb2.size
    obtain ⟨g1,hg1⟩ : ∃ g1,w2.heap.size = g1 := ⟨_,rfl⟩
    have HAL := hide (show ∀ (ev : Operand -> Value) (o : Oper),o.op = .alloc 39 -> (execOp ev o).run Tryz.prog w2 = .ok (.value (.pointer (some ⟨g1,0,none⟩))) w3 from fun ev o q => hg1 ▸ al39 ev o q w2 w3 hw3)
    rw [hg1] at hA3
    obtain ⟨w4,hw4⟩ : ∃ w4,w3.setRow g1 #[.int .i64 kl,.int .i64 kz,.int .i64 kx,.int .i64 ky] = w4 := ⟨_,rfl⟩
    have hA4 : w4.heap[g1]? = some (.cells #[.int .i64 kl,.int .i64 kz,.int .i64 kx,.int .i64 ky] 39 (0,0)) := hw4 ▸ setRow_heap _ _ _ #[.int .i64 kl,.int .i64 kz,.int .i64 kx,.int .i64 ky] _ _ hA3
    have hb4 : Below w1.heap.size w1 w4 := hw4 ▸ below_setRow (hb2.trans (hb3.mono hsz2)) (by omega) #[.int .i64 kl,.int .i64 kz,.int .i64 kx,.int .i64 ky]
    have HST := hide (show ∀ (ev : Operand -> Value) (o : Oper) (s t : Operand),o.op = .store 39 s t -> ev s = .pointer (some ⟨g1,0,none⟩) -> ev t = .agg #[.int .i64 kl,.int .i64 kz,.int .i64 kx,.int .i64 ky] -> (execOp ev o).run Tryz.prog w3 = .ok .skip w4 from fun ev o s t q q1 q2 => hw4 ▸ stR ev o s t 39 q #[.int .i64 kl,.int .i64 kz,.int .i64 kx,.int .i64 ky] #[.int .i64 0,.int .i64 0,.int .i64 0,.int .i64 0] (sz39 _ _ _ _) (key_one _ _ _ _) rfl g1 q1 q2 w3 hA3)
    have hr4 : w4.rangeAt g1 0 #[.int .i64 kl,.int .i64 kz,.int .i64 kx,.int .i64 ky].toList := rng_blk hA4
    have hE4 := (unhide HH1).on hb4
    have PR := Print_key ⟨kl,kz,kx,ky⟩ hko w4 (by obtain ⟨_,_,_,_,q⟩ := hE4; exact q.fro.glb)
    have c04 : w4.cell? ⟨g,0,none⟩ = some (.int .i64 1) := (hb4.cell (p := ⟨g,0,none⟩) hgl).trans q0
    have HE4 := hide hE4
    have HA4 := hide hA4
    have HB4 := hide hb4
    clear hb2 hw3 hb3 hA3 hw4 hA4 hb4 hE4 PL hg1 hsz2 hrk
    go_wp2_with (first | refine wlV _ _ (unhide HAL _ _ rfl) rfl ?_ | refine wlSk _ (unhide HST _ _ _ _ rfl rfl rfl) rfl ?_ | refine ldG 39 #[.int .i64 kl,.int .i64 kz,.int .i64 kx,.int .i64 ky] Tryz.underlying39 rfl (sz39 _ _ _ _) g1 0 hr4 rfl _ rfl rfl ?_)
    refine PR.mono ?_
    rintro e w5 ⟨⟨P,rfl,_,hPs⟩,hb5⟩
    have hE := (unhide HE4).on hb5
    have hlt4 : g < w4.heap.size := by have := (unhide HB4).size; omega
    have c05 : w5.cell? ⟨g,0,none⟩ = some (.int .i64 1) := (hb5.cell (p := ⟨g,0,none⟩) hlt4).trans c04
    have hPm : P.size <= maxLen := by unfold maxLen; omega
    have AR := arrive_any n w0 bb fb F M P ⟨#[]⟩ w5 hE (unhide HI) (unhide HBD) (by omega) (hPm)
    clear hb5 hE HE4 PR hr4 HAL HST c04 HA4 HB4
    go_wp2_with fail
    refine AR.mono ?_
    rintro e wz ⟨rfl,hz⟩
    have HQ : Hid (StepR w0 bb fb n wz) := ⟨_,_,hz,(unhide HI).arrB (p := (F,M)) (named_prs P) ⟨#[]⟩,(unhide HBD).arrB (p := (F,M)) _ _ ⟨#[]⟩⟩
    clear hz AR
    go_wp2_with fail
    exact bodyPost_end (results_none Tryz.results24 _ _ _) rfl ⟨rfl,unhide HQ⟩
  by_cases h2 : kd = 2
  . subst h2
    have PL := place_any l z x y w1 r1 r2 r3 r4
    have hko := place_ok l z x y
    generalize pk l 4 = kl at PL hko
    generalize pk x ((2 : Int) ^ (pk z 23).toNat) = kx at PL hko
    generalize pk y ((2 : Int) ^ (pk z 23).toNat) = ky at PL hko
    generalize pk z 23 = kz at PL hko
    have hrk := unhide HRK
    go_enter Tryz.func24,Tryz.ntmps24
    go_wp2_with (first | (refine wlV _ _ (unhide BXR _ _ _ rfl rfl) rfl ?_) | refine ldG 39 #[.int .i64 l,.int .i64 z,.int .i64 x,.int .i64 y] Tryz.underlying39 rfl (sz39 _ _ _ _) g 2 hrk rfl _ rfl rfl ?_)
    refine PL.mono ?_
    rintro e w2 ⟨rfl,hb2⟩
    obtain ⟨w3,hw3⟩ : ∃ w3,w2.alloc (.cells #[.int .i64 0,.int .i64 0,.int .i64 0,.int .i64 0] 39) = w3 := ⟨_,rfl⟩
    have hb3 : Below w2.heap.size w2 w3 := hw3 ▸ (Below.refl w2.heap.size w2).alloc (Nat.le_refl _) (.cells #[.int .i64 0,.int .i64 0,.int .i64 0,.int .i64 0] 39)
    have hA3 : w3.heap[w2.heap.size]? = some (.cells #[.int .i64 0,.int .i64 0,.int .i64 0,.int .i64 0] 39 (0,0)) := hw3 ▸ heap_alloc_new w2 (.cells #[.int .i64 0,.int .i64 0,.int .i64 0,.int .i64 0] 39 (0,0))
    have hsz2 := hb2.size
    obtain ⟨g1,hg1⟩ : ∃ g1,w2.heap.size = g1 := ⟨_,rfl⟩
    have HAL := hide (show ∀ (ev : Operand -> Value) (o : Oper),o.op = .alloc 39 -> (execOp ev o).run Tryz.prog w2 = .ok (.value (.pointer (some ⟨g1,0,none⟩))) w3 from fun ev o q => hg1 ▸ al39 ev o q w2 w3 hw3)
    rw [hg1] at hA3
    obtain ⟨w4,hw4⟩ : ∃ w4,w3.setRow g1 #[.int .i64 kl,.int .i64 kz,.int .i64 kx,.int .i64 ky] = w4 := ⟨_,rfl⟩
    have hA4 : w4.heap[g1]? = some (.cells #[.int .i64 kl,.int .i64 kz,.int .i64 kx,.int .i64 ky] 39 (0,0)) := hw4 ▸ setRow_heap _ _ _ #[.int .i64 kl,.int .i64 kz,.int .i64 kx,.int .i64 ky] _ _ hA3
    have hb4 : Below w1.heap.size w1 w4 := hw4 ▸ below_setRow (hb2.trans (hb3.mono hsz2)) (by omega) #[.int .i64 kl,.int .i64 kz,.int .i64 kx,.int .i64 ky]
    have HST := hide (show ∀ (ev : Operand -> Value) (o : Oper) (s t : Operand),o.op = .store 39 s t -> ev s = .pointer (some ⟨g1,0,none⟩) -> ev t = .agg #[.int .i64 kl,.int .i64 kz,.int .i64 kx,.int .i64 ky] -> (execOp ev o).run Tryz.prog w3 = .ok .skip w4 from fun ev o s t q q1 q2 => hw4 ▸ stR ev o s t 39 q #[.int .i64 kl,.int .i64 kz,.int .i64 kx,.int .i64 ky] #[.int .i64 0,.int .i64 0,.int .i64 0,.int .i64 0] (sz39 _ _ _ _) (key_one _ _ _ _) rfl g1 q1 q2 w3 hA3)
    have hr4 : w4.rangeAt g1 0 #[.int .i64 kl,.int .i64 kz,.int .i64 kx,.int .i64 ky].toList := rng_blk hA4
    have hE4 := (unhide HH1).on hb4
    have PR := Print_key ⟨kl,kz,kx,ky⟩ hko w4 (by obtain ⟨_,_,_,_,q⟩ := hE4; exact q.fro.glb)
    have c04 : w4.cell? ⟨g,0,none⟩ = some (.int .i64 2) := (hb4.cell (p := ⟨g,0,none⟩) hgl).trans q0
    have HE4 := hide hE4
    have HA4 := hide hA4
    have HB4 := hide hb4
    clear hb2 hw3 hb3 hA3 hw4 hA4 hb4 hE4 PL hg1 hsz2 hrk
    go_wp2_with (first | refine wlV _ _ (unhide HAL _ _ rfl) rfl ?_ | refine wlSk _ (unhide HST _ _ _ _ rfl rfl rfl) rfl ?_ | refine ldG 39 #[.int .i64 kl,.int .i64 kz,.int .i64 kx,.int .i64 ky] Tryz.underlying39 rfl (sz39 _ _ _ _) g1 0 hr4 rfl _ rfl rfl ?_)
    refine PR.mono ?_
    rintro e w5 ⟨⟨P,rfl,_,hPs⟩,hb5⟩
    have hE := (unhide HE4).on hb5
    have hlt4 : g < w4.heap.size := by have := (unhide HB4).size; omega
    have c05 : w5.cell? ⟨g,0,none⟩ = some (.int .i64 2) := (hb5.cell (p := ⟨g,0,none⟩) hlt4).trans c04
    have hPm : P.size <= maxLen := by unfold maxLen; omega
    have GV := given_any n w0 bb fb F M kl kz kx ky w5 hE (unhide HI) (unhide HBD) (by omega)
    have hr5 : w5.rangeAt g1 0 #[.int .i64 kl,.int .i64 kz,.int .i64 kx,.int .i64 ky].toList := rng_blk (blk_on (unhide HA4) hb5)
    have HE5 := hide hE
    clear hb5 hE HE4 PR hr4 HAL HST c04 HA4 HB4
    go_wp2_with (refine ldG 39 #[.int .i64 kl,.int .i64 kz,.int .i64 kx,.int .i64 ky] Tryz.underlying39 rfl (sz39 _ _ _ _) g1 0 hr5 rfl _ rfl rfl ?_)
    refine GV.mono ?_
    rintro e w6 ⟨⟨tg,rfl⟩,hb6⟩
    have hE := (unhide HE5).on hb6
    have AR := arrive_any n w0 bb fb F M P tg w6 hE (unhide HI) (unhide HBD) (by omega) (hPm)
    clear hb6 hE HE5 GV hr5
    go_wp2_with fail
    refine AR.mono ?_
    rintro e wz ⟨rfl,hz⟩
    have HQ : Hid (StepR w0 bb fb n wz) := ⟨_,_,hz,(unhide HI).arrB (p := (F,M)) (named_prs P) tg,(unhide HBD).arrB (p := (F,M)) _ _ tg⟩
    clear hz AR
    go_wp2_with fail
    exact bodyPost_end (results_none Tryz.results24 _ _ _) rfl ⟨rfl,unhide HQ⟩
  by_cases h3 : kd = 3
  . subst h3
    have hE := unhide HH1
    have q6 : w1.cell? ⟨g,6,none⟩ = some (.string S) := (blk_cells (unhide HA) 6).trans rfl
    have q7 : w1.cell? ⟨g,7,none⟩ = some (.string T) := (blk_cells (unhide HA) 7).trans rfl
    have AR := arrive_any n w0 bb fb F M S T w1 hE (unhide HI) (unhide HBD) (by omega) (hSz)
    clear hE
    go_enter Tryz.func24,Tryz.ntmps24
    go_wp2_with (refine wlV _ _ (unhide BXR _ _ _ rfl rfl) rfl ?_)
    refine AR.mono ?_
    rintro e wz ⟨rfl,hz⟩
    have HQ : Hid (StepR w0 bb fb n wz) := ⟨_,_,hz,(unhide HI).arrB (p := (F,M)) (named_prs S) T,(unhide HBD).arrB (p := (F,M)) _ _ T⟩
    clear hz AR
    go_wp2_with fail
    exact bodyPost_end (results_none Tryz.results24 _ _ _) rfl ⟨rfl,unhide HQ⟩
  by_cases h4 : kd = 4
  . subst h4
    obtain ⟨s1,s2,s3,s4,s5,s6,s7⟩ := (unhide HBD).said (unhide HI)
    go_enter Tryz.func24,Tryz.ntmps24
    go_wp2_with (refine wlV _ _ (unhide BXR _ _ _ rfl rfl) rfl ?_)
    refine wp_region_held (S := fun w' => w'.cell? ⟨bb,0,none⟩ = some (.pointer (some ⟨fb,0,none⟩)) /\ w'.cell? ⟨g,1,none⟩ = some (.int .i64 a)) (by kernel_rfl) ?_
    change wpAnyH _ _ _ _ _ _ _ _ (World.drew _)
    have hbD := Below.drew (Below.refl w1.heap.size w1)
    have hSd := (unhide HS1).on hbD
    have hAd := blk_on (unhide HA) hbD
    clear hbD HS1 HA
    generalize World.drew w1 = w2 at hSd hAd ⊢
    have SF : ∀ {W : World},BBlk W bb B -> W.heap[g]? = some (.cells #[.int .i64 4,.int .i64 a,.int .i64 l,.int .i64 z,.int .i64 x,.int .i64 y,.string S,.string T,.slice bo bn bc] 63 (0,0)) -> W.cell? ⟨bb,0,none⟩ = some (.pointer (some ⟨fb,0,none⟩)) /\ W.cell? ⟨g,1,none⟩ = some (.int .i64 a) := fun e1 e2 => ⟨by rw [<- hSd.bk.num.fb]; exact e1.cells 0,(blk_cells e2 1).trans rfl⟩
    have hS := SF hSd.bk.blk hAd
    have WK : Calls Tryz.prog 25 #[.pointer (some ⟨fb,0,none⟩),.int .i64 a] w2 fun e w' => ∃ v,e = .returned v /\ FPost w2 fb Ψ1 (wrk F a).1 (wrk F a).2 v w' := Work_any fb Ψ1 F a w2 hSd.fro (unhide HI).ok (by omega)
    refine t_tk 0 rfl (.pointer (some ⟨bb,0,none⟩)) (by kernel_rfl) (fun _ _ _ h => h) rfl (fun w' hw' => by simp [go_sem]) hS ?_
    simp only [Act.put,qA,qB,qC]
    refine t_tk 1 rfl (.pointer (some ⟨bb,0,none⟩)) (by kernel_rfl) (fun _ _ _ h => h) rfl (fun w' hw' => by simp [go_sem]) hS ?_
    simp only [Act.put,qA,qB,qC]
    refine t_tk 2 rfl (.pointer (some ⟨bb,0,none⟩)) (by kernel_rfl) (fun _ _ _ h => h) rfl (fun w' hw' => by simp [go_sem]) hS ?_
    simp only [Act.put,qA,qB,qC]
    refine t_tk 3 rfl (.pointer (some ⟨fb,0,none⟩)) (by kernel_rfl) (fun _ _ _ h => h) rfl (fun w' hw' => by simp [go_sem,hw'.1]) hS ?_
    simp only [Act.put,qA,qB,qC]
    refine t_tk 4 rfl (.pointer (some ⟨g,1,none⟩)) (by kernel_rfl) (fun _ _ _ h => h) rfl (fun w' hw' => by simp [go_sem]) hS ?_
    simp only [Act.put,qA,qB,qC]
    refine t_tk 5 rfl (.int .i64 a) (by kernel_rfl) (fun _ _ _ h => h) rfl (fun w' hw' => by simp [go_sem,hw'.2]) hS ?_
    simp only [Act.put,qA,qB,qC]
    refine wpAnyH_all (rs := [6]) (by kernel_rfl) (by simp) ?_
    intro i hi
    simp only [List.mem_singleton] at hi
    subst hi
    refine t_callE 6 rfl rfl 25 #[.pointer (some ⟨fb,0,none⟩),.int .i64 a] (by simp [go_sem]) _ WK ?_
    rintro rv w3 hP
    have h3 := hSd.after hP (wrk_like F a)
    have hA3 := blk_frm hAd hP.frm (fun q => by have := unhide HLT g q; omega)
    have hS3 := SF h3.bk.blk hA3
    refine ⟨hS3,?_⟩
    simp only [Act.put,qA,qB,qC]
    obtain ⟨ra,rn,rc,hrv⟩ := hP.rep.sl
    subst hrv
    refine t_tk 7 rfl (.slice ra rn rc) (by kernel_rfl) (fun _ _ _ h => h) rfl (fun w' hw' => by simp [go_sem]) hS3 ?_
    simp only [Act.put,qA,qB,qC]
    refine wpAnyH_done (by kernel_rfl) ?_ _
    obtain ⟨v1,v2,v3⟩ := (unhide HI).wrk a
    obtain ⟨b1,b2,b3,b4⟩ := (unhide HBD).heard (unhide HI) (by omega) v3
    have hlk := wrk_like F a
    have HE := hear_any w0 bb fb (wrk F a).1 M 4 _ (wrk F a).2 w3 ⟨_,_,_,_,h3⟩ hP.rep v2 (by rw [hlk.ver]; exact hver) b1 b2 ⟨b3,b4⟩
    rw [hlk.ver,hlk.now] at HE
    have HINV := hide v1
    have HLK := hide hlk
    clear hSd hAd SF hS WK hP h3 hA3 hS3 v1 v2 v3 b1 b2 b3 b4 hlk
    go_wp2_with fail
    refine HE.mono ?_
    rintro e wz ⟨rfl,hz⟩
    have HQ : Hid (StepR w0 bb fb n wz) := ⟨_,_,hz,unhide HINV,(unhide HBD).hear (by rw [(unhide HLK).now]; have := (unhide HBD).now; omega) (by rw [wrk_arr]; have := (unhide HBD).arr; omega) (by rw [wrk_arr]; exact Nat.le_refl _) _⟩
    clear hz HE
    go_wp2_with fail
    exact bodyPost_end (results_none Tryz.results24 _ _ _) rfl ⟨rfl,unhide HQ⟩
  by_cases h5 : kd = 5
  . subst h5
    have WB := write_any w0 bb fb F M (.slice bo bn bc) bn es w1 (unhide HH1) (unhide HI) (unhide HV1) (unhide H64)
    have q8 : w1.cell? ⟨g,8,none⟩ = some (.slice bo bn bc) := (blk_cells (unhide HA) 8).trans rfl
    go_enter Tryz.func24,Tryz.ntmps24
    go_wp2_with (refine wlV _ _ (unhide BXR _ _ _ rfl rfl) rfl ?_)
    refine WB.mono ?_
    rintro e wz ⟨rfl,hz⟩
    have HQ : Hid (StepR w0 bb fb n wz) := by
      rcases hz with hz | ⟨LS',FL0,z1,_,_,z2,hz⟩
      . exact ⟨_,_,hz,unhide HI,(unhide HBD).mono (by omega)⟩
      . exact ⟨_,_,hz,(unhide HI).write z1 z2,⟨by have := (unhide HBD).now; show F.now <= _; omega,by have := (unhide HBD).arr; show F.arrived <= _; omega,(unhide HBD).joi,(unhide HBD).sum⟩⟩
    clear hz WB
    go_wp2_with fail
    exact bodyPost_end (results_none Tryz.results24 _ _ _) rfl ⟨rfl,unhide HQ⟩
  by_cases h6 : kd = 6
  . subst h6
    obtain ⟨k1,k2,k3⟩ := (unhide HS1).ticked
    have hnow := (unhide HBD).now
    have c7 : w1.cell? ⟨bb,7,none⟩ = some (.int .i64 F.now) := (unhide HS1).cs.2.2.2.2.2.1
    have fz7 := frzB (unhide HS1).bk.blk 7
    obtain ⟨w2,hw2⟩ : ∃ w2,w1.setCell ⟨bb,7,none⟩ (.int .i64 ((F.now : Int) + 1)) = w2 := ⟨_,rfl⟩
    rw [hw2] at k1 k2 k3
    have c02 : w2.cell? ⟨bb,0,none⟩ = some (.pointer (some ⟨fb,0,none⟩)) := by rw [<- (unhide HS1).bk.num.fb]; exact k2.cells 0
    have TC := Tick_any fb _ F w2 k1 (unhide HI).ok (by omega)
    have hov : IntKind.i64.wrap ((F.now : Int) + 1) = (F.now : Int) + 1 := i64_of _ (by omega)
    have hnb : (0 : Int) <= (F.now : Int) /\ (F.now : Int) <= 1500000000000 := by omega
    have HW2 := hide hw2
    have HK3 := hide k3
    clear k1 k2 k3 hw2
    go_enter Tryz.func24,Tryz.ntmps24
    go_wp2_with (first | refine wlV _ _ (unhide BXR _ _ _ rfl rfl) rfl ?_ | refine wlSk w2 (stI _ _ _ _ rfl bb 7 ((F.now : Int) + 1) rfl (by simp [go_sem]) w1 w2 c7 fz7 (unhide HW2)) rfl ?_)
    refine TC.mono ?_
    rintro e w3 ⟨rv,rfl,hP⟩
    obtain ⟨b1,b2,b3,b4⟩ := (unhide HBD).heard (unhide HI) (by omega) (tick_len F)
    have HE := hear_any w0 bb fb F.tick.1 M 6 rv F.tick.2 w3 (unhide HK3 _ _ _ hP) hP.rep (unhide HI).validT hver b1 b2 ⟨b3,b4⟩
    obtain ⟨ra,rn,rc,rfl⟩ := hP.rep.sl
    clear hP TC b1 b2 b3 b4
    go_wp2_with fail
    refine HE.mono ?_
    rintro e wz ⟨rfl,hz⟩
    have HQ : Hid (StepR w0 bb fb n wz) := by
      refine ⟨_,_,hz,?_,(unhide HBD).hear (G := F.tick.1) (by show F.now + 1 <= _; omega) (by have := (unhide HBD).arr; show F.arrived <= _; omega) (Nat.le_refl _) _⟩
      have := (unhide HI).tick
      rw [show ((F.now : Int) + 1) = (F.tick.1.now : Int) from by show _ = ((F.now + 1 : Nat) : Int); omega] at this
      exact this
    clear hz HE
    go_wp2_with fail
    exact bodyPost_end (results_none Tryz.results24 _ _ _) rfl ⟨rfl,unhide HQ⟩
  have e1 : (kd == 1) = false := by simpa using h1
  have e2 : (kd == 2) = false := by simpa using h2
  have e3 : (kd == 3) = false := by simpa using h3
  have e4 : (kd == 4) = false := by simpa using h4
  have e5 : (kd == 5) = false := by simpa using h5
  have e6 : (kd == 6) = false := by simpa using h6
  have HQ : Hid (StepR w0 bb fb n w1) := ⟨_,_,unhide HH1,unhide HI,(unhide HBD).mono (by omega)⟩
  go_enter Tryz.func24,Tryz.ntmps24
  go_wp2_with (refine wlV _ _ (unhide BXR _ _ _ rfl rfl) rfl ?_)
  exact bodyPost_end (results_none Tryz.results24 _ _ _) rfl ⟨rfl,unhide HQ⟩
structure Stp where
  kd : Int
  a : Int
  l : Int
  z : Int
  x : Int
  y : Int
  S : ByteArray
  T : ByteArray
  bo : Option Addr
  bn : Nat
  bc : Nat
  es : Nat -> Nat -> Int
def Stp.c (s : Stp) : Array Value := #[.int .i64 s.kd,.int .i64 s.a,.int .i64 s.l,.int .i64 s.z,.int .i64 s.x,.int .i64 s.y,.string s.S,.string s.T,.slice s.bo s.bn s.bc]
structure StpOk (w : World) (s : Stp) : Prop where
  l : -9223372036854775808 <= s.l /\ s.l <= 9223372036854775807
  z : -9223372036854775808 <= s.z /\ s.z <= 9223372036854775807
  x : -9223372036854775808 <= s.x /\ s.x <= 9223372036854775807
  y : -9223372036854775808 <= s.y /\ s.y <= 9223372036854775807
  S : s.S.size <= maxLen
  b : CsAt 25 w (.slice s.bo s.bn s.bc) s.bn s.es
  e : ∀ i,i < s.bn -> ∀ j,j < 25 -> -9223372036854775808 <= s.es i j /\ s.es i j <= 9223372036854775807
structure ScAt (w : World) (oa : Option Addr) (cap : Nat) (L : List Stp) : Prop where
  len : L.length <= 1400000000000
  at_ : 0 < L.length -> ∃ b off,oa = some ⟨b,off,none⟩ /\ b < w.heap.size /\ ∀ (i : Nat) (s : Stp),L[i]? = some s -> w.rangeAt b (off + i * 9) s.c.toList
  ok : ∀ (i : Nat) (s : Stp),L[i]? = some s -> StpOk w s
theorem sz63 (kd a l z x y : Int) (S T : ByteArray) (bo : Option Addr) (bn bc : Nat) : (Tryz.prog.info? 63).map (·.size) = some (#[.int .i64 kd,.int .i64 a,.int .i64 l,.int .i64 z,.int .i64 x,.int .i64 y,.string S,.string T,.slice bo bn bc] : Array Value).size := by kernel_rfl
def LookC : Prop := ∀ (n : Nat) (w0 : Bas) (bb fb : Nat) (F : FM) (M : BM) (w : World),StE w0 w bb fb F M -> Inv Oz F M -> Bd n F M -> n <= 1410000000000 ->
  (Calls Tryz.prog 13 #[.pointer (some ⟨bb,0,none⟩)] w fun e w' => e = .returned (.bool true) /\ Below w.heap.size w w') /\ (Calls Tryz.prog 14 #[.pointer (some ⟨bb,0,none⟩)] w fun e w' => e = .returned (.bool true) /\ Below w.heap.size w w')
def PlayR (w : World) (n : Nat) (e : Ending) (w' : World) : Prop := ∃ (w0 : Bas) (bb fb : Nat) (F : FM) (M : BM),e = .returned (.pointer (some ⟨bb,0,none⟩)) /\ BelB w w0 /\ StE w0 w' bb fb F M /\ Inv Oz F M /\ Bd n F M
set_option maxHeartbeats 12800000 in
theorem play_any (q wk wt ca ch : Int) (oa : Option Addr) (cap : Nat) (L : List Stp) (look : Bool) (hlook : look = true -> LookC) (w : World) (rq : -9223372036854775808 <= q /\ q <= 9223372036854775807) (rwk : -9223372036854775808 <= wk /\ wk <= 9223372036854775807) (rwt : -9223372036854775808 <= wt /\ wt <= 9223372036854775807) (rca : -9223372036854775808 <= ca /\ ca <= 9223372036854775807) (rch : -9223372036854775808 <= ch /\ ch <= 9223372036854775807) (hg : Glb w) (hs : ScAt w oa cap L) :
    Calls Tryz.prog 8 #[.agg #[.int .i64 q,.int .i64 wk,.int .i64 wt,.int .i64 ca,.int .i64 ch],.slice oa L.length cap,.bool look] w fun e w' => PlayR w L.length e w' := by
  obtain ⟨w1,hw1⟩ : ∃ w1,w.alloc (.cells #[.int .i64 q,.int .i64 wk,.int .i64 wt,.int .i64 ca,.int .i64 ch] 23) = w1 := ⟨_,rfl⟩
  have hA : w1.heap[w.heap.size]? = some (.cells #[.int .i64 q,.int .i64 wk,.int .i64 wt,.int .i64 ca,.int .i64 ch] 23 (0,0)) := hw1 ▸ heap_alloc_new w (.cells #[.int .i64 q,.int .i64 wk,.int .i64 wt,.int .i64 ca,.int .i64 ch] 23 (0,0))
  have hb1 : Below w.heap.size w w1 := hw1 ▸ (Below.refl w.heap.size w).alloc (Nat.le_refl _) (.cells #[.int .i64 q,.int .i64 wk,.int .i64 wt,.int .i64 ca,.int .i64 ch] 23)
  have hrg' : (w.alloc (.cells #[.int .i64 q,.int .i64 wk,.int .i64 wt,.int .i64 ca,.int .i64 ch] 23)).rangeAt w.heap.size 0 (#[.int .i64 q,.int .i64 wk,.int .i64 wt,.int .i64 ca,.int .i64 ch] : Array Value).toList := by rw [hw1]; exact rng_blk hA
  have OP := opened_any q wk wt ca ch w1 rq rwk rwt rca rch (hg.on hb1)
  rw [<- hw1] at OP
  have HW1 := hide hw1
  have HB1 := hide hb1
  have HS := hide hs
  have hln := hs.len
  have HLK := hide hlook
  clear hw1 hA hb1 hg rq rwk rwt rca rch hs hlook
  go_enter Tryz.func8,Tryz.ntmps8
  go_wp2_with (refine ldG 23 #[.int .i64 q,.int .i64 wk,.int .i64 wt,.int .i64 ca,.int .i64 ch] Tryz.underlying23 rfl (sz23 _ _ _ _ _) w.heap.size 0 hrg' rfl _ rfl rfl ?_)
  refine OP.mono ?_
  rintro e w2 ⟨b0,bb,fb,F0,rfl,hbb,hst,hi,hbd⟩
  clear OP hrg'
  rw [unhide HW1] at hbb
  have HBB := hide hbb
  clear hbb
  have HST := hide (show ∃ F M,StE b0 w2 bb fb F M /\ Inv Oz F M /\ Bd 0 F M from ⟨F0,newB,hst,hi,hbd⟩)
  clear hst hi hbd HW1
  go_wp2_with fail
  go_loopw [8,9,10] (fun i _ _ wr => ∃ k : Nat,k <= L.length /\ i = .int .i64 k /\ Hid (∃ F M,StE b0 wr bb fb F M /\ Inv Oz F M /\ Bd k F M)) (fun i _ _ _ => L.length - (intOf i).toNat)
  case atStart => exact ⟨0,by omega,rfl,hide (unhide HST)⟩
  case round =>
    obtain ⟨k,hk,rfl,hr⟩ := hrel
    by_cases hlt : k < L.length
    . have hkn : (k : Int) < L.length := by omega
      obtain ⟨⟨kd,a,l,z,x,y,S,T,bo,bn,bc,es⟩,hLk⟩ : ∃ s,L[k]? = some s := ⟨_,List.getElem?_eq_getElem hlt⟩
      obtain ⟨b,off,rfl,hbl,hc⟩ := (unhide HS).at_ (by omega)
      obtain ⟨k1,k2,k3,k4,k5,k6,k7⟩ := (unhide HS).ok k _ hLk
      obtain ⟨F,M,hst,hi,hbd⟩ := unhide hr
      have hbel : Below w1.heap.size w1 wr := hst.below (unhide HBB)
      have hbw : Below w.heap.size w wr := (unhide HB1).trans (hbel.mono (unhide HB1).size)
      have hrg : wr.rangeAt b (off + k * 9) (#[.int .i64 kd,.int .i64 a,.int .i64 l,.int .i64 z,.int .i64 x,.int .i64 y,.string S,.string T,.slice bo bn bc] : Array Value).toList := rng_in (hc k _ hLk) hbw hbl
      have SP := bstep_any k b0 bb fb F M kd a l z x y S T bo bn bc es wr hst hi hbd (by omega) k1 k2 k3 k4 k5 (k6.on hbw) k7
      have HC := hide (hc k _ hLk)
      clear hst hi hbd hbel hbw k1 k2 k3 k4 k5 k6 k7 hc
      go_wp2_with (refine ldG 63 #[.int .i64 kd,.int .i64 a,.int .i64 l,.int .i64 z,.int .i64 x,.int .i64 y,.string S,.string T,.slice bo bn bc] Tryz.underlying63 rfl (sz63 _ _ _ _ _ _ _ _ _ _ _) b (off + k * 9) hrg rfl _ rfl rfl ?_)
      refine SP.mono ?_
      rintro e w3 ⟨rfl,F',M',hst,hi,hbd⟩
      have hbel : Below w1.heap.size w1 w3 := hst.below (unhide HBB)
      have hbw : Below w.heap.size w w3 := (unhide HB1).trans (hbel.mono (unhide HB1).size)
      have hrg3 := rng_in (unhide HC) hbw hbl
      have ckd : w3.cell? ⟨b,off + k * 9,none⟩ = some (.int .i64 kd) := by
        have := hrg3 0 (.int .i64 kd) rfl
        simpa using this
      have c12 : w3.cell? ⟨bb,12,none⟩ = some (.bool false) := by obtain ⟨_,_,_,_,h⟩ := hst; exact h.bk.blk.cells 12
      have HN := hide (show ∃ F M,StE b0 w3 bb fb F M /\ Inv Oz F M /\ Bd (k + 1) F M from ⟨F',M',hst,hi,hbd⟩)
      clear SP hst hi hbd hbel hbw hrg3 hrg
      by_cases hl : look = true
      . have HLC := hide (unhide HLK hl)
        clear HLK
        subst hl
        by_cases h7 : kd = 7
        . subst h7
          obtain ⟨F2,M2,hst,hi,hbd⟩ := unhide HN
          have BO := (unhide HLC (k + 1) b0 bb fb F2 M2 w3 hst hi hbd (by omega)).1
          have HST2 := hide hst
          have HI2 := hide hi
          have HBD2 := hide hbd
          clear hst hi hbd
          go_wp2_with fail
          refine BO.mono ?_
          rintro e w4 ⟨rfl,hb4⟩
          have hst4 := (unhide HST2).on hb4
          have SI := (unhide HLC (k + 1) b0 bb fb F2 M2 w4 hst4 (unhide HI2) (unhide HBD2) (by omega)).2
          have HST4 := hide hst4
          clear BO hb4 hst4
          go_wp2_with fail
          refine SI.mono ?_
          rintro e w5 ⟨rfl,hb5⟩
          have HN5 := hide (show ∃ F M,StE b0 w5 bb fb F M /\ Inv Oz F M /\ Bd (k + 1) F M from ⟨F2,M2,(unhide HST4).on hb5,unhide HI2,unhide HBD2⟩)
          clear SI hb5
          go_wp2_with fail
          go_roundw
          case rel => exact ⟨k + 1,by omega,by go_num,hide (unhide HN5)⟩
          case measure => simp [intOf]; omega
        . have e7 : (kd == 7) = false := by simpa using h7
          go_wp2_with fail
          go_roundw
          case rel => exact ⟨k + 1,by omega,by go_num,hide (unhide HN)⟩
          case measure => simp [intOf]; omega
      . obtain rfl : look = false := by simpa using hl
        go_wp2_with fail
        go_roundw
        case rel => exact ⟨k + 1,by omega,by go_num,hide (unhide HN)⟩
        case measure => simp [intOf]; omega
    . have hkn : ¬ (k : Int) < L.length := by omega
      have hkl : k = L.length := by omega
      have HQ : Hid (PlayR w L.length (.returned (.pointer (some ⟨bb,0,none⟩))) wr) := by
        obtain ⟨F,M,h1,h2,h3⟩ := unhide hr
        exact ⟨b0,bb,fb,F,M,rfl,BelB.pre (unhide HB1) (unhide HBB),h1,h2,hkl ▸ h3⟩
      clear hr hkl
      go_wp2_with fail
      go_ret
      exact unhide HQ
end Go.Proofs.YtpopchckldbhdaaGreatDoor
namespace Go.Proofs.YtpopchckldbhdaaGreatDoor
set_option maxRecDepth 20000
open Go.ChangeShapes Go.WideShapes Go.ChangeAt Go.RowKit
section
variable {H : Type} {enc : TypeId × Value -> H}
theorem add_add (a : Addr) (m j : Nat) (h : a.spot = none) : (a.add m).add j = ⟨a.block,a.off + m + j,none⟩ := by
  obtain ⟨b,o,s⟩ := a
  simp only at h
  subst h
  rw [Addr.add_mid,Addr.add_mid]
end
end Go.Proofs.YtpopchckldbhdaaGreatDoor
namespace Go.Proofs.YtpopchckldbhdaaGreatDoor
set_option maxRecDepth 20000
open Go.ChangeShapes Go.WideShapes Go.ChangeAt Go.RowKit Go.Joins
theorem cells90 : Tryz.prog.cellsOf 90 = 25 := by kernel_rfl
theorem cells63 : Tryz.prog.cellsOf 63 = 9 := by kernel_rfl
theorem cells61 : Tryz.prog.cellsOf 61 = 1 := by kernel_rfl
theorem cells9 : Tryz.prog.cellsOf 9 = 1 := by kernel_rfl
theorem cells23 : Tryz.prog.cellsOf 23 = 5 := by kernel_rfl
section
variable {H : Type} {enc : TypeId × Value -> H}
theorem edit_cells {w : World} {base : Nat} {sp : Nat -> Bool} {held : Bool} {n : Nat} {cs : List Value} {x : DataW H × List MemPlace} (h : DataW.trod enc Tryz.prog w base sp held n 90 cs = some x) :
    cs.length = 25 /\ ∀ j,j < 25 -> ∃ m,cs[j]? = some (.int .i64 m) /\ (Lit.int .i64 m).wf = true := by
  obtain ⟨xs,n1,_,_,hlen,hn,hel⟩ := DataW.trod_struct Tryz.underlying90 h
  rw [cells90] at hlen
  have hs : ∀ i,i < 2 -> (xs[i]?).isSome = true := by
    intro i hi
    have hx : xs.length = 2 := hn
    simp [hx,hi]
  have go0 : ∀ (fd : Field),fd.type = 3 -> fd.offset = 0 -> DataW.trod enc Tryz.prog w base sp held n1 fd.type ((cs.drop fd.offset).take (Tryz.prog.cellsOf fd.type)) = xs[0]? -> ∃ m,cs[0]? = some (.int .i64 m) /\ (Lit.int .i64 m).wf = true := by
    intro fd e1 e2 he
    rw [e1,e2,cells3] at he
    obtain ⟨z,hz⟩ := Option.isSome_iff_exists.1 (hs 0 (by omega))
    rw [hz] at he
    obtain ⟨k,e3,_,e4⟩ := DataW.trod_int Tryz.underlying3 he
    refine ⟨k,?_,e4⟩
    have h1 : ((cs.drop 0).take 1)[0]? = some (.int .i64 k) := by rw [e3]; rfl
    rw [List.getElem?_take_of_lt (by omega),List.getElem?_drop] at h1
    simpa using h1
  have go1 : ∀ (fd : Field),fd.type = 86 -> fd.offset = 1 -> DataW.trod enc Tryz.prog w base sp held n1 fd.type ((cs.drop fd.offset).take (Tryz.prog.cellsOf fd.type)) = xs[1]? -> ∀ j,j < 24 -> ∃ m,cs[1 + j]? = some (.int .i64 m) /\ (Lit.int .i64 m).wf = true := by
    intro fd e1 e2 he j hj
    rw [e1,e2,cells26] at he
    obtain ⟨z,hz⟩ := Option.isSome_iff_exists.1 (hs 1 (by omega))
    rw [hz] at he
    obtain ⟨_,h2⟩ := feat_cells he
    obtain ⟨m,hm,hw⟩ := h2 j hj
    rw [List.getElem?_take_of_lt hj,List.getElem?_drop] at hm
    exact ⟨m,hm,hw⟩
  refine ⟨hlen,fun j hj => ?_⟩
  by_cases c : j = 0
  . subst c; exact go0 _ rfl rfl (hel 0 _ rfl)
  . have := go1 _ rfl rfl (hel 1 _ rfl) (j - 1) (by omega)
    rwa [show 1 + (j - 1) = j by omega] at this
theorem edits_of {W : World} {base fuel : Nat} {cs : List Value} {x : DataW H × List MemPlace} (hf : DataW.trod enc Tryz.prog W base (fun _ => true) true fuel 61 cs = some x) :
    ∃ bo bn bc es,cs = [.slice bo bn bc] /\ CsAt 25 W (.slice bo bn bc) bn es /\ ∀ q,q < bn -> ∀ j,j < 25 -> -9223372036854775808 <= es q j /\ es q j <= 9223372036854775807 := by
  rcases Go.Deep.open_slice Tryz.underlying61 hf with ⟨e,_⟩ | ⟨a,len,cap,m,k,D,Pl,e,hb,hl,hcap,hm,hx,hel⟩
  . exact ⟨none,0,0,fun _ _ => 0,e,⟨none,0,rfl,Nat.zero_le _,fun h => absurd h (by omega)⟩,fun q hq => absurd hq (by omega)⟩
  . rw [if_pos rfl] at hm
    subst hm
    rw [cells90] at hel
    have each : ∀ i,∃ f : Nat -> Int,i < len -> ∀ j,j < 25 -> W.cell? ((a.add (i * 25)).add j) = some (.int .i64 (f j)) /\ -9223372036854775808 <= f j /\ f j <= 9223372036854775807 := by
      intro i
      by_cases hi : i < len
      . obtain ⟨cs',h1,h2⟩ := hel i (by omega)
        obtain ⟨g1,g2⟩ := edit_cells h2
        have hc : ∀ j,∃ q,j < 25 -> cs'[j]? = some (.int .i64 q) /\ (Lit.int .i64 q).wf = true := by
          intro j
          by_cases hj : j < 25
          . obtain ⟨q,hq⟩ := g2 j hj; exact ⟨q,fun _ => hq⟩
          . exact ⟨0,fun h => absurd h hj⟩
        refine ⟨fun j => Classical.choose (hc j),fun _ j hj => ?_⟩
        obtain ⟨q1,q2⟩ := Classical.choose_spec (hc j) hj
        have h3 := (World.cells?_some h1).2.2 j hj
        exact ⟨h3.trans q1,wf_64 q2⟩
      . exact ⟨fun _ => 0,fun h => absurd h hi⟩
    refine ⟨some a,len,m,fun i => Classical.choose (each i),e,⟨_,_,rfl,by omega,fun h0 => ?_⟩,fun i hi j hj => (Classical.choose_spec (each i) hi j hj).2⟩
    have hsp : a.spot = none := by
      have h1 := World.cell?_spot (Classical.choose_spec (each 0) h0 0 (by omega)).1
      simpa [Addr.add] using h1
    refine ⟨a.block,a.off,?_,?_,fun i hi j hj => ?_⟩
    . obtain ⟨b,o,s⟩ := a
      simp only at hsp
      subst hsp
      rfl
    . obtain ⟨cs',h1,_⟩ := hel 0 (by omega)
      have := World.cells?_block h1 (by omega)
      simpa [Addr.add] using this
    . have := (Classical.choose_spec (each i) hi j hj).1
      rw [add_add _ _ _ hsp] at this
      exact this
theorem take_one {l : List Value} {off : Nat} {v : Value} (h : (l.drop off).take 1 = [v]) : l[off]? = some v := by
  have h1 : ((l.drop off).take 1)[0]? = some v := by rw [h]; rfl
  rw [List.getElem?_take_of_lt (by omega),List.getElem?_drop] at h1
  simpa using h1
theorem step_cells {W : World} {base n : Nat} {cs : List Value} {x : DataW H × List MemPlace} (h : DataW.trod enc Tryz.prog W base (fun _ => true) true n 63 cs = some x) : ∃ s : Stp,StpOk W s /\ ∀ j,j < 9 -> cs[j]? = s.c[j]? := by
  obtain ⟨xs,n1,_,_,hlen,hn,hel⟩ := DataW.trod_struct Tryz.underlying63 h
  have hs : ∀ i,i < 6 -> (xs[i]?).isSome = true := by
    intro i hi
    have hx : xs.length = 6 := hn
    simp [hx,hi]
  have goI : ∀ (i : Nat) (fd : Field),i < 6 -> fd.type = 3 -> fd.offset = i -> DataW.trod enc Tryz.prog W base (fun _ => true) true n1 fd.type ((cs.drop fd.offset).take (Tryz.prog.cellsOf fd.type)) = xs[i]? -> ∃ m,cs[i]? = some (.int .i64 m) /\ (Lit.int .i64 m).wf = true := by
    intro i fd hi e1 e2 he
    rw [e1,e2,cells3] at he
    obtain ⟨z,hz⟩ := Option.isSome_iff_exists.1 (hs i hi)
    rw [hz] at he
    obtain ⟨k,e3,_,e4⟩ := DataW.trod_int Tryz.underlying3 he
    exact ⟨k,take_one e3,e4⟩
  have goK : ∀ (fd : Field),fd.type = 39 -> fd.offset = 2 -> DataW.trod enc Tryz.prog W base (fun _ => true) true n1 fd.type ((cs.drop fd.offset).take (Tryz.prog.cellsOf fd.type)) = xs[2]? -> ∀ j,j < 4 -> ∃ m,cs[2 + j]? = some (.int .i64 m) /\ (Lit.int .i64 m).wf = true := by
    intro fd e1 e2 he j hj
    rw [e1,e2,cells28] at he
    obtain ⟨z,hz⟩ := Option.isSome_iff_exists.1 (hs 2 (by omega))
    rw [hz] at he
    obtain ⟨ys,n2,_,_,hlen2,hn2,hel2⟩ := DataW.trod_struct Tryz.underlying39 he
    have hs2 : ∀ i,i < 4 -> (ys[i]?).isSome = true := by
      intro i hi
      have hx : ys.length = 4 := hn2
      simp [hx,hi]
    have go : ∀ (i : Nat) (fd : Field),i < 4 -> fd.type = 3 -> fd.offset = i -> DataW.trod enc Tryz.prog W base (fun _ => true) true n2 fd.type ((((cs.drop 2).take 4).drop fd.offset).take (Tryz.prog.cellsOf fd.type)) = ys[i]? -> ∃ m,cs[2 + i]? = some (.int .i64 m) /\ (Lit.int .i64 m).wf = true := by
      intro i fd hi e1 e2 he
      rw [e1,e2,cells3] at he
      obtain ⟨z,hz⟩ := Option.isSome_iff_exists.1 (hs2 i hi)
      rw [hz] at he
      obtain ⟨k,e3,_,e4⟩ := DataW.trod_int Tryz.underlying3 he
      refine ⟨k,?_,e4⟩
      have := take_one e3
      rw [List.getElem?_take_of_lt hi,List.getElem?_drop] at this
      exact this
    match j,hj with
    | 0,_ => exact go 0 _ (by omega) rfl rfl (hel2 0 _ rfl)
    | 1,_ => exact go 1 _ (by omega) rfl rfl (hel2 1 _ rfl)
    | 2,_ => exact go 2 _ (by omega) rfl rfl (hel2 2 _ rfl)
    | 3,_ => exact go 3 _ (by omega) rfl rfl (hel2 3 _ rfl)
  have goT : ∀ (i o : Nat) (fd : Field),i < 6 -> fd.type = 9 -> fd.offset = o -> DataW.trod enc Tryz.prog W base (fun _ => true) true n1 fd.type ((cs.drop fd.offset).take (Tryz.prog.cellsOf fd.type)) = xs[i]? -> ∃ s : ByteArray,cs[o]? = some (.string s) /\ s.size <= maxLen := by
    intro i o fd hi e1 e2 he
    rw [e1,e2,cells9] at he
    obtain ⟨z,hz⟩ := Option.isSome_iff_exists.1 (hs i hi)
    rw [hz] at he
    obtain ⟨s,e3,_,e4⟩ := DataW.trod_string Tryz.underlying9 he
    exact ⟨s,take_one e3,e4⟩
  have goS : ∀ (fd : Field),fd.type = 61 -> fd.offset = 8 -> DataW.trod enc Tryz.prog W base (fun _ => true) true n1 fd.type ((cs.drop fd.offset).take (Tryz.prog.cellsOf fd.type)) = xs[5]? -> ∃ bo bn bc es,cs[8]? = some (.slice bo bn bc) /\ CsAt 25 W (.slice bo bn bc) bn es /\ ∀ q,q < bn -> ∀ j,j < 25 -> -9223372036854775808 <= es q j /\ es q j <= 9223372036854775807 := by
    intro fd e1 e2 he
    rw [e1,e2,cells61] at he
    obtain ⟨z,hz⟩ := Option.isSome_iff_exists.1 (hs 5 (by omega))
    rw [hz] at he
    obtain ⟨bo,bn,bc,es,e3,r1,r2⟩ := edits_of he
    exact ⟨bo,bn,bc,es,take_one e3,r1,r2⟩
  obtain ⟨kd,h0,_⟩ := goI 0 _ (by omega) rfl rfl (hel 0 _ rfl)
  obtain ⟨a,h1,_⟩ := goI 1 _ (by omega) rfl rfl (hel 1 _ rfl)
  have hK := goK _ rfl rfl (hel 2 _ rfl)
  obtain ⟨l,h2,q2⟩ := hK 0 (by omega)
  obtain ⟨z,h3,q3⟩ := hK 1 (by omega)
  obtain ⟨x',h4,q4⟩ := hK 2 (by omega)
  obtain ⟨y,h5,q5⟩ := hK 3 (by omega)
  obtain ⟨S,h6,q6⟩ := goT 3 6 _ (by omega) rfl rfl (hel 3 _ rfl)
  obtain ⟨T,h7,_⟩ := goT 4 7 _ (by omega) rfl rfl (hel 4 _ rfl)
  obtain ⟨bo,bn,bc,es,h8,q8,q9⟩ := goS _ rfl rfl (hel 5 _ rfl)
  refine ⟨⟨kd,a,l,z,x',y,S,T,bo,bn,bc,es⟩,⟨wf_64 q2,wf_64 q3,wf_64 q4,wf_64 q5,q6,q8,q9⟩,fun j hj => ?_⟩
  match j,hj with
  | 0,_ => exact h0
  | 1,_ => exact h1
  | 2,_ => exact h2
  | 3,_ => exact h3
  | 4,_ => exact h4
  | 5,_ => exact h5
  | 6,_ => exact h6
  | 7,_ => exact h7
  | 8,_ => exact h8
theorem open_config {W : World} {r : Reach} {b0 base : Nat} {sp : Nat -> Bool} {held : Bool} {v : Value} {d : DataW H} {p : List MemPlace} (hv : Value.okWide Tryz.prog W r b0 23 v) (h : DataW.Trod enc Tryz.prog W base sp held 23 v d p) :
    ∃ q wk wt ca ch : Int,v = .agg #[.int .i64 q,.int .i64 wk,.int .i64 wt,.int .i64 ca,.int .i64 ch] /\ (-9223372036854775808 <= q /\ q <= 9223372036854775807) /\ (-9223372036854775808 <= wk /\ wk <= 9223372036854775807) /\ (-9223372036854775808 <= wt /\ wt <= 9223372036854775807) /\ (-9223372036854775808 <= ca /\ ca <= 9223372036854775807) /\ (-9223372036854775808 <= ch /\ ch <= 9223372036854775807) := by
  obtain ⟨cs,rfl,hsz⟩ := okWide_struct Tryz.underlying23 hv
  obtain ⟨fuel,hf⟩ := h
  rw [cells23] at hsz
  obtain ⟨xs,n1,_,_,hlen,hn,hel⟩ := DataW.trod_struct Tryz.underlying23 hf
  have hs : ∀ i,i < 5 -> (xs[i]?).isSome = true := by
    intro i hi
    have hx : xs.length = 5 := hn
    simp [hx,hi]
  have goI : ∀ (i : Nat) (fd : Field),i < 5 -> fd.type = 3 -> fd.offset = i -> DataW.trod enc Tryz.prog W base sp held n1 fd.type (((Value.agg cs).cells.toList.drop fd.offset).take (Tryz.prog.cellsOf fd.type)) = xs[i]? -> ∃ m,cs[i]? = some (.int .i64 m) /\ (Lit.int .i64 m).wf = true := by
    intro i fd hi e1 e2 he
    rw [e1,e2,cells3] at he
    obtain ⟨z,hz⟩ := Option.isSome_iff_exists.1 (hs i hi)
    rw [hz] at he
    obtain ⟨k,e3,_,e4⟩ := DataW.trod_int Tryz.underlying3 he
    exact ⟨k,by have := take_one e3; simpa [Value.cells] using this,e4⟩
  obtain ⟨q,h0,q0⟩ := goI 0 _ (by omega) rfl rfl (hel 0 _ rfl)
  obtain ⟨wk,h1,q1⟩ := goI 1 _ (by omega) rfl rfl (hel 1 _ rfl)
  obtain ⟨wt,h2,q2⟩ := goI 2 _ (by omega) rfl rfl (hel 2 _ rfl)
  obtain ⟨ca,h3,q3⟩ := goI 3 _ (by omega) rfl rfl (hel 3 _ rfl)
  obtain ⟨ch,h4,q4⟩ := goI 4 _ (by omega) rfl rfl (hel 4 _ rfl)
  refine ⟨q,wk,wt,ca,ch,?_,wf_64 q0,wf_64 q1,wf_64 q2,wf_64 q3,wf_64 q4⟩
  congr 1
  apply Array.ext_getElem?
  intro j
  by_cases hj : j < 5
  . match j,hj with
    | 0,_ => exact h0
    | 1,_ => exact h1
    | 2,_ => exact h2
    | 3,_ => exact h3
    | 4,_ => exact h4
  . rw [Array.getElem?_eq_none (by omega),Array.getElem?_eq_none (by simp; omega)]
end
end Go.Proofs.YtpopchckldbhdaaGreatDoor
namespace Go.Proofs.YtpopchckldbhdaaGreatDoor
set_option maxRecDepth 20000
open Go.ChangeShapes Go.WideShapes Go.ChangeAt Go.RowKit Go.Joins
open Go.ChangeMaps (open_string shut_string)
theorem gNames : Tryz.prog.globalNamed "atlas/wire.layerNames" = some 0 := by kernel_rfl
theorem gPow : Tryz.prog.globalNamed "internal/strconv.uint64pow10" = some 1 := by kernel_rfl
theorem gTab : Tryz.prog.globalNamed "math/bits.deBruijn64tab" = some 3 := by kernel_rfl
theorem tNames : (Tryz.prog.globals[0]?).map (·.type) = some 77 := by kernel_rfl
theorem tPow : (Tryz.prog.globals[1]?).map (·.type) = some 198 := by kernel_rfl
theorem cells77 : Tryz.prog.cellsOf 77 = 4 := by kernel_rfl
theorem cells183 : Tryz.prog.cellsOf 183 = 1 := by kernel_rfl
theorem cells198 : Tryz.prog.cellsOf 198 = 20 := by kernel_rfl
theorem str_of (s : ByteArray) (l : List UInt8) (h : s.data.toList = l) : s = ⟨l.toArray⟩ := by
  rw [<- h]
theorem one_str {H : Type} {enc : TypeId × Value -> H} {W : World} {base : Nat} {sp : Nat -> Bool} {held : Bool} {m : Nat} {c : Value} {x : DataW H × List MemPlace} {l : List UInt8}
    (h : DataW.trod enc Tryz.prog W base sp held m 9 [c] = some x) (e : DataW.lit (.string l) = x.1) : c = .string ⟨l.toArray⟩ := by
  obtain ⟨s,hs,hx,_⟩ := DataW.trod_string Tryz.underlying9 h
  rw [hx] at e
  simp only [DataW.lit.injEq,Lit.string.injEq] at e
  simp only [List.cons.injEq,and_true] at hs
  rw [hs,str_of s l e.symm]
theorem var_lt {W : World} {n : String} {g : Nat} {cs : Array Value} (hg : Tryz.prog.globalNamed n = some g) (h : W.var? Tryz.prog n = some cs) : g < W.heap.size := by
  simp only [World.var?,hg,Option.bind_some] at h
  rcases Nat.lt_or_ge g W.heap.size with q | q
  . exact q
  . rw [Array.getElem?_eq_none q] at h
    simp at h
theorem of_laid {W : World} (h : laidMetH Tryz.prog Rows.freshUptoRow.laid W) : Dw.NamesIn W ∧ Lib.TabIs Tryz.prog W "internal/strconv.uint64pow10" .u64 Lib.pow10Tab ∧ 4 ≤ W.heap.size := by
  have h' : laidMet Tryz.prog Rows.freshUptoRow.laid W := h
  obtain ⟨ps,⟨g0,t0,cs0,f0,p0,q0,hg0,ht0,hv0,hd0,⟨g1,t1,cs1,f1,p1,q1,hg1,ht1,hv1,hd1,⟨g2,t2,cs2,f2,p2,q2,hg2,ht2,hv2,hd2,⟨g3,t3,cs3,f3,p3,q3,hg3,ht3,hv3,hd3,_,_⟩,_⟩,_⟩,_⟩,_⟩ := h'
  obtain rfl := Option.some.inj (gPow.symm.trans hg2)
  obtain rfl := Option.some.inj (tPow.symm.trans ht2)
  obtain rfl := Option.some.inj (gNames.symm.trans hg3)
  obtain rfl := Option.some.inj (tNames.symm.trans ht3)
  refine ⟨?_,?_,?_⟩
  . have hd3' : DataW.trod _ Tryz.prog W _ _ _ f3 77 cs3.toList = some (.agg [.lit (.string [108,97,110,100]),.lit (.string [119,97,116,101,114]),.lit (.string [114,111,97,100]),.lit (.string [109,97,114,107])],p3) := hd3
    obtain ⟨xs,m,rfl,hx,hlen,hn,hel⟩ := DataW.trod_array Tryz.underlying77 hd3'
    rw [cells77] at hlen
    simp only [Prod.mk.injEq,DataW.agg.injEq] at hx
    match xs,hn,hx,hel with
    | [x0,x1,x2,x3],_,hx,hel =>
      simp only [List.map_cons,List.map_nil,List.cons.injEq,and_true] at hx
      obtain ⟨⟨e0,e1,e2,e3⟩,_⟩ := hx
      have k0 := hel 0 (by decide)
      have k1 := hel 1 (by decide)
      have k2 := hel 2 (by decide)
      have k3 := hel 3 (by decide)
      rw [cells9] at k0 k1 k2 k3
      obtain ⟨l⟩ := cs3
      match l,hlen,hv3,k0,k1,k2,k3 with
      | [c0,c1,c2,c3],_,hv3,k0,k1,k2,k3 =>
        have j0 := one_str (show DataW.trod _ Tryz.prog W _ _ _ m 9 [c0] = some x0 from k0) e0
        have j1 := one_str (show DataW.trod _ Tryz.prog W _ _ _ m 9 [c1] = some x1 from k1) e1
        have j2 := one_str (show DataW.trod _ Tryz.prog W _ _ _ m 9 [c2] = some x2 from k2) e2
        have j3 := one_str (show DataW.trod _ Tryz.prog W _ _ _ m 9 [c3] = some x3 from k3) e3
        subst j0 j1 j2 j3
        exact ⟨World.var?_cell hg3 hv3 0,World.var?_cell hg3 hv3 1,World.var?_cell hg3 hv3 2,World.var?_cell hg3 hv3 3⟩
  . show W.var? Tryz.prog _ = _
    rw [hv2]
    have hd2' : DataW.trod _ Tryz.prog W _ _ _ f2 198 cs2.toList = some (Lib.tabData .u64 Lib.pow10Tab,p2) := hd2
    have := Lib.cells_of_tab Tryz.underlying198 Tryz.underlying183 cells183 cells198 hd2'
    rw [<- this]
  . have := var_lt gTab hv1
    omega
theorem glb_of {W : World} (h : laidMetH Tryz.prog Rows.freshUptoRow.laid W) : Glb W := by
  obtain ⟨⟨c0,c1,c2,c3⟩,h2,h3⟩ := of_laid h
  refine ⟨h3,fun W' hW => ⟨⟨?_,?_,?_,?_⟩,?_⟩⟩
  . exact (World.cell?_of_block (a := ⟨0,0,none⟩) (hW 0 (by omega))).trans c0
  . exact (World.cell?_of_block (a := ⟨0,1,none⟩) (hW 0 (by omega))).trans c1
  . exact (World.cell?_of_block (a := ⟨0,2,none⟩) (hW 0 (by omega))).trans c2
  . exact (World.cell?_of_block (a := ⟨0,3,none⟩) (hW 0 (by omega))).trans c3
  · have h2' : W.var? Tryz.prog "internal/strconv.uint64pow10" = some (Lib.pow10Tab.map fun z => Value.int .u64 z).toArray := h2
    show W'.var? Tryz.prog _ = _
    simp only [World.var?,gPow,Option.bind_some] at h2' ⊢
    rw [hW 1 (by omega)]
    exact h2'
end Go.Proofs.YtpopchckldbhdaaGreatDoor
namespace Go.Proofs.YtpopchckldbhdaaGreatDoor
set_option maxRecDepth 20000
open Go.ChangeShapes Go.WideShapes Go.ChangeAt Go.RowKit Go.Joins
theorem bytes63 : Tryz.prog.bytesOf 63 = 104 := by kernel_rfl
section
variable {H : Type} {enc : TypeId × Value -> H}
theorem open_scriptS {W : World} {r : Reach} {b0 base : Nat} {v : Value} {d : DataW H} {p : List MemPlace} (hv : Value.okWide Tryz.prog W r b0 24 v) (h : DataW.Trod enc Tryz.prog W base (fun _ => true) true 24 v d p) (hk : ∀ elems spare,d = .slice elems spare -> (elems.length + spare.length) * 104 <= 140737488351232) :
    ∃ oa cap L,v = .slice oa L.length cap /\ ScAt W oa cap L := by
  obtain ⟨a0,len,cap,rfl⟩ := okWide_slice Tryz.underlying24 hv
  obtain ⟨fuel,hf⟩ := h
  rcases Go.Deep.open_slice Tryz.underlying24 hf with ⟨e,_⟩ | ⟨a,len',cap',m,k,D,Pl,e,hb,hl,hcap,hm,hx,hel⟩
  . simp only [Value.cells,List.cons.injEq,Value.slice.injEq,and_true] at e
    obtain ⟨rfl,rfl,rfl⟩ := e
    exact ⟨none,0,[],rfl,⟨by simp,fun h => absurd h (by simp),fun i s h => by simp at h⟩⟩
  . simp only [Value.cells,List.cons.injEq,Value.slice.injEq,and_true] at e
    obtain ⟨rfl,rfl,rfl⟩ := e
    rw [if_pos rfl] at hm
    subst hm
    rw [cells63] at hel
    simp only [Prod.mk.injEq] at hx
    have hlen : len <= 1400000000000 := by
      have := hk _ _ hx.1
      rw [List.length_map,List.length_range] at this
      omega
    have each : ∀ i,∃ s : Stp,i < len -> StpOk W s /\ ∀ j,j < 9 -> W.cell? ((a.add (i * 9)).add j) = s.c[j]? := by
      intro i
      by_cases hi : i < len
      . obtain ⟨cs',h1,h2⟩ := hel i (by omega)
        obtain ⟨s,g1,g2⟩ := step_cells h2
        have hc := (World.cells?_some h1).2.2
        exact ⟨s,fun _ => ⟨g1,fun j hj => (hc j (by omega)).trans (g2 j hj)⟩⟩
      . exact ⟨⟨0,0,0,0,0,0,⟨#[]⟩,⟨#[]⟩,none,0,0,fun _ _ => 0⟩,fun h => absurd h hi⟩
    have hL : ((List.range len).map fun i => Classical.choose (each i)).length = len := by simp
    have hget : ∀ (i : Nat) (s : Stp),((List.range len).map fun i => Classical.choose (each i))[i]? = some s -> i < len /\ s = Classical.choose (each i) := by
      intro i s hi
      have hlt : i < len := by have := (List.getElem?_eq_some_iff.1 hi).1; rwa [hL] at this
      refine ⟨hlt,?_⟩
      rw [List.getElem?_map,List.getElem?_range hlt] at hi
      simpa using hi.symm
    refine ⟨some a,m,(List.range len).map fun i => Classical.choose (each i),by rw [hL],⟨by rw [hL]; omega,fun h0 => ?_,fun i s hi => ?_⟩⟩
    . rw [hL] at h0
      have hsp : a.spot = none := by
        have h1 := World.cell?_spot ((Classical.choose_spec (each 0) h0).2 0 (by omega) |>.trans (show (Classical.choose (each 0)).c[0]? = some (.int .i64 (Classical.choose (each 0)).kd) from rfl))
        simpa [Addr.add] using h1
      refine ⟨a.block,a.off,?_,?_,fun i s hi => ?_⟩
      . obtain ⟨b,o,sp⟩ := a
        simp only at hsp
        subst hsp
        rfl
      . obtain ⟨cs',h1,_⟩ := hel 0 (by omega)
        have := World.cells?_block h1 (by omega)
        simpa [Addr.add] using this
      . obtain ⟨hlt,rfl⟩ := hget i s hi
        intro j u hu
        have hj : j < 9 := (List.getElem?_eq_some_iff.1 hu).1
        have := (Classical.choose_spec (each i) hlt).2 j hj
        rw [add_add _ _ _ hsp] at this
        rw [this,<- Array.getElem?_toList]
        exact hu
    . obtain ⟨hlt,rfl⟩ := hget i s hi
      exact (Classical.choose_spec (each i) hlt).1
end
end Go.Proofs.YtpopchckldbhdaaGreatDoor
