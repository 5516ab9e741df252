/-
  The texts FgC, SdM, SdN, SfK, FfN, SdQ, SfL, ScA, SgA, SgB, ScC, SgC, ScD, SfD, SgD, SgE, OpenS, ScE, SgG, SgF.
-/
import Derived.Test.YtpabpniaekldeaaGreatDoorFase06
import Derived.Test.YtpabpniaekldeaaGreatDoorCards
import Derived.Test.YtpabpniaekldeaaGreatDoorTie
import Derived.Deep.Slices
import Derived.SizedLaws
import Derived.ProofKit
import Derived.OpenShut
import Derived.ShutString
import Derived.LaidMore
import Derived.Lib.SmallJoins
import Derived.Deep.DeepHandedRow
import Derived.Lib.LaidTab
set_option maxHeartbeats 25600000
namespace Go.Proofs.YtpabpniaekldeaaGreatDoor
open Go.Proofs.Tryz
open Go.RowKit
set_option maxRecDepth 20000
def toldW (ws:List dJ)(l:List (Option Fl))(n:Nat):List f9:=(l.zipIdx n).filterMap fun(o,i)=>o.map fun fl=>⟨fl.b,i,fl.reads,fl.left,aC ws fl.b⟩
def gI (ws:List dJ)(l:List K4):List f9:=l.map fun b=>⟨b,-1,-1,0,aC ws b⟩
theorem told_eq (F:FM):F.told=toldW F.waiting F.wks 0++gI F.waiting F.line:=rfl
theorem toldW_none (ws:List dJ)(l:List (Option Fl))(n:Nat):toldW ws (none::l) n=toldW ws l (n+1):=by simp[toldW,List.zipIdx_cons]
theorem toldW_some (ws:List dJ)(f:Fl)(l:List (Option Fl))(n:Nat):toldW ws (some f::l) n=⟨f.b,n,f.reads,f.left,aC ws f.b⟩::toldW ws l (n+1):=by simp[toldW,List.zipIdx_cons]
theorem al73 (ev:Operand->Value)(o:Oper)(ho:o.op=.alloc 107)(w w1:World)(h1:w.alloc (.cells #[(),(),(),(),(),(),(),()] 107)=w1):(execOp ev o).run prog w=.ok (.value (.pointer (some ⟨w.heap.size,0,none⟩))) w1:=by
 rw[<-h1];unfold execOp;simp only[ho]
 kernel_rfl
theorem sz73 (a b c d e f g h:Int):(prog.info? 107).map (·.size)=some (#[a,b,c,d,e,f,g,h]:Array Value).size:=by kernel_rfl
theorem told_one (a b c d e f g h:Int):(#[a,b,c,d,e,f,g,h]:Array Value).all (·.oneCell')=true:=by simp[Value.oneCell']
theorem bt73 (l z x y a b c:Int)(ev:Operand->Value)(o:Oper)(p q r s:Operand)(ho:o.op=.build 107 #[(0,p),(1,q),(2,r),(3,s)])(h1:ev p=.agg #[l,z,x,y])(h2:ev q=.int .i64 a)(h3:ev r=.int .i64 b)(h4:ev s=.int .i64 c)(w:World):(execOp ev o).run prog w=.ok (.value (.agg #[l,z,x,y,a,b,c,()])) w:=by
 have hb:=run_build (P:=prog) w 107 #[(0,.agg #[l,z,x,y]),(1,.int .i64 a),(2,.int .i64 b),(3,.int .i64 c)] #[l,z,x,y,a,b,c,()] (by kernel_rfl)
 unfold execOp;simp[ho,h1,h2,h3,h4,hb]
theorem bt73b (l z x y a b:Int)(ev:Operand->Value)(o:Oper)(p q r:Operand)(ho:o.op=.build 107 #[(0,p),(1,q),(2,r)])(h1:ev p=.agg #[l,z,x,y])(h2:ev q=.int .i64 a)(h3:ev r=.int .i64 b)(w:World):(execOp ev o).run prog w=.ok (.value (.agg #[l,z,x,y,a,b,(),()])) w:=by
 have hb:=run_build (P:=prog) w 107 #[(0,.agg #[l,z,x,y]),(1,.int .i64 a),(2,.int .i64 b)] #[l,z,x,y,a,b,(),()] (by kernel_rfl)
 unfold execOp;simp[ho,h1,h2,h3,hb]
theorem rng4w {W:World}{g:Nat}{l z x y:Int}{a b c:Value}(h:W.heap[g]?=some (.cells #[l,z,x,y,a,b,c] 170)):W.rangeAt g 0 (#[l,z,x,y]:Array Value).toList:=fun j v hv=>(ao h) j v (by
 rcases j with _|_|_|_|j
 ·exact hv
 ·exact hv
 ·exact hv
 ·exact hv
 simp at hv)
theorem nn (ws:List dJ)(l l':List (Option Fl))(n:Nat):toldW ws (l++l') n=toldW ws l n++toldW ws l' (n+l.length):=by
 unfold toldW;rw[List.zipIdx_append,List.filterMap_append]
theorem toldW_take (ws:List dJ){l:List (Option Fl)}{k:Nat}{f:Fl}(h:l[k]?=some (some f)):toldW ws (l.take (k+1)) 0=toldW ws (l.take k) 0++[⟨f.b,k,f.reads,f.left,aC ws f.b⟩]:=by
 have hk:(l.take k).length=k:=by rw[List.length_take]; have:=(List.getElem?_eq_some_iff.1 h).1; omega
 rw[be h,nn,hk,toldW_some];simp[toldW]
theorem toldW_take0 (ws:List dJ){l:List (Option Fl)}{k:Nat}(h:l[k]?=some none):toldW ws (l.take (k+1)) 0=toldW ws (l.take k) 0:=by
 rw[be h,nn,toldW_none];simp[toldW]
theorem toldL_take (ws:List dJ)(A:List f9){l:List K4}{k:Nat}{b:K4}(h:l[k]?=some b):A++gI ws (l.take (k+1))=A++gI ws (l.take k)++[⟨b,-1,-1,0,aC ws b⟩]:=by
 rw[be h];simp[gI]
theorem toldL_len (ws:List dJ)(l:List K4):(gI ws l).length=l.length:=by simp[gI]
theorem nk (ws:List dJ)(l:List (Option Fl))(n:Nat):(toldW ws l n).length<=l.length:=by
 unfold toldW;have:=List.length_filterMap_le (fun(x:Option Fl × Nat)=>x.1.map fun fl=>(⟨fl.b,x.2,fl.reads,fl.left,aC ws fl.b⟩:f9)) (l.zipIdx n);rw[List.length_zipIdx] at this;exact this
theorem flights_any (fb:Nat)(X:FV)(ws:List dJ)(ls:List K4)(W:List (Option Wk))(w:World)(hf:aq w fb X)(hv:bL cW w X.wv ws)(ho:bL bT w X.lv ls)(hk:f8 w X.kv W)(hs:∀r∈ws,bP r.k)(hl:ws.length<=100000000)(hll:ls.length<=10000000)(hl':W.length<=100):
  Calls prog 63 #[.pointer (some ⟨fb,0,none⟩)] w fun e w'=>(∃rv,e=.returned rv/\ah bC 107 w' rv (toldW ws (W.map (Option.map Wk.f)) 0++gI ws ls)/\∀g,rv.ownBlock=some g->w.heap.size<=g)/\Below w.heap.size w w':=by
 have hlt0:=an hf;obtain⟨oa,cap,e,hcap,hm,hc⟩:=ho;obtain⟨⟨ob,capb,eb,hcapb,hmb,hcb⟩,hu⟩:=hk;rw[List.length_map] at eb hcapb hmb hcb;have HC:=ae hc;have HCB:=ae hcb;have HU:=ae hu;have HF:=ae hf;have HV:=ae hv;have HS:=ae hs
 have hN:=cr (R:=bC) (T:=107) w [] #[] rfl (by simp)
 have hB1:=(Below.refl w.heap.size w).alloc aD (.cells #[] 107);have HN:=ae hN;have HB1:=ae hB1
 have c8:w.cell? ⟨fb,8,none⟩=some (.slice oa ls.length cap):=by rw[<-e]; exact hf.cells.2.2.2.2.2.2.2.2.1
 have HC8:=ae c8
 have c9:w.cell? ⟨fb,9,none⟩=some (.slice ob W.length capb):=by rw[<-eb]; exact hf.cells.2.2.2.2.2.2.2.2.2.1
 have HC9:=ae c9;clear hf hc hN hB1 e c8 c9 hv hs hcb hu eb hm hmb;go_enter func63,ntmps63
 go_wp2_with fail
 go_loopw [3,4,5,6] (fun lv i _ _ wr=>∃k:Nat,k<=W.length/\i=.int .i64 k/\ah bC 107 wr lv (toldW ws ((W.map (Option.map Wk.f)).take k) 0)/\Hid (∀g,lv.ownBlock=some g->w.heap.size<=g)/\Below w.heap.size w wr) (fun _ i _ _ _=>W.length-(intOf i).toNat)
 case atStart=>exact⟨0,by omega,rfl,by simpa[toldW] using aa HN,ae (fun g hg=>by simp[Value.ownBlock] at hg; omega),aa HB1⟩
 case round=>
  obtain⟨k,hk,rfl,hown,hfr,hb⟩:=hrel;have hsz:=hb.size;have r9:=(hb.cell (p:=⟨fb,9,none⟩) hlt0).trans (aa HC9)
  by_cases hlt:k<W.length
  ·have hkn:(k:Int)<W.length:=by omega
   obtain⟨b,off,rfl,hbl,hc0⟩:=aa HCB (by omega)
   obtain⟨o,ht⟩:∃t,W[k]?=some t:=⟨_,List.getElem?_eq_getElem hlt⟩
   have hp0:w.cell? ⟨b,off+k,none⟩=some (ptr (o.map Wk.g)):=by
    have:=hc0 k (o.map Wk.g) (by rw[List.getElem?_map,ht]; rfl) 0 _ rfl
    rwa [show off+k*fK.wid+0=off+k by simp[fK]] at this
   have hp:=(hb.cell (p:=⟨b,off+k,none⟩) hbl).trans hp0;have HB:=ae hb;have HO:=ae hown
   have htf:(W.map (Option.map Wk.f))[k]?=some (o.map Wk.f):=by rw[List.getElem?_map,ht]; rfl
   cases o with
   | none=>
    have hp':wr.cell? ⟨b,off+k,none⟩=some (.pointer none):=hp
    have HO3:Hid (ah bC 107 wr u3 (toldW ws ((W.map (Option.map Wk.f)).take (k+1)) 0)):=ae (by rw[toldW_take0 ws htf]; exact hown)
    obtain⟨oal,nl,cl,rfl⟩:=hown.sl;clear hp hc0 hp0 hb hown htf
    go_wp2_with fail
    go_roundw
    case rel=>exact⟨k+1,by omega,by go_num,aa HO3,hfr,aa HB⟩
    case measure=>simp[intOf]; omega
   | some u=>
    have hp':wr.cell? ⟨b,off+k,none⟩=some (.pointer (some ⟨u.g,0,none⟩)):=hp;have hug0:=aa HU k u ht;have hug:=ag hug0 hb;obtain⟨ug,⟨⟨rl,rz,rx,ry⟩,ur,ul,uo⟩,urv,uR⟩:=u
    replace hug:wr.heap[ug]?=some (.cells #[rl,rz,rx,ry,ur,ul,urv] 170):=hug
    have HUG:=ae hug;clear hp hc0 hp0 hb hown hug0
    go_wp2_with fail
    refine wp_region_held (S:=fun w'=>w'.heap[ug]?=some (.cells #[rl,rz,rx,ry,ur,ul,urv] 170)) (by kernel_rfl) ?_
    change wpAnyH _ _ _ _ _ _ _ _ (World.drew _);have hbD:=(Below.refl wr.heap.size wr).drew;have hud:(World.drew wr).heap[ug]?=some (.cells #[rl,rz,rx,ry,ur,ul,urv] 170):=hug;generalize World.drew wr=w2 at hbD hud ⊢;obtain⟨w3,hw3⟩:∃w3,w2.alloc (.cells #[(),(),(),(),(),(),(),()] 107)=w3:=⟨_,rfl⟩;have hb3:Below w2.heap.size w2 w3:=hw3▸(Below.refl w2.heap.size w2).alloc aD (.cells #[(),(),(),(),(),(),(),()] 107);have hA3:w3.heap[w2.heap.size]?=some (.cells #[(),(),(),(),(),(),(),()] 107):=hw3▸heap_alloc_new w2 (.cells #[(),(),(),(),(),(),(),()] 107);have HW3:=ae hw3;obtain⟨g1,hg⟩:∃g1,w2.heap.size=g1:=⟨_,rfl⟩;have HAL:=ae (show ∀(ev:Operand->Value) (o:Oper),o.op=.alloc 107->(execOp ev o).run prog w2=.ok (.value (.pointer (some ⟨g1,0,none⟩))) w3 from fun ev o q=>hg▸al73 ev o q w2 w3 (aa HW3));rw[hg] at hA3;obtain⟨w4,hw4⟩:∃w4,w3.setRow g1 #[rl,rz,rx,ry,k,ur,ul,()]=w4:=⟨_,rfl⟩;have hA4:w4.heap[g1]?=some (.cells #[rl,rz,rx,ry,k,ur,ul,()] 107):=hw4▸setRow_heap _ _ _ #[rl,rz,rx,ry,k,ur,ul,()] _ _ hA3
    have hb4:Below w2.heap.size w2 w4:=hw4▸aK hb3 (by omega) #[rl,rz,rx,ry,k,ur,ul,()]
    have HST:=ae (show ∀(ev:Operand->Value) (o:Oper) (s t:Operand),o.op=.store 107 s t->ev s=.pointer (some ⟨g1,0,none⟩)->ev t=.agg #[rl,rz,rx,ry,k,ur,ul,()]->(execOp ev o).run prog w3=.ok .skip w4 from fun ev o s t q q1 q2=>hw4▸stR ev o s t 107 q #[rl,rz,rx,ry,k,ur,ul,()] #[(),(),(),(),(),(),(),()] (sz73 _ _ _ _ _ _ _ _) (told_one _ _ _ _ _ _ _ _) rfl g1 q1 q2 w3 hA3);have hu3:=ag hud hb3;have hu4:=ag hud hb4;have hbr4:=hbD.trans (hb4.mono hbD.size)
    have H4:=ae (show Below wr.heap.size wr w4/\w4.heap[g1]?=some (.cells #[rl,rz,rx,ry,k,ur,ul,()] 107)/\wr.heap.size<=g1 from⟨hbr4,hA4,by have:=hbD.size; omega⟩)
    clear hb3 hA3 hw4 hw3 hb4 hA4 hbr4 hbD;refine am 0 rfl ug 0 hud ?_;refine am 1 rfl ug 0 hud ?_;refine am 2 rfl ug 0 hud ?_;refine aH 3 rfl (.agg #[rl,rz,rx,ry]) hud ?_ (hy:=fun w' hw'=>jT _ _ _ 39 rfl _ rfl _ underlying39 rfl (bj _ _ _ _) ug 0 rfl _ (rng4w hw'));refine aH 4 rfl (.int .i64 k) hud ?_;refine am 5 rfl ug 0 hud ?_;refine am 6 rfl ug 0 hud ?_;refine am 7 rfl ug 4 hud ?_
    refine aH 8 rfl (.int .i64 ur) hud ?_ (hy:=fun w' hw'=>by simp[go_sem,(af hw' 4).trans rfl])
    refine am 9 rfl ug 0 hud ?_;refine am 10 rfl ug 0 hud ?_;refine am 11 rfl ug 5 hud ?_
    refine aH 12 rfl (.int .i64 ul) hud ?_ (hy:=fun w' hw'=>by simp[go_sem,(af hw' 5).trans rfl])
    refine aH 13 rfl (.agg #[rl,rz,rx,ry,k,ur,ul,()]) hud ?_ (hy:=fun w' _=>bt73 rl rz rx ry k ur ul _ _ _ _ _ _ rfl rfl rfl rfl rfl w');refine aV 14 ?_;refine bI 14 rfl rfl (.pointer (some ⟨g1,0,none⟩)) (w3) (aa HAL _ _ rfl) (hu3) ?_;simp only[qZ];refine aV 15 ?_;refine cL 15 rfl rfl (w4) (aa HST _ _ _ _ rfl rfl rfl) (hu4) ?_;simp only[Act.put]
    refine wpAnyH_done (by kernel_rfl) ?_ _
    obtain⟨hbr4,hA4,hgr⟩:=aa H4;have hB4:=(aa HB).trans (hbr4.mono (aa HB).size);have hsz4:=hB4.size;have hrg4:w4.rangeAt ug 0 (#[rl,rz,rx,ry]:Array Value).toList:=rng4w (ag (aa HUG) hbr4);have CF:=fe fb X ws rl rz rx ry w4 (ag (aa HF) hB4) ((aa HV).on hB4) (aa HS) hl;have hown4:=(aa HO).on hbr4;have HO4:=ae hown4;have HA4:=ae hA4;have HB4:=ae hB4;clear hbr4 hA4 hB4 H4 hown4 hud hu3 hu4 HAL HST HW3 hg
    go_wp2_with (refine bU 39 #[rl,rz,rx,ry] underlying39 rfl (bj _ _ _ _) ug 0 hrg4 rfl _ rfl rfl ?_)
    refine CF.mono ?_;rintro e w5 ⟨rfl,hb5⟩;have hA5:=ag (aa HA4) hb5;have hB5:=(aa HB4).trans (hb5.mono (aa HB4).size);have hown5:=(aa HO4).on hb5;have hfs:=toldW_take ws htf;obtain⟨C,hC⟩:∃C,aC ws ⟨rl,rz,rx,ry⟩=C:=⟨_,rfl⟩;rw[hC] at hfs;rw[hC];have c7:w5.cell? ⟨g1,7,none⟩=some (.int .i64 0):=af hA5 7;have fz7:=bi hA5 7;obtain⟨w6,hw6⟩:∃W',w5.setCell ⟨g1,7,none⟩ (.int .i64 (C:Int))=W':=⟨_,rfl⟩;have hA6:w6.heap[g1]?=some (.cells #[rl,rz,rx,ry,k,ur,ul,(C:Int)] 107):=hw6▸eP hA5 7 (.int .i64 (C:Int)) rfl
    have hB6:Below w.heap.size w w6:=hw6▸hB5.setCell (p:=⟨g1,7,none⟩) (by show w.heap.size<=g1; omega) _
    have hown6:ah bC 107 w6 u3 (toldW ws ((W.map (Option.map Wk.f)).take k) 0):=by
     rw[<-hw6]
     exact hown5.same fun g hg=>Below.heap_setCell _ _ _ _ (fun e=>by
      have:=(aa HO).lt hg;have:g=g1:=e;omega)
    have S7:=ae (fun(ev:Operand->Value) (o:Oper) (s t:Operand) (q:o.op=.store 3 s t) q1 q2=>kO ev o s t q g1 7 (C:Int) q1 q2 w5 w6 c7 fz7 hw6);have hrg6:w6.rangeAt g1 0 (#[rl,rz,rx,ry,k,ur,ul,(C:Int)]:Array Value).toList:=ao hA6;have hat:=aZ bC 107 w6 ⟨⟨rl,rz,rx,ry⟩,k,ur,ul,(C:Int)⟩ #[rl,rz,rx,ry,k,ur,ul,(C:Int)] rfl;have hownA:=hown6.on (bu.alloc aD (.cells #[rl,rz,rx,ry,k,ur,ul,(C:Int)] 107))
    obtain⟨v7,w7,r1,r2,r3,r4⟩:=pK hownA hat (by simp only[List.length_singleton]; have:=nk ws ((W.map (Option.map Wk.f)).take k) 0; rw[List.length_take,List.length_map] at this; omega)
    rw[<-hfs] at r2;have hsz6:=hB6.size;have HO3:=ae r2
    have HB3:=ae ((hB6.alloc hsz6 (.cells #[rl,rz,rx,ry,k,ur,ul,(C:Int)] 107)).grown r3 (by simp; omega) (fun g hg=>aa hfr g hg))
    have HFR:=ae (show ∀g,v7.ownBlock=some g->w.heap.size<=g from fun g hg=>by
     rcases r4 with r4|r4
     ·exact aa hfr g (r4▸hg)
     have:=r4 g hg; simp at this; omega)
    obtain⟨oal,nl,cl,rfl⟩:=hown6.sl;clear hA5 hB5 hown5 hfs hC c7 fz7 hw6 hA6 hB6 hown6 hat hownA r2 r3 r4 HO4 HA4 HB4 hrg4 CF hb5
    go_wp2_with (first|refine cU w6 (aa S7 _ _ _ _ rfl rfl rfl) rfl ?_|refine bU 107 #[rl,rz,rx,ry,k,ur,ul,(C:Int)] underlying107 rfl (sz73 _ _ _ _ _ _ _ _) g1 0 hrg6 rfl _ rfl rfl ?_|refine cP _ _ (ms rl rz rx ry k ur ul (C:Int) _ _ _ rfl rfl _) rfl ?_|(at_builtin; refine fS 104 r1 rfl _ _ rfl rfl rfl rfl ?_))
    go_roundw
    case rel=>exact⟨k+1,by omega,by go_num,aa HO3,aa HFR,aa HB3⟩
    case measure=>simp[intOf]; omega
  have hkn:k=W.length:=by omega
  have htl:(W.map (Option.map Wk.f)).take k=W.map (Option.map Wk.f):=by rw[hkn,<-List.length_map (f:=Option.map Wk.f),List.take_length]
  rw[htl] at hown;have HO1:=ae hown;have HB2:=ae hb;obtain⟨oal,nl,cl,rfl⟩:=hown.sl;clear hown hb htl;subst hkn
  go_wp2_with fail
  go_loopw [3,7,8] (fun lv i _ wr=>∃k:Nat,k<=ls.length/\i=.int .i64 k/\ah bC 107 wr lv (toldW ws (W.map (Option.map Wk.f)) 0++gI ws (ls.take k))/\Hid (∀g,lv.ownBlock=some g->w.heap.size<=g)/\Below w.heap.size w wr) (fun _ i _ _=>ls.length-(intOf i).toNat)
  case atStart=>exact⟨0,by omega,rfl,by simpa[gI] using aa HO1,hfr,aa HB2⟩
  case round=>
   clear hfr;obtain⟨k,hk,rfl,hown,hfr,hb⟩:=hrel;have hsz:=hb.size;have r8:=(hb.cell (p:=⟨fb,8,none⟩) hlt0).trans (aa HC8)
   by_cases hlt:k<ls.length
   ·have hkn:(k:Int)<ls.length:=by omega
    obtain⟨b,off,rfl,hbl,hc0⟩:=aa HC (by omega)
    obtain⟨⟨rl,rz,rx,ry⟩,ht⟩:∃t,ls[k]?=some t:=⟨_,List.getElem?_eq_getElem hlt⟩;have hrg0:w.rangeAt b (off+k*4) #[.int .i64 rl,.int .i64 rz,.int .i64 rx,.int .i64 ry].toList:=bL.key hc0 ht;have hrg:=dA hrg0 hb hbl;have HB:=ae hb;have HO:=ae hown;obtain⟨w3,hw3⟩:∃w3,wr.alloc (.cells #[(),(),(),(),(),(),(),()] 107)=w3:=⟨_,rfl⟩;have hb3:Below wr.heap.size wr w3:=hw3▸(Below.refl wr.heap.size wr).alloc aD (.cells #[(),(),(),(),(),(),(),()] 107);have hA3:w3.heap[wr.heap.size]?=some (.cells #[(),(),(),(),(),(),(),()] 107):=hw3▸heap_alloc_new wr (.cells #[(),(),(),(),(),(),(),()] 107);have HW3:=ae hw3;obtain⟨g1,hg⟩:∃g1,wr.heap.size=g1:=⟨_,rfl⟩;have HAL:=ae (show ∀(ev:Operand->Value) (o:Oper),o.op=.alloc 107->(execOp ev o).run prog wr=.ok (.value (.pointer (some ⟨g1,0,none⟩))) w3 from fun ev o q=>hg▸al73 ev o q wr w3 (aa HW3));rw[hg] at hA3;obtain⟨w4,hw4⟩:∃w4,w3.setRow g1 #[rl,rz,rx,ry,.int .i64 (-1),.int .i64 (-1),(),()]=w4:=⟨_,rfl⟩;have hA4:w4.heap[g1]?=some (.cells #[rl,rz,rx,ry,.int .i64 (-1),.int .i64 (-1),(),()] 107):=hw4▸setRow_heap _ _ _ #[rl,rz,rx,ry,.int .i64 (-1),.int .i64 (-1),(),()] _ _ hA3
    have hb4:Below wr.heap.size wr w4:=hw4▸aK hb3 (by omega) #[rl,rz,rx,ry,.int .i64 (-1),.int .i64 (-1),(),()]
    have HST:=ae (show ∀(ev:Operand->Value) (o:Oper) (s t:Operand),o.op=.store 107 s t->ev s=.pointer (some ⟨g1,0,none⟩)->ev t=.agg #[rl,rz,rx,ry,.int .i64 (-1),.int .i64 (-1),(),()]->(execOp ev o).run prog w3=.ok .skip w4 from fun ev o s t q q1 q2=>hw4▸stR ev o s t 107 q #[rl,rz,rx,ry,.int .i64 (-1),.int .i64 (-1),(),()] #[(),(),(),(),(),(),(),()] (sz73 _ _ _ _ _ _ _ _) (told_one _ _ _ _ _ _ _ _) rfl g1 q1 q2 w3 hA3)
    have H4:=ae (show Below wr.heap.size wr w4/\w4.heap[g1]?=some (.cells #[rl,rz,rx,ry,.int .i64 (-1),.int .i64 (-1),(),()] 107)/\wr.heap.size<=g1 from⟨hb4,hA4,by omega⟩)
    clear hb3 hA3 hw4 hw3 hb4 hA4 hc0 hown hb;obtain⟨hbr4,hA4,hgr⟩:=aa H4;have hB4:=(aa HB).trans (hbr4.mono (aa HB).size);have hsz4:=hB4.size;have hrg4:=dA hrg0 hB4 hbl;have r8b:=((hB4).cell (p:=⟨fb,8,none⟩) hlt0).trans (aa HC8);have CF:=fe fb X ws rl rz rx ry w4 (ag (aa HF) hB4) ((aa HV).on hB4) (aa HS) hl;have hown4:=(aa HO).on hbr4;have HO4:=ae hown4;have HA4:=ae hA4;have HB4:=ae hB4;clear hbr4 hA4 hB4 H4 hown4 HW3 hg;have HAL2:∀(W:World) (ev:Operand->Value) (o:Oper),o.op=.alloc 107->W=wr->(execOp ev o).run prog W=.ok (.value (.pointer (some ⟨g1,0,none⟩))) w3:=fun W ev o q e=>e▸aa HAL ev o q;have HST2:∀(W:World) (ev:Operand->Value) (o:Oper) (s t:Operand),o.op=.store 107 s t->ev s=.pointer (some ⟨g1,0,none⟩)->ev t=.agg #[rl,rz,rx,ry,.int .i64 (-1),.int .i64 (-1),(),()]->W=w3->(execOp ev o).run prog W=.ok .skip w4:=fun W ev o s t q q1 q2 e=>e▸aa HST ev o s t q q1 q2;clear HAL HST;have hrgA:∀{W:World},W=wr\/W=w4->W.rangeAt b (off+k*4) (#[rl,rz,rx,ry]:Array Value).toList:=fun h=>h.elim (fun e=>e▸hrg) (fun e=>e▸hrg4)
    go_wp2_with (first|refine bU 39 #[rl,rz,rx,ry] underlying39 rfl (bj _ _ _ _) b (off+k*4) (hrgA (Or.inl rfl)) rfl _ rfl rfl ?_|refine cP _ _ (bt73b rl rz rx ry (-1) (-1) _ _ _ _ _ rfl rfl rfl rfl _) rfl ?_|refine cP _ _ (HAL2 _ _ _ rfl rfl) rfl ?_|refine cU _ (HST2 _ _ _ _ _ rfl rfl rfl rfl) rfl ?_|refine bU 39 #[rl,rz,rx,ry] underlying39 rfl (bj _ _ _ _) b (off+k*4) (hrgA (Or.inr rfl)) rfl _ rfl rfl ?_)
    clear HAL2 HST2 hrg r8 hrgA;refine CF.mono ?_;rintro e w5 ⟨rfl,hb5⟩;have hA5:=ag (aa HA4) hb5;have hB5:=(aa HB4).trans (hb5.mono (aa HB4).size);have hown5:=(aa HO4).on hb5;have hfs:=toldL_take ws (toldW ws (W.map (Option.map Wk.f)) 0) ht;obtain⟨C,hC⟩:∃C,aC ws ⟨rl,rz,rx,ry⟩=C:=⟨_,rfl⟩;rw[hC] at hfs;rw[hC];have c7:w5.cell? ⟨g1,7,none⟩=some (.int .i64 0):=af hA5 7;have fz7:=bi hA5 7;obtain⟨w6,hw6⟩:∃W',w5.setCell ⟨g1,7,none⟩ (.int .i64 (C:Int))=W':=⟨_,rfl⟩;have hA6:w6.heap[g1]?=some (.cells #[rl,rz,rx,ry,.int .i64 (-1),.int .i64 (-1),(),(C:Int)] 107):=hw6▸eP hA5 7 (.int .i64 (C:Int)) rfl
    have hB6:Below w.heap.size w w6:=hw6▸hB5.setCell (p:=⟨g1,7,none⟩) (by show w.heap.size<=g1; omega) _
    have hown6:ah bC 107 w6 u3 (toldW ws (W.map (Option.map Wk.f)) 0++gI ws (ls.take k)):=by
     rw[<-hw6]
     exact hown5.same fun g hg=>Below.heap_setCell _ _ _ _ (fun e=>by
      have:=(aa HO).lt hg;have:g=g1:=e;omega)
    have S7:=ae (fun(ev:Operand->Value) (o:Oper) (s t:Operand) (q:o.op=.store 3 s t) q1 q2=>kO ev o s t q g1 7 (C:Int) q1 q2 w5 w6 c7 fz7 hw6);have hrg6:w6.rangeAt g1 0 (#[rl,rz,rx,ry,.int .i64 (-1),.int .i64 (-1),(),(C:Int)]:Array Value).toList:=ao hA6;have hat:=aZ bC 107 w6 ⟨⟨rl,rz,rx,ry⟩,-1,-1,0,(C:Int)⟩ #[rl,rz,rx,ry,.int .i64 (-1),.int .i64 (-1),(),(C:Int)] rfl;have hownA:=hown6.on (bu.alloc aD (.cells #[rl,rz,rx,ry,.int .i64 (-1),.int .i64 (-1),(),(C:Int)] 107))
    obtain⟨v7,w7,r1,r2,r3,r4⟩:=pK hownA hat (by simp only[List.length_singleton]; have:=nk ws (W.map (Option.map Wk.f)) 0; rw[List.length_map] at this; rw[List.length_append,toldL_len,List.length_take]; omega)
    rw[<-hfs] at r2;have hsz6:=hB6.size;have HO3:=ae r2
    have HB3:=ae ((hB6.alloc hsz6 (.cells #[rl,rz,rx,ry,.int .i64 (-1),.int .i64 (-1),(),(C:Int)] 107)).grown r3 (by simp; omega) (fun g hg=>aa hfr g hg))
    have HFR:=ae (show ∀g,v7.ownBlock=some g->w.heap.size<=g from fun g hg=>by
     rcases r4 with r4|r4
     ·exact aa hfr g (r4▸hg)
     have:=r4 g hg; simp at this; omega)
    obtain⟨oal,nl,cl,rfl⟩:=hown6.sl;clear hA5 hB5 hown5 hfs hC c7 fz7 hw6 hA6 hB6 hown6 hat hownA r2 r3 r4 HO4 HA4 HB4 hrg4 CF hb5
    go_wp2_with (first|refine cU w6 (aa S7 _ _ _ _ rfl rfl rfl) rfl ?_|refine bU 107 #[rl,rz,rx,ry,.int .i64 (-1),.int .i64 (-1),(),(C:Int)] underlying107 rfl (sz73 _ _ _ _ _ _ _ _) g1 0 hrg6 rfl _ rfl rfl ?_|refine cP _ _ (ms rl rz rx ry (-1) (-1) 0 (C:Int) _ _ _ rfl rfl _) rfl ?_|(at_builtin; refine fS 104 r1 rfl _ _ rfl rfl rfl rfl ?_))
    go_roundw
    case rel=>exact⟨k+1,by omega,by go_num,aa HO3,aa HFR,aa HB3⟩
    case measure=>simp[intOf]; omega
   have hkn:k=ls.length:=by omega
   have htl:ls.take k=ls:=by rw[hkn,List.take_length]
   rw[htl] at hown;have HH:Hid (∃rv,Ending.returned u3=.returned rv/\ah bC 107 wr rv (toldW ws (W.map (Option.map Wk.f)) 0++gI ws ls)/\∀g,rv.ownBlock=some g->w.heap.size<=g):=⟨_,rfl,hown,aa hfr⟩;have HBE:=ae hb;obtain⟨oal,nl,cl,rfl⟩:=hown.sl;clear hown hb htl;subst hkn
   go_wp2_with fail
   go_ret;exact⟨aa HH,aa HBE⟩
theorem al113 (ev:Operand->Value)(o:Oper)(ho:o.op=.alloc 113)(w w1:World)(h1:w.alloc (.cells #[(),(),(),(),(),(),(),(),()] 113)=w1):(execOp ev o).run prog w=.ok (.value (.pointer (some ⟨w.heap.size,0,none⟩))) w1:=by
 rw[<-h1];unfold execOp;simp only[ho]
 kernel_rfl
theorem built113 (a b c d e f g h i:Int):prog.built 113 [(0,.int .i64 a),(1,.int .i64 b),(2,.int .i64 c),(3,.int .i64 d),(4,.int .i64 e),(5,.int .i64 f),(6,.int .i64 g),(7,.int .i64 h),(8,.int .i64 i)]=some #[.int .i64 a,.int .i64 b,.int .i64 c,.int .i64 d,.int .i64 e,.int .i64 f,.int .i64 g,.int .i64 h,.int .i64 i]:=by kernel_rfl
theorem bLk (a b c d e f g h i:Int)(ev:Operand->Value)(o:Oper)(p0 p1 p2 p3 p4 p5 p6 p7 p8:Operand)(ho:o.op=.build 113 #[(0,p0),(1,p1),(2,p2),(3,p3),(4,p4),(5,p5),(6,p6),(7,p7),(8,p8)])(h0:ev p0=.int .i64 a)(h1:ev p1=.int .i64 b)(h2:ev p2=.int .i64 c)(h3:ev p3=.int .i64 d)(h4:ev p4=.int .i64 e)(h5:ev p5=.int .i64 f)(h6:ev p6=.int .i64 g)(h7:ev p7=.int .i64 h)(h8:ev p8=.int .i64 i)(w:World):(execOp ev o).run prog w=.ok (.value (.agg #[.int .i64 a,.int .i64 b,.int .i64 c,.int .i64 d,.int .i64 e,.int .i64 f,.int .i64 g,.int .i64 h,.int .i64 i])) w:=by
 have hb:=run_build (P:=prog) w 113 #[(0,.int .i64 a),(1,.int .i64 b),(2,.int .i64 c),(3,.int .i64 d),(4,.int .i64 e),(5,.int .i64 f),(6,.int .i64 g),(7,.int .i64 h),(8,.int .i64 i)] _ (built113 a b c d e f g h i);unfold execOp;simp[ho,h0,h1,h2,h3,h4,h5,h6,h7,h8,hb]
theorem sz113 (a b c d e f g h i:Int):(prog.info? 113).map (·.size)=some (#[a,b,c,d,e,f,g,h,i]:Array Value).size:=by kernel_rfl
theorem lk1 (a b c d e f g h i:Int):(#[a,b,c,d,e,f,g,h,i]:Array Value).all (·.oneCell')=true:=by simp[Value.oneCell']
theorem linN_snoc {jb:List Jb}{k:Nat}{j:Jb}(h:jb[k]?=some j):gC (jb.take (k+1))=gC (jb.take k)+(if j.wk<0 then 1 else 0):=by
 unfold gC;rw[be h,List.countP_append]
 congr 1
 by_cases e:j.wk<0
 ·rw[if_pos e,List.countP_singleton,if_pos (decide_eq_true e)]
 rw[if_neg e,List.countP_singleton,if_neg (by rw[decide_eq_true_eq]; exact e)]
theorem linN_le (jb:List Jb):gC jb<=jb.length:=List.countP_le_length
section
variable {w:World}{fb:Nat}{X:RV}{keep:Int}{bv pv:Value}{SL:List cA}{bs:List bK}{PI:List Int}
theorem rLook_any (rq:List Rq)(jb:List Jb)(en:List En)(hf:aF w fb X)(hm:cE w X rq jb en)(hR:eV w X.sb keep bv pv SL bs PI)(hsm:∀r∈rq,bP r.k)(hrl:rq.length<=10000000)(hjl:jb.length<=1000000)(hel:en.length<=50000)(hby:aY en<=1000000):
  Calls prog 62 #[.pointer (some ⟨fb,0,none⟩)] w fun e w'=>e=.returned (.agg #[.int .i64 (bs.length:Nat),X.nw,.int .i64 (rq.length:Nat),.int .i64 (bg rq ⟨0,0,0,0⟩ true:Nat),.int .i64 (gC jb:Nat),.int .i64 ((jb.length:Int)-(gC jb:Nat)),.int .i64 (en.length:Nat),.int .i64 (aY en:Nat),X.st])/\Below w.heap.size w w':=by
 have hWle:=ef rq ⟨0,0,0,0⟩ true;have hLle:=linN_le jb;obtain⟨L,hL⟩:∃L,gC jb=L:=⟨_,rfl⟩;obtain⟨WN,hWN⟩:∃q,bg rq ⟨0,0,0,0⟩ true=q:=⟨_,rfl⟩;obtain⟨V,hV⟩:∃q,bs.length=q:=⟨_,rfl⟩;obtain⟨N,hN⟩:∃q,rq.length=q:=⟨_,rfl⟩;obtain⟨JL,hJL⟩:∃q,jb.length=q:=⟨_,rfl⟩;obtain⟨EL,hEL⟩:∃q,en.length=q:=⟨_,rfl⟩;obtain⟨BY,hBY⟩:∃q,aY en=q:=⟨_,rfl⟩;rw[hWN,hV,hL,hN,hJL,hEL,hBY];rw[hL] at hLle;rw[hWN] at hWle;have HL:=ae hL;have HWN:=ae hWN;have HV:=ae hV;have HN:=ae hN;have HJL:=ae hJL;have HEL:=ae hEL;have HBY:=ae hBY;clear hL hWN hV hN hJL hEL hBY;obtain⟨ra,rc,hrv,_⟩:=hm.rq.val;obtain⟨ja,jc,hjv,hja⟩:=hm.jb.val;obtain⟨ea,ec,hev,_⟩:=hm.en.val;have hAL:∀(ev:Operand->Value) (o:Oper),o.op=.alloc 113->(execOp ev o).run prog w=.ok (.value (.pointer (some ⟨w.heap.size,0,none⟩))) (w.alloc (.cells #[(),(),(),(),(),(),(),(),()] 113)):=fun ev o q=>al113 ev o q w _ rfl;have HAL:=ae hAL;have hb1:=aj w (.cells #[(),(),(),(),(),(),(),(),()] 113);have hg1:=heap_alloc_new w (.cells #[(),(),(),(),(),(),(),(),()] 113);have HG1:=ae hg1;have HB1:=ae hb1;have HF:=ae hf;have HM:=ae hm;have HR:=ae hR;have HSM:=ae hsm;have HJV:=ae hjv;have HRV:=ae hrv;have HEV:=ae hev;have HJA:=ae hja;clear hf hm hR hsm hrv hjv hev hja hAL hb1 hg1;go_enter func62,ntmps62
 go_wp2_with (refine cP _ _ (aa HAL _ _ rfl) rfl ?_)
 obtain⟨w1,hw1⟩:∃w1,w.alloc (.cells #[(),(),(),(),(),(),(),(),()] 113)=w1:=⟨_,rfl⟩;rw[hw1] at HG1 HB1 ⊢;clear hw1 HAL
 go_loopw [3,4] (fun n i wr=>∃k:Nat,k<=jb.length/\i=.int .i64 k/\n=.int .i64 (gC (jb.take k):Nat)/\wr=w1) (fun _ i _=>jb.length-(intOf i).toNat)
 case atStart=>exact⟨0,by omega,rfl,by simp[gC],rfl⟩
 case round=>
  obtain⟨k,hk,rfl,rfl,rfl⟩:=hrel;have hf1:=ag (aa HF) (aa HB1)
  have c10:wr.cell? ⟨fb,10,none⟩=some (.slice ja jb.length jc):=by rw[<-aa HJV]; exact aF.c hf1 10 rfl
  by_cases hlt:k<jb.length
  ·have hkn:(k:Int)<jb.length:=by omega
   obtain⟨b,off,rfl⟩:=aa HJA (by omega)
   obtain⟨j,ht⟩:∃t,jb[k]?=some t:=⟨_,List.getElem?_eq_getElem hlt⟩;have ho:=((aa HM).on (aa HB1)).jb;rw[aa HJV] at ho;have d4:wr.cell? ⟨b,off+k*8+4,none⟩=some (.int .i64 j.wk):=(ho.cellF ht (j:=4) (u:=.int .i64 j.wk) rfl).1;have hsn:=linN_snoc ht;have hll:=linN_le (jb.take k);rw[List.length_take] at hll;obtain⟨jw,hjw⟩:∃q,j.wk=q:=⟨_,rfl⟩;rw[hjw] at d4 hsn;clear ho hjw hf1
   by_cases hw:jw<0
   ·rw[if_pos hw] at hsn
    have HSN:=ae hsn;clear hsn
    go_wp2_with fail
    go_roundw
    case rel=>exact⟨k+1,by omega,by go_num,by rw[aa HSN]; go_num,by first|rfl|trivial⟩
    case measure=>simp[intOf]; omega
   rw[if_neg hw] at hsn;have HSN:=ae hsn;clear hsn
   go_wp2_with fail
   go_roundw
   case rel=>exact⟨k+1,by omega,by go_num,by rw[aa HSN]; rfl,by first|rfl|trivial⟩
   case measure=>simp[intOf]; omega
  have hkn:k=jb.length:=by omega
  subst hkn;rw[List.take_length];rw[aa HL];have hm1:=(aa HM).on (aa HB1)
  have WA:=fh fb X rq 0 0 0 0 true wr hf1 hm1.rq.at (aa HSM) (by omega)
  have HBT:=ae (fun(W:World) (hW:Below wr.heap.size wr W)=>oe fb X en W (ag hf1 hW) (hm1.en.on hW).at (by omega) (by omega))
  have HVR:=ae (fun(W:World) (hW:Below wr.heap.size wr W)=>dv (((aa HR).on (aa HB1)).on hW));have hN:=aa HN;have hJL:=aa HJL;have hEL:=aa HEL;rw[aa HWN] at WA;rw[aa HBY] at HBT;rw[aa HV] at HVR;rw[hJL] at hLle hjl;rw[hN] at hWle hrl
  have hsub:IntKind.i64.wrap ((JL:Int)-(L:Int))=(JL:Int)-(L:Int):=bG _ (by omega)
  have HF1:=ae hf1
  have HSZ:=ae (show ∀W,Below wr.heap.size wr W->W.cell? ⟨fb,6,none⟩=some (.int .i64 X.nw)/\W.cell? ⟨fb,9,none⟩=some (.slice ra N rc)/\W.cell? ⟨fb,10,none⟩=some (.slice ja JL jc)/\W.cell? ⟨fb,11,none⟩=some (.slice ea EL ec)/\W.cell? ⟨fb,8,none⟩=some (.int .i64 X.st) from fun W hW=>⟨aF.c (ag hf1 hW) 6 rfl,by rw[<-hN,<-aa HRV]; exact aF.c (ag hf1 hW) 9 rfl,by rw[<-hJL,<-aa HJV]; exact aF.c (ag hf1 hW) 10 rfl,by rw[<-hEL,<-aa HEV]; exact aF.c (ag hf1 hW) 11 rfl,aF.c (ag hf1 hW) 8 rfl⟩)
  have HC5:=ae (show ∀W,Below wr.heap.size wr W->W.cell? ⟨fb,5,none⟩=some (.pointer (some ⟨X.sb,0,none⟩)) from fun W hW=>aF.c (ag hf1 hW) 5 rfl)
  have hnl:¬((JL:Int)<(JL:Int)):=by omega
  rw[hJL] at c10;rw[hJL];clear hf1 hm1 hN hJL hEL
  go_wp2_with fail
  refine WA.mono ?_;rintro e w2 ⟨rfl,hb2⟩;have HB2:=ae hb2;clear WA hb2 c10
  go_wp2_with fail
  refine(aa HBT w2 (aa HB2)).mono ?_;rintro e w3 ⟨rfl,rfl⟩;have c5:=aa HC5 w2 (aa HB2);have VR:=aa HVR w2 (aa HB2)
  go_wp2_with fail
  refine VR.mono ?_;rintro e w4 ⟨rfl,rfl⟩;clear c5 VR HBT;obtain⟨w6,hw6⟩:∃w6,World.drew w2=w6:=⟨_,rfl⟩;have hb6:Below w2.heap.size w2 w6:=hw6▸Below.drew bu;have hb06:=(aa HB2).trans (hb6.mono (aa HB2).size);have hS:=aa HSZ w6 hb06;have hg6:=ag (aa HG1) hb06;obtain⟨w7,hw7⟩:∃w7,w6.setRow w.heap.size #[.int .i64 (V:Nat),X.nw,.int .i64 (N:Nat),.int .i64 (WN:Nat),.int .i64 (L:Nat),.int .i64 ((JL:Int)-(L:Int)),.int .i64 (EL:Nat),.int .i64 (BY:Nat),X.st]=w7:=⟨_,rfl⟩;have hg7:w7.heap[w.heap.size]?=some (.cells #[.int .i64 (V:Nat),X.nw,.int .i64 (N:Nat),.int .i64 (WN:Nat),.int .i64 (L:Nat),.int .i64 ((JL:Int)-(L:Int)),.int .i64 (EL:Nat),.int .i64 (BY:Nat),X.st] 113):=hw7▸setRow_heap _ _ _ #[.int .i64 (V:Nat),X.nw,.int .i64 (N:Nat),.int .i64 (WN:Nat),.int .i64 (L:Nat),.int .i64 ((JL:Int)-(L:Int)),.int .i64 (EL:Nat),.int .i64 (BY:Nat),X.st] _ _ hg6;have hfl:fb<w.heap.size:=an (aa HF);have hb7:Below w.heap.size w w7:=hw7▸aK ((aa HB1).trans (hb06.mono (aa HB1).size)) aD #[.int .i64 (V:Nat),X.nw,.int .i64 (N:Nat),.int .i64 (WN:Nat),.int .i64 (L:Nat),.int .i64 ((JL:Int)-(L:Int)),.int .i64 (EL:Nat),.int .i64 (BY:Nat),X.st]
  have hkeep:∀i,w7.cell? ⟨fb,i,none⟩=w6.cell? ⟨fb,i,none⟩:=fun i=>World.cell?_of_block (a:=⟨fb,i,none⟩) (by rw[<-hw7]; exact setRow_other (by show w.heap.size≠fb; omega) _)
  have hS7:w7.cell? ⟨fb,6,none⟩=some (.int .i64 X.nw)/\w7.cell? ⟨fb,9,none⟩=some (.slice ra N rc)/\w7.cell? ⟨fb,10,none⟩=some (.slice ja JL jc)/\w7.cell? ⟨fb,11,none⟩=some (.slice ea EL ec)/\w7.cell? ⟨fb,8,none⟩=some (.int .i64 X.st):=⟨(hkeep 6).trans hS.1,(hkeep 9).trans hS.2.1,(hkeep 10).trans hS.2.2.1,(hkeep 11).trans hS.2.2.2.1,(hkeep 8).trans hS.2.2.2.2⟩;have HQ:Hid (w7.heap[w.heap.size]?=some (.cells #[.int .i64 (V:Nat),X.nw,.int .i64 (N:Nat),.int .i64 (WN:Nat),.int .i64 (L:Nat),.int .i64 ((JL:Int)-(L:Int)),.int .i64 (EL:Nat),.int .i64 (BY:Nat),X.st] 113)/\Below w.heap.size w w7):=⟨hg7,hb7⟩;clear hb6 hb06 hg7 hb7 hkeep
  go_wp2_with fail
  refine wp_region_held (S:=fun w'=>w'.cell? ⟨fb,6,none⟩=some (.int .i64 X.nw)/\w'.cell? ⟨fb,9,none⟩=some (.slice ra N rc)/\w'.cell? ⟨fb,10,none⟩=some (.slice ja JL jc)/\w'.cell? ⟨fb,11,none⟩=some (.slice ea EL ec)/\w'.cell? ⟨fb,8,none⟩=some (.int .i64 X.st)) (by kernel_rfl) ?_
  change wpAnyH _ _ _ _ _ _ _ _ (World.drew _);rw[hw6];refine aH 0 rfl (.int .i64 (V:Nat)) hS ?_;refine am 1 rfl fb 0 hS ?_;refine am 2 rfl fb 0 hS ?_;refine am 3 rfl fb 6 hS ?_
  refine aH 4 rfl (.int .i64 X.nw) hS ?_ (hy:=fun w' hw'=>by simp[go_sem,hw'.1])
  refine am 5 rfl fb 0 hS ?_;refine am 6 rfl fb 0 hS ?_;refine am 7 rfl fb 9 hS ?_
  refine aH 8 rfl (.slice ra N rc) hS ?_ (hy:=fun w' hw'=>by simp[go_sem,hw'.2.1])
  refine aH 9 rfl (.int .i64 (N:Nat)) hS ?_;refine aH 10 rfl (.int .i64 (WN:Nat)) hS ?_;refine aH 11 rfl (.int .i64 (L:Nat)) hS ?_;refine am 12 rfl fb 0 hS ?_;refine am 13 rfl fb 0 hS ?_;refine am 14 rfl fb 10 hS ?_
  refine aH 15 rfl (.slice ja JL jc) hS ?_ (hy:=fun w' hw'=>by simp[go_sem,hw'.2.2.1])
  refine aH 16 rfl (.int .i64 (JL:Nat)) hS ?_;refine aH 17 rfl (.int .i64 (L:Nat)) hS ?_
  refine aH 18 rfl (.int .i64 ((JL:Int)-(L:Int))) hS ?_ (hy:=fun w' hw'=>by simp[go_sem,hsub])
  refine am 19 rfl fb 0 hS ?_;refine am 20 rfl fb 0 hS ?_;refine am 21 rfl fb 11 hS ?_
  refine aH 22 rfl (.slice ea EL ec) hS ?_ (hy:=fun w' hw'=>by simp[go_sem,hw'.2.2.2.1])
  refine aH 23 rfl (.int .i64 (EL:Nat)) hS ?_;refine aH 24 rfl (.int .i64 (BY:Nat)) hS ?_;refine am 25 rfl fb 0 hS ?_;refine am 26 rfl fb 0 hS ?_;refine am 27 rfl fb 8 hS ?_
  refine aH 28 rfl (.int .i64 X.st) hS ?_ (hy:=fun w' hw'=>by simp[go_sem,hw'.2.2.2.2])
  refine aH 29 rfl (.agg #[.int .i64 (V:Nat),X.nw,.int .i64 (N:Nat),.int .i64 (WN:Nat),.int .i64 (L:Nat),.int .i64 ((JL:Int)-(L:Int)),.int .i64 (EL:Nat),.int .i64 (BY:Nat),X.st]) hS ?_ (hy:=fun w' hw'=>bLk _ _ _ _ _ _ _ _ _ _ _ _ _ _ _ _ _ _ _ _ rfl rfl rfl rfl rfl rfl rfl rfl rfl rfl w');refine aV 30 ?_;refine cL 30 rfl rfl (w7) (hw7▸stR _ _ _ _ 113 rfl #[.int .i64 (V:Nat),X.nw,.int .i64 (N:Nat),.int .i64 (WN:Nat),.int .i64 (L:Nat),.int .i64 ((JL:Int)-(L:Int)),.int .i64 (EL:Nat),.int .i64 (BY:Nat),X.st] #[(),(),(),(),(),(),(),(),()] (sz113 _ _ _ _ _ _ _ _ _) (lk1 _ _ _ _ _ _ _ _ _) rfl w.heap.size rfl rfl w6 hg6) (hS7) ?_;simp only[Act.put]
  refine wpAnyH_done (by kernel_rfl) ?_ _
  clear hS hS7 hg6 hw6 hw7
  go_wp2_with fail
  exact bodyPost_ret (v:=.agg #[.int .i64 (V:Nat),X.nw,.int .i64 (N:Nat),.int .i64 (WN:Nat),.int .i64 (L:Nat),.int .i64 ((JL:Int)-(L:Int)),.int .i64 (EL:Nat),.int .i64 (BY:Nat),X.st]) (results_cell_row results62 _ _ w.heap.size 113 _ (0,0) _ rfl (aa HQ).1 underlying113 rfl (sz113 _ _ _ _ _ _ _ _ _)) rfl ⟨rfl,(aa HQ).2⟩
end
theorem built107 (l z x y a b c d:Int):prog.built 107 [(0,.agg #[.int .i64 l,.int .i64 z,.int .i64 x,.int .i64 y]),(1,.int .i64 a),(2,.int .i64 b),(3,.int .i64 c),(4,.int .i64 d)]=some #[.int .i64 l,.int .i64 z,.int .i64 x,.int .i64 y,.int .i64 a,.int .i64 b,.int .i64 c,.int .i64 d]:=by kernel_rfl
theorem bTold (l z x y a b c d:Int)(A:Act)(o:Oper)(p0 p1 p2 p3 p4:Operand)(ho:o.op=.build 107 #[(0,p0),(1,p1),(2,p2),(3,p3),(4,p4)])(h0:A.eval p0=.agg #[.int .i64 l,.int .i64 z,.int .i64 x,.int .i64 y])(h1:A.eval p1=.int .i64 a)(h2:A.eval p2=.int .i64 b)(h3:A.eval p3=.int .i64 c)(h4:A.eval p4=.int .i64 d)(w:World):(execOp A.eval o).run prog w=.ok (.value (.agg #[.int .i64 l,.int .i64 z,.int .i64 x,.int .i64 y,.int .i64 a,.int .i64 b,.int .i64 c,.int .i64 d])) w:=by
 have hb:=run_build (P:=prog) w 107 #[(0,.agg #[.int .i64 l,.int .i64 z,.int .i64 x,.int .i64 y]),(1,.int .i64 a),(2,.int .i64 b),(3,.int .i64 c),(4,.int .i64 d)] _ (built107 l z x y a b c d);unfold execOp;simp[ho,h0,h1,h2,h3,h4,hb]
section
variable {D:DF}
theorem toldW_snoc (w:Nat){l:List Jb}{k:Nat}{j:Jb}(h:l[k]?=some j):D.toldW w (l.take (k+1))=D.toldW w (l.take k)++(if j.wk=(w:Int) then [⟨j.b,w,j.rd,j.lf,bg D.rq j.b false⟩] else []):=by
 unfold DF.toldW;rw[be h,List.filter_append,List.map_append]
 congr 1
 by_cases e:j.wk=(w:Int)
 ·rw[if_pos e,List.filter_cons_of_pos (p:=fun(j:Jb)=>decide (j.wk=(w:Int))) (decide_eq_true e)]; rfl
 rw[if_neg e,List.filter_cons_of_neg (p:=fun(j:Jb)=>decide (j.wk=(w:Int))) (by rw[decide_eq_true_eq]; exact e)]; rfl
theorem toldP_snoc (p:Nat){l:List Jb}{k:Nat}{j:Jb}(h:l[k]?=some j):D.toldP p (l.take (k+1))=D.toldP p (l.take k)++(if j.wk<0/\j.pl=(p:Int) then [⟨j.b,-1,-1,0,bg D.rq j.b false⟩] else []):=by
 unfold DF.toldP;rw[be h,List.filter_append,List.map_append]
 congr 1
 by_cases e:j.wk<0/\j.pl=(p:Int)
 ·rw[if_pos e,List.filter_cons_of_pos (p:=fun(j:Jb)=>decide (j.wk<0) && decide (j.pl=(p:Int))) (by simp[e.1,e.2])]; rfl
 rw[if_neg e,List.filter_cons_of_neg (p:=fun(j:Jb)=>decide (j.wk<0) && decide (j.pl=(p:Int))) (by simpa using e)]; rfl
theorem lC (w:Nat)(l:List Jb):(D.toldW w l).length<=l.length:=by unfold DF.toldW; rw[List.length_map]; exact List.length_filter_le _ _
theorem np (p:Nat)(l:List Jb):(D.toldP p l).length<=l.length:=by unfold DF.toldP; rw[List.length_map]; exact List.length_filter_le _ _
theorem pz {α β:Type}(f:α->List β)(m:Nat):∀l:List α,(∀a∈l,(f a).length<=m)->(l.flatMap f).length<=l.length*m
 | [],_=>by simp
 | a::l,h=>by
  have:=pz f m l fun b hb=>h b (List.mem_cons_of_mem _ hb);have h0:=h a (List.mem_cons_self ..);rw[List.flatMap_cons,List.length_append,List.length_cons,Nat.succ_mul];omega
def fw (D:DF)(n:Nat):List f9:=(List.range n).flatMap fun w=>D.toldW w D.jb
def fp (D:DF)(n:Nat):List f9:=fw D D.wk++(List.range n).flatMap fun p=>D.toldP p D.jb
theorem fw_succ (D:DF)(n:Nat):fw D (n+1)=fw D n++D.toldW n D.jb:=by unfold fw; rw[List.range_succ,List.flatMap_append]; simp
theorem fp_succ (D:DF)(n:Nat):fp D (n+1)=fp D n++D.toldP n D.jb:=by unfold fp; rw[List.range_succ,List.flatMap_append,List.append_assoc]; simp
theorem fw_len (D:DF)(n:Nat):(fw D n).length<=n*D.jb.length:=by
 have:=pz (fun w=>D.toldW w D.jb) D.jb.length (List.range n) fun w _=>lC w D.jb;rw[List.length_range] at this;exact this
theorem fp_len (D:DF)(n:Nat):(fp D n).length<=D.wk*D.jb.length+n*D.jb.length:=by
 have:=pz (fun p=>D.toldP p D.jb) D.jb.length (List.range n) fun p _=>np p D.jb;rw[List.length_range] at this;have h2:=fw_len D D.wk;unfold fp;rw[List.length_append];omega
end
section
variable {w:World}{fb:Nat}{X:RV}{D:DF}
theorem oI (hf:aF w fb X)(hm:cE w X D.rq D.jb D.en)(hwk:X.wk=D.wk)(hct:X.ct=D.ct)(hw4:D.wk<=4)(hcb:D.ct<=2000000)(hsm:∀r∈D.rq,bP r.k)(hrl:D.rq.length<=10000000)(hjl:D.jb.length<=12):
  Calls prog 64 #[.pointer (some ⟨fb,0,none⟩)] w fun e w'=>∃rv,e=.returned rv/\ah bC 107 w' rv D.told/\(∀g,rv.ownBlock=some g->w.heap.size<=g)/\Below w.heap.size w w':=by
 obtain⟨ja,jc,hjv,hja⟩:=hm.jb.val;have hfl:fb<w.heap.size:=an hf;have HF:=ae hf;have HM:=ae hm;have HSM:=ae hsm;have HJV:=ae hjv;have HJA:=ae hja;have HWK:=ae hwk;have HCT:=ae hct;clear hf hm hsm hjv hja hwk hct;go_enter func64,ntmps64
 go_wp2_with fail
 go_loopw [3,4,5,6,7] (fun ov i _ _ _ wr=>∃W:Nat,W<=D.wk/\i=.int .i64 W/\Hid (ah bC 107 wr ov (fw D W))/\Hid (∀g,ov.ownBlock=some g->w.heap.size<=g)/\Hid (Below w.heap.size w wr)) (fun _ i _ _ _ _=>D.wk-(intOf i).toNat)
 case atStart=>exact⟨0,by omega,rfl,ae (by unfold fw; exact aU),ae (fun g hg=>by simp[Value.ownBlock] at hg),ae bu⟩
 case round=>
  obtain⟨W,hW,rfl,ho,hfr,hb⟩:=hrel
  have c1:wr.cell? ⟨fb,1,none⟩=some (.int .i64 (D.wk:Int)):=by rw[<-aa HWK]; exact aF.c (ag (aa HF) (aa hb)) 1 rfl
  by_cases hlt:W<D.wk
  ·have hWn:(W:Int)<D.wk:=by omega
   obtain⟨wB,rfl⟩:∃wB:World,wB=wr:=⟨_,rfl⟩
   have HK0:Hid (ah bC 107 wB u3 (fw D W++D.toldW W (D.jb.take 0))):=by show ah _ _ _ _ _; simpa[DF.toldW] using aa ho
   have hsz:=(aa hb).size
   go_wp2_with fail
   clear c1
   go_loopw [3,5,6,7] (fun ov i _ _ wr=>∃k:Nat,k<=D.jb.length/\i=.int .i64 k/\Hid (ah bC 107 wr ov (fw D W++D.toldW W (D.jb.take k)))/\Hid (∀g,ov.ownBlock=some g->w.heap.size<=g)/\Hid (Below w.heap.size w wr)) (fun _ i _ _ _=>D.jb.length-(intOf i).toNat)
   case atStart=>exact⟨0,by omega,rfl,HK0,hfr,hb⟩
   case round=>
    obtain⟨k,hk,rfl,ho,hfr,hb⟩:=hrel
    have c10:wr.cell? ⟨fb,10,none⟩=some (.slice ja D.jb.length jc):=by rw[<-aa HJV]; exact aF.c (ag (aa HF) (aa hb)) 10 rfl
    by_cases hlk:k<D.jb.length
    ·have hkn:(k:Int)<D.jb.length:=by omega
     obtain⟨b,off,rfl⟩:=aa HJA (by omega)
     obtain⟨⟨⟨jl,jz,jx,jy⟩,jw,jp,jr,jf⟩,ht⟩:∃t,D.jb[k]?=some t:=⟨_,List.getElem?_eq_getElem hlk⟩;have hoj:=((aa HM).on (aa hb)).jb;rw[aa HJV] at hoj;have hrow:wr.rangeAt b (off+k*8) #[.int .i64 jl,.int .i64 jz,.int .i64 jx,.int .i64 jy,.int .i64 jw,.int .i64 jp,.int .i64 jr,.int .i64 jf].toList:=hoj.row ht;obtain⟨wA,hwA⟩:∃wA,wr.alloc (.cells #[jl,jz,jx,jy,jw,jp,jr,jf] 165)=wA:=⟨_,rfl⟩;have hbA:Below wr.heap.size wr wA:=hwA▸aj wr (.cells #[jl,jz,jx,jy,jw,jp,jr,jf] 165);have hgA:wA.heap[wr.heap.size]?=some (.cells #[jl,jz,jx,jy,jw,jp,jr,jf] 165):=hwA▸heap_alloc_new wr (.cells #[jl,jz,jx,jy,jw,jp,jr,jf] 165);have e4:wA.cell? ⟨wr.heap.size,4,none⟩=some (.int .i64 jw):=(af hgA 4).trans rfl;have hsn:=toldW_snoc (D:=D) W ht;dsimp only at hsn;have HBA:=ae ((aa hb).trans (hbA.mono (aa hb).size));have HOA:=ae ((aa ho).on hbA);have HGA:=ae hgA;have HWA:=ae hwA;have hszA:=(aa HBA).size;obtain⟨g6,hg6⟩:∃g6,wr.heap.size=g6:=⟨_,rfl⟩;rw[hg6] at e4 HGA;clear hoj hbA hgA hwA
     by_cases hw:jw=(W:Int)
     ·subst hw
      rw[if_pos rfl] at hsn
      have WA:=fh fb X D.rq jl jz jx jy false wA (ag (aa HF) (aa HBA)) ((aa HM).on (aa HBA)).rq.at (aa HSM) (by omega)
      have hCl:=ef D.rq ⟨jl,jz,jx,jy⟩ false;obtain⟨C,hC⟩:∃C,bg D.rq ⟨jl,jz,jx,jy⟩ false=C:=⟨_,rfl⟩;rw[hC] at WA hsn hCl;have hrowA:wA.rangeAt g6 0 #[.int .i64 jl,.int .i64 jz,.int .i64 jx,.int .i64 jy].toList:=dV (ao (aa HGA)) rfl;have HSN:=ae hsn;clear hsn hC
      go_wp2_with (refine bU 165 #[jl,jz,jx,jy,(W:Int),jp,jr,jf] underlying165 rfl (fu ⟨⟨jl,jz,jx,jy⟩,(W:Int),jp,jr,jf⟩) b (off+k*8) hrow rfl _ rfl rfl ?_)
      rw[aa HWA];clear c10 hrow
      go_wp2_with (refine bU 39 #[jl,jz,jx,jy] underlying39 rfl (bj _ _ _ _) g6 0 hrowA rfl _ rfl rfl ?_)
      refine WA.mono ?_;rintro e w2 ⟨rfl,hb2⟩;have hg2:=ag (aa HGA) hb2;have hrow2:w2.rangeAt g6 0 #[.int .i64 jl,.int .i64 jz,.int .i64 jx,.int .i64 jy].toList:=dV (ao hg2) rfl;have f6:w2.cell? ⟨g6,6,none⟩=some (.int .i64 jr):=(af hg2 6).trans rfl;have f7:w2.cell? ⟨g6,7,none⟩=some (.int .i64 jf):=(af hg2 7).trans rfl;have HB2:=ae ((aa HBA).trans (hb2.mono (aa HBA).size));have hat:=aZ bC 107 w2 ⟨⟨jl,jz,jx,jy⟩,(W:Nat),jr,jf,(C:Nat)⟩ #[jl,jz,jx,jy,.int .i64 (W:Nat),jr,jf,.int .i64 (C:Nat)] rfl;have hbN:=aj w2 (.cells #[jl,jz,jx,jy,.int .i64 (W:Nat),jr,jf,.int .i64 (C:Nat)] 107);have hoN:=((aa HOA).on hb2).on hbN;have hl1:=fw_len D W;have hl2:=lC (D:=D) W (D.jb.take k)
      have hl3:W*D.jb.length<=4*12:=Nat.mul_le_mul (by omega) hjl
      rw[List.length_take] at hl2
      obtain⟨v7,w7,r1,r2,r3,r4⟩:=pK hoN hat (by simp only[List.length_append,List.length_singleton]; omega)
      rw[List.append_assoc,<-aa HSN] at r2;have HO7:=ae r2;have hs2:=(aa HB2).size
      have HB7:=ae (((aa HB2).alloc hs2 (.cells #[jl,jz,jx,jy,.int .i64 (W:Nat),jr,jf,.int .i64 (C:Nat)] 107)).grown r3 (by simp; omega) (fun g hg=>aa hfr g hg))
      have HF7:=ae (bN (aa hfr) r4 (by simp; omega))
      clear hat hbN hoN r2 r3 r4 hb2 hg2 WA hrowA
      go_wp2_with (first|refine bU 39 #[jl,jz,jx,jy] underlying39 rfl (bj _ _ _ _) g6 0 hrow2 rfl _ rfl rfl ?_|refine cP _ _ (bTold jl jz jx jy (W:Nat) jr jf (C:Nat) _ _ _ _ _ _ _ rfl rfl rfl rfl rfl rfl _) rfl ?_|refine cP _ _ (ms jl jz jx jy (W:Nat) jr jf (C:Nat) _ _ _ rfl rfl _) rfl ?_|(at_builtin; refine fS 104 r1 rfl _ _ rfl rfl rfl rfl ?_))
      go_roundw
      case rel=>exact⟨k+1,by omega,by go_num,HO7,HF7,HB7⟩
      case measure=>simp[intOf]; omega
     have hwb:(jw==(W:Int))=false:=by simpa using hw
     rw[if_neg hw,List.append_nil] at hsn
     have HO7:Hid (ah bC 107 wA u3 (fw D W++D.toldW W (D.jb.take (k+1)))):=by show ah _ _ _ _ _; rw[hsn]; exact aa HOA
     clear hsn
     go_wp2_with (refine bU 165 #[jl,jz,jx,jy,jw,jp,jr,jf] underlying165 rfl (fu ⟨⟨jl,jz,jx,jy⟩,jw,jp,jr,jf⟩) b (off+k*8) hrow rfl _ rfl rfl ?_)
     rw[aa HWA];clear c10 hrow
     go_wp2_with fail
     go_roundw
     case rel=>exact⟨k+1,by omega,by go_num,HO7,hfr,HBA⟩
     case measure=>simp[intOf]; omega
    have hkn:k=D.jb.length:=by omega
    subst hkn
    have hkn:¬((D.jb.length:Int)<D.jb.length):=by omega
    have HO7:Hid (ah bC 107 wr u3 (fw D (W+1))):=by show ah _ _ _ _ _; rw[fw_succ]; have q:=aa ho; rw[List.take_length] at q; exact q
    go_wp2_with fail
    go_roundw
    case rel=>exact⟨W+1,by omega,by go_num,HO7,hfr,hb⟩
    case measure=>simp[intOf]; omega
  have hWn:W=D.wk:=by omega
  subst hWn
  have hWn:¬((D.wk:Int)<D.wk):=by omega
  have HK0:Hid (ah bC 107 wr u3 (fp D 0)):=by show ah _ _ _ _ _; unfold fp; simpa using aa ho
  obtain⟨wB,rfl⟩:∃wB:World,wB=wr:=⟨_,rfl⟩
  go_wp2_with fail
  clear c1
  go_loopw [3,8,9,10,11] (fun ov i _ _ _ wr=>∃p:Nat,p<=D.ct+1/\i=.int .i64 p/\Hid (ah bC 107 wr ov (fp D p))/\Hid (∀g,ov.ownBlock=some g->w.heap.size<=g)/\Hid (Below w.heap.size w wr)) (fun _ i _ _ _ _=>D.ct+1-(intOf i).toNat)
  case atStart=>exact⟨0,by omega,rfl,HK0,hfr,hb⟩
  case round=>
   obtain⟨p,hp,rfl,ho,hfr,hb⟩:=hrel
   have c7:wr.cell? ⟨fb,7,none⟩=some (.int .i64 (D.ct:Int)):=by rw[<-aa HCT]; exact aF.c (ag (aa HF) (aa hb)) 7 rfl
   by_cases hlt2:p<=D.ct
   ·have hpn:(p:Int)<=D.ct:=by omega
    obtain⟨wC,rfl⟩:∃wC:World,wC=wr:=⟨_,rfl⟩
    have HK1:Hid (ah bC 107 wC u3 (fp D p++D.toldP p (D.jb.take 0))):=by show ah _ _ _ _ _; simpa[DF.toldP] using aa ho
    go_wp2_with fail
    clear c7
    go_loopw [3,9,10,11] (fun ov i _ _ wr=>∃k:Nat,k<=D.jb.length/\i=.int .i64 k/\Hid (ah bC 107 wr ov (fp D p++D.toldP p (D.jb.take k)))/\Hid (∀g,ov.ownBlock=some g->w.heap.size<=g)/\Hid (Below w.heap.size w wr)) (fun _ i _ _ _=>D.jb.length-(intOf i).toNat)
    case atStart=>exact⟨0,by omega,rfl,HK1,hfr,hb⟩
    case round=>
     obtain⟨k,hk,rfl,ho,hfr,hb⟩:=hrel
     have c10:wr.cell? ⟨fb,10,none⟩=some (.slice ja D.jb.length jc):=by rw[<-aa HJV]; exact aF.c (ag (aa HF) (aa hb)) 10 rfl
     by_cases hlk:k<D.jb.length
     ·have hkn:(k:Int)<D.jb.length:=by omega
      obtain⟨b,off,rfl⟩:=aa HJA (by omega)
      obtain⟨⟨⟨jl,jz,jx,jy⟩,jw,jp,jr,jf⟩,ht⟩:∃t,D.jb[k]?=some t:=⟨_,List.getElem?_eq_getElem hlk⟩;have hoj:=((aa HM).on (aa hb)).jb;rw[aa HJV] at hoj;have hrow:wr.rangeAt b (off+k*8) #[.int .i64 jl,.int .i64 jz,.int .i64 jx,.int .i64 jy,.int .i64 jw,.int .i64 jp,.int .i64 jr,.int .i64 jf].toList:=hoj.row ht;obtain⟨wA,hwA⟩:∃wA,wr.alloc (.cells #[jl,jz,jx,jy,jw,jp,jr,jf] 165)=wA:=⟨_,rfl⟩;have hbA:Below wr.heap.size wr wA:=hwA▸aj wr (.cells #[jl,jz,jx,jy,jw,jp,jr,jf] 165);have hgA:wA.heap[wr.heap.size]?=some (.cells #[jl,jz,jx,jy,jw,jp,jr,jf] 165):=hwA▸heap_alloc_new wr (.cells #[jl,jz,jx,jy,jw,jp,jr,jf] 165);have e4:wA.cell? ⟨wr.heap.size,4,none⟩=some (.int .i64 jw):=(af hgA 4).trans rfl;have e5:wA.cell? ⟨wr.heap.size,5,none⟩=some (.int .i64 jp):=(af hgA 5).trans rfl;have hsn:=toldP_snoc (D:=D) p ht;dsimp only at hsn;have HBA:=ae ((aa hb).trans (hbA.mono (aa hb).size));have HOA:=ae ((aa ho).on hbA);have HGA:=ae hgA;have HWA:=ae hwA;have hszA:=(aa HBA).size;obtain⟨g6,hg6⟩:∃g6,wr.heap.size=g6:=⟨_,rfl⟩;rw[hg6] at e4 e5 HGA;clear hoj hbA hgA hwA
      by_cases hw:jw<0
      ·by_cases hp2:jp=(p:Int)
       ·subst hp2
        rw[if_pos ⟨hw,rfl⟩] at hsn
        have WA:=fh fb X D.rq jl jz jx jy false wA (ag (aa HF) (aa HBA)) ((aa HM).on (aa HBA)).rq.at (aa HSM) (by omega)
        have hCl:=ef D.rq ⟨jl,jz,jx,jy⟩ false;obtain⟨C,hC⟩:∃C,bg D.rq ⟨jl,jz,jx,jy⟩ false=C:=⟨_,rfl⟩;rw[hC] at WA hsn hCl;have hrowA:wA.rangeAt g6 0 #[.int .i64 jl,.int .i64 jz,.int .i64 jx,.int .i64 jy].toList:=dV (ao (aa HGA)) rfl;have HSN:=ae hsn;clear hsn hC
        go_wp2_with (refine bU 165 #[jl,jz,jx,jy,jw,(p:Int),jr,jf] underlying165 rfl (fu ⟨⟨jl,jz,jx,jy⟩,jw,(p:Int),jr,jf⟩) b (off+k*8) hrow rfl _ rfl rfl ?_)
        rw[aa HWA];clear c10 hrow
        go_wp2_with (refine bU 39 #[jl,jz,jx,jy] underlying39 rfl (bj _ _ _ _) g6 0 hrowA rfl _ rfl rfl ?_)
        refine WA.mono ?_;rintro e w2 ⟨rfl,hb2⟩;have hg2:=ag (aa HGA) hb2;have hrow2:w2.rangeAt g6 0 #[.int .i64 jl,.int .i64 jz,.int .i64 jx,.int .i64 jy].toList:=dV (ao hg2) rfl;have f6:w2.cell? ⟨g6,6,none⟩=some (.int .i64 jr):=(af hg2 6).trans rfl;have f7:w2.cell? ⟨g6,7,none⟩=some (.int .i64 jf):=(af hg2 7).trans rfl;have HB2:=ae ((aa HBA).trans (hb2.mono (aa HBA).size));have hat:=aZ bC 107 w2 ⟨⟨jl,jz,jx,jy⟩,-1,-1,0,(C:Nat)⟩ #[jl,jz,jx,jy,.int .i64 (-1),.int .i64 (-1),(),.int .i64 (C:Nat)] rfl;have hbN:=aj w2 (.cells #[jl,jz,jx,jy,.int .i64 (-1),.int .i64 (-1),(),.int .i64 (C:Nat)] 107);have hoN:=((aa HOA).on hb2).on hbN;have hl1:=fp_len D p;have hl2:=np (D:=D) p (D.jb.take k);have hl3:D.wk*D.jb.length<=4*12:=Nat.mul_le_mul hw4 hjl
        have hl4:p*D.jb.length<=2000001*12:=Nat.mul_le_mul (by omega) hjl
        rw[List.length_take] at hl2
        obtain⟨v7,w7,r1,r2,r3,r4⟩:=pK hoN hat (by simp only[List.length_append,List.length_singleton]; omega)
        rw[List.append_assoc,<-aa HSN] at r2;have HO7:=ae r2;have hs2:=(aa HB2).size
        have HB7:=ae (((aa HB2).alloc hs2 (.cells #[jl,jz,jx,jy,.int .i64 (-1),.int .i64 (-1),(),.int .i64 (C:Nat)] 107)).grown r3 (by simp; omega) (fun g hg=>aa hfr g hg))
        have HF7:=ae (bN (aa hfr) r4 (by simp; omega))
        clear hat hbN hoN r2 r3 r4 hb2 hg2 WA hrowA
        go_wp2_with (first|refine bU 39 #[jl,jz,jx,jy] underlying39 rfl (bj _ _ _ _) g6 0 hrow2 rfl _ rfl rfl ?_|refine cP _ _ (bTold jl jz jx jy (-1) (-1) 0 (C:Nat) _ _ _ _ _ _ _ rfl rfl rfl rfl rfl rfl _) rfl ?_|refine cP _ _ (ms jl jz jx jy (-1) (-1) 0 (C:Nat) _ _ _ rfl rfl _) rfl ?_|(at_builtin; refine fS 104 r1 rfl _ _ rfl rfl rfl rfl ?_))
        go_roundw
        case rel=>exact⟨k+1,by omega,by go_num,HO7,HF7,HB7⟩
        case measure=>simp[intOf]; omega
       have hpb:(jp==(p:Int))=false:=by simpa using hp2
       rw[if_neg (fun q=>hp2 q.2),List.append_nil] at hsn
       have HO7:Hid (ah bC 107 wA u3 (fp D p++D.toldP p (D.jb.take (k+1)))):=by show ah _ _ _ _ _; rw[hsn]; exact aa HOA
       clear hsn
       go_wp2_with (refine bU 165 #[jl,jz,jx,jy,jw,jp,jr,jf] underlying165 rfl (fu ⟨⟨jl,jz,jx,jy⟩,jw,jp,jr,jf⟩) b (off+k*8) hrow rfl _ rfl rfl ?_)
       rw[aa HWA];clear c10 hrow
       go_wp2_with fail
       go_roundw
       case rel=>exact⟨k+1,by omega,by go_num,HO7,hfr,HBA⟩
       case measure=>simp[intOf]; omega
      rw[if_neg (fun q=>hw q.1),List.append_nil] at hsn
      have HO7:Hid (ah bC 107 wA u3 (fp D p++D.toldP p (D.jb.take (k+1)))):=by show ah _ _ _ _ _; rw[hsn]; exact aa HOA
      clear hsn
      go_wp2_with (refine bU 165 #[jl,jz,jx,jy,jw,jp,jr,jf] underlying165 rfl (fu ⟨⟨jl,jz,jx,jy⟩,jw,jp,jr,jf⟩) b (off+k*8) hrow rfl _ rfl rfl ?_)
      rw[aa HWA];clear c10 hrow
      go_wp2_with fail
      go_roundw
      case rel=>exact⟨k+1,by omega,by go_num,HO7,hfr,HBA⟩
      case measure=>simp[intOf]; omega
     have hkn:k=D.jb.length:=by omega
     subst hkn
     have hkn:¬((D.jb.length:Int)<D.jb.length):=by omega
     have HO7:Hid (ah bC 107 wr u3 (fp D (p+1))):=by show ah _ _ _ _ _; rw[fp_succ]; have q:=aa ho; rw[List.take_length] at q; exact q
     go_wp2_with fail
     go_roundw
     case rel=>exact⟨p+1,by omega,by go_num,HO7,hfr,hb⟩
     case measure=>simp[intOf]; omega
   have hpn:p=D.ct+1:=by omega
   subst hpn
   have hpn:¬(((D.ct+1:Nat):Int)<=D.ct):=by omega
   have HQ:Hid (∃rv,Ending.returned u3=.returned rv/\ah bC 107 wr rv D.told/\(∀g,rv.ownBlock=some g->w.heap.size<=g)/\Below w.heap.size w wr):=⟨u3,rfl,aa ho,aa hfr,aa hb⟩;obtain⟨oa,on,oc,hov⟩:=(aa ho).sl;subst hov
   go_wp2_with fail
   go_ret;exact aa HQ
end
structure Lk where
 a:Int
 b:Int
 c:Int
 d:Int
 e:Int
 f:Int
 g:Int
 h:Int
 i:Int
def Lk.v (k:Lk):Array Value:=#[k.a,k.b,k.c,k.d,k.e,k.f,k.g,k.h,k.i]
def DF.lk (D:DF):Lk:=⟨(D.bs.length:Nat),(D.now:Nat),(D.rq.length:Nat),(bg D.rq ⟨0,0,0,0⟩ true:Nat),(gC D.jb:Nat),(D.jb.length:Int)-(gC D.jb:Nat),(D.en.length:Nat),(aY D.en:Nat),(D.st:Nat)⟩
theorem busy_map:∀W:List (Option Wk),cT W=(W.map (Option.map Wk.f)).countP (·.isSome)
 | []=>rfl
 | o::W=>by
  have ih:=busy_map W;unfold cT at ih ⊢;rw[List.map_cons,List.countP_cons,List.countP_cons,ih]
  cases o<;>rfl
section
variable {w:World}{e:EV}{n ob wb:Nat}{O:OL}{o:iH}
theorem xLook (h:cO w n e):Calls prog 61 #[.pointer (some ⟨e.fb,0,none⟩)] w fun r w'=>r=.returned (.agg e.D.lk.v)/\Below w.heap.size w w':=by
 have hl:=h.m.lens;obtain⟨e1,e2⟩:=h.m.sim.elen;have hwl:=h.x.wlen;have hwn:=h.m.ok.wn
 have LK:=look_any e.fb e.X e.F.ver e.sl e.pv e.F.LS (ri e.F.PI) e.F.waiting e.F.line e.W e.F.tiles w h.x.blk h.x.mem.sto h.x.mem.wai.at h.x.mem.lin.at h.x.wksAt h.x.mem.til.at (by omega) (by omega) (by omega)
 refine LK.mono fun r w' q=>⟨?_,q.2⟩;obtain⟨s1,s2,s3,s4,s5,s6,s7,s8,s9⟩:=h.m.sim.look ⟨0,0,0,0⟩
 have hb:(cT e.W:Int)=(e.D.jb.length:Int)-gC e.D.jb:=by
  rw[<-s6,busy_map,<-h.x.pu.wks]; rfl
 have h1:=h.x.num.nw;have h2:=h.x.num.ar;have h3:=h.x.num.st;rw[q.1];unfold DF.lk Lk.v;dsimp only;rw[s1,h1,s2,h2,s3,s4,s5,hb,s7,s8,h3,s9]
theorem rLook (h:cO w n e)(hn:n<=2000000):Calls prog 62 #[.pointer (some ⟨e.rb,0,none⟩)] w fun r w'=>r=.returned (.agg e.D.lk.v)/\Below w.heap.size w w':=by
 have hl:=h.m.lens;have hr:=h.m.rl
 have LK:=rLook_any e.D.rq e.D.jb e.D.en h.r.blk h.r.mem h.r.sto h.m.sml (by omega) (by omega) (by omega) (by omega)
 refine LK.mono fun r w' q=>⟨?_,q.2⟩;rw[q.1,h.r.num.nw,h.r.num.st];rfl
theorem xFl (h:cO w n e):Calls prog 63 #[.pointer (some ⟨e.fb,0,none⟩)] w fun r w'=>∃rv,r=.returned rv/\ah bC 107 w' rv e.D.told/\(∀g,rv.ownBlock=some g->w.heap.size<=g)/\Below w.heap.size w w':=by
 have hwl:=h.x.wlen;have hwn:=h.m.ok.wn;have hq:=h.m.ok.wq;have hq8:=h.m.ok.q;have hll:=h.m.ok.linLe
 have FL:=flights_any e.fb e.X e.F.waiting e.F.line e.W w h.x.blk h.x.mem.wai.at h.x.mem.lin.at h.x.wksAt (fun r hr=>(h.m.ok.req r hr).2.2.2.1.small) (by omega) (by omega) (by omega)
 refine FL.mono ?_;rintro r w' ⟨⟨rv,e1,e2,e3⟩,hb⟩;refine⟨rv,e1,?_,e3,hb⟩;rw[<-h.x.pu.wks,<-told_eq,h.m.sim.told] at e2;exact e2
theorem rFl (h:cO w n e)(hn:n<=400000):Calls prog 64 #[.pointer (some ⟨e.rb,0,none⟩)] w fun r w'=>∃rv,r=.returned rv/\ah bC 107 w' rv e.D.told/\Below w.heap.size w w':=by
 have hl:=h.m.lens;have hr:=h.m.rl;have hc:=h.m.ct
 have FL:=oI (D:=e.D) h.r.blk h.r.mem h.r.num.wk h.r.num.ct (by omega) (by omega) h.m.sml (by omega) (by omega)
 exact FL.mono fun r w' ⟨rv,e1,e2,_,e4⟩=>⟨rv,e1,e2,e4⟩
theorem nx (h:cO w n e)(hO:io w ob O)(hdj:∀k,aX e k->¬OF ob O k)(h4:∀k,OF ob O k->4<=k)(hcw:w.cell? ⟨wb,2,none⟩=some (.pointer (some ⟨ob,0,none⟩)))(hlw:wb<w.heap.size)(hlg:O.GS.length<=10000000)(hn:n<=400000):
  Calls prog 20 #[.pointer (some ⟨wb,0,none⟩),.agg #[.pointer (some ⟨e.fb,0,none⟩),.pointer (some ⟨e.rb,0,none⟩)]] w fun r w'=>r=.returned (.bool true)/\∃O',ip w n e ob O w' e O'/\O'.RS.length=O.RS.length:=by
 obtain⟨w1,hw1⟩:∃w1,w.alloc (.cells #[.pointer (some ⟨e.fb,0,none⟩),.pointer (some ⟨e.rb,0,none⟩)] 59)=w1:=⟨_,rfl⟩;have hb1:Below w.heap.size w w1:=hw1▸aj w (.cells #[.pointer (some ⟨e.fb,0,none⟩),.pointer (some ⟨e.rb,0,none⟩)] 59);have hg1:w1.heap[w.heap.size]?=some (.cells #[.pointer (some ⟨e.fb,0,none⟩),.pointer (some ⟨e.rb,0,none⟩)] 59):=hw1▸heap_alloc_new w (.cells #[.pointer (some ⟨e.fb,0,none⟩),.pointer (some ⟨e.rb,0,none⟩)] 59);have hz1:=an hg1;have bx:∀W,Below w1.heap.size w1 W->W.cell? ⟨w.heap.size,0,none⟩=some (.pointer (some ⟨e.fb,0,none⟩))/\W.cell? ⟨w.heap.size,1,none⟩=some (.pointer (some ⟨e.rb,0,none⟩)):=fun W hW=>⟨(af (ag hg1 hW) 0).trans rfl,(af (ag hg1 hW) 1).trans rfl⟩;have c0:=(bx w1 bu).1;have BX:=ae bx;obtain⟨K,hK⟩:∃K:Lk,e.D.lk=K:=⟨_,rfl⟩;have XL:=xLook (h.on hb1)
 have RL:=ae (fun(W:World) (hW:Below w.heap.size w W)=>rLook (h.on hW) (by omega))
 have XF:=ae (fun(W:World) (hW:Below w.heap.size w W)=>xFl (h.on hW));have RF':=ae (fun(W:World) (hW:Below w.heap.size w W)=>rFl (h.on hW) hn);rw[hK] at XL RL;have HW1:=ae hw1;have HB1:=ae hb1;have HH:=ae h;have HO:=ae hO;have HDJ:=ae hdj;have H4:=ae h4;have HCW:=ae hcw;clear bx hw1 hb1 hg1 h hO hdj h4 hcw hK;go_enter func20,ntmps20
 go_wp2_with fail
 rw[aa HW1];refine XL.mono ?_;rintro r w2 ⟨rfl,hb2⟩;obtain⟨w2A,hw2A⟩:∃w2A,w2.alloc (.cells K.v 113)=w2A:=⟨_,rfl⟩;have hbA:Below w2.heap.size w2 w2A:=hw2A▸aj w2 (.cells K.v 113);have hgA:w2A.heap[w2.heap.size]?=some (.cells K.v 113):=hw2A▸heap_alloc_new w2 (.cells K.v 113);have hb12:Below w1.heap.size w1 w2A:=hb2.trans (hbA.mono hb2.size);have c1:=(aa BX w2A hb12).2;have hbw:Below w.heap.size w w2A:=(aa HB1).trans (hb12.mono (aa HB1).size);have RL2:=aa RL w2A hbw;have HB12:=ae hb12;have HBW:=ae hbw;have HGA:=ae hgA;clear XL hb2 hbA hgA hb12 hbw c0;unfold Lk.v at hw2A HGA RL2 ⊢
 go_wp2_with fail
 clear hw2A;refine RL2.mono ?_;rintro r w3 ⟨rfl,hb3⟩;obtain⟨g5,hg5⟩:∃g5,w2.heap.size=g5:=⟨_,rfl⟩;rw[hg5] at HGA ⊢;obtain⟨w3A,hw3A⟩:∃w3A,w3.alloc (.cells #[K.a,K.b,K.c,K.d,K.e,K.f,K.g,K.h,K.i] 113)=w3A:=⟨_,rfl⟩;have hbA:Below w3.heap.size w3 w3A:=hw3A▸aj w3 (.cells #[K.a,K.b,K.c,K.d,K.e,K.f,K.g,K.h,K.i] 113);have hgB:w3A.heap[w3.heap.size]?=some (.cells #[K.a,K.b,K.c,K.d,K.e,K.f,K.g,K.h,K.i] 113):=hw3A▸heap_alloc_new w3 (.cells #[K.a,K.b,K.c,K.d,K.e,K.f,K.g,K.h,K.i] 113);have hb23:Below w2A.heap.size w2A w3A:=hb3.trans (hbA.mono hb3.size);have hb13:=(aa HB12).trans (hb23.mono (aa HB12).size);have hbw:=(aa HBW).trans (hb23.mono (aa HBW).size);have hg5A:=ag (aa HGA) hb23;have c0:=(aa BX w3A hb13).1;have XF3:=aa XF w3A hbw;have HB13:=ae hb13;have HBW:=ae hbw;have HGB:=ae hgB;have HG5:=ae hg5A;clear RL2 hb3 hbA hgB hb23 hb13 hbw hg5A c1 hg5 HGA HB12
 go_wp2_with fail
 clear hw3A;refine XF3.mono ?_;rintro r w4 ⟨rv,rfl,o1,o2,hb4⟩;obtain⟨g6,hg6⟩:∃g6,w3.heap.size=g6:=⟨_,rfl⟩;rw[hg6] at HGB ⊢;have hb14:=(aa HB13).trans (hb4.mono (aa HB13).size);have hbw4:=(aa HBW).trans (hb4.mono (aa HBW).size);have c1:=(aa BX w4 hb14).2;have RF4:=aa RF' w4 hbw4;have hl4:=(aa HBW).size
 have hfr:∀g,rv.ownBlock=some g->w.heap.size<=g:=fun g hg=>by have:=o2 g hg; omega
 have HB14:=ae hb14;have HBW4:=ae hbw4;have HG5':=ae (ag (aa HG5) hb4);have HG6:=ae (ag (aa HGB) hb4);have HRV:=ae o1;have HFR:=ae hfr;obtain⟨xa,xn,xc,rfl⟩:=o1.sl;clear XF3 hb4 o1 o2 hb14 hbw4 hfr HB13 HBW HG5 HGB c0 hg6
 go_wp2_with fail
 refine RF4.mono ?_;rintro r w5 ⟨rv2,rfl,o3,hb5⟩;have o1:=(aa HRV).on hb5;have SF5:=gQ o1.at o3.at;have hbw5:=(aa HBW4).trans (hb5.mono (aa HBW4).size);have HBW5:=ae hbw5;have HG55:=ae (ag (aa HG5') hb5);have HG65:=ae (ag (aa HG6) hb5);have HRV5:=ae o1;obtain⟨ya,yn,yc,rfl⟩:=o3.sl;clear RF4 hb5 o1 o3 hbw5 HBW4 HG5' HG6 HRV c1 HB14
 go_wp2_with fail
 refine SF5.mono ?_;rintro r w6 ⟨rfl,hb6⟩;have hbw6:=(aa HBW5).trans (hb6.mono (aa HBW5).size);have hE6:=(mo (aa HH) hbw6).est (aa HO) (aa HDJ);have c2:w6.cell? ⟨wb,2,none⟩=some (.pointer (some ⟨ob,0,none⟩)):=(hbw6.cell (p:=⟨wb,2,none⟩) hlw).trans (aa HCW);have o6:=(aa HRV5).on hb6
 have KG:=keepG_any hE6.own o6 (fun s hs g hg q=>by
  have z1:=aa HFR g q;have z2:=bA.lt (aa HO) (k:=g) (Or.inr (Or.inr (Or.inr (Or.inr (Or.inr (Or.inr ⟨s,Or.inr (Or.inr (Or.inr (Or.inl hs))),hg⟩))))));omega) hlg
 have hT6:fQ (fun k=>(Value.slice xa xn xc).ownBlock=some k) w6 [107]:=fun k hk=>by
  obtain⟨c,hc⟩:=o6.ty hk
  exact⟨_,_,hc,by simp⟩
 have hnf:∀k,(Value.slice xa xn xc).ownBlock=some k->¬aX e k:=fun k q q'=>by
  rcases q' with z|z
  ·exact fQ.no hT6 hE6.desk.x.ty (by decide) q z
  exact fQ.no hT6 hE6.desk.r.ty (by decide) q z
 have hg56:=ag (aa HG55) hb6;have hg66:=ag (aa HG65) hb6;have HE6:=ae hE6;have HNF:=ae hnf;have HG56:=ae hg56;have HG66:=ae hg66
 have HNE6:=ae (show ∀(g:Nat) (cs:Array Value),w6.heap[g]?=some (.cells cs 113)->¬(g=ob\/O.V.gv.ownBlock=some g\/(Value.slice xa xn xc).ownBlock=some g) from fun g cs hg q=>by
  rcases q with rfl|q|q
  ·exact aI hE6.own.blk hg (by decide) rfl
  ·obtain⟨c,hc⟩:=hE6.own.g.ty q; exact aI hc hg (by decide) rfl
  obtain⟨c,hc⟩:=o6.ty q; exact aI hc hg (by decide) rfl)
 clear SF5 hb6 hbw6 hE6 o6 hT6 hnf hg56 hg66 HBW5 HG55 HG65 HRV5
 go_wp2_with fail
 refine KG.mono ?_;intro r w7 hKG
 have hF7:aE (fun k=>k=ob\/O.V.gv.ownBlock=some k\/(Value.slice xa xn xc).ownBlock=some k) w6 w7:=by obtain⟨_,_,_,_,_,hF,_⟩:=hKG; exact hF
 have r5:=ao (aQ (aa HG56) hF7 (aa HNE6 _ _ (aa HG56)));have r6:=ao (aQ (aa HG66) hF7 (aa HNE6 _ _ (aa HG66)))
 obtain⟨rfl,O',hE7,i1,i2,i3,i4,i5⟩:=ip.keepG (aa HE6) (aa H4) (aa HH).x.glb.1 (fun k q=>⟨aa HFR k q,aa HNF k q⟩) hKG ⟨by omega,by omega,by omega,by omega,by omega⟩
 have HE7:=ae hE7
 have hi3:O'.RS.length=O.RS.length:=by rw[i3]
 clear hKG hF7 hE7 KG c2 HE6 i1 i2 i3 i4 i5
 go_wp2_with (first|refine bU 113 #[K.a,K.b,K.c,K.d,K.e,K.f,K.g,K.h,K.i] underlying113 rfl (sz113 _ _ _ _ _ _ _ _ _) g5 0 r5 rfl _ rfl rfl ?_|refine bU 113 #[K.a,K.b,K.c,K.d,K.e,K.f,K.g,K.h,K.i] underlying113 rfl (sz113 _ _ _ _ _ _ _ _ _) g6 0 r6 rfl _ rfl rfl ?_)
 go_ret;exact⟨rfl,O',aa HE7,hi3⟩
end
def mW (q wt ch ca n:Nat):FM:=⟨q,wt,ch,ca,0,0,0,0,[],fun _=>[],[],[],[],List.replicate n none,[]⟩
theorem fls_new (q wt ch ca n:Nat):(mW q wt ch ca n).fls=[]:=by
 unfold FM.fls mW;simp only
 induction n with
 | zero=>rfl
 | succ n ih=>rw[List.replicate_succ]; exact ih
theorem fver_new:FVer [] 0 (fun _=>[]):=⟨fun v hv=>by
 obtain rfl:v=0:=by omega
 exact⟨relV_nil,fun f hf=>by simp at hf⟩,oG,fun i hi=>by simp at hi,by simp⟩
theorem bW (n a b:Int)(w:World)(h1:a<=n)(h2:n<=b):Calls prog 112 #[n,a,b] w fun e w'=>e=.returned (.bool true)/\w=w':=by
 go_enter func112,ntmps112
 go_wp2_with fail
 go_ret;exact⟨rfl,rfl⟩
theorem sz23 (a b c d e:Int):(prog.info? 42).map (·.size)=some (#[Value.int .i64 a,Value.int .i64 b,Value.int .i64 c,Value.int .i64 d,Value.int .i64 e]:Array Value).size:=by kernel_rfl
theorem isRight_yes (q wk wt ca ch:Int)(w:World)(hq:1<=q/\q<=8)(hw:1<=wk/\wk<=4)(ht:1<=wt/\wt<=50)(hc:0<=ca/\ca<=2000)(hh:1<=ch/\ch<=8):
  Calls prog 66 #[.agg #[q,wk,wt,ca,ch]] w fun e w'=>e=.returned (.bool true)/\Below w.heap.size w w':=by
 have hA:=heap_alloc_new w (.cells #[q,wk,wt,ca,ch] 42);have hbl:=(Below.refl w.heap.size w).alloc aD (.cells #[q,wk,wt,ca,ch] 42);have c0:=(af hA 0).trans rfl;have c1:=(af hA 1).trans rfl;have c2:=(af hA 2).trans rfl;have c3:=(af hA 3).trans rfl;have c4:=(af hA 4).trans rfl;have HBL:=ae hbl;clear hA hbl;go_enter func66,ntmps66
 go_wp2_with fail
 refine(bW q 1 8 _ hq.1 hq.2).mono ?_;rintro e w1 ⟨rfl,rfl⟩
 go_wp2_with fail
 refine(bW wk 1 4 _ hw.1 hw.2).mono ?_;rintro e w1 ⟨rfl,rfl⟩
 go_wp2_with fail
 refine(bW wt 1 50 _ ht.1 ht.2).mono ?_;rintro e w1 ⟨rfl,rfl⟩
 go_wp2_with fail
 refine(bW ca 0 2000 _ hc.1 hc.2).mono ?_;rintro e w1 ⟨rfl,rfl⟩
 go_wp2_with fail
 refine(bW ch 1 8 _ hh.1 hh.2).mono ?_;rintro e w1 ⟨rfl,rfl⟩
 go_wp2_with fail
 go_ret;exact⟨rfl,aa HBL⟩
theorem mk94_1 (ev:Operand->Value)(o:Oper)(x:Operand)(ho:o.op=.makeSlice 122 x x)(hx:ev x=.int .i64 1)(w:World):(execOp ev o).run prog w=.ok (.value (.slice (some ⟨w.heap.size,0,none⟩) 1 1)) (w.alloc (.cells (Array.replicate 1 (.pointer none)) 166)):=by
 unfold execOp;simp only[ho];simp only[hx]
 kernel_rfl
theorem mk94_2 (ev:Operand->Value)(o:Oper)(x:Operand)(ho:o.op=.makeSlice 122 x x)(hx:ev x=.int .i64 2)(w:World):(execOp ev o).run prog w=.ok (.value (.slice (some ⟨w.heap.size,0,none⟩) 2 2)) (w.alloc (.cells (Array.replicate 2 (.pointer none)) 166)):=by
 unfold execOp;simp only[ho];simp only[hx]
 kernel_rfl
theorem mk94_3 (ev:Operand->Value)(o:Oper)(x:Operand)(ho:o.op=.makeSlice 122 x x)(hx:ev x=.int .i64 3)(w:World):(execOp ev o).run prog w=.ok (.value (.slice (some ⟨w.heap.size,0,none⟩) 3 3)) (w.alloc (.cells (Array.replicate 3 (.pointer none)) 166)):=by
 unfold execOp;simp only[ho];simp only[hx]
 kernel_rfl
theorem mk94_4 (ev:Operand->Value)(o:Oper)(x:Operand)(ho:o.op=.makeSlice 122 x x)(hx:ev x=.int .i64 4)(w:World):(execOp ev o).run prog w=.ok (.value (.slice (some ⟨w.heap.size,0,none⟩) 4 4)) (w.alloc (.cells (Array.replicate 4 (.pointer none)) 166)):=by
 unfold execOp;simp only[ho];simp only[hx]
 kernel_rfl
theorem mk94 (n:Nat)(hn:1<=n/\n<=4)(ev:Operand->Value)(o:Oper)(x:Operand)(ho:o.op=.makeSlice 122 x x)(hx:ev x=.int .i64 n)(w:World):(execOp ev o).run prog w=.ok (.value (.slice (some ⟨w.heap.size,0,none⟩) n n)) (w.alloc (.cells (Array.replicate n (.pointer none)) 166)):=by
 have h:n=1\/n=2\/n=3\/n=4:=by omega
 rcases h with rfl|rfl|rfl|rfl
 ·exact mk94_1 ev o x ho hx w
 ·exact mk94_2 ev o x ho hx w
 ·exact mk94_3 ev o x ho hx w
 exact mk94_4 ev o x ho hx w
theorem built97 (c:Int):prog.built 125 [(0,.int .i64 c)]=some #[.int .i64 c,.slice none 0 0]:=by kernel_rfl
theorem bt97 (c:Int)(ev:Operand->Value)(o:Oper)(p0:Operand)(ho:o.op=.build 125 #[(0,p0)])(h0:ev p0=.int .i64 c)(w:World):(execOp ev o).run prog w=.ok (.value (.agg #[.int .i64 c,.slice none 0 0])) w:=by
 have hb:=run_build (P:=prog) w 125 #[(0,.int .i64 c)] _ (built97 c);unfold execOp;simp[ho,h0,hb]
theorem built99 (q wt ch ca:Int)(sb kb n:Nat):prog.built 129 [(0,.int .i64 q),(1,.int .i64 wt),(2,.int .i64 ch),(6,.pointer (some ⟨sb,0,none⟩)),(9,.slice (some ⟨kb,0,none⟩) n n),(10,.agg #[.int .i64 ca,.slice none 0 0])]=some #[.int .i64 q,.int .i64 wt,.int .i64 ch,.int .i64 0,.int .i64 0,.int .i64 0,.pointer (some ⟨sb,0,none⟩),.slice none 0 0,.slice none 0 0,.slice (some ⟨kb,0,none⟩) n n,.int .i64 ca,.slice none 0 0]:=by kernel_rfl
theorem bt99 (q wt ch ca:Int)(sb kb n:Nat)(ev:Operand->Value)(o:Oper)(p0 p1 p2 p3 p4 p5:Operand)(ho:o.op=.build 129 #[(0,p0),(1,p1),(2,p2),(6,p3),(9,p4),(10,p5)])(h0:ev p0=.int .i64 q)(h1:ev p1=.int .i64 wt)(h2:ev p2=.int .i64 ch)(h3:ev p3=.pointer (some ⟨sb,0,none⟩))(h4:ev p4=.slice (some ⟨kb,0,none⟩) n n)(h5:ev p5=.agg #[.int .i64 ca,.slice none 0 0])(w:World):(execOp ev o).run prog w=.ok (.value (.agg #[.int .i64 q,.int .i64 wt,.int .i64 ch,.int .i64 0,.int .i64 0,.int .i64 0,.pointer (some ⟨sb,0,none⟩),.slice none 0 0,.slice none 0 0,.slice (some ⟨kb,0,none⟩) n n,.int .i64 ca,.slice none 0 0])) w:=by
 have hb:=run_build (P:=prog) w 129 #[(0,.int .i64 q),(1,.int .i64 wt),(2,.int .i64 ch),(6,.pointer (some ⟨sb,0,none⟩)),(9,.slice (some ⟨kb,0,none⟩) n n),(10,.agg #[.int .i64 ca,.slice none 0 0])] _ (built99 q wt ch ca sb kb n);unfold execOp;simp[ho,h0,h1,h2,h3,h4,h5,hb]
theorem bx99 (q wt ch ca:Int)(sb kb n:Nat)(ev:Operand->Value)(o:Oper)(x:Operand)(ho:o.op=.box 129 x)(hx:ev x=.agg #[q,wt,ch,(),(),(),.pointer (some ⟨sb,0,none⟩),.slice none 0 0,.slice none 0 0,.slice (some ⟨kb,0,none⟩) n n,ca,.slice none 0 0])(w:World):(execOp ev o).run prog w=.ok (.value (.pointer (some ⟨w.heap.size,0,none⟩))) (w.alloc (.cells #[q,wt,ch,(),(),(),.pointer (some ⟨sb,0,none⟩),.slice none 0 0,.slice none 0 0,.slice (some ⟨kb,0,none⟩) n n,ca,.slice none 0 0] 129)):=by
 unfold execOp;simp only[ho,hx]
 kernel_rfl
theorem fro_new {w:World}{fb sb kb q wt ch ca n:Nat}(hf:w.heap[fb]?=some (.cells #[(q:Int),(wt:Int),(ch:Int),(),(),(),.pointer (some ⟨sb,0,none⟩),.slice none 0 0,.slice none 0 0,.slice (some ⟨kb,0,none⟩) n n,(ca:Int),.slice none 0 0] 129))(hs:w.heap[sb]?=some (.cells #[(),(),.slice none 0 0,.slice none 0 0] 119))(hk:w.heap[kb]?=some (.cells (Array.replicate n (.pointer none)) 166))(hn:1<=n/\n<=4)(hg:Glb w)(l1:4<=fb)(l2:4<=sb)(l3:4<=kb):eR w fb (fun k=>k=fb\/k=sb\/k=kb) (mW q wt ch ca n):=by
 have hfoot:∀k,aw fb ⟨q,wt,ch,0,0,0,sb,.slice none 0 0,.slice none 0 0,.slice (some ⟨kb,0,none⟩) n n,ca,.slice none 0 0⟩ (.slice none 0 0) (.slice none 0 0) (List.replicate n none) k->k=fb\/k=sb\/k=kb:=fun k hk=>hk.elim (P:=fun k=>k=fb\/k=sb\/k=kb) (Or.inl rfl) (Or.inr (Or.inl rfl)) (fun _ q=>by simp[Value.ownBlock] at q) (fun _ q=>by simp[Value.ownBlock] at q) (fun _ q=>by simp[Value.ownBlock] at q) (fun _ q=>by simp[Value.ownBlock] at q) (fun k q=>by simp only[Value.ownBlock,Option.some.injEq] at q; exact Or.inr (Or.inr q.symm)) (fun _ q=>by simp[Value.ownBlock] at q) (fun i u hu=>by
  have:=List.mem_of_getElem? hu;rw[List.mem_replicate] at this;cases this.2)
 refine⟨⟨q,wt,ch,0,0,0,sb,.slice none 0 0,.slice none 0 0,.slice (some ⟨kb,0,none⟩) n n,ca,.slice none 0 0⟩,.slice none 0 0,.slice none 0 0,List.replicate n none,⟨hf,⟨rfl,rfl,rfl,rfl,rfl,rfl,rfl⟩,⟨?_,fun i u hu=>?_,fun i j u v _ hu=>?_⟩,fver_new,⟨⟨hs,jQ _ _ _ _,jQ _ _ _ _⟩,aU,aU,aU,?_,fun i u hu=>?_⟩,hg,fun k hk=>?_⟩,hfoot⟩
 ·show List.replicate n none=(List.replicate n none).map (Option.map Wk.f)
  rw[List.map_replicate]; rfl
 ·have:=List.mem_of_getElem? hu
  rw[List.mem_replicate] at this;cases this.2
 ·have:=List.mem_of_getElem? hu
  rw[List.mem_replicate] at this;cases this.2
 ·refine Or.inr ⟨kb,0,n,Array.replicate n (.pointer none),by simp,hk,by simp,by unfold maxLen; omega,by simp[fK],?_⟩
  have h:n=1\/n=2\/n=3\/n=4:=by omega
  rcases h with rfl|rfl|rfl|rfl<;>rfl
 ·have:=List.mem_of_getElem? hu
  rw[List.mem_replicate] at this;cases this.2
 rcases hfoot k hk with rfl|rfl|rfl
 ·exact l1
 ·exact l2
 exact l3
theorem front_new (q n wt ca ch:Nat)(w:World)(hq:1<=q/\q<=8)(hn:1<=n/\n<=4)(ht:1<=wt/\wt<=50)(hc:ca<=2000)(hh:1<=ch/\ch<=8)(hg:Glb w):
  Calls prog 23 #[.agg #[(q:Int),(n:Int),(wt:Int),(ca:Int),(ch:Int)]] w fun e w'=>∃fb Ψ,e=.returned (.tuple #[.pointer (some ⟨fb,0,none⟩),()])/\eR w' fb Ψ (mW q wt ch ca n)/\(∀k,Ψ k->w.heap.size<=k)/\Below w.heap.size w w':=by
 obtain⟨w1,hw1⟩:∃w1,w.alloc (.cells #[(q:Int),(n:Int),(wt:Int),(ca:Int),(ch:Int)] 42)=w1:=⟨_,rfl⟩;have hA:w1.heap[w.heap.size]?=some (.cells #[(q:Int),(n:Int),(wt:Int),(ca:Int),(ch:Int)] 42):=hw1▸heap_alloc_new w (.cells #[(q:Int),(n:Int),(wt:Int),(ca:Int),(ch:Int)] 42);have hb1:Below w.heap.size w w1:=hw1▸(Below.refl w.heap.size w).alloc aD (.cells #[(q:Int),(n:Int),(wt:Int),(ca:Int),(ch:Int)] 42);have hrg:=ao hA
 have hrg':(w.alloc (.cells #[(q:Int),(n:Int),(wt:Int),(ca:Int),(ch:Int)] 42)).rangeAt w.heap.size 0 (#[(q:Int),(n:Int),(wt:Int),(ca:Int),(ch:Int)]:Array Value).toList:=by rw[hw1]; exact hrg
 have IR:=isRight_yes q n wt ca ch w1 (by omega) (by omega) (by omega) (by omega) (by omega)
 rw[<-hw1] at IR;have HW1:=ae hw1;have HA:=ae hA;have HB1:=ae hb1;have h4:=hg.1;have HG:=ae hg;clear hw1 hA hb1 hrg hg;go_enter func23,ntmps23
 go_wp2_with (refine bU 42 #[(q:Int),(n:Int),(wt:Int),(ca:Int),(ch:Int)] underlying42 rfl (sz23 _ _ _ _ _) w.heap.size 0 hrg' rfl _ rfl rfl ?_)
 rw[aa HW1] at IR ⊢;refine IR.mono ?_;rintro e w2 ⟨rfl,hb2⟩;clear IR hrg'
 have NW:=New_any 0 w2 (by omega)
 go_wp2_with fail
 refine NW.mono ?_;rintro e w3 ⟨rfl,hw3⟩;have hs3:w3.heap[w2.heap.size]?=some (.cells #[(),(),.slice none 0 0,.slice none 0 0] 119):=hw3▸heap_alloc_new w2 (.cells #[(),(),.slice none 0 0,.slice none 0 0] 119);have hb3:Below w2.heap.size w2 w3:=hw3▸(Below.refl w2.heap.size w2).alloc aD (.cells #[(),(),.slice none 0 0,.slice none 0 0] 119)
 have hsz2:w.heap.size<=w2.heap.size:=by have:=(aa HB1).size; have:=hb2.size; omega
 have hA3:=ag (ag (aa HA) hb2) hb3;have hbw3:Below w.heap.size w w3:=((aa HB1).trans (hb2.mono (aa HB1).size)).trans (hb3.mono hsz2);obtain⟨sb,hsb⟩:∃sb,w2.heap.size=sb:=⟨_,rfl⟩;rw[hsb] at hs3 ⊢;have HS3:=ae hs3;have HA3:=ae hA3;have HBW3:=ae hbw3;clear hw3 hb3 hb2 hs3 hA3 hbw3 NW HA HB1 HW1
 go_wp2_with fail
 refine wp_region_held (S:=fun w'=>w'.heap[w.heap.size]?=some (.cells #[(q:Int),(n:Int),(wt:Int),(ca:Int),(ch:Int)] 42)) (by kernel_rfl) ?_
 change wpAnyH _ _ _ _ _ _ _ _ (World.drew _);have hbD:=Below.drew (Below.refl w3.heap.size w3);have hS:=ag (aa HA3) hbD;have hs4:=ag (aa HS3) hbD;have hbw4:=(aa HBW3).trans (hbD.mono (aa HBW3).size);clear HS3 HA3 HBW3 hbD;generalize World.drew w3=w4 at hS hs4 hbw4 ⊢;obtain⟨w5,hw5⟩:∃w5,w4.alloc (.cells (Array.replicate n (.pointer none)) 166)=w5:=⟨_,rfl⟩;have hb5:Below w4.heap.size w4 w5:=hw5▸(Below.refl w4.heap.size w4).alloc aD (.cells (Array.replicate n (.pointer none)) 166);have hk5:w5.heap[w4.heap.size]?=some (.cells (Array.replicate n (.pointer none)) 166):=hw5▸heap_alloc_new w4 (.cells (Array.replicate n (.pointer none)) 166);have hS5:=ag hS hb5;have hsz4:=hbw4.size;obtain⟨kb,hkb⟩:∃kb,w4.heap.size=kb:=⟨_,rfl⟩;have HM:=ae (show ∀(ev:Operand->Value) (o:Oper) (x:Operand),o.op=.makeSlice 122 x x->ev x=.int .i64 n->(execOp ev o).run prog w4=.ok (.value (.slice (some ⟨kb,0,none⟩) n n)) w5 from fun ev o x q1 q2=>hkb▸hw5▸mk94 n hn ev o x q1 q2 w4);rw[hkb] at hk5;obtain⟨w6,hw6⟩:∃w6,w5.alloc (.cells #[(q:Int),(wt:Int),(ch:Int),(),(),(),.pointer (some ⟨sb,0,none⟩),.slice none 0 0,.slice none 0 0,.slice (some ⟨kb,0,none⟩) n n,(ca:Int),.slice none 0 0] 129)=w6:=⟨_,rfl⟩;have hb6:Below w5.heap.size w5 w6:=hw6▸(Below.refl w5.heap.size w5).alloc aD (.cells #[(q:Int),(wt:Int),(ch:Int),(),(),(),.pointer (some ⟨sb,0,none⟩),.slice none 0 0,.slice none 0 0,.slice (some ⟨kb,0,none⟩) n n,(ca:Int),.slice none 0 0] 129);have hf6:w6.heap[w5.heap.size]?=some (.cells #[(q:Int),(wt:Int),(ch:Int),(),(),(),.pointer (some ⟨sb,0,none⟩),.slice none 0 0,.slice none 0 0,.slice (some ⟨kb,0,none⟩) n n,(ca:Int),.slice none 0 0] 129):=hw6▸heap_alloc_new w5 (.cells #[(q:Int),(wt:Int),(ch:Int),(),(),(),.pointer (some ⟨sb,0,none⟩),.slice none 0 0,.slice none 0 0,.slice (some ⟨kb,0,none⟩) n n,(ca:Int),.slice none 0 0] 129);have hS6:=ag hS5 hb6;obtain⟨fb,hfb⟩:∃fb,w5.heap.size=fb:=⟨_,rfl⟩;have HX:=ae (show ∀(ev:Operand->Value) (o:Oper) (x:Operand),o.op=.box 129 x->ev x=.agg #[(q:Int),(wt:Int),(ch:Int),(),(),(),.pointer (some ⟨sb,0,none⟩),.slice none 0 0,.slice none 0 0,.slice (some ⟨kb,0,none⟩) n n,(ca:Int),.slice none 0 0]->(execOp ev o).run prog w5=.ok (.value (.pointer (some ⟨fb,0,none⟩))) w6 from fun ev o x q1 q2=>hfb▸hw6▸bx99 q wt ch ca sb kb n ev o x q1 q2 w5);rw[hfb] at hf6;have hsz5:=hb5.size
 have hbw6:Below w.heap.size w w6:=(hbw4.trans (hb5.mono hsz4)).trans (hb6.mono (by omega))
 have hFr:=fro_new (q:=q) (wt:=wt) (ch:=ch) (ca:=ca) hf6 (ag (ag hs4 hb5) hb6) (ag hk5 hb6) hn ((aa HG).on hbw6) (by omega) (by omega) (by omega)
 have HQ:Hid (∃fb' Ψ,Ending.returned (.tuple #[.pointer (some ⟨fb,0,none⟩),()])=.returned (.tuple #[.pointer (some ⟨fb',0,none⟩),()])/\eR w6 fb' Ψ (mW q wt ch ca n)/\(∀k,Ψ k->w.heap.size<=k)/\Below w.heap.size w w6):=⟨fb,_,rfl,hFr,fun k hk=>by
  rcases hk with rfl|rfl|rfl<;>omega,hbw6⟩
 clear hFr hbw6 hf6 hk5 hb5 hb6 hs4 hbw4 hw5 hw6 HG;refine am 0 rfl w.heap.size 0 hS ?_
 refine aH 1 rfl (.int .i64 q) hS ?_ (hy:=fun w' hw'=>by simp[go_sem,af hw'])
 refine am 2 rfl w.heap.size 2 hS ?_
 refine aH 3 rfl (.int .i64 wt) hS ?_ (hy:=fun w' hw'=>by simp[go_sem,af hw'])
 refine am 4 rfl w.heap.size 4 hS ?_
 refine aH 5 rfl (.int .i64 ch) hS ?_ (hy:=fun w' hw'=>by simp[go_sem,af hw'])
 refine am 6 rfl sb 0 hS ?_;refine am 7 rfl w.heap.size 1 hS ?_
 refine aH 8 rfl (.int .i64 n) hS ?_ (hy:=fun w' hw'=>by simp[go_sem,af hw'])
 refine am 10 rfl w.heap.size 3 hS ?_
 refine aH 11 rfl (.int .i64 ca) hS ?_ (hy:=fun w' hw'=>by simp[go_sem,af hw'])
 refine aH 12 rfl (.agg #[(ca:Int),.slice none 0 0]) hS ?_ (hy:=fun w' _=>bt97 ca _ _ _ rfl rfl w');refine aV 9 ?_;refine bI 9 rfl rfl (.slice (some ⟨kb,0,none⟩) n n) (w5) (aa HM _ _ _ rfl rfl) (hS5) ?_;simp only[qZ];refine aH 13 rfl (.agg #[(q:Int),(wt:Int),(ch:Int),(),(),(),.pointer (some ⟨sb,0,none⟩),.slice none 0 0,.slice none 0 0,.slice (some ⟨kb,0,none⟩) n n,(ca:Int),.slice none 0 0]) hS5 ?_ (hy:=fun w' _=>bt99 q wt ch ca sb kb n _ _ _ _ _ _ _ _ rfl rfl rfl rfl rfl rfl rfl w');refine aV 14 ?_;refine bI 14 rfl rfl (.pointer (some ⟨fb,0,none⟩)) (w6) (aa HX _ _ _ rfl rfl) (hS6) ?_;simp only[qZ];refine am 15 rfl fb 0 hS6 ?_;refine aH 16 rfl (.int .i64 0) hS6 ?_
 refine wpAnyH_done (by kernel_rfl) ?_ _
 go_wp2_with fail
 go_ret2
 exact aa HQ
def kN (q wk wt ca ch:Int):Prop:=(1<=q/\q<=8)/\(1<=wk/\wk<=4)/\(1<=wt/\wt<=50)/\(0<=ca/\ca<=2000)/\(1<=ch/\ch<=8)
theorem eM (n a b:Int)(w:World)(h:¬(a<=n/\n<=b)):Calls prog 112 #[n,a,b] w fun e w'=>e=.returned (.bool false)/\w=w':=by
 by_cases h1:a<=n
 ·have h2:¬n<=b:=fun q=>h ⟨h1,q⟩
  clear h;go_enter func112,ntmps112
  go_wp2_with fail
  go_ret;exact⟨rfl,rfl⟩
 clear h;go_enter func112,ntmps112
 go_wp2_with fail
 go_ret;exact⟨rfl,rfl⟩
theorem in_yes (n a b:Int)(w:World)(h1:a<=n)(h2:n<=b):Calls prog 67 #[n,a,b] w fun e w'=>e=.returned (.bool true)/\w=w':=by
 go_enter func67,ntmps67
 go_wp2_with fail
 go_ret;exact⟨rfl,rfl⟩
theorem in_no (n a b:Int)(w:World)(h:¬(a<=n/\n<=b)):Calls prog 67 #[n,a,b] w fun e w'=>e=.returned (.bool false)/\w=w':=by
 by_cases h1:a<=n
 ·have h2:¬n<=b:=fun q=>h ⟨h1,q⟩
  clear h;go_enter func67,ntmps67
  go_wp2_with fail
  go_ret;exact⟨rfl,rfl⟩
 clear h;go_enter func67,ntmps67
 go_wp2_with fail
 go_ret;exact⟨rfl,rfl⟩
theorem mb (n a b:Int)(w:World):Calls prog 67 #[n,a,b] w fun e w'=>e=.returned (.bool (decide (a<=n/\n<=b)))/\w=w':=by
 by_cases h:a<=n/\n<=b
 ·rw[decide_eq_true h]; exact in_yes n a b w h.1 h.2
 rw[decide_eq_false h]; exact in_no n a b w h
section
variable {w:World}
theorem isRight_no (q wk wt ca ch:Int)(w:World)(h:¬kN q wk wt ca ch):
  Calls prog 66 #[.agg #[q,wk,wt,ca,ch]] w fun e w'=>e=.returned (.bool false)/\Below w.heap.size w w':=by
 have hA:=heap_alloc_new w (.cells #[q,wk,wt,ca,ch] 42);have hbl:=(Below.refl w.heap.size w).alloc aD (.cells #[q,wk,wt,ca,ch] 42);have c0:=(af hA 0).trans rfl;have c1:=(af hA 1).trans rfl;have c2:=(af hA 2).trans rfl;have c3:=(af hA 3).trans rfl;have c4:=(af hA 4).trans rfl;have HBL:=ae hbl;have HH:=ae h;clear hA hbl h
 by_cases h0:1<=q/\q<=8
 ·go_enter func66,ntmps66
  go_wp2_with fail
  refine(bW q 1 8 _ h0.1 h0.2).mono ?_;rintro e w1 ⟨rfl,rfl⟩
  by_cases h1:1<=wk/\wk<=4
  ·go_wp2_with fail
   refine(bW wk 1 4 _ h1.1 h1.2).mono ?_;rintro e w1 ⟨rfl,rfl⟩
   by_cases h2:1<=wt/\wt<=50
   ·go_wp2_with fail
    refine(bW wt 1 50 _ h2.1 h2.2).mono ?_;rintro e w1 ⟨rfl,rfl⟩
    by_cases h3:0<=ca/\ca<=2000
    focus
     go_wp2_with fail
     refine(bW ca 0 2000 _ h3.1 h3.2).mono ?_;rintro e w1 ⟨rfl,rfl⟩;have h4:¬(1<=ch/\ch<=8):=fun z=>aa HH ⟨h0,h1,h2,h3,z⟩;have IN:=eM ch 1 8 (w.alloc (.cells #[q,wk,wt,ca,ch] 42)) h4;clear h0 h1 h2 h3 h4
    rotate_left
    focus
     have IN:=eM ca 0 2000 (w.alloc (.cells #[q,wk,wt,ca,ch] 42)) h3;clear h0 h1 h2 h3
    all_goals
     go_wp2_with fail
     refine IN.mono ?_;rintro e w1 ⟨rfl,rfl⟩
     go_wp2_with fail
     go_ret;exact⟨rfl,aa HBL⟩
   have IN:=eM wt 1 50 (w.alloc (.cells #[q,wk,wt,ca,ch] 42)) h2;clear h0 h1 h2
   go_wp2_with fail
   refine IN.mono ?_;rintro e w1 ⟨rfl,rfl⟩
   go_wp2_with fail
   go_ret;exact⟨rfl,aa HBL⟩
  have IN:=eM wk 1 4 (w.alloc (.cells #[q,wk,wt,ca,ch] 42)) h1;clear h0 h1
  go_wp2_with fail
  refine IN.mono ?_;rintro e w1 ⟨rfl,rfl⟩
  go_wp2_with fail
  go_ret;exact⟨rfl,aa HBL⟩
 have IN:=eM q 1 8 (w.alloc (.cells #[q,wk,wt,ca,ch] 42)) h0;clear h0;go_enter func66,ntmps66
 go_wp2_with fail
 refine IN.mono ?_;rintro e w1 ⟨rfl,rfl⟩
 go_wp2_with fail
 go_ret;exact⟨rfl,aa HBL⟩
theorem front_no (q wk wt ca ch:Int)(w:World)(h:¬kN q wk wt ca ch):
  Calls prog 23 #[.agg #[q,wk,wt,ca,ch]] w fun e w'=>e=.returned (.tuple #[.pointer none,(15:Int)])/\Below w.heap.size w w':=by
 have hA:=heap_alloc_new w (.cells #[q,wk,wt,ca,ch] 42);have hb:=aj w (.cells #[q,wk,wt,ca,ch] 42);have hrg:=ao hA;have IR:=isRight_no q wk wt ca ch (w.alloc (.cells #[q,wk,wt,ca,ch] 42)) h;have HB:=ae hb;clear hA hb h;go_enter func23,ntmps23
 go_wp2_with (refine bU 42 #[q,wk,wt,ca,ch] underlying42 rfl (sz23 _ _ _ _ _) w.heap.size 0 hrg rfl _ rfl rfl ?_)
 refine IR.mono ?_;rintro e w2 ⟨rfl,hb2⟩;have HB2:=ae ((aa HB).trans (hb2.mono (aa HB).size));clear IR hrg hb2
 go_wp2_with fail
 go_ret2
 exact⟨rfl,aa HB2⟩
end
theorem built121:prog.built 121 []=some #[.int .i64 0,.slice none 0 0,.slice none 0 0]:=by kernel_rfl
theorem bt121 (ev:Operand->Value)(o:Oper)(ho:o.op=.build 121 #[])(w:World):(execOp ev o).run prog w=.ok (.value (.agg #[.int .i64 0,.slice none 0 0,.slice none 0 0])) w:=by
 have hb:=run_build (P:=prog) w 121 #[] _ built121;unfold execOp;simp[ho,hb]
theorem bx121 (ev:Operand->Value)(o:Oper)(x:Operand)(ho:o.op=.box 121 x)(hx:ev x=.agg #[(),.slice none 0 0,.slice none 0 0])(w:World):(execOp ev o).run prog w=.ok (.value (.pointer (some ⟨w.heap.size,0,none⟩))) (w.alloc (.cells #[(),.slice none 0 0,.slice none 0 0] 121)):=by
 unfold execOp;simp only[ho,hx]
 kernel_rfl
theorem built135 (q wk wt ca ch:Int)(sb:Nat):prog.built 135 [(0,.agg #[q,wk,wt,ca,ch]),(1,.pointer (some ⟨sb,0,none⟩))]=some (RV.a ⟨q,wk,wt,ca,ch,sb,0,0,0,.slice none 0 0,.slice none 0 0,.slice none 0 0⟩):=by kernel_rfl
theorem bt135 (q wk wt ca ch:Int)(sb:Nat)(ev:Operand->Value)(o:Oper)(p0 p1:Operand)(ho:o.op=.build 135 #[(0,p0),(1,p1)])(h0:ev p0=.agg #[q,wk,wt,ca,ch])(h1:ev p1=.pointer (some ⟨sb,0,none⟩))(w:World):(execOp ev o).run prog w=.ok (.value (.agg (RV.a ⟨q,wk,wt,ca,ch,sb,0,0,0,.slice none 0 0,.slice none 0 0,.slice none 0 0⟩))) w:=by
 have hb:=run_build (P:=prog) w 135 #[(0,.agg #[q,wk,wt,ca,ch]),(1,.pointer (some ⟨sb,0,none⟩))] _ (built135 q wk wt ca ch sb);unfold execOp;simp[ho,h0,h1,hb]
theorem bx135 (X:RV)(ev:Operand->Value)(o:Oper)(x:Operand)(ho:o.op=.box 135 x)(hx:ev x=.agg X.a)(w:World):(execOp ev o).run prog w=.ok (.value (.pointer (some ⟨w.heap.size,0,none⟩))) (w.alloc (.cells X.a 135)):=by
 unfold execOp;simp only[ho,hx,RV.a]
 kernel_rfl
def NwP (w:World)(q wk wt ca ch:Int)(e:Ending)(w':World):Prop:=
 (¬kN q wk wt ca ch/\e=.returned (.tuple #[.pointer none,(15:Int)])/\Below w.heap.size w w') \/
 (kN q wk wt ca ch/\∃fb sb,e=.returned (.tuple #[.pointer (some ⟨fb,0,none⟩),()])/\aF w' fb ⟨q,wk,wt,ca,ch,sb,0,0,0,.slice none 0 0,.slice none 0 0,.slice none 0 0⟩/\w'.heap[sb]?=some (.cells #[(),.slice none 0 0,.slice none 0 0] 121)/\w.heap.size<=fb/\w.heap.size<=sb/\Below w.heap.size w w')
theorem j9 (q wk wt ca ch:Int)(w:World):
  Calls prog 24 #[.agg #[q,wk,wt,ca,ch]] w fun e w'=>NwP w q wk wt ca ch e w':=by
 obtain⟨w1,hw1⟩:∃w1,w.alloc (.cells #[q,wk,wt,ca,ch] 42)=w1:=⟨_,rfl⟩;have hA:w1.heap[w.heap.size]?=some (.cells #[q,wk,wt,ca,ch] 42):=hw1▸heap_alloc_new w (.cells #[q,wk,wt,ca,ch] 42);have hb:Below w.heap.size w w1:=hw1▸aj w (.cells #[q,wk,wt,ca,ch] 42);have hrg:=ao hA;have c0:w1.cell? ⟨w.heap.size,0,none⟩=some (.int .i64 q):=(af hA 0).trans rfl;have c1:w1.cell? ⟨w.heap.size,1,none⟩=some (.int .i64 wk):=(af hA 1).trans rfl;have c2:w1.cell? ⟨w.heap.size,2,none⟩=some (.int .i64 wt):=(af hA 2).trans rfl;have c3:w1.cell? ⟨w.heap.size,3,none⟩=some (.int .i64 ca):=(af hA 3).trans rfl;have c4:w1.cell? ⟨w.heap.size,4,none⟩=some (.int .i64 ch):=(af hA 4).trans rfl;have HB:=ae hb;have HW1:=ae hw1;have hz:w.heap.size<w1.heap.size:=an hA;obtain⟨W2,hW2⟩:∃W2,w1.alloc (.cells #[(),.slice none 0 0,.slice none 0 0] 121)=W2:=⟨_,rfl⟩;obtain⟨W3,hW3⟩:∃W3,W2.alloc (.cells (RV.a ⟨q,wk,wt,ca,ch,w1.heap.size,0,0,0,.slice none 0 0,.slice none 0 0,.slice none 0 0⟩) 135)=W3:=⟨_,rfl⟩
 have HYES:Hid (kN q wk wt ca ch->NwP w q wk wt ca ch (.returned (.tuple #[.pointer (some ⟨W2.heap.size,0,none⟩),()])) W3):=fun hc=>by
  have hb2:Below w1.heap.size w1 W2:=hW2▸aj _ _;have hb3:Below W2.heap.size W2 W3:=hW3▸aj _ _;have hs2:W2.heap[w1.heap.size]?=some (.cells #[(),.slice none 0 0,.slice none 0 0] 121):=hW2▸heap_alloc_new w1 (.cells #[(),.slice none 0 0,.slice none 0 0] 121);have hf3:W3.heap[W2.heap.size]?=some (.cells (RV.a ⟨q,wk,wt,ca,ch,w1.heap.size,0,0,0,.slice none 0 0,.slice none 0 0,.slice none 0 0⟩) 135):=hW3▸heap_alloc_new W2 (.cells (RV.a ⟨q,wk,wt,ca,ch,w1.heap.size,0,0,0,.slice none 0 0,.slice none 0 0,.slice none 0 0⟩) 135)
  exact Or.inr ⟨hc,W2.heap.size,w1.heap.size,rfl,hf3,ag hs2 hb3,by have:=hb2.size; omega,by omega,(hb.trans (hb2.mono hb.size)).trans (hb3.mono (by have:=hb2.size; omega))⟩
 have HNO:Hid (¬kN q wk wt ca ch->NwP w q wk wt ca ch (.returned (.tuple #[.pointer none,(15:Int)])) w1):=fun hc=>Or.inl ⟨hc,rfl,hb⟩;have HX2:=ae (show ∀(ev:Operand->Value) (o:Oper) (x:Operand),o.op=.box 121 x->ev x=.agg #[(),.slice none 0 0,.slice none 0 0]->(execOp ev o).run prog w1=.ok (.value (.pointer (some ⟨w1.heap.size,0,none⟩))) W2 from fun ev o x p1 p2=>hW2▸bx121 ev o x p1 p2 w1);have HX3:=ae (show ∀(ev:Operand->Value) (o:Oper) (x:Operand),o.op=.box 135 x->ev x=.agg (RV.a ⟨q,wk,wt,ca,ch,w1.heap.size,0,0,0,.slice none 0 0,.slice none 0 0,.slice none 0 0⟩)->(execOp ev o).run prog W2=.ok (.value (.pointer (some ⟨W2.heap.size,0,none⟩))) W3 from fun ev o x p1 p2=>hW3▸bx135 _ ev o x p1 p2 W2);have I0:=mb q 1 8 w1;have I1:=mb wk 1 4 w1;have I2:=mb wt 1 50 w1;have I3:=mb ca 0 2000 w1;have I4:=mb ch 1 8 w1
 have HCF:Hid (kN q wk wt ca ch↔(decide (1<=q/\q<=8)=true/\decide (1<=wk/\wk<=4)=true/\decide (1<=wt/\wt<=50)=true/\decide (0<=ca/\ca<=2000)=true/\decide (1<=ch/\ch<=8)=true)):=by
  show _↔_;simp only[decide_eq_true_eq];exact Iff.rfl
 generalize decide (1<=q/\q<=8)=b0 at I0 HCF;generalize decide (1<=wk/\wk<=4)=b1 at I1 HCF;generalize decide (1<=wt/\wt<=50)=b2 at I2 HCF;generalize decide (0<=ca/\ca<=2000)=b3 at I3 HCF;generalize decide (1<=ch/\ch<=8)=b4 at I4 HCF;clear hA hb hw1 hW2 hW3;go_enter func24,ntmps24
 go_wp2_with fail
 rw[aa HW1];refine I0.mono ?_;rintro e w2 ⟨rfl,rfl⟩
 go_wp2_with fail
 refine I1.mono ?_;rintro e w2 ⟨rfl,rfl⟩
 go_wp2_with fail
 refine I2.mono ?_;rintro e w2 ⟨rfl,rfl⟩
 go_wp2_with fail
 refine I3.mono ?_;rintro e w2 ⟨rfl,rfl⟩
 go_wp2_with fail
 refine I4.mono ?_;rintro e w2 ⟨rfl,rfl⟩;clear I0 I1 I2 I3 I4
 have no:∀W,(b0=false\/b1=false\/b2=false\/b3=false\/b4=false)->W=w1->NwP w q wk wt ca ch (.returned (.tuple #[.pointer none,(15:Int)])) W:=fun W hb hW=>by
  rw[hW];refine aa HNO fun hc=>?_;obtain⟨z0,z1,z2,z3,z4⟩:=(aa HCF).1 hc
  rcases hb with z|z|z|z|z<;>simp_all
 have HN:=ae no;clear no
 cases b0 with
 | false=>
  have HQ:=ae (aa HN w1 (by simp) rfl)
  go_wp2_with fail
  go_ret2
  exact aa HQ
 | true=>
  cases b1 with
  | false=>
   have HQ:=ae (aa HN w1 (by simp) rfl)
   go_wp2_with fail
   go_ret2
   exact aa HQ
  | true=>
   cases b2 with
   | false=>
    have HQ:=ae (aa HN w1 (by simp) rfl)
    go_wp2_with fail
    go_ret2
    exact aa HQ
   | true=>
    cases b3 with
    | false=>
     have HQ:=ae (aa HN w1 (by simp) rfl)
     go_wp2_with fail
     go_ret2
     exact aa HQ
    | true=>
     cases b4 with
     | false=>
      have HQ:=ae (aa HN w1 (by simp) rfl)
      go_wp2_with fail
      go_ret2
      exact aa HQ
     | true=>
      have HQ:=ae (aa HYES ((aa HCF).2 ⟨rfl,rfl,rfl,rfl,rfl⟩))
      go_wp2_with (first|refine bU 42 #[q,wk,wt,ca,ch] underlying42 rfl (sz23 _ _ _ _ _) w.heap.size 0 hrg rfl _ rfl rfl ?_|refine cP _ _ (bt121 _ _ rfl _) rfl ?_|refine cP _ _ (aa HX2 _ _ _ rfl rfl) rfl ?_|refine cP _ _ (bt135 q wk wt ca ch w1.heap.size _ _ _ _ rfl rfl rfl _) rfl ?_|refine cP _ _ (aa HX3 _ _ _ rfl rfl) rfl ?_)
      go_ret2
      exact aa HQ
section
variable {w:World}{e:EV}{n ob wb:Nat}{O:OL}{o:iH}
theorem pq (h:cO w n e)(hO:io w ob O)(hdj:∀k,aX e k->¬OF ob O k)(h4:∀k,OF ob O k->4<=k)(hcw:w.cell? ⟨wb,2,none⟩=some (.pointer (some ⟨ob,0,none⟩)))(hwn:¬aX e wb)(hwo:¬OF ob O wb)(hlw:wb<w.heap.size)(hlr:O.RS.length<=10000000)(_hn:n<=2000000)(hlg:O.GS.length<=10000000)(hn4:n<=400000)(hk:o.kind=16):
  Calls prog 14 #[.pointer (some ⟨wb,0,none⟩),.agg #[.pointer (some ⟨e.fb,0,none⟩),.pointer (some ⟨e.rb,0,none⟩)],.agg o.v] w fun r w'=>r=.returned (.bool true)/\∃e' O',ip w n e ob O w' e' O':=by
 have hb:=ie w e o;have HB:=ae hb;have c0:=hb.bx.c0;have k0:=(hb.bx.o 0).trans (show _=some (Value.int .i64 o.kind) from rfl);rw[hk] at k0;have h1:=h.on hb.b;have hlt:∀k,aX e k->k<w.heap.size:=fun k q=>h.lt q;obtain⟨hj12,hel,hby,hwk4,hwt50,hch1,hch8,hca⟩:=h.m.lens;have hbsk:=h.m.bs;have hm1:=h.m.ct;have hm2:=h.m.rl;have hm3:=h.m.now;have hm4:=h.m.st;have hsa:=h.m.sim.arr;have hsn:=h.m.sim.now;have hss:=h.m.sim.st;have HG:=ae h.x.glb.1;have HH:=ae h;have HH1:=ae h1;have HO:=ae hO;have HDJ:=ae hdj;have H4:=ae h4;have HCW:=ae hcw;have HWN:Hid (¬(aX e wb\/OF ob O wb)):=fun q=>q.elim hwn hwo;have HLT:=ae hlt;have HBS:=ae hbsk;have hrg:=ao hb.p
 have SH:=nx (wb:=wb) (ob:=ob) (O:=O) h1 (bA.on hO hb.b) hdj h4 ((hb.b.cell (p:=⟨wb,2,none⟩) hlw).trans hcw) (by have:=hb.b.size; omega) hlg hn4
 have HSH:=ae SH;clear hb h1 h hO hdj h4 hcw hwn hwo hlt hbsk SH;go_enter func14,ntmps14
 go_wp2_with (refine bU 59 #[.pointer (some ⟨e.fb,0,none⟩),.pointer (some ⟨e.rb,0,none⟩)] underlying59 rfl (by kernel_rfl) w.heap.size 0 hrg rfl _ rfl rfl ?_)
 refine(aa HSH).mono ?_;rintro r w6 ⟨rfl,O',hE6,hi3⟩;have i0:=hE6.ost;have HEX:=ae hE6;clear hE6 hrg HSH c0 k0;have SR:=dl (w:=w6) (v:=.slice none 0 0) (u:=.slice none 0 0) (l:=[]) (aU (R:=bE) (T:=103)).at (aU (R:=bE) (T:=103)).at
 go_wp2_with fail
 refine SR.mono ?_;rintro e w7 ⟨rfl,hb7⟩;have hE7:=(aa HEX).on hb7;have hsB:=(aa HB).b.size
 have c2:w7.cell? ⟨wb,2,none⟩=some (.pointer (some ⟨ob,0,none⟩)):=by
  rw[World.cell?_of_block (a:=⟨wb,2,none⟩) (hE7.frm.block wb (by show wb<_; omega) (aa HWN))]
  exact((aa HB).b.cell (p:=⟨wb,2,none⟩) hlw).trans (aa HCW)
 have KR:=fZ (v:=.slice none 0 0) (l:=[]) hE7.own aU (fun s hs g hg q=>by cases q) (by omega)
 have HE7:=ae hE7;clear SR hb7 hE7 HEX
 go_wp2_with fail
 refine KR.mono ?_;intro e w8 hK
 obtain⟨rfl,O2,hE8⟩:=ip.keepR (aa HE7) (fun k q=>by
  rcases(aa HE7).ost.foot k q with z|z
  ·exact aa H4 k z
  have:=aa HG; omega) (by have:=aa HG; omega) (fun k q=>by cases q) hK ⟨i0.il,i0.fl,by omega,i0.gl,i0.el⟩
 have HE8:=ae (hE8.pre (aa HB).b);clear hE8 hK c2 KR HE7
 go_wp2_with fail
 go_ret;exact⟨rfl,_,O2,aa HE8⟩
theorem fronted_any (h:cO w n e)(hO:io w ob O)(hdj:∀k,aX e k->¬OF ob O k)(h4:∀k,OF ob O k->4<=k)(hcw:w.cell? ⟨wb,2,none⟩=some (.pointer (some ⟨ob,0,none⟩)))(hwn:¬aX e wb)(hwo:¬OF ob O wb)(hlw:wb<w.heap.size)(hlr:O.RS.length<=10000000)(hlg:O.GS.length<=10000000)(hle:O.ES.length<=10000000)(hn:n<=400000)(hs:o.s.size<=1048576)
  (b:bK) (hB:bL rE w o.bat b) (hbl:b.length<=10000000) (hbt:0<b.length->∀g,o.bat.ownBlock=some g->¬aX e g/\¬OF ob O g) (hk:12<=o.kind/\o.kind<=16) :
  Calls prog 14 #[.pointer (some ⟨wb,0,none⟩),.agg #[.pointer (some ⟨e.fb,0,none⟩),.pointer (some ⟨e.rb,0,none⟩)],.agg o.v] w fun r w'=>r=.returned (.bool true)/\∃e' O',ip w n e ob O w' e' O':=by
 by_cases k12:o.kind=12
 ·exact mh h hO hdj h4 hcw hwn hwo hlw hlr (by omega) hs k12
 by_cases k13:o.kind=13
 ·exact pm h hO hdj h4 hcw hwn hwo hlw hlr (by omega) k13
 by_cases k14:o.kind=14
 ·exact na h hO hdj h4 hcw hwn hwo hlw hlr (by omega) hle b hB hbl hbt k14
 by_cases k15:o.kind=15
 ·exact pp h hO hdj h4 hcw hwn hwo hlw hlr (by omega) k15
 exact pq h hO hdj h4 hcw hwn hwo hlw hlr (by omega) hlg hn (by omega)
end
def twoOf (d:DV):Two:=⟨d.sb,d.rb⟩
section
variable {w0 w w':World}{wb ob:Nat}{sv:Value}{D:List DV}{O O':OL}{c:Nat->Nat}{n:Nat}
theorem map_set {i:Nat}{d d':DV}(hd:D[i]?=some d)(hs:d'.sb=d.sb)(hr:d'.rb=d.rb):(D.set i d').map twoOf=D.map twoOf:=by
 apply List.ext_getElem?
 intro j;rw[List.getElem?_map,List.getElem?_map,List.getElem?_set]
 by_cases e:i=j
 ·subst e
  rw[if_pos rfl,hd];have hi:i<D.length:=(List.getElem?_eq_some_iff.1 hd).1;rw[if_pos hi];simp[twoOf,hs,hr]
 rw[if_neg e]
end
def mO (e:EV):Two:=⟨e.fb,e.rb⟩
structure WJ (w0 w:World)(wb ob:Nat)(sv fv:Value)(D:List DV)(E:List EV)(O:OL)(n:Nat)(c:Nat->Nat):Prop where
 base:Below w0.heap.size w0 w
 blk:w.heap[wb]?=some (.cells #[sv,fv,.pointer (some ⟨ob,0,none⟩)] 37)
 st:ah rTwo 53 w sv (D.map twoOf)
 fr:ah rTwo 59 w fv (E.map mO)
 dep:∀(i:Nat) (d:DV),D[i]?=some d->Dep w d
 des:∀(i:Nat) (e:EV),E[i]?=some e->cO w n e
 own:io w ob O
 cd:∀(i:Nat) (d:DV) (k:Nat),D[i]?=some d->df d k->c k=3+2*i
 ce:∀(i:Nat) (e:EV) (k:Nat),E[i]?=some e->aX e k->c k=4+2*i
 co:∀k,OF ob O k->c k=2
 cw:c wb=1
 cs:∀k,sv.ownBlock=some k->c k=1
 cf:∀k,fv.ownBlock=some k->c k=1
 cb:∀k,k<w0.heap.size->c k=0
 glb:Glb w0
structure WL (D:List DV)(E:List EV)(O:OL)(n:Nat):Prop where
 d:D.length<=n
 e:E.length<=n
 i:O.IS.length<=2*n
 f:O.FS.length<=2*n
 r:O.RS.length<=2*n
 g:O.GS.length<=2*n
 es:O.ES.length<=2*n
def ni (w0 w:World)(wb ob n:Nat):Prop:=∃sv fv D E O c,WJ w0 w wb ob sv fv D E O n c/\WL D E O n
section
variable {w0 w w':World}{wb ob:Nat}{sv fv:Value}{D:List DV}{E:List EV}{O O':OL}{c:Nat->Nat}{n:Nat}
theorem cO.more {e:EV}(h:cO w n e):cO w (n+1) e:=⟨h.x,h.r,h.m.still,h.lo⟩
theorem WJ.on (h:WJ w0 w wb ob sv fv D E O n c)(hb:Below w.heap.size w w'):WJ w0 w' wb ob sv fv D E O n c:=
 ⟨h.base.trans (hb.mono h.base.size),ag h.blk hb,h.st.on hb,h.fr.on hb,fun i d hd=>(h.dep i d hd).on hb,fun i e he=>(h.des i e he).on hb,bA.on h.own hb,h.cd,h.ce,h.co,h.cw,h.cs,h.cf,h.cb,h.glb⟩
theorem WJ.more (h:WJ w0 w wb ob sv fv D E O n c):WJ w0 w wb ob sv fv D E O (n+1) c:={ h with des:=fun i e he=>(h.des i e he).more }
theorem WL.more (h:WL D E O n):WL D E O (n+1):=by
 have:=h.d; have:=h.e; have:=h.i; have:=h.f; have:=h.r; have:=h.g; have:=h.es
 exact⟨by omega,by omega,by omega,by omega,by omega,by omega,by omega⟩
theorem ni.on (h:ni w0 w wb ob n)(hb:Below w.heap.size w w'):ni w0 w' wb ob n:=by
 obtain⟨sv,fv,D,E,O,c,h,r⟩:=h;exact⟨sv,fv,D,E,O,c,h.on hb,r⟩
theorem ni.more (h:ni w0 w wb ob n):ni w0 w wb ob (n+1):=by
 obtain⟨sv,fv,D,E,O,c,h,r⟩:=h;exact⟨sv,fv,D,E,O,c,h.more,r.more⟩
theorem ni.base (h:ni w0 w wb ob n):Below w0.heap.size w0 w:=by
 obtain⟨sv,fv,D,E,O,c,h,r⟩:=h;exact h.base
theorem WJ.old (h:WJ w0 w wb ob sv fv D E O n c){k:Nat}(hk:c k≠0):w0.heap.size<=k:=by
 rcases Nat.lt_or_ge k w0.heap.size with q|q
 ·exact absurd (h.cb k q) hk
 exact q
theorem WJ.four (h:WJ w0 w wb ob sv fv D E O n c){k:Nat}(hk:c k≠0):4<=k:=by
 have:=h.old hk;have:=h.glb.1;omega
theorem WJ.o4 (h:WJ w0 w wb ob sv fv D E O n c):∀k,OF ob O k->4<=k:=fun k q=>h.four (by rw[h.co k q]; decide)
theorem WJ.dje (h:WJ w0 w wb ob sv fv D E O n c){i:Nat}{e:EV}(he:E[i]?=some e):∀k,aX e k->¬OF ob O k:=fun k q q'=>by
 have:=h.ce i e k he q; have:=h.co k q'; omega
theorem WJ.wbe (h:WJ w0 w wb ob sv fv D E O n c){i:Nat}{e:EV}(he:E[i]?=some e):¬aX e wb:=fun q=>by
 have:=h.cw; have:=h.ce i e wb he q; omega
theorem WJ.wbo (h:WJ w0 w wb ob sv fv D E O n c):¬OF ob O wb:=fun q=>by
 have:=h.cw; have:=h.co wb q; omega
theorem mapE_set {i:Nat}{e e':EV}(he:E[i]?=some e)(hs:e'.fb=e.fb)(hr:e'.rb=e.rb):(E.set i e').map mO=E.map mO:=by
 apply List.ext_getElem?
 intro j;rw[List.getElem?_map,List.getElem?_map,List.getElem?_set]
 by_cases q:i=j
 ·subst q
  rw[if_pos rfl,he];have hi:i<E.length:=(List.getElem?_eq_some_iff.1 he).1;rw[if_pos hi];simp[mO,hs,hr]
 rw[if_neg q]
theorem WJ.stepE (h:WJ w0 w wb ob sv fv D E O n c){i:Nat}{e e':EV}(he:E[i]?=some e)(hP:ip w n e ob O w' e' O'):∃c',WJ w0 w' wb ob sv fv D (E.set i e') O' (n+1) c':=by
 have hi:i<E.length:=(List.getElem?_eq_some_iff.1 he).1
 have frm:∀k,k<w.heap.size->c k≠4+2*i->c k≠2->w'.heap[k]?=w.heap[k]?:=fun k hk h1 h2=>hP.frm.block k hk fun q=>by
  rcases q with q|q
  ·exact h1 (h.ce i e k he q)
  exact h2 (h.co k q)
 have hsz:=hP.frm.size
 have hlow:∀k,(aX e k\/OF ob O k)->4<=k:=fun k q=>h.four (by
  rcases q with q|q
  ·rw[h.ce i e k he q]; omega
  rw[h.co k q]; decide)
 classical
 refine⟨fun k=>if k<w.heap.size then c k else if aX e' k then 4+2*i else 2,⟨hP.frm.os.trans h.base.os,hP.frm.tape.trans h.base.tape,hP.frm.output.trans h.base.output,Nat.le_trans h.base.size hsz,fun k hk=>?_⟩,?_,?_,?_,fun j d hd=>?_,fun j f hf=>?_,hP.own,fun j d k hd q=>?_,fun j f k hf q=>?_,fun k q=>?_,?_,fun k q=>?_,fun k q=>?_,fun k hk=>?_,h.glb⟩
 ·rw[frm k (Nat.lt_of_lt_of_le hk h.base.size) (by rw[h.cb k hk]; omega) (by rw[h.cb k hk]; omega)]
  exact h.base.block k hk
 ·rw[frm wb (an h.blk) (by rw[h.cw]; omega) (by rw[h.cw]; omega)]
  exact h.blk
 ·exact h.st.same fun g hg=>frm g (h.st.lt hg) (by rw[h.cs g hg]; omega) (by rw[h.cs g hg]; omega)
 ·rw[mapE_set he hP.fb hP.rb]
  exact h.fr.same fun g hg=>frm g (h.fr.lt hg) (by rw[h.cf g hg]; omega) (by rw[h.cf g hg]; omega)
 ·refine(h.dep j d hd).frm hP.frm fun k q q'=>?_
  have e1:=h.cd j d k hd q
  rcases q' with q'|q'
  ·have:=h.ce i e k he q'; omega
  have:=h.co k q'; omega
 ·rw[List.getElem?_set] at hf
  by_cases ej:i=j
  ·subst ej
   rw[if_pos rfl,if_pos hi] at hf;cases hf;exact hP.desk
  rw[if_neg ej] at hf;refine((h.des j f hf).frm hP.frm (fun k q q'=>?_) hlow).more;have e1:=h.ce j f k hf q
  rcases q' with q'|q'
  ·have:=h.ce i e k he q'; omega
  have:=h.co k q'; omega
 ·show(if k<w.heap.size then c k else if aX e' k then 4+2*i else 2)=3+2*j
  rw[if_pos ((h.dep j d hd).lt q)];exact h.cd j d k hd q
 ·rw[List.getElem?_set] at hf
  by_cases ej:i=j
  ·subst ej
   rw[if_pos rfl,if_pos hi] at hf;cases hf
   show(if k<w.heap.size then c k else if aX e' k then 4+2*i else 2)=4+2*i
   by_cases ck:k<w.heap.size
   ·rw[if_pos ck]
    rcases hP.foot k q with q'|q'
    ·exact h.ce i e k he q'
    omega
   rw[if_neg ck,if_pos q]
  rw[if_neg ej] at hf
  show(if k<w.heap.size then c k else if aX e' k then 4+2*i else 2)=4+2*j
  rw[if_pos ((h.des j f hf).lt q)];exact h.ce j f k hf q
 ·show(if k<w.heap.size then c k else if aX e' k then 4+2*i else 2)=2
  by_cases ck:k<w.heap.size
  ·rw[if_pos ck]
   rcases hP.ost.foot k q with q'|q'
   ·exact h.co k q'
   omega
  rw[if_neg ck,if_neg fun q'=>hP.dj k q' q]
 ·show(if wb<w.heap.size then c wb else if aX e' wb then 4+2*i else 2)=1
  rw[if_pos (an h.blk)]; exact h.cw
 ·show(if k<w.heap.size then c k else if aX e' k then 4+2*i else 2)=1
  rw[if_pos (h.st.lt q)]; exact h.cs k q
 ·show(if k<w.heap.size then c k else if aX e' k then 4+2*i else 2)=1
  rw[if_pos (h.fr.lt q)]; exact h.cf k q
 show(if k<w.heap.size then c k else if aX e' k then 4+2*i else 2)=0
 rw[if_pos (Nat.lt_of_lt_of_le hk h.base.size)]; exact h.cb k hk
theorem WL.stepE (h:WL D E O n){i:Nat}{e':EV}(ho:OSt w O ob O'):WL D (E.set i e') O' (n+1):=by
 have:=h.d; have:=h.e; have:=h.i; have:=h.f; have:=h.r; have:=h.g; have:=h.es
 have:=ho.il; have:=ho.fl; have:=ho.rl; have:=ho.gl; have:=ho.el
 exact⟨by omega,by rw[List.length_set]; omega,by omega,by omega,by omega,by omega,by omega⟩
theorem WJ.openE (h:WJ w0 w wb ob sv fv D E O n c){w2 w3:World}{x:Value}{o:Obj}{e:EV}(hb2:Below w.heap.size w w2)(hd:cO w2 n e)(hnew:∀k,aX e k->w.heap.size<=k)
  (r2:ah rTwo 59 w3 x (E.map mO++[mO e])) (r3:(w2.alloc o).grownBy w3 fv.ownBlock) (r4:x.ownBlock=fv.ownBlock\/∀g,x.ownBlock=some g->w2.heap.size<=g):∃c',WJ w0 (w3.setCell ⟨wb,1,none⟩ x) wb ob sv x D (E++[e]) O n c':=by
 have h2:=h.on hb2;have hwb:=an h2.blk;have hsz2:=hb2.size;have hz:=r3.size;simp only[World.alloc,Array.size_push] at hz
 have keep:∀q,q<w2.heap.size->q≠wb->fv.ownBlock≠some q->(w3.setCell ⟨wb,1,none⟩ x).heap[q]?=w2.heap[q]?:=fun q hq h1 h3=>by
  rw[Below.heap_setCell _ _ _ _ (fun e=>h1 e),r3.block q (by simp; omega) (fun e=>h3 e.symm),heap_alloc_old _ _ hq]
 have b3:w3.heap[wb]?=some (.cells #[sv,fv,.pointer (some ⟨ob,0,none⟩)] 37):=by
  rw[r3.block _ (by simp; omega) (fun q=>by obtain⟨c1,e1⟩:=h2.fr.ty q.symm; exact aI e1 h2.blk (by decide) rfl),heap_alloc_old _ _ hwb]
  exact h2.blk
 have hlf:∀q,fv.ownBlock=some q->q<w.heap.size:=fun q hq=>h.fr.lt hq
 have hF:aE (fun q=>q=wb\/fv.ownBlock=some q) w2 (w3.setCell ⟨wb,1,none⟩ x):=⟨r3.os,r3.tape,r3.output,by simp[World.setCell]; omega,fun q hq h1=>keep q hq (fun e=>h1 (Or.inl e)) (fun e=>h1 (Or.inr e))⟩
 have hS1:∀k,(k=wb\/fv.ownBlock=some k)->c k=1:=fun k q=>by
  rcases q with rfl|q
  ·exact h.cw
  exact h.cf k q
 have hS4:∀k,(k=wb\/fv.ownBlock=some k)->4<=k:=fun k q=>h.four (by rw[hS1 k q]; decide)
 have hSw:∀k,(k=wb\/fv.ownBlock=some k)->k<w.heap.size:=fun k q=>by
  rcases q with rfl|q
  ·exact an h.blk
  exact hlf k q
 classical
 refine⟨fun k=>if k<w.heap.size then c k else if aX e k then 4+2*E.length else 1,⟨r3.os.trans h2.base.os,r3.tape.trans h2.base.tape,r3.output.trans h2.base.output,by have:=h2.base.size; simp[World.setCell]; omega,fun k hk=>?_⟩,?_,?_,?_,fun j d hd'=>?_,fun j f hf=>?_,bA.frm h2.own hF (fun k q q'=>by have:=hS1 k q'; have:=h.co k q; omega),fun j d k hd' q=>?_,fun j f k hf q=>?_,fun k q=>?_,?_,fun k q=>?_,fun k q=>?_,fun k hk=>?_,h.glb⟩
 ·have hlt:=Nat.lt_of_lt_of_le hk h2.base.size
  rw[hF.block k hlt (fun q=>by have:=hS1 k q; have:=h.cb k hk; omega)]
  exact h2.base.block k hk
 ·show(w3.setCell ⟨wb,1,none⟩ x).heap[wb]?=_
  simp[World.setCell,Array.getElem?_modify,b3]
 ·exact h2.st.same fun g hg=>hF.block g (h2.st.lt hg) (fun q=>by
   rcases q with rfl|q
   ·obtain⟨c1,e1⟩:=h2.st.ty hg; exact aI e1 h2.blk (by decide) rfl
   obtain⟨c1,e1⟩:=h2.st.ty hg; obtain⟨c3,e3⟩:=h2.fr.ty q; exact aI e1 e3 (by decide) rfl)
 ·rw[List.map_append]
  exact r2.same fun g hg=>Below.heap_setCell _ _ _ _ (by obtain⟨c1,e1⟩:=r2.ty hg; exact aI e1 b3 (by decide))
 ·exact(h2.dep j d hd').frm hF fun k q q'=>by have:=hS1 k q'; have:=h.cd j d k hd' q; omega
 ·rcases getElem?_snoc hf with hf|⟨rfl,rfl⟩
  ·exact(h2.des j f hf).frm hF (fun k q q'=>by have:=hS1 k q'; have:=h.ce j f k hf q; omega) hS4
  exact hd.frm hF (fun k q q'=>by have:=hSw k q'; have:=hnew k q; omega) hS4
 ·show(if k<w.heap.size then c k else if aX e k then 4+2*E.length else 1)=3+2*j
  rw[if_pos ((h.dep j d hd').lt q)]; exact h.cd j d k hd' q
 ·show(if k<w.heap.size then c k else if aX e k then 4+2*E.length else 1)=4+2*j
  rcases getElem?_snoc hf with hf|⟨rfl,rfl⟩
  ·rw[if_pos ((h.des j f hf).lt q)]; exact h.ce j f k hf q
  have:=hnew k q
  rw[if_neg (by omega),if_pos q]
 ·show(if k<w.heap.size then c k else if aX e k then 4+2*E.length else 1)=2
  rw[if_pos (bA.lt h.own q)]; exact h.co k q
 ·show(if wb<w.heap.size then c wb else if aX e wb then 4+2*E.length else 1)=1
  rw[if_pos (an h.blk)]; exact h.cw
 ·show(if k<w.heap.size then c k else if aX e k then 4+2*E.length else 1)=1
  rw[if_pos (h.st.lt q)]; exact h.cs k q
 ·show(if k<w.heap.size then c k else if aX e k then 4+2*E.length else 1)=1
  rcases r4 with r4|r4
  ·have q':fv.ownBlock=some k:=r4▸q
   rw[if_pos (hlf k q')]; exact h.cf k q'
  have z:=r4 k q
  rw[if_neg (by omega),if_neg (fun z'=>by have:=hd.lt z'; omega)]
 show(if k<w.heap.size then c k else if aX e k then 4+2*E.length else 1)=0
 rw[if_pos (Nat.lt_of_lt_of_le hk h.base.size)]; exact h.cb k hk
end
theorem wl_none:∀(n o:Nat),wl o (List.replicate n none)=[]
 | 0,_=>rfl
 | n+1,o=>by rw[List.replicate_succ,wl]; exact wl_none n (o+1)
def newD (q wt ch ca n:Nat):DF:=⟨q,n,wt,ca,ch,0,0,0,[],[],[],[]⟩
theorem sim_new (q wt ch ca n:Nat):fC (mW q wt ch ca n) (newD q wt ch ca n):=by
 refine⟨rfl,by show(List.replicate n none).length=n; simp,rfl,rfl,rfl,rfl,rfl,rfl,rfl,?_,rfl,⟨[],[],⟨List.Perm.refl _,(fun j hj=>by cases hj),List.Pairwise.nil,rfl,?_⟩⟩,⟨[],⟨List.Perm.refl _,List.Pairwise.nil,(fun e he=>by cases he),rfl,List.nodup_nil⟩⟩⟩
 ·refine vs_of pr_nil fun v hv=>?_
  have:v=0:=by simpa[newD] using hv
  subst this;rfl
 show([]:List Jt).Perm (wl 0 (List.replicate n none));rw[wl_none]
theorem ok_new {q wt ch ca n:Nat}(hq:1<=q/\q<=8)(hw:1<=wt/\wt<=50)(hc:1<=ch/\ch<=8)(hr:ca<=2000)(hn:1<=n/\n<=4):Ok Oz (mW q wt ch ca n):=by
 have hf:=fls_new q wt ch ca n
 refine⟨hq,hw,hc,hr,by show 1<=(List.replicate n none).length/\(List.replicate n none).length<=4; simpa using hn,by show 0<=100; omega,by show 0<=q; omega,(fun r hr=>by cases hr),List.Pairwise.nil,(fun r hr=>by cases hr),(fun b hb=>by cases hb),?_,(fun f hf'=>by rw[hf] at hf'; cases hf'),?_,by rw[hf]; exact Nat.zero_le _,hi_of (fver_new.rel),by show 0<=ca; omega,(fun t ht=>by cases ht),List.nodup_nil⟩
 ·rw[hf]; exact List.nodup_nil
 rw[hf]; exact List.Perm.refl _
theorem deskm_new {q wt ch ca n:Nat}(m:Nat)(hq:1<=q/\q<=8)(hw:1<=wt/\wt<=50)(hc:1<=ch/\ch<=8)(hr:ca<=2000)(hn:1<=n/\n<=4):cF (mW q wt ch ca n) (newD q wt ch ca n) m:=
 ⟨ok_new hq hw hc hr hn,sim_new q wt ch ca n,pr_nil,fun v hv=>by
  have:v=0:=by simpa[newD] using hv
  subst this
  rfl,fun k hk=>by simp[newD] at hk,fun r hr=>by simp[newD] at hr,by show 0<=5*m; omega,by show 0<=m; omega,by show 0<=m; omega,by show 0<=m; omega⟩
theorem desk_new {w w2 w3:World}{fb rb sb q wt ch ca n:Nat}{Ψ:Nat->Prop}(m:Nat)(hq:1<=q/\q<=8)(hw:1<=wt/\wt<=50)(hc:1<=ch/\ch<=8)(hr:ca<=2000)(hn:1<=n/\n<=4)(hF:eR w2 fb Ψ (mW q wt ch ca n))(hΨ:∀k,Ψ k->w.heap.size<=k)(hb3:Below w2.heap.size w2 w3)(hsz:w.heap.size<=w2.heap.size)
  (hf:aF w3 rb ⟨q,n,wt,ca,ch,sb,0,0,0,.slice none 0 0,.slice none 0 0,.slice none 0 0⟩) (hs:w3.heap[sb]?=some (.cells #[(),.slice none 0 0,.slice none 0 0] 121)) (hlr:w2.heap.size<=rb) (hls:w2.heap.size<=sb) :
  ∃e:EV,cO w3 m e/\(∀k,aX e k->w.heap.size<=k)/\e.fb=fb/\e.rb=rb:=by
 obtain⟨X,sl,pv,W,hx,hsub⟩:=hF.on hb3;have h4:=hx.glb.1;have h42:4<=w2.heap.size:=(eR.glb hF).1
 have hR:∀k,RDF rb ⟨q,n,wt,ca,ch,sb,0,0,0,.slice none 0 0,.slice none 0 0,.slice none 0 0⟩ (.slice none 0 0) [] k->k=rb\/k=sb:=fun k q=>by
  rcases q with(q|q|q|q)|q|q|⟨s,hs,_⟩
  ·exact Or.inl q
  ·cases q
  ·cases q
  ·cases q
  ·exact Or.inr q
  ·cases q
  cases hs
 refine⟨⟨fb,X,sl,pv,W,mW q wt ch ca n,rb,⟨q,n,wt,ca,ch,sb,0,0,0,.slice none 0 0,.slice none 0 0,.slice none 0 0⟩,.slice none 0 0,[],newD q wt ch ca n⟩,⟨hx,⟨hf,⟨aU,aU,aU⟩,⟨hs,aU,rfl,fun i s b hs'=>by simp at hs',aU⟩,⟨rfl,rfl,rfl,rfl,rfl,rfl,rfl,rfl⟩⟩,deskm_new m hq hw hc hr hn,fun k q=>?_⟩,fun k q=>?_,rfl,rfl⟩
 ·rcases hR k q with z|z<;>omega
 rcases q with q|q
 ·exact hΨ k (hsub k q)
 rcases hR k q with z|z<;>omega
theorem inf59:(prog.info? 59).map (fun i=>(i.zero,i.size,i.bytes))=some (some (.agg #[.pointer none,.pointer none]),2,16):=by kernel_rfl
theorem ap35 {w:World}{v x:Value}{l news:List Two}(ho:ah rTwo 59 w v l)(hx:bL rTwo w x news)(hl:l.length+news.length<=100000000):
  ∃v' w',(Builtin.append_ #[35,35] 35 #[v,x]).run prog w=.ok v' w'/\ah rTwo 59 w' v' (l++news)/\w.grownBy w' v.ownBlock/\(v'.ownBlock=v.ownBlock\/∀g,v'.ownBlock=some g->w.heap.size<=g):=by
 obtain⟨i,h1,h2,h3,h4⟩:=ee inf59
 exact ah.append (P:=prog) 35 35 i _ 16 underlying35 h1 h2 h3 h4 rfl ho news x hx (by unfold maxLen; omega) (by omega)
theorem bs59 (p q:Nat)(ev:Operand->Value)(o:Oper)(x:Operand)(ho:o.op=.buildSlice 35 1 #[(0,x)])(hx:ev x=.agg #[.pointer (some ⟨p,0,none⟩),.pointer (some ⟨q,0,none⟩)])(w:World):(execOp ev o).run prog w=.ok (.value (.slice (some ⟨w.heap.size,0,none⟩) 1 1)) (w.alloc (.cells #[.pointer (some ⟨p,0,none⟩),.pointer (some ⟨q,0,none⟩)] 59)):=by
 unfold execOp;simp only[ho];simp only[List.map_toArray,List.map_cons,List.map_nil,hx]
 kernel_rfl
theorem built59 (p q:Nat):prog.built 59 [(0,.pointer (some ⟨p,0,none⟩)),(1,.pointer (some ⟨q,0,none⟩))]=some #[.pointer (some ⟨p,0,none⟩),.pointer (some ⟨q,0,none⟩)]:=by kernel_rfl
theorem run_b59 (p q:Nat)(A:Act)(o:Oper)(x y:Operand)(ho:o.op=.build 59 #[(0,x),(1,y)])(hx:A.eval x=.pointer (some ⟨p,0,none⟩))(hy:A.eval y=.pointer (some ⟨q,0,none⟩))(w:World):(execOp A.eval o).run prog w=.ok (.value (.agg #[.pointer (some ⟨p,0,none⟩),.pointer (some ⟨q,0,none⟩)])) w:=by
 have hb:=run_build (P:=prog) w 59 #[(0,.pointer (some ⟨p,0,none⟩)),(1,.pointer (some ⟨q,0,none⟩))] _ (built59 p q);unfold execOp;simp[ho,hx,hy,hb]
section
variable {w0 w:World}{wb ob n:Nat}
theorem begun_any (q wk wt ca ch:Int)(h:ni w0 w wb ob n)(hn:n<=2000000):
  Calls prog 11 #[.pointer (some ⟨wb,0,none⟩),.agg #[q,wk,wt,ca,ch]] w fun e w'=>e=.returned (.bool true)/\ni w0 w' wb ob (n+1):=by
 obtain⟨w1,hw1⟩:∃w1,w.alloc (.cells #[q,wk,wt,ca,ch] 42)=w1:=⟨_,rfl⟩;have hb1:Below w.heap.size w w1:=hw1▸aj w (.cells #[q,wk,wt,ca,ch] 42);have hg1:w1.heap[w.heap.size]?=some (.cells #[q,wk,wt,ca,ch] 42):=hw1▸heap_alloc_new w (.cells #[q,wk,wt,ca,ch] 42);have hrg:=ao hg1;have HW1:=ae hw1;have HG1:=ae hg1
 by_cases hc:kN q wk wt ca ch
 ·obtain⟨h0,h1,h2,h3,h4⟩:=id hc
  obtain⟨q,rfl⟩:∃m:Nat,q=m:=⟨q.toNat,by omega⟩
  obtain⟨wk,rfl⟩:∃m:Nat,wk=m:=⟨wk.toNat,by omega⟩
  obtain⟨wt,rfl⟩:∃m:Nat,wt=m:=⟨wt.toNat,by omega⟩
  obtain⟨ca,rfl⟩:∃m:Nat,ca=m:=⟨ca.toNat,by omega⟩
  obtain⟨ch,rfl⟩:∃m:Nat,ch=m:=⟨ch.toNat,by omega⟩
  obtain⟨sv,fv,D,E,O,c,hI,hl⟩:=h;have hI1:=hI.on hb1;have hglb:Glb w1:=hI.glb.on hI1.base
  have FN:=front_new q wk wt ca ch w1 (by omega) (by omega) (by omega) (by omega) (by omega) hglb
  have HI1:=ae hI1;have HL:=ae hl;have hle:=hl.e;have HC:=ae hc;clear hw1 hg1 hI hl hI1 hglb hc;go_enter func11,ntmps11
  go_wp2_with (refine bU 42 #[(q:Int),(wk:Int),(wt:Int),(ca:Int),(ch:Int)] underlying42 rfl (sz23 _ _ _ _ _) w.heap.size 0 hrg rfl _ rfl rfl ?_)
  rw[aa HW1];refine FN.mono ?_;rintro r w2 ⟨fb,Ψ,rfl,hF,hΨ,hb2⟩;have hrg2:=ao (ag (aa HG1) hb2);have NF:=j9 q wk wt ca ch w2;have HF:=ae hF;have HP:=ae hΨ;have HB2:=ae hb2;clear FN hrg hF hΨ hb2
  go_wp2_with (refine bU 42 #[(q:Int),(wk:Int),(wt:Int),(ca:Int),(ch:Int)] underlying42 rfl (sz23 _ _ _ _ _) w.heap.size 0 hrg2 rfl _ rfl rfl ?_)
  refine NF.mono ?_;rintro r w3 (⟨hc,_⟩|⟨_,rb,sb,rfl,f1,f2,f3,f4,hb3⟩)
  ·exact absurd (aa HC) hc
  obtain⟨e,hd,hnew,hfb,hrb⟩:=desk_new (w:=w1) n (by omega) (by omega) (by omega) (by omega) (by omega) (aa HF) (aa HP) hb3 (aa HB2).size f1 f2 f3 f4
  have hI1:=aa HI1;have hb13:Below w1.heap.size w1 w3:=(aa HB2).trans (hb3.mono (aa HB2).size);have hI3:=hI1.on hb13;obtain⟨sa,sk,hfv⟩:=hI3.fr.slice
  have c1:w3.cell? ⟨wb,1,none⟩=some (.slice sa E.length sk):=by
   have:=(af hI3.blk 1).trans (show _=some fv from rfl);rw[this,hfv,List.length_map]
  obtain⟨x,w4,r1,r2,r3,r4⟩:=ap35 (hI3.fr.on (bu.alloc aD (.cells #[.pointer (some ⟨fb,0,none⟩),.pointer (some ⟨rb,0,none⟩)] 59))) (aZ rTwo 59 w3 ⟨fb,rb⟩ #[.pointer (some ⟨fb,0,none⟩),.pointer (some ⟨rb,0,none⟩)] rfl) (by simp; omega)
  obtain⟨xa,xn,xc,rfl⟩:=r2.slc
  have b4:w4.heap[wb]?=some (.cells #[sv,fv,.pointer (some ⟨ob,0,none⟩)] 37):=by
   rw[r3.block _ (by have:=an hI3.blk; simp; omega) (fun q=>by obtain⟨c1,e1⟩:=hI3.fr.ty q.symm; exact aI e1 hI3.blk (by decide) rfl),heap_alloc_old _ _ (an hI3.blk)]
   exact hI3.blk
  have c4:=(af b4 1).trans (show _=some fv from rfl);rw[hfv,List.length_map] at c4;have fz:=bi b4 1
  have HQ:Hid (ni w0 (w4.setCell ⟨wb,1,none⟩ (.slice xa xn xc)) wb ob (n+1)):=by
   obtain⟨c',hW⟩:=hI1.openE hb13 hd hnew (by rw[show mO e=⟨fb,rb⟩ by unfold mO; rw[hfb,hrb]]; exact r2) r3 (by
    rcases r4 with r4|r4
    ·exact Or.inl r4
    exact Or.inr fun g hg=>by have q1:=r4 g hg; simp at q1; omega)
   have hl:=aa HL
   have:=hl.d; have:=hl.i; have:=hl.f; have:=hl.r; have:=hl.g; have:=hl.es
   exact⟨sv,_,D,E++[e],O,c',hW.more,⟨by omega,by simp; omega,by omega,by omega,by omega,by omega,by omega⟩⟩
  rw[hfv,List.length_map] at r1
  have hp:¬fb=rb:=fun z=>by
   subst z;have hx:=hd.x.blk;rw[hfb] at hx
   exact aI hx f1 (by decide) rfl
  clear hd hnew hfb hrb hI1 hb13 hI3 hfv r2 r3 r4 b4 f1 f2 f3 f4 hb3 NF hrg2 HF HP HB2
  go_wp2_with (first|refine cP _ _ (run_b59 fb rb _ _ _ _ rfl rfl rfl _) rfl ?_|refine cP _ _ (bs59 fb rb _ _ _ rfl rfl _) rfl ?_|(at_builtin; refine fS 35 r1 rfl _ _ rfl rfl rfl rfl ?_))
  go_ret;exact⟨rfl,aa HQ⟩
 have FN:=front_no q wk wt ca ch w1 hc;have HC:=ae hc;have HH:=ae (h.on hb1).more;clear hw1 hg1 h hc;go_enter func11,ntmps11
 go_wp2_with (refine bU 42 #[q,wk,wt,ca,ch] underlying42 rfl (sz23 _ _ _ _ _) w.heap.size 0 hrg rfl _ rfl rfl ?_)
 rw[aa HW1];refine FN.mono ?_;rintro r w2 ⟨rfl,hb2⟩;have hrg2:=ao (ag (aa HG1) hb2);have NF:=j9 q wk wt ca ch w2;have HB2:=ae hb2;clear FN hrg hb2
 go_wp2_with (refine bU 42 #[q,wk,wt,ca,ch] underlying42 rfl (sz23 _ _ _ _ _) w.heap.size 0 hrg2 rfl _ rfl rfl ?_)
 refine NF.mono ?_;rintro r w3 (⟨_,rfl,hb3⟩|⟨hc,_⟩)
 ·have HQ:=ae ((aa HH).on ((aa HB2).trans (hb3.mono (aa HB2).size)))
  clear NF hb3 hrg2
  go_wp2_with fail
  go_ret;exact⟨rfl,aa HQ⟩
 exact absurd hc (aa HC)
end
theorem pick_any (c n:Int)(w:World)(hc:-9223372036854775808<=c/\c<=9223372036854775807)(hn:0<n/\n<=9223372036854775807):
  Calls prog 13 #[c,n] w fun e w'=>e=.returned (.int .i64 (pk c n))/\w=w':=by
 by_cases h:c<0
 ·have H:Hid (pk c n=(-(c+1))%n):=by show pk c n=_; simp[pk,h]
  go_enter func13,ntmps13
  go_wp2
  go_ret;refine⟨aB ?_,rfl⟩
  rw[aa H,<-Int.neg_tmod,Int.tmod_eq_emod_of_nonneg (by omega)]
 have H:Hid (pk c n=c%n):=by show pk c n=_; simp[pk,h]
 go_enter func13,ntmps13
 go_wp2
 go_ret;refine⟨aB ?_,rfl⟩;rw[aa H]
structure OpOk (w0:World)(o:iH)(b:bK):Prop where
 bat:bL rE w0 o.bat b
 len:b.length<=10000000
 on:-9223372036854775808<=o.on/\o.on<=9223372036854775807
section
variable {w0 w:World}{wb ob n:Nat}{sv:Value}{D:List DV}{O:OL}{c:Nat->Nat}{o:iH}{b:bK}
theorem run_ldR (ty:TypeId)(cs:Array Value){dd:TypeDesc}(hu:prog.underlying ty=some dd)(hd:dd.isRow=true)(hi:(prog.info? ty).map (·.size)=some cs.size)(ev:Operand->Value)(o:Oper)(x:Operand)(ho:o.op=.load ty x)(g off:Nat)(hx:ev x=.pointer (some ⟨g,off,none⟩)){w:World}(hr:w.rangeAt g off cs.toList):(execOp ev o).run prog w=.ok (.value (.agg cs)) w:=by
 have h:=run_loadVar_mid w g off ty cs.toList _ hr hu hd (by rw[Array.length_toList]; exact hi)
 unfold execOp;simp only[ho,hx,Instr.loadAt,Instr.sureAddr,Sem.run_bind,Sem.run_pure,Result.andThen_ok,h]
theorem sz44 (o:iH):(prog.info? 44).map (·.size)=some o.v.size:=by kernel_rfl
theorem sz53 (p q:Nat):(prog.info? 53).map (·.size)=some (#[Value.pointer (some ⟨p,0,none⟩),.pointer (some ⟨q,0,none⟩)]:Array Value).size:=by kernel_rfl
theorem t_callW {l:List Oper}{Q:Exit->Act->World->Prop}{S:World->Prop}{listed:Array Bool}{a:Act}{w:World}{fuel:Nat}{o:Oper}{rest:List Oper}(i:Nat)(hd:l.drop i=o::rest)(hw:Region.wanted o (yielded l.toArray a.tmps)=true)(f:FuncId)(args:Array Value)(h0:(execOp a.eval o).run prog w=.ok (.enter f args) w)(v:Value)(R:World->Prop)
  (hc:Calls prog f args w fun e w'=>e=.returned v/\R w') (h:∀w',R w'->S w'/\wpAnyH prog .any l.toArray Q S fuel (listed.setIfInBounds i true) (a.put o.dst v) w') :
  wpOp prog l.toArray Q i (fun a' w'=>S w'/\wpAnyH prog .any l.toArray Q S fuel (listed.setIfInBounds i true) a' w') a w:=by
 unfold wpOp;simp only[gw hd];rw[if_pos hw]
 left
 unfold Oper.wp;rw[h0]
 exact hc.mono fun e w' ⟨e1,e2⟩=>by subst e1; exact h w' e2
end
structure od (w0:World)(o:iH)(b:bK):Prop extends OpOk w0 o b where
 str:o.s.size<=1048576
 txt:o.t.size<=1048576
section
variable {w0 w:World}{wb ob n:Nat}{sv fv:Value}{D:List DV}{E:List EV}{O:OL}{c:Nat->Nat}{o:iH}{b:bK}
theorem WJ.bat (h:WJ w0 w wb ob sv fv D E O n c)(ho:OpOk w0 o b):0<b.length->∀g,o.bat.ownBlock=some g->c g=0:=fun h0 g hg=>by
 obtain⟨oa,cap,e,_,_,hr⟩:=ho.bat;obtain⟨b',off,e',hlt,_⟩:=hr h0;refine h.cb g ?_;rw[e,e'] at hg;cases hg;exact hlt
theorem pw (h:WJ w0 w wb ob sv fv D E O n c)(hl:WL D E O n)(hn:n<=400000)(ho:od w0 o b){i:Nat}{e:EV}(he:E[i]?=some e)(hk:12<=o.kind/\o.kind<=16):
  Calls prog 14 #[.pointer (some ⟨wb,0,none⟩),.agg #[.pointer (some ⟨e.fb,0,none⟩),.pointer (some ⟨e.rb,0,none⟩)],.agg o.v] w fun r w'=>r=.returned (.bool true)/\aE (fun k=>aX e k\/OF ob O k) w w'/\∃E' O' c',WJ w0 w' wb ob sv fv D E' O' (n+1) c'/\WL D E' O' (n+1):=by
 have hc2:w.cell? ⟨wb,2,none⟩=some (.pointer (some ⟨ob,0,none⟩)):=(af h.blk 2).trans rfl;have hr:=hl.r;have hg:=hl.g;have hee:=hl.es
 have hbt:0<b.length->∀g,o.bat.ownBlock=some g->¬aX e g/\¬OF ob O g:=fun h0 g hg=>by
  have:=h.bat ho.toOpOk h0 g hg
  exact⟨fun q=>by have:=h.ce i e g he q; omega,fun q=>by have:=h.co g q; omega⟩
 refine(fronted_any (h.des i e he) h.own (h.dje he) h.o4 hc2 (h.wbe he) h.wbo (an h.blk) (by omega) (by omega) (by omega) hn ho.str b (ho.bat.on h.base) ho.len hbt hk).mono ?_
 rintro r w' ⟨rfl,e',O',hP⟩;obtain⟨c',hW⟩:=h.stepE he hP;exact⟨rfl,hP.frm,_,O',c',hW,hl.stepE hP.ost⟩
theorem sz59E (p q:Nat):(prog.info? 59).map (·.size)=some (#[Value.pointer (some ⟨p,0,none⟩),.pointer (some ⟨q,0,none⟩)]:Array Value).size:=by kernel_rfl
theorem sz42 (a b c d e:Int):(prog.info? 42).map (·.size)=some (#[Value.int .i64 a,b,c,d,e]:Array Value).size:=by kernel_rfl
theorem rng_mid {g off m:Nat}{cs l:List Value}(h:w.rangeAt g off cs)(hl:l=(cs.drop m)):w.rangeAt g (off+m) l:=fun j u hu=>by
 subst hl;rw[List.getElem?_drop] at hu;have:=h (m+j) u hu
 rwa [show off+m+j=off+(m+j) by omega]
theorem fstep_any (h:ni w0 w wb ob n)(hn:n<=400000)(ho:od w0 o b)(hk:11<=o.kind/\o.kind<=16):
  Calls prog 7 #[.pointer (some ⟨wb,0,none⟩),.agg o.v] w fun e w'=>e=.returned (.bool true)/\ni w0 w' wb ob (n+1):=by
 have hA:=heap_alloc_new w (.cells o.v 44);have hb0:=aj w (.cells o.v 44);have k0:=(af hA 0).trans (show _=some (Value.int .i64 o.kind) from rfl);have h1:=h.on hb0
 have hz:(w.alloc (.cells o.v 44)).heap.size=w.heap.size+1:=by simp
 have HOK:=ae ho;clear ho
 have n1:¬o.kind=1:=by omega
 by_cases hk1:o.kind=11
 ·have HO:=ae (begun_any o.f0 o.f1 o.f2 o.f3 o.f4 h1 (by omega))
  have hrg:(w.alloc (.cells o.v 44)).rangeAt w.heap.size (0+12) #[Value.int .i64 o.f0,.int .i64 o.f1,.int .i64 o.f2,.int .i64 o.f3,.int .i64 o.f4].toList:=rng_mid (ao hA) rfl;rw[hk1] at k0;clear h h1 hb0 hk hk1;go_enter func7,ntmps7
  go_wp2_with (refine bU 42 #[o.f0,o.f1,o.f2,o.f3,o.f4] underlying42 rfl (sz42 _ _ _ _ _) w.heap.size 12 hrg rfl _ rfl rfl ?_)
  refine(aa HO).mono ?_;rintro e w2 ⟨rfl,hW⟩;have HW:=ae hW;clear hW
  go_wp2_with fail
  go_ret;exact⟨rfl,aa HW⟩
 obtain⟨sv,fv,D,E,O,c,hI0,hl⟩:=h;have hI:=hI0.on hb0;obtain⟨sa,sk,hfv⟩:=hI.fr.slice;have c0:=(af hI.blk 1).trans (show _=some fv from rfl);rw[hfv,List.length_map] at c0;have n11:¬o.kind=11:=hk1
 have g2:12<=o.kind:=by omega
 have g7:o.kind<=16:=hk.2
 have m2:2<=o.kind:=by omega
 have m7:¬o.kind<=7:=by omega
 by_cases hD0:E.length=0
 ·have HW:Hid (ni w0 (w.alloc (.cells o.v 44)) wb ob (n+1)):=ni.more ⟨sv,fv,D,E,O,c,hI,hl⟩
  rw[hD0] at c0;clear hI hI0 hb0 h1 hfv hl hk hk1 hD0;go_enter func7,ntmps7
  go_wp2_with fail
  go_ret;exact⟨rfl,aa HW⟩
 have hDp:¬((E.length:Nat):Int)=0:=by omega
 have hel:=hl.e;have hon:=(aa HOK).on
 have hpk:=pk_in o.on (n:=((E.length:Nat):Int)) (by omega)
 obtain⟨i,hi⟩:∃i:Nat,pk o.on ((E.length:Nat):Int)=i:=⟨(pk o.on ((E.length:Nat):Int)).toNat,by omega⟩
 have hiD:i<E.length:=by omega
 have hiN:(i:Int)<E.length:=by omega
 obtain⟨d,hd⟩:∃d,E[i]?=some d:=⟨_,List.getElem?_eq_getElem hiD⟩;obtain⟨ta,tc,te,_,_,hr⟩:=hI.fr.at;rw[List.length_map] at te hr;rw[hfv,List.length_map] at te;cases te
 obtain⟨tb,tf,rfl,htl,hrr⟩:=hr (by omega)
 have hrow:(w.alloc (.cells o.v 44)).rangeAt tb (tf+i*2) #[Value.pointer (some ⟨d.fb,0,none⟩),.pointer (some ⟨d.rb,0,none⟩)].toList:=hrr i (mO d) (by rw[List.getElem?_map,hd]; rfl)
 have hcb:c tb=1:=hI.cf tb (by rw[hfv]; rfl)
 have PK:=fun W=>pick_any o.on ((E.length:Nat):Int) W hon (by omega)
 rw[hi] at PK;have HPK:=ae PK;have HI:=ae hI;have HROW:=ae hrow;have HA:=ae hA;have HI0:=ae hI0;clear hr hrr PK hpk hi hrow hA hI hI0 hb0 h1 hk hk1;go_enter func7,ntmps7
 go_wp2_with fail
 refine wp_region_held (S:=fun w'=>w'.heap[wb]?=some (.cells #[sv,fv,.pointer (some ⟨ob,0,none⟩)] 37)/\w'.heap[w.heap.size]?=some (.cells o.v 44)/\w'.heap[tb]?=(w.alloc (.cells o.v 44)).heap[tb]?) (by kernel_rfl) ?_
 change wpAnyH _ _ _ _ _ _ _ _ (World.drew _);have hS:(World.drew (w.alloc (.cells o.v 44))).heap[wb]?=some (.cells #[sv,fv,.pointer (some ⟨ob,0,none⟩)] 37)/\(World.drew (w.alloc (.cells o.v 44))).heap[w.heap.size]?=some (.cells o.v 44)/\(World.drew (w.alloc (.cells o.v 44))).heap[tb]?=(w.alloc (.cells o.v 44)).heap[tb]?:=⟨(aa HI).blk,aa HA,rfl⟩;have hbD:Below (w.alloc (.cells o.v 44)).heap.size (w.alloc (.cells o.v 44)) (World.drew (w.alloc (.cells o.v 44))):=Below.drew bu;have hI2:=(aa HI).on hbD;generalize World.drew (w.alloc (.cells o.v 44))=w2 at hS hbD hI2 ⊢;have ST:=pw hI2 hl hn (aa HOK) hd ⟨g2,g7⟩;have HI2:=ae hI2
 have SV:∀W:World,W.heap[wb]?=some (.cells #[sv,fv,.pointer (some ⟨ob,0,none⟩)] 37)->W.cell? ⟨wb,1,none⟩=some (.slice (some ⟨tb,tf,none⟩) E.length sk):=fun W hW=>by rw[af hW 1]; show some fv=_; rw[hfv,List.length_map]
 have ON:∀W:World,W.heap[w.heap.size]?=some (.cells o.v 44)->W.cell? ⟨w.heap.size,1,none⟩=some (.int .i64 o.on):=fun W hW=>(af hW 1).trans rfl
 have RW:∀W:World,W.heap[tb]?=(w.alloc (.cells o.v 44)).heap[tb]?->W.rangeAt tb (tf+i*2) #[Value.pointer (some ⟨d.fb,0,none⟩),.pointer (some ⟨d.rb,0,none⟩)].toList:=fun W hW j u hu=>by
  rw[World.cell?_of_block (a:=⟨tb,tf+i*2+j,none⟩) hW]; exact aa HROW j u hu
 clear hfv hI2;refine am 0 rfl wb 0 hS ?_;refine am 1 rfl wb 0 hS ?_;refine am 2 rfl wb 0 hS ?_;refine am 3 rfl wb 1 hS ?_
 refine aH 4 rfl (.slice (some ⟨tb,tf,none⟩) E.length sk) hS ?_ (hy:=fun w' hw'=>by simp[go_sem,SV w' hw'.1])
 refine am 5 rfl w.heap.size 1 hS ?_
 refine aH 6 rfl (.int .i64 o.on) hS ?_ (hy:=fun w' hw'=>by simp[go_sem,ON w' hw'.2.1])
 refine am 7 rfl wb 0 hS ?_;refine am 8 rfl wb 0 hS ?_;refine am 9 rfl wb 1 hS ?_
 refine aH 10 rfl (.slice (some ⟨tb,tf,none⟩) E.length sk) hS ?_ (hy:=fun w' hw'=>by simp[go_sem,SV w' hw'.1])
 refine aH 11 rfl (.int .i64 (E.length:Nat)) hS ?_;refine aH 15 rfl (.agg o.v) hS ?_ (hy:=fun w' hw'=>run_ldR 44 o.v underlying44 rfl (sz44 o) _ _ _ rfl w.heap.size 0 rfl (ao hw'.2.1));refine aV 12 ?_
 refine ow 12 rfl rfl 13 #[o.on,.int .i64 (E.length:Nat)] (by simp[go_sem]) (.int .i64 i) (aa HPK w2) hS ?_
 simp only[qZ]
 refine am 13 rfl tb (tf+i*2) hS ?_ (hy:=fun w' hw'=>by simp[go_sem,hiN])
 refine aH 14 rfl (.agg #[.pointer (some ⟨d.fb,0,none⟩),.pointer (some ⟨d.rb,0,none⟩)]) hS ?_ (hy:=fun w' hw'=>run_ldR 59 #[.pointer (some ⟨d.fb,0,none⟩),.pointer (some ⟨d.rb,0,none⟩)] underlying59 rfl (sz59E _ _) _ _ _ rfl tb (tf+i*2) rfl (RW w' hw'.2.2));refine aV 16 ?_
 refine t_callW 16 rfl rfl 14 #[.pointer (some ⟨wb,0,none⟩),.agg #[.pointer (some ⟨d.fb,0,none⟩),.pointer (some ⟨d.rb,0,none⟩)],.agg o.v] (by simp[go_sem]) (.bool true) _ ST ?_
 rintro w3 ⟨hF3,E',O',c',hW3,hl3⟩;have hsz:=hbD.size
 have nf:∀k,c k=1->¬(aX d k\/OF ob O k):=fun k hk q=>by
  rcases q with q|q
  ·have:=(aa HI2).ce i d k hd q; omega
  have:=(aa HI2).co k q; omega
 have nw:¬(aX d w.heap.size\/OF ob O w.heap.size):=fun q=>by
  rcases q with q|q
  ·have:=((aa HI0).des i d hd).lt q; omega
  have:=bA.lt (aa HI0).own q; omega
 have hS3:w3.heap[wb]?=some (.cells #[sv,fv,.pointer (some ⟨ob,0,none⟩)] 37)/\w3.heap[w.heap.size]?=some (.cells o.v 44)/\w3.heap[tb]?=(w.alloc (.cells o.v 44)).heap[tb]?:=⟨hW3.blk,aQ hS.2.1 hF3 nw,(hF3.block tb (by omega) (nf tb hcb)).trans hS.2.2⟩
 refine⟨hS3,?_⟩;simp only[qZ];refine aH 17 rfl (.bool true) hS3 ?_
 refine wpAnyH_done (by kernel_rfl) ?_ _
 have HW3:Hid (ni w0 w3 wb ob (n+1)):=⟨sv,fv,D,E',O',c',hW3,hl3⟩;clear hS hS3 hF3 hW3 hl3 nf nw ST SV ON RW hbD
 go_wp2_with fail
 go_ret;exact⟨rfl,aa HW3⟩
end
theorem built33:prog.built 33 []=some #[.slice none 0 0,.slice none 0 0,.slice none 0 0,.slice none 0 0,.slice none 0 0]:=by kernel_rfl
theorem built37 (p:Nat):prog.built 37 [(2,.pointer (some ⟨p,0,none⟩))]=some #[.slice none 0 0,.slice none 0 0,.pointer (some ⟨p,0,none⟩)]:=by kernel_rfl
theorem run_b33 (A:Act)(o:Oper)(ho:o.op=.build 33 #[])(w:World):(execOp A.eval o).run prog w=.ok (.value (.agg #[.slice none 0 0,.slice none 0 0,.slice none 0 0,.slice none 0 0,.slice none 0 0])) w:=by
 have hb:=run_build (P:=prog) w 33 #[] _ built33;unfold execOp;simp[ho,hb]
theorem run_b37 (p:Nat)(A:Act)(o:Oper)(x:Operand)(ho:o.op=.build 37 #[(2,x)])(hx:A.eval x=.pointer (some ⟨p,0,none⟩))(w:World):(execOp A.eval o).run prog w=.ok (.value (.agg #[.slice none 0 0,.slice none 0 0,.pointer (some ⟨p,0,none⟩)])) w:=by
 have hb:=run_build (P:=prog) w 37 #[(2,.pointer (some ⟨p,0,none⟩))] _ (built37 p);unfold execOp;simp[ho,hx,hb]
theorem sl104 (ev:Operand->Value)(o:Oper)(x lo hi:Operand)(b off n cap t:Nat)(ho:o.op=.slice 104 x (some lo) (some hi) none)(hx:ev x=.slice (some ⟨b,off,none⟩) n cap)(h1:ev lo=.int .i64 t)(h2:ev hi=.int .i64 ((t:Int)+1))(ht:t<n)(hc:n<=cap)(W:World):(execOp ev o).run prog W=.ok (.value (.slice (some ⟨b,off+t*8,none⟩) 1 (cap-t))) W:=by
 unfold execOp;simp only[ho,Option.map_some,Option.map_none,hx,h1,h2]
 have c2:(t:Int)+1<=cap:=by omega
 have c3:¬cap=t:=by omega
 simp[go_sem,c2,c3]
 try omega
theorem rngSl {W:World}{b off:Nat}{l:List cA}(h:∀i a,l[i]?=some a->W.rangeAt b (off+i*cq.wid) (cq.enc a)){k:Nat}{s:cA}(hs:l[k]?=some s):W.cell? ⟨b,off+k,none⟩=some s.v:=by
 have:=h k s hs 0 s.v rfl
 rwa [show cq.wid=1 from rfl,Nat.mul_one,Nat.add_zero] at this
section
variable {w:World}{ob:Nat}{V:OV}{IS FS RS GS ES:List cA}
theorem more_all (h:bA w ob V IS FS RS GS ES)(hlr:RS.length<=10000000)(hlg:GS.length<=10000000)(hl:ES.length<=10000000):
  Calls prog 18 #[.pointer (some ⟨ob,0,none⟩)] w fun e w'=>e=.returned (.bool true)/\Below w.heap.size w w':=by
 obtain⟨ra,rk,hrv⟩:=h.r.slice;obtain⟨ga,gk,hgv⟩:=h.g.slice;obtain⟨ea,ek,hev⟩:=h.e.slice
 have HC2:=ae (show w.cell? ⟨ob,2,none⟩=some (.slice ra RS.length rk) by rw[h.cells 2]; show some V.rv=_; rw[hrv])
 have HC3:=ae (show w.cell? ⟨ob,3,none⟩=some (.slice ga GS.length gk) by rw[h.cells 3]; show some V.gv=_; rw[hgv])
 have HC4:=ae (show w.cell? ⟨ob,4,none⟩=some (.slice ea ES.length ek) by rw[h.cells 4]; show some V.ev=_; rw[hev])
 have hob:=an h.blk;have HI:=ae h;have HRV:=ae hrv;have HGV:=ae hgv;have HEV:=ae hev;clear h hrv hgv hev;go_enter func18,ntmps18
 go_wp2_with fail
 go_loopw [3,4,5] (fun i _ _ wr=>∃k:Nat,k<=RS.length/\i=.int .i64 k/\Hid (Below w.heap.size w wr)) (fun i _ _ _=>RS.length-(intOf i).toNat)
 case atStart=>exact⟨0,by omega,rfl,ae bu⟩
 case round=>
  obtain⟨k,hk,rfl,hb⟩:=hrel;have r2:=((aa hb).cell (p:=⟨ob,2,none⟩) hob).trans (aa HC2)
  by_cases hlt:k<RS.length
  ·have hkn:(k:Int)<RS.length:=by omega
   obtain⟨⟨sa,sn,sc⟩,hs⟩:∃s,RS[k]?=some s:=⟨_,List.getElem?_eq_getElem hlt⟩;obtain⟨oa,cap,e,_,_,hr⟩:=(aa HI).r.at;rw[aa HRV] at e;cases e
   obtain⟨b,off,rfl,hbl,hr0⟩:=hr (by omega)
   have hcs:=(rngSl hr0 hs).trans (show _=some (Value.slice sa sn sc) from rfl);have hO:=show ah bE 103 _ (.slice sa sn sc) (List.replicate sn (owR k)) from((aa HI).rl k _ hs);obtain⟨oa2,cap2,e2,_,hm2,hr2⟩:=hO.at;rw[List.length_replicate] at e2 hm2 hr2;cases e2;have HR2:=ae hr2;have HRS:=ae (((aa hb).cell (p:=⟨b,off+k,none⟩) hbl).trans hcs);have rs:=aa HRS
   have hm3:(sn:Int)<=9223372036854775807:=by unfold maxLen at hm2; omega
   have HR0:=ae r2;have hl1:=(aa hb).size;obtain⟨wB,rfl⟩:∃wB:World,wB=wr:=⟨_,rfl⟩;clear hr hr0 hcs hO hr2 hm2
   go_wp2_with fail
   clear r2 rs
   go_loopw [4,5] (fun i _ w3=>∃t:Nat,t<=sn/\i=.int .i64 t/\Hid (Below wB.heap.size wB w3)) (fun i _ _=>sn-(intOf i).toNat)
   case atStart=>exact⟨0,by omega,rfl,ae bu⟩
   case round=>
    obtain⟨t,ht,rfl,hb3⟩:=hrel
    have q2:=((aa hb3).cell (p:=⟨ob,2,none⟩) (by show ob<_; omega)).trans (aa HR0)
    have qs:=((aa hb3).cell (p:=⟨b,off+k,none⟩) (by show b<_; omega)).trans (aa HRS)
    by_cases htl:t<sn
    ·have htn:(t:Int)<sn:=by omega
     obtain⟨b2,off2,rfl,hb2,hr5⟩:=aa HR2 (by omega)
     have hb4:=(aa hb).trans ((aa hb3).mono (aa hb).size)
     have hrow:wr.rangeAt b2 (off2+t*4) #[.int .i64 (ei k),.int .i64 0,.string ⟨#[]⟩,.string ⟨#[]⟩].toList:=fun j u hu=>(hb4.cell (p:=⟨b2,off2+t*4+j,none⟩) hb2).trans (hr5 t (owR k) (by rw[List.getElem?_replicate,if_pos htl]) j u hu)
     obtain⟨wA,hwA⟩:∃wA,wr.alloc (.cells #[.int .i64 (ei k),(),.string ⟨#[]⟩,.string ⟨#[]⟩] 103)=wA:=⟨_,rfl⟩;have hbA:Below wr.heap.size wr wA:=hwA▸aj wr (.cells #[.int .i64 (ei k),(),.string ⟨#[]⟩,.string ⟨#[]⟩] 103);have hgA:wA.heap[wr.heap.size]?=some (.cells #[.int .i64 (ei k),(),.string ⟨#[]⟩,.string ⟨#[]⟩] 103):=hwA▸heap_alloc_new wr (.cells #[.int .i64 (ei k),(),.string ⟨#[]⟩,.string ⟨#[]⟩] 103);have e0:wA.cell? ⟨wr.heap.size,0,none⟩=some (.int .i64 (ei k)):=(af hgA 0).trans rfl;have e1:wA.cell? ⟨wr.heap.size,1,none⟩=some (.int .i64 0):=(af hgA 1).trans rfl;have e2:wA.cell? ⟨wr.heap.size,2,none⟩=some (.string ⟨#[]⟩):=(af hgA 2).trans rfl;have e3:wA.cell? ⟨wr.heap.size,3,none⟩=some (.string ⟨#[]⟩):=(af hgA 3).trans rfl;have HBA:=ae ((aa hb3).trans (hbA.mono (aa hb3).size));have HWA:=ae hwA
     have OW:=ae (fun W=>eC k W (by omega))
     have b1:(ei k != ei k)=false:=by simp
     clear hr5 hb4 hbA hgA hwA
     go_wp2_with (refine bU 103 #[.int .i64 (ei k),(),.string ⟨#[]⟩,.string ⟨#[]⟩] underlying103 rfl (ki _ _ _ _) b2 (off2+t*4) hrow rfl _ rfl rfl ?_)
     rw[aa HWA];clear q2 qs hrow
     go_quiet (exact(aa OW _).mono fun e w' h=>⟨h.1,_,h.2.symm⟩)
     have HB6:=ae ((aa HBA).trans ((ap (Below.refl wA.heap.size wA) nq).mono (aa HBA).size))
     go_wp2_with fail
     go_roundw
     case rel=>exact⟨t+1,by omega,by go_num,HB6⟩
     case measure=>simp[intOf]; omega
    have htn:t=sn:=by omega
    subst htn;have HB7:=ae ((aa hb).trans ((aa hb3).mono (aa hb).size))
    go_wp2_with fail
    go_roundw
    case rel=>exact⟨k+1,by omega,by go_num,HB7⟩
    case measure=>simp[intOf]; omega
  have hkn:k=RS.length:=by omega
  subst hkn
  have hkn:¬((RS.length:Int)<RS.length):=by omega
  obtain⟨wB,rfl⟩:∃wB:World,wB=wr:=⟨_,rfl⟩
  go_wp2_with fail
  clear r2
  go_loopw [6,7,8] (fun i _ _ wr=>∃k:Nat,k<=GS.length/\i=.int .i64 k/\Hid (Below w.heap.size w wr)) (fun i _ _ _=>GS.length-(intOf i).toNat)
  case atStart=>exact⟨0,by omega,rfl,hb⟩
  case round=>
   obtain⟨k,hk,rfl,hb⟩:=hrel;have r3:=((aa hb).cell (p:=⟨ob,3,none⟩) hob).trans (aa HC3)
   by_cases hlt:k<GS.length
   ·have hkn:(k:Int)<GS.length:=by omega
    obtain⟨⟨sa,sn,sc⟩,hs⟩:∃s,GS[k]?=some s:=⟨_,List.getElem?_eq_getElem hlt⟩;obtain⟨oa,cap,e,_,_,hr⟩:=(aa HI).g.at;rw[aa HGV] at e;cases e
    obtain⟨b,off,rfl,hbl,hr0⟩:=hr (by omega)
    have hcs:=(rngSl hr0 hs).trans (show _=some (Value.slice sa sn sc) from rfl);have hO:=show ah bC 107 _ (.slice sa sn sc) (List.replicate sn (owG k)) from((aa HI).gl k _ hs);obtain⟨oa2,cap2,e2,hsc,hm2,hr2⟩:=hO.at;rw[List.length_replicate] at e2 hm2 hr2 hsc;cases e2;have HR2:=ae hr2;have HRS:=ae (((aa hb).cell (p:=⟨b,off+k,none⟩) hbl).trans hcs);have rs:=aa HRS
    have hm3:(sn:Int)<=9223372036854775807:=by unfold maxLen at hm2; omega
    have HR0:=ae r3;have hl1:=(aa hb).size;obtain⟨wC,rfl⟩:∃wC:World,wC=wr:=⟨_,rfl⟩;clear hr hr0 hcs hO hr2 hm2
    go_wp2_with fail
    clear r3 rs
    go_loopw [7,8] (fun i _ w3=>∃t:Nat,t<=sn/\i=.int .i64 t/\Hid (Below wC.heap.size wC w3)) (fun i _ _=>sn-(intOf i).toNat)
    case atStart=>exact⟨0,by omega,rfl,ae bu⟩
    case round=>
     obtain⟨t,ht,rfl,hb3⟩:=hrel
     have q3:=((aa hb3).cell (p:=⟨ob,3,none⟩) (by show ob<_; omega)).trans (aa HR0)
     have qs:=((aa hb3).cell (p:=⟨b,off+k,none⟩) (by show b<_; omega)).trans (aa HRS)
     by_cases htl:t<sn
     ·have htn:(t:Int)<sn:=by omega
      obtain⟨b2,off2,rfl,hb2,hr5⟩:=aa HR2 (by omega)
      have ht1:IntKind.i64.wrap ((t:Int)+1)=(t:Int)+1:=bG _ (by omega)
      have hb4:=(aa hb).trans ((aa hb3).mono (aa hb).size);obtain⟨w6,hw6⟩:∃w6,World.drew wr=w6:=⟨_,rfl⟩;have hb6:Below wr.heap.size wr w6:=hw6▸Below.drew bu;obtain⟨w6A,hw6A⟩:∃w6A,w6.alloc (.cells #[(),(),(),(),.int .i64 (ei k),(),(),()] 107)=w6A:=⟨_,rfl⟩;have hbA:Below w6.heap.size w6 w6A:=hw6A▸aj w6 (.cells #[(),(),(),(),.int .i64 (ei k),(),(),()] 107);have hb3A:Below wr.heap.size wr w6A:=hb6.trans (hbA.mono hb6.size);have hb4A:Below w.heap.size w w6A:=hb4.trans (hb3A.mono hb4.size);have hl3:=(aa hb3).size;have hl6:=hb6.size;have hlA:=hbA.size;have hl0:=(aa hb).size
      have hS:w6.cell? ⟨ob,3,none⟩=some (.slice (some ⟨b,off,none⟩) GS.length gk)/\w6.cell? ⟨b,off+k,none⟩=some (.slice (some ⟨b2,off2,none⟩) sn sc):=⟨(hb6.cell (p:=⟨ob,3,none⟩) (by show ob<_; omega)).trans q3,(hb6.cell (p:=⟨b,off+k,none⟩) (by show b<_; omega)).trans qs⟩
      have hSA:w6A.cell? ⟨ob,3,none⟩=some (.slice (some ⟨b,off,none⟩) GS.length gk)/\w6A.cell? ⟨b,off+k,none⟩=some (.slice (some ⟨b2,off2,none⟩) sn sc):=⟨(hbA.cell (p:=⟨ob,3,none⟩) (by show ob<_; omega)).trans hS.1,(hbA.cell (p:=⟨b,off+k,none⟩) (by show b<_; omega)).trans hS.2⟩
      have hv:bL bC w6A (.slice (some ⟨b2,off2+t*8,none⟩) 1 (sc-t)) [owG k]:=⟨_,_,rfl,by simp; omega,by unfold maxLen; simp,fun _=>⟨b2,off2+t*8,rfl,Nat.lt_of_lt_of_le hb2 hb4A.size,fun i a hi=>by
       have hi0:i=0/\a=owG k:=by
        cases i with
        | zero=>simp at hi; exact⟨rfl,hi.symm⟩
        | succ i=>simp at hi
       obtain⟨rfl,rfl⟩:=hi0;rw[Nat.zero_mul,Nat.add_zero]
       exact fun j u hu=>(hb4A.cell (p:=⟨b2,off2+t*8+j,none⟩) hb2).trans (hr5 t (owG k) (by rw[List.getElem?_replicate,if_pos htl]) j u hu)⟩⟩
      have hu:bL bC w6A (.slice (some ⟨w6.heap.size,0,none⟩) 1 1) [owG k]:=hw6A▸aZ bC 107 w6 (owG k) #[(),(),(),(),.int .i64 (ei k),(),(),()] rfl;have SFL:=gQ hv hu;have HB3A:=ae ((aa hb3).trans (hb3A.mono (aa hb3).size));clear hr5 hb4 hb6 hbA hb3A hb4A hv hu
      go_wp2_with fail
      refine wp_region_held (S:=fun w'=>w'.cell? ⟨ob,3,none⟩=some (.slice (some ⟨b,off,none⟩) GS.length gk)/\w'.cell? ⟨b,off+k,none⟩=some (.slice (some ⟨b2,off2,none⟩) sn sc)) (by kernel_rfl) ?_
      change wpAnyH _ _ _ _ _ _ _ _ (World.drew _);rw[hw6];refine am 0 rfl ob 0 hS ?_;refine am 1 rfl ob 0 hS ?_;refine am 2 rfl ob 3 hS ?_
      refine aH 3 rfl (.slice (some ⟨b,off,none⟩) GS.length gk) hS ?_ (hy:=fun w' hw'=>by simp[go_sem,hw'.1])
      refine aH 4 rfl (.int .i64 k) hS ?_
      refine am 5 rfl b (off+k) hS ?_ (hy:=fun w' hw'=>by simp[go_sem,hkn])
      refine aH 6 rfl (.slice (some ⟨b2,off2,none⟩) sn sc) hS ?_ (hy:=fun w' hw'=>by simp[go_sem,hw'.2])
      refine aH 7 rfl (.int .i64 t) hS ?_;refine aH 8 rfl (.int .i64 t) hS ?_
      refine aH 9 rfl (.int .i64 ((t:Int)+1)) hS ?_ (hy:=fun w' hw'=>by simp[go_sem,ht1])
      refine aH 10 rfl (.slice (some ⟨b2,off2+t*8,none⟩) 1 (sc-t)) hS ?_ (hy:=fun w' hw'=>sl104 _ _ _ _ _ b2 off2 sn sc t rfl rfl rfl rfl htl hsc w');refine aH 11 rfl (.int .i64 k) hS ?_
      refine wpAnyH_all (rs:=[12]) (by kernel_rfl) (by simp) ?_
      intro ii hii;simp only[List.mem_singleton] at hii;subst hii
      refine ow 12 rfl rfl 16 #[k] (by simp[go_sem]) (.int .i64 (ei k)) (eC k w6 (by omega)) hS ?_
      simp only[qZ];refine aH 13 rfl (.agg #[(),(),(),(),.int .i64 (ei k),(),(),()]) hS ?_ (hy:=fun w' hw'=>run_bG k _ _ _ rfl rfl w')
      refine wpAnyH_all (rs:=[14]) (by kernel_rfl) (by simp) ?_
      intro ii hii;simp only[List.mem_singleton] at hii;subst hii
      refine bI 14 rfl rfl (.slice (some ⟨w6.heap.size,0,none⟩) 1 1) (w6A) (by rw[<-hw6A]; exact ms 0 0 0 0 (ei k) 0 0 0 _ _ _ rfl rfl w6) (hSA) ?_
      simp only[qZ]
      refine wpAnyH_all (rs:=[15]) (by kernel_rfl) (by simp) ?_
      intro ii hii;simp only[List.mem_singleton] at hii;subst hii
      refine t_callW 15 rfl rfl 54 #[.slice (some ⟨b2,off2+t*8,none⟩) 1 (sc-t),.slice (some ⟨w6.heap.size,0,none⟩) 1 1] (by simp[go_sem]) (.bool true) _ SFL ?_
      rintro w7 hb7
      have hS7:w7.cell? ⟨ob,3,none⟩=some (.slice (some ⟨b,off,none⟩) GS.length gk)/\w7.cell? ⟨b,off+k,none⟩=some (.slice (some ⟨b2,off2,none⟩) sn sc):=⟨(hb7.cell (p:=⟨ob,3,none⟩) (by show ob<_; omega)).trans hSA.1,(hb7.cell (p:=⟨b,off+k,none⟩) (by show b<_; omega)).trans hSA.2⟩
      refine⟨hS7,?_⟩;simp only[qZ];refine aH 16 rfl (.bool true) hS7 ?_
      refine wpAnyH_done (by kernel_rfl) ?_ _
      have HB6:=ae ((aa HB3A).trans (hb7.mono (aa HB3A).size));clear hS hSA SFL q3 qs hw6 hw6A hS7 hb7
      go_wp2_with fail
      go_roundw
      case rel=>exact⟨t+1,by omega,by go_num,HB6⟩
      case measure=>simp[intOf]; omega
     have htn:t=sn:=by omega
     subst htn;have HB7:=ae ((aa hb).trans ((aa hb3).mono (aa hb).size))
     go_wp2_with fail
     go_roundw
     case rel=>exact⟨k+1,by omega,by go_num,HB7⟩
     case measure=>simp[intOf]; omega
   have hkn:k=GS.length:=by omega
   subst hkn
   have hkn:¬((GS.length:Int)<GS.length):=by omega
   obtain⟨wD,rfl⟩:∃wD:World,wD=wr:=⟨_,rfl⟩;have hbD:=hb
   go_wp2_with fail
   clear r3
   go_loopw [9,10,11] (fun i _ _ w2=>∃k:Nat,k<=ES.length/\i=.int .i64 k/\Hid (Below w.heap.size w w2)) (fun i _ _ _=>ES.length-(intOf i).toNat)
   case atStart=>exact⟨0,by omega,rfl,hbD⟩
   case round=>
    obtain⟨k,hk,rfl,hb⟩:=hrel;have r4:=((aa hb).cell (p:=⟨ob,4,none⟩) hob).trans (aa HC4)
    by_cases hlt:k<ES.length
    ·have hkn:(k:Int)<ES.length:=by omega
     obtain⟨⟨sa,sn,sc⟩,hs⟩:∃s,ES[k]?=some s:=⟨_,List.getElem?_eq_getElem hlt⟩;obtain⟨oa,cap,e,_,_,hr⟩:=(aa HI).e.at;rw[aa HEV] at e;cases e
     obtain⟨b,off,rfl,hbl,hr0⟩:=hr (by omega)
     have hcs:=(rngS hr0 hs).trans (show _=some (Value.slice sa sn sc) from rfl);have hO:=show ah rE 100 _ (.slice sa sn sc) (List.replicate sn (owE k)) from((aa HI).el k _ hs);obtain⟨oa2,cap2,e2,_,hm2,hr2⟩:=hO.at;rw[List.length_replicate] at e2 hm2 hr2;cases e2;have HCS:=ae hcs;have HR2:=ae hr2;have rs:=((aa hb).cell (p:=⟨b,off+k,none⟩) hbl).trans hcs
     have hm3:(sn:Int)<=9223372036854775807:=by unfold maxLen at hm2; omega
     have HR4:=ae r4;have HRS:=ae rs;have hl1:=(aa hb).size;clear hr hr0 hcs hO hr2 hm2
     go_wp2_with fail
     clear r4 rs
     go_loopw [10,11] (fun i _ w3=>∃t:Nat,t<=sn/\i=.int .i64 t/\Hid (Below wr.heap.size wr w3)) (fun i _ _=>sn-(intOf i).toNat)
     case atStart=>exact⟨0,by omega,rfl,ae bu⟩
     case round=>
      obtain⟨t,ht,rfl,hb3⟩:=hrel
      have q4:=((aa hb3).cell (p:=⟨ob,4,none⟩) (by show ob<_; omega)).trans (aa HR4)
      have qs:=((aa hb3).cell (p:=⟨b,off+k,none⟩) (by show b<_; omega)).trans (aa HRS)
      by_cases htl:t<sn
      ·have htn:(t:Int)<sn:=by omega
       obtain⟨b2,off2,rfl,hb2,hr5⟩:=aa HR2 (by omega)
       have hb4:=(aa hb).trans ((aa hb3).mono (aa hb).size)
       have hrow:=rngE hr5 (k:=t) (by rw[List.length_replicate]; exact htl)
       rw[gf_rep htl] at hrow
       have hrgW:∀W,Below wr.heap.size wr W->W.rangeAt b2 (off2+t*25+1) (fc zf).toList:=fun W hW j u hu=>by
        rw[<-eF_owE k] at hu
        have hj:j<24:=by have:=(List.getElem?_eq_some_iff.1 hu).1; rw[Array.length_toList,dX] at this; exact this
        rw[Array.getElem?_toList,aN _ _ hj] at hu;cases hu
        have:=((hb4.trans (hW.mono hb4.size)).cell (p:=⟨b2,off2+t*25+(1+j),none⟩) hb2).trans (pF hrow (1+j) (by omega))
        rw[Nat.add_assoc (off2+t*25)];exact this
       have hrg:=hrgW wr bu
       have HOP:=ae (fun W (hW:Below wr.heap.size wr W)=>((hb4.trans (hW.mono hb4.size)).cell (p:=⟨b2,off2+t*25+0,none⟩) hb2).trans (pF hrow 0 (by omega)))
       have hl3:=(aa hb3).size;have HQ4:=ae q4;have HQS:=ae qs;clear hr5 hrow hb4 hrgW
       go_wp2_with (first|refine bU 66 (fc zf) underlying66 rfl (gK _) b2 (off2+t*25+1) hrg rfl _ rfl rfl ?_|refine cP _ _ (run_b0 _ _ rfl _) rfl ?_)
       refine(fy zf _).mono ?_;rintro e w6 ⟨rfl,hb6⟩
       have p4:=(hb6.cell (p:=⟨ob,4,none⟩) (by show ob<_; omega)).trans (aa HQ4)
       have ps:=(hb6.cell (p:=⟨b,off+k,none⟩) (by show b<_; omega)).trans (aa HQS)
       have po:w6.cell? ⟨b2,off2+t*25,none⟩=some (.int .i64 (ei k)):=aa HOP w6 hb6;have HB6:=ae ((aa hb3).trans (hb6.mono (aa hb3).size))
       have OW:=ae (fun W=>eC k W (by omega))
       have b1:(ei k != ei k)=false:=by simp
       clear hb6 q4 qs hrg
       go_wp2_with fail
       go_quiet (exact(aa OW _).mono fun e w' h=>⟨h.1,_,h.2.symm⟩)
       go_wp2_with fail
       go_roundw
       case rel=>exact⟨t+1,by omega,by go_num,ae (by repeat first|exact aa HB6|refine ap ?_ _|refine Below.drew ?_)⟩
       case measure=>simp[intOf]; omega
      have htn:t=sn:=by omega
      subst htn;have HB7:=ae ((aa hb).trans ((aa hb3).mono (aa hb).size))
      go_wp2_with fail
      go_roundw
      case rel=>exact⟨k+1,by omega,by go_num,HB7⟩
      case measure=>simp[intOf]; omega
    have hkn:k=ES.length:=by omega
    subst hkn
    go_wp2_with fail
    go_ret;exact⟨rfl,aa hb⟩
theorem looks_all (h:bA w ob V IS FS RS GS ES)(h1:IS.length<=10000000)(h2:FS.length<=10000000)(h3:RS.length<=10000000)(h4:GS.length<=10000000)(h5:ES.length<=10000000):
  Calls prog 8 #[.pointer (some ⟨ob,0,none⟩)] w fun e w'=>e=.returned (.bool true)/\Below w.heap.size w w':=
 looks_any h h1 h2 fun _ hb=>more_all (h.on hb) h3 h4 h5
end
section
variable {w0 w w':World}{wb ob:Nat}{sv fv:Value}{D:List DV}{E:List EV}{O O':OL}{c:Nat->Nat}{n:Nat}
theorem WJ.djd (h:WJ w0 w wb ob sv fv D E O n c){i:Nat}{d:DV}(hd:D[i]?=some d):∀k,df d k->¬OF ob O k:=fun k q q'=>by
 have:=h.cd i d k hd q; have:=h.co k q'; omega
theorem WJ.stepD (h:WJ w0 w wb ob sv fv D E O n c){i:Nat}{d d':DV}(hd:D[i]?=some d)(hP:Pst w d ob O w' d' O'):∃c',WJ w0 w' wb ob sv fv (D.set i d') E O' n c':=by
 have hi:i<D.length:=(List.getElem?_eq_some_iff.1 hd).1
 have frm:∀k,k<w.heap.size->c k≠3+2*i->c k≠2->w'.heap[k]?=w.heap[k]?:=fun k hk h1 h2=>hP.frm.block k hk fun q=>by
  rcases q with q|q
  ·exact h1 (h.cd i d k hd q)
  exact h2 (h.co k q)
 have hsz:=hP.frm.size
 have hlow:∀k,(df d k\/OF ob O k)->4<=k:=fun k q=>h.four (by
  rcases q with q|q
  ·rw[h.cd i d k hd q]; omega
  rw[h.co k q]; decide)
 classical
 refine⟨fun k=>if k<w.heap.size then c k else if df d' k then 3+2*i else 2,⟨hP.frm.os.trans h.base.os,hP.frm.tape.trans h.base.tape,hP.frm.output.trans h.base.output,Nat.le_trans h.base.size hsz,fun k hk=>?_⟩,?_,?_,?_,fun j f hf=>?_,fun j f hf=>?_,hP.own,fun j f k hf q=>?_,fun j f k hf q=>?_,fun k q=>?_,?_,fun k q=>?_,fun k q=>?_,fun k hk=>?_,h.glb⟩
 ·rw[frm k (Nat.lt_of_lt_of_le hk h.base.size) (by rw[h.cb k hk]; omega) (by rw[h.cb k hk]; omega)]
  exact h.base.block k hk
 ·rw[frm wb (an h.blk) (by rw[h.cw]; omega) (by rw[h.cw]; omega)]
  exact h.blk
 ·rw[map_set hd hP.sb hP.rb]
  exact h.st.same fun g hg=>frm g (h.st.lt hg) (by rw[h.cs g hg]; omega) (by rw[h.cs g hg]; omega)
 ·exact h.fr.same fun g hg=>frm g (h.fr.lt hg) (by rw[h.cf g hg]; omega) (by rw[h.cf g hg]; omega)
 ·rw[List.getElem?_set] at hf
  by_cases ej:i=j
  ·subst ej
   rw[if_pos rfl,if_pos hi] at hf;cases hf;exact hP.dep
  rw[if_neg ej] at hf;refine(h.dep j f hf).frm hP.frm fun k q q'=>?_;have e1:=h.cd j f k hf q
  rcases q' with q'|q'
  ·have:=h.cd i d k hd q'; omega
  have:=h.co k q'; omega
 ·refine(h.des j f hf).frm hP.frm (fun k q q'=>?_) hlow
  have e1:=h.ce j f k hf q
  rcases q' with q'|q'
  ·have:=h.cd i d k hd q'; omega
  have:=h.co k q'; omega
 ·rw[List.getElem?_set] at hf
  show(if k<w.heap.size then c k else if df d' k then 3+2*i else 2)=3+2*j
  by_cases ej:i=j
  ·subst ej
   rw[if_pos rfl,if_pos hi] at hf;cases hf
   by_cases ck:k<w.heap.size
   ·rw[if_pos ck]
    rcases hP.foot k q with q'|q'
    ·exact h.cd i d k hd q'
    omega
   rw[if_neg ck,if_pos q]
  rw[if_neg ej] at hf;rw[if_pos ((h.dep j f hf).lt q)];exact h.cd j f k hf q
 ·show(if k<w.heap.size then c k else if df d' k then 3+2*i else 2)=4+2*j
  rw[if_pos ((h.des j f hf).lt q)];exact h.ce j f k hf q
 ·show(if k<w.heap.size then c k else if df d' k then 3+2*i else 2)=2
  by_cases ck:k<w.heap.size
  ·rw[if_pos ck]
   rcases hP.ost.foot k q with q'|q'
   ·exact h.co k q'
   omega
  rw[if_neg ck,if_neg fun q'=>hP.dj k q' q]
 ·show(if wb<w.heap.size then c wb else if df d' wb then 3+2*i else 2)=1
  rw[if_pos (an h.blk)]; exact h.cw
 ·show(if k<w.heap.size then c k else if df d' k then 3+2*i else 2)=1
  rw[if_pos (h.st.lt q)]; exact h.cs k q
 ·show(if k<w.heap.size then c k else if df d' k then 3+2*i else 2)=1
  rw[if_pos (h.fr.lt q)]; exact h.cf k q
 show(if k<w.heap.size then c k else if df d' k then 3+2*i else 2)=0
 rw[if_pos (Nat.lt_of_lt_of_le hk h.base.size)]; exact h.cb k hk
structure OB (O:OL)(m:Nat):Prop where
 i:O.IS.length<=m
 f:O.FS.length<=m
 r:O.RS.length<=m
 g:O.GS.length<=m
 es:O.ES.length<=m
theorem WL.bnd (h:WL D E O n):OB O (2*n):=⟨h.i,h.f,h.r,h.g,h.es⟩
theorem OB.mono {m m':Nat}(h:OB O m)(hm:m<=m'):OB O m':=by
 have:=h.i; have:=h.f; have:=h.r; have:=h.g; have:=h.es
 exact⟨by omega,by omega,by omega,by omega,by omega⟩
theorem OB.p {m:Nat}(h:OB O m)(ho:OStp w O ob O'):OB O' (m+1):=by
 have:=h.i; have:=h.f; have:=h.r; have:=h.g; have:=h.es
 have:=ho.il; have:=ho.fl; have:=ho.rl; have:=ho.gl; have:=ho.el
 exact⟨by omega,by omega,by omega,by omega,by omega⟩
theorem OB.s {m:Nat}(h:OB O m)(ho:OSt w O ob O'):OB O' (m+1):=by
 have:=h.i; have:=h.f; have:=h.r; have:=h.g; have:=h.es
 have:=ho.il; have:=ho.fl; have:=ho.rl; have:=ho.gl; have:=ho.el
 exact⟨by omega,by omega,by omega,by omega,by omega⟩
theorem WJ.looks (h:WJ w0 w wb ob sv fv D E O n c){m:Nat}(hb:OB O m)(hm:m<=10000000):
  Calls prog 8 #[.pointer (some ⟨ob,0,none⟩)] w fun e w'=>e=.returned (.bool true)/\Below w.heap.size w w':=by
 have:=hb.i; have:=hb.f; have:=hb.r; have:=hb.g; have:=hb.es
 exact looks_all h.own (by omega) (by omega) (by omega) (by omega) (by omega)
theorem endsJ_any (h:ni w0 w wb ob n)(hn:n<=200000):
  Calls prog 9 #[.pointer (some ⟨wb,0,none⟩)] w fun e w'=>e=.returned (.bool true)/\Below w0.heap.size w0 w':=by
 obtain⟨sv,fv,D,E,O,c,hI,hl⟩:=h;obtain⟨sa,sk,hsv⟩:=hI.st.slice;rw[List.length_map] at hsv;obtain⟨fa,fk,hfv⟩:=hI.fr.slice;rw[List.length_map] at hfv;have hD:=hl.d;have hE:=hl.e;have hob:=hl.bnd;obtain⟨L,hL⟩:∃L,D.length=L:=⟨_,rfl⟩;obtain⟨M,hM⟩:∃M,E.length=M:=⟨_,rfl⟩;rw[hL] at hsv hD;rw[hM] at hfv hE;have HI:=ae hI;have HSV:=ae hsv;have HFV:=ae hfv;have HL:=ae hL;have HM:=ae hM;have HOB:=ae hob;clear hI hsv hL hfv hM hob hl;go_enter func9,ntmps9
 go_wp2_with fail
 go_loopw [3,4] (fun i _ wr=>∃(k:Nat),k<=L/\i=.int .i64 k/\Hid (∃D' O' c',WJ w0 wr wb ob sv fv D' E O' n c'/\D'.length=L/\OB O' (2*n+k))) (fun i _ _=>L-(intOf i).toNat)
 case atStart=>exact⟨0,by omega,rfl,ae ⟨D,O,c,aa HI,aa HL,aa HOB⟩⟩
 case round=>
  obtain⟨k,hk,rfl,hW⟩:=hrel;obtain⟨D',O',c',hI,hD',l1⟩:=aa hW;have c0:=(af hI.blk 0).trans (show _=some sv from rfl);rw[aa HSV] at c0
  by_cases hlt:k<L
  ·have hkn:(k:Int)<L:=by omega
   obtain⟨d,hd⟩:∃d,D'[k]?=some d:=⟨_,List.getElem?_eq_getElem (by omega)⟩
   obtain⟨ta,tc,te,_,_,hr⟩:=hI.st.at;rw[List.length_map,hD'] at te hr;rw[aa HSV] at te;cases te
   obtain⟨tb,tf,rfl,htl,hrr⟩:=hr (by omega)
   have hrow:wr.rangeAt tb (tf+k*2) #[Value.pointer (some ⟨d.sb,0,none⟩),.pointer (some ⟨d.rb,0,none⟩)].toList:=hrr k (twoOf d) (by rw[List.getElem?_map,hd]; rfl)
   have HH:=ae (held_any (hI.dep k d hd) hI.own (hI.djd hd) ((af hI.blk 2).trans rfl) (an hI.blk) (by have:=l1.i; omega))
   have HI2:=ae hI;clear hr hrr hI hW
   go_wp2_with (refine bU 53 #[.pointer (some ⟨d.sb,0,none⟩),.pointer (some ⟨d.rb,0,none⟩)] underlying53 rfl (sz53 _ _) tb (tf+k*2) hrow rfl _ rfl rfl ?_)
   refine(aa HH).mono ?_;rintro e w2 ⟨rfl,O2,hP⟩;obtain⟨c2,hW2⟩:=(aa HI2).stepD hd hP
   have HW2:=ae (show ∃D' O' c',WJ w0 w2 wb ob sv fv D' E O' n c'/\D'.length=L/\OB O' (2*n+(k+1)) from⟨_,O2,c2,hW2,by rw[List.length_set]; exact hD',l1.p hP.ost⟩)
   clear hP hW2 c0 hrow
   go_wp2_with fail
   go_roundw
   case rel=>exact⟨k+1,by omega,by go_num,HW2⟩
   case measure=>simp[intOf]; omega
  have hkn:k=L:=by omega
  subst hkn
  have HI2:Hid (∃D' E' O' c',WJ w0 wr wb ob sv fv D' E' O' (n+0) c'/\E'.length=M/\OB O' (3*n+0)):=⟨D',E,O',c',hI,aa HM,l1.mono (by omega)⟩
  clear hI hW
  go_wp2_with fail
  go_loopw [5,6] (fun i _ wr=>∃(k:Nat),k<=M/\i=.int .i64 k/\Hid (∃D' E' O' c',WJ w0 wr wb ob sv fv D' E' O' (n+k) c'/\E'.length=M/\OB O' (3*n+k))) (fun i _ _=>M-(intOf i).toNat)
  case atStart=>exact⟨0,by omega,rfl,HI2⟩
  case round=>
   obtain⟨j,hj,rfl,hW⟩:=hrel;obtain⟨D',E',O',c',hI,hE',l1⟩:=aa hW;have c1:=(af hI.blk 1).trans (show _=some fv from rfl);rw[aa HFV] at c1
   by_cases hlt:j<M
   ·have hkn:(j:Int)<M:=by omega
    obtain⟨d,hd⟩:∃d,E'[j]?=some d:=⟨_,List.getElem?_eq_getElem (by omega)⟩
    obtain⟨ta,tc,te,_,_,hr⟩:=hI.fr.at;rw[List.length_map,hE'] at te hr;rw[aa HFV] at te;cases te
    obtain⟨tb,tf,rfl,htl,hrr⟩:=hr (by omega)
    have hrow:wr.rangeAt tb (tf+j*2) #[Value.pointer (some ⟨d.fb,0,none⟩),.pointer (some ⟨d.rb,0,none⟩)].toList:=hrr j (mO d) (by rw[List.getElem?_map,hd]; rfl)
    have HH:=ae (nx (hI.des j d hd) hI.own (hI.dje hd) hI.o4 ((af hI.blk 2).trans rfl) (an hI.blk) (by have:=l1.g; omega) (by omega))
    have HI2:=ae hI;clear hr hrr hI hW
    go_wp2_with (refine bU 59 #[.pointer (some ⟨d.fb,0,none⟩),.pointer (some ⟨d.rb,0,none⟩)] underlying59 rfl (sz59E _ _) tb (tf+j*2) hrow rfl _ rfl rfl ?_)
    refine(aa HH).mono ?_;rintro e w2 ⟨rfl,O2,hP,_⟩;obtain⟨c2,hW2⟩:=(aa HI2).stepE hd hP
    have HW2:=ae (show ∃D' E' O' c',WJ w0 w2 wb ob sv fv D' E' O' (n+(j+1)) c'/\E'.length=M/\OB O' (3*n+(j+1)) from⟨_,_,O2,c2,hW2,by rw[List.length_set]; exact hE',l1.s hP.ost⟩)
    clear hP hW2 c1 hrow
    go_wp2_with fail
    go_roundw
    case rel=>exact⟨j+1,by omega,by go_num,HW2⟩
    case measure=>simp[intOf]; omega
   have hkn:j=M:=by omega
   subst hkn;have f2:=(af hI.blk 2).trans (show _=some (Value.pointer (some ⟨ob,0,none⟩)) from rfl)
   have HK:=ae (hI.looks l1 (by omega))
   have HBS:=ae hI.base;clear hI hW
   go_wp2_with fail
   refine(aa HK).mono ?_;rintro e w3 ⟨rfl,hb3⟩;have HB3:=ae ((aa HBS).trans (hb3.mono (aa HBS).size));clear hb3 c1 f2
   go_wp2_with fail
   go_ret;exact⟨rfl,aa HB3⟩
end
theorem wj_new (w:World)(hg:Glb w):ni w ((w.alloc (.cells #[.slice none 0 0,.slice none 0 0,.slice none 0 0,.slice none 0 0,.slice none 0 0] 33)).alloc (.cells #[.slice none 0 0,.slice none 0 0,.pointer (some ⟨w.heap.size,0,none⟩)] 37)) (w.heap.size+1) w.heap.size 0:=by
 have h1:=heap_alloc_new w (.cells #[.slice none 0 0,.slice none 0 0,.slice none 0 0,.slice none 0 0,.slice none 0 0] 33);have h2:=heap_alloc_new (w.alloc (.cells #[.slice none 0 0,.slice none 0 0,.slice none 0 0,.slice none 0 0,.slice none 0 0] 33)) (.cells #[.slice none 0 0,.slice none 0 0,.pointer (some ⟨w.heap.size,0,none⟩)] 37)
 refine⟨.slice none 0 0,.slice none 0 0,[],[],⟨⟨.slice none 0 0,.slice none 0 0,.slice none 0 0,.slice none 0 0,.slice none 0 0⟩,[],[],[],[],[]⟩,fun k=>if k=w.heap.size then 2 else if k=w.heap.size+1 then 1 else 0,⟨(bu.alloc aD _).alloc (by simp) _,by simpa using h2,aU,aU,fun i d hd=>by simp at hd,fun i d hd=>by simp at hd,⟨?_,aU,aU,aU,aU,aU,fun j s hs=>by simp at hs,fun j s hs=>by simp at hs,fun j s hs=>by simp at hs,fun j s hs=>by simp at hs,fun j s hs=>by simp at hs⟩,fun i d k hd=>by simp at hd,fun i d k hd=>by simp at hd,fun k q=>?_,?_,fun k q=>by simp[Value.ownBlock] at q,fun k q=>by simp[Value.ownBlock] at q,fun k hk=>?_,hg⟩,⟨by simp,by simp,by simp,by simp,by simp,by simp,by simp⟩⟩
 ·rw[heap_alloc_old _ _ (by simp)]; exact h1
 ·rcases q with q|q|q|q|q|q|⟨s,hs,_⟩
  ·subst q; simp
  ·simp[Value.ownBlock] at q
  ·simp[Value.ownBlock] at q
  ·simp[Value.ownBlock] at q
  ·simp[Value.ownBlock] at q
  ·simp[Value.ownBlock] at q
  simp at hs
 ·simp
 show(if k=w.heap.size then 2 else if k=w.heap.size+1 then 1 else 0)=0
 rw[if_neg (by omega),if_neg (by omega)]
structure ScrOk2 (w:World)(v:Value)(l:List iH):Prop where
 at_:bL rOp w v l
 ok:∀(i:Nat) (o:iH),l[i]?=some o->∃b,od w o b
 len:l.length<=200000
theorem upTo_any (v:Value)(l:List iH)(w:World)(h:ScrOk2 w v l)(hg:Glb w)(lo hi:Int)
  (hstep:∀(W:World) (wb ob n:Nat) (o:iH) (b:bK),ni w W wb ob n->n<=200000->od w o b->lo<=o.kind/\o.kind<=hi->Calls prog 7 #[.pointer (some ⟨wb,0,none⟩),.agg o.v] W fun e w'=>e=.returned (.bool true)/\ni w w' wb ob (n+1)) :
  Calls prog 6 #[v,lo,hi] w fun e w'=>e=.returned (.int .i64 (-1))/\Below w.heap.size w w':=by
 obtain⟨oa,cap,rfl,_,_,hr⟩:=h.at_;have hlen:=h.len;have HR:=ae hr;have HOK:=ae h.ok;have HN:=ae (wj_new w hg);have HST:=ae hstep;clear h hr hg hstep;go_enter func6,ntmps6
 go_wp2_with (first|refine cP _ _ (run_b33 _ _ rfl _) rfl ?_|refine cP _ _ (run_b37 w.heap.size _ _ _ rfl rfl _) rfl ?_)
 go_loopw [8,9] (fun i _ wr=>∃(k:Nat),k<=l.length/\i=.int .i64 k/\Hid (ni w wr (w.heap.size+1) w.heap.size k)) (fun i _ _=>l.length-(intOf i).toNat)
 case atStart=>exact⟨0,by omega,rfl,HN⟩
 case round=>
  obtain⟨k,hk,rfl,hW⟩:=hrel
  by_cases hlt:k<l.length
  ·have hkn:(k:Int)<l.length:=by omega
   obtain⟨o,ho⟩:∃o,l[k]?=some o:=⟨_,List.getElem?_eq_getElem hlt⟩
   obtain⟨b,off,rfl,hbl,hc0⟩:=aa HR (by omega)
   have hB:Below w.heap.size w wr:=(aa hW).base;have hrg:wr.rangeAt b (off+k*17) o.v.toList:=fun j u hu=>(hB.cell (p:=⟨b,off+k*17+j,none⟩) hbl).trans (hc0 k o ho j u hu);have kd:wr.cell? ⟨b,off+k*17,none⟩=some (.int .i64 o.kind):=hrg 0 _ rfl;obtain⟨bt,hok⟩:=aa HOK k o ho;clear hc0 hB
   by_cases hin:lo<=o.kind/\o.kind<=hi
   ·have HS:=ae (aa HST wr (w.heap.size+1) w.heap.size k o bt (aa hW) (by omega) hok hin)
    have g1:¬o.kind<lo:=by omega
    have g7:¬hi<o.kind:=by omega
    clear hok hin
    go_wp2_with (refine bU 44 o.v underlying44 rfl (sz44 o) b (off+k*17) hrg rfl _ rfl rfl ?_)
    refine(aa HS).mono ?_;rintro e w2 ⟨rfl,hW2⟩;obtain⟨sv,fv,D,E,O,c,hI,hl⟩:=id hW2;have f2:=(af hI.blk 2).trans (show _=some (Value.pointer (some ⟨w.heap.size,0,none⟩)) from rfl)
    have HK:=ae (hI.looks hl.bnd (by omega))
    have HW2:=ae hW2;clear hI hW2 kd hrg hl
    go_wp2_with fail
    refine(aa HK).mono ?_;rintro e w3 ⟨rfl,hb3⟩;have HW3:=ae ((aa HW2).on hb3);clear hb3 f2
    go_wp2_with fail
    go_roundw
    case rel=>exact⟨k+1,by omega,by go_num,HW3⟩
    case measure=>simp[intOf]; omega
   have HW3:=ae ((aa hW).more)
   by_cases g1:o.kind<lo
   rotate_left
   focus
    have g7:hi<o.kind:=by omega
   all_goals
    clear hok hin
    go_wp2_with fail
    go_roundw
    case rel=>exact⟨k+1,by omega,by go_num,HW3⟩
    case measure=>simp[intOf]; omega
  have hkn:k=l.length:=by omega
  subst hkn;have HE:=ae (endsJ_any (aa hW) hlen)
  go_wp2_with fail
  refine(aa HE).mono ?_;rintro e w2 ⟨rfl,hb2⟩;have HB2:=ae hb2;clear hb2
  go_wp2_with fail
  go_ret;exact⟨rfl,aa HB2⟩
theorem Fronts_any (v:Value)(l:List iH)(w:World)(h:ScrOk2 w v l)(hg:Glb w):
  Calls prog 4 #[v] w fun e w'=>e=.returned (.bool true)/\Below w.heap.size w w':=by
 have HU:=ae (upTo_any v l w h hg 11 16 fun W wb ob n o b hW hn ho hk=>fstep_any hW (by omega) ho hk)
 clear h hg;go_enter func4,ntmps4
 go_wp2_with fail
 refine(aa HU).mono ?_;rintro e w2 ⟨rfl,hb2⟩;have HB2:=ae hb2;clear hb2
 go_wp2_with fail
 go_ret;exact⟨rfl,aa HB2⟩
end Go.Proofs.YtpabpniaekldeaaGreatDoor
namespace Go.Proofs.YtpabpniaekldeaaGreatDoor
open Go.Proofs.Tryz
set_option maxRecDepth 20000
open Go.ChangeShapes Go.WideShapes Go.ChangeAt Go.RowKit
section
variable {H:Type}{enc:TypeId × Value->H}
theorem add_add (a:Addr)(m j:Nat)(h:a.spot=none):(a.add m).add j=⟨a.block,a.off+m+j,none⟩:=by
 obtain⟨b,o,s⟩:=a;simp only at h;subst h;rw[Addr.add_mid,Addr.add_mid]
end
end Go.Proofs.YtpabpniaekldeaaGreatDoor
namespace Go.Proofs.YtpabpniaekldeaaGreatDoor
open Go.Proofs.Tryz
set_option maxRecDepth 20000
open Go.ChangeShapes Go.WideShapes Go.ChangeAt Go.RowKit Go.Joins
theorem cells100:prog.cellsOf 100=25:=by kernel_rfl
theorem cells44:prog.cellsOf 44=17:=by kernel_rfl
theorem cells40:prog.cellsOf 40=1:=by kernel_rfl
theorem cells9:prog.cellsOf 9=1:=by kernel_rfl
theorem cells42:prog.cellsOf 42=5:=by kernel_rfl
section
variable {H:Type}{enc:TypeId × Value->H}
theorem bulk_pos (d:DataW H):1<=Rows.uptoBulk d:=by
 cases d with
 | lit l=>cases l<;>simp[Rows.uptoBulk]
 | _=>simp[Rows.uptoBulk]
theorem mr:∀l:List (DataW H),l.length<=Rows.uptoBulkAll l
 | []=>by simp
 | d::l=>by
  have h1:=bulk_pos d;have h2:=mr l;simp only[List.length_cons,Rows.uptoBulkAll];omega
theorem j6 {d:DataW H}:∀{l:List (DataW H)},d∈l->Rows.uptoBulk d<=Rows.uptoBulkAll l
 | [],h=>by simp at h
 | e::l,h=>by
  simp only[Rows.uptoBulkAll]
  rcases List.mem_cons.1 h with rfl|h
  ·omega
  have:=j6 h; omega
theorem edit_cells {w:World}{base:Nat}{sp:Nat->Bool}{held:Bool}{n:Nat}{cs:List Value}{x:DataW H × List MemPlace}(h:DataW.trod enc prog w base sp held n 100 cs=some x):
  cs.length=25/\∀j,j<25->∃m,cs[j]?=some (.int .i64 m)/\(Lit.int .i64 m).wf=true:=by
 obtain⟨xs,n1,_,_,hlen,hn,hel⟩:=DataW.trod_struct underlying100 h;rw[cells100] at hlen
 have hs:∀i,i<2->(xs[i]?).isSome=true:=by
  intro i hi;have hx:xs.length=2:=hn;simp[hx,hi]
 have go0:∀(fd:Field),fd.type=3->fd.offset=0->DataW.trod enc prog w base sp held n1 fd.type ((cs.drop fd.offset).take (prog.cellsOf fd.type))=xs[0]?->∃m,cs[0]?=some (.int .i64 m)/\(Lit.int .i64 m).wf=true:=by
  intro fd e1 e2 he;rw[e1,e2,ku] at he
  obtain⟨z,hz⟩:=Option.isSome_iff_exists.1 (hs 0 (by omega))
  rw[hz] at he;obtain⟨k,e3,_,e4⟩:=DataW.trod_int underlying3 he;refine⟨k,?_,e4⟩
  have h1:((cs.drop 0).take 1)[0]?=some (.int .i64 k):=by rw[e3]; rfl
  rw[List.getElem?_take_of_lt (by omega),List.getElem?_drop] at h1
  simpa using h1
 have go1:∀(fd:Field),fd.type=66->fd.offset=1->DataW.trod enc prog w base sp held n1 fd.type ((cs.drop fd.offset).take (prog.cellsOf fd.type))=xs[1]?->∀j,j<24->∃m,cs[1+j]?=some (.int .i64 m)/\(Lit.int .i64 m).wf=true:=by
  intro fd e1 e2 he j hj;rw[e1,e2,cells26] at he
  obtain⟨z,hz⟩:=Option.isSome_iff_exists.1 (hs 1 (by omega))
  rw[hz] at he;obtain⟨_,h2⟩:=feat_cells he;obtain⟨m,hm,hw⟩:=h2 j hj;rw[List.getElem?_take_of_lt hj,List.getElem?_drop] at hm;exact⟨m,hm,hw⟩
 refine⟨hlen,fun j hj=>?_⟩
 by_cases c:j=0
 ·subst c; exact go0 _ rfl rfl (hel 0 _ rfl)
 have:=go1 _ rfl rfl (hel 1 _ rfl) (j-1) (by omega)
 rwa [show 1+(j-1)=j by omega] at this
theorem edits_of {W:World}{base fuel:Nat}{cs:List Value}{x:DataW H × List MemPlace}(hf:DataW.trod enc prog W base (fun _=>true) true fuel 40 cs=some x):
  ∃bo bn bc b,cs=[.slice bo bn bc]/\bL rE W (.slice bo bn bc) b/\b.length<=Rows.uptoBulk x.1:=by
 rcases Go.Deep.open_slice underlying40 hf with⟨e,hx⟩|⟨a,len,cap,m,k,D,Pl,e,hb,hl,hcap,hm,hx,hel⟩
 ·exact⟨none,0,0,[],e,(aU (T:=100)).at,by simp⟩
 rw[if_pos rfl] at hm;subst hm;rw[cells100] at hel
 have each:∀i,∃f:Nat->Int,i<len->∀j,j<25->W.cell? ((a.add (i*25)).add j)=some (.int .i64 (f j)):=by
  intro i
  by_cases hi:i<len
  ·obtain⟨cs',h1,h2⟩:=hel i (by omega)
   obtain⟨g1,g2⟩:=edit_cells h2
   have hc:∀j,∃q,j<25->cs'[j]?=some (.int .i64 q):=by
    intro j
    by_cases hj:j<25
    ·obtain⟨q,hq⟩:=g2 j hj; exact⟨q,fun _=>hq.1⟩
    exact⟨0,fun h=>absurd h hj⟩
   refine⟨fun j=>Classical.choose (hc j),fun _ j hj=>?_⟩;have q1:=Classical.choose_spec (hc j) hj;have h3:=(World.cells?_some h1).2.2 j hj;exact h3.trans q1
  exact⟨fun _=>0,fun h=>absurd h hi⟩
 have hL:((List.range len).map fun i=>Classical.choose (each i)).length=len:=by simp
 refine⟨some a,len,m,(List.range len).map fun i=>Classical.choose (each i),e,⟨some a,m,by rw[hL],by rw[hL]; omega,by rw[hL]; omega,fun h0=>?_⟩,?_⟩
 ·rw[hL] at h0
  have hsp:a.spot=none:=by
   have h1:=World.cell?_spot (Classical.choose_spec (each 0) h0 0 (by omega))
   simpa[Addr.add] using h1
  refine⟨a.block,a.off,?_,?_,fun i f hi=>?_⟩
  ·obtain⟨b,o,s⟩:=a
   simp only at hsp;subst hsp;rfl
  ·obtain⟨cs',h1,_⟩:=hel 0 (by omega)
   have:=World.cells?_block h1 (by omega)
   simpa[Addr.add] using this
  have hlt:i<len:=by have:=(List.getElem?_eq_some_iff.1 hi).1; rwa [hL] at this
  rw[List.getElem?_map,List.getElem?_range hlt] at hi;simp only[Option.map_some,Option.some.injEq] at hi;subst hi;intro j u hu
  have hj:j<25:=by
   have:=(List.getElem?_eq_some_iff.1 hu).1;rw[rE.len] at this;exact this
  have hu':(cc 25 (Classical.choose (each i))).toList[j]?=some u:=hu;rw[Array.getElem?_toList,dc 25 _ j hj] at hu';cases hu';have:=Classical.choose_spec (each i) hlt j hj;rw[add_add _ _ _ hsp] at this;exact this
 rw[hL,hx];simp only[Rows.uptoBulk];have:=mr ((List.range len).map D);rw[List.length_map,List.length_range] at this;omega
theorem fT {l:List Value}{off:Nat}{v:Value}(h:(l.drop off).take 1=[v]):l[off]?=some v:=by
 have h1:((l.drop off).take 1)[0]?=some v:=by rw[h]; rfl
 rw[List.getElem?_take_of_lt (by omega),List.getElem?_drop] at h1
 simpa using h1
theorem op_cells {W:World}{base n:Nat}{cs:List Value}{x:DataW H × List MemPlace}(h:DataW.trod enc prog W base (fun _=>true) true n 44 cs=some x)(hx1:Rows.uptoBulk x.1<=1048576):∃(o:iH) (b:bK),OpOk W o b/\∀j,j<17->cs[j]?=o.v[j]?:=by
 obtain⟨xs,n1,_,hxx,hlen,hn,hel⟩:=DataW.trod_struct underlying44 h;have hxl:xs.length=10:=hn
 have hs:∀i,i<10->(xs[i]?).isSome=true:=by
  intro i hi;simp[hxl,hi]
 have goI:∀(i:Nat) (fd:Field),i<5->fd.type=3->fd.offset=i->DataW.trod enc prog W base (fun _=>true) true n1 fd.type ((cs.drop fd.offset).take (prog.cellsOf fd.type))=xs[i]?->∃m,cs[i]?=some (.int .i64 m)/\(Lit.int .i64 m).wf=true:=by
  intro i fd hi e1 e2 he;rw[e1,e2,ku] at he
  obtain⟨z,hz⟩:=Option.isSome_iff_exists.1 (hs i (by omega))
  rw[hz] at he;obtain⟨k,e3,_,e4⟩:=DataW.trod_int underlying3 he;exact⟨k,fT e3,e4⟩
 have goK:∀(fd:Field),fd.type=39->fd.offset=5->DataW.trod enc prog W base (fun _=>true) true n1 fd.type ((cs.drop fd.offset).take (prog.cellsOf fd.type))=xs[5]?->∀j,j<4->∃m,cs[5+j]?=some (.int .i64 m):=by
  intro fd e1 e2 he j hj;rw[e1,e2,cells28] at he
  obtain⟨z,hz⟩:=Option.isSome_iff_exists.1 (hs 5 (by omega))
  rw[hz] at he;obtain⟨ys,n2,_,_,hlen2,hn2,hel2⟩:=DataW.trod_struct underlying39 he
  have hs2:∀i,i<4->(ys[i]?).isSome=true:=by
   intro i hi;have hx:ys.length=4:=hn2;simp[hx,hi]
  have go:∀(i:Nat) (fd:Field),i<4->fd.type=3->fd.offset=i->DataW.trod enc prog W base (fun _=>true) true n2 fd.type ((((cs.drop 5).take 4).drop fd.offset).take (prog.cellsOf fd.type))=ys[i]?->∃m,cs[5+i]?=some (.int .i64 m):=by
   intro i fd hi e1 e2 he;rw[e1,e2,ku] at he;obtain⟨z,hz⟩:=Option.isSome_iff_exists.1 (hs2 i hi);rw[hz] at he;obtain⟨k,e3,_,e4⟩:=DataW.trod_int underlying3 he;refine⟨k,?_⟩;have:=fT e3;rw[List.getElem?_take_of_lt hi,List.getElem?_drop] at this;exact this
  match j,hj with
  | 0,_=>exact go 0 _ (by omega) rfl rfl (hel2 0 _ rfl)
  | 1,_=>exact go 1 _ (by omega) rfl rfl (hel2 1 _ rfl)
  | 2,_=>exact go 2 _ (by omega) rfl rfl (hel2 2 _ rfl)
  | 3,_=>exact go 3 _ (by omega) rfl rfl (hel2 3 _ rfl)
 have goT:∀(i o:Nat) (fd:Field),i<10->fd.type=9->fd.offset=o->DataW.trod enc prog W base (fun _=>true) true n1 fd.type ((cs.drop fd.offset).take (prog.cellsOf fd.type))=xs[i]?->∃s:ByteArray,cs[o]?=some (.string s):=by
  intro i o fd hi e1 e2 he;rw[e1,e2,cells9] at he;obtain⟨z,hz⟩:=Option.isSome_iff_exists.1 (hs i hi);rw[hz] at he;obtain⟨s,e3,_,_⟩:=DataW.trod_string underlying9 he;exact⟨s,fT e3⟩
 have goS:∀(fd:Field),fd.type=40->fd.offset=11->DataW.trod enc prog W base (fun _=>true) true n1 fd.type ((cs.drop fd.offset).take (prog.cellsOf fd.type))=xs[8]?->∃bo bn bc b,cs[11]?=some (.slice bo bn bc)/\bL rE W (.slice bo bn bc) b/\b.length<=1048576:=by
  intro fd e1 e2 he;rw[e1,e2,cells40] at he
  obtain⟨z,hz⟩:=Option.isSome_iff_exists.1 (hs 8 (by omega))
  rw[hz] at he;obtain⟨bo,bn,bc,b,e3,r1,r2⟩:=edits_of he;refine⟨bo,bn,bc,b,fT e3,r1,?_⟩
  have hm:z.1∈xs.map (·.1):=List.mem_map_of_mem (List.mem_of_getElem? hz)
  have:=j6 hm;rw[hxx] at hx1;simp only[Rows.uptoBulk] at hx1;omega
 have goF:∀(fd:Field),fd.type=42->fd.offset=12->DataW.trod enc prog W base (fun _=>true) true n1 fd.type ((cs.drop fd.offset).take (prog.cellsOf fd.type))=xs[9]?->∀j,j<5->∃m,cs[12+j]?=some (.int .i64 m):=by
  intro fd e1 e2 he j hj;rw[e1,e2,cells42] at he
  obtain⟨z,hz⟩:=Option.isSome_iff_exists.1 (hs 9 (by omega))
  rw[hz] at he;obtain⟨ys,n2,_,_,hlen2,hn2,hel2⟩:=DataW.trod_struct underlying42 he
  have hs2:∀i,i<5->(ys[i]?).isSome=true:=by
   intro i hi;have hx:ys.length=5:=hn2;simp[hx,hi]
  have go:∀(i:Nat) (fd:Field),i<5->fd.type=3->fd.offset=i->DataW.trod enc prog W base (fun _=>true) true n2 fd.type ((((cs.drop 12).take 5).drop fd.offset).take (prog.cellsOf fd.type))=ys[i]?->∃m,cs[12+i]?=some (.int .i64 m):=by
   intro i fd hi e1 e2 he;rw[e1,e2,ku] at he;obtain⟨z,hz⟩:=Option.isSome_iff_exists.1 (hs2 i hi);rw[hz] at he;obtain⟨k,e3,_,e4⟩:=DataW.trod_int underlying3 he;refine⟨k,?_⟩;have:=fT e3;rw[List.getElem?_take_of_lt hi,List.getElem?_drop] at this;exact this
  match j,hj with
  | 0,_=>exact go 0 _ (by omega) rfl rfl (hel2 0 _ rfl)
  | 1,_=>exact go 1 _ (by omega) rfl rfl (hel2 1 _ rfl)
  | 2,_=>exact go 2 _ (by omega) rfl rfl (hel2 2 _ rfl)
  | 3,_=>exact go 3 _ (by omega) rfl rfl (hel2 3 _ rfl)
  | 4,_=>exact go 4 _ (by omega) rfl rfl (hel2 4 _ rfl)
 obtain⟨kd,h0,_⟩:=goI 0 _ (by omega) rfl rfl (hel 0 _ rfl)
 obtain⟨on,h1,q1⟩:=goI 1 _ (by omega) rfl rfl (hel 1 _ rfl)
 obtain⟨a,h2,_⟩:=goI 2 _ (by omega) rfl rfl (hel 2 _ rfl)
 obtain⟨b',h3,_⟩:=goI 3 _ (by omega) rfl rfl (hel 3 _ rfl)
 obtain⟨c,h4,_⟩:=goI 4 _ (by omega) rfl rfl (hel 4 _ rfl)
 have hK:=goK _ rfl rfl (hel 5 _ rfl)
 obtain⟨l,h5⟩:=hK 0 (by omega)
 obtain⟨z,h6⟩:=hK 1 (by omega)
 obtain⟨x',h7⟩:=hK 2 (by omega)
 obtain⟨y,h8⟩:=hK 3 (by omega)
 obtain⟨S,h9⟩:=goT 6 9 _ (by omega) rfl rfl (hel 6 _ rfl)
 obtain⟨T,h10⟩:=goT 7 10 _ (by omega) rfl rfl (hel 7 _ rfl)
 obtain⟨bo,bn,bc,b,h11,q8,q9⟩:=goS _ rfl rfl (hel 8 _ rfl);have hF:=goF _ rfl rfl (hel 9 _ rfl)
 obtain⟨f0,h12⟩:=hF 0 (by omega)
 obtain⟨f1,h13⟩:=hF 1 (by omega)
 obtain⟨f2,h14⟩:=hF 2 (by omega)
 obtain⟨f3,h15⟩:=hF 3 (by omega)
 obtain⟨f4,h16⟩:=hF 4 (by omega)
 refine⟨⟨kd,on,a,b',c,l,z,x',y,S,T,bo,bn,bc,f0,f1,f2,f3,f4⟩,b,⟨q8,by omega,wf_64 q1⟩,fun j hj=>?_⟩
 match j,hj with
 | 0,_=>exact h0
 | 1,_=>exact h1
 | 2,_=>exact h2
 | 3,_=>exact h3
 | 4,_=>exact h4
 | 5,_=>exact h5
 | 6,_=>exact h6
 | 7,_=>exact h7
 | 8,_=>exact h8
 | 9,_=>exact h9
 | 10,_=>exact h10
 | 11,_=>exact h11
 | 12,_=>exact h12
 | 13,_=>exact h13
 | 14,_=>exact h14
 | 15,_=>exact h15
 | 16,_=>exact h16
 | j+17,hj=>omega
end
section
variable {H:Type}{enc:TypeId × Value->H}
theorem bulk_ten:∀l:List (DataW H),(∀d,d∈l->10<=Rows.uptoBulk d)->10*l.length<=Rows.uptoBulkAll l
 | [],_=>by simp
 | d::l,h=>by
  have h1:=h d List.mem_cons_self;have h2:=bulk_ten l fun e he=>h e (List.mem_cons_of_mem _ he);simp only[List.length_cons,Rows.uptoBulkAll];omega
theorem op_ten {W:World}{base n:Nat}{cs:List Value}{x:DataW H × List MemPlace}(h:DataW.trod enc prog W base (fun _=>true) true n 44 cs=some x):10<=Rows.uptoBulk x.1:=by
 obtain⟨xs,n1,_,hxx,hlen,hn,hel⟩:=DataW.trod_struct underlying44 h;have hxl:xs.length=10:=hn;rw[hxx];simp only[Rows.uptoBulk]
 have:=mr (xs.map (·.1))
 rw[List.length_map,hxl] at this;omega
theorem op_str {W:World}{base n:Nat}{cs:List Value}{x:DataW H × List MemPlace}(h:DataW.trod enc prog W base (fun _=>true) true n 44 cs=some x)(hx1:Rows.uptoBulk x.1<=1048576){s t:ByteArray}(hs9:cs[9]?=some (.string s))(hs10:cs[10]?=some (.string t)):s.size<=1048576/\t.size<=1048576:=by
 obtain⟨xs,n1,_,hxx,hlen,hn,hel⟩:=DataW.trod_struct underlying44 h;have hxl:xs.length=10:=hn
 have go:∀(fd:Field) (i o:Nat) (s:ByteArray),i<10->fd.type=9->fd.offset=o->cs[o]?=some (.string s)->DataW.trod enc prog W base (fun _=>true) true n1 fd.type ((cs.drop fd.offset).take (prog.cellsOf fd.type))=xs[i]?->s.size<=1048576:=by
  intro fd i o s hi e1 e2 hs he;rw[e1,e2,cells9] at he
  obtain⟨z,hz⟩:∃z,xs[i]?=some z:=⟨_,List.getElem?_eq_getElem (by omega)⟩
  rw[hz] at he;obtain⟨s',e3,e4,_⟩:=DataW.trod_string underlying9 he;have:=fT e3;rw[hs] at this;cases this
  have hm:z.1∈xs.map (·.1):=List.mem_map_of_mem (List.mem_of_getElem? hz)
  have:=j6 hm;rw[hxx] at hx1;simp only[Rows.uptoBulk] at hx1;rw[e4] at this;simp only[Rows.uptoBulk,Array.length_toList] at this;have e:s.size=s.data.size:=rfl;omega
 exact⟨go _ 6 9 s (by omega) rfl rfl hs9 (hel 6 _ rfl),go _ 7 10 t (by omega) rfl rfl hs10 (hel 7 _ rfl)⟩
theorem op_cells2 {W:World}{base n:Nat}{cs:List Value}{x:DataW H × List MemPlace}(h:DataW.trod enc prog W base (fun _=>true) true n 44 cs=some x)(hx1:Rows.uptoBulk x.1<=1048576):∃(o:iH) (b:bK),od W o b/\∀j,j<17->cs[j]?=o.v[j]?:=by
 obtain⟨o,b,g1,g2⟩:=op_cells h hx1
 obtain⟨h1,h2⟩:=op_str h hx1 ((g2 9 (by omega)).trans rfl) ((g2 10 (by omega)).trans rfl)
 exact⟨o,b,⟨g1,h1,h2⟩,g2⟩
theorem oS {W:World}{r:Reach}{b0 base:Nat}{v:Value}{d:DataW H}{p:List MemPlace}(hv:Value.okWide prog W r b0 22 v)(h:DataW.Trod enc prog W base (fun _=>true) true 22 v d p)(hk:Rows.uptoBulk d<=1048576):∃L,ScrOk2 W v L:=by
 obtain⟨a0,len,cap,rfl⟩:=okWide_slice underlying22 hv;obtain⟨fuel,hf⟩:=h
 rcases Go.Deep.open_slice underlying22 hf with⟨e,_⟩|⟨a,len',cap',m,k,D,Pl,e,hb,hl,hcap,hm,hx,hel⟩
 ·simp only[Value.cells,List.cons.injEq,Value.slice.injEq,and_true] at e
  obtain⟨rfl,rfl,rfl⟩:=e
  exact⟨[],(aU (R:=rOp) (T:=44)).at,fun i s h=>by simp at h,by simp⟩
 simp only[Value.cells,List.cons.injEq,Value.slice.injEq,and_true] at e;obtain⟨rfl,rfl,rfl⟩:=e;rw[if_pos rfl] at hm;subst hm;rw[cells44] at hel;simp only[Prod.mk.injEq] at hx;rw[hx.1] at hk;simp only[Rows.uptoBulk] at hk
 have hlen:len<=200000:=by
  have:=bulk_ten ((List.range len).map D) fun d hd=>by
   obtain⟨i,hi,rfl⟩:=List.mem_map.1 hd
   obtain⟨cs',h1,h2⟩:=hel i (by have:=List.mem_range.1 hi; omega)
   exact op_ten h2
  rw[List.length_map,List.length_range] at this;omega
 have each:∀i,∃s:iH,i<len->(∃b,od W s b)/\∀j,j<17->W.cell? ((a.add (i*17)).add j)=s.v[j]?:=by
  intro i
  by_cases hi:i<len
  ·obtain⟨cs',h1,h2⟩:=hel i (by omega)
   have hm:D i∈(List.range len).map D:=List.mem_map_of_mem (List.mem_range.2 hi);have hb:=j6 hm
   obtain⟨s,b,g1,g2⟩:=op_cells2 h2 (by show Rows.uptoBulk (D i)<=_; omega)
   have hc:=(World.cells?_some h1).2.2
   exact⟨s,fun _=>⟨⟨b,g1⟩,fun j hj=>(hc j (by omega)).trans (g2 j hj)⟩⟩
  exact⟨⟨0,0,0,0,0,0,0,0,0,⟨#[]⟩,⟨#[]⟩,none,0,0,0,0,0,0,0⟩,fun h=>absurd h hi⟩
 have hL:((List.range len).map fun i=>Classical.choose (each i)).length=len:=by simp
 have hget:∀(i:Nat) (s:iH),((List.range len).map fun i=>Classical.choose (each i))[i]?=some s->i<len/\s=Classical.choose (each i):=by
  intro i s hi
  have hlt:i<len:=by have:=(List.getElem?_eq_some_iff.1 hi).1; rwa [hL] at this
  refine⟨hlt,?_⟩;rw[List.getElem?_map,List.getElem?_range hlt] at hi;simpa using hi.symm
 refine⟨(List.range len).map fun i=>Classical.choose (each i),⟨some a,m,by rw[hL],by rw[hL]; omega,by rw[hL]; omega,fun h0=>?_⟩,fun i s hi=>?_,by rw[hL]; omega⟩
 ·rw[hL] at h0
  have hsp:a.spot=none:=by
   have h1:=World.cell?_spot ((Classical.choose_spec (each 0) h0).2 0 (by omega) |>.trans (show(Classical.choose (each 0)).v[0]?=some (.int .i64 (Classical.choose (each 0)).kind) from rfl))
   simpa[Addr.add] using h1
  refine⟨a.block,a.off,?_,?_,fun i s hi=>?_⟩
  ·obtain⟨b,o,sp⟩:=a
   simp only at hsp;subst hsp;rfl
  ·obtain⟨cs',h1,_⟩:=hel 0 (by omega)
   have:=World.cells?_block h1 (by omega)
   simpa[Addr.add] using this
  obtain⟨hlt,rfl⟩:=hget i s hi;intro j u hu;have hj:j<17:=(List.getElem?_eq_some_iff.1 hu).1;have:=(Classical.choose_spec (each i) hlt).2 j hj;rw[add_add _ _ _ hsp] at this;have e:(rOp.enc (Classical.choose (each i)))[j]?=(Classical.choose (each i)).v[j]?:=Array.getElem?_toList;rw[e] at hu;exact this.trans hu
 obtain⟨hlt,rfl⟩:=hget i s hi;exact(Classical.choose_spec (each i) hlt).1
end
end Go.Proofs.YtpabpniaekldeaaGreatDoor
namespace Go.Proofs.YtpabpniaekldeaaGreatDoor
open Go.Proofs.Tryz
set_option maxRecDepth 20000
open Go.ChangeShapes Go.WideShapes Go.ChangeAt Go.RowKit Go.Joins
open Go.ChangeMaps (open_string shut_string)
theorem gNames : Tryz.prog.globalNamed "atlas/wire.layerNames" = some 0 := by kernel_rfl
theorem gPow : Tryz.prog.globalNamed "internal/strconv.uint64pow10" = some 1 := by kernel_rfl
theorem gTab : Tryz.prog.globalNamed "math/bits.deBruijn64tab" = some 3 := by kernel_rfl
theorem tNames:(prog.globals[0]?).map (·.type)=some 226:=by kernel_rfl
theorem tPow:(prog.globals[1]?).map (·.type)=some 253:=by kernel_rfl
theorem cells226:prog.cellsOf 226=4:=by kernel_rfl
theorem cells247:prog.cellsOf 247=1:=by kernel_rfl
theorem cells253:prog.cellsOf 253=20:=by kernel_rfl
theorem str_of (s:ByteArray)(l:List UInt8)(h:s.data.toList=l):s=⟨l.toArray⟩:=by
 rw[<-h]
theorem ld {H:Type}{enc:TypeId × Value->H}{W:World}{base:Nat}{sp:Nat->Bool}{held:Bool}{m:Nat}{c:Value}{x:DataW H × List MemPlace}{l:List UInt8}
  (h:DataW.trod enc prog W base sp held m 9 [c]=some x) (e:DataW.lit (.string l)=x.1):c=.string ⟨l.toArray⟩:=by
 obtain⟨s,hs,hx,_⟩:=DataW.trod_string underlying9 h;rw[hx] at e;simp only[DataW.lit.injEq,Lit.string.injEq] at e;simp only[List.cons.injEq,and_true] at hs;rw[hs,str_of s l e.symm]
theorem var_lt {W:World}{n:String}{g:Nat}{cs:Array Value}(hg:prog.globalNamed n=some g)(h:W.var? prog n=some cs):g<W.heap.size:=by
 simp only[World.var?,hg,Option.bind_some] at h
 rcases Nat.lt_or_ge g W.heap.size with q|q
 ·exact q
 rw[Array.getElem?_eq_none q] at h;simp at h
theorem of_laid {W : World}(h : laidMetH Tryz.prog Rows.frontsUptoRow.laid W): Dw.NamesIn W ∧ Lib.TabIs Tryz.prog W "internal/strconv.uint64pow10" .u64 Lib.pow10Tab ∧ 4 ≤ W.heap.size := by
 have h':laidMet prog Rows.frontsUptoRow.laid W:=h;obtain⟨ps,⟨g0,t0,cs0,f0,p0,q0,hg0,ht0,hv0,hd0,⟨g1,t1,cs1,f1,p1,q1,hg1,ht1,hv1,hd1,⟨g2,t2,cs2,f2,p2,q2,hg2,ht2,hv2,hd2,⟨g3,t3,cs3,f3,p3,q3,hg3,ht3,hv3,hd3,_,_⟩,_⟩,_⟩,_⟩,_⟩:=h';obtain rfl:=Option.some.inj (gPow.symm.trans hg2);obtain rfl:=Option.some.inj (tPow.symm.trans ht2);obtain rfl:=Option.some.inj (gNames.symm.trans hg3);obtain rfl:=Option.some.inj (tNames.symm.trans ht3);refine⟨?_,?_,?_⟩
 ·have hd3':DataW.trod _ prog W _ _ _ f3 226 cs3.toList=some (.agg [.lit (.string [108,97,110,100]),.lit (.string [119,97,116,101,114]),.lit (.string [114,111,97,100]),.lit (.string [109,97,114,107])],p3):=hd3
  obtain⟨xs,m,rfl,hx,hlen,hn,hel⟩:=DataW.trod_array underlying226 hd3';rw[cells226] at hlen;simp only[Prod.mk.injEq,DataW.agg.injEq] at hx
  match xs,hn,hx,hel with
  | [x0,x1,x2,x3],_,hx,hel=>
   simp only[List.map_cons,List.map_nil,List.cons.injEq,and_true] at hx;obtain⟨⟨e0,e1,e2,e3⟩,_⟩:=hx
   have k0:=hel 0 (by decide)
   have k1:=hel 1 (by decide)
   have k2:=hel 2 (by decide)
   have k3:=hel 3 (by decide)
   rw[cells9] at k0 k1 k2 k3;obtain⟨l⟩:=cs3
   match l,hlen,hv3,k0,k1,k2,k3 with
   | [c0,c1,c2,c3],_,hv3,k0,k1,k2,k3=>
    have j0:=ld (show DataW.trod _ prog W _ _ _ m 9 [c0]=some x0 from k0) e0;have j1:=ld (show DataW.trod _ prog W _ _ _ m 9 [c1]=some x1 from k1) e1;have j2:=ld (show DataW.trod _ prog W _ _ _ m 9 [c2]=some x2 from k2) e2;have j3:=ld (show DataW.trod _ prog W _ _ _ m 9 [c3]=some x3 from k3) e3;subst j0 j1 j2 j3;exact⟨World.var?_cell hg3 hv3 0,World.var?_cell hg3 hv3 1,World.var?_cell hg3 hv3 2,World.var?_cell hg3 hv3 3⟩
 ·show W.var? prog _=_
  rw[hv2];have hd2':DataW.trod _ prog W _ _ _ f2 253 cs2.toList=some (Lib.tabData .u64 Lib.pow10Tab,p2):=hd2;have:=Lib.cells_of_tab underlying253 underlying247 cells247 cells253 hd2';rw[<-this]
 have:=var_lt gTab hv1;omega
theorem glb_of {W:World}(h:laidMetH prog Rows.frontsUptoRow.laid W):Glb W:=by
 obtain⟨⟨c0,c1,c2,c3⟩,h2,h3⟩:=of_laid h;refine⟨h3,fun W' hW=>⟨⟨?_,?_,?_,?_⟩,?_⟩⟩
 ·exact(World.cell?_of_block (a:=⟨0,0,none⟩) (hW 0 (by omega))).trans c0
 ·exact(World.cell?_of_block (a:=⟨0,1,none⟩) (hW 0 (by omega))).trans c1
 ·exact(World.cell?_of_block (a:=⟨0,2,none⟩) (hW 0 (by omega))).trans c2
 ·exact(World.cell?_of_block (a:=⟨0,3,none⟩) (hW 0 (by omega))).trans c3
 have h2' : W.var? Tryz.prog "internal/strconv.uint64pow10" = some (Lib.pow10Tab.map fun z => Value.int .u64 z).toArray := h2
 show W'.var? prog _=_;simp only[World.var?,gPow,Option.bind_some] at h2' ⊢
 rw[hW 1 (by omega)]
 exact h2'
end Go.Proofs.YtpabpniaekldeaaGreatDoor
