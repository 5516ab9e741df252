import Derived.Test.YtpabpniaekldeaaGreatDoorGase06
import Derived.Test.YtpabpniaekldeaaGreatDoorCards
import Derived.Test.YtpabpniaekldeaaGreatDoorTie
import Derived.Deep.Slices
import Derived.SizedLaws
import Derived.ProofKit
import Derived.OpenShut
import Derived.ShutString
import Derived.LaidMore
import Derived.Lib.SmallJoins
import Derived.Deep.DeepHandedRow
import Derived.Lib.LaidTab
set_option maxHeartbeats 25600000
set_option maxRecDepth 20000
open Go.RowKit Go.Proofs.Tryz
namespace Go.Proofs.YtpabpniaekldeaaGreatDoor
def toldW (ws:List dJ)(l:List (Option Fl))(n:Nat):List f9:=(l.zipIdx n).filterMap fun(o,i)=>o.map fun fl=>⟨fl.b,i,fl.reads,fl.left,aC ws fl.b⟩
def gI (ws:List dJ)(l:List K4):List f9:=l.map fun b=>⟨b,-1,-1,0,aC ws b⟩
theorem told_eq (F:FM):F.told=toldW F.waiting F.wks 0++gI F.waiting F.line:=rfl
theorem toldW_none (ws:List dJ)(l:List (Option Fl))(n:Nat):toldW ws (none::l) n=toldW ws l (n+1):=by simp[toldW,List.zipIdx_cons]
theorem toldW_some (ws:List dJ)(f:Fl)(l:List (Option Fl))(n:Nat):toldW ws (some f::l) n=⟨f.b,n,f.reads,f.left,aC ws f.b⟩::toldW ws l (n+1):=by simp[toldW,List.zipIdx_cons]
theorem al73 (ev:Operand->Value)(o:Oper)(b:o.op=.alloc 107)(w w1:World)(a:w.alloc (.cells #[(),(),(),(),(),(),(),()] 107)=w1):(execOp ev o).run prog w=.ok (.value (.pointer (some ⟨w.heap.size,0,none⟩))) w1:=by
 rw[<-a];unfold execOp;simp only[b]
 kernel_rfl
theorem sz73 (a b c d e f g h:Int):(prog.info? 107).map (·.size)=some (#[a,b,c,d,e,f,g,h]:Array Value).size:=by kernel_rfl
theorem told_one (a b c d e f g h:Int):(#[a,b,c,d,e,f,g,h]:Array Value).all (·.oneCell')=true:=by simp[Value.oneCell']
theorem bt73 (l z x y a b c:Int)(ev:Operand->Value)(o:Oper)(p q d s:Operand)(j:o.op=.build 107 #[(0,p),(1,q),(2,d),(3,s)])(e:ev p=.agg #[l,z,x,y])(f:ev q=.int .i64 a)(g:ev d=.int .i64 b)(h:ev s=.int .i64 c)(w:World):(execOp ev o).run prog w=.ok (.value (.agg #[l,z,x,y,a,b,c,()])) w:=by
 have i:=run_build (P:=prog) w 107 #[(0,.agg #[l,z,x,y]),(1,.int .i64 a),(2,.int .i64 b),(3,.int .i64 c)] #[l,z,x,y,a,b,c,()] (by kernel_rfl)
 unfold execOp;simp[j,e,f,g,h,i]
theorem bt73b (l z x y a b:Int)(ev:Operand->Value)(o:Oper)(p q c:Operand)(h:o.op=.build 107 #[(0,p),(1,q),(2,c)])(d:ev p=.agg #[l,z,x,y])(e:ev q=.int .i64 a)(f:ev c=.int .i64 b)(w:World):(execOp ev o).run prog w=.ok (.value (.agg #[l,z,x,y,a,b,(),()])) w:=by
 have g:=run_build (P:=prog) w 107 #[(0,.agg #[l,z,x,y]),(1,.int .i64 a),(2,.int .i64 b)] #[l,z,x,y,a,b,(),()] (by kernel_rfl)
 unfold execOp;simp[h,d,e,f,g]
theorem rng4w {e:World}{g:Nat}{l z x y:Int}{a b c:Value}(h:e.heap[g]?=some (.cells #[l,z,x,y,a,b,c] 170)):e.rangeAt g 0 (#[l,z,x,y]:Array Value).toList:=fun j v d=>(ao h) j v (by
 rcases j with _|_|_|_|j
 ·exact d
 ·exact d
 ·exact d
 ·exact d
 simp at d)
theorem nn (ws:List dJ)(l a:List (Option Fl))(n:Nat):toldW ws (l++a) n=toldW ws l n++toldW ws a (n+l.length):=by
 unfold toldW;rw[List.zipIdx_append,List.filterMap_append]
theorem toldW_take (ws:List dJ){l:List (Option Fl)}{k:Nat}{f:Fl}(h:l[k]?=some (some f)):toldW ws (l.take (k+1)) 0=toldW ws (l.take k) 0++[⟨f.b,k,f.reads,f.left,aC ws f.b⟩]:=by
 have a:(l.take k).length=k:=by rw[zD]; have:=(zX.1 h).1; omega
 rw[be h,nn,a,toldW_some];simp[toldW]
theorem toldW_take0 (ws:List dJ){l:List (Option Fl)}{k:Nat}(h:l[k]?=some none):toldW ws (l.take (k+1)) 0=toldW ws (l.take k) 0:=by
 rw[be h,nn,toldW_none];simp[toldW]
theorem toldL_take (ws:List dJ)(A:List f9){l:List K4}{k:Nat}{b:K4}(h:l[k]?=some b):A++gI ws (l.take (k+1))=A++gI ws (l.take k)++[⟨b,-1,-1,0,aC ws b⟩]:=by
 rw[be h];simp[gI]
theorem toldL_len (ws:List dJ)(l:List K4):(gI ws l).length=l.length:=by simp[gI]
theorem nk (ws:List dJ)(l:List (Option Fl))(n:Nat):(toldW ws l n).length<=l.length:=by
 unfold toldW;have:=List.length_filterMap_le (fun(x:Option Fl × Nat)=>x.1.map fun fl=>(⟨fl.b,x.2,fl.reads,fl.left,aC ws fl.b⟩:f9)) (l.zipIdx n);rw[List.length_zipIdx] at this;exact this
theorem flights_any (fb:Nat)(X:FV)(ws:List dJ)(D:List K4)(m:List (Option Wk))(w:World)(aW:aq w fb X)(bN:bL cW w X.wv ws)(b8:bL bT w X.lv D)(bl:f8 w X.kv m)(bK:∀cc∈ws,bP cc.k)(bJ:ws.length<=100000000)(cf:D.length<=10000000)(ce:m.length<=100):
  Calls prog 63 #[some fb] w fun e w'=>(∃rv,e=.returned rv/\ah bC 107 w' rv (toldW ws (m.map (Option.map Wk.f)) 0++gI ws D)/\∀g,rv.ownBlock=some g->w.heap.size<=g)/\Below w.heap.size w w':=by
 have a5:=an aW;obtain⟨b9,cap,e,cd,hm,bH⟩:=b8;obtain⟨⟨ob,bQ,bk,bO,bv,bb⟩,bM⟩:=bl;rw[zY] at bk bO bv bb;have b4:=ae bH;have bY:=ae bb;have b7:=ae bM;have bA:=ae aW;have bD:=ae bN;have bB:=ae bK
 have bG:=cr (R:=bC) (T:=107) w [] #[] rfl (by simp)
 have bt:=(zV w.heap.size w).alloc aD (.cells #[] 107);have b6:=ae bG;have bS:=ae bt
 have bE:w.cell? ⟨fb,8,none⟩=some (.slice b9 D.length cap):=by rw[<-e]; exact aW.cells.2.2.2.2.2.2.2.2.1
 have bs:=ae bE
 have bF:w.cell? ⟨fb,9,none⟩=some (.slice ob m.length bQ):=by rw[<-bk]; exact aW.cells.2.2.2.2.2.2.2.2.2.1
 have bX:=ae bF;clear aW bH bG bt e bE bF bN bK bb bM bk hm bv;go_enter func63,ntmps63
 go_wp2
 go_loopw [3,4,5,6] (fun lv i _ _ wr=>∃k:Nat,k<=m.length/\i=.int .i64 k/\ah bC 107 wr lv (toldW ws ((m.map (Option.map Wk.f)).take k) 0)/\Hid (∀g,lv.ownBlock=some g->w.heap.size<=g)/\Below w.heap.size w wr) (fun _ i _ _ _=>m.length-(intOf i).toNat)
 ·exact⟨0,by omega,rfl,by simpa[toldW] using aa b6,ae (fun g n=>by simp[Value.ownBlock] at n; omega),aa bS⟩
 obtain⟨k,bl,rfl,B,P,A⟩:=hrel;have b3:=A.size;have ch:=(A.cell (p:=⟨fb,9,none⟩) a5).trans (aa bX)
 by_cases bc:k<m.length
 ·have ad:(k:Int)<m.length:=by omega
  obtain⟨b,off,rfl,aY,ar⟩:=aa bY (by omega)
  obtain⟨o,av⟩:∃t,m[k]?=some t:=⟨_,zQ bc⟩
  have bd:w.cell? ⟨b,off+k,none⟩=some (ptr (o.map Wk.g)):=by
   have:=ar k (o.map Wk.g) (by rw[zg,av]; rfl) 0 _ rfl
   rwa [show off+k*fK.wid+0=off+k by simp[fK]] at this
  have a3:=(A.cell (p:=⟨b,off+k,none⟩) aY).trans bd;have au:=ae A;have aT:=ae B
  have be:(m.map (Option.map Wk.f))[k]?=some (o.map Wk.f):=by rw[zg,av]; rfl
  cases o with
  | none=>
   have b2:wr.cell? ⟨b,off+k,none⟩=some (.pointer none):=a3
   have aE:Hid (ah bC 107 wr u3 (toldW ws ((m.map (Option.map Wk.f)).take (k+1)) 0)):=ae (by rw[toldW_take0 ws be]; exact B)
   obtain⟨a1,a4,a2,rfl⟩:=B.sl;clear a3 ar bd A B be
   go_wp2
   go_roundw
   ·exact⟨k+1,by omega,by go_num,aa aE,P,aa au⟩
   simp[intOf]; omega
  | some u=>
   have b2:wr.cell? ⟨b,off+k,none⟩=some (.pointer (some ⟨u.g,0,none⟩)):=a3;have br:=aa b7 k u av;have a0:=ag br A;obtain⟨F,⟨⟨a,j,c,d⟩,y,x,cj⟩,bf,ci⟩:=u
   replace a0:wr.heap[F]?=some (.cells #[a,j,c,d,y,x,bf] 170):=a0
   have b0:=ae a0;clear a3 ar bd A B br
   go_wp2_with fail
   refine z8 (S:=fun w'=>w'.heap[F]?=some (.cells #[a,j,c,d,y,x,bf] 170)) (by kernel_rfl) ?_
   change wpAnyH _ _ _ _ _ _ _ _ (World.drew _);have aO:=(zV wr.heap.size wr).drew;have z:(World.drew wr).heap[F]?=some (.cells #[a,j,c,d,y,x,bf] 170):=a0;generalize World.drew wr=I at aO z ⊢;obtain⟨r,Q⟩:∃r,I.alloc (.cells #[(),(),(),(),(),(),(),()] 107)=r:=⟨_,rfl⟩;have al:Below I.heap.size I r:=Q▸(zV I.heap.size I).alloc aD (.cells #[(),(),(),(),(),(),(),()] 107);have M:r.heap[I.heap.size]?=some (.cells #[(),(),(),(),(),(),(),()] 107):=Q▸zZ I (.cells #[(),(),(),(),(),(),(),()] 107);have aI:=ae Q;obtain⟨l,n⟩:∃l,I.heap.size=l:=⟨_,rfl⟩;have aB:=ae (show ∀(ev:Operand->Value) (o:Oper),o.op=.alloc 107->(execOp ev o).run prog I=.ok (.value (.pointer (some ⟨l,0,none⟩))) r from fun ev o q=>n▸al73 ev o q I r (aa aI));rw[n] at M;obtain⟨v,U⟩:∃v,r.setRow l #[a,j,c,d,k,y,x,()]=v:=⟨_,rfl⟩;have K:v.heap[l]?=some (.cells #[a,j,c,d,k,y,x,()] 107):=U▸yX _ _ _ #[a,j,c,d,k,y,x,()] _ _ M
   have ap:Below I.heap.size I v:=U▸aK al (by omega) #[a,j,c,d,k,y,x,()]
   have aG:=ae (show ∀(ev:Operand->Value) (o:Oper) (s t:Operand),o.op=.store 107 s t->ev s=.pointer (some ⟨l,0,none⟩)->ev t=.agg #[a,j,c,d,k,y,x,()]->(execOp ev o).run prog r=.ok .skip v from fun ev o s t q V W=>U▸stR ev o s t 107 q #[a,j,c,d,k,y,x,()] #[(),(),(),(),(),(),(),()] (sz73 _ _ _ _ _ _ _ _) (told_one _ _ _ _ _ _ _ _) rfl l V W r M);have bx:=ag z al;have bz:=ag z ap;have J:=aO.trans (ap.mono aO.size)
   have aS:=ae (show Below wr.heap.size wr v/\v.heap[l]?=some (.cells #[a,j,c,d,k,y,x,()] 107)/\wr.heap.size<=l from⟨J,K,by have:=aO.size; omega⟩)
   clear al M U Q ap K J aO;refine am 0 rfl F 0 z ?_;refine am 1 rfl F 0 z ?_;refine am 2 rfl F 0 z ?_;refine aH 3 rfl (.agg #[a,j,c,d]) z ?_ (hy:=fun w' aQ=>jT _ _ _ 39 rfl _ rfl _ underlying39 rfl (bj _ _ _ _) F 0 rfl _ (rng4w aQ));refine aH 4 rfl (.int .i64 k) z ?_;refine am 5 rfl F 0 z ?_;refine am 6 rfl F 0 z ?_;refine am 7 rfl F 4 z ?_
   refine aH 8 rfl (.int .i64 y) z ?_ (hy:=fun w' aQ=>by simp[go_sem,(af aQ 4).trans rfl])
   refine am 9 rfl F 0 z ?_;refine am 10 rfl F 0 z ?_;refine am 11 rfl F 5 z ?_
   refine aH 12 rfl (.int .i64 x) z ?_ (hy:=fun w' aQ=>by simp[go_sem,(af aQ 5).trans rfl])
   refine aH 13 rfl (.agg #[a,j,c,d,k,y,x,()]) z ?_ (hy:=fun w' _=>bt73 a j c d k y x _ _ _ _ _ _ rfl rfl rfl rfl rfl w');refine aV 14 ?_;refine bI 14 rfl rfl (.pointer (some ⟨l,0,none⟩)) (r) (aa aB _ _ rfl) (bx) ?_;simp only[qZ];refine aV 15 ?_;refine cL 15 rfl rfl (v) (aa aG _ _ _ _ rfl rfl rfl) (bz) ?_;simp only[Act.put]
   refine zm (by kernel_rfl) ?_ _
   obtain⟨J,K,b1⟩:=aa aS;have G:=(aa au).trans (J.mono (aa au).size);have bR:=G.size;have az:v.rangeAt F 0 (#[a,j,c,d]:Array Value).toList:=rng4w (ag (aa b0) J);have aR:=fe fb X ws a j c d v (ag (aa bA) G) ((aa bD).on G) (aa bB) bJ;have aw:=(aa aT).on J;have aF:=ae aw;have aA:=ae K;have Z:=ae G;clear J K G aS aw z bx bz aB aG aI n
   go_wp2_with (refine vM az rfl _ rfl rfl ?_)
   refine aR.mono ?_;rintro e ak ⟨rfl,O⟩;have N:=ag (aa aA) O;have aM:=(aa Z).trans (O.mono (aa Z).size);have ax:=(aa aF).on O;have ac:=toldW_take ws be;obtain⟨C,ai⟩:∃C,aC ws ⟨a,j,c,d⟩=C:=⟨_,rfl⟩;rw[ai] at ac;rw[ai];have aU:ak.cell? ⟨l,7,none⟩=some (.int .i64 0):=af N 7;have aJ:=bi N 7;obtain⟨E,L⟩:∃bh,ak.setCell ⟨l,7,none⟩ (.int .i64 (C:Int))=bh:=⟨_,rfl⟩;have aL:E.heap[l]?=some (.cells #[a,j,c,d,k,y,x,(C:Int)] 107):=L▸eP N 7 (.int .i64 (C:Int)) rfl
   have ab:Below w.heap.size w E:=L▸aM.setCell (p:=⟨l,7,none⟩) (by show w.heap.size<=l; omega) _
   have Y:ah bC 107 E u3 (toldW ws ((m.map (Option.map Wk.f)).take k) 0):=by
    rw[<-L]
    exact ax.same fun g n=>zW _ _ _ _ (fun e=>by
     have:=(aa aT).lt n;have:g=l:=e;omega)
   have bg:=ae (fun(ev:Operand->Value) (o:Oper) (s t:Operand) (q:o.op=.store 3 s t) V W=>kO ev o s t q l 7 (C:Int) V W ak E aU aJ L);have a6:E.rangeAt l 0 (#[a,j,c,d,k,y,x,(C:Int)]:Array Value).toList:=ao aL;have aN:=aZ bC 107 E ⟨⟨a,j,c,d⟩,k,y,x,(C:Int)⟩ #[a,j,c,d,k,y,x,(C:Int)] rfl;have ay:=Y.on (bu.alloc aD (.cells #[a,j,c,d,k,y,x,(C:Int)] 107))
   obtain⟨bn,cb,bm,aj,aX,H⟩:=pK ay aN (by simp only[zT]; have:=nk ws ((m.map (Option.map Wk.f)).take k) 0; rw[zD,zY] at this; omega)
   rw[<-ac] at aj;have a8:=ab.size;have aE:=ae aj
   have a9:=ae ((ab.alloc a8 (.cells #[a,j,c,d,k,y,x,(C:Int)] 107)).grown aX (by simp; omega) (fun g n=>aa P g n))
   have ba:=ae (show ∀g,bn.ownBlock=some g->w.heap.size<=g from fun g n=>by
    rcases H with H|H
    ·exact aa P g (H▸n)
    have:=H g n; simp at this; omega)
   obtain⟨a1,a4,a2,rfl⟩:=Y.sl;clear N aM ax ac ai aU aJ L aL ab Y aN ay aj aX H aF aA Z az aR O
   go_wp2_with (first|refine cU E (aa bg _ _ _ _ rfl rfl rfl) rfl ?_|refine bU 107 _ underlying107 rfl (sz73 _ _ _ _ _ _ _ _) _ _ a6 rfl _ rfl rfl ?_|refine cP _ _ (ms a j c d k y x (C:Int) _ _ _ rfl rfl _) rfl ?_|(at_builtin; refine fS 104 bm rfl _ _ rfl rfl rfl rfl ?_))
   go_roundw
   ·exact⟨k+1,by omega,by go_num,aa aE,aa ba,aa a9⟩
   simp[intOf]; omega
 have ad:k=m.length:=by omega
 have aP:(m.map (Option.map Wk.f)).take k=m.map (Option.map Wk.f):=by rw[ad,<-zY (f:=Option.map Wk.f),zx]
 rw[aP] at B;have bZ:=ae B;have bV:=ae A;obtain⟨a1,a4,a2,rfl⟩:=B.sl;clear B A aP;subst ad
 go_wp2
 go_loopw [3,7,8] (fun lv i _ wr=>∃k:Nat,k<=D.length/\i=.int .i64 k/\ah bC 107 wr lv (toldW ws (m.map (Option.map Wk.f)) 0++gI ws (D.take k))/\Hid (∀g,lv.ownBlock=some g->w.heap.size<=g)/\Below w.heap.size w wr) (fun _ i _ _=>D.length-(intOf i).toNat)
 ·exact⟨0,by omega,rfl,by simpa[gI] using aa bZ,P,aa bV⟩
 clear P;obtain⟨k,bl,rfl,B,P,A⟩:=hrel;have b3:=A.size;have ca:=(A.cell (p:=⟨fb,8,none⟩) a5).trans (aa bs)
 by_cases bc:k<D.length
 ·have ad:(k:Int)<D.length:=by omega
  obtain⟨b,off,rfl,aY,ar⟩:=aa b4 (by omega)
  obtain⟨⟨a,j,c,d⟩,av⟩:∃t,D[k]?=some t:=⟨_,zQ bc⟩;have bq:w.rangeAt b (off+k*4) (#[a,j,c,d]:Array Value).toList:=bL.key ar av;have bw:=dA bq A aY;have au:=ae A;have aT:=ae B;obtain⟨r,Q⟩:∃r,wr.alloc (.cells #[(),(),(),(),(),(),(),()] 107)=r:=⟨_,rfl⟩;have al:Below wr.heap.size wr r:=Q▸(zV wr.heap.size wr).alloc aD (.cells #[(),(),(),(),(),(),(),()] 107);have M:r.heap[wr.heap.size]?=some (.cells #[(),(),(),(),(),(),(),()] 107):=Q▸zZ wr (.cells #[(),(),(),(),(),(),(),()] 107);have aI:=ae Q;obtain⟨l,n⟩:∃l,wr.heap.size=l:=⟨_,rfl⟩;have aB:=ae (show ∀(ev:Operand->Value) (o:Oper),o.op=.alloc 107->(execOp ev o).run prog wr=.ok (.value (.pointer (some ⟨l,0,none⟩))) r from fun ev o q=>n▸al73 ev o q wr r (aa aI));rw[n] at M;obtain⟨v,U⟩:∃v,r.setRow l #[a,j,c,d,.int .i64 (-1),.int .i64 (-1),(),()]=v:=⟨_,rfl⟩;have K:v.heap[l]?=some (.cells #[a,j,c,d,.int .i64 (-1),.int .i64 (-1),(),()] 107):=U▸yX _ _ _ #[a,j,c,d,.int .i64 (-1),.int .i64 (-1),(),()] _ _ M
  have ap:Below wr.heap.size wr v:=U▸aK al (by omega) #[a,j,c,d,.int .i64 (-1),.int .i64 (-1),(),()]
  have aG:=ae (show ∀(ev:Operand->Value) (o:Oper) (s t:Operand),o.op=.store 107 s t->ev s=.pointer (some ⟨l,0,none⟩)->ev t=.agg #[a,j,c,d,.int .i64 (-1),.int .i64 (-1),(),()]->(execOp ev o).run prog r=.ok .skip v from fun ev o s t q V W=>U▸stR ev o s t 107 q #[a,j,c,d,.int .i64 (-1),.int .i64 (-1),(),()] #[(),(),(),(),(),(),(),()] (sz73 _ _ _ _ _ _ _ _) (told_one _ _ _ _ _ _ _ _) rfl l V W r M)
  have aS:=ae (show Below wr.heap.size wr v/\v.heap[l]?=some (.cells #[a,j,c,d,.int .i64 (-1),.int .i64 (-1),(),()] 107)/\wr.heap.size<=l from⟨ap,K,by omega⟩)
  clear al M U Q ap K ar B A;obtain⟨J,K,b1⟩:=aa aS;have G:=(aa au).trans (J.mono (aa au).size);have bR:=G.size;have az:=dA bq G aY;have cg:=((G).cell (p:=⟨fb,8,none⟩) a5).trans (aa bs);have aR:=fe fb X ws a j c d v (ag (aa bA) G) ((aa bD).on G) (aa bB) bJ;have aw:=(aa aT).on J;have aF:=ae aw;have aA:=ae K;have Z:=ae G;clear J K G aS aw aI n;have bo:∀(m:World) (ev:Operand->Value) (o:Oper),o.op=.alloc 107->m=wr->(execOp ev o).run prog m=.ok (.value (.pointer (some ⟨l,0,none⟩))) r:=fun m ev o q e=>e▸aa aB ev o q;have bp:∀(m:World) (ev:Operand->Value) (o:Oper) (s t:Operand),o.op=.store 107 s t->ev s=.pointer (some ⟨l,0,none⟩)->ev t=.agg #[a,j,c,d,.int .i64 (-1),.int .i64 (-1),(),()]->m=r->(execOp ev o).run prog m=.ok .skip v:=fun m ev o s t q V W e=>e▸aa aG ev o s t q V W;clear aB aG;have a7:∀{m:World},m=wr\/m=v->m.rangeAt b (off+k*4) (#[a,j,c,d]:Array Value).toList:=fun h=>h.elim (fun e=>e▸bw) (fun e=>e▸az)
  go_wp2_with (first|refine vM (a7 (Or.inl rfl)) rfl _ rfl rfl ?_|refine cP _ _ (bt73b a j c d (-1) (-1) _ _ _ _ _ rfl rfl rfl rfl _) rfl ?_|refine cP _ _ (bo _ _ _ rfl rfl) rfl ?_|refine cU _ (bp _ _ _ _ _ rfl rfl rfl rfl) rfl ?_|refine vM (a7 (Or.inr rfl)) rfl _ rfl rfl ?_)
  clear bo bp bw ca a7;refine aR.mono ?_;rintro e ak ⟨rfl,O⟩;have N:=ag (aa aA) O;have aM:=(aa Z).trans (O.mono (aa Z).size);have ax:=(aa aF).on O;have ac:=toldL_take ws (toldW ws (m.map (Option.map Wk.f)) 0) av;obtain⟨C,ai⟩:∃C,aC ws ⟨a,j,c,d⟩=C:=⟨_,rfl⟩;rw[ai] at ac;rw[ai];have aU:ak.cell? ⟨l,7,none⟩=some (.int .i64 0):=af N 7;have aJ:=bi N 7;obtain⟨E,L⟩:∃bh,ak.setCell ⟨l,7,none⟩ (.int .i64 (C:Int))=bh:=⟨_,rfl⟩;have aL:E.heap[l]?=some (.cells #[a,j,c,d,.int .i64 (-1),.int .i64 (-1),(),(C:Int)] 107):=L▸eP N 7 (.int .i64 (C:Int)) rfl
  have ab:Below w.heap.size w E:=L▸aM.setCell (p:=⟨l,7,none⟩) (by show w.heap.size<=l; omega) _
  have Y:ah bC 107 E u3 (toldW ws (m.map (Option.map Wk.f)) 0++gI ws (D.take k)):=by
   rw[<-L]
   exact ax.same fun g n=>zW _ _ _ _ (fun e=>by
    have:=(aa aT).lt n;have:g=l:=e;omega)
  have bg:=ae (fun(ev:Operand->Value) (o:Oper) (s t:Operand) (q:o.op=.store 3 s t) V W=>kO ev o s t q l 7 (C:Int) V W ak E aU aJ L);have a6:E.rangeAt l 0 (#[a,j,c,d,.int .i64 (-1),.int .i64 (-1),(),(C:Int)]:Array Value).toList:=ao aL;have aN:=aZ bC 107 E ⟨⟨a,j,c,d⟩,-1,-1,0,(C:Int)⟩ #[a,j,c,d,.int .i64 (-1),.int .i64 (-1),(),(C:Int)] rfl;have ay:=Y.on (bu.alloc aD (.cells #[a,j,c,d,.int .i64 (-1),.int .i64 (-1),(),(C:Int)] 107))
  obtain⟨bn,cb,bm,aj,aX,H⟩:=pK ay aN (by simp only[zT]; have:=nk ws (m.map (Option.map Wk.f)) 0; rw[zY] at this; rw[zH,toldL_len,zD]; omega)
  rw[<-ac] at aj;have a8:=ab.size;have aE:=ae aj
  have a9:=ae ((ab.alloc a8 (.cells #[a,j,c,d,.int .i64 (-1),.int .i64 (-1),(),(C:Int)] 107)).grown aX (by simp; omega) (fun g n=>aa P g n))
  have ba:=ae (show ∀g,bn.ownBlock=some g->w.heap.size<=g from fun g n=>by
   rcases H with H|H
   ·exact aa P g (H▸n)
   have:=H g n; simp at this; omega)
  obtain⟨a1,a4,a2,rfl⟩:=Y.sl;clear N aM ax ac ai aU aJ L aL ab Y aN ay aj aX H aF aA Z az aR O
  go_wp2_with (first|refine cU E (aa bg _ _ _ _ rfl rfl rfl) rfl ?_|refine bU 107 _ underlying107 rfl (sz73 _ _ _ _ _ _ _ _) _ _ a6 rfl _ rfl rfl ?_|refine cP _ _ (ms a j c d (-1) (-1) 0 (C:Int) _ _ _ rfl rfl _) rfl ?_|(at_builtin; refine fS 104 bm rfl _ _ rfl rfl rfl rfl ?_))
  go_roundw
  ·exact⟨k+1,by omega,by go_num,aa aE,aa ba,aa a9⟩
  simp[intOf]; omega
 have ad:k=D.length:=by omega
 have aP:D.take k=D:=by rw[ad,zx]
 rw[aP] at B;have b5:Hid (∃rv,Ending.returned u3=.returned rv/\ah bC 107 wr rv (toldW ws (m.map (Option.map Wk.f)) 0++gI ws D)/\∀g,rv.ownBlock=some g->w.heap.size<=g):=⟨_,rfl,B,aa P⟩;have bW:=ae A;obtain⟨a1,a4,a2,rfl⟩:=B.sl;clear B A aP;subst ad
 go_wp2
 go_ret;exact⟨aa b5,aa bW⟩
theorem al113 (ev:Operand->Value)(o:Oper)(b:o.op=.alloc 113)(w w1:World)(a:w.alloc (.cells #[(),(),(),(),(),(),(),(),()] 113)=w1):(execOp ev o).run prog w=.ok (.value (.pointer (some ⟨w.heap.size,0,none⟩))) w1:=by
 rw[<-a];unfold execOp;simp only[b]
 kernel_rfl
theorem built113 (a b c d e f g h i:Int):prog.built 113 [(0,.int .i64 a),(1,.int .i64 b),(2,.int .i64 c),(3,.int .i64 d),(4,.int .i64 e),(5,.int .i64 f),(6,.int .i64 g),(7,.int .i64 h),(8,.int .i64 i)]=some #[.int .i64 a,.int .i64 b,.int .i64 c,.int .i64 d,.int .i64 e,.int .i64 f,.int .i64 g,.int .i64 h,.int .i64 i]:=by kernel_rfl
theorem bLk (a b c d e f g h i:Int)(ev:Operand->Value)(o:Oper)(j k l m n p q r s:Operand)(E:o.op=.build 113 #[(0,j),(1,k),(2,l),(3,m),(4,n),(5,p),(6,q),(7,r),(8,s)])(t:ev j=.int .i64 a)(u:ev k=.int .i64 b)(v:ev l=.int .i64 c)(x:ev m=.int .i64 d)(y:ev n=.int .i64 e)(z:ev p=.int .i64 f)(A:ev q=.int .i64 g)(B:ev r=.int .i64 h)(C:ev s=.int .i64 i)(w:World):(execOp ev o).run prog w=.ok (.value (.agg #[.int .i64 a,.int .i64 b,.int .i64 c,.int .i64 d,.int .i64 e,.int .i64 f,.int .i64 g,.int .i64 h,.int .i64 i])) w:=by
 have D:=run_build (P:=prog) w 113 #[(0,.int .i64 a),(1,.int .i64 b),(2,.int .i64 c),(3,.int .i64 d),(4,.int .i64 e),(5,.int .i64 f),(6,.int .i64 g),(7,.int .i64 h),(8,.int .i64 i)] _ (built113 a b c d e f g h i);unfold execOp;simp[E,t,u,v,x,y,z,A,B,C,D]
theorem sz113 (a b c d e f g h i:Int):(prog.info? 113).map (·.size)=some (#[a,b,c,d,e,f,g,h,i]:Array Value).size:=by kernel_rfl
theorem lk1 (a b c d e f g h i:Int):(#[a,b,c,d,e,f,g,h,i]:Array Value).all (·.oneCell')=true:=by simp[Value.oneCell']
theorem linN_snoc {jb:List Jb}{k:Nat}{j:Jb}(h:jb[k]?=some j):gC (jb.take (k+1))=gC (jb.take k)+(if j.wk<0 then 1 else 0):=by
 unfold gC;rw[be h,List.countP_append]
 congr 1
 by_cases e:j.wk<0
 ·rw[zJ e,List.countP_singleton,zJ (zU e)]
 rw[zK e,List.countP_singleton,zK (by rw[zN]; exact e)]
theorem linN_le (jb:List Jb):gC jb<=jb.length:=List.countP_le_length
section
variable {w:World}{fb:Nat}{X:RV}{keep:Int}{bv pv:Value}{SL:List cA}{bs:List bK}{PI:List Int}
theorem rLook_any (rq:List Rq)(jb:List Jb)(en:List En)(aS:aF w fb X)(hm:cE w X rq jb en)(aR:eV w X.sb keep bv pv SL bs PI)(aL:∀bj∈rq,bP bj.k)(ba:rq.length<=10000000)(a7:jb.length<=1000000)(bm:en.length<=50000)(bl:aY en<=1000000):
  Calls prog 62 #[some fb] w fun e w'=>e=.returned (.agg #[.int .i64 (bs.length:Nat),X.nw,.int .i64 (rq.length:Nat),.int .i64 (bg rq ⟨0,0,0,0⟩ true:Nat),.int .i64 (gC jb:Nat),.int .i64 ((jb.length:Int)-(gC jb:Nat)),.int .i64 (en.length:Nat),.int .i64 (aY en:Nat),X.st])/\Below w.heap.size w w':=by
 have ak:=ef rq ⟨0,0,0,0⟩ true;have ai:=linN_le jb;obtain⟨d,P⟩:∃d,gC jb=d:=⟨_,rfl⟩;obtain⟨z,M⟩:∃q,bg rq ⟨0,0,0,0⟩ true=q:=⟨_,rfl⟩;obtain⟨V,af⟩:∃q,bs.length=q:=⟨_,rfl⟩;obtain⟨m,C⟩:∃q,rq.length=q:=⟨_,rfl⟩;obtain⟨f,x⟩:∃q,jb.length=q:=⟨_,rfl⟩;obtain⟨h,F⟩:∃q,en.length=q:=⟨_,rfl⟩;obtain⟨y,Y⟩:∃q,aY en=q:=⟨_,rfl⟩;rw[M,af,P,C,x,F,Y];rw[P] at ai;rw[M] at ak;have bb:=ae P;have a6:=ae M;have be:=ae af;have bc:=ae C;have a2:=ae x;have aZ:=ae F;have aW:=ae Y;clear P M af C x F Y;obtain⟨Q,R,aJ,_⟩:=hm.rq.val;obtain⟨J,K,aE,aC⟩:=hm.jb.val;obtain⟨N,O,az,_⟩:=hm.en.val;have ar:∀(ev:Operand->Value) (o:Oper),o.op=.alloc 113->(execOp ev o).run prog w=.ok (.value (.pointer (some ⟨w.heap.size,0,none⟩))) (w.alloc (.cells #[(),(),(),(),(),(),(),(),()] 113)):=fun ev o q=>al113 ev o q w _ rfl;have al:=ae ar;have av:=aj w (.cells #[(),(),(),(),(),(),(),(),()] 113);have aA:=zZ w (.cells #[(),(),(),(),(),(),(),(),()] 113);have ao:=ae aA;have A:=ae av;have aN:=ae aS;have aO:=ae hm;have bd:=ae aR;have a4:=ae aL;have U:=ae aE;have a3:=ae aJ;have a0:=ae az;have a1:=ae aC;clear aS hm aR aL aJ aE az aC ar av aA;go_enter func62,ntmps62
 go_wp2_with (refine cP _ _ (aa al _ _ rfl) rfl ?_)
 obtain⟨w1,aM⟩:∃w1,w.alloc (.cells #[(),(),(),(),(),(),(),(),()] 113)=w1:=⟨_,rfl⟩;rw[aM] at ao A ⊢;clear aM al
 go_loopw [3,4] (fun n i wr=>∃k:Nat,k<=jb.length/\i=.int .i64 k/\n=.int .i64 (gC (jb.take k):Nat)/\wr=w1) (fun _ i _=>jb.length-(intOf i).toNat)
 ·exact⟨0,by omega,rfl,by simp[gC],rfl⟩
 obtain⟨k,bp,rfl,rfl,rfl⟩:=hrel;have p:=ag (aa aN) (aa A)
 have aq:wr.cell? ⟨fb,10,none⟩=some (.slice J jb.length K):=by rw[<-aa U]; exact aF.c p 10 rfl
 by_cases a9:k<jb.length
 ·have aI:(k:Int)<jb.length:=by omega
  obtain⟨b,off,rfl⟩:=aa a1 (by omega)
  obtain⟨j,aT⟩:∃t,jb[k]?=some t:=⟨_,zQ a9⟩;have ah:=((aa aO).on (aa A)).jb;rw[aa U] at ah;have bh:wr.cell? ⟨b,off+k*8+4,none⟩=some (.int .i64 j.wk):=(ah.cellF aT (j:=4) (u:=.int .i64 j.wk) rfl).1;have B:=linN_snoc aT;have a8:=linN_le (jb.take k);rw[zD] at a8;obtain⟨bi,aG⟩:∃q,j.wk=q:=⟨_,rfl⟩;rw[aG] at bh B;clear ah aG p
  by_cases hw:bi<0
  ·rw[zJ hw] at B
   have W:=ae B;clear B
   go_wp2
   go_roundw
   ·exact⟨k+1,by omega,by go_num,by rw[aa W]; go_num,by first|rfl|trivial⟩
   simp[intOf]; omega
  rw[zK hw] at B;have W:=ae B;clear B
  go_wp2
  go_roundw
  ·exact⟨k+1,by omega,by go_num,by rw[aa W]; rfl,by first|rfl|trivial⟩
  simp[intOf]; omega
 have aI:k=jb.length:=by omega
 subst aI;rw[zx];rw[aa bb];have ab:=(aa aO).on (aa A)
 have ad:=fh fb X rq 0 0 0 0 true wr p ab.rq.at (aa a4) (by omega)
 have T:=ae (fun(g:World) (r:Below wr.heap.size wr g)=>oe fb X en g (ag p r) (ab.en.on r).at (by omega) (by omega))
 have ap:=ae (fun(g:World) (r:Below wr.heap.size wr g)=>dv (((aa bd).on (aa A)).on r));have C:=aa bc;have x:=aa a2;have F:=aa aZ;rw[aa a6] at ad;rw[aa aW] at T;rw[aa be] at ap;rw[x] at ai a7;rw[C] at ak ba
 have aU:IntKind.i64.wrap ((f:Int)-(d:Int))=(f:Int)-(d:Int):=bG _ (by omega)
 have bk:=ae p
 have a5:=ae (show ∀g,Below wr.heap.size wr g->g.cell? ⟨fb,6,none⟩=some (.int .i64 X.nw)/\g.cell? ⟨fb,9,none⟩=some (.slice Q m R)/\g.cell? ⟨fb,10,none⟩=some (.slice J f K)/\g.cell? ⟨fb,11,none⟩=some (.slice N h O)/\g.cell? ⟨fb,8,none⟩=some (.int .i64 X.st) from fun g r=>⟨aF.c (ag p r) 6 rfl,by rw[<-C,<-aa a3]; exact aF.c (ag p r) 9 rfl,by rw[<-x,<-aa U]; exact aF.c (ag p r) 10 rfl,by rw[<-F,<-aa a0]; exact aF.c (ag p r) 11 rfl,aF.c (ag p r) 8 rfl⟩)
 have aX:=ae (show ∀g,Below wr.heap.size wr g->g.cell? ⟨fb,5,none⟩=some (.pointer (some ⟨X.sb,0,none⟩)) from fun g r=>aF.c (ag p r) 5 rfl)
 have bo:¬((f:Int)<(f:Int)):=by omega
 rw[x] at aq;rw[x];clear p ab C x F
 go_wp2_with fail
 refine ad.mono ?_;rintro e G ⟨rfl,aw⟩;have H:=ae aw;clear ad aw aq
 go_wp2_with fail
 refine(aa T G (aa H)).mono ?_;rintro e bq ⟨rfl,rfl⟩;have bf:=aa aX G (aa H);have aQ:=aa ap G (aa H)
 go_wp2_with fail
 refine aQ.mono ?_;rintro e br ⟨rfl,rfl⟩;clear bf aQ T;obtain⟨D,ac⟩:∃D,World.drew G=D:=⟨_,rfl⟩;have ax:Below G.heap.size G D:=ac▸zE bu;have L:=(aa H).trans (ax.mono (aa H).size);have c:=aa a5 D L;have Z:=ag (aa ao) L;obtain⟨l,I⟩:∃l,D.setRow w.heap.size #[.int .i64 (V:Nat),X.nw,.int .i64 (m:Nat),.int .i64 (z:Nat),.int .i64 (d:Nat),.int .i64 ((f:Int)-(d:Int)),.int .i64 (h:Nat),.int .i64 (y:Nat),X.st]=l:=⟨_,rfl⟩;have aB:l.heap[w.heap.size]?=some (.cells #[.int .i64 (V:Nat),X.nw,.int .i64 (m:Nat),.int .i64 (z:Nat),.int .i64 (d:Nat),.int .i64 ((f:Int)-(d:Int)),.int .i64 (h:Nat),.int .i64 (y:Nat),X.st] 113):=I▸yX _ _ _ #[.int .i64 (V:Nat),X.nw,.int .i64 (m:Nat),.int .i64 (z:Nat),.int .i64 (d:Nat),.int .i64 ((f:Int)-(d:Int)),.int .i64 (h:Nat),.int .i64 (y:Nat),X.st] _ _ Z;have bn:fb<w.heap.size:=an (aa aN);have ay:Below w.heap.size w l:=I▸aK ((aa A).trans (L.mono (aa A).size)) aD #[.int .i64 (V:Nat),X.nw,.int .i64 (m:Nat),.int .i64 (z:Nat),.int .i64 (d:Nat),.int .i64 ((f:Int)-(d:Int)),.int .i64 (h:Nat),.int .i64 (y:Nat),X.st]
 have E:∀i,l.cell? ⟨fb,i,none⟩=D.cell? ⟨fb,i,none⟩:=fun i=>zP (a:=⟨fb,i,none⟩) (by rw[<-I]; exact setRow_other (by show w.heap.size≠fb; omega) _)
 have au:l.cell? ⟨fb,6,none⟩=some (.int .i64 X.nw)/\l.cell? ⟨fb,9,none⟩=some (.slice Q m R)/\l.cell? ⟨fb,10,none⟩=some (.slice J f K)/\l.cell? ⟨fb,11,none⟩=some (.slice N h O)/\l.cell? ⟨fb,8,none⟩=some (.int .i64 X.st):=⟨(E 6).trans c.1,(E 9).trans c.2.1,(E 10).trans c.2.2.1,(E 11).trans c.2.2.2.1,(E 8).trans c.2.2.2.2⟩;have aP:Hid (l.heap[w.heap.size]?=some (.cells #[.int .i64 (V:Nat),X.nw,.int .i64 (m:Nat),.int .i64 (z:Nat),.int .i64 (d:Nat),.int .i64 ((f:Int)-(d:Int)),.int .i64 (h:Nat),.int .i64 (y:Nat),X.st] 113)/\Below w.heap.size w l):=⟨aB,ay⟩;clear ax L aB ay E
 go_wp2_with fail
 refine z8 (S:=fun w'=>w'.cell? ⟨fb,6,none⟩=some (.int .i64 X.nw)/\w'.cell? ⟨fb,9,none⟩=some (.slice Q m R)/\w'.cell? ⟨fb,10,none⟩=some (.slice J f K)/\w'.cell? ⟨fb,11,none⟩=some (.slice N h O)/\w'.cell? ⟨fb,8,none⟩=some (.int .i64 X.st)) (by kernel_rfl) ?_
 change wpAnyH _ _ _ _ _ _ _ _ (World.drew _);rw[ac];refine aH 0 rfl (.int .i64 (V:Nat)) c ?_;refine am 1 rfl fb 0 c ?_;refine am 2 rfl fb 0 c ?_;refine am 3 rfl fb 6 c ?_
 refine aH 4 rfl (.int .i64 X.nw) c ?_ (hy:=fun w' s=>by simp[go_sem,s.1])
 refine am 5 rfl fb 0 c ?_;refine am 6 rfl fb 0 c ?_;refine am 7 rfl fb 9 c ?_
 refine aH 8 rfl (.slice Q m R) c ?_ (hy:=fun w' s=>by simp[go_sem,s.2.1])
 refine aH 9 rfl (.int .i64 (m:Nat)) c ?_;refine aH 10 rfl (.int .i64 (z:Nat)) c ?_;refine aH 11 rfl (.int .i64 (d:Nat)) c ?_;refine am 12 rfl fb 0 c ?_;refine am 13 rfl fb 0 c ?_;refine am 14 rfl fb 10 c ?_
 refine aH 15 rfl (.slice J f K) c ?_ (hy:=fun w' s=>by simp[go_sem,s.2.2.1])
 refine aH 16 rfl (.int .i64 (f:Nat)) c ?_;refine aH 17 rfl (.int .i64 (d:Nat)) c ?_
 refine aH 18 rfl (.int .i64 ((f:Int)-(d:Int))) c ?_ (hy:=fun w' s=>by simp[go_sem,aU])
 refine am 19 rfl fb 0 c ?_;refine am 20 rfl fb 0 c ?_;refine am 21 rfl fb 11 c ?_
 refine aH 22 rfl (.slice N h O) c ?_ (hy:=fun w' s=>by simp[go_sem,s.2.2.2.1])
 refine aH 23 rfl (.int .i64 (h:Nat)) c ?_;refine aH 24 rfl (.int .i64 (y:Nat)) c ?_;refine am 25 rfl fb 0 c ?_;refine am 26 rfl fb 0 c ?_;refine am 27 rfl fb 8 c ?_
 refine aH 28 rfl (.int .i64 X.st) c ?_ (hy:=fun w' s=>by simp[go_sem,s.2.2.2.2])
 refine aH 29 rfl (.agg #[.int .i64 (V:Nat),X.nw,.int .i64 (m:Nat),.int .i64 (z:Nat),.int .i64 (d:Nat),.int .i64 ((f:Int)-(d:Int)),.int .i64 (h:Nat),.int .i64 (y:Nat),X.st]) c ?_ (hy:=fun w' s=>bLk _ _ _ _ _ _ _ _ _ _ _ _ _ _ _ _ _ _ _ _ rfl rfl rfl rfl rfl rfl rfl rfl rfl rfl w');refine aV 30 ?_;refine cL 30 rfl rfl (l) (I▸stR _ _ _ _ 113 rfl #[.int .i64 (V:Nat),X.nw,.int .i64 (m:Nat),.int .i64 (z:Nat),.int .i64 (d:Nat),.int .i64 ((f:Int)-(d:Int)),.int .i64 (h:Nat),.int .i64 (y:Nat),X.st] #[(),(),(),(),(),(),(),(),()] (sz113 _ _ _ _ _ _ _ _ _) (lk1 _ _ _ _ _ _ _ _ _) rfl w.heap.size rfl rfl D Z) (au) ?_;simp only[Act.put]
 refine zm (by kernel_rfl) ?_ _
 clear c au Z ac I
 go_wp2_with fail
 exact zL (v:=.agg #[.int .i64 (V:Nat),X.nw,.int .i64 (m:Nat),.int .i64 (z:Nat),.int .i64 (d:Nat),.int .i64 ((f:Int)-(d:Int)),.int .i64 (h:Nat),.int .i64 (y:Nat),X.st]) (results_cell_row results62 _ _ w.heap.size 113 _ (0,0) _ rfl (aa aP).1 underlying113 rfl (sz113 _ _ _ _ _ _ _ _ _)) rfl ⟨rfl,(aa aP).2⟩
end
theorem built107 (l z x y a b c d:Int):prog.built 107 [(0,.agg #[.int .i64 l,.int .i64 z,.int .i64 x,.int .i64 y]),(1,.int .i64 a),(2,.int .i64 b),(3,.int .i64 c),(4,.int .i64 d)]=some #[.int .i64 l,.int .i64 z,.int .i64 x,.int .i64 y,.int .i64 a,.int .i64 b,.int .i64 c,.int .i64 d]:=by kernel_rfl
theorem bTold (l z x y a b c d:Int)(A:Act)(o:Oper)(e f g h i:Operand)(r:o.op=.build 107 #[(0,e),(1,f),(2,g),(3,h),(4,i)])(j:A.eval e=.agg #[.int .i64 l,.int .i64 z,.int .i64 x,.int .i64 y])(k:A.eval f=.int .i64 a)(m:A.eval g=.int .i64 b)(n:A.eval h=.int .i64 c)(p:A.eval i=.int .i64 d)(w:World):(execOp A.eval o).run prog w=.ok (.value (.agg #[.int .i64 l,.int .i64 z,.int .i64 x,.int .i64 y,.int .i64 a,.int .i64 b,.int .i64 c,.int .i64 d])) w:=by
 have q:=run_build (P:=prog) w 107 #[(0,.agg #[.int .i64 l,.int .i64 z,.int .i64 x,.int .i64 y]),(1,.int .i64 a),(2,.int .i64 b),(3,.int .i64 c),(4,.int .i64 d)] _ (built107 l z x y a b c d);unfold execOp;simp[r,j,k,m,n,p,q]
section
variable {D:DF}
theorem toldW_snoc (w:Nat){l:List Jb}{k:Nat}{j:Jb}(h:l[k]?=some j):D.toldW w (l.take (k+1))=D.toldW w (l.take k)++(if j.wk=(w:Int) then [⟨j.b,w,j.rd,j.lf,bg D.rq j.b false⟩] else []):=by
 unfold DF.toldW;rw[be h,yI,yV]
 congr 1
 by_cases e:j.wk=(w:Int)
 ·rw[zJ e,y1 (p:=fun(j:Jb)=>decide (j.wk=(w:Int))) (zU e)]; rfl
 rw[zK e,yC (p:=fun(j:Jb)=>decide (j.wk=(w:Int))) (by rw[zN]; exact e)]; rfl
theorem toldP_snoc (p:Nat){l:List Jb}{k:Nat}{j:Jb}(h:l[k]?=some j):D.toldP p (l.take (k+1))=D.toldP p (l.take k)++(if j.wk<0/\j.pl=(p:Int) then [⟨j.b,-1,-1,0,bg D.rq j.b false⟩] else []):=by
 unfold DF.toldP;rw[be h,yI,yV]
 congr 1
 by_cases e:j.wk<0/\j.pl=(p:Int)
 ·rw[zJ e,y1 (p:=fun(j:Jb)=>decide (j.wk<0) && decide (j.pl=(p:Int))) (by simp[e.1,e.2])]; rfl
 rw[zK e,yC (p:=fun(j:Jb)=>decide (j.wk<0) && decide (j.pl=(p:Int))) (by simpa using e)]; rfl
theorem lC (w:Nat)(l:List Jb):(D.toldW w l).length<=l.length:=by unfold DF.toldW; rw[zY]; exact ze _ _
theorem np (p:Nat)(l:List Jb):(D.toldP p l).length<=l.length:=by unfold DF.toldP; rw[zY]; exact ze _ _
theorem pz {α e:Type}(f:α->List e)(c:Nat):∀l:List α,(∀a∈l,(f a).length<=c)->(l.flatMap f).length<=l.length*c
 | [],_=>by simp
 | a::l,h=>by
  have:=pz f c l fun b d=>h b (zt _ d);have g:=h a (yJ ..);rw[yv,zH,zS,zd];omega
def fw (D:DF)(n:Nat):List f9:=(List.range n).flatMap fun w=>D.toldW w D.jb
def fp (D:DF)(n:Nat):List f9:=fw D D.wk++(List.range n).flatMap fun p=>D.toldP p D.jb
theorem fw_succ (D:DF)(n:Nat):fw D (n+1)=fw D n++D.toldW n D.jb:=by unfold fw; rw[y5,List.flatMap_append]; simp
theorem fp_succ (D:DF)(n:Nat):fp D (n+1)=fp D n++D.toldP n D.jb:=by unfold fp; rw[y5,List.flatMap_append,yM]; simp
theorem fw_len (D:DF)(n:Nat):(fw D n).length<=n*D.jb.length:=by
 have:=pz (fun w=>D.toldW w D.jb) D.jb.length (List.range n) fun w _=>lC w D.jb;rw[List.length_range] at this;exact this
theorem fp_len (D:DF)(n:Nat):(fp D n).length<=D.wk*D.jb.length+n*D.jb.length:=by
 have:=pz (fun p=>D.toldP p D.jb) D.jb.length (List.range n) fun p _=>np p D.jb;rw[List.length_range] at this;have a:=fw_len D D.wk;unfold fp;rw[zH];omega
end
section
variable {w:World}{fb:Nat}{X:RV}{D:DF}
theorem oI (aH:aF w fb X)(hm:cE w X D.rq D.jb D.en)(aQ:X.wk=D.wk)(aM:X.ct=D.ct)(a3:D.wk<=4)(be:D.ct<=2000000)(aP:∀bc∈D.rq,bP bc.k)(bk:D.rq.length<=10000000)(az:D.jb.length<=12):
  Calls prog 64 #[some fb] w fun e w'=>∃rv,e=.returned rv/\ah bC 107 w' rv D.told/\(∀g,rv.ownBlock=some g->w.heap.size<=g)/\Below w.heap.size w w':=by
 obtain⟨aS,aT,aO,aN⟩:=hm.jb.val;have bf:fb<w.heap.size:=an aH;have S:=ae aH;have am:=ae hm;have aL:=ae aP;have al:=ae aO;have aK:=ae aN;have aY:=ae aQ;have aW:=ae aM;clear aH hm aP aO aN aQ aM;go_enter func64,ntmps64
 go_wp2
 go_loopw [3,4,5,6,7] (fun B i _ _ _ wr=>∃l:Nat,l<=D.wk/\i=.int .i64 l/\Hid (ah bC 107 wr B (fw D l))/\Hid (∀g,B.ownBlock=some g->w.heap.size<=g)/\Hid (Below w.heap.size w wr)) (fun _ i _ _ _ _=>D.wk-(intOf i).toNat)
 ·exact⟨0,by omega,rfl,ae (by unfold fw; exact aU),ae (fun g ac=>by simp[Value.ownBlock] at ac),ae bu⟩
 obtain⟨l,bn,rfl,z,u,r⟩:=hrel
 have aR:wr.cell? ⟨fb,1,none⟩=some (.int .i64 (D.wk:Int)):=by rw[<-aa aY]; exact aF.c (ag (aa S) (aa r)) 1 rfl
 by_cases bi:l<D.wk
 ·have ax:(l:Int)<D.wk:=by omega
  obtain⟨T,rfl⟩:∃T:World,T=wr:=⟨_,rfl⟩
  have au:Hid (ah bC 107 T u3 (fw D l++D.toldW l (D.jb.take 0))):=by show ah _ _ _ _ _; simpa[DF.toldW] using aa z
  have bl:=(aa r).size
  go_wp2_with fail
  clear aR
  go_loopw [3,5,6,7] (fun B i _ _ wr=>∃k:Nat,k<=D.jb.length/\i=.int .i64 k/\Hid (ah bC 107 wr B (fw D l++D.toldW l (D.jb.take k)))/\Hid (∀g,B.ownBlock=some g->w.heap.size<=g)/\Hid (Below w.heap.size w wr)) (fun _ i _ _ _=>D.jb.length-(intOf i).toNat)
  ·exact⟨0,by omega,rfl,au,u,r⟩
  obtain⟨k,a9,rfl,z,u,r⟩:=hrel
  have R:wr.cell? ⟨fb,10,none⟩=some (.slice aS D.jb.length aT):=by rw[<-aa al]; exact aF.c (ag (aa S) (aa r)) 10 rfl
  by_cases aB:k<D.jb.length
  ·have L:(k:Int)<D.jb.length:=by omega
   obtain⟨b,off,rfl⟩:=aa aK (by omega)
   obtain⟨⟨⟨a,f,c,d⟩,m,n,j,h⟩,ad⟩:∃t,D.jb[k]?=some t:=⟨_,zQ aB⟩;have M:=((aa am).on (aa r)).jb;rw[aa al] at M;have A:wr.rangeAt b (off+k*8) (#[a,f,c,d,m,n,j,h]:Array Value).toList:=M.row ad;obtain⟨s,H⟩:∃s,wr.alloc (.cells #[a,f,c,d,m,n,j,h] 165)=s:=⟨_,rfl⟩;have K:Below wr.heap.size wr s:=H▸aj wr (.cells #[a,f,c,d,m,n,j,h] 165);have I:s.heap[wr.heap.size]?=some (.cells #[a,f,c,d,m,n,j,h] 165):=H▸zZ wr (.cells #[a,f,c,d,m,n,j,h] 165);have aG:s.cell? ⟨wr.heap.size,4,none⟩=some (.int .i64 m):=(af I 4).trans rfl;have o:=toldW_snoc (D:=D) l ad;dsimp only at o;have v:=ae ((aa r).trans (K.mono (aa r).size));have P:=ae ((aa z).on K);have J:=ae I;have Q:=ae H;have aV:=(aa v).size;obtain⟨y,ay⟩:∃y,wr.heap.size=y:=⟨_,rfl⟩;rw[ay] at aG J;clear M K I H
   by_cases hw:m=(l:Int)
   ·subst hw
    rw[zJ rfl] at o
    have N:=fh fb X D.rq a f c d false s (ag (aa S) (aa v)) ((aa am).on (aa v)).rq.at (aa aL) (by omega)
    have aw:=ef D.rq ⟨a,f,c,d⟩ false;obtain⟨C,ab⟩:∃C,bg D.rq ⟨a,f,c,d⟩ false=C:=⟨_,rfl⟩;rw[ab] at N o aw;have U:s.rangeAt y 0 (#[a,f,c,d]:Array Value).toList:=dV (ao (aa J)) rfl;have av:=ae o;clear o ab
    go_wp2_with (refine bU 165 #[a,f,c,d,(l:Int),n,j,h] underlying165 rfl (fu ⟨⟨a,f,c,d⟩,(l:Int),n,j,h⟩) b (off+k*8) A rfl _ rfl rfl ?_)
    rw[aa Q];clear R A
    go_wp2_with (refine vM U rfl _ rfl rfl ?_)
    refine N.mono ?_;rintro e E ⟨rfl,F⟩;have G:=ag (aa J) F;have ap:E.rangeAt y 0 (#[a,f,c,d]:Array Value).toList:=dV (ao G) rfl;have a7:E.cell? ⟨y,6,none⟩=some (.int .i64 j):=(af G 6).trans rfl;have a8:E.cell? ⟨y,7,none⟩=some (.int .i64 h):=(af G 7).trans rfl;have V:=ae ((aa v).trans (F.mono (aa v).size));have W:=aZ bC 107 E ⟨⟨a,f,c,d⟩,(l:Nat),j,h,(C:Nat)⟩ #[a,f,c,d,.int .i64 (l:Nat),j,h,.int .i64 (C:Nat)] rfl;have Y:=aj E (.cells #[a,f,c,d,.int .i64 (l:Nat),j,h,.int .i64 (C:Nat)] 107);have Z:=((aa P).on F).on Y;have a0:=fw_len D l;have aA:=lC (D:=D) l (D.jb.take k)
    have a1:l*D.jb.length<=4*12:=Nat.mul_le_mul (by omega) az
    rw[zD] at aA
    obtain⟨ba,bb,aI,O,ai,ak⟩:=pK Z W (by simp only[zH,zT]; omega)
    rw[yM,<-aa av] at O;have x:=ae O;have aE:=(aa V).size
    have aq:=ae (((aa V).alloc aE (.cells #[a,f,c,d,.int .i64 (l:Nat),j,h,.int .i64 (C:Nat)] 107)).grown ai (by simp; omega) (fun g ac=>aa u g ac))
    have ar:=ae (bN (aa u) ak (by simp; omega))
    clear W Y Z O ai ak F G N U
    go_wp2_with (first|refine vM ap rfl _ rfl rfl ?_|refine cP _ _ (bTold a f c d (l:Nat) j h (C:Nat) _ _ _ _ _ _ _ rfl rfl rfl rfl rfl rfl _) rfl ?_|refine cP _ _ (ms a f c d (l:Nat) j h (C:Nat) _ _ _ rfl rfl _) rfl ?_|(at_builtin; refine fS 104 aI rfl _ _ rfl rfl rfl rfl ?_))
    go_roundw
    ·exact⟨k+1,by omega,by go_num,x,ar,aq⟩
    simp[intOf]; omega
   have bm:(m==(l:Int))=false:=by simpa using hw
   rw[zK hw,yW] at o
   have x:Hid (ah bC 107 s u3 (fw D l++D.toldW l (D.jb.take (k+1)))):=by show ah _ _ _ _ _; rw[o]; exact aa P
   clear o
   go_wp2_with (refine bU 165 #[a,f,c,d,m,n,j,h] underlying165 rfl (fu ⟨⟨a,f,c,d⟩,m,n,j,h⟩) b (off+k*8) A rfl _ rfl rfl ?_)
   rw[aa Q];clear R A
   go_wp2
   go_roundw
   ·exact⟨k+1,by omega,by go_num,x,u,v⟩
   simp[intOf]; omega
  have L:k=D.jb.length:=by omega
  subst L
  have L:¬((D.jb.length:Int)<D.jb.length):=by omega
  have x:Hid (ah bC 107 wr u3 (fw D (l+1))):=by show ah _ _ _ _ _; rw[fw_succ]; have q:=aa z; rw[zx] at q; exact q
  go_wp2
  go_roundw
  ·exact⟨l+1,by omega,by go_num,x,u,r⟩
  simp[intOf]; omega
 have ax:l=D.wk:=by omega
 subst ax
 have ax:¬((D.wk:Int)<D.wk):=by omega
 have au:Hid (ah bC 107 wr u3 (fp D 0)):=by show ah _ _ _ _ _; unfold fp; simpa using aa z
 obtain⟨T,rfl⟩:∃T:World,T=wr:=⟨_,rfl⟩
 go_wp2_with fail
 clear aR
 go_loopw [3,8,9,10,11] (fun B i _ _ _ wr=>∃p:Nat,p<=D.ct+1/\i=.int .i64 p/\Hid (ah bC 107 wr B (fp D p))/\Hid (∀g,B.ownBlock=some g->w.heap.size<=g)/\Hid (Below w.heap.size w wr)) (fun _ i _ _ _ _=>D.ct+1-(intOf i).toNat)
 ·exact⟨0,by omega,rfl,au,u,r⟩
 obtain⟨p,bo,rfl,z,u,r⟩:=hrel
 have a5:wr.cell? ⟨fb,7,none⟩=some (.int .i64 (D.ct:Int)):=by rw[<-aa aW]; exact aF.c (ag (aa S) (aa r)) 7 rfl
 by_cases bd:p<=D.ct
 ·have aD:(p:Int)<=D.ct:=by omega
  obtain⟨aJ,rfl⟩:∃aJ:World,aJ=wr:=⟨_,rfl⟩
  have aX:Hid (ah bC 107 aJ u3 (fp D p++D.toldP p (D.jb.take 0))):=by show ah _ _ _ _ _; simpa[DF.toldP] using aa z
  go_wp2_with fail
  clear a5
  go_loopw [3,9,10,11] (fun B i _ _ wr=>∃k:Nat,k<=D.jb.length/\i=.int .i64 k/\Hid (ah bC 107 wr B (fp D p++D.toldP p (D.jb.take k)))/\Hid (∀g,B.ownBlock=some g->w.heap.size<=g)/\Hid (Below w.heap.size w wr)) (fun _ i _ _ _=>D.jb.length-(intOf i).toNat)
  ·exact⟨0,by omega,rfl,aX,u,r⟩
  obtain⟨k,a9,rfl,z,u,r⟩:=hrel
  have R:wr.cell? ⟨fb,10,none⟩=some (.slice aS D.jb.length aT):=by rw[<-aa al]; exact aF.c (ag (aa S) (aa r)) 10 rfl
  by_cases aB:k<D.jb.length
  ·have L:(k:Int)<D.jb.length:=by omega
   obtain⟨b,off,rfl⟩:=aa aK (by omega)
   obtain⟨⟨⟨a,f,c,d⟩,m,n,j,h⟩,ad⟩:∃t,D.jb[k]?=some t:=⟨_,zQ aB⟩;have M:=((aa am).on (aa r)).jb;rw[aa al] at M;have A:wr.rangeAt b (off+k*8) (#[a,f,c,d,m,n,j,h]:Array Value).toList:=M.row ad;obtain⟨s,H⟩:∃s,wr.alloc (.cells #[a,f,c,d,m,n,j,h] 165)=s:=⟨_,rfl⟩;have K:Below wr.heap.size wr s:=H▸aj wr (.cells #[a,f,c,d,m,n,j,h] 165);have I:s.heap[wr.heap.size]?=some (.cells #[a,f,c,d,m,n,j,h] 165):=H▸zZ wr (.cells #[a,f,c,d,m,n,j,h] 165);have aG:s.cell? ⟨wr.heap.size,4,none⟩=some (.int .i64 m):=(af I 4).trans rfl;have a6:s.cell? ⟨wr.heap.size,5,none⟩=some (.int .i64 n):=(af I 5).trans rfl;have o:=toldP_snoc (D:=D) p ad;dsimp only at o;have v:=ae ((aa r).trans (K.mono (aa r).size));have P:=ae ((aa z).on K);have J:=ae I;have Q:=ae H;have aV:=(aa v).size;obtain⟨y,ay⟩:∃y,wr.heap.size=y:=⟨_,rfl⟩;rw[ay] at aG a6 J;clear M K I H
   by_cases hw:m<0
   ·by_cases aC:n=(p:Int)
    ·subst aC
     rw[zJ ⟨hw,rfl⟩] at o
     have N:=fh fb X D.rq a f c d false s (ag (aa S) (aa v)) ((aa am).on (aa v)).rq.at (aa aL) (by omega)
     have aw:=ef D.rq ⟨a,f,c,d⟩ false;obtain⟨C,ab⟩:∃C,bg D.rq ⟨a,f,c,d⟩ false=C:=⟨_,rfl⟩;rw[ab] at N o aw;have U:s.rangeAt y 0 (#[a,f,c,d]:Array Value).toList:=dV (ao (aa J)) rfl;have av:=ae o;clear o ab
     go_wp2_with (refine bU 165 #[a,f,c,d,m,(p:Int),j,h] underlying165 rfl (fu ⟨⟨a,f,c,d⟩,m,(p:Int),j,h⟩) b (off+k*8) A rfl _ rfl rfl ?_)
     rw[aa Q];clear R A
     go_wp2_with (refine vM U rfl _ rfl rfl ?_)
     refine N.mono ?_;rintro e E ⟨rfl,F⟩;have G:=ag (aa J) F;have ap:E.rangeAt y 0 (#[a,f,c,d]:Array Value).toList:=dV (ao G) rfl;have a7:E.cell? ⟨y,6,none⟩=some (.int .i64 j):=(af G 6).trans rfl;have a8:E.cell? ⟨y,7,none⟩=some (.int .i64 h):=(af G 7).trans rfl;have V:=ae ((aa v).trans (F.mono (aa v).size));have W:=aZ bC 107 E ⟨⟨a,f,c,d⟩,-1,-1,0,(C:Nat)⟩ #[a,f,c,d,.int .i64 (-1),.int .i64 (-1),(),.int .i64 (C:Nat)] rfl;have Y:=aj E (.cells #[a,f,c,d,.int .i64 (-1),.int .i64 (-1),(),.int .i64 (C:Nat)] 107);have Z:=((aa P).on F).on Y;have a0:=fp_len D p;have aA:=np (D:=D) p (D.jb.take k);have a1:D.wk*D.jb.length<=4*12:=Nat.mul_le_mul a3 az
     have bh:p*D.jb.length<=2000001*12:=Nat.mul_le_mul (by omega) az
     rw[zD] at aA
     obtain⟨ba,bb,aI,O,ai,ak⟩:=pK Z W (by simp only[zH,zT]; omega)
     rw[yM,<-aa av] at O;have x:=ae O;have aE:=(aa V).size
     have aq:=ae (((aa V).alloc aE (.cells #[a,f,c,d,.int .i64 (-1),.int .i64 (-1),(),.int .i64 (C:Nat)] 107)).grown ai (by simp; omega) (fun g ac=>aa u g ac))
     have ar:=ae (bN (aa u) ak (by simp; omega))
     clear W Y Z O ai ak F G N U
     go_wp2_with (first|refine vM ap rfl _ rfl rfl ?_|refine cP _ _ (bTold a f c d (-1) (-1) 0 (C:Nat) _ _ _ _ _ _ _ rfl rfl rfl rfl rfl rfl _) rfl ?_|refine cP _ _ (ms a f c d (-1) (-1) 0 (C:Nat) _ _ _ rfl rfl _) rfl ?_|(at_builtin; refine fS 104 aI rfl _ _ rfl rfl rfl rfl ?_))
     go_roundw
     ·exact⟨k+1,by omega,by go_num,x,ar,aq⟩
     simp[intOf]; omega
    have bj:(n==(p:Int))=false:=by simpa using aC
    rw[zK (fun q=>aC q.2),yW] at o
    have x:Hid (ah bC 107 s u3 (fp D p++D.toldP p (D.jb.take (k+1)))):=by show ah _ _ _ _ _; rw[o]; exact aa P
    clear o
    go_wp2_with (refine bU 165 #[a,f,c,d,m,n,j,h] underlying165 rfl (fu ⟨⟨a,f,c,d⟩,m,n,j,h⟩) b (off+k*8) A rfl _ rfl rfl ?_)
    rw[aa Q];clear R A
    go_wp2
    go_roundw
    ·exact⟨k+1,by omega,by go_num,x,u,v⟩
    simp[intOf]; omega
   rw[zK (fun q=>hw q.1),yW] at o
   have x:Hid (ah bC 107 s u3 (fp D p++D.toldP p (D.jb.take (k+1)))):=by show ah _ _ _ _ _; rw[o]; exact aa P
   clear o
   go_wp2_with (refine bU 165 #[a,f,c,d,m,n,j,h] underlying165 rfl (fu ⟨⟨a,f,c,d⟩,m,n,j,h⟩) b (off+k*8) A rfl _ rfl rfl ?_)
   rw[aa Q];clear R A
   go_wp2
   go_roundw
   ·exact⟨k+1,by omega,by go_num,x,u,v⟩
   simp[intOf]; omega
  have L:k=D.jb.length:=by omega
  subst L
  have L:¬((D.jb.length:Int)<D.jb.length):=by omega
  have x:Hid (ah bC 107 wr u3 (fp D (p+1))):=by show ah _ _ _ _ _; rw[fp_succ]; have q:=aa z; rw[zx] at q; exact q
  go_wp2
  go_roundw
  ·exact⟨p+1,by omega,by go_num,x,u,r⟩
  simp[intOf]; omega
 have aD:p=D.ct+1:=by omega
 subst aD
 have aD:¬(((D.ct+1:Nat):Int)<=D.ct):=by omega
 have a4:Hid (∃rv,Ending.returned u3=.returned rv/\ah bC 107 wr rv D.told/\(∀g,rv.ownBlock=some g->w.heap.size<=g)/\Below w.heap.size w wr):=⟨u3,rfl,aa z,aa u,aa r⟩;obtain⟨bp,br,bq,a2⟩:=(aa z).sl;subst a2
 go_wp2
 go_ret;exact aa a4
end
structure Lk where
 a:Int
 b:Int
 c:Int
 d:Int
 e:Int
 f:Int
 g:Int
 h:Int
 i:Int
def Lk.v (k:Lk):Array Value:=#[k.a,k.b,k.c,k.d,k.e,k.f,k.g,k.h,k.i]
def DF.lk (D:DF):Lk:=⟨(D.bs.length:Nat),(D.now:Nat),(D.rq.length:Nat),(bg D.rq ⟨0,0,0,0⟩ true:Nat),(gC D.jb:Nat),(D.jb.length:Int)-(gC D.jb:Nat),(D.en.length:Nat),(aY D.en:Nat),(D.st:Nat)⟩
theorem busy_map:∀a:List (Option Wk),cT a=(a.map (Option.map Wk.f)).countP (·.isSome)
 | []=>rfl
 | o::a=>by
  have b:=busy_map a;unfold cT at b ⊢;rw[zA,List.countP_cons,List.countP_cons,b]
  cases o<;>rfl
section
variable {w:World}{e:EV}{n ob wb:Nat}{O:OL}{o:iH}
theorem xLook (h:cO w n e):Calls prog 61 #[some e.fb] w fun a w'=>a=.returned (.agg e.D.lk.v)/\Below w.heap.size w w':=by
 have z:=h.m.lens;obtain⟨x,y⟩:=h.m.sim.elen;have u:=h.x.wlen;have v:=h.m.ok.wn
 have b:=look_any e.fb e.X e.F.ver e.sl e.pv e.F.LS (ri e.F.PI) e.F.waiting e.F.line e.W e.F.tiles w h.x.blk h.x.mem.sto h.x.mem.wai.at h.x.mem.lin.at h.x.wksAt h.x.mem.til.at (by omega) (by omega) (by omega)
 refine b.mono fun a w' q=>⟨?_,q.2⟩;obtain⟨i,j,k,l,m,p,r,s,t⟩:=h.m.sim.look ⟨0,0,0,0⟩
 have g:(cT e.W:Int)=(e.D.jb.length:Int)-gC e.D.jb:=by
  rw[<-p,busy_map,<-h.x.pu.wks]; rfl
 have c:=h.x.num.nw;have d:=h.x.num.ar;have f:=h.x.num.st;rw[q.1];unfold DF.lk Lk.v;dsimp only;rw[i,c,j,d,k,l,m,g,r,s,f,t]
theorem rLook (h:cO w n e)(d:n<=2000000):Calls prog 62 #[some e.rb] w fun a w'=>a=.returned (.agg e.D.lk.v)/\Below w.heap.size w w':=by
 have c:=h.m.lens;have f:=h.m.rl
 have b:=rLook_any e.D.rq e.D.jb e.D.en h.r.blk h.r.mem h.r.sto h.m.sml (by omega) (by omega) (by omega) (by omega)
 refine b.mono fun a w' q=>⟨?_,q.2⟩;rw[q.1,h.r.num.nw,h.r.num.st];rfl
theorem xFl (h:cO w n e):Calls prog 63 #[some e.fb] w fun a w'=>∃rv,a=.returned rv/\ah bC 107 w' rv e.D.told/\(∀g,rv.ownBlock=some g->w.heap.size<=g)/\Below w.heap.size w w':=by
 have f:=h.x.wlen;have i:=h.m.ok.wn;have j:=h.m.ok.wq;have d:=h.m.ok.q;have c:=h.m.ok.linLe
 have FL:=flights_any e.fb e.X e.F.waiting e.F.line e.W w h.x.blk h.x.mem.wai.at h.x.mem.lin.at h.x.wksAt (fun a b=>(h.m.ok.req a b).2.2.2.1.small) (by omega) (by omega) (by omega)
 refine FL.mono ?_;rintro a w' ⟨⟨rv,e1,e2,e3⟩,hb⟩;refine⟨rv,e1,?_,e3,hb⟩;rw[<-h.x.pu.wks,<-told_eq,h.m.sim.told] at e2;exact e2
theorem rFl (h:cO w n e)(d:n<=400000):Calls prog 64 #[some e.rb] w fun a w'=>∃rv,a=.returned rv/\ah bC 107 w' rv e.D.told/\Below w.heap.size w w':=by
 have c:=h.m.lens;have f:=h.m.rl;have b:=h.m.ct
 have FL:=oI (D:=e.D) h.r.blk h.r.mem h.r.num.wk h.r.num.ct (by omega) (by omega) h.m.sml (by omega) (by omega)
 exact FL.mono fun a w' ⟨rv,e1,e2,_,e4⟩=>⟨rv,e1,e2,e4⟩
theorem nx (h:cO w n e)(bc:io w ob O)(aW:∀k,aX e k->¬OF ob O k)(ba:∀k,OF ob O k->4<=k)(aV:w.cell? ⟨wb,2,none⟩=some (.pointer (some ⟨ob,0,none⟩)))(bp:wb<w.heap.size)(bo:O.GS.length<=10000000)(bv:n<=400000):
  Calls prog 20 #[some wb,.agg #[some e.fb,some e.rb]] w fun x w'=>x=.returned (.bool true)/\∃D,ip w n e ob O w' e D/\D.RS.length=O.RS.length:=by
 obtain⟨w1,K⟩:∃w1,w.alloc (.cells #[some e.fb,some e.rb] 59)=w1:=⟨_,rfl⟩;have ak:Below w.heap.size w w1:=K▸aj w (.cells #[some e.fb,some e.rb] 59);have J:w1.heap[w.heap.size]?=some (.cells #[some e.fb,some e.rb] 59):=K▸zZ w (.cells #[some e.fb,some e.rb] 59);have bI:=an J;have ar:∀d,Below w1.heap.size w1 d->d.cell? ⟨w.heap.size,0,none⟩=some (.pointer (some ⟨e.fb,0,none⟩))/\d.cell? ⟨w.heap.size,1,none⟩=some (.pointer (some ⟨e.rb,0,none⟩)):=fun d f=>⟨(af (ag J f) 0).trans rfl,(af (ag J f) 1).trans rfl⟩;have au:=(ar w1 bu).1;have ap:=ae ar;obtain⟨a,bb⟩:∃a:Lk,e.D.lk=a:=⟨_,rfl⟩;have aq:=xLook (h.on ak)
 have a7:=ae (fun(d:World) (f:Below w.heap.size w d)=>rLook (h.on f) (by omega))
 have XF:=ae (fun(d:World) (f:Below w.heap.size w d)=>xFl (h.on f));have bm:=ae (fun(d:World) (f:Below w.heap.size w d)=>rFl (h.on f) bv);rw[bb] at aq a7;have bl:=ae K;have aK:=ae ak;have a4:=ae h;have a5:=ae bc;have bi:=ae aW;have bq:=ae ba;have bh:=ae aV;clear ar K ak J h bc aW ba aV bb;go_enter func20,ntmps20
 go_wp2_with fail
 rw[aa bl];refine aq.mono ?_;rintro x u ⟨rfl,al⟩;obtain⟨b,H⟩:∃b,u.alloc (.cells a.v 113)=b:=⟨_,rfl⟩;have C:Below u.heap.size u b:=H▸aj u (.cells a.v 113);have a1:b.heap[u.heap.size]?=some (.cells a.v 113):=H▸zZ u (.cells a.v 113);have F:Below w1.heap.size w1 b:=al.trans (C.mono al.size);have av:=(aa ap b F).2;have l:Below w.heap.size w b:=(aa aK).trans (F.mono (aa aK).size);have ac:=aa a7 b l;have R:=ae F;have i:=ae l;have I:=ae a1;clear aq al C a1 F l au;unfold Lk.v at H I ac ⊢
 go_wp2_with fail
 clear H;refine ac.mono ?_;rintro x v ⟨rfl,am⟩;obtain⟨a8,aZ⟩:∃a8,u.heap.size=a8:=⟨_,rfl⟩;rw[aZ] at I ⊢;obtain⟨m,Z⟩:∃m,v.alloc (.cells #[a.a,a.b,a.c,a.d,a.e,a.f,a.g,a.h,a.i] 113)=m:=⟨_,rfl⟩;have C:Below v.heap.size v m:=Z▸aj v (.cells #[a.a,a.b,a.c,a.d,a.e,a.f,a.g,a.h,a.i] 113);have a2:m.heap[v.heap.size]?=some (.cells #[a.a,a.b,a.c,a.d,a.e,a.f,a.g,a.h,a.i] 113):=Z▸zZ v (.cells #[a.a,a.b,a.c,a.d,a.e,a.f,a.g,a.h,a.i] 113);have G:Below b.heap.size b m:=am.trans (C.mono am.size);have V:=(aa R).trans (G.mono (aa R).size);have l:=(aa i).trans (G.mono (aa i).size);have aH:=ag (aa I) G;have au:=(aa ap m V).1;have aT:=aa XF m l;have S:=ae V;have i:=ae l;have ab:=ae a2;have aN:=ae aH;clear ac am C a2 G V l aH av aZ I R
 go_wp2_with fail
 clear Z;refine aT.mono ?_;rintro x bf ⟨rv,rfl,t,be,y⟩;obtain⟨a9,a0⟩:∃a9,v.heap.size=a9:=⟨_,rfl⟩;rw[a0] at ab ⊢;have W:=(aa S).trans (y.mono (aa S).size);have X:=(aa i).trans (y.mono (aa i).size);have av:=(aa ap bf W).2;have aR:=aa bm bf X;have bH:=(aa i).size
 have aY:∀g,rv.ownBlock=some g->w.heap.size<=g:=fun g r=>by have:=be g r; omega
 have bg:=ae W;have T:=ae X;have ax:=ae (ag (aa aN) y);have aO:=ae (ag (aa ab) y);have aP:=ae t;have aM:=ae aY;obtain⟨N,Q,P,rfl⟩:=t.sl;clear aT y t be W X aY S i aN ab au a0
 go_wp2_with fail
 refine aR.mono ?_;rintro x bK ⟨bJ,rfl,aw,A⟩;have t:=(aa aP).on A;have aS:=gQ t.at aw.at;have aF:=(aa T).trans (A.mono (aa T).size);have U:=ae aF;have ay:=ae (ag (aa ax) A);have aA:=ae (ag (aa aO) A);have aD:=ae t;obtain⟨bL,bN,bM,rfl⟩:=aw.sl;clear aR A t aw aF T ax aO aP av bg
 go_wp2_with fail
 refine aS.mono ?_;rintro x M ⟨rfl,B⟩;have Y:=(aa U).trans (B.mono (aa U).size);have j:=(mo (aa a4) Y).est (aa a5) (aa bi);have br:M.cell? ⟨wb,2,none⟩=some (.pointer (some ⟨ob,0,none⟩)):=(Y.cell (p:=⟨wb,2,none⟩) bp).trans (aa bh);have L:=(aa aD).on B
 have a6:=keepG_any j.own L (fun s bw g r q=>by
  have bO:=aa aM g q;have bP:=bA.lt (aa a5) (k:=g) (Or.inr (Or.inr (Or.inr (Or.inr (Or.inr (Or.inr ⟨s,Or.inr (Or.inr (Or.inr (Or.inl bw))),r⟩))))));omega) bo
 have ai:fQ (fun k=>(Value.slice N Q P).ownBlock=some k) M [107]:=fun k bt=>by
  obtain⟨c,E⟩:=L.ty bt
  exact⟨_,_,E,by simp⟩
 have a3:∀k,(Value.slice N Q P).ownBlock=some k->¬aX e k:=fun k q bD=>by
  rcases bD with z|z
  ·exact fQ.no ai j.desk.x.ty (by decide) q z
  exact fQ.no ai j.desk.r.ty (by decide) q z
 have aG:=ag (aa ay) B;have aJ:=ag (aa aA) B;have aL:=ae j;have bk:=ae a3;have az:=ae aG;have aB:=ae aJ
 have aC:=ae (show ∀(g:Nat) (cs:Array Value),M.heap[g]?=some (.cells cs 113)->¬(g=ob\/O.V.gv.ownBlock=some g\/(Value.slice N Q P).ownBlock=some g) from fun g cs r q=>by
  rcases q with rfl|q|q
  ·exact aI j.own.blk r (by decide) rfl
  ·obtain⟨c,E⟩:=j.own.g.ty q; exact aI E r (by decide) rfl
  obtain⟨c,E⟩:=L.ty q; exact aI E r (by decide) rfl)
 clear aS B Y j L ai a3 aG aJ U ay aA aD
 go_wp2_with fail
 refine a6.mono ?_;intro x bG ah
 have ad:aE (fun k=>k=ob\/O.V.gv.ownBlock=some k\/(Value.slice N Q P).ownBlock=some k) M bG:=by obtain⟨_,_,_,_,_,bs,_⟩:=ah; exact bs
 have bE:=ao (aQ (aa az) ad (aa aC _ _ (aa az)));have bF:=ao (aQ (aa aB) ad (aa aC _ _ (aa aB)))
 obtain⟨rfl,D,aU,bx,bz,bd,bB,bC⟩:=ip.keepG (aa aL) (aa bq) (aa a4).x.glb.1 (fun k q=>⟨aa aM k q,aa bk k q⟩) ah ⟨by omega,by omega,by omega,by omega,by omega⟩
 have bj:=ae aU
 have bn:D.RS.length=O.RS.length:=by rw[bd]
 clear ah ad aU a6 br aL bx bz bd bB bC
 go_wp2_with (first|refine bU 113 _ underlying113 rfl (sz113 _ _ _ _ _ _ _ _ _) _ _ bE rfl _ rfl rfl ?_|refine bU 113 _ underlying113 rfl (sz113 _ _ _ _ _ _ _ _ _) _ _ bF rfl _ rfl rfl ?_)
 go_ret;exact⟨rfl,D,aa bj,bn⟩
end
def mW (q wt ch ca n:Nat):FM:=⟨q,wt,ch,ca,0,0,0,0,[],fun _=>[],[],[],[],List.replicate n none,[]⟩
theorem fls_new (q wt ch ca n:Nat):(mW q wt ch ca n).fls=[]:=by
 unfold FM.fls mW;simp only
 induction n with
 | zero=>rfl
 | succ n a=>rw[List.replicate_succ]; exact a
theorem fver_new:FVer [] 0 (fun _=>[]):=⟨fun v b=>by
 obtain rfl:v=0:=by omega
 exact⟨relV_nil,fun f a=>by simp at a⟩,oG,fun i hi=>by simp at hi,by simp⟩
theorem bW (n a b:Int)(w:World)(c:a<=n)(d:n<=b):Calls prog 112 #[n,a,b] w fun e w'=>e=.returned (.bool true)/\w=w':=by
 go_enter func112,ntmps112
 go_wp2
 go_ret;exact⟨rfl,rfl⟩
theorem sz23 (a b c d e:Int):(prog.info? 42).map (·.size)=some (#[Value.int .i64 a,Value.int .i64 b,Value.int .i64 c,Value.int .i64 d,Value.int .i64 e]:Array Value).size:=by kernel_rfl
theorem isRight_yes (q wk wt ca ch:Int)(w:World)(f:1<=q/\q<=8)(hw:1<=wk/\wk<=4)(g:1<=wt/\wt<=50)(c:0<=ca/\ca<=2000)(d:1<=ch/\ch<=8):
  Calls prog 66 #[.agg #[q,wk,wt,ca,ch]] w fun e w'=>e=.returned (.bool true)/\Below w.heap.size w w':=by
 have a:=zZ w (.cells #[q,wk,wt,ca,ch] 42);have b:=(zV w.heap.size w).alloc aD (.cells #[q,wk,wt,ca,ch] 42);have i:=(af a 0).trans rfl;have j:=(af a 1).trans rfl;have k:=(af a 2).trans rfl;have l:=(af a 3).trans rfl;have m:=(af a 4).trans rfl;have h:=ae b;clear a b;go_enter func66,ntmps66
 go_wp2_with fail
 refine(bW q 1 8 _ f.1 f.2).mono ?_;rintro e w1 ⟨rfl,rfl⟩
 go_wp2_with fail
 refine(bW wk 1 4 _ hw.1 hw.2).mono ?_;rintro e w1 ⟨rfl,rfl⟩
 go_wp2_with fail
 refine(bW wt 1 50 _ g.1 g.2).mono ?_;rintro e w1 ⟨rfl,rfl⟩
 go_wp2_with fail
 refine(bW ca 0 2000 _ c.1 c.2).mono ?_;rintro e w1 ⟨rfl,rfl⟩
 go_wp2_with fail
 refine(bW ch 1 8 _ d.1 d.2).mono ?_;rintro e w1 ⟨rfl,rfl⟩
 go_wp2
 go_ret;exact⟨rfl,aa h⟩
theorem mk94_1 (ev:Operand->Value)(o:Oper)(x:Operand)(a:o.op=.makeSlice 122 x x)(b:ev x=.int .i64 1)(w:World):(execOp ev o).run prog w=.ok (.value (.slice (some ⟨w.heap.size,0,none⟩) 1 1)) (w.alloc (.cells (Array.replicate 1 (.pointer none)) 166)):=by
 unfold execOp;simp only[a];simp only[b]
 kernel_rfl
theorem mk94_2 (ev:Operand->Value)(o:Oper)(x:Operand)(a:o.op=.makeSlice 122 x x)(b:ev x=.int .i64 2)(w:World):(execOp ev o).run prog w=.ok (.value (.slice (some ⟨w.heap.size,0,none⟩) 2 2)) (w.alloc (.cells (Array.replicate 2 (.pointer none)) 166)):=by
 unfold execOp;simp only[a];simp only[b]
 kernel_rfl
theorem mk94_3 (ev:Operand->Value)(o:Oper)(x:Operand)(a:o.op=.makeSlice 122 x x)(b:ev x=.int .i64 3)(w:World):(execOp ev o).run prog w=.ok (.value (.slice (some ⟨w.heap.size,0,none⟩) 3 3)) (w.alloc (.cells (Array.replicate 3 (.pointer none)) 166)):=by
 unfold execOp;simp only[a];simp only[b]
 kernel_rfl
theorem mk94_4 (ev:Operand->Value)(o:Oper)(x:Operand)(a:o.op=.makeSlice 122 x x)(b:ev x=.int .i64 4)(w:World):(execOp ev o).run prog w=.ok (.value (.slice (some ⟨w.heap.size,0,none⟩) 4 4)) (w.alloc (.cells (Array.replicate 4 (.pointer none)) 166)):=by
 unfold execOp;simp only[a];simp only[b]
 kernel_rfl
theorem mk94 (n:Nat)(c:1<=n/\n<=4)(ev:Operand->Value)(o:Oper)(x:Operand)(a:o.op=.makeSlice 122 x x)(b:ev x=.int .i64 n)(w:World):(execOp ev o).run prog w=.ok (.value (.slice (some ⟨w.heap.size,0,none⟩) n n)) (w.alloc (.cells (Array.replicate n (.pointer none)) 166)):=by
 have h:n=1\/n=2\/n=3\/n=4:=by omega
 rcases h with rfl|rfl|rfl|rfl
 ·exact mk94_1 ev o x a b w
 ·exact mk94_2 ev o x a b w
 ·exact mk94_3 ev o x a b w
 exact mk94_4 ev o x a b w
theorem built97 (c:Int):prog.built 125 [(0,.int .i64 c)]=some #[.int .i64 c,.slice none 0 0]:=by kernel_rfl
theorem bt97 (c:Int)(ev:Operand->Value)(o:Oper)(a:Operand)(e:o.op=.build 125 #[(0,a)])(b:ev a=.int .i64 c)(w:World):(execOp ev o).run prog w=.ok (.value (.agg #[.int .i64 c,.slice none 0 0])) w:=by
 have d:=run_build (P:=prog) w 125 #[(0,.int .i64 c)] _ (built97 c);unfold execOp;simp[e,b,d]
theorem built99 (q wt ch ca:Int)(b a n:Nat):prog.built 129 [(0,.int .i64 q),(1,.int .i64 wt),(2,.int .i64 ch),(6,.pointer (some ⟨b,0,none⟩)),(9,.slice (some ⟨a,0,none⟩) n n),(10,.agg #[.int .i64 ca,.slice none 0 0])]=some #[.int .i64 q,.int .i64 wt,.int .i64 ch,.int .i64 0,.int .i64 0,.int .i64 0,.pointer (some ⟨b,0,none⟩),.slice none 0 0,.slice none 0 0,.slice (some ⟨a,0,none⟩) n n,.int .i64 ca,.slice none 0 0]:=by kernel_rfl
theorem bt99 (q wt ch ca:Int)(b a n:Nat)(ev:Operand->Value)(o:Oper)(c d e f g h:Operand)(s:o.op=.build 129 #[(0,c),(1,d),(2,e),(6,f),(9,g),(10,h)])(i:ev c=.int .i64 q)(j:ev d=.int .i64 wt)(k:ev e=.int .i64 ch)(l:ev f=.pointer (some ⟨b,0,none⟩))(m:ev g=.slice (some ⟨a,0,none⟩) n n)(p:ev h=.agg #[.int .i64 ca,.slice none 0 0])(w:World):(execOp ev o).run prog w=.ok (.value (.agg #[.int .i64 q,.int .i64 wt,.int .i64 ch,.int .i64 0,.int .i64 0,.int .i64 0,some b,.slice none 0 0,.slice none 0 0,.slice (some ⟨a,0,none⟩) n n,.int .i64 ca,.slice none 0 0])) w:=by
 have r:=run_build (P:=prog) w 129 #[(0,.int .i64 q),(1,.int .i64 wt),(2,.int .i64 ch),(6,.pointer (some ⟨b,0,none⟩)),(9,.slice (some ⟨a,0,none⟩) n n),(10,.agg #[.int .i64 ca,.slice none 0 0])] _ (built99 q wt ch ca b a n);unfold execOp;simp[s,i,j,k,l,m,p,r]
theorem bx99 (q wt ch ca:Int)(b a n:Nat)(ev:Operand->Value)(o:Oper)(x:Operand)(c:o.op=.box 129 x)(d:ev x=.agg #[q,wt,ch,(),(),(),some b,.slice none 0 0,.slice none 0 0,.slice (some ⟨a,0,none⟩) n n,ca,.slice none 0 0])(w:World):(execOp ev o).run prog w=.ok (.value (.pointer (some ⟨w.heap.size,0,none⟩))) (w.alloc (.cells #[q,wt,ch,(),(),(),some b,.slice none 0 0,.slice none 0 0,.slice (some ⟨a,0,none⟩) n n,ca,.slice none 0 0] 129)):=by
 unfold execOp;simp only[c,d]
 kernel_rfl
theorem fro_new {w:World}{fb b a q wt ch ca n:Nat}(f:w.heap[fb]?=some (.cells #[(q:Int),(wt:Int),(ch:Int),(),(),(),some b,.slice none 0 0,.slice none 0 0,.slice (some ⟨a,0,none⟩) n n,(ca:Int),.slice none 0 0] 129))(l:w.heap[b]?=some (.cells #[(),(),.slice none 0 0,.slice none 0 0] 119))(d:w.heap[a]?=some (.cells (Array.replicate n (.pointer none)) 166))(r:1<=n/\n<=4)(g:Glb w)(m:4<=fb)(o:4<=b)(p:4<=a):eR w fb (fun k=>k=fb\/k=b\/k=a) (mW q wt ch ca n):=by
 have e:∀k,aw fb ⟨q,wt,ch,0,0,0,b,.slice none 0 0,.slice none 0 0,.slice (some ⟨a,0,none⟩) n n,ca,.slice none 0 0⟩ (.slice none 0 0) (.slice none 0 0) (List.replicate n none) k->k=fb\/k=b\/k=a:=fun k d=>d.elim (P:=fun k=>k=fb\/k=b\/k=a) (Or.inl rfl) (Or.inr (Or.inl rfl)) (fun _ q=>by simp[Value.ownBlock] at q) (fun _ q=>by simp[Value.ownBlock] at q) (fun _ q=>by simp[Value.ownBlock] at q) (fun _ q=>by simp[Value.ownBlock] at q) (fun k q=>by simp only[Value.ownBlock,zy] at q; exact Or.inr (Or.inr q.symm)) (fun _ q=>by simp[Value.ownBlock] at q) (fun i u c=>by
  have:=zR c;rw[List.mem_replicate] at this;cases this.2)
 refine⟨⟨q,wt,ch,0,0,0,b,.slice none 0 0,.slice none 0 0,.slice (some ⟨a,0,none⟩) n n,ca,.slice none 0 0⟩,.slice none 0 0,.slice none 0 0,List.replicate n none,⟨f,⟨rfl,rfl,rfl,rfl,rfl,rfl,rfl⟩,⟨?_,fun i u c=>?_,fun i j u v _ c=>?_⟩,fver_new,⟨⟨l,jQ _ _ _ _,jQ _ _ _ _⟩,aU,aU,aU,?_,fun i u c=>?_⟩,g,fun k d=>?_⟩,e⟩
 ·show List.replicate n none=(List.replicate n none).map (Option.map Wk.f)
  rw[List.map_replicate]; rfl
 ·have:=zR c
  rw[List.mem_replicate] at this;cases this.2
 ·have:=zR c
  rw[List.mem_replicate] at this;cases this.2
 ·refine Or.inr ⟨a,0,n,Array.replicate n (.pointer none),by simp,d,by simp,by unfold maxLen; omega,by simp[fK],?_⟩
  have h:n=1\/n=2\/n=3\/n=4:=by omega
  rcases h with rfl|rfl|rfl|rfl<;>rfl
 ·have:=zR c
  rw[List.mem_replicate] at this;cases this.2
 rcases e k d with rfl|rfl|rfl
 ·exact m
 ·exact o
 exact p
theorem front_new (q n wt ca ch:Nat)(w:World)(az:1<=q/\q<=8)(aj:1<=n/\n<=4)(aA:1<=wt/\wt<=50)(ax:ca<=2000)(ay:1<=ch/\ch<=8)(M:Glb w):
  Calls prog 23 #[.agg #[(q:Int),(n:Int),(wt:Int),(ca:Int),(ch:Int)]] w fun e w'=>∃fb r,e=.returned (.tuple #[some fb,()])/\eR w' fb r (mW q wt ch ca n)/\(∀k,r k->w.heap.size<=k)/\Below w.heap.size w w':=by
 obtain⟨w1,j⟩:∃w1,w.alloc (.cells #[(q:Int),(n:Int),(wt:Int),(ca:Int),(ch:Int)] 42)=w1:=⟨_,rfl⟩;have L:w1.heap[w.heap.size]?=some (.cells #[(q:Int),(n:Int),(wt:Int),(ca:Int),(ch:Int)] 42):=j▸zZ w (.cells #[(q:Int),(n:Int),(wt:Int),(ca:Int),(ch:Int)] 42);have Y:Below w.heap.size w w1:=j▸(zV w.heap.size w).alloc aD (.cells #[(q:Int),(n:Int),(wt:Int),(ca:Int),(ch:Int)] 42);have ac:=ao L
 have Q:(w.alloc (.cells #[(q:Int),(n:Int),(wt:Int),(ca:Int),(ch:Int)] 42)).rangeAt w.heap.size 0 (#[(q:Int),(n:Int),(wt:Int),(ca:Int),(ch:Int)]:Array Value).toList:=by rw[j]; exact ac
 have A:=isRight_yes q n wt ca ch w1 (by omega) (by omega) (by omega) (by omega) (by omega)
 rw[<-j] at A;have U:=ae j;have ad:=ae L;have t:=ae Y;have aw:=M.1;have ah:=ae M;clear j L Y ac M;go_enter func23,ntmps23
 go_wp2_with (refine bU 42 _ underlying42 rfl (sz23 _ _ _ _ _) _ _ Q rfl _ rfl rfl ?_)
 rw[aa U] at A ⊢;refine A.mono ?_;rintro e h ⟨rfl,u⟩;clear A Q
 have ai:=New_any 0 h (by omega)
 go_wp2_with fail
 refine ai.mono ?_;rintro e l ⟨rfl,K⟩;have I:l.heap[h.heap.size]?=some (.cells #[(),(),.slice none 0 0,.slice none 0 0] 119):=K▸zZ h (.cells #[(),(),.slice none 0 0,.slice none 0 0] 119);have F:Below h.heap.size h l:=K▸(zV h.heap.size h).alloc aD (.cells #[(),(),.slice none 0 0,.slice none 0 0] 119)
 have ak:w.heap.size<=h.heap.size:=by have:=(aa t).size; have:=u.size; omega
 have W:=ag (ag (aa ad) u) F;have P:Below w.heap.size w l:=((aa t).trans (u.mono (aa t).size)).trans (F.mono ak);obtain⟨d,an⟩:∃d,h.heap.size=d:=⟨_,rfl⟩;rw[an] at I ⊢;have T:=ae I;have R:=ae W;have B:=ae P;clear K F u I W P ai ad t U
 go_wp2_with fail
 refine z8 (S:=fun w'=>w'.heap[w.heap.size]?=some (.cells #[(q:Int),(n:Int),(wt:Int),(ca:Int),(ch:Int)] 42)) (by kernel_rfl) ?_
 change wpAnyH _ _ _ _ _ _ _ _ (World.drew _);have v:=zE (zV l.heap.size l);have b:=ag (aa R) v;have J:=ag (aa T) v;have s:=(aa B).trans (v.mono (aa B).size);clear T R B v;generalize World.drew l=f at b J s ⊢;obtain⟨a,y⟩:∃a,f.alloc (.cells (Array.replicate n (.pointer none)) 166)=a:=⟨_,rfl⟩;have m:Below f.heap.size f a:=y▸(zV f.heap.size f).alloc aD (.cells (Array.replicate n (.pointer none)) 166);have H:a.heap[f.heap.size]?=some (.cells (Array.replicate n (.pointer none)) 166):=y▸zZ f (.cells (Array.replicate n (.pointer none)) 166);have D:=ag b m;have al:=s.size;obtain⟨c,ab⟩:∃c,f.heap.size=c:=⟨_,rfl⟩;have ap:=ae (show ∀(ev:Operand->Value) (o:Oper) (x:Operand),o.op=.makeSlice 122 x x->ev x=.int .i64 n->(execOp ev o).run prog f=.ok (.value (.slice (some ⟨c,0,none⟩) n n)) a from fun ev o x N O=>ab▸y▸mk94 n aj ev o x N O f);rw[ab] at H;obtain⟨i,z⟩:∃i,a.alloc (.cells #[(q:Int),(wt:Int),(ch:Int),(),(),(),some d,.slice none 0 0,.slice none 0 0,.slice (some ⟨c,0,none⟩) n n,(ca:Int),.slice none 0 0] 129)=i:=⟨_,rfl⟩;have p:Below a.heap.size a i:=z▸(zV a.heap.size a).alloc aD (.cells #[(q:Int),(wt:Int),(ch:Int),(),(),(),some d,.slice none 0 0,.slice none 0 0,.slice (some ⟨c,0,none⟩) n n,(ca:Int),.slice none 0 0] 129);have G:i.heap[a.heap.size]?=some (.cells #[(q:Int),(wt:Int),(ch:Int),(),(),(),some d,.slice none 0 0,.slice none 0 0,.slice (some ⟨c,0,none⟩) n n,(ca:Int),.slice none 0 0] 129):=z▸zZ a (.cells #[(q:Int),(wt:Int),(ch:Int),(),(),(),some d,.slice none 0 0,.slice none 0 0,.slice (some ⟨c,0,none⟩) n n,(ca:Int),.slice none 0 0] 129);have E:=ag D p;obtain⟨fb,Z⟩:∃fb,a.heap.size=fb:=⟨_,rfl⟩;have ar:=ae (show ∀(ev:Operand->Value) (o:Oper) (x:Operand),o.op=.box 129 x->ev x=.agg #[(q:Int),(wt:Int),(ch:Int),(),(),(),some d,.slice none 0 0,.slice none 0 0,.slice (some ⟨c,0,none⟩) n n,(ca:Int),.slice none 0 0]->(execOp ev o).run prog a=.ok (.value (.pointer (some ⟨fb,0,none⟩))) i from fun ev o x N O=>Z▸z▸bx99 q wt ch ca d c n ev o x N O a);rw[Z] at G;have av:=m.size
 have C:Below w.heap.size w i:=(s.trans (m.mono al)).trans (p.mono (by omega))
 have X:=fro_new (q:=q) (wt:=wt) (ch:=ch) (ca:=ca) G (ag (ag J m) p) (ag H p) aj ((aa ah).on C) (by omega) (by omega) (by omega)
 have aq:Hid (∃V r,Ending.returned (.tuple #[some fb,()])=.returned (.tuple #[some V,()])/\eR i V r (mW q wt ch ca n)/\(∀k,r k->w.heap.size<=k)/\Below w.heap.size w i):=⟨fb,_,rfl,X,fun k au=>by
  rcases au with rfl|rfl|rfl<;>omega,C⟩
 clear X C G H m p J s y z ah;refine am 0 rfl w.heap.size 0 b ?_
 refine aH 1 rfl (.int .i64 q) b ?_ (hy:=fun w' g=>by simp[go_sem,af g])
 refine am 2 rfl w.heap.size 2 b ?_
 refine aH 3 rfl (.int .i64 wt) b ?_ (hy:=fun w' g=>by simp[go_sem,af g])
 refine am 4 rfl w.heap.size 4 b ?_
 refine aH 5 rfl (.int .i64 ch) b ?_ (hy:=fun w' g=>by simp[go_sem,af g])
 refine am 6 rfl d 0 b ?_;refine am 7 rfl w.heap.size 1 b ?_
 refine aH 8 rfl (.int .i64 n) b ?_ (hy:=fun w' g=>by simp[go_sem,af g])
 refine am 10 rfl w.heap.size 3 b ?_
 refine aH 11 rfl (.int .i64 ca) b ?_ (hy:=fun w' g=>by simp[go_sem,af g])
 refine aH 12 rfl (.agg #[(ca:Int),.slice none 0 0]) b ?_ (hy:=fun w' _=>bt97 ca _ _ _ rfl rfl w');refine aV 9 ?_;refine bI 9 rfl rfl (.slice (some ⟨c,0,none⟩) n n) (a) (aa ap _ _ _ rfl rfl) (D) ?_;simp only[qZ];refine aH 13 rfl (.agg #[(q:Int),(wt:Int),(ch:Int),(),(),(),some d,.slice none 0 0,.slice none 0 0,.slice (some ⟨c,0,none⟩) n n,(ca:Int),.slice none 0 0]) D ?_ (hy:=fun w' _=>bt99 q wt ch ca d c n _ _ _ _ _ _ _ _ rfl rfl rfl rfl rfl rfl rfl w');refine aV 14 ?_;refine bI 14 rfl rfl (.pointer (some ⟨fb,0,none⟩)) (i) (aa ar _ _ _ rfl rfl) (E) ?_;simp only[qZ];refine am 15 rfl fb 0 E ?_;refine aH 16 rfl (.int .i64 0) E ?_
 refine zm (by kernel_rfl) ?_ _
 go_wp2
 go_ret2
 exact aa aq
def kN (q wk wt ca ch:Int):Prop:=(1<=q/\q<=8)/\(1<=wk/\wk<=4)/\(1<=wt/\wt<=50)/\(0<=ca/\ca<=2000)/\(1<=ch/\ch<=8)
theorem eM (n a b:Int)(w:World)(h:¬(a<=n/\n<=b)):Calls prog 112 #[n,a,b] w fun e w'=>e=.returned (.bool false)/\w=w':=by
 by_cases c:a<=n
 ·have d:¬n<=b:=fun q=>h ⟨c,q⟩
  clear h;go_enter func112,ntmps112
  go_wp2
  go_ret;exact⟨rfl,rfl⟩
 clear h;go_enter func112,ntmps112
 go_wp2
 go_ret;exact⟨rfl,rfl⟩
theorem in_yes (n a b:Int)(w:World)(c:a<=n)(d:n<=b):Calls prog 67 #[n,a,b] w fun e w'=>e=.returned (.bool true)/\w=w':=by
 go_enter func67,ntmps67
 go_wp2
 go_ret;exact⟨rfl,rfl⟩
theorem in_no (n a b:Int)(w:World)(h:¬(a<=n/\n<=b)):Calls prog 67 #[n,a,b] w fun e w'=>e=.returned (.bool false)/\w=w':=by
 by_cases c:a<=n
 ·have d:¬n<=b:=fun q=>h ⟨c,q⟩
  clear h;go_enter func67,ntmps67
  go_wp2
  go_ret;exact⟨rfl,rfl⟩
 clear h;go_enter func67,ntmps67
 go_wp2
 go_ret;exact⟨rfl,rfl⟩
theorem mb (n a b:Int)(w:World):Calls prog 67 #[n,a,b] w fun e w'=>e=.returned (.bool (decide (a<=n/\n<=b)))/\w=w':=by
 by_cases h:a<=n/\n<=b
 ·rw[zU h]; exact in_yes n a b w h.1 h.2
 rw[zG h]; exact in_no n a b w h
section
variable {w:World}
theorem isRight_no (q wk wt ca ch:Int)(w:World)(h:¬kN q wk wt ca ch):
  Calls prog 66 #[.agg #[q,wk,wt,ca,ch]] w fun e w'=>e=.returned (.bool false)/\Below w.heap.size w w':=by
 have g:=zZ w (.cells #[q,wk,wt,ca,ch] 42);have j:=(zV w.heap.size w).alloc aD (.cells #[q,wk,wt,ca,ch] 42);have m:=(af g 0).trans rfl;have n:=(af g 1).trans rfl;have o:=(af g 2).trans rfl;have p:=(af g 3).trans rfl;have r:=(af g 4).trans rfl;have i:=ae j;have l:=ae h;clear g j h
 by_cases a:1<=q/\q<=8
 ·go_enter func66,ntmps66
  go_wp2_with fail
  refine(bW q 1 8 _ a.1 a.2).mono ?_;rintro e w1 ⟨rfl,rfl⟩
  by_cases c:1<=wk/\wk<=4
  ·go_wp2_with fail
   refine(bW wk 1 4 _ c.1 c.2).mono ?_;rintro e w1 ⟨rfl,rfl⟩
   by_cases d:1<=wt/\wt<=50
   ·go_wp2_with fail
    refine(bW wt 1 50 _ d.1 d.2).mono ?_;rintro e w1 ⟨rfl,rfl⟩
    by_cases f:0<=ca/\ca<=2000
    focus
     go_wp2_with fail
     refine(bW ca 0 2000 _ f.1 f.2).mono ?_;rintro e w1 ⟨rfl,rfl⟩;have k:¬(1<=ch/\ch<=8):=fun z=>aa l ⟨a,c,d,f,z⟩;have b:=eM ch 1 8 (w.alloc (.cells #[q,wk,wt,ca,ch] 42)) k;clear a c d f k
    rotate_left
    focus
     have b:=eM ca 0 2000 (w.alloc (.cells #[q,wk,wt,ca,ch] 42)) f;clear a c d f
    all_goals
     go_wp2_with fail
     refine b.mono ?_;rintro e w1 ⟨rfl,rfl⟩
     go_wp2
     go_ret;exact⟨rfl,aa i⟩
   have b:=eM wt 1 50 (w.alloc (.cells #[q,wk,wt,ca,ch] 42)) d;clear a c d
   go_wp2_with fail
   refine b.mono ?_;rintro e w1 ⟨rfl,rfl⟩
   go_wp2
   go_ret;exact⟨rfl,aa i⟩
  have b:=eM wk 1 4 (w.alloc (.cells #[q,wk,wt,ca,ch] 42)) c;clear a c
  go_wp2_with fail
  refine b.mono ?_;rintro e w1 ⟨rfl,rfl⟩
  go_wp2
  go_ret;exact⟨rfl,aa i⟩
 have b:=eM q 1 8 (w.alloc (.cells #[q,wk,wt,ca,ch] 42)) a;clear a;go_enter func66,ntmps66
 go_wp2_with fail
 refine b.mono ?_;rintro e w1 ⟨rfl,rfl⟩
 go_wp2
 go_ret;exact⟨rfl,aa i⟩
theorem front_no (q wk wt ca ch:Int)(w:World)(h:¬kN q wk wt ca ch):
  Calls prog 23 #[.agg #[q,wk,wt,ca,ch]] w fun e w'=>e=.returned (.tuple #[.pointer none,(15:Int)])/\Below w.heap.size w w':=by
 have f:=zZ w (.cells #[q,wk,wt,ca,ch] 42);have g:=aj w (.cells #[q,wk,wt,ca,ch] 42);have b:=ao f;have d:=isRight_no q wk wt ca ch (w.alloc (.cells #[q,wk,wt,ca,ch] 42)) h;have c:=ae g;clear f g h;go_enter func23,ntmps23
 go_wp2_with (refine bU 42 _ underlying42 rfl (sz23 _ _ _ _ _) _ _ b rfl _ rfl rfl ?_)
 refine d.mono ?_;rintro e j ⟨rfl,a⟩;have i:=ae ((aa c).trans (a.mono (aa c).size));clear d b a
 go_wp2
 go_ret2
 exact⟨rfl,aa i⟩
end
theorem built121:prog.built 121 []=some #[.int .i64 0,.slice none 0 0,.slice none 0 0]:=by kernel_rfl
theorem bt121 (ev:Operand->Value)(o:Oper)(b:o.op=.build 121 #[])(w:World):(execOp ev o).run prog w=.ok (.value (.agg #[.int .i64 0,.slice none 0 0,.slice none 0 0])) w:=by
 have a:=run_build (P:=prog) w 121 #[] _ built121;unfold execOp;simp[b,a]
theorem bx121 (ev:Operand->Value)(o:Oper)(x:Operand)(a:o.op=.box 121 x)(b:ev x=.agg #[(),.slice none 0 0,.slice none 0 0])(w:World):(execOp ev o).run prog w=.ok (.value (.pointer (some ⟨w.heap.size,0,none⟩))) (w.alloc (.cells #[(),.slice none 0 0,.slice none 0 0] 121)):=by
 unfold execOp;simp only[a,b]
 kernel_rfl
theorem built135 (q wk wt ca ch:Int)(a:Nat):prog.built 135 [(0,.agg #[q,wk,wt,ca,ch]),(1,.pointer (some ⟨a,0,none⟩))]=some (RV.a ⟨q,wk,wt,ca,ch,a,0,0,0,.slice none 0 0,.slice none 0 0,.slice none 0 0⟩):=by kernel_rfl
theorem bt135 (q wk wt ca ch:Int)(a:Nat)(ev:Operand->Value)(o:Oper)(b c:Operand)(g:o.op=.build 135 #[(0,b),(1,c)])(d:ev b=.agg #[q,wk,wt,ca,ch])(e:ev c=.pointer (some ⟨a,0,none⟩))(w:World):(execOp ev o).run prog w=.ok (.value (.agg (RV.a ⟨q,wk,wt,ca,ch,a,0,0,0,.slice none 0 0,.slice none 0 0,.slice none 0 0⟩))) w:=by
 have f:=run_build (P:=prog) w 135 #[(0,.agg #[q,wk,wt,ca,ch]),(1,.pointer (some ⟨a,0,none⟩))] _ (built135 q wk wt ca ch a);unfold execOp;simp[g,d,e,f]
theorem bx135 (X:RV)(ev:Operand->Value)(o:Oper)(x:Operand)(a:o.op=.box 135 x)(b:ev x=.agg X.a)(w:World):(execOp ev o).run prog w=.ok (.value (.pointer (some ⟨w.heap.size,0,none⟩))) (w.alloc (.cells X.a 135)):=by
 unfold execOp;simp only[a,b,RV.a]
 kernel_rfl
def NwP (w:World)(q wk wt ca ch:Int)(e:Ending)(w':World):Prop:=
 (¬kN q wk wt ca ch/\e=.returned (.tuple #[.pointer none,(15:Int)])/\Below w.heap.size w w') \/
 (kN q wk wt ca ch/\∃fb sb,e=.returned (.tuple #[.pointer (some ⟨fb,0,none⟩),()])/\aF w' fb ⟨q,wk,wt,ca,ch,sb,0,0,0,.slice none 0 0,.slice none 0 0,.slice none 0 0⟩/\w'.heap[sb]?=some (.cells #[(),.slice none 0 0,.slice none 0 0] 121)/\w.heap.size<=fb/\w.heap.size<=sb/\Below w.heap.size w w')
theorem j9 (q wk wt ca ch:Int)(w:World):
  Calls prog 24 #[.agg #[q,wk,wt,ca,ch]] w fun e w'=>NwP w q wk wt ca ch e w':=by
 obtain⟨w1,l⟩:∃w1,w.alloc (.cells #[q,wk,wt,ca,ch] 42)=w1:=⟨_,rfl⟩;have c:w1.heap[w.heap.size]?=some (.cells #[q,wk,wt,ca,ch] 42):=l▸zZ w (.cells #[q,wk,wt,ca,ch] 42);have f:Below w.heap.size w w1:=l▸aj w (.cells #[q,wk,wt,ca,ch] 42);have J:=ao c;have N:w1.cell? ⟨w.heap.size,0,none⟩=some (.int .i64 q):=(af c 0).trans rfl;have O:w1.cell? ⟨w.heap.size,1,none⟩=some (.int .i64 wk):=(af c 1).trans rfl;have P:w1.cell? ⟨w.heap.size,2,none⟩=some (.int .i64 wt):=(af c 2).trans rfl;have Q:w1.cell? ⟨w.heap.size,3,none⟩=some (.int .i64 ca):=(af c 3).trans rfl;have R:w1.cell? ⟨w.heap.size,4,none⟩=some (.int .i64 ch):=(af c 4).trans rfl;have M:=ae f;have F:=ae l;have S:w.heap.size<w1.heap.size:=an c;obtain⟨a,j⟩:∃a,w1.alloc (.cells #[(),.slice none 0 0,.slice none 0 0] 121)=a:=⟨_,rfl⟩;obtain⟨g,k⟩:∃g,a.alloc (.cells (RV.a ⟨q,wk,wt,ca,ch,w1.heap.size,0,0,0,.slice none 0 0,.slice none 0 0,.slice none 0 0⟩) 135)=g:=⟨_,rfl⟩
 have D:Hid (kN q wk wt ca ch->NwP w q wk wt ca ch (.returned (.tuple #[some a.heap.size,()])) g):=fun i=>by
  have n:Below w1.heap.size w1 a:=j▸aj _ _;have B:Below a.heap.size a g:=k▸aj _ _;have K:a.heap[w1.heap.size]?=some (.cells #[(),.slice none 0 0,.slice none 0 0] 121):=j▸zZ w1 (.cells #[(),.slice none 0 0,.slice none 0 0] 121);have I:g.heap[a.heap.size]?=some (.cells (RV.a ⟨q,wk,wt,ca,ch,w1.heap.size,0,0,0,.slice none 0 0,.slice none 0 0,.slice none 0 0⟩) 135):=k▸zZ a (.cells (RV.a ⟨q,wk,wt,ca,ch,w1.heap.size,0,0,0,.slice none 0 0,.slice none 0 0,.slice none 0 0⟩) 135)
  exact Or.inr ⟨i,a.heap.size,w1.heap.size,rfl,I,ag K B,by have:=n.size; omega,by omega,(f.trans (n.mono f.size)).trans (B.mono (by have:=n.size; omega))⟩
 have E:Hid (¬kN q wk wt ca ch->NwP w q wk wt ca ch (.returned (.tuple #[.pointer none,(15:Int)])) w1):=fun i=>Or.inl ⟨i,rfl,f⟩;have G:=ae (show ∀(ev:Operand->Value) (o:Oper) (x:Operand),o.op=.box 121 x->ev x=.agg #[(),.slice none 0 0,.slice none 0 0]->(execOp ev o).run prog w1=.ok (.value (.pointer (some ⟨w1.heap.size,0,none⟩))) a from fun ev o x v y=>j▸bx121 ev o x v y w1);have H:=ae (show ∀(ev:Operand->Value) (o:Oper) (x:Operand),o.op=.box 135 x->ev x=.agg (RV.a ⟨q,wk,wt,ca,ch,w1.heap.size,0,0,0,.slice none 0 0,.slice none 0 0,.slice none 0 0⟩)->(execOp ev o).run prog a=.ok (.value (.pointer (some ⟨a.heap.size,0,none⟩))) g from fun ev o x v y=>k▸bx135 _ ev o x v y a);have p:=mb q 1 8 w1;have r:=mb wk 1 4 w1;have s:=mb wt 1 50 w1;have t:=mb ca 0 2000 w1;have u:=mb ch 1 8 w1
 have d:Hid (kN q wk wt ca ch↔(decide (1<=q/\q<=8)=true/\decide (1<=wk/\wk<=4)=true/\decide (1<=wt/\wt<=50)=true/\decide (0<=ca/\ca<=2000)=true/\decide (1<=ch/\ch<=8)=true)):=by
  show _↔_;simp only[zN];exact Iff.rfl
 generalize decide (1<=q/\q<=8)=b0 at p d;generalize decide (1<=wk/\wk<=4)=b1 at r d;generalize decide (1<=wt/\wt<=50)=b2 at s d;generalize decide (0<=ca/\ca<=2000)=b3 at t d;generalize decide (1<=ch/\ch<=8)=b4 at u d;clear c f l j k;go_enter func24,ntmps24
 go_wp2_with fail
 rw[aa F];refine p.mono ?_;rintro e m ⟨rfl,rfl⟩
 go_wp2_with fail
 refine r.mono ?_;rintro e m ⟨rfl,rfl⟩
 go_wp2_with fail
 refine s.mono ?_;rintro e m ⟨rfl,rfl⟩
 go_wp2_with fail
 refine t.mono ?_;rintro e m ⟨rfl,rfl⟩
 go_wp2_with fail
 refine u.mono ?_;rintro e m ⟨rfl,rfl⟩;clear p r s t u
 have C:∀A,(b0=false\/b1=false\/b2=false\/b3=false\/b4=false)->A=w1->NwP w q wk wt ca ch (.returned (.tuple #[.pointer none,(15:Int)])) A:=fun A f L=>by
  rw[L];refine aa E fun i=>?_;obtain⟨T,U,V,W,X⟩:=(aa d).1 i
  rcases f with z|z|z|z|z<;>simp_all
 have h:=ae C;clear C
 cases b0 with
 | false=>
  have b:=ae (aa h w1 (by simp) rfl)
  go_wp2
  go_ret2
  exact aa b
 | true=>
  cases b1 with
  | false=>
   have b:=ae (aa h w1 (by simp) rfl)
   go_wp2
   go_ret2
   exact aa b
  | true=>
   cases b2 with
   | false=>
    have b:=ae (aa h w1 (by simp) rfl)
    go_wp2
    go_ret2
    exact aa b
   | true=>
    cases b3 with
    | false=>
     have b:=ae (aa h w1 (by simp) rfl)
     go_wp2
     go_ret2
     exact aa b
    | true=>
     cases b4 with
     | false=>
      have b:=ae (aa h w1 (by simp) rfl)
      go_wp2
      go_ret2
      exact aa b
     | true=>
      have b:=ae (aa D ((aa d).2 ⟨rfl,rfl,rfl,rfl,rfl⟩))
      go_wp2_with (first|refine bU 42 _ underlying42 rfl (sz23 _ _ _ _ _) _ _ J rfl _ rfl rfl ?_|refine cP _ _ (bt121 _ _ rfl _) rfl ?_|refine cP _ _ (aa G _ _ _ rfl rfl) rfl ?_|refine cP _ _ (bt135 q wk wt ca ch w1.heap.size _ _ _ _ rfl rfl rfl _) rfl ?_|refine cP _ _ (aa H _ _ _ rfl rfl) rfl ?_)
      go_ret2
      exact aa b
section
variable {w:World}{e:EV}{n ob wb:Nat}{O:OL}{o:iH}
theorem pq (h:cO w n e)(y:io w ob O)(m:∀k,aX e k->¬OF ob O k)(x:∀k,OF ob O k->4<=k)(j:w.cell? ⟨wb,2,none⟩=some (.pointer (some ⟨ob,0,none⟩)))(I:¬aX e wb)(J:¬OF ob O wb)(G:wb<w.heap.size)(aA:O.RS.length<=10000000)(_hn:n<=2000000)(Y:O.GS.length<=10000000)(Z:n<=400000)(ah:o.kind=16):
  Calls prog 14 #[some wb,.agg #[some e.fb,some e.rb],.agg o.v] w fun U w'=>U=.returned (.bool true)/\∃ag M,ip w n e ob O w' ag M:=by
 have b:=ie w e o;have r:=ae b;have ad:=b.bx.c0;have S:=(b.bx.o 0).trans (show _=some (Value.int .i64 o.kind) from rfl);rw[ah] at S;have t:=h.on b.b;have F:∀k,aX e k->k<w.heap.size:=fun k q=>h.lt q;obtain⟨an,ay,aw,ap,ak,al,am,ax⟩:=h.m.lens;have A:=h.m.bs;have aB:=h.m.ct;have aC:=h.m.rl;have aD:=h.m.now;have aE:=h.m.st;have aG:=h.m.sim.arr;have aH:=h.m.sim.now;have aI:=h.m.sim.st;have K:=ae h.x.glb.1;have aJ:=ae h;have au:=ae t;have aK:=ae y;have ar:=ae m;have ab:=ae x;have V:=ae j;have X:Hid (¬(aX e wb\/OF ob O wb)):=fun q=>q.elim I J;have av:=ae F;have aq:=ae A;have H:=ao b.p
 have N:=nx (wb:=wb) (ob:=ob) (O:=O) t (bA.on y b.b) m x ((b.b.cell (p:=⟨wb,2,none⟩) G).trans j) (by have:=b.b.size; omega) Y Z
 have C:=ae N;clear b t h y m x j I J F A N;go_enter func14,ntmps14
 go_wp2_with (refine bU 59 _ underlying59 rfl (by kernel_rfl) _ _ H rfl _ rfl rfl ?_)
 refine(aa C).mono ?_;rintro U ai ⟨rfl,M,i,az⟩;have d:=i.ost;have B:=ae i;clear i H C ad S;have P:=dl (w:=ai) (v:=.slice none 0 0) (u:=.slice none 0 0) (l:=[]) (aU (R:=bE) (T:=103)).at (aU (R:=bE) (T:=103)).at
 go_wp2_with fail
 refine P.mono ?_;rintro e aj ⟨rfl,E⟩;have c:=(aa B).on E;have aF:=(aa r).b.size
 have af:aj.cell? ⟨wb,2,none⟩=some (.pointer (some ⟨ob,0,none⟩)):=by
  rw[zP (a:=⟨wb,2,none⟩) (c.frm.block wb (by show wb<_; omega) (aa X))]
  exact((aa r).b.cell (p:=⟨wb,2,none⟩) G).trans (aa V)
 have L:=fZ (v:=.slice none 0 0) (l:=[]) c.own aU (fun s aM g aL q=>by cases q) (by omega)
 have f:=ae c;clear P E c B
 go_wp2_with fail
 refine L.mono ?_;intro e aN Q
 obtain⟨rfl,ac,D⟩:=ip.keepR (aa f) (fun k q=>by
  rcases(aa f).ost.foot k q with z|z
  ·exact aa ab k z
  have:=aa K; omega) (by have:=aa K; omega) (fun k q=>by cases q) Q ⟨d.il,d.fl,by omega,d.gl,d.el⟩
 have W:=ae (D.pre (aa r).b);clear D Q af L f
 go_wp2
 go_ret;exact⟨rfl,_,ac,aa W⟩
theorem fronted_any (h:cO w n e)(m:io w ob O)(c:∀k,aX e k->¬OF ob O k)(l:∀k,OF ob O k->4<=k)(a:w.cell? ⟨wb,2,none⟩=some (.pointer (some ⟨ob,0,none⟩)))(i:¬aX e wb)(j:¬OF ob O wb)(f:wb<w.heap.size)(d:O.RS.length<=10000000)(s:O.GS.length<=10000000)(r:O.ES.length<=10000000)(B:n<=400000)(C:o.s.size<=1048576)
  (b:bK) (A:bL rE w o.bat b) (p:b.length<=10000000) (q:0<b.length->∀g,o.bat.ownBlock=some g->¬aX e g/\¬OF ob O g) (E:12<=o.kind/\o.kind<=16) :
  Calls prog 14 #[some wb,.agg #[some e.fb,some e.rb],.agg o.v] w fun D w'=>D=.returned (.bool true)/\∃z y,ip w n e ob O w' z y:=by
 by_cases t:o.kind=12
 ·exact mh h m c l a i j f d (by omega) C t
 by_cases u:o.kind=13
 ·exact pm h m c l a i j f d (by omega) u
 by_cases v:o.kind=14
 ·exact na h m c l a i j f d (by omega) r b A p q v
 by_cases x:o.kind=15
 ·exact pp h m c l a i j f d (by omega) x
 exact pq h m c l a i j f d (by omega) s B (by omega)
end
def twoOf (d:DV):Two:=⟨d.sb,d.rb⟩
section
variable {w0 w w':World}{wb ob:Nat}{sv:Value}{D:List DV}{O O':OL}{c:Nat->Nat}{n:Nat}
theorem map_set {i:Nat}{b a:DV}(d:D[i]?=some b)(g:a.sb=b.sb)(f:a.rb=b.rb):(D.set i a).map twoOf=D.map twoOf:=by
 apply y0
 intro j;rw[zg,zg,yZ]
 by_cases e:i=j
 ·subst e
  rw[zJ rfl,d];have hi:i<D.length:=(zX.1 d).1;rw[zJ hi];simp[twoOf,g,f]
 rw[zK e]
end
def mO (e:EV):Two:=⟨e.fb,e.rb⟩
structure WJ (w0 w:World)(wb ob:Nat)(sv fv:Value)(D:List DV)(E:List EV)(O:OL)(n:Nat)(c:Nat->Nat):Prop where
 base:Below w0.heap.size w0 w
 blk:w.heap[wb]?=some (.cells #[sv,fv,.pointer (some ⟨ob,0,none⟩)] 37)
 st:ah rTwo 53 w sv (D.map twoOf)
 fr:ah rTwo 59 w fv (E.map mO)
 dep:∀(i:Nat) (d:DV),D[i]?=some d->Dep w d
 des:∀(i:Nat) (e:EV),E[i]?=some e->cO w n e
 own:io w ob O
 cd:∀(i:Nat) (d:DV) (k:Nat),D[i]?=some d->df d k->c k=3+2*i
 ce:∀(i:Nat) (e:EV) (k:Nat),E[i]?=some e->aX e k->c k=4+2*i
 co:∀k,OF ob O k->c k=2
 cw:c wb=1
 cs:∀k,sv.ownBlock=some k->c k=1
 cf:∀k,fv.ownBlock=some k->c k=1
 cb:∀k,k<w0.heap.size->c k=0
 glb:Glb w0
structure WL (D:List DV)(E:List EV)(O:OL)(n:Nat):Prop where
 d:D.length<=n
 e:E.length<=n
 i:O.IS.length<=2*n
 f:O.FS.length<=2*n
 r:O.RS.length<=2*n
 g:O.GS.length<=2*n
 es:O.ES.length<=2*n
def ni (w0 w:World)(wb ob n:Nat):Prop:=∃sv fv D E O c,WJ w0 w wb ob sv fv D E O n c/\WL D E O n
section
variable {w0 w w':World}{wb ob:Nat}{sv fv:Value}{D:List DV}{E:List EV}{O O':OL}{c:Nat->Nat}{n:Nat}
theorem cO.more {e:EV}(h:cO w n e):cO w (n+1) e:=⟨h.x,h.r,h.m.still,h.lo⟩
theorem WJ.on (h:WJ w0 w wb ob sv fv D E O n c)(a:Below w.heap.size w w'):WJ w0 w' wb ob sv fv D E O n c:=
 ⟨h.base.trans (a.mono h.base.size),ag h.blk a,h.st.on a,h.fr.on a,fun i f b=>(h.dep i f b).on a,fun i e d=>(h.des i e d).on a,bA.on h.own a,h.cd,h.ce,h.co,h.cw,h.cs,h.cf,h.cb,h.glb⟩
theorem WJ.more (h:WJ w0 w wb ob sv fv D E O n c):WJ w0 w wb ob sv fv D E O (n+1) c:={ h with des:=fun i e a=>(h.des i e a).more }
theorem WL.more (h:WL D E O n):WL D E O (n+1):=by
 have:=h.d; have:=h.e; have:=h.i; have:=h.f; have:=h.r; have:=h.g; have:=h.es
 exact⟨by omega,by omega,by omega,by omega,by omega,by omega,by omega⟩
theorem ni.on (h:ni w0 w wb ob n)(a:Below w.heap.size w w'):ni w0 w' wb ob n:=by
 obtain⟨sv,fv,D,E,O,c,h,b⟩:=h;exact⟨sv,fv,D,E,O,c,h.on a,b⟩
theorem ni.more (h:ni w0 w wb ob n):ni w0 w wb ob (n+1):=by
 obtain⟨sv,fv,D,E,O,c,h,r⟩:=h;exact⟨sv,fv,D,E,O,c,h.more,r.more⟩
theorem ni.base (h:ni w0 w wb ob n):Below w0.heap.size w0 w:=by
 obtain⟨sv,fv,D,E,O,c,h,r⟩:=h;exact h.base
theorem WJ.old (h:WJ w0 w wb ob sv fv D E O n c){k:Nat}(a:c k≠0):w0.heap.size<=k:=by
 rcases yP k w0.heap.size with q|q
 ·exact absurd (h.cb k q) a
 exact q
theorem WJ.four (h:WJ w0 w wb ob sv fv D E O n c){k:Nat}(a:c k≠0):4<=k:=by
 have:=h.old a;have:=h.glb.1;omega
theorem WJ.o4 (h:WJ w0 w wb ob sv fv D E O n c):∀k,OF ob O k->4<=k:=fun k q=>h.four (by rw[h.co k q]; decide)
theorem WJ.dje (h:WJ w0 w wb ob sv fv D E O n c){i:Nat}{e:EV}(a:E[i]?=some e):∀k,aX e k->¬OF ob O k:=fun k q b=>by
 have:=h.ce i e k a q; have:=h.co k b; omega
theorem WJ.wbe (h:WJ w0 w wb ob sv fv D E O n c){i:Nat}{e:EV}(a:E[i]?=some e):¬aX e wb:=fun q=>by
 have:=h.cw; have:=h.ce i e wb a q; omega
theorem WJ.wbo (h:WJ w0 w wb ob sv fv D E O n c):¬OF ob O wb:=fun q=>by
 have:=h.cw; have:=h.co wb q; omega
theorem mapE_set {i:Nat}{e a:EV}(b:E[i]?=some e)(f:a.fb=e.fb)(d:a.rb=e.rb):(E.set i a).map mO=E.map mO:=by
 apply y0
 intro j;rw[zg,zg,yZ]
 by_cases q:i=j
 ·subst q
  rw[zJ rfl,b];have hi:i<E.length:=(zX.1 b).1;rw[zJ hi];simp[mO,f,d]
 rw[zK q]
theorem WJ.stepE (h:WJ w0 w wb ob sv fv D E O n c){i:Nat}{e l:EV}(o:E[i]?=some e)(b:ip w n e ob O w' l O'):∃z,WJ w0 w' wb ob sv fv D (E.set i l) O' (n+1) z:=by
 have hi:i<E.length:=(zX.1 o).1
 have v:∀k,k<w.heap.size->c k≠4+2*i->c k≠2->w'.heap[k]?=w.heap[k]?:=fun k m B C=>b.frm.block k m fun q=>by
  rcases q with q|q
  ·exact B (h.ce i e k o q)
  exact C (h.co k q)
 have y:=b.frm.size
 have x:∀k,(aX e k\/OF ob O k)->4<=k:=fun k q=>h.four (by
  rcases q with q|q
  ·rw[h.ce i e k o q]; omega
  rw[h.co k q]; decide)
 classical
 refine⟨fun k=>if k<w.heap.size then c k else if aX l k then 4+2*i else 2,⟨b.frm.os.trans h.base.os,b.frm.tape.trans h.base.tape,b.frm.output.trans h.base.output,zF h.base.size y,fun k m=>?_⟩,?_,?_,?_,fun j u t=>?_,fun j f d=>?_,b.own,fun j u k t q=>?_,fun j f k d q=>?_,fun k q=>?_,?_,fun k q=>?_,fun k q=>?_,fun k m=>?_,h.glb⟩
 ·rw[v k (zC m h.base.size) (by rw[h.cb k m]; omega) (by rw[h.cb k m]; omega)]
  exact h.base.block k m
 ·rw[v wb (an h.blk) (by rw[h.cw]; omega) (by rw[h.cw]; omega)]
  exact h.blk
 ·exact h.st.same fun g p=>v g (h.st.lt p) (by rw[h.cs g p]; omega) (by rw[h.cs g p]; omega)
 ·rw[mapE_set o b.fb b.rb]
  exact h.fr.same fun g p=>v g (h.fr.lt p) (by rw[h.cf g p]; omega) (by rw[h.cf g p]; omega)
 ·refine(h.dep j u t).frm b.frm fun k q a=>?_
  have A:=h.cd j u k t q
  rcases a with a|a
  ·have:=h.ce i e k o a; omega
  have:=h.co k a; omega
 ·rw[yZ] at d
  by_cases s:i=j
  ·subst s
   rw[zJ rfl,zJ hi] at d;cases d;exact b.desk
  rw[zK s] at d;refine((h.des j f d).frm b.frm (fun k q a=>?_) x).more;have A:=h.ce j f k d q
  rcases a with a|a
  ·have:=h.ce i e k o a; omega
  have:=h.co k a; omega
 ·show(if k<w.heap.size then c k else if aX l k then 4+2*i else 2)=3+2*j
  rw[zJ ((h.dep j u t).lt q)];exact h.cd j u k t q
 ·rw[yZ] at d
  by_cases s:i=j
  ·subst s
   rw[zJ rfl,zJ hi] at d;cases d
   show(if k<w.heap.size then c k else if aX l k then 4+2*i else 2)=4+2*i
   by_cases r:k<w.heap.size
   ·rw[zJ r]
    rcases b.foot k q with a|a
    ·exact h.ce i e k o a
    omega
   rw[zK r,zJ q]
  rw[zK s] at d
  show(if k<w.heap.size then c k else if aX l k then 4+2*i else 2)=4+2*j
  rw[zJ ((h.des j f d).lt q)];exact h.ce j f k d q
 ·show(if k<w.heap.size then c k else if aX l k then 4+2*i else 2)=2
  by_cases r:k<w.heap.size
  ·rw[zJ r]
   rcases b.ost.foot k q with a|a
   ·exact h.co k a
   omega
  rw[zK r,zK fun a=>b.dj k a q]
 ·show(if wb<w.heap.size then c wb else if aX l wb then 4+2*i else 2)=1
  rw[zJ (an h.blk)]; exact h.cw
 ·show(if k<w.heap.size then c k else if aX l k then 4+2*i else 2)=1
  rw[zJ (h.st.lt q)]; exact h.cs k q
 ·show(if k<w.heap.size then c k else if aX l k then 4+2*i else 2)=1
  rw[zJ (h.fr.lt q)]; exact h.cf k q
 show(if k<w.heap.size then c k else if aX l k then 4+2*i else 2)=0
 rw[zJ (zC m h.base.size)]; exact h.cb k m
theorem WL.stepE (h:WL D E O n){i:Nat}{b:EV}(a:OSt w O ob O'):WL D (E.set i b) O' (n+1):=by
 have:=h.d; have:=h.e; have:=h.i; have:=h.f; have:=h.r; have:=h.g; have:=h.es
 have:=a.il; have:=a.fl; have:=a.rl; have:=a.gl; have:=a.el
 exact⟨by omega,by rw[zn]; omega,by omega,by omega,by omega,by omega,by omega⟩
theorem WJ.openE (h:WJ w0 w wb ob sv fv D E O n c){m p:World}{x:Value}{o:Obj}{e:EV}(I:Below w.heap.size w m)(L:cO m n e)(G:∀k,aX e k->w.heap.size<=k)
  (M:ah rTwo 59 p x (E.map mO++[mO e])) (i:(m.alloc o).grownBy p fv.ownBlock) (A:x.ownBlock=fv.ownBlock\/∀g,x.ownBlock=some g->m.heap.size<=g):∃S,WJ w0 (p.setCell ⟨wb,1,none⟩ x) wb ob sv x D (E++[e]) O n S:=by
 have a:=h.on I;have R:=an a.blk;have X:=I.size;have V:=i.size;simp only[World.alloc,Array.size_push] at V
 have N:∀q,q<m.heap.size->q≠wb->fv.ownBlock≠some q->(p.setCell ⟨wb,1,none⟩ x).heap[q]?=m.heap[q]?:=fun q y C U=>by
  rw[zW _ _ _ _ (fun e=>C e),i.block q (by simp; omega) (fun e=>U e.symm),zr _ _ y]
 have K:p.heap[wb]?=some (.cells #[sv,fv,some ob] 37):=by
  rw[i.block _ (by simp; omega) (fun q=>by obtain⟨F,l⟩:=a.fr.ty q.symm; exact aI l a.blk (by decide) rfl),zr _ _ R]
  exact a.blk
 have J:∀q,fv.ownBlock=some q->q<w.heap.size:=fun q y=>h.fr.lt y
 have r:aE (fun q=>q=wb\/fv.ownBlock=some q) m (p.setCell ⟨wb,1,none⟩ x):=⟨i.os,i.tape,i.output,by simp[World.setCell]; omega,fun q y C=>N q y (fun e=>C (Or.inl e)) (fun e=>C (Or.inr e))⟩
 have t:∀k,(k=wb\/fv.ownBlock=some k)->c k=1:=fun k q=>by
  rcases q with rfl|q
  ·exact h.cw
  exact h.cf k q
 have H:∀k,(k=wb\/fv.ownBlock=some k)->4<=k:=fun k q=>h.four (by rw[t k q]; decide)
 have P:∀k,(k=wb\/fv.ownBlock=some k)->k<w.heap.size:=fun k q=>by
  rcases q with rfl|q
  ·exact an h.blk
  exact J k q
 classical
 refine⟨fun k=>if k<w.heap.size then c k else if aX e k then 4+2*E.length else 1,⟨i.os.trans a.base.os,i.tape.trans a.base.tape,i.output.trans a.base.output,by have:=a.base.size; simp[World.setCell]; omega,fun k s=>?_⟩,?_,?_,?_,fun j B u=>?_,fun j f d=>?_,bA.frm a.own r (fun k q b=>by have:=t k b; have:=h.co k q; omega),fun j B k u q=>?_,fun j f k d q=>?_,fun k q=>?_,?_,fun k q=>?_,fun k q=>?_,fun k s=>?_,h.glb⟩
 ·have Q:=zC s a.base.size
  rw[r.block k Q (fun q=>by have:=t k q; have:=h.cb k s; omega)]
  exact a.base.block k s
 ·show(p.setCell ⟨wb,1,none⟩ x).heap[wb]?=_
  simp[World.setCell,zk,K]
 ·exact a.st.same fun g v=>r.block g (a.st.lt v) (fun q=>by
   rcases q with rfl|q
   ·obtain⟨F,l⟩:=a.st.ty v; exact aI l a.blk (by decide) rfl
   obtain⟨F,l⟩:=a.st.ty v; obtain⟨Y,T⟩:=a.fr.ty q; exact aI l T (by decide) rfl)
 ·rw[yV]
  exact M.same fun g v=>zW _ _ _ _ (by obtain⟨F,l⟩:=M.ty v; exact aI l K (by decide))
 ·exact(a.dep j B u).frm r fun k q b=>by have:=t k b; have:=h.cd j B k u q; omega
 ·rcases getElem?_snoc d with d|⟨rfl,rfl⟩
  ·exact(a.des j f d).frm r (fun k q b=>by have:=t k b; have:=h.ce j f k d q; omega) H
  exact L.frm r (fun k q b=>by have:=P k b; have:=G k q; omega) H
 ·show(if k<w.heap.size then c k else if aX e k then 4+2*E.length else 1)=3+2*j
  rw[zJ ((h.dep j B u).lt q)]; exact h.cd j B k u q
 ·show(if k<w.heap.size then c k else if aX e k then 4+2*E.length else 1)=4+2*j
  rcases getElem?_snoc d with d|⟨rfl,rfl⟩
  ·rw[zJ ((h.des j f d).lt q)]; exact h.ce j f k d q
  have:=G k q
  rw[zK (by omega),zJ q]
 ·show(if k<w.heap.size then c k else if aX e k then 4+2*E.length else 1)=2
  rw[zJ (bA.lt h.own q)]; exact h.co k q
 ·show(if wb<w.heap.size then c wb else if aX e wb then 4+2*E.length else 1)=1
  rw[zJ (an h.blk)]; exact h.cw
 ·show(if k<w.heap.size then c k else if aX e k then 4+2*E.length else 1)=1
  rw[zJ (h.st.lt q)]; exact h.cs k q
 ·show(if k<w.heap.size then c k else if aX e k then 4+2*E.length else 1)=1
  rcases A with A|A
  ·have b:fv.ownBlock=some k:=A▸q
   rw[zJ (J k b)]; exact h.cf k b
  have z:=A k q
  rw[zK (by omega),zK (fun W=>by have:=L.lt W; omega)]
 show(if k<w.heap.size then c k else if aX e k then 4+2*E.length else 1)=0
 rw[zJ (zC s h.base.size)]; exact h.cb k s
end
theorem wl_none:∀(n o:Nat),wl o (List.replicate n none)=[]
 | 0,_=>rfl
 | n+1,o=>by rw[List.replicate_succ,wl]; exact wl_none n (o+1)
def newD (q wt ch ca n:Nat):DF:=⟨q,n,wt,ca,ch,0,0,0,[],[],[],[]⟩
theorem sim_new (q wt ch ca n:Nat):fC (mW q wt ch ca n) (newD q wt ch ca n):=by
 refine⟨rfl,by show(List.replicate n none).length=n; simp,rfl,rfl,rfl,rfl,rfl,rfl,rfl,?_,rfl,⟨[],[],⟨List.Perm.refl _,(fun j b=>by cases b),List.Pairwise.nil,rfl,?_⟩⟩,⟨[],⟨List.Perm.refl _,List.Pairwise.nil,(fun e a=>by cases a),rfl,List.nodup_nil⟩⟩⟩
 ·refine vs_of pr_nil fun v c=>?_
  have:v=0:=by simpa[newD] using c
  subst this;rfl
 show([]:List Jt).Perm (wl 0 (List.replicate n none));rw[wl_none]
theorem ok_new {q wt ch ca n:Nat}(i:1<=q/\q<=8)(hw:1<=wt/\wt<=50)(g:1<=ch/\ch<=8)(a:ca<=2000)(h:1<=n/\n<=4):Ok Oz (mW q wt ch ca n):=by
 have c:=fls_new q wt ch ca n
 refine⟨i,hw,g,a,by show 1<=(List.replicate n none).length/\(List.replicate n none).length<=4; simpa using h,by show 0<=100; omega,by show 0<=q; omega,(fun k a=>by cases a),List.Pairwise.nil,(fun k a=>by cases a),(fun b e=>by cases e),?_,(fun f d=>by rw[c] at d; cases d),?_,by rw[c]; exact yF _,hi_of (fver_new.rel),by show 0<=ca; omega,(fun t j=>by cases j),List.nodup_nil⟩
 ·rw[c]; exact List.nodup_nil
 rw[c]; exact List.Perm.refl _
theorem deskm_new {q wt ch ca n:Nat}(a:Nat)(f:1<=q/\q<=8)(hw:1<=wt/\wt<=50)(c:1<=ch/\ch<=8)(b:ca<=2000)(e:1<=n/\n<=4):cF (mW q wt ch ca n) (newD q wt ch ca n) a:=
 ⟨ok_new f hw c b e,sim_new q wt ch ca n,pr_nil,fun v g=>by
  have:v=0:=by simpa[newD] using g
  subst this
  rfl,fun k d=>by simp[newD] at d,fun h b=>by simp[newD] at b,by show 0<=5*a; omega,by show 0<=a; omega,by show 0<=a; omega,by show 0<=a; omega⟩
theorem desk_new {w a d:World}{fb rb c q wt ch ca n:Nat}{m:Nat->Prop}(l:Nat)(x:1<=q/\q<=8)(hw:1<=wt/\wt<=50)(t:1<=ch/\ch<=8)(y:ca<=2000)(v:1<=n/\n<=4)(g:eR a fb m (mW q wt ch ca n))(A:∀k,m k->w.heap.size<=k)(p:Below a.heap.size a d)(F:w.heap.size<=a.heap.size)
  (u:aF d rb ⟨q,n,wt,ca,ch,c,0,0,0,.slice none 0 0,.slice none 0 0,.slice none 0 0⟩) (f:d.heap[c]?=some (.cells #[(),.slice none 0 0,.slice none 0 0] 121)) (D:a.heap.size<=rb) (E:a.heap.size<=c) :
  ∃e:EV,cO d l e/\(∀k,aX e k->w.heap.size<=k)/\e.fb=fb/\e.rb=rb:=by
 obtain⟨X,sl,pv,B,j,o⟩:=g.on p;have G:=j.glb.1;have C:4<=a.heap.size:=(eR.glb g).1
 have h:∀k,RDF rb ⟨q,n,wt,ca,ch,c,0,0,0,.slice none 0 0,.slice none 0 0,.slice none 0 0⟩ (.slice none 0 0) [] k->k=rb\/k=c:=fun k q=>by
  rcases q with(q|q|q|q)|q|q|⟨s,f,_⟩
  ·exact Or.inl q
  ·cases q
  ·cases q
  ·cases q
  ·exact Or.inr q
  ·cases q
  cases f
 refine⟨⟨fb,X,sl,pv,B,mW q wt ch ca n,rb,⟨q,n,wt,ca,ch,c,0,0,0,.slice none 0 0,.slice none 0 0,.slice none 0 0⟩,.slice none 0 0,[],newD q wt ch ca n⟩,⟨j,⟨u,⟨aU,aU,aU⟩,⟨f,aU,rfl,fun i s b r=>by simp at r,aU⟩,⟨rfl,rfl,rfl,rfl,rfl,rfl,rfl,rfl⟩⟩,deskm_new l x hw t y v,fun k q=>?_⟩,fun k q=>?_,rfl,rfl⟩
 ·rcases h k q with z|z<;>omega
 rcases q with q|q
 ·exact A k (o k q)
 rcases h k q with z|z<;>omega
theorem inf59:(prog.info? 59).map (fun i=>(i.zero,i.size,i.bytes))=some (some (.agg #[.pointer none,.pointer none]),2,16):=by kernel_rfl
theorem ap35 {w:World}{v x:Value}{l a:List Two}(h:ah rTwo 59 w v l)(j:bL rTwo w x a)(k:l.length+a.length<=100000000):
  ∃b w',(Builtin.append_ #[35,35] 35 #[v,x]).run prog w=.ok b w'/\ah rTwo 59 w' b (l++a)/\w.grownBy w' v.ownBlock/\(b.ownBlock=v.ownBlock\/∀g,b.ownBlock=some g->w.heap.size<=g):=by
 obtain⟨i,c,d,e,f⟩:=ee inf59
 exact ah.append (P:=prog) 35 35 i _ 16 underlying35 c d e f rfl h a x j (by unfold maxLen; omega) (by omega)
theorem bs59 (p q:Nat)(ev:Operand->Value)(o:Oper)(x:Operand)(a:o.op=.buildSlice 35 1 #[(0,x)])(b:ev x=.agg #[some p,some q])(w:World):(execOp ev o).run prog w=.ok (.value (.slice (some ⟨w.heap.size,0,none⟩) 1 1)) (w.alloc (.cells #[some p,some q] 59)):=by
 unfold execOp;simp only[a];simp only[yN,zA,yQ,b]
 kernel_rfl
theorem built59 (p q:Nat):prog.built 59 [(0,.pointer (some ⟨p,0,none⟩)),(1,.pointer (some ⟨q,0,none⟩))]=some #[.pointer (some ⟨p,0,none⟩),.pointer (some ⟨q,0,none⟩)]:=by kernel_rfl
theorem run_b59 (p q:Nat)(A:Act)(o:Oper)(x y:Operand)(b:o.op=.build 59 #[(0,x),(1,y)])(c:A.eval x=.pointer (some ⟨p,0,none⟩))(hy:A.eval y=.pointer (some ⟨q,0,none⟩))(w:World):(execOp A.eval o).run prog w=.ok (.value (.agg #[some p,some q])) w:=by
 have a:=run_build (P:=prog) w 59 #[(0,.pointer (some ⟨p,0,none⟩)),(1,.pointer (some ⟨q,0,none⟩))] _ (built59 p q);unfold execOp;simp[b,c,hy,a]
section
variable {w0 w:World}{wb ob n:Nat}
theorem begun_any (q wk wt ca ch:Int)(h:ni w0 w wb ob n)(aN:n<=2000000):
  Calls prog 11 #[some wb,.agg #[q,wk,wt,ca,ch]] w fun e w'=>e=.returned (.bool true)/\ni w0 w' wb ob (n+1):=by
 obtain⟨w1,p⟩:∃w1,w.alloc (.cells #[q,wk,wt,ca,ch] 42)=w1:=⟨_,rfl⟩;have S:Below w.heap.size w w1:=p▸aj w (.cells #[q,wk,wt,ca,ch] 42);have u:w1.heap[w.heap.size]?=some (.cells #[q,wk,wt,ca,ch] 42):=p▸zZ w (.cells #[q,wk,wt,ca,ch] 42);have v:=ao u;have R:=ae p;have Q:=ae u
 by_cases a:kN q wk wt ca ch
 ·obtain⟨aH,aJ,aK,aL,aM⟩:=id a
  obtain⟨q,rfl⟩:∃f:Nat,q=f:=⟨q.toNat,by omega⟩
  obtain⟨wk,rfl⟩:∃f:Nat,wk=f:=⟨wk.toNat,by omega⟩
  obtain⟨wt,rfl⟩:∃f:Nat,wt=f:=⟨wt.toNat,by omega⟩
  obtain⟨ca,rfl⟩:∃f:Nat,ca=f:=⟨ca.toNat,by omega⟩
  obtain⟨ch,rfl⟩:∃f:Nat,ch=f:=⟨ch.toNat,by omega⟩
  obtain⟨ah,fv,D,ak,O,c,H,b⟩:=h;have j:=H.on S;have N:Glb w1:=H.glb.on j.base
  have r:=front_new q wk wt ca ch w1 (by omega) (by omega) (by omega) (by omega) (by omega) N
  have al:=ae j;have ap:=ae b;have aF:=b.e;have C:=ae a;clear p u H b j N a;go_enter func11,ntmps11
  go_wp2_with (refine bU 42 _ underlying42 rfl (sz23 _ _ _ _ _) _ _ v rfl _ rfl rfl ?_)
  rw[aa R];refine r.mono ?_;rintro M L ⟨fb,aQ,rfl,Z,ac,k⟩;have o:=ao (ag (aa Q) k);have s:=j9 q wk wt ca ch L;have U:=ae Z;have V:=ae ac;have i:=ae k;clear r v Z ac k
  go_wp2_with (refine bU 42 _ underlying42 rfl (sz23 _ _ _ _ _) _ _ o rfl _ rfl rfl ?_)
  refine s.mono ?_;rintro M y (⟨a,_⟩|⟨_,rb,aP,rfl,G,W,X,Y,l⟩)
  ·exact absurd (aa C) a
  obtain⟨e,I,P,B,T⟩:=desk_new (w:=w1) n (by omega) (by omega) (by omega) (by omega) (by omega) (aa U) (aa V) l (aa i).size G W X Y
  have j:=aa al;have A:Below w1.heap.size w1 y:=(aa i).trans (l.mono (aa i).size);have d:=j.on A;obtain⟨az,aA,t⟩:=d.fr.slice
  have ar:y.cell? ⟨wb,1,none⟩=some (.slice az ak.length aA):=by
   have:=(af d.blk 1).trans (show _=some fv from rfl);rw[this,t,zY]
  obtain⟨x,ai,ad,J,K,m⟩:=ap35 (d.fr.on (bu.alloc aD (.cells #[some fb,some rb] 59))) (aZ rTwo 59 y ⟨fb,rb⟩ #[.pointer (some ⟨fb,0,none⟩),.pointer (some ⟨rb,0,none⟩)] rfl) (by simp; omega)
  obtain⟨aB,aE,aC,rfl⟩:=J.slc
  have F:ai.heap[wb]?=some (.cells #[ah,fv,some ob] 37):=by
   rw[K.block _ (by have:=an d.blk; simp; omega) (fun q=>by obtain⟨ar,av⟩:=d.fr.ty q.symm; exact aI av d.blk (by decide) rfl),zr _ _ (an d.blk)]
   exact d.blk
  have au:=(af F 1).trans (show _=some fv from rfl);rw[t,zY] at au;have aG:=bi F 1
  have E:Hid (ni w0 (ai.setCell ⟨wb,1,none⟩ (.slice aB aE aC)) wb ob (n+1)):=by
   obtain⟨aq,aw⟩:=j.openE A I P (by rw[show mO e=⟨fb,rb⟩ by unfold mO; rw[B,T]]; exact J) K (by
    rcases m with m|m
    ·exact Or.inl m
    exact Or.inr fun g ax=>by have ay:=m g ax; simp at ay; omega)
   have b:=aa ap
   have:=b.d; have:=b.i; have:=b.f; have:=b.r; have:=b.g; have:=b.es
   exact⟨ah,_,D,ak++[e],O,aq,aw.more,⟨by omega,by simp; omega,by omega,by omega,by omega,by omega,by omega⟩⟩
  rw[t,zY] at ad
  have aO:¬fb=rb:=fun z=>by
   subst z;have ab:=I.x.blk;rw[B] at ab
   exact aI ab G (by decide) rfl
  clear I P B T j A d t J K m F G W X Y l s o U V i
  go_wp2_with (first|refine cP _ _ (run_b59 fb rb _ _ _ _ rfl rfl rfl _) rfl ?_|refine cP _ _ (bs59 fb rb _ _ _ rfl rfl _) rfl ?_|(at_builtin; refine fS 35 ad rfl _ _ rfl rfl rfl rfl ?_))
  go_ret;exact⟨rfl,aa E⟩
 have r:=front_no q wk wt ca ch w1 a;have C:=ae a;have am:=ae (h.on S).more;clear p u h a;go_enter func11,ntmps11
 go_wp2_with (refine bU 42 _ underlying42 rfl (sz23 _ _ _ _ _) _ _ v rfl _ rfl rfl ?_)
 rw[aa R];refine r.mono ?_;rintro M L ⟨rfl,k⟩;have o:=ao (ag (aa Q) k);have s:=j9 q wk wt ca ch L;have i:=ae k;clear r v k
 go_wp2_with (refine bU 42 _ underlying42 rfl (sz23 _ _ _ _ _) _ _ o rfl _ rfl rfl ?_)
 refine s.mono ?_;rintro M y (⟨_,rfl,l⟩|⟨a,_⟩)
 ·have E:=ae ((aa am).on ((aa i).trans (l.mono (aa i).size)))
  clear s l o
  go_wp2
  go_ret;exact⟨rfl,aa E⟩
 exact absurd a (aa C)
end
theorem pick_any (c n:Int)(w:World)(b:-9223372036854775808<=c/\c<=9223372036854775807)(d:0<n/\n<=9223372036854775807):
  Calls prog 13 #[c,n] w fun e w'=>e=.returned (.int .i64 (pk c n))/\w=w':=by
 by_cases h:c<0
 ·have a:Hid (pk c n=(-(c+1))%n):=by show pk c n=_; simp[pk,h]
  go_enter func13,ntmps13
  go_wp2
  go_ret;refine⟨aB ?_,rfl⟩
  rw[aa a,<-Int.neg_tmod,Int.tmod_eq_emod_of_nonneg (by omega)]
 have a:Hid (pk c n=c%n):=by show pk c n=_; simp[pk,h]
 go_enter func13,ntmps13
 go_wp2
 go_ret;refine⟨aB ?_,rfl⟩;rw[aa a]
structure OpOk (w0:World)(o:iH)(b:bK):Prop where
 bat:bL rE w0 o.bat b
 len:b.length<=10000000
 on:-9223372036854775808<=o.on/\o.on<=9223372036854775807
section
variable {w0 w:World}{wb ob n:Nat}{sv:Value}{D:List DV}{O:OL}{c:Nat->Nat}{o:iH}{b:bK}
theorem run_ldR (a:TypeId)(cs:Array Value){dd:TypeDesc}(i:prog.underlying a=some dd)(d:dd.isRow=true)(hi:(prog.info? a).map (·.size)=some cs.size)(ev:Operand->Value)(o:Oper)(x:Operand)(e:o.op=.load a x)(g off:Nat)(j:ev x=.pointer (some ⟨g,off,none⟩)){w:World}(f:w.rangeAt g off cs.toList):(execOp ev o).run prog w=.ok (.value (.agg cs)) w:=by
 have h:=run_loadVar_mid w g off a cs.toList _ f i d (by rw[zj]; exact hi)
 unfold execOp;simp only[e,j,Instr.loadAt,Instr.sureAddr,Sem.run_bind,Sem.run_pure,Result.andThen_ok,h]
theorem sz44 (o:iH):(prog.info? 44).map (·.size)=some o.v.size:=by kernel_rfl
theorem sz53 (p q:Nat):(prog.info? 53).map (·.size)=some (#[Value.pointer (some ⟨p,0,none⟩),.pointer (some ⟨q,0,none⟩)]:Array Value).size:=by kernel_rfl
theorem t_callW {l:List Oper}{d:Exit->Act->World->Prop}{S:World->Prop}{g:Array Bool}{a:Act}{w:World}{j:Nat}{o:Oper}{rest:List Oper}(i:Nat)(r:l.drop i=o::rest)(hw:Region.wanted o (yielded l.toArray a.tmps)=true)(f:FuncId)(args:Array Value)(p:(execOp a.eval o).run prog w=.ok (.enter f args) w)(v:Value)(R:World->Prop)
  (q:Calls prog f args w fun e w'=>e=.returned v/\R w') (h:∀w',R w'->S w'/\wpAnyH prog .any l.toArray d S j (g.setIfInBounds i true) (a.put o.dst v) w') :
  wpOp prog l.toArray d i (fun k w'=>S w'/\wpAnyH prog .any l.toArray d S j (g.setIfInBounds i true) k w') a w:=by
 unfold wpOp;simp only[gw r];rw[zJ hw]
 left
 unfold Oper.wp;rw[p]
 exact q.mono fun e w' ⟨m,e2⟩=>by subst m; exact h w' e2
end
structure od (w0:World)(o:iH)(b:bK):Prop extends OpOk w0 o b where
 str:o.s.size<=1048576
 txt:o.t.size<=1048576
section
variable {w0 w:World}{wb ob n:Nat}{sv fv:Value}{D:List DV}{E:List EV}{O:OL}{c:Nat->Nat}{o:iH}{b:bK}
theorem WJ.bat (h:WJ w0 w wb ob sv fv D E O n c)(j:OpOk w0 o b):0<b.length->∀g,o.bat.ownBlock=some g->c g=0:=fun i g a=>by
 obtain⟨m,cap,e,_,_,k⟩:=j.bat;obtain⟨l,off,f,d,_⟩:=k i;refine h.cb g ?_;rw[e,f] at a;cases a;exact d
theorem pw (h:WJ w0 w wb ob sv fv D E O n c)(f:WL D E O n)(y:n<=400000)(j:od w0 o b){i:Nat}{e:EV}(a:E[i]?=some e)(x:12<=o.kind/\o.kind<=16):
  Calls prog 14 #[some wb,.agg #[some e.fb,some e.rb],.agg o.v] w fun r w'=>r=.returned (.bool true)/\aE (fun k=>aX e k\/OF ob O k) w w'/\∃m d l,WJ w0 w' wb ob sv fv D m d (n+1) l/\WL D m d (n+1):=by
 have t:w.cell? ⟨wb,2,none⟩=some (.pointer (some ⟨ob,0,none⟩)):=(af h.blk 2).trans rfl;have A:=f.r;have p:=f.g;have z:=f.es
 have s:0<b.length->∀g,o.bat.ownBlock=some g->¬aX e g/\¬OF ob O g:=fun u g p=>by
  have:=h.bat j.toOpOk u g p
  exact⟨fun q=>by have:=h.ce i e g a q; omega,fun q=>by have:=h.co g q; omega⟩
 refine(fronted_any (h.des i e a) h.own (h.dje a) h.o4 t (h.wbe a) h.wbo (an h.blk) (by omega) (by omega) (by omega) y j.str b (j.bat.on h.base) j.len s x).mono ?_
 rintro r w' ⟨rfl,e',d,hP⟩;obtain⟨l,v⟩:=h.stepE a hP;exact⟨rfl,hP.frm,_,d,l,v,f.stepE hP.ost⟩
theorem sz59E (p q:Nat):(prog.info? 59).map (·.size)=some (#[Value.pointer (some ⟨p,0,none⟩),.pointer (some ⟨q,0,none⟩)]:Array Value).size:=by kernel_rfl
theorem sz42 (a b c d e:Int):(prog.info? 42).map (·.size)=some (#[Value.int .i64 a,b,c,d,e]:Array Value).size:=by kernel_rfl
theorem rng_mid {g off a:Nat}{cs l:List Value}(h:w.rangeAt g off cs)(e:l=(cs.drop a)):w.rangeAt g (off+a) l:=fun j u d=>by
 subst e;rw[yD] at d;have:=h (a+j) u d
 rwa [show off+a+j=off+(a+j) by omega]
theorem fstep_any (h:ni w0 w wb ob n)(aG:n<=400000)(ak:od w0 o b)(y:11<=o.kind/\o.kind<=16):
  Calls prog 7 #[some wb,.agg o.v] w fun e w'=>e=.returned (.bool true)/\ni w0 w' wb ob (n+1):=by
 have F:=zZ w (.cells o.v 44);have v:=aj w (.cells o.v 44);have aJ:=(af F 0).trans (show _=some (Value.int .i64 o.kind) from rfl);have C:=h.on v
 have aP:(w.alloc (.cells o.v 44)).heap.size=w.heap.size+1:=by simp
 have X:=ae ak;clear ak
 have aT:¬o.kind=1:=by omega
 by_cases x:o.kind=11
 ·have aB:=ae (begun_any o.f0 o.f1 o.f2 o.f3 o.f4 C (by omega))
  have ay:(w.alloc (.cells o.v 44)).rangeAt w.heap.size (0+12) #[Value.int .i64 o.f0,.int .i64 o.f1,.int .i64 o.f2,.int .i64 o.f3,.int .i64 o.f4].toList:=rng_mid (ao F) rfl;rw[x] at aJ;clear h C v y x;go_enter func7,ntmps7
  go_wp2_with (refine bU 42 _ underlying42 rfl (sz42 _ _ _ _ _) _ _ ay rfl _ rfl rfl ?_)
  refine(aa aB).mono ?_;rintro e al ⟨rfl,r⟩;have M:=ae r;clear r
  go_wp2
  go_ret;exact⟨rfl,aa M⟩
 obtain⟨sv,fv,D,E,O,c,z,H⟩:=h;have p:=z.on v;obtain⟨aU,R,t⟩:=p.fr.slice;have ai:=(af p.blk 1).trans (show _=some fv from rfl);rw[t,zY] at ai;have aO:¬o.kind=11:=x
 have aE:12<=o.kind:=by omega
 have aF:o.kind<=16:=y.2
 have aR:2<=o.kind:=by omega
 have aS:¬o.kind<=7:=by omega
 by_cases Y:E.length=0
 ·have M:Hid (ni w0 (w.alloc (.cells o.v 44)) wb ob (n+1)):=ni.more ⟨sv,fv,D,E,O,c,p,H⟩
  rw[Y] at ai;clear p z v C t H y x Y;go_enter func7,ntmps7
  go_wp2
  go_ret;exact⟨rfl,aa M⟩
 have aK:¬((E.length:Nat):Int)=0:=by omega
 have aL:=H.e;have aw:=(aa X).on
 have ax:=pk_in o.on (n:=((E.length:Nat):Int)) (by omega)
 obtain⟨i,hi⟩:∃i:Nat,pk o.on ((E.length:Nat):Int)=i:=⟨(pk o.on ((E.length:Nat):Int)).toNat,by omega⟩
 have au:i<E.length:=by omega
 have av:(i:Int)<E.length:=by omega
 obtain⟨g,G⟩:∃g,E[i]?=some g:=⟨_,zQ au⟩;obtain⟨aW,aY,T,_,_,Q⟩:=p.fr.at;rw[zY] at T Q;rw[t,zY] at T;cases T
 obtain⟨f,s,rfl,aN,ab⟩:=Q (by omega)
 have U:(w.alloc (.cells o.v 44)).rangeAt f (s+i*2) #[Value.pointer (some ⟨g.fb,0,none⟩),.pointer (some ⟨g.rb,0,none⟩)].toList:=ab i (mO g) (by rw[zg,G]; rfl)
 have ar:c f=1:=p.cf f (by rw[t]; rfl)
 have N:=fun l=>pick_any o.on ((E.length:Nat):Int) l aw (by omega)
 rw[hi] at N;have ap:=ae N;have ac:=ae p;have an:=ae U;have aA:=ae F;have V:=ae z;clear Q ab N ax hi U F p z v C y x;go_enter func7,ntmps7
 go_wp2_with fail
 refine z8 (S:=fun w'=>w'.heap[wb]?=some (.cells #[sv,fv,some ob] 37)/\w'.heap[w.heap.size]?=some (.cells o.v 44)/\w'.heap[f]?=(w.alloc (.cells o.v 44)).heap[f]?) (by kernel_rfl) ?_
 change wpAnyH _ _ _ _ _ _ _ _ (World.drew _);have d:(World.drew (w.alloc (.cells o.v 44))).heap[wb]?=some (.cells #[sv,fv,some ob] 37)/\(World.drew (w.alloc (.cells o.v 44))).heap[w.heap.size]?=some (.cells o.v 44)/\(World.drew (w.alloc (.cells o.v 44))).heap[f]?=(w.alloc (.cells o.v 44)).heap[f]?:=⟨(aa ac).blk,aa aA,rfl⟩;have B:Below (w.alloc (.cells o.v 44)).heap.size (w.alloc (.cells o.v 44)) (World.drew (w.alloc (.cells o.v 44))):=zE bu;have A:=(aa ac).on B;generalize World.drew (w.alloc (.cells o.v 44))=al at d B A ⊢;have ah:=pw A H aG (aa X) G ⟨aE,aF⟩;have W:=ae A
 have P:∀l:World,l.heap[wb]?=some (.cells #[sv,fv,some ob] 37)->l.cell? ⟨wb,1,none⟩=some (.slice (some ⟨f,s,none⟩) E.length R):=fun l r=>by rw[af r 1]; show some fv=_; rw[t,zY]
 have ad:∀l:World,l.heap[w.heap.size]?=some (.cells o.v 44)->l.cell? ⟨w.heap.size,1,none⟩=some (.int .i64 o.on):=fun l r=>(af r 1).trans rfl
 have ag:∀l:World,l.heap[f]?=(w.alloc (.cells o.v 44)).heap[f]?->l.rangeAt f (s+i*2) #[Value.pointer (some ⟨g.fb,0,none⟩),.pointer (some ⟨g.rb,0,none⟩)].toList:=fun l r j u aI=>by
  rw[zP (a:=⟨f,s+i*2+j,none⟩) r]; exact aa an j u aI
 clear t A;refine am 0 rfl wb 0 d ?_;refine am 1 rfl wb 0 d ?_;refine am 2 rfl wb 0 d ?_;refine am 3 rfl wb 1 d ?_
 refine aH 4 rfl (.slice (some ⟨f,s,none⟩) E.length R) d ?_ (hy:=fun w' m=>by simp[go_sem,P w' m.1])
 refine am 5 rfl w.heap.size 1 d ?_
 refine aH 6 rfl (.int .i64 o.on) d ?_ (hy:=fun w' m=>by simp[go_sem,ad w' m.2.1])
 refine am 7 rfl wb 0 d ?_;refine am 8 rfl wb 0 d ?_;refine am 9 rfl wb 1 d ?_
 refine aH 10 rfl (.slice (some ⟨f,s,none⟩) E.length R) d ?_ (hy:=fun w' m=>by simp[go_sem,P w' m.1])
 refine aH 11 rfl (.int .i64 (E.length:Nat)) d ?_;refine aH 15 rfl (.agg o.v) d ?_ (hy:=fun w' m=>run_ldR 44 o.v underlying44 rfl (sz44 o) _ _ _ rfl w.heap.size 0 rfl (ao m.2.1));refine aV 12 ?_
 refine ow 12 rfl rfl 13 #[o.on,.int .i64 (E.length:Nat)] (by simp[go_sem]) (.int .i64 i) (aa ap al) d ?_
 simp only[qZ]
 refine am 13 rfl f (s+i*2) d ?_ (hy:=fun w' m=>by simp[go_sem,av])
 refine aH 14 rfl (.agg #[some g.fb,some g.rb]) d ?_ (hy:=fun w' m=>run_ldR 59 #[.pointer (some ⟨g.fb,0,none⟩),.pointer (some ⟨g.rb,0,none⟩)] underlying59 rfl (sz59E _ _) _ _ _ rfl f (s+i*2) rfl (ag w' m.2.2));refine aV 16 ?_
 refine t_callW 16 rfl rfl 14 #[.pointer (some ⟨wb,0,none⟩),.agg #[some g.fb,some g.rb],.agg o.v] (by simp[go_sem]) (.bool true) _ ah ?_
 rintro I ⟨J,az,aC,aD,L,Z⟩;have aM:=B.size
 have nf:∀k,c k=1->¬(aX g k\/OF ob O k):=fun k y q=>by
  rcases q with q|q
  ·have:=(aa W).ce i g k G q; omega
  have:=(aa W).co k q; omega
 have nw:¬(aX g w.heap.size\/OF ob O w.heap.size):=fun q=>by
  rcases q with q|q
  ·have:=((aa V).des i g G).lt q; omega
  have:=bA.lt (aa V).own q; omega
 have K:I.heap[wb]?=some (.cells #[sv,fv,some ob] 37)/\I.heap[w.heap.size]?=some (.cells o.v 44)/\I.heap[f]?=(w.alloc (.cells o.v 44)).heap[f]?:=⟨L.blk,aQ d.2.1 J nw,(J.block f (by omega) (nf f ar)).trans d.2.2⟩
 refine⟨K,?_⟩;simp only[qZ];refine aH 17 rfl (.bool true) K ?_
 refine zm (by kernel_rfl) ?_ _
 have aq:Hid (ni w0 I wb ob (n+1)):=⟨sv,fv,D,az,aC,aD,L,Z⟩;clear d K J L Z nf nw ah P ad ag B
 go_wp2
 go_ret;exact⟨rfl,aa aq⟩
end
theorem built33:prog.built 33 []=some #[.slice none 0 0,.slice none 0 0,.slice none 0 0,.slice none 0 0,.slice none 0 0]:=by kernel_rfl
theorem built37 (p:Nat):prog.built 37 [(2,.pointer (some ⟨p,0,none⟩))]=some #[.slice none 0 0,.slice none 0 0,.pointer (some ⟨p,0,none⟩)]:=by kernel_rfl
theorem run_b33 (A:Act)(o:Oper)(b:o.op=.build 33 #[])(w:World):(execOp A.eval o).run prog w=.ok (.value (.agg #[.slice none 0 0,.slice none 0 0,.slice none 0 0,.slice none 0 0,.slice none 0 0])) w:=by
 have a:=run_build (P:=prog) w 33 #[] _ built33;unfold execOp;simp[b,a]
theorem run_b37 (p:Nat)(A:Act)(o:Oper)(x:Operand)(b:o.op=.build 37 #[(2,x)])(c:A.eval x=.pointer (some ⟨p,0,none⟩))(w:World):(execOp A.eval o).run prog w=.ok (.value (.agg #[.slice none 0 0,.slice none 0 0,some p])) w:=by
 have a:=run_build (P:=prog) w 37 #[(2,.pointer (some ⟨p,0,none⟩))] _ (built37 p);unfold execOp;simp[b,c,a]
theorem sl104 (ev:Operand->Value)(o:Oper)(x lo hi:Operand)(b off n cap t:Nat)(g:o.op=.slice 104 x (some lo) (some hi) none)(h:ev x=.slice (some ⟨b,off,none⟩) n cap)(e:ev lo=.int .i64 t)(f:ev hi=.int .i64 ((t:Int)+1))(j:t<n)(i:n<=cap)(a:World):(execOp ev o).run prog a=.ok (.value (.slice (some ⟨b,off+t*8,none⟩) 1 (cap-t))) a:=by
 unfold execOp;simp only[g,Option.map_some,Option.map_none,h,e,f]
 have c:(t:Int)+1<=cap:=by omega
 have d:¬cap=t:=by omega
 simp[go_sem,c,d]
 try omega
theorem rngSl {c:World}{b off:Nat}{l:List cA}(h:∀i a,l[i]?=some a->c.rangeAt b (off+i*cq.wid) (cq.enc a)){k:Nat}{s:cA}(d:l[k]?=some s):c.cell? ⟨b,off+k,none⟩=some s.v:=by
 have:=h k s d 0 s.v rfl
 rwa [show cq.wid=1 from rfl,Nat.mul_one,yG] at this
section
variable {w:World}{ob:Nat}{V:OV}{IS FS RS GS ES:List cA}
theorem more_all (h:bA w ob V IS FS RS GS ES)(bB:RS.length<=10000000)(bz:GS.length<=10000000)(bJ:ES.length<=10000000):
  Calls prog 18 #[some ob] w fun e w'=>e=.returned (.bool true)/\Below w.heap.size w w':=by
 obtain⟨bq,br,aC⟩:=h.r.slice;obtain⟨bn,Y,aA⟩:=h.g.slice;obtain⟨bl,bm,az⟩:=h.e.slice
 have a5:=ae (show w.cell? ⟨ob,2,none⟩=some (.slice bq RS.length br) by rw[h.cells 2]; show some V.rv=_; rw[aC])
 have a6:=ae (show w.cell? ⟨ob,3,none⟩=some (.slice bn GS.length Y) by rw[h.cells 3]; show some V.gv=_; rw[aA])
 have a7:=ae (show w.cell? ⟨ob,4,none⟩=some (.slice bl ES.length bm) by rw[h.cells 4]; show some V.ev=_; rw[az])
 have aB:=an h.blk;have X:=ae h;have be:=ae aC;have a9:=ae aA;have a8:=ae az;clear h aC aA az;go_enter func18,ntmps18
 go_wp2
 go_loopw [3,4,5] (fun i _ _ wr=>∃k:Nat,k<=RS.length/\i=.int .i64 k/\Hid (Below w.heap.size w wr)) (fun i _ _ _=>RS.length-(intOf i).toNat)
 ·exact⟨0,by omega,rfl,ae bu⟩
 obtain⟨k,aU,rfl,d⟩:=hrel;have aG:=((aa d).cell (p:=⟨ob,2,none⟩) aB).trans (aa a5)
 by_cases ai:k<RS.length
 ·have v:(k:Int)<RS.length:=by omega
  obtain⟨⟨N,c,o⟩,M⟩:∃s,RS[k]?=some s:=⟨_,zQ ai⟩;obtain⟨aY,cap,e,_,_,L⟩:=(aa X).r.at;rw[aa be] at e;cases e
  obtain⟨b,off,rfl,ad,H⟩:=L (by omega)
  have C:=(rngSl H M).trans (show _=some (Value.slice N c o) from rfl);have K:=show ah bE 103 _ (.slice N c o) (List.replicate c (owR k)) from((aa X).rl k _ M);obtain⟨aT,aK,D,_,x,y⟩:=K.at;rw[zI] at D x y;cases D;have ac:=ae y;have P:=ae (((aa d).cell (p:=⟨b,off+k,none⟩) ad).trans C);have rs:=aa P
  have aQ:(c:Int)<=9223372036854775807:=by unfold maxLen at x; omega
  have ax:=ae aG;have aP:=(aa d).size;obtain⟨W,rfl⟩:∃W:World,W=wr:=⟨_,rfl⟩;clear L H C K y x
  go_wp2_with fail
  clear aG rs
  go_loopw [4,5] (fun i _ ak=>∃t:Nat,t<=c/\i=.int .i64 t/\Hid (Below W.heap.size W ak)) (fun i _ _=>c-(intOf i).toNat)
  ·exact⟨0,by omega,rfl,ae bu⟩
  obtain⟨t,aV,rfl,f⟩:=hrel
  have bp:=((aa f).cell (p:=⟨ob,2,none⟩) (by show ob<_; omega)).trans (aa ax)
  have U:=((aa f).cell (p:=⟨b,off+k,none⟩) (by show b<_; omega)).trans (aa P)
  by_cases R:t<c
  ·have J:(t:Int)<c:=by omega
   obtain⟨l,g,rfl,Q,I⟩:=aa ac (by omega)
   have q:=(aa d).trans ((aa f).mono (aa d).size)
   have O:wr.rangeAt l (g+t*4) #[.int .i64 (ei k),.int .i64 0,.string ⟨#[]⟩,.string ⟨#[]⟩].toList:=fun j u z=>(q.cell (p:=⟨l,g+t*4+j,none⟩) Q).trans (I t (owR k) (by rw[yc,zJ R]) j u z)
   obtain⟨B,ar⟩:∃B,wr.alloc (.cells #[.int .i64 (ei k),(),.string ⟨#[]⟩,.string ⟨#[]⟩] 103)=B:=⟨_,rfl⟩;have F:Below wr.heap.size wr B:=ar▸aj wr (.cells #[.int .i64 (ei k),(),.string ⟨#[]⟩,.string ⟨#[]⟩] 103);have ag:B.heap[wr.heap.size]?=some (.cells #[.int .i64 (ei k),(),.string ⟨#[]⟩,.string ⟨#[]⟩] 103):=ar▸zZ wr (.cells #[.int .i64 (ei k),(),.string ⟨#[]⟩,.string ⟨#[]⟩] 103);have bD:B.cell? ⟨wr.heap.size,0,none⟩=some (.int .i64 (ei k)):=(af ag 0).trans rfl;have bF:B.cell? ⟨wr.heap.size,1,none⟩=some (.int .i64 0):=(af ag 1).trans rfl;have D:B.cell? ⟨wr.heap.size,2,none⟩=some (.string ⟨#[]⟩):=(af ag 2).trans rfl;have bH:B.cell? ⟨wr.heap.size,3,none⟩=some (.string ⟨#[]⟩):=(af ag 3).trans rfl;have aM:=ae ((aa f).trans (F.mono (aa f).size));have bf:=ae ar
   have aE:=ae (fun E=>eC k E (by omega))
   have bk:(ei k != ei k)=false:=by simp
   clear I q F ag ar
   go_wp2_with (refine bU 103 _ underlying103 rfl (ki _ _ _ _) _ _ O rfl _ rfl rfl ?_)
   rw[aa bf];clear bp U O
   go_quiet (exact(aa aE _).mono fun e w' h=>⟨h.1,_,h.2.symm⟩)
   have Z:=ae ((aa aM).trans ((ap (zV B.heap.size B) nq).mono (aa aM).size))
   go_wp2
   go_roundw
   ·exact⟨t+1,by omega,by go_num,Z⟩
   simp[intOf]; omega
  have J:t=c:=by omega
  subst J;have ab:=ae ((aa d).trans ((aa f).mono (aa d).size))
  go_wp2
  go_roundw
  ·exact⟨k+1,by omega,by go_num,ab⟩
  simp[intOf]; omega
 have v:k=RS.length:=by omega
 subst v
 have v:¬((RS.length:Int)<RS.length):=by omega
 obtain⟨W,rfl⟩:∃W:World,W=wr:=⟨_,rfl⟩
 go_wp2_with fail
 clear aG
 go_loopw [6,7,8] (fun i _ _ wr=>∃k:Nat,k<=GS.length/\i=.int .i64 k/\Hid (Below w.heap.size w wr)) (fun i _ _ _=>GS.length-(intOf i).toNat)
 ·exact⟨0,by omega,rfl,d⟩
 obtain⟨k,aU,rfl,d⟩:=hrel;have aI:=((aa d).cell (p:=⟨ob,3,none⟩) aB).trans (aa a6)
 by_cases ai:k<GS.length
 ·have v:(k:Int)<GS.length:=by omega
  obtain⟨⟨N,c,o⟩,M⟩:∃s,GS[k]?=some s:=⟨_,zQ ai⟩;obtain⟨aY,cap,e,_,_,L⟩:=(aa X).g.at;rw[aa a9] at e;cases e
  obtain⟨b,off,rfl,ad,H⟩:=L (by omega)
  have C:=(rngSl H M).trans (show _=some (Value.slice N c o) from rfl);have K:=show ah bC 107 _ (.slice N c o) (List.replicate c (owG k)) from((aa X).gl k _ M);obtain⟨aT,aK,D,aS,x,y⟩:=K.at;rw[zI] at D x y aS;cases D;have ac:=ae y;have P:=ae (((aa d).cell (p:=⟨b,off+k,none⟩) ad).trans C);have rs:=aa P
  have aQ:(c:Int)<=9223372036854775807:=by unfold maxLen at x; omega
  have ax:=ae aI;have aP:=(aa d).size;obtain⟨au,rfl⟩:∃au:World,au=wr:=⟨_,rfl⟩;clear L H C K y x
  go_wp2_with fail
  clear aI rs
  go_loopw [7,8] (fun i _ ak=>∃t:Nat,t<=c/\i=.int .i64 t/\Hid (Below au.heap.size au ak)) (fun i _ _=>c-(intOf i).toNat)
  ·exact⟨0,by omega,rfl,ae bu⟩
  obtain⟨t,aV,rfl,f⟩:=hrel
  have a0:=((aa f).cell (p:=⟨ob,3,none⟩) (by show ob<_; omega)).trans (aa ax)
  have U:=((aa f).cell (p:=⟨b,off+k,none⟩) (by show b<_; omega)).trans (aa P)
  by_cases R:t<c
  ·have J:(t:Int)<c:=by omega
   obtain⟨l,g,rfl,Q,I⟩:=aa ac (by omega)
   have bj:IntKind.i64.wrap ((t:Int)+1)=(t:Int)+1:=bG _ (by omega)
   have q:=(aa d).trans ((aa f).mono (aa d).size);obtain⟨m,aD⟩:∃m,World.drew wr=m:=⟨_,rfl⟩;have r:Below wr.heap.size wr m:=aD▸zE bu;obtain⟨A,al⟩:∃A,m.alloc (.cells #[(),(),(),(),.int .i64 (ei k),(),(),()] 107)=A:=⟨_,rfl⟩;have F:Below m.heap.size m A:=al▸aj m (.cells #[(),(),(),(),.int .i64 (ei k),(),(),()] 107);have av:Below wr.heap.size wr A:=r.trans (F.mono r.size);have aw:Below w.heap.size w A:=q.trans (av.mono q.size);have bi:=(aa f).size;have bw:=r.size;have bx:=F.size;have bv:=(aa d).size
   have n:m.cell? ⟨ob,3,none⟩=some (.slice (some ⟨b,off,none⟩) GS.length Y)/\m.cell? ⟨b,off+k,none⟩=some (.slice (some ⟨l,g,none⟩) c o):=⟨(r.cell (p:=⟨ob,3,none⟩) (by show ob<_; omega)).trans a0,(r.cell (p:=⟨b,off+k,none⟩) (by show b<_; omega)).trans U⟩
   have ao:A.cell? ⟨ob,3,none⟩=some (.slice (some ⟨b,off,none⟩) GS.length Y)/\A.cell? ⟨b,off+k,none⟩=some (.slice (some ⟨l,g,none⟩) c o):=⟨(F.cell (p:=⟨ob,3,none⟩) (by show ob<_; omega)).trans n.1,(F.cell (p:=⟨b,off+k,none⟩) (by show b<_; omega)).trans n.2⟩
   have aW:bL bC A (.slice (some ⟨l,g+t*8,none⟩) 1 (o-t)) [owG k]:=⟨_,_,rfl,by simp; omega,by unfold maxLen; simp,fun _=>⟨l,g+t*8,rfl,zC Q aw.size,fun i a hi=>by
    have bh:i=0/\a=owG k:=by
     cases i with
     | zero=>simp at hi; exact⟨rfl,hi.symm⟩
     | succ i=>simp at hi
    obtain⟨rfl,rfl⟩:=bh;rw[Nat.zero_mul,yG]
    exact fun j u z=>(aw.cell (p:=⟨l,g+t*8+j,none⟩) Q).trans (I t (owG k) (by rw[yc,zJ R]) j u z)⟩⟩
   have z:bL bC A (.slice (some ⟨m.heap.size,0,none⟩) 1 1) [owG k]:=al▸aZ bC 107 m (owG k) #[(),(),(),(),.int .i64 (ei k),(),(),()] rfl;have aO:=gQ aW z;have aJ:=ae ((aa f).trans (av.mono (aa f).size));clear I q r F av aw aW z
   go_wp2_with fail
   refine z8 (S:=fun w'=>w'.cell? ⟨ob,3,none⟩=some (.slice (some ⟨b,off,none⟩) GS.length Y)/\w'.cell? ⟨b,off+k,none⟩=some (.slice (some ⟨l,g,none⟩) c o)) (by kernel_rfl) ?_
   change wpAnyH _ _ _ _ _ _ _ _ (World.drew _);rw[aD];refine am 0 rfl ob 0 n ?_;refine am 1 rfl ob 0 n ?_;refine am 2 rfl ob 3 n ?_
   refine aH 3 rfl (.slice (some ⟨b,off,none⟩) GS.length Y) n ?_ (hy:=fun w' T=>by simp[go_sem,T.1])
   refine aH 4 rfl (.int .i64 k) n ?_
   refine am 5 rfl b (off+k) n ?_ (hy:=fun w' T=>by simp[go_sem,v])
   refine aH 6 rfl (.slice (some ⟨l,g,none⟩) c o) n ?_ (hy:=fun w' T=>by simp[go_sem,T.2])
   refine aH 7 rfl (.int .i64 t) n ?_;refine aH 8 rfl (.int .i64 t) n ?_
   refine aH 9 rfl (.int .i64 ((t:Int)+1)) n ?_ (hy:=fun w' T=>by simp[go_sem,bj])
   refine aH 10 rfl (.slice (some ⟨l,g+t*8,none⟩) 1 (o-t)) n ?_ (hy:=fun w' T=>sl104 _ _ _ _ _ l g c o t rfl rfl rfl rfl R aS w');refine aH 11 rfl (.int .i64 k) n ?_
   refine y6 (rs:=[12]) (by kernel_rfl) (by simp) ?_
   intro aX G;simp only[z7] at G;subst G
   refine ow 12 rfl rfl 16 #[k] (by simp[go_sem]) (.int .i64 (ei k)) (eC k m (by omega)) n ?_
   simp only[qZ];refine aH 13 rfl (.agg #[(),(),(),(),.int .i64 (ei k),(),(),()]) n ?_ (hy:=fun w' T=>run_bG k _ _ _ rfl rfl w')
   refine y6 (rs:=[14]) (by kernel_rfl) (by simp) ?_
   intro aX G;simp only[z7] at G;subst G
   refine bI 14 rfl rfl (.slice (some ⟨m.heap.size,0,none⟩) 1 1) (A) (by rw[<-al]; exact ms 0 0 0 0 (ei k) 0 0 0 _ _ _ rfl rfl m) (ao) ?_
   simp only[qZ]
   refine y6 (rs:=[15]) (by kernel_rfl) (by simp) ?_
   intro aX G;simp only[z7] at G;subst G
   refine t_callW 15 rfl rfl 54 #[.slice (some ⟨l,g+t*8,none⟩) 1 (o-t),.slice (some ⟨m.heap.size,0,none⟩) 1 1] (by simp[go_sem]) (.bool true) _ aO ?_
   rintro a3 aq
   have ay:a3.cell? ⟨ob,3,none⟩=some (.slice (some ⟨b,off,none⟩) GS.length Y)/\a3.cell? ⟨b,off+k,none⟩=some (.slice (some ⟨l,g,none⟩) c o):=⟨(aq.cell (p:=⟨ob,3,none⟩) (by show ob<_; omega)).trans ao.1,(aq.cell (p:=⟨b,off+k,none⟩) (by show b<_; omega)).trans ao.2⟩
   refine⟨ay,?_⟩;simp only[qZ];refine aH 16 rfl (.bool true) ay ?_
   refine zm (by kernel_rfl) ?_ _
   have Z:=ae ((aa aJ).trans (aq.mono (aa aJ).size));clear n ao aO a0 U aD al ay aq
   go_wp2
   go_roundw
   ·exact⟨t+1,by omega,by go_num,Z⟩
   simp[intOf]; omega
  have J:t=c:=by omega
  subst J;have ab:=ae ((aa d).trans ((aa f).mono (aa d).size))
  go_wp2
  go_roundw
  ·exact⟨k+1,by omega,by go_num,ab⟩
  simp[intOf]; omega
 have v:k=GS.length:=by omega
 subst v
 have v:¬((GS.length:Int)<GS.length):=by omega
 obtain⟨a4,rfl⟩:∃a4:World,a4=wr:=⟨_,rfl⟩;have bg:=d
 go_wp2_with fail
 clear aI
 go_loopw [9,10,11] (fun i _ _ bs=>∃k:Nat,k<=ES.length/\i=.int .i64 k/\Hid (Below w.heap.size w bs)) (fun i _ _ _=>ES.length-(intOf i).toNat)
 ·exact⟨0,by omega,rfl,bg⟩
 obtain⟨k,aU,rfl,d⟩:=hrel;have a2:=((aa d).cell (p:=⟨ob,4,none⟩) aB).trans (aa a7)
 by_cases ai:k<ES.length
 ·have v:(k:Int)<ES.length:=by omega
  obtain⟨⟨N,c,o⟩,M⟩:∃s,ES[k]?=some s:=⟨_,zQ ai⟩;obtain⟨aY,cap,e,_,_,L⟩:=(aa X).e.at;rw[aa a8] at e;cases e
  obtain⟨b,off,rfl,ad,H⟩:=L (by omega)
  have C:=(rngS H M).trans (show _=some (Value.slice N c o) from rfl);have K:=show ah rE 100 _ (.slice N c o) (List.replicate c (owE k)) from((aa X).el k _ M);obtain⟨aT,aK,D,_,x,y⟩:=K.at;rw[zI] at D x y;cases D;have bt:=ae C;have ac:=ae y;have rs:=((aa d).cell (p:=⟨b,off+k,none⟩) ad).trans C
  have aQ:(c:Int)<=9223372036854775807:=by unfold maxLen at x; omega
  have bd:=ae a2;have P:=ae rs;have aP:=(aa d).size;clear L H C K y x
  go_wp2_with fail
  clear a2 rs
  go_loopw [10,11] (fun i _ ak=>∃t:Nat,t<=c/\i=.int .i64 t/\Hid (Below wr.heap.size wr ak)) (fun i _ _=>c-(intOf i).toNat)
  ·exact⟨0,by omega,rfl,ae bu⟩
  obtain⟨t,aV,rfl,f⟩:=hrel
  have a1:=((aa f).cell (p:=⟨ob,4,none⟩) (by show ob<_; omega)).trans (aa bd)
  have U:=((aa f).cell (p:=⟨b,off+k,none⟩) (by show b<_; omega)).trans (aa P)
  by_cases R:t<c
  ·have J:(t:Int)<c:=by omega
   obtain⟨l,g,rfl,Q,I⟩:=aa ac (by omega)
   have q:=(aa d).trans ((aa f).mono (aa d).size)
   have O:=rngE I (k:=t) (by rw[zI]; exact R)
   rw[gf_rep R] at O
   have aL:∀E,Below wr.heap.size wr E->E.rangeAt l (g+t*25+1) (fc zf).toList:=fun E aF j u z=>by
    rw[<-eF_owE k] at z
    have bo:j<24:=by have:=(zX.1 z).1; rw[zj,dX] at this; exact this
    rw[yS,aN _ _ bo] at z;cases z
    have:=((q.trans (aF.mono q.size)).cell (p:=⟨l,g+t*25+(1+j),none⟩) Q).trans (pF O (1+j) (by omega))
    rw[yr (g+t*25)];exact this
   have aR:=aL wr bu
   have ba:=ae (fun E (aF:Below wr.heap.size wr E)=>((q.trans (aF.mono q.size)).cell (p:=⟨l,g+t*25+0,none⟩) Q).trans (pF O 0 (by omega)))
   have bi:=(aa f).size;have bb:=ae a1;have bc:=ae U;clear I O q aL
   go_wp2_with (first|refine bU 66 (fc zf) underlying66 rfl (gK _) l (g+t*25+1) aR rfl _ rfl rfl ?_|refine cP _ _ (run_b0 _ _ rfl _) rfl ?_)
   refine(fy zf _).mono ?_;rintro e m ⟨rfl,r⟩
   have bK:=(r.cell (p:=⟨ob,4,none⟩) (by show ob<_; omega)).trans (aa bb)
   have bN:=(r.cell (p:=⟨b,off+k,none⟩) (by show b<_; omega)).trans (aa bc)
   have bM:m.cell? ⟨l,g+t*25,none⟩=some (.int .i64 (ei k)):=aa ba m r;have Z:=ae ((aa f).trans (r.mono (aa f).size))
   have aE:=ae (fun E=>eC k E (by omega))
   have bk:(ei k != ei k)=false:=by simp
   clear r a1 U aR
   go_wp2_with fail
   go_quiet (exact(aa aE _).mono fun e w' h=>⟨h.1,_,h.2.symm⟩)
   go_wp2
   go_roundw
   ·exact⟨t+1,by omega,by go_num,ae (by repeat first|exact aa Z|refine ap ?_ _|refine zE ?_)⟩
   simp[intOf]; omega
  have J:t=c:=by omega
  subst J;have ab:=ae ((aa d).trans ((aa f).mono (aa d).size))
  go_wp2
  go_roundw
  ·exact⟨k+1,by omega,by go_num,ab⟩
  simp[intOf]; omega
 have v:k=ES.length:=by omega
 subst v
 go_wp2
 go_ret;exact⟨rfl,aa d⟩
theorem looks_all (h:bA w ob V IS FS RS GS ES)(a:IS.length<=10000000)(b:FS.length<=10000000)(c:RS.length<=10000000)(d:GS.length<=10000000)(f:ES.length<=10000000):
  Calls prog 8 #[some ob] w fun e w'=>e=.returned (.bool true)/\Below w.heap.size w w':=
 looks_any h a b fun _ g=>more_all (h.on g) c d f
end
section
variable {w0 w w':World}{wb ob:Nat}{sv fv:Value}{D:List DV}{E:List EV}{O O':OL}{c:Nat->Nat}{n:Nat}
theorem WJ.djd (h:WJ w0 w wb ob sv fv D E O n c){i:Nat}{a:DV}(b:D[i]?=some a):∀k,df a k->¬OF ob O k:=fun k q d=>by
 have:=h.cd i a k b q; have:=h.co k d; omega
theorem WJ.stepD (h:WJ w0 w wb ob sv fv D E O n c){i:Nat}{m e:DV}(o:D[i]?=some m)(d:Pst w m ob O w' e O'):∃x,WJ w0 w' wb ob sv fv (D.set i e) E O' n x:=by
 have hi:i<D.length:=(zX.1 o).1
 have t:∀k,k<w.heap.size->c k≠3+2*i->c k≠2->w'.heap[k]?=w.heap[k]?:=fun k l z A=>d.frm.block k l fun q=>by
  rcases q with q|q
  ·exact z (h.cd i m k o q)
  exact A (h.co k q)
 have v:=d.frm.size
 have u:∀k,(df m k\/OF ob O k)->4<=k:=fun k q=>h.four (by
  rcases q with q|q
  ·rw[h.cd i m k o q]; omega
  rw[h.co k q]; decide)
 classical
 refine⟨fun k=>if k<w.heap.size then c k else if df e k then 3+2*i else 2,⟨d.frm.os.trans h.base.os,d.frm.tape.trans h.base.tape,d.frm.output.trans h.base.output,zF h.base.size v,fun k l=>?_⟩,?_,?_,?_,fun j f a=>?_,fun j f a=>?_,d.own,fun j f k a q=>?_,fun j f k a q=>?_,fun k q=>?_,?_,fun k q=>?_,fun k q=>?_,fun k l=>?_,h.glb⟩
 ·rw[t k (zC l h.base.size) (by rw[h.cb k l]; omega) (by rw[h.cb k l]; omega)]
  exact h.base.block k l
 ·rw[t wb (an h.blk) (by rw[h.cw]; omega) (by rw[h.cw]; omega)]
  exact h.blk
 ·rw[map_set o d.sb d.rb]
  exact h.st.same fun g p=>t g (h.st.lt p) (by rw[h.cs g p]; omega) (by rw[h.cs g p]; omega)
 ·exact h.fr.same fun g p=>t g (h.fr.lt p) (by rw[h.cf g p]; omega) (by rw[h.cf g p]; omega)
 ·rw[yZ] at a
  by_cases s:i=j
  ·subst s
   rw[zJ rfl,zJ hi] at a;cases a;exact d.dep
  rw[zK s] at a;refine(h.dep j f a).frm d.frm fun k q b=>?_;have y:=h.cd j f k a q
  rcases b with b|b
  ·have:=h.cd i m k o b; omega
  have:=h.co k b; omega
 ·refine(h.des j f a).frm d.frm (fun k q b=>?_) u
  have y:=h.ce j f k a q
  rcases b with b|b
  ·have:=h.cd i m k o b; omega
  have:=h.co k b; omega
 ·rw[yZ] at a
  show(if k<w.heap.size then c k else if df e k then 3+2*i else 2)=3+2*j
  by_cases s:i=j
  ·subst s
   rw[zJ rfl,zJ hi] at a;cases a
   by_cases r:k<w.heap.size
   ·rw[zJ r]
    rcases d.foot k q with b|b
    ·exact h.cd i m k o b
    omega
   rw[zK r,zJ q]
  rw[zK s] at a;rw[zJ ((h.dep j f a).lt q)];exact h.cd j f k a q
 ·show(if k<w.heap.size then c k else if df e k then 3+2*i else 2)=4+2*j
  rw[zJ ((h.des j f a).lt q)];exact h.ce j f k a q
 ·show(if k<w.heap.size then c k else if df e k then 3+2*i else 2)=2
  by_cases r:k<w.heap.size
  ·rw[zJ r]
   rcases d.ost.foot k q with b|b
   ·exact h.co k b
   omega
  rw[zK r,zK fun b=>d.dj k b q]
 ·show(if wb<w.heap.size then c wb else if df e wb then 3+2*i else 2)=1
  rw[zJ (an h.blk)]; exact h.cw
 ·show(if k<w.heap.size then c k else if df e k then 3+2*i else 2)=1
  rw[zJ (h.st.lt q)]; exact h.cs k q
 ·show(if k<w.heap.size then c k else if df e k then 3+2*i else 2)=1
  rw[zJ (h.fr.lt q)]; exact h.cf k q
 show(if k<w.heap.size then c k else if df e k then 3+2*i else 2)=0
 rw[zJ (zC l h.base.size)]; exact h.cb k l
structure OB (O:OL)(m:Nat):Prop where
 i:O.IS.length<=m
 f:O.FS.length<=m
 r:O.RS.length<=m
 g:O.GS.length<=m
 es:O.ES.length<=m
theorem WL.bnd (h:WL D E O n):OB O (2*n):=⟨h.i,h.f,h.r,h.g,h.es⟩
theorem OB.mono {b a:Nat}(h:OB O b)(hm:b<=a):OB O a:=by
 have:=h.i; have:=h.f; have:=h.r; have:=h.g; have:=h.es
 exact⟨by omega,by omega,by omega,by omega,by omega⟩
theorem OB.p {b:Nat}(h:OB O b)(a:OStp w O ob O'):OB O' (b+1):=by
 have:=h.i; have:=h.f; have:=h.r; have:=h.g; have:=h.es
 have:=a.il; have:=a.fl; have:=a.rl; have:=a.gl; have:=a.el
 exact⟨by omega,by omega,by omega,by omega,by omega⟩
theorem OB.s {b:Nat}(h:OB O b)(a:OSt w O ob O'):OB O' (b+1):=by
 have:=h.i; have:=h.f; have:=h.r; have:=h.g; have:=h.es
 have:=a.il; have:=a.fl; have:=a.rl; have:=a.gl; have:=a.el
 exact⟨by omega,by omega,by omega,by omega,by omega⟩
theorem WJ.looks (h:WJ w0 w wb ob sv fv D E O n c){b:Nat}(a:OB O b)(hm:b<=10000000):
  Calls prog 8 #[some ob] w fun e w'=>e=.returned (.bool true)/\Below w.heap.size w w':=by
 have:=a.i; have:=a.f; have:=a.r; have:=a.g; have:=a.es
 exact looks_all h.own (by omega) (by omega) (by omega) (by omega) (by omega)
theorem endsJ_any (h:ni w0 w wb ob n)(au:n<=200000):
  Calls prog 9 #[some wb] w fun e w'=>e=.returned (.bool true)/\Below w0.heap.size w0 w':=by
 obtain⟨sv,fv,D,E,O,c,a,A⟩:=h;obtain⟨av,aw,z⟩:=a.st.slice;rw[zY] at z;obtain⟨ao,ap,y⟩:=a.fr.slice;rw[zY] at y;have aj:=A.d;have ak:=A.e;have V:=A.bnd;obtain⟨l,I⟩:∃l,D.length=l:=⟨_,rfl⟩;obtain⟨M,J⟩:∃M,E.length=M:=⟨_,rfl⟩;rw[I] at z aj;rw[J] at y ak;have ac:=ae a;have R:=ae z;have Q:=ae y;have ag:=ae I;have ah:=ae J;have Y:=ae V;clear a z I y J V A;go_enter func9,ntmps9
 go_wp2
 go_loopw [3,4] (fun i _ wr=>∃(k:Nat),k<=l/\i=.int .i64 k/\Hid (∃D' O' d,WJ w0 wr wb ob sv fv D' E O' n d/\D'.length=l/\OB O' (2*n+k))) (fun i _ _=>l-(intOf i).toNat)
 ·exact⟨0,by omega,rfl,ae ⟨D,O,c,aa ac,aa ag,aa Y⟩⟩
 obtain⟨k,ar,rfl,o⟩:=hrel;obtain⟨D',O',d,a,S,q⟩:=aa o;have W:=(af a.blk 0).trans (show _=some sv from rfl);rw[aa R] at W
 by_cases Z:k<l
 ·have v:(k:Int)<l:=by omega
  obtain⟨b,g⟩:∃b,D'[k]?=some b:=⟨_,zQ (by omega)⟩
  obtain⟨al,am,r,_,_,p⟩:=a.st.at;rw[zY,S] at r p;rw[aa R] at r;cases r
  obtain⟨K,L,rfl,ab,x⟩:=p (by omega)
  have s:wr.rangeAt K (L+k*2) #[Value.pointer (some ⟨b.sb,0,none⟩),.pointer (some ⟨b.rb,0,none⟩)].toList:=x k (twoOf b) (by rw[zg,g]; rfl)
  have C:=ae (held_any (a.dep k b g) a.own (a.djd g) ((af a.blk 2).trans rfl) (an a.blk) (by have:=q.i; omega))
  have t:=ae a;clear p x a o
  go_wp2_with (refine bU 53 _ underlying53 rfl (sz53 _ _) _ _ s rfl _ rfl rfl ?_)
  refine(aa C).mono ?_;rintro e N ⟨rfl,F,m⟩;obtain⟨H,u⟩:=(aa t).stepD g m
  have B:=ae (show ∃D' O' d,WJ w0 N wb ob sv fv D' E O' n d/\D'.length=l/\OB O' (2*n+(k+1)) from⟨_,F,H,u,by rw[zn]; exact S,q.p m.ost⟩)
  clear m u W s
  go_wp2
  go_roundw
  ·exact⟨k+1,by omega,by go_num,B⟩
  simp[intOf]; omega
 have v:k=l:=by omega
 subst v
 have t:Hid (∃D' f O' d,WJ w0 wr wb ob sv fv D' f O' (n+0) d/\f.length=M/\OB O' (3*n+0)):=⟨D',E,O',d,a,aa ah,q.mono (by omega)⟩
 clear a o
 go_wp2
 go_loopw [5,6] (fun i _ wr=>∃(k:Nat),k<=M/\i=.int .i64 k/\Hid (∃D' f O' d,WJ w0 wr wb ob sv fv D' f O' (n+k) d/\f.length=M/\OB O' (3*n+k))) (fun i _ _=>M-(intOf i).toNat)
 ·exact⟨0,by omega,rfl,t⟩
 obtain⟨j,aq,rfl,o⟩:=hrel;obtain⟨D',f,O',d,a,T,q⟩:=aa o;have G:=(af a.blk 1).trans (show _=some fv from rfl);rw[aa Q] at G
 by_cases Z:j<M
 ·have v:(j:Int)<M:=by omega
  obtain⟨b,g⟩:∃b,f[j]?=some b:=⟨_,zQ (by omega)⟩
  obtain⟨al,am,r,_,_,p⟩:=a.fr.at;rw[zY,T] at r p;rw[aa Q] at r;cases r
  obtain⟨K,L,rfl,ab,x⟩:=p (by omega)
  have s:wr.rangeAt K (L+j*2) #[Value.pointer (some ⟨b.fb,0,none⟩),.pointer (some ⟨b.rb,0,none⟩)].toList:=x j (mO b) (by rw[zg,g]; rfl)
  have C:=ae (nx (a.des j b g) a.own (a.dje g) a.o4 ((af a.blk 2).trans rfl) (an a.blk) (by have:=q.g; omega) (by omega))
  have t:=ae a;clear p x a o
  go_wp2_with (refine bU 59 _ underlying59 rfl (sz59E _ _) _ _ s rfl _ rfl rfl ?_)
  refine(aa C).mono ?_;rintro e N ⟨rfl,F,m,_⟩;obtain⟨H,u⟩:=(aa t).stepE g m
  have B:=ae (show ∃D' f O' d,WJ w0 N wb ob sv fv D' f O' (n+(j+1)) d/\f.length=M/\OB O' (3*n+(j+1)) from⟨_,_,F,H,u,by rw[zn]; exact T,q.s m.ost⟩)
  clear m u G s
  go_wp2
  go_roundw
  ·exact⟨j+1,by omega,by go_num,B⟩
  simp[intOf]; omega
 have v:j=M:=by omega
 subst v;have ai:=(af a.blk 2).trans (show _=some (Value.pointer (some ⟨ob,0,none⟩)) from rfl)
 have ad:=ae (a.looks q (by omega))
 have P:=ae a.base;clear a o
 go_wp2_with fail
 refine(aa ad).mono ?_;rintro e ax ⟨rfl,U⟩;have X:=ae ((aa P).trans (U.mono (aa P).size));clear U G ai
 go_wp2
 go_ret;exact⟨rfl,aa X⟩
end
theorem wj_new (w:World)(f:Glb w):ni w ((w.alloc (.cells #[.slice none 0 0,.slice none 0 0,.slice none 0 0,.slice none 0 0,.slice none 0 0] 33)).alloc (.cells #[.slice none 0 0,.slice none 0 0,some w.heap.size] 37)) (w.heap.size+1) w.heap.size 0:=by
 have d:=zZ w (.cells #[.slice none 0 0,.slice none 0 0,.slice none 0 0,.slice none 0 0,.slice none 0 0] 33);have e:=zZ (w.alloc (.cells #[.slice none 0 0,.slice none 0 0,.slice none 0 0,.slice none 0 0,.slice none 0 0] 33)) (.cells #[.slice none 0 0,.slice none 0 0,some w.heap.size] 37)
 refine⟨.slice none 0 0,.slice none 0 0,[],[],⟨⟨.slice none 0 0,.slice none 0 0,.slice none 0 0,.slice none 0 0,.slice none 0 0⟩,[],[],[],[],[]⟩,fun k=>if k=w.heap.size then 2 else if k=w.heap.size+1 then 1 else 0,⟨(bu.alloc aD _).alloc (by simp) _,by simpa using e,aU,aU,fun i c b=>by simp at b,fun i c b=>by simp at b,⟨?_,aU,aU,aU,aU,aU,fun j s a=>by simp at a,fun j s a=>by simp at a,fun j s a=>by simp at a,fun j s a=>by simp at a,fun j s a=>by simp at a⟩,fun i c k b=>by simp at b,fun i c k b=>by simp at b,fun k q=>?_,?_,fun k q=>by simp[Value.ownBlock] at q,fun k q=>by simp[Value.ownBlock] at q,fun k g=>?_,f⟩,⟨by simp,by simp,by simp,by simp,by simp,by simp,by simp⟩⟩
 ·rw[zr _ _ (by simp)]; exact d
 ·rcases q with q|q|q|q|q|q|⟨s,a,_⟩
  ·subst q; simp
  ·simp[Value.ownBlock] at q
  ·simp[Value.ownBlock] at q
  ·simp[Value.ownBlock] at q
  ·simp[Value.ownBlock] at q
  ·simp[Value.ownBlock] at q
  simp at a
 ·simp
 show(if k=w.heap.size then 2 else if k=w.heap.size+1 then 1 else 0)=0
 rw[zK (by omega),zK (by omega)]
structure ScrOk2 (w:World)(v:Value)(l:List iH):Prop where
 at_:bL rOp w v l
 ok:∀(i:Nat) (o:iH),l[i]?=some o->∃b,od w o b
 len:l.length<=200000
theorem upTo_any (v:Value)(l:List iH)(w:World)(h:ScrOk2 w v l)(B:Glb w)(lo hi:Int)
  (s:∀(G:World) (wb ob n:Nat) (o:iH) (b:bK),ni w G wb ob n->n<=200000->od w o b->lo<=o.kind/\o.kind<=hi->Calls prog 7 #[some wb,.agg o.v] G fun e w'=>e=.returned (.bool true)/\ni w w' wb ob (n+1)) :
  Calls prog 6 #[v,lo,hi] w fun e w'=>e=.returned (.int .i64 (-1))/\Below w.heap.size w w':=by
 obtain⟨ad,cap,rfl,_,_,F⟩:=h.at_;have H:=h.len;have S:=ae F;have J:=ae h.ok;have R:=ae (wj_new w B);have K:=ae s;clear h F B s;go_enter func6,ntmps6
 go_wp2_with (first|refine cP _ _ (run_b33 _ _ rfl _) rfl ?_|refine cP _ _ (run_b37 w.heap.size _ _ _ rfl rfl _) rfl ?_)
 go_loopw [8,9] (fun i _ wr=>∃(k:Nat),k<=l.length/\i=.int .i64 k/\Hid (ni w wr (w.heap.size+1) w.heap.size k)) (fun i _ _=>l.length-(intOf i).toNat)
 ·exact⟨0,by omega,rfl,R⟩
 obtain⟨k,ac,rfl,a⟩:=hrel
 by_cases N:k<l.length
 ·have z:(k:Int)<l.length:=by omega
  obtain⟨o,E⟩:∃o,l[k]?=some o:=⟨_,zQ N⟩
  obtain⟨b,off,rfl,M,y⟩:=aa S (by omega)
  have A:Below w.heap.size w wr:=(aa a).base;have q:wr.rangeAt b (off+k*17) o.v.toList:=fun j u Y=>(A.cell (p:=⟨b,off+k*17+j,none⟩) M).trans (y k o E j u Y);have Z:wr.cell? ⟨b,off+k*17,none⟩=some (.int .i64 o.kind):=q 0 _ rfl;obtain⟨U,m⟩:=aa J k o E;clear y A
  by_cases g:lo<=o.kind/\o.kind<=hi
  ·have T:=ae (aa K wr (w.heap.size+1) w.heap.size k o U (aa a) (by omega) m g)
   have W:¬o.kind<lo:=by omega
   have X:¬hi<o.kind:=by omega
   clear m g
   go_wp2_with (refine bU 44 o.v underlying44 rfl (sz44 o) b (off+k*17) q rfl _ rfl rfl ?_)
   refine(aa T).mono ?_;rintro e ab ⟨rfl,f⟩;obtain⟨ag,fv,D,ai,O,c,r,C⟩:=id f;have V:=(af r.blk 2).trans (show _=some (Value.pointer (some ⟨w.heap.size,0,none⟩)) from rfl)
   have Q:=ae (r.looks C.bnd (by omega))
   have L:=ae f;clear r f Z q C
   go_wp2_with fail
   refine(aa Q).mono ?_;rintro e ah ⟨rfl,x⟩;have d:=ae ((aa L).on x);clear x V
   go_wp2
   go_roundw
   ·exact⟨k+1,by omega,by go_num,d⟩
   simp[intOf]; omega
  have d:=ae ((aa a).more)
  by_cases W:o.kind<lo
  rotate_left
  focus
   have X:hi<o.kind:=by omega
  all_goals
   clear m g
   go_wp2
   go_roundw
   ·exact⟨k+1,by omega,by go_num,d⟩
   simp[intOf]; omega
 have z:k=l.length:=by omega
 subst z;have P:=ae (endsJ_any (aa a) H)
 go_wp2_with fail
 refine(aa P).mono ?_;rintro e ab ⟨rfl,t⟩;have I:=ae t;clear t
 go_wp2
 go_ret;exact⟨rfl,aa I⟩
section
open Go.ChangeShapes Go.WideShapes Go.ChangeAt
section
variable {H:Type}{enc:TypeId × Value->H}
theorem add_add (a:Addr)(m j:Nat)(h:a.spot=none):(a.add m).add j=⟨a.block,a.off+m+j,none⟩:=by
 obtain⟨b,o,s⟩:=a;simp only at h;subst h;rw[Addr.add_mid,Addr.add_mid]
end
end
section
open Go.ChangeShapes Go.WideShapes Go.ChangeAt Go.Joins
theorem cells100:prog.cellsOf 100=25:=by kernel_rfl
theorem cells44:prog.cellsOf 44=17:=by kernel_rfl
theorem cells40:prog.cellsOf 40=1:=by kernel_rfl
theorem cells9:prog.cellsOf 9=1:=by kernel_rfl
theorem cells42:prog.cellsOf 42=5:=by kernel_rfl
section
variable {H:Type}{enc:TypeId × Value->H}
theorem bulk_pos (d:DataW H):1<=Rows.uptoBulk d:=by
 cases d with
 | lit l=>cases l<;>simp[Rows.uptoBulk]
 | _=>simp[Rows.uptoBulk]
theorem mr:∀l:List (DataW H),l.length<=Rows.uptoBulkAll l
 | []=>by simp
 | d::l=>by
  have a:=bulk_pos d;have b:=mr l;simp only[zS,Rows.uptoBulkAll];omega
theorem j6 {d:DataW H}:∀{l:List (DataW H)},d∈l->Rows.uptoBulk d<=Rows.uptoBulkAll l
 | [],h=>by simp at h
 | e::l,h=>by
  simp only[Rows.uptoBulkAll]
  rcases zv.1 h with rfl|h
  ·omega
  have:=j6 h; omega
theorem edit_cells {w:World}{base:Nat}{p:Nat->Bool}{f:Bool}{n:Nat}{cs:List Value}{x:DataW H × List MemPlace}(h:DataW.trod enc prog w base p f n 100 cs=some x):
  cs.length=25/\∀j,j<25->∃b,cs[j]?=some (.int .i64 b)/\(Lit.int .i64 b).wf=true:=by
 obtain⟨e,u,_,_,q,D,r⟩:=DataW.trod_struct underlying100 h;rw[cells100] at q
 have t:∀i,i<2->(e[i]?).isSome=true:=by
  intro i hi;have E:e.length=2:=D;simp[E,hi]
 have v:∀(a:Field),a.type=3->a.offset=0->DataW.trod enc prog w base p f u a.type ((cs.drop a.offset).take (prog.cellsOf a.type))=e[0]?->∃b,cs[0]?=some (.int .i64 b)/\(Lit.int .i64 b).wf=true:=by
  intro a g l d;rw[g,l,ku] at d
  obtain⟨z,o⟩:=za.1 (t 0 (by omega))
  rw[o] at d;obtain⟨k,A,_,B⟩:=DataW.trod_int underlying3 d;refine⟨k,?_,B⟩
  have s:((cs.drop 0).take 1)[0]?=some (.int .i64 k):=by rw[A]; rfl
  rw[zs (by omega),yD] at s
  simpa using s
 have y:∀(a:Field),a.type=66->a.offset=1->DataW.trod enc prog w base p f u a.type ((cs.drop a.offset).take (prog.cellsOf a.type))=e[1]?->∀j,j<24->∃b,cs[1+j]?=some (.int .i64 b)/\(Lit.int .i64 b).wf=true:=by
  intro a g l d j m;rw[g,l,cells26] at d
  obtain⟨z,o⟩:=za.1 (t 1 (by omega))
  rw[o] at d;obtain⟨_,C⟩:=feat_cells d;obtain⟨b,hm,hw⟩:=C j m;rw[zs m,yD] at hm;exact⟨b,hm,hw⟩
 refine⟨q,fun j m=>?_⟩
 by_cases c:j=0
 ·subst c; exact v _ rfl rfl (r 0 _ rfl)
 have:=y _ rfl rfl (r 1 _ rfl) (j-1) (by omega)
 rwa [show 1+(j-1)=j by omega] at this
theorem edits_of {r:World}{base I:Nat}{cs:List Value}{x:DataW H × List MemPlace}(M:DataW.trod enc prog r base (fun _=>true) true I 40 cs=some x):
  ∃A z y b,cs=[.slice A z y]/\bL rE r (.slice A z y) b/\b.length<=Rows.uptoBulk x.1:=by
 rcases Go.Deep.open_slice underlying40 M with⟨e,F⟩|⟨a,c,cap,G,k,D,Q,e,S,U,P,hm,F,n⟩
 ·exact⟨none,0,0,[],e,(aU (T:=100)).at,by simp⟩
 rw[zJ rfl] at hm;subst hm;rw[cells100] at n
 have l:∀i,∃f:Nat->Int,i<c->∀j,j<25->r.cell? ((a.add (i*25)).add j)=some (.int .i64 (f j)):=by
  intro i
  by_cases hi:i<c
  ·obtain⟨t,m,K⟩:=n i (by omega)
   obtain⟨R,J⟩:=edit_cells K
   have C:∀j,∃q,j<25->t[j]?=some (.int .i64 q):=by
    intro j
    by_cases d:j<25
    ·obtain⟨q,N⟩:=J j d; exact⟨q,fun _=>N.1⟩
    exact⟨0,fun h=>absurd h d⟩
   refine⟨fun j=>Classical.choose (C j),fun _ j d=>?_⟩;have O:=Classical.choose_spec (C j) d;have L:=(World.cells?_some m).2.2 j d;exact L.trans O
  exact⟨fun _=>0,fun h=>absurd h hi⟩
 have g:((List.range c).map fun i=>Classical.choose (l i)).length=c:=by simp
 refine⟨some a,c,G,(List.range c).map fun i=>Classical.choose (l i),e,⟨some a,G,by rw[g],by rw[g]; omega,by rw[g]; omega,fun B=>?_⟩,?_⟩
 ·rw[g] at B
  have p:a.spot=none:=by
   have m:=World.cell?_spot (Classical.choose_spec (l 0) B 0 (by omega))
   simpa[Addr.add] using m
  refine⟨a.block,a.off,?_,?_,fun i f hi=>?_⟩
  ·obtain⟨b,o,s⟩:=a
   simp only at p;subst p;rfl
  ·obtain⟨t,m,_⟩:=n 0 (by omega)
   have:=World.cells?_block m (by omega)
   simpa[Addr.add] using this
  have v:i<c:=by have:=(zX.1 hi).1; rwa [g] at this
  rw[zg,List.getElem?_range v] at hi;simp only[Option.map_some,zy] at hi;subst hi;intro j u E
  have d:j<25:=by
   have:=(zX.1 E).1;rw[rE.len] at this;exact this
  have w:(cc 25 (Classical.choose (l i))).toList[j]?=some u:=E;rw[yS,dc 25 _ j d] at w;cases w;have:=Classical.choose_spec (l i) v j d;rw[add_add _ _ _ p] at this;exact this
 rw[g,F];simp only[Rows.uptoBulk];have:=mr ((List.range c).map D);rw[zY,List.length_range] at this;omega
theorem fT {l:List Value}{off:Nat}{v:Value}(h:(l.drop off).take 1=[v]):l[off]?=some v:=by
 have a:((l.drop off).take 1)[0]?=some v:=by rw[h]; rfl
 rw[zs (by omega),yD] at a
 simpa using a
theorem op_cells {r:World}{base n:Nat}{cs:List Value}{x:DataW H × List MemPlace}(h:DataW.trod enc prog r base (fun _=>true) true n 44 cs=some x)(Q:Rows.uptoBulk x.1<=1048576):∃(o:iH) (b:bK),OpOk r o b/\∀j,j<17->cs[j]?=o.v[j]?:=by
 obtain⟨v,I,_,ah,aH,aA,q⟩:=DataW.trod_struct underlying44 h;have ag:v.length=10:=aA
 have G:∀i,i<10->(v[i]?).isSome=true:=by
  intro i hi;simp[ag,hi]
 have E:∀(i:Nat) (d:Field),i<5->d.type=3->d.offset=i->DataW.trod enc prog r base (fun _=>true) true I d.type ((cs.drop d.offset).take (prog.cellsOf d.type))=v[i]?->∃t,cs[i]?=some (.int .i64 t)/\(Lit.int .i64 t).wf=true:=by
  intro i d hi g m e;rw[g,m,ku] at e
  obtain⟨z,f⟩:=za.1 (G i (by omega))
  rw[f] at e;obtain⟨k,u,_,M⟩:=DataW.trod_int underlying3 e;exact⟨k,fT u,M⟩
 have V:∀(d:Field),d.type=39->d.offset=5->DataW.trod enc prog r base (fun _=>true) true I d.type ((cs.drop d.offset).take (prog.cellsOf d.type))=v[5]?->∀j,j<4->∃t,cs[5+j]?=some (.int .i64 t):=by
  intro d g m e j D;rw[g,m,cells28] at e
  obtain⟨z,f⟩:=za.1 (G 5 (by omega))
  rw[f] at e;obtain⟨w,O,_,_,R,K,p⟩:=DataW.trod_struct underlying39 e
  have L:∀i,i<4->(w[i]?).isSome=true:=by
   intro i hi;have N:w.length=4:=K;simp[N,hi]
  have go:∀(i:Nat) (d:Field),i<4->d.type=3->d.offset=i->DataW.trod enc prog r base (fun _=>true) true O d.type ((((cs.drop 5).take 4).drop d.offset).take (prog.cellsOf d.type))=w[i]?->∃t,cs[5+i]?=some (.int .i64 t):=by
   intro i d hi g m e;rw[g,m,ku] at e;obtain⟨z,f⟩:=za.1 (L i hi);rw[f] at e;obtain⟨k,u,_,M⟩:=DataW.trod_int underlying3 e;refine⟨k,?_⟩;have:=fT u;rw[zs hi,yD] at this;exact this
  match j,D with
  | 0,_=>exact go 0 _ (by omega) rfl rfl (p 0 _ rfl)
  | 1,_=>exact go 1 _ (by omega) rfl rfl (p 1 _ rfl)
  | 2,_=>exact go 2 _ (by omega) rfl rfl (p 2 _ rfl)
  | 3,_=>exact go 3 _ (by omega) rfl rfl (p 3 _ rfl)
 have P:∀(i o:Nat) (d:Field),i<10->d.type=9->d.offset=o->DataW.trod enc prog r base (fun _=>true) true I d.type ((cs.drop d.offset).take (prog.cellsOf d.type))=v[i]?->∃s:ByteArray,cs[o]?=some (.string s):=by
  intro i o d hi g m e;rw[g,m,cells9] at e;obtain⟨z,f⟩:=za.1 (G i hi);rw[f] at e;obtain⟨s,u,_,_⟩:=DataW.trod_string underlying9 e;exact⟨s,fT u⟩
 have W:∀(d:Field),d.type=40->d.offset=11->DataW.trod enc prog r base (fun _=>true) true I d.type ((cs.drop d.offset).take (prog.cellsOf d.type))=v[8]?->∃C B A b,cs[11]?=some (.slice C B A)/\bL rE r (.slice C B A) b/\b.length<=1048576:=by
  intro d g m e;rw[g,m,cells40] at e
  obtain⟨z,f⟩:=za.1 (G 8 (by omega))
  rw[f] at e;obtain⟨C,B,A,b,u,aF,aJ⟩:=edits_of e;refine⟨C,B,A,b,fT u,aF,?_⟩
  have hm:z.1∈v.map (·.1):=yE (zR f)
  have:=j6 hm;rw[ah] at Q;simp only[Rows.uptoBulk] at Q;omega
 have U:∀(d:Field),d.type=42->d.offset=12->DataW.trod enc prog r base (fun _=>true) true I d.type ((cs.drop d.offset).take (prog.cellsOf d.type))=v[9]?->∀j,j<5->∃t,cs[12+j]?=some (.int .i64 t):=by
  intro d g m e j D;rw[g,m,cells42] at e
  obtain⟨z,f⟩:=za.1 (G 9 (by omega))
  rw[f] at e;obtain⟨w,O,_,_,R,K,p⟩:=DataW.trod_struct underlying42 e
  have L:∀i,i<5->(w[i]?).isSome=true:=by
   intro i hi;have N:w.length=5:=K;simp[N,hi]
  have go:∀(i:Nat) (d:Field),i<5->d.type=3->d.offset=i->DataW.trod enc prog r base (fun _=>true) true O d.type ((((cs.drop 12).take 5).drop d.offset).take (prog.cellsOf d.type))=w[i]?->∃t,cs[12+i]?=some (.int .i64 t):=by
   intro i d hi g m e;rw[g,m,ku] at e;obtain⟨z,f⟩:=za.1 (L i hi);rw[f] at e;obtain⟨k,u,_,M⟩:=DataW.trod_int underlying3 e;refine⟨k,?_⟩;have:=fT u;rw[zs hi,yD] at this;exact this
  match j,D with
  | 0,_=>exact go 0 _ (by omega) rfl rfl (p 0 _ rfl)
  | 1,_=>exact go 1 _ (by omega) rfl rfl (p 1 _ rfl)
  | 2,_=>exact go 2 _ (by omega) rfl rfl (p 2 _ rfl)
  | 3,_=>exact go 3 _ (by omega) rfl rfl (p 3 _ rfl)
  | 4,_=>exact go 4 _ (by omega) rfl rfl (p 4 _ rfl)
 obtain⟨aB,ao,_⟩:=E 0 _ (by omega) rfl rfl (q 0 _ rfl)
 obtain⟨aC,ap,aD⟩:=E 1 _ (by omega) rfl rfl (q 1 _ rfl)
 obtain⟨a,aq,_⟩:=E 2 _ (by omega) rfl rfl (q 2 _ rfl)
 obtain⟨ai,ar,_⟩:=E 3 _ (by omega) rfl rfl (q 3 _ rfl)
 obtain⟨c,au,_⟩:=E 4 _ (by omega) rfl rfl (q 4 _ rfl)
 have J:=V _ rfl rfl (q 5 _ rfl)
 obtain⟨l,av⟩:=J 0 (by omega)
 obtain⟨z,aw⟩:=J 1 (by omega)
 obtain⟨aG,ax⟩:=J 2 (by omega)
 obtain⟨y,ay⟩:=J 3 (by omega)
 obtain⟨S,az⟩:=P 6 9 _ (by omega) rfl rfl (q 6 _ rfl)
 obtain⟨T,X⟩:=P 7 10 _ (by omega) rfl rfl (q 7 _ rfl)
 obtain⟨C,B,A,b,Y,aE,aI⟩:=W _ rfl rfl (q 8 _ rfl);have F:=U _ rfl rfl (q 9 _ rfl)
 obtain⟨aj,Z⟩:=F 0 (by omega)
 obtain⟨ak,ab⟩:=F 1 (by omega)
 obtain⟨al,ac⟩:=F 2 (by omega)
 obtain⟨am,ad⟩:=F 3 (by omega)
 obtain⟨an,af⟩:=F 4 (by omega)
 refine⟨⟨aB,aC,a,ai,c,l,z,aG,y,S,T,C,B,A,aj,ak,al,am,an⟩,b,⟨aE,by omega,wf_64 aD⟩,fun j D=>?_⟩
 match j,D with
 | 0,_=>exact ao
 | 1,_=>exact ap
 | 2,_=>exact aq
 | 3,_=>exact ar
 | 4,_=>exact au
 | 5,_=>exact av
 | 6,_=>exact aw
 | 7,_=>exact ax
 | 8,_=>exact ay
 | 9,_=>exact az
 | 10,_=>exact X
 | 11,_=>exact Y
 | 12,_=>exact Z
 | 13,_=>exact ab
 | 14,_=>exact ac
 | 15,_=>exact ad
 | 16,_=>exact af
 | j+17,D=>omega
end
section
variable {H:Type}{enc:TypeId × Value->H}
theorem bulk_ten:∀l:List (DataW H),(∀a,a∈l->10<=Rows.uptoBulk a)->10*l.length<=Rows.uptoBulkAll l
 | [],_=>by simp
 | a::l,h=>by
  have c:=h a yJ;have d:=bulk_ten l fun e b=>h e (zt _ b);simp only[zS,Rows.uptoBulkAll];omega
theorem op_ten {e:World}{base n:Nat}{cs:List Value}{x:DataW H × List MemPlace}(h:DataW.trod enc prog e base (fun _=>true) true n 44 cs=some x):10<=Rows.uptoBulk x.1:=by
 obtain⟨a,i,_,c,f,d,g⟩:=DataW.trod_struct underlying44 h;have b:a.length=10:=d;rw[c];simp only[Rows.uptoBulk]
 have:=mr (a.map (·.1))
 rw[zY,b] at this;omega
theorem op_str {j:World}{base n:Nat}{cs:List Value}{x:DataW H × List MemPlace}(h:DataW.trod enc prog j base (fun _=>true) true n 44 cs=some x)(f:Rows.uptoBulk x.1<=1048576){s t:ByteArray}(l:cs[9]?=some (.string s))(k:cs[10]?=some (.string t)):s.size<=1048576/\t.size<=1048576:=by
 obtain⟨b,y,_,m,A,v,d⟩:=DataW.trod_struct underlying44 h;have B:b.length=10:=v
 have go:∀(a:Field) (i o:Nat) (s:ByteArray),i<10->a.type=9->a.offset=o->cs[o]?=some (.string s)->DataW.trod enc prog j base (fun _=>true) true y a.type ((cs.drop a.offset).take (prog.cellsOf a.type))=b[i]?->s.size<=1048576:=by
  intro a i o s hi p q w c;rw[p,q,cells9] at c
  obtain⟨z,g⟩:∃z,b[i]?=some z:=⟨_,zQ (by omega)⟩
  rw[g] at c;obtain⟨C,r,u,_⟩:=DataW.trod_string underlying9 c;have:=fT r;rw[w] at this;cases this
  have hm:z.1∈b.map (·.1):=yE (zR g)
  have:=j6 hm;rw[m] at f;simp only[Rows.uptoBulk] at f;rw[u] at this;simp only[Rows.uptoBulk,zj] at this;have e:s.size=s.data.size:=rfl;omega
 exact⟨go _ 6 9 s (by omega) rfl rfl l (d 6 _ rfl),go _ 7 10 t (by omega) rfl rfl k (d 7 _ rfl)⟩
theorem op_cells2 {d:World}{base n:Nat}{cs:List Value}{x:DataW H × List MemPlace}(h:DataW.trod enc prog d base (fun _=>true) true n 44 cs=some x)(c:Rows.uptoBulk x.1<=1048576):∃(o:iH) (b:bK),od d o b/\∀j,j<17->cs[j]?=o.v[j]?:=by
 obtain⟨o,b,e,a⟩:=op_cells h c
 obtain⟨f,g⟩:=op_str h c ((a 9 (by omega)).trans rfl) ((a 10 (by omega)).trans rfl)
 exact⟨o,b,⟨e,f,g⟩,a⟩
theorem oS {m:World}{P:Reach}{E base:Nat}{v:Value}{x:DataW H}{p:List MemPlace}(M:Value.okWide prog m P E 22 v)(h:DataW.Trod enc prog m base (fun _=>true) true 22 v x p)(B:Rows.uptoBulk x<=1048576):∃N,ScrOk2 m v N:=by
 obtain⟨Y,d,cap,rfl⟩:=okWide_slice underlying22 M;obtain⟨S,L⟩:=h
 rcases Go.Deep.open_slice underlying22 L with⟨e,_⟩|⟨a,W,Q,O,k,D,X,e,I,Z,U,hm,C,n⟩
 ·simp only[Value.cells,List.cons.injEq,Value.slice.injEq,and_true] at e
  obtain⟨rfl,rfl,rfl⟩:=e
  exact⟨[],(aU (R:=rOp) (T:=44)).at,fun i s h=>by simp at h,by simp⟩
 simp only[Value.cells,List.cons.injEq,Value.slice.injEq,and_true] at e;obtain⟨rfl,rfl,rfl⟩:=e;rw[zJ rfl] at hm;subst hm;rw[cells44] at n;simp only[Prod.mk.injEq] at C;rw[C.1] at B;simp only[Rows.uptoBulk] at B
 have V:d<=200000:=by
  have:=bulk_ten ((List.range d).map D) fun x K=>by
   obtain⟨i,hi,rfl⟩:=yH.1 K
   obtain⟨z,g,r⟩:=n i (by have:=yL.1 hi; omega)
   exact op_ten r
  rw[zY,List.length_range] at this;omega
 have c:∀i,∃s:iH,i<d->(∃b,od m s b)/\∀j,j<17->m.cell? ((a.add (i*17)).add j)=s.v[j]?:=by
  intro i
  by_cases hi:i<d
  ·obtain⟨z,g,r⟩:=n i (by omega)
   have hm:D i∈(List.range d).map D:=yE (yL.2 hi);have I:=j6 hm
   obtain⟨s,b,F,G⟩:=op_cells2 r (by show Rows.uptoBulk (D i)<=_; omega)
   have J:=(World.cells?_some g).2.2
   exact⟨s,fun _=>⟨⟨b,F⟩,fun j t=>(J j (by omega)).trans (G j t)⟩⟩
  exact⟨⟨0,0,0,0,0,0,0,0,0,⟨#[]⟩,⟨#[]⟩,none,0,0,0,0,0,0,0⟩,fun h=>absurd h hi⟩
 have l:((List.range d).map fun i=>Classical.choose (c i)).length=d:=by simp
 have y:∀(i:Nat) (s:iH),((List.range d).map fun i=>Classical.choose (c i))[i]?=some s->i<d/\s=Classical.choose (c i):=by
  intro i s hi
  have f:i<d:=by have:=(zX.1 hi).1; rwa [l] at this
  refine⟨f,?_⟩;rw[zg,List.getElem?_range f] at hi;simpa using hi.symm
 refine⟨(List.range d).map fun i=>Classical.choose (c i),⟨some a,O,by rw[l],by rw[l]; omega,by rw[l]; omega,fun A=>?_⟩,fun i s hi=>?_,by rw[l]; omega⟩
 ·rw[l] at A
  have q:a.spot=none:=by
   have g:=World.cell?_spot ((Classical.choose_spec (c 0) A).2 0 (by omega) |>.trans (show(Classical.choose (c 0)).v[0]?=some (.int .i64 (Classical.choose (c 0)).kind) from rfl))
   simpa[Addr.add] using g
  refine⟨a.block,a.off,?_,?_,fun i s hi=>?_⟩
  ·obtain⟨b,o,ab⟩:=a
   simp only at q;subst q;rfl
  ·obtain⟨z,g,_⟩:=n 0 (by omega)
   have:=World.cells?_block g (by omega)
   simpa[Addr.add] using this
  obtain⟨f,rfl⟩:=y i s hi;intro j u w;have t:j<17:=(zX.1 w).1;have:=(Classical.choose_spec (c i) f).2 j t;rw[add_add _ _ _ q] at this;have e:(rOp.enc (Classical.choose (c i)))[j]?=(Classical.choose (c i)).v[j]?:=yS;rw[e] at w;exact this.trans w
 obtain⟨f,rfl⟩:=y i s hi;exact(Classical.choose_spec (c i) f).1
end
end
section
open Go.ChangeShapes Go.WideShapes Go.ChangeAt Go.Joins
open Go.ChangeMaps (open_string shut_string)
theorem gNames : Tryz.prog.globalNamed "atlas/wire.layerNames" = some 0 := by kernel_rfl
theorem gPow : Tryz.prog.globalNamed "internal/strconv.uint64pow10" = some 1 := by kernel_rfl
theorem gTab : Tryz.prog.globalNamed "math/bits.deBruijn64tab" = some 3 := by kernel_rfl
theorem tNames:(prog.globals[0]?).map (·.type)=some 226:=by kernel_rfl
theorem tPow:(prog.globals[1]?).map (·.type)=some 253:=by kernel_rfl
theorem cells226:prog.cellsOf 226=4:=by kernel_rfl
theorem cells247:prog.cellsOf 247=1:=by kernel_rfl
theorem cells253:prog.cellsOf 253=20:=by kernel_rfl
theorem str_of (s:ByteArray)(l:List UInt8)(h:s.data.toList=l):s=⟨l.toArray⟩:=by
 rw[<-h]
theorem ld {b:Type}{enc:TypeId × Value->b}{i:World}{base:Nat}{g:Nat->Bool}{d:Bool}{j:Nat}{c:Value}{x:DataW b × List MemPlace}{l:List UInt8}
  (h:DataW.trod enc prog i base g d j 9 [c]=some x) (e:DataW.lit (.string l)=x.1):c=.string ⟨l.toArray⟩:=by
 obtain⟨s,a,f,_⟩:=DataW.trod_string underlying9 h;rw[f] at e;simp only[DataW.lit.injEq,Lit.string.injEq] at e;simp only[List.cons.injEq,and_true] at a;rw[a,str_of s l e.symm]
theorem var_lt {a:World}{n:String}{g:Nat}{cs:Array Value}(b:prog.globalNamed n=some g)(h:a.var? prog n=some cs):g<a.heap.size:=by
 simp only[World.var?,b,Option.bind_some] at h
 rcases yP g a.heap.size with q|q
 ·exact q
 rw[xK q] at h;simp at h
theorem of_laid {a : World}(h : laidMetH Tryz.prog Rows.frontsUptoRow.laid a): Dw.NamesIn a ∧ Lib.TabIs Tryz.prog a "internal/strconv.uint64pow10" .u64 Lib.pow10Tab ∧ 4 ≤ a.heap.size := by
 have I:laidMet prog Rows.frontsUptoRow.laid a:=h;obtain⟨ao,⟨ai,av,V,ag,am,ap,Z,ac,af,X,⟨aj,aw,W,ah,an,aq,ab,ad,w,Y,⟨ak,ax,q,G,O,ar,t,u,x,r,⟨al,ay,n,H,P,au,d,v,c,s,_,_⟩,_⟩,_⟩,_⟩,_⟩:=I;obtain rfl:=zu (gPow.symm.trans t);obtain rfl:=zu (tPow.symm.trans u);obtain rfl:=zu (gNames.symm.trans d);obtain rfl:=zu (tNames.symm.trans v);refine⟨?_,?_,?_⟩
 ·have p:DataW.trod _ prog a _ _ _ H 226 n.toList=some (.agg [.lit (.string [108,97,110,100]),.lit (.string [119,97,116,101,114]),.lit (.string [114,111,97,100]),.lit (.string [109,97,114,107])],P):=s
  obtain⟨U,k,rfl,e,m,J,b⟩:=DataW.trod_array underlying226 p;rw[cells226] at m;simp only[Prod.mk.injEq,DataW.agg.injEq] at e
  match U,J,e,b with
  | [Q,R,S,T],_,e,b=>
   simp only[zA,yQ,List.cons.injEq,and_true] at e;obtain⟨⟨C,D,E,F⟩,_⟩:=e
   have f:=b 0 (by decide)
   have g:=b 1 (by decide)
   have i:=b 2 (by decide)
   have j:=b 3 (by decide)
   rw[cells9] at f g i j;obtain⟨l⟩:=n
   match l,m,c,f,g,i,j with
   | [y,z,A,B],_,c,f,g,i,j=>
    have K:=ld (show DataW.trod _ prog a _ _ _ k 9 [y]=some Q from f) C;have L:=ld (show DataW.trod _ prog a _ _ _ k 9 [z]=some R from g) D;have M:=ld (show DataW.trod _ prog a _ _ _ k 9 [A]=some S from i) E;have N:=ld (show DataW.trod _ prog a _ _ _ k 9 [B]=some T from j) F;subst K L M N;exact⟨World.var?_cell d c 0,World.var?_cell d c 1,World.var?_cell d c 2,World.var?_cell d c 3⟩
 ·show a.var? prog _=_
  rw[x];have o:DataW.trod _ prog a _ _ _ G 253 q.toList=some (Lib.tabData .u64 Lib.pow10Tab,O):=r;have:=Lib.cells_of_tab underlying253 underlying247 cells247 cells253 o;rw[<-this]
 have:=var_lt gTab w;omega
theorem glb_of {c:World}(h:laidMetH prog Rows.frontsUptoRow.laid c):Glb c:=by
 obtain⟨⟨f,g,i,j⟩,k,l⟩:=of_laid h;refine⟨l,fun e b=>⟨⟨?_,?_,?_,?_⟩,?_⟩⟩
 ·exact(zP (a:=⟨0,0,none⟩) (b 0 (by omega))).trans f
 ·exact(zP (a:=⟨0,1,none⟩) (b 0 (by omega))).trans g
 ·exact(zP (a:=⟨0,2,none⟩) (b 0 (by omega))).trans i
 ·exact(zP (a:=⟨0,3,none⟩) (b 0 (by omega))).trans j
 have d : c.var? Tryz.prog "internal/strconv.uint64pow10" = some (Lib.pow10Tab.map fun z => Value.int .u64 z).toArray := k
 show e.var? prog _=_;simp only[World.var?,gPow,Option.bind_some] at d ⊢
 rw[b 1 (by omega)]
 exact d
end
end Go.Proofs.YtpabpniaekldeaaGreatDoor
