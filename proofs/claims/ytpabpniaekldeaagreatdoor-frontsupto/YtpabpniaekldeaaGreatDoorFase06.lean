/-
  The texts SfB, SfF, SfC, SdI, SdJ, SdK, SbV, SbX, SfG, SfH, FeW, SdL, SfI, SbZ, SfJ, FgB.
-/
import Derived.Test.YtpabpniaekldeaaGreatDoorFase05
set_option maxHeartbeats 25600000
namespace Go.Proofs.YtpabpniaekldeaaGreatDoor
open Go.Proofs.Tryz
open Go.RowKit
set_option maxRecDepth 20000
theorem inf89:(prog.info? 89).map (fun i=>(i.zero,i.size,i.bytes))=some (some (.slice none 0 0),1,24):=by kernel_rfl
theorem ap29 {w:World}{v x:Value}{l news:List cA}(ho:ah cq 89 w v l)(hx:bL cq w x news)(hl:l.length+news.length<=100000000):
  ∃v' w',(Builtin.append_ #[29,29] 29 #[v,x]).run prog w=.ok v' w'/\ah cq 89 w' v' (l++news)/\w.grownBy w' v.ownBlock/\(v'.ownBlock=v.ownBlock\/∀g,v'.ownBlock=some g->w.heap.size<=g):=by
 obtain⟨i,h1,h2,h3,h4⟩:=ee inf89
 exact ah.append (P:=prog) 29 29 i _ 24 underlying29 h1 h2 h3 h4 rfl ho news x hx (by unfold maxLen; omega) (by omega)
theorem inf104:(prog.info? 104).map (fun i=>(i.zero,i.size,i.bytes))=some (some (.slice none 0 0),1,24):=by kernel_rfl
theorem ap30 {w:World}{v x:Value}{l news:List cA}(ho:ah cq 104 w v l)(hx:bL cq w x news)(hl:l.length+news.length<=100000000):
  ∃v' w',(Builtin.append_ #[30,30] 30 #[v,x]).run prog w=.ok v' w'/\ah cq 104 w' v' (l++news)/\w.grownBy w' v.ownBlock/\(v'.ownBlock=v.ownBlock\/∀g,v'.ownBlock=some g->w.heap.size<=g):=by
 obtain⟨i,h1,h2,h3,h4⟩:=ee inf104
 exact ah.append (P:=prog) 30 30 i _ 24 underlying30 h1 h2 h3 h4 rfl ho news x hx (by unfold maxLen; omega) (by omega)
theorem bsS29 (a:Option Addr)(n c:Nat)(ev:Operand->Value)(o:Oper)(x:Operand)(ho:o.op=.buildSlice 29 1 #[(0,x)])(hx:ev x=.slice a n c)(w:World):(execOp ev o).run prog w=.ok (.value (.slice (some ⟨w.heap.size,0,none⟩) 1 1)) (w.alloc (.cells #[.slice a n c] 89)):=by
 unfold execOp;simp only[ho];simp only[List.map_toArray,List.map_cons,List.map_nil,hx]
 kernel_rfl
theorem bsS30 (a:Option Addr)(n c:Nat)(ev:Operand->Value)(o:Oper)(x:Operand)(ho:o.op=.buildSlice 30 1 #[(0,x)])(hx:ev x=.slice a n c)(w:World):(execOp ev o).run prog w=.ok (.value (.slice (some ⟨w.heap.size,0,none⟩) 1 1)) (w.alloc (.cells #[.slice a n c] 104)):=by
 unfold execOp;simp only[ho];simp only[List.map_toArray,List.map_cons,List.map_nil,hx]
 kernel_rfl
theorem szT (a b c d e f g h:Int):(prog.info? 107).map (·.size)=some (#[a,b,c,d,e,f,g,h]:Array Value).size:=by kernel_rfl
theorem toldOne (a b c d e f g h:Int):(#[a,b,c,d,e,f,g,h]:Array Value).all (·.oneCell')=true:=by simp[Value.oneCell']
theorem builtR (n:Nat):prog.built 103 [(0,.int .i64 (ei n))]=some #[.int .i64 (ei n),.int .i64 0,.string ⟨#[]⟩,.string ⟨#[]⟩]:=by kernel_rfl
theorem run_bR (n:Nat)(A:Act)(o:Oper)(x:Operand)(ho:o.op=.build 103 #[(0,x)])(hx:A.eval x=.int .i64 (ei n))(w:World):(execOp A.eval o).run prog w=.ok (.value (.agg #[.int .i64 (ei n),.int .i64 0,.string ⟨#[]⟩,.string ⟨#[]⟩])) w:=by
 have hb:=run_build (P:=prog) w 103 #[(0,.int .i64 (ei n))] _ (builtR n);unfold execOp;simp[ho,hx,hb]
theorem builtG (n:Nat):prog.built 107 [(1,.int .i64 (ei n))]=some #[.int .i64 0,.int .i64 0,.int .i64 0,.int .i64 0,.int .i64 (ei n),.int .i64 0,.int .i64 0,.int .i64 0]:=by kernel_rfl
theorem run_bG (n:Nat)(A:Act)(o:Oper)(x:Operand)(ho:o.op=.build 107 #[(1,x)])(hx:A.eval x=.int .i64 (ei n))(w:World):(execOp A.eval o).run prog w=.ok (.value (.agg #[.int .i64 0,.int .i64 0,.int .i64 0,.int .i64 0,.int .i64 (ei n),.int .i64 0,.int .i64 0,.int .i64 0])) w:=by
 have hb:=run_build (P:=prog) w 107 #[(1,.int .i64 (ei n))] _ (builtG n);unfold execOp;simp[ho,hx,hb]
section
variable {w w1 w3:World}{ob:Nat}{V:OV}{IS FS RS GS ES:List cA}{v:Value}
theorem bA.fillR {l:List _}(h:bA w ob V IS FS RS GS ES)(hv:ah bE 103 w v l)(hF:aE (fun k=>v.ownBlock=some k) w w1)(hd:∀s∈RS,∀g,s.v.ownBlock=some g->v.ownBlock≠some g):bA w1 ob V IS FS RS GS ES:=by
 have ne:∀{c:Array Value} {U:TypeId} {k:Nat},w.heap[k]?=some (.cells c U (0,0))->U≠103->¬v.ownBlock=some k:=fun e hU q=>by
  obtain⟨c2,e2⟩:=hv.ty q;exact aI e e2 hU rfl
 refine h.frm hF fun k hk=>?_
 rcases hk with rfl|q|q|q|q|q|⟨s,hs,q⟩
 ·exact ne h.blk (by decide)
 ·obtain⟨c,e⟩:=h.i.ty q; exact ne e (by decide)
 ·obtain⟨c,e⟩:=h.f.ty q; exact ne e (by decide)
 ·obtain⟨c,e⟩:=h.r.ty q; exact ne e (by decide)
 ·obtain⟨c,e⟩:=h.g.ty q; exact ne e (by decide)
 ·obtain⟨c,e⟩:=h.e.ty q; exact ne e (by decide)
 rcases hs with hs|hs|hs|hs|hs
 ·obtain⟨j,hj⟩:=List.mem_iff_getElem?.1 hs; obtain⟨c,e⟩:=(h.il j s hj).ty q; exact ne e (by decide)
 ·obtain⟨j,hj⟩:=List.mem_iff_getElem?.1 hs; obtain⟨c,e⟩:=(h.fl j s hj).ty q; exact ne e (by decide)
 ·exact hd s hs k q
 ·obtain⟨j,hj⟩:=List.mem_iff_getElem?.1 hs; obtain⟨c,e⟩:=(h.gl j s hj).ty q; exact ne e (by decide)
 obtain⟨j,hj⟩:=List.mem_iff_getElem?.1 hs; obtain⟨c,e⟩:=(h.el j s hj).ty q; exact ne e (by decide)
theorem bA.addR {s:cA}{x:Value}{o:Obj}(h:bA w ob V IS FS RS GS ES)(r2:ah cq 89 w3 x (RS++[s]))(r3:(w.alloc o).grownBy w3 V.rv.ownBlock)(hs:ah bE 103 w s.v (List.replicate s.n (owR RS.length))):
  bA (w3.setCell ⟨ob,2,none⟩ x) ob { V with rv:=x } IS FS (RS++[s]) GS ES:=by
 have hb:=cu (c:=V.a) h.r (by decide) h.blk r3
 refine⟨?_,h.i.past h.r (by decide) h.blk (by decide) r3,h.f.past h.r (by decide) h.blk (by decide) r3,r2.same fun g hg=>Below.heap_setCell _ _ _ _ (by obtain⟨c1,e1⟩:=r2.ty hg; exact aI e1 hb (by decide)),h.g.past h.r (by decide) h.blk (by decide) r3,h.e.past h.r (by decide) h.blk (by decide) r3,?_,?_,?_,?_,?_⟩
 ·show(w3.setCell ⟨ob,2,none⟩ x).heap[ob]?=_
  simp[World.setCell,Array.getElem?_modify,hb];rfl
 ·exact fun j t ht=>(h.il j t ht).past h.r (by decide) h.blk (by decide) r3
 ·exact fun j t ht=>(h.fl j t ht).past h.r (by decide) h.blk (by decide) r3
 ·intro j t ht
  rcases getElem?_snoc ht with q|⟨rfl,rfl⟩
  ·exact(h.rl j t q).past h.r (by decide) h.blk (by decide) r3
  exact hs.past h.r (by decide) h.blk (by decide) r3
 ·exact fun j t ht=>(h.gl j t ht).past h.r (by decide) h.blk (by decide) r3
 exact fun j t ht=>(h.el j t ht).past h.r (by decide) h.blk (by decide) r3
def KeptR (w:World)(ob:Nat)(V:OV)(IS FS RS GS ES:List cA)(v:Value)(e:Ending)(w':World):Prop:=
 e=.returned (.tuple #[])/\∃(s:cA) (x:Value),s.v.ownBlock=v.ownBlock/\bA w' ob { V with rv:=x } IS FS (RS++[s]) GS ES/\aE (fun k=>k=ob\/V.rv.ownBlock=some k\/v.ownBlock=some k) w w'/\(x.ownBlock=V.rv.ownBlock\/∀g,x.ownBlock=some g->w.heap.size<=g)
theorem fZ {l:List _}(h:bA w ob V IS FS RS GS ES)(hv:ah bE 103 w v l)(hd:∀s∈RS,∀g,s.v.ownBlock=some g->v.ownBlock≠some g)(hl:RS.length<=10000000):
  Calls prog 49 #[.pointer (some ⟨ob,0,none⟩),v] w fun e w'=>KeptR w ob V IS FS RS GS ES v e w':=by
 obtain⟨a0,k0,hiv⟩:=h.r.slice
 have c0:w.cell? ⟨ob,2,none⟩=some (.slice a0 RS.length k0):=by rw[h.cells 2,<-hiv]; rfl
 have hob:=an h.blk;obtain⟨N,hN⟩:∃N,RS.length=N:=⟨_,rfl⟩;rw[hN] at c0 hl
 rcases hv with⟨rfl,rfl⟩|⟨g,off,cap,cur,rfl,hh,h1,h2,h3,h4⟩
 ·obtain⟨x,w3,r1,r2,r3,r4⟩:=ap29 (h.r.on (bu.alloc aD (.cells #[.slice none 0 0] 89))) (aZ cq 89 w ⟨none,0,0⟩ #[.slice none 0 0] rfl) (by simp; omega)
  obtain⟨xa,xn,xc,rfl⟩:=r2.slc
  have hb3:=cu (c:=V.a) h.r (by decide) h.blk r3
  have c3:w3.cell? ⟨ob,2,none⟩=V.a[2]?:=af hb3 2
  have c4:w3.cell? ⟨ob,2,none⟩=some (.slice a0 N k0):=by rw[c3,<-hN,<-hiv]; rfl
  have fz:=bi hb3 2
  have HH:Hid (KeptR w ob V IS FS RS GS ES (.slice none 0 0) (.returned (.tuple #[])) (w3.setCell ⟨ob,2,none⟩ (.slice xa xn xc))):=by
   refine⟨rfl,⟨none,0,0⟩,_,rfl,h.addR r2 r3 (Or.inl ⟨rfl,rfl⟩),((cn bu r3).mono fun _ _ q=>Or.inr (Or.inl q)).setCell _ (fun _=>Or.inl rfl),?_⟩
   rcases r4 with r4|r4
   ·exact Or.inl r4
   exact Or.inr fun g hg=>by have q1:=r4 g hg; simp at q1; omega
  rw[hiv,hN] at r1;clear r2 r3 r4 hb3 c3 h hd hiv hN;go_enter func49,ntmps49
  go_wp2_with fail
  go_loopw [5] (fun i wr=>i=.int .i64 0/\wr=w) (fun _ _=>0)
  case atStart=>exact⟨rfl,rfl⟩
  case round=>
   obtain⟨rfl,rfl⟩:=hrel
   go_wp2_with (first|refine cP _ _ (bsS29 none 0 0 _ _ _ rfl rfl _) rfl ?_|(at_builtin; refine fS 29 r1 rfl _ _ rfl rfl rfl rfl ?_))
   exact bodyPost_end (results_none results49 _ _ _) rfl (aa HH)
 have hv:ah bE 103 w (.slice (some ⟨g,off,none⟩) l.length cap) l:=Or.inr ⟨g,off,cap,cur,rfl,hh,h1,h2,h3,h4⟩;have hgl:=an hh
 have hgo:ob≠g:=(aI h.blk hh (by decide))
 have HF0:=ae (lw.zero (x:=owR N) hv);have HV:=ae hv;have HI:=ae h;have HD:=ae hd
 have hlc:(l.length:Int)<=cap:=by omega
 have h2':(cap:Int)<=9223372036854775807:=by unfold maxLen at h2; omega
 have HM:=ae h2;have HIV:=ae hiv;have HN:=ae hN;clear hv hh h3 h4 h hd h2 hiv hN;go_enter func49,ntmps49
 go_wp2_with fail
 go_loopw [5] (fun i wr=>∃k:Nat,k<=cap/\i=.int .i64 k/\Hid (lw bE 103 wr g off cap k (owR N))/\Hid (w.grownBy wr (some g))) (fun i _=>cap-(intOf i).toNat)
 case atStart=>exact⟨0,by omega,rfl,HF0,ae (World.grownBy.refl _ _)⟩
 case round=>
  obtain⟨k,hk,rfl,hF,hG⟩:=hrel
  have r0:wr.cell? ⟨ob,2,none⟩=some (.slice a0 N k0):=by
   rw[World.cell?_of_block (a:=⟨ob,2,none⟩) ((aa hG).block ob hob (fun q=>by cases q; exact hgo rfl))]; exact c0
  by_cases hlk:k<cap
  ·have hkn:(k:Int)<cap:=by omega
   have OW:=ae (fun W=>eC N W (by omega))
   have HS:=(aa hF).step hlk;have HG2:Hid (w.grownBy (wr.setCells g (off+k*4) (bE.enc (owR N))) (some g)):=⟨HS.2.os.trans (aa hG).os,HS.2.tape.trans (aa hG).tape,HS.2.output.trans (aa hG).output,Nat.le_trans (aa hG).size HS.2.size,fun q hq hne=>(HS.2.block q (Nat.lt_of_lt_of_le hq (aa hG).size) hne).trans ((aa hG).block q hq hne)⟩;have HF2:Hid (lw bE 103 (wr.setCells g (off+k*4) (bE.enc (owR N))) g off cap (k+1) (owR N)):=HS.1;have hth:wr.there g (off+k*4) 4:=(aa hF).there hlk;clear HS;obtain⟨w9,hw9⟩:∃w9,wr.setCells g (off+k*4) (bE.enc (owR N))=w9:=⟨_,rfl⟩;rw[hw9] at HF2 HG2;have HW9:Hid (wr.setCells g (off+k*4) (#[.int .i64 (ei N),(),.string ⟨#[]⟩,.string ⟨#[]⟩]:Array Value).toList=w9):=hw9;clear hw9
   go_wp2_with fail
   refine(aa OW _).mono ?_;rintro e w5 ⟨rfl,rfl⟩
   go_wp2_with (first|refine cP _ _ (run_bR N _ _ _ rfl rfl _) rfl ?_|refine cU w9 (stMid _ _ _ _ 103 rfl g (off+k*4) (#[.int .i64 (ei N),(),.string ⟨#[]⟩,.string ⟨#[]⟩]) rfl rfl wr w9 hth (ki _ _ _ _) (gh _ _ _ _) (aa HW9)) rfl ?_)
   go_roundw
   case rel=>exact⟨k+1,by omega,by go_num,HF2,HG2⟩
   case measure=>simp[intOf]; omega
  have hkn:k=cap:=by omega
  subst hkn
  have hFr:aE (fun q=>(Value.slice (some ⟨g,off,none⟩) l.length k).ownBlock=some q) w wr:=(aE.rfl' _ w).grown (aa hG) fun q hq _=>by cases hq; rfl
  have h1:=(aa HI).fillR (aa HV) hFr (aa HD);have hsN:ah bE 103 wr (cA.v ⟨some ⟨g,off,none⟩,k,k⟩) (List.replicate k (owR N)):=(aa hF).own (aa HM)
  obtain⟨x,w3,r1,r2,r3,r4⟩:=ap29 (h1.r.on (bu.alloc aD (.cells #[.slice (some ⟨g,off,none⟩) k k] 89))) (aZ cq 89 wr ⟨some ⟨g,off,none⟩,k,k⟩ #[.slice (some ⟨g,off,none⟩) k k] rfl) (by have:=aa HN; simp; omega)
  obtain⟨xa,xn,xc,rfl⟩:=r2.slc
  have hb3:=cu (c:=V.a) h1.r (by decide) h1.blk r3
  have c3:w3.cell? ⟨ob,2,none⟩=V.a[2]?:=af hb3 2
  have c4:w3.cell? ⟨ob,2,none⟩=some (.slice a0 N k0):=by rw[c3,<-aa HN,<-aa HIV]; rfl
  have fz:=bi hb3 2;have hsz:=(aa hG).size
  have HH:Hid (KeptR w ob V IS FS RS GS ES (.slice (some ⟨g,off,none⟩) l.length k) (.returned (.tuple #[])) (w3.setCell ⟨ob,2,none⟩ (.slice xa xn xc))):=by
   refine⟨rfl,⟨some ⟨g,off,none⟩,k,k⟩,_,rfl,h1.addR r2 r3 (by rw[aa HN]; exact hsN),((hFr.mono fun _ _ q=>Or.inr (Or.inr q)).then (cn bu r3) fun _ _ q=>Or.inr (Or.inl q)).setCell _ (fun _=>Or.inl rfl),?_⟩
   rcases r4 with r4|r4
   ·exact Or.inl r4
   exact Or.inr fun g hg=>by have q1:=r4 g hg; simp at q1; omega
  rw[aa HIV,aa HN] at r1;clear r2 r3 r4 hb3 c3 h1 hFr hsN
  go_wp2_with (first|refine cP _ _ (bsS29 (some ⟨g,off,none⟩) k k _ _ _ rfl rfl _) rfl ?_|(at_builtin; refine fS 29 r1 rfl _ _ rfl rfl rfl rfl ?_))
  exact bodyPost_end (results_none results49 _ _ _) rfl (aa HH)
theorem bA.fillG {l:List _}(h:bA w ob V IS FS RS GS ES)(hv:ah bC 107 w v l)(hF:aE (fun k=>v.ownBlock=some k) w w1)(hd:∀s∈GS,∀g,s.v.ownBlock=some g->v.ownBlock≠some g):bA w1 ob V IS FS RS GS ES:=by
 have ne:∀{c:Array Value} {U:TypeId} {k:Nat},w.heap[k]?=some (.cells c U (0,0))->U≠107->¬v.ownBlock=some k:=fun e hU q=>by
  obtain⟨c2,e2⟩:=hv.ty q;exact aI e e2 hU rfl
 refine h.frm hF fun k hk=>?_
 rcases hk with rfl|q|q|q|q|q|⟨s,hs,q⟩
 ·exact ne h.blk (by decide)
 ·obtain⟨c,e⟩:=h.i.ty q; exact ne e (by decide)
 ·obtain⟨c,e⟩:=h.f.ty q; exact ne e (by decide)
 ·obtain⟨c,e⟩:=h.r.ty q; exact ne e (by decide)
 ·obtain⟨c,e⟩:=h.g.ty q; exact ne e (by decide)
 ·obtain⟨c,e⟩:=h.e.ty q; exact ne e (by decide)
 rcases hs with hs|hs|hs|hs|hs
 ·obtain⟨j,hj⟩:=List.mem_iff_getElem?.1 hs; obtain⟨c,e⟩:=(h.il j s hj).ty q; exact ne e (by decide)
 ·obtain⟨j,hj⟩:=List.mem_iff_getElem?.1 hs; obtain⟨c,e⟩:=(h.fl j s hj).ty q; exact ne e (by decide)
 ·obtain⟨j,hj⟩:=List.mem_iff_getElem?.1 hs; obtain⟨c,e⟩:=(h.rl j s hj).ty q; exact ne e (by decide)
 ·exact hd s hs k q
 obtain⟨j,hj⟩:=List.mem_iff_getElem?.1 hs; obtain⟨c,e⟩:=(h.el j s hj).ty q; exact ne e (by decide)
theorem bA.addG {s:cA}{x:Value}{o:Obj}(h:bA w ob V IS FS RS GS ES)(r2:ah cq 104 w3 x (GS++[s]))(r3:(w.alloc o).grownBy w3 V.gv.ownBlock)(hs:ah bC 107 w s.v (List.replicate s.n (owG GS.length))):
  bA (w3.setCell ⟨ob,3,none⟩ x) ob { V with gv:=x } IS FS RS (GS++[s]) ES:=by
 have hb:=cu (c:=V.a) h.g (by decide) h.blk r3
 refine⟨?_,h.i.past h.g (by decide) h.blk (by decide) r3,h.f.past h.g (by decide) h.blk (by decide) r3,h.r.past h.g (by decide) h.blk (by decide) r3,r2.same fun g hg=>Below.heap_setCell _ _ _ _ (by obtain⟨c1,e1⟩:=r2.ty hg; exact aI e1 hb (by decide)),h.e.past h.g (by decide) h.blk (by decide) r3,?_,?_,?_,?_,?_⟩
 ·show(w3.setCell ⟨ob,3,none⟩ x).heap[ob]?=_
  simp[World.setCell,Array.getElem?_modify,hb];rfl
 ·exact fun j t ht=>(h.il j t ht).past h.g (by decide) h.blk (by decide) r3
 ·exact fun j t ht=>(h.fl j t ht).past h.g (by decide) h.blk (by decide) r3
 ·exact fun j t ht=>(h.rl j t ht).past h.g (by decide) h.blk (by decide) r3
 ·intro j t ht
  rcases getElem?_snoc ht with q|⟨rfl,rfl⟩
  ·exact(h.gl j t q).past h.g (by decide) h.blk (by decide) r3
  exact hs.past h.g (by decide) h.blk (by decide) r3
 exact fun j t ht=>(h.el j t ht).past h.g (by decide) h.blk (by decide) r3
def KeptG (w:World)(ob:Nat)(V:OV)(IS FS RS GS ES:List cA)(v:Value)(e:Ending)(w':World):Prop:=
 e=.returned (.tuple #[])/\∃(s:cA) (x:Value),s.v.ownBlock=v.ownBlock/\bA w' ob { V with gv:=x } IS FS RS (GS++[s]) ES/\aE (fun k=>k=ob\/V.gv.ownBlock=some k\/v.ownBlock=some k) w w'/\(x.ownBlock=V.gv.ownBlock\/∀g,x.ownBlock=some g->w.heap.size<=g)
theorem keepG_any {l:List _}(h:bA w ob V IS FS RS GS ES)(hv:ah bC 107 w v l)(hd:∀s∈GS,∀g,s.v.ownBlock=some g->v.ownBlock≠some g)(hl:GS.length<=10000000):
  Calls prog 65 #[.pointer (some ⟨ob,0,none⟩),v] w fun e w'=>KeptG w ob V IS FS RS GS ES v e w':=by
 obtain⟨a0,k0,hiv⟩:=h.g.slice
 have c0:w.cell? ⟨ob,3,none⟩=some (.slice a0 GS.length k0):=by rw[h.cells 3,<-hiv]; rfl
 have hob:=an h.blk;obtain⟨N,hN⟩:∃N,GS.length=N:=⟨_,rfl⟩;rw[hN] at c0 hl
 rcases hv with⟨rfl,rfl⟩|⟨g,off,cap,cur,rfl,hh,h1,h2,h3,h4⟩
 ·obtain⟨x,w3,r1,r2,r3,r4⟩:=ap30 (h.g.on (bu.alloc aD (.cells #[.slice none 0 0] 104))) (aZ cq 104 w ⟨none,0,0⟩ #[.slice none 0 0] rfl) (by simp; omega)
  obtain⟨xa,xn,xc,rfl⟩:=r2.slc
  have hb3:=cu (c:=V.a) h.g (by decide) h.blk r3
  have c3:w3.cell? ⟨ob,3,none⟩=V.a[3]?:=af hb3 3
  have c4:w3.cell? ⟨ob,3,none⟩=some (.slice a0 N k0):=by rw[c3,<-hN,<-hiv]; rfl
  have fz:=bi hb3 3
  have HH:Hid (KeptG w ob V IS FS RS GS ES (.slice none 0 0) (.returned (.tuple #[])) (w3.setCell ⟨ob,3,none⟩ (.slice xa xn xc))):=by
   refine⟨rfl,⟨none,0,0⟩,_,rfl,h.addG r2 r3 (Or.inl ⟨rfl,rfl⟩),((cn bu r3).mono fun _ _ q=>Or.inr (Or.inl q)).setCell _ (fun _=>Or.inl rfl),?_⟩
   rcases r4 with r4|r4
   ·exact Or.inl r4
   exact Or.inr fun g hg=>by have q1:=r4 g hg; simp at q1; omega
  rw[hiv,hN] at r1;clear r2 r3 r4 hb3 c3 h hd hiv hN;go_enter func65,ntmps65
  go_wp2_with fail
  go_loopw [5] (fun i wr=>i=.int .i64 0/\wr=w) (fun _ _=>0)
  case atStart=>exact⟨rfl,rfl⟩
  case round=>
   obtain⟨rfl,rfl⟩:=hrel
   go_wp2_with (first|refine cP _ _ (bsS30 none 0 0 _ _ _ rfl rfl _) rfl ?_|(at_builtin; refine fS 30 r1 rfl _ _ rfl rfl rfl rfl ?_))
   exact bodyPost_end (results_none results65 _ _ _) rfl (aa HH)
 have hv:ah bC 107 w (.slice (some ⟨g,off,none⟩) l.length cap) l:=Or.inr ⟨g,off,cap,cur,rfl,hh,h1,h2,h3,h4⟩;have hgl:=an hh
 have hgo:ob≠g:=(aI h.blk hh (by decide))
 have HF0:=ae (lw.zero (x:=owG N) hv);have HV:=ae hv;have HI:=ae h;have HD:=ae hd
 have hlc:(l.length:Int)<=cap:=by omega
 have h2':(cap:Int)<=9223372036854775807:=by unfold maxLen at h2; omega
 have HM:=ae h2;have HIV:=ae hiv;have HN:=ae hN;clear hv hh h3 h4 h hd h2 hiv hN;go_enter func65,ntmps65
 go_wp2_with fail
 go_loopw [5] (fun i wr=>∃k:Nat,k<=cap/\i=.int .i64 k/\Hid (lw bC 107 wr g off cap k (owG N))/\Hid (w.grownBy wr (some g))) (fun i _=>cap-(intOf i).toNat)
 case atStart=>exact⟨0,by omega,rfl,HF0,ae (World.grownBy.refl _ _)⟩
 case round=>
  obtain⟨k,hk,rfl,hF,hG⟩:=hrel
  have r0:wr.cell? ⟨ob,3,none⟩=some (.slice a0 N k0):=by
   rw[World.cell?_of_block (a:=⟨ob,3,none⟩) ((aa hG).block ob hob (fun q=>by cases q; exact hgo rfl))]; exact c0
  by_cases hlk:k<cap
  ·have hkn:(k:Int)<cap:=by omega
   have OW:=ae (fun W=>eC N W (by omega))
   have HS:=(aa hF).step hlk;have HG2:Hid (w.grownBy (wr.setCells g (off+k*8) (bC.enc (owG N))) (some g)):=⟨HS.2.os.trans (aa hG).os,HS.2.tape.trans (aa hG).tape,HS.2.output.trans (aa hG).output,Nat.le_trans (aa hG).size HS.2.size,fun q hq hne=>(HS.2.block q (Nat.lt_of_lt_of_le hq (aa hG).size) hne).trans ((aa hG).block q hq hne)⟩;have HF2:Hid (lw bC 107 (wr.setCells g (off+k*8) (bC.enc (owG N))) g off cap (k+1) (owG N)):=HS.1;have hth:wr.there g (off+k*8) 8:=(aa hF).there hlk;clear HS;obtain⟨w9,hw9⟩:∃w9,wr.setCells g (off+k*8) (bC.enc (owG N))=w9:=⟨_,rfl⟩;rw[hw9] at HF2 HG2;have HW9:Hid (wr.setCells g (off+k*8) (#[(),(),(),(),.int .i64 (ei N),(),(),()]:Array Value).toList=w9):=hw9;clear hw9
   go_wp2_with fail
   refine(aa OW _).mono ?_;rintro e w5 ⟨rfl,rfl⟩
   go_wp2_with (first|refine cP _ _ (run_bG N _ _ _ rfl rfl _) rfl ?_|refine cU w9 (stMid _ _ _ _ 107 rfl g (off+k*8) (#[(),(),(),(),.int .i64 (ei N),(),(),()]) rfl rfl wr w9 hth (szT _ _ _ _ _ _ _ _) (toldOne _ _ _ _ _ _ _ _) (aa HW9)) rfl ?_)
   go_roundw
   case rel=>exact⟨k+1,by omega,by go_num,HF2,HG2⟩
   case measure=>simp[intOf]; omega
  have hkn:k=cap:=by omega
  subst hkn
  have hFr:aE (fun q=>(Value.slice (some ⟨g,off,none⟩) l.length k).ownBlock=some q) w wr:=(aE.rfl' _ w).grown (aa hG) fun q hq _=>by cases hq; rfl
  have h1:=(aa HI).fillG (aa HV) hFr (aa HD);have hsN:ah bC 107 wr (cA.v ⟨some ⟨g,off,none⟩,k,k⟩) (List.replicate k (owG N)):=(aa hF).own (aa HM)
  obtain⟨x,w3,r1,r2,r3,r4⟩:=ap30 (h1.g.on (bu.alloc aD (.cells #[.slice (some ⟨g,off,none⟩) k k] 104))) (aZ cq 104 wr ⟨some ⟨g,off,none⟩,k,k⟩ #[.slice (some ⟨g,off,none⟩) k k] rfl) (by have:=aa HN; simp; omega)
  obtain⟨xa,xn,xc,rfl⟩:=r2.slc
  have hb3:=cu (c:=V.a) h1.g (by decide) h1.blk r3
  have c3:w3.cell? ⟨ob,3,none⟩=V.a[3]?:=af hb3 3
  have c4:w3.cell? ⟨ob,3,none⟩=some (.slice a0 N k0):=by rw[c3,<-aa HN,<-aa HIV]; rfl
  have fz:=bi hb3 3;have hsz:=(aa hG).size
  have HH:Hid (KeptG w ob V IS FS RS GS ES (.slice (some ⟨g,off,none⟩) l.length k) (.returned (.tuple #[])) (w3.setCell ⟨ob,3,none⟩ (.slice xa xn xc))):=by
   refine⟨rfl,⟨some ⟨g,off,none⟩,k,k⟩,_,rfl,h1.addG r2 r3 (by rw[aa HN]; exact hsN),((hFr.mono fun _ _ q=>Or.inr (Or.inr q)).then (cn bu r3) fun _ _ q=>Or.inr (Or.inl q)).setCell _ (fun _=>Or.inl rfl),?_⟩
   rcases r4 with r4|r4
   ·exact Or.inl r4
   exact Or.inr fun g hg=>by have q1:=r4 g hg; simp at q1; omega
  rw[aa HIV,aa HN] at r1;clear r2 r3 r4 hb3 c3 h1 hFr hsN
  go_wp2_with (first|refine cP _ _ (bsS30 (some ⟨g,off,none⟩) k k _ _ _ rfl rfl _) rfl ?_|(at_builtin; refine fS 30 r1 rfl _ _ rfl rfl rfl rfl ?_))
  exact bodyPost_end (results_none results65 _ _ _) rfl (aa HH)
end
theorem fQ.no {S S':Nat->Prop}{w:World}{Ts Ts':List TypeId}(h:fQ S w Ts)(h':fQ S' w Ts')(hd:∀t∈Ts,t∉Ts'){k:Nat}(q:S k)(q':S' k):False:=by
 obtain⟨c,T,e,hT⟩:=h k q;obtain⟨c',T',e',hT'⟩:=h' k q';rw[e] at e'
 have:T=T':=by
  injection e' with e'
  injection e'
 subst this;exact hd T hT hT'
structure St2 (w:World)(n:Nat)(e:EV)(w':World)(e':EV):Prop where
 desk:cO w' (n+1) e'
 frm:aE (aX e) w w'
 foot:∀k,aX e' k->aX e k\/w.heap.size<=k
 fb:e'.fb=e.fb
 rb:e'.rb=e.rb
section
variable {w w1 w2 w':World}{n:Nat}{e e':EV}
theorem cO.pr (h:cO w n e){k:Nat}(hp:e.P k)(hr:e.R k):False:=fQ.no h.x.ty h.r.ty (by decide) hp hr
theorem cO.lt (h:cO w n e){k:Nat}(hk:aX e k):k<w.heap.size:=by
 rcases hk with q|q
 ·exact aw.lt h.x q
 exact h.r.lt q
theorem cO.frm {S:Nat->Prop}(h:cO w n e)(hF:aE S w w')(hS:∀k,aX e k->¬S k)(h4:∀k,S k->4<=k):cO w' n e:=
 ⟨h.x.frm hF (fun k q=>hS k (Or.inl q)) h4,h.r.frm hF (fun k q=>hS k (Or.inr q)),h.m,h.lo⟩
theorem cO.on (h:cO w n e)(hb:Below w.heap.size w w'):cO w' n e:=h.frm (S:=fun _=>False) (aE.of_below hb) (fun _ _ q=>q) (fun _ q=>q.elim)
theorem cO.fro (h:cO w n e):eR w e.fb e.P e.F:=⟨e.X,e.sl,e.pv,e.W,h.x,fun _ q=>q⟩
theorem cO.mid (h:cO w n e)(hF:aE e.P w w1):RD w1 e.rb e.Y e.bv e.SL e.D:=h.r.frm hF fun _ q q'=>h.pr q' q
theorem iz (h:cO w n e){F':FM}{D':DF}{l:List gD}{rv:Value}{Y':RV}(hP:dt w e.fb e.P F' l rv w1)(hS:aP w1 e.rb e.Y w2 Y' D'.rq D'.jb D'.en)(hbs:D'.bs=e.D.bs)(hn:RNum Y' D')(hm:cF F' D' (n+1)):
  ∃e',St2 w n e w2 e'/\ah bE 103 w2 rv l/\(∀g,rv.ownBlock=some g->¬aX e' g):=by
 obtain⟨X',sl',pv',W',hf',hsub⟩:=hP.fro;have hR1:=h.mid hP.frm;obtain⟨hR2,hfoot2,hfrm2⟩:=hR1.step hS hbs hn;have hT1:=hR1.mem.ty hR1.blk;have h4:=hf'.glb.1;have hsz:=hP.frm.size
 have hf2:gF w2 e.fb X' sl' pv' W' F':=hf'.frm hS.frm (fun k q q'=>fQ.no hf'.ty hT1 (by decide) q q') (fun k q=>h.lo k (Or.inl q))
 have hrep:=hP.rep.frmT hS.frm hT1 (by decide)
 refine⟨⟨e.fb,X',sl',pv',W',F',e.rb,Y',e.bv,e.SL,D'⟩,⟨⟨hf2,hR2,hm,fun k q=>?_⟩,?_,fun k q=>?_,rfl,rfl⟩,hrep,fun g hg q=>?_⟩
 ·rcases hfoot2 k q with z|z
  ·exact h.lo k z
  omega
 ·exact(hP.frm.mono fun _ _ q=>Or.inl q).then hfrm2 fun _ _ q=>Or.inr q
 ·rcases q with q|q
  ·rcases hsub k q with z|z
   ·exact Or.inl (Or.inl z)
   exact Or.inr z
  rcases hfoot2 k q with z|z
  ·exact Or.inl (Or.inr z)
  exact Or.inr (by omega)
 obtain⟨c,hc⟩:=hrep.ty hg
 have hT:fQ (fun k=>rv.ownBlock=some k) w2 [103]:=fun k hk=>by
  obtain⟨c,hc⟩:=hrep.ty hk
  exact⟨_,_,hc,by simp⟩
 rcases q with q|q
 ·exact fQ.no hT hf2.ty (by decide) hg q
 exact fQ.no hT hR2.ty (by decide) hg q
structure OSt (w:World)(O:OL)(ob:Nat)(O':OL):Prop where
 foot:∀k,OF ob O' k->OF ob O k\/w.heap.size<=k
 il:O'.IS.length<=O.IS.length+1
 fl:O'.FS.length<=O.FS.length+1
 rl:O'.RS.length<=O.RS.length+1
 gl:O'.GS.length<=O.GS.length+1
 el:O'.ES.length<=O.ES.length+1
theorem OSt.rfl' (w:World)(O:OL)(ob:Nat):OSt w O ob O:=⟨fun _ q=>Or.inl q,by omega,by omega,by omega,by omega,by omega⟩
structure ip (w:World)(n:Nat)(e:EV)(ob:Nat)(O:OL)(w':World)(e':EV)(O':OL):Prop where
 desk:cO w' (n+1) e'
 own:io w' ob O'
 dj:∀k,aX e' k->¬OF ob O' k
 frm:aE (fun k=>aX e k\/OF ob O k) w w'
 foot:∀k,aX e' k->aX e k\/w.heap.size<=k
 ost:OSt w O ob O'
 fb:e'.fb=e.fb
 rb:e'.rb=e.rb
variable {ob:Nat}{O:OL}
theorem St2.est (h:St2 w n e w' e')(hO:io w ob O)(hdj:∀k,aX e k->¬OF ob O k):ip w n e ob O w' e' O:=
 ⟨h.desk,bA.frm hO h.frm fun k q q'=>hdj k q' q,fun k q q'=>by
  rcases h.foot k q with z|z
  ·exact hdj k z q'
  have:=bA.lt hO q'; omega,h.frm.mono fun _ _ q=>Or.inl q,h.foot,OSt.rfl' _ _ _,h.fb,h.rb⟩
theorem ip.pre {w0:World}{O':OL}(hb:Below w0.heap.size w0 w)(h:ip w n e ob O w' e' O'):ip w0 n e ob O w' e' O':=
 ⟨h.desk,h.own,h.dj,(aE.of_below hb).then h.frm fun _ _ q=>q,fun k q=>by
  rcases h.foot k q with z|z
  ·exact Or.inl z
  exact Or.inr (Nat.le_trans hb.size z),⟨fun k q=>by
  rcases h.ost.foot k q with z|z
  ·exact Or.inl z
  exact Or.inr (Nat.le_trans hb.size z),h.ost.il,h.ost.fl,h.ost.rl,h.ost.gl,h.ost.el⟩,h.fb,h.rb⟩
theorem ip.on {O':OL}(h:ip w n e ob O w' e' O')(hb:Below w'.heap.size w' w2):ip w n e ob O w2 e' O':=
 ⟨h.desk.on hb,bA.on h.own hb,h.dj,h.frm.then (aE.of_below (S:=fun _=>False) hb) (fun _ _ q=>q.elim),h.foot,h.ost,h.fb,h.rb⟩
theorem ip.join {O1 O':OL}{u v:Value}(h:ip w n e ob O w1 e' O1)(hown:io w' ob O')(hF:aE (fun k=>k=ob\/u.ownBlock=some k\/v.ownBlock=some k) w1 w')(hu:∀k,u.ownBlock=some k->OF ob O1 k)(hv:∀k,v.ownBlock=some k->w.heap.size<=k/\¬aX e' k)
  (h4:∀k,OF ob O1 k->4<=k) (hw4:4<=w.heap.size) (hf:∀k,OF ob O' k->OF ob O1 k\/v.ownBlock=some k\/w1.heap.size<=k) (hst:O'.IS.length<=O.IS.length+1/\O'.FS.length<=O.FS.length+1/\O'.RS.length<=O.RS.length+1/\O'.GS.length<=O.GS.length+1/\O'.ES.length<=O.ES.length+1):ip w n e ob O w' e' O':=by
 have hsz:=h.frm.size;refine⟨h.desk.frm hF (fun k q q'=>?_) (fun k q=>?_),hown,fun k q q'=>?_,h.frm.then hF fun k hk q=>?_,h.foot,⟨fun k q=>?_,hst.1,hst.2.1,hst.2.2.1,hst.2.2.2.1,hst.2.2.2.2⟩,h.fb,h.rb⟩
 ·rcases q' with rfl|q'|q'
  ·exact h.dj _ q (Or.inl rfl)
  ·exact h.dj k q (hu k q')
  exact(hv k q').2 q
 ·rcases q with rfl|q|q
  ·exact h4 _ (Or.inl rfl)
  ·exact h4 k (hu k q)
  have:=(hv k q).1; omega
 ·rcases hf k q' with z|z|z
  ·exact h.dj k q z
  ·exact(hv k z).2 q
  have:=h.desk.lt q; omega
 ·rcases q with rfl|q|q
  ·rcases h.ost.foot k (Or.inl rfl) with z|z
   ·exact Or.inr z
   omega
  ·rcases h.ost.foot k (hu k q) with z|z
   ·exact Or.inr z
   omega
  have:=(hv k q).1; omega
 rcases hf k q with z|z|z
 ·exact h.ost.foot k z
 ·exact Or.inr (hv k z).1
 exact Or.inr (by omega)
theorem j8.sub {ob:Nat}{V V':OV}{IS FS RS GS ES IS' FS' RS' GS' ES':List cA}{v:Value}{m:Nat}(hi:∀k,V'.iv.ownBlock=some k->V.iv.ownBlock=some k\/m<=k)(hf:∀k,V'.fv.ownBlock=some k->V.fv.ownBlock=some k\/m<=k)(hr:∀k,V'.rv.ownBlock=some k->V.rv.ownBlock=some k\/m<=k)(hg:∀k,V'.gv.ownBlock=some k->V.gv.ownBlock=some k\/m<=k)(he:∀k,V'.ev.ownBlock=some k->V.ev.ownBlock=some k\/m<=k)
  (hs:∀s,(s∈IS'\/s∈FS'\/s∈RS'\/s∈GS'\/s∈ES')->(s∈IS\/s∈FS\/s∈RS\/s∈GS\/s∈ES)\/s.v.ownBlock=v.ownBlock):∀k,j8 ob V' IS' FS' RS' GS' ES' k->j8 ob V IS FS RS GS ES k\/v.ownBlock=some k\/m<=k:=fun k q=>by
 rcases q with q|q|q|q|q|q|⟨s,hs',q⟩
 ·exact Or.inl (Or.inl q)
 ·rcases hi k q with z|z
  ·exact Or.inl (Or.inr (Or.inl z))
  exact Or.inr (Or.inr z)
 ·rcases hf k q with z|z
  ·exact Or.inl (Or.inr (Or.inr (Or.inl z)))
  exact Or.inr (Or.inr z)
 ·rcases hr k q with z|z
  ·exact Or.inl (Or.inr (Or.inr (Or.inr (Or.inl z))))
  exact Or.inr (Or.inr z)
 ·rcases hg k q with z|z
  ·exact Or.inl (Or.inr (Or.inr (Or.inr (Or.inr (Or.inl z)))))
  exact Or.inr (Or.inr z)
 ·rcases he k q with z|z
  ·exact Or.inl (Or.inr (Or.inr (Or.inr (Or.inr (Or.inr (Or.inl z))))))
  exact Or.inr (Or.inr z)
 rcases hs s hs' with z|z
 ·exact Or.inl (Or.inr (Or.inr (Or.inr (Or.inr (Or.inr (Or.inr ⟨s,z,q⟩))))))
 exact Or.inr (Or.inl (z▸q))
theorem oO {v x:Value}{m:Nat}(h:x.ownBlock=v.ownBlock\/∀g,x.ownBlock=some g->m<=g):∀k,x.ownBlock=some k->v.ownBlock=some k\/m<=k:=fun k q=>by
 rcases h with h|h
 ·exact Or.inl (h▸q)
 exact Or.inr (h k q)
theorem ip.keepR {O1:OL}{rv:Value}{en:Ending}(h:ip w n e ob O w1 e' O1)(h4:∀k,OF ob O1 k->4<=k)(hw4:4<=w.heap.size)(hv:∀k,rv.ownBlock=some k->w.heap.size<=k/\¬aX e' k)(hK:KeptR w1 ob O1.V O1.IS O1.FS O1.RS O1.GS O1.ES rv en w')
  (hst:O1.IS.length<=O.IS.length+1/\O1.FS.length<=O.FS.length+1/\O1.RS.length<=O.RS.length/\O1.GS.length<=O.GS.length+1/\O1.ES.length<=O.ES.length+1):en=.returned (.tuple #[])/\∃O',ip w n e ob O w' e' O':=by
 obtain⟨he,s,x,hs,hown,hF,hx⟩:=hK
 refine⟨he,⟨{ O1.V with rv:=x },O1.IS,O1.FS,O1.RS++[s],O1.GS,O1.ES⟩,h.join (u:=O1.V.rv) (v:=rv) hown hF (fun k q=>Or.inr (Or.inr (Or.inr (Or.inl q)))) hv h4 hw4 ?_ ⟨hst.1,hst.2.1,by simp; omega,hst.2.2.2.1,hst.2.2.2.2⟩⟩
 refine j8.sub (fun _ q=>Or.inl q) (fun _ q=>Or.inl q) (oO hx) (fun _ q=>Or.inl q) (fun _ q=>Or.inl q) fun t ht=>?_
 rcases ht with q|q|q|q|q
 ·exact Or.inl (Or.inl q)
 ·exact Or.inl (Or.inr (Or.inl q))
 ·rcases List.mem_append.1 q with q|q
  ·exact Or.inl (Or.inr (Or.inr (Or.inl q)))
  simp only[List.mem_singleton] at q
  exact Or.inr (by rw[q]; exact hs)
 ·exact Or.inl (Or.inr (Or.inr (Or.inr (Or.inl q))))
 exact Or.inl (Or.inr (Or.inr (Or.inr (Or.inr q))))
theorem ip.keepG {O1:OL}{rv:Value}{en:Ending}(h:ip w n e ob O w1 e' O1)(h4:∀k,OF ob O1 k->4<=k)(hw4:4<=w.heap.size)(hv:∀k,rv.ownBlock=some k->w.heap.size<=k/\¬aX e' k)(hK:KeptG w1 ob O1.V O1.IS O1.FS O1.RS O1.GS O1.ES rv en w')
  (hst:O1.IS.length<=O.IS.length+1/\O1.FS.length<=O.FS.length+1/\O1.RS.length<=O.RS.length+1/\O1.GS.length<=O.GS.length/\O1.ES.length<=O.ES.length+1):en=.returned (.tuple #[])/\∃O',ip w n e ob O w' e' O'/\O'.IS=O1.IS/\O'.FS=O1.FS/\O'.RS=O1.RS/\O'.GS.length=O1.GS.length+1/\O'.ES=O1.ES:=by
 obtain⟨he,s,x,hs,hown,hF,hx⟩:=hK
 refine⟨he,⟨{ O1.V with gv:=x },O1.IS,O1.FS,O1.RS,O1.GS++[s],O1.ES⟩,h.join (u:=O1.V.gv) (v:=rv) hown hF (fun k q=>Or.inr (Or.inr (Or.inr (Or.inr (Or.inl q))))) hv h4 hw4 ?_ ⟨hst.1,hst.2.1,hst.2.2.1,by simp; omega,hst.2.2.2.2⟩,rfl,rfl,rfl,by simp,rfl⟩
 refine j8.sub (fun _ q=>Or.inl q) (fun _ q=>Or.inl q) (fun _ q=>Or.inl q) (oO hx) (fun _ q=>Or.inl q) fun t ht=>?_
 rcases ht with q|q|q|q|q
 ·exact Or.inl (Or.inl q)
 ·exact Or.inl (Or.inr (Or.inl q))
 ·exact Or.inl (Or.inr (Or.inr (Or.inl q)))
 ·rcases List.mem_append.1 q with q|q
  ·exact Or.inl (Or.inr (Or.inr (Or.inr (Or.inl q))))
  simp only[List.mem_singleton] at q
  exact Or.inr (by rw[q]; exact hs)
 exact Or.inl (Or.inr (Or.inr (Or.inr (Or.inr q))))
theorem ip.keepE {O1:OL}{rv:Value}{en:Ending}(h:ip w n e ob O w1 e' O1)(h4:∀k,OF ob O1 k->4<=k)(hw4:4<=w.heap.size)(hv:∀k,rv.ownBlock=some k->w.heap.size<=k/\¬aX e' k)(hK:KeptE w1 ob O1.V O1.IS O1.FS O1.RS O1.GS O1.ES rv en w')
  (hst:O1.IS.length<=O.IS.length+1/\O1.FS.length<=O.FS.length+1/\O1.RS.length<=O.RS.length+1/\O1.GS.length<=O.GS.length+1/\O1.ES.length<=O.ES.length):en=.returned (.tuple #[])/\∃O',ip w n e ob O w' e' O'/\O'.IS=O1.IS/\O'.FS=O1.FS/\O'.RS=O1.RS/\O'.GS=O1.GS/\O'.ES.length=O1.ES.length+1:=by
 obtain⟨he,s,x,hs,hown,hF,hx⟩:=hK
 refine⟨he,⟨{ O1.V with ev:=x },O1.IS,O1.FS,O1.RS,O1.GS,O1.ES++[s]⟩,h.join (u:=O1.V.ev) (v:=rv) hown hF (fun k q=>Or.inr (Or.inr (Or.inr (Or.inr (Or.inr (Or.inl q)))))) hv h4 hw4 ?_ ⟨hst.1,hst.2.1,hst.2.2.1,hst.2.2.2.1,by simp; omega⟩,rfl,rfl,rfl,rfl,by simp⟩
 refine j8.sub (fun _ q=>Or.inl q) (fun _ q=>Or.inl q) (fun _ q=>Or.inl q) (fun _ q=>Or.inl q) (oO hx) fun t ht=>?_
 rcases ht with q|q|q|q|q
 ·exact Or.inl (Or.inl q)
 ·exact Or.inl (Or.inr (Or.inl q))
 ·exact Or.inl (Or.inr (Or.inr (Or.inl q)))
 ·exact Or.inl (Or.inr (Or.inr (Or.inr (Or.inl q))))
 rcases List.mem_append.1 q with q|q
 ·exact Or.inl (Or.inr (Or.inr (Or.inr (Or.inr q))))
 simp only[List.mem_singleton] at q
 exact Or.inr (by rw[q]; exact hs)
end
section
variable {w:World}
theorem dl {v u:Value}{l:List gD}(hv:bL bE w v l)(hu:bL bE w u l):
  Calls prog 48 #[v,u] w fun e w'=>e=.returned (.bool true)/\Below w.heap.size w w':=by
 obtain⟨oa,ca,rfl,_,_,ha⟩:=hv;obtain⟨ob,cb,rfl,_,hm,hb⟩:=hu
 have hm3:(l.length:Int)<=9223372036854775807:=by unfold maxLen at hm; omega
 have HA:=ae ha;have HB:=ae hb;clear ha hb hm;go_enter func48,ntmps48
 go_wp2_with fail
 go_loopw [5] (fun i wr=>∃k:Nat,k<=l.length/\i=.int .i64 k/\Hid (Below w.heap.size w wr)) (fun i _=>l.length-(intOf i).toNat)
 case atStart=>exact⟨0,by omega,rfl,ae bu⟩
 case round=>
  obtain⟨k,hk,rfl,hbw⟩:=hrel
  by_cases hlt:k<l.length
  ·have hkn:(k:Int)<l.length:=by omega
   obtain⟨⟨n,s,b,t⟩,ht⟩:∃t,l[k]?=some t:=⟨_,List.getElem?_eq_getElem hlt⟩
   obtain⟨ga,fa,rfl,hla,hra⟩:=aa HA (by omega)
   obtain⟨gb,fb,rfl,hlb,hrb⟩:=aa HB (by omega)
   have ra:=hra k _ ht;have rb:=hrb k _ ht;have a0:wr.cell? ⟨ga,fa+k*4,none⟩=some (.int .i64 n):=((aa hbw).cell (p:=⟨ga,fa+k*4,none⟩) hla).trans (ra 0 _ rfl);have a1:wr.cell? ⟨ga,fa+k*4+1,none⟩=some (.int .i64 s):=((aa hbw).cell (p:=⟨ga,fa+k*4+1,none⟩) hla).trans (ra 1 _ rfl);have a2:wr.cell? ⟨ga,fa+k*4+2,none⟩=some (.string b):=((aa hbw).cell (p:=⟨ga,fa+k*4+2,none⟩) hla).trans (ra 2 _ rfl);have a3:wr.cell? ⟨ga,fa+k*4+3,none⟩=some (.string t):=((aa hbw).cell (p:=⟨ga,fa+k*4+3,none⟩) hla).trans (ra 3 _ rfl);have b0:wr.cell? ⟨gb,fb+k*4,none⟩=some (.int .i64 n):=((aa hbw).cell (p:=⟨gb,fb+k*4,none⟩) hlb).trans (rb 0 _ rfl);have b1:wr.cell? ⟨gb,fb+k*4+1,none⟩=some (.int .i64 s):=((aa hbw).cell (p:=⟨gb,fb+k*4+1,none⟩) hlb).trans (rb 1 _ rfl);have b2:wr.cell? ⟨gb,fb+k*4+2,none⟩=some (.string b):=((aa hbw).cell (p:=⟨gb,fb+k*4+2,none⟩) hlb).trans (rb 2 _ rfl);have b3:wr.cell? ⟨gb,fb+k*4+3,none⟩=some (.string t):=((aa hbw).cell (p:=⟨gb,fb+k*4+3,none⟩) hlb).trans (rb 3 _ rfl);clear hra hrb ra rb ht
   go_wp2_with fail
   go_quiet (fail)
   have HB2:=ae ((aa hbw).trans ((ap (Below.refl wr.heap.size wr) nq).mono (aa hbw).size))
   go_wp2_with fail
   go_roundw
   case rel=>exact⟨k+1,by omega,by go_num,HB2⟩
   case measure=>simp[intOf]; omega
  have hkn:k=l.length:=by omega
  subst hkn
  go_wp2_with fail
  go_ret;exact⟨rfl,aa hbw⟩
theorem gQ {v u:Value}{l:List f9}(hv:bL bC w v l)(hu:bL bC w u l):
  Calls prog 54 #[v,u] w fun e w'=>e=.returned (.bool true)/\Below w.heap.size w w':=by
 obtain⟨oa,ca,rfl,_,_,ha⟩:=hv;obtain⟨ob,cb,rfl,_,hm,hb⟩:=hu
 have hm3:(l.length:Int)<=9223372036854775807:=by unfold maxLen at hm; omega
 have HA:=ae ha;have HB:=ae hb;clear ha hb hm;go_enter func54,ntmps54
 go_wp2_with fail
 go_loopw [5] (fun i wr=>∃k:Nat,k<=l.length/\i=.int .i64 k/\Hid (Below w.heap.size w wr)) (fun i _=>l.length-(intOf i).toNat)
 case atStart=>exact⟨0,by omega,rfl,ae bu⟩
 case round=>
  obtain⟨k,hk,rfl,hbw⟩:=hrel
  by_cases hlt:k<l.length
  ·have hkn:(k:Int)<l.length:=by omega
   obtain⟨⟨⟨kl,kz,kx,ky⟩,n,s,b,t⟩,ht⟩:∃t,l[k]?=some t:=⟨_,List.getElem?_eq_getElem hlt⟩
   obtain⟨ga,fa,rfl,hla,hra⟩:=aa HA (by omega)
   obtain⟨gb,fb,rfl,hlb,hrb⟩:=aa HB (by omega)
   have ra:=hra k _ ht;have rb:=hrb k _ ht;have a0:wr.cell? ⟨ga,fa+k*8,none⟩=some (.int .i64 kl):=((aa hbw).cell (p:=⟨ga,fa+k*8,none⟩) hla).trans (ra 0 _ rfl);have a1:wr.cell? ⟨ga,fa+k*8+1,none⟩=some (.int .i64 kz):=((aa hbw).cell (p:=⟨ga,fa+k*8+1,none⟩) hla).trans (ra 1 _ rfl);have a2:wr.cell? ⟨ga,fa+k*8+2,none⟩=some (.int .i64 kx):=((aa hbw).cell (p:=⟨ga,fa+k*8+2,none⟩) hla).trans (ra 2 _ rfl);have a3:wr.cell? ⟨ga,fa+k*8+3,none⟩=some (.int .i64 ky):=((aa hbw).cell (p:=⟨ga,fa+k*8+3,none⟩) hla).trans (ra 3 _ rfl);have a4:wr.cell? ⟨ga,fa+k*8+4,none⟩=some (.int .i64 n):=((aa hbw).cell (p:=⟨ga,fa+k*8+4,none⟩) hla).trans (ra 4 _ rfl);have a5:wr.cell? ⟨ga,fa+k*8+5,none⟩=some (.int .i64 s):=((aa hbw).cell (p:=⟨ga,fa+k*8+5,none⟩) hla).trans (ra 5 _ rfl);have a6:wr.cell? ⟨ga,fa+k*8+6,none⟩=some (.int .i64 b):=((aa hbw).cell (p:=⟨ga,fa+k*8+6,none⟩) hla).trans (ra 6 _ rfl);have a7:wr.cell? ⟨ga,fa+k*8+7,none⟩=some (.int .i64 t):=((aa hbw).cell (p:=⟨ga,fa+k*8+7,none⟩) hla).trans (ra 7 _ rfl);have b0:wr.cell? ⟨gb,fb+k*8,none⟩=some (.int .i64 kl):=((aa hbw).cell (p:=⟨gb,fb+k*8,none⟩) hlb).trans (rb 0 _ rfl);have b1:wr.cell? ⟨gb,fb+k*8+1,none⟩=some (.int .i64 kz):=((aa hbw).cell (p:=⟨gb,fb+k*8+1,none⟩) hlb).trans (rb 1 _ rfl);have b2:wr.cell? ⟨gb,fb+k*8+2,none⟩=some (.int .i64 kx):=((aa hbw).cell (p:=⟨gb,fb+k*8+2,none⟩) hlb).trans (rb 2 _ rfl);have b3:wr.cell? ⟨gb,fb+k*8+3,none⟩=some (.int .i64 ky):=((aa hbw).cell (p:=⟨gb,fb+k*8+3,none⟩) hlb).trans (rb 3 _ rfl);have b4:wr.cell? ⟨gb,fb+k*8+4,none⟩=some (.int .i64 n):=((aa hbw).cell (p:=⟨gb,fb+k*8+4,none⟩) hlb).trans (rb 4 _ rfl);have b5:wr.cell? ⟨gb,fb+k*8+5,none⟩=some (.int .i64 s):=((aa hbw).cell (p:=⟨gb,fb+k*8+5,none⟩) hlb).trans (rb 5 _ rfl);have b6:wr.cell? ⟨gb,fb+k*8+6,none⟩=some (.int .i64 b):=((aa hbw).cell (p:=⟨gb,fb+k*8+6,none⟩) hlb).trans (rb 6 _ rfl);have b7:wr.cell? ⟨gb,fb+k*8+7,none⟩=some (.int .i64 t):=((aa hbw).cell (p:=⟨gb,fb+k*8+7,none⟩) hlb).trans (rb 7 _ rfl);clear hra hrb ra rb ht
   go_wp2_with fail
   go_quiet (fail)
   have HB2:=ae ((aa hbw).trans ((ap (Below.refl wr.heap.size wr) nq).mono (aa hbw).size))
   go_wp2_with fail
   go_roundw
   case rel=>exact⟨k+1,by omega,by go_num,HB2⟩
   case measure=>simp[intOf]; omega
  have hkn:k=l.length:=by omega
  subst hkn
  go_wp2_with fail
  go_ret;exact⟨rfl,aa hbw⟩
end
section
variable {α:Type}{R:dR α}{T:TypeId}{w:World}{l:List α}
theorem ah.row {g off n cap:Nat}(h:ah R T w (.slice (some ⟨g,off,none⟩) n cap) l){i:Nat}{a:α}(hi:l[i]?=some a):w.rangeAt g (off+i*R.wid) (R.enc a):=fun _ _ hu=>(h.cellF hi hu).1
theorem ah.val {v:Value}(h:ah R T w v l):∃oa cap,v=.slice oa l.length cap/\(0<l.length->∃g off,oa=some ⟨g,off,none⟩):=by
 rcases h with⟨rfl,rfl⟩|⟨g,off,cap,cur,rfl,_⟩
 ·exact⟨none,0,rfl,fun q=>by simp at q⟩
 exact⟨_,cap,rfl,fun _=>⟨g,off,rfl⟩⟩
end
section
variable {w w1 w':World}{fb:Nat}{X Y:RV}{rq:List Rq}{jb:List Jb}{en:List En}
theorem aP.beside {S:Nat->Prop}{Ts:List TypeId}(h:aP w fb X w1 Y rq jb en)(hF:aE S w1 w')(hT:fQ S w1 Ts)(h1:135∉Ts)(h2:158∉Ts)(h3:165∉Ts)(h4:162∉Ts)(hn:∀q,S q->w.heap.size<=q):aP w fb X w' Y rq jb en:=
 ⟨bJ h.blk hF hT h1,⟨h.mem.rq.frmT hF hT h2,h.mem.jb.frmT hF hT h3,h.mem.en.frmT hF hT h4⟩,h.frm.then hF (fun q hq e=>by have:=hn q e; omega),h.new,h.sb⟩
theorem aP.mark (h:aP w fb X w1 Y rq jb en){b off n cap k:Nat}{r:Rq}(hv:Y.rv=.slice (some ⟨b,off,none⟩) n cap)(hk:rq[k]?=some r)(d:Bool):
  w1.cell? ⟨b,off+k*7+6,none⟩=some (.bool r.done)/\w1.frozen? ⟨b,off+k*7+6,none⟩=false/\aP w fb X (w1.setCell ⟨b,off+k*7+6,none⟩ (.bool d)) Y (rq.set k { r with done:=d }) jb en/\aE (fun q=>q=b) w1 (w1.setCell ⟨b,off+k*7+6,none⟩ (.bool d)):=by
 have ho:=h.mem.rq;rw[hv] at ho;obtain⟨a1,a2⟩:=ho.cellF hk (j:=6) (u:=.bool r.done) rfl;have hF:aE (fun q=>q=b) w1 (w1.setCell ⟨b,off+k*7+6,none⟩ (.bool d)):=(aE.rfl' _ _).setCell (p:=⟨b,off+k*7+6,none⟩) _ (fun _=>rfl)
 refine⟨a1,a2,h.trans (h.mem.rin h.blk ?_ (hF.mono fun q _ e=>by rw[hv,e]; rfl)),hF⟩
 rw[hv]
 exact ho.setF hk (j:=6) (x:=.bool d) (by decide) (Rq.enc_done _ d)
end
section
variable {w w1 w':World}{fb:Nat}{X Y:RV}{rq:List Rq}{jb jb':List Jb}{en:List En}
theorem aP.besideJ {S:Nat->Prop}(h:aP w fb X w1 Y rq jb en)(hF:aE S w1 w')(hT:fQ S w1 [165])(hj:∀q,Y.jv.ownBlock=some q->¬S q)(hn:∀q,S q->w.heap.size<=q):aP w fb X w' Y rq jb en:=
 ⟨bJ h.blk hF hT (by decide),⟨h.mem.rq.frmT hF hT (by decide),h.mem.jb.frm hF hj,h.mem.en.frmT hF hT (by decide)⟩,h.frm.then hF (fun q hq e=>by have:=hn q e; omega),h.new,h.sb⟩
theorem aP.setJ (h:aP w fb X w1 Y rq jb en){jv':Value}(hj:ah jP 165 w1 jv' jb')(hn:∀g,jv'.ownBlock=some g->w.heap.size<=g):aP w fb X (w1.setCell ⟨fb,10,none⟩ jv') { Y with jv:=jv' } rq jb' en:=by
 have hF:aE (fun k=>k=fb) w1 (w1.setCell ⟨fb,10,none⟩ jv'):=(aE.rfl' _ _).setCell (p:=⟨fb,10,none⟩) _ (fun _=>rfl);refine⟨aF.set h.blk 10 _ (RV.set_jv _ _),⟨?_,?_,?_⟩,h.frm.then hF (fun q _ e=>Or.inl e),fun k q=>?_,h.sb⟩
 ·exact h.mem.rq.frm hF (fun g hg=>au h.mem.rq h.blk (by decide) g hg)
 ·exact hj.frm hF (fun g hg=>au hj h.blk (by decide) g hg)
 ·exact h.mem.en.frm hF (fun g hg=>au h.mem.en h.blk (by decide) g hg)
 rcases q with q|q|q|q
 ·exact Or.inl (Or.inl q)
 ·exact h.new k (Or.inr (Or.inl q))
 ·exact Or.inr (hn k q)
 exact h.new k (Or.inr (Or.inr (Or.inr q)))
end
def TkP (w:World)(fb:Nat)(X:RV)(nw:Nat)(rq:List Rq)(jb:List Jb)(en:List En)(e:Ending)(w':World):Prop:=
 ∃rv jv',e=.returned rv/\ah bE 103 w' rv (dS (nH (nw+1:Nat)) 0 rq)/\(∀g,rv.ownBlock=some g->w.heap.size<=g) /\
  aP w fb X w' { X with nw:=((nw+1:Nat):Int),jv:=jv' } (rq.map (li (nw+1:Nat))) (tkJ (rq.map (li (nw+1:Nat))) jb) en
section
variable {w:World}{fb:Nat}{X:RV}
theorem rTick_any (nw:Nat)(rq:List Rq)(jb:List Jb)(en:List En)(hf:aF w fb X)(hm:cE w X rq jb en)(hnw:X.nw=nw)(hnb:nw<=1000000000)(hsm:∀r∈rq,bP r.k)(hrl:rq.length<=10000000)(hjl:jb.length<=1000000):
  Calls prog 47 #[.pointer (some ⟨fb,0,none⟩)] w fun e w'=>TkP w fb X nw rq jb en e w':=by
 obtain⟨w1,hw1⟩:∃w1,w.setCell ⟨fb,6,none⟩ (.int .i64 ((nw:Int)+1))=w1:=⟨_,rfl⟩
 have c6:w.cell? ⟨fb,6,none⟩=some (.int .i64 (nw:Int)):=by rw[<-hnw]; exact aF.c hf 6 rfl
 have fz6:=kr hf 6
 have hwr:IntKind.i64.wrap ((nw:Int)+1)=(nw:Int)+1:=bG _ (by omega)
 have hst1:=hm.nw hf ((nw:Int)+1);rw[hw1] at hst1;obtain⟨M,hM⟩:∃M:Nat,nw+1=M:=⟨_,rfl⟩
 have hMi:(nw:Int)+1=(M:Int):=by omega
 unfold TkP;rw[hM];rw[hMi] at hwr hst1 hw1;obtain⟨Y,hY⟩:∃Y:RV,({ X with nw:=(M:Int) }:RV)=Y:=⟨_,rfl⟩
 have hYn:Y.nw=(M:Int):=by rw[<-hY]
 have hYY:∀jv',({ X with nw:=(M:Int),jv:=jv' }:RV)={ Y with jv:=jv' }:=fun jv'=>by rw[<-hY]
 rw[hY] at hst1
 have H1:Hid (aP w fb X w1 Y (gW (li M) rq 0) jb en/\ah bE 103 w1 (.slice none 0 0) (dS (nH M) 0 (rq.take 0))/\(∀g,(Value.slice none 0 0).ownBlock=some g->w.heap.size<=g)):=⟨by rw[midG_zero]; exact hst1,Or.inl ⟨rfl,by simp[dS]⟩,fun g hg=>by cases hg⟩
 have HW1:=ae hw1;have HSM:=ae hsm;have HYY:=ae hYY;have HY:=ae hYn
 have HJX:Hid (∀q,Y.jv.ownBlock=some q->q<w.heap.size):=fun q hq=>by rw[<-hY] at hq; exact hm.jb.lt hq
 clear hst1 hw1 hf hm hsm hY hYn hYY;go_enter func47,ntmps47
 go_wp2_with (refine cU w1 (kO _ _ _ _ rfl fb 6 (M:Int) rfl (by simp[go_sem]) w w1 c6 fz6 (aa HW1)) rfl ?_)
 clear c6 fz6
 go_loopw [3,4] (fun ov r wr=>∃k:Nat,k<=rq.length/\r=.int .i64 k/\Hid (aP w fb X wr Y (gW (li M) rq k) jb en/\ah bE 103 wr ov (dS (nH M) 0 (rq.take k))/\(∀g,ov.ownBlock=some g->w.heap.size<=g))) (fun _ r _=>rq.length-(intOf r).toNat)
 case atStart=>exact⟨0,by omega,rfl,H1⟩
 case round=>
  obtain⟨k,hk,rfl,hL⟩:=hrel;obtain⟨hS,hov,hfr⟩:=aa hL;obtain⟨ra,rc,hrv,hra⟩:=hS.mem.rq.val;rw[midG_len] at hrv hra
  have c9:wr.cell? ⟨fb,9,none⟩=some (.slice ra rq.length rc):=by rw[<-hrv]; exact aF.c hS.blk 9 rfl
  by_cases hlt:k<rq.length
  ·have hkn:(k:Int)<rq.length:=by omega
   obtain⟨b,off,rfl⟩:=hra (by omega)
   obtain⟨⟨kk,ra',re,dn⟩,ht⟩:∃t,rq[k]?=some t:=⟨_,List.getElem?_eq_getElem hlt⟩;have hmk:=(midG_at (f:=li M) hlt).trans ht;have ho:=hS.mem.rq;rw[hrv] at ho;have d6:wr.cell? ⟨b,off+k*7+6,none⟩=some (.bool dn):=(ho.cellF hmk (j:=6) (u:=.bool dn) rfl).1;have d5:wr.cell? ⟨b,off+k*7+5,none⟩=some (.int .i64 re):=(ho.cellF hmk (j:=5) (u:=.int .i64 re) rfl).1
   have c6:wr.cell? ⟨fb,6,none⟩=some (.int .i64 (M:Int)):=by rw[<-aa HY]; exact aF.c hS.blk 6 rfl
   have skip:ltd M ⟨kk,ra',re,dn⟩=false->∀W,Below wr.heap.size wr W->aP w fb X W Y (gW (li M) rq (k+1)) jb en/\ah bE 103 W u3 (dS (nH M) 0 (rq.take (k+1)))/\(∀g,u3.ownBlock=some g->w.heap.size<=g):=fun hs W hW=>by
    refine⟨?_,?_,hfr⟩
    ·rw[midG_no ht (by unfold li; rw[hs]; rfl)]; exact hS.on hW
    rw[nz ht,show nH M k ⟨kk,ra',re,dn⟩=[] by unfold nH; rw[hs]; rfl,List.append_nil]; exact hov.on hW
   have HSK:=ae skip;have HS:=ae (And.intro hS (And.intro hov hfr));have HRV:=ae hrv;have HMK:=ae hmk;clear skip hS hov hfr hrv hra hmk ho hL
   cases dn with
   | true=>
    go_wp2_with fail
    go_quiet (fail)
    have HH:=ae (aa HSK rfl _ (nc wr nq))
    go_wp2_with fail
    go_roundw
    case rel=>exact⟨k+1,by omega,by go_num,HH⟩
    case measure=>simp[intOf]; omega
   | false=>
    by_cases hle:re<=(M:Int)
    ·have hd:decide (re<=(M:Int))=true:=decide_eq_true hle
     go_wp2_with fail
     go_quiet (fail)
     obtain⟨w2,hw2⟩:∃w2,wr.drewN nq=w2:=⟨_,rfl⟩;have hb2:=nc wr nq;rw[hw2] at hb2 ⊢;clear hw2 d6 d5 c6 c9;obtain⟨hS,hov,hfr⟩:=aa HS;have hS2:=hS.on hb2;have hov2:=hov.on hb2;obtain⟨m1,m2,m3,m4⟩:=hS2.mark (aa HRV) (aa HMK) true
     have c9:w2.cell? ⟨fb,9,none⟩=some (.slice (some ⟨b,off,none⟩) rq.length rc):=by rw[<-aa HRV]; exact aF.c hS2.blk 9 rfl
     have hT4:fQ (fun q=>q=b) w2 [158]:=fun q hq=>by
      have:=hS2.mem.rq;rw[aa HRV] at this;obtain⟨c,hc⟩:=this.ty (g:=b) rfl;rw[hq]
      exact⟨_,_,hc,by simp⟩
     have hov3:=hov2.frmT m4 hT4 (by decide)
     obtain⟨w3,hw3⟩:∃w3,w2.setCell ⟨b,off+k*7+6,none⟩ (.bool true)=w3:=⟨_,rfl⟩;rw[hw3] at m3 m4 hov3
     have hlt':ltd M ⟨kk,ra',re,false⟩=true:=by unfold ltd; dsimp only; rw[hd]; rfl
     have hmd:=midG_set (f:=li M) ht
     rw[show li M ⟨kk,ra',re,false⟩=⟨kk,ra',re,true⟩ by unfold li; rw[hlt']; rfl] at hmd
     rw[hmd] at m3;have hpr:=nz (s:=nH M) ht
     rw[show nH M k ⟨kk,ra',re,false⟩=[⟨k,504,⟨#[]⟩,⟨#[]⟩⟩] by unfold nH; rw[hlt']; rfl] at hpr
     have hat:=aZ bE 103 w3 ⟨k,504,⟨#[]⟩,⟨#[]⟩⟩ #[k,(504:Int),.string ⟨#[]⟩,.string ⟨#[]⟩] rfl;have hbA:=aj w3 (.cells #[k,(504:Int),.string ⟨#[]⟩,.string ⟨#[]⟩] 103);have hownA:=hov3.on hbA;have hpl:=repG_len (s:=nH M) (ltS_len M) (rq.take k) 0;rw[List.length_take] at hpl
     obtain⟨v7,w7,r1,r2,r3,r4⟩:=apRep hownA hat (by simp only[List.length_singleton]; omega)
     rw[<-hpr] at r2;have hSA:=m3.on hbA;have hF7:aE (fun q=>u3.ownBlock=some q) (w3.alloc (.cells #[k,(504:Int),.string ⟨#[]⟩,.string ⟨#[]⟩] 103)) w7:=(aE.rfl' _ _).grown r3 (fun q hq _=>hq)
     have hT7:fQ (fun q=>u3.ownBlock=some q) (w3.alloc (.cells #[k,(504:Int),.string ⟨#[]⟩,.string ⟨#[]⟩] 103)) [103]:=fun q hq=>by
      obtain⟨c,hc⟩:=hownA.ty hq
      exact⟨_,_,hc,by simp⟩
     have hsz:=m3.frm.size
     have HH:Hid (aP w fb X w7 Y (gW (li M) rq (k+1)) jb en/\ah bE 103 w7 v7 (dS (nH M) 0 (rq.take (k+1)))/\(∀g,v7.ownBlock=some g->w.heap.size<=g)):=⟨hSA.beside hF7 hT7 (by decide) (by decide) (by decide) (by decide) hfr,r2,bN hfr r4 (by simp; omega)⟩
     have HW3:=ae hw3;clear hS hov hS2 hov2 m3 m4 hov3 hmd hpr hat hbA hownA hpl r2 r3 r4 hSA hF7 hT7 hT4 hfr hb2 hw3
     go_wp2_with (first|refine cU w3 (stB _ _ _ _ rfl b (off+k*7+6) true (by simp[go_sem]) (by simp[go_sem]) w2 w3 m1 m2 (aa HW3)) rfl ?_|refine cP _ _ (gz k 504 ⟨#[]⟩ ⟨#[]⟩ _ _ _ rfl rfl _) rfl ?_|(at_builtin; refine fS 89 r1 rfl _ _ rfl rfl rfl rfl ?_))
     go_roundw
     case rel=>exact⟨k+1,by omega,by go_num,HH⟩
     case measure=>simp[intOf]; omega
    have hd:decide (re<=(M:Int))=false:=decide_eq_false hle
    go_wp2_with fail
    go_quiet (fail)
    have HH:=ae (aa HSK (by unfold ltd; dsimp only; rw[hd]; rfl) _ (nc wr nq))
    go_wp2_with fail
    go_roundw
    case rel=>exact⟨k+1,by omega,by go_num,HH⟩
    case measure=>simp[intOf]; omega
  have hkn:k=rq.length:=by omega
  subst hkn
  have hkn:¬((rq.length:Int)<rq.length):=by omega
  have hS0:=hS;rw[midG_all] at hS;rw[List.take_length] at hov;obtain⟨Q,hQ⟩:∃Q,rq.map (li M)=Q:=⟨_,rfl⟩
  have hQl:Q.length=rq.length:=by rw[<-hQ,List.length_map]
  have hQs:∀r∈Q,bP r.k:=fun r hr=>by
   rw[<-hQ] at hr;obtain⟨r',hr',rfl⟩:=List.mem_map.1 hr;have:=aa HSM r' hr'
   unfold li; split<;>exact this
  rw[hQ] at hS;have HQE:=ae hQ
  have HK0:Hid (aP w fb X wr Y Q jb en/\ah bE 103 wr u3 (dS (nH M) 0 rq)/\(∀g,u3.ownBlock=some g->w.heap.size<=g)/\ah jP 165 wr (.slice none 0 0) (tkJ Q (jb.take 0))/\(∀g,(Value.slice none 0 0).ownBlock=some g->w.heap.size<=g)):=⟨hS,hov,hfr,Or.inl ⟨rfl,by simp[tkJ]⟩,fun g hg=>by cases hg⟩
  obtain⟨oa,on,oc,rfl⟩:=hov.sl;obtain⟨wB,rfl⟩:∃wB:World,wB=wr:=⟨_,rfl⟩;have HQS:=ae hQs;clear hS hS0 hov hfr hQ hQs hL hrv hra
  go_wp2_with fail
  clear c9
  go_loopw [5,6,7] (fun jv i _ wr=>∃k:Nat,k<=jb.length/\i=.int .i64 k/\Hid (aP w fb X wr Y Q jb en/\ah bE 103 wr (.slice oa on oc) (dS (nH M) 0 rq)/\(∀g,(Value.slice oa on oc).ownBlock=some g->w.heap.size<=g)/\ah jP 165 wr jv (tkJ Q (jb.take k))/\(∀g,jv.ownBlock=some g->w.heap.size<=g))) (fun _ i _ _=>jb.length-(intOf i).toNat)
  case atStart=>exact⟨0,by omega,rfl,HK0⟩
  case round=>
   obtain⟨k,hk',rfl,hL⟩:=hrel;obtain⟨hS,hov,hfr,hjv,hjf⟩:=aa hL;obtain⟨ja,jc,hjs,hja⟩:=hS.mem.jb.val
   have c10:wr.cell? ⟨fb,10,none⟩=some (.slice ja jb.length jc):=by rw[<-hjs]; exact aF.c hS.blk 10 rfl
   by_cases hlt2:k<jb.length
   ·have hkn2:(k:Int)<jb.length:=by omega
    obtain⟨b,off,rfl⟩:=hja (by omega)
    obtain⟨⟨⟨jl,jz,jx,jy⟩,jw,jp,jr,jf⟩,ht⟩:∃t,jb[k]?=some t:=⟨_,List.getElem?_eq_getElem hlt2⟩;have ho:=hS.mem.jb;rw[hjs] at ho;have hrow:wr.rangeAt b (off+k*8) #[.int .i64 jl,.int .i64 jz,.int .i64 jx,.int .i64 jy].toList:=dV (ho.row ht) rfl
    have WA:=fh fb _ Q jl jz jx jy false wr hS.blk hS.mem.rq.at (aa HQS) (by omega)
    obtain⟨N,hN⟩:∃N,bg Q ⟨jl,jz,jx,jy⟩ false=N:=⟨_,rfl⟩;rw[hN] at WA;have hsn:=tkJ_snoc (rq:=Q) ht;have hNl:=ef Q ⟨jl,jz,jx,jy⟩ false;rw[hN] at hNl;have HSN:=ae hsn;have HN:=ae hN;have HS:=ae (And.intro hS (And.intro hov (And.intro hfr (And.intro hjv hjf))));have HJS:=ae hjs;clear hS hov hfr hjv hjf ho hsn hL hjs hja hN
    go_wp2_with (refine bU 39 #[jl,jz,jx,jy] underlying39 rfl (bj _ _ _ _) b (off+k*8) hrow rfl _ rfl rfl ?_)
    refine WA.mono ?_;rintro e w2 ⟨rfl,hb2⟩;obtain⟨hS,hov,hfr,hjv,hjf⟩:=aa HS;have hS2:=hS.on hb2;have hov2:=hov.on hb2;have hjv2:=hjv.on hb2;have ho2:=hS2.mem.jb;rw[aa HJS] at ho2
    have c10':w2.cell? ⟨fb,10,none⟩=some (.slice (some ⟨b,off,none⟩) jb.length jc):=by rw[<-aa HJS]; exact aF.c hS2.blk 10 rfl
    have d4:w2.cell? ⟨b,off+k*8+4,none⟩=some (.int .i64 jw):=(ho2.cellF ht (j:=4) (u:=.int .i64 jw) rfl).1;have hrow2:w2.rangeAt b (off+k*8) #[.int .i64 jl,.int .i64 jz,.int .i64 jx,.int .i64 jy,.int .i64 jw,.int .i64 jp,.int .i64 jr,.int .i64 jf].toList:=ho2.row ht;have hat:=aZ jP 165 w2 ⟨⟨jl,jz,jx,jy⟩,jw,jp,jr,jf⟩ #[jl,jz,jx,jy,jw,jp,jr,jf] rfl;have hbA:=aj w2 (.cells #[jl,jz,jx,jy,jw,jp,jr,jf] 165);have hjA:=hjv2.on hbA
    have hjl2:(tkJ Q (jb.take k)).length<=k:=by
     unfold tkJ;refine Nat.le_trans (List.length_filter_le _ _) ?_
     rw[List.length_take]; omega
    obtain⟨v7,w7,r1,r2,r3,r4⟩:=apJb hjA hat (by simp only[List.length_singleton]; omega)
    have hSA:=hS2.on hbA;have hF7:aE (fun q=>u5.ownBlock=some q) (w2.alloc (.cells #[jl,jz,jx,jy,jw,jp,jr,jf] 165)) w7:=(aE.rfl' _ _).grown r3 (fun q hq _=>hq);have hsz:=hS2.frm.size
    have hT7:fQ (fun q=>u5.ownBlock=some q) (w2.alloc (.cells #[jl,jz,jx,jy,jw,jp,jr,jf] 165)) [165]:=fun q hq=>by
     obtain⟨c,hc⟩:=hjA.ty hq
     exact⟨_,_,hc,by simp⟩
    have HH:tkP Q ⟨⟨jl,jz,jx,jy⟩,jw,jp,jr,jf⟩=true->aP w fb X w7 Y Q jb en/\ah bE 103 w7 (.slice oa on oc) (dS (nH M) 0 rq)/\(∀g,(Value.slice oa on oc).ownBlock=some g->w.heap.size<=g)/\ah jP 165 w7 v7 (tkJ Q (jb.take (k+1)))/\(∀g,v7.ownBlock=some g->w.heap.size<=g):=fun hp=>by
     refine⟨hSA.besideJ hF7 hT7 (fun q h1 h2=>by have:=hjf q h2; have:=aa HJX q h1; omega) hjf,(hov2.on hbA).frmT hF7 hT7 (by decide),hfr,?_,bN hjf r4 (by simp; omega)⟩
     rw[aa HSN,if_pos hp]; exact r2
    have HHN:tkP Q ⟨⟨jl,jz,jx,jy⟩,jw,jp,jr,jf⟩=false->aP w fb X w2 Y Q jb en/\ah bE 103 w2 (.slice oa on oc) (dS (nH M) 0 rq)/\(∀g,(Value.slice oa on oc).ownBlock=some g->w.heap.size<=g)/\ah jP 165 w2 u5 (tkJ Q (jb.take (k+1)))/\(∀g,u5.ownBlock=some g->w.heap.size<=g):=fun hp=>by
     refine⟨hS2,hov2,hfr,?_,hjf⟩
     rw[aa HSN,if_neg (by rw[hp]; decide),List.append_nil]; exact hjv2
    have hTK:tkP Q ⟨⟨jl,jz,jx,jy⟩,jw,jp,jr,jf⟩=(decide (0<N) || decide (0<=jw)):=by unfold tkP; dsimp only; rw[aa HN]
    have H1:=ae HH;have H2:=ae HHN;have HTK:=ae hTK;clear hS hov hfr hjv hjf hS2 hov2 hjv2 ho2 hat hbA hjA r2 r3 r4 hSA hF7 hT7 HH HHN hTK WA hb2 hrow c10
    by_cases hpos:0<N
    ·have hpi:(0:Int)<N:=by omega
     have HH:=ae (aa H1 (by rw[aa HTK,decide_eq_true hpos]; rfl))
     go_wp2_with (first|refine bU 165 #[jl,jz,jx,jy,jw,jp,jr,jf] underlying165 rfl (fu ⟨⟨jl,jz,jx,jy⟩,jw,jp,jr,jf⟩) b (off+k*8) hrow2 rfl _ rfl rfl ?_|refine cP _ _ (bsJb ⟨⟨jl,jz,jx,jy⟩,jw,jp,jr,jf⟩ _ _ _ rfl rfl _) rfl ?_|(at_builtin; refine fS 132 r1 rfl _ _ rfl rfl rfl rfl ?_))
     go_roundw
     case rel=>exact⟨k+1,by omega,by go_num,HH⟩
     case measure=>simp[intOf]; omega
    have hN0:N=0:=by omega
    subst hN0
    by_cases hw0:0<=jw
    ·have HH:=ae (aa H1 (by rw[aa HTK,decide_eq_true hw0]; simp))
     go_wp2_with (first|refine bU 165 #[jl,jz,jx,jy,jw,jp,jr,jf] underlying165 rfl (fu ⟨⟨jl,jz,jx,jy⟩,jw,jp,jr,jf⟩) b (off+k*8) hrow2 rfl _ rfl rfl ?_|refine cP _ _ (bsJb ⟨⟨jl,jz,jx,jy⟩,jw,jp,jr,jf⟩ _ _ _ rfl rfl _) rfl ?_|(at_builtin; refine fS 132 r1 rfl _ _ rfl rfl rfl rfl ?_))
     go_roundw
     case rel=>exact⟨k+1,by omega,by go_num,HH⟩
     case measure=>simp[intOf]; omega
    have HH:=ae (aa H2 (by rw[aa HTK,decide_eq_false hw0]; rfl))
    go_wp2_with fail
    go_roundw
    case rel=>exact⟨k+1,by omega,by go_num,HH⟩
    case measure=>simp[intOf]; omega
   have hkn2:k=jb.length:=by omega
   subst hkn2;rw[List.take_length] at hjv;have hfz:=kr hS.blk 10;obtain⟨ta,tn,tc,htv⟩:=hjv.sl
   have HQ:Hid (∃rv jv',Ending.returned (.slice oa on oc)=.returned rv/\ah bE 103 (wr.setCell ⟨fb,10,none⟩ u5) rv (dS (nH M) 0 rq)/\(∀g,rv.ownBlock=some g->w.heap.size<=g)/\aP w fb X (wr.setCell ⟨fb,10,none⟩ u5) { X with nw:=(M:Int),jv:=jv' } (rq.map (li M)) (tkJ (rq.map (li M)) jb) en):=by
    show ∃_,_;rw[aa HQE]
    exact⟨.slice oa on oc,u5,rfl,hov.frm ((aE.rfl' (fun k=>k=fb) _).setCell (p:=⟨fb,10,none⟩) _ (fun _=>rfl)) (fun g hg=>au hov hS.blk (by decide) g hg),hfr,by rw[aa HYY]; exact hS.setJ hjv hjf⟩
   subst htv;clear hS hov hfr hjv hjf hL hjs hja
   go_wp2_with fail
   go_ret;exact aa HQ
end
section
variable {w w1:World}{fb:Nat}{X Y:RV}{rq:List Rq}{jb:List Jb}{en:List En}
theorem aP.jset (h:aP w fb X w1 Y rq jb en){b off n cap i:Nat}{j j':Jb}(hv:Y.jv=.slice (some ⟨b,off,none⟩) n cap)(hk:jb[i]?=some j){c:Nat}{u:Value}{x:Int}(hu:(jP.enc j)[c]?=some u)(he:jP.enc j'=(jP.enc j).set c (.int .i64 x)):
  w1.cell? ⟨b,off+i*8+c,none⟩=some u/\w1.frozen? ⟨b,off+i*8+c,none⟩=false/\aP w fb X (w1.setCell ⟨b,off+i*8+c,none⟩ (.int .i64 x)) Y rq (jb.set i j') en:=by
 have ho:=h.mem.jb;rw[hv] at ho;obtain⟨a1,a2⟩:=ho.cellF hk (j:=c) hu;have hF:aE (fun q=>q=b) w1 (w1.setCell ⟨b,off+i*8+c,none⟩ (.int .i64 x)):=(aE.rfl' _ _).setCell (p:=⟨b,off+i*8+c,none⟩) _ (fun _=>rfl)
 refine⟨a1,a2,h.trans (h.mem.jin h.blk ?_ (hF.mono fun q _ e=>by rw[hv,e]; rfl))⟩
 rw[hv]
 exact ho.setF hk (j:=c) (x:=.int .i64 x) (by have:=(List.getElem?_eq_some_iff.1 hu).1; rw[jP.len] at this; exact this) he
end
theorem hdI_snoc {jb:List Jb}{k:Nat}{j:Jb}(h:jb[k]?=some j):kf jb (k+1)=match kf jb k with
  | none=>if j.wk=-1 then some k else none
  | some g=>if j.wk=-1/\j.pl<plA jb g then some k else some g:=by
 rw[kf,h]
 cases kf jb k<;>rfl
theorem wkI_none {jb:List Jb}{a:Int}(h:∀i j,i<jb.length->jb[i]?=some j->j.wk≠a):wkI jb a=none:=o9 fun i b hi hb=>by
 have:=h i b hi hb;simpa using this
theorem wkI_some {jb:List Jb}{a:Int}{k:Nat}{j:Jb}(hk:jb[k]?=some j)(hw:j.wk=a)(h:∀i j,i<k->jb[i]?=some j->j.wk≠a):wkI jb a=some k:=o8 hk (decide_eq_true hw) fun i b hi hb=>by
 have:=h i b hi hb;simpa using this
def WkP (w:World)(fb:Nat)(X:RV)(D:DF)(a:Nat)(e:Ending)(w':World):Prop:=
 ∃rv jv' ev',e=.returned rv/\ah bE 103 w' rv (D.work a).2/\(∀g,rv.ownBlock=some g->w.heap.size<=g) /\
  aP w fb X w' { X with ct:=((D.work a).1.ct:Int),st:=((D.work a).1.st:Int),jv:=jv',ev:=ev' } (D.work a).1.rq (D.work a).1.jb (D.work a).1.en
section
variable {w w1:World}{fb:Nat}{X:RV}{keep:Int}{bv pv:Value}{SL:List cA}{PI:List Int}{D:DF}
theorem WkP.nil (hS:aP w fb X w1 { X with ct:=(D.ct:Int),st:=(D.st:Int) } D.rq D.jb D.en){a:Nat}(h:D.work a=(D,[])):WkP w fb X D a (.returned (.slice none 0 0)) w1:=by
 refine⟨.slice none 0 0,X.jv,X.ev,rfl,?_,fun g hg=>(by cases hg),?_⟩
 ·rw[h]; exact Or.inl ⟨rfl,rfl⟩
 rw[h]; exact hS
theorem rWork_any (a:Int)(hf:aF w fb X)(hm:cE w X D.rq D.jb D.en)(hca:X.ca=D.ca)(hct:X.ct=D.ct)(hst:X.st=D.st)(hwk:X.wk=D.wk)(hch:X.ch=D.ch)(hcb:D.ct<=100000000)(hsb:D.st<=100000000)(hc1:1<=D.ch/\D.ch<=8)(hR:eV w X.sb keep bv pv SL D.bs PI)(hB:ke D.bs)
  (hjb:∀j∈D.jb,0<=j.rd/\j.rd<=D.bs.length/\bP j.b/\0<=j.lf/\j.lf<=1000) (hsm:∀r∈D.rq,bP r.k) (hko:∀r∈D.rq,r.done=false->dy r.k) (hrl:D.rq.length<=10000000) (hjl:D.jb.length<=1000000) (hel:D.en.length<=50000) (hby:aY D.en<=500000) :
  Calls prog 43 #[.pointer (some ⟨fb,0,none⟩),a] w fun e w'=>if a<0 then e=.returned (.slice none 0 0)/\w'=w else WkP w fb X D a.toNat e w':=by
 have hS0:aP w fb X w { X with ct:=(D.ct:Int),st:=(D.st:Int) } D.rq D.jb D.en:=by
  have e:({ X with ct:=(D.ct:Int),st:=(D.st:Int) }:RV)=X:=by rw[<-hct,<-hst]
  rw[e]; exact aP.refl hf hm
 have c1:w.cell? ⟨fb,1,none⟩=some (.int .i64 (D.wk:Int)):=by rw[<-hwk]; exact aF.c hf 1 rfl
 by_cases h0:a<0
 ·simp only[if_pos h0]
  clear hS0 hf hm hR hB hjb hsm hko;go_enter func43,ntmps43
  go_wp2_with fail
  go_ret;exact⟨rfl,rfl⟩
 simp only[if_neg h0]
 obtain⟨A,rfl⟩:∃A:Nat,a=(A:Int):=⟨a.toNat,by omega⟩
 rw[Int.toNat_natCast]
 by_cases h1:(D.wk:Int)<=(A:Int)
 ·have HQ:Hid (WkP w fb X D A (.returned (.slice none 0 0)) w):=WkP.nil hS0 (by unfold DF.work; rw[if_pos (by omega)])
  clear hS0 hf hm hR hB hjb hsm hko;go_enter func43,ntmps43
  go_wp2_with fail
  go_ret;exact aa HQ
 have hA:¬D.wk<=A:=by omega
 obtain⟨ja,jc,hjs,hja⟩:=hm.jb.val;have hX8:X.st=D.st:=hst;have HJV:=ae hjs;have HJA:=ae hja;have HF:=ae hf;have HM:=ae hm;have HR:=ae hR;have HB:=ae hB;have HJB:=ae hjb;have HSM:=ae hsm;have HKO:=ae hko;have HS0:=ae hS0;have HCA:=ae hca;have HCT:=ae hct;have HST:=ae hst;have HCH:=ae hch;clear hS0 hf hm hR hB hjb hsm hko hca hct hst hX8 hjs hja hwk hch;go_enter func43,ntmps43
 go_wp2_with fail
 clear c1
 go_loopw [5,6,7] (fun hd i _ wr=>∃k:Nat,k<=D.jb.length/\i=.int .i64 k/\hd=.int .i64 (m5 (kf D.jb k))/\Hid (∀i j,i<k->D.jb[i]?=some j->j.wk≠(A:Int))/\Hid (Below w.heap.size w wr)) (fun _ i _ _=>D.jb.length-(intOf i).toNat)
 case atStart=>exact⟨0,by omega,rfl,rfl,ae (fun i j hi=>by omega),ae bu⟩
 case round=>
  obtain⟨k,hk,rfl,rfl,hno,hb⟩:=hrel
  have c10:wr.cell? ⟨fb,10,none⟩=some (.slice ja D.jb.length jc):=by rw[<-aa HJV]; exact aF.c (ag (aa HF) (aa hb)) 10 rfl
  by_cases hlt:k<D.jb.length
  ·have hkn:(k:Int)<D.jb.length:=by omega
   obtain⟨b,off,rfl⟩:=aa HJA (by omega)
   obtain⟨⟨⟨jl,jz,jx,jy⟩,jw,jp,jr,jf⟩,ht⟩:∃t,D.jb[k]?=some t:=⟨_,List.getElem?_eq_getElem hlt⟩;have hjj:=aa HJB _ (List.mem_of_getElem? ht);dsimp only at hjj;have hmr:=(aa HM).on (aa hb);have ho:=hmr.jb;rw[aa HJV] at ho;have hbl:b<wr.heap.size:=ho.lt rfl;have hfl:fb<wr.heap.size:=an (ag (aa HF) (aa hb));have hrow:wr.rangeAt b (off+k*8) #[.int .i64 jl,.int .i64 jz,.int .i64 jx,.int .i64 jy,.int .i64 jw,.int .i64 jp,.int .i64 jr,.int .i64 jf].toList:=ho.row ht;obtain⟨wA,hwA⟩:∃wA,wr.alloc (.cells #[jl,jz,jx,jy,jw,jp,jr,jf] 165)=wA:=⟨_,rfl⟩;have hbA:Below wr.heap.size wr wA:=hwA▸aj wr (.cells #[jl,jz,jx,jy,jw,jp,jr,jf] 165);have hgA:wA.heap[wr.heap.size]?=some (.cells #[jl,jz,jx,jy,jw,jp,jr,jf] 165):=hwA▸heap_alloc_new wr (.cells #[jl,jz,jx,jy,jw,jp,jr,jf] 165);have c10A:wA.cell? ⟨fb,10,none⟩=some (.slice (some ⟨b,off,none⟩) D.jb.length jc):=(hbA.cell (p:=⟨fb,10,none⟩) hfl).trans c10;have e4:wA.cell? ⟨wr.heap.size,4,none⟩=some (.int .i64 jw):=(af hgA 4).trans rfl;have e5:wA.cell? ⟨wr.heap.size,5,none⟩=some (.int .i64 jp):=(af hgA 5).trans rfl;have e7:wA.cell? ⟨wr.heap.size,7,none⟩=some (.int .i64 jf):=(af hgA 7).trans rfl;have HGA:=ae hgA;have HBA:=ae ((aa hb).trans (hbA.mono (aa hb).size));have hzA:wr.heap.size<wA.heap.size:=an hgA;have HWA:=ae hwA;clear hmr ho hbA hgA hwA
   by_cases hw:jw=(A:Int)
   ·subst hw
    have HW:=ae (wkI_some ht rfl (aa hno));have hS:=(aa HS0).on (aa HBA);have hjvA:({ X with ct:=(D.ct:Int),st:=(D.st:Int) }:RV).jv=.slice (some ⟨b,off,none⟩) D.jb.length jc:=aa HJV
    have hj1:IntKind.i64.wrap (jf-1)=jf-1:=bG _ (by omega)
    obtain⟨nd,hnd⟩:∃nd,wA=nd:=⟨_,rfl⟩;have HSA:=ae hS
    have hWK:D.work A=if jf=1 then DF.paint { D with jb:=D.jb.set k ⟨⟨jl,jz,jx,jy⟩,(A:Int),jp,jr,jf-1⟩ } k ⟨⟨jl,jz,jx,jy⟩,(A:Int),jp,jr,jf-1⟩ else ({ D with jb:=D.jb.set k ⟨⟨jl,jz,jx,jy⟩,(A:Int),jp,jr,jf-1⟩ },[]):=by
     unfold DF.work;rw[if_neg hA,aa HW];dsimp only;rw[ht]
    have HWK:=ae hWK;clear hS hWK hnd
    go_wp2_with (refine bU 165 #[jl,jz,jx,jy,(A:Int),jp,jr,jf] underlying165 rfl (fu ⟨⟨jl,jz,jx,jy⟩,(A:Int),jp,jr,jf⟩) b (off+k*8) hrow rfl _ rfl rfl ?_)
    rw[aa HWA];clear c10 hrow
    refine wp_region_held (S:=fun w'=>w'.cell? ⟨fb,10,none⟩=some (.slice (some ⟨b,off,none⟩) D.jb.length jc)/\w'.cell? ⟨wr.heap.size,7,none⟩=some (.int .i64 jf)) (by kernel_rfl) ?_
    change wpAnyH _ _ _ _ _ _ _ _ (World.drew _);have hbd:Below wA.heap.size wA (World.drew wA):=Below.drew bu;have hS6:=(aa HSA).on hbd;have hz6:wA.heap.size<=(World.drew wA).heap.size:=hbd.size;have hS:(World.drew wA).cell? ⟨fb,10,none⟩=some (.slice (some ⟨b,off,none⟩) D.jb.length jc)/\(World.drew wA).cell? ⟨wr.heap.size,7,none⟩=some (.int .i64 jf):=⟨c10A,e7⟩;generalize World.drew wA=w6 at hS6 hS hz6 ⊢;obtain⟨m1,m2,m3⟩:=hS6.jset hjvA ht (c:=7) (j':=⟨⟨jl,jz,jx,jy⟩,(A:Int),jp,jr,jf-1⟩) (x:=jf-1) rfl rfl;obtain⟨w7,hw7⟩:∃w7,w6.setCell ⟨b,off+k*8+7,none⟩ (.int .i64 (jf-1))=w7:=⟨_,rfl⟩;rw[hw7] at m3
    have hS7:w7.cell? ⟨fb,10,none⟩=some (.slice (some ⟨b,off,none⟩) D.jb.length jc)/\w7.cell? ⟨wr.heap.size,7,none⟩=some (.int .i64 jf):=⟨by rw[<-hjvA]; exact aF.c m3.blk 10 rfl,by
     rw[<-hS.2,<-hw7]; exact World.cell?_of_block (a:=⟨wr.heap.size,7,none⟩) (Below.heap_setCell _ _ _ _ (by show wr.heap.size≠b; omega))⟩
    have HQ7:=ae m3;have e77:=hS7.2;clear hS6 m3 hbd HSA HGA HBA e4 e5 e7 c10A;refine am 0 rfl fb 0 hS ?_;refine am 1 rfl fb 0 hS ?_;refine am 2 rfl fb 10 hS ?_
    refine aH 3 rfl (.slice (some ⟨b,off,none⟩) D.jb.length jc) hS ?_ (hy:=fun w' hw'=>by simp[go_sem,hw'.1])
    refine aH 4 rfl (.int .i64 k) hS ?_;refine am 5 rfl wr.heap.size 7 hS ?_
    refine aH 6 rfl (.int .i64 jf) hS ?_ (hy:=fun w' hw'=>by simp[go_sem,hw'.2])
    refine aH 7 rfl (.int .i64 (jf-1)) hS ?_ (hy:=fun w' hw'=>by simp[go_sem,hj1])
    refine am 8 rfl b (off+k*8) hS ?_ (hy:=fun w' hw'=>by simp[go_sem,hkn])
    refine am 9 rfl b (off+k*8+7) hS ?_;refine aV 10 ?_;refine cL 10 rfl rfl (w7) (kO _ _ _ _ rfl b (off+k*8+7) (jf-1) rfl rfl w6 w7 m1 m2 hw7) (hS7) ?_;simp only[Act.put]
    refine wpAnyH_done (by kernel_rfl) ?_ _
    clear hS hS7 m1 m2 hw7
    by_cases hf1:jf=1
    ·subst hf1
     have hm3:=aa HQ7
     have PT:=painted_any k jl jz jx jy (A:Int) jp (1-1) jr.toNat D.ca D.ct D.rq (D.jb.set k ⟨⟨jl,jz,jx,jy⟩,(A:Int),jp,jr,1-1⟩) D.en hm3.blk hm3.mem (aa HCA) rfl hcb (hm3.rst (aa HF) (aa HM) (aa HR)) (aa HB) (by omega) (by rw[List.getElem?_set_self hlt,show((jr.toNat:Nat):Int)=jr by omega]) hjj.2.2.1 (aa HSM) (aa HKO) hrl (by rw[List.length_set]; exact hjl) hel hby
     rw[show((jr.toNat:Nat):Int)=jr by omega] at PT
     have HPT:=ae PT;clear PT hm3
     go_wp2_with fail
     refine(aa HPT).mono ?_;rintro e w8 ⟨rv,jv',ev',rfl,p1,p2,p3⟩
     have HQ:Hid (WkP w fb X D A (.returned rv) w8):=by
      have hs:=(aa HQ7).trans p3;refine⟨rv,jv',ev',rfl,?_,fun g hg=>?_,?_⟩
      ·rw[aa HWK]; first|rw[if_pos rfl]; exact p1|rw[if_pos trivial]; exact p1
      ·have:=p2 g hg; have:=(aa HQ7).frm.size; omega
      rw[aa HWK]; first|rw[if_pos rfl]; exact hs|rw[if_pos trivial]; exact hs
     obtain⟨xa,xn,xc,rfl⟩:=p1.sl;clear p1 p2 p3
     go_wp2_with fail
     go_ret;exact aa HQ
    have hf1b:(jf==1)=false:=by simpa using hf1
    have HQ:Hid (WkP w fb X D A (.returned (.slice none 0 0)) w7):=by
     refine⟨.slice none 0 0,X.jv,X.ev,rfl,?_,fun g hg=>(by cases hg),?_⟩
     ·rw[aa HWK,if_neg hf1]; exact Or.inl ⟨rfl,rfl⟩
     rw[aa HWK,if_neg hf1]; exact aa HQ7
    go_wp2_with fail
    go_ret;exact aa HQ
   have HNO:Hid (∀i j,i<k+1->D.jb[i]?=some j->j.wk≠(A:Int)):=fun i j hi hj=>by
    rcases Nat.lt_or_ge i k with q|q
    ·exact aa hno i j q hj
    have:i=k:=by omega
    subst this
    rw[ht] at hj; cases hj
    exact hw
   have hsn:=hdI_snoc ht;dsimp only at hsn
   have hwb:(jw==(A:Int))=false:=by simpa using hw
   cases hh:kf D.jb k with
   | none=>
    dsimp only[m5];rw[hh] at hsn;dsimp only at hsn
    by_cases hm1:jw=-1
    focus
     subst hm1;rw[if_pos rfl] at hsn;have HSN:=ae hsn;clear hsn hw
     go_wp2_with (refine bU 165 #[jl,jz,jx,jy,.int .i64 (-1),jp,jr,jf] underlying165 rfl (fu ⟨⟨jl,jz,jx,jy⟩,-1,jp,jr,jf⟩) b (off+k*8) hrow rfl _ rfl rfl ?_)
    rotate_left
    focus
     rw[if_neg hm1] at hsn
     have hmb:(jw == -1)=false:=by simpa using hm1
     have HSN:=ae hsn;clear hsn hw
     go_wp2_with (refine bU 165 #[jl,jz,jx,jy,jw,jp,jr,jf] underlying165 rfl (fu ⟨⟨jl,jz,jx,jy⟩,jw,jp,jr,jf⟩) b (off+k*8) hrow rfl _ rfl rfl ?_)
    all_goals
     rw[aa HWA];clear c10 hrow
     go_quiet (fail)
     have HB2:=ae ((aa HBA).trans ((nc wA nq).mono (aa HBA).size))
     go_wp2_with fail
     go_roundw
     case rel=>exact⟨k+1,by omega,by go_num,by first|(rw[aa HSN]; done)|(rw[aa HSN]; rfl),HNO,HB2⟩
     case measure=>simp[intOf]; omega
   | some h=>
    dsimp only[m5];have hlk:=pe D.jb k h hh
    have hhn:(h:Int)<D.jb.length:=by omega
    have hh0:¬(h:Int)<0:=by omega
    obtain⟨jh,hth⟩:∃t,D.jb[h]?=some t:=⟨_,List.getElem?_eq_getElem (by omega)⟩
    have hpl:plA D.jb h=jh.pl:=by unfold plA; rw[hth]; rfl
    have pA:wA.cell? ⟨b,off+h*8+5,none⟩=some (.int .i64 jh.pl):=by
     have ho:=((aa HM).on (aa HBA)).jb;rw[aa HJV] at ho;exact(ho.cellF hth (j:=5) (u:=.int .i64 jh.pl) rfl).1
    rw[hh] at hsn;dsimp only at hsn;rw[hpl] at hsn;obtain⟨ph,hph⟩:∃p,jh.pl=p:=⟨_,rfl⟩;rw[hph] at pA hsn;have HHH:=ae hh;clear hpl hph hth hh
    by_cases hm1:jw=-1
    ·subst hm1
     by_cases hlp:jp<ph
     focus
      rw[if_pos ⟨rfl,hlp⟩] at hsn
     rotate_left
     focus
      rw[if_neg (fun q=>hlp q.2)] at hsn
     all_goals
      have HSN:=ae hsn;clear hsn hw
      go_wp2_with (refine bU 165 #[jl,jz,jx,jy,.int .i64 (-1),jp,jr,jf] underlying165 rfl (fu ⟨⟨jl,jz,jx,jy⟩,-1,jp,jr,jf⟩) b (off+k*8) hrow rfl _ rfl rfl ?_)
      rw[aa HWA];clear c10 hrow
      go_quiet (fail)
      have HB2:=ae ((aa HBA).trans ((nc wA nq).mono (aa HBA).size))
      go_wp2_with fail
      go_roundw
      case rel=>exact⟨k+1,by omega,by go_num,by first|(rw[aa HSN]; done)|(rw[aa HSN]; rfl),HNO,HB2⟩
      case measure=>simp[intOf]; omega
    rw[if_neg (fun q=>hm1 q.1)] at hsn
    have hmb:(jw == -1)=false:=by simpa using hm1
    have HSN:=ae hsn;clear hsn hw
    go_wp2_with (refine bU 165 #[jl,jz,jx,jy,jw,jp,jr,jf] underlying165 rfl (fu ⟨⟨jl,jz,jx,jy⟩,jw,jp,jr,jf⟩) b (off+k*8) hrow rfl _ rfl rfl ?_)
    rw[aa HWA];clear c10 hrow
    go_quiet (fail)
    have HB2:=ae ((aa HBA).trans ((nc wA nq).mono (aa HBA).size))
    go_wp2_with fail
    go_roundw
    case rel=>exact⟨k+1,by omega,by go_num,by first|(rw[aa HSN]; done)|(rw[aa HSN]; rfl),HNO,HB2⟩
    case measure=>simp[intOf]; omega
  have hkn:k=D.jb.length:=by omega
  subst hkn;have HW:=ae (wkI_none (aa hno))
  have hno':D.work A=match kf D.jb D.jb.length with
    | some h=>match D.jb[h]? with
     | some j=>(D.take A h j,[])
     | none=>(D,[])
    | none=>(D,[]):=by
   unfold DF.work;rw[if_neg hA,aa HW];rfl
  cases hh:kf D.jb D.jb.length with
  | none=>
   dsimp only[m5];rw[hh] at hno';have HQ:Hid (WkP w fb X D A (.returned (.slice none 0 0)) wr):=WkP.nil ((aa HS0).on (aa hb)) hno';clear hno' hh
   go_wp2_with fail
   go_ret;exact aa HQ
  | some h=>
   dsimp only[m5];have hlk:=pe D.jb _ h hh
   have hhn:(h:Int)<D.jb.length:=by omega
   have hh0:¬(h:Int)<0:=by omega
   obtain⟨⟨jk,jw,jp,jr,jf⟩,hth⟩:∃t,D.jb[h]?=some t:=⟨_,List.getElem?_eq_getElem hlk⟩;rw[hh] at hno';dsimp only at hno';rw[hth] at hno';dsimp only at hno'
   obtain⟨b,off,rfl⟩:=aa HJA (by omega)
   have HNW:=ae hno';have c5:wr.cell? ⟨fb,5,none⟩=some (.pointer (some ⟨X.sb,0,none⟩)):=aF.c (ag (aa HF) (aa hb)) 5 rfl;have HV:=ae (fun W (hW:Below wr.heap.size wr W)=>dv (((aa HR).on (aa hb)).on hW));have HV0:=aa HV wr bu;obtain⟨V,hV⟩:∃V,D.bs.length=V:=⟨_,rfl⟩;have HAT:=ae (fun W (hW:Below wr.heap.size wr W)=>At_any X.sb keep bv pv SL D.bs PI D.bs.length W (((aa HR).on (aa hb)).on hW) aD (aa HB).n (aa HB).b8);rw[hV] at HV0 HAT;have HVV:=ae hV;have HVR:=ae HV0;have hfl:fb<wr.heap.size:=an (ag (aa HF) (aa hb));clear hno' hh HV0 hV HV
   go_wp2_with fail
   refine(aa HVR).mono ?_;rintro e w2 ⟨rfl,rfl⟩;clear c10
   go_wp2_with fail
   refine(aa HAT wr bu).mono ?_;rintro e w2 ⟨rv,rfl,hrv,hb2⟩;obtain⟨oa2,cap2,rfl,_,_,_⟩:=hrv;have hn40:=d7 D.bs V;obtain⟨n,hn⟩:∃n,(dk D.bs V).length=n:=⟨_,rfl⟩;rw[hn] at hn40 ⊢;have HN:=ae hn;have hS2:=((aa HS0).on (aa hb)).on hb2
   have c4:w2.cell? ⟨fb,4,none⟩=some (.int .i64 (D.ch:Int)):=by rw[<-aa HCH]; exact aF.c hS2.blk 4 rfl
   have HS2:=ae hS2;obtain⟨C,hC⟩:∃C,D.ch=C:=⟨_,rfl⟩;rw[hC] at c4 hc1;have HC:=ae hC
   have hc0:((C:Int)==0)=false:=by simp; omega
   have hc0':¬(C:Int)=0:=by omega
   have hcp:0<(C:Int):=by omega
   clear hn hS2 hC hb2 c5 HAT
   go_wp2_with fail
   go_quiet (fail)
   obtain⟨w3,hw3⟩:∃w3,w2.drewN nq=w3:=⟨_,rfl⟩;have hS3:=(aa HS2).on (nc w2 nq);rw[hw3] at hS3 ⊢;obtain⟨S,hSn⟩:∃S:Nat,(n+C-1) / C=S:=⟨_,rfl⟩
   have hSi:((n:Int)+(C:Int)-1) / (C:Int)=(S:Int):=by
    rw[show(n:Int)+(C:Int)-1=((n+C-1:Nat):Int) by omega,<-hSn]; rfl
   have hSle:S<=n+C-1:=by rw[<-hSn]; exact Nat.div_le_self _ _
   have hst:bB n C=if S<1 then 1 else S:=by
    unfold bB
    by_cases h0:n=0
    ·rw[if_pos h0,if_pos]
     rw[<-hSn,h0,Nat.div_eq_of_lt (by omega)]; omega
    have h1:1<=(n+C-1) / C:=(Nat.le_div_iff_mul_le (by omega)).2 (by omega)
    rw[if_neg h0,hSn,if_neg (by omega)]
   rw[hSi];have hjv3:({ X with ct:=(D.ct:Int),st:=(D.st:Int) }:RV).jv=.slice (some ⟨b,off,none⟩) D.jb.length jc:=aa HJV;have c8:w3.cell? ⟨fb,8,none⟩=some (.int .i64 (D.st:Int)):=aF.c hS3.blk 8 rfl;have fz8:=kr hS3.blk 8
   have hst1:IntKind.i64.wrap ((D.st:Int)+1)=(D.st:Int)+1:=bG _ (by omega)
   have hS4:=hS3.trans (hS3.mem.st hS3.blk ((D.st:Int)+1));obtain⟨w4,hw4⟩:∃w4,w3.setCell ⟨fb,8,none⟩ (.int .i64 ((D.st:Int)+1))=w4:=⟨_,rfl⟩;rw[hw4] at hS4
   have c104:w4.cell? ⟨fb,10,none⟩=some (.slice (some ⟨b,off,none⟩) D.jb.length jc):=by rw[<-hjv3]; exact aF.c hS4.blk 10 rfl
   obtain⟨m1,m2,m3⟩:=hS4.jset hjv3 hth (c:=4) (j':=⟨jk,(A:Int),jp,jr,jf⟩) (x:=(A:Int)) rfl rfl;obtain⟨w5,hw5⟩:∃w5,w4.setCell ⟨b,off+h*8+4,none⟩ (.int .i64 (A:Int))=w5:=⟨_,rfl⟩;rw[hw5] at m3
   have c105:w5.cell? ⟨fb,10,none⟩=some (.slice (some ⟨b,off,none⟩) D.jb.length jc):=by rw[<-hjv3]; exact aF.c m3.blk 10 rfl
   have hth1:(D.jb.set h ⟨jk,(A:Int),jp,jr,jf⟩)[h]?=some ⟨jk,(A:Int),jp,jr,jf⟩:=List.getElem?_set_self hlk;obtain⟨n1,n2,n3⟩:=m3.jset hjv3 hth1 (c:=6) (j':=⟨jk,(A:Int),jp,(V:Int),jf⟩) (x:=(V:Int)) rfl rfl;obtain⟨w6,hw6⟩:∃w6,w5.setCell ⟨b,off+h*8+6,none⟩ (.int .i64 (V:Int))=w6:=⟨_,rfl⟩;rw[hw6,List.set_set] at n3
   have c106:w6.cell? ⟨fb,10,none⟩=some (.slice (some ⟨b,off,none⟩) D.jb.length jc):=by rw[<-hjv3]; exact aF.c n3.blk 10 rfl
   have hth2:(D.jb.set h ⟨jk,(A:Int),jp,(V:Int),jf⟩)[h]?=some ⟨jk,(A:Int),jp,(V:Int),jf⟩:=List.getElem?_set_self hlk;obtain⟨Z,hZ⟩:∃Z,bB n C=Z:=⟨_,rfl⟩;obtain⟨q1,q2,q3⟩:=n3.jset hjv3 hth2 (c:=7) (j':=⟨jk,(A:Int),jp,(V:Int),(Z:Int)⟩) (x:=(Z:Int)) rfl rfl;obtain⟨w7,hw7⟩:∃w7,w6.setCell ⟨b,off+h*8+7,none⟩ (.int .i64 (Z:Int))=w7:=⟨_,rfl⟩;rw[hw7,List.set_set] at q3
   have HQ:Hid (WkP w fb X D A (.returned (.slice none 0 0)) w7):=by
    refine⟨.slice none 0 0,X.jv,X.ev,rfl,?_,fun g hg=>(by cases hg),?_⟩
    ·rw[aa HNW]; exact Or.inl ⟨rfl,rfl⟩
    rw[aa HNW];show aP w fb X w7 { X with ct:=(D.ct:Int),st:=((D.st+1:Nat):Int),jv:=X.jv,ev:=X.ev } D.rq (D.jb.set h ⟨jk,(A:Int),jp,(D.bs.length:Int),(bB (dk D.bs D.bs.length).length D.ch:Int)⟩) D.en;rw[aa HVV,aa HN,aa HC,hZ];exact q3
   have T4:=ae (fun(ev:Operand->Value) (o:Oper) (s t:Operand) (q:o.op=.store 3 s t) (z1:ev s=.pointer (some ⟨fb,8,none⟩)) (z2:ev t=.int .i64 ((D.st:Int)+1)) (W:World) (hW:W=w3)=>hW▸kO ev o s t q fb 8 ((D.st:Int)+1) z1 z2 w3 w4 c8 fz8 hw4);have T5:=ae (fun(ev:Operand->Value) (o:Oper) (s t:Operand) (q:o.op=.store 3 s t) (z1:ev s=.pointer (some ⟨b,off+h*8+4,none⟩)) (z2:ev t=.int .i64 (A:Int)) (W:World) (hW:W=w4)=>hW▸kO ev o s t q b (off+h*8+4) (A:Int) z1 z2 w4 w5 m1 m2 hw5);have T6:=ae (fun(ev:Operand->Value) (o:Oper) (s t:Operand) (q:o.op=.store 3 s t) (z1:ev s=.pointer (some ⟨b,off+h*8+6,none⟩)) (z2:ev t=.int .i64 (V:Int)) (W:World) (hW:W=w5)=>hW▸kO ev o s t q b (off+h*8+6) (V:Int) z1 z2 w5 w6 n1 n2 hw6);have T7:=ae (fun(ev:Operand->Value) (o:Oper) (s t:Operand) (q:o.op=.store 3 s t) (z1:ev s=.pointer (some ⟨b,off+h*8+7,none⟩)) (z2:ev t=.int .i64 (Z:Int)) (W:World) (hW:W=w6)=>hW▸kO ev o s t q b (off+h*8+7) (Z:Int) z1 z2 w6 w7 q1 q2 hw7);rw[hZ] at hst;clear hS3 hS4 m1 m2 m3 n1 n2 n3 q1 q2 q3 fz8 hth hth1 hth2 hw4 hw5 hw6 hw7 hw3 hSi hSn hZ c4 hjv3
   by_cases hs1:S<1
   focus
    rw[if_pos hs1] at hst;subst hst
    have hs1i:(S:Int)<1:=by omega
   rotate_left
   focus
    rw[if_neg hs1] at hst;subst hst
    have hs1i:¬(Z:Int)<1:=by omega
   all_goals
    go_wp2_with (first|refine cU w4 (aa T4 _ _ _ _ rfl rfl (by simp[go_sem]) _ rfl) rfl ?_|refine cU w5 (aa T5 _ _ _ _ rfl rfl rfl _ rfl) rfl ?_|refine cU w6 (aa T6 _ _ _ _ rfl rfl rfl _ rfl) rfl ?_|refine cU w7 (aa T7 _ _ _ _ rfl rfl rfl _ rfl) rfl ?_)
    go_ret;exact aa HQ
end
theorem cutT {T G:Prop}(m:T->G)(r:T):G:=m r
theorem built158 (l z x y a d:Int):prog.built 158 [(0,.agg #[l,z,x,y]),(1,.int .i64 a),(2,.int .i64 d),(3,.bool true)]=some (Rq.a ⟨⟨l,z,x,y⟩,a,d,true⟩):=by kernel_rfl
theorem bRq (l z x y a d:Int)(ev:Operand->Value)(o:Oper)(p q r s:Operand)(ho:o.op=.build 158 #[(0,p),(1,q),(2,r),(3,s)])(h0:ev p=.agg #[l,z,x,y])(h1:ev q=.int .i64 a)(h2:ev r=.int .i64 d)(h3:ev s=.bool true)(w:World):(execOp ev o).run prog w=.ok (.value (.agg (Rq.a ⟨⟨l,z,x,y⟩,a,d,true⟩))) w:=by
 have hb:=run_build (P:=prog) w 158 #[(0,.agg #[l,z,x,y]),(1,.int .i64 a),(2,.int .i64 d),(3,.bool true)] _ (built158 l z x y a d);unfold execOp;simp[ho,h0,h1,h2,h3,hb]
theorem bt304 (n s:Int)(t:ByteArray)(ev:Operand->Value)(o:Oper)(p q r:Operand)(ho:o.op=.build 103 #[(0,p),(1,q),(3,r)])(h1:ev p=.int .i64 n)(h2:ev q=.int .i64 s)(h3:ev r=.string t)(w:World):(execOp ev o).run prog w=.ok (.value (.agg #[n,s,.string ⟨#[]⟩,t])) w:=by
 have hb:=run_build (P:=prog) w 103 #[(0,.int .i64 n),(1,.int .i64 s),(3,.string t)] #[n,s,.string ⟨#[]⟩,t] (by kernel_rfl)
 unfold execOp;simp[ho,h1,h2,h3,hb]
theorem bt200 (n s:Int)(b t:ByteArray)(ev:Operand->Value)(o:Oper)(p q r u:Operand)(ho:o.op=.build 103 #[(0,p),(1,q),(2,r),(3,u)])(h1:ev p=.int .i64 n)(h2:ev q=.int .i64 s)(h3:ev r=.string b)(h4:ev u=.string t)(w:World):(execOp ev o).run prog w=.ok (.value (.agg #[n,s,b,t])) w:=by
 have hb:=run_build (P:=prog) w 103 #[(0,.int .i64 n),(1,.int .i64 s),(2,.string b),(3,.string t)] #[n,s,b,t] (by kernel_rfl)
 unfold execOp;simp[ho,h1,h2,h3,h4,hb]
section
variable {w w1:World}{fb:Nat}{X Y:RV}{rq:List Rq}{jb:List Jb}{en:List En}
theorem aP.addR (h:aP w fb X w1 Y rq jb en){o:Obj}{v:Value}{w3:World}{l:List Rq}(r2:ah rRq 158 w3 v l)(r3:(w1.alloc o).grownBy w3 Y.rv.ownBlock)(r4:v.ownBlock=Y.rv.ownBlock\/∀g,v.ownBlock=some g->w1.heap.size<=g):
  w3.cell? ⟨fb,9,none⟩=some Y.rv/\w3.frozen? ⟨fb,9,none⟩=false/\aP w fb X (w3.setCell ⟨fb,9,none⟩ v) { Y with rv:=v } l jb en:=by
 have hb3:aF w3 fb Y:=by
  show w3.heap[fb]?=_
  rw[r3.block fb (by have:=an h.blk; simp; omega) (fun q=>au h.mem.rq h.blk (by decide) fb q.symm rfl),heap_alloc_old w1 _ (an h.blk)]
  exact h.blk
 have hF:aE (fun k=>k=fb\/Y.rv.ownBlock=some k) w1 (w3.setCell ⟨fb,9,none⟩ v):=((cn bu r3).mono fun _ _ q=>Or.inr q).setCell (p:=⟨fb,9,none⟩) _ (fun _=>Or.inl rfl)
 refine⟨aF.c hb3 9 rfl,kr hb3 9,h.trans (h.mem.rv h.blk (aF.set hb3 9 _ (RV.set_rv _ _)) (r2.same fun g hg=>Below.heap_setCell _ _ _ _ (au r2 hb3 (by decide) g hg)) (fun g hg=>?_) hF)⟩
 rcases r4 with r4|r4
 ·exact Or.inl (r4▸hg)
 exact Or.inr (r4 g hg)
theorem aP.addJ (h:aP w fb X w1 Y rq jb en){o:Obj}{v:Value}{w3:World}{l:List Jb}(r2:ah jP 165 w3 v l)(r3:(w1.alloc o).grownBy w3 Y.jv.ownBlock)(r4:v.ownBlock=Y.jv.ownBlock\/∀g,v.ownBlock=some g->w1.heap.size<=g):
  w3.cell? ⟨fb,10,none⟩=some Y.jv/\w3.frozen? ⟨fb,10,none⟩=false/\aP w fb X (w3.setCell ⟨fb,10,none⟩ v) { Y with jv:=v } rq l en:=by
 have hb3:aF w3 fb Y:=by
  show w3.heap[fb]?=_
  rw[r3.block fb (by have:=an h.blk; simp; omega) (fun q=>au h.mem.jb h.blk (by decide) fb q.symm rfl),heap_alloc_old w1 _ (an h.blk)]
  exact h.blk
 have hF:aE (fun k=>k=fb\/Y.jv.ownBlock=some k) w1 (w3.setCell ⟨fb,10,none⟩ v):=((cn bu r3).mono fun _ _ q=>Or.inr q).setCell (p:=⟨fb,10,none⟩) _ (fun _=>Or.inl rfl)
 refine⟨aF.c hb3 10 rfl,kr hb3 10,h.trans (h.mem.jv h.blk (aF.set hb3 10 _ (RV.set_jv _ _)) (r2.same fun g hg=>Below.heap_setCell _ _ _ _ (au r2 hb3 (by decide) g hg)) (fun g hg=>?_) hF)⟩
 rcases r4 with r4|r4
 ·exact Or.inl (r4▸hg)
 exact Or.inr (r4 g hg)
theorem aP.eset (h:aP w fb X w1 Y rq jb en){b off n cap i:Nat}{e:En}(hv:Y.ev=.slice (some ⟨b,off,none⟩) n cap)(hk:en[i]?=some e)(u:Int):
  w1.cell? ⟨b,off+i*7+6,none⟩=some (.int .i64 e.use)/\w1.frozen? ⟨b,off+i*7+6,none⟩=false/\aP w fb X (w1.setCell ⟨b,off+i*7+6,none⟩ (.int .i64 u)) Y rq jb (en.set i { e with use:=u }):=by
 have ho:=h.mem.en;rw[hv] at ho;obtain⟨a1,a2⟩:=ho.cellF hk (j:=6) (u:=.int .i64 e.use) rfl;have hF:aE (fun q=>q=b) w1 (w1.setCell ⟨b,off+i*7+6,none⟩ (.int .i64 u)):=(aE.rfl' _ _).setCell (p:=⟨b,off+i*7+6,none⟩) _ (fun _=>rfl)
 have hne:fb≠b:=fun q=>au h.mem.en h.blk (by decide) fb (by rw[hv,q]; rfl) rfl
 refine⟨a1,a2,h.trans (h.mem.ev (n:=Y.ct) (ev':=Y.ev) h.blk (aQ h.blk hF hne) ?_ (fun g hg=>Or.inl hg) (hF.mono fun q _ e=>Or.inr (by rw[hv,e]; rfl)))⟩
 rw[hv]
 exact ho.setF hk (j:=6) (x:=.int .i64 u) (by decide) (En.enc_use _ u)
end
theorem RV.eqR (X:RV)(c:Int)(v:Value)(h:X.ct=c):({ X with ct:=c,rv:=v,jv:=X.jv,ev:=X.ev }:RV)={ X with rv:=v }:=by rw[<-h]
def ArP (w:World)(fb:Nat)(X:RV)(D:DF)(k:K4)(er:Int)(tag:ByteArray)(e:Ending)(w':World):Prop:=
 ∃rv rv' jv' ev',e=.returned (.tuple #[.int .i64 (D.rq.length:Nat),rv])/\ah bE 103 w' rv (D.arrive k er tag).2/\(∀g,rv.ownBlock=some g->w.heap.size<=g) /\
  aP w fb X w' { X with ct:=((D.arrive k er tag).1.ct:Int),rv:=rv',jv:=jv',ev:=ev' } (D.arrive k er tag).1.rq (D.arrive k er tag).1.jb (D.arrive k er tag).1.en
section
variable {w:World}{fb:Nat}{X:RV}{keep:Int}{bv pv:Value}{SL:List cA}{PI:List Int}{D:DF}
theorem ArP.one {w1:World}{X:RV}{k:K4}{er:Int}{tag:ByteArray}{rv' jv' ev':Value}{D':DF}{s:Int}{B T:ByteArray}(hS:aP w fb X w1 { X with ct:=(D'.ct:Int),rv:=rv',jv:=jv',ev:=ev' } D'.rq D'.jb D'.en)(h:D.arrive k er tag=(D',[⟨(D.rq.length:Nat),s,B,T⟩])):
  ArP w fb X D k er tag (.returned (.tuple #[.int .i64 (D.rq.length:Nat),.slice (some ⟨w1.heap.size,0,none⟩) 1 1])) (w1.alloc (.cells #[.int .i64 (D.rq.length:Nat),s,B,T] 103)):=by
 refine⟨_,rv',jv',ev',rfl,?_,fun g hg=>?_,?_⟩
 ·rw[h]
  exact cr (R:=bE) (T:=103) w1 [⟨(D.rq.length:Nat),s,B,T⟩] _ rfl (by unfold maxLen; simp)
 ·cases hg
  exact hS.frm.size
 rw[h];exact hS.on (aj _ _)
theorem rArrive_any (p tag:ByteArray)(l z x y er:Int)(hprs:Dw.parseL p.data.toList=((l,z,x,y),er))(hp:p.size<=1048576)(hf:aF w fb X)(hm:cE w X D.rq D.jb D.en)(hq:X.q=D.q)(hwt:X.wt=D.wt)(hnw:X.nw=D.now)(hct:X.ct=D.ct)(hcb:D.ct<=100000000)(hnb:D.now<=1000000000)(hwb:D.wt<=50)(hR:eV w X.sb keep bv pv SL D.bs PI)(hB:ke D.bs)
  (hkk:er=0->dy ⟨l,z,x,y⟩) (hxy:bP ⟨l,z,x,y⟩) (hsm:∀r∈D.rq,bP r.k) (hrl:D.rq.length<=10000000) (hjl:D.jb.length<=1000000) (hel:D.en.length<=50000) :
  Calls prog 41 #[.pointer (some ⟨fb,0,none⟩),p,tag] w fun e w'=>ArP w fb X D ⟨l,z,x,y⟩ er tag e w':=by
 obtain⟨ra,rc,hrv,hra⟩:=hm.rq.val
 have c9:w.cell? ⟨fb,9,none⟩=some (.slice ra D.rq.length rc):=by rw[<-hrv]; exact aF.c hf 9 rfl
 have HP:=ae (Dw.refParse_any p w hp);have HPR:=ae hprs;have HF:=ae hf;have HM:=ae hm;have HR:=ae hR;have HB:=ae hB;have HSM:=ae hsm;have HKK:=ae hkk;have HXY:=ae hxy;have HRV:=ae hrv;have HQ:=ae hq;have HWT:=ae hwt;have HNW:=ae hnw;have HCT:=ae hct;have hfl:fb<w.heap.size:=an hf;have hVm:=hB.n;clear hf hm hR hB hsm hkk hxy hrv hra hprs hp hq hwt hnw hct;go_enter func41,ntmps41
 go_wp2_with fail
 refine(aa HP).mono ?_;rintro e w1 ⟨⟨l',z',x',y',er',hpe,rfl⟩,hb1⟩;rw[aa HPR] at hpe
 obtain⟨⟨rfl,rfl,rfl,rfl⟩,rfl⟩:(l=l'/\z=z'/\x=x'/\y=y')/\er=er':=by simpa using hpe
 have hbA:=aj w1 (.cells #[l,z,x,y] 39);have hgA:=heap_alloc_new w1 (.cells #[l,z,x,y] 39);have hS2:=((aP.refl (aa HF) (aa HM)).on hb1).on hbA;have hR2:=((aa HR).on hb1).on hbA
 have WA:=fh fb X D.rq l z x y true _ hS2.blk hS2.mem.rq.at (aa HSM) (by omega)
 have hrow:=ao hgA;have hWN:=ef D.rq ⟨l,z,x,y⟩ true;obtain⟨WN,hwn⟩:∃WN,bg D.rq ⟨l,z,x,y⟩ true=WN:=⟨_,rfl⟩;rw[hwn] at WA hWN;have HWN:=ae hwn;have HG:=ae hgA;have HS2:=ae hS2;have HR2:=ae hR2;clear hpe hbA hgA hS2 hR2 hb1 hwn HP
 go_wp2_with (refine bU 39 #[l,z,x,y] underlying39 rfl (bj _ _ _ _) w1.heap.size 0 hrow rfl _ rfl rfl ?_)
 refine WA.mono ?_;rintro e w3 ⟨rfl,hb3⟩;have hS3:=(aa HS2).on hb3;have hR3:=(aa HR2).on hb3;have hg3:=ag (aa HG) hb3;obtain⟨g9,hg9⟩:∃g9,w1.heap.size=g9:=⟨_,rfl⟩;rw[hg9] at hg3 ⊢;clear WA hrow HG HS2 HR2 hb3 hg9 c9;obtain⟨w4,hw4⟩:∃w4,World.drew w3=w4:=⟨_,rfl⟩;have hb4:Below w3.heap.size w3 w4:=hw4▸Below.drew bu;have hS4:=hS3.on hb4;have hR4:=hR3.on hb4;have hg4:=ag hg3 hb4;have HVR:=ae (dv hR4);obtain⟨V,hV⟩:∃V,D.bs.length=V:=⟨_,rfl⟩;obtain⟨NW,hNW⟩:∃NW,D.now=NW:=⟨_,rfl⟩;obtain⟨WT,hWT⟩:∃WT,D.wt=WT:=⟨_,rfl⟩;obtain⟨N,hN⟩:∃N,D.rq.length=N:=⟨_,rfl⟩;rw[hV] at HVR hVm;rw[hNW] at hnb;rw[hWT] at hwb;rw[hN] at hrl hWN ⊢
 have hnw:IntKind.i64.wrap ((NW:Int)+(WT:Int))=(NW:Int)+(WT:Int):=bG _ (by omega)
 have d5:w4.cell? ⟨fb,5,none⟩=some (.pointer (some ⟨X.sb,0,none⟩)):=aF.c hS4.blk 5 rfl
 have d6:w4.cell? ⟨fb,6,none⟩=some (.int .i64 (NW:Int)):=by rw[<-hNW,<-aa HNW]; exact aF.c hS4.blk 6 rfl
 have d2:w4.cell? ⟨fb,2,none⟩=some (.int .i64 (WT:Int)):=by rw[<-hWT,<-aa HWT]; exact aF.c hS4.blk 2 rfl
 have c94:w4.cell? ⟨fb,9,none⟩=some (.slice ra N rc):=by rw[<-hN,<-aa HRV]; exact aF.c hS4.blk 9 rfl
 have hat:=aZ rRq 158 w4 ⟨⟨l,z,x,y⟩,(V:Nat),(NW:Int)+(WT:Int),true⟩ (Rq.a ⟨⟨l,z,x,y⟩,(V:Nat),(NW:Int)+(WT:Int),true⟩) rfl;have hbB:=aj w4 (.cells (Rq.a ⟨⟨l,z,x,y⟩,(V:Nat),(NW:Int)+(WT:Int),true⟩) 158);obtain⟨w4A,hw4A⟩:∃w4A,w4.alloc (.cells (Rq.a ⟨⟨l,z,x,y⟩,(V:Nat),(NW:Int)+(WT:Int),true⟩) 158)=w4A:=⟨_,rfl⟩;have hSA4:=hS4.on hbB
 obtain⟨v5,w5,r1,r2,r3,r4⟩:=apRq hSA4.mem.rq hat (by simp only[List.length_singleton]; omega)
 obtain⟨xa,xn,xc,rfl⟩:=r2.slc
 obtain⟨c9w,fz9,hS6⟩:=hS4.addR r2 r3 (by
  rcases r4 with r4|r4
  ·exact Or.inl r4
  exact Or.inr fun g hg=>by have q:=r4 g hg; simp at q; omega)
 obtain⟨w6,hw6⟩:∃w6,w5.setCell ⟨fb,9,none⟩ (.slice xa xn xc)=w6:=⟨_,rfl⟩;rw[aa HRV,hN] at r1 c9w;rw[hw4A] at r1 r3 hbB;rw[hw6] at hS6
 have hxn:xn=N+1:=by
  obtain⟨oa,cap,e,_⟩:=r2.at;rw[List.length_append,List.length_singleton,hN] at e
  cases e; rfl
 subst hxn;have hgA:w4A.heap[g9]?=some (.cells #[l,z,x,y] 39):=ag hg4 hbB
 have hg5:w5.heap[g9]?=some (.cells #[l,z,x,y] 39):=by
  rw[r3.block g9 (an hgA) (fun q=>au hS4.mem.rq hg4 (by decide) g9 q.symm rfl)]; exact hgA
 have hg6:w6.heap[g9]?=some (.cells #[l,z,x,y] 39):=by
  rw[<-hw6,Below.heap_setCell _ _ _ _ (by show g9≠fb; exact(aI hg4 hS4.blk (by decide)))]; exact hg5
 have hbk5:∀i,w5.cell? ⟨fb,i,none⟩=w4.cell? ⟨fb,i,none⟩:=fun i=>World.cell?_of_block (a:=⟨fb,i,none⟩) (by
  rw[r3.block fb (by have:=an hS4.blk; have:=hbB.size; omega) (fun q=>au hS4.mem.rq hS4.blk (by decide) fb q.symm rfl)]
  rw[<-hw4A]; exact heap_alloc_old w4 _ (an hS4.blk))
 have hbkA:∀i,w4A.cell? ⟨fb,i,none⟩=w4.cell? ⟨fb,i,none⟩:=fun i=>hbB.cell (p:=⟨fb,i,none⟩) (an hS4.blk);have c9A:w4A.cell? ⟨fb,9,none⟩=some (.slice ra N rc):=(hbkA 9).trans c94;have hS:w4.heap[g9]?=some (.cells #[l,z,x,y] 39)/\w4.cell? ⟨fb,5,none⟩=some (.pointer (some ⟨X.sb,0,none⟩))/\w4.cell? ⟨fb,6,none⟩=some (.int .i64 (NW:Int))/\w4.cell? ⟨fb,2,none⟩=some (.int .i64 (WT:Int)):=⟨hg4,d5,d6,d2⟩;have hSA:w4A.heap[g9]?=some (.cells #[l,z,x,y] 39)/\w4A.cell? ⟨fb,5,none⟩=some (.pointer (some ⟨X.sb,0,none⟩))/\w4A.cell? ⟨fb,6,none⟩=some (.int .i64 (NW:Int))/\w4A.cell? ⟨fb,2,none⟩=some (.int .i64 (WT:Int)):=⟨hgA,(hbkA 5).trans d5,(hbkA 6).trans d6,(hbkA 2).trans d2⟩;have hS5:w5.heap[g9]?=some (.cells #[l,z,x,y] 39)/\w5.cell? ⟨fb,5,none⟩=some (.pointer (some ⟨X.sb,0,none⟩))/\w5.cell? ⟨fb,6,none⟩=some (.int .i64 (NW:Int))/\w5.cell? ⟨fb,2,none⟩=some (.int .i64 (WT:Int)):=⟨hg5,(hbk5 5).trans d5,(hbk5 6).trans d6,(hbk5 2).trans d2⟩
 have hS6':w6.heap[g9]?=some (.cells #[l,z,x,y] 39)/\w6.cell? ⟨fb,5,none⟩=some (.pointer (some ⟨X.sb,0,none⟩))/\w6.cell? ⟨fb,6,none⟩=some (.int .i64 (NW:Int))/\w6.cell? ⟨fb,2,none⟩=some (.int .i64 (WT:Int)):=⟨hg6,aF.c hS6.blk 5 rfl,by rw[<-hNW,<-aa HNW]; exact aF.c hS6.blk 6 rfl,by rw[<-hWT,<-aa HWT]; exact aF.c hS6.blk 2 rfl⟩
 have HS6:=ae hS6;have HG6:=ae hg6;have HFRK:=ae (show ∀k,k<w3.heap.size->True from fun _ _=>trivial);have HV:=ae hV;have HNWE:=ae hNW;have HWTE:=ae hWT;have HNE:=ae hN;have HR6:Hid (eV w6 X.sb keep bv pv SL D.bs PI):=hS6.rst (aa HF) (aa HM) (aa HR);have hS6:=hS6';clear hS6' HFRK hg6 hg5 hgA hbk5 hbkA hSA4 hat r2 r3 r4 hS4 hR4 hb4 hS3 hR3 hg3 hbB hV hNW hWT hN d5 d6 d2
 go_wp2_with fail
 apply cutT
 ·intro HT
  refine wp_region_held (S:=fun w'=>w'.heap[g9]?=some (.cells #[l,z,x,y] 39)/\w'.cell? ⟨fb,5,none⟩=some (.pointer (some ⟨X.sb,0,none⟩))/\w'.cell? ⟨fb,6,none⟩=some (.int .i64 (NW:Int))/\w'.cell? ⟨fb,2,none⟩=some (.int .i64 (WT:Int))) (by kernel_rfl) ?_
  change wpAnyH _ _ _ _ _ _ _ _ (World.drew _);rw[hw4];refine am 0 rfl fb 0 hS ?_;refine am 1 rfl fb 0 hS ?_;refine am 2 rfl fb 0 hS ?_;refine am 3 rfl fb 9 hS ?_;refine aH 5 rfl (.agg #[l,z,x,y]) hS ?_ (hy:=fun w' hw'=>jT _ _ _ 39 rfl _ rfl _ underlying39 rfl (bj _ _ _ _) g9 0 rfl _ (ao hw'.1));refine am 6 rfl fb 0 hS ?_;refine am 7 rfl fb 0 hS ?_;refine am 8 rfl fb 5 hS ?_
  refine am 9 rfl X.sb 0 hS ?_ (hy:=fun w' hw'=>by simp[go_sem,hw'.2.1])
  refine am 11 rfl fb 0 hS ?_;refine am 12 rfl fb 0 hS ?_;refine am 13 rfl fb 6 hS ?_
  refine aH 14 rfl (.int .i64 (NW:Int)) hS ?_ (hy:=fun w' hw'=>by simp[go_sem,hw'.2.2.1])
  refine am 15 rfl fb 0 hS ?_;refine am 16 rfl fb 0 hS ?_;refine am 17 rfl fb 0 hS ?_;refine am 18 rfl fb 2 hS ?_
  refine aH 19 rfl (.int .i64 (WT:Int)) hS ?_ (hy:=fun w' hw'=>by simp[go_sem,hw'.2.2.2])
  refine aH 20 rfl (.int .i64 ((NW:Int)+(WT:Int))) hS ?_ (hy:=fun w' hw'=>by simp[go_sem,hnw])
  refine wpAnyH_all (rs:=[4,10]) (by kernel_rfl) (by simp) ?_
  intro i hi;simp only[List.mem_cons,List.not_mem_nil,or_false] at hi
  rcases hi with rfl|rfl
  ·refine bI 4 rfl rfl (.slice ra N rc) (w4) (by simp[go_sem,c94]) (hS) ?_
   simp only[qZ];refine aV 10 ?_
   refine ow 10 rfl rfl 56 #[.pointer (some ⟨X.sb,0,none⟩)] (by simp[go_sem]) (.int .i64 (V:Nat)) (aa HVR) hS ?_
   simp only[qZ];refine aH 21 rfl (.agg (Rq.a ⟨⟨l,z,x,y⟩,(V:Nat),(NW:Int)+(WT:Int),true⟩)) hS ?_ (hy:=fun w' hw'=>bRq _ _ _ _ _ _ _ _ _ _ _ _ rfl rfl rfl rfl rfl w');refine aV 22 ?_
   refine bI 22 rfl rfl (.slice (some ⟨w4.heap.size,0,none⟩) 1 1) (w4A) (by rw[<-hw4A]; exact bsRq ⟨⟨l,z,x,y⟩,(V:Nat),(NW:Int)+(WT:Int),true⟩ _ _ _ rfl rfl w4) (hSA) ?_
   simp only[qZ];refine aV 23 ?_;refine bI 23 rfl rfl (.slice xa (N+1) xc) (w5) (exR 131 r1 _ _ _ _ rfl rfl rfl rfl) (hS5) ?_;simp only[qZ];refine am 24 rfl fb 0 hS5 ?_;refine am 25 rfl fb 9 hS5 ?_;refine aV 26 ?_
   refine cL 26 rfl rfl (w6) (stS1 _ _ _ _ 131 rfl (fun _=>by simp[go_sem]) fb 9 xa (N+1) xc rfl rfl w5 w6 c9w fz9 hw6) (hS6) ?_
   simp only[Act.put]
   refine wpAnyH_done (by kernel_rfl) ?_ _
   exact HT
  refine ow 10 rfl rfl 56 #[.pointer (some ⟨X.sb,0,none⟩)] (by simp[go_sem]) (.int .i64 (V:Nat)) (aa HVR) hS ?_
  simp only[qZ];refine aH 21 rfl (.agg (Rq.a ⟨⟨l,z,x,y⟩,(V:Nat),(NW:Int)+(WT:Int),true⟩)) hS ?_ (hy:=fun w' hw'=>bRq _ _ _ _ _ _ _ _ _ _ _ _ rfl rfl rfl rfl rfl w')
  refine wpAnyH_all (rs:=[4,22]) (by kernel_rfl) (by simp) ?_
  intro i hi;simp only[List.mem_cons,List.not_mem_nil,or_false] at hi
  rcases hi with rfl|rfl
  focus
   refine bI 4 rfl rfl (.slice ra N rc) (w4) (by simp[go_sem,c94]) (hS) ?_
   simp only[qZ];refine aV 22 ?_
   refine bI 22 rfl rfl (.slice (some ⟨w4.heap.size,0,none⟩) 1 1) (w4A) (by rw[<-hw4A]; exact bsRq ⟨⟨l,z,x,y⟩,(V:Nat),(NW:Int)+(WT:Int),true⟩ _ _ _ rfl rfl w4) (hSA) ?_
  rotate_left
  focus
   refine bI 22 rfl rfl (.slice (some ⟨w4.heap.size,0,none⟩) 1 1) (w4A) (by rw[<-hw4A]; exact bsRq ⟨⟨l,z,x,y⟩,(V:Nat),(NW:Int)+(WT:Int),true⟩ _ _ _ rfl rfl w4) (hSA) ?_
   simp only[qZ];refine aV 4 ?_
   refine bI 4 rfl rfl (.slice ra N rc) (w4A) (by simp[go_sem,c9A]) (hSA) ?_
  all_goals
   simp only[qZ];refine aV 23 ?_;refine bI 23 rfl rfl (.slice xa (N+1) xc) (w5) (exR 131 r1 _ _ _ _ rfl rfl rfl rfl) (hS5) ?_;simp only[qZ];refine am 24 rfl fb 0 hS5 ?_;refine am 25 rfl fb 9 hS5 ?_;refine aV 26 ?_
   refine cL 26 rfl rfl (w6) (stS1 _ _ _ _ 131 rfl (fun _=>by simp[go_sem]) fb 9 xa (N+1) xc rfl rfl w5 w6 c9w fz9 hw6) (hS6) ?_
   simp only[Act.put]
   refine wpAnyH_done (by kernel_rfl) ?_ _
   exact HT
 clear hS hSA hS5 hS6 c94 c9A c9w fz9 r1 hw4 hw6 hw4A
 by_cases he1:er=1
 ·subst he1
  have HQ1:Hid (ArP w fb X D ⟨l,z,x,y⟩ (1) tag (.returned (.tuple #[.int .i64 (N:Nat),.slice (some ⟨w6.heap.size,0,none⟩) 1 1])) (w6.alloc (.cells #[.int .i64 (N:Nat),(400:Int),.string ⟨#[]⟩,.string ⟨#[]⟩] 103))):=by
   have q:=ArP.one (w:=w) (w1:=w6) (fb:=fb) (X:=X) (D:=D) (k:=⟨l,z,x,y⟩) (er:=1) (tag:=tag) (rv':=.slice xa (N+1) xc) (jv':=X.jv) (ev':=X.ev) (D':={ D with rq:=D.rq++[⟨⟨l,z,x,y⟩,(V:Nat),(NW:Int)+(WT:Int),true⟩] }) (s:=400) (B:=⟨#[]⟩) (T:=⟨#[]⟩) (by rw[RV.eqR X _ _ (aa HCT)]; exact aa HS6) (by
    unfold DF.arrive;dsimp only;rw[if_pos rfl,aa HV,aa HNWE,aa HWTE]
    )
   rw[aa HNE] at q;exact q
  go_wp2_with (refine cP _ _ (gz (N:Nat) 400 ⟨#[]⟩ ⟨#[]⟩ _ _ _ rfl rfl _) rfl ?_)
  go_ret2
  exact aa HQ1
 have he1b:(er==1)=false:=by simpa using he1
 by_cases he0:er=0
 ·subst he0
  clear he1 he1b;have hk:=aa HKK rfl;have hS6:=aa HS6;have hR6:=aa HR6;have hF5:∀W,Below w6.heap.size w6 W->W.cell? ⟨fb,5,none⟩=some (.pointer (some ⟨X.sb,0,none⟩)):=fun W hW=>aF.c (ag hS6.blk hW) 5 rfl;have hKy:∀W,Below w6.heap.size w6 W->W.rangeAt g9 0 #[.int .i64 l,.int .i64 z,.int .i64 x,.int .i64 y].toList:=fun W hW=>ao (ag (aa HG6) hW)
  have VR:∀W,Below w6.heap.size w6 W->Calls prog 56 #[.pointer (some ⟨X.sb,0,none⟩)] W fun e w'=>e=.returned (.int .i64 (V:Nat))/\Below W.heap.size W w':=fun W hW=>(dv (hR6.on hW)).mono fun e w' h=>⟨by rw[h.1,aa HV],h.2▸Below.refl _ _⟩
  have TG:∀W,Below w6.heap.size w6 W->Calls prog 86 #[.pointer (some ⟨fb,0,none⟩),.int .i64 (V:Nat),.agg #[l,z,x,y]] W fun e w'=>e=.returned (.string (du ⟨l,z,x,y⟩ (fB D.bs V ⟨l,z,x,y⟩)))/\Below W.heap.size W w':=fun W hW=>by
   have q:=kX D.bs.length l z x y (ag hS6.blk hW) (hR6.on hW) (aa HB) aD hk;rw[aa HV] at q;exact q
  obtain⟨T,hT⟩:∃T,du ⟨l,z,x,y⟩ (fB D.bs V ⟨l,z,x,y⟩)=T:=⟨_,rfl⟩;rw[hT] at TG;have HTT:=ae hT;clear hT hS6 hR6
  go_wp2_with fail
  refine aM (by kernel_rfl) (by kernel_rfl) ?_
  refine eI fb 0 ?_;refine eI fb 0 ?_;refine bd fb 0 ?_;refine bd fb 5 ?_
  refine bd X.sb 0 ?_ (h:=fun w' hw'=>by simp[go_sem,hF5 w' hw'])
  refine eB rfl 56 (#[.pointer (some ⟨X.sb,0,none⟩)]) (fun _=>by simp[go_sem]) (.int .i64 (V:Nat)) (VR) ?_
  simp only[qZ];refine aR rfl 39 _ rfl (g9) (0) rfl (#[l,z,x,y]) _ underlying39 rfl (bj _ _ _ _) (hKy) ?_;simp only[qZ]
  refine eB rfl 86 (#[.pointer (some ⟨fb,0,none⟩),.int .i64 (V:Nat),.agg #[l,z,x,y]]) (fun _=>by simp[go_sem]) (.string T) (TG) ?_
  simp only[qZ];refine bF rfl _ rfl (.string T) rfl ?_;simp only[qZ];refine wpQuiet_nil ?_;intro w7 hb7;have hS7:=(aa HS6).on hb7;have hg7:=ag (aa HG6) hb7;have HS7:=ae hS7;have HG7:=ae hg7;clear hF5 hKy VR TG
  have hAR:D.arrive ⟨l,z,x,y⟩ 0 tag=(if T=tag then ({ D with rq:=D.rq++[⟨⟨l,z,x,y⟩,(V:Nat),(NW:Int)+(WT:Int),true⟩] },[⟨(D.rq.length:Nat),304,⟨#[]⟩,T⟩]) else match dB D.en ⟨l,z,x,y⟩ with
    | some i=>match D.en[i]? with
     | some n=>({ D with rq:=D.rq++[⟨⟨l,z,x,y⟩,(V:Nat),(NW:Int)+(WT:Int),true⟩],ct:=D.ct+1,en:=D.en.set i { n with use:=(D.ct:Int)+1 } },[⟨(D.rq.length:Nat),200,n.body,n.tag⟩])
     | none=>({ D with rq:=D.rq++[⟨⟨l,z,x,y⟩,(V:Nat),(NW:Int)+(WT:Int),true⟩] },[])
    | none=>
     if WN=D.q then ({ D with rq:=D.rq++[⟨⟨l,z,x,y⟩,(V:Nat),(NW:Int)+(WT:Int),true⟩] },[⟨(D.rq.length:Nat),503,⟨#[]⟩,⟨#[]⟩⟩])
     else match o7 D.jb (K4.blk ⟨l,z,x,y⟩) with
      | some _=>({ D with rq:=D.rq++[⟨⟨l,z,x,y⟩,(V:Nat),(NW:Int)+(WT:Int),false⟩] },[])
      | none=>({ D with rq:=D.rq++[⟨⟨l,z,x,y⟩,(V:Nat),(NW:Int)+(WT:Int),false⟩],ct:=D.ct+1,jb:=D.jb++[⟨K4.blk ⟨l,z,x,y⟩,-1,(D.ct:Int)+1,0,0⟩] },[])):=by
   unfold DF.arrive;dsimp only
   rw[if_neg (show ¬(0:Int)=1 by decide),if_neg (show ¬(0:Int)≠0 by decide),aa HV,aa HNWE,aa HWTE,aa HTT,aa HWN]
   rfl
  by_cases htg:T=tag
  ·subst htg
   rw[if_pos rfl] at hAR
   have HQ1:Hid (ArP w fb X D ⟨l,z,x,y⟩ (0) T (.returned (.tuple #[.int .i64 (N:Nat),.slice (some ⟨w7.heap.size,0,none⟩) 1 1])) (w7.alloc (.cells #[.int .i64 (N:Nat),(304:Int),.string ⟨#[]⟩,T] 103))):=by
    have q:=ArP.one (w:=w) (w1:=w7) (fb:=fb) (X:=X) (D:=D) (k:=⟨l,z,x,y⟩) (er:=0) (tag:=T) (rv':=.slice xa (N+1) xc) (jv':=X.jv) (ev':=X.ev) (D':={ D with rq:=D.rq++[⟨⟨l,z,x,y⟩,(V:Nat),(NW:Int)+(WT:Int),true⟩] }) (s:=304) (B:=⟨#[]⟩) (T:=T) (by rw[RV.eqR X _ _ (aa HCT)]; exact hS7) (by
     exact hAR
     )
    rw[aa HNE] at q;exact q
   clear hAR hS7 hg7 hb7
   go_wp2_with (first|refine cP _ _ (bt304 (N:Nat) 304 T _ _ _ _ _ rfl rfl rfl rfl _) rfl ?_|refine cP _ _ (gz (N:Nat) 304 ⟨#[]⟩ T _ _ _ rfl rfl _) rfl ?_)
   go_ret2
   exact aa HQ1
  have hsne:(T.toList==tag.toList)=false:=by rw[beq_eq_false_iff_ne]; exact fun q=>htg (bytes_eq q)
  rw[if_neg htg] at hAR;have HAR:=ae hAR
  have EN:=nO fb _ D.en l z x y w7 hS7.blk hS7.mem.en.at (by omega)
  have hrow7:=ao hg7;clear hAR hS7 hg7 hb7 htg
  go_wp2_with (refine bU 39 #[l,z,x,y] underlying39 rfl (bj _ _ _ _) g9 0 hrow7 rfl _ rfl rfl ?_)
  refine EN.mono ?_;rintro e w8 ⟨rfl,hb8⟩;have hS8:=(aa HS7).on hb8;have hg8:=ag (aa HG7) hb8;clear EN hrow7 HS7 HG7 hb8
  cases hE:dB D.en ⟨l,z,x,y⟩ with
  | some i=>
   dsimp only[m5]
   obtain⟨⟨ek,eb,et,eu⟩,hei⟩:∃t,D.en[i]?=some t:=by
    unfold dB at hE;rw[List.findIdx?_eq_some_iff_getElem] at hE;obtain⟨hi,_,_⟩:=hE;exact⟨_,List.getElem?_eq_getElem hi⟩
   have hil:i<D.en.length:=(List.getElem?_eq_some_iff.1 hei).1
   have hiL:(i:Int)<D.en.length:=by omega
   have hi0:(0:Int)<=(i:Int):=by omega
   have hAR:=aa HAR;rw[hE] at hAR;dsimp only at hAR;rw[hei] at hAR;dsimp only at hAR
   obtain⟨b,off,cap,hev⟩:=hS8.mem.en.blkAt (by omega)
   obtain⟨C,hC⟩:∃C,D.ct=C:=⟨_,rfl⟩;rw[hC] at hAR hcb
   have c7:w8.cell? ⟨fb,7,none⟩=some (.int .i64 (C:Int)):=by rw[<-hC,<-aa HCT]; exact aF.c hS8.blk 7 rfl
   have fz7:=kr hS8.blk 7
   have hcw:IntKind.i64.wrap ((C:Int)+1)=(C:Int)+1:=bG _ (by omega)
   have hS9:=hS8.trans (hS8.mem.ct hS8.blk ((C:Int)+1));obtain⟨w9,hw9⟩:∃w9,w8.setCell ⟨fb,7,none⟩ (.int .i64 ((C:Int)+1))=w9:=⟨_,rfl⟩;rw[hw9] at hS9;obtain⟨wa,hwa⟩:∃wa,World.drew w9=wa:=⟨_,rfl⟩;have hba:Below w9.heap.size w9 wa:=hwa▸Below.drew bu;have hSa:=hS9.on hba
   have c11:wa.cell? ⟨fb,11,none⟩=some (.slice (some ⟨b,off,none⟩) D.en.length cap):=by rw[<-hev]; exact aF.c hSa.blk 11 rfl
   have c7a:wa.cell? ⟨fb,7,none⟩=some (.int .i64 ((C:Int)+1)):=aF.c hSa.blk 7 rfl;obtain⟨m1,m2,m3⟩:=hSa.eset hev hei ((C:Int)+1);obtain⟨wb,hwb⟩:∃wb,wa.setCell ⟨b,off+i*7+6,none⟩ (.int .i64 ((C:Int)+1))=wb:=⟨_,rfl⟩;rw[hwb] at m3
   have c11b:wb.cell? ⟨fb,11,none⟩=some (.slice (some ⟨b,off,none⟩) D.en.length cap):=by rw[<-hev]; exact aF.c m3.blk 11 rfl
   have c7b:wb.cell? ⟨fb,7,none⟩=some (.int .i64 ((C:Int)+1)):=aF.c m3.blk 7 rfl;obtain⟨wc,hwc⟩:∃wc,World.drew wb=wc:=⟨_,rfl⟩;have hbc:Below wb.heap.size wb wc:=hwc▸Below.drew bu;have hSc:=m3.on hbc
   have c11c:wc.cell? ⟨fb,11,none⟩=some (.slice (some ⟨b,off,none⟩) D.en.length cap):=by rw[<-hev]; exact aF.c hSc.blk 11 rfl
   have hoc:=hSc.mem.en;rw[show({ X with rv:=.slice xa (N+1) xc,ct:=(C:Int)+1 }:RV).ev=.slice (some ⟨b,off,none⟩) D.en.length cap from hev] at hoc;have hec:(D.en.set i ⟨ek,eb,et,(C:Int)+1⟩)[i]?=some ⟨ek,eb,et,(C:Int)+1⟩:=List.getElem?_set_self hil;have b4:wc.cell? ⟨b,off+i*7+4,none⟩=some (.string eb):=(hoc.cellF hec (j:=4) (u:=.string eb) rfl).1;have b5:wc.cell? ⟨b,off+i*7+5,none⟩=some (.string et):=(hoc.cellF hec (j:=5) (u:=.string et) rfl).1
   have HQ1:Hid (ArP w fb X D ⟨l,z,x,y⟩ 0 tag (.returned (.tuple #[.int .i64 (N:Nat),.slice (some ⟨wc.heap.size,0,none⟩) 1 1])) (wc.alloc (.cells #[.int .i64 (N:Nat),(200:Int),eb,et] 103))):=by
    have q:=ArP.one (w:=w) (w1:=wc) (fb:=fb) (X:=X) (D:=D) (k:=⟨l,z,x,y⟩) (er:=0) (tag:=tag) (rv':=.slice xa (N+1) xc) (jv':=X.jv) (ev':=X.ev) (s:=200) (B:=eb) (T:=et) (D':={ D with rq:=D.rq++[⟨⟨l,z,x,y⟩,(V:Nat),(NW:Int)+(WT:Int),true⟩],ct:=C+1,en:=D.en.set i ⟨ek,eb,et,(C:Int)+1⟩ }) hSc hAR;rw[aa HNE] at q;exact q
   have HW9:=ae hw9;have hSS:wc.cell? ⟨fb,11,none⟩=some (.slice (some ⟨b,off,none⟩) D.en.length cap)/\wc.cell? ⟨b,off+i*7+4,none⟩=some (.string eb)/\wc.cell? ⟨b,off+i*7+5,none⟩=some (.string et):=⟨c11c,b4,b5⟩;have hbd:=aj wc (.cells #[.int .i64 (N:Nat),(200:Int),eb,et] 103);have hbl:b<wc.heap.size:=hoc.lt rfl;have hfc:fb<wc.heap.size:=an hSc.blk;have hSD:(wc.alloc (.cells #[.int .i64 (N:Nat),(200:Int),eb,et] 103)).cell? ⟨fb,11,none⟩=some (.slice (some ⟨b,off,none⟩) D.en.length cap)/\(wc.alloc (.cells #[.int .i64 (N:Nat),(200:Int),eb,et] 103)).cell? ⟨b,off+i*7+4,none⟩=some (.string eb)/\(wc.alloc (.cells #[.int .i64 (N:Nat),(200:Int),eb,et] 103)).cell? ⟨b,off+i*7+5,none⟩=some (.string et):=⟨(hbd.cell (p:=⟨fb,11,none⟩) hfc).trans c11c,(hbd.cell (p:=⟨b,off+i*7+4,none⟩) hbl).trans b4,(hbd.cell (p:=⟨b,off+i*7+5,none⟩) hbl).trans b5⟩;clear hAR HAR hS8 hg8 hS9 hba hSa m3 hbc hSc hoc hec hC hE hbd hei HS6 HG6 HR6
   go_wp2_with (refine cU w9 (kO _ _ _ _ rfl fb 7 ((C:Int)+1) rfl (by simp[go_sem]) w8 w9 c7 fz7 (aa HW9)) rfl ?_)
   refine wp_region_held (S:=fun w'=>w'.cell? ⟨fb,11,none⟩=some (.slice (some ⟨b,off,none⟩) D.en.length cap)/\w'.cell? ⟨fb,7,none⟩=some (.int .i64 ((C:Int)+1))) (by kernel_rfl) ?_
   change wpAnyH _ _ _ _ _ _ _ _ (World.drew _);rw[hwa];have hS:wa.cell? ⟨fb,11,none⟩=some (.slice (some ⟨b,off,none⟩) D.en.length cap)/\wa.cell? ⟨fb,7,none⟩=some (.int .i64 ((C:Int)+1)):=⟨c11,c7a⟩;have hSB:wb.cell? ⟨fb,11,none⟩=some (.slice (some ⟨b,off,none⟩) D.en.length cap)/\wb.cell? ⟨fb,7,none⟩=some (.int .i64 ((C:Int)+1)):=⟨c11b,c7b⟩;refine am 0 rfl fb 0 hS ?_;refine am 1 rfl fb 0 hS ?_;refine am 2 rfl fb 11 hS ?_
   refine aH 3 rfl (.slice (some ⟨b,off,none⟩) D.en.length cap) hS ?_ (hy:=fun w' hw'=>by simp[go_sem,hw'.1])
   refine aH 4 rfl (.int .i64 i) hS ?_;refine am 5 rfl fb 0 hS ?_;refine am 6 rfl fb 0 hS ?_;refine am 7 rfl fb 7 hS ?_
   refine aH 8 rfl (.int .i64 ((C:Int)+1)) hS ?_ (hy:=fun w' hw'=>by simp[go_sem,hw'.2])
   refine am 9 rfl b (off+i*7) hS ?_ (hy:=fun w' hw'=>by simp[go_sem,hiL])
   refine am 10 rfl b (off+i*7+6) hS ?_
   refine wpAnyH_all (rs:=[11]) (by kernel_rfl) (by simp) ?_
   intro ii hii;simp only[List.mem_singleton] at hii;subst hii;refine cL 11 rfl rfl (wb) (kO _ _ _ _ rfl b (off+i*7+6) ((C:Int)+1) rfl rfl wa wb m1 m2 hwb) (hSB) ?_;simp only[Act.put]
   refine wpAnyH_done (by kernel_rfl) ?_ _
   clear hS hSB m1 m2 c11 c7a c11b c7b c7 fz7 hwa hwb
   go_wp2_with fail
   refine wp_region_held (S:=fun w'=>w'.cell? ⟨fb,11,none⟩=some (.slice (some ⟨b,off,none⟩) D.en.length cap)/\w'.cell? ⟨b,off+i*7+4,none⟩=some (.string eb)/\w'.cell? ⟨b,off+i*7+5,none⟩=some (.string et)) (by kernel_rfl) ?_
   change wpAnyH _ _ _ _ _ _ _ _ (World.drew _);rw[hwc];refine aH 0 rfl (.int .i64 (N:Nat)) hSS ?_;refine aH 1 rfl (.int .i64 (N:Nat)) hSS ?_;refine am 2 rfl fb 0 hSS ?_;refine am 3 rfl fb 0 hSS ?_;refine am 4 rfl fb 11 hSS ?_
   refine aH 5 rfl (.slice (some ⟨b,off,none⟩) D.en.length cap) hSS ?_ (hy:=fun w' hw'=>by simp[go_sem,hw'.1])
   refine aH 6 rfl (.int .i64 i) hSS ?_
   refine am 7 rfl b (off+i*7) hSS ?_ (hy:=fun w' hw'=>by simp[go_sem,hiL])
   refine am 8 rfl b (off+i*7+4) hSS ?_
   refine aH 9 rfl (.string eb) hSS ?_ (hy:=fun w' hw'=>by simp[go_sem,hw'.2.1])
   refine am 10 rfl fb 0 hSS ?_;refine am 11 rfl fb 0 hSS ?_;refine am 12 rfl fb 11 hSS ?_
   refine aH 13 rfl (.slice (some ⟨b,off,none⟩) D.en.length cap) hSS ?_ (hy:=fun w' hw'=>by simp[go_sem,hw'.1])
   refine aH 14 rfl (.int .i64 i) hSS ?_
   refine am 15 rfl b (off+i*7) hSS ?_ (hy:=fun w' hw'=>by simp[go_sem,hiL])
   refine am 16 rfl b (off+i*7+5) hSS ?_
   refine aH 17 rfl (.string et) hSS ?_ (hy:=fun w' hw'=>by simp[go_sem,hw'.2.2])
   refine aH 18 rfl (.agg #[.int .i64 (N:Nat),(200:Int),eb,et]) hSS ?_ (hy:=fun w' hw'=>bt200 (N:Nat) 200 eb et _ _ _ _ _ _ rfl rfl rfl rfl rfl w');refine aH 20 rfl (.int .i64 (N:Nat)) hSS ?_
   refine wpAnyH_all (rs:=[19]) (by kernel_rfl) (by simp) ?_
   intro ii hii;simp only[List.mem_singleton] at hii;subst hii;refine bI 19 rfl rfl (.slice (some ⟨wc.heap.size,0,none⟩) 1 1) (wc.alloc (.cells #[.int .i64 (N:Nat),(200:Int),eb,et] 103)) (gz (N:Nat) 200 eb et _ _ _ rfl rfl wc) (hSD) ?_;simp only[qZ];refine aH 21 rfl (.slice (some ⟨wc.heap.size,0,none⟩) 1 1) hSD ?_
   refine wpAnyH_done (by kernel_rfl) ?_ _
   clear hSS hSD b4 b5 c11c hwc
   go_wp2_with fail
   go_ret2
   exact aa HQ1
  | none=>
   dsimp only[m5];have hAR:=aa HAR;rw[hE] at hAR;dsimp only at hAR
   have hi1:¬(0:Int)<=-1:=by omega
   have c0:w8.cell? ⟨fb,0,none⟩=some (.int .i64 (D.q:Int)):=by rw[<-aa HQ]; exact aF.c hS8.blk 0 rfl
   obtain⟨QQ,hQQ⟩:∃QQ,D.q=QQ:=⟨_,rfl⟩;rw[hQQ] at c0
   by_cases hwq:WN=QQ
   ·subst hwq
    rw[if_pos hQQ.symm] at hAR
    have HQ1:Hid (ArP w fb X D ⟨l,z,x,y⟩ (0) tag (.returned (.tuple #[.int .i64 (N:Nat),.slice (some ⟨w8.heap.size,0,none⟩) 1 1])) (w8.alloc (.cells #[.int .i64 (N:Nat),(503:Int),.string ⟨#[]⟩,.string ⟨#[]⟩] 103))):=by
     have q:=ArP.one (w:=w) (w1:=w8) (fb:=fb) (X:=X) (D:=D) (k:=⟨l,z,x,y⟩) (er:=0) (tag:=tag) (rv':=.slice xa (N+1) xc) (jv':=X.jv) (ev':=X.ev) (D':={ D with rq:=D.rq++[⟨⟨l,z,x,y⟩,(V:Nat),(NW:Int)+(WT:Int),true⟩] }) (s:=503) (B:=⟨#[]⟩) (T:=⟨#[]⟩) (by rw[RV.eqR X _ _ (aa HCT)]; exact hS8) (by
      exact hAR
      )
     rw[aa HNE] at q;exact q
    clear hAR HAR hS8 hg8 hQQ hE
    go_wp2_with (refine cP _ _ (gz (N:Nat) 503 ⟨#[]⟩ ⟨#[]⟩ _ _ _ rfl rfl _) rfl ?_)
    go_ret2
    exact aa HQ1
   have hwqb:((WN:Int)==(QQ:Int))=false:=by simp; omega
   have hwqn:¬(WN:Int)=(QQ:Int):=by omega
   rw[if_neg (fun q=>hwq (q.trans hQQ))] at hAR
   obtain⟨b,off,cap,hrv8⟩:=hS8.mem.rq.blkAt (by simp)
   rw[List.length_append,List.length_singleton,aa HNE] at hrv8
   have hrk:(D.rq++[⟨⟨l,z,x,y⟩,(V:Nat),(NW:Int)+(WT:Int),true⟩])[N]?=some ⟨⟨l,z,x,y⟩,(V:Nat),(NW:Int)+(WT:Int),true⟩:=by rw[<-aa HNE]; simp
   obtain⟨m1,m2,m3,m4⟩:=hS8.mark hrv8 hrk false
   have c9:w8.cell? ⟨fb,9,none⟩=some (.slice (some ⟨b,off,none⟩) (N+1) cap):=by rw[<-hrv8]; exact aF.c hS8.blk 9 rfl
   have hNl:(N:Int)<((N+1:Nat):Int):=by omega
   obtain⟨w9,hw9⟩:∃w9,w8.setCell ⟨b,off+N*7+6,none⟩ (.bool false)=w9:=⟨_,rfl⟩;rw[hw9] at m3 m4
   have hset:(D.rq++[(⟨⟨l,z,x,y⟩,(V:Nat),(NW:Int)+(WT:Int),true⟩:Rq)]).set N (⟨⟨l,z,x,y⟩,(V:Nat),(NW:Int)+(WT:Int),false⟩:Rq)=D.rq++[⟨⟨l,z,x,y⟩,(V:Nat),(NW:Int)+(WT:Int),false⟩]:=by rw[<-aa HNE]; simp
   rw[hset] at m3
   have hg9:w9.heap[g9]?=some (.cells #[l,z,x,y] 39):=aQ hg8 m4 (by
    intro q;have ho:=hS8.mem.rq;rw[hrv8] at ho
    exact au ho hg8 (by decide) b rfl q.symm)
   have hrow9:=ao hg9;obtain⟨⟨hx1,hx2⟩,⟨hy1,hy2⟩⟩:=aa HXY;dsimp only at hx1 hx2 hy1 hy2;have BL:=kB l z x y w9 ⟨hx1,hx2⟩ ⟨hy1,hy2⟩;have HS9:=ae m3;have HAR2:=ae hAR;have HW9:=ae hw9;clear hAR HAR hS8 hg8 hQQ hE m3 m4 hset hg9 hrk hwq hx1 hx2 hy1 hy2 hw9
   go_wp2_with (first|refine cU w9 (stB _ _ _ _ rfl b (off+N*7+6) false (by simp[go_sem]) (by simp[go_sem]) w8 w9 m1 m2 (aa HW9)) rfl ?_|refine bU 39 #[l,z,x,y] underlying39 rfl (bj _ _ _ _) g9 0 hrow9 rfl _ rfl rfl ?_)
   refine BL.mono ?_;rintro e wa ⟨rfl,hba⟩;obtain⟨bx,hbx⟩:∃bx,x-x%2=bx:=⟨_,rfl⟩
   obtain⟨by',hby⟩:∃by',y-y%2=by':=⟨_,rfl⟩
   rw[hbx,hby]
   have hblk:K4.blk ⟨l,z,x,y⟩=⟨l,z,bx,by'⟩:=by unfold K4.blk; dsimp only; rw[hbx,hby]
   have hbB:=aj wa (.cells #[l,z,bx,by'] 39)
   have hgB:=heap_alloc_new wa (.cells #[l,z,bx,by'] 39)
   have hSB:=((aa HS9).on hba).on hbB;have hrowB:=ao hgB
   have JO:=job_any fb _ D.jb l z bx by' _ hSB.blk hSB.mem.jb.at (by omega)
   have HSB:=ae hSB;have HGB:=ae hgB;have HBLK:=ae hblk;clear BL hba hbB hgB hSB c9 m1 m2 hrow9 hbx hby hblk
   go_wp2_with (refine bU 39 #[l,z,bx,by'] underlying39 rfl (bj _ _ _ _) wa.heap.size 0 hrowB rfl _ rfl rfl ?_)
   refine JO.mono ?_;rintro e wc ⟨rfl,hbc⟩;have hSc:=(aa HSB).on hbc;have hgc:=ag (aa HGB) hbc;obtain⟨g14,hg14⟩:∃g14,wa.heap.size=g14:=⟨_,rfl⟩;rw[hg14] at hgc ⊢;clear JO hrowB hbc HSB HGB hg14
   cases hJ:o7 D.jb ⟨l,z,bx,by'⟩ with
   | some j=>
    dsimp only[m5];have hAR:=aa HAR2;rw[aa HBLK,hJ] at hAR;dsimp only at hAR
    have hj0:¬(j:Int)<0:=by omega
    have HQ1:Hid (ArP w fb X D ⟨l,z,x,y⟩ 0 tag (.returned (.tuple #[.int .i64 (N:Nat),.slice none 0 0])) wc):=by
     refine⟨.slice none 0 0,.slice (some ⟨b,off,none⟩) (N+1) xc,X.jv,X.ev,by rw[aa HNE],?_,fun g hg=>(by cases hg),?_⟩
     ·rw[hAR]; exact Or.inl ⟨rfl,rfl⟩
     rw[hAR]; dsimp only; rw[RV.eqR X _ _ (aa HCT)]; exact hSc
    clear hAR HAR2 hSc hgc hJ
    go_wp2_with fail
    go_ret2
    exact aa HQ1
   | none=>
    dsimp only[m5];have hAR:=aa HAR2;rw[aa HBLK,hJ] at hAR;dsimp only at hAR;obtain⟨C,hC⟩:∃C,D.ct=C:=⟨_,rfl⟩;rw[hC] at hAR hcb
    have hj0:(-1:Int)<0:=by omega
    have c7:wc.cell? ⟨fb,7,none⟩=some (.int .i64 (C:Int)):=by rw[<-hC,<-aa HCT]; exact aF.c hSc.blk 7 rfl
    have fz7:=kr hSc.blk 7
    have hcw:IntKind.i64.wrap ((C:Int)+1)=(C:Int)+1:=bG _ (by omega)
    have hSd:=hSc.trans (hSc.mem.ct hSc.blk ((C:Int)+1));obtain⟨wd,hwd⟩:∃wd,wc.setCell ⟨fb,7,none⟩ (.int .i64 ((C:Int)+1))=wd:=⟨_,rfl⟩;rw[hwd] at hSd
    have hgd:wd.heap[g14]?=some (.cells #[l,z,bx,by'] 39):=by rw[<-hwd,Below.heap_setCell _ _ _ _ (by show g14≠fb; exact aI hgc hSc.blk (by decide))]; exact hgc
    obtain⟨we,hwe⟩:∃we,World.drew wd=we:=⟨_,rfl⟩;have hbe:Below wd.heap.size wd we:=hwe▸Below.drew bu;have hSe:=hSd.on hbe;have hge:=ag hgd hbe;obtain⟨ja,jc,hjv,_⟩:=hSe.mem.jb.val
    have c10:we.cell? ⟨fb,10,none⟩=some (.slice ja D.jb.length jc):=by rw[<-hjv]; exact aF.c hSe.blk 10 rfl
    have c7e:we.cell? ⟨fb,7,none⟩=some (.int .i64 ((C:Int)+1)):=aF.c hSe.blk 7 rfl
    have hat:=aZ jP 165 we ⟨⟨l,z,bx,by'⟩,-1,(C:Int)+1,0,0⟩ (Jb.a ⟨⟨l,z,bx,by'⟩,-1,(C:Int)+1,0,0⟩) rfl
    have hbB:=aj we (.cells (Jb.a ⟨⟨l,z,bx,by'⟩,-1,(C:Int)+1,0,0⟩) 165)
    obtain⟨weA,hweA⟩:∃weA,we.alloc (.cells (Jb.a ⟨⟨l,z,bx,by'⟩,-1,(C:Int)+1,0,0⟩) 165)=weA:=⟨_,rfl⟩
    obtain⟨v5,w5,r1,r2,r3,r4⟩:=apJb (hSe.on hbB).mem.jb hat (by simp only[List.length_singleton]; omega)
    obtain⟨ya,yn,yc,rfl⟩:=r2.slc
    obtain⟨c10w,fz10,hSf⟩:=hSe.addJ r2 r3 (by
     rcases r4 with r4|r4
     ·exact Or.inl r4
     exact Or.inr fun g hg=>by have q:=r4 g hg; simp at q; omega)
    obtain⟨wf,hwf⟩:∃wf,w5.setCell ⟨fb,10,none⟩ (.slice ya yn yc)=wf:=⟨_,rfl⟩;rw[hjv] at r1 c10w;rw[hweA] at r1 r3 hbB;rw[hwf] at hSf
    have hgA:weA.heap[g14]?=some (.cells #[l,z,bx,by'] 39):=ag hge hbB
    have hg5:w5.heap[g14]?=some (.cells #[l,z,bx,by'] 39):=by
     rw[r3.block g14 (an hgA) (fun q=>au hSe.mem.jb hge (by decide) g14 q.symm rfl)]; exact hgA
    have hgf:wf.heap[g14]?=some (.cells #[l,z,bx,by'] 39):=by
     rw[<-hwf,Below.heap_setCell _ _ _ _ (by show g14≠fb; exact aI hge hSe.blk (by decide))]; exact hg5
    have hbkA:∀i,weA.cell? ⟨fb,i,none⟩=we.cell? ⟨fb,i,none⟩:=fun i=>hbB.cell (p:=⟨fb,i,none⟩) (an hSe.blk)
    have hbk5:∀i,w5.cell? ⟨fb,i,none⟩=we.cell? ⟨fb,i,none⟩:=fun i=>World.cell?_of_block (a:=⟨fb,i,none⟩) (by
     rw[r3.block fb (by have:=an hSe.blk; have:=hbB.size; omega) (fun q=>au hSe.mem.jb hSe.blk (by decide) fb q.symm rfl)]
     rw[<-hweA]; exact heap_alloc_old we _ (an hSe.blk))
    have c10A:weA.cell? ⟨fb,10,none⟩=some (.slice ja D.jb.length jc):=(hbkA 10).trans c10
    have hS:we.heap[g14]?=some (.cells #[l,z,bx,by'] 39)/\we.cell? ⟨fb,7,none⟩=some (.int .i64 ((C:Int)+1)):=⟨hge,c7e⟩
    have hSA:weA.heap[g14]?=some (.cells #[l,z,bx,by'] 39)/\weA.cell? ⟨fb,7,none⟩=some (.int .i64 ((C:Int)+1)):=⟨hgA,(hbkA 7).trans c7e⟩
    have hS5:w5.heap[g14]?=some (.cells #[l,z,bx,by'] 39)/\w5.cell? ⟨fb,7,none⟩=some (.int .i64 ((C:Int)+1)):=⟨hg5,(hbk5 7).trans c7e⟩
    have hS6:wf.heap[g14]?=some (.cells #[l,z,bx,by'] 39)/\wf.cell? ⟨fb,7,none⟩=some (.int .i64 ((C:Int)+1)):=⟨hgf,aF.c hSf.blk 7 rfl⟩
    have HQ1:Hid (ArP w fb X D ⟨l,z,x,y⟩ 0 tag (.returned (.tuple #[.int .i64 (N:Nat),.slice none 0 0])) wf):=by
     refine⟨.slice none 0 0,.slice (some ⟨b,off,none⟩) (N+1) xc,.slice ya yn yc,X.ev,by rw[aa HNE],?_,fun g hg=>(by cases hg),?_⟩
     ·rw[hAR]; exact Or.inl ⟨rfl,rfl⟩
     rw[hAR]; exact hSf
    have HWD:=ae hwd;clear hAR HAR2 hSc hgc hJ hSd hgd hbe hSe hge hjv hat hbB r2 r3 r4 hSf hgA hg5 hgf hbkA hbk5 hC
    go_wp2_with (refine cU wd (kO _ _ _ _ rfl fb 7 ((C:Int)+1) rfl (by simp[go_sem]) wc wd c7 fz7 (aa HWD)) rfl ?_)
    refine wp_region_held (S:=fun w'=>w'.heap[g14]?=some (.cells #[l,z,bx,by'] 39)/\w'.cell? ⟨fb,7,none⟩=some (.int .i64 ((C:Int)+1))) (by kernel_rfl) ?_
    change wpAnyH _ _ _ _ _ _ _ _ (World.drew _);rw[hwe];refine am 0 rfl fb 0 hS ?_;refine am 1 rfl fb 0 hS ?_;refine am 2 rfl fb 0 hS ?_;refine am 3 rfl fb 10 hS ?_
    refine aH 5 rfl (.agg #[l,z,bx,by']) hS ?_ (hy:=fun w' hw'=>jT _ _ _ 39 rfl _ rfl _ underlying39 rfl (bj _ _ _ _) g14 0 rfl _ (ao hw'.1))
    refine am 6 rfl fb 0 hS ?_;refine am 7 rfl fb 0 hS ?_;refine am 8 rfl fb 7 hS ?_
    refine aH 9 rfl (.int .i64 ((C:Int)+1)) hS ?_ (hy:=fun w' hw'=>by simp[go_sem,hw'.2])
    refine aH 10 rfl (.agg (Jb.a ⟨⟨l,z,bx,by'⟩,-1,(C:Int)+1,0,0⟩)) hS ?_ (hy:=fun w' hw'=>bJb _ _ _ _ _ _ _ _ _ _ rfl rfl rfl rfl w')
    refine wpAnyH_all (rs:=[4,11]) (by kernel_rfl) (by simp) ?_
    intro i hi;simp only[List.mem_cons,List.not_mem_nil,or_false] at hi
    rcases hi with rfl|rfl
    focus
     refine bI 4 rfl rfl (.slice ja D.jb.length jc) (we) (by simp[go_sem,c10]) (hS) ?_
     simp only[qZ];refine aV 11 ?_
     refine bI 11 rfl rfl (.slice (some ⟨we.heap.size,0,none⟩) 1 1) (weA) (by rw[<-hweA]; exact bsJb ⟨⟨l,z,bx,by'⟩,-1,(C:Int)+1,0,0⟩ _ _ _ rfl rfl we) (hSA) ?_
    rotate_left
    focus
     refine bI 11 rfl rfl (.slice (some ⟨we.heap.size,0,none⟩) 1 1) (weA) (by rw[<-hweA]; exact bsJb ⟨⟨l,z,bx,by'⟩,-1,(C:Int)+1,0,0⟩ _ _ _ rfl rfl we) (hSA) ?_
     simp only[qZ];refine aV 4 ?_
     refine bI 4 rfl rfl (.slice ja D.jb.length jc) (weA) (by simp[go_sem,c10A]) (hSA) ?_
    all_goals
     simp only[qZ];refine aV 12 ?_;refine bI 12 rfl rfl (.slice ya yn yc) (w5) (exR 132 r1 _ _ _ _ rfl rfl rfl rfl) (hS5) ?_;simp only[qZ];refine am 13 rfl fb 0 hS5 ?_;refine am 14 rfl fb 10 hS5 ?_;refine aV 15 ?_
     refine cL 15 rfl rfl (wf) (stS1 _ _ _ _ 132 rfl (fun _=>by simp[go_sem]) fb 10 ya yn yc rfl rfl w5 wf c10w fz10 hwf) (hS6) ?_
     simp only[Act.put]
     refine wpAnyH_done (by kernel_rfl) ?_ _
     clear hS hSA hS5 hS6 r1 c10 c7e c10w fz10 c7 fz7 c10A hwe hwf hweA
     go_wp2_with fail
     go_ret2
     exact aa HQ1
 have he0b:(er==0)=false:=by simpa using he0
 have HQ1:Hid (ArP w fb X D ⟨l,z,x,y⟩ (er) tag (.returned (.tuple #[.int .i64 (N:Nat),.slice (some ⟨w6.heap.size,0,none⟩) 1 1])) (w6.alloc (.cells #[.int .i64 (N:Nat),(404:Int),.string ⟨#[]⟩,.string ⟨#[]⟩] 103))):=by
  have q:=ArP.one (w:=w) (w1:=w6) (fb:=fb) (X:=X) (D:=D) (k:=⟨l,z,x,y⟩) (er:=er) (tag:=tag) (rv':=.slice xa (N+1) xc) (jv':=X.jv) (ev':=X.ev) (D':={ D with rq:=D.rq++[⟨⟨l,z,x,y⟩,(V:Nat),(NW:Int)+(WT:Int),true⟩] }) (s:=404) (B:=⟨#[]⟩) (T:=⟨#[]⟩) (by rw[RV.eqR X _ _ (aa HCT)]; exact aa HS6) (by
   unfold DF.arrive;dsimp only;rw[if_neg he1,if_pos he0,aa HV,aa HNWE,aa HWTE]
   )
  rw[aa HNE] at q;exact q
 go_wp2_with (refine cP _ _ (gz (N:Nat) 404 ⟨#[]⟩ ⟨#[]⟩ _ _ _ rfl rfl _) rfl ?_)
 go_ret2
 exact aa HQ1
end
section
variable {w w1 w':World}{d d1:DV}{ob:Nat}{O:OL}{v:Value}{e:Ending}
theorem Pst.joinI (h:Pst w d ob O w1 d1 O)(hK:KeptI w1 ob O.V O.IS O.FS O.RS O.GS O.ES v e w')(hv:∀k,v.ownBlock=some k->w.heap.size<=k/\¬df d1 k):e=.returned (.tuple #[])/\∃O',Pst w d ob O w' d1 O':=by
 obtain⟨he,s,x,hs,hown,hF,hx⟩:=hK
 refine⟨he,{ O with V:={ O.V with iv:=x },IS:=O.IS++[s] },h.join (u:=O.V.iv) (v:=v) hown hF (fun k q=>?_) hv (fun k q=>?_) ⟨by simp,by simp,by simp,by simp,by simp⟩ ⟨id,id⟩⟩
 ·exact Or.inr (Or.inl q)
 rcases q with rfl|q|q|q|q|q|⟨t,ht,q⟩
 ·exact Or.inl (Or.inl rfl)
 ·rcases hx with hx|hx
  ·exact Or.inl (Or.inr (Or.inl (hx▸q)))
  exact Or.inr (Or.inr (hx k q))
 ·exact Or.inl (Or.inr (Or.inr (Or.inl q)))
 ·exact Or.inl (Or.inr (Or.inr (Or.inr (Or.inl q))))
 ·exact Or.inl (Or.inr (Or.inr (Or.inr (Or.inr (Or.inl q)))))
 ·exact Or.inl (Or.inr (Or.inr (Or.inr (Or.inr (Or.inr (Or.inl q))))))
 rcases ht with ht|ht|ht|ht|ht
 ·rcases List.mem_append.1 ht with ht|ht
  ·exact Or.inl (Or.inr (Or.inr (Or.inr (Or.inr (Or.inr (Or.inr (⟨t,Or.inl ht,q⟩)))))))
  rw[List.mem_singleton] at ht;subst ht;exact Or.inr (Or.inl (hs▸q))
 ·exact Or.inl (Or.inr (Or.inr (Or.inr (Or.inr (Or.inr (Or.inr (⟨t,Or.inr (Or.inl ht),q⟩)))))))
 ·exact Or.inl (Or.inr (Or.inr (Or.inr (Or.inr (Or.inr (Or.inr (⟨t,Or.inr (Or.inr (Or.inl ht)),q⟩)))))))
 ·exact Or.inl (Or.inr (Or.inr (Or.inr (Or.inr (Or.inr (Or.inr (⟨t,Or.inr (Or.inr (Or.inr (Or.inl ht))),q⟩)))))))
 exact Or.inl (Or.inr (Or.inr (Or.inr (Or.inr (Or.inr (Or.inr (⟨t,Or.inr (Or.inr (Or.inr (Or.inr (ht)))),q⟩)))))))
theorem new_list (hO:io w ob O)(hv:∀k,v.ownBlock=some k->w.heap.size<=k):∀s,(s∈O.IS\/s∈O.FS\/s∈O.RS\/s∈O.GS\/s∈O.ES)->∀g,s.v.ownBlock=some g->v.ownBlock≠some g:=fun s hs g hg q=>by
 have:=bA.lt hO (Or.inr (Or.inr (Or.inr (Or.inr (Or.inr (Or.inr ⟨s,hs,hg⟩))))));have:=hv g q;omega
end
theorem held_any {w:World}{d:DV}{ob wb:Nat}{O:OL}(h:Dep w d)(hO:io w ob O)(hdj:∀k,df d k->¬OF ob O k)(hw:w.cell? ⟨wb,2,none⟩=some (.pointer (some ⟨ob,0,none⟩)))(hlw:wb<w.heap.size)(hl:O.IS.length<=10000000):
  Calls prog 19 #[.pointer (some ⟨wb,0,none⟩),.agg #[.pointer (some ⟨d.sb,0,none⟩),.pointer (some ⟨d.rb,0,none⟩)]] w fun e w'=>e=.returned (.bool true)/\∃O',Pst w d ob O w' d O':=by
 have hA:=heap_alloc_new w (.cells #[.pointer (some ⟨d.sb,0,none⟩),.pointer (some ⟨d.rb,0,none⟩)] 53);have hb0:=aj w (.cells #[.pointer (some ⟨d.sb,0,none⟩),.pointer (some ⟨d.rb,0,none⟩)] 53);have a0:=(af hA 0).trans (show _=some (Value.pointer (some ⟨d.sb,0,none⟩)) from rfl);have a1:=(af hA 1).trans (show _=some (Value.pointer (some ⟨d.rb,0,none⟩)) from rfl);have hd1:=h.on hb0;have hmax:=h.pr.max;have hX:=ae (dQ d.sb d.keep (d.bs.length:Nat) d.sl d.pv d.LS (ri d.PI) _ hd1.x);have hY:=ae (dv hd1.r);have hH:=ae (xHeld_any hd1.x h.p h.k hmax);have HA:=ae hA;have HB0:=ae hb0;have HD:=ae h;have HO:=ae hO;have HDJ:=ae hdj;have HW:=ae hw;clear hA hb0 hd1 hw;go_enter func19,ntmps19
 go_wp2_with fail
 refine(aa hX).mono ?_;rintro e w1 ⟨rfl,rfl⟩
 go_wp2_with fail
 refine(aa hY).mono ?_;rintro e w1 ⟨rfl,rfl⟩
 go_wp2_with fail
 refine(aa hH).mono ?_;rintro e w2 ⟨rv,rfl,ho,hf,hb2⟩;have hB2:=(aa HB0).trans (hb2.mono (aa HB0).size)
 have e1:=(hb2.cell (p:=⟨w.heap.size,1,none⟩) (by simp)).trans a1
 have HR:=ae (rHeld_any ((aa HD).on hB2).r (by have:=h.p; omega) hmax)
 have HB2:=ae hB2;have HO2:=ae ho;have HF2:=ae hf;clear hb2 hB2 ho hf a0 a1
 go_wp2_with fail
 refine(aa HR).mono ?_;rintro e w3 ⟨qv,rfl,ho3,_,hb3⟩;have hB3:=(aa HB2).trans (hb3.mono (aa HB2).size);have HS:=ae (oB rv qv _ w3 ((aa HO2).on hb3).at ho3.at);have HO3:=ae ((aa HO2).on hb3);have HB3:=ae hB3;clear hb3 hB3 ho3 e1
 go_wp2_with fail
 refine(aa HS).mono ?_;rintro e w4 ⟨rfl,hb4⟩;have hB4:=(aa HB3).trans (hb4.mono (aa HB3).size);have c2:=(hB4.cell (p:=⟨wb,2,none⟩) hlw).trans (aa HW);have hP:=Pst.still (aa HD) (aa HO) (aa HDJ) hB4
 have hz:∀k,rv.ownBlock=some k->w.heap.size<=k:=fun k q=>by have:=aa HF2 k q; have:=(aa HB0).size; omega
 have HK:=ae (keepI_any (v:=rv) hP.own ((aa HO3).on hb4) (fun s hs=>new_list (aa HO) hz s (Or.inl hs)) hl);have HZ:=ae hz;have HP:=ae hP;clear hb4 hB4 hP hz
 go_wp2_with fail
 refine(aa HK).mono ?_;intro e w5 hK5
 obtain⟨rfl,O',hP5⟩:=(aa HP).joinI hK5 fun k q=>⟨aa HZ k q,fun q'=>by have:=aa HZ k q; have:=(aa HD).lt q'; omega⟩
 have HP5:=ae hP5;clear hP5 hK5
 go_wp2_with fail
 go_ret;exact⟨rfl,O',aa HP5⟩
structure iH where
 kind:Int
 on:Int
 a:Int
 b:Int
 c:Int
 kl:Int
 kz:Int
 kx:Int
 ky:Int
 s:ByteArray
 t:ByteArray
 bo:Option Addr
 bn:Nat
 bc:Nat
 f0:Int
 f1:Int
 f2:Int
 f3:Int
 f4:Int
def iH.bat (o:iH):Value:=.slice o.bo o.bn o.bc
def iH.v (o:iH):Array Value:=#[o.kind,o.on,o.a,o.b,o.c,o.kl,o.kz,o.kx,o.ky,o.s,o.t,.slice o.bo o.bn o.bc,o.f0,o.f1,o.f2,o.f3,o.f4]
def rOp:dR iH:=⟨17,fun o=>o.v.toList,fun _=>rfl,fun k v hv=>by simp[iH.v] at hv; rcases hv with rfl|rfl|rfl|rfl|rfl|rfl|rfl|rfl|rfl|rfl|rfl|rfl|rfl|rfl|rfl|rfl|rfl<;>rfl,by decide⟩
structure FBox (w w1:World)(e:EV)(o:iH):Prop where
 b:Below w.heap.size w w1
 z:w.heap.size+2<=w1.heap.size
 p:w1.heap[w.heap.size]?=some (.cells #[.pointer (some ⟨e.fb,0,none⟩),.pointer (some ⟨e.rb,0,none⟩)] 59)
 q:w1.heap[w.heap.size+1]?=some (.cells o.v 44)
theorem ie (w:World)(e:EV)(o:iH):FBox w ((w.alloc (.cells #[.pointer (some ⟨e.fb,0,none⟩),.pointer (some ⟨e.rb,0,none⟩)] 59)).alloc (.cells o.v 44)) e o:=by
 have h1:=heap_alloc_new w (.cells #[.pointer (some ⟨e.fb,0,none⟩),.pointer (some ⟨e.rb,0,none⟩)] 59);have h2:=heap_alloc_new (w.alloc (.cells #[.pointer (some ⟨e.fb,0,none⟩),.pointer (some ⟨e.rb,0,none⟩)] 59)) (.cells o.v 44)
 refine⟨(bu.alloc aD _).alloc (by simp) _,by simp,?_,by simpa using h2⟩
 rw[heap_alloc_old _ _ (by simp)]; exact h1
structure FBx (w w2:World)(e:EV)(o:iH):Prop where
 z:w.heap.size+2<=w2.heap.size
 p:w2.heap[w.heap.size]?=some (.cells #[.pointer (some ⟨e.fb,0,none⟩),.pointer (some ⟨e.rb,0,none⟩)] 59)
 q:w2.heap[w.heap.size+1]?=some (.cells o.v 44)
theorem FBox.bx {w w1:World}{e:EV}{o:iH}(h:FBox w w1 e o):FBx w w1 e o:=⟨h.z,h.p,h.q⟩
theorem FBx.on {w w1 w2:World}{e:EV}{o:iH}{S:Nat->Prop}(h:FBx w w1 e o)(hF:aE S w1 w2)(hS:∀k,S k->k<w.heap.size):FBx w w2 e o:=
 ⟨Nat.le_trans h.z hF.size,aQ h.p hF fun q=>by have:=hS _ q; omega,aQ h.q hF fun q=>by have:=hS _ q; omega⟩
theorem FBx.c0 {w w1:World}{e:EV}{o:iH}(h:FBx w w1 e o):w1.cell? ⟨w.heap.size,0,none⟩=some (.pointer (some ⟨e.fb,0,none⟩)):=(af h.p 0).trans rfl
theorem FBx.c1 {w w1:World}{e:EV}{o:iH}(h:FBx w w1 e o):w1.cell? ⟨w.heap.size,1,none⟩=some (.pointer (some ⟨e.rb,0,none⟩)):=(af h.p 1).trans rfl
theorem FBx.o {w w1:World}{e:EV}{o:iH}(h:FBx w w1 e o)(j:Nat):w1.cell? ⟨w.heap.size+1,j,none⟩=o.v[j]?:=af h.q j
section
variable {w:World}{e:EV}{n ob wb:Nat}{O:OL}{o:iH}
theorem cO.jobs (h:cO w n e):∀j∈e.D.jb,0<=j.rd/\j.rd<=e.D.bs.length/\bP j.b/\0<=j.lf/\j.lf<=1000:=by
 obtain⟨LL,BB,g⟩:=h.m.sim.job;intro j hj
 have hsb:bP j.b:=by
  have hh:=(g.has j.b).1 ⟨j,hj,rfl⟩
  rcases hh with q|q
  ·obtain⟨r,hr,eb⟩:=h.m.ok.lin _ q
   rw[<-eb];exact nW (h.m.ok.req r hr).2.2.2.1.small
  obtain⟨f,hf,eb⟩:=List.mem_map.1 q;obtain⟨_,_,k,hk,eb'⟩:=h.m.ok.flt f hf;rw[<-eb,eb'];exact nW hk.small
 rcases g.mem hj with⟨q,_⟩|⟨q,_⟩
 ·have z:=g.lin j q
  exact⟨by omega,by omega,hsb,by omega,by omega⟩
 obtain⟨i,f,hf,et⟩:=g.bb q;have e1:j.rd=(f.reads:Int):=congrArg (fun t:Jt=>t.2.2.1) et;have e2:j.lf=(f.left:Int):=congrArg (fun t:Jt=>t.2.2.2) et;have z1:=h.m.ok.flt f (eY hf);have z2:=h.m.ok.left40 hf;have z3:=h.m.sim.ver
 exact⟨by omega,by omega,hsb,by omega,by omega⟩
theorem mh (h:cO w n e)(hO:io w ob O)(hdj:∀k,aX e k->¬OF ob O k)(h4:∀k,OF ob O k->4<=k)(hcw:w.cell? ⟨wb,2,none⟩=some (.pointer (some ⟨ob,0,none⟩)))(hwn:¬aX e wb)(hwo:¬OF ob O wb)(hlw:wb<w.heap.size)(hlr:O.RS.length<=10000000)(hn:n<=2000000)(hss1:o.s.size<=1048576)(hk:o.kind=12):
  Calls prog 14 #[.pointer (some ⟨wb,0,none⟩),.agg #[.pointer (some ⟨e.fb,0,none⟩),.pointer (some ⟨e.rb,0,none⟩)],.agg o.v] w fun r w'=>r=.returned (.bool true)/\∃e' O',ip w n e ob O w' e' O':=by
 have hb:=ie w e o;have HB:=ae hb;have c0:=hb.bx.c0;have k0:=(hb.bx.o 0).trans (show _=some (Value.int .i64 o.kind) from rfl);rw[hk] at k0;have h1:=h.on hb.b;have hlt:∀k,aX e k->k<w.heap.size:=fun k q=>h.lt q;obtain⟨hj12,hel,hby,hwk4,hwt50,hch1,hch8,hca⟩:=h.m.lens;have hbsk:=h.m.bs;have hm1:=h.m.ct;have hm2:=h.m.rl;have hm3:=h.m.now;have hm4:=h.m.st;have hsa:=h.m.sim.arr;have hsn:=h.m.sim.now;have hss:=h.m.sim.st;have HG:=ae h.x.glb.1;have HH:=ae h;have HH1:=ae h1;have HO:=ae hO;have HDJ:=ae hdj;have H4:=ae h4;have HCW:=ae hcw;have HWN:Hid (¬(aX e wb\/OF ob O wb)):=fun q=>q.elim hwn hwo;have HLT:=ae hlt;have HBS:=ae hbsk;have k9:=(hb.bx.o 9).trans (show _=some (Value.string o.s) from rfl);have k10:=(hb.bx.o 10).trans (show _=some (Value.string o.t) from rfl)
 have AR:=Arrive_any e.fb e.P e.F o.s o.t _ h1.fro h.m.ok (by unfold maxLen; omega) (by omega) (by omega)
 rw[hsa] at AR;have HAR:=ae AR;clear hb h1 h hO hdj h4 hcw hwn hwo AR hlt hbsk;go_enter func14,ntmps14
 go_wp2_with fail
 refine(aa HAR).mono ?_;rintro r w2 ⟨rv,rfl,hP⟩;have hbx:=(aa HB).bx.on hP.frm (fun k q=>aa HLT k (Or.inl q));have c1:=hbx.c1;have k9':=(hbx.o 9).trans (show _=some (Value.string o.s) from rfl);have k10':=(hbx.o 10).trans (show _=some (Value.string o.t) from rfl);have hR2:=(aa HH1).mid hP.frm;obtain⟨l,z,x,y,er,hprs⟩:∃l z x y er,Dw.parseL o.s.data.toList=((l,z,x,y),er):=⟨_,_,_,_,_,rfl⟩
 have hpp:k8 o.s=(⟨l,z,x,y⟩,er):=by unfold k8; rw[hprs]
 have hor:=oK o.s;have hps:=nD o.s;have hda:=(aa HH).m.arr o.s o.t;have hdl:=nX e.D (k8 o.s).1 (k8 o.s).2 o.t;rw[hpp] at hor hps hda hdl;dsimp only at hor hps hda hdl
 have RA:=rArrive_any o.s o.t l z x y er hprs hss1 hR2.blk hR2.mem hR2.num.q hR2.num.wt hR2.num.nw hR2.num.ct (by omega) (by omega) (by omega) hR2.sto (aa HBS) (fun q=>by
  rcases hor with⟨_,z⟩|⟨z,_⟩
  ·exact z
  exact absurd q z) hps (aa HH).m.sml (by omega) (by omega) (by omega)
 have HRA:=ae RA;have HP:=ae hP;have HDA:=ae hda;have HDL:=ae hdl;have HNUM:=ae hR2.num;obtain⟨xa,xn,xc,rfl⟩:=hP.rep.sl;clear hP hbx hR2 RA hprs hpp hor hps hda hdl c0 k0 k9 k10 HAR
 go_wp2_with fail
 refine(aa HRA).mono ?_;rintro r w3 ⟨rv2,rv',jv',ev',rfl,p1,p2,p3⟩;obtain⟨hdm,hde⟩:=aa HDA;obtain⟨d1,d2,d3,d4,d5,d6⟩:=aa HDL;have hnum:=aa HNUM
 obtain⟨e',hst,hrep,hnf⟩:=iz (aa HH1) (aa HP) p3 d1.bs ⟨by rw[d1.q]; exact hnum.q,by rw[d1.wk]; exact hnum.wk,by rw[d1.wt]; exact hnum.wt,by rw[d1.ca]; exact hnum.ca,by rw[d1.ch]; exact hnum.ch,by rw[d2]; exact hnum.nw,rfl,by rw[d3]; exact hnum.st⟩ hdm
 rw[hde] at hrep;have hrep2:=p1.at;have hfr:=(aa HP).repf;have hszb:=(aa HB).b.size;obtain⟨ya,yn,yc,rfl⟩:=p1.sl
 have hsame:((e.D.rq.length:Int)==(e.D.rq.length:Int))=true:=by simp
 clear p1 p2 p3 hdm hde d1 d2 d3 d4 d5 d6 hnum c1 k9' k10' HRA HP HDA HDL HNUM;have hE0:=hst.est (ob:=ob) (O:=O) (bA.on (aa HO) (aa HB).b) (aa HDJ);have hOr:=hrep;have SR:=dl hrep.at hrep2;have HE0:=ae hE0;have HRP:=ae hrep;have HNF:=ae hnf;have HFR:=ae hfr;clear hE0 hst hrep hrep2 hOr hnf hfr hsame
 go_wp2_with fail
 refine SR.mono ?_;rintro e w4 ⟨rfl,hb4⟩;have hE4:=(aa HE0).on hb4;have hsB:=(aa HB).b.size
 have c2:w4.cell? ⟨wb,2,none⟩=some (.pointer (some ⟨ob,0,none⟩)):=by
  rw[World.cell?_of_block (a:=⟨wb,2,none⟩) (hE4.frm.block wb (by show wb<_; omega) (aa HWN))]
  exact((aa HB).b.cell (p:=⟨wb,2,none⟩) hlw).trans (aa HCW)
 have KR:=fZ hE4.own ((aa HRP).on hb4) (fun s hs g hg q=>by
  have z1:=aa HFR g q;have z2:=bA.lt (aa HO) (k:=g) (Or.inr (Or.inr (Or.inr (Or.inr (Or.inr (Or.inr ⟨s,Or.inr (Or.inr (Or.inl hs)),hg⟩))))));omega) hlr
 have HE4:=ae hE4;clear SR hb4 hE4 HE0 HRP
 go_wp2_with fail
 refine KR.mono ?_;intro e w5 hK
 obtain⟨rfl,O',hE5⟩:=ip.keepR (aa HE4) (aa H4) (by have:=(aa HG); omega) (fun k q=>⟨aa HFR k q,aa HNF k q⟩) hK ⟨by omega,by omega,by omega,by omega,by omega⟩
 have HE5:=ae (hE5.pre (aa HB).b);clear hE5 hK c2 KR HE4
 go_wp2_with fail
 go_ret;exact⟨rfl,_,O',aa HE5⟩
end
section
variable {w:World}{e:EV}{n ob wb:Nat}{O:OL}{o:iH}
theorem pm (h:cO w n e)(hO:io w ob O)(hdj:∀k,aX e k->¬OF ob O k)(h4:∀k,OF ob O k->4<=k)(hcw:w.cell? ⟨wb,2,none⟩=some (.pointer (some ⟨ob,0,none⟩)))(hwn:¬aX e wb)(hwo:¬OF ob O wb)(hlw:wb<w.heap.size)(hlr:O.RS.length<=10000000)(hn:n<=2000000)(hk:o.kind=13):
  Calls prog 14 #[.pointer (some ⟨wb,0,none⟩),.agg #[.pointer (some ⟨e.fb,0,none⟩),.pointer (some ⟨e.rb,0,none⟩)],.agg o.v] w fun r w'=>r=.returned (.bool true)/\∃e' O',ip w n e ob O w' e' O':=by
 have hb:=ie w e o;have HB:=ae hb;have c0:=hb.bx.c0;have k0:=(hb.bx.o 0).trans (show _=some (Value.int .i64 o.kind) from rfl);rw[hk] at k0;have h1:=h.on hb.b;have hlt:∀k,aX e k->k<w.heap.size:=fun k q=>h.lt q;obtain⟨hj12,hel,hby,hwk4,hwt50,hch1,hch8,hca⟩:=h.m.lens;have hbsk:=h.m.bs;have hm1:=h.m.ct;have hm2:=h.m.rl;have hm3:=h.m.now;have hm4:=h.m.st;have hsa:=h.m.sim.arr;have hsn:=h.m.sim.now;have hss:=h.m.sim.st;have HG:=ae h.x.glb.1;have HH:=ae h;have HH1:=ae h1;have HO:=ae hO;have HDJ:=ae hdj;have H4:=ae h4;have HCW:=ae hcw;have HWN:Hid (¬(aX e wb\/OF ob O wb)):=fun q=>q.elim hwn hwo;have HLT:=ae hlt;have HBS:=ae hbsk;have k2:=(hb.bx.o 2).trans (show _=some (Value.int .i64 o.a) from rfl)
 have AR:=Work_any e.fb e.P e.F o.a _ h1.fro h.m.ok (by omega)
 have HAR:=ae AR;clear hb h1 h hO hdj h4 hcw hwn hwo AR hlt hbsk;go_enter func14,ntmps14
 go_wp2_with fail
 refine(aa HAR).mono ?_;rintro r w2 ⟨rv,rfl,hP⟩;have hbx:=(aa HB).bx.on hP.frm (fun k q=>aa HLT k (Or.inl q));have c1:=hbx.c1;have k2':=(hbx.o 2).trans (show _=some (Value.int .i64 o.a) from rfl);have hR2:=(aa HH1).mid hP.frm;have hjbs:=(aa HH).jobs
 have RA:=rWork_any o.a hR2.blk hR2.mem hR2.num.ca hR2.num.ct hR2.num.st hR2.num.wk hR2.num.ch (by omega) (by omega) ⟨hch1,hch8⟩ hR2.sto (aa HBS) hjbs (aa HH).m.sml (aa HH).m.kok (by omega) (by omega) (by omega) (by omega)
 have hpost:∀r w3,(if o.a<0 then r=.returned (.slice none 0 0)/\w3=w2 else WkP w2 e.rb e.Y e.D o.a.toNat r w3)->∃rv2 e',r=.returned rv2/\St2 _ n e w3 e'/\ah bE 103 w3 rv (kV e.F o.a).2/\(∀g,rv.ownBlock=some g->¬aX e' g)/\ah bE 103 w3 rv2 (kV e.F o.a).2:=fun r w3 hw=>by
  by_cases h0:o.a<0
  ·rw[if_pos h0] at hw
   obtain⟨rfl,rfl⟩:=hw
   have ew:kV e.F o.a=(e.F,[]):=by unfold kV; rw[if_pos h0]
   rw[ew] at hP;obtain⟨e',z1,z2,z3⟩:=iz (D':=e.D) (Y':=e.Y) (aa HH1) hP (aP.refl hR2.blk hR2.mem) rfl hR2.num ((aa HH).m.still)
   exact⟨_,e',rfl,z1,by rw[ew]; exact z2,z3,by rw[ew]; exact Or.inl ⟨rfl,rfl⟩⟩
  rw[if_neg h0] at hw;obtain⟨rv2,jv',ev',rfl,p1,p2,p3⟩:=hw
  have ew:kV e.F o.a=e.F.work Oz o.a.toNat:=by unfold kV; rw[if_neg h0]
  obtain⟨hdm,hde⟩:=(aa HH).m.work o.a.toNat;obtain⟨d1,d2,d3,d4,d5⟩:=work_dl e.D o.a.toNat;have hnum:=hR2.num;rw[ew] at hP
  obtain⟨e',z1,z2,z3⟩:=iz (aa HH1) hP p3 d1.bs ⟨by rw[d1.q]; exact hnum.q,by rw[d1.wk]; exact hnum.wk,by rw[d1.wt]; exact hnum.wt,by rw[d1.ca]; exact hnum.ca,by rw[d1.ch]; exact hnum.ch,by rw[d2]; exact hnum.nw,rfl,rfl⟩ hdm
  exact⟨rv2,e',rfl,z1,by rw[ew]; exact z2,z3,by rw[ew,hde]; exact p1⟩
 have hfr0:=hP.repf;have HRA:=ae RA;have HPO:=ae hpost;obtain⟨xa,xn,xc,rfl⟩:=hP.rep.sl;clear hP hbx hR2 RA hjbs hpost c0 k0 k2 HAR
 go_wp2_with fail
 refine(aa HRA).mono ?_;intro r w3 hw;obtain⟨rv2,e',rfl,hst,hrep,hnf,hr2⟩:=aa HPO r w3 hw;have hrep2:=hr2.at;have hszb:=(aa HB).b.size;have hfr:=hfr0;obtain⟨ya,yn,yc,rfl⟩:=hr2.sl;clear hr2 hw c1 k2' HRA HPO hfr0;have hE0:=hst.est (ob:=ob) (O:=O) (bA.on (aa HO) (aa HB).b) (aa HDJ);have hOr:=hrep;have SR:=dl hrep.at hrep2;have HE0:=ae hE0;have HRP:=ae hrep;have HNF:=ae hnf;have HFR:=ae hfr;clear hE0 hst hrep hrep2 hOr hnf hfr hszb
 go_wp2_with fail
 refine SR.mono ?_;rintro e w4 ⟨rfl,hb4⟩;have hE4:=(aa HE0).on hb4;have hsB:=(aa HB).b.size
 have c2:w4.cell? ⟨wb,2,none⟩=some (.pointer (some ⟨ob,0,none⟩)):=by
  rw[World.cell?_of_block (a:=⟨wb,2,none⟩) (hE4.frm.block wb (by show wb<_; omega) (aa HWN))]
  exact((aa HB).b.cell (p:=⟨wb,2,none⟩) hlw).trans (aa HCW)
 have KR:=fZ hE4.own ((aa HRP).on hb4) (fun s hs g hg q=>by
  have z1:=aa HFR g q;have z2:=bA.lt (aa HO) (k:=g) (Or.inr (Or.inr (Or.inr (Or.inr (Or.inr (Or.inr ⟨s,Or.inr (Or.inr (Or.inl hs)),hg⟩))))));omega) hlr
 have HE4:=ae hE4;clear SR hb4 hE4 HE0 HRP
 go_wp2_with fail
 refine KR.mono ?_;intro e w5 hK
 obtain⟨rfl,O',hE5⟩:=ip.keepR (aa HE4) (aa H4) (by have:=(aa HG); omega) (fun k q=>⟨aa HFR k q,aa HNF k q⟩) hK ⟨by omega,by omega,by omega,by omega,by omega⟩
 have HE5:=ae (hE5.pre (aa HB).b);clear hE5 hK c2 KR HE4
 go_wp2_with fail
 go_ret;exact⟨rfl,_,O',aa HE5⟩
theorem pp (h:cO w n e)(hO:io w ob O)(hdj:∀k,aX e k->¬OF ob O k)(h4:∀k,OF ob O k->4<=k)(hcw:w.cell? ⟨wb,2,none⟩=some (.pointer (some ⟨ob,0,none⟩)))(hwn:¬aX e wb)(hwo:¬OF ob O wb)(hlw:wb<w.heap.size)(hlr:O.RS.length<=10000000)(hn:n<=2000000)(hk:o.kind=15):
  Calls prog 14 #[.pointer (some ⟨wb,0,none⟩),.agg #[.pointer (some ⟨e.fb,0,none⟩),.pointer (some ⟨e.rb,0,none⟩)],.agg o.v] w fun r w'=>r=.returned (.bool true)/\∃e' O',ip w n e ob O w' e' O':=by
 have hb:=ie w e o;have HB:=ae hb;have c0:=hb.bx.c0;have k0:=(hb.bx.o 0).trans (show _=some (Value.int .i64 o.kind) from rfl);rw[hk] at k0;have h1:=h.on hb.b;have hlt:∀k,aX e k->k<w.heap.size:=fun k q=>h.lt q;obtain⟨hj12,hel,hby,hwk4,hwt50,hch1,hch8,hca⟩:=h.m.lens;have hbsk:=h.m.bs;have hm1:=h.m.ct;have hm2:=h.m.rl;have hm3:=h.m.now;have hm4:=h.m.st;have hsa:=h.m.sim.arr;have hsn:=h.m.sim.now;have hss:=h.m.sim.st;have HG:=ae h.x.glb.1;have HH:=ae h;have HH1:=ae h1;have HO:=ae hO;have HDJ:=ae hdj;have H4:=ae h4;have HCW:=ae hcw;have HWN:Hid (¬(aX e wb\/OF ob O wb)):=fun q=>q.elim hwn hwo;have HLT:=ae hlt;have HBS:=ae hbsk
 have AR:=Tick_any e.fb e.P e.F _ h1.fro h.m.ok (by omega)
 have HAR:=ae AR;clear hb h1 h hO hdj h4 hcw hwn hwo AR hlt hbsk;go_enter func14,ntmps14
 go_wp2_with fail
 refine(aa HAR).mono ?_;rintro r w2 ⟨rv,rfl,hP⟩;have hbx:=(aa HB).bx.on hP.frm (fun k q=>aa HLT k (Or.inl q));have c1:=hbx.c1;have hR2:=(aa HH1).mid hP.frm
 have RA:=rTick_any e.D.now e.D.rq e.D.jb e.D.en hR2.blk hR2.mem hR2.num.nw (by omega) (aa HH).m.sml (by omega) (by omega)
 have HRA:=ae RA;have HP:=ae hP;have HNUM:=ae hR2.num;obtain⟨xa,xn,xc,rfl⟩:=hP.rep.sl;clear hP hbx hR2 RA c0 k0 HAR
 go_wp2_with fail
 refine(aa HRA).mono ?_;rintro r w3 ⟨rv2,jv',rfl,p1,p2,p3⟩;obtain⟨hdm,hde⟩:=(aa HH).m.tick;have hnum:=aa HNUM;obtain⟨e',hst,hrep,hnf⟩:=iz (D':=e.D.tick.1) (aa HH1) (aa HP) p3 rfl ⟨hnum.q,hnum.wk,hnum.wt,hnum.ca,hnum.ch,rfl,hnum.ct,hnum.st⟩ hdm;rw[hde] at hrep;have hrep2:bL bE w3 rv2 e.D.tick.2:=p1.at;have hfr:=(aa HP).repf;have hszb:=(aa HB).b.size;obtain⟨ya,yn,yc,rfl⟩:=p1.sl;clear p1 p2 p3 hdm hde hnum c1 HRA HP HNUM;have hE0:=hst.est (ob:=ob) (O:=O) (bA.on (aa HO) (aa HB).b) (aa HDJ);have hOr:=hrep;have SR:=dl hrep.at hrep2;have HE0:=ae hE0;have HRP:=ae hrep;have HNF:=ae hnf;have HFR:=ae hfr;clear hE0 hst hrep hrep2 hOr hnf hfr hszb
 go_wp2_with fail
 refine SR.mono ?_;rintro e w4 ⟨rfl,hb4⟩;have hE4:=(aa HE0).on hb4;have hsB:=(aa HB).b.size
 have c2:w4.cell? ⟨wb,2,none⟩=some (.pointer (some ⟨ob,0,none⟩)):=by
  rw[World.cell?_of_block (a:=⟨wb,2,none⟩) (hE4.frm.block wb (by show wb<_; omega) (aa HWN))]
  exact((aa HB).b.cell (p:=⟨wb,2,none⟩) hlw).trans (aa HCW)
 have KR:=fZ hE4.own ((aa HRP).on hb4) (fun s hs g hg q=>by
  have z1:=aa HFR g q;have z2:=bA.lt (aa HO) (k:=g) (Or.inr (Or.inr (Or.inr (Or.inr (Or.inr (Or.inr ⟨s,Or.inr (Or.inr (Or.inl hs)),hg⟩))))));omega) hlr
 have HE4:=ae hE4;clear SR hb4 hE4 HE0 HRP
 go_wp2_with fail
 refine KR.mono ?_;intro e w5 hK
 obtain⟨rfl,O',hE5⟩:=ip.keepR (aa HE4) (aa H4) (by have:=(aa HG); omega) (fun k q=>⟨aa HFR k q,aa HNF k q⟩) hK ⟨by omega,by omega,by omega,by omega,by omega⟩
 have HE5:=ae (hE5.pre (aa HB).b);clear hE5 hK c2 KR HE4
 go_wp2_with fail
 go_ret;exact⟨rfl,_,O',aa HE5⟩
end
def WrQ (w:World)(fb:Nat)(Ψ:Nat->Prop)(F:FM)(n:Nat)(es:Nat->Nat->Int)(e:Ending)(w':World):Prop:=
 (∃r:Int,r≠0/\e=.returned (.tuple #[(),r])/\Below w.heap.size w w'/\((n=0/\r=8)\/(0<n/\100<=F.ver/\r=11)\/(0<n/\F.ver<100/\∃k LSk LS',k<n/\mE ((F.ver:Int)+1) es F.LS k LSk/\iq ((F.ver:Int)+1) (es k) LSk r LS'))) \/
 (0<n/\F.ver<100/\e=.returned (.tuple #[.int .i64 ((F.ver:Int)+1),()])/\aE Ψ w w'/\∃LS',mE ((F.ver:Int)+1) es F.LS n LS'/\∀FL',FVer LS' (F.ver+1) (fun v=>if v=F.ver+1 then FL' else F.FLs v)->eR w' fb (NewS Ψ w.heap.size) (F.write Oz LS' FL'))
theorem Write_pin (fb : Nat) (Ψ : Nat → Prop) (F : FM) (bv : Value) (n : Nat) (es : Nat → Nat → Int) (w : World) (h : eR w fb Ψ F) (ho : Ok Oz F) (hv : mD 25 w bv n es) (hn : n ≤ 8) :
    Calls prog 44 #[.pointer (some ⟨fb, 0, none⟩), bv] w fun e w' => WrQ w fb Ψ F n es e w' := by
  obtain ⟨X, sl, pv, W, h, hΨ⟩ := h
  have hf := h.blk
  have h100 := ho.v100
  have hls := h.ver.len
  have hs := h.mem.sto
  have AP := Apply_any X.sb 0 F.ver sl pv F.LS bv n es w hs.blk hs.own (by omega) hv hn (by omega)
  have c6 := (aq.cells hf).2.2.2.2.2.2.1
  have hsl : ∃ oa m c, bv = .slice oa m c := by obtain ⟨oa, c, e, _⟩ := hv; exact ⟨oa, n, c, e⟩
  obtain ⟨oa, m, c, rfl⟩ := hsl
  have HH := ae h
  have HO := ae ho
  have HS := ae hs
  clear h hf ho hs hv
  go_enter func44, ntmps44
  go_wp2_with fail
  refine AP.mono ?_
  rintro e w1 (⟨h0, rfl, hb⟩ | ⟨h0, h1, rfl, hb⟩ | ⟨h0, h1, k, LSk, hk, ⟨rfl, rfl, hg, sl', hb1, ho1⟩ | ⟨hkn, r, LS', hE, hr, rfl, hb⟩⟩)
  · have HB : Hid (WrQ w fb Ψ F n es (.returned (.tuple #[(), (8 : Int)])) w1) := Or.inl ⟨8, by decide, rfl, hb, Or.inl ⟨h0, rfl⟩⟩
    clear hb AP
    go_wp2_with fail
    go_ret2
    exact aa HB
  · have HB : Hid (WrQ w fb Ψ F n es (.returned (.tuple #[(), (11 : Int)])) w1) := Or.inl ⟨11, by decide, rfl, hb, Or.inr (Or.inl ⟨by omega, by omega, rfl⟩)⟩
    clear hb AP
    go_wp2_with fail
    go_ret2
    exact aa HB
  · have h := aa HH
    have ho := aa HO
    have hs := aa HS
    have hsb := hs.lt
    have hF1 : aE (fun q => q = X.sb) w w1 := (aE.rfl' _ _).grown hg (fun q hq _ => (Option.some.inj hq).symm)
    have hs1 : dD w1 X.sb 0 ((F.ver : Int) + 1) sl' pv LSk (ri F.PI) := ⟨hb1, ho1.mono (by omega), hs.pins.same fun g hg' => hF1.block g (hs.slt.2 g hg') (fun q => by
      obtain ⟨c, hc⟩ := hs.pins.ty hg'
      exact aI hc hs.blk (by decide) q)⟩
    have hf1 : aq w1 fb X := aQ h.blk hF1 (aI h.blk hs.blk (by decide))
    have ht1 := h.mem.til.frm hF1 (fun g hg' => au h.mem.til hs.blk (by decide) g hg')
    have hlk : LSk.length ≤ F.LS.length + k := mE.len hk
    have hbt : aA F.tiles ≤ 2000 := by have := ho.byt; have := ho.rm; omega
    have hlt : F.tiles.length ≤ 10000000 := by
      have h7 : ∀ t ∈ F.tiles, 7 ≤ t.body.size := fun t ht => by
        obtain ⟨a, b⟩ := ho.til t ht
        rw [b]; exact (ho.hi.bod F.ver aD t.k a).1
      have := f5 F.tiles h7
      omega
    have DT := kS fb X ((F.ver : Int) + 1) ((F.ver : Int) + 1) sl' pv LSk (ri F.PI) F.tiles w1 hf1 hs1 (by omega) (by omega) (by omega) ht1 (fun t ht => (ho.til t ht).1) hlt
    have H1 := ae (And.intro hF1 (And.intro hs1 hf1))
    have HK := ae hk
    have HOF := ae (show ∀ g, sl'.ownBlock = some g → w.heap.size ≤ g from fun g hg' => (ho1.lt g hg').1)
    clear h ho hs hF1 hs1 hf1 ht1 hk hg hb1 ho1 AP
    go_wp2_with fail
    refine DT.mono ?_
    rintro e w2 ⟨rfl, ⟨tv2, hf2, ht2, htf⟩, hF2⟩
    have HQ : Hid (WrQ w fb Ψ F k es (.returned (.tuple #[.int .i64 ((F.ver : Int) + 1), ()])) w2) := by
      obtain ⟨hF1, hs1, hf1⟩ := aa H1
      have h := aa HH
      have ho := aa HO
      have hsz1 := hF1.size
      have h4 : 4 ≤ w.heap.size := h.glb.1
      have hFw : aE (fun q => q = fb ∨ q = X.sb) w w2 := (hF1.mono (S' := fun q => q = fb ∨ q = X.sb) fun q _ e => Or.inr e).then hF2 (fun q _ e => Or.inl e)
      have hs2 := hs1.fb hf1 hF2
      refine Or.inr ⟨h0, by omega, rfl, hFw.mono fun q _ e => by rcases e with rfl | rfl
                                                                 · exact hΨ _ aw.iF
                                                                 · exact hΨ _ aw.iS, LSk, aa HK, fun FL' hV => ?_⟩
      have nb : ∀ {α : Type} {R : dR α} {T : TypeId} {v : Value} {l : List α}, ah R T w v l → T ≠ 129 → T ≠ 119 → ah R T w2 v l := fun ho h1 h2 => ho.frm hFw (fun g hg q => by
        rcases q with q | q
        · exact au ho h.blk h1 g hg q
        · exact au ho h.mem.sto.blk h2 g hg q)
      have hsub : ∀ q, aw fb { X with tv := tv2 } sl' pv W q → aw fb X sl pv W q ∨ w.heap.size ≤ q := fun q hq => hq.elim (Or.inl aw.iF) (Or.inl aw.iS) (fun q e => Or.inr (aa HOF q e)) (fun q e => Or.inl (aw.iP e)) (fun q e => Or.inl (aw.iW e)) (fun q e => Or.inl (aw.iN e)) (fun q e => Or.inl (aw.iK e)) (fun q e => Or.inr (by have := htf q e; omega)) (fun i u hu => ⟨Or.inl (aw.iG hu), fun q e => Or.inl (aw.iR hu e)⟩)
      refine ⟨{ X with tv := tv2 }, sl', pv, W, ⟨hf2, ⟨h.num.q, h.num.wt, h.num.ch, h.num.nw, h.num.ar, h.num.st, h.num.rm⟩, ⟨h.pu.wks, fun i u hu => ?_, h.pu.dis⟩, hV, ⟨?_, nb h.mem.wai (by decide) (by decide), nb h.mem.lin (by decide) (by decide), ?_, nb h.mem.wkv (by decide) (by decide), fun i u hu => ?_⟩, ?_, fun q hq => (hsub q hq).elim (h.lo q) (fun e => by omega)⟩, fun q hq => (hsub q hq).imp (hΨ q) id⟩
      · have hfl := (ho.flt u.f (wk_fls h.pu.wks hu)).1
        have e : (F.write Oz LSk FL').FLs u.f.reads = F.FLs u.f.reads := by
          show (if u.f.reads = F.ver + 1 then FL' else F.FLs u.f.reads) = _
          rw [if_neg (by omega)]
        rw [e]
        exact h.pu.rd i u hu
      · exact hs2
      · show ah aW 196 w2 tv2 (F.tiles.filter fun t => decide (eA ((F.ver + 1 : Nat) : Int) t.k LSk ≤ (F.ver : Int)))
        have e : (F.tiles.filter fun t => decide (eA ((F.ver + 1 : Nat) : Int) t.k LSk ≤ (F.ver : Int))) = F.tiles.filter fun t => decide (eA ((F.ver : Int) + 1) t.k LSk ≤ (F.ver : Int) + 1 - 1) := by
          congr 1; funext t; congr 1; rw [show (F.ver : Int) + 1 - 1 = F.ver by omega]; rfl
        rw [e]
        exact ht2
      · obtain ⟨a, b⟩ := h.mem.wat i u hu
        refine ⟨aQ a hFw (fun q => ?_), nb b (by decide) (by decide)⟩
        rcases q with q | q
        · exact aI a h.blk (by decide) q
        · exact aI a h.mem.sto.blk (by decide) q
      · exact h.glb.frm hFw fun q e => by
          rcases e with rfl | rfl
          · exact h.lo _ aw.iF
          · exact h.lo _ aw.iS
    clear hf2 ht2 htf hF2 H1 HK HOF DT
    go_wp2_with fail
    go_ret2
    exact aa HQ
  · have HB : Hid (WrQ w fb Ψ F n es (.returned (.tuple #[(), r])) w1) := Or.inl ⟨r, hr, rfl, hb, Or.inr (Or.inr ⟨by omega, by omega, k, LSk, LS', hkn, hk, hE⟩)⟩
    clear hb AP hE hk
    go_wp2_with fail
    go_ret2
    exact aa HB
theorem Write_big {w:World}{fb:Nat}{X:FV}{v:Value}{n:Nat}{es:Nat->Nat->Int}(hf:aq w fb X)(hv:mD 25 w v n es)(h8:8<n):
  Calls prog 44 #[.pointer (some ⟨fb,0,none⟩),v] w fun e w'=>e=.returned (.tuple #[(),(8:Int)])/\w=w':=by
 have AP:=Apply_big hv h8 X.sb;have c6:=(aq.cells hf).2.2.2.2.2.2.1
 have hsl:∃oa m c,v=.slice oa m c:=by obtain⟨oa,c,e,_⟩:=hv; exact⟨oa,n,c,e⟩
 obtain⟨oa,m,c,rfl⟩:=hsl;clear hf hv;go_enter func44,ntmps44
 go_wp2_with fail
 refine AP.mono ?_;rintro e w1 ⟨rfl,rfl⟩
 go_wp2_with fail
 go_ret2
 exact⟨rfl,rfl⟩
def RefR (bs:List bK)(b:bK)(r:Int):Prop:=
 ((b.length<1\/8<b.length)/\r=8)\/(1<=b.length/\b.length<=8/\100<=bs.length/\r=11) \/
 (1<=b.length/\b.length<=8/\bs.length<100/\∃k,k<b.length/\(∀j,j<k->fF (jX (dk bs bs.length) (gf b) j) (gf b j)=0)/\fF (jX (dk bs bs.length) (gf b) k) (gf b k)=r/\r≠0)
def AccR (bs:List bK)(b:bK):Prop:=1<=b.length/\b.length<=8/\bs.length<100/\∀j,j<b.length->fF (jX (dk bs bs.length) (gf b) j) (gf b j)=0
theorem RefR.not {bs:List bK}{b:bK}{r:Int}(h:RefR bs b r)(h':AccR bs b):False:=by
 obtain⟨a1,a2,a3,a4⟩:=h'
 rcases h with⟨h,_⟩|⟨_,_,h,_⟩|⟨_,_,_,k,hk,_,h1,h2⟩
 ·omega
 ·omega
 exact h2 (by rw[<-h1]; exact a4 k hk)
theorem RefR.one {bs:List bK}{b:bK}{r r':Int}(h:RefR bs b r)(h':RefR bs b r'):r=r':=by
 rcases h with⟨h,e⟩|⟨a,c,h,e⟩|⟨a,c,d,k,hk,h0,h1,h2⟩
 ·rcases h' with⟨_,e'⟩|⟨a',c',_⟩|⟨a',c',_⟩
  ·rw[e,e']
  ·omega
  omega
 ·rcases h' with⟨h',_⟩|⟨_,_,_,e'⟩|⟨_,_,d',_⟩
  ·omega
  ·rw[e,e']
  omega
 rcases h' with⟨h',_⟩|⟨_,_,d',_⟩|⟨_,_,_,k',hk',h0',h1',h2'⟩
 ·omega
 ·omega
 rcases Nat.lt_trichotomy k k' with q|q|q
 ·exact absurd (h1.symm.trans (h0' k q)) h2
 ·rw[<-h1,<-h1',q]
 exact absurd (h1'.symm.trans (h0 k' q)) h2'
theorem edN_rt {fs:List Ft}{e:Ft}(h:∀f∈fs,Rt f)(hx:fF fs e=0):∀f∈edN fs e,Rt f:=by
 intro f hf;unfold edN at hf;rw[if_pos hx] at hf;have hw:∀g∈wo fs (e 1),Rt g:=fun g hg=>h g (List.mem_filter.1 hg).1
 split at hf
 ·rename_i c
  rcases List.mem_append.1 hf with q|q
  ·exact hw f q
  simp only[List.mem_singleton] at q;subst q;unfold fF at hx;rw[if_pos c] at hx
  by_cases hr:right (eF e)=true
  ·exact ci hr
  rw[if_neg hr] at hx; cases hx
 exact hw f hf
theorem edT_rt {fs:List Ft}{es:Nat->Ft}(h:∀f∈fs,Rt f):∀k,(∀j,j<k->fF (jX fs es j) (es j)=0)->∀f∈jX fs es k,Rt f
 | 0,_=>h
 | k+1,hx=>edN_rt (edT_rt h k fun j hj=>hx j (by omega)) (hx k (by omega))
theorem ke.more {bs:List bK}{b:bK}(h:ke bs)(ha:AccR bs b):ke (bs++[b]):=by
 obtain⟨a1,a2,a3,a4⟩:=ha
 have hl:(bs++[b]).length=bs.length+1:=by simp
 refine⟨by omega,fun k hk=>?_,fun v hv=>?_⟩
 ·rcases Nat.lt_or_ge k bs.length with q|q
  ·rw[lr q]; exact h.b8 k q
  have:k=bs.length:=by omega
  subst this
  rw[lu]; exact a2
 rcases Nat.lt_or_ge bs.length v with q|q
 ·have:v=bs.length+1:=by omega
  subst this;rw[pI];intro i hi;refine edT_rt (fun f hf=>?_) _ a4 _ (gp hi);obtain⟨j,hj,e⟩:=jS hf;rw[<-e];exact h.rt _ aD j hj
 rw[gx q]; exact h.rt v q
def wrP (bs:List bK)(b:bK)(e:En):Bool:=decide (fB (bs++[b]) (bs.length+1) e.k<=bs.length)
def RWrP (w:World)(fb:Nat)(X:RV)(keep:Int)(bv pv:Value)(SL:List cA)(bs:List bK)(PI:List Int)(rq:List Rq)(jb:List Jb)(en:List En)(b:bK)(e:Ending)(w':World):Prop:=
 (∃r:Int,RefR bs b r/\e=.returned (.tuple #[(),r])/\Below w.heap.size w w') \/
 (AccR bs b/\e=.returned (.tuple #[.int .i64 ((bs.length+1:Nat):Int),()])/\aE (fun k=>k=fb\/k=X.sb\/bv.ownBlock=some k) w w' /\
  ∃ev' bv' s,aF w' fb { X with ev:=ev' }/\cE w' { X with ev:=ev' } rq jb (en.filter (wrP bs b))/\eV w' X.sb keep bv' pv (SL++[s]) (bs++[b]) PI/\(∀g,ev'.ownBlock=some g->w.heap.size<=g)/\(bv'.ownBlock=bv.ownBlock\/∀g,bv'.ownBlock=some g->w.heap.size<=g)/\∀g,s.v.ownBlock=some g->w.heap.size<=g)
theorem filtSnoc {α:Type}{p:α->Bool}{l:List α}{k:Nat}{a:α}(h:l[k]?=some a):(l.take (k+1)).filter p=(l.take k).filter p++(if p a then [a] else []):=by
 rw[be h,List.filter_append]
 congr 1
 by_cases e:p a=true
 ·rw[if_pos e,List.filter_cons_of_pos e,List.filter_nil]
 rw[if_neg e,List.filter_cons_of_neg e,List.filter_nil]
section
variable {w:World}{fb:Nat}{X:RV}{keep:Int}{bv pv:Value}{SL:List cA}{bs:List bK}{PI:List Int}
theorem lM (v:Value)(b:bK)(rq:List Rq)(jb:List Jb)(en:List En)(hf:aF w fb X)(hm:cE w X rq jb en)(hR:eV w X.sb keep bv pv SL bs PI)(hB:ke bs)(hv:bL rE w v b)(hel:en.length<=50000):
  Calls prog 45 #[.pointer (some ⟨fb,0,none⟩),v] w fun e w'=>RWrP w fb X keep bv pv SL bs PI rq jb en b e w':=by
 have AP:=rApply_any v b hR hv hB.n hB.b8;have c5:w.cell? ⟨fb,5,none⟩=some (.pointer (some ⟨X.sb,0,none⟩)):=aF.c hf 5 rfl
 have hvs:∃oa m c,v=.slice oa m c:=by obtain⟨oa,c,e,_⟩:=hv; exact⟨oa,_,c,e⟩
 obtain⟨va,vn,vc,rfl⟩:=hvs;have HF:=ae hf;have HM:=ae hm;have HR:=ae hR;have HB:=ae hB;have hsz0:fb<w.heap.size:=an hf;clear hf hm hR hB hv;go_enter func45,ntmps45
 go_wp2_with fail
 refine AP.mono ?_;rintro e w1 (⟨h1,rfl,hb1⟩|⟨h1,h2,h3,rfl,hb1⟩|⟨h1,h2,h3,k,r,hk,hj,hr,hr0,rfl,hb1⟩|⟨h1,h2,h3,hj,rfl,hF1,bv',s,hR1,hf1,hs1⟩)
 ·have HQ:Hid (RWrP w fb X keep bv pv SL bs PI rq jb en b (.returned (.tuple #[(),(8:Int)])) w1):=Or.inl ⟨8,Or.inl ⟨h1,rfl⟩,rfl,hb1⟩
  clear hb1 AP c5 h1
  go_wp2_with fail
  go_ret2
  exact aa HQ
 ·have HQ:Hid (RWrP w fb X keep bv pv SL bs PI rq jb en b (.returned (.tuple #[(),(11:Int)])) w1):=Or.inl ⟨11,Or.inr (Or.inl ⟨h1,h2,h3,rfl⟩),rfl,hb1⟩
  clear hb1 AP c5 h1 h2 h3
  go_wp2_with fail
  go_ret2
  exact aa HQ
 ·have HQ:Hid (RWrP w fb X keep bv pv SL bs PI rq jb en b (.returned (.tuple #[(),r])) w1):=Or.inl ⟨r,Or.inr (Or.inr ⟨h1,h2,h3,k,hk,hj,hr,hr0⟩),rfl,hb1⟩
  have hrb:(r==0)=false:=by simpa using hr0
  clear hb1 AP c5 h1 h2 h3 hj hr hk
  go_wp2_with fail
  go_ret2
  exact aa HQ
 have hacc:AccR bs b:=⟨h1,h2,h3,hj⟩;have hB1:=(aa HB).more hacc
 have hT1:fQ (fun k=>k=X.sb\/bv.ownBlock=some k) w [121,40]:=fun q hq=>by
  rcases hq with rfl|hq
  ·exact⟨_,_,(aa HR).blk,by simp⟩
  obtain⟨c,e⟩:=(aa HR).bat.ty hq
  exact⟨_,_,e,by simp⟩
 have hf1':=bJ (aa HF) hF1 hT1 (by decide)
 have hm1:cE w1 X rq jb en:=⟨(aa HM).rq.frmT hF1 hT1 (by decide),(aa HM).jb.frmT hF1 hT1 (by decide),(aa HM).en.frmT hF1 hT1 (by decide)⟩
 have hlen:(bs++[b]).length=bs.length+1:=by simp
 have HACC:=ae hacc;have HF1:=ae hf1';have HM1:=ae hm1;have HR1:=ae hR1;have HB1:=ae hB1;have HFR1:=ae hF1;have HNEW:=ae (And.intro hf1 hs1);obtain⟨ea,ec,hev,hea⟩:=hm1.en.val;have HEV:=ae hev;have HEA:=ae hea;have hsz1:=hF1.size;obtain⟨V,hV⟩:∃V,bs.length=V:=⟨_,rfl⟩
 have hV1:wrap64 (V:Int)=(V:Int):=IntWalk.wrap64_in _ ⟨by omega,by omega⟩
 rw[hV];have HV:=ae hV;clear hacc hB1 hT1 hf1' hm1 hR1 hF1 hf1 hs1 hev hea hj AP c5 hV
 go_wp2_with fail
 go_loopw [8,9,10] (fun lv i _ wr=>∃k:Nat,k<=en.length/\i=.int .i64 k/\Hid (ah iM 162 wr lv ((en.take k).filter (wrP bs b)))/\Hid (∀g,lv.ownBlock=some g->w1.heap.size<=g)/\Hid (Below w1.heap.size w1 wr)) (fun _ i _ _=>en.length-(intOf i).toNat)
 case atStart=>exact⟨0,by omega,rfl,ae (by simpa using aU),ae (fun g hg=>by simp[Value.ownBlock] at hg),ae bu⟩
 case round=>
  obtain⟨k,hk,rfl,ho,hfr,hb⟩:=hrel;have hfr':=ag (aa HF1) (aa hb)
  have c11:wr.cell? ⟨fb,11,none⟩=some (.slice ea en.length ec):=by rw[<-aa HEV]; exact aF.c hfr' 11 rfl
  have hsz:=(aa hb).size
  by_cases hlt:k<en.length
  ·have hkn:(k:Int)<en.length:=by omega
   obtain⟨eb,off,rfl⟩:=aa HEA (by omega)
   obtain⟨⟨⟨kl,kz,kx,ky⟩,bo,tg,us⟩,ht⟩:∃t,en[k]?=some t:=⟨_,List.getElem?_eq_getElem hlt⟩;have hoe:=((aa HM1).on (aa hb)).en;rw[aa HEV] at hoe;have hrow:wr.rangeAt eb (off+k*7) #[.int .i64 kl,.int .i64 kz,.int .i64 kx,.int .i64 ky].toList:=dV (hoe.row ht) rfl;have UN:=fH (V:Int) kl kz kx ky hfr' ((aa HR1).on (aa hb)) (aa HB1);obtain⟨L,hL⟩:∃L,fB (bs++[b]) (bs++[b]).length ⟨kl,kz,kx,ky⟩=L:=⟨_,rfl⟩;have hsn:=filtSnoc (p:=wrP bs b) ht
   have hwp:wrP bs b ⟨⟨kl,kz,kx,ky⟩,bo,tg,us⟩=decide ((L:Int)<=(V:Int)):=by
    unfold wrP;dsimp only;rw[<-hL,hlen,<-aa HV]
    by_cases q:fB (bs++[b]) (bs.length+1) ⟨kl,kz,kx,ky⟩<=bs.length
    ·rw[decide_eq_true q,decide_eq_true (by omega)]
    rw[decide_eq_false q,decide_eq_false (by omega)]
   rw[hL] at UN;rw[hwp] at hsn;have HSN:=ae hsn;have HOE:=ae hoe;have HFRW:=ae hfr';clear hoe hL hsn hwp hfr'
   go_wp2_with (refine bU 39 #[kl,kz,kx,ky] underlying39 rfl (bj _ _ _ _) eb (off+k*7) hrow rfl _ rfl rfl ?_)
   refine UN.mono ?_;rintro e w2 ⟨rfl,hb2⟩;have HB2:=ae ((aa hb).trans (hb2.mono (aa hb).size));have ho2:=(aa ho).on hb2
   have c11':w2.cell? ⟨fb,11,none⟩=some (.slice (some ⟨eb,off,none⟩) en.length ec):=by rw[<-aa HEV]; exact aF.c (ag (aa HFRW) hb2) 11 rfl
   have hrow2:w2.rangeAt eb (off+k*7) #[.int .i64 kl,.int .i64 kz,.int .i64 kx,.int .i64 ky,.string bo,.string tg,.int .i64 us].toList:=((aa HOE).on hb2).row ht
   by_cases hle:(L:Int)<=(V:Int)
   ·have hd:decide ((L:Int)<=(V:Int))=true:=decide_eq_true hle
    have hat:=aZ iM 162 w2 ⟨⟨kl,kz,kx,ky⟩,bo,tg,us⟩ #[kl,kz,kx,ky,bo,tg,us] rfl;have hbA:=aj w2 (.cells #[kl,kz,kx,ky,bo,tg,us] 162)
    have hll:((en.take k).filter (wrP bs b)).length<=k:=Nat.le_trans (List.length_filter_le _ _) (by rw[List.length_take]; omega)
    obtain⟨v7,w7,r1,r2,r3,r4⟩:=apEn (ho2.on hbA) hat (by simp only[List.length_singleton]; omega)
    have HO7:Hid (ah iM 162 w7 v7 ((en.take (k+1)).filter (wrP bs b))):=by show ah _ _ _ _ _; rw[aa HSN,hd]; exact r2
    have hszz:=(aa HB2).size
    have HB7:=ae (((aa HB2).alloc hszz (.cells #[kl,kz,kx,ky,bo,tg,us] 162)).grown r3 (by simp; omega) (fun g hg=>aa hfr g hg))
    have HF7:=ae (bN (aa hfr) r4 (by simp; omega))
    clear hat hbA r2 r3 r4 ho2 hb2 UN hrow c11 hle;simp only[hd]
    go_wp2_with (first|refine bU 162 #[kl,kz,kx,ky,bo,tg,us] underlying162 rfl (sz162 ⟨⟨kl,kz,kx,ky⟩,bo,tg,us⟩) eb (off+k*7) hrow2 rfl _ rfl rfl ?_|refine cP _ _ (bsEn ⟨⟨kl,kz,kx,ky⟩,bo,tg,us⟩ _ _ _ rfl rfl _) rfl ?_|(at_builtin; refine fS 133 r1 rfl _ _ rfl rfl rfl rfl ?_))
    go_roundw
    case rel=>exact⟨k+1,by omega,by go_num,HO7,HF7,HB7⟩
    case measure=>simp[intOf]; omega
   have hd:decide ((L:Int)<=(V:Int))=false:=decide_eq_false hle
   have HO7:Hid (ah iM 162 w2 u8 ((en.take (k+1)).filter (wrP bs b))):=by show ah _ _ _ _ _; rw[aa HSN,hd]; simpa using ho2
   clear ho2 hb2 UN hrow c11 hle hrow2;simp only[hd]
   go_wp2_with fail
   go_roundw
   case rel=>exact⟨k+1,by omega,by go_num,HO7,hfr,HB2⟩
   case measure=>simp[intOf]; omega
  have hkn:k=en.length:=by omega
  subst hkn;have hfz:=kr hfr' 11;have hown:=aa ho;rw[List.take_length] at hown;have hF2:aE (fun k=>k=fb) w1 (wr.setCell ⟨fb,11,none⟩ u8):=(aE.of_below (aa hb)).setCell u8 (fun _=>rfl)
  have HQ:Hid (RWrP w fb X keep bv pv SL bs PI rq jb en b (.returned (.tuple #[.int .i64 ((V+1:Nat):Int),()])) (wr.setCell ⟨fb,11,none⟩ u8)):=by
   have hm1:=aa HM1;obtain⟨n1,n2⟩:=aa HNEW
   refine Or.inr ⟨aa HACC,by rw[aa HV],?_,u8,bv',s,aF.set hfr' 11 u8 (RV.set_ev X u8),⟨hm1.rq.frm hF2 (fun g hg=>au hm1.rq (aa HF1) (by decide) g hg),hm1.jb.frm hF2 (fun g hg=>au hm1.jb (aa HF1) (by decide) g hg),hown.same (fun g hg=>Below.heap_setCell _ _ _ _ (by have:=aa hfr g hg; show g≠fb; omega))⟩,?_,fun g hg=>by have:=aa hfr g hg; omega,n1,n2⟩
   ·exact((aa HFR1).mono fun _ _ q=>Or.inr q).then (hF2.mono fun _ _ q=>Or.inl q) (fun _ _ q=>q)
   refine(aa HR1).frmT hF2 (fun q hq=>?_) (Ts:=[135]) (by decide) (by decide) (by decide) (by decide)
   rw[hq]
   exact⟨_,_,aa HF1,by simp⟩
  obtain⟨la,ln,lc,hlv⟩:=hown.sl;subst hlv;clear hown hF2 hfr'
  go_wp2_with fail
  go_ret2
  exact aa HQ
end
section
variable {F:FM}{D:DF}{n:Nat}{b:bK}
def oU (D:DF)(b:bK):List Ft:=(dk (D.bs++[b]) (D.bs.length+1)).map nf
theorem cF.vers (h:cF F D n):∀v:Nat,v<=(D.bs++[b]).length->(fun v=>if v=F.ver+1 then oU D b else F.FLs v) v=(dk (D.bs++[b]) v).map nf:=fun v hv=>by
 have hl:(D.bs++[b]).length=D.bs.length+1:=by simp
 have hver:=h.sim.ver
 by_cases c:v=F.ver+1
 ·show(if v=F.ver+1 then oU D b else F.FLs v)=_
  rw[if_pos c,c,hver]; rfl
 show(if v=F.ver+1 then oU D b else F.FLs v)=_
 rw[if_neg c,h.fls v (by omega),gx (by omega)]
theorem cF.write (h:cF F D n)(hb:b.length<=8)(hv:F.ver<100){LS':List Ft}(hp:PR LS' (D.bs++[b])):FVer LS' (F.ver+1) (fun v=>if v=F.ver+1 then oU D b else F.FLs v)/\cF (F.write Oz LS' (oU D b)) (D.write b) (n+1):=by
 have hl:(D.bs++[b]).length=D.bs.length+1:=by simp
 have hver:=h.sim.ver;have hfl:=h.vers (b:=b);have hfv:=fver_of hp hfl;rw[hl,<-hver] at hfv
 have hx:Nxt Oz F.LS F.ver F.FLs LS' (oU D b):=by
  refine⟨hi_of hfv.rel,fun v hv' k _=>?_⟩;show eA v k LS'=eA v k F.LS
  have e1:=hp.stm v (by omega) k.l k.z k.x k.y
  have e2:=h.pr.stm v (by omega) k.l k.z k.x k.y
  unfold eA
  rw[e1,e2,lj (by omega)]
 have h1:=h.ct;have h2:=h.rl;have h3:=h.now;have h4:=h.st
 refine⟨hfv,⟨h.ok.write hv hx,h.sim.write b (vs_of hp hfl),hp,?_,fun k hk=>?_,h.sml,by show D.ct<=5*(n+1); omega,by show D.rq.length<=n+1; omega,by show D.now<=n+1; omega,by show D.st<=n+1; omega⟩⟩
 ·exact hfl
 have hk':k<(D.bs++[b]).length:=hk
 rcases Nat.lt_or_ge k D.bs.length with q|q
 ·show(ff (D.bs++[b]) k).length<=8
  rw[lr q]; exact h.b8 k q
 have:k=D.bs.length:=by omega
 subst this;show(ff (D.bs++[b]) D.bs.length).length<=8
 rw[lu]; exact hb
end
section
variable {w w1 w2:World}{n:Nat}{e:EV}{b:bK}
def XWrP (w:World)(e:EV)(b:bK)(r:Ending)(w':World):Prop:=
 (∃c:Int,RefR e.D.bs b c/\r=.returned (.tuple #[(),c])/\Below w.heap.size w w') \/
 (AccR e.D.bs b/\r=.returned (.tuple #[.int .i64 ((e.D.bs.length+1:Nat):Int),()])/\aE e.P w w'/\∃LS',PR LS' (e.D.bs++[b])/\eR w' e.fb (NewS e.P w.heap.size) (e.F.write Oz LS' (oU e.D b)))
theorem ly {v:Value}(h:cO w n e)(hv:mD 25 w v b.length (gf b)):Calls prog 44 #[.pointer (some ⟨e.fb,0,none⟩),v] w fun r w'=>XWrP w e b r w':=by
 have hver:=h.m.sim.ver;have hmax:=h.m.pr.max
 by_cases h8:8<b.length
 ·exact(Write_big h.x.blk hv h8).mono fun r w' q=>Or.inl ⟨8,Or.inl ⟨Or.inr h8,rfl⟩,q.1,q.2▸Below.refl _ _⟩
 refine(Write_pin e.fb e.P e.F v b.length (gf b) w h.fro h.m.ok hv (by omega)).mono fun r w' q=>?_
 rcases q with⟨c,hc,he,hb,q⟩|⟨h0,h100,he,hF,LS',hA,hfr⟩
 ·refine Or.inl ⟨c,?_,he,hb⟩
  rcases q with⟨h0,rfl⟩|⟨h0,h1,rfl⟩|⟨h0,h1,k,LSk,LS',hk,hA,hE⟩
  ·exact Or.inl ⟨Or.inl (by omega),rfl⟩
  ·exact Or.inr (Or.inl ⟨by omega,by omega,by omega,rfl⟩)
  rw[hver] at hA hE;obtain⟨z1,z2⟩:=h.m.pr.no hA hE
  exact Or.inr (Or.inr ⟨by omega,by omega,by omega,k,hk,z1,z2,hc⟩)
 rw[hver] at hA
 obtain⟨z,hp⟩:=h.m.pr.yes (by omega) (by omega) hA
 obtain⟨hfv,_⟩:=h.m.write (by omega) h100 hp
 refine Or.inr ⟨⟨by omega,by omega,by omega,z⟩,?_,hF,LS',hp,hfr _ hfv⟩
 rw[he,hver]; rfl
theorem xwr_mid (h:cO w n e){r:Ending}(hP:XWrP w e b r w1):RD w1 e.rb e.Y e.bv e.SL e.D/\aE e.P w w1/\∃m c:Int,r=.returned (.tuple #[m,c]):=by
 rcases hP with⟨c,_,he,hb⟩|⟨_,he,hF,_⟩
 ·exact⟨h.r.on hb,aE.of_below hb,_,_,he⟩
 exact⟨h.mid hF,hF,_,_,he⟩
theorem mo (h:cO w n e)(hb:Below w.heap.size w w2):St2 w n e w2 e:=by
 have h':=h.on hb;exact⟨⟨h'.x,h'.r,h.m.still,h.lo⟩,aE.of_below hb,fun _ q=>Or.inl q,rfl,rfl⟩
theorem xwr_end (h:cO w n e){r r':Ending}(hP:XWrP w e b r w1)(hQ:RWrP w1 e.rb e.Y 0 e.bv (.slice none 0 0) e.SL e.D.bs [] e.D.rq e.D.jb e.D.en b r' w2):
  ∃(m c:Int) (e':_),r=.returned (.tuple #[m,c])/\r'=.returned (.tuple #[m,c])/\St2 w n e w2 e':=by
 rcases hP with⟨c,hc,he,hb⟩|⟨ha,he,hF,LS',hp,X',sl',pv',W',hf',hsub⟩
 ·rcases hQ with⟨c',hc',he',hb'⟩|⟨ha,_⟩
  ·have:=hc.one hc'
   subst this;exact⟨_,_,e,he,he',mo h (hb.trans (hb'.mono hb.size))⟩
  exact(hc.not ha).elim
 rcases hQ with⟨c',hc',_⟩|⟨_,he',hF',ev',bv',s,q1,q2,q3,q4,q5,q6⟩
 ·exact(hc'.not ha).elim
 have hR1:=h.mid hF;have h4:=hf'.glb.1;have hsz:=hF.size
 have hT1:fQ (fun k=>k=e.rb\/k=e.Y.sb\/e.bv.ownBlock=some k) w1 [135,158,165,162,121,40,100]:=fun k hk=>by
  rcases hk with q|q|q
  ·exact hR1.ty k (Or.inl (Or.inl q))
  ·exact hR1.ty k (Or.inr (Or.inl q))
  exact hR1.ty k (Or.inr (Or.inr (Or.inl q)))
 have hR:∀k,(k=e.rb\/k=e.Y.sb\/e.bv.ownBlock=some k)->e.R k:=fun k hk=>by
  rcases hk with q|q|q
  ·exact Or.inl (Or.inl q)
  ·exact Or.inr (Or.inl q)
  exact Or.inr (Or.inr (Or.inl q))
 have hf2:gF w2 e.fb X' sl' pv' W' (e.F.write Oz LS' (oU e.D b)):=hf'.frm hF' (fun k q q'=>fQ.no hf'.ty hT1 (by decide) q q') (fun k q=>h.lo k (hR k q))
 obtain⟨_,hm⟩:=h.m.write ha.2.1 (by have:=h.m.sim.ver; have:=ha.2.2.1; omega) hp
 have hnew:∀k,RDF e.rb { e.Y with ev:=ev' } bv' (e.SL++[s]) k->e.R k\/w1.heap.size<=k:=fun k q=>by
  rcases q with(q|q|q|q)|q|q|⟨t,ht,q⟩
  ·exact Or.inl (Or.inl (Or.inl q))
  ·exact Or.inl (Or.inl (Or.inr (Or.inl q)))
  ·exact Or.inl (Or.inl (Or.inr (Or.inr (Or.inl q))))
  ·exact Or.inr (q4 k q)
  ·exact Or.inl (Or.inr (Or.inl q))
  ·rcases oO q5 k q with z|z
   ·exact Or.inl (Or.inr (Or.inr (Or.inl z)))
   exact Or.inr z
  rcases List.mem_append.1 ht with ht|ht
  ·exact Or.inl (Or.inr (Or.inr (Or.inr ⟨t,ht,q⟩)))
  simp only[List.mem_singleton] at ht;subst ht;exact Or.inr (q6 k q)
 have hnum:=h.r.num;refine⟨_,_,⟨e.fb,X',sl',pv',W',e.F.write Oz LS' (oU e.D b),e.rb,{ e.Y with ev:=ev' },bv',e.SL++[s],e.D.write b⟩,he,he',⟨hf2,⟨q1,q2,q3,⟨hnum.q,hnum.wk,hnum.wt,hnum.ca,hnum.ch,hnum.nw,hnum.ct,hnum.st⟩⟩,hm,fun k q=>?_⟩,?_,fun k q=>?_,rfl,rfl⟩
 ·rcases hnew k q with z|z
  ·exact h.lo k z
  omega
 ·exact(hF.mono fun _ _ q=>Or.inl q).then hF' fun k _ q=>Or.inr (hR k q)
 rcases q with q|q
 ·rcases hsub k q with z|z
  ·exact Or.inl (Or.inl z)
  exact Or.inr z
 rcases hnew k q with z|z
 ·exact Or.inl (Or.inr z)
 exact Or.inr (by omega)
end
theorem bL.frm {α:Type}{R:dR α}{w w':World}{v:Value}{l:List α}{S:Nat->Prop}(h:bL R w v l)(hF:aE S w w')(hS:0<l.length->∀g,v.ownBlock=some g->¬S g):bL R w' v l:=by
 obtain⟨oa,cap,e,h1,h2,h3⟩:=h;refine⟨oa,cap,e,h1,h2,fun hn=>?_⟩;obtain⟨b,off,e',hlt,hc⟩:=h3 hn;refine⟨b,off,e',Nat.lt_of_lt_of_le hlt hF.size,fun i a hi j x hx=>?_⟩
 rw[World.cell?_of_block (a:=⟨b,off+i*R.wid+j,none⟩) (hF.block b hlt (hS hn b (by rw[e,e']; rfl)))]
 exact hc i a hi j x hx
section
variable {w:World}{e:EV}{n ob wb:Nat}{O:OL}{o:iH}
theorem na (h:cO w n e)(hO:io w ob O)(hdj:∀k,aX e k->¬OF ob O k)(h4:∀k,OF ob O k->4<=k)(hcw:w.cell? ⟨wb,2,none⟩=some (.pointer (some ⟨ob,0,none⟩)))(hwn:¬aX e wb)(hwo:¬OF ob O wb)(hlw:wb<w.heap.size)(hlr:O.RS.length<=10000000)(_hn:n<=2000000)(hle:O.ES.length<=10000000)(b:bK)(hB:bL rE w o.bat b)(hbl:b.length<=10000000)(hbt:0<b.length->∀g,o.bat.ownBlock=some g->¬aX e g/\¬OF ob O g)(hk:o.kind=14):
  Calls prog 14 #[.pointer (some ⟨wb,0,none⟩),.agg #[.pointer (some ⟨e.fb,0,none⟩),.pointer (some ⟨e.rb,0,none⟩)],.agg o.v] w fun r w'=>r=.returned (.bool true)/\∃e' O',ip w n e ob O w' e' O':=by
 have hb:=ie w e o;have HB:=ae hb;have c0:=hb.bx.c0;have k0:=(hb.bx.o 0).trans (show _=some (Value.int .i64 o.kind) from rfl);rw[hk] at k0;have h1:=h.on hb.b;have hlt:∀k,aX e k->k<w.heap.size:=fun k q=>h.lt q;obtain⟨hj12,hel,hby,hwk4,hwt50,hch1,hch8,hca⟩:=h.m.lens;have hbsk:=h.m.bs;have hm1:=h.m.ct;have hm2:=h.m.rl;have hm3:=h.m.now;have hm4:=h.m.st;have hsa:=h.m.sim.arr;have hsn:=h.m.sim.now;have hss:=h.m.sim.st;have HG:=ae h.x.glb.1;have HH:=ae h;have HH1:=ae h1;have HO:=ae hO;have HDJ:=ae hdj;have H4:=ae h4;have HCW:=ae hcw;have HWN:Hid (¬(aX e wb\/OF ob O wb)):=fun q=>q.elim hwn hwo;have HLT:=ae hlt;have HBS:=ae hbsk;have k11:=(hb.bx.o 11).trans (show _=some (Value.slice o.bo o.bn o.bc) from rfl);obtain⟨w1,hw1⟩:∃w1,((w.alloc (.cells #[.pointer (some ⟨e.fb,0,none⟩),.pointer (some ⟨e.rb,0,none⟩)] 59)).alloc (.cells o.v 44))=w1:=⟨_,rfl⟩;have HW1:=ae hw1;have HN:=ae (handed_any (.slice o.bo o.bn o.bc) b _ (bL.on (show bL rE w (.slice o.bo o.bn o.bc) b from hB) hb.b) hbl);have HBT:=ae hbt;have HBA:=ae (show bL rE w (.slice o.bo o.bn o.bc) b from hB);clear hb h1 h hO hdj h4 hcw hwn hwo hlt hbsk hB hbt hw1;go_enter func14,ntmps14
 go_wp2_with fail
 refine(aa HN).mono ?_;intro r w2 hH;rw[aa HW1] at HB HH1;rw[aa HW1] at hH;obtain⟨hb2,hH⟩:=hH;have hbx:FBx w w2 e o:=(aa HB).bx.on (aE.of_below (S:=fun _=>False) hb2) (fun _ q=>q.elim);have c0':=hbx.c0;have hd2:=(aa HH1).on hb2;have hBw2:Below w.heap.size w w2:=(aa HB).b.trans (hb2.mono (aa HB).b.size);have hO2:=bA.on (aa HO) hBw2;have HBW2:=ae hBw2;have HD2:=ae hd2;have HO2:=ae hO2;have HBX:=ae hbx;have HBF:=ae hb2;have hgs:w.heap.size<=w1.heap.size:=(aa HB).b.size
 rcases hH with⟨⟨c,hv⟩,rfl,rfl⟩|⟨⟨ad,c,hv⟩,rfl,hown⟩
 focus
  have HV:=ae hv;clear hv
  have HP:=ae (ly (b:=[]) (v:=.slice none 0 0) hd2 ⟨none,0,rfl,Nat.zero_le _,fun h=>absurd h (by simp)⟩)
  clear hd2 hO2 hbx hb2 hBw2 c0 k0 k11
  go_wp2_with fail
  refine(aa HP).mono ?_;intro r w3 hX;obtain⟨hR3,hF3,m,cc,rfl⟩:=xwr_mid (aa HD2) hX;have hbx3:=(aa HBX).on hF3 fun k q=>aa HLT k (Or.inl q);have c1:=hbx3.c1;have k11:=(hbx3.o 11).trans (show _=some (Value.slice o.bo o.bn o.bc) from rfl)
  have hat3:bL rE w3 (.slice o.bo o.bn o.bc) []:=((aa HBA).on (aa HBW2)).frm hF3 fun h0=>absurd h0 (by simp)
  have HQ:=ae (lM (.slice o.bo o.bn o.bc) [] e.D.rq e.D.jb e.D.en hR3.blk hR3.mem hR3.sto (aa HBS) hat3 (by omega))
  have HX:=ae hX;clear hX hR3 hF3 hbx3 hat3 c0'
  go_wp2_with fail
  refine(aa HQ).mono ?_;intro r w4 hY;obtain⟨m',c',e',e1,rfl,hst⟩:=xwr_end (aa HD2) (aa HX) hY;cases e1;have hbx4:=(aa HBX).on hst.frm fun k q=>aa HLT k q;have k11':=(hbx4.o 11).trans (show _=some (Value.slice o.bo o.bn o.bc) from rfl);rw[aa HV] at k11';have hE4:=(hst.est (aa HO2) (aa HDJ)).pre (aa HBF);have hsB:=(aa HB).b.size
  have c2:w4.cell? ⟨wb,2,none⟩=some (.pointer (some ⟨ob,0,none⟩)):=by
   rw[World.cell?_of_block (a:=⟨wb,2,none⟩) (hE4.frm.block wb (by show wb<_; omega) (aa HWN))]
   exact((aa HB).b.cell (p:=⟨wb,2,none⟩) hlw).trans (aa HCW)
  have HU:=ae (fun W=>mL c 0 0 none W)
  have HK:=ae (nK (v:=.slice none 0 0) (l:=[]) hE4.own aU (fun s _ g _ q=>by simp[Value.ownBlock] at q) hle)
  have HE4:=ae hE4;clear hY hst hE4 hbx4 c1 k11
  go_wp2_with fail
  refine(aa HU _).mono ?_;rintro r w5 ⟨rfl,rfl⟩
  go_wp2_with fail
  refine(aa HK).mono ?_;intro r w6 hK6
  obtain⟨rfl,O',hE6,i1,i2,i3,i4,i5⟩:=ip.keepE (aa HE4) (aa H4) (by have:=aa HG; omega) (fun k q=>by simp[Value.ownBlock] at q) hK6 ⟨by omega,by omega,by omega,by omega,by omega⟩
 rotate_left
 focus
  have HV:=ae hv;clear hv;have hH2:Hnd w2 w1.heap.size w1.heap.size b:=⟨hown⟩;have hg2:w1.heap.size<w2.heap.size:=hH2.lt;have HP:=ae (ly (b:=b) hd2 (hH2.at hbl));have HH2:=ae hH2;clear hd2 hO2 hbx hb2 hBw2 c0 k0 k11 hH2 hown
  go_wp2_with fail
  refine(aa HP).mono ?_;intro r w3 hX;obtain⟨hR3,hF3,m,cc,rfl⟩:=xwr_mid (aa HD2) hX;have hbx3:=(aa HBX).on hF3 fun k q=>aa HLT k (Or.inl q);have c1:=hbx3.c1;have k11:=(hbx3.o 11).trans (show _=some (Value.slice o.bo o.bn o.bc) from rfl);have hat3:bL rE w3 (.slice o.bo o.bn o.bc) b:=((aa HBA).on (aa HBW2)).frm hF3 fun h0 g q q'=>(aa HBT h0 g q).1 (Or.inl q')
  have HQ:=ae (lM (.slice o.bo o.bn o.bc) b e.D.rq e.D.jb e.D.en hR3.blk hR3.mem hR3.sto (aa HBS) hat3 (by omega))
  have HX:=ae hX;clear hX hR3 hF3 hbx3 hat3 c0'
  go_wp2_with fail
  refine(aa HQ).mono ?_;intro r w4 hY;obtain⟨m',c',e',e1,rfl,hst⟩:=xwr_end (aa HD2) (aa HX) hY;cases e1;have hbx4:=(aa HBX).on hst.frm fun k q=>aa HLT k q;have k11':=(hbx4.o 11).trans (show _=some (Value.slice o.bo o.bn o.bc) from rfl);have hE4:=(hst.est (aa HO2) (aa HDJ)).pre (aa HBF);have hsB:=(aa HB).b.size
  have hlt4:∀k,aX e k\/OF ob O k->k<w.heap.size:=fun k q=>by
   rcases q with q|q
   ·exact aa HLT k q
   exact bA.lt (aa HO) q
  have hz4:=hst.frm.size
  have c2:w4.cell? ⟨wb,2,none⟩=some (.pointer (some ⟨ob,0,none⟩)):=by
   rw[World.cell?_of_block (a:=⟨wb,2,none⟩) (hE4.frm.block wb (by show wb<_; omega) (aa HWN))]
   exact((aa HB).b.cell (p:=⟨wb,2,none⟩) hlw).trans (aa HCW)
  have hH4:Hnd w4 w1.heap.size w1.heap.size b:=(aa HH2).same (hst.frm.block _ hg2 fun q=>by have:=aa HLT _ q; omega)
  have hat4:bL rE w4 (.slice o.bo o.bn o.bc) b:=((aa HBA).on (aa HBW2)).frm hst.frm fun h0 g q q'=>(aa HBT h0 g q).1 q';rw[aa HV] at k11' hat4;have HU:=ae (mM w1.heap.size w1.heap.size ad c b w4 hH4 hat4 hbl);have HE4:=ae hE4;have HH4:=ae hH4
  have HND:=ae (show ¬aX e' w1.heap.size from fun q=>by
   rcases hst.foot _ q with q|q
   ·have:=aa HLT _ q; omega
   omega)
  have HC2:=ae c2;clear hY hst hE4 hbx4 c1 k11 hH4 hat4 c2
  go_wp2_with fail
  refine(aa HU).mono ?_;rintro r w5 ⟨rfl,hb5⟩
  have c2:=(hb5.cell (p:=⟨wb,2,none⟩) (by show wb<_; omega)).trans (aa HC2)
  have hE5:=(aa HE4).on hb5
  have hgn:∀k,(Value.slice (some ⟨w1.heap.size,0,none⟩) b.length (b.length+2)).ownBlock=some k->k=w1.heap.size:=fun k q=>by cases q; rfl
  have HK:=ae (nK (v:=.slice (some ⟨w1.heap.size,0,none⟩) b.length (b.length+2)) hE5.own ((aa HH4).on hb5).pre (fun s hs=>new_list (aa HO) (fun k q=>by rw[hgn k q]; exact hgs) s (Or.inr (Or.inr (Or.inr (Or.inr hs))))) hle)
  have HE5:=ae hE5;clear hb5 hE5
  go_wp2_with fail
  refine(aa HK).mono ?_;intro r w6 hK6
  obtain⟨rfl,O',hE6,i1,i2,i3,i4,i5⟩:=ip.keepE (aa HE5) (aa H4) (by have:=aa HG; omega) (fun k q=>by rw[hgn k q]; exact⟨Nat.le_refl _,aa HND⟩) hK6 ⟨by omega,by omega,by omega,by omega,by omega⟩
 all_goals
  have HEX:=ae hE6
  have hi3:O'.RS.length=O.RS.length:=by rw[i3]
  clear hE6 hK6 c2 k11';have SR:=dl (w:=w6) (v:=.slice none 0 0) (u:=.slice none 0 0) (l:=[]) (aU (R:=bE) (T:=103)).at (aU (R:=bE) (T:=103)).at
  go_wp2_with fail
  refine SR.mono ?_;rintro e w7 ⟨rfl,hb7⟩;have hE7:=(aa HEX).on hb7;have hsB:=(aa HB).b.size
  have c2:w7.cell? ⟨wb,2,none⟩=some (.pointer (some ⟨ob,0,none⟩)):=by
   rw[World.cell?_of_block (a:=⟨wb,2,none⟩) (hE7.frm.block wb (by show wb<_; omega) (aa HWN))]
   exact((aa HB).b.cell (p:=⟨wb,2,none⟩) hlw).trans (aa HCW)
  have KR:=fZ (v:=.slice none 0 0) (l:=[]) hE7.own aU (fun s hs g hg q=>by cases q) (by omega)
  have HE7:=ae hE7;clear SR hb7 hE7 HEX
  go_wp2_with fail
  refine KR.mono ?_;intro e w8 hK
  obtain⟨rfl,O2,hE8⟩:=ip.keepR (aa HE7) (fun k q=>by
   rcases(aa HE7).ost.foot k q with z|z
   ·exact aa H4 k z
   have:=aa HG; omega) (by have:=aa HG; omega) (fun k q=>by cases q) hK ⟨by rw[i1]; omega,by rw[i2]; omega,by omega,by rw[i4]; omega,by omega⟩
  have HE8:=ae (hE8.pre (aa HB).b);clear hE8 hK c2 KR HE7
  go_wp2_with fail
  go_ret;exact⟨rfl,_,O2,aa HE8⟩
end
theorem al55 (ev:Operand->Value)(o:Oper)(ho:o.op=.alloc 113)(w w1:World)(h1:w.alloc (.cells #[(),(),(),(),(),(),(),(),()] 113)=w1):(execOp ev o).run prog w=.ok (.value (.pointer (some ⟨w.heap.size,0,none⟩))) w1:=by
 rw[<-h1];unfold execOp;simp only[ho]
 kernel_rfl
theorem built55 (n a s:Int):prog.built 113 [(1,.int .i64 n),(2,.int .i64 a),(8,.int .i64 s)]=some #[.int .i64 0,.int .i64 n,.int .i64 a,.int .i64 0,.int .i64 0,.int .i64 0,.int .i64 0,.int .i64 0,.int .i64 s]:=by kernel_rfl
theorem bt55 {n a s:Int}(ev:Operand->Value)(o:Oper)(p q r:Operand)(ho:o.op=.build 113 #[(1,p),(2,q),(8,r)])(h1:ev p=.int .i64 n)(h2:ev q=.int .i64 a)(h3:ev r=.int .i64 s)(w:World):(execOp ev o).run prog w=.ok (.value (.agg #[.int .i64 0,.int .i64 n,.int .i64 a,.int .i64 0,.int .i64 0,.int .i64 0,.int .i64 0,.int .i64 0,.int .i64 s])) w:=by
 have hb:=run_build (P:=prog) w 113 #[(1,.int .i64 n),(2,.int .i64 a),(8,.int .i64 s)] _ (built55 n a s);unfold execOp;simp[ho,h1,h2,h3,hb]
theorem sz55 (a b c d e f g h i:Int):(prog.info? 113).map (·.size)=some (#[a,b,c,d,e,f,g,h,i]:Array Value).size:=by kernel_rfl
theorem lk_one (a b c d e f g h i:Int):(#[a,b,c,d,e,f,g,h,i]:Array Value).all (·.oneCell')=true:=by simp[Value.oneCell']
theorem eP {w:World}{g:Nat}{cs:Array Value}{T:TypeId}(h:w.heap[g]?=some (.cells cs T (0,0)))(i:Nat)(v:Value){cs':Array Value}(e:cs.setIfInBounds i v=cs'):(w.setCell ⟨g,i,none⟩ v).heap[g]?=some (.cells cs' T (0,0)):=by
 rw[<-e];simp[World.setCell,Array.getElem?_modify,h]
theorem me (w:World)(g:Nat)(cs:Array Value){k:Nat}(h:k≠g):(w.setRow g cs).heap[k]?=w.heap[k]?:=by
 have:=(aK (B:=0) (Below.refl 0 w) (Nat.zero_le g) cs);unfold World.setRow;simp[Array.getElem?_modify,Ne.symm h]
def cT (W:List (Option Wk)):Nat:=W.countP (·.isSome)
theorem busyW_take {W:List (Option Wk)}{k:Nat}{o:Option Wk}(h:W[k]?=some o):cT (W.take (k+1))=cT (W.take k)+(if o.isSome then 1 else 0):=by
 unfold cT;rw[be h,List.countP_append]
 cases o<;>simp
theorem busyW_le (W:List (Option Wk)):cT W<=W.length:=List.countP_le_length
theorem look_any (fb:Nat)(X:FV)(ver:Int)(sl pv:Value)(LS PL:List Ft)(ws:List dJ)(ls:List K4)(W:List (Option Wk))(ts:List aL)(w:World)(hf:aq w fb X)(hs:dD w X.sb 0 ver sl pv LS PL)(hw:bL cW w X.wv ws)(hl:bL bT w X.lv ls)(hk:f8 w X.kv W)(hts:bL aW w X.tv ts)(hbt:aA ts<=1000000000)(hlt_:ts.length<=100000000)(hl':W.length<=100):
  Calls prog 61 #[.pointer (some ⟨fb,0,none⟩)] w fun e w'=>e=.returned (.agg #[ver,X.nw,X.ar,(ws.length:Int),(ls.length:Int),(cT W:Int),(ts.length:Int),(aA ts:Int),X.st])/\Below w.heap.size w w':=by
 have hlt0:=an hf;obtain⟨w1,hw1⟩:∃w1,w.alloc (.cells #[(),(),(),(),(),(),(),(),()] 113)=w1:=⟨_,rfl⟩;have hb1:Below w.heap.size w w1:=hw1▸(Below.refl w.heap.size w).alloc aD (.cells #[(),(),(),(),(),(),(),(),()] 113);have h01:w1.heap[w.heap.size]?=some (.cells #[(),(),(),(),(),(),(),(),()] 113):=hw1▸heap_alloc_new w (.cells #[(),(),(),(),(),(),(),(),()] 113);have hf1:aq w1 fb X:=ag hf hb1;have HF:=ae hf;have HSP:=ae hs;have HTS:=ae hts;have HB1:=ae hb1;have H01:=ae h01;have HF1:=ae hf1;have HAL0:=ae (show ∀(ev:Operand->Value) (o:Oper),o.op=.alloc 113->(execOp ev o).run prog w=.ok (.value (.pointer (some ⟨w.heap.size,0,none⟩))) w1 from fun ev o q=>al55 ev o q w w1 hw1);obtain⟨oaw,capw,ew,_,_,_⟩:=hw;obtain⟨oal,capl,el,_,_,_⟩:=hl;obtain⟨⟨oak,capk,ek,_,_,hck⟩,_⟩:=hk;obtain⟨oat,capt,et,_,_,_⟩:=hts;rw[List.length_map] at ek hck;have HEW:=ae ew;have HEL:=ae el;have HEK:=ae ek;have HET:=ae et;have HCK:=ae hck;clear hf hs hw1 hb1 h01 hf1 ew el ek et hck;go_enter func61,ntmps61
 go_wp2_with (refine cP _ _ (aa HAL0 _ _ rfl) rfl ?_)
 clear HAL0
 refine wp_region_held (S:=fun w'=>aq w' fb X) (by kernel_rfl) ?_
 change wpAnyH _ _ _ _ _ _ _ _ (World.drew _);have hbD:=(aa HB1).drew;have hfd:aq (World.drew w1) fb X:=aa HF1;have h0d:(World.drew w1).heap[w.heap.size]?=some (.cells #[(),(),(),(),(),(),(),(),()] 113):=aa H01;generalize World.drew w1=w2 at hbD hfd h0d ⊢;obtain⟨w3,hw3⟩:∃w3,w2.alloc (.cells #[(),(),(),(),(),(),(),(),()] 113)=w3:=⟨_,rfl⟩;have hsz2:=hbD.size;have hb3:Below w.heap.size w w3:=hw3▸hbD.alloc hsz2 (.cells #[(),(),(),(),(),(),(),(),()] 113);have hA3:w3.heap[w2.heap.size]?=some (.cells #[(),(),(),(),(),(),(),(),()] 113):=hw3▸heap_alloc_new w2 (.cells #[(),(),(),(),(),(),(),(),()] 113)
 have hf3:aq w3 fb X:=hw3▸(heap_alloc_old w2 (.cells #[(),(),(),(),(),(),(),(),()] 113) (show fb<_ by have:=an hfd; omega)).trans hfd
 have h03:w3.heap[w.heap.size]?=some (.cells #[(),(),(),(),(),(),(),(),()] 113):=hw3▸(heap_alloc_old w2 (.cells #[(),(),(),(),(),(),(),(),()] 113) (show w.heap.size<_ by have:=an h0d; omega)).trans h0d
 have hg1:w.heap.size<w2.heap.size:=an h0d;have HW3:=ae hw3;obtain⟨g1,hg⟩:∃g1,w2.heap.size=g1:=⟨_,rfl⟩;have HAL:=ae (show ∀(ev:Operand->Value) (o:Oper),o.op=.alloc 113->(execOp ev o).run prog w2=.ok (.value (.pointer (some ⟨g1,0,none⟩))) w3 from fun ev o q=>hg▸al55 ev o q w2 w3 (aa HW3));rw[hg] at hA3 hg1;obtain⟨w4,hw4⟩:∃w4,w3.setRow g1 #[(),X.nw,X.ar,(),(),(),(),(),X.st]=w4:=⟨_,rfl⟩;have hA4:w4.heap[g1]?=some (.cells #[(),X.nw,X.ar,(),(),(),(),(),X.st] 113):=hw4▸setRow_heap _ _ _ #[(),X.nw,X.ar,(),(),(),(),(),X.st] _ _ hA3
 have hb4:Below w.heap.size w w4:=hw4▸aK hb3 (by omega) #[(),X.nw,X.ar,(),(),(),(),(),X.st]
 have hf4:aq w4 fb X:=ag (aa HF) hb4
 have h04:w4.heap[w.heap.size]?=some (.cells #[(),(),(),(),(),(),(),(),()] 113):=by rw[<-hw4]; exact(me w3 g1 _ (by omega)).trans h03
 have HST:=ae (show ∀(ev:Operand->Value) (o:Oper) (s t:Operand),o.op=.store 113 s t->ev s=.pointer (some ⟨g1,0,none⟩)->ev t=.agg #[(),X.nw,X.ar,(),(),(),(),(),X.st]->(execOp ev o).run prog w3=.ok .skip w4 from fun ev o s t q q1 q2=>hw4▸stR ev o s t 113 q #[(),X.nw,X.ar,(),(),(),(),(),X.st] #[(),(),(),(),(),(),(),(),()] (sz55 _ _ _ _ _ _ _ _ _) (lk_one _ _ _ _ _ _ _ _ _) rfl g1 q1 q2 w3 hA3);have H4:=ae (show Below w.heap.size w w4/\w4.heap[g1]?=some (.cells #[(),X.nw,X.ar,(),(),(),(),(),X.st] 113)/\w4.heap[w.heap.size]?=some (.cells #[(),(),(),(),(),(),(),(),()] 113)/\w.heap.size<g1 from⟨hb4,hA4,h04,hg1⟩);clear hb3 hA3 h03 hb4 hA4 h04 hw4 hw3 h0d hbD hsz2 HF1 H01 HB1;refine am 0 rfl fb 0 hfd ?_;refine am 1 rfl fb 0 hfd ?_;refine am 2 rfl fb 3 hfd ?_
 refine aH 3 rfl (.int .i64 X.nw) hfd ?_ (hy:=fun w' hw'=>by simp[go_sem,(aq.cells hw').2.2.2.1])
 refine am 4 rfl fb 0 hfd ?_;refine am 5 rfl fb 0 hfd ?_;refine am 6 rfl fb 4 hfd ?_
 refine aH 7 rfl (.int .i64 X.ar) hfd ?_ (hy:=fun w' hw'=>by simp[go_sem,(aq.cells hw').2.2.2.2.1])
 refine am 8 rfl fb 0 hfd ?_;refine am 9 rfl fb 0 hfd ?_;refine am 10 rfl fb 5 hfd ?_
 refine aH 11 rfl (.int .i64 X.st) hfd ?_ (hy:=fun w' hw'=>by simp[go_sem,(aq.cells hw').2.2.2.2.2.1])
 refine aH 12 rfl (.agg #[(),X.nw,X.ar,(),(),(),(),(),X.st]) hfd ?_ (hy:=fun w' _=>bt55 _ _ _ _ _ rfl rfl rfl rfl w');refine aV 13 ?_;refine bI 13 rfl rfl (.pointer (some ⟨g1,0,none⟩)) (w3) (aa HAL _ _ rfl) (hf3) ?_;simp only[qZ];refine aV 14 ?_;refine cL 14 rfl rfl (w4) (aa HST _ _ _ _ rfl rfl rfl) (hf4) ?_;simp only[Act.put]
 refine wpAnyH_done (by kernel_rfl) ?_ _
 clear HAL HST HW3 hg;obtain⟨hb4,hA4,h04,hg1⟩:=aa H4;have hs4:=(aa HSP).on hb4;have VE:=dQ X.sb 0 ver sl pv LS PL w4 hs4;have e6:w4.cell? ⟨fb,6,none⟩=some (.pointer (some ⟨X.sb,0,none⟩)):=(aq.cells hf4).2.2.2.2.2.2.1;obtain⟨wa,hwa⟩:∃W',w4.setCell ⟨g1,0,none⟩ (.int .i64 ver)=W':=⟨_,rfl⟩;have hAwa:wa.heap[g1]?=some (.cells #[ver,X.nw,X.ar,(),(),(),(),(),X.st] 113):=hwa▸eP hA4 0 (.int .i64 ver) rfl
 have hbwa:Below w.heap.size w wa:=hwa▸hb4.setCell (p:=⟨g1,0,none⟩) (by show w.heap.size<=g1; omega) _
 have h0wa:wa.heap[w.heap.size]?=some (.cells #[(),(),(),(),(),(),(),(),()] 113):=by rw[<-hwa]; exact(Below.heap_setCell w4 ⟨g1,0,none⟩ _ w.heap.size (by show w.heap.size≠g1; omega)).trans h04
 have ccwa:=af hA4 0;have fzwa:=bi hA4 0;have hfwa:aq wa fb X:=ag (aa HF) hbwa;obtain⟨wb,hwb⟩:∃W',wa.setCell ⟨g1,3,none⟩ (.int .i64 (ws.length:Int))=W':=⟨_,rfl⟩;have hAwb:wb.heap[g1]?=some (.cells #[ver,X.nw,X.ar,(ws.length:Int),(),(),(),(),X.st] 113):=hwb▸eP hAwa 3 (.int .i64 (ws.length:Int)) rfl
 have hbwb:Below w.heap.size w wb:=hwb▸hbwa.setCell (p:=⟨g1,3,none⟩) (by show w.heap.size<=g1; omega) _
 have h0wb:wb.heap[w.heap.size]?=some (.cells #[(),(),(),(),(),(),(),(),()] 113):=by rw[<-hwb]; exact(Below.heap_setCell wa ⟨g1,3,none⟩ _ w.heap.size (by show w.heap.size≠g1; omega)).trans h0wa
 have ccwb:=af hAwa 3;have fzwb:=bi hAwa 3;have hfwb:aq wb fb X:=ag (aa HF) hbwb;obtain⟨wc,hwc⟩:∃W',wb.setCell ⟨g1,4,none⟩ (.int .i64 (ls.length:Int))=W':=⟨_,rfl⟩;have hAwc:wc.heap[g1]?=some (.cells #[ver,X.nw,X.ar,(ws.length:Int),(ls.length:Int),(),(),(),X.st] 113):=hwc▸eP hAwb 4 (.int .i64 (ls.length:Int)) rfl
 have hbwc:Below w.heap.size w wc:=hwc▸hbwb.setCell (p:=⟨g1,4,none⟩) (by show w.heap.size<=g1; omega) _
 have h0wc:wc.heap[w.heap.size]?=some (.cells #[(),(),(),(),(),(),(),(),()] 113):=by rw[<-hwc]; exact(Below.heap_setCell wb ⟨g1,4,none⟩ _ w.heap.size (by show w.heap.size≠g1; omega)).trans h0wb
 have ccwc:=af hAwb 4;have fzwc:=bi hAwb 4;have hfwc:aq wc fb X:=ag (aa HF) hbwc
 have c7:wa.cell? ⟨fb,7,none⟩=some (.slice oaw ws.length capw):=by rw[<-aa HEW]; exact(aq.cells hfwa).2.2.2.2.2.2.2.1
 have c8:wb.cell? ⟨fb,8,none⟩=some (.slice oal ls.length capl):=by rw[<-aa HEL]; exact(aq.cells hfwb).2.2.2.2.2.2.2.2.1
 have HC:=ae (show Below w.heap.size w wc/\wc.heap[g1]?=some (.cells #[ver,X.nw,X.ar,(ws.length:Int),(ls.length:Int),(),(),(),X.st] 113)/\wc.heap[w.heap.size]?=some (.cells #[(),(),(),(),(),(),(),(),()] 113) from⟨hbwc,hAwc,h0wc⟩);have S1:=ae (fun(ev:Operand->Value) (o:Oper) (s t:Operand) (q:o.op=.store 3 s t) q1 q2=>kO ev o s t q g1 0 ver q1 q2 w4 wa ccwa fzwa hwa);have S2:=ae (fun(ev:Operand->Value) (o:Oper) (s t:Operand) (q:o.op=.store 3 s t) q1 q2=>kO ev o s t q g1 3 (ws.length:Int) q1 q2 wa wb ccwb fzwb hwb);have S3:=ae (fun(ev:Operand->Value) (o:Oper) (s t:Operand) (q:o.op=.store 3 s t) q1 q2=>kO ev o s t q g1 4 (ls.length:Int) q1 q2 wb wc ccwc fzwc hwc);clear hfd hf3 hf4 H4 hb4 hA4 h04 hs4 hwa hAwa hbwa h0wa ccwa fzwa hfwa hwb hAwb hbwb h0wb ccwb fzwb hfwb hwc hAwc hbwc h0wc ccwc fzwc hfwc
 go_wp2_with fail
 refine VE.mono ?_;rintro e wv ⟨rfl,rfl⟩;clear VE e6
 go_wp2_with (first|refine cU wa (aa S1 _ _ _ _ rfl rfl rfl) rfl ?_|refine cU wb (aa S2 _ _ _ _ rfl rfl (by simp[go_sem])) rfl ?_|refine cU wc (aa S3 _ _ _ _ rfl rfl (by simp[go_sem])) rfl ?_)
 clear S1 S2 S3 c7 c8
 go_loopw [4] (fun i wr=>∃k:Nat,k<=W.length/\i=.int .i64 k/\Hid (Below w.heap.size w wr/\wr.heap[g1]?=some (.cells #[ver,X.nw,X.ar,(ws.length:Int),(ls.length:Int),.int .i64 (cT (W.take k):Int),(),(),X.st] 113)/\wr.heap[w.heap.size]?=some (.cells #[(),(),(),(),(),(),(),(),()] 113))) (fun i _=>W.length-(intOf i).toNat)
 case atStart=>exact⟨0,by omega,rfl,ae (by simpa[cT] using aa HC)⟩
 case round=>
  obtain⟨k,hk,rfl,hr⟩:=hrel;obtain⟨hb,hA,h0⟩:=aa hr
  have c9:wr.cell? ⟨fb,9,none⟩=some (.slice oak W.length capk):=by rw[<-aa HEK]; exact(aq.cells (ag (aa HF) hb)).2.2.2.2.2.2.2.2.2.1
  by_cases hlt:k<W.length
  ·have hkn:(k:Int)<W.length:=by omega
   obtain⟨b,off,rfl,hbl,hc0⟩:=aa HCK (by omega)
   obtain⟨o,ht⟩:∃t,W[k]?=some t:=⟨_,List.getElem?_eq_getElem hlt⟩
   have hp0:w.cell? ⟨b,off+k,none⟩=some (ptr (o.map Wk.g)):=by
    have:=hc0 k (o.map Wk.g) (by rw[List.getElem?_map,ht]; rfl) 0 _ rfl
    rwa [show off+k*fK.wid+0=off+k by simp[fK]] at this
   have hp:=(hb.cell (p:=⟨b,off+k,none⟩) hbl).trans hp0;have hct:=busyW_take ht;have hcl:=busyW_le (W.take k);rw[List.length_take] at hcl
   cases o with
   | none=>
    have hp':wr.cell? ⟨b,off+k,none⟩=some (.pointer none):=hp
    have HN:Hid (Below w.heap.size w wr/\wr.heap[g1]?=some (.cells #[ver,X.nw,X.ar,(ws.length:Int),(ls.length:Int),.int .i64 (cT (W.take (k+1)):Int),(),(),X.st] 113)/\wr.heap[w.heap.size]?=some (.cells #[(),(),(),(),(),(),(),(),()] 113)):=ae (by rw[hct]; exact aa hr)
    clear hp hp0 hc0 hct hb hA h0
    go_wp2_with fail
    go_roundw
    case rel=>exact⟨k+1,by omega,by go_num,ae (aa HN)⟩
    case measure=>simp[intOf]; omega
   | some u=>
    have hp':wr.cell? ⟨b,off+k,none⟩=some (.pointer (some ⟨u.g,0,none⟩)):=hp
    have hct':(cT (W.take (k+1)):Int)=(cT (W.take k):Int)+1:=by rw[hct]; simp
    have HCT:=ae hct';obtain⟨C,hC⟩:∃C:Int,(cT (W.take k):Int)=C:=⟨_,rfl⟩
    have hC0:0<=C/\C<=100:=by omega
    rw[hC] at hA HCT
    have hov:IntKind.i64.wrap (C+1)=C+1:=bG _ (by omega)
    have c5:wr.cell? ⟨g1,5,none⟩=some (.int .i64 C):=af hA 5;have fz5:=bi hA 5;obtain⟨wz,hwz⟩:∃W',wr.setCell ⟨g1,5,none⟩ (.int .i64 (C+1))=W':=⟨_,rfl⟩;have hAz:wz.heap[g1]?=some (.cells #[ver,X.nw,X.ar,(ws.length:Int),(ls.length:Int),.int .i64 (C+1),(),(),X.st] 113):=hwz▸eP hA 5 (.int .i64 (C+1)) rfl
    have hbz:Below w.heap.size w wz:=hwz▸hb.setCell (p:=⟨g1,5,none⟩) (by show w.heap.size<=g1; omega) _
    have h0z:wz.heap[w.heap.size]?=some (.cells #[(),(),(),(),(),(),(),(),()] 113):=by rw[<-hwz]; exact(Below.heap_setCell wr ⟨g1,5,none⟩ _ w.heap.size (by show w.heap.size≠g1; omega)).trans h0
    have S5:=ae (fun(ev:Operand->Value) (o:Oper) (s t:Operand) (q:o.op=.store 3 s t) q1 q2=>kO ev o s t q g1 5 (C+1) q1 q2 wr wz c5 fz5 hwz)
    have HN:Hid (Below w.heap.size w wz/\wz.heap[g1]?=some (.cells #[ver,X.nw,X.ar,(ws.length:Int),(ls.length:Int),.int .i64 (cT (W.take (k+1)):Int),(),(),X.st] 113)/\wz.heap[w.heap.size]?=some (.cells #[(),(),(),(),(),(),(),(),()] 113)):=ae (by rw[aa HCT]; exact⟨hbz,hAz,h0z⟩)
    clear hp hp0 hc0 hct hct' hC hA h0 hb hwz hAz hbz h0z fz5 hcl
    go_wp2_with (refine cU wz (aa S5 _ _ _ _ rfl rfl (by simp[go_sem])) rfl ?_)
    go_roundw
    case rel=>exact⟨k+1,by omega,by go_num,ae (aa HN)⟩
    case measure=>simp[intOf]; omega
  have hkn:k=W.length:=by omega
  subst hkn;rw[List.take_length] at hA;have hfr:=ag (aa HF) hb
  have c11:wr.cell? ⟨fb,11,none⟩=some (.slice oat ts.length capt):=by rw[<-aa HET]; exact(aq.cells hfr).2.2.2.2.2.2.2.2.2.2.2
  obtain⟨wd,hwd⟩:∃W',wr.setCell ⟨g1,6,none⟩ (.int .i64 (ts.length:Int))=W':=⟨_,rfl⟩;have hAwd:wd.heap[g1]?=some (.cells #[ver,X.nw,X.ar,(ws.length:Int),(ls.length:Int),(cT W:Int),(ts.length:Int),(),X.st] 113):=hwd▸eP hA 6 (.int .i64 (ts.length:Int)) rfl
  have hbwd:Below w.heap.size w wd:=hwd▸hb.setCell (p:=⟨g1,6,none⟩) (by show w.heap.size<=g1; omega) _
  have h0wd:wd.heap[w.heap.size]?=some (.cells #[(),(),(),(),(),(),(),(),()] 113):=by rw[<-hwd]; exact(Below.heap_setCell wr ⟨g1,6,none⟩ _ w.heap.size (by show w.heap.size≠g1; omega)).trans h0
  have ccwd:=af hA 6;have fzwd:=bi hA 6;have hfwd:aq wd fb X:=ag (aa HF) hbwd;have BY:=nV fb X ts wd hfwd ((aa HTS).on hbwd) hbt hlt_;obtain⟨we,hwe⟩:∃W',wd.setCell ⟨g1,7,none⟩ (.int .i64 (aA ts:Int))=W':=⟨_,rfl⟩;have hAwe:we.heap[g1]?=some (.cells #[ver,X.nw,X.ar,(ws.length:Int),(ls.length:Int),(cT W:Int),(ts.length:Int),(aA ts:Int),X.st] 113):=hwe▸eP hAwd 7 (.int .i64 (aA ts:Int)) rfl
  have hbwe:Below w.heap.size w we:=hwe▸hbwd.setCell (p:=⟨g1,7,none⟩) (by show w.heap.size<=g1; omega) _
  have h0we:we.heap[w.heap.size]?=some (.cells #[(),(),(),(),(),(),(),(),()] 113):=by rw[<-hwe]; exact(Below.heap_setCell wd ⟨g1,7,none⟩ _ w.heap.size (by show w.heap.size≠g1; omega)).trans h0wd
  have ccwe:=af hAwd 7;have fzwe:=bi hAwd 7;have hfwe:aq we fb X:=ag (aa HF) hbwe;have hrg:we.rangeAt g1 0 (#[ver,X.nw,X.ar,(ws.length:Int),(ls.length:Int),(cT W:Int),(ts.length:Int),(aA ts:Int),X.st]:Array Value).toList:=ao hAwe;obtain⟨wf,hwf⟩:∃W',we.setRow w.heap.size #[ver,X.nw,X.ar,(ws.length:Int),(ls.length:Int),(cT W:Int),(ts.length:Int),(aA ts:Int),X.st]=W':=⟨_,rfl⟩;have h0f:wf.heap[w.heap.size]?=some (.cells #[ver,X.nw,X.ar,(ws.length:Int),(ls.length:Int),(cT W:Int),(ts.length:Int),(aA ts:Int),X.st] 113):=hwf▸setRow_heap _ _ _ #[ver,X.nw,X.ar,(ws.length:Int),(ls.length:Int),(cT W:Int),(ts.length:Int),(aA ts:Int),X.st] _ _ h0we;have hbf:Below w.heap.size w wf:=hwf▸aK hbwe aD #[ver,X.nw,X.ar,(ws.length:Int),(ls.length:Int),(cT W:Int),(ts.length:Int),(aA ts:Int),X.st];have S6:=ae (fun(ev:Operand->Value) (o:Oper) (s t:Operand) (q:o.op=.store 3 s t) q1 q2=>kO ev o s t q g1 6 (ts.length:Int) q1 q2 wr wd ccwd fzwd hwd);have S7:=ae (fun(ev:Operand->Value) (o:Oper) (s t:Operand) (q:o.op=.store 3 s t) q1 q2=>kO ev o s t q g1 7 (aA ts:Int) q1 q2 wd we ccwe fzwe hwe);have S8:=ae (show ∀(ev:Operand->Value) (o:Oper) (s t:Operand),o.op=.store 113 s t->ev s=.pointer (some ⟨w.heap.size,0,none⟩)->ev t=.agg #[ver,X.nw,X.ar,(ws.length:Int),(ls.length:Int),(cT W:Int),(ts.length:Int),(aA ts:Int),X.st]->(execOp ev o).run prog we=.ok .skip wf from fun ev o s t q q1 q2=>hwf▸stR ev o s t 113 q #[ver,X.nw,X.ar,(ws.length:Int),(ls.length:Int),(cT W:Int),(ts.length:Int),(aA ts:Int),X.st] #[(),(),(),(),(),(),(),(),()] (sz55 _ _ _ _ _ _ _ _ _) (lk_one _ _ _ _ _ _ _ _ _) rfl w.heap.size q1 q2 we h0we);have H0F:=ae h0f;have HBF:=ae hbf;clear hA h0 hb hfr hwd hAwd hbwd h0wd ccwd fzwd hfwd hwe hAwe hbwe h0we ccwe fzwe hfwe hwf h0f hbf
  go_wp2_with (refine cU wd (aa S6 _ _ _ _ rfl rfl (by simp[go_sem])) rfl ?_)
  refine BY.mono ?_;rintro e wv ⟨rfl,rfl⟩;clear BY
  go_wp2_with (first|refine cU we (aa S7 _ _ _ _ rfl rfl rfl) rfl ?_|refine bU 113 #[ver,X.nw,X.ar,(ws.length:Int),(ls.length:Int),(cT W:Int),(ts.length:Int),(aA ts:Int),X.st] underlying113 rfl (sz55 _ _ _ _ _ _ _ _ _) g1 0 hrg rfl _ rfl rfl ?_|refine cU wf (aa S8 _ _ _ _ rfl rfl rfl) rfl ?_)
  exact bodyPost_ret (v:=.agg #[ver,X.nw,X.ar,(ws.length:Int),(ls.length:Int),(cT W:Int),(ts.length:Int),(aA ts:Int),X.st]) (results_cell_row results61 _ _ w.heap.size 113 _ (0,0) _ rfl (aa H0F) underlying113 rfl (sz55 _ _ _ _ _ _ _ _ _)) rfl ⟨rfl,aa HBF⟩
end Go.Proofs.YtpabpniaekldeaaGreatDoor
