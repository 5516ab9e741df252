import Derived.Test.YtpabpniaekldeaaGreatDoorGase05
set_option maxHeartbeats 25600000
set_option maxRecDepth 20000
open Go.RowKit Go.Proofs.Tryz
namespace Go.Proofs.YtpabpniaekldeaaGreatDoor
theorem inf89:(prog.info? 89).map (fun i=>(i.zero,i.size,i.bytes))=some (some (.slice none 0 0),1,24):=by kernel_rfl
theorem ap29 {w:World}{v x:Value}{l a:List cA}(h:ah cq 89 w v l)(j:bL cq w x a)(k:l.length+a.length<=100000000):
  ∃b w',(Builtin.append_ #[29,29] 29 #[v,x]).run prog w=.ok b w'/\ah cq 89 w' b (l++a)/\w.grownBy w' v.ownBlock/\(b.ownBlock=v.ownBlock\/∀g,b.ownBlock=some g->w.heap.size<=g):=by
 obtain⟨i,c,d,e,f⟩:=ee inf89
 exact ah.append (P:=prog) 29 29 i _ 24 underlying29 c d e f rfl h a x j (by unfold maxLen; omega) (by omega)
theorem inf104:(prog.info? 104).map (fun i=>(i.zero,i.size,i.bytes))=some (some (.slice none 0 0),1,24):=by kernel_rfl
theorem ap30 {w:World}{v x:Value}{l a:List cA}(h:ah cq 104 w v l)(j:bL cq w x a)(k:l.length+a.length<=100000000):
  ∃b w',(Builtin.append_ #[30,30] 30 #[v,x]).run prog w=.ok b w'/\ah cq 104 w' b (l++a)/\w.grownBy w' v.ownBlock/\(b.ownBlock=v.ownBlock\/∀g,b.ownBlock=some g->w.heap.size<=g):=by
 obtain⟨i,c,d,e,f⟩:=ee inf104
 exact ah.append (P:=prog) 30 30 i _ 24 underlying30 c d e f rfl h a x j (by unfold maxLen; omega) (by omega)
theorem bsS29 (a:Option Addr)(n c:Nat)(ev:Operand->Value)(o:Oper)(x:Operand)(b:o.op=.buildSlice 29 1 #[(0,x)])(d:ev x=.slice a n c)(w:World):(execOp ev o).run prog w=.ok (.value (.slice (some ⟨w.heap.size,0,none⟩) 1 1)) (w.alloc (.cells #[.slice a n c] 89)):=by
 unfold execOp;simp only[b];simp only[yN,zA,yQ,d]
 kernel_rfl
theorem bsS30 (a:Option Addr)(n c:Nat)(ev:Operand->Value)(o:Oper)(x:Operand)(b:o.op=.buildSlice 30 1 #[(0,x)])(d:ev x=.slice a n c)(w:World):(execOp ev o).run prog w=.ok (.value (.slice (some ⟨w.heap.size,0,none⟩) 1 1)) (w.alloc (.cells #[.slice a n c] 104)):=by
 unfold execOp;simp only[b];simp only[yN,zA,yQ,d]
 kernel_rfl
theorem szT (a b c d e f g h:Int):(prog.info? 107).map (·.size)=some (#[a,b,c,d,e,f,g,h]:Array Value).size:=by kernel_rfl
theorem toldOne (a b c d e f g h:Int):(#[a,b,c,d,e,f,g,h]:Array Value).all (·.oneCell')=true:=by simp[Value.oneCell']
theorem builtR (n:Nat):prog.built 103 [(0,.int .i64 (ei n))]=some #[.int .i64 (ei n),.int .i64 0,.string ⟨#[]⟩,.string ⟨#[]⟩]:=by kernel_rfl
theorem run_bR (n:Nat)(A:Act)(o:Oper)(x:Operand)(b:o.op=.build 103 #[(0,x)])(c:A.eval x=.int .i64 (ei n))(w:World):(execOp A.eval o).run prog w=.ok (.value (.agg #[.int .i64 (ei n),.int .i64 0,.string ⟨#[]⟩,.string ⟨#[]⟩])) w:=by
 have a:=run_build (P:=prog) w 103 #[(0,.int .i64 (ei n))] _ (builtR n);unfold execOp;simp[b,c,a]
theorem builtG (n:Nat):prog.built 107 [(1,.int .i64 (ei n))]=some #[.int .i64 0,.int .i64 0,.int .i64 0,.int .i64 0,.int .i64 (ei n),.int .i64 0,.int .i64 0,.int .i64 0]:=by kernel_rfl
theorem run_bG (n:Nat)(A:Act)(o:Oper)(x:Operand)(b:o.op=.build 107 #[(1,x)])(c:A.eval x=.int .i64 (ei n))(w:World):(execOp A.eval o).run prog w=.ok (.value (.agg #[.int .i64 0,.int .i64 0,.int .i64 0,.int .i64 0,.int .i64 (ei n),.int .i64 0,.int .i64 0,.int .i64 0])) w:=by
 have a:=run_build (P:=prog) w 107 #[(1,.int .i64 (ei n))] _ (builtG n);unfold execOp;simp[b,c,a]
section
variable {w w1 w3:World}{ob:Nat}{V:OV}{IS FS RS GS ES:List cA}{v:Value}
theorem bA.fillR {l:List _}(h:bA w ob V IS FS RS GS ES)(r:ah bE 103 w v l)(m:aE (fun k=>v.ownBlock=some k) w w1)(o:∀s∈RS,∀g,s.v.ownBlock=some g->v.ownBlock≠some g):bA w1 ob V IS FS RS GS ES:=by
 have b:∀{c:Array Value} {f:TypeId} {k:Nat},w.heap[k]?=some (.cells c f (0,0))->f≠103->¬v.ownBlock=some k:=fun e n q=>by
  obtain⟨t,i⟩:=r.ty q;exact aI e i n rfl
 refine h.frm m fun k p=>?_
 rcases p with rfl|q|q|q|q|q|⟨s,a,q⟩
 ·exact b h.blk (by decide)
 ·obtain⟨c,e⟩:=h.i.ty q; exact b e (by decide)
 ·obtain⟨c,e⟩:=h.f.ty q; exact b e (by decide)
 ·obtain⟨c,e⟩:=h.r.ty q; exact b e (by decide)
 ·obtain⟨c,e⟩:=h.g.ty q; exact b e (by decide)
 ·obtain⟨c,e⟩:=h.e.ty q; exact b e (by decide)
 rcases a with a|a|a|a|a
 ·obtain⟨j,d⟩:=zB.1 a; obtain⟨c,e⟩:=(h.il j s d).ty q; exact b e (by decide)
 ·obtain⟨j,d⟩:=zB.1 a; obtain⟨c,e⟩:=(h.fl j s d).ty q; exact b e (by decide)
 ·exact o s a k q
 ·obtain⟨j,d⟩:=zB.1 a; obtain⟨c,e⟩:=(h.gl j s d).ty q; exact b e (by decide)
 obtain⟨j,d⟩:=zB.1 a; obtain⟨c,e⟩:=(h.el j s d).ty q; exact b e (by decide)
theorem bA.addR {s:cA}{x:Value}{o:Obj}(h:bA w ob V IS FS RS GS ES)(e:ah cq 89 w3 x (RS++[s]))(a:(w.alloc o).grownBy w3 V.rv.ownBlock)(k:ah bE 103 w s.v (List.replicate s.n (owR RS.length))):
  bA (w3.setCell ⟨ob,2,none⟩ x) ob { V with rv:=x } IS FS (RS++[s]) GS ES:=by
 have d:=cu (c:=V.a) h.r (by decide) h.blk a
 refine⟨?_,h.i.past h.r (by decide) h.blk (by decide) a,h.f.past h.r (by decide) h.blk (by decide) a,e.same fun g i=>zW _ _ _ _ (by obtain⟨l,f⟩:=e.ty i; exact aI f d (by decide)),h.g.past h.r (by decide) h.blk (by decide) a,h.e.past h.r (by decide) h.blk (by decide) a,?_,?_,?_,?_,?_⟩
 ·show(w3.setCell ⟨ob,2,none⟩ x).heap[ob]?=_
  simp[World.setCell,zk,d];rfl
 ·exact fun j t b=>(h.il j t b).past h.r (by decide) h.blk (by decide) a
 ·exact fun j t b=>(h.fl j t b).past h.r (by decide) h.blk (by decide) a
 ·intro j t b
  rcases getElem?_snoc b with q|⟨rfl,rfl⟩
  ·exact(h.rl j t q).past h.r (by decide) h.blk (by decide) a
  exact k.past h.r (by decide) h.blk (by decide) a
 ·exact fun j t b=>(h.gl j t b).past h.r (by decide) h.blk (by decide) a
 exact fun j t b=>(h.el j t b).past h.r (by decide) h.blk (by decide) a
def KeptR (w:World)(ob:Nat)(V:OV)(IS FS RS GS ES:List cA)(v:Value)(e:Ending)(w':World):Prop:=
 e=.returned (.tuple #[])/\∃(s:cA) (x:Value),s.v.ownBlock=v.ownBlock/\bA w' ob { V with rv:=x } IS FS (RS++[s]) GS ES/\aE (fun k=>k=ob\/V.rv.ownBlock=some k\/v.ownBlock=some k) w w'/\(x.ownBlock=V.rv.ownBlock\/∀g,x.ownBlock=some g->w.heap.size<=g)
theorem fZ {l:List _}(h:bA w ob V IS FS RS GS ES)(y:ah bE 103 w v l)(L:∀s∈RS,∀g,s.v.ownBlock=some g->v.ownBlock≠some g)(aw:RS.length<=10000000):
  Calls prog 49 #[some ob,v] w fun e w'=>KeptR w ob V IS FS RS GS ES v e w':=by
 obtain⟨C,G,r⟩:=h.r.slice
 have Z:w.cell? ⟨ob,2,none⟩=some (.slice C RS.length G):=by rw[h.cells 2,<-r]; rfl
 have ak:=an h.blk;obtain⟨b,t⟩:∃b,RS.length=b:=⟨_,rfl⟩;rw[t] at Z aw
 rcases y with⟨rfl,rfl⟩|⟨g,off,cap,ai,rfl,E,o,D,ab,ac⟩
 ·obtain⟨x,w3,z,p,j,d⟩:=ap29 (h.r.on (bu.alloc aD (.cells #[.slice none 0 0] 89))) (aZ cq 89 w ⟨none,0,0⟩ #[.slice none 0 0] rfl) (by simp; omega)
  obtain⟨O,Q,P,rfl⟩:=p.slc
  have m:=cu (c:=V.a) h.r (by decide) h.blk j
  have u:w3.cell? ⟨ob,2,none⟩=V.a[2]?:=af m 2
  have au:w3.cell? ⟨ob,2,none⟩=some (.slice C b G):=by rw[u,<-t,<-r]; rfl
  have av:=bi m 2
  have J:Hid (KeptR w ob V IS FS RS GS ES (.slice none 0 0) (.returned (.tuple #[])) (w3.setCell ⟨ob,2,none⟩ (.slice O Q P))):=by
   refine⟨rfl,⟨none,0,0⟩,_,rfl,h.addR p j (Or.inl ⟨rfl,rfl⟩),((cn bu j).mono fun _ _ q=>Or.inr (Or.inl q)).setCell _ (fun _=>Or.inl rfl),?_⟩
   rcases d with d|d
   ·exact Or.inl d
   exact Or.inr fun g M=>by have N:=d g M; simp at N; omega
  rw[r,t] at z;clear p j d m u h L r t;go_enter func49,ntmps49
  go_wp2
  go_loopw [5] (fun i wr=>i=.int .i64 0/\wr=w) (fun _ _=>0)
  ·exact⟨rfl,rfl⟩
  obtain⟨rfl,rfl⟩:=hrel
  go_wp2_with (first|refine cP _ _ (bsS29 none 0 0 _ _ _ rfl rfl _) rfl ?_|(at_builtin; refine fS 29 z rfl _ _ rfl rfl rfl rfl ?_))
  exact yB (yY results49 _ _ _) rfl (aa J)
 have y:ah bE 103 w (.slice (some ⟨g,off,none⟩) l.length cap) l:=Or.inr ⟨g,off,cap,ai,rfl,E,o,D,ab,ac⟩;have az:=an E
 have aj:ob≠g:=(aI h.blk E (by decide))
 have ad:=ae (lw.zero (x:=owR b) y);have aq:=ae y;have ao:=ae h;have am:=ae L
 have aA:(l.length:Int)<=cap:=by omega
 have ay:(cap:Int)<=9223372036854775807:=by unfold maxLen at D; omega
 have ap:=ae D;have T:=ae r;have B:=ae t;clear y E ab ac h L D r t;go_enter func49,ntmps49
 go_wp2
 go_loopw [5] (fun i wr=>∃k:Nat,k<=cap/\i=.int .i64 k/\Hid (lw bE 103 wr g off cap k (owR b))/\Hid (w.grownBy wr (some g))) (fun i _=>cap-(intOf i).toNat)
 ·exact⟨0,by omega,rfl,ad,ae (ym _ _)⟩
 obtain⟨k,aC,rfl,K,f⟩:=hrel
 have aF:wr.cell? ⟨ob,2,none⟩=some (.slice C b G):=by
  rw[zP (a:=⟨ob,2,none⟩) ((aa f).block ob ak (fun q=>by cases q; exact aj rfl))]; exact Z
 by_cases W:k<cap
 ·have U:(k:Int)<cap:=by omega
  have ar:=ae (fun ax=>eC b ax (by omega))
  have n:=(aa K).step W;have S:Hid (w.grownBy (wr.setCells g (off+k*4) (bE.enc (owR b))) (some g)):=⟨n.2.os.trans (aa f).os,n.2.tape.trans (aa f).tape,n.2.output.trans (aa f).output,zF (aa f).size n.2.size,fun q F X=>(n.2.block q (zC F (aa f).size) X).trans ((aa f).block q F X)⟩;have R:Hid (lw bE 103 (wr.setCells g (off+k*4) (bE.enc (owR b))) g off cap (k+1) (owR b)):=n.1;have al:wr.there g (off+k*4) 4:=(aa K).there W;clear n;obtain⟨A,I⟩:∃A,wr.setCells g (off+k*4) (bE.enc (owR b))=A:=⟨_,rfl⟩;rw[I] at R S;have ag:Hid (wr.setCells g (off+k*4) (#[.int .i64 (ei b),(),.string ⟨#[]⟩,.string ⟨#[]⟩]:Array Value).toList=A):=I;clear I
  go_wp2_with fail
  refine(aa ar _).mono ?_;rintro e aG ⟨rfl,rfl⟩
  go_wp2_with (first|refine cP _ _ (run_bR b _ _ _ rfl rfl _) rfl ?_|refine cU A (stMid _ _ _ _ 103 rfl g (off+k*4) (#[.int .i64 (ei b),(),.string ⟨#[]⟩,.string ⟨#[]⟩]) rfl rfl wr A al (ki _ _ _ _) (gh _ _ _ _) (aa ag)) rfl ?_)
  go_roundw
  ·exact⟨k+1,by omega,by go_num,R,S⟩
  simp[intOf]; omega
 have U:k=cap:=by omega
 subst U
 have H:aE (fun q=>(Value.slice (some ⟨g,off,none⟩) l.length k).ownBlock=some q) w wr:=(aE.rfl' _ w).grown (aa f) fun q F _=>by cases F; rfl
 have o:=(aa ao).fillR (aa aq) H (aa am);have Y:ah bE 103 wr (cA.v ⟨some ⟨g,off,none⟩,k,k⟩) (List.replicate k (owR b)):=(aa K).own (aa ap)
 obtain⟨x,w3,z,p,j,d⟩:=ap29 (o.r.on (bu.alloc aD (.cells #[.slice (some ⟨g,off,none⟩) k k] 89))) (aZ cq 89 wr ⟨some ⟨g,off,none⟩,k,k⟩ #[.slice (some ⟨g,off,none⟩) k k] rfl) (by have:=aa B; simp; omega)
 obtain⟨O,Q,P,rfl⟩:=p.slc
 have m:=cu (c:=V.a) o.r (by decide) o.blk j
 have u:w3.cell? ⟨ob,2,none⟩=V.a[2]?:=af m 2
 have au:w3.cell? ⟨ob,2,none⟩=some (.slice C b G):=by rw[u,<-aa B,<-aa T]; rfl
 have av:=bi m 2;have aB:=(aa f).size
 have J:Hid (KeptR w ob V IS FS RS GS ES (.slice (some ⟨g,off,none⟩) l.length k) (.returned (.tuple #[])) (w3.setCell ⟨ob,2,none⟩ (.slice O Q P))):=by
  refine⟨rfl,⟨some ⟨g,off,none⟩,k,k⟩,_,rfl,o.addR p j (by rw[aa B]; exact Y),((H.mono fun _ _ q=>Or.inr (Or.inr q)).then (cn bu j) fun _ _ q=>Or.inr (Or.inl q)).setCell _ (fun _=>Or.inl rfl),?_⟩
  rcases d with d|d
  ·exact Or.inl d
  exact Or.inr fun g M=>by have N:=d g M; simp at N; omega
 rw[aa T,aa B] at z;clear p j d m u o H Y
 go_wp2_with (first|refine cP _ _ (bsS29 (some ⟨g,off,none⟩) k k _ _ _ rfl rfl _) rfl ?_|(at_builtin; refine fS 29 z rfl _ _ rfl rfl rfl rfl ?_))
 exact yB (yY results49 _ _ _) rfl (aa J)
theorem bA.fillG {l:List _}(h:bA w ob V IS FS RS GS ES)(r:ah bC 107 w v l)(m:aE (fun k=>v.ownBlock=some k) w w1)(o:∀s∈GS,∀g,s.v.ownBlock=some g->v.ownBlock≠some g):bA w1 ob V IS FS RS GS ES:=by
 have b:∀{c:Array Value} {f:TypeId} {k:Nat},w.heap[k]?=some (.cells c f (0,0))->f≠107->¬v.ownBlock=some k:=fun e n q=>by
  obtain⟨t,i⟩:=r.ty q;exact aI e i n rfl
 refine h.frm m fun k p=>?_
 rcases p with rfl|q|q|q|q|q|⟨s,a,q⟩
 ·exact b h.blk (by decide)
 ·obtain⟨c,e⟩:=h.i.ty q; exact b e (by decide)
 ·obtain⟨c,e⟩:=h.f.ty q; exact b e (by decide)
 ·obtain⟨c,e⟩:=h.r.ty q; exact b e (by decide)
 ·obtain⟨c,e⟩:=h.g.ty q; exact b e (by decide)
 ·obtain⟨c,e⟩:=h.e.ty q; exact b e (by decide)
 rcases a with a|a|a|a|a
 ·obtain⟨j,d⟩:=zB.1 a; obtain⟨c,e⟩:=(h.il j s d).ty q; exact b e (by decide)
 ·obtain⟨j,d⟩:=zB.1 a; obtain⟨c,e⟩:=(h.fl j s d).ty q; exact b e (by decide)
 ·obtain⟨j,d⟩:=zB.1 a; obtain⟨c,e⟩:=(h.rl j s d).ty q; exact b e (by decide)
 ·exact o s a k q
 obtain⟨j,d⟩:=zB.1 a; obtain⟨c,e⟩:=(h.el j s d).ty q; exact b e (by decide)
theorem bA.addG {s:cA}{x:Value}{o:Obj}(h:bA w ob V IS FS RS GS ES)(e:ah cq 104 w3 x (GS++[s]))(a:(w.alloc o).grownBy w3 V.gv.ownBlock)(k:ah bC 107 w s.v (List.replicate s.n (owG GS.length))):
  bA (w3.setCell ⟨ob,3,none⟩ x) ob { V with gv:=x } IS FS RS (GS++[s]) ES:=by
 have d:=cu (c:=V.a) h.g (by decide) h.blk a
 refine⟨?_,h.i.past h.g (by decide) h.blk (by decide) a,h.f.past h.g (by decide) h.blk (by decide) a,h.r.past h.g (by decide) h.blk (by decide) a,e.same fun g i=>zW _ _ _ _ (by obtain⟨l,f⟩:=e.ty i; exact aI f d (by decide)),h.e.past h.g (by decide) h.blk (by decide) a,?_,?_,?_,?_,?_⟩
 ·show(w3.setCell ⟨ob,3,none⟩ x).heap[ob]?=_
  simp[World.setCell,zk,d];rfl
 ·exact fun j t b=>(h.il j t b).past h.g (by decide) h.blk (by decide) a
 ·exact fun j t b=>(h.fl j t b).past h.g (by decide) h.blk (by decide) a
 ·exact fun j t b=>(h.rl j t b).past h.g (by decide) h.blk (by decide) a
 ·intro j t b
  rcases getElem?_snoc b with q|⟨rfl,rfl⟩
  ·exact(h.gl j t q).past h.g (by decide) h.blk (by decide) a
  exact k.past h.g (by decide) h.blk (by decide) a
 exact fun j t b=>(h.el j t b).past h.g (by decide) h.blk (by decide) a
def KeptG (w:World)(ob:Nat)(V:OV)(IS FS RS GS ES:List cA)(v:Value)(e:Ending)(w':World):Prop:=
 e=.returned (.tuple #[])/\∃(s:cA) (x:Value),s.v.ownBlock=v.ownBlock/\bA w' ob { V with gv:=x } IS FS RS (GS++[s]) ES/\aE (fun k=>k=ob\/V.gv.ownBlock=some k\/v.ownBlock=some k) w w'/\(x.ownBlock=V.gv.ownBlock\/∀g,x.ownBlock=some g->w.heap.size<=g)
theorem keepG_any {l:List _}(h:bA w ob V IS FS RS GS ES)(y:ah bC 107 w v l)(L:∀s∈GS,∀g,s.v.ownBlock=some g->v.ownBlock≠some g)(aw:GS.length<=10000000):
  Calls prog 65 #[some ob,v] w fun e w'=>KeptG w ob V IS FS RS GS ES v e w':=by
 obtain⟨C,G,r⟩:=h.g.slice
 have Z:w.cell? ⟨ob,3,none⟩=some (.slice C GS.length G):=by rw[h.cells 3,<-r]; rfl
 have ak:=an h.blk;obtain⟨b,t⟩:∃b,GS.length=b:=⟨_,rfl⟩;rw[t] at Z aw
 rcases y with⟨rfl,rfl⟩|⟨g,off,cap,ai,rfl,E,o,D,ab,ac⟩
 ·obtain⟨x,w3,z,p,j,d⟩:=ap30 (h.g.on (bu.alloc aD (.cells #[.slice none 0 0] 104))) (aZ cq 104 w ⟨none,0,0⟩ #[.slice none 0 0] rfl) (by simp; omega)
  obtain⟨O,Q,P,rfl⟩:=p.slc
  have m:=cu (c:=V.a) h.g (by decide) h.blk j
  have u:w3.cell? ⟨ob,3,none⟩=V.a[3]?:=af m 3
  have au:w3.cell? ⟨ob,3,none⟩=some (.slice C b G):=by rw[u,<-t,<-r]; rfl
  have av:=bi m 3
  have J:Hid (KeptG w ob V IS FS RS GS ES (.slice none 0 0) (.returned (.tuple #[])) (w3.setCell ⟨ob,3,none⟩ (.slice O Q P))):=by
   refine⟨rfl,⟨none,0,0⟩,_,rfl,h.addG p j (Or.inl ⟨rfl,rfl⟩),((cn bu j).mono fun _ _ q=>Or.inr (Or.inl q)).setCell _ (fun _=>Or.inl rfl),?_⟩
   rcases d with d|d
   ·exact Or.inl d
   exact Or.inr fun g M=>by have N:=d g M; simp at N; omega
  rw[r,t] at z;clear p j d m u h L r t;go_enter func65,ntmps65
  go_wp2
  go_loopw [5] (fun i wr=>i=.int .i64 0/\wr=w) (fun _ _=>0)
  ·exact⟨rfl,rfl⟩
  obtain⟨rfl,rfl⟩:=hrel
  go_wp2_with (first|refine cP _ _ (bsS30 none 0 0 _ _ _ rfl rfl _) rfl ?_|(at_builtin; refine fS 30 z rfl _ _ rfl rfl rfl rfl ?_))
  exact yB (yY results65 _ _ _) rfl (aa J)
 have y:ah bC 107 w (.slice (some ⟨g,off,none⟩) l.length cap) l:=Or.inr ⟨g,off,cap,ai,rfl,E,o,D,ab,ac⟩;have az:=an E
 have aj:ob≠g:=(aI h.blk E (by decide))
 have ad:=ae (lw.zero (x:=owG b) y);have aq:=ae y;have ao:=ae h;have am:=ae L
 have aA:(l.length:Int)<=cap:=by omega
 have ay:(cap:Int)<=9223372036854775807:=by unfold maxLen at D; omega
 have ap:=ae D;have T:=ae r;have B:=ae t;clear y E ab ac h L D r t;go_enter func65,ntmps65
 go_wp2
 go_loopw [5] (fun i wr=>∃k:Nat,k<=cap/\i=.int .i64 k/\Hid (lw bC 107 wr g off cap k (owG b))/\Hid (w.grownBy wr (some g))) (fun i _=>cap-(intOf i).toNat)
 ·exact⟨0,by omega,rfl,ad,ae (ym _ _)⟩
 obtain⟨k,aC,rfl,K,f⟩:=hrel
 have aF:wr.cell? ⟨ob,3,none⟩=some (.slice C b G):=by
  rw[zP (a:=⟨ob,3,none⟩) ((aa f).block ob ak (fun q=>by cases q; exact aj rfl))]; exact Z
 by_cases W:k<cap
 ·have U:(k:Int)<cap:=by omega
  have ar:=ae (fun ax=>eC b ax (by omega))
  have n:=(aa K).step W;have S:Hid (w.grownBy (wr.setCells g (off+k*8) (bC.enc (owG b))) (some g)):=⟨n.2.os.trans (aa f).os,n.2.tape.trans (aa f).tape,n.2.output.trans (aa f).output,zF (aa f).size n.2.size,fun q F X=>(n.2.block q (zC F (aa f).size) X).trans ((aa f).block q F X)⟩;have R:Hid (lw bC 107 (wr.setCells g (off+k*8) (bC.enc (owG b))) g off cap (k+1) (owG b)):=n.1;have al:wr.there g (off+k*8) 8:=(aa K).there W;clear n;obtain⟨A,I⟩:∃A,wr.setCells g (off+k*8) (bC.enc (owG b))=A:=⟨_,rfl⟩;rw[I] at R S;have ag:Hid (wr.setCells g (off+k*8) (#[(),(),(),(),.int .i64 (ei b),(),(),()]:Array Value).toList=A):=I;clear I
  go_wp2_with fail
  refine(aa ar _).mono ?_;rintro e aG ⟨rfl,rfl⟩
  go_wp2_with (first|refine cP _ _ (run_bG b _ _ _ rfl rfl _) rfl ?_|refine cU A (stMid _ _ _ _ 107 rfl g (off+k*8) (#[(),(),(),(),.int .i64 (ei b),(),(),()]) rfl rfl wr A al (szT _ _ _ _ _ _ _ _) (toldOne _ _ _ _ _ _ _ _) (aa ag)) rfl ?_)
  go_roundw
  ·exact⟨k+1,by omega,by go_num,R,S⟩
  simp[intOf]; omega
 have U:k=cap:=by omega
 subst U
 have H:aE (fun q=>(Value.slice (some ⟨g,off,none⟩) l.length k).ownBlock=some q) w wr:=(aE.rfl' _ w).grown (aa f) fun q F _=>by cases F; rfl
 have o:=(aa ao).fillG (aa aq) H (aa am);have Y:ah bC 107 wr (cA.v ⟨some ⟨g,off,none⟩,k,k⟩) (List.replicate k (owG b)):=(aa K).own (aa ap)
 obtain⟨x,w3,z,p,j,d⟩:=ap30 (o.g.on (bu.alloc aD (.cells #[.slice (some ⟨g,off,none⟩) k k] 104))) (aZ cq 104 wr ⟨some ⟨g,off,none⟩,k,k⟩ #[.slice (some ⟨g,off,none⟩) k k] rfl) (by have:=aa B; simp; omega)
 obtain⟨O,Q,P,rfl⟩:=p.slc
 have m:=cu (c:=V.a) o.g (by decide) o.blk j
 have u:w3.cell? ⟨ob,3,none⟩=V.a[3]?:=af m 3
 have au:w3.cell? ⟨ob,3,none⟩=some (.slice C b G):=by rw[u,<-aa B,<-aa T]; rfl
 have av:=bi m 3;have aB:=(aa f).size
 have J:Hid (KeptG w ob V IS FS RS GS ES (.slice (some ⟨g,off,none⟩) l.length k) (.returned (.tuple #[])) (w3.setCell ⟨ob,3,none⟩ (.slice O Q P))):=by
  refine⟨rfl,⟨some ⟨g,off,none⟩,k,k⟩,_,rfl,o.addG p j (by rw[aa B]; exact Y),((H.mono fun _ _ q=>Or.inr (Or.inr q)).then (cn bu j) fun _ _ q=>Or.inr (Or.inl q)).setCell _ (fun _=>Or.inl rfl),?_⟩
  rcases d with d|d
  ·exact Or.inl d
  exact Or.inr fun g M=>by have N:=d g M; simp at N; omega
 rw[aa T,aa B] at z;clear p j d m u o H Y
 go_wp2_with (first|refine cP _ _ (bsS30 (some ⟨g,off,none⟩) k k _ _ _ rfl rfl _) rfl ?_|(at_builtin; refine fS 30 z rfl _ _ rfl rfl rfl rfl ?_))
 exact yB (yY results65 _ _ _) rfl (aa J)
end
theorem fQ.no {S S':Nat->Prop}{w:World}{Ts b:List TypeId}(h:fQ S w Ts)(g:fQ S' w b)(j:∀t∈Ts,t∉b){k:Nat}(q:S k)(l:S' k):False:=by
 obtain⟨c,T,e,i⟩:=h k q;obtain⟨m,f,a,d⟩:=g k l;rw[e] at a
 have:T=f:=by
  injection a with a
  injection a
 subst this;exact j T i d
structure St2 (w:World)(n:Nat)(e:EV)(w':World)(e':EV):Prop where
 desk:cO w' (n+1) e'
 frm:aE (aX e) w w'
 foot:∀k,aX e' k->aX e k\/w.heap.size<=k
 fb:e'.fb=e.fb
 rb:e'.rb=e.rb
section
variable {w w1 w2 w':World}{n:Nat}{e e':EV}
theorem cO.pr (h:cO w n e){k:Nat}(a:e.P k)(b:e.R k):False:=fQ.no h.x.ty h.r.ty (by decide) a b
theorem cO.lt (h:cO w n e){k:Nat}(a:aX e k):k<w.heap.size:=by
 rcases a with q|q
 ·exact aw.lt h.x q
 exact h.r.lt q
theorem cO.frm {S:Nat->Prop}(h:cO w n e)(a:aE S w w')(b:∀k,aX e k->¬S k)(c:∀k,S k->4<=k):cO w' n e:=
 ⟨h.x.frm a (fun k q=>b k (Or.inl q)) c,h.r.frm a (fun k q=>b k (Or.inr q)),h.m,h.lo⟩
theorem cO.on (h:cO w n e)(a:Below w.heap.size w w'):cO w' n e:=h.frm (S:=fun _=>False) (aE.of_below a) (fun _ _ q=>q) (fun _ q=>q.elim)
theorem cO.fro (h:cO w n e):eR w e.fb e.P e.F:=⟨e.X,e.sl,e.pv,e.W,h.x,fun _ q=>q⟩
theorem cO.mid (h:cO w n e)(a:aE e.P w w1):RD w1 e.rb e.Y e.bv e.SL e.D:=h.r.frm a fun _ q b=>h.pr b q
theorem iz (h:cO w n e){b:FM}{D':DF}{l:List gD}{rv:Value}{Y':RV}(a:dt w e.fb e.P b l rv w1)(j:aP w1 e.rb e.Y w2 Y' D'.rq D'.jb D'.en)(D:D'.bs=e.D.bs)(F:RNum Y' D')(hm:cF b D' (n+1)):
  ∃e',St2 w n e w2 e'/\ah bE 103 w2 rv l/\(∀g,rv.ownBlock=some g->¬aX e' g):=by
 obtain⟨x,u,t,v,i,C⟩:=a.fro;have f:=h.mid a.frm;obtain⟨p,o,B⟩:=f.step j D F;have r:=f.mem.ty f.blk;have I:=i.glb.1;have H:=a.frm.size
 have s:gF w2 e.fb x u t v b:=i.frm j.frm (fun k q G=>fQ.no i.ty r (by decide) q G) (fun k q=>h.lo k (Or.inl q))
 have d:=a.rep.frmT j.frm r (by decide)
 refine⟨⟨e.fb,x,u,t,v,b,e.rb,Y',e.bv,e.SL,D'⟩,⟨⟨s,p,hm,fun k q=>?_⟩,?_,fun k q=>?_,rfl,rfl⟩,d,fun g m q=>?_⟩
 ·rcases o k q with z|z
  ·exact h.lo k z
  omega
 ·exact(a.frm.mono fun _ _ q=>Or.inl q).then B fun _ _ q=>Or.inr q
 ·rcases q with q|q
  ·rcases C k q with z|z
   ·exact Or.inl (Or.inl z)
   exact Or.inr z
  rcases o k q with z|z
  ·exact Or.inl (Or.inr z)
  exact Or.inr (by omega)
 obtain⟨c,A⟩:=d.ty m
 have y:fQ (fun k=>rv.ownBlock=some k) w2 [103]:=fun k E=>by
  obtain⟨c,A⟩:=d.ty E
  exact⟨_,_,A,by simp⟩
 rcases q with q|q
 ·exact fQ.no y s.ty (by decide) m q
 exact fQ.no y p.ty (by decide) m q
structure OSt (w:World)(O:OL)(ob:Nat)(O':OL):Prop where
 foot:∀k,OF ob O' k->OF ob O k\/w.heap.size<=k
 il:O'.IS.length<=O.IS.length+1
 fl:O'.FS.length<=O.FS.length+1
 rl:O'.RS.length<=O.RS.length+1
 gl:O'.GS.length<=O.GS.length+1
 el:O'.ES.length<=O.ES.length+1
theorem OSt.rfl' (w:World)(O:OL)(ob:Nat):OSt w O ob O:=⟨fun _ q=>Or.inl q,by omega,by omega,by omega,by omega,by omega⟩
structure ip (w:World)(n:Nat)(e:EV)(ob:Nat)(O:OL)(w':World)(e':EV)(O':OL):Prop where
 desk:cO w' (n+1) e'
 own:io w' ob O'
 dj:∀k,aX e' k->¬OF ob O' k
 frm:aE (fun k=>aX e k\/OF ob O k) w w'
 foot:∀k,aX e' k->aX e k\/w.heap.size<=k
 ost:OSt w O ob O'
 fb:e'.fb=e.fb
 rb:e'.rb=e.rb
variable {ob:Nat}{O:OL}
theorem St2.est (h:St2 w n e w' e')(c:io w ob O)(b:∀k,aX e k->¬OF ob O k):ip w n e ob O w' e' O:=
 ⟨h.desk,bA.frm c h.frm fun k q a=>b k a q,fun k q a=>by
  rcases h.foot k q with z|z
  ·exact b k z a
  have:=bA.lt c a; omega,h.frm.mono fun _ _ q=>Or.inl q,h.foot,OSt.rfl' _ _ _,h.fb,h.rb⟩
theorem ip.pre {b:World}{c:OL}(a:Below b.heap.size b w)(h:ip w n e ob O w' e' c):ip b n e ob O w' e' c:=
 ⟨h.desk,h.own,h.dj,(aE.of_below a).then h.frm fun _ _ q=>q,fun k q=>by
  rcases h.foot k q with z|z
  ·exact Or.inl z
  exact Or.inr (zF a.size z),⟨fun k q=>by
  rcases h.ost.foot k q with z|z
  ·exact Or.inl z
  exact Or.inr (zF a.size z),h.ost.il,h.ost.fl,h.ost.rl,h.ost.gl,h.ost.el⟩,h.fb,h.rb⟩
theorem ip.on {b:OL}(h:ip w n e ob O w' e' b)(a:Below w'.heap.size w' w2):ip w n e ob O w2 e' b:=
 ⟨h.desk.on a,bA.on h.own a,h.dj,h.frm.then (aE.of_below (S:=fun _=>False) a) (fun _ _ q=>q.elim),h.foot,h.ost,h.fb,h.rb⟩
theorem ip.join {f a:OL}{u v:Value}(h:ip w n e ob O w1 e' f)(m:io w' ob a)(j:aE (fun k=>k=ob\/u.ownBlock=some k\/v.ownBlock=some k) w1 w')(g:∀k,u.ownBlock=some k->OF ob f k)(d:∀k,v.ownBlock=some k->w.heap.size<=k/\¬aX e' k)
  (i:∀k,OF ob f k->4<=k) (p:4<=w.heap.size) (l:∀k,OF ob a k->OF ob f k\/v.ownBlock=some k\/w1.heap.size<=k) (c:a.IS.length<=O.IS.length+1/\a.FS.length<=O.FS.length+1/\a.RS.length<=O.RS.length+1/\a.GS.length<=O.GS.length+1/\a.ES.length<=O.ES.length+1):ip w n e ob O w' e' a:=by
 have o:=h.frm.size;refine⟨h.desk.frm j (fun k q b=>?_) (fun k q=>?_),m,fun k q b=>?_,h.frm.then j fun k r q=>?_,h.foot,⟨fun k q=>?_,c.1,c.2.1,c.2.2.1,c.2.2.2.1,c.2.2.2.2⟩,h.fb,h.rb⟩
 ·rcases b with rfl|b|b
  ·exact h.dj _ q (Or.inl rfl)
  ·exact h.dj k q (g k b)
  exact(d k b).2 q
 ·rcases q with rfl|q|q
  ·exact i _ (Or.inl rfl)
  ·exact i k (g k q)
  have:=(d k q).1; omega
 ·rcases l k b with z|z|z
  ·exact h.dj k q z
  ·exact(d k z).2 q
  have:=h.desk.lt q; omega
 ·rcases q with rfl|q|q
  ·rcases h.ost.foot k (Or.inl rfl) with z|z
   ·exact Or.inr z
   omega
  ·rcases h.ost.foot k (g k q) with z|z
   ·exact Or.inr z
   omega
  have:=(d k q).1; omega
 rcases l k q with z|z|z
 ·exact h.ost.foot k z
 ·exact Or.inr (d k z).1
 exact Or.inr (by omega)
theorem j8.sub {ob:Nat}{V a:OV}{IS FS i h ES g d RS' f c:List cA}{v:Value}{b:Nat}(hi:∀k,a.iv.ownBlock=some k->V.iv.ownBlock=some k\/b<=k)(m:∀k,a.fv.ownBlock=some k->V.fv.ownBlock=some k\/b<=k)(p:∀k,a.rv.ownBlock=some k->V.rv.ownBlock=some k\/b<=k)(o:∀k,a.gv.ownBlock=some k->V.gv.ownBlock=some k\/b<=k)(l:∀k,a.ev.ownBlock=some k->V.ev.ownBlock=some k\/b<=k)
  (r:∀s,(s∈g\/s∈d\/s∈RS'\/s∈f\/s∈c)->(s∈IS\/s∈FS\/s∈i\/s∈h\/s∈ES)\/s.v.ownBlock=v.ownBlock):∀k,j8 ob a g d RS' f c k->j8 ob V IS FS i h ES k\/v.ownBlock=some k\/b<=k:=fun k q=>by
 rcases q with q|q|q|q|q|q|⟨s,j,q⟩
 ·exact Or.inl (Or.inl q)
 ·rcases hi k q with z|z
  ·exact Or.inl (Or.inr (Or.inl z))
  exact Or.inr (Or.inr z)
 ·rcases m k q with z|z
  ·exact Or.inl (Or.inr (Or.inr (Or.inl z)))
  exact Or.inr (Or.inr z)
 ·rcases p k q with z|z
  ·exact Or.inl (Or.inr (Or.inr (Or.inr (Or.inl z))))
  exact Or.inr (Or.inr z)
 ·rcases o k q with z|z
  ·exact Or.inl (Or.inr (Or.inr (Or.inr (Or.inr (Or.inl z)))))
  exact Or.inr (Or.inr z)
 ·rcases l k q with z|z
  ·exact Or.inl (Or.inr (Or.inr (Or.inr (Or.inr (Or.inr (Or.inl z))))))
  exact Or.inr (Or.inr z)
 rcases r s j with z|z
 ·exact Or.inl (Or.inr (Or.inr (Or.inr (Or.inr (Or.inr (Or.inr ⟨s,z,q⟩))))))
 exact Or.inr (Or.inl (z▸q))
theorem oO {v x:Value}{m:Nat}(h:x.ownBlock=v.ownBlock\/∀g,x.ownBlock=some g->m<=g):∀k,x.ownBlock=some k->v.ownBlock=some k\/m<=k:=fun k q=>by
 rcases h with h|h
 ·exact Or.inl (h▸q)
 exact Or.inr (h k q)
theorem ip.keepR {a:OL}{rv:Value}{en:Ending}(h:ip w n e ob O w1 e' a)(g:∀k,OF ob a k->4<=k)(d:4<=w.heap.size)(p:∀k,rv.ownBlock=some k->w.heap.size<=k/\¬aX e' k)(j:KeptR w1 ob a.V a.IS a.FS a.RS a.GS a.ES rv en w')
  (b:a.IS.length<=O.IS.length+1/\a.FS.length<=O.FS.length+1/\a.RS.length<=O.RS.length/\a.GS.length<=O.GS.length+1/\a.ES.length<=O.ES.length+1):en=.returned (.tuple #[])/\∃f,ip w n e ob O w' e' f:=by
 obtain⟨l,s,x,m,c,i,r⟩:=j
 refine⟨l,⟨{ a.V with rv:=x },a.IS,a.FS,a.RS++[s],a.GS,a.ES⟩,h.join (u:=a.V.rv) (v:=rv) c i (fun k q=>Or.inr (Or.inr (Or.inr (Or.inl q)))) p g d ?_ ⟨b.1,b.2.1,by simp; omega,b.2.2.2.1,b.2.2.2.2⟩⟩
 refine j8.sub (fun _ q=>Or.inl q) (fun _ q=>Or.inl q) (oO r) (fun _ q=>Or.inl q) (fun _ q=>Or.inl q) fun t o=>?_
 rcases o with q|q|q|q|q
 ·exact Or.inl (Or.inl q)
 ·exact Or.inl (Or.inr (Or.inl q))
 ·rcases zh.1 q with q|q
  ·exact Or.inl (Or.inr (Or.inr (Or.inl q)))
  simp only[z7] at q
  exact Or.inr (by rw[q]; exact m)
 ·exact Or.inl (Or.inr (Or.inr (Or.inr (Or.inl q))))
 exact Or.inl (Or.inr (Or.inr (Or.inr (Or.inr q))))
theorem ip.keepG {a:OL}{rv:Value}{en:Ending}(h:ip w n e ob O w1 e' a)(g:∀k,OF ob a k->4<=k)(f:4<=w.heap.size)(p:∀k,rv.ownBlock=some k->w.heap.size<=k/\¬aX e' k)(j:KeptG w1 ob a.V a.IS a.FS a.RS a.GS a.ES rv en w')
  (c:a.IS.length<=O.IS.length+1/\a.FS.length<=O.FS.length+1/\a.RS.length<=O.RS.length+1/\a.GS.length<=O.GS.length/\a.ES.length<=O.ES.length+1):en=.returned (.tuple #[])/\∃b,ip w n e ob O w' e' b/\b.IS=a.IS/\b.FS=a.FS/\b.RS=a.RS/\b.GS.length=a.GS.length+1/\b.ES=a.ES:=by
 obtain⟨l,s,x,m,d,i,r⟩:=j
 refine⟨l,⟨{ a.V with gv:=x },a.IS,a.FS,a.RS,a.GS++[s],a.ES⟩,h.join (u:=a.V.gv) (v:=rv) d i (fun k q=>Or.inr (Or.inr (Or.inr (Or.inr (Or.inl q))))) p g f ?_ ⟨c.1,c.2.1,c.2.2.1,by simp; omega,c.2.2.2.2⟩,rfl,rfl,rfl,by simp,rfl⟩
 refine j8.sub (fun _ q=>Or.inl q) (fun _ q=>Or.inl q) (fun _ q=>Or.inl q) (oO r) (fun _ q=>Or.inl q) fun t o=>?_
 rcases o with q|q|q|q|q
 ·exact Or.inl (Or.inl q)
 ·exact Or.inl (Or.inr (Or.inl q))
 ·exact Or.inl (Or.inr (Or.inr (Or.inl q)))
 ·rcases zh.1 q with q|q
  ·exact Or.inl (Or.inr (Or.inr (Or.inr (Or.inl q))))
  simp only[z7] at q
  exact Or.inr (by rw[q]; exact m)
 exact Or.inl (Or.inr (Or.inr (Or.inr (Or.inr q))))
theorem ip.keepE {a:OL}{rv:Value}{en:Ending}(h:ip w n e ob O w1 e' a)(g:∀k,OF ob a k->4<=k)(f:4<=w.heap.size)(p:∀k,rv.ownBlock=some k->w.heap.size<=k/\¬aX e' k)(j:KeptE w1 ob a.V a.IS a.FS a.RS a.GS a.ES rv en w')
  (c:a.IS.length<=O.IS.length+1/\a.FS.length<=O.FS.length+1/\a.RS.length<=O.RS.length+1/\a.GS.length<=O.GS.length+1/\a.ES.length<=O.ES.length):en=.returned (.tuple #[])/\∃b,ip w n e ob O w' e' b/\b.IS=a.IS/\b.FS=a.FS/\b.RS=a.RS/\b.GS=a.GS/\b.ES.length=a.ES.length+1:=by
 obtain⟨l,s,x,m,d,i,r⟩:=j
 refine⟨l,⟨{ a.V with ev:=x },a.IS,a.FS,a.RS,a.GS,a.ES++[s]⟩,h.join (u:=a.V.ev) (v:=rv) d i (fun k q=>Or.inr (Or.inr (Or.inr (Or.inr (Or.inr (Or.inl q)))))) p g f ?_ ⟨c.1,c.2.1,c.2.2.1,c.2.2.2.1,by simp; omega⟩,rfl,rfl,rfl,rfl,by simp⟩
 refine j8.sub (fun _ q=>Or.inl q) (fun _ q=>Or.inl q) (fun _ q=>Or.inl q) (fun _ q=>Or.inl q) (oO r) fun t o=>?_
 rcases o with q|q|q|q|q
 ·exact Or.inl (Or.inl q)
 ·exact Or.inl (Or.inr (Or.inl q))
 ·exact Or.inl (Or.inr (Or.inr (Or.inl q)))
 ·exact Or.inl (Or.inr (Or.inr (Or.inr (Or.inl q))))
 rcases zh.1 q with q|q
 ·exact Or.inl (Or.inr (Or.inr (Or.inr (Or.inr q))))
 simp only[z7] at q
 exact Or.inr (by rw[q]; exact m)
end
section
variable {w:World}
theorem dl {v u:Value}{l:List gD}(E:bL bE w v l)(D:bL bE w u l):
  Calls prog 48 #[v,u] w fun e w'=>e=.returned (.bool true)/\Below w.heap.size w w':=by
 obtain⟨Q,ca,rfl,_,_,x⟩:=E;obtain⟨ob,O,rfl,_,hm,y⟩:=D
 have F:(l.length:Int)<=9223372036854775807:=by unfold maxLen at hm; omega
 have B:=ae x;have C:=ae y;clear x y hm;go_enter func48,ntmps48
 go_wp2
 go_loopw [5] (fun i wr=>∃k:Nat,k<=l.length/\i=.int .i64 k/\Hid (Below w.heap.size w wr)) (fun i _=>l.length-(intOf i).toNat)
 ·exact⟨0,by omega,rfl,ae bu⟩
 obtain⟨k,P,rfl,a⟩:=hrel
 by_cases A:k<l.length
 ·have o:(k:Int)<l.length:=by omega
  obtain⟨⟨n,s,b,t⟩,m⟩:∃t,l[k]?=some t:=⟨_,zQ A⟩
  obtain⟨d,c,rfl,h,q⟩:=aa B (by omega)
  obtain⟨f,fb,rfl,j,r⟩:=aa C (by omega)
  have g:=q k _ m;have rb:=r k _ m;have G:wr.cell? ⟨d,c+k*4,none⟩=some (.int .i64 n):=((aa a).cell (p:=⟨d,c+k*4,none⟩) h).trans (g 0 _ rfl);have H:wr.cell? ⟨d,c+k*4+1,none⟩=some (.int .i64 s):=((aa a).cell (p:=⟨d,c+k*4+1,none⟩) h).trans (g 1 _ rfl);have I:wr.cell? ⟨d,c+k*4+2,none⟩=some (.string b):=((aa a).cell (p:=⟨d,c+k*4+2,none⟩) h).trans (g 2 _ rfl);have J:wr.cell? ⟨d,c+k*4+3,none⟩=some (.string t):=((aa a).cell (p:=⟨d,c+k*4+3,none⟩) h).trans (g 3 _ rfl);have K:wr.cell? ⟨f,fb+k*4,none⟩=some (.int .i64 n):=((aa a).cell (p:=⟨f,fb+k*4,none⟩) j).trans (rb 0 _ rfl);have L:wr.cell? ⟨f,fb+k*4+1,none⟩=some (.int .i64 s):=((aa a).cell (p:=⟨f,fb+k*4+1,none⟩) j).trans (rb 1 _ rfl);have M:wr.cell? ⟨f,fb+k*4+2,none⟩=some (.string b):=((aa a).cell (p:=⟨f,fb+k*4+2,none⟩) j).trans (rb 2 _ rfl);have N:wr.cell? ⟨f,fb+k*4+3,none⟩=some (.string t):=((aa a).cell (p:=⟨f,fb+k*4+3,none⟩) j).trans (rb 3 _ rfl);clear q r g rb m
  go_wp2_with fail
  go_quiet (fail)
  have z:=ae ((aa a).trans ((ap (zV wr.heap.size wr) nq).mono (aa a).size))
  go_wp2
  go_roundw
  ·exact⟨k+1,by omega,by go_num,z⟩
  simp[intOf]; omega
 have o:k=l.length:=by omega
 subst o
 go_wp2
 go_ret;exact⟨rfl,aa a⟩
theorem gQ {v u:Value}{l:List f9}(I:bL bC w v l)(H:bL bC w u l):
  Calls prog 54 #[v,u] w fun e w'=>e=.returned (.bool true)/\Below w.heap.size w w':=by
 obtain⟨ad,ca,rfl,_,_,x⟩:=I;obtain⟨ob,ab,rfl,_,hm,y⟩:=H
 have J:(l.length:Int)<=9223372036854775807:=by unfold maxLen at hm; omega
 have F:=ae x;have G:=ae y;clear x y hm;go_enter func54,ntmps54
 go_wp2
 go_loopw [5] (fun i wr=>∃k:Nat,k<=l.length/\i=.int .i64 k/\Hid (Below w.heap.size w wr)) (fun i _=>l.length-(intOf i).toNat)
 ·exact⟨0,by omega,rfl,ae bu⟩
 obtain⟨k,ac,rfl,a⟩:=hrel
 by_cases E:k<l.length
 ·have o:(k:Int)<l.length:=by omega
  obtain⟨⟨⟨z,C,A,B⟩,n,s,b,t⟩,m⟩:∃t,l[k]?=some t:=⟨_,zQ E⟩
  obtain⟨d,c,rfl,h,q⟩:=aa F (by omega)
  obtain⟨f,fb,rfl,j,r⟩:=aa G (by omega)
  have g:=q k _ m;have rb:=r k _ m;have K:wr.cell? ⟨d,c+k*8,none⟩=some (.int .i64 z):=((aa a).cell (p:=⟨d,c+k*8,none⟩) h).trans (g 0 _ rfl);have L:wr.cell? ⟨d,c+k*8+1,none⟩=some (.int .i64 C):=((aa a).cell (p:=⟨d,c+k*8+1,none⟩) h).trans (g 1 _ rfl);have M:wr.cell? ⟨d,c+k*8+2,none⟩=some (.int .i64 A):=((aa a).cell (p:=⟨d,c+k*8+2,none⟩) h).trans (g 2 _ rfl);have N:wr.cell? ⟨d,c+k*8+3,none⟩=some (.int .i64 B):=((aa a).cell (p:=⟨d,c+k*8+3,none⟩) h).trans (g 3 _ rfl);have O:wr.cell? ⟨d,c+k*8+4,none⟩=some (.int .i64 n):=((aa a).cell (p:=⟨d,c+k*8+4,none⟩) h).trans (g 4 _ rfl);have P:wr.cell? ⟨d,c+k*8+5,none⟩=some (.int .i64 s):=((aa a).cell (p:=⟨d,c+k*8+5,none⟩) h).trans (g 5 _ rfl);have Q:wr.cell? ⟨d,c+k*8+6,none⟩=some (.int .i64 b):=((aa a).cell (p:=⟨d,c+k*8+6,none⟩) h).trans (g 6 _ rfl);have R:wr.cell? ⟨d,c+k*8+7,none⟩=some (.int .i64 t):=((aa a).cell (p:=⟨d,c+k*8+7,none⟩) h).trans (g 7 _ rfl);have S:wr.cell? ⟨f,fb+k*8,none⟩=some (.int .i64 z):=((aa a).cell (p:=⟨f,fb+k*8,none⟩) j).trans (rb 0 _ rfl);have T:wr.cell? ⟨f,fb+k*8+1,none⟩=some (.int .i64 C):=((aa a).cell (p:=⟨f,fb+k*8+1,none⟩) j).trans (rb 1 _ rfl);have U:wr.cell? ⟨f,fb+k*8+2,none⟩=some (.int .i64 A):=((aa a).cell (p:=⟨f,fb+k*8+2,none⟩) j).trans (rb 2 _ rfl);have V:wr.cell? ⟨f,fb+k*8+3,none⟩=some (.int .i64 B):=((aa a).cell (p:=⟨f,fb+k*8+3,none⟩) j).trans (rb 3 _ rfl);have W:wr.cell? ⟨f,fb+k*8+4,none⟩=some (.int .i64 n):=((aa a).cell (p:=⟨f,fb+k*8+4,none⟩) j).trans (rb 4 _ rfl);have X:wr.cell? ⟨f,fb+k*8+5,none⟩=some (.int .i64 s):=((aa a).cell (p:=⟨f,fb+k*8+5,none⟩) j).trans (rb 5 _ rfl);have Y:wr.cell? ⟨f,fb+k*8+6,none⟩=some (.int .i64 b):=((aa a).cell (p:=⟨f,fb+k*8+6,none⟩) j).trans (rb 6 _ rfl);have Z:wr.cell? ⟨f,fb+k*8+7,none⟩=some (.int .i64 t):=((aa a).cell (p:=⟨f,fb+k*8+7,none⟩) j).trans (rb 7 _ rfl);clear q r g rb m
  go_wp2_with fail
  go_quiet (fail)
  have D:=ae ((aa a).trans ((ap (zV wr.heap.size wr) nq).mono (aa a).size))
  go_wp2
  go_roundw
  ·exact⟨k+1,by omega,by go_num,D⟩
  simp[intOf]; omega
 have o:k=l.length:=by omega
 subst o
 go_wp2
 go_ret;exact⟨rfl,aa a⟩
end
section
variable {α:Type}{R:dR α}{T:TypeId}{w:World}{l:List α}
theorem ah.row {g off n cap:Nat}(h:ah R T w (.slice (some ⟨g,off,none⟩) n cap) l){i:Nat}{a:α}(hi:l[i]?=some a):w.rangeAt g (off+i*R.wid) (R.enc a):=fun _ _ b=>(h.cellF hi b).1
theorem ah.val {v:Value}(h:ah R T w v l):∃a cap,v=.slice a l.length cap/\(0<l.length->∃g off,a=some ⟨g,off,none⟩):=by
 rcases h with⟨rfl,rfl⟩|⟨g,off,cap,b,rfl,_⟩
 ·exact⟨none,0,rfl,fun q=>by simp at q⟩
 exact⟨_,cap,rfl,fun _=>⟨g,off,rfl⟩⟩
end
section
variable {w w1 w':World}{fb:Nat}{X Y:RV}{rq:List Rq}{jb:List Jb}{en:List En}
theorem aP.beside {S:Nat->Prop}{Ts:List TypeId}(h:aP w fb X w1 Y rq jb en)(a:aE S w1 w')(b:fQ S w1 Ts)(c:135∉Ts)(d:158∉Ts)(f:165∉Ts)(g:162∉Ts)(i:∀q,S q->w.heap.size<=q):aP w fb X w' Y rq jb en:=
 ⟨bJ h.blk a b c,⟨h.mem.rq.frmT a b d,h.mem.jb.frmT a b f,h.mem.en.frmT a b g⟩,h.frm.then a (fun q j e=>by have:=i q e; omega),h.new,h.sb⟩
theorem aP.mark (h:aP w fb X w1 Y rq jb en){b off n cap k:Nat}{c:Rq}(f:Y.rv=.slice (some ⟨b,off,none⟩) n cap)(i:rq[k]?=some c)(a:Bool):
  w1.cell? ⟨b,off+k*7+6,none⟩=some (.bool c.done)/\w1.frozen? ⟨b,off+k*7+6,none⟩=false/\aP w fb X (w1.setCell ⟨b,off+k*7+6,none⟩ (.bool a)) Y (rq.set k { c with done:=a }) jb en/\aE (fun q=>q=b) w1 (w1.setCell ⟨b,off+k*7+6,none⟩ (.bool a)):=by
 have d:=h.mem.rq;rw[f] at d;obtain⟨l,m⟩:=d.cellF i (j:=6) (u:=.bool c.done) rfl;have g:aE (fun q=>q=b) w1 (w1.setCell ⟨b,off+k*7+6,none⟩ (.bool a)):=(aE.rfl' _ _).setCell (p:=⟨b,off+k*7+6,none⟩) _ (fun _=>rfl)
 refine⟨l,m,h.trans (h.mem.rin h.blk ?_ (g.mono fun q _ e=>by rw[f,e]; rfl)),g⟩
 rw[f]
 exact d.setF i (j:=6) (x:=.bool a) (by decide) (Rq.enc_done _ a)
end
section
variable {w w1 w':World}{fb:Nat}{X Y:RV}{rq:List Rq}{jb jb':List Jb}{en:List En}
theorem aP.besideJ {S:Nat->Prop}(h:aP w fb X w1 Y rq jb en)(a:aE S w1 w')(b:fQ S w1 [165])(c:∀q,Y.jv.ownBlock=some q->¬S q)(d:∀q,S q->w.heap.size<=q):aP w fb X w' Y rq jb en:=
 ⟨bJ h.blk a b (by decide),⟨h.mem.rq.frmT a b (by decide),h.mem.jb.frm a c,h.mem.en.frmT a b (by decide)⟩,h.frm.then a (fun q f e=>by have:=d q e; omega),h.new,h.sb⟩
theorem aP.setJ (h:aP w fb X w1 Y rq jb en){jv':Value}(c:ah jP 165 w1 jv' jb')(d:∀g,jv'.ownBlock=some g->w.heap.size<=g):aP w fb X (w1.setCell ⟨fb,10,none⟩ jv') { Y with jv:=jv' } rq jb' en:=by
 have b:aE (fun k=>k=fb) w1 (w1.setCell ⟨fb,10,none⟩ jv'):=(aE.rfl' _ _).setCell (p:=⟨fb,10,none⟩) _ (fun _=>rfl);refine⟨aF.set h.blk 10 _ (RV.set_jv _ _),⟨?_,?_,?_⟩,h.frm.then b (fun q _ e=>Or.inl e),fun k q=>?_,h.sb⟩
 ·exact h.mem.rq.frm b (fun g a=>au h.mem.rq h.blk (by decide) g a)
 ·exact c.frm b (fun g a=>au c h.blk (by decide) g a)
 ·exact h.mem.en.frm b (fun g a=>au h.mem.en h.blk (by decide) g a)
 rcases q with q|q|q|q
 ·exact Or.inl (Or.inl q)
 ·exact h.new k (Or.inr (Or.inl q))
 ·exact Or.inr (d k q)
 exact h.new k (Or.inr (Or.inr (Or.inr q)))
end
def TkP (w:World)(fb:Nat)(X:RV)(nw:Nat)(rq:List Rq)(jb:List Jb)(en:List En)(e:Ending)(w':World):Prop:=
 ∃rv jv',e=.returned rv/\ah bE 103 w' rv (dS (nH (nw+1:Nat)) 0 rq)/\(∀g,rv.ownBlock=some g->w.heap.size<=g) /\
  aP w fb X w' { X with nw:=((nw+1:Nat):Int),jv:=jv' } (rq.map (li (nw+1:Nat))) (tkJ (rq.map (li (nw+1:Nat))) jb) en
section
variable {w:World}{fb:Nat}{X:RV}
theorem rTick_any (nw:Nat)(rq:List Rq)(jb:List Jb)(en:List En)(aD:aF w fb X)(hm:cE w X rq jb en)(bO:X.nw=nw)(cf:nw<=1000000000)(bj:∀S∈rq,bP S.k)(ch:rq.length<=10000000)(cd:jb.length<=1000000):
  Calls prog 47 #[some fb] w fun e w'=>TkP w fb X nw rq jb en e w':=by
 obtain⟨w1,az⟩:∃w1,w.setCell ⟨fb,6,none⟩ (.int .i64 ((nw:Int)+1))=w1:=⟨_,rfl⟩
 have aB:w.cell? ⟨fb,6,none⟩=some (.int .i64 (nw:Int)):=by rw[<-bO]; exact aF.c aD 6 rfl
 have a9:=kr aD 6
 have bT:IntKind.i64.wrap ((nw:Int)+1)=(nw:Int)+1:=bG _ (by omega)
 have ad:=hm.nw aD ((nw:Int)+1);rw[az] at ad;obtain⟨M,b3⟩:∃M:Nat,nw+1=M:=⟨_,rfl⟩
 have bJ:(nw:Int)+1=(M:Int):=by omega
 unfold TkP;rw[b3];rw[bJ] at bT ad az;obtain⟨C,am⟩:∃C:RV,({ X with nw:=(M:Int) }:RV)=C:=⟨_,rfl⟩
 have be:C.nw=(M:Int):=by rw[<-am]
 have bd:∀jv',({ X with nw:=(M:Int),jv:=jv' }:RV)={ C with jv:=jv' }:=fun jv'=>by rw[<-am]
 rw[am] at ad
 have aA:Hid (aP w fb X w1 C (gW (li M) rq 0) jb en/\ah bE 103 w1 (.slice none 0 0) (dS (nH M) 0 (rq.take 0))/\(∀g,(Value.slice none 0 0).ownBlock=some g->w.heap.size<=g)):=⟨by rw[midG_zero]; exact ad,Or.inl ⟨rfl,by simp[dS]⟩,fun g ao=>by cases ao⟩
 have bD:=ae az;have bC:=ae bj;have bH:=ae bd;have bY:=ae be
 have bw:Hid (∀q,C.jv.ownBlock=some q->q<w.heap.size):=fun q D=>by rw[<-am] at D; exact hm.jb.lt D
 clear ad az aD hm bj am be bd;go_enter func47,ntmps47
 go_wp2_with (refine cU w1 (kO _ _ _ _ rfl fb 6 (M:Int) rfl (by simp[go_sem]) w w1 aB a9 (aa bD)) rfl ?_)
 clear aB a9
 go_loopw [3,4] (fun br S wr=>∃k:Nat,k<=rq.length/\S=.int .i64 k/\Hid (aP w fb X wr C (gW (li M) rq k) jb en/\ah bE 103 wr br (dS (nH M) 0 (rq.take k))/\(∀g,br.ownBlock=some g->w.heap.size<=g))) (fun _ S _=>rq.length-(intOf S).toNat)
 ·exact⟨0,by omega,rfl,aA⟩
 obtain⟨k,cj,rfl,T⟩:=hrel;obtain⟨a,h,v⟩:=aa T;obtain⟨b8,bs,Y,ay⟩:=a.mem.rq.val;rw[midG_len] at Y ay
 have aW:wr.cell? ⟨fb,9,none⟩=some (.slice b8 rq.length bs):=by rw[<-Y]; exact aF.c a.blk 9 rfl
 by_cases bh:k<rq.length
 ·have aQ:(k:Int)<rq.length:=by omega
  obtain⟨b,off,rfl⟩:=ay (by omega)
  obtain⟨⟨kk,Z,F,ak⟩,H⟩:∃t,rq[k]?=some t:=⟨_,zQ bh⟩;have aw:=(midG_at (f:=li M) bh).trans H;have L:=a.mem.rq;rw[Y] at L;have b0:wr.cell? ⟨b,off+k*7+6,none⟩=some (.bool ak):=(L.cellF aw (j:=6) (u:=.bool ak) rfl).1;have bZ:wr.cell? ⟨b,off+k*7+5,none⟩=some (.int .i64 F):=(L.cellF aw (j:=5) (u:=.int .i64 F) rfl).1
  have aB:wr.cell? ⟨fb,6,none⟩=some (.int .i64 (M:Int)):=by rw[<-aa bY]; exact aF.c a.blk 6 rfl
  have skip:ltd M ⟨kk,Z,F,ak⟩=false->∀aH,Below wr.heap.size wr aH->aP w fb X aH C (gW (li M) rq (k+1)) jb en/\ah bE 103 aH u3 (dS (nH M) 0 (rq.take (k+1)))/\(∀g,u3.ownBlock=some g->w.heap.size<=g):=fun bp aH bn=>by
   refine⟨?_,?_,v⟩
   ·rw[midG_no H (by unfold li; rw[bp]; rfl)]; exact a.on bn
   rw[nz H,show nH M k ⟨kk,Z,F,ak⟩=[] by unfold nH; rw[bp]; rfl,yW]; exact h.on bn
  have a7:=ae skip;have aU:=ae (And.intro a (And.intro h v));have aL:=ae Y;have bz:=ae aw;clear skip a h v Y ay aw L T
  cases ak with
  | true=>
   go_wp2_with fail
   go_quiet (fail)
   have B:=ae (aa a7 rfl _ (nc wr nq))
   go_wp2
   go_roundw
   ·exact⟨k+1,by omega,by go_num,B⟩
   simp[intOf]; omega
  | false=>
   by_cases bf:F<=(M:Int)
   ·have aX:decide (F<=(M:Int))=true:=zU bf
    go_wp2_with fail
    go_quiet (fail)
    obtain⟨x,bm⟩:∃x,wr.drewN nq=x:=⟨_,rfl⟩;have I:=nc wr nq;rw[bm] at I ⊢;clear bm b0 bZ aB aW;obtain⟨a,h,v⟩:=aa aU;have E:=a.on I;have U:=h.on I;obtain⟨b5,b6,ap,a0⟩:=E.mark (aa aL) (aa bz) true
    have aW:x.cell? ⟨fb,9,none⟩=some (.slice (some ⟨b,off,none⟩) rq.length bs):=by rw[<-aa aL]; exact aF.c E.blk 9 rfl
    have bb:fQ (fun q=>q=b) x [158]:=fun q D=>by
     have:=E.mem.rq;rw[aa aL] at this;obtain⟨c,an⟩:=this.ty (g:=b) rfl;rw[D]
     exact⟨_,_,an,by simp⟩
    have aK:=U.frmT a0 bb (by decide)
    obtain⟨Q,aT⟩:∃Q,x.setCell ⟨b,off+k*7+6,none⟩ (.bool true)=Q:=⟨_,rfl⟩;rw[aT] at ap a0 aK
    have a3:ltd M ⟨kk,Z,F,false⟩=true:=by unfold ltd; dsimp only; rw[aX]; rfl
    have aR:=midG_set (f:=li M) H
    rw[show li M ⟨kk,Z,F,false⟩=⟨kk,Z,F,true⟩ by unfold li; rw[a3]; rfl] at aR
    rw[aR] at ap;have aS:=nz (s:=nH M) H
    rw[show nH M k ⟨kk,Z,F,false⟩=[⟨k,504,⟨#[]⟩,⟨#[]⟩⟩] by unfold nH; rw[a3]; rfl] at aS
    have ag:=aZ bE 103 Q ⟨k,504,⟨#[]⟩,⟨#[]⟩⟩ #[k,(504:Int),.string ⟨#[]⟩,.string ⟨#[]⟩] rfl;have K:=aj Q (.cells #[k,(504:Int),.string ⟨#[]⟩,.string ⟨#[]⟩] 103);have aI:=aK.on K;have bi:=repG_len (s:=nH M) (ltS_len M) (rq.take k) 0;rw[zD] at bi
    obtain⟨av,R,aG,ab,aq,ar⟩:=apRep aI ag (by simp only[zT]; omega)
    rw[<-aS] at ab;have af:=ap.on K;have V:aE (fun q=>u3.ownBlock=some q) (Q.alloc (.cells #[k,(504:Int),.string ⟨#[]⟩,.string ⟨#[]⟩] 103)) R:=(aE.rfl' _ _).grown aq (fun q D _=>D)
    have W:fQ (fun q=>u3.ownBlock=some q) (Q.alloc (.cells #[k,(504:Int),.string ⟨#[]⟩,.string ⟨#[]⟩] 103)) [103]:=fun q D=>by
     obtain⟨c,an⟩:=aI.ty D
     exact⟨_,_,an,by simp⟩
    have bR:=ap.frm.size
    have B:Hid (aP w fb X R C (gW (li M) rq (k+1)) jb en/\ah bE 103 R av (dS (nH M) 0 (rq.take (k+1)))/\(∀g,av.ownBlock=some g->w.heap.size<=g)):=⟨af.beside V W (by decide) (by decide) (by decide) (by decide) v,ab,bN v ar (by simp; omega)⟩
    have bF:=ae aT;clear a h E U ap a0 aK aR aS ag K aI bi ab aq ar af V W bb v I aT
    go_wp2_with (first|refine cU Q (stB _ _ _ _ rfl b (off+k*7+6) true (by simp[go_sem]) (by simp[go_sem]) x Q b5 b6 (aa bF)) rfl ?_|refine cP _ _ (gz k 504 ⟨#[]⟩ ⟨#[]⟩ _ _ _ rfl rfl _) rfl ?_|(at_builtin; refine fS 89 aG rfl _ _ rfl rfl rfl rfl ?_))
    go_roundw
    ·exact⟨k+1,by omega,by go_num,B⟩
    simp[intOf]; omega
   have aX:decide (F<=(M:Int))=false:=zG bf
   go_wp2_with fail
   go_quiet (fail)
   have B:=ae (aa a7 (by unfold ltd; dsimp only; rw[aX]; rfl) _ (nc wr nq))
   go_wp2
   go_roundw
   ·exact⟨k+1,by omega,by go_num,B⟩
   simp[intOf]; omega
 have aQ:k=rq.length:=by omega
 subst aQ
 have aQ:¬((rq.length:Int)<rq.length):=by omega
 have bM:=a;rw[midG_all] at a;rw[zx] at h;obtain⟨d,al⟩:∃d,rq.map (li M)=d:=⟨_,rfl⟩
 have cb:d.length=rq.length:=by rw[<-al,zY]
 have ba:∀S∈d,bP S.k:=fun S bo=>by
  rw[<-al] at bo;obtain⟨b7,bQ,rfl⟩:=yH.1 bo;have:=aa bC b7 bQ
  unfold li; split<;>exact this
 rw[al] at a;have bA:=ae al
 have bx:Hid (aP w fb X wr C d jb en/\ah bE 103 wr u3 (dS (nH M) 0 rq)/\(∀g,u3.ownBlock=some g->w.heap.size<=g)/\ah jP 165 wr (.slice none 0 0) (tkJ d (jb.take 0))/\(∀g,(Value.slice none 0 0).ownBlock=some g->w.heap.size<=g)):=⟨a,h,v,Or.inl ⟨rfl,by simp[tkJ]⟩,fun g ao=>by cases ao⟩
 obtain⟨N,P,O,rfl⟩:=h.sl;obtain⟨bt,rfl⟩:∃bt:World,bt=wr:=⟨_,rfl⟩;have bB:=ae ba;clear a bM h v al ba T Y ay
 go_wp2_with fail
 clear aW
 go_loopw [5,6,7] (fun jv i _ wr=>∃k:Nat,k<=jb.length/\i=.int .i64 k/\Hid (aP w fb X wr C d jb en/\ah bE 103 wr (.slice N P O) (dS (nH M) 0 rq)/\(∀g,(Value.slice N P O).ownBlock=some g->w.heap.size<=g)/\ah jP 165 wr jv (tkJ d (jb.take k))/\(∀g,jv.ownBlock=some g->w.heap.size<=g))) (fun _ i _ _=>jb.length-(intOf i).toNat)
 ·exact⟨0,by omega,rfl,bx⟩
 obtain⟨k,ce,rfl,T⟩:=hrel;obtain⟨a,h,v,J,G⟩:=aa T;obtain⟨b4,bq,ai,aO⟩:=a.mem.jb.val
 have bI:wr.cell? ⟨fb,10,none⟩=some (.slice b4 jb.length bq):=by rw[<-ai]; exact aF.c a.blk 10 rfl
 by_cases bu:k<jb.length
 ·have a2:(k:Int)<jb.length:=by omega
  obtain⟨b,off,rfl⟩:=aO (by omega)
  obtain⟨⟨⟨l,r,n,o⟩,m,z,A,y⟩,H⟩:∃t,jb[k]?=some t:=⟨_,zQ bu⟩;have L:=a.mem.jb;rw[ai] at L;have a4:wr.rangeAt b (off+k*8) (#[l,r,n,o]:Array Value).toList:=dV (L.row H) rfl
  have aV:=fh fb _ d l r n o false wr a.blk a.mem.rq.at (aa bB) (by omega)
  obtain⟨ac,aC⟩:∃ac,bg d ⟨l,r,n,o⟩ false=ac:=⟨_,rfl⟩;rw[aC] at aV;have bk:=tkJ_snoc (rq:=d) H;have bL:=ef d ⟨l,r,n,o⟩ false;rw[aC] at bL;have a8:=ae bk;have bW:=ae aC;have aU:=ae (And.intro a (And.intro h (And.intro v (And.intro J G))));have a6:=ae ai;clear a h v J G L bk T ai aO aC
  go_wp2_with (refine vM a4 rfl _ rfl rfl ?_)
  refine aV.mono ?_;rintro e x ⟨rfl,I⟩;obtain⟨a,h,v,J,G⟩:=aa aU;have E:=a.on I;have U:=h.on I;have aJ:=J.on I;have ax:=E.mem.jb;rw[aa a6] at ax
  have b9:x.cell? ⟨fb,10,none⟩=some (.slice (some ⟨b,off,none⟩) jb.length bq):=by rw[<-aa a6]; exact aF.c E.blk 10 rfl
  have ci:x.cell? ⟨b,off+k*8+4,none⟩=some (.int .i64 m):=(ax.cellF H (j:=4) (u:=.int .i64 m) rfl).1;have a1:x.rangeAt b (off+k*8) (#[l,r,n,o,m,z,A,y]:Array Value).toList:=ax.row H;have ag:=aZ jP 165 x ⟨⟨l,r,n,o⟩,m,z,A,y⟩ #[l,r,n,o,m,z,A,y] rfl;have K:=aj x (.cells #[l,r,n,o,m,z,A,y] 165);have aN:=aJ.on K
  have ca:(tkJ d (jb.take k)).length<=k:=by
   unfold tkJ;refine zF (ze _ _) ?_
   rw[zD]; omega
  obtain⟨av,R,aG,ab,aq,ar⟩:=apJb aN ag (by simp only[zT]; omega)
  have af:=E.on K;have V:aE (fun q=>u5.ownBlock=some q) (x.alloc (.cells #[l,r,n,o,m,z,A,y] 165)) R:=(aE.rfl' _ _).grown aq (fun q D _=>D);have bR:=E.frm.size
  have W:fQ (fun q=>u5.ownBlock=some q) (x.alloc (.cells #[l,r,n,o,m,z,A,y] 165)) [165]:=fun q D=>by
   obtain⟨c,an⟩:=aN.ty D
   exact⟨_,_,an,by simp⟩
  have B:tkP d ⟨⟨l,r,n,o⟩,m,z,A,y⟩=true->aP w fb X R C d jb en/\ah bE 103 R (.slice N P O) (dS (nH M) 0 rq)/\(∀g,(Value.slice N P O).ownBlock=some g->w.heap.size<=g)/\ah jP 165 R av (tkJ d (jb.take (k+1)))/\(∀g,av.ownBlock=some g->w.heap.size<=g):=fun aY=>by
   refine⟨af.besideJ V W (fun q b1 b2=>by have:=G q b2; have:=aa bw q b1; omega) G,(U.on K).frmT V W (by decide),v,?_,bN G ar (by simp; omega)⟩
   rw[aa a8,zJ aY]; exact ab
  have a5:tkP d ⟨⟨l,r,n,o⟩,m,z,A,y⟩=false->aP w fb X x C d jb en/\ah bE 103 x (.slice N P O) (dS (nH M) 0 rq)/\(∀g,(Value.slice N P O).ownBlock=some g->w.heap.size<=g)/\ah jP 165 x u5 (tkJ d (jb.take (k+1)))/\(∀g,u5.ownBlock=some g->w.heap.size<=g):=fun aY=>by
   refine⟨E,U,v,?_,G⟩
   rw[aa a8,zK (by rw[aY]; decide),yW]; exact aJ
  have bc:tkP d ⟨⟨l,r,n,o⟩,m,z,A,y⟩=(decide (0<ac) || decide (0<=m)):=by unfold tkP; dsimp only; rw[aa bW]
  have aA:=ae B;have bV:=ae a5;have aM:=ae bc;clear a h v J G E U aJ ax ag K aN ab aq ar af V W B a5 bc aV I a4 bI
  by_cases bv:0<ac
  ·have cg:(0:Int)<ac:=by omega
   have B:=ae (aa aA (by rw[aa aM,zU bv]; rfl))
   go_wp2_with (first|refine bU 165 #[l,r,n,o,m,z,A,y] underlying165 rfl (fu ⟨⟨l,r,n,o⟩,m,z,A,y⟩) b (off+k*8) a1 rfl _ rfl rfl ?_|refine cP _ _ (bsJb ⟨⟨l,r,n,o⟩,m,z,A,y⟩ _ _ _ rfl rfl _) rfl ?_|(at_builtin; refine fS 132 aG rfl _ _ rfl rfl rfl rfl ?_))
   go_roundw
   ·exact⟨k+1,by omega,by go_num,B⟩
   simp[intOf]; omega
  have bK:ac=0:=by omega
  subst bK
  by_cases bl:0<=m
  ·have B:=ae (aa aA (by rw[aa aM,zU bl]; simp))
   go_wp2_with (first|refine bU 165 #[l,r,n,o,m,z,A,y] underlying165 rfl (fu ⟨⟨l,r,n,o⟩,m,z,A,y⟩) b (off+k*8) a1 rfl _ rfl rfl ?_|refine cP _ _ (bsJb ⟨⟨l,r,n,o⟩,m,z,A,y⟩ _ _ _ rfl rfl _) rfl ?_|(at_builtin; refine fS 132 aG rfl _ _ rfl rfl rfl rfl ?_))
   go_roundw
   ·exact⟨k+1,by omega,by go_num,B⟩
   simp[intOf]; omega
  have B:=ae (aa bV (by rw[aa aM,zG bl]; rfl))
  go_wp2
  go_roundw
  ·exact⟨k+1,by omega,by go_num,B⟩
  simp[intOf]; omega
 have a2:k=jb.length:=by omega
 subst a2;rw[zx] at J;have cc:=kr a.blk 10;obtain⟨ck,cm,cl,bS⟩:=J.sl
 have bX:Hid (∃rv jv',Ending.returned (.slice N P O)=.returned rv/\ah bE 103 (wr.setCell ⟨fb,10,none⟩ u5) rv (dS (nH M) 0 rq)/\(∀g,rv.ownBlock=some g->w.heap.size<=g)/\aP w fb X (wr.setCell ⟨fb,10,none⟩ u5) { X with nw:=(M:Int),jv:=jv' } (rq.map (li M)) (tkJ (rq.map (li M)) jb) en):=by
  show ∃_,_;rw[aa bA]
  exact⟨.slice N P O,u5,rfl,h.frm ((aE.rfl' (fun k=>k=fb) _).setCell (p:=⟨fb,10,none⟩) _ (fun _=>rfl)) (fun g ao=>au h a.blk (by decide) g ao),v,by rw[aa bH]; exact a.setJ J G⟩
 subst bS;clear a h v J G T ai aO
 go_wp2
 go_ret;exact aa bX
end
section
variable {w w1:World}{fb:Nat}{X Y:RV}{rq:List Rq}{jb:List Jb}{en:List En}
theorem aP.jset (h:aP w fb X w1 Y rq jb en){b off n cap i:Nat}{j j':Jb}(d:Y.jv=.slice (some ⟨b,off,none⟩) n cap)(f:jb[i]?=some j){c:Nat}{u:Value}{x:Int}(g:(jP.enc j)[c]?=some u)(o:jP.enc j'=(jP.enc j).set c (.int .i64 x)):
  w1.cell? ⟨b,off+i*8+c,none⟩=some u/\w1.frozen? ⟨b,off+i*8+c,none⟩=false/\aP w fb X (w1.setCell ⟨b,off+i*8+c,none⟩ (.int .i64 x)) Y rq (jb.set i j') en:=by
 have a:=h.mem.jb;rw[d] at a;obtain⟨k,l⟩:=a.cellF f (j:=c) g;have m:aE (fun q=>q=b) w1 (w1.setCell ⟨b,off+i*8+c,none⟩ (.int .i64 x)):=(aE.rfl' _ _).setCell (p:=⟨b,off+i*8+c,none⟩) _ (fun _=>rfl)
 refine⟨k,l,h.trans (h.mem.jin h.blk ?_ (m.mono fun q _ e=>by rw[d,e]; rfl))⟩
 rw[d]
 exact a.setF f (j:=c) (x:=.int .i64 x) (by have:=(zX.1 g).1; rw[jP.len] at this; exact this) o
end
theorem hdI_snoc {jb:List Jb}{k:Nat}{j:Jb}(h:jb[k]?=some j):kf jb (k+1)=match kf jb k with
  | none=>if j.wk=-1 then some k else none
  | some g=>if j.wk=-1/\j.pl<plA jb g then some k else some g:=by
 rw[kf,h]
 cases kf jb k<;>rfl
theorem wkI_none {jb:List Jb}{a:Int}(h:∀i j,i<jb.length->jb[i]?=some j->j.wk≠a):wkI jb a=none:=o9 fun i b hi c=>by
 have:=h i b hi c;simpa using this
theorem wkI_some {jb:List Jb}{a:Int}{k:Nat}{j:Jb}(d:jb[k]?=some j)(hw:j.wk=a)(h:∀i j,i<k->jb[i]?=some j->j.wk≠a):wkI jb a=some k:=o8 d (zU hw) fun i b hi c=>by
 have:=h i b hi c;simpa using this
def WkP (w:World)(fb:Nat)(X:RV)(D:DF)(a:Nat)(e:Ending)(w':World):Prop:=
 ∃rv jv' ev',e=.returned rv/\ah bE 103 w' rv (D.work a).2/\(∀g,rv.ownBlock=some g->w.heap.size<=g) /\
  aP w fb X w' { X with ct:=((D.work a).1.ct:Int),st:=((D.work a).1.st:Int),jv:=jv',ev:=ev' } (D.work a).1.rq (D.work a).1.jb (D.work a).1.en
section
variable {w w1:World}{fb:Nat}{X:RV}{keep:Int}{bv pv:Value}{SL:List cA}{PI:List Int}{D:DF}
theorem WkP.nil (b:aP w fb X w1 { X with ct:=(D.ct:Int),st:=(D.st:Int) } D.rq D.jb D.en){a:Nat}(h:D.work a=(D,[])):WkP w fb X D a (.returned (.slice none 0 0)) w1:=by
 refine⟨.slice none 0 0,X.jv,X.ev,rfl,?_,fun g c=>(by cases c),?_⟩
 ·rw[h]; exact Or.inl ⟨rfl,rfl⟩
 rw[h]; exact b
theorem rWork_any (a:Int)(aw:aF w fb X)(hm:cE w X D.rq D.jb D.en)(bL:X.ca=D.ca)(be:X.ct=D.ct)(N:X.st=D.st)(b0:X.wk=D.wk)(bM:X.ch=D.ch)(cs:D.ct<=100000000)(dd:D.st<=100000000)(cr:1<=D.ch/\D.ch<=8)(aZ:eV w X.sb keep bv pv SL D.bs PI)(aX:ke D.bs)
  (aQ:∀j∈D.jb,0<=j.rd/\j.rd<=D.bs.length/\bP j.b/\0<=j.lf/\j.lf<=1000) (aU:∀a4∈D.rq,bP a4.k) (aR:∀a4∈D.rq,a4.done=false->dy a4.k) (cB:D.rq.length<=10000000) (cy:D.jb.length<=1000000) (cu:D.en.length<=50000) (cq:aY D.en<=500000) :
  Calls prog 43 #[some fb,a] w fun e w'=>if a<0 then e=.returned (.slice none 0 0)/\w'=w else WkP w fb X D a.toNat e w':=by
 have aA:aP w fb X w { X with ct:=(D.ct:Int),st:=(D.st:Int) } D.rq D.jb D.en:=by
  have e:({ X with ct:=(D.ct:Int),st:=(D.st:Int) }:RV)=X:=by rw[<-be,<-N]
  rw[e]; exact aP.refl aw hm
 have cM:w.cell? ⟨fb,1,none⟩=some (.int .i64 (D.wk:Int)):=by rw[<-b0]; exact aF.c aw 1 rfl
 by_cases av:a<0
 ·simp only[zJ av]
  clear aA aw hm aZ aX aQ aU aR;go_enter func43,ntmps43
  go_wp2
  go_ret;exact⟨rfl,rfl⟩
 simp only[zK av]
 obtain⟨A,rfl⟩:∃A:Nat,a=(A:Int):=⟨a.toNat,by omega⟩
 rw[Int.toNat_natCast]
 by_cases cR:(D.wk:Int)<=(A:Int)
 ·have T:Hid (WkP w fb X D A (.returned (.slice none 0 0)) w):=WkP.nil aA (by unfold DF.work; rw[zJ (by omega)])
  clear aA aw hm aZ aX aQ aU aR;go_enter func43,ntmps43
  go_wp2
  go_ret;exact aa T
 have b4:¬D.wk<=A:=by omega
 obtain⟨cT,L,bR,bO⟩:=hm.jb.val;have cp:X.st=D.st:=N;have az:=ae bR;have bD:=ae bO;have aE:=ae aw;have bl:=ae hm;have bm:=ae aZ;have bk:=ae aX;have ci:=ae aQ;have cm:=ae aU;have cj:=ae aR;have a7:=ae aA;have cf:=ae bL;have c6:=ae be;have c8:=ae N;have cg:=ae bM;clear aA aw hm aZ aX aQ aU aR bL be N cp bR bO b0 bM;go_enter func43,ntmps43
 go_wp2_with fail
 clear cM
 go_loopw [5,6,7] (fun cS i _ wr=>∃k:Nat,k<=D.jb.length/\i=.int .i64 k/\cS=.int .i64 (m5 (kf D.jb k))/\Hid (∀i j,i<k->D.jb[i]?=some j->j.wk≠(A:Int))/\Hid (Below w.heap.size w wr)) (fun _ i _ _=>D.jb.length-(intOf i).toNat)
 ·exact⟨0,by omega,rfl,rfl,ae (fun i j hi=>by omega),ae bu⟩
 obtain⟨k,dh,rfl,rfl,bg,J⟩:=hrel
 have ar:wr.cell? ⟨fb,10,none⟩=some (.slice cT D.jb.length L):=by rw[<-aa az]; exact aF.c (ag (aa aE) (aa J)) 10 rfl
 by_cases bT:k<D.jb.length
 ·have bf:(k:Int)<D.jb.length:=by omega
  obtain⟨b,off,rfl⟩:=aa bD (by omega)
  obtain⟨⟨⟨r,z,v,y⟩,E,f,l,d⟩,ao⟩:∃t,D.jb[k]?=some t:=⟨_,zQ bT⟩;have bQ:=aa ci _ (zR ao);dsimp only at bQ;have bV:=(aa bl).on (aa J);have al:=bV.jb;rw[aa az] at al;have da:b<wr.heap.size:=al.lt rfl;have bN:fb<wr.heap.size:=an (ag (aa aE) (aa J));have P:wr.rangeAt b (off+k*8) (#[r,z,v,y,E,f,l,d]:Array Value).toList:=al.row ao;obtain⟨m,aW⟩:∃m,wr.alloc (.cells #[r,z,v,y,E,f,l,d] 165)=m:=⟨_,rfl⟩;have bc:Below wr.heap.size wr m:=aW▸aj wr (.cells #[r,z,v,y,E,f,l,d] 165);have au:m.heap[wr.heap.size]?=some (.cells #[r,z,v,y,E,f,l,d] 165):=aW▸zZ wr (.cells #[r,z,v,y,E,f,l,d] 165);have bx:m.cell? ⟨fb,10,none⟩=some (.slice (some ⟨b,off,none⟩) D.jb.length L):=(bc.cell (p:=⟨fb,10,none⟩) bN).trans ar;have cP:m.cell? ⟨wr.heap.size,4,none⟩=some (.int .i64 E):=(af au 4).trans rfl;have cQ:m.cell? ⟨wr.heap.size,5,none⟩=some (.int .i64 f):=(af au 5).trans rfl;have b3:m.cell? ⟨wr.heap.size,7,none⟩=some (.int .i64 d):=(af au 7).trans rfl;have ch:=ae au;have Q:=ae ((aa J).trans (bc.mono (aa J).size));have df:wr.heap.size<m.heap.size:=an au;have aL:=ae aW;clear bV al bc au aW
  by_cases hw:E=(A:Int)
  ·subst hw
   have bn:=ae (wkI_some ao rfl (aa bg));have F:=(aa a7).on (aa Q);have bz:({ X with ct:=(D.ct:Int),st:=(D.st:Int) }:RV).jv=.slice (some ⟨b,off,none⟩) D.jb.length L:=aa az
   have cx:IntKind.i64.wrap (d-1)=d-1:=bG _ (by omega)
   obtain⟨b8,cA⟩:∃b8,m=b8:=⟨_,rfl⟩;have bF:=ae F
   have bJ:D.work A=if d=1 then DF.paint { D with jb:=D.jb.set k ⟨⟨r,z,v,y⟩,(A:Int),f,l,d-1⟩ } k ⟨⟨r,z,v,y⟩,(A:Int),f,l,d-1⟩ else ({ D with jb:=D.jb.set k ⟨⟨r,z,v,y⟩,(A:Int),f,l,d-1⟩ },[]):=by
    unfold DF.work;rw[zK b4,aa bn];dsimp only;rw[ao]
   have aM:=ae bJ;clear F bJ cA
   go_wp2_with (refine bU 165 #[r,z,v,y,(A:Int),f,l,d] underlying165 rfl (fu ⟨⟨r,z,v,y⟩,(A:Int),f,l,d⟩) b (off+k*8) P rfl _ rfl rfl ?_)
   rw[aa aL];clear ar P
   refine z8 (S:=fun w'=>w'.cell? ⟨fb,10,none⟩=some (.slice (some ⟨b,off,none⟩) D.jb.length L)/\w'.cell? ⟨wr.heap.size,7,none⟩=some (.int .i64 d)) (by kernel_rfl) ?_
   change wpAnyH _ _ _ _ _ _ _ _ (World.drew _);have bd:Below m.heap.size m (World.drew m):=zE bu;have ba:=(aa bF).on bd;have cD:m.heap.size<=(World.drew m).heap.size:=bd.size;have F:(World.drew m).cell? ⟨fb,10,none⟩=some (.slice (some ⟨b,off,none⟩) D.jb.length L)/\(World.drew m).cell? ⟨wr.heap.size,7,none⟩=some (.int .i64 d):=⟨bx,b3⟩;generalize World.drew m=M at ba F cD ⊢;obtain⟨aI,aJ,U⟩:=ba.jset bz ao (c:=7) (j':=⟨⟨r,z,v,y⟩,(A:Int),f,l,d-1⟩) (x:=d-1) rfl rfl;obtain⟨G,W⟩:∃G,M.setCell ⟨b,off+k*8+7,none⟩ (.int .i64 (d-1))=G:=⟨_,rfl⟩;rw[W] at U
   have bb:G.cell? ⟨fb,10,none⟩=some (.slice (some ⟨b,off,none⟩) D.jb.length L)/\G.cell? ⟨wr.heap.size,7,none⟩=some (.int .i64 d):=⟨by rw[<-bz]; exact aF.c U.blk 10 rfl,by
    rw[<-F.2,<-W]; exact zP (a:=⟨wr.heap.size,7,none⟩) (zW _ _ _ _ (by show wr.heap.size≠b; omega))⟩
   have aK:=ae U;have c9:=bb.2;clear ba U bd bF ch Q cP cQ b3 bx;refine am 0 rfl fb 0 F ?_;refine am 1 rfl fb 0 F ?_;refine am 2 rfl fb 10 F ?_
   refine aH 3 rfl (.slice (some ⟨b,off,none⟩) D.jb.length L) F ?_ (hy:=fun w' aC=>by simp[go_sem,aC.1])
   refine aH 4 rfl (.int .i64 k) F ?_;refine am 5 rfl wr.heap.size 7 F ?_
   refine aH 6 rfl (.int .i64 d) F ?_ (hy:=fun w' aC=>by simp[go_sem,aC.2])
   refine aH 7 rfl (.int .i64 (d-1)) F ?_ (hy:=fun w' aC=>by simp[go_sem,cx])
   refine am 8 rfl b (off+k*8) F ?_ (hy:=fun w' aC=>by simp[go_sem,bf])
   refine am 9 rfl b (off+k*8+7) F ?_;refine aV 10 ?_;refine cL 10 rfl rfl (G) (kO _ _ _ _ rfl b (off+k*8+7) (d-1) rfl rfl M G aI aJ W) (bb) ?_;simp only[Act.put]
   refine zm (by kernel_rfl) ?_ _
   clear F bb aI aJ W
   by_cases aO:d=1
   ·subst aO
    have aT:=aa aK
    have bo:=painted_any k r z v y (A:Int) f (1-1) l.toNat D.ca D.ct D.rq (D.jb.set k ⟨⟨r,z,v,y⟩,(A:Int),f,l,1-1⟩) D.en aT.blk aT.mem (aa cf) rfl cs (aT.rst (aa aE) (aa bl) (aa bm)) (aa bk) (by omega) (by rw[yi bT,show((l.toNat:Nat):Int)=l by omega]) bQ.2.2.1 (aa cm) (aa cj) cB (by rw[zn]; exact cy) cu cq
    rw[show((l.toNat:Nat):Int)=l by omega] at bo
    have ck:=ae bo;clear bo aT
    go_wp2_with fail
    refine(aa ck).mono ?_;rintro e cX ⟨rv,jv',ev',rfl,a2,b9,ca⟩
    have T:Hid (WkP w fb X D A (.returned rv) cX):=by
     have b5:=(aa aK).trans ca;refine⟨rv,jv',ev',rfl,?_,fun g aG=>?_,?_⟩
     ·rw[aa aM]; first|rw[zJ rfl]; exact a2|rw[zJ trivial]; exact a2
     ·have:=b9 g aG; have:=(aa aK).frm.size; omega
     rw[aa aM]; first|rw[zJ rfl]; exact b5|rw[zJ trivial]; exact b5
    obtain⟨di,dl,dj,rfl⟩:=a2.sl;clear a2 b9 ca
    go_wp2
    go_ret;exact aa T
   have c4:(d==1)=false:=by simpa using aO
   have T:Hid (WkP w fb X D A (.returned (.slice none 0 0)) G):=by
    refine⟨.slice none 0 0,X.jv,X.ev,rfl,?_,fun g aG=>(by cases aG),?_⟩
    ·rw[aa aM,zK aO]; exact Or.inl ⟨rfl,rfl⟩
    rw[aa aM,zK aO]; exact aa aK
   go_wp2
   go_ret;exact aa T
  have a6:Hid (∀i j,i<k+1->D.jb[i]?=some j->j.wk≠(A:Int)):=fun i j hi bs=>by
   rcases yP i k with q|q
   ·exact aa bg i j q bs
   have:i=k:=by omega
   subst this
   rw[ao] at bs; cases bs
   exact hw
  have B:=hdI_snoc ao;dsimp only at B
  have de:(E==(A:Int))=false:=by simpa using hw
  cases K:kf D.jb k with
  | none=>
   dsimp only[m5];rw[K] at B;dsimp only at B
   by_cases ai:E=-1
   focus
    subst ai;rw[zJ rfl] at B;have R:=ae B;clear B hw
    go_wp2_with (refine bU 165 #[r,z,v,y,.int .i64 (-1),f,l,d] underlying165 rfl (fu ⟨⟨r,z,v,y⟩,-1,f,l,d⟩) b (off+k*8) P rfl _ rfl rfl ?_)
   rotate_left
   focus
    rw[zK ai] at B
    have cz:(E == -1)=false:=by simpa using ai
    have R:=ae B;clear B hw
    go_wp2_with (refine bU 165 #[r,z,v,y,E,f,l,d] underlying165 rfl (fu ⟨⟨r,z,v,y⟩,E,f,l,d⟩) b (off+k*8) P rfl _ rfl rfl ?_)
   all_goals
    rw[aa aL];clear ar P
    go_quiet (fail)
    have ay:=ae ((aa Q).trans ((nc m nq).mono (aa Q).size))
    go_wp2
    go_roundw
    ·exact⟨k+1,by omega,by go_num,by first|(rw[aa R]; done)|(rw[aa R]; rfl),a6,ay⟩
    simp[intOf]; omega
  | some h=>
   dsimp only[m5];have aS:=pe D.jb k h K
   have cw:(h:Int)<D.jb.length:=by omega
   have cv:¬(h:Int)<0:=by omega
   obtain⟨a0,ak⟩:∃t,D.jb[h]?=some t:=⟨_,zQ (by omega)⟩
   have bX:plA D.jb h=a0.pl:=by unfold plA; rw[ak]; rfl
   have cV:m.cell? ⟨b,off+h*8+5,none⟩=some (.int .i64 a0.pl):=by
    have al:=((aa bl).on (aa Q)).jb;rw[aa az] at al;exact(al.cellF ak (j:=5) (u:=.int .i64 a0.pl) rfl).1
   rw[K] at B;dsimp only at B;rw[bX] at B;obtain⟨cW,bW⟩:∃p,a0.pl=p:=⟨_,rfl⟩;rw[bW] at cV B;have c7:=ae K;clear bX bW ak K
   by_cases ai:E=-1
   ·subst ai
    by_cases bS:f<cW
    focus
     rw[zJ ⟨rfl,bS⟩] at B
    rotate_left
    focus
     rw[zK (fun q=>bS q.2)] at B
    all_goals
     have R:=ae B;clear B hw
     go_wp2_with (refine bU 165 #[r,z,v,y,.int .i64 (-1),f,l,d] underlying165 rfl (fu ⟨⟨r,z,v,y⟩,-1,f,l,d⟩) b (off+k*8) P rfl _ rfl rfl ?_)
     rw[aa aL];clear ar P
     go_quiet (fail)
     have ay:=ae ((aa Q).trans ((nc m nq).mono (aa Q).size))
     go_wp2
     go_roundw
     ·exact⟨k+1,by omega,by go_num,by first|(rw[aa R]; done)|(rw[aa R]; rfl),a6,ay⟩
     simp[intOf]; omega
   rw[zK (fun q=>ai q.1)] at B
   have cz:(E == -1)=false:=by simpa using ai
   have R:=ae B;clear B hw
   go_wp2_with (refine bU 165 #[r,z,v,y,E,f,l,d] underlying165 rfl (fu ⟨⟨r,z,v,y⟩,E,f,l,d⟩) b (off+k*8) P rfl _ rfl rfl ?_)
   rw[aa aL];clear ar P
   go_quiet (fail)
   have ay:=ae ((aa Q).trans ((nc m nq).mono (aa Q).size))
   go_wp2
   go_roundw
   ·exact⟨k+1,by omega,by go_num,by first|(rw[aa R]; done)|(rw[aa R]; rfl),a6,ay⟩
   simp[intOf]; omega
 have bf:k=D.jb.length:=by omega
 subst bf;have bn:=ae (wkI_none (aa bg))
 have O:D.work A=match kf D.jb D.jb.length with
   | some h=>match D.jb[h]? with
    | some j=>(D.take A h j,[])
    | none=>(D,[])
   | none=>(D,[]):=by
  unfold DF.work;rw[zK b4,aa bn];rfl
 cases K:kf D.jb D.jb.length with
 | none=>
  dsimp only[m5];rw[K] at O;have T:Hid (WkP w fb X D A (.returned (.slice none 0 0)) wr):=WkP.nil ((aa a7).on (aa J)) O;clear O K
  go_wp2
  go_ret;exact aa T
 | some h=>
  dsimp only[m5];have aS:=pe D.jb _ h K
  have cw:(h:Int)<D.jb.length:=by omega
  have cv:¬(h:Int)<0:=by omega
  obtain⟨⟨Y,E,f,l,d⟩,ak⟩:∃t,D.jb[h]?=some t:=⟨_,zQ aS⟩;rw[K] at O;dsimp only at O;rw[ak] at O;dsimp only at O
  obtain⟨b,off,rfl⟩:=aa bD (by omega)
  have bE:=ae O;have cN:wr.cell? ⟨fb,5,none⟩=some (.pointer (some ⟨X.sb,0,none⟩)):=aF.c (ag (aa aE) (aa J)) 5 rfl;have b1:=ae (fun H (I:Below wr.heap.size wr H)=>dv (((aa bm).on (aa J)).on I));have a8:=aa b1 wr bu;obtain⟨V,bq⟩:∃V,D.bs.length=V:=⟨_,rfl⟩;have a5:=ae (fun H (I:Below wr.heap.size wr H)=>At_any X.sb keep bv pv SL D.bs PI D.bs.length H (((aa bm).on (aa J)).on I) aD (aa bk).n (aa bk).b8);rw[bq] at a8 a5;have co:=ae bq;have cn:=ae a8;have bN:fb<wr.heap.size:=an (ag (aa aE) (aa J));clear O K a8 bq b1
  go_wp2_with fail
  refine(aa cn).mono ?_;rintro e a3 ⟨rfl,rfl⟩;clear ar
  go_wp2_with fail
  refine(aa a5 wr bu).mono ?_;rintro e a3 ⟨rv,rfl,cC,bK⟩;obtain⟨dg,c1,rfl,_,_,_⟩:=cC;have cd:=d7 D.bs V;obtain⟨n,bt⟩:∃n,(dk D.bs V).length=n:=⟨_,rfl⟩;rw[bt] at cd ⊢;have cG:=ae bt;have a9:=((aa a7).on (aa J)).on bK
  have b2:a3.cell? ⟨fb,4,none⟩=some (.int .i64 (D.ch:Int)):=by rw[<-aa cg]; exact aF.c a9.blk 4 rfl
  have cl:=ae a9;obtain⟨C,bp⟩:∃C,D.ch=C:=⟨_,rfl⟩;rw[bp] at b2 cr;have cF:=ae bp
  have db:((C:Int)==0)=false:=by simp; omega
  have c3:¬(C:Int)=0:=by omega
  have dc:0<(C:Int):=by omega
  clear bt a9 bp bK cN a5
  go_wp2_with fail
  go_quiet (fail)
  obtain⟨ax,bZ⟩:∃ax,a3.drewN nq=ax:=⟨_,rfl⟩;have ah:=(aa cl).on (nc a3 nq);rw[bZ] at ah ⊢;obtain⟨S,aB⟩:∃S:Nat,(n+C-1) / C=S:=⟨_,rfl⟩
  have bI:((n:Int)+(C:Int)-1) / (C:Int)=(S:Int):=by
   rw[show(n:Int)+(C:Int)-1=((n+C-1:Nat):Int) by omega,<-aB]; rfl
  have c2:S<=n+C-1:=by rw[<-aB]; exact Nat.div_le_self _ _
  have N:bB n C=if S<1 then 1 else S:=by
   unfold bB
   by_cases av:n=0
   ·rw[zJ av,zJ]
    rw[<-aB,av,Nat.div_eq_of_lt (by omega)]; omega
   have cR:1<=(n+C-1) / C:=(Nat.le_div_iff_mul_le (by omega)).2 (by omega)
   rw[zK av,aB,zK (by omega)]
  rw[bI];have ad:({ X with ct:=(D.ct:Int),st:=(D.st:Int) }:RV).jv=.slice (some ⟨b,off,none⟩) D.jb.length L:=aa az;have cO:ax.cell? ⟨fb,8,none⟩=some (.int .i64 (D.st:Int)):=aF.c ah.blk 8 rfl;have bH:=kr ah.blk 8
  have c5:IntKind.i64.wrap ((D.st:Int)+1)=(D.st:Int)+1:=bG _ (by omega)
  have aN:=ah.trans (ah.mem.st ah.blk ((D.st:Int)+1));obtain⟨Z,bh⟩:∃Z,ax.setCell ⟨fb,8,none⟩ (.int .i64 ((D.st:Int)+1))=Z:=⟨_,rfl⟩;rw[bh] at aN
  have cY:Z.cell? ⟨fb,10,none⟩=some (.slice (some ⟨b,off,none⟩) D.jb.length L):=by rw[<-ad]; exact aF.c aN.blk 10 rfl
  obtain⟨aI,aJ,U⟩:=aN.jset ad ak (c:=4) (j':=⟨Y,(A:Int),f,l,d⟩) (x:=(A:Int)) rfl rfl;obtain⟨ab,bi⟩:∃ab,Z.setCell ⟨b,off+h*8+4,none⟩ (.int .i64 (A:Int))=ab:=⟨_,rfl⟩;rw[bi] at U
  have cZ:ab.cell? ⟨fb,10,none⟩=some (.slice (some ⟨b,off,none⟩) D.jb.length L):=by rw[<-ad]; exact aF.c U.blk 10 rfl
  have bA:(D.jb.set h ⟨Y,(A:Int),f,l,d⟩)[h]?=some ⟨Y,(A:Int),f,l,d⟩:=yi aS;obtain⟨b6,b7,a1⟩:=U.jset ad bA (c:=6) (j':=⟨Y,(A:Int),f,(V:Int),d⟩) (x:=(V:Int)) rfl rfl;obtain⟨M,bj⟩:∃M,ab.setCell ⟨b,off+h*8+6,none⟩ (.int .i64 (V:Int))=M:=⟨_,rfl⟩;rw[bj,List.set_set] at a1
  have c0:M.cell? ⟨fb,10,none⟩=some (.slice (some ⟨b,off,none⟩) D.jb.length L):=by rw[<-ad]; exact aF.c a1.blk 10 rfl
  have bC:(D.jb.set h ⟨Y,(A:Int),f,(V:Int),d⟩)[h]?=some ⟨Y,(A:Int),f,(V:Int),d⟩:=yi aS;obtain⟨ac,br⟩:∃ac,bB n C=ac:=⟨_,rfl⟩;obtain⟨cb,cc,bw⟩:=a1.jset ad bC (c:=7) (j':=⟨Y,(A:Int),f,(V:Int),(ac:Int)⟩) (x:=(ac:Int)) rfl rfl;obtain⟨G,W⟩:∃G,M.setCell ⟨b,off+h*8+7,none⟩ (.int .i64 (ac:Int))=G:=⟨_,rfl⟩;rw[W,List.set_set] at bw
  have T:Hid (WkP w fb X D A (.returned (.slice none 0 0)) G):=by
   refine⟨.slice none 0 0,X.jv,X.ev,rfl,?_,fun g aG=>(by cases aG),?_⟩
   ·rw[aa bE]; exact Or.inl ⟨rfl,rfl⟩
   rw[aa bE];show aP w fb X G { X with ct:=(D.ct:Int),st:=((D.st+1:Nat):Int),jv:=X.jv,ev:=X.ev } D.rq (D.jb.set h ⟨Y,(A:Int),f,(D.bs.length:Int),(bB (dk D.bs D.bs.length).length D.ch:Int)⟩) D.en;rw[aa co,aa cG,aa cF,br];exact bw
  have cH:=ae (fun(ev:Operand->Value) (o:Oper) (s t:Operand) (q:o.op=.store 3 s t) (ap:ev s=.pointer (some ⟨fb,8,none⟩)) (aq:ev t=.int .i64 ((D.st:Int)+1)) (H:World) (I:H=ax)=>I▸kO ev o s t q fb 8 ((D.st:Int)+1) ap aq ax Z cO bH bh);have cI:=ae (fun(ev:Operand->Value) (o:Oper) (s t:Operand) (q:o.op=.store 3 s t) (ap:ev s=.pointer (some ⟨b,off+h*8+4,none⟩)) (aq:ev t=.int .i64 (A:Int)) (H:World) (I:H=Z)=>I▸kO ev o s t q b (off+h*8+4) (A:Int) ap aq Z ab aI aJ bi);have cJ:=ae (fun(ev:Operand->Value) (o:Oper) (s t:Operand) (q:o.op=.store 3 s t) (ap:ev s=.pointer (some ⟨b,off+h*8+6,none⟩)) (aq:ev t=.int .i64 (V:Int)) (H:World) (I:H=ab)=>I▸kO ev o s t q b (off+h*8+6) (V:Int) ap aq ab M b6 b7 bj);have cK:=ae (fun(ev:Operand->Value) (o:Oper) (s t:Operand) (q:o.op=.store 3 s t) (ap:ev s=.pointer (some ⟨b,off+h*8+7,none⟩)) (aq:ev t=.int .i64 (ac:Int)) (H:World) (I:H=M)=>I▸kO ev o s t q b (off+h*8+7) (ac:Int) ap aq M G cb cc W);rw[br] at N;clear ah aN aI aJ U b6 b7 a1 cb cc bw bH ak bA bC bh bi bj W bZ bI aB br b2 ad
  by_cases bY:S<1
  focus
   rw[zJ bY] at N;subst N
   have ce:(S:Int)<1:=by omega
  rotate_left
  focus
   rw[zK bY] at N;subst N
   have ce:¬(ac:Int)<1:=by omega
  all_goals
   go_wp2_with (first|refine cU Z (aa cH _ _ _ _ rfl rfl (by simp[go_sem]) _ rfl) rfl ?_|refine cU ab (aa cI _ _ _ _ rfl rfl rfl _ rfl) rfl ?_|refine cU M (aa cJ _ _ _ _ rfl rfl rfl _ rfl) rfl ?_|refine cU G (aa cK _ _ _ _ rfl rfl rfl _ rfl) rfl ?_)
   go_ret;exact aa T
end
theorem cutT {T G:Prop}(m:T->G)(r:T):G:=m r
theorem built158 (l z x y a d:Int):prog.built 158 [(0,.agg #[l,z,x,y]),(1,.int .i64 a),(2,.int .i64 d),(3,.bool true)]=some (Rq.a ⟨⟨l,z,x,y⟩,a,d,true⟩):=by kernel_rfl
theorem bRq (l z x y a b:Int)(ev:Operand->Value)(o:Oper)(p q c s:Operand)(i:o.op=.build 158 #[(0,p),(1,q),(2,c),(3,s)])(d:ev p=.agg #[l,z,x,y])(e:ev q=.int .i64 a)(f:ev c=.int .i64 b)(g:ev s=.bool true)(w:World):(execOp ev o).run prog w=.ok (.value (.agg (Rq.a ⟨⟨l,z,x,y⟩,a,b,true⟩))) w:=by
 have h:=run_build (P:=prog) w 158 #[(0,.agg #[l,z,x,y]),(1,.int .i64 a),(2,.int .i64 b),(3,.bool true)] _ (built158 l z x y a b);unfold execOp;simp[i,d,e,f,g,h]
theorem bt304 (n s:Int)(t:ByteArray)(ev:Operand->Value)(o:Oper)(p q a:Operand)(f:o.op=.build 103 #[(0,p),(1,q),(3,a)])(b:ev p=.int .i64 n)(c:ev q=.int .i64 s)(d:ev a=.string t)(w:World):(execOp ev o).run prog w=.ok (.value (.agg #[n,s,.string ⟨#[]⟩,t])) w:=by
 have e:=run_build (P:=prog) w 103 #[(0,.int .i64 n),(1,.int .i64 s),(3,.string t)] #[n,s,.string ⟨#[]⟩,t] (by kernel_rfl)
 unfold execOp;simp[f,b,c,d,e]
theorem bt200 (n s:Int)(b t:ByteArray)(ev:Operand->Value)(o:Oper)(p q a u:Operand)(h:o.op=.build 103 #[(0,p),(1,q),(2,a),(3,u)])(c:ev p=.int .i64 n)(d:ev q=.int .i64 s)(e:ev a=.string b)(f:ev u=.string t)(w:World):(execOp ev o).run prog w=.ok (.value (.agg #[n,s,b,t])) w:=by
 have g:=run_build (P:=prog) w 103 #[(0,.int .i64 n),(1,.int .i64 s),(2,.string b),(3,.string t)] #[n,s,b,t] (by kernel_rfl)
 unfold execOp;simp[h,c,d,e,f,g]
section
variable {w w1:World}{fb:Nat}{X Y:RV}{rq:List Rq}{jb:List Jb}{en:List En}
theorem aP.addR (h:aP w fb X w1 Y rq jb en){o:Obj}{v:Value}{a:World}{l:List Rq}(e:ah rRq 158 a v l)(f:(w1.alloc o).grownBy a Y.rv.ownBlock)(b:v.ownBlock=Y.rv.ownBlock\/∀g,v.ownBlock=some g->w1.heap.size<=g):
  a.cell? ⟨fb,9,none⟩=some Y.rv/\a.frozen? ⟨fb,9,none⟩=false/\aP w fb X (a.setCell ⟨fb,9,none⟩ v) { Y with rv:=v } l jb en:=by
 have c:aF a fb Y:=by
  show a.heap[fb]?=_
  rw[f.block fb (by have:=an h.blk; simp; omega) (fun q=>au h.mem.rq h.blk (by decide) fb q.symm rfl),zr w1 _ (an h.blk)]
  exact h.blk
 have i:aE (fun k=>k=fb\/Y.rv.ownBlock=some k) w1 (a.setCell ⟨fb,9,none⟩ v):=((cn bu f).mono fun _ _ q=>Or.inr q).setCell (p:=⟨fb,9,none⟩) _ (fun _=>Or.inl rfl)
 refine⟨aF.c c 9 rfl,kr c 9,h.trans (h.mem.rv h.blk (aF.set c 9 _ (RV.set_rv _ _)) (e.same fun g d=>zW _ _ _ _ (au e c (by decide) g d)) (fun g d=>?_) i)⟩
 rcases b with b|b
 ·exact Or.inl (b▸d)
 exact Or.inr (b g d)
theorem aP.addJ (h:aP w fb X w1 Y rq jb en){o:Obj}{v:Value}{a:World}{l:List Jb}(e:ah jP 165 a v l)(f:(w1.alloc o).grownBy a Y.jv.ownBlock)(b:v.ownBlock=Y.jv.ownBlock\/∀g,v.ownBlock=some g->w1.heap.size<=g):
  a.cell? ⟨fb,10,none⟩=some Y.jv/\a.frozen? ⟨fb,10,none⟩=false/\aP w fb X (a.setCell ⟨fb,10,none⟩ v) { Y with jv:=v } rq l en:=by
 have c:aF a fb Y:=by
  show a.heap[fb]?=_
  rw[f.block fb (by have:=an h.blk; simp; omega) (fun q=>au h.mem.jb h.blk (by decide) fb q.symm rfl),zr w1 _ (an h.blk)]
  exact h.blk
 have i:aE (fun k=>k=fb\/Y.jv.ownBlock=some k) w1 (a.setCell ⟨fb,10,none⟩ v):=((cn bu f).mono fun _ _ q=>Or.inr q).setCell (p:=⟨fb,10,none⟩) _ (fun _=>Or.inl rfl)
 refine⟨aF.c c 10 rfl,kr c 10,h.trans (h.mem.jv h.blk (aF.set c 10 _ (RV.set_jv _ _)) (e.same fun g d=>zW _ _ _ _ (au e c (by decide) g d)) (fun g d=>?_) i)⟩
 rcases b with b|b
 ·exact Or.inl (b▸d)
 exact Or.inr (b g d)
theorem aP.eset (h:aP w fb X w1 Y rq jb en){b off n cap i:Nat}{e:En}(a:Y.ev=.slice (some ⟨b,off,none⟩) n cap)(f:en[i]?=some e)(u:Int):
  w1.cell? ⟨b,off+i*7+6,none⟩=some (.int .i64 e.use)/\w1.frozen? ⟨b,off+i*7+6,none⟩=false/\aP w fb X (w1.setCell ⟨b,off+i*7+6,none⟩ (.int .i64 u)) Y rq jb (en.set i { e with use:=u }):=by
 have c:=h.mem.en;rw[a] at c;obtain⟨l,m⟩:=c.cellF f (j:=6) (u:=.int .i64 e.use) rfl;have d:aE (fun q=>q=b) w1 (w1.setCell ⟨b,off+i*7+6,none⟩ (.int .i64 u)):=(aE.rfl' _ _).setCell (p:=⟨b,off+i*7+6,none⟩) _ (fun _=>rfl)
 have k:fb≠b:=fun q=>au h.mem.en h.blk (by decide) fb (by rw[a,q]; rfl) rfl
 refine⟨l,m,h.trans (h.mem.ev (n:=Y.ct) (ev':=Y.ev) h.blk (aQ h.blk d k) ?_ (fun g o=>Or.inl o) (d.mono fun q _ e=>Or.inr (by rw[a,e]; rfl)))⟩
 rw[a]
 exact c.setF f (j:=6) (x:=.int .i64 u) (by decide) (En.enc_use _ u)
end
theorem RV.eqR (X:RV)(c:Int)(v:Value)(h:X.ct=c):({ X with ct:=c,rv:=v,jv:=X.jv,ev:=X.ev }:RV)={ X with rv:=v }:=by rw[<-h]
def ArP (w:World)(fb:Nat)(X:RV)(D:DF)(k:K4)(er:Int)(tag:ByteArray)(e:Ending)(w':World):Prop:=
 ∃rv rv' jv' ev',e=.returned (.tuple #[.int .i64 (D.rq.length:Nat),rv])/\ah bE 103 w' rv (D.arrive k er tag).2/\(∀g,rv.ownBlock=some g->w.heap.size<=g) /\
  aP w fb X w' { X with ct:=((D.arrive k er tag).1.ct:Int),rv:=rv',jv:=jv',ev:=ev' } (D.arrive k er tag).1.rq (D.arrive k er tag).1.jb (D.arrive k er tag).1.en
section
variable {w:World}{fb:Nat}{X:RV}{keep:Int}{bv pv:Value}{SL:List cA}{PI:List Int}{D:DF}
theorem ArP.one {w1:World}{X:RV}{k:K4}{er:Int}{tag:ByteArray}{rv' jv' ev':Value}{D':DF}{s:Int}{B T:ByteArray}(a:aP w fb X w1 { X with ct:=(D'.ct:Int),rv:=rv',jv:=jv',ev:=ev' } D'.rq D'.jb D'.en)(h:D.arrive k er tag=(D',[⟨(D.rq.length:Nat),s,B,T⟩])):
  ArP w fb X D k er tag (.returned (.tuple #[.int .i64 (D.rq.length:Nat),.slice (some ⟨w1.heap.size,0,none⟩) 1 1])) (w1.alloc (.cells #[.int .i64 (D.rq.length:Nat),s,B,T] 103)):=by
 refine⟨_,rv',jv',ev',rfl,?_,fun g b=>?_,?_⟩
 ·rw[h]
  exact cr (R:=bE) (T:=103) w1 [⟨(D.rq.length:Nat),s,B,T⟩] _ rfl (by unfold maxLen; simp)
 ·cases b
  exact a.frm.size
 rw[h];exact a.on (aj _ _)
theorem rArrive_any (p tag:ByteArray)(l z x y er:Int)(c6:Dw.parseL p.data.toList=((l,z,x,y),er))(dV:p.size<=1048576)(bV:aF w fb X)(hm:cE w X D.rq D.jb D.en)(dW:X.q=D.q)(dH:X.wt=D.wt)(bN:X.nw=D.now)(dA:X.ct=D.ct)(dz:D.ct<=100000000)(ee:D.now<=1000000000)(bm:D.wt<=50)(dT:eV w X.sb keep bv pv SL D.bs PI)(cQ:ke D.bs)
  (dE:er=0->dy ⟨l,z,x,y⟩) (dI:bP ⟨l,z,x,y⟩) (dG:∀ev∈D.rq,bP ev.k) (eh:D.rq.length<=10000000) (eG:D.jb.length<=1000000) (eC:D.en.length<=50000) :
  Calls prog 41 #[some fb,p,tag] w fun e w'=>ArP w fb X D ⟨l,z,x,y⟩ er tag e w':=by
 obtain⟨a0,a1,cv,eg⟩:=hm.rq.val
 have cN:w.cell? ⟨fb,9,none⟩=some (.slice a0 D.rq.length a1):=by rw[<-cv]; exact aF.c bV 9 rfl
 have dO:=ae (Dw.refParse_any p w dV);have d1:=ae c6;have dL:=ae bV;have dN:=ae hm;have dP:=ae dT;have ej:=ae cQ;have d3:=ae dG;have d0:=ae dE;have d7:=ae dI;have de:=ae cv;have ek:=ae dW;have di:=ae dH;have db:=ae bN;have aK:=ae dA;have eD:fb<w.heap.size:=an bV;have d9:=cQ.n;clear bV hm dT cQ dG dE dI cv eg c6 dV dW dH bN dA;go_enter func41,ntmps41
 go_wp2_with fail
 refine(aa dO).mono ?_;rintro e w1 ⟨⟨ep,eu,es,et,d8,cu,rfl⟩,cg⟩;rw[aa d1] at cu
 obtain⟨⟨rfl,rfl,rfl,rfl⟩,rfl⟩:(l=ep/\z=eu/\x=es/\y=et)/\er=d8:=by simpa using cu
 have ci:=aj w1 (.cells #[l,z,x,y] 39);have ac:=zZ w1 (.cells #[l,z,x,y] 39);have bA:=((aP.refl (aa dL) (aa dN)).on cg).on ci;have dq:=((aa dP).on cg).on ci
 have cJ:=fh fb X D.rq l z x y true _ bA.blk bA.mem.rq.at (aa d3) (by omega)
 have c7:=ao ac;have dw:=ef D.rq ⟨l,z,x,y⟩ true;obtain⟨aX,cB⟩:∃aX,bg D.rq ⟨l,z,x,y⟩ true=aX:=⟨_,rfl⟩;rw[cB] at cJ dw;have d6:=ae cB;have dM:=ae ac;have df:=ae bA;have dc:=ae dq;clear cu ci ac bA dq cg cB dO
 go_wp2_with (refine vM c7 rfl _ rfl rfl ?_)
 refine cJ.mono ?_;rintro e bY ⟨rfl,bD⟩;have dt:=(aa df).on bD;have dr:=(aa dc).on bD;have co:=ag (aa dM) bD;obtain⟨O,be⟩:∃O,w1.heap.size=O:=⟨_,rfl⟩;rw[be] at co ⊢;clear cJ c7 dM df dc bD be cN;obtain⟨E,cw⟩:∃E,World.drew bY=E:=⟨_,rfl⟩;have bE:Below bY.heap.size bY E:=cw▸zE bu;have W:=dt.on bE;have ds:=dr.on bE;have bL:=ag co bE;have b8:=ae (dv ds);obtain⟨V,cS⟩:∃V,D.bs.length=V:=⟨_,rfl⟩;obtain⟨f,a6⟩:∃f,D.now=f:=⟨_,rfl⟩;obtain⟨m,a8⟩:∃m,D.wt=m:=⟨_,rfl⟩;obtain⟨c,aY⟩:∃c,D.rq.length=c:=⟨_,rfl⟩;rw[cS] at b8 d9;rw[a6] at ee;rw[a8] at bm;rw[aY] at eh dw ⊢
 have bN:IntKind.i64.wrap ((f:Int)+(m:Int))=(f:Int)+(m:Int):=bG _ (by omega)
 have bS:E.cell? ⟨fb,5,none⟩=some (.pointer (some ⟨X.sb,0,none⟩)):=aF.c W.blk 5 rfl
 have bT:E.cell? ⟨fb,6,none⟩=some (.int .i64 (f:Int)):=by rw[<-a6,<-aa db]; exact aF.c W.blk 6 rfl
 have bR:E.cell? ⟨fb,2,none⟩=some (.int .i64 (m:Int)):=by rw[<-a8,<-aa di]; exact aF.c W.blk 2 rfl
 have bx:E.cell? ⟨fb,9,none⟩=some (.slice a0 c a1):=by rw[<-aY,<-aa de]; exact aF.c W.blk 9 rfl
 have a9:=aZ rRq 158 E ⟨⟨l,z,x,y⟩,(V:Nat),(f:Int)+(m:Int),true⟩ (Rq.a ⟨⟨l,z,x,y⟩,(V:Nat),(f:Int)+(m:Int),true⟩) rfl;have Q:=aj E (.cells (Rq.a ⟨⟨l,z,x,y⟩,(V:Nat),(f:Int)+(m:Int),true⟩) 158);obtain⟨ad,aS⟩:∃ad,E.alloc (.cells (Rq.a ⟨⟨l,z,x,y⟩,(V:Nat),(f:Int)+(m:Int),true⟩) 158)=ad:=⟨_,rfl⟩;have c3:=W.on Q
 obtain⟨eq,K,ax,aC,al,af⟩:=apRq c3.mem.rq a9 (by simp only[zT]; omega)
 obtain⟨ap,dX,ai,rfl⟩:=aC.slc
 obtain⟨bz,cb,N⟩:=W.addR aC al (by
  rcases af with af|af
  ·exact Or.inl af
  exact Or.inr fun g aR=>by have q:=af g aR; simp at q; omega)
 obtain⟨A,bl⟩:∃A,K.setCell ⟨fb,9,none⟩ (.slice ap dX ai)=A:=⟨_,rfl⟩;rw[aa de,aY] at ax bz;rw[aS] at ax al Q;rw[bl] at N
 have ei:dX=c+1:=by
  obtain⟨eJ,cap,e,_⟩:=aC.at;rw[zH,zT,aY] at e
  cases e; rfl
 subst ei;have ac:ad.heap[O]?=some (.cells #[l,z,x,y] 39):=ag bL Q
 have aN:K.heap[O]?=some (.cells #[l,z,x,y] 39):=by
  rw[al.block O (an ac) (fun q=>au W.mem.rq bL (by decide) O q.symm rfl)]; exact ac
 have cp:A.heap[O]?=some (.cells #[l,z,x,y] 39):=by
  rw[<-bl,zW _ _ _ _ (by show O≠fb; exact(aI bL W.blk (by decide)))]; exact aN
 have aJ:∀i,K.cell? ⟨fb,i,none⟩=E.cell? ⟨fb,i,none⟩:=fun i=>zP (a:=⟨fb,i,none⟩) (by
  rw[al.block fb (by have:=an W.blk; have:=Q.size; omega) (fun q=>au W.mem.rq W.blk (by decide) fb q.symm rfl)]
  rw[<-aS]; exact zr E _ (an W.blk))
 have az:∀i,ad.cell? ⟨fb,i,none⟩=E.cell? ⟨fb,i,none⟩:=fun i=>Q.cell (p:=⟨fb,i,none⟩) (an W.blk);have dm:ad.cell? ⟨fb,9,none⟩=some (.slice a0 c a1):=(az 9).trans bx;have d:E.heap[O]?=some (.cells #[l,z,x,y] 39)/\E.cell? ⟨fb,5,none⟩=some (.pointer (some ⟨X.sb,0,none⟩))/\E.cell? ⟨fb,6,none⟩=some (.int .i64 (f:Int))/\E.cell? ⟨fb,2,none⟩=some (.int .i64 (m:Int)):=⟨bL,bS,bT,bR⟩;have ar:ad.heap[O]?=some (.cells #[l,z,x,y] 39)/\ad.cell? ⟨fb,5,none⟩=some (.pointer (some ⟨X.sb,0,none⟩))/\ad.cell? ⟨fb,6,none⟩=some (.int .i64 (f:Int))/\ad.cell? ⟨fb,2,none⟩=some (.int .i64 (m:Int)):=⟨ac,(az 5).trans bS,(az 6).trans bT,(az 2).trans bR⟩;have ak:K.heap[O]?=some (.cells #[l,z,x,y] 39)/\K.cell? ⟨fb,5,none⟩=some (.pointer (some ⟨X.sb,0,none⟩))/\K.cell? ⟨fb,6,none⟩=some (.int .i64 (f:Int))/\K.cell? ⟨fb,2,none⟩=some (.int .i64 (m:Int)):=⟨aN,(aJ 5).trans bS,(aJ 6).trans bT,(aJ 2).trans bR⟩
 have c2:A.heap[O]?=some (.cells #[l,z,x,y] 39)/\A.cell? ⟨fb,5,none⟩=some (.pointer (some ⟨X.sb,0,none⟩))/\A.cell? ⟨fb,6,none⟩=some (.int .i64 (f:Int))/\A.cell? ⟨fb,2,none⟩=some (.int .i64 (m:Int)):=⟨cp,aF.c N.blk 5 rfl,by rw[<-a6,<-aa db]; exact aF.c N.blk 6 rfl,by rw[<-a8,<-aa di]; exact aF.c N.blk 2 rfl⟩
 have a4:=ae N;have b7:=ae cp;have dY:=ae (show ∀k,k<bY.heap.size->True from fun _ _=>trivial);have bn:=ae cS;have b3:=ae a6;have b4:=ae a8;have aq:=ae aY;have dd:Hid (eV A X.sb keep bv pv SL D.bs PI):=N.rst (aa dL) (aa dN) (aa dP);have N:=c2;clear c2 dY cp aN ac aJ az c3 a9 aC al af W ds bE dt dr co Q cS a6 a8 aY bS bT bR
 go_wp2_with fail
 apply cutT
 ·intro dQ
  refine z8 (S:=fun w'=>w'.heap[O]?=some (.cells #[l,z,x,y] 39)/\w'.cell? ⟨fb,5,none⟩=some (.pointer (some ⟨X.sb,0,none⟩))/\w'.cell? ⟨fb,6,none⟩=some (.int .i64 (f:Int))/\w'.cell? ⟨fb,2,none⟩=some (.int .i64 (m:Int))) (by kernel_rfl) ?_
  change wpAnyH _ _ _ _ _ _ _ _ (World.drew _);rw[cw];refine am 0 rfl fb 0 d ?_;refine am 1 rfl fb 0 d ?_;refine am 2 rfl fb 0 d ?_;refine am 3 rfl fb 9 d ?_;refine aH 5 rfl (.agg #[l,z,x,y]) d ?_ (hy:=fun w' r=>jT _ _ _ 39 rfl _ rfl _ underlying39 rfl (bj _ _ _ _) O 0 rfl _ (ao r.1));refine am 6 rfl fb 0 d ?_;refine am 7 rfl fb 0 d ?_;refine am 8 rfl fb 5 d ?_
  refine am 9 rfl X.sb 0 d ?_ (hy:=fun w' r=>by simp[go_sem,r.2.1])
  refine am 11 rfl fb 0 d ?_;refine am 12 rfl fb 0 d ?_;refine am 13 rfl fb 6 d ?_
  refine aH 14 rfl (.int .i64 (f:Int)) d ?_ (hy:=fun w' r=>by simp[go_sem,r.2.2.1])
  refine am 15 rfl fb 0 d ?_;refine am 16 rfl fb 0 d ?_;refine am 17 rfl fb 0 d ?_;refine am 18 rfl fb 2 d ?_
  refine aH 19 rfl (.int .i64 (m:Int)) d ?_ (hy:=fun w' r=>by simp[go_sem,r.2.2.2])
  refine aH 20 rfl (.int .i64 ((f:Int)+(m:Int))) d ?_ (hy:=fun w' r=>by simp[go_sem,bN])
  refine y6 (rs:=[4,10]) (by kernel_rfl) (by simp) ?_
  intro i hi;simp only[zv,yT,or_false] at hi
  rcases hi with rfl|rfl
  ·refine bI 4 rfl rfl (.slice a0 c a1) (E) (by simp[go_sem,bx]) (d) ?_
   simp only[qZ];refine aV 10 ?_
   refine ow 10 rfl rfl 56 #[.pointer (some ⟨X.sb,0,none⟩)] (by simp[go_sem]) (.int .i64 (V:Nat)) (aa b8) d ?_
   simp only[qZ];refine aH 21 rfl (.agg (Rq.a ⟨⟨l,z,x,y⟩,(V:Nat),(f:Int)+(m:Int),true⟩)) d ?_ (hy:=fun w' r=>bRq _ _ _ _ _ _ _ _ _ _ _ _ rfl rfl rfl rfl rfl w');refine aV 22 ?_
   refine bI 22 rfl rfl (.slice (some ⟨E.heap.size,0,none⟩) 1 1) (ad) (by rw[<-aS]; exact bsRq ⟨⟨l,z,x,y⟩,(V:Nat),(f:Int)+(m:Int),true⟩ _ _ _ rfl rfl E) (ar) ?_
   simp only[qZ];refine aV 23 ?_;refine bI 23 rfl rfl (.slice ap (c+1) ai) (K) (exR 131 ax _ _ _ _ rfl rfl rfl rfl) (ak) ?_;simp only[qZ];refine am 24 rfl fb 0 ak ?_;refine am 25 rfl fb 9 ak ?_;refine aV 26 ?_
   refine cL 26 rfl rfl (A) (stS1 _ _ _ _ 131 rfl (fun _=>by simp[go_sem]) fb 9 ap (c+1) ai rfl rfl K A bz cb bl) (N) ?_
   simp only[Act.put]
   refine zm (by kernel_rfl) ?_ _
   exact dQ
  refine ow 10 rfl rfl 56 #[.pointer (some ⟨X.sb,0,none⟩)] (by simp[go_sem]) (.int .i64 (V:Nat)) (aa b8) d ?_
  simp only[qZ];refine aH 21 rfl (.agg (Rq.a ⟨⟨l,z,x,y⟩,(V:Nat),(f:Int)+(m:Int),true⟩)) d ?_ (hy:=fun w' r=>bRq _ _ _ _ _ _ _ _ _ _ _ _ rfl rfl rfl rfl rfl w')
  refine y6 (rs:=[4,22]) (by kernel_rfl) (by simp) ?_
  intro i hi;simp only[zv,yT,or_false] at hi
  rcases hi with rfl|rfl
  focus
   refine bI 4 rfl rfl (.slice a0 c a1) (E) (by simp[go_sem,bx]) (d) ?_
   simp only[qZ];refine aV 22 ?_
   refine bI 22 rfl rfl (.slice (some ⟨E.heap.size,0,none⟩) 1 1) (ad) (by rw[<-aS]; exact bsRq ⟨⟨l,z,x,y⟩,(V:Nat),(f:Int)+(m:Int),true⟩ _ _ _ rfl rfl E) (ar) ?_
  rotate_left
  focus
   refine bI 22 rfl rfl (.slice (some ⟨E.heap.size,0,none⟩) 1 1) (ad) (by rw[<-aS]; exact bsRq ⟨⟨l,z,x,y⟩,(V:Nat),(f:Int)+(m:Int),true⟩ _ _ _ rfl rfl E) (ar) ?_
   simp only[qZ];refine aV 4 ?_
   refine bI 4 rfl rfl (.slice a0 c a1) (ad) (by simp[go_sem,dm]) (ar) ?_
  all_goals
   simp only[qZ];refine aV 23 ?_;refine bI 23 rfl rfl (.slice ap (c+1) ai) (K) (exR 131 ax _ _ _ _ rfl rfl rfl rfl) (ak) ?_;simp only[qZ];refine am 24 rfl fb 0 ak ?_;refine am 25 rfl fb 9 ak ?_;refine aV 26 ?_
   refine cL 26 rfl rfl (A) (stS1 _ _ _ _ 131 rfl (fun _=>by simp[go_sem]) fb 9 ap (c+1) ai rfl rfl K A bz cb bl) (N) ?_
   simp only[Act.put]
   refine zm (by kernel_rfl) ?_ _
   exact dQ
 clear d ar ak N bx dm bz cb ax cw bl aS
 by_cases bJ:er=1
 ·subst bJ
  have Z:Hid (ArP w fb X D ⟨l,z,x,y⟩ (1) tag (.returned (.tuple #[.int .i64 (c:Nat),.slice (some ⟨A.heap.size,0,none⟩) 1 1])) (A.alloc (.cells #[.int .i64 (c:Nat),(400:Int),.string ⟨#[]⟩,.string ⟨#[]⟩] 103))):=by
   have q:=ArP.one (w:=w) (w1:=A) (fb:=fb) (X:=X) (D:=D) (k:=⟨l,z,x,y⟩) (er:=1) (tag:=tag) (rv':=.slice ap (c+1) ai) (jv':=X.jv) (ev':=X.ev) (D':={ D with rq:=D.rq++[⟨⟨l,z,x,y⟩,(V:Nat),(f:Int)+(m:Int),true⟩] }) (s:=400) (B:=⟨#[]⟩) (T:=⟨#[]⟩) (by rw[RV.eqR X _ _ (aa aK)]; exact aa a4) (by
    unfold DF.arrive;dsimp only;rw[zJ rfl,aa bn,aa b3,aa b4]
    )
   rw[aa aq] at q;exact q
  go_wp2_with (refine cP _ _ (gz (c:Nat) 400 ⟨#[]⟩ ⟨#[]⟩ _ _ _ rfl rfl _) rfl ?_)
  go_ret2
  exact aa Z
 have dZ:(er==1)=false:=by simpa using bJ
 by_cases cm:er=0
 ·subst cm
  clear bJ dZ;have em:=aa d0 rfl;have N:=aa a4;have cc:=aa dd;have dn:∀L,Below A.heap.size A L->L.cell? ⟨fb,5,none⟩=some (.pointer (some ⟨X.sb,0,none⟩)):=fun L aB=>aF.c (ag N.blk aB) 5 rfl;have dp:∀L,Below A.heap.size A L->L.rangeAt O 0 (#[l,z,x,y]:Array Value).toList:=fun L aB=>ao (ag (aa b7) aB)
  have dS:∀L,Below A.heap.size A L->Calls prog 56 #[some X.sb] L fun e w'=>e=.returned (.int .i64 (V:Nat))/\Below L.heap.size L w':=fun L aB=>(dv (cc.on aB)).mono fun e w' h=>⟨by rw[h.1,aa bn],h.2▸zV _ _⟩
  have cI:∀L,Below A.heap.size A L->Calls prog 86 #[some fb,.int .i64 (V:Nat),.agg #[l,z,x,y]] L fun e w'=>e=.returned (.string (du ⟨l,z,x,y⟩ (fB D.bs V ⟨l,z,x,y⟩)))/\Below L.heap.size L w':=fun L aB=>by
   have q:=kX D.bs.length l z x y (ag N.blk aB) (cc.on aB) (aa ej) aD em;rw[aa bn] at q;exact q
  obtain⟨T,cR⟩:∃T,du ⟨l,z,x,y⟩ (fB D.bs V ⟨l,z,x,y⟩)=T:=⟨_,rfl⟩;rw[cR] at cI;have d4:=ae cR;clear cR N cc
  go_wp2_with fail
  refine aM (by kernel_rfl) (by kernel_rfl) ?_
  refine eI fb 0 ?_;refine eI fb 0 ?_;refine bd fb 0 ?_;refine bd fb 5 ?_
  refine bd X.sb 0 ?_ (h:=fun w' r=>by simp[go_sem,dn w' r])
  refine eB rfl 56 (#[.pointer (some ⟨X.sb,0,none⟩)]) (fun _=>by simp[go_sem]) (.int .i64 (V:Nat)) (dS) ?_
  simp only[qZ];refine vK O 0 dp ?_
  refine eB rfl 86 (#[.pointer (some ⟨fb,0,none⟩),.int .i64 (V:Nat),.agg #[l,z,x,y]]) (fun _=>by simp[go_sem]) (.string T) (cI) ?_
  simp only[qZ];refine vA (.string T) ?_;refine zq ?_;intro bZ bF;have aT:=(aa a4).on bF;have bM:=ag (aa b7) bF;have dg:=ae aT;have c9:=ae bM;clear dn dp dS cI
  have o:D.arrive ⟨l,z,x,y⟩ 0 tag=(if T=tag then ({ D with rq:=D.rq++[⟨⟨l,z,x,y⟩,(V:Nat),(f:Int)+(m:Int),true⟩] },[⟨(D.rq.length:Nat),304,⟨#[]⟩,T⟩]) else match dB D.en ⟨l,z,x,y⟩ with
    | some i=>match D.en[i]? with
     | some n=>({ D with rq:=D.rq++[⟨⟨l,z,x,y⟩,(V:Nat),(f:Int)+(m:Int),true⟩],ct:=D.ct+1,en:=D.en.set i { n with use:=(D.ct:Int)+1 } },[⟨(D.rq.length:Nat),200,n.body,n.tag⟩])
     | none=>({ D with rq:=D.rq++[⟨⟨l,z,x,y⟩,(V:Nat),(f:Int)+(m:Int),true⟩] },[])
    | none=>
     if aX=D.q then ({ D with rq:=D.rq++[⟨⟨l,z,x,y⟩,(V:Nat),(f:Int)+(m:Int),true⟩] },[⟨(D.rq.length:Nat),503,⟨#[]⟩,⟨#[]⟩⟩])
     else match o7 D.jb (K4.blk ⟨l,z,x,y⟩) with
      | some _=>({ D with rq:=D.rq++[⟨⟨l,z,x,y⟩,(V:Nat),(f:Int)+(m:Int),false⟩] },[])
      | none=>({ D with rq:=D.rq++[⟨⟨l,z,x,y⟩,(V:Nat),(f:Int)+(m:Int),false⟩],ct:=D.ct+1,jb:=D.jb++[⟨K4.blk ⟨l,z,x,y⟩,-1,(D.ct:Int)+1,0,0⟩] },[])):=by
   unfold DF.arrive;dsimp only
   rw[zK (show ¬(0:Int)=1 by decide),zK (show ¬(0:Int)≠0 by decide),aa bn,aa b3,aa b4,aa d4,aa d6]
   rfl
  by_cases bO:T=tag
  ·subst bO
   rw[zJ rfl] at o
   have Z:Hid (ArP w fb X D ⟨l,z,x,y⟩ (0) T (.returned (.tuple #[.int .i64 (c:Nat),.slice (some ⟨bZ.heap.size,0,none⟩) 1 1])) (bZ.alloc (.cells #[.int .i64 (c:Nat),(304:Int),.string ⟨#[]⟩,T] 103))):=by
    have q:=ArP.one (w:=w) (w1:=bZ) (fb:=fb) (X:=X) (D:=D) (k:=⟨l,z,x,y⟩) (er:=0) (tag:=T) (rv':=.slice ap (c+1) ai) (jv':=X.jv) (ev':=X.ev) (D':={ D with rq:=D.rq++[⟨⟨l,z,x,y⟩,(V:Nat),(f:Int)+(m:Int),true⟩] }) (s:=304) (B:=⟨#[]⟩) (T:=T) (by rw[RV.eqR X _ _ (aa aK)]; exact aT) (by
     exact o
     )
    rw[aa aq] at q;exact q
   clear o aT bM bF
   go_wp2_with (first|refine cP _ _ (bt304 (c:Nat) 304 T _ _ _ _ _ rfl rfl rfl rfl _) rfl ?_|refine cP _ _ (gz (c:Nat) 304 ⟨#[]⟩ T _ _ _ rfl rfl _) rfl ?_)
   go_ret2
   exact aa Z
  have ex:(T.toList==tag.toList)=false:=by rw[zc]; exact fun q=>bO (bytes_eq q)
  rw[zK bO] at o;have a3:=ae o
  have dK:=nO fb _ D.en l z x y bZ aT.blk aT.mem.en.at (by omega)
  have cV:=ao bM;clear o aT bM bF bO
  go_wp2_with (refine vM cV rfl _ rfl rfl ?_)
  refine dK.mono ?_;rintro e ay ⟨rfl,ch⟩;have R:=(aa dg).on ch;have bc:=ag (aa c9) ch;clear dK cV dg c9 ch
  cases aA:dB D.en ⟨l,z,x,y⟩ with
  | some i=>
   dsimp only[m5]
   obtain⟨⟨cO,I,J,eH⟩,bK⟩:∃t,D.en[i]?=some t:=by
    unfold dB at aA;rw[yf] at aA;obtain⟨hi,_,_⟩:=aA;exact⟨_,zQ hi⟩
   have ec:i<D.en.length:=(zX.1 bK).1
   have cr:(i:Int)<D.en.length:=by omega
   have eE:(0:Int)<=(i:Int):=by omega
   have o:=aa a3;rw[aA] at o;dsimp only at o;rw[bK] at o;dsimp only at o
   obtain⟨b,off,cap,bb⟩:=R.mem.en.blkAt (by omega)
   obtain⟨C,aO⟩:∃C,D.ct=C:=⟨_,rfl⟩;rw[aO] at o dz
   have bp:ay.cell? ⟨fb,7,none⟩=some (.int .i64 (C:Int)):=by rw[<-aO,<-aa aK]; exact aF.c R.blk 7 rfl
   have a5:=kr R.blk 7
   have ea:IntKind.i64.wrap ((C:Int)+1)=(C:Int)+1:=bG _ (by omega)
   have cd:=R.trans (R.mem.ct R.blk ((C:Int)+1));obtain⟨Y,aW⟩:∃Y,ay.setCell ⟨fb,7,none⟩ (.int .i64 ((C:Int)+1))=Y:=⟨_,rfl⟩;rw[aW] at cd;obtain⟨ah,cx⟩:∃ah,World.drew Y=ah:=⟨_,rfl⟩;have ba:Below Y.heap.size Y ah:=cx▸zE bu;have bB:=cd.on ba
   have dj:ah.cell? ⟨fb,11,none⟩=some (.slice (some ⟨b,off,none⟩) D.en.length cap):=by rw[<-bb]; exact aF.c bB.blk 11 rfl
   have dk:ah.cell? ⟨fb,7,none⟩=some (.int .i64 ((C:Int)+1)):=aF.c bB.blk 7 rfl;obtain⟨bq,br,aw⟩:=bB.eset bb bK ((C:Int)+1);obtain⟨wb,bm⟩:∃wb,ah.setCell ⟨b,off+i*7+6,none⟩ (.int .i64 ((C:Int)+1))=wb:=⟨_,rfl⟩;rw[bm] at aw
   have c0:wb.cell? ⟨fb,11,none⟩=some (.slice (some ⟨b,off,none⟩) D.en.length cap):=by rw[<-bb]; exact aF.c aw.blk 11 rfl
   have dl:wb.cell? ⟨fb,7,none⟩=some (.int .i64 ((C:Int)+1)):=aF.c aw.blk 7 rfl;obtain⟨v,cy⟩:∃v,World.drew wb=v:=⟨_,rfl⟩;have aU:Below wb.heap.size wb v:=cy▸zE bu;have U:=aw.on aU
   have b6:v.cell? ⟨fb,11,none⟩=some (.slice (some ⟨b,off,none⟩) D.en.length cap):=by rw[<-bb]; exact aF.c U.blk 11 rfl
   have bk:=U.mem.en;rw[show({ X with rv:=.slice ap (c+1) ai,ct:=(C:Int)+1 }:RV).ev=.slice (some ⟨b,off,none⟩) D.en.length cap from bb] at bk;have cn:(D.en.set i ⟨cO,I,J,(C:Int)+1⟩)[i]?=some ⟨cO,I,J,(C:Int)+1⟩:=yi ec;have cK:v.cell? ⟨b,off+i*7+4,none⟩=some (.string I):=(bk.cellF cn (j:=4) (u:=.string I) rfl).1;have cM:v.cell? ⟨b,off+i*7+5,none⟩=some (.string J):=(bk.cellF cn (j:=5) (u:=.string J) rfl).1
   have Z:Hid (ArP w fb X D ⟨l,z,x,y⟩ 0 tag (.returned (.tuple #[.int .i64 (c:Nat),.slice (some ⟨v.heap.size,0,none⟩) 1 1])) (v.alloc (.cells #[.int .i64 (c:Nat),(200:Int),I,J] 103))):=by
    have q:=ArP.one (w:=w) (w1:=v) (fb:=fb) (X:=X) (D:=D) (k:=⟨l,z,x,y⟩) (er:=0) (tag:=tag) (rv':=.slice ap (c+1) ai) (jv':=X.jv) (ev':=X.ev) (s:=200) (B:=I) (T:=J) (D':={ D with rq:=D.rq++[⟨⟨l,z,x,y⟩,(V:Nat),(f:Int)+(m:Int),true⟩],ct:=C+1,en:=D.en.set i ⟨cO,I,J,(C:Int)+1⟩ }) U o;rw[aa aq] at q;exact q
   have b9:=ae aW;have H:v.cell? ⟨fb,11,none⟩=some (.slice (some ⟨b,off,none⟩) D.en.length cap)/\v.cell? ⟨b,off+i*7+4,none⟩=some (.string I)/\v.cell? ⟨b,off+i*7+5,none⟩=some (.string J):=⟨b6,cK,cM⟩;have bH:=aj v (.cells #[.int .i64 (c:Nat),(200:Int),I,J] 103);have dx:b<v.heap.size:=bk.lt rfl;have eb:fb<v.heap.size:=an U.blk;have ce:(v.alloc (.cells #[.int .i64 (c:Nat),(200:Int),I,J] 103)).cell? ⟨fb,11,none⟩=some (.slice (some ⟨b,off,none⟩) D.en.length cap)/\(v.alloc (.cells #[.int .i64 (c:Nat),(200:Int),I,J] 103)).cell? ⟨b,off+i*7+4,none⟩=some (.string I)/\(v.alloc (.cells #[.int .i64 (c:Nat),(200:Int),I,J] 103)).cell? ⟨b,off+i*7+5,none⟩=some (.string J):=⟨(bH.cell (p:=⟨fb,11,none⟩) eb).trans b6,(bH.cell (p:=⟨b,off+i*7+4,none⟩) dx).trans cK,(bH.cell (p:=⟨b,off+i*7+5,none⟩) dx).trans cM⟩;clear o a3 R bc cd ba bB aw aU U bk cn aO aA bH bK a4 b7 dd
   go_wp2_with (refine cU Y (kO _ _ _ _ rfl fb 7 ((C:Int)+1) rfl (by simp[go_sem]) ay Y bp a5 (aa b9)) rfl ?_)
   refine z8 (S:=fun w'=>w'.cell? ⟨fb,11,none⟩=some (.slice (some ⟨b,off,none⟩) D.en.length cap)/\w'.cell? ⟨fb,7,none⟩=some (.int .i64 ((C:Int)+1))) (by kernel_rfl) ?_
   change wpAnyH _ _ _ _ _ _ _ _ (World.drew _);rw[cx];have d:ah.cell? ⟨fb,11,none⟩=some (.slice (some ⟨b,off,none⟩) D.en.length cap)/\ah.cell? ⟨fb,7,none⟩=some (.int .i64 ((C:Int)+1)):=⟨dj,dk⟩;have aL:wb.cell? ⟨fb,11,none⟩=some (.slice (some ⟨b,off,none⟩) D.en.length cap)/\wb.cell? ⟨fb,7,none⟩=some (.int .i64 ((C:Int)+1)):=⟨c0,dl⟩;refine am 0 rfl fb 0 d ?_;refine am 1 rfl fb 0 d ?_;refine am 2 rfl fb 11 d ?_
   refine aH 3 rfl (.slice (some ⟨b,off,none⟩) D.en.length cap) d ?_ (hy:=fun w' r=>by simp[go_sem,r.1])
   refine aH 4 rfl (.int .i64 i) d ?_;refine am 5 rfl fb 0 d ?_;refine am 6 rfl fb 0 d ?_;refine am 7 rfl fb 7 d ?_
   refine aH 8 rfl (.int .i64 ((C:Int)+1)) d ?_ (hy:=fun w' r=>by simp[go_sem,r.2])
   refine am 9 rfl b (off+i*7) d ?_ (hy:=fun w' r=>by simp[go_sem,cr])
   refine am 10 rfl b (off+i*7+6) d ?_
   refine y6 (rs:=[11]) (by kernel_rfl) (by simp) ?_
   intro eo bi;simp only[z7] at bi;subst bi;refine cL 11 rfl rfl (wb) (kO _ _ _ _ rfl b (off+i*7+6) ((C:Int)+1) rfl rfl ah wb bq br bm) (aL) ?_;simp only[Act.put]
   refine zm (by kernel_rfl) ?_ _
   clear d aL bq br dj dk c0 dl bp a5 cx bm
   go_wp2_with fail
   refine z8 (S:=fun w'=>w'.cell? ⟨fb,11,none⟩=some (.slice (some ⟨b,off,none⟩) D.en.length cap)/\w'.cell? ⟨b,off+i*7+4,none⟩=some (.string I)/\w'.cell? ⟨b,off+i*7+5,none⟩=some (.string J)) (by kernel_rfl) ?_
   change wpAnyH _ _ _ _ _ _ _ _ (World.drew _);rw[cy];refine aH 0 rfl (.int .i64 (c:Nat)) H ?_;refine aH 1 rfl (.int .i64 (c:Nat)) H ?_;refine am 2 rfl fb 0 H ?_;refine am 3 rfl fb 0 H ?_;refine am 4 rfl fb 11 H ?_
   refine aH 5 rfl (.slice (some ⟨b,off,none⟩) D.en.length cap) H ?_ (hy:=fun w' r=>by simp[go_sem,r.1])
   refine aH 6 rfl (.int .i64 i) H ?_
   refine am 7 rfl b (off+i*7) H ?_ (hy:=fun w' r=>by simp[go_sem,cr])
   refine am 8 rfl b (off+i*7+4) H ?_
   refine aH 9 rfl (.string I) H ?_ (hy:=fun w' r=>by simp[go_sem,r.2.1])
   refine am 10 rfl fb 0 H ?_;refine am 11 rfl fb 0 H ?_;refine am 12 rfl fb 11 H ?_
   refine aH 13 rfl (.slice (some ⟨b,off,none⟩) D.en.length cap) H ?_ (hy:=fun w' r=>by simp[go_sem,r.1])
   refine aH 14 rfl (.int .i64 i) H ?_
   refine am 15 rfl b (off+i*7) H ?_ (hy:=fun w' r=>by simp[go_sem,cr])
   refine am 16 rfl b (off+i*7+5) H ?_
   refine aH 17 rfl (.string J) H ?_ (hy:=fun w' r=>by simp[go_sem,r.2.2])
   refine aH 18 rfl (.agg #[.int .i64 (c:Nat),(200:Int),I,J]) H ?_ (hy:=fun w' r=>bt200 (c:Nat) 200 I J _ _ _ _ _ _ rfl rfl rfl rfl rfl w');refine aH 20 rfl (.int .i64 (c:Nat)) H ?_
   refine y6 (rs:=[19]) (by kernel_rfl) (by simp) ?_
   intro eo bi;simp only[z7] at bi;subst bi;refine bI 19 rfl rfl (.slice (some ⟨v.heap.size,0,none⟩) 1 1) (v.alloc (.cells #[.int .i64 (c:Nat),(200:Int),I,J] 103)) (gz (c:Nat) 200 I J _ _ _ rfl rfl v) (ce) ?_;simp only[qZ];refine aH 21 rfl (.slice (some ⟨v.heap.size,0,none⟩) 1 1) ce ?_
   refine zm (by kernel_rfl) ?_ _
   clear H ce cK cM b6 cy
   go_wp2
   go_ret2
   exact aa Z
  | none=>
   dsimp only[m5];have o:=aa a3;rw[aA] at o;dsimp only at o
   have eF:¬(0:Int)<=-1:=by omega
   have el:ay.cell? ⟨fb,0,none⟩=some (.int .i64 (D.q:Int)):=by rw[<-aa ek]; exact aF.c R.blk 0 rfl
   obtain⟨bo,a7⟩:∃bo,D.q=bo:=⟨_,rfl⟩;rw[a7] at el
   by_cases cC:aX=bo
   ·subst cC
    rw[zJ a7.symm] at o
    have Z:Hid (ArP w fb X D ⟨l,z,x,y⟩ (0) tag (.returned (.tuple #[.int .i64 (c:Nat),.slice (some ⟨ay.heap.size,0,none⟩) 1 1])) (ay.alloc (.cells #[.int .i64 (c:Nat),(503:Int),.string ⟨#[]⟩,.string ⟨#[]⟩] 103))):=by
     have q:=ArP.one (w:=w) (w1:=ay) (fb:=fb) (X:=X) (D:=D) (k:=⟨l,z,x,y⟩) (er:=0) (tag:=tag) (rv':=.slice ap (c+1) ai) (jv':=X.jv) (ev':=X.ev) (D':={ D with rq:=D.rq++[⟨⟨l,z,x,y⟩,(V:Nat),(f:Int)+(m:Int),true⟩] }) (s:=503) (B:=⟨#[]⟩) (T:=⟨#[]⟩) (by rw[RV.eqR X _ _ (aa aK)]; exact R) (by
      exact o
      )
     rw[aa aq] at q;exact q
    clear o a3 R bc a7 aA
    go_wp2_with (refine cP _ _ (gz (c:Nat) 503 ⟨#[]⟩ ⟨#[]⟩ _ _ _ rfl rfl _) rfl ?_)
    go_ret2
    exact aa Z
   have ey:((aX:Int)==(bo:Int))=false:=by simp; omega
   have ez:¬(aX:Int)=(bo:Int):=by omega
   rw[zK (fun q=>cC (q.trans a7))] at o
   obtain⟨b,off,cap,bt⟩:=R.mem.rq.blkAt (by simp)
   rw[zH,zT,aa aq] at bt
   have dF:(D.rq++[⟨⟨l,z,x,y⟩,(V:Nat),(f:Int)+(m:Int),true⟩])[c]?=some ⟨⟨l,z,x,y⟩,(V:Nat),(f:Int)+(m:Int),true⟩:=by rw[<-aa aq]; simp
   obtain⟨bq,br,aw,cT⟩:=R.mark bt dF false
   have cN:ay.cell? ⟨fb,9,none⟩=some (.slice (some ⟨b,off,none⟩) (c+1) cap):=by rw[<-bt]; exact aF.c R.blk 9 rfl
   have eA:(c:Int)<((c+1:Nat):Int):=by omega
   obtain⟨Y,aW⟩:∃Y,ay.setCell ⟨b,off+c*7+6,none⟩ (.bool false)=Y:=⟨_,rfl⟩;rw[aW] at aw cT
   have c8:(D.rq++[(⟨⟨l,z,x,y⟩,(V:Nat),(f:Int)+(m:Int),true⟩:Rq)]).set c (⟨⟨l,z,x,y⟩,(V:Nat),(f:Int)+(m:Int),false⟩:Rq)=D.rq++[⟨⟨l,z,x,y⟩,(V:Nat),(f:Int)+(m:Int),false⟩]:=by rw[<-aa aq]; simp
   rw[c8] at aw
   have be:Y.heap[O]?=some (.cells #[l,z,x,y] 39):=aQ bc cT (by
    intro q;have dU:=R.mem.rq;rw[bt] at dU
    exact au dU bc (by decide) b rfl q.symm)
   have cW:=ao be;obtain⟨⟨cD,cF⟩,⟨cG,cH⟩⟩:=aa d7;dsimp only at cD cF cG cH;have dJ:=kB l z x y Y ⟨cD,cF⟩ ⟨cG,cH⟩;have d2:=ae aw;have bs:=ae o;have b9:=ae aW;clear o a3 R bc a7 aA aw cT c8 be dF cC cD cF cG cH aW
   go_wp2_with (first|refine cU Y (stB _ _ _ _ rfl b (off+c*7+6) false (by simp[go_sem]) (by simp[go_sem]) ay Y bq br (aa b9)) rfl ?_|refine vM cW rfl _ rfl rfl ?_)
   refine dJ.mono ?_;rintro e ah ⟨rfl,ba⟩;obtain⟨G,ck⟩:∃G,x-x%2=G:=⟨_,rfl⟩
   obtain⟨F,cl⟩:∃F,y-y%2=F:=⟨_,rfl⟩
   rw[ck,cl]
   have c4:K4.blk ⟨l,z,x,y⟩=⟨l,z,G,F⟩:=by unfold K4.blk; dsimp only; rw[ck,cl]
   have Q:=aj ah (.cells #[l,z,G,F] 39)
   have cq:=zZ ah (.cells #[l,z,G,F] 39)
   have aL:=((aa d2).on ba).on Q;have cX:=ao cq
   have dR:=job_any fb _ D.jb l z G F _ aL.blk aL.mem.jb.at (by omega)
   have dh:=ae aL;have da:=ae cq;have cY:=ae c4;clear dJ ba Q cq aL cN bq br cW ck cl c4
   go_wp2_with (refine vM cX rfl _ rfl rfl ?_)
   refine dR.mono ?_;rintro e v ⟨rfl,aU⟩;have U:=(aa dh).on aU;have bf:=ag (aa da) aU;obtain⟨P,c5⟩:∃P,ah.heap.size=P:=⟨_,rfl⟩;rw[c5] at bf ⊢;clear dR cX aU dh da c5
   cases bU:o7 D.jb ⟨l,z,G,F⟩ with
   | some j=>
    dsimp only[m5];have o:=aa bs;rw[aa cY,bU] at o;dsimp only at o
    have ed:¬(j:Int)<0:=by omega
    have Z:Hid (ArP w fb X D ⟨l,z,x,y⟩ 0 tag (.returned (.tuple #[.int .i64 (c:Nat),.slice none 0 0])) v):=by
     refine⟨.slice none 0 0,.slice (some ⟨b,off,none⟩) (c+1) ai,X.jv,X.ev,by rw[aa aq],?_,fun g aR=>(by cases aR),?_⟩
     ·rw[o]; exact Or.inl ⟨rfl,rfl⟩
     rw[o]; dsimp only; rw[RV.eqR X _ _ (aa aK)]; exact U
    clear o bs U bf bU
    go_wp2
    go_ret2
    exact aa Z
   | none=>
    dsimp only[m5];have o:=aa bs;rw[aa cY,bU] at o;dsimp only at o;obtain⟨C,aO⟩:∃C,D.ct=C:=⟨_,rfl⟩;rw[aO] at o dz
    have ed:(-1:Int)<0:=by omega
    have bp:v.cell? ⟨fb,7,none⟩=some (.int .i64 (C:Int)):=by rw[<-aO,<-aa aK]; exact aF.c U.blk 7 rfl
    have a5:=kr U.blk 7
    have ea:IntKind.i64.wrap ((C:Int)+1)=(C:Int)+1:=bG _ (by omega)
    have cf:=U.trans (U.mem.ct U.blk ((C:Int)+1));obtain⟨aE,cz⟩:∃aE,v.setCell ⟨fb,7,none⟩ (.int .i64 ((C:Int)+1))=aE:=⟨_,rfl⟩;rw[cz] at cf
    have dC:aE.heap[P]?=some (.cells #[l,z,G,F] 39):=by rw[<-cz,zW _ _ _ _ (by show P≠fb; exact aI bf U.blk (by decide))]; exact bf
    obtain⟨M,cA⟩:∃M,World.drew aE=M:=⟨_,rfl⟩;have cj:Below aE.heap.size aE M:=cA▸zE bu;have ab:=cf.on cj;have bh:=ag dC cj;obtain⟨bW,bX,cs,_⟩:=ab.mem.jb.val
    have ca:M.cell? ⟨fb,10,none⟩=some (.slice bW D.jb.length bX):=by rw[<-cs]; exact aF.c ab.blk 10 rfl
    have bw:M.cell? ⟨fb,7,none⟩=some (.int .i64 ((C:Int)+1)):=aF.c ab.blk 7 rfl
    have a9:=aZ jP 165 M ⟨⟨l,z,G,F⟩,-1,(C:Int)+1,0,0⟩ (Jb.a ⟨⟨l,z,G,F⟩,-1,(C:Int)+1,0,0⟩) rfl
    have Q:=aj M (.cells (Jb.a ⟨⟨l,z,G,F⟩,-1,(C:Int)+1,0,0⟩) 165)
    obtain⟨av,a2⟩:∃av,M.alloc (.cells (Jb.a ⟨⟨l,z,G,F⟩,-1,(C:Int)+1,0,0⟩) 165)=av:=⟨_,rfl⟩
    obtain⟨eq,K,ax,aC,al,af⟩:=apJb (ab.on Q).mem.jb a9 (by simp only[zT]; omega)
    obtain⟨b0,b2,b1,rfl⟩:=aC.slc
    obtain⟨b5,c1,bC⟩:=ab.addJ aC al (by
     rcases af with af|af
     ·exact Or.inl af
     exact Or.inr fun g aR=>by have q:=af g aR; simp at q; omega)
    obtain⟨aG,bQ⟩:∃aG,K.setCell ⟨fb,10,none⟩ (.slice b0 b2 b1)=aG:=⟨_,rfl⟩;rw[cs] at ax b5;rw[a2] at ax al Q;rw[bQ] at bC
    have ac:av.heap[P]?=some (.cells #[l,z,G,F] 39):=ag bh Q
    have aN:K.heap[P]?=some (.cells #[l,z,G,F] 39):=by
     rw[al.block P (an ac) (fun q=>au ab.mem.jb bh (by decide) P q.symm rfl)]; exact ac
    have dD:aG.heap[P]?=some (.cells #[l,z,G,F] 39):=by
     rw[<-bQ,zW _ _ _ _ (by show P≠fb; exact aI bh ab.blk (by decide))]; exact aN
    have az:∀i,av.cell? ⟨fb,i,none⟩=M.cell? ⟨fb,i,none⟩:=fun i=>Q.cell (p:=⟨fb,i,none⟩) (an ab.blk)
    have aJ:∀i,K.cell? ⟨fb,i,none⟩=M.cell? ⟨fb,i,none⟩:=fun i=>zP (a:=⟨fb,i,none⟩) (by
     rw[al.block fb (by have:=an ab.blk; have:=Q.size; omega) (fun q=>au ab.mem.jb ab.blk (by decide) fb q.symm rfl)]
     rw[<-a2]; exact zr M _ (an ab.blk))
    have cZ:av.cell? ⟨fb,10,none⟩=some (.slice bW D.jb.length bX):=(az 10).trans ca
    have d:M.heap[P]?=some (.cells #[l,z,G,F] 39)/\M.cell? ⟨fb,7,none⟩=some (.int .i64 ((C:Int)+1)):=⟨bh,bw⟩
    have ar:av.heap[P]?=some (.cells #[l,z,G,F] 39)/\av.cell? ⟨fb,7,none⟩=some (.int .i64 ((C:Int)+1)):=⟨ac,(az 7).trans bw⟩
    have ak:K.heap[P]?=some (.cells #[l,z,G,F] 39)/\K.cell? ⟨fb,7,none⟩=some (.int .i64 ((C:Int)+1)):=⟨aN,(aJ 7).trans bw⟩
    have N:aG.heap[P]?=some (.cells #[l,z,G,F] 39)/\aG.cell? ⟨fb,7,none⟩=some (.int .i64 ((C:Int)+1)):=⟨dD,aF.c bC.blk 7 rfl⟩
    have Z:Hid (ArP w fb X D ⟨l,z,x,y⟩ 0 tag (.returned (.tuple #[.int .i64 (c:Nat),.slice none 0 0])) aG):=by
     refine⟨.slice none 0 0,.slice (some ⟨b,off,none⟩) (c+1) ai,.slice b0 b2 b1,X.ev,by rw[aa aq],?_,fun g aR=>(by cases aR),?_⟩
     ·rw[o]; exact Or.inl ⟨rfl,rfl⟩
     rw[o]; exact bC
    have d5:=ae cz;clear o bs U bf bU cf dC cj ab bh cs a9 Q aC al af bC ac aN dD az aJ aO
    go_wp2_with (refine cU aE (kO _ _ _ _ rfl fb 7 ((C:Int)+1) rfl (by simp[go_sem]) v aE bp a5 (aa d5)) rfl ?_)
    refine z8 (S:=fun w'=>w'.heap[P]?=some (.cells #[l,z,G,F] 39)/\w'.cell? ⟨fb,7,none⟩=some (.int .i64 ((C:Int)+1))) (by kernel_rfl) ?_
    change wpAnyH _ _ _ _ _ _ _ _ (World.drew _);rw[cA];refine am 0 rfl fb 0 d ?_;refine am 1 rfl fb 0 d ?_;refine am 2 rfl fb 0 d ?_;refine am 3 rfl fb 10 d ?_
    refine aH 5 rfl (.agg #[l,z,G,F]) d ?_ (hy:=fun w' r=>jT _ _ _ 39 rfl _ rfl _ underlying39 rfl (bj _ _ _ _) P 0 rfl _ (ao r.1))
    refine am 6 rfl fb 0 d ?_;refine am 7 rfl fb 0 d ?_;refine am 8 rfl fb 7 d ?_
    refine aH 9 rfl (.int .i64 ((C:Int)+1)) d ?_ (hy:=fun w' r=>by simp[go_sem,r.2])
    refine aH 10 rfl (.agg (Jb.a ⟨⟨l,z,G,F⟩,-1,(C:Int)+1,0,0⟩)) d ?_ (hy:=fun w' r=>bJb _ _ _ _ _ _ _ _ _ _ rfl rfl rfl rfl w')
    refine y6 (rs:=[4,11]) (by kernel_rfl) (by simp) ?_
    intro i hi;simp only[zv,yT,or_false] at hi
    rcases hi with rfl|rfl
    focus
     refine bI 4 rfl rfl (.slice bW D.jb.length bX) (M) (by simp[go_sem,ca]) (d) ?_
     simp only[qZ];refine aV 11 ?_
     refine bI 11 rfl rfl (.slice (some ⟨M.heap.size,0,none⟩) 1 1) (av) (by rw[<-a2]; exact bsJb ⟨⟨l,z,G,F⟩,-1,(C:Int)+1,0,0⟩ _ _ _ rfl rfl M) (ar) ?_
    rotate_left
    focus
     refine bI 11 rfl rfl (.slice (some ⟨M.heap.size,0,none⟩) 1 1) (av) (by rw[<-a2]; exact bsJb ⟨⟨l,z,G,F⟩,-1,(C:Int)+1,0,0⟩ _ _ _ rfl rfl M) (ar) ?_
     simp only[qZ];refine aV 4 ?_
     refine bI 4 rfl rfl (.slice bW D.jb.length bX) (av) (by simp[go_sem,cZ]) (ar) ?_
    all_goals
     simp only[qZ];refine aV 12 ?_;refine bI 12 rfl rfl (.slice b0 b2 b1) (K) (exR 132 ax _ _ _ _ rfl rfl rfl rfl) (ak) ?_;simp only[qZ];refine am 13 rfl fb 0 ak ?_;refine am 14 rfl fb 10 ak ?_;refine aV 15 ?_
     refine cL 15 rfl rfl (aG) (stS1 _ _ _ _ 132 rfl (fun _=>by simp[go_sem]) fb 10 b0 b2 b1 rfl rfl K aG b5 c1 bQ) (N) ?_
     simp only[Act.put]
     refine zm (by kernel_rfl) ?_ _
     clear d ar ak N ax ca bw b5 c1 bp a5 cZ cA bQ a2
     go_wp2
     go_ret2
     exact aa Z
 have ew:(er==0)=false:=by simpa using cm
 have Z:Hid (ArP w fb X D ⟨l,z,x,y⟩ (er) tag (.returned (.tuple #[.int .i64 (c:Nat),.slice (some ⟨A.heap.size,0,none⟩) 1 1])) (A.alloc (.cells #[.int .i64 (c:Nat),(404:Int),.string ⟨#[]⟩,.string ⟨#[]⟩] 103))):=by
  have q:=ArP.one (w:=w) (w1:=A) (fb:=fb) (X:=X) (D:=D) (k:=⟨l,z,x,y⟩) (er:=er) (tag:=tag) (rv':=.slice ap (c+1) ai) (jv':=X.jv) (ev':=X.ev) (D':={ D with rq:=D.rq++[⟨⟨l,z,x,y⟩,(V:Nat),(f:Int)+(m:Int),true⟩] }) (s:=404) (B:=⟨#[]⟩) (T:=⟨#[]⟩) (by rw[RV.eqR X _ _ (aa aK)]; exact aa a4) (by
   unfold DF.arrive;dsimp only;rw[zK bJ,zJ cm,aa bn,aa b3,aa b4]
   )
  rw[aa aq] at q;exact q
 go_wp2_with (refine cP _ _ (gz (c:Nat) 404 ⟨#[]⟩ ⟨#[]⟩ _ _ _ rfl rfl _) rfl ?_)
 go_ret2
 exact aa Z
end
section
variable {w w1 w':World}{d d1:DV}{ob:Nat}{O:OL}{v:Value}{e:Ending}
theorem Pst.joinI (h:Pst w d ob O w1 d1 O)(i:KeptI w1 ob O.V O.IS O.FS O.RS O.GS O.ES v e w')(m:∀k,v.ownBlock=some k->w.heap.size<=k/\¬df d1 k):e=.returned (.tuple #[])/\∃f,Pst w d ob O w' d1 f:=by
 obtain⟨j,s,x,l,c,g,b⟩:=i
 refine⟨j,{ O with V:={ O.V with iv:=x },IS:=O.IS++[s] },h.join (u:=O.V.iv) (v:=v) c g (fun k q=>?_) m (fun k q=>?_) ⟨by simp,by simp,by simp,by simp,by simp⟩ ⟨id,id⟩⟩
 ·exact Or.inr (Or.inl q)
 rcases q with rfl|q|q|q|q|q|⟨t,a,q⟩
 ·exact Or.inl (Or.inl rfl)
 ·rcases b with b|b
  ·exact Or.inl (Or.inr (Or.inl (b▸q)))
  exact Or.inr (Or.inr (b k q))
 ·exact Or.inl (Or.inr (Or.inr (Or.inl q)))
 ·exact Or.inl (Or.inr (Or.inr (Or.inr (Or.inl q))))
 ·exact Or.inl (Or.inr (Or.inr (Or.inr (Or.inr (Or.inl q)))))
 ·exact Or.inl (Or.inr (Or.inr (Or.inr (Or.inr (Or.inr (Or.inl q))))))
 rcases a with a|a|a|a|a
 ·rcases zh.1 a with a|a
  ·exact Or.inl (Or.inr (Or.inr (Or.inr (Or.inr (Or.inr (Or.inr (⟨t,Or.inl a,q⟩)))))))
  rw[z7] at a;subst a;exact Or.inr (Or.inl (l▸q))
 ·exact Or.inl (Or.inr (Or.inr (Or.inr (Or.inr (Or.inr (Or.inr (⟨t,Or.inr (Or.inl a),q⟩)))))))
 ·exact Or.inl (Or.inr (Or.inr (Or.inr (Or.inr (Or.inr (Or.inr (⟨t,Or.inr (Or.inr (Or.inl a)),q⟩)))))))
 ·exact Or.inl (Or.inr (Or.inr (Or.inr (Or.inr (Or.inr (Or.inr (⟨t,Or.inr (Or.inr (Or.inr (Or.inl a))),q⟩)))))))
 exact Or.inl (Or.inr (Or.inr (Or.inr (Or.inr (Or.inr (Or.inr (⟨t,Or.inr (Or.inr (Or.inr (Or.inr (a)))),q⟩)))))))
theorem new_list (a:io w ob O)(f:∀k,v.ownBlock=some k->w.heap.size<=k):∀s,(s∈O.IS\/s∈O.FS\/s∈O.RS\/s∈O.GS\/s∈O.ES)->∀g,s.v.ownBlock=some g->v.ownBlock≠some g:=fun s c g b q=>by
 have:=bA.lt a (Or.inr (Or.inr (Or.inr (Or.inr (Or.inr (Or.inr ⟨s,c,b⟩))))));have:=f g q;omega
end
theorem held_any {w:World}{a:DV}{ob wb:Nat}{O:OL}(h:Dep w a)(Y:io w ob O)(N:∀k,df a k->¬OF ob O k)(hw:w.cell? ⟨wb,2,none⟩=some (.pointer (some ⟨ob,0,none⟩)))(P:wb<w.heap.size)(ac:O.IS.length<=10000000):
  Calls prog 19 #[some wb,.agg #[some a.sb,some a.rb]] w fun e w'=>e=.returned (.bool true)/\∃o,Pst w a ob O w' a o:=by
 have d:=zZ w (.cells #[some a.sb,some a.rb] 53);have j:=aj w (.cells #[some a.sb,some a.rb] 53);have V:=(af d 0).trans (show _=some (Value.pointer (some ⟨a.sb,0,none⟩)) from rfl);have G:=(af d 1).trans (show _=some (Value.pointer (some ⟨a.rb,0,none⟩)) from rfl);have c:=h.on j;have u:=h.pr.max;have Z:=ae (dQ a.sb a.keep (a.bs.length:Nat) a.sl a.pv a.LS (ri a.PI) _ c.x);have ab:=ae (dv c.r);have X:=ae (xHeld_any c.x h.p h.k u);have ak:=ae d;have f:=ae j;have n:=ae h;have E:=ae Y;have J:=ae N;have U:=ae hw;clear d j c hw;go_enter func19,ntmps19
 go_wp2_with fail
 refine(aa Z).mono ?_;rintro e w1 ⟨rfl,rfl⟩
 go_wp2_with fail
 refine(aa ab).mono ?_;rintro e w1 ⟨rfl,rfl⟩
 go_wp2_with fail
 refine(aa X).mono ?_;rintro e am ⟨rv,rfl,I,H,l⟩;have g:=(aa f).trans (l.mono (aa f).size)
 have W:=(l.cell (p:=⟨w.heap.size,1,none⟩) (by simp)).trans G
 have S:=ae (rHeld_any ((aa n).on g).r (by have:=h.p; omega) u)
 have x:=ae g;have z:=ae I;have K:=ae H;clear l g I H V G
 go_wp2_with fail
 refine(aa S).mono ?_;rintro e ai ⟨ah,rfl,D,_,b⟩;have A:=(aa x).trans (b.mono (aa x).size);have T:=ae (oB rv ah _ ai ((aa z).on b).at D.at);have L:=ae ((aa z).on b);have y:=ae A;clear b A D W
 go_wp2_with fail
 refine(aa T).mono ?_;rintro e an ⟨rfl,m⟩;have i:=(aa y).trans (m.mono (aa y).size);have al:=(i.cell (p:=⟨wb,2,none⟩) P).trans (aa U);have r:=Pst.still (aa n) (aa E) (aa J) i
 have t:∀k,rv.ownBlock=some k->w.heap.size<=k:=fun k q=>by have:=aa K k q; have:=(aa f).size; omega
 have Q:=ae (keepI_any (v:=rv) r.own ((aa L).on m) (fun s ad=>new_list (aa E) t s (Or.inl ad)) ac);have F:=ae t;have R:=ae r;clear m i r t
 go_wp2_with fail
 refine(aa Q).mono ?_;intro e ao B
 obtain⟨rfl,o,C⟩:=(aa R).joinI B fun k q=>⟨aa F k q,fun ag=>by have:=aa F k q; have:=(aa n).lt ag; omega⟩
 have M:=ae C;clear C B
 go_wp2
 go_ret;exact⟨rfl,o,aa M⟩
structure iH where
 kind:Int
 on:Int
 a:Int
 b:Int
 c:Int
 kl:Int
 kz:Int
 kx:Int
 ky:Int
 s:ByteArray
 t:ByteArray
 bo:Option Addr
 bn:Nat
 bc:Nat
 f0:Int
 f1:Int
 f2:Int
 f3:Int
 f4:Int
def iH.bat (o:iH):Value:=.slice o.bo o.bn o.bc
def iH.v (o:iH):Array Value:=#[o.kind,o.on,o.a,o.b,o.c,o.kl,o.kz,o.kx,o.ky,o.s,o.t,.slice o.bo o.bn o.bc,o.f0,o.f1,o.f2,o.f3,o.f4]
def rOp:dR iH:=⟨17,fun o=>o.v.toList,fun _=>rfl,fun k v hv=>by simp[iH.v] at hv; rcases hv with rfl|rfl|rfl|rfl|rfl|rfl|rfl|rfl|rfl|rfl|rfl|rfl|rfl|rfl|rfl|rfl|rfl<;>rfl,by decide⟩
structure FBox (w w1:World)(e:EV)(o:iH):Prop where
 b:Below w.heap.size w w1
 z:w.heap.size+2<=w1.heap.size
 p:w1.heap[w.heap.size]?=some (.cells #[.pointer (some ⟨e.fb,0,none⟩),.pointer (some ⟨e.rb,0,none⟩)] 59)
 q:w1.heap[w.heap.size+1]?=some (.cells o.v 44)
theorem ie (w:World)(e:EV)(o:iH):FBox w ((w.alloc (.cells #[some e.fb,some e.rb] 59)).alloc (.cells o.v 44)) e o:=by
 have a:=zZ w (.cells #[some e.fb,some e.rb] 59);have b:=zZ (w.alloc (.cells #[some e.fb,some e.rb] 59)) (.cells o.v 44)
 refine⟨(bu.alloc aD _).alloc (by simp) _,by simp,?_,by simpa using b⟩
 rw[zr _ _ (by simp)]; exact a
structure FBx (w w2:World)(e:EV)(o:iH):Prop where
 z:w.heap.size+2<=w2.heap.size
 p:w2.heap[w.heap.size]?=some (.cells #[.pointer (some ⟨e.fb,0,none⟩),.pointer (some ⟨e.rb,0,none⟩)] 59)
 q:w2.heap[w.heap.size+1]?=some (.cells o.v 44)
theorem FBox.bx {w w1:World}{e:EV}{o:iH}(h:FBox w w1 e o):FBx w w1 e o:=⟨h.z,h.p,h.q⟩
theorem FBx.on {w w1 c:World}{e:EV}{o:iH}{S:Nat->Prop}(h:FBx w w1 e o)(a:aE S w1 c)(b:∀k,S k->k<w.heap.size):FBx w c e o:=
 ⟨zF h.z a.size,aQ h.p a fun q=>by have:=b _ q; omega,aQ h.q a fun q=>by have:=b _ q; omega⟩
theorem FBx.c0 {w w1:World}{e:EV}{o:iH}(h:FBx w w1 e o):w1.cell? ⟨w.heap.size,0,none⟩=some (.pointer (some ⟨e.fb,0,none⟩)):=(af h.p 0).trans rfl
theorem FBx.c1 {w w1:World}{e:EV}{o:iH}(h:FBx w w1 e o):w1.cell? ⟨w.heap.size,1,none⟩=some (.pointer (some ⟨e.rb,0,none⟩)):=(af h.p 1).trans rfl
theorem FBx.o {w w1:World}{e:EV}{o:iH}(h:FBx w w1 e o)(j:Nat):w1.cell? ⟨w.heap.size+1,j,none⟩=o.v[j]?:=af h.q j
section
variable {w:World}{e:EV}{n ob wb:Nat}{O:OL}{o:iH}
theorem cO.jobs (h:cO w n e):∀j∈e.D.jb,0<=j.rd/\j.rd<=e.D.bs.length/\bP j.b/\0<=j.lf/\j.lf<=1000:=by
 obtain⟨x,v,g⟩:=h.m.sim.job;intro j l
 have c:bP j.b:=by
  have p:=(g.has j.b).1 ⟨j,l,rfl⟩
  rcases p with q|q
  ·obtain⟨u,s,b⟩:=h.m.ok.lin _ q
   rw[<-b];exact nW (h.m.ok.req u s).2.2.2.1.small
  obtain⟨f,a,b⟩:=yH.1 q;obtain⟨_,_,k,r,m⟩:=h.m.ok.flt f a;rw[<-b,m];exact nW r.small
 rcases g.mem l with⟨q,_⟩|⟨q,_⟩
 ·have z:=g.lin j q
  exact⟨by omega,by omega,c,by omega,by omega⟩
 obtain⟨i,f,a,d⟩:=g.bb q;have y:j.rd=(f.reads:Int):=congrArg (fun t:Jt=>t.2.2.1) d;have A:j.lf=(f.left:Int):=congrArg (fun t:Jt=>t.2.2.2) d;have B:=h.m.ok.flt f (eY a);have C:=h.m.ok.left40 a;have D:=h.m.sim.ver
 exact⟨by omega,by omega,c,by omega,by omega⟩
theorem mh (h:cO w n e)(ay:io w ob O)(ac:∀k,aX e k->¬OF ob O k)(aw:∀k,OF ob O k->4<=k)(Z:w.cell? ⟨wb,2,none⟩=some (.pointer (some ⟨ob,0,none⟩)))(ak:¬aX e wb)(al:¬OF ob O wb)(aN:wb<w.heap.size)(aM:O.RS.length<=10000000)(bn:n<=2000000)(aC:o.s.size<=1048576)(a1:o.kind=12):
  Calls prog 14 #[some wb,.agg #[some e.fb,some e.rb],.agg o.v] w fun J w'=>J=.returned (.bool true)/\∃av G,ip w n e ob O w' av G:=by
 have f:=ie w e o;have i:=ae f;have aT:=f.bx.c0;have az:=(f.bx.o 0).trans (show _=some (Value.int .i64 o.kind) from rfl);rw[a1] at az;have H:=h.on f.b;have ag:∀k,aX e k->k<w.heap.size:=fun k q=>h.lt q;obtain⟨a9,be,bc,bb,a6,a7,a8,bd⟩:=h.m.lens;have M:=h.m.bs;have bf:=h.m.ct;have bg:=h.m.rl;have bh:=h.m.now;have bi:=h.m.st;have aO:=h.m.sim.arr;have bk:=h.m.sim.now;have bl:=h.m.sim.st;have aS:=ae h.x.glb.1;have am:=ae h;have U:=ae H;have an:=ae ay;have aG:=ae ac;have aR:=ae aw;have aF:=ae Z;have aK:Hid (¬(aX e wb\/OF ob O wb)):=fun q=>q.elim ak al;have aI:=ae ag;have aE:=ae M;have a3:=(f.bx.o 9).trans (show _=some (Value.string o.s) from rfl);have aP:=(f.bx.o 10).trans (show _=some (Value.string o.t) from rfl)
 have E:=Arrive_any e.fb e.P e.F o.s o.t _ H.fro h.m.ok (by unfold maxLen; omega) (by omega) (by omega)
 rw[aO] at E;have N:=ae E;clear f H h ay ac aw Z ak al E ag M;go_enter func14,ntmps14
 go_wp2_with fail
 refine(aa N).mono ?_;rintro J bo ⟨rv,rfl,m⟩;have t:=(aa i).bx.on m.frm (fun k q=>aa aI k (Or.inl q));have aU:=t.c1;have aQ:=(t.o 9).trans (show _=some (Value.string o.s) from rfl);have aD:=(t.o 10).trans (show _=some (Value.string o.t) from rfl);have b:=(aa U).mid m.frm;obtain⟨l,z,x,y,er,C⟩:∃l z x y er,Dw.parseL o.s.data.toList=((l,z,x,y),er):=⟨_,_,_,_,_,rfl⟩
 have ai:k8 o.s=(⟨l,z,x,y⟩,er):=by unfold k8; rw[C]
 have A:=oK o.s;have B:=nD o.s;have u:=(aa am).m.arr o.s o.t;have v:=nX e.D (k8 o.s).1 (k8 o.s).2 o.t;rw[ai] at A B u v;dsimp only at A B u v
 have ap:=rArrive_any o.s o.t l z x y er C aC b.blk b.mem b.num.q b.num.wt b.num.nw b.num.ct (by omega) (by omega) (by omega) b.sto (aa aE) (fun q=>by
  rcases A with⟨_,z⟩|⟨z,_⟩
  ·exact z
  exact absurd q z) B (aa am).m.sml (by omega) (by omega) (by omega)
 have V:=ae ap;have F:=ae m;have P:=ae u;have Q:=ae v;have L:=ae b.num;obtain⟨br,bt,bs,rfl⟩:=m.rep.sl;clear m t b ap C ai A B u v aT az a3 aP N
 go_wp2_with fail
 refine(aa V).mono ?_;rintro J bp ⟨bm,rv',jv',ev',rfl,I,a4,aA⟩;obtain⟨ad,ab⟩:=aa P;obtain⟨d,ar,au,aW,aY,aZ⟩:=aa Q;have c:=aa L
 obtain⟨av,aj,j,ah⟩:=iz (aa U) (aa F) aA d.bs ⟨by rw[d.q]; exact c.q,by rw[d.wk]; exact c.wk,by rw[d.wt]; exact c.wt,by rw[d.ca]; exact c.ca,by rw[d.ch]; exact c.ch,by rw[ar]; exact c.nw,rfl,by rw[au]; exact c.st⟩ ad
 rw[ab] at j;have K:=I.at;have af:=(aa F).repf;have ba:=(aa i).b.size;obtain⟨bu,bw,bv,rfl⟩:=I.sl
 have aB:((e.D.rq.length:Int)==(e.D.rq.length:Int))=true:=by simp
 clear I a4 aA ad ab d ar au aW aY aZ c aU aQ aD V F P Q L;have X:=aj.est (ob:=ob) (O:=O) (bA.on (aa an) (aa i).b) (aa aG);have aL:=j;have aq:=dl j.at K;have R:=ae X;have W:=ae j;have aJ:=ae ah;have T:=ae af;clear X aj j K aL ah af aB
 go_wp2_with fail
 refine aq.mono ?_;rintro e a5 ⟨rfl,D⟩;have r:=(aa R).on D;have bj:=(aa i).b.size
 have aV:a5.cell? ⟨wb,2,none⟩=some (.pointer (some ⟨ob,0,none⟩)):=by
  rw[zP (a:=⟨wb,2,none⟩) (r.frm.block wb (by show wb<_; omega) (aa aK))]
  exact((aa i).b.cell (p:=⟨wb,2,none⟩) aN).trans (aa aF)
 have ao:=fZ r.own ((aa W).on D) (fun s a2 g a0 q=>by
  have bx:=aa T g q;have bz:=bA.lt (aa an) (k:=g) (Or.inr (Or.inr (Or.inr (Or.inr (Or.inr (Or.inr ⟨s,Or.inr (Or.inr (Or.inl a2)),a0⟩))))));omega) aM
 have S:=ae r;clear aq D r R W
 go_wp2_with fail
 refine ao.mono ?_;intro e bq ax
 obtain⟨rfl,G,Y⟩:=ip.keepR (aa S) (aa aR) (by have:=(aa aS); omega) (fun k q=>⟨aa T k q,aa aJ k q⟩) ax ⟨by omega,by omega,by omega,by omega,by omega⟩
 have aH:=ae (Y.pre (aa i).b);clear Y ax aV ao S
 go_wp2
 go_ret;exact⟨rfl,_,G,aa aH⟩
end
section
variable {w:World}{e:EV}{n ob wb:Nat}{O:OL}{o:iH}
theorem pm (h:cO w n e)(aq:io w ob O)(Z:∀k,aX e k->¬OF ob O k)(ao:∀k,OF ob O k->4<=k)(Y:w.cell? ⟨wb,2,none⟩=some (.pointer (some ⟨ob,0,none⟩)))(ag:¬aX e wb)(ai:¬OF ob O wb)(aJ:wb<w.heap.size)(aI:O.RS.length<=10000000)(bh:n<=2000000)(aT:o.kind=13):
  Calls prog 14 #[some wb,.agg #[some e.fb,some e.rb],.agg o.v] w fun f w'=>f=.returned (.bool true)/\∃c G,ip w n e ob O w' c G:=by
 have t:=ie w e o;have m:=ae t;have aN:=t.bx.c0;have ar:=(t.bx.o 0).trans (show _=some (Value.int .i64 o.kind) from rfl);rw[aT] at ar;have H:=h.on t.b;have ac:∀k,aX e k->k<w.heap.size:=fun k q=>h.lt q;obtain⟨a1,a5,a3,a2,a0,av,aw,a4⟩:=h.m.lens;have L:=h.m.bs;have a6:=h.m.ct;have a7:=h.m.rl;have a8:=h.m.now;have a9:=h.m.st;have bb:=h.m.sim.arr;have bc:=h.m.sim.now;have bd:=h.m.sim.st;have aM:=ae h.x.glb.1;have v:=ae h;have C:=ae H;have ak:=ae aq;have aA:=ae Z;have aL:=ae ao;have az:=ae Y;have aE:Hid (¬(aX e wb\/OF ob O wb)):=fun q=>q.elim ag ai;have aC:=ae ac;have ay:=ae L;have aV:=(t.bx.o 2).trans (show _=some (Value.int .i64 o.a) from rfl)
 have aj:=Work_any e.fb e.P e.F o.a _ H.fro h.m.ok (by omega)
 have P:=ae aj;clear t H h aq Z ao Y ag ai aj ac L;go_enter func14,ntmps14
 go_wp2_with fail
 refine(aa P).mono ?_;rintro f au ⟨rv,rfl,d⟩;have E:=(aa m).bx.on d.frm (fun k q=>aa aC k (Or.inl q));have aO:=E.c1;have aK:=(E.o 2).trans (show _=some (Value.int .i64 o.a) from rfl);have b:=(aa C).mid d.frm;have N:=(aa v).jobs
 have am:=rWork_any o.a b.blk b.mem b.num.ca b.num.ct b.num.st b.num.wk b.num.ch (by omega) (by omega) ⟨av,aw⟩ b.sto (aa ay) N (aa v).m.sml (aa v).m.kok (by omega) (by omega) (by omega) (by omega)
 have J:∀f i,(if o.a<0 then f=.returned (.slice none 0 0)/\i=au else WkP au e.rb e.Y e.D o.a.toNat f i)->∃u c,f=.returned u/\St2 _ n e i c/\ah bE 103 i rv (kV e.F o.a).2/\(∀g,rv.ownBlock=some g->¬aX c g)/\ah bE 103 i u (kV e.F o.a).2:=fun f i hw=>by
  by_cases z:o.a<0
  ·rw[zJ z] at hw
   obtain⟨rfl,rfl⟩:=hw
   have j:kV e.F o.a=(e.F,[]):=by unfold kV; rw[zJ z]
   rw[j] at d;obtain⟨c,A,B,I⟩:=iz (D':=e.D) (Y':=e.Y) (aa C) d (aP.refl b.blk b.mem) rfl b.num ((aa v).m.still)
   exact⟨_,c,rfl,A,by rw[j]; exact B,I,by rw[j]; exact Or.inl ⟨rfl,rfl⟩⟩
  rw[zK z] at hw;obtain⟨u,jv',ev',rfl,aW,bi,aY⟩:=hw
  have j:kV e.F o.a=e.F.work Oz o.a.toNat:=by unfold kV; rw[zK z]
  obtain⟨aH,aG⟩:=(aa v).m.work o.a.toNat;obtain⟨r,aR,be,bf,bg⟩:=work_dl e.D o.a.toNat;have l:=b.num;rw[j] at d
  obtain⟨c,A,B,I⟩:=iz (aa C) d aY r.bs ⟨by rw[r.q]; exact l.q,by rw[r.wk]; exact l.wk,by rw[r.wt]; exact l.wt,by rw[r.ca]; exact l.ca,by rw[r.ch]; exact l.ch,by rw[aR]; exact l.nw,rfl,rfl⟩ aH
  exact⟨u,c,rfl,A,by rw[j]; exact B,I,by rw[j,aG]; exact aW⟩
 have M:=d.repf;have U:=ae am;have T:=ae J;obtain⟨bk,bm,bl,rfl⟩:=d.rep.sl;clear d E b am N J aN ar aV P
 go_wp2_with fail
 refine(aa U).mono ?_;intro f i hw;obtain⟨u,c,rfl,af,x,ad,F⟩:=aa T f i hw;have K:=F.at;have ax:=(aa m).b.size;have ab:=M;obtain⟨bn,bp,bo,rfl⟩:=F.sl;clear F hw aO aK U T M;have W:=af.est (ob:=ob) (O:=O) (bA.on (aa ak) (aa m).b) (aa aA);have aF:=x;have an:=dl x.at K;have Q:=ae W;have V:=ae x;have aD:=ae ad;have S:=ae ab;clear W af x K aF ad ab ax
 go_wp2_with fail
 refine an.mono ?_;rintro e aZ ⟨rfl,D⟩;have y:=(aa Q).on D;have ba:=(aa m).b.size
 have aQ:aZ.cell? ⟨wb,2,none⟩=some (.pointer (some ⟨ob,0,none⟩)):=by
  rw[zP (a:=⟨wb,2,none⟩) (y.frm.block wb (by show wb<_; omega) (aa aE))]
  exact((aa m).b.cell (p:=⟨wb,2,none⟩) aJ).trans (aa az)
 have al:=fZ y.own ((aa V).on D) (fun s aU g aS q=>by
  have A:=aa S g q;have B:=bA.lt (aa ak) (k:=g) (Or.inr (Or.inr (Or.inr (Or.inr (Or.inr (Or.inr ⟨s,Or.inr (Or.inr (Or.inl aU)),aS⟩))))));omega) aI
 have R:=ae y;clear an D y Q V
 go_wp2_with fail
 refine al.mono ?_;intro e bj ap
 obtain⟨rfl,G,X⟩:=ip.keepR (aa R) (aa aL) (by have:=(aa aM); omega) (fun k q=>⟨aa S k q,aa aD k q⟩) ap ⟨by omega,by omega,by omega,by omega,by omega⟩
 have aB:=ae (X.pre (aa m).b);clear X ap aQ al R
 go_wp2
 go_ret;exact⟨rfl,_,G,aa aB⟩
theorem pp (h:cO w n e)(ah:io w ob O)(N:∀k,aX e k->¬OF ob O k)(af:∀k,OF ob O k->4<=k)(L:w.cell? ⟨wb,2,none⟩=some (.pointer (some ⟨ob,0,none⟩)))(U:¬aX e wb)(V:¬OF ob O wb)(av:wb<w.heap.size)(au:O.RS.length<=10000000)(a0:n<=2000000)(aD:o.kind=15):
  Calls prog 14 #[some wb,.agg #[some e.fb,some e.rb],.agg o.v] w fun x w'=>x=.returned (.bool true)/\∃ad t,ip w n e ob O w' ad t:=by
 have j:=ie w e o;have c:=ae j;have az:=j.bx.c0;have ai:=(j.bx.o 0).trans (show _=some (Value.int .i64 o.kind) from rfl);rw[aD] at ai;have u:=h.on j.b;have R:∀k,aX e k->k<w.heap.size:=fun k q=>h.lt q;obtain⟨aL,aQ,aO,aM,aI,aJ,aK,aP⟩:=h.m.lens;have A:=h.m.bs;have aR:=h.m.ct;have aS:=h.m.rl;have aT:=h.m.now;have aU:=h.m.st;have aW:=h.m.sim.arr;have aY:=h.m.sim.now;have aZ:=h.m.sim.st;have ay:=ae h.x.glb.1;have X:=ae h;have F:=ae u;have Y:=ae ah;have am:=ae N;have ax:=ae af;have al:=ae L;have aq:Hid (¬(aX e wb\/OF ob O wb)):=fun q=>q.elim U V;have ao:=ae R;have aN:=ae A
 have W:=Tick_any e.fb e.P e.F _ u.fro h.m.ok (by omega)
 have B:=ae W;clear j u h ah N af L U V W R A;go_enter func14,ntmps14
 go_wp2_with fail
 refine(aa B).mono ?_;rintro x a1 ⟨rv,rfl,i⟩;have K:=(aa c).bx.on i.frm (fun k q=>aa ao k (Or.inl q));have aA:=K.c1;have f:=(aa F).mid i.frm
 have ab:=rTick_any e.D.now e.D.rq e.D.jb e.D.en f.blk f.mem f.num.nw (by omega) (aa X).m.sml (by omega) (by omega)
 have G:=ae ab;have r:=ae i;have z:=ae f.num;obtain⟨a3,a5,a4,rfl⟩:=i.rep.sl;clear i K f ab az ai B
 go_wp2_with fail
 refine(aa G).mono ?_;rintro x aG ⟨aw,jv',rfl,v,aF,aj⟩;obtain⟨P,M⟩:=(aa X).m.tick;have b:=aa z;obtain⟨ad,T,d,S⟩:=iz (D':=e.D.tick.1) (aa F) (aa r) aj rfl ⟨b.q,b.wk,b.wt,b.ca,b.ch,rfl,b.ct,b.st⟩ P;rw[M] at d;have y:bL bE aG aw e.D.tick.2:=v.at;have Q:=(aa r).repf;have ak:=(aa c).b.size;obtain⟨a6,a8,a7,rfl⟩:=v.sl;clear v aF aj P M b aA G r z;have I:=T.est (ob:=ob) (O:=O) (bA.on (aa Y) (aa c).b) (aa am);have ar:=d;have ac:=dl d.at y;have C:=ae I;have H:=ae d;have ap:=ae S;have E:=ae Q;clear I T d y ar S Q ak
 go_wp2_with fail
 refine ac.mono ?_;rintro e aH ⟨rfl,m⟩;have l:=(aa C).on m;have aV:=(aa c).b.size
 have aB:aH.cell? ⟨wb,2,none⟩=some (.pointer (some ⟨ob,0,none⟩)):=by
  rw[zP (a:=⟨wb,2,none⟩) (l.frm.block wb (by show wb<_; omega) (aa aq))]
  exact((aa c).b.cell (p:=⟨wb,2,none⟩) av).trans (aa al)
 have Z:=fZ l.own ((aa H).on m) (fun s aE g aC q=>by
  have a9:=aa E g q;have ba:=bA.lt (aa Y) (k:=g) (Or.inr (Or.inr (Or.inr (Or.inr (Or.inr (Or.inr ⟨s,Or.inr (Or.inr (Or.inl aE)),aC⟩))))));omega) au
 have D:=ae l;clear ac m l C H
 go_wp2_with fail
 refine Z.mono ?_;intro e a2 ag
 obtain⟨rfl,t,J⟩:=ip.keepR (aa D) (aa ax) (by have:=(aa ay); omega) (fun k q=>⟨aa E k q,aa ap k q⟩) ag ⟨by omega,by omega,by omega,by omega,by omega⟩
 have an:=ae (J.pre (aa c).b);clear J ag aB Z D
 go_wp2
 go_ret;exact⟨rfl,_,t,aa an⟩
end
def WrQ (w:World)(fb:Nat)(Ψ:Nat->Prop)(F:FM)(n:Nat)(es:Nat->Nat->Int)(e:Ending)(w':World):Prop:=
 (∃r:Int,r≠0/\e=.returned (.tuple #[(),r])/\Below w.heap.size w w'/\((n=0/\r=8)\/(0<n/\100<=F.ver/\r=11)\/(0<n/\F.ver<100/\∃k LSk LS',k<n/\mE ((F.ver:Int)+1) es F.LS k LSk/\iq ((F.ver:Int)+1) (es k) LSk r LS'))) \/
 (0<n/\F.ver<100/\e=.returned (.tuple #[.int .i64 ((F.ver:Int)+1),()])/\aE Ψ w w'/\∃LS',mE ((F.ver:Int)+1) es F.LS n LS'/\∀FL',FVer LS' (F.ver+1) (fun v=>if v=F.ver+1 then FL' else F.FLs v)->eR w' fb (NewS Ψ w.heap.size) (F.write Oz LS' FL'))
theorem Write_pin (fb : Nat) (y : Nat → Prop) (d : FM) (bv : Value) (n : Nat) (es : Nat → Nat → Int) (w : World) (h : eR w fb y d) (f : Ok Oz d) (Q : mD 25 w bv n es) (aK : n ≤ 8) :
    Calls prog 44 #[.pointer (some ⟨fb, 0, none⟩), bv] w fun e w' => WrQ w fb y d n es e w' := by
  obtain ⟨X, sl, pv, U, h, S⟩ := h
  have an := h.blk
  have aM := f.v100
  have aS := h.ver.len
  have j := h.mem.sto
  have C := Apply_any X.sb 0 d.ver sl pv d.LS bv n es w j.blk j.own (by omega) Q aK (by omega)
  have aU := (aq.cells an).2.2.2.2.2.2.1
  have az : ∃ J ao c, bv = .slice J ao c := by obtain ⟨J, c, e, _⟩ := Q; exact ⟨J, n, c, e⟩
  obtain ⟨J, ao, c, rfl⟩ := az
  have aj := ae h
  have al := ae f
  have aC := ae j
  clear h an f j Q
  go_enter func44, ntmps44
  go_wp2_with fail
  refine C.mono ?_
  rintro e w1 (⟨H, rfl, p⟩ | ⟨H, O, rfl, p⟩ | ⟨H, O, k, m, F, ⟨rfl, rfl, E, B, Z, M⟩ | ⟨av, ap, ar, am, aL, rfl, p⟩⟩)
  · have D : Hid (WrQ w fb y d n es (.returned (.tuple #[(), (8 : Int)])) w1) := Or.inl ⟨8, by decide, rfl, p, Or.inl ⟨H, rfl⟩⟩
    clear p C
    go_wp2
    go_ret2
    exact aa D
  · have D : Hid (WrQ w fb y d n es (.returned (.tuple #[(), (11 : Int)])) w1) := Or.inl ⟨11, by decide, rfl, p, Or.inr (Or.inl ⟨by omega, by omega, rfl⟩)⟩
    clear p C
    go_wp2
    go_ret2
    exact aa D
  · have h := aa aj
    have f := aa al
    have j := aa aC
    have aT := j.lt
    have o : aE (fun q => q = X.sb) w w1 := (aE.rfl' _ _).grown E (fun q r _ => (zu r).symm)
    have A : dD w1 X.sb 0 ((d.ver : Int) + 1) B pv m (ri d.PI) := ⟨Z, M.mono (by omega), j.pins.same fun g x => o.block g (j.slt.2 g x) (fun q => by
      obtain ⟨c, aJ⟩ := j.pins.ty x
      exact aI aJ j.blk (by decide) q)⟩
    have z : aq w1 fb X := aQ h.blk o (aI h.blk j.blk (by decide))
    have ac := h.mem.til.frm o (fun g x => au h.mem.til j.blk (by decide) g x)
    have aR : m.length ≤ d.LS.length + k := mE.len F
    have aO : aA d.tiles ≤ 2000 := by have := f.byt; have := f.rm; omega
    have ax : d.tiles.length ≤ 10000000 := by
      have aG : ∀ t ∈ d.tiles, 7 ≤ t.body.size := fun t P => by
        obtain ⟨a, b⟩ := f.til t P
        rw [b]; exact (f.hi.bod d.ver aD t.k a).1
      have := f5 d.tiles aG
      omega
    have ag := kS fb X ((d.ver : Int) + 1) ((d.ver : Int) + 1) B pv m (ri d.PI) d.tiles w1 z A (by omega) (by omega) (by omega) ac (fun t P => (f.til t P).1) ax
    have ai := ae (And.intro o (And.intro A z))
    have ak := ae F
    have Y := ae (show ∀ g, B.ownBlock = some g → w.heap.size ≤ g from fun g x => (M.lt g x).1)
    clear h f j o A z ac F E Z M C
    go_wp2_with fail
    refine ag.mono ?_
    rintro e K ⟨rfl, ⟨N, ab, ad, af⟩, L⟩
    have aB : Hid (WrQ w fb y d k es (.returned (.tuple #[.int .i64 ((d.ver : Int) + 1), ()])) K) := by
      obtain ⟨o, A, z⟩ := aa ai
      have h := aa aj
      have f := aa al
      have aN := o.size
      have aV : 4 ≤ w.heap.size := h.glb.1
      have G : aE (fun q => q = fb ∨ q = X.sb) w K := (o.mono (S' := fun q => q = fb ∨ q = X.sb) fun q _ e => Or.inr e).then L (fun q _ e => Or.inl e)
      have ay := A.fb z L
      refine Or.inr ⟨H, by omega, rfl, G.mono fun q _ e => (by rcases e with rfl | rfl; exact S _ aw.iF; exact S _ aw.iS), m, aa ak, fun W aH => ?_⟩
      have I : ∀ {α : Type} {R : dR α} {T : TypeId} {v : Value} {l : List α}, ah R T w v l → T ≠ 129 → T ≠ 119 → ah R T K v l := fun f O aF => f.frm G (fun g E q => by
        rcases q with q | q
        · exact au f h.blk O g E q
        · exact au f h.mem.sto.blk aF g E q)
      have V : ∀ q, aw fb { X with tv := N } B pv U q → aw fb X sl pv U q ∨ w.heap.size ≤ q := fun q r => r.elim (Or.inl aw.iF) (Or.inl aw.iS) (fun q e => Or.inr (aa Y q e)) (fun q e => Or.inl (aw.iP e)) (fun q e => Or.inl (aw.iW e)) (fun q e => Or.inl (aw.iN e)) (fun q e => Or.inl (aw.iK e)) (fun q e => Or.inr (by have := af q e; omega)) (fun i u s => ⟨Or.inl (aw.iG s), fun q e => Or.inl (aw.iR s e)⟩)
      refine ⟨{ X with tv := N }, B, pv, U, ⟨ab, ⟨h.num.q, h.num.wt, h.num.ch, h.num.nw, h.num.ar, h.num.st, h.num.rm⟩, ⟨h.pu.wks, fun i u s => ?_, h.pu.dis⟩, aH, ⟨?_, I h.mem.wai (by decide) (by decide), I h.mem.lin (by decide) (by decide), ?_, I h.mem.wkv (by decide) (by decide), fun i u s => ?_⟩, ?_, fun q r => (V q r).elim (h.lo q) (fun e => by omega)⟩, fun q r => (V q r).imp (S q) id⟩
      · have aP := (f.flt u.f (wk_fls h.pu.wks s)).1
        have e : (d.write Oz m W).FLs u.f.reads = d.FLs u.f.reads := by
          show (if u.f.reads = d.ver + 1 then W else d.FLs u.f.reads) = _
          rw [zK (by omega)]
        rw [e]
        exact h.pu.rd i u s
      · exact ay
      · show ah aW 196 K N (d.tiles.filter fun t => decide (eA ((d.ver + 1 : Nat) : Int) t.k m ≤ (d.ver : Int)))
        have e : (d.tiles.filter fun t => decide (eA ((d.ver + 1 : Nat) : Int) t.k m ≤ (d.ver : Int))) = d.tiles.filter fun t => decide (eA ((d.ver : Int) + 1) t.k m ≤ (d.ver : Int) + 1 - 1) := by
          congr 1; funext t; congr 1; rw [show (d.ver : Int) + 1 - 1 = d.ver by omega]; rfl
        rw [e]
        exact ad
      · obtain ⟨a, b⟩ := h.mem.wat i u s
        refine ⟨aQ a G (fun q => ?_), I b (by decide) (by decide)⟩
        rcases q with q | q
        · exact aI a h.blk (by decide) q
        · exact aI a h.mem.sto.blk (by decide) q
      · exact h.glb.frm G fun q e => by
          rcases e with rfl | rfl
          · exact h.lo _ aw.iF
          · exact h.lo _ aw.iS
    clear ab ad af L ai ak Y ag
    go_wp2
    go_ret2
    exact aa aB
  · have D : Hid (WrQ w fb y d n es (.returned (.tuple #[(), ap])) w1) := Or.inl ⟨ap, aL, rfl, p, Or.inr (Or.inr ⟨by omega, by omega, k, m, ar, av, F, am⟩)⟩
    clear p C am F
    go_wp2
    go_ret2
    exact aa D
theorem Write_big {w:World}{fb:Nat}{X:FV}{v:Value}{n:Nat}{es:Nat->Nat->Int}(d:aq w fb X)(b:mD 25 w v n es)(i:8<n):
  Calls prog 44 #[some fb,v] w fun e w'=>e=.returned (.tuple #[(),(8:Int)])/\w=w':=by
 have h:=Apply_big b i X.sb;have j:=(aq.cells d).2.2.2.2.2.2.1
 have g:∃a f c,v=.slice a f c:=by obtain⟨a,c,e,_⟩:=b; exact⟨a,n,c,e⟩
 obtain⟨a,f,c,rfl⟩:=g;clear d b;go_enter func44,ntmps44
 go_wp2_with fail
 refine h.mono ?_;rintro e w1 ⟨rfl,rfl⟩
 go_wp2
 go_ret2
 exact⟨rfl,rfl⟩
def RefR (bs:List bK)(b:bK)(r:Int):Prop:=
 ((b.length<1\/8<b.length)/\r=8)\/(1<=b.length/\b.length<=8/\100<=bs.length/\r=11) \/
 (1<=b.length/\b.length<=8/\bs.length<100/\∃k,k<b.length/\(∀j,j<k->fF (jX (dk bs bs.length) (gf b) j) (gf b j)=0)/\fF (jX (dk bs bs.length) (gf b) k) (gf b k)=r/\r≠0)
def AccR (bs:List bK)(b:bK):Prop:=1<=b.length/\b.length<=8/\bs.length<100/\∀j,j<b.length->fF (jX (dk bs bs.length) (gf b) j) (gf b j)=0
theorem RefR.not {bs:List bK}{b:bK}{g:Int}(h:RefR bs b g)(c:AccR bs b):False:=by
 obtain⟨i,j,l,a⟩:=c
 rcases h with⟨h,_⟩|⟨_,_,h,_⟩|⟨_,_,_,k,f,_,d,e⟩
 ·omega
 ·omega
 exact e (by rw[<-d]; exact a k f)
theorem RefR.one {bs:List bK}{b:bK}{m l:Int}(h:RefR bs b m)(d:RefR bs b l):m=l:=by
 rcases h with⟨h,e⟩|⟨a,c,h,e⟩|⟨a,c,x,k,w,t,i,u⟩
 ·rcases d with⟨_,f⟩|⟨p,r,_⟩|⟨p,r,_⟩
  ·rw[e,f]
  ·omega
  omega
 ·rcases d with⟨d,_⟩|⟨_,_,_,f⟩|⟨_,_,s,_⟩
  ·omega
  ·rw[e,f]
  omega
 rcases d with⟨d,_⟩|⟨_,_,s,_⟩|⟨_,_,_,j,v,n,g,o⟩
 ·omega
 ·omega
 rcases Nat.lt_trichotomy k j with q|q|q
 ·exact absurd (i.symm.trans (n k q)) u
 ·rw[<-i,<-g,q]
 exact absurd (g.symm.trans (t j q)) o
theorem edN_rt {fs:List Ft}{e:Ft}(h:∀f∈fs,Rt f)(b:fF fs e=0):∀f∈edN fs e,Rt f:=by
 intro f a;unfold edN at a;rw[zJ b] at a;have hw:∀g∈wo fs (e 1),Rt g:=fun g i=>h g (yA.1 i).1
 split at a
 ·rename_i c
  rcases zh.1 a with q|q
  ·exact hw f q
  simp only[z7] at q;subst q;unfold fF at b;rw[zJ c] at b
  by_cases d:right (eF e)=true
  ·exact ci d
  rw[zK d] at b; cases b
 exact hw f a
theorem edT_rt {fs:List Ft}{es:Nat->Ft}(h:∀f∈fs,Rt f):∀k,(∀j,j<k->fF (jX fs es j) (es j)=0)->∀f∈jX fs es k,Rt f
 | 0,_=>h
 | k+1,a=>edN_rt (edT_rt h k fun j b=>a j (by omega)) (a k (by omega))
theorem ke.more {bs:List bK}{b:bK}(h:ke bs)(d:AccR bs b):ke (bs++[b]):=by
 obtain⟨m,a,n,c⟩:=d
 have p:(bs++[b]).length=bs.length+1:=by simp
 refine⟨by omega,fun k o=>?_,fun v r=>?_⟩
 ·rcases yP k bs.length with q|q
  ·rw[lr q]; exact h.b8 k q
  have:k=bs.length:=by omega
  subst this
  rw[lu]; exact a
 rcases yP bs.length v with q|q
 ·have:v=bs.length+1:=by omega
  subst this;rw[pI];intro i hi;refine edT_rt (fun f g=>?_) _ c _ (gp hi);obtain⟨j,l,e⟩:=jS g;rw[<-e];exact h.rt _ aD j l
 rw[gx q]; exact h.rt v q
def wrP (bs:List bK)(b:bK)(e:En):Bool:=decide (fB (bs++[b]) (bs.length+1) e.k<=bs.length)
def RWrP (w:World)(fb:Nat)(X:RV)(keep:Int)(bv pv:Value)(SL:List cA)(bs:List bK)(PI:List Int)(rq:List Rq)(jb:List Jb)(en:List En)(b:bK)(e:Ending)(w':World):Prop:=
 (∃r:Int,RefR bs b r/\e=.returned (.tuple #[(),r])/\Below w.heap.size w w') \/
 (AccR bs b/\e=.returned (.tuple #[.int .i64 ((bs.length+1:Nat):Int),()])/\aE (fun k=>k=fb\/k=X.sb\/bv.ownBlock=some k) w w' /\
  ∃ev' bv' s,aF w' fb { X with ev:=ev' }/\cE w' { X with ev:=ev' } rq jb (en.filter (wrP bs b))/\eV w' X.sb keep bv' pv (SL++[s]) (bs++[b]) PI/\(∀g,ev'.ownBlock=some g->w.heap.size<=g)/\(bv'.ownBlock=bv.ownBlock\/∀g,bv'.ownBlock=some g->w.heap.size<=g)/\∀g,s.v.ownBlock=some g->w.heap.size<=g)
theorem filtSnoc {α:Type}{p:α->Bool}{l:List α}{k:Nat}{a:α}(h:l[k]?=some a):(l.take (k+1)).filter p=(l.take k).filter p++(if p a then [a] else []):=by
 rw[be h,yI]
 congr 1
 by_cases e:p a=true
 ·rw[zJ e,y1 e,List.filter_nil]
 rw[zK e,yC e,List.filter_nil]
section
variable {w:World}{fb:Nat}{X:RV}{keep:Int}{bv pv:Value}{SL:List cA}{bs:List bK}{PI:List Int}
theorem lM (v:Value)(b:bK)(rq:List Rq)(jb:List Jb)(en:List En)(Y:aF w fb X)(hm:cE w X rq jb en)(am:eV w X.sb keep bv pv SL bs PI)(W:ke bs)(ar:bL rE w v b)(bt:en.length<=50000):
  Calls prog 45 #[some fb,v] w fun e w'=>RWrP w fb X keep bv pv SL bs PI rq jb en b e w':=by
 have I:=rApply_any v b am ar W.n W.b8;have T:w.cell? ⟨fb,5,none⟩=some (.pointer (some ⟨X.sb,0,none⟩)):=aF.c Y 5 rfl
 have be:∃av bn c,v=.slice av bn c:=by obtain⟨av,c,e,_⟩:=ar; exact⟨av,_,c,e⟩
 obtain⟨bD,bF,bE,rfl⟩:=be;have bg:=ae Y;have ak:=ae hm;have aQ:=ae am;have bf:=ae W;have bp:fb<w.heap.size:=an Y;clear Y hm am W ar;go_enter func45,ntmps45
 go_wp2_with fail
 refine I.mono ?_;rintro e w1 (⟨l,rfl,r⟩|⟨l,A,B,rfl,r⟩|⟨l,A,B,k,aw,ap,K,aV,aN,rfl,r⟩|⟨l,A,B,K,rfl,y,bb,s,aG,aL,aO⟩)
 ·have z:Hid (RWrP w fb X keep bv pv SL bs PI rq jb en b (.returned (.tuple #[(),(8:Int)])) w1):=Or.inl ⟨8,Or.inl ⟨l,rfl⟩,rfl,r⟩
  clear r I T l
  go_wp2
  go_ret2
  exact aa z
 ·have z:Hid (RWrP w fb X keep bv pv SL bs PI rq jb en b (.returned (.tuple #[(),(11:Int)])) w1):=Or.inl ⟨11,Or.inr (Or.inl ⟨l,A,B,rfl⟩),rfl,r⟩
  clear r I T l A B
  go_wp2
  go_ret2
  exact aa z
 ·have z:Hid (RWrP w fb X keep bv pv SL bs PI rq jb en b (.returned (.tuple #[(),aw])) w1):=Or.inl ⟨aw,Or.inr (Or.inr ⟨l,A,B,k,ap,K,aV,aN⟩),rfl,r⟩
  have bz:(aw==0)=false:=by simpa using aN
  clear r I T l A B K aV ap
  go_wp2
  go_ret2
  exact aa z
 have Z:AccR bs b:=⟨l,A,B,K⟩;have aD:=(aa bf).more Z
 have G:fQ (fun k=>k=X.sb\/bv.ownBlock=some k) w [121,40]:=fun q L=>by
  rcases L with rfl|L
  ·exact⟨_,_,(aa aQ).blk,by simp⟩
  obtain⟨c,e⟩:=(aa aQ).bat.ty L
  exact⟨_,_,e,by simp⟩
 have ay:=bJ (aa bg) y G (by decide)
 have u:cE w1 X rq jb en:=⟨(aa ak).rq.frmT y G (by decide),(aa ak).jb.frmT y G (by decide),(aa ak).en.frmT y G (by decide)⟩
 have a4:(bs++[b]).length=bs.length+1:=by simp
 have a0:=ae Z;have O:=ae ay;have az:=ae u;have aA:=ae aG;have a6:=ae aD;have a1:=ae y;have a3:=ae (And.intro aL aO);obtain⟨bh,aS,aK,aJ⟩:=u.en.val;have ad:=ae aK;have a8:=ae aJ;have bq:=y.size;obtain⟨V,ao⟩:∃V,bs.length=V:=⟨_,rfl⟩
 have br:wrap64 (V:Int)=(V:Int):=z6 _ ⟨by omega,by omega⟩
 rw[ao];have aR:=ae ao;clear Z aD G ay u aG y aL aO aK aJ K I T ao
 go_wp2
 go_loopw [8,9,10] (fun lv i _ wr=>∃k:Nat,k<=en.length/\i=.int .i64 k/\Hid (ah iM 162 wr lv ((en.take k).filter (wrP bs b)))/\Hid (∀g,lv.ownBlock=some g->w1.heap.size<=g)/\Hid (Below w1.heap.size w1 wr)) (fun _ i _ _=>en.length-(intOf i).toNat)
 ·exact⟨0,by omega,rfl,ae (by simpa using aU),ae (fun g j=>by simp[Value.ownBlock] at j),ae bu⟩
 obtain⟨k,ap,rfl,aT,H,C⟩:=hrel;have x:=ag (aa O) (aa C)
 have aC:wr.cell? ⟨fb,11,none⟩=some (.slice bh en.length aS):=by rw[<-aa ad]; exact aF.c x 11 rfl
 have bA:=(aa C).size
 by_cases bc:k<en.length
 ·have aM:(k:Int)<en.length:=by omega
  obtain⟨U,off,rfl⟩:=aa a8 (by omega)
  obtain⟨⟨⟨a,h,d,f⟩,m,n,o⟩,aq⟩:∃t,en[k]?=some t:=⟨_,zQ bc⟩;have R:=((aa az).on (aa C)).en;rw[aa ad] at R;have ab:wr.rangeAt U (off+k*7) (#[a,h,d,f]:Array Value).toList:=dV (R.row aq) rfl;have S:=fH (V:Int) a h d f x ((aa aA).on (aa C)) (aa a6);obtain⟨E,al⟩:∃E,fB (bs++[b]) (bs++[b]).length ⟨a,h,d,f⟩=E:=⟨_,rfl⟩;have ai:=filtSnoc (p:=wrP bs b) aq
  have aP:wrP bs b ⟨⟨a,h,d,f⟩,m,n,o⟩=decide ((E:Int)<=(V:Int)):=by
   unfold wrP;dsimp only;rw[<-al,a4,<-aa aR]
   by_cases q:fB (bs++[b]) (bs.length+1) ⟨a,h,d,f⟩<=bs.length
   ·rw[zU q,zU (by omega)]
   rw[zG q,zG (by omega)]
  rw[al] at S;rw[aP] at ai;have aB:=ae ai;have ba:=ae R;have a2:=ae x;clear R al ai aP x
  go_wp2_with (refine vM ab rfl _ rfl rfl ?_)
  refine S.mono ?_;rintro e M ⟨rfl,D⟩;have ac:=ae ((aa C).trans (D.mono (aa C).size));have Q:=(aa aT).on D
  have bo:M.cell? ⟨fb,11,none⟩=some (.slice (some ⟨U,off,none⟩) en.length aS):=by rw[<-aa ad]; exact aF.c (ag (aa a2) D) 11 rfl
  have ax:M.rangeAt U (off+k*7) (#[a,h,d,f,m,n,o]:Array Value).toList:=((aa ba).on D).row aq
  by_cases P:(E:Int)<=(V:Int)
  ·have J:decide ((E:Int)<=(V:Int))=true:=zU P
   have aH:=aZ iM 162 M ⟨⟨a,h,d,f⟩,m,n,o⟩ #[a,h,d,f,m,n,o] rfl;have aI:=aj M (.cells #[a,h,d,f,m,n,o] 162)
   have bx:((en.take k).filter (wrP bs b)).length<=k:=zF (ze _ _) (by rw[zD]; omega)
   obtain⟨bl,bm,bk,aW,aX,aY⟩:=apEn (Q.on aI) aH (by simp only[zT]; omega)
   have af:Hid (ah iM 162 bm bl ((en.take (k+1)).filter (wrP bs b))):=by show ah _ _ _ _ _; rw[aa aB,J]; exact aW
   have a5:=(aa ac).size
   have a7:=ae (((aa ac).alloc a5 (.cells #[a,h,d,f,m,n,o] 162)).grown aX (by simp; omega) (fun g j=>aa H g j))
   have a9:=ae (bN (aa H) aY (by simp; omega))
   clear aH aI aW aX aY Q D S ab aC P;simp only[J]
   go_wp2_with (first|refine bU 162 #[a,h,d,f,m,n,o] underlying162 rfl (sz162 ⟨⟨a,h,d,f⟩,m,n,o⟩) U (off+k*7) ax rfl _ rfl rfl ?_|refine cP _ _ (bsEn ⟨⟨a,h,d,f⟩,m,n,o⟩ _ _ _ rfl rfl _) rfl ?_|(at_builtin; refine fS 133 bk rfl _ _ rfl rfl rfl rfl ?_))
   go_roundw
   ·exact⟨k+1,by omega,by go_num,af,a9,a7⟩
   simp[intOf]; omega
  have J:decide ((E:Int)<=(V:Int))=false:=zG P
  have af:Hid (ah iM 162 M u8 ((en.take (k+1)).filter (wrP bs b))):=by show ah _ _ _ _ _; rw[aa aB,J]; simpa using Q
  clear Q D S ab aC P ax;simp only[J]
  go_wp2
  go_roundw
  ·exact⟨k+1,by omega,by go_num,af,H,ac⟩
  simp[intOf]; omega
 have aM:k=en.length:=by omega
 subst aM;have bw:=kr x 11;have N:=aa aT;rw[zx] at N;have F:aE (fun k=>k=fb) w1 (wr.setCell ⟨fb,11,none⟩ u8):=(aE.of_below (aa C)).setCell u8 (fun _=>rfl)
 have z:Hid (RWrP w fb X keep bv pv SL bs PI rq jb en b (.returned (.tuple #[.int .i64 ((V+1:Nat):Int),()])) (wr.setCell ⟨fb,11,none⟩ u8)):=by
  have u:=aa az;obtain⟨bi,bj⟩:=aa a3
  refine Or.inr ⟨aa a0,by rw[aa aR],?_,u8,bb,s,aF.set x 11 u8 (RV.set_ev X u8),⟨u.rq.frm F (fun g j=>au u.rq (aa O) (by decide) g j),u.jb.frm F (fun g j=>au u.jb (aa O) (by decide) g j),N.same (fun g j=>zW _ _ _ _ (by have:=aa H g j; show g≠fb; omega))⟩,?_,fun g j=>by have:=aa H g j; omega,bi,bj⟩
  ·exact((aa a1).mono fun _ _ q=>Or.inr q).then (F.mono fun _ _ q=>Or.inl q) (fun _ _ q=>q)
  refine(aa aA).frmT F (fun q L=>?_) (Ts:=[135]) (by decide) (by decide) (by decide) (by decide)
  rw[L]
  exact⟨_,_,aa O,by simp⟩
 obtain⟨bB,bC,lc,bd⟩:=N.sl;subst bd;clear N F x
 go_wp2
 go_ret2
 exact aa z
end
section
variable {F:FM}{D:DF}{n:Nat}{b:bK}
def oU (D:DF)(b:bK):List Ft:=(dk (D.bs++[b]) (D.bs.length+1)).map nf
theorem cF.vers (h:cF F D n):∀v:Nat,v<=(D.bs++[b]).length->(fun v=>if v=F.ver+1 then oU D b else F.FLs v) v=(dk (D.bs++[b]) v).map nf:=fun v e=>by
 have d:(D.bs++[b]).length=D.bs.length+1:=by simp
 have a:=h.sim.ver
 by_cases c:v=F.ver+1
 ·show(if v=F.ver+1 then oU D b else F.FLs v)=_
  rw[zJ c,c,a]; rfl
 show(if v=F.ver+1 then oU D b else F.FLs v)=_
 rw[zK c,h.fls v (by omega),gx (by omega)]
theorem cF.write (h:cF F D n)(j:b.length<=8)(o:F.ver<100){a:List Ft}(c:PR a (D.bs++[b])):FVer a (F.ver+1) (fun v=>if v=F.ver+1 then oU D b else F.FLs v)/\cF (F.write Oz a (oU D b)) (D.write b) (n+1):=by
 have m:(D.bs++[b]).length=D.bs.length+1:=by simp
 have f:=h.sim.ver;have d:=h.vers (b:=b);have e:=fver_of c d;rw[m,<-f] at e
 have p:Nxt Oz F.LS F.ver F.FLs a (oU D b):=by
  refine⟨hi_of e.rel,fun v s k _=>?_⟩;show eA v k a=eA v k F.LS
  have g:=c.stm v (by omega) k.l k.z k.x k.y
  have i:=h.pr.stm v (by omega) k.l k.z k.x k.y
  unfold eA
  rw[g,i,lj (by omega)]
 have t:=h.ct;have u:=h.rl;have w:=h.now;have x:=h.st
 refine⟨e,⟨h.ok.write o p,h.sim.write b (vs_of c d),c,?_,fun k l=>?_,h.sml,by show D.ct<=5*(n+1); omega,by show D.rq.length<=n+1; omega,by show D.now<=n+1; omega,by show D.st<=n+1; omega⟩⟩
 ·exact d
 have r:k<(D.bs++[b]).length:=l
 rcases yP k D.bs.length with q|q
 ·show(ff (D.bs++[b]) k).length<=8
  rw[lr q]; exact h.b8 k q
 have:k=D.bs.length:=by omega
 subst this;show(ff (D.bs++[b]) D.bs.length).length<=8
 rw[lu]; exact j
end
section
variable {w w1 w2:World}{n:Nat}{e:EV}{b:bK}
def XWrP (w:World)(e:EV)(b:bK)(r:Ending)(w':World):Prop:=
 (∃c:Int,RefR e.D.bs b c/\r=.returned (.tuple #[(),c])/\Below w.heap.size w w') \/
 (AccR e.D.bs b/\r=.returned (.tuple #[.int .i64 ((e.D.bs.length+1:Nat):Int),()])/\aE e.P w w'/\∃LS',PR LS' (e.D.bs++[b])/\eR w' e.fb (NewS e.P w.heap.size) (e.F.write Oz LS' (oU e.D b)))
theorem ly {v:Value}(h:cO w n e)(p:mD 25 w v b.length (gf b)):Calls prog 44 #[some e.fb,v] w fun i w'=>XWrP w e b i w':=by
 have d:=h.m.sim.ver;have E:=h.m.pr.max
 by_cases l:8<b.length
 ·exact(Write_big h.x.blk p l).mono fun i w' q=>Or.inl ⟨8,Or.inl ⟨Or.inr l,rfl⟩,q.1,q.2▸zV _ _⟩
 refine(Write_pin e.fb e.P e.F v b.length (gf b) w h.fro h.m.ok p (by omega)).mono fun i w' q=>?_
 rcases q with⟨c,A,g,y,q⟩|⟨f,r,g,x,j,a,s⟩
 ·refine Or.inl ⟨c,?_,g,y⟩
  rcases q with⟨f,rfl⟩|⟨f,u,rfl⟩|⟨f,u,k,F,j,B,a,m⟩
  ·exact Or.inl ⟨Or.inl (by omega),rfl⟩
  ·exact Or.inr (Or.inl ⟨by omega,by omega,by omega,rfl⟩)
  rw[d] at a m;obtain⟨C,D⟩:=h.m.pr.no a m
  exact Or.inr (Or.inr ⟨by omega,by omega,by omega,k,B,C,D,A⟩)
 rw[d] at a
 obtain⟨z,o⟩:=h.m.pr.yes (by omega) (by omega) a
 obtain⟨t,_⟩:=h.m.write (by omega) r o
 refine Or.inr ⟨⟨by omega,by omega,by omega,z⟩,?_,x,j,o,s _ t⟩
 rw[g,d]; rfl
theorem xwr_mid (h:cO w n e){g:Ending}(i:XWrP w e b g w1):RD w1 e.rb e.Y e.bv e.SL e.D/\aE e.P w w1/\∃j c:Int,g=.returned (.tuple #[j,c]):=by
 rcases i with⟨c,_,a,f⟩|⟨_,a,d,_⟩
 ·exact⟨h.r.on f,aE.of_below f,_,_,a⟩
 exact⟨h.mid d,d,_,_,a⟩
theorem mo (h:cO w n e)(c:Below w.heap.size w w2):St2 w n e w2 e:=by
 have a:=h.on c;exact⟨⟨a.x,a.r,h.m.still,h.lo⟩,aE.of_below c,fun _ q=>Or.inl q,rfl,rfl⟩
theorem xwr_end (h:cO w n e){J H:Ending}(Q:XWrP w e b J w1)(D:RWrP w1 e.rb e.Y 0 e.bv (.slice none 0 0) e.SL e.D.bs [] e.D.rq e.D.jb e.D.en b H w2):
  ∃(I c:Int) (P:_),J=.returned (.tuple #[I,c])/\H=.returned (.tuple #[I,c])/\St2 w n e w2 P:=by
 rcases Q with⟨c,G,o,F⟩|⟨f,o,m,u,R,C,A,y,B,l,K⟩
 ·rcases D with⟨O,i,j,M⟩|⟨f,_⟩
  ·have:=G.one i
   subst this;exact⟨_,_,e,o,j,mo h (F.trans (M.mono F.size))⟩
  exact(G.not f).elim
 rcases D with⟨O,i,_⟩|⟨_,j,x,ev',v,s,T,U,V,W,X,Y⟩
 ·exact(i.not f).elim
 have g:=h.mid m;have ab:=l.glb.1;have Z:=m.size
 have L:fQ (fun k=>k=e.rb\/k=e.Y.sb\/e.bv.ownBlock=some k) w1 [135,158,165,162,121,40,100]:=fun k p=>by
  rcases p with q|q|q
  ·exact g.ty k (Or.inl (Or.inl q))
  ·exact g.ty k (Or.inr (Or.inl q))
  exact g.ty k (Or.inr (Or.inr (Or.inl q)))
 have E:∀k,(k=e.rb\/k=e.Y.sb\/e.bv.ownBlock=some k)->e.R k:=fun k p=>by
  rcases p with q|q|q
  ·exact Or.inl (Or.inl q)
  ·exact Or.inr (Or.inl q)
  exact Or.inr (Or.inr (Or.inl q))
 have N:gF w2 e.fb C A y B (e.F.write Oz u (oU e.D b)):=l.frm x (fun k q S=>fQ.no l.ty L (by decide) q S) (fun k q=>h.lo k (E k q))
 obtain⟨_,hm⟩:=h.m.write f.2.1 (by have:=h.m.sim.ver; have:=f.2.2.1; omega) R
 have r:∀k,RDF e.rb { e.Y with ev:=ev' } v (e.SL++[s]) k->e.R k\/w1.heap.size<=k:=fun k q=>by
  rcases q with(q|q|q|q)|q|q|⟨t,d,q⟩
  ·exact Or.inl (Or.inl (Or.inl q))
  ·exact Or.inl (Or.inl (Or.inr (Or.inl q)))
  ·exact Or.inl (Or.inl (Or.inr (Or.inr (Or.inl q))))
  ·exact Or.inr (W k q)
  ·exact Or.inl (Or.inr (Or.inl q))
  ·rcases oO X k q with z|z
   ·exact Or.inl (Or.inr (Or.inr (Or.inl z)))
   exact Or.inr z
  rcases zh.1 d with d|d
  ·exact Or.inl (Or.inr (Or.inr (Or.inr ⟨t,d,q⟩)))
  simp only[z7] at d;subst d;exact Or.inr (Y k q)
 have a:=h.r.num;refine⟨_,_,⟨e.fb,C,A,y,B,e.F.write Oz u (oU e.D b),e.rb,{ e.Y with ev:=ev' },v,e.SL++[s],e.D.write b⟩,o,j,⟨N,⟨T,U,V,⟨a.q,a.wk,a.wt,a.ca,a.ch,a.nw,a.ct,a.st⟩⟩,hm,fun k q=>?_⟩,?_,fun k q=>?_,rfl,rfl⟩
 ·rcases r k q with z|z
  ·exact h.lo k z
  omega
 ·exact(m.mono fun _ _ q=>Or.inl q).then x fun k _ q=>Or.inr (E k q)
 rcases q with q|q
 ·rcases K k q with z|z
  ·exact Or.inl (Or.inl z)
  exact Or.inr z
 rcases r k q with z|z
 ·exact Or.inl (Or.inr z)
 exact Or.inr (by omega)
end
theorem bL.frm {α:Type}{R:dR α}{w w':World}{v:Value}{l:List α}{S:Nat->Prop}(h:bL R w v l)(f:aE S w w')(p:0<l.length->∀g,v.ownBlock=some g->¬S g):bL R w' v l:=by
 obtain⟨s,cap,e,m,n,o⟩:=h;refine⟨s,cap,e,m,n,fun k=>?_⟩;obtain⟨b,off,d,c,q⟩:=o k;refine⟨b,off,d,zC c f.size,fun i a hi j x r=>?_⟩
 rw[zP (a:=⟨b,off+i*R.wid+j,none⟩) (f.block b c (p k b (by rw[e,d]; rfl)))]
 exact q i a hi j x r
section
variable {w:World}{e:EV}{n ob wb:Nat}{O:OL}{o:iH}
theorem na (h:cO w n e)(be:io w ob O)(a0:∀k,aX e k->¬OF ob O k)(bc:∀k,OF ob O k->4<=k)(aZ:w.cell? ⟨wb,2,none⟩=some (.pointer (some ⟨ob,0,none⟩)))(a6:¬aX e wb)(a7:¬OF ob O wb)(ar:wb<w.heap.size)(bT:O.RS.length<=10000000)(_hn:n<=2000000)(a2:O.ES.length<=10000000)(b:bK)(aF:bL rE w o.bat b)(aq:b.length<=10000000)(aY:0<b.length->∀g,o.bat.ownBlock=some g->¬aX e g/\¬OF ob O g)(bx:o.kind=14):
  Calls prog 14 #[some wb,.agg #[some e.fb,some e.rb],.agg o.v] w fun i w'=>i=.returned (.bool true)/\∃ab Z,ip w n e ob O w' ab Z:=by
 have B:=ie w e o;have d:=ae B;have ba:=B.bx.c0;have aG:=(B.bx.o 0).trans (show _=some (Value.int .i64 o.kind) from rfl);rw[bx] at aG;have bb:=h.on B.b;have a3:∀k,aX e k->k<w.heap.size:=fun k q=>h.lt q;obtain⟨bM,bR,bP,bO,bH,bI,bJ,bQ⟩:=h.m.lens;have aJ:=h.m.bs;have bU:=h.m.ct;have bV:=h.m.rl;have bW:=h.m.now;have bX:=h.m.st;have bY:=h.m.sim.arr;have bZ:=h.m.sim.now;have b0:=h.m.sim.st;have Y:=ae h.x.glb.1;have b2:=ae h;have aQ:=ae bb;have aw:=ae be;have aO:=ae a0;have au:=ae bc;have ai:=ae aZ;have al:Hid (¬(aX e wb\/OF ob O wb)):=fun q=>q.elim a6 a7;have t:=ae a3;have aM:=ae aJ;have D:=(B.bx.o 11).trans (show _=some (Value.slice o.bo o.bn o.bc) from rfl);obtain⟨w1,a5⟩:∃w1,((w.alloc (.cells #[some e.fb,some e.rb] 59)).alloc (.cells o.v 44))=w1:=⟨_,rfl⟩;have aS:=ae a5;have bt:=ae (handed_any (.slice o.bo o.bn o.bc) b _ (bL.on (show bL rE w (.slice o.bo o.bn o.bc) b from aF) B.b) aq);have aN:=ae aY;have ah:=ae (show bL rE w (.slice o.bo o.bn o.bc) b from aF);clear B bb h be a0 bc aZ a6 a7 a3 aJ aF aY a5;go_enter func14,ntmps14
 go_wp2_with fail
 refine(aa bt).mono ?_;intro i ad ac;rw[aa aS] at d aQ;rw[aa aS] at ac;obtain⟨C,ac⟩:=ac;have X:FBx w ad e o:=(aa d).bx.on (aE.of_below (S:=fun _=>False) C) (fun _ q=>q.elim);have aT:=X.c0;have H:=(aa aQ).on C;have L:Below w.heap.size w ad:=(aa d).b.trans (C.mono (aa d).b.size);have ap:=bA.on (aa aw) L;have af:=ae L;have P:=ae H;have aR:=ae ap;have N:=ae X;have aL:=ae C;have bs:w.heap.size<=w1.heap.size:=(aa d).b.size
 rcases ac with⟨⟨c,K⟩,rfl,rfl⟩|⟨⟨bv,c,K⟩,rfl,aK⟩
 focus
  have aA:=ae K;clear K
  have ax:=ae (ly (b:=[]) (v:=.slice none 0 0) H ⟨none,0,rfl,yF _,fun h=>absurd h (by simp)⟩)
  clear H ap X C L ba aG D
  go_wp2_with fail
  refine(aa ax).mono ?_;intro i aI A;obtain⟨j,x,bG,cc,rfl⟩:=xwr_mid (aa P) A;have r:=(aa N).on x fun k q=>aa t k (Or.inl q);have aC:=r.c1;have D:=(r.o 11).trans (show _=some (Value.slice o.bo o.bn o.bc) from rfl)
  have F:bL rE aI (.slice o.bo o.bn o.bc) []:=((aa ah).on (aa af)).frm x fun I=>absurd I (by simp)
  have ay:=ae (lM (.slice o.bo o.bn o.bc) [] e.D.rq e.D.jb e.D.en j.blk j.mem j.sto (aa aM) F (by omega))
  have aB:=ae A;clear A j x r F aT
  go_wp2_with fail
  refine(aa ay).mono ?_;intro i E J;obtain⟨bB,bw,ab,aD,rfl,f⟩:=xwr_end (aa P) (aa aB) J;cases aD;have G:=(aa N).on f.frm fun k q=>aa t k q;have M:=(G.o 11).trans (show _=some (Value.slice o.bo o.bn o.bc) from rfl);rw[aa aA] at M;have m:=(f.est (aa aR) (aa aO)).pre (aa aL);have a4:=(aa d).b.size
  have y:E.cell? ⟨wb,2,none⟩=some (.pointer (some ⟨ob,0,none⟩)):=by
   rw[zP (a:=⟨wb,2,none⟩) (m.frm.block wb (by show wb<_; omega) (aa al))]
   exact((aa d).b.cell (p:=⟨wb,2,none⟩) ar).trans (aa ai)
  have az:=ae (fun bF=>mL c 0 0 none bF)
  have av:=ae (nK (v:=.slice none 0 0) (l:=[]) m.own aU (fun s _ g _ q=>by simp[Value.ownBlock] at q) a2)
  have aj:=ae m;clear J f m G aC D
  go_wp2_with fail
  refine(aa az _).mono ?_;rintro i bC ⟨rfl,rfl⟩
  go_wp2_with fail
  refine(aa av).mono ?_;intro i bk V
  obtain⟨rfl,Z,an,bg,bh,bi,bj,bz⟩:=ip.keepE (aa aj) (aa au) (by have:=aa Y; omega) (fun k q=>by simp[Value.ownBlock] at q) V ⟨by omega,by omega,by omega,by omega,by omega⟩
 rotate_left
 focus
  have aA:=ae K;clear K;have U:Hnd ad w1.heap.size w1.heap.size b:=⟨aK⟩;have br:w1.heap.size<ad.heap.size:=U.lt;have ax:=ae (ly (b:=b) H (U.at aq));have bo:=ae U;clear H ap X C L ba aG D U aK
  go_wp2_with fail
  refine(aa ax).mono ?_;intro i aI A;obtain⟨j,x,bG,cc,rfl⟩:=xwr_mid (aa P) A;have r:=(aa N).on x fun k q=>aa t k (Or.inl q);have aC:=r.c1;have D:=(r.o 11).trans (show _=some (Value.slice o.bo o.bn o.bc) from rfl);have F:bL rE aI (.slice o.bo o.bn o.bc) b:=((aa ah).on (aa af)).frm x fun I g q aH=>(aa aN I g q).1 (Or.inl aH)
  have ay:=ae (lM (.slice o.bo o.bn o.bc) b e.D.rq e.D.jb e.D.en j.blk j.mem j.sto (aa aM) F (by omega))
  have aB:=ae A;clear A j x r F aT
  go_wp2_with fail
  refine(aa ay).mono ?_;intro i E J;obtain⟨bB,bw,ab,aD,rfl,f⟩:=xwr_end (aa P) (aa aB) J;cases aD;have G:=(aa N).on f.frm fun k q=>aa t k q;have M:=(G.o 11).trans (show _=some (Value.slice o.bo o.bn o.bc) from rfl);have m:=(f.est (aa aR) (aa aO)).pre (aa aL);have a4:=(aa d).b.size
  have bN:∀k,aX e k\/OF ob O k->k<w.heap.size:=fun k q=>by
   rcases q with q|q
   ·exact aa t k q
   exact bA.lt (aa aw) q
  have b1:=f.frm.size
  have y:E.cell? ⟨wb,2,none⟩=some (.pointer (some ⟨ob,0,none⟩)):=by
   rw[zP (a:=⟨wb,2,none⟩) (m.frm.block wb (by show wb<_; omega) (aa al))]
   exact((aa d).b.cell (p:=⟨wb,2,none⟩) ar).trans (aa ai)
  have ao:Hnd E w1.heap.size w1.heap.size b:=(aa bo).same (f.frm.block _ br fun q=>by have:=aa t _ q; omega)
  have ag:bL rE E (.slice o.bo o.bn o.bc) b:=((aa ah).on (aa af)).frm f.frm fun I g q aH=>(aa aN I g q).1 aH;rw[aa aA] at M ag;have az:=ae (mM w1.heap.size w1.heap.size bv c b E ao ag aq);have aj:=ae m;have bp:=ae ao
  have bq:=ae (show ¬aX ab w1.heap.size from fun q=>by
   rcases f.foot _ q with q|q
   ·have:=aa t _ q; omega
   omega)
  have bl:=ae y;clear J f m G aC D ao ag y
  go_wp2_with fail
  refine(aa az).mono ?_;rintro i bC ⟨rfl,W⟩
  have y:=(W.cell (p:=⟨wb,2,none⟩) (by show wb<_; omega)).trans (aa bl)
  have am:=(aa aj).on W
  have a1:∀k,(Value.slice (some ⟨w1.heap.size,0,none⟩) b.length (b.length+2)).ownBlock=some k->k=w1.heap.size:=fun k q=>by cases q; rfl
  have av:=ae (nK (v:=.slice (some ⟨w1.heap.size,0,none⟩) b.length (b.length+2)) am.own ((aa bp).on W).pre (fun s bf=>new_list (aa aw) (fun k q=>by rw[a1 k q]; exact bs) s (Or.inr (Or.inr (Or.inr (Or.inr bf))))) a2)
  have bm:=ae am;clear W am
  go_wp2_with fail
  refine(aa av).mono ?_;intro i bk V
  obtain⟨rfl,Z,an,bg,bh,bi,bj,bz⟩:=ip.keepE (aa bm) (aa au) (by have:=aa Y; omega) (fun k q=>by rw[a1 k q]; exact⟨zz _,aa bq⟩) V ⟨by omega,by omega,by omega,by omega,by omega⟩
 all_goals
  have aP:=ae an
  have bS:Z.RS.length=O.RS.length:=by rw[bi]
  clear an V y M;have a9:=dl (w:=bk) (v:=.slice none 0 0) (u:=.slice none 0 0) (l:=[]) (aU (R:=bE) (T:=103)).at (aU (R:=bE) (T:=103)).at
  go_wp2_with fail
  refine a9.mono ?_;rintro e bD ⟨rfl,aW⟩;have Q:=(aa aP).on aW;have a4:=(aa d).b.size
  have y:bD.cell? ⟨wb,2,none⟩=some (.pointer (some ⟨ob,0,none⟩)):=by
   rw[zP (a:=⟨wb,2,none⟩) (Q.frm.block wb (by show wb<_; omega) (aa al))]
   exact((aa d).b.cell (p:=⟨wb,2,none⟩) ar).trans (aa ai)
  have a8:=fZ (v:=.slice none 0 0) (l:=[]) Q.own aU (fun s bf g b3 q=>by cases q) (by omega)
  have ak:=ae Q;clear a9 aW Q aP
  go_wp2_with fail
  refine a8.mono ?_;intro e b4 bd
  obtain⟨rfl,bu,aV⟩:=ip.keepR (aa ak) (fun k q=>by
   rcases(aa ak).ost.foot k q with z|z
   ·exact aa au k z
   have:=aa Y; omega) (by have:=aa Y; omega) (fun k q=>by cases q) bd ⟨by rw[bg]; omega,by rw[bh]; omega,by omega,by rw[bj]; omega,by omega⟩
  have bn:=ae (aV.pre (aa d).b);clear aV bd y a8 ak
  go_wp2
  go_ret;exact⟨rfl,_,bu,aa bn⟩
end
theorem al55 (ev:Operand->Value)(o:Oper)(b:o.op=.alloc 113)(w w1:World)(a:w.alloc (.cells #[(),(),(),(),(),(),(),(),()] 113)=w1):(execOp ev o).run prog w=.ok (.value (.pointer (some ⟨w.heap.size,0,none⟩))) w1:=by
 rw[<-a];unfold execOp;simp only[b]
 kernel_rfl
theorem built55 (n a s:Int):prog.built 113 [(1,.int .i64 n),(2,.int .i64 a),(8,.int .i64 s)]=some #[.int .i64 0,.int .i64 n,.int .i64 a,.int .i64 0,.int .i64 0,.int .i64 0,.int .i64 0,.int .i64 0,.int .i64 s]:=by kernel_rfl
theorem bt55 {n a s:Int}(ev:Operand->Value)(o:Oper)(p q b:Operand)(g:o.op=.build 113 #[(1,p),(2,q),(8,b)])(c:ev p=.int .i64 n)(d:ev q=.int .i64 a)(e:ev b=.int .i64 s)(w:World):(execOp ev o).run prog w=.ok (.value (.agg #[.int .i64 0,.int .i64 n,.int .i64 a,.int .i64 0,.int .i64 0,.int .i64 0,.int .i64 0,.int .i64 0,.int .i64 s])) w:=by
 have f:=run_build (P:=prog) w 113 #[(1,.int .i64 n),(2,.int .i64 a),(8,.int .i64 s)] _ (built55 n a s);unfold execOp;simp[g,c,d,e,f]
theorem sz55 (a b c d e f g h i:Int):(prog.info? 113).map (·.size)=some (#[a,b,c,d,e,f,g,h,i]:Array Value).size:=by kernel_rfl
theorem lk_one (a b c d e f g h i:Int):(#[a,b,c,d,e,f,g,h,i]:Array Value).all (·.oneCell')=true:=by simp[Value.oneCell']
theorem eP {w:World}{g:Nat}{cs:Array Value}{T:TypeId}(h:w.heap[g]?=some (.cells cs T (0,0)))(i:Nat)(v:Value){a:Array Value}(e:cs.setIfInBounds i v=a):(w.setCell ⟨g,i,none⟩ v).heap[g]?=some (.cells a T (0,0)):=by
 rw[<-e];simp[World.setCell,zk,h]
theorem me (w:World)(g:Nat)(cs:Array Value){k:Nat}(h:k≠g):(w.setRow g cs).heap[k]?=w.heap[k]?:=by
 have:=(aK (B:=0) (zV 0 w) (yF g) cs);unfold World.setRow;simp[zk,Ne.symm h]
def cT (W:List (Option Wk)):Nat:=W.countP (·.isSome)
theorem busyW_take {W:List (Option Wk)}{k:Nat}{o:Option Wk}(h:W[k]?=some o):cT (W.take (k+1))=cT (W.take k)+(if o.isSome then 1 else 0):=by
 unfold cT;rw[be h,List.countP_append]
 cases o<;>simp
theorem busyW_le (W:List (Option Wk)):cT W<=W.length:=List.countP_le_length
theorem look_any (fb:Nat)(X:FV)(ver:Int)(sl pv:Value)(LS bz:List Ft)(ws:List dJ)(d:List K4)(c:List (Option Wk))(ts:List aL)(w:World)(ai:aq w fb X)(bN:dD w X.sb 0 ver sl pv LS bz)(hw:bL cW w X.wv ws)(cp:bL bT w X.lv d)(bK:f8 w X.kv c)(bv:bL aW w X.tv ts)(b8:aA ts<=1000000000)(bX:ts.length<=100000000)(ct:c.length<=100):
  Calls prog 61 #[some fb] w fun e w'=>e=.returned (.agg #[ver,X.nw,X.ar,(ws.length:Int),(d.length:Int),(cT c:Int),(ts.length:Int),(aA ts:Int),X.st])/\Below w.heap.size w w':=by
 have cq:=an ai;obtain⟨w1,ad⟩:∃w1,w.alloc (.cells #[(),(),(),(),(),(),(),(),()] 113)=w1:=⟨_,rfl⟩;have aw:Below w.heap.size w w1:=ad▸(zV w.heap.size w).alloc aD (.cells #[(),(),(),(),(),(),(),(),()] 113);have bg:w1.heap[w.heap.size]?=some (.cells #[(),(),(),(),(),(),(),(),()] 113):=ad▸zZ w (.cells #[(),(),(),(),(),(),(),(),()] 113);have bq:aq w1 fb X:=ag ai aw;have B:=ae ai;have b5:=ae bN;have b6:=ae bv;have ba:=ae aw;have a8:=ae bg;have bc:=ae bq;have aI:=ae (show ∀(ev:Operand->Value) (o:Oper),o.op=.alloc 113->(execOp ev o).run prog w=.ok (.value (.pointer (some ⟨w.heap.size,0,none⟩))) w1 from fun ev o q=>al55 ev o q w w1 ad);obtain⟨cf,bS,bH,_,_,_⟩:=hw;obtain⟨cd,bQ,bE,_,_,_⟩:=cp;obtain⟨⟨cc,bP,aF,_,_,ay⟩,_⟩:=bK;obtain⟨ce,bR,bF,_,_,_⟩:=bv;rw[zY] at aF ay;have b4:=ae bH;have b2:=ae bE;have b1:=ae aF;have b3:=ae bF;have b0:=ae ay;clear ai bN ad aw bg bq bH bE aF bF ay;go_enter func61,ntmps61
 go_wp2_with (refine cP _ _ (aa aI _ _ rfl) rfl ?_)
 clear aI
 refine z8 (S:=fun w'=>aq w' fb X) (by kernel_rfl) ?_
 change wpAnyH _ _ _ _ _ _ _ _ (World.drew _);have ab:=(aa ba).drew;have f:aq (World.drew w1) fb X:=aa bc;have J:(World.drew w1).heap[w.heap.size]?=some (.cells #[(),(),(),(),(),(),(),(),()] 113):=aa a8;generalize World.drew w1=z at ab f J ⊢;obtain⟨m,H⟩:∃m,z.alloc (.cells #[(),(),(),(),(),(),(),(),()] 113)=m:=⟨_,rfl⟩;have a7:=ab.size;have bm:Below w.heap.size w m:=H▸ab.alloc a7 (.cells #[(),(),(),(),(),(),(),(),()] 113);have Z:m.heap[z.heap.size]?=some (.cells #[(),(),(),(),(),(),(),(),()] 113):=H▸zZ z (.cells #[(),(),(),(),(),(),(),(),()] 113)
 have br:aq m fb X:=H▸(zr z (.cells #[(),(),(),(),(),(),(),(),()] 113) (show fb<_ by have:=an f; omega)).trans f
 have bh:m.heap[w.heap.size]?=some (.cells #[(),(),(),(),(),(),(),(),()] 113):=H▸(zr z (.cells #[(),(),(),(),(),(),(),(),()] 113) (show w.heap.size<_ by have:=an J; omega)).trans J
 have aB:w.heap.size<z.heap.size:=an J;have be:=ae H;obtain⟨a,aG⟩:∃a,z.heap.size=a:=⟨_,rfl⟩;have a9:=ae (show ∀(ev:Operand->Value) (o:Oper),o.op=.alloc 113->(execOp ev o).run prog z=.ok (.value (.pointer (some ⟨a,0,none⟩))) m from fun ev o q=>aG▸al55 ev o q z m (aa be));rw[aG] at Z aB;obtain⟨g,L⟩:∃g,m.setRow a #[(),X.nw,X.ar,(),(),(),(),(),X.st]=g:=⟨_,rfl⟩;have F:g.heap[a]?=some (.cells #[(),X.nw,X.ar,(),(),(),(),(),X.st] 113):=L▸yX _ _ _ #[(),X.nw,X.ar,(),(),(),(),(),X.st] _ _ Z
 have G:Below w.heap.size w g:=L▸aK bm (by omega) #[(),X.nw,X.ar,(),(),(),(),(),X.st]
 have az:aq g fb X:=ag (aa B) G
 have I:g.heap[w.heap.size]?=some (.cells #[(),(),(),(),(),(),(),(),()] 113):=by rw[<-L]; exact(me m a _ (by omega)).trans bh
 have bd:=ae (show ∀(ev:Operand->Value) (o:Oper) (s t:Operand),o.op=.store 113 s t->ev s=.pointer (some ⟨a,0,none⟩)->ev t=.agg #[(),X.nw,X.ar,(),(),(),(),(),X.st]->(execOp ev o).run prog m=.ok .skip g from fun ev o s t q h j=>L▸stR ev o s t 113 q #[(),X.nw,X.ar,(),(),(),(),(),X.st] #[(),(),(),(),(),(),(),(),()] (sz55 _ _ _ _ _ _ _ _ _) (lk_one _ _ _ _ _ _ _ _ _) rfl a h j m Z);have bx:=ae (show Below w.heap.size w g/\g.heap[a]?=some (.cells #[(),X.nw,X.ar,(),(),(),(),(),X.st] 113)/\g.heap[w.heap.size]?=some (.cells #[(),(),(),(),(),(),(),(),()] 113)/\w.heap.size<a from⟨G,F,I,aB⟩);clear bm Z bh G F I L H J ab a7 bc a8 ba;refine am 0 rfl fb 0 f ?_;refine am 1 rfl fb 0 f ?_;refine am 2 rfl fb 3 f ?_
 refine aH 3 rfl (.int .i64 X.nw) f ?_ (hy:=fun w' K=>by simp[go_sem,(aq.cells K).2.2.2.1])
 refine am 4 rfl fb 0 f ?_;refine am 5 rfl fb 0 f ?_;refine am 6 rfl fb 4 f ?_
 refine aH 7 rfl (.int .i64 X.ar) f ?_ (hy:=fun w' K=>by simp[go_sem,(aq.cells K).2.2.2.2.1])
 refine am 8 rfl fb 0 f ?_;refine am 9 rfl fb 0 f ?_;refine am 10 rfl fb 5 f ?_
 refine aH 11 rfl (.int .i64 X.st) f ?_ (hy:=fun w' K=>by simp[go_sem,(aq.cells K).2.2.2.2.2.1])
 refine aH 12 rfl (.agg #[(),X.nw,X.ar,(),(),(),(),(),X.st]) f ?_ (hy:=fun w' _=>bt55 _ _ _ _ _ rfl rfl rfl rfl w');refine aV 13 ?_;refine bI 13 rfl rfl (.pointer (some ⟨a,0,none⟩)) (m) (aa a9 _ _ rfl) (br) ?_;simp only[qZ];refine aV 14 ?_;refine cL 14 rfl rfl (g) (aa bd _ _ _ _ rfl rfl rfl) (az) ?_;simp only[Act.put]
 refine zm (by kernel_rfl) ?_ _
 clear a9 bd be aG;obtain⟨G,F,I,aB⟩:=aa bx;have bu:=(aa b5).on G;have bD:=dQ X.sb 0 ver sl pv LS bz g bu;have co:g.cell? ⟨fb,6,none⟩=some (.pointer (some ⟨X.sb,0,none⟩)):=(aq.cells az).2.2.2.2.2.2.1;obtain⟨r,M⟩:∃l,g.setCell ⟨a,0,none⟩ (.int .i64 ver)=l:=⟨_,rfl⟩;have U:r.heap[a]?=some (.cells #[ver,X.nw,X.ar,(),(),(),(),(),X.st] 113):=M▸eP F 0 (.int .i64 ver) rfl
 have ap:Below w.heap.size w r:=M▸G.setCell (p:=⟨a,0,none⟩) (by show w.heap.size<=a; omega) _
 have aX:r.heap[w.heap.size]?=some (.cells #[(),(),(),(),(),(),(),(),()] 113):=by rw[<-M]; exact(zW g ⟨a,0,none⟩ _ w.heap.size (by show w.heap.size≠a; omega)).trans I
 have aJ:=af F 0;have aQ:=bi F 0;have a4:aq r fb X:=ag (aa B) ap;obtain⟨wb,N⟩:∃l,r.setCell ⟨a,3,none⟩ (.int .i64 (ws.length:Int))=l:=⟨_,rfl⟩;have V:wb.heap[a]?=some (.cells #[ver,X.nw,X.ar,(ws.length:Int),(),(),(),(),X.st] 113):=N▸eP U 3 (.int .i64 (ws.length:Int)) rfl
 have ar:Below w.heap.size w wb:=N▸ap.setCell (p:=⟨a,3,none⟩) (by show w.heap.size<=a; omega) _
 have aY:wb.heap[w.heap.size]?=some (.cells #[(),(),(),(),(),(),(),(),()] 113):=by rw[<-N]; exact(zW r ⟨a,3,none⟩ _ w.heap.size (by show w.heap.size≠a; omega)).trans aX
 have aM:=af U 3;have aR:=bi U 3;have a5:aq wb fb X:=ag (aa B) ar;obtain⟨A,O⟩:∃l,wb.setCell ⟨a,4,none⟩ (.int .i64 (d.length:Int))=l:=⟨_,rfl⟩;have a1:A.heap[a]?=some (.cells #[ver,X.nw,X.ar,(ws.length:Int),(d.length:Int),(),(),(),X.st] 113):=O▸eP V 4 (.int .i64 (d.length:Int)) rfl
 have au:Below w.heap.size w A:=O▸ar.setCell (p:=⟨a,4,none⟩) (by show w.heap.size<=a; omega) _
 have aZ:A.heap[w.heap.size]?=some (.cells #[(),(),(),(),(),(),(),(),()] 113):=by rw[<-O]; exact(zW wb ⟨a,4,none⟩ _ w.heap.size (by show w.heap.size≠a; omega)).trans aY
 have aN:=af V 4;have aS:=bi V 4;have bV:aq A fb X:=ag (aa B) au
 have cm:r.cell? ⟨fb,7,none⟩=some (.slice cf ws.length bS):=by rw[<-aa b4]; exact(aq.cells a4).2.2.2.2.2.2.2.1
 have cn:wb.cell? ⟨fb,8,none⟩=some (.slice cd d.length bQ):=by rw[<-aa b2]; exact(aq.cells a5).2.2.2.2.2.2.2.2.1
 have cg:=ae (show Below w.heap.size w A/\A.heap[a]?=some (.cells #[ver,X.nw,X.ar,(ws.length:Int),(d.length:Int),(),(),(),X.st] 113)/\A.heap[w.heap.size]?=some (.cells #[(),(),(),(),(),(),(),(),()] 113) from⟨au,a1,aZ⟩);have bA:=ae (fun(ev:Operand->Value) (o:Oper) (s t:Operand) (q:o.op=.store 3 s t) h j=>kO ev o s t q a 0 ver h j g r aJ aQ M);have bB:=ae (fun(ev:Operand->Value) (o:Oper) (s t:Operand) (q:o.op=.store 3 s t) h j=>kO ev o s t q a 3 (ws.length:Int) h j r wb aM aR N);have bC:=ae (fun(ev:Operand->Value) (o:Oper) (s t:Operand) (q:o.op=.store 3 s t) h j=>kO ev o s t q a 4 (d.length:Int) h j wb A aN aS O);clear f br az bx G F I bu M U ap aX aJ aQ a4 N V ar aY aM aR a5 O a1 au aZ aN aS bV
 go_wp2_with fail
 refine bD.mono ?_;rintro e wv ⟨rfl,rfl⟩;clear bD co
 go_wp2_with (first|refine cU r (aa bA _ _ _ _ rfl rfl rfl) rfl ?_|refine cU wb (aa bB _ _ _ _ rfl rfl (by simp[go_sem])) rfl ?_|refine cU A (aa bC _ _ _ _ rfl rfl (by simp[go_sem])) rfl ?_)
 clear bA bB bC cm cn
 go_loopw [4] (fun i wr=>∃k:Nat,k<=c.length/\i=.int .i64 k/\Hid (Below w.heap.size w wr/\wr.heap[a]?=some (.cells #[ver,X.nw,X.ar,(ws.length:Int),(d.length:Int),.int .i64 (cT (c.take k):Int),(),(),X.st] 113)/\wr.heap[w.heap.size]?=some (.cells #[(),(),(),(),(),(),(),(),()] 113))) (fun i _=>c.length-(intOf i).toNat)
 ·exact⟨0,by omega,rfl,ae (by simpa[cT] using aa cg)⟩
 obtain⟨k,bK,rfl,bM⟩:=hrel;obtain⟨D,n,T⟩:=aa bM
 have cv:wr.cell? ⟨fb,9,none⟩=some (.slice cc c.length bP):=by rw[<-aa b1]; exact(aq.cells (ag (aa B) D)).2.2.2.2.2.2.2.2.2.1
 by_cases b9:k<c.length
 ·have bt:(k:Int)<c.length:=by omega
  obtain⟨b,off,rfl,b7,ax⟩:=aa b0 (by omega)
  obtain⟨o,bO⟩:∃t,c[k]?=some t:=⟨_,zQ b9⟩
  have aC:w.cell? ⟨b,off+k,none⟩=some (ptr (o.map Wk.g)):=by
   have:=ax k (o.map Wk.g) (by rw[zg,bO]; rfl) 0 _ rfl
   rwa [show off+k*fK.wid+0=off+k by simp[fK]] at this
  have aj:=(D.cell (p:=⟨b,off+k,none⟩) b7).trans aC;have ac:=busyW_take bO;have bp:=busyW_le (c.take k);rw[zD] at bp
  cases o with
  | none=>
   have ca:wr.cell? ⟨b,off+k,none⟩=some (.pointer none):=aj
   have aE:Hid (Below w.heap.size w wr/\wr.heap[a]?=some (.cells #[ver,X.nw,X.ar,(ws.length:Int),(d.length:Int),.int .i64 (cT (c.take (k+1)):Int),(),(),X.st] 113)/\wr.heap[w.heap.size]?=some (.cells #[(),(),(),(),(),(),(),(),()] 113)):=ae (by rw[ac]; exact aa bM)
   clear aj aC ax ac D n T
   go_wp2
   go_roundw
   ·exact⟨k+1,by omega,by go_num,ae (aa aE)⟩
   simp[intOf]; omega
  | some u=>
   have ca:wr.cell? ⟨b,off+k,none⟩=some (.pointer (some ⟨u.g,0,none⟩)):=aj
   have a3:(cT (c.take (k+1)):Int)=(cT (c.take k):Int)+1:=by rw[ac]; simp
   have bb:=ae a3;obtain⟨C,bJ⟩:∃C:Int,(cT (c.take k):Int)=C:=⟨_,rfl⟩
   have cs:0<=C/\C<=100:=by omega
   rw[bJ] at n bb
   have cu:IntKind.i64.wrap (C+1)=C+1:=bG _ (by omega)
   have cl:wr.cell? ⟨a,5,none⟩=some (.int .i64 C):=af n 5;have bf:=bi n 5;obtain⟨E,R⟩:∃l,wr.setCell ⟨a,5,none⟩ (.int .i64 (C+1))=l:=⟨_,rfl⟩;have bl:E.heap[a]?=some (.cells #[ver,X.nw,X.ar,(ws.length:Int),(d.length:Int),.int .i64 (C+1),(),(),X.st] 113):=R▸eP n 5 (.int .i64 (C+1)) rfl
   have bo:Below w.heap.size w E:=R▸D.setCell (p:=⟨a,5,none⟩) (by show w.heap.size<=a; omega) _
   have bk:E.heap[w.heap.size]?=some (.cells #[(),(),(),(),(),(),(),(),()] 113):=by rw[<-R]; exact(zW wr ⟨a,5,none⟩ _ w.heap.size (by show w.heap.size≠a; omega)).trans T
   have ch:=ae (fun(ev:Operand->Value) (o:Oper) (s t:Operand) (q:o.op=.store 3 s t) h j=>kO ev o s t q a 5 (C+1) h j wr E cl bf R)
   have aE:Hid (Below w.heap.size w E/\E.heap[a]?=some (.cells #[ver,X.nw,X.ar,(ws.length:Int),(d.length:Int),.int .i64 (cT (c.take (k+1)):Int),(),(),X.st] 113)/\E.heap[w.heap.size]?=some (.cells #[(),(),(),(),(),(),(),(),()] 113)):=ae (by rw[aa bb]; exact⟨bo,bl,bk⟩)
   clear aj aC ax ac a3 bJ n T D R bl bo bk bf bp
   go_wp2_with (refine cU E (aa ch _ _ _ _ rfl rfl (by simp[go_sem])) rfl ?_)
   go_roundw
   ·exact⟨k+1,by omega,by go_num,ae (aa aE)⟩
   simp[intOf]; omega
 have bt:k=c.length:=by omega
 subst bt;rw[zx] at n;have bs:=ag (aa B) D
 have cr:wr.cell? ⟨fb,11,none⟩=some (.slice ce ts.length bR):=by rw[<-aa b3]; exact(aq.cells bs).2.2.2.2.2.2.2.2.2.2.2
 obtain⟨x,P⟩:∃l,wr.setCell ⟨a,6,none⟩ (.int .i64 (ts.length:Int))=l:=⟨_,rfl⟩;have W:x.heap[a]?=some (.cells #[ver,X.nw,X.ar,(ws.length:Int),(d.length:Int),(cT c:Int),(ts.length:Int),(),X.st] 113):=P▸eP n 6 (.int .i64 (ts.length:Int)) rfl
 have Y:Below w.heap.size w x:=P▸D.setCell (p:=⟨a,6,none⟩) (by show w.heap.size<=a; omega) _
 have a0:x.heap[w.heap.size]?=some (.cells #[(),(),(),(),(),(),(),(),()] 113):=by rw[<-P]; exact(zW wr ⟨a,6,none⟩ _ w.heap.size (by show w.heap.size≠a; omega)).trans T
 have aO:=af n 6;have aT:=bi n 6;have a6:aq x fb X:=ag (aa B) Y;have bw:=nV fb X ts x a6 ((aa b6).on Y) b8 bX;obtain⟨y,Q⟩:∃l,x.setCell ⟨a,7,none⟩ (.int .i64 (aA ts:Int))=l:=⟨_,rfl⟩;have a2:y.heap[a]?=some (.cells #[ver,X.nw,X.ar,(ws.length:Int),(d.length:Int),(cT c:Int),(ts.length:Int),(aA ts:Int),X.st] 113):=Q▸eP W 7 (.int .i64 (aA ts:Int)) rfl
 have av:Below w.heap.size w y:=Q▸Y.setCell (p:=⟨a,7,none⟩) (by show w.heap.size<=a; omega) _
 have al:y.heap[w.heap.size]?=some (.cells #[(),(),(),(),(),(),(),(),()] 113):=by rw[<-Q]; exact(zW x ⟨a,7,none⟩ _ w.heap.size (by show w.heap.size≠a; omega)).trans a0
 have aP:=af W 7;have aU:=bi W 7;have bW:aq y fb X:=ag (aa B) av;have cb:y.rangeAt a 0 (#[ver,X.nw,X.ar,(ws.length:Int),(d.length:Int),(cT c:Int),(ts.length:Int),(aA ts:Int),X.st]:Array Value).toList:=ao a2;obtain⟨ak,ah⟩:∃l,y.setRow w.heap.size #[ver,X.nw,X.ar,(ws.length:Int),(d.length:Int),(cT c:Int),(ts.length:Int),(aA ts:Int),X.st]=l:=⟨_,rfl⟩;have bj:ak.heap[w.heap.size]?=some (.cells #[ver,X.nw,X.ar,(ws.length:Int),(d.length:Int),(cT c:Int),(ts.length:Int),(aA ts:Int),X.st] 113):=ah▸yX _ _ _ #[ver,X.nw,X.ar,(ws.length:Int),(d.length:Int),(cT c:Int),(ts.length:Int),(aA ts:Int),X.st] _ _ al;have bn:Below w.heap.size w ak:=ah▸aK av aD #[ver,X.nw,X.ar,(ws.length:Int),(d.length:Int),(cT c:Int),(ts.length:Int),(aA ts:Int),X.st];have ci:=ae (fun(ev:Operand->Value) (o:Oper) (s t:Operand) (q:o.op=.store 3 s t) h j=>kO ev o s t q a 6 (ts.length:Int) h j wr x aO aT P);have cj:=ae (fun(ev:Operand->Value) (o:Oper) (s t:Operand) (q:o.op=.store 3 s t) h j=>kO ev o s t q a 7 (aA ts:Int) h j x y aP aU Q);have ck:=ae (show ∀(ev:Operand->Value) (o:Oper) (s t:Operand),o.op=.store 113 s t->ev s=.pointer (some ⟨w.heap.size,0,none⟩)->ev t=.agg #[ver,X.nw,X.ar,(ws.length:Int),(d.length:Int),(cT c:Int),(ts.length:Int),(aA ts:Int),X.st]->(execOp ev o).run prog y=.ok .skip ak from fun ev o s t q h j=>ah▸stR ev o s t 113 q #[ver,X.nw,X.ar,(ws.length:Int),(d.length:Int),(cT c:Int),(ts.length:Int),(aA ts:Int),X.st] #[(),(),(),(),(),(),(),(),()] (sz55 _ _ _ _ _ _ _ _ _) (lk_one _ _ _ _ _ _ _ _ _) rfl w.heap.size h j y al);have bY:=ae bj;have bZ:=ae bn;clear n T D bs P W Y a0 aO aT a6 Q a2 av al aP aU bW ah bj bn
 go_wp2_with (refine cU x (aa ci _ _ _ _ rfl rfl (by simp[go_sem])) rfl ?_)
 refine bw.mono ?_;rintro e wv ⟨rfl,rfl⟩;clear bw
 go_wp2_with (first|refine cU y (aa cj _ _ _ _ rfl rfl rfl) rfl ?_|refine bU 113 _ underlying113 rfl (sz55 _ _ _ _ _ _ _ _ _) _ _ cb rfl _ rfl rfl ?_|refine cU ak (aa ck _ _ _ _ rfl rfl rfl) rfl ?_)
 exact zL (v:=.agg #[ver,X.nw,X.ar,(ws.length:Int),(d.length:Int),(cT c:Int),(ts.length:Int),(aA ts:Int),X.st]) (results_cell_row results61 _ _ w.heap.size 113 _ (0,0) _ rfl (aa bY) underlying113 rfl (sz55 _ _ _ _ _ _ _ _ _)) rfl ⟨rfl,aa bZ⟩
end Go.Proofs.YtpabpniaekldeaaGreatDoor
