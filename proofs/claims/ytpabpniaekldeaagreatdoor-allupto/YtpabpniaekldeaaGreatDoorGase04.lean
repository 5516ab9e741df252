import Derived.Test.YtpabpniaekldeaaGreatDoorGase03
set_option maxHeartbeats 25600000
set_option maxRecDepth 20000
open Go.RowKit Go.Proofs.Tryz
namespace Go.Proofs.YtpabpniaekldeaaGreatDoor
def nf (f:Ft):Ft:=fun j=>if j<24 then f j else 0
theorem iQ (f:Ft):SF (nf f) f:=fun j a=>by simp[nf,a]
theorem nf_nf (f:Ft):nf (nf f)=nf f:=by funext j; simp only[nf]; split<;>rfl
theorem nf_eq {f g:Ft}(a:nf f=f)(b:nf g=g)(h:SF f g):f=g:=by
 rw[<-a,<-b]
 funext j
 simp only[nf]
 split
 ·exact h j (by assumption)
 rfl
theorem nf_cc (f:Ft):cc 24 (nf f)=cc 24 f:=cc_ext fun i hi=>iQ f i hi
theorem Rt.sf {f g:Ft}(h:Rt f)(a:SF g f):Rt g:=ci ((ny a).trans (lH h))
def Nor (L:List Ft):Prop:=∀f∈L,nf f=f
theorem fN {L:List Ft}{i:Nat}(h:i<L.length):gf L i∈L:=by
 have:gf L i=L[i]:=by simp[gf,h]
 rw[this]; exact List.getElem_mem h
theorem oT (b:List Ft):Nor (b.map nf):=fun f a=>by
 obtain⟨g,_,rfl⟩:=yH.1 a;exact nf_nf g
theorem fE {L:List Ft}{i:Nat}(h:i<L.length):gf (L.map nf) i=nf (gf L i):=by simp[gf,h]
theorem relV_nf {v:Int}{LS FL:List Ft}(h:d8 v LS FL):d8 v LS (FL.map nf):=by
 have b:(FL.map nf).length=FL.length:=zY _
 refine⟨fun i hi f=>?_,fun j a=>?_,fun j a=>?_,fun j j' a c e=>?_,by rw[b]; exact h.le40⟩
 ·obtain⟨j,a,d⟩:=h.fwd i hi f
  exact⟨j,by omega,by rw[fE a]; exact d.trans (iQ _).symm⟩
 ·rw[b] at a
  obtain⟨i,hi,f,d⟩:=h.fro j a
  exact⟨i,hi,f,by rw[fE a]; exact d.trans (iQ _).symm⟩
 ·rw[b] at a
  rw[fE a];exact(h.rt j a).sf (iQ _)
 rw[b] at a c;rw[fE a,fE c] at e;exact h.dis j j' a c e
theorem rel_nf {LS FL:List Ft}(h:mC LS FL):mC LS (FL.map nf):=by
 have b:(FL.map nf).length=FL.length:=zY _
 refine⟨by rw[b]; exact h.cnt,fun i hi f=>?_,fun j a=>?_,fun j a=>?_,fun j j' a c e=>?_,h.one⟩
 ·obtain⟨j,a,d⟩:=h.fwd i hi f
  exact⟨j,by omega,by rw[fE a]; exact d.trans (iQ _).symm⟩
 ·rw[b] at a
  obtain⟨i,hi,f,d⟩:=h.fro j a
  exact⟨i,hi,f,by rw[fE a]; exact d.trans (iQ _).symm⟩
 ·rw[b] at a
  rw[fE a];exact(h.rt j a).sf (iQ _)
 rw[b] at a c;rw[fE a,fE c] at e;exact h.dis j j' a c e
theorem inV_still {v a:Int}{g:Ft}(f:v<=a)(h:lc a g<=v):mH v g=mH a g/\lc v g=lc a g:=by
 unfold lc mH at *
 split at h
 ·rename_i q
  rw[zJ ⟨q.1,h⟩,zJ q];refine⟨?_,rfl⟩
  simp[q.1,show ¬v<g 25 by omega,show ¬a<g 25 by omega]
 rename_i q
 rw[zK (show ¬(g 25≠0/\g 25<=v) from fun p=>q ⟨p.1,by omega⟩),zK q]
 have d:(decide (g 25=0) || decide (v<g 25))=true:=by
  by_cases e:g 25=0
  ·simp[e]
  have:¬g 25<=a:=fun p=>q ⟨e,p⟩
  simp[show v<g 25 by omega]
 have c:(decide (g 25=0) || decide (a<g 25))=true:=by
  by_cases e:g 25=0
  ·simp[e]
  have:¬g 25<=a:=fun p=>q ⟨e,p⟩
  simp[show a<g 25 by omega]
 rw[d,c]
 split at h
 ·rename_i b
  simp[b,h]
 rename_i b
 simp[b,show ¬g 24<=v by omega]
theorem body_set {A B:List Ft}{k:K4}(o:dy k)(f:∀i,i<A.length->Rt (gf A i))(g:∀i,i<B.length->Rt (gf B i))(n:∀i j,i<A.length->j<A.length->gf A i 0=gf A j 0->i=j)
  (l:∀i,i<A.length->cJ (gf A i) k.l k.z k.x k.y=true->∃j,j<B.length/\gf B j=gf A i) (m:∀j,j<B.length->cJ (gf B j) k.l k.z k.x k.y=true->∃i,i<A.length/\gf A i=gf B j):cg B k=cg A k:=by
 have h:=o.err
 have c:kP (gf B) B.length k.l k.z k.x k.y 64=kP (gf A) A.length k.l k.z k.x k.y 64:=by
  refine ink_of_top fun p c=>top_set _ _ _ _ _ f g (fun i hi a=>l i hi ?_) (fun j b a=>m j b ?_) (fun i j hi b e=>by rw[n i j hi b e])
  ·cases d:cJ (gf A i) k.l k.z k.x k.y with
   | true=>rfl
   | false=>rw[far_vis (f i hi) h d p c] at a; cases a
  cases d:cJ (gf B j) k.l k.z k.x k.y with
  | true=>rfl
  | false=>rw[far_vis (g j b) h d p c] at a; cases a
 unfold cg tile;rw[c]
def Oz:Ora:=⟨fun LS v k=>eA v k LS,cg,du⟩
theorem still_of {LS A B:List Ft}{v b:Int}(h:d8 v LS A)(g:d8 b LS B)(o:Nor A)(p:Nor B)(u:v<=b){k:K4}(s:dy k)(t:eA b k LS<=v):cg A k=cg B k/\eA v k LS=eA b k LS:=by
 have m:∀i,i<LS.length->cJ (gf LS i) k.l k.z k.x k.y=true->mH v (gf LS i)=mH b (gf LS i)/\lc v (gf LS i)=lc b (gf LS i):=fun i hi c=>inV_still u (by
  have:lc b (gf LS i)<=eW b k.l k.z k.x k.y LS LS.length:=oy _ i hi c
  unfold eA at t; omega)
 constructor
 ·refine body_set s g.rt h.rt g.dis (fun i hi c=>?_) (fun j f c=>?_)
  ·obtain⟨a,e,l,d⟩:=g.fro i hi
   have n:=(fg d k.l k.z k.x k.y).trans c;obtain⟨j,f,r⟩:=h.fwd a e ((m a e n).1.trans l);exact⟨j,f,nf_eq (o _ (fN f)) (p _ (fN hi)) (r.symm.trans d)⟩
  obtain⟨a,e,l,d⟩:=h.fro j f;have n:=(fg d k.l k.z k.x k.y).trans c;obtain⟨i,hi,q⟩:=g.fwd a e ((m a e n).1.symm.trans l);exact⟨i,hi,nf_eq (p _ (fN hi)) (o _ (fN f)) (q.symm.trans d)⟩
 unfold eA;exact fi _ fun i hi=>⟨rfl,fun c=>(m i hi c).2⟩
theorem hi_of {LS:List Ft}{n:Nat}{FLs:Nat->List Ft}(h:∀v:Nat,v<=n->d8 v LS (FLs v)/\Nor (FLs v)):Hi Oz LS n FLs:=by
 refine⟨fun v a k b=>stK_in (by omega) k,fun v d f c k b e=>?_,fun v a k b=>gu (h v a).1.rt k,fun v a=>(h v a).1.le40⟩
 exact still_of (h v (by omega)).1 (h d c).1 (h v (by omega)).2 (h d c).2 (by omega) b e
theorem lW {α:Type}:∀(l b:List α),l.Nodup->l ⊆ b->l.length<=b.length
 | [],_,_,_=>by simp
 | a::l,b,g,d=>by
  have f:a∈b:=d (by simp)
  obtain⟨s,t,rfl⟩:=List.append_of_mem f;have c:=yd.1 g
  have:=lW l (s++t) c.2 (fun x e=>by
   have:=d (zt _ e);simp only[zh,zv] at this ⊢
   rcases this with q|rfl|q
   ·exact Or.inl q
   ·exact absurd e c.1
   exact Or.inr q)
  simp only[zH,zS] at this ⊢;omega
theorem jB.lt {FL R:List Ft}{a:Int}(h:jB FL a R):∀i j,i<j->j<R.length->gf R i 0<gf R j 0:=by
 intro i j e c
 induction j with
 | zero=>omega
 | succ j d=>
  have b:gf R j 0<gf R (j+1) 0:=h.ris (j+1) c
  rcases yP i j with q|q
  ·have:=d q (by omega); omega
  have:i=j:=by omega
  subst this; exact b
theorem ids_nodup (a:List Ft)(c:∀i j,i<a.length->j<a.length->gf a i 0=gf a j 0->i=j):(a.map fun f=>f 0).Nodup:=by
 rw[List.nodup_iff_pairwise_ne,List.pairwise_iff_getElem];intro i j hi b d e;simp only[zY] at hi b;simp only[List.getElem_map] at e
 have:=c i j hi b (by simpa[gf,hi,b] using e)
 omega
theorem jB.all {FL R:List Ft}(h:jB FL 0 R)(n:Nor FL)(o:R.length=FL.length)(m:∀i j,i<FL.length->j<FL.length->gf FL i 0=gf FL j 0->i=j):∀j,j<FL.length->∃i,i<R.length/\nf (gf R i)=gf FL j:=by
 have l:(R.map fun f=>f 0).Nodup:=ids_nodup R fun i j hi a e=>by
  rcases Nat.lt_trichotomy i j with q|q|q
  ·have:=h.lt i j q a; omega
  ·exact q
  have:=h.lt j i q hi; omega
 intro j a
 by_cases hm:gf FL j 0∈R.map fun f=>f 0
 ·obtain⟨f,g,e⟩:=yH.1 hm
  obtain⟨i,hi,rfl⟩:=List.mem_iff_getElem.1 g
  have c:gf R i=R[i]:=by simp[gf,hi]
  obtain⟨j',d,b⟩:=h.mem i hi
  have:j'=j:=m j' j d a (by rw[<-b 0 (by decide),c]; exact e)
  subst this;exact⟨i,hi,nf_eq (nf_nf _) (n _ (fN a)) ((iQ _).trans b)⟩
 exfalso
 have:=lW (gf FL j 0::R.map fun f=>f 0) (FL.map fun f=>f 0) (yd.2 ⟨hm,l⟩) (fun x k=>by
  rcases zv.1 k with rfl|k
  ·exact yE (fN a)
  obtain⟨f,g,rfl⟩:=yH.1 k;obtain⟨i,hi,rfl⟩:=List.mem_iff_getElem.1 g;obtain⟨j',d,b⟩:=h.mem i hi
  have c:gf R i=R[i]:=by simp[gf,hi]
  exact yH.2 ⟨gf FL j',fN d,by rw[<-b 0 (by decide),c]⟩)
 simp only[zS,zY] at this;omega
theorem jB.rt {FL R:List Ft}{a:Int}(h:jB FL a R)(c:∀j,j<FL.length->Rt (gf FL j)):∀i,i<R.length->Rt (gf R i):=fun i hi=>by
 obtain⟨j,b,d⟩:=h.mem i hi;exact(c j b).sf d
theorem jB.norm {FL R:List Ft}{a:Int}(h:jB FL a R):jB FL a (R.map nf):=by
 have b:(R.map nf).length=R.length:=zY _
 have c:∀i,i<=R.length->lP a (R.map nf) i=lP a R i:=fun i hi=>by
  cases i with
  | zero=>rfl
  | succ i=>show gf (R.map nf) i 0=gf R i 0; rw[fE (by omega)]; rfl
 refine⟨fun i hi=>?_,fun i hi=>?_,?_⟩
 ·rw[b] at hi
  obtain⟨j,d,e⟩:=h.mem i hi
  exact⟨j,d,by rw[fE hi]; exact(iQ _).trans e⟩
 ·rw[b] at hi
  rw[c i (by omega),fE hi]
  exact h.ris i hi
 rw[b,c _ aD]; exact h.cnt
theorem body_read {FL R:List Ft}(h:jB FL 0 R)(d:Nor FL)(b:Nor R)(l:R.length=FL.length)(f:∀j,j<FL.length->Rt (gf FL j))(c:∀i j,i<FL.length->j<FL.length->gf FL i 0=gf FL j 0->i=j){k:K4}(g:dy k):cg R k=cg FL k:=by
 refine body_set g f (h.rt f) c (fun i hi _=>?_) (fun j a _=>?_)
 ·obtain⟨j,a,e⟩:=h.all d l c i hi
  exact⟨j,a,by rw[<-b _ (fN a)]; exact e⟩
 obtain⟨i,hi,m⟩:=h.mem j a;exact⟨i,hi,(nf_eq (b _ (fN a)) (d _ (fN hi)) m).symm⟩
def aw (fb:Nat)(X:FV)(sl pv:Value)(W:List (Option Wk))(k:Nat):Prop:=
 k=fb\/k=X.sb\/sl.ownBlock=some k\/pv.ownBlock=some k\/X.wv.ownBlock=some k\/X.lv.ownBlock=some k\/X.kv.ownBlock=some k\/X.tv.ownBlock=some k\/∃(i:Nat) (u:Wk),W[i]?=some (some u)/\(k=u.g\/u.rv.ownBlock=some k)
theorem aw.elim {P:Nat->Prop}{fb:Nat}{X:FV}{sl pv:Value}{c:List (Option Wk)}{k:Nat}(n:aw fb X sl pv c k)(d:P fb)(e:P X.sb)(f:∀k,sl.ownBlock=some k->P k)(g:∀k,pv.ownBlock=some k->P k)(h:∀k,X.wv.ownBlock=some k->P k)(j:∀k,X.lv.ownBlock=some k->P k)(l:∀k,X.kv.ownBlock=some k->P k)(m:∀k,X.tv.ownBlock=some k->P k)
  (a:∀(i:Nat) (u:Wk),c[i]?=some (some u)->P u.g/\∀k,u.rv.ownBlock=some k->P k):P k:=by
 rcases n with rfl|rfl|q|q|q|q|q|q|⟨i,u,b,q⟩
 ·exact d
 ·exact e
 ·exact f k q
 ·exact g k q
 ·exact h k q
 ·exact j k q
 ·exact l k q
 ·exact m k q
 rcases q with rfl|q
 ·exact(a i u b).1
 exact(a i u b).2 k q
section
variable {fb:Nat}{X:FV}{sl pv:Value}{W:List (Option Wk)}{k:Nat}
theorem aw.iF:aw fb X sl pv W fb:=Or.inl rfl
theorem aw.iS:aw fb X sl pv W X.sb:=Or.inr (Or.inl rfl)
theorem aw.iL (h:sl.ownBlock=some k):aw fb X sl pv W k:=Or.inr (Or.inr (Or.inl h))
theorem aw.iP (h:pv.ownBlock=some k):aw fb X sl pv W k:=Or.inr (Or.inr (Or.inr (Or.inl h)))
theorem aw.iW (h:X.wv.ownBlock=some k):aw fb X sl pv W k:=Or.inr (Or.inr (Or.inr (Or.inr (Or.inl h))))
theorem aw.iN (h:X.lv.ownBlock=some k):aw fb X sl pv W k:=Or.inr (Or.inr (Or.inr (Or.inr (Or.inr (Or.inl h)))))
theorem aw.iK (h:X.kv.ownBlock=some k):aw fb X sl pv W k:=Or.inr (Or.inr (Or.inr (Or.inr (Or.inr (Or.inr (Or.inl h))))))
theorem aw.iT (h:X.tv.ownBlock=some k):aw fb X sl pv W k:=Or.inr (Or.inr (Or.inr (Or.inr (Or.inr (Or.inr (Or.inr (Or.inl h)))))))
theorem aw.iG {i:Nat}{u:Wk}(h:W[i]?=some (some u)):aw fb X sl pv W u.g:=Or.inr (Or.inr (Or.inr (Or.inr (Or.inr (Or.inr (Or.inr (Or.inr ⟨i,u,h,Or.inl rfl⟩)))))))
theorem aw.iR {i:Nat}{u:Wk}(h:W[i]?=some (some u))(a:u.rv.ownBlock=some k):aw fb X sl pv W k:=Or.inr (Or.inr (Or.inr (Or.inr (Or.inr (Or.inr (Or.inr (Or.inr ⟨i,u,h,Or.inr a⟩)))))))
end
structure FNum (X:FV)(F:FM):Prop where
 q:X.q=F.queue
 wt:X.wt=F.wait
 ch:X.ch=F.chunk
 nw:X.nw=F.now
 ar:X.ar=F.arrived
 st:X.st=F.started
 rm:X.rm=F.room
structure FPu (W:List (Option Wk))(F:FM):Prop where
 wks:F.wks=W.map (Option.map Wk.f)
 rd:∀(i:Nat) (u:Wk),W[i]?=some (some u)->jB (F.FLs u.f.reads) 0 u.R/\u.R.length=u.f.got/\Nor u.R
 dis:∀(i j:Nat) (u v:Wk),i≠j->W[i]?=some (some u)->W[j]?=some (some v)->u.g≠v.g/\∀k,u.rv.ownBlock=some k->v.rv.ownBlock≠some k
structure FVer (LS:List Ft)(ver:Nat)(FLs:Nat->List Ft):Prop where
 rel:∀v:Nat,v<=ver->d8 v LS (FLs v)/\Nor (FLs v)
 now:mC LS (FLs ver)
 bnd:Bnd LS ver
 len:LS.length<=8*ver
structure FMem (w:World)(X:FV)(sl pv:Value)(W:List (Option Wk))(ver:Nat)(LS:List Ft)(PI:List Int)(ws:List dJ)(ls:List K4)(ts:List aL):Prop where
 sto:dD w X.sb 0 ver sl pv LS (ri PI)
 wai:ah cW 201 w X.wv ws
 lin:ah bT 39 w X.lv ls
 til:ah aW 196 w X.tv ts
 wkv:ah fK 166 w X.kv (W.map (Option.map Wk.g))
 wat:∀(i:Nat) (u:Wk),W[i]?=some (some u)->w.heap[u.g]?=some (.cells u.a 170)/\ah rF 66 w u.rv u.R
structure gF (w:World)(fb:Nat)(X:FV)(sl pv:Value)(W:List (Option Wk))(F:FM):Prop where
 blk:aq w fb X
 num:FNum X F
 pu:FPu W F
 ver:FVer F.LS F.ver F.FLs
 mem:FMem w X sl pv W F.ver F.LS F.PI F.waiting F.line F.tiles
 glb:Glb w
 lo:∀k,aw fb X sl pv W k->4<=k
def eR (w:World)(fb:Nat)(Ψ:Nat->Prop)(F:FM):Prop:=∃X sl pv W,gF w fb X sl pv W F/\∀k,aw fb X sl pv W k->Ψ k
def NewS (Ψ:Nat->Prop)(n:Nat)(k:Nat):Prop:=Ψ k\/n<=k
structure dt (w:World)(fb:Nat)(Ψ:Nat->Prop)(F:FM)(l:List gD)(rv:Value)(w':World):Prop where
 rep:ah bE 103 w' rv l
 repf:∀g,rv.ownBlock=some g->w.heap.size<=g
 fro:eR w' fb (NewS Ψ w.heap.size) F
 frm:aE Ψ w w'
theorem dD.slt {w:World}{d:Nat}{b ver:Int}{sl pv:Value}{LS c:List Ft}(h:dD w d b ver sl pv LS c):(∀g,sl.ownBlock=some g->g<w.heap.size)/\∀g,pv.ownBlock=some g->g<w.heap.size:=⟨fun g a=>(h.own.lt g a).2,fun g a=>(h.pins.lt g a).2⟩
theorem FMem.frm {w w':World}{X:FV}{sl pv:Value}{l:List (Option Wk)}{ver:Nat}{LS:List Ft}{PI:List Int}{ws:List dJ}{o:List K4}{ts:List aL}{S:Nat->Prop}(h:FMem w X sl pv l ver LS PI ws o ts)(e:aE S w w')(fb:Nat){q:FV}(d:∀k,aw fb X sl pv l k->k≠fb->¬S k)(b:aq w fb q):FMem w' X sl pv l ver LS PI ws o ts:=by
 have p:X.sb≠fb:=aI h.sto.blk b (by decide)
 refine⟨h.sto.frm e (d _ (Or.inr (Or.inl rfl)) p) (fun g a=>d g (Or.inr (Or.inr (Or.inl a))) ?_) (fun g a=>d g (Or.inr (Or.inr (Or.inr (Or.inl a)))) ?_),
  h.wai.frm e fun g a=>d g (Or.inr (Or.inr (Or.inr (Or.inr (Or.inl a))))) (au h.wai b (by decide) g a),
  h.lin.frm e fun g a=>d g (Or.inr (Or.inr (Or.inr (Or.inr (Or.inr (Or.inl a)))))) (au h.lin b (by decide) g a),
  h.til.frm e fun g a=>d g (Or.inr (Or.inr (Or.inr (Or.inr (Or.inr (Or.inr (Or.inr (Or.inl a)))))))) (au h.til b (by decide) g a),
  h.wkv.frm e fun g a=>d g (Or.inr (Or.inr (Or.inr (Or.inr (Or.inr (Or.inr (Or.inl a))))))) (au h.wkv b (by decide) g a),fun i u j=>?_⟩
 ·obtain⟨c,f⟩:=h.sto.own.ty a
  exact aI f b (by decide)
 ·obtain⟨c,f⟩:=h.sto.pins.ty a
  exact aI f b (by decide)
 obtain⟨m,n⟩:=h.wat i u j
 exact⟨aQ m e (d u.g (Or.inr (Or.inr (Or.inr (Or.inr (Or.inr (Or.inr (Or.inr (Or.inr ⟨i,u,j,Or.inl rfl⟩)))))))) (aI m b (by decide))),
  n.frm e fun g a=>d g (Or.inr (Or.inr (Or.inr (Or.inr (Or.inr (Or.inr (Or.inr (Or.inr ⟨i,u,j,Or.inr a⟩)))))))) (au n b (by decide) g a)⟩
theorem aw.lt {w:World}{fb:Nat}{X:FV}{sl pv:Value}{a:List (Option Wk)}{f:FM}(h:gF w fb X sl pv a f){k:Nat}(d:aw fb X sl pv a k):k<w.heap.size:=by
 rcases d with rfl|rfl|q|q|q|q|q|q|⟨i,u,e,q⟩
 ·exact an h.blk
 ·exact h.mem.sto.lt
 ·exact h.mem.sto.slt.1 k q
 ·exact h.mem.sto.slt.2 k q
 ·exact h.mem.wai.lt q
 ·exact h.mem.lin.lt q
 ·exact h.mem.wkv.lt q
 ·exact h.mem.til.lt q
 obtain⟨b,c⟩:=h.mem.wat i u e
 rcases q with rfl|q
 ·exact an b
 exact c.lt q
theorem gF.frm {w w':World}{fb:Nat}{X:FV}{sl pv:Value}{b:List (Option Wk)}{d:FM}{S:Nat->Prop}(h:gF w fb X sl pv b d)(a:aE S w w')(c:∀k,aw fb X sl pv b k->¬S k)(e:∀k,S k->4<=k):gF w' fb X sl pv b d:=
 ⟨aQ h.blk a (c fb (Or.inl rfl)),h.num,h.pu,h.ver,h.mem.frm a fb (fun k f _=>c k f) h.blk,h.glb.frm a e,h.lo⟩
theorem eR.frm {w w':World}{fb:Nat}{a:Nat->Prop}{c:FM}{S:Nat->Prop}(h:eR w fb a c)(g:aE S w w')(f:∀k,a k->¬S k)(e:∀k,S k->4<=k):eR w' fb a c:=by
 obtain⟨X,sl,pv,j,d,b⟩:=h;exact⟨X,sl,pv,j,d.frm g (fun k i=>f k (b k i)) e,b⟩
theorem eR.on {w w':World}{fb:Nat}{b:Nat->Prop}{a:FM}(h:eR w fb b a)(c:Below w.heap.size w w'):eR w' fb b a:=h.frm (S:=fun _=>False) (aE.of_below c) (fun _ _ q=>q) (fun _ q=>q.elim)
theorem eR.mono {w:World}{fb:Nat}{c a:Nat->Prop}{b:FM}(h:eR w fb c b)(f:∀k,c k->a k):eR w fb a b:=by
 obtain⟨X,sl,pv,i,d,e⟩:=h;exact⟨X,sl,pv,i,d,fun k g=>f k (e k g)⟩
theorem eR.glb {w:World}{fb:Nat}{c:Nat->Prop}{b:FM}(h:eR w fb c b):Glb w:=by
 obtain⟨X,sl,pv,e,a,d⟩:=h;exact a.glb
theorem Tick_any (fb:Nat)(C:Nat->Prop)(a:FM)(w:World)(h:eR w fb C a)(B:Ok Oz a)(aI:a.now<=1000000000):
  Calls prog 46 #[some fb] w fun e w'=>∃rv,e=.returned rv/\dt w fb C a.tick.1 a.tick.2 rv w':=by
 obtain⟨X,sl,pv,M,h,af⟩:=h;have o:=h.blk;have n:X.nw=a.now:=h.num.nw
 have aD:a.waiting.length<=8:=by have:=B.wq; have:=B.q; omega
 have aB:a.line.length<=8:=by have:=B.linLe; omega
 have T:∀c∈a.waiting,dy c.k:=fun c K=>(B.req c K).2.2.2.1;obtain⟨w1,z⟩:∃w1,w.setCell ⟨fb,3,none⟩ (.int .i64 (X.nw+1))=w1:=⟨_,rfl⟩;have E:aE (fun k=>k=fb) w w1:=z▸(aE.rfl' _ _).setCell (p:=⟨fb,3,none⟩) _ (fun _=>rfl);have H:aq w1 fb { X with nw:=X.nw+1 }:=z▸aq.set o 3 _ (FV.set_nw X _);have an:=(aq.cells o).2.2.2.1;have ap:=jU o 3;have G:=h.mem.frm E fb (fun k _ m q=>m q) o
 have W:=mA fb { X with nw:=X.nw+1 } a.waiting w1 H G.wai (by omega)
 have al:=ae z;have ab:=ae h;have D:=ae E;have R:=ae G;have N:=ae H;have Q:=ae T
 have aG:IntKind.i64.wrap (X.nw+1)=X.nw+1:=bG _ (by omega)
 have aF:0<=X.nw/\X.nw<=1000000000:=by omega
 have ak:=ae n;clear o h E G H z T n;go_enter func46,ntmps46
 go_wp2_with (refine cU w1 (kO _ _ _ _ rfl fb 3 (X.nw+1) rfl (by simp[go_sem]) w w1 an ap (aa al)) rfl ?_)
 refine W.mono ?_;rintro e ay ⟨⟨rv,rfl,l,y⟩,⟨J,j,d,A⟩,f⟩;have v:=(aa R).frm f fb (fun k _ m q=>m q) (aa N);have V:∀c∈gY a.waiting (X.nw+1),bP c.k:=fun c K=>(aa Q c (yA.1 K).1).small
 have Y:=kR fb { X with nw:=X.nw+1,wv:=J } a.line (gY a.waiting (X.nw+1)) ay j d.at v.lin V (by have:=nJ a.waiting (X.nw+1); omega) (by omega)
 obtain⟨ar,ax,av,rfl⟩:=l.sl;have Z:=ae (And.intro l (And.intro y (And.intro j (And.intro d (And.intro A (And.intro f v))))));clear l y j d A f v V W
 go_wp2_with fail
 refine Y.mono ?_;rintro e L ⟨rfl,⟨I,S,O,U⟩,t⟩
 have am:Hid (dt w fb C a.tick.1 a.tick.2 (.slice ar ax av) L):=by
  obtain⟨l,y,j,d,A,f,v⟩:=aa Z;have h:=aa ab;have n:=aa ak;have az:=(aa D).size;have aA:=f.size;have ag:C fb:=af fb (Or.inl rfl);have F:aE (fun k=>k=fb) w L:=((aa D).trans f).trans t;have x:=(h.mem.frm F fb (fun k _ m q=>m q) h.blk)
  have ai:=l.frm t (fun g r=>au l j (by decide) g r)
  have aj:=d.frm t (fun g r=>au d j (by decide) g r)
  have ao:iU a.waiting (X.nw+1)=a.tick.2:=by rw[n]; rfl
  have ac:gY a.waiting (X.nw+1)=a.tick.1.waiting:=by rw[n]; rfl
  have aH:4<=w.heap.size:=h.glb.1
  have P:∀k,aw fb { X with nw:=X.nw+1,wv:=J,lv:=I } sl pv M k->aw fb X sl pv M k\/w.heap.size<=k:=fun k s=>s.elim (Or.inl aw.iF) (Or.inl aw.iS) (fun k q=>Or.inl (aw.iL q)) (fun k q=>Or.inl (aw.iP q)) (fun k q=>Or.inr (by have:=A k q; omega)) (fun k q=>Or.inr (by have:=U k q; omega)) (fun k q=>Or.inl (aw.iK q)) (fun k q=>Or.inl (aw.iT q)) (fun i u ad=>⟨Or.inl (aw.iG ad),fun k q=>Or.inl (aw.iR ad q)⟩)
  refine⟨ao▸ai,fun g r=>by have:=y g r; omega,⟨{ X with nw:=X.nw+1,wv:=J,lv:=I },sl,pv,M,⟨S,⟨h.num.q,h.num.wt,h.num.ch,?_,h.num.ar,h.num.st,h.num.rm⟩,⟨h.pu.wks,h.pu.rd,h.pu.dis⟩,h.ver,⟨x.sto,ac▸aj,?_,x.til,x.wkv,x.wat⟩,?_,fun k s=>?_⟩,fun k s=>?_⟩,F.mono fun k _ q=>q▸ag⟩
  ·show X.nw+1=((a.now+1:Nat):Int); omega
  ·show ah bT 39 L I (a.line.filter fun b=>decide (0<aC a.tick.1.waiting b))
   rw[<-ac]; exact O
  ·exact h.glb.frm F fun k q=>q▸h.lo fb (Or.inl rfl)
  ·exact(P k s).elim (h.lo k) (fun q=>by omega)
  exact(P k s).imp (af k) id
 clear Z Y S O U t D R N ab Q
 go_wp2
 go_ret;exact⟨_,rfl,aa am⟩
theorem wk_fls {b:List (Option Wk)}{a:FM}(h:a.wks=b.map (Option.map Wk.f)){i:Nat}{u:Wk}(c:b[i]?=some (some u)):u.f∈a.fls:=by
 refine eY (i:=i) ?_;rw[h,zg,c];rfl
theorem f5:∀ts:List aL,(∀t∈ts,7<=t.body.size)->7*ts.length<=aA ts
 | [],_=>by simp[aA]
 | t::ts,h=>by
  have b:=f5 ts fun u a=>h u (zt _ a)
  have c:=h t (by simp)
  simp only[zS,aA];omega
theorem all_nf (l:List Ft):rF.all (l.map nf)=rF.all l:=by
 unfold dR.all;rw[List.flatMap_map]
 congr 1
 funext f
 show(cc 24 (nf f)).toList=(cc 24 f).toList;rw[nf_cc]
theorem ownR_nf {w:World}{v:Value}{l:List Ft}(h:ah rF 66 w v l):ah rF 66 w v (l.map nf):=by
 rcases h with⟨rfl,rfl⟩|⟨g,off,cap,a,b,c,d,e,f,i⟩
 ·exact Or.inl ⟨rfl,rfl⟩
 refine Or.inr ⟨g,off,cap,a,?_,c,?_,e,f,?_⟩
 ·rw[zY]; exact b
 ·rw[zY]; exact d
 rw[zY,all_nf]; exact i
def kV (F:FM)(a:Int):FM × List gD:=if a<0 then (F,[]) else F.work Oz a.toNat
theorem stP1 (ev:Operand->Value)(o:Oper)(x y:Operand)(d:o.op=.store 166 x y)(g i:Nat)(q:Option Addr)(e:ev x=.pointer (some ⟨g,i,none⟩))(hy:ev y=.pointer q)(w w1:World){u:Value}(b:w.cell? ⟨g,i,none⟩=some u)(c:w.frozen? ⟨g,i,none⟩=false)(a:w.setCell ⟨g,i,none⟩ (.pointer q)=w1):(execOp ev o).run prog w=.ok .skip w1:=by
 rw[<-a];unfold execOp;simp[d,e,hy,go_sem,b,c]
theorem eS {W:List (Option Wk)}{i:Nat}(_hi:i<W.length)(o:Option Wk)(j:Nat)(u:Wk)(h:(W.set i o)[j]?=some (some u)):(j=i/\o=some u)\/(j≠i/\W[j]?=some (some u)):=by
 rw[yZ] at h
 split at h
 ·rename_i e
  subst e;simp only[zy] at h;exact Or.inl ⟨rfl,h⟩
 rename_i e
 exact Or.inr ⟨fun q=>e q.symm,h⟩
structure WkC (w:World)(kv:Value)(n:Nat)(i:Nat)(p:Option Nat)(b off cap:Nat):Prop where
 kv:kv=.slice (some ⟨b,off,none⟩) n cap
 c:w.cell? ⟨b,off+i,none⟩=some (ptr p)
 fz:w.frozen? ⟨b,off+i,none⟩=false
theorem ah.wkC {w:World}{e:Value}{a:List (Option Nat)}(h:ah fK 166 w e a){i:Nat}{p:Option Nat}(c:a[i]?=some p):∃b off cap,WkC w e a.length i p b off cap:=by
 have hi:=(zX.1 c).1
 rcases h with⟨_,rfl⟩|⟨g,off,cap,f,j,d,k,l,m,n⟩
 ·simp at c
 refine⟨g,off,cap,j,?_,?_⟩
 ·have o:ah fK 166 w (.slice (some ⟨g,off,none⟩) a.length cap) a:=Or.inr ⟨g,off,cap,f,rfl,d,k,l,m,n⟩
  rw[o.cellAt i (by show i<a.length*1; omega)]
  have:=fK.all_at a i p 0 c (by decide)
  simpa[fK] using this
 simp[World.frozen?,d]
def fQ (S:Nat->Prop)(w:World)(Ts:List TypeId):Prop:=∀k,S k->∃c T,w.heap[k]?=some (.cells c T (0,0))/\T∈Ts
theorem ah.frmT {α:Type}{R:dR α}{T:TypeId}{w w':World}{v:Value}{l:List α}{S:Nat->Prop}{Ts:List TypeId}(h:ah R T w v l)(d:aE S w w')(f:fQ S w Ts)(i:T∉Ts):ah R T w' v l:=h.frm d fun g j q=>by
 obtain⟨c,k,a,b⟩:=f g q;exact au h a (fun e=>i (e▸b)) g j rfl
theorem bJ {w w':World}{g:Nat}{c:Array Value}{T:TypeId}{f:Nat × Nat}{S:Nat->Prop}{Ts:List TypeId}(h:w.heap[g]?=some (.cells c T f))(d:aE S w w')(i:fQ S w Ts)(j:T∉Ts):w'.heap[g]?=some (.cells c T f):=aQ h d fun q=>by
 obtain⟨l,k,a,b⟩:=i g q;exact aI h a (fun e=>j (e▸b)) rfl
theorem dD.frmT {w w':World}{j:Nat}{k ver:Int}{sl pv:Value}{LS l:List Ft}{S:Nat->Prop}{Ts:List TypeId}(h:dD w j k ver sl pv LS l)(s:aE S w w')(d:fQ S w Ts)(o:119∉Ts)(p:147∉Ts)(r:3∉Ts):dD w' j k ver sl pv LS l:=by
 refine h.frm s (fun q=>?_) (fun g i q=>?_) (fun g i q=>?_)
 ·obtain⟨n,m,a,b⟩:=d j q
  exact aI h.blk a (fun e=>o (e▸b)) rfl
 ·obtain⟨n,m,a,b⟩:=d g q
  obtain⟨c,f⟩:=h.own.ty i;exact aI f a (fun e=>p (e▸b)) rfl
 obtain⟨n,m,a,b⟩:=d g q;obtain⟨c,f⟩:=h.pins.ty i;exact aI f a (fun e=>r (e▸b)) rfl
theorem ah.kvset {w:World}{a:Value}{d:List (Option Nat)}(h:ah fK 166 w a d){i:Nat}{p:Option Nat}{b off cap:Nat}(hi:i<d.length)(f:WkC w a d.length i p b off cap)(q:Option Nat):
  ah fK 166 (w.setCell ⟨b,off+i,none⟩ (ptr q)) a (d.set i q)/\aE (fun k=>a.ownBlock=some k) w (w.setCell ⟨b,off+i,none⟩ (ptr q))/\fQ (fun k=>a.ownBlock=some k) w [166]:=by
 have e:=f.kv;subst e;refine⟨ah.set1 h rfl i hi q (ptr q) rfl,(aE.rfl' _ _).setCell (p:=⟨b,off+i,none⟩) _ (fun _=>rfl),fun k j=>?_⟩;obtain⟨c,g⟩:=h.ty j
 exact⟨c,166,g,by simp⟩
theorem dt.same {w:World}{fb:Nat}{b:Nat->Prop}{a:FM}(h:eR w fb b a):dt w fb b a [] (.slice none 0 0) w:=⟨aU,fun g c=>by simp[Value.ownBlock] at c,h.mono fun _ q=>Or.inl q,aE.rfl' _ _⟩
theorem gF.wlen {w:World}{fb:Nat}{X:FV}{sl pv:Value}{W:List (Option Wk)}{F:FM}(h:gF w fb X sl pv W F):F.wks.length=W.length:=by rw[h.pu.wks,zY]
theorem gF.wat? {w:World}{fb:Nat}{X:FV}{sl pv:Value}{W:List (Option Wk)}{F:FM}(h:gF w fb X sl pv W F){i:Nat}{o:Option Wk}(hi:W[i]?=some o):F.wks[i]?=some (o.map Wk.f):=by rw[h.pu.wks,zg,hi]; rfl
def Wk.next (u:Wk)(n chunk:Nat)(rv:Value)(R2:List Ft):Wk:=⟨u.g,u.f.step n chunk,rv,(u.R++R2).map nf⟩
theorem gF.step {w w':World}{fb:Nat}{X:FV}{sl pv:Value}{m:List (Option Wk)}{d:FM}(h:gF w fb X sl pv m d)(P:Ok Oz d){i:Nat}{u:Wk}(f:m[i]?=some (some u)){rv':Value}{l:List Ft}
  (M:w'.heap[u.g]?=some (.cells #[u.f.b.l,u.f.b.z,u.f.b.x,u.f.b.y,u.f.reads,.int .i64 ((u.f.left:Int)-1),rv'] 170)) (L:ah rF 66 w' rv' (u.R++l)) (J:jB (d.FLs u.f.reads) 0 (u.R++l)) (O:l.length=min d.chunk ((d.FLs u.f.reads).length-u.R.length))
  (B:rv'.ownBlock=u.rv.ownBlock\/∀k,rv'.ownBlock=some k->w.heap.size<=k) (n:aE (fun k=>k=u.g\/u.rv.ownBlock=some k) w w') :
  gF w' fb X sl pv (m.set i (some (u.next (d.FLs u.f.reads).length d.chunk rv' l))) { d with wks:=d.wks.set i (some (u.f.step (d.FLs u.f.reads).length d.chunk)) }/\(∀k,aw fb X sl pv (m.set i (some (u.next (d.FLs u.f.reads).length d.chunk rv' l))) k->aw fb X sl pv m k\/w.heap.size<=k)/\(u.next (d.FLs u.f.reads).length d.chunk rv' l).R.length=min (u.f.got+d.chunk) (d.FLs u.f.reads).length:=by
 have hi:i<m.length:=(zX.1 f).1;obtain⟨a,b⟩:=h.mem.wat i u f;obtain⟨af,Q,ag⟩:=h.pu.rd i u f;obtain⟨U,G,Z,V,W⟩:=P.flt u.f (wk_fls h.pu.wks f);have S:=G.pos
 have R:u.f.got<=(d.FLs u.f.reads).length:=by
  rcases G with⟨ab,_,ad⟩|⟨_,ac,_⟩
  ·omega
  have:u.f.got<=u.f.got+(u.f.left-1)*d.chunk:=Nat.le_add_right _ _;omega
 have C:(u.next (d.FLs u.f.reads).length d.chunk rv' l).R.length=min (u.f.got+d.chunk) (d.FLs u.f.reads).length:=by
  show((u.R++l).map nf).length=_;rw[zY,zH,O,Q];omega
 have t:fQ (fun k=>k=u.g\/u.rv.ownBlock=some k) w [170,66]:=fun k q=>by
  rcases q with rfl|q
  ·exact⟨_,_,a,by simp⟩
  obtain⟨c,N⟩:=b.ty q
  exact⟨_,_,N,by simp⟩
 have Y:=h.glb.1
 have D:∀k,aw fb X sl pv (m.set i (some (u.next (d.FLs u.f.reads).length d.chunk rv' l))) k->aw fb X sl pv m k\/w.heap.size<=k:=fun k o=>o.elim (Or.inl aw.iF) (Or.inl aw.iS) (fun _ q=>Or.inl (aw.iL q)) (fun _ q=>Or.inl (aw.iP q)) (fun _ q=>Or.inl (aw.iW q)) (fun _ q=>Or.inl (aw.iN q)) (fun _ q=>Or.inl (aw.iK q)) (fun _ q=>Or.inl (aw.iT q)) (fun j v r=>by
  rcases eS hi _ j v r with⟨rfl,q⟩|⟨_,q⟩
  ·have q:=(zu q).symm
   subst q;refine⟨Or.inl (aw.iG (u:=u) f),fun k q=>?_⟩
   rcases B with e|e
   ·exact Or.inl (aw.iR f (e▸q))
   exact Or.inr (e k q)
  exact⟨Or.inl (aw.iG q),fun k e=>Or.inl (aw.iR q e)⟩)
 refine⟨⟨bJ h.blk n t (by decide),⟨h.num.q,h.num.wt,h.num.ch,h.num.nw,h.num.ar,h.num.st,h.num.rm⟩,⟨?_,fun j v r=>?_,fun j j' v A z r K=>?_⟩,h.ver,⟨h.mem.sto.frmT n t (by decide) (by decide) (by decide),h.mem.wai.frmT n t (by decide),h.mem.lin.frmT n t (by decide),h.mem.til.frmT n t (by decide),?_,fun j v r=>?_⟩,?_,fun k o=>(D k o).elim (h.lo k) (fun q=>by omega)⟩,D,C⟩
 ·show d.wks.set i _=_
  rw[h.pu.wks,List.map_set];rfl
 ·rcases eS hi _ j v r with⟨rfl,q⟩|⟨_,q⟩
  ·have q:=(zu q).symm
   subst q;exact⟨J.norm,C,oT _⟩
  exact h.pu.rd j v q
 ·rcases eS hi _ j v r with⟨rfl,q⟩|⟨I,q⟩<;>rcases eS hi _ j' A K with⟨rfl,s⟩|⟨T,s⟩
  ·exact absurd rfl z
  ·have q:=(zu q).symm
   subst q;obtain⟨x,y⟩:=h.pu.dis j j' u A z f s;refine⟨x,fun k o=>?_⟩
   rcases B with e|e
   ·exact y k (e▸o)
   exact fun q=>absurd ((h.mem.wat j' A s).2.lt q) (by have:=e k o; omega)
  ·have s:=(zu s).symm
   subst s;obtain⟨x,y⟩:=h.pu.dis j j' v u z q f;refine⟨x,fun k o=>?_⟩
   rcases B with e|e
   ·exact fun p=>y k o (e▸p)
   exact fun p=>absurd ((h.mem.wat j v q).2.lt o) (by have:=e k p; omega)
  exact h.pu.dis j j' v A z q s
 ·have e:(m.set i (some (u.next (d.FLs u.f.reads).length d.chunk rv' l))).map (Option.map Wk.g)=m.map (Option.map Wk.g):=by
   rw[List.map_set]
   apply y0
   intro j;rw[yZ]
   split
   ·rename_i e
    subst e;rw[zY,zJ hi,zg,f];rfl
   rfl
  rw[e]
  exact h.mem.wkv.frmT n t (by decide)
 ·rcases eS hi _ j v r with⟨rfl,q⟩|⟨I,q⟩
  ·have q:=(zu q).symm
   subst q;refine⟨?_,ownR_nf L⟩
   have:(((u.f.left-1:Nat)):Int)=(u.f.left:Int)-1:=by omega
   show w'.heap[u.g]?=some (.cells #[u.f.b.l,u.f.b.z,u.f.b.x,u.f.b.y,u.f.reads,.int .i64 ((u.f.left-1:Nat):Int),rv'] 170);rw[this];exact M
  obtain⟨x,y⟩:=h.pu.dis i j u v (fun e=>I e.symm) f q;obtain⟨E,F⟩:=h.mem.wat j v q;refine⟨aQ E n (fun p=>?_),F.frm n fun g H p=>?_⟩
  ·rcases p with p|p
   ·exact x p.symm
   exact au b E (by decide) _ p rfl
  rcases p with p|p
  ·exact au F a (by decide) g H p
  exact y g p H
 exact h.glb.frm n fun k q=>by
  rcases q with rfl|q
  ·exact h.lo _ (aw.iG f)
  exact h.lo _ (aw.iR f q)
theorem set_none {L:List (Option Nat)}{i:Nat}{p:Option Nat}(h:L[i]?=some p):L.set i p=L:=by
 apply y0
 intro j;rw[yZ]
 split
 ·rename_i e
  subst e;rw[zJ (zX.1 h).1,h]
 rfl
theorem gF.idle {w w':World}{fb:Nat}{X:FV}{sl pv:Value}{c:List (Option Wk)}{g:FM}(h:gF w fb X sl pv c g){i:Nat}(hi:c[i]?=some none)(d:ah fK 166 w' X.kv ((c.map (Option.map Wk.g)).set i none))(a:aE (fun k=>X.kv.ownBlock=some k) w w')(b:fQ (fun k=>X.kv.ownBlock=some k) w [166]):gF w' fb X sl pv c g:=by
 have e:(c.map (Option.map Wk.g)).set i none=c.map (Option.map Wk.g):=set_none (by rw[zg,hi]; rfl)
 rw[e] at d
 exact⟨bJ h.blk a b (by decide),h.num,h.pu,h.ver,⟨h.mem.sto.frmT a b (by decide) (by decide) (by decide),h.mem.wai.frmT a b (by decide),h.mem.lin.frmT a b (by decide),h.mem.til.frmT a b (by decide),d,fun j v f=>⟨bJ (h.mem.wat j v f).1 a b (by decide),(h.mem.wat j v f).2.frmT a b (by decide)⟩⟩,h.glb.frm a (fun k q=>h.lo k (aw.iK q)),h.lo⟩
theorem gF.take {w w1 w':World}{fb:Nat}{X:FV}{sl pv s r:Value}{l:List (Option Wk)}{d:FM}(h:gF w fb X sl pv l d){i:Nat}(hi:l[i]?=some none){b:K4}{rest:List K4}(L:d.line=b::rest)
  (N:w1.heap[w.heap.size]?=some (.cells #[b.l,b.z,b.x,b.y,d.ver,.int .i64 (bB (d.FLs d.ver).length d.chunk),.slice none 0 0] 170)) (A:aq w1 fb { X with lv:=r,st:=X.st+1 }) (F:ah bT 39 w1 r rest) (E:r.ownBlock=X.lv.ownBlock) (M:dD w1 X.sb 0 d.ver sl s d.LS (ri (d.PI++[(d.ver:Int)]))) (G:s.ownBlock=pv.ownBlock\/∀g,s.ownBlock=some g->w.heap.size<=g) (x:aE (fun k=>k=fb\/k=X.sb\/pv.ownBlock=some k) w w1)
  (o:ah fK 166 w' X.kv ((l.map (Option.map Wk.g)).set i (some w.heap.size))) (m:aE (fun k=>X.kv.ownBlock=some k) w1 w') (n:fQ (fun k=>X.kv.ownBlock=some k) w1 [166]) :
  gF w' fb { X with lv:=r,st:=X.st+1 } sl s (l.set i (some ⟨w.heap.size,⟨b,d.ver,bB (d.FLs d.ver).length d.chunk,0⟩,.slice none 0 0,[]⟩)) (d.takeW i)/\(∀k,aw fb { X with lv:=r,st:=X.st+1 } sl s (l.set i (some ⟨w.heap.size,⟨b,d.ver,bB (d.FLs d.ver).length d.chunk,0⟩,.slice none 0 0,[]⟩)) k->aw fb X sl pv l k\/w.heap.size<=k)/\aE (fun k=>aw fb X sl pv l k) w w':=by
 have u:i<l.length:=(zX.1 hi).1;have P:=h.glb.1
 have y:fQ (fun k=>k=fb\/k=X.sb\/pv.ownBlock=some k) w [129,119,3]:=fun k q=>by
  rcases q with rfl|rfl|q
  ·exact⟨_,_,h.blk,by simp⟩
  ·exact⟨_,_,h.mem.sto.blk,by simp⟩
  obtain⟨c,J⟩:=h.mem.sto.pins.ty q
  exact⟨_,_,J,by simp⟩
 have B:∀k,aw fb { X with lv:=r,st:=X.st+1 } sl s (l.set i (some ⟨w.heap.size,⟨b,d.ver,bB (d.FLs d.ver).length d.chunk,0⟩,.slice none 0 0,[]⟩)) k->aw fb X sl pv l k\/w.heap.size<=k:=fun k o=>o.elim (Or.inl aw.iF) (Or.inl aw.iS) (fun _ q=>Or.inl (aw.iL q)) (fun k q=>by
   rcases G with e|e
   ·exact Or.inl (aw.iP (e▸q))
   exact Or.inr (e k q)) (fun _ q=>Or.inl (aw.iW q)) (fun _ q=>Or.inl (aw.iN (E▸q))) (fun _ q=>Or.inl (aw.iK q)) (fun _ q=>Or.inl (aw.iT q)) (fun j v p=>by
  rcases eS u _ j v p with⟨rfl,q⟩|⟨_,q⟩
  ·have q:=(zu q).symm
   subst q
   exact⟨Or.inr aD,fun k q=>by simp[Value.ownBlock] at q⟩
  exact⟨Or.inl (aw.iG q),fun k e=>Or.inl (aw.iR q e)⟩)
 have C:aE (fun k=>aw fb X sl pv l k) w w':=(x.mono fun k _ q=>by
   rcases q with rfl|rfl|q
   ·exact aw.iF
   ·exact aw.iS
   exact aw.iP q).then m (fun k _ q=>aw.iK q)
 have I:d.takeW i={ d with line:=rest,started:=d.started+1,PI:=d.PI++[(d.ver:Int)],wks:=d.wks.set i (some ⟨b,d.ver,bB (d.FLs d.ver).length d.chunk,0⟩) }:=by unfold FM.takeW; rw[L]
 rw[I]
 refine⟨⟨bJ A m n (by decide),⟨h.num.q,h.num.wt,h.num.ch,h.num.nw,h.num.ar,by have:=h.num.st; show X.st+1=((d.started+1:Nat):Int); omega,h.num.rm⟩,⟨?_,fun j v p=>?_,fun j j' v z D p H=>?_⟩,h.ver,⟨M.frmT m n (by decide) (by decide) (by decide),(h.mem.wai.frmT x y (by decide)).frmT m n (by decide),F.frmT m n (by decide),(h.mem.til.frmT x y (by decide)).frmT m n (by decide),?_,fun j v p=>?_⟩,h.glb.frm C h.lo,fun k o=>(B k o).elim (h.lo k) (fun q=>by omega)⟩,B,C⟩
 ·show d.wks.set i _=_
  rw[h.pu.wks,List.map_set];rfl
 ·rcases eS u _ j v p with⟨rfl,q⟩|⟨_,q⟩
  ·have q:=(zu q).symm
   subst q
   exact⟨rdP_nil _ _,rfl,fun f A=>by simp at A⟩
  exact h.pu.rd j v q
 ·rcases eS u _ j v p with⟨rfl,q⟩|⟨K,q⟩<;>rcases eS u _ j' z H with⟨rfl,t⟩|⟨O,t⟩
  ·exact absurd rfl D
  ·have q:=(zu q).symm
   subst q;have:=an (h.mem.wat j' z t).1
   exact⟨by show w.heap.size≠z.g; omega,fun k o=>by simp[Value.ownBlock] at o⟩
  ·have t:=(zu t).symm
   subst t;have:=an (h.mem.wat j v q).1
   exact⟨by show v.g≠w.heap.size; omega,fun k _=>by simp[Value.ownBlock]⟩
  exact h.pu.dis j j' v z D q t
 ·rw[List.map_set]
  exact o
 rcases eS u _ j v p with⟨rfl,q⟩|⟨K,q⟩
 ·have q:=(zu q).symm
  subst q
  exact⟨bJ N m n (by decide),aU⟩
 obtain⟨a,c⟩:=h.mem.wat j v q
 exact⟨bJ (bJ a x y (by decide)) m n (by decide),(c.frmT x y (by decide)).frmT m n (by decide)⟩
theorem gF.finish {w w':World}{fb:Nat}{X:FV}{sl pv rv:Value}{b:List (Option Wk)}{a:FM}{R:List Ft}{fl:Fl}(h:gF w fb X sl pv b a){i:Nat}(hi:b[i]?=some none){room:Nat}{g:Nat}(A:room=a.room)(B:fl.b.keys.map (bR R a.LS fl.reads)=a.tilesOf Oz fl)(L:FinR fb g X room a.ver sl a.LS R a.PI a.waiting a.line a.tiles fl.b fl.reads w rv w'):
  dt w fb (fun k=>aw fb X sl pv b k) (a.finishW Oz i fl).1 (a.finishW Oz i fl).2 rv w':=by
 subst A;have M:=h.glb.1;obtain⟨z,J,⟨t,p,s,r,D,u,x,y,E,F,G,H,I⟩,f⟩:=L;rw[B] at z u x y
 have l:fQ (fun k=>k=fb\/k=X.sb\/X.lv.ownBlock=some k) w [129,119,39]:=fun k q=>by
  rcases q with rfl|rfl|q
  ·exact⟨_,_,h.blk,by simp⟩
  ·exact⟨_,_,h.mem.sto.blk,by simp⟩
  obtain⟨c,K⟩:=h.mem.lin.ty q
  exact⟨_,_,K,by simp⟩
 have n:∀k,aw fb { X with wv:=t,lv:=p,tv:=s } sl r b k->aw fb X sl pv b k\/w.heap.size<=k:=fun k m=>m.elim (Or.inl aw.iF) (Or.inl aw.iS) (fun _ q=>Or.inl (aw.iL q)) (fun k q=>Or.inr (I k q)) (fun k q=>Or.inr (F k q)) (fun k q=>(H k q).imp (fun e=>aw.iN e) id) (fun _ q=>Or.inl (aw.iK q)) (fun k q=>(G k q).imp (fun e=>aw.iT e) id) (fun j v d=>⟨Or.inl (aw.iG d),fun k e=>Or.inl (aw.iR d e)⟩)
 have o:aE (fun k=>aw fb X sl pv b k) w w':=f.mono fun k _ q=>by
  rcases q with rfl|rfl|q
  ·exact aw.iF
  ·exact aw.iS
  exact aw.iN q
 have C:a.wks.set i none=a.wks:=gP _ _ _ (by rw[h.wat? hi]; rfl)
 refine⟨z,J,⟨{ X with wv:=t,lv:=p,tv:=s },sl,r,b,⟨D,⟨h.num.q,h.num.wt,h.num.ch,h.num.nw,h.num.ar,h.num.st,h.num.rm⟩,⟨?_,h.pu.rd,h.pu.dis⟩,h.ver,⟨E,u,y,x,h.mem.wkv.frmT f l (by decide),fun j v d=>⟨bJ (h.mem.wat j v d).1 f l (by decide),(h.mem.wat j v d).2.frmT f l (by decide)⟩⟩,h.glb.frm o h.lo,fun k m=>(n k m).elim (h.lo k) (fun q=>by omega)⟩,n⟩,o⟩
 show a.wks.set i none=_;rw[C];exact h.pu.wks
theorem gF.gone {w w':World}{fb:Nat}{X:FV}{sl pv:Value}{b:List (Option Wk)}{l:FM}(h:gF w fb X sl pv b l){i:Nat}(hi:i<b.length)(g:ah fK 166 w' X.kv ((b.map (Option.map Wk.g)).set i none))(c:aE (fun k=>X.kv.ownBlock=some k) w w')(d:fQ (fun k=>X.kv.ownBlock=some k) w [166]):
  gF w' fb X sl pv (b.set i none) { l with wks:=l.wks.set i none }/\∀k,aw fb X sl pv (b.set i none) k->aw fb X sl pv b k:=by
 have m:∀k,aw fb X sl pv (b.set i none) k->aw fb X sl pv b k:=fun k g=>g.elim aw.iF aw.iS (fun _ q=>aw.iL q) (fun _ q=>aw.iP q) (fun _ q=>aw.iW q) (fun _ q=>aw.iN q) (fun _ q=>aw.iK q) (fun _ q=>aw.iT q) (fun j v a=>by
  rcases eS hi _ j v a with⟨rfl,q⟩|⟨_,q⟩
  ·cases q
  exact⟨aw.iG q,fun k e=>aw.iR q e⟩)
 have f:∀(j:Nat) (v:Wk),(b.set i none)[j]?=some (some v)->b[j]?=some (some v):=fun j v a=>by
  rcases eS hi _ j v a with⟨rfl,q⟩|⟨_,q⟩
  ·cases q
  exact q
 refine⟨⟨bJ h.blk c d (by decide),⟨h.num.q,h.num.wt,h.num.ch,h.num.nw,h.num.ar,h.num.st,h.num.rm⟩,⟨?_,fun j v a=>h.pu.rd j v (f j v a),fun j j' v n o a p=>h.pu.dis j j' v n o (f j v a) (f j' n p)⟩,h.ver,⟨h.mem.sto.frmT c d (by decide) (by decide) (by decide),h.mem.wai.frmT c d (by decide),h.mem.lin.frmT c d (by decide),h.mem.til.frmT c d (by decide),?_,fun j v a=>⟨bJ (h.mem.wat j v (f j v a)).1 c d (by decide),(h.mem.wat j v (f j v a)).2.frmT c d (by decide)⟩⟩,h.glb.frm c (fun k q=>h.lo k (aw.iK q)),fun k g=>h.lo k (m k g)⟩,m⟩
 ·show l.wks.set i none=_
  rw[h.pu.wks,List.map_set];rfl
 rw[List.map_set];exact g
theorem dt.trans {w w1 w':World}{fb:Nat}{a d:Nat->Prop}{f:FM}{l:List gD}{rv:Value}(c:aE a w w1)(h:dt w1 fb d f l rv w')(b:∀k,d k->a k\/w.heap.size<=k):dt w fb a f l rv w':=by
 have j:=c.size
 refine⟨h.rep,fun g i=>by have:=h.repf g i; omega,h.fro.mono fun k q=>?_,c.then h.frm fun k m q=>?_⟩
 ·rcases q with q|q
  ·exact b k q
  right; omega
 rcases b k q with e|e
 ·exact e
 omega
def k8 (p:ByteArray):K4 × Int:=(⟨(Dw.parseL p.data.toList).1.1,(Dw.parseL p.data.toList).1.2.1,(Dw.parseL p.data.toList).1.2.2.1,(Dw.parseL p.data.toList).1.2.2.2⟩,(Dw.parseL p.data.toList).2)
theorem perr_ok {k:K4}(h:keyErr k.l k.z k.x k.y=0):dy k:=by
 unfold keyErr at h
 split at h
 ·cases h
 split at h
 ·cases h
 split at h
 ·cases h
 exact⟨by omega,by omega,by omega,by omega⟩
theorem oK (p:ByteArray):((k8 p).2=0/\dy (k8 p).1)\/((k8 p).2≠0/\(k8 p).1=⟨0,0,0,0⟩):=by
 unfold k8 Dw.parseL
 split
 ·exact Or.inr ⟨by decide,rfl⟩
 split
 ·rename_i h
  exact Or.inl ⟨rfl,perr_ok h⟩
 rename_i h
 exact Or.inr ⟨h,rfl⟩
def arr (F:FM)(p tag:ByteArray):FM × List gD:=if (k8 p).2=0 then F.arriveK Oz (k8 p).1 tag else F.arriveE (k8 p).2
theorem refusal_any (e:Int)(w:World):Calls prog 81 #[e] w fun a w'=>a=.returned (.int .i64 (if e=1 then 400 else 404))/\w=w':=by
 by_cases h:e=1
 ·subst h
  go_enter func81,ntmps81
  go_wp2
  go_ret;exact⟨rfl,rfl⟩
 rw[zK h]
 have b:(e==1)=false:=by simpa using h
 go_enter func81,ntmps81
 go_wp2
 go_ret;exact⟨rfl,rfl⟩
theorem bt35 (n s:Int)(ev:Operand->Value)(o:Oper)(p q:Operand)(d:o.op=.build 103 #[(0,p),(1,q)])(a:ev p=.int .i64 n)(b:ev q=.int .i64 s)(w:World):(execOp ev o).run prog w=.ok (.value (.agg #[n,s,.string ⟨#[]⟩,.string ⟨#[]⟩])) w:=by
 have c:=run_build (P:=prog) w 103 #[(0,.int .i64 n),(1,.int .i64 s)] #[n,s,.string ⟨#[]⟩,.string ⟨#[]⟩] (by kernel_rfl)
 unfold execOp;simp[d,a,b,c]
theorem key_one (l z x y:Int):(#[l,z,x,y]:Array Value).all (·.oneCell')=true:=by simp[Value.oneCell']
theorem al39 (ev:Operand->Value)(o:Oper)(b:o.op=.alloc 39)(w w1:World)(a:w.alloc (.cells #[(),(),(),()] 39)=w1):(execOp ev o).run prog w=.ok (.value (.pointer (some ⟨w.heap.size,0,none⟩))) w1:=by
 rw[<-a];unfold execOp;simp only[b]
 kernel_rfl
theorem al35 (ev:Operand->Value)(o:Oper)(b:o.op=.alloc 103)(w w1:World)(a:w.alloc (.cells #[(),(),.string ⟨#[]⟩,.string ⟨#[]⟩] 103)=w1):(execOp ev o).run prog w=.ok (.value (.pointer (some ⟨w.heap.size,0,none⟩))) w1:=by
 rw[<-a];unfold execOp;simp only[b]
 kernel_rfl
theorem hasW_eq {W:List (Option Wk)}{wks:List (Option Fl)}(h:wks=W.map (Option.map Wk.f))(b:K4):hasW W b=wks.any fun o=>match o with
 | some fl=>decide (fl.b=b)
 | none=>false:=by
 rw[h,List.any_map];unfold hasW
 congr 1
 funext o
 cases o<;>rfl
theorem gF.wksAt {w:World}{fb:Nat}{X:FV}{sl pv:Value}{a:List (Option Wk)}{c:FM}(h:gF w fb X sl pv a c):f8 w X.kv a:=⟨h.mem.wkv.at,fun i u b=>(h.mem.wat i u b).1⟩
theorem gF.arr {w w':World}{fb:Nat}{X:FV}{sl pv:Value}{e:List (Option Wk)}{b:FM}(h:gF w fb X sl pv e b)(c:aE (fun k=>k=fb) w w')(g:aq w' fb { X with ar:=X.ar+1 }):gF w' fb { X with ar:=X.ar+1 } sl pv e { b with arrived:=b.arrived+1 }:=by
 have a:=h.mem.frm c fb (fun k _ f q=>f q) h.blk
 exact⟨g,⟨h.num.q,h.num.wt,h.num.ch,h.num.nw,by have:=h.num.ar; show X.ar+1=((b.arrived+1:Nat):Int); omega,h.num.st,h.num.rm⟩,⟨h.pu.wks,h.pu.rd,h.pu.dis⟩,h.ver,⟨a.sto,a.wai,a.lin,a.til,a.wkv,a.wat⟩,h.glb.frm c (fun k q=>q▸h.lo fb aw.iF),fun k i=>h.lo k (i.elim aw.iF aw.iS (fun _ q=>aw.iL q) (fun _ q=>aw.iP q) (fun _ q=>aw.iW q) (fun _ q=>aw.iN q) (fun _ q=>aw.iK q) (fun _ q=>aw.iT q) (fun _ _ d=>⟨aw.iG d,fun _ q=>aw.iR d q⟩))⟩
theorem gF.tiles' {w w':World}{fb:Nat}{X:FV}{sl pv tv:Value}{a:List (Option Wk)}{g:FM}{ts:List aL}(h:gF w fb X sl pv a g)(e:aE (fun k=>k=fb) w w')(j:aq w' fb { X with tv:=tv })(m:ah aW 196 w' tv ts)(l:∀k,tv.ownBlock=some k->w.heap.size<=k):
  gF w' fb { X with tv:=tv } sl pv a { g with tiles:=ts }/\∀k,aw fb { X with tv:=tv } sl pv a k->aw fb X sl pv a k\/w.heap.size<=k:=by
 have b:=h.mem.frm e fb (fun k _ i q=>i q) h.blk;have n:=h.glb.1;have d:∀k,aw fb { X with tv:=tv } sl pv a k->aw fb X sl pv a k\/w.heap.size<=k:=fun k c=>c.elim (Or.inl aw.iF) (Or.inl aw.iS) (fun _ q=>Or.inl (aw.iL q)) (fun _ q=>Or.inl (aw.iP q)) (fun _ q=>Or.inl (aw.iW q)) (fun _ q=>Or.inl (aw.iN q)) (fun _ q=>Or.inl (aw.iK q)) (fun k q=>Or.inr (l k q)) (fun _ _ f=>⟨Or.inl (aw.iG f),fun _ q=>Or.inl (aw.iR f q)⟩)
 exact⟨⟨j,⟨h.num.q,h.num.wt,h.num.ch,h.num.nw,h.num.ar,h.num.st,h.num.rm⟩,⟨h.pu.wks,h.pu.rd,h.pu.dis⟩,h.ver,⟨b.sto,b.wai,b.lin,m,b.wkv,b.wat⟩,h.glb.frm e (fun k q=>q▸h.lo fb aw.iF),fun k c=>(d k c).elim (h.lo k) (fun q=>by omega)⟩,d⟩
theorem Arrive_any (fb:Nat)(ab:Nat->Prop)(d:FM)(p tag:ByteArray)(w:World)(h:eR w fb ab d)(H:Ok Oz d)(cv:p.size<=maxLen)(cH:d.arrived<=1000000000)(cI:d.now<=1000000000):
  Calls prog 40 #[some fb,p,tag] w fun e w'=>∃rv,e=.returned (.tuple #[d.arrived,rv])/\dt w fb ab (arr d p tag).1 (arr d p tag).2 rv w':=by
 obtain⟨X,sl,pv,I,h,az⟩:=h;have ba:=h.blk;have bi:X.ar=d.arrived:=h.num.ar;have b6:w.cell? ⟨fb,4,none⟩=some (.int .i64 d.arrived):=bi▸(aq.cells ba).2.2.2.2.1;have b7:=jU ba 4;obtain⟨w1,a7⟩:∃w1,w.setCell ⟨fb,4,none⟩ (.int .i64 (d.arrived+1))=w1:=⟨_,rfl⟩;have bg:aE (fun k=>k=fb) w w1:=a7▸(aE.rfl' _ _).setCell (p:=⟨fb,4,none⟩) _ (fun _=>rfl)
 have bT:aq w1 fb { X with ar:=X.ar+1 }:=by rw[<-a7,bi]; exact aq.set ba 4 _ (FV.set_ar X _)
 have ax:=h.arr bg bT;have bq:∀k,aw fb { X with ar:=X.ar+1 } sl pv I k->aw fb X sl pv I k:=fun k G=>G.elim aw.iF aw.iS (fun _ q=>aw.iL q) (fun _ q=>aw.iP q) (fun _ q=>aw.iW q) (fun _ q=>aw.iN q) (fun _ q=>aw.iK q) (fun _ q=>aw.iT q) (fun _ _ ay=>⟨aw.iG ay,fun _ q=>aw.iR ay q⟩);have b5:=Dw.parse_any p w1 cv ax.glb.nm;have bJ:=ae a7;have bf:=ae ax;have bx:=ae bg;have ak:=ae bq;have a2:ab fb:=az fb aw.iF
 have cJ:IntKind.i64.wrap ((d.arrived:Int)+1)=(d.arrived:Int)+1:=bG _ (by omega)
 have cE:(0:Int)<=(d.arrived:Int)/\(d.arrived:Int)<=1000000000:=by omega
 have cB:=ae h.lo;have cD:4<=w.heap.size:=h.glb.1;generalize ce:({ X with ar:=X.ar+1 }:FV)=m at bf ak;clear ba h bg bT a7 bi bq ax ce;go_enter func40,ntmps40
 go_wp2_with (refine cU w1 (kO _ _ _ _ rfl fb 4 (d.arrived+1) rfl (by simp[go_sem]) w w1 b6 b7 (aa bJ)) rfl ?_)
 refine b5.mono ?_;rintro e O ⟨⟨l,z,x,y,er,ci,rfl⟩,a4⟩
 have ac:k8 p=(⟨l,z,x,y⟩,er):=by unfold k8; rw[ci]
 have cC:=ae ac;obtain⟨P,a8⟩:∃P,O.alloc (.cells #[(),(),(),()] 39)=P:=⟨_,rfl⟩;have bR:Below O.heap.size O P:=a8▸(zV O.heap.size O).alloc aD (.cells #[(),(),(),()] 39);have a3:P.heap[O.heap.size]?=some (.cells #[(),(),(),()] 39):=a8▸zZ O (.cells #[(),(),(),()] 39);have bK:=ae a8;clear a8;obtain⟨N,bl⟩:∃N,O.heap.size=N:=⟨_,rfl⟩;have ad:=ae (show ∀(ev:Operand->Value) (o:Oper),o.op=.alloc 39->(execOp ev o).run prog O=.ok (.value (.pointer (some ⟨N,0,none⟩))) P from fun ev o q=>bl▸al39 ev o q O P (aa bK));rw[bl] at a3;have bs:Below w1.heap.size w1 P:=a4.trans (bR.mono a4.size)
 have ca:w1.heap.size<=N:=by have:=a4.size; omega
 obtain⟨B,a9⟩:∃B,P.setRow N #[l,z,x,y]=B:=⟨_,rfl⟩;have bL:B.heap[N]?=some (.cells #[l,z,x,y] 39):=a9▸yX _ _ _ #[l,z,x,y] _ _ a3;have bc:Below w1.heap.size w1 B:=a9▸aK bs ca #[l,z,x,y];have al:=ae (show ∀(ev:Operand->Value) (o:Oper) (s t:Operand),o.op=.store 39 s t->ev s=.pointer (some ⟨N,0,none⟩)->ev t=.agg #[l,z,x,y]->(execOp ev o).run prog P=.ok .skip B from fun ev o s t q aA aB=>a9▸stR ev o s t 39 q #[l,z,x,y] #[(),(),(),()] (bj _ _ _ _) (key_one _ _ _ _) rfl N aA aB P a3);have r:=(aa bf).frm (S:=fun _=>False) (aE.of_below bc) (fun _ _ q=>q) (fun _ q=>q.elim);have an:aE (fun k=>k=fb) w B:=(aa bx).then (aE.of_below (S:=fun _=>False) bc) (fun _ _ q=>q.elim);have aj:=ae r;have ai:=ae an;have aM:=ae bL;clear a4 bR a3 bs bc r an bL bl bK bf bx b5 a9 bJ b6 b7
 by_cases bk:er=0
 ·subst bk
  have bV:dy ⟨l,z,x,y⟩:=by
   rcases oK p with q|q
   ·rw[ac] at q; exact q.2
   rw[ac] at q; exact absurd rfl q.1
  have r:=aa aj;have cy:=H.v100;have bY:=r.ver.len
  have cG:d.tiles.length<=2000:=by
   have J:∀t∈d.tiles,7<=t.body.size:=fun t M=>by
    obtain⟨a,b⟩:=H.til t M
    rw[b]; exact(H.hi.bod d.ver aD t.k a).1
   have:=f5 d.tiles J
   have:=H.byt; have:=H.rm
   omega
  have b3:=atOnce_any fb m d.ver sl pv d.LS (ri d.PI) d.waiting d.tiles l z x y tag B r.blk r.mem.sto (by have:d.LS.length<=8*d.ver:=bY; omega) bV (by omega) r.glb r.mem.wai r.mem.til (by omega)
  have aW:B.rangeAt N 0 (#[l,z,x,y]:Array Value).toList:=ao (aa aM)
  have Z:(arr d p tag)=d.arriveK Oz ⟨l,z,x,y⟩ tag:=by unfold arr; rw[ac]; exact zJ rfl
  have bC:=ae Z;clear r bY Z ac
  go_wp2_with (first|refine cP _ _ (aa ad _ _ rfl) rfl ?_|refine cU _ (aa al _ _ _ _ rfl rfl rfl) rfl ?_|refine vM aW rfl _ rfl rfl ?_)
  refine b3.mono ?_;intro e j bP
  have key:(∃aC:gD,e=.returned (.tuple #[.agg aC.a,true])/\(arr d p tag).2=[⟨d.arrived,aC.st,aC.body,aC.tag⟩]/\eR j fb (NewS ab w.heap.size) (arr d p tag).1/\aE ab w j) \/
    (e=.returned (.tuple #[.agg #[(),(),.string ⟨#[]⟩,.string ⟨#[]⟩],false])/\(arr d p tag)=(FM.join { d with arrived:=d.arrived+1 } d.arrived ⟨l,z,x,y⟩,[])/\Below B.heap.size B j):=by
   obtain⟨aC,b,rfl,b9⟩:=bP;have r:=aa aj;have an:=aa ai;rw[aa bC];have a6:d.stamp Oz d.ver ⟨l,z,x,y⟩=eA d.ver ⟨l,z,x,y⟩ d.LS:=rfl
   rcases b9 with⟨M,rfl,rfl,D⟩|⟨M,t,aS,rfl,rfl,⟨cK,aA,aB,cx⟩,aG⟩|⟨M,aS,cw,rfl,rfl,D⟩|⟨M,aS,cw,rfl,rfl,D⟩
   ·refine Or.inl ⟨_,rfl,?_,?_,(an.then (aE.of_below (S:=fun _=>False) D) (fun _ _ q=>q.elim)).mono fun k _ q=>q▸a2⟩
    ·unfold FM.arriveK; rw[zJ (show tag=Oz.tag ⟨l,z,x,y⟩ (d.stamp Oz d.ver ⟨l,z,x,y⟩) from M)]; exact congrArg (fun t=>[(⟨d.arrived,304,⟨#[]⟩,t⟩:gD)]) M.symm
    unfold FM.arriveK; rw[zJ (show tag=Oz.tag ⟨l,z,x,y⟩ (d.stamp Oz d.ver ⟨l,z,x,y⟩) from M)]
    exact⟨m,sl,pv,I,r.frm (S:=fun _=>False) (aE.of_below D) (fun _ _ q=>q) (fun _ q=>q.elim),fun k G=>Or.inl (az k (aa ak k G))⟩
   ·have a0:d.arriveK Oz ⟨l,z,x,y⟩ tag=({ d with arrived:=d.arrived+1,tiles:=bm d.tiles t.k++[t] },[⟨d.arrived,200,t.body,t.tag⟩]):=by
     unfold FM.arriveK; rw[zK (show ¬tag=Oz.tag ⟨l,z,x,y⟩ (d.stamp Oz d.ver ⟨l,z,x,y⟩) from M)]; simp only[aS]
    rw[a0];obtain⟨cs,ct⟩:=r.tiles' aG aA aB cx
    refine Or.inl ⟨_,rfl,rfl,⟨_,sl,pv,I,cs,fun k G=>(ct k G).imp (fun q=>az k (aa ak k q)) (fun q=>by have:=an.size; omega)⟩,(an.then aG (fun _ _ q=>q)).mono fun k _ q=>q▸a2⟩
   ·have a0:d.arriveK Oz ⟨l,z,x,y⟩ tag=({ d with arrived:=d.arrived+1 },[⟨d.arrived,503,⟨#[]⟩,⟨#[]⟩⟩]):=by
     unfold FM.arriveK; rw[zK (show ¬tag=Oz.tag ⟨l,z,x,y⟩ (d.stamp Oz d.ver ⟨l,z,x,y⟩) from M)]; simp only[aS]
     rw[zJ (by have:m.q=d.queue:=r.num.q; omega)]
    rw[a0];exact Or.inl ⟨_,rfl,rfl,⟨m,sl,pv,I,r.frm (S:=fun _=>False) (aE.of_below D) (fun _ _ q=>q) (fun _ q=>q.elim),fun k G=>Or.inl (az k (aa ak k G))⟩,(an.then (aE.of_below (S:=fun _=>False) D) (fun _ _ q=>q.elim)).mono fun k _ q=>q▸a2⟩
   have a0:d.arriveK Oz ⟨l,z,x,y⟩ tag=(FM.join { d with arrived:=d.arrived+1 } d.arrived ⟨l,z,x,y⟩,[]):=by
    unfold FM.arriveK; rw[zK (show ¬tag=Oz.tag ⟨l,z,x,y⟩ (d.stamp Oz d.ver ⟨l,z,x,y⟩) from M)]; simp only[aS]
    rw[zK (by have:m.q=d.queue:=r.num.q; omega)]
   exact Or.inr ⟨rfl,a0,D⟩
  clear bP b3 aW ad al bC
  rcases key with⟨aC,rfl,bZ,a5,aG⟩|⟨rfl,Z,D⟩
  ·have cz:=aG.size
   have bH:=ae bZ;have bB:=ae a5;have br:=ae aG;clear bZ a5 aG aj ai aM;obtain⟨aX,rs,rb,E⟩:=aC;obtain⟨A,U⟩:∃A,j.alloc (.cells #[(),(),.string ⟨#[]⟩,.string ⟨#[]⟩] 103)=A:=⟨_,rfl⟩;have aP:Below j.heap.size j A:=U▸(zV j.heap.size j).alloc aD (.cells #[(),(),.string ⟨#[]⟩,.string ⟨#[]⟩] 103);have V:A.heap[j.heap.size]?=some (.cells #[(),(),.string ⟨#[]⟩,.string ⟨#[]⟩] 103):=U▸zZ j (.cells #[(),(),.string ⟨#[]⟩,.string ⟨#[]⟩] 103);have aN:=ae U;clear U;obtain⟨n,aT⟩:∃n,j.heap.size=n:=⟨_,rfl⟩;have ad:=ae (show ∀(ev:Operand->Value) (o:Oper),o.op=.alloc 103->(execOp ev o).run prog j=.ok (.value (.pointer (some ⟨n,0,none⟩))) A from fun ev o q=>aT▸al35 ev o q j A (aa aN));rw[aT] at V;obtain⟨C,W⟩:∃C,A.setRow n #[aX,rs,rb,E]=C:=⟨_,rfl⟩;have am:C.heap[n]?=some (.cells #[aX,rs,rb,E] 103):=W▸yX _ _ _ _ _ _ V
   have ap:Below j.heap.size j C:=W▸aK aP (by omega) _
   have al:=ae (show ∀(ev:Operand->Value) (o:Oper) (s t:Operand),o.op=.store 103 s t->ev s=.pointer (some ⟨n,0,none⟩)->ev t=.agg #[aX,rs,rb,E]->(execOp ev o).run prog A=.ok .skip C from fun ev o s t q aA aB=>W▸stR ev o s t 103 q #[aX,rs,rb,E] #[(),(),.string ⟨#[]⟩,.string ⟨#[]⟩] (ki _ _ _ _) (gh _ _ _ _) rfl n aA aB A V);obtain⟨F,Y⟩:∃F,C.setCell ⟨n,0,none⟩ (.int .i64 d.arrived)=F:=⟨_,rfl⟩
   have bN:F.heap[n]?=some (.cells #[d.arrived,rs,rb,E] 103):=Y▸by simp[World.setCell,zk,am]
   have bS:Below j.heap.size j F:=Y▸ap.setCell (p:=⟨n,0,none⟩) (show j.heap.size<=n by omega) _
   have cu:C.cell? ⟨n,0,none⟩=some (.int .i64 aX):=(af am 0).trans rfl
   have cc:C.frozen? ⟨n,0,none⟩=false:=by simp[World.frozen?,am]
   have cb:=ae Y;have bw:=ae bN;have be:=ae bS;clear aP V ap W Y bN bS aN am
   go_wp2_with (first|refine cP _ _ (aa ad _ _ rfl) rfl ?_|refine cU _ (aa al _ _ _ _ rfl rfl rfl) rfl ?_|refine cU F (kO _ _ _ _ rfl n 0 d.arrived rfl rfl C F cu cc (aa cb)) rfl ?_)
   refine z8 (S:=fun w'=>w'.heap[n]?=some (.cells #[d.arrived,rs,rb,E] 103)) (by kernel_rfl) ?_
   change wpAnyH _ _ _ _ _ _ _ _ (World.drew _);have aJ:(World.drew F).heap[n]?=some (.cells #[d.arrived,rs,rb,E] 103):=aa bw;have cf:Below F.heap.size F (World.drew F):=zE bu;have aR:Below j.heap.size j (World.drew F):=(aa be).trans (cf.mono (aa be).size);generalize World.drew F=Q at aJ aR ⊢;have av:=(zV Q.heap.size Q).alloc aD (.cells #[d.arrived,rs,rb,E] 103);have bh:=ag aJ av
   have aL:ah bE 103 (Q.alloc (.cells #[d.arrived,rs,rb,E] 103)) (.slice (some ⟨Q.heap.size,0,none⟩) 1 1) [⟨d.arrived,rs,rb,E⟩]:=cr (R:=bE) (T:=103) Q [⟨d.arrived,rs,rb,E⟩] #[d.arrived,rs,rb,E] rfl (show 1<=maxLen by decide)
   have bb:=aR.trans (av.mono aR.size)
   have aZ:Hid (∃rv,Ending.returned (.tuple #[d.arrived,.slice (some ⟨Q.heap.size,0,none⟩) 1 1])=.returned (.tuple #[d.arrived,rv])/\dt w fb ab (arr d p tag).1 (arr d p tag).2 rv (Q.alloc (.cells #[d.arrived,rs,rb,E] 103))):=by
    refine⟨_,rfl,?_⟩;rw[aa bH]
    exact⟨aL,fun g K=>by have:=aR.size; simp only[Value.ownBlock,zy] at K; omega,(aa bB).on bb,(aa br).then (aE.of_below (S:=fun _=>False) bb) (fun _ _ q=>q.elim)⟩
   refine aH 0 rfl (.int .i64 d.arrived) aJ ?_;refine aH 1 rfl (.agg #[d.arrived,rs,rb,E]) aJ ?_ (hy:=fun w' cl=>jT _ _ _ 103 rfl _ rfl _ underlying103 rfl (ki _ _ _ _) n 0 rfl _ (ao cl));refine aH 3 rfl (.int .i64 d.arrived) aJ ?_;refine aV 2 ?_;refine bI 2 rfl rfl (.slice (some ⟨Q.heap.size,0,none⟩) 1 1) (Q.alloc (.cells #[d.arrived,rs,rb,E] 103)) (gz d.arrived rs rb E _ _ _ rfl rfl _) (bh) ?_;simp only[qZ];refine aH 4 rfl (.slice (some ⟨Q.heap.size,0,none⟩) 1 1) bh ?_
   refine zm (by kernel_rfl) ?_ _
   clear aJ aR av bh aL bb bw be bB br bH
   go_wp2
   go_ret2
   exact aa aZ
  have r:=aa aj;have b8:=r.frm (S:=fun _=>False) (aE.of_below D) (fun _ _ q=>q) (fun _ q=>q.elim);have bO:=(aa ai).then (aE.of_below (S:=fun _=>False) D) (fun _ _ q=>q.elim);have bM:=ag (aa aM) D;have bD:=ae b8;have bz:=ae bO;have bv:=ae bM;have aY:=ae Z;clear r b8 bO bM D aj ai aM Z;obtain⟨A,U⟩:∃A,j.alloc (.cells #[(),(),.string ⟨#[]⟩,.string ⟨#[]⟩] 103)=A:=⟨_,rfl⟩;have aP:Below j.heap.size j A:=U▸(zV j.heap.size j).alloc aD (.cells #[(),(),.string ⟨#[]⟩,.string ⟨#[]⟩] 103);have V:A.heap[j.heap.size]?=some (.cells #[(),(),.string ⟨#[]⟩,.string ⟨#[]⟩] 103):=U▸zZ j (.cells #[(),(),.string ⟨#[]⟩,.string ⟨#[]⟩] 103);have aN:=ae U;clear U;obtain⟨n,aT⟩:∃n,j.heap.size=n:=⟨_,rfl⟩;have ad:=ae (show ∀(ev:Operand->Value) (o:Oper),o.op=.alloc 103->(execOp ev o).run prog j=.ok (.value (.pointer (some ⟨n,0,none⟩))) A from fun ev o q=>aT▸al35 ev o q j A (aa aN));rw[aT] at V;obtain⟨C,W⟩:∃C,A.setRow n #[(),(),.string ⟨#[]⟩,.string ⟨#[]⟩]=C:=⟨_,rfl⟩
  have ap:Below j.heap.size j C:=W▸aK aP (by omega) _
  have al:=ae (show ∀(ev:Operand->Value) (o:Oper) (s t:Operand),o.op=.store 103 s t->ev s=.pointer (some ⟨n,0,none⟩)->ev t=.agg #[(),(),.string ⟨#[]⟩,.string ⟨#[]⟩]->(execOp ev o).run prog A=.ok .skip C from fun ev o s t q aA aB=>W▸stR ev o s t 103 q _ #[(),(),.string ⟨#[]⟩,.string ⟨#[]⟩] (ki _ _ _ _) (gh _ _ _ _) rfl n aA aB A V);have J:=(aa bD).frm (S:=fun _=>False) (aE.of_below ap) (fun _ _ q=>q) (fun _ q=>q.elim);have aO:=(aa bz).then (aE.of_below (S:=fun _=>False) ap) (fun _ _ q=>q.elim);have am:=ag (aa bv) ap;have bn:=bV.small;have ch:m.nw=d.now:=J.num.nw;have cp:m.wt=d.wait:=J.num.wt;have cm:=H.wt;have co:=H.wq;have cj:=H.q;have cg:=H.linLe;have cn:=H.wn
  have cd:I.length=d.wks.length:=by rw[show d.wks=I.map (Option.map Wk.f) from J.pu.wks,zY]
  have b4:=join_any fb m d.ver sl pv d.LS (ri d.PI) d.waiting d.line I d.arrived l z x y C J.blk J.mem.sto J.mem.wai J.mem.lin J.mem.wkv J.wksAt bn.1 bn.2 (by omega) (by omega) (by omega) (by omega)
  have aW:C.rangeAt N 0 (#[l,z,x,y]:Array Value).toList:=ao am;have bF:=ae J;have bA:=ae aO;clear aP V ap W aN J aO am bD bz bv ch cp cm co cj cg cn cd bn
  go_wp2_with (first|refine cP _ _ (aa ad _ _ rfl) rfl ?_|refine cU _ (aa al _ _ _ _ rfl rfl rfl) rfl ?_|refine vM aW rfl _ rfl rfl ?_)
  refine b4.mono ?_;rintro e F ⟨rfl,⟨b2,b1,bU,Y,bW,b0,bX⟩,aF⟩
  have aZ:Hid (∃rv,Ending.returned (.tuple #[d.arrived,.slice none 0 0])=.returned (.tuple #[d.arrived,rv])/\dt w fb ab (arr d p tag).1 (arr d p tag).2 rv F):=by
   refine⟨_,rfl,?_⟩;rw[aa aY];have h:=aa bF;have aO:=aa bA;have cA:=aO.size;have a5:aE (fun k=>k=fb\/m.wv.ownBlock=some k\/m.lv.ownBlock=some k) w F:=(aO.mono (S':=fun k=>k=fb\/m.wv.ownBlock=some k\/m.lv.ownBlock=some k) fun k _ q=>Or.inl q).then aF (fun k _ q=>q)
   have bd:∀{α:Type} {R:dR α} {T:TypeId} {v:Value} {q:List α},ah R T C v q->T≠129->T≠201->T≠39->ah R T F v q:=fun H ax bo bp=>H.frm aF (fun g K q=>by
    rcases q with q|q|q
    ·exact au H h.blk ax g K q
    ·obtain⟨c,L⟩:=h.mem.wai.ty q
     exact au H L bo g K rfl
    obtain⟨c,L⟩:=h.mem.lin.ty q;exact au H L bp g K rfl)
   have a1:∀{c:Array Value} {T:TypeId} {f:Nat × Nat} {g:Nat},C.heap[g]?=some (.cells c T f)->T≠129->T≠201->T≠39->¬(g=fb\/m.wv.ownBlock=some g\/m.lv.ownBlock=some g):=fun D ax bo bp q=>by
    rcases q with q|q|q
    ·exact aI D h.blk ax q
    ·obtain⟨c,L⟩:=h.mem.wai.ty q
     exact aI D L bo rfl
    obtain⟨c,L⟩:=h.mem.lin.ty q;exact aI D L bp rfl
   have ck:=h.mem.sto.frm aF (a1 h.mem.sto.blk (by decide) (by decide) (by decide)) (fun g K=>by obtain⟨c,L⟩:=h.mem.sto.own.ty K; exact a1 L (by decide) (by decide) (by decide)) (fun g K=>by obtain⟨c,L⟩:=h.mem.sto.pins.ty K; exact a1 L (by decide) (by decide) (by decide))
   have bt:∀k,aw fb { m with wv:=b2,lv:=b1 } sl pv I k->aw fb m sl pv I k\/w.heap.size<=k:=fun k G=>G.elim (Or.inl aw.iF) (Or.inl aw.iS) (fun _ q=>Or.inl (aw.iL q)) (fun _ q=>Or.inl (aw.iP q)) (fun k q=>(b0 k q).imp (fun q=>aw.iW q) (fun q=>by omega)) (fun k q=>(bX k q).imp (fun q=>aw.iN q) (fun q=>by omega)) (fun _ q=>Or.inl (aw.iK q)) (fun _ q=>Or.inl (aw.iT q)) (fun _ _ ay=>⟨Or.inl (aw.iG ay),fun _ q=>Or.inl (aw.iR ay q)⟩)
   have bQ:∀k,(k=fb\/m.wv.ownBlock=some k\/m.lv.ownBlock=some k)->aw fb m sl pv I k:=fun k q=>by
    rcases q with rfl|q|q
    ·exact aw.iF
    ·exact aw.iW q
    exact aw.iN q
   refine⟨aU,fun g K=>by simp[Value.ownBlock] at K,⟨{ m with wv:=b2,lv:=b1 },sl,pv,I,⟨bU,⟨h.num.q,h.num.wt,h.num.ch,h.num.nw,h.num.ar,h.num.st,h.num.rm⟩,⟨h.pu.wks,h.pu.rd,h.pu.dis⟩,h.ver,⟨ck,?_,?_,bd h.mem.til (by decide) (by decide) (by decide),bd h.mem.wkv (by decide) (by decide) (by decide),fun i u ay=>?_⟩,?_,fun k G=>(bt k G).elim (h.lo k) (fun q=>by omega)⟩,fun k G=>(bt k G).imp (fun q=>az k (aa ak k q)) id⟩,a5.mono fun k _ q=>az k (aa ak k (bQ k q))⟩
   ·have e:m.nw+m.wt=(d.now:Int)+d.wait:=by rw[show m.nw=d.now from h.num.nw,show m.wt=d.wait from h.num.wt]
    rw[e] at Y;exact Y
   ·have e:l6 d.line I (⟨l,z,x-x%2,y-y%2⟩:K4)=(FM.join { d with arrived:=d.arrived+1 } d.arrived ⟨l,z,x,y⟩).line:=by
     unfold l6 FM.join FM.hasFl;rw[hasW_eq h.pu.wks];rfl
    rw[<-e];exact bW
   ·obtain⟨a,b⟩:=h.mem.wat i u ay
    exact⟨aQ a aF (a1 a (by decide) (by decide) (by decide)),bd b (by decide) (by decide) (by decide)⟩
   exact h.glb.frm aF fun k q=>h.lo k (bQ k q)
  clear bU Y bW b0 bX aF bF bA aY b4 aW
  go_wp2
  go_ret2
  exact aa aZ
 have cF:(er==0)=false:=by simpa using bk
 have RF:=refusal_any er B
 have Z:arr d p tag=d.arriveE er:=by unfold arr; rw[ac]; exact zK bk
 have aY:=ae Z;clear Z ac
 obtain⟨st,a6⟩:∃st:Int,(if er=1 then 400 else 404)=st:=⟨_,rfl⟩
 rw[a6] at RF;have cq:=ae a6;clear a6;have av:=(zV B.heap.size B).alloc aD (.cells #[d.arrived,st,.string ⟨#[]⟩,.string ⟨#[]⟩] 103)
 have aL:ah bE 103 (B.alloc (.cells #[d.arrived,st,.string ⟨#[]⟩,.string ⟨#[]⟩] 103)) (.slice (some ⟨B.heap.size,0,none⟩) 1 1) [⟨d.arrived,st,⟨#[]⟩,⟨#[]⟩⟩]:=cr (R:=bE) (T:=103) B [⟨d.arrived,st,⟨#[]⟩,⟨#[]⟩⟩] #[d.arrived,st,.string ⟨#[]⟩,.string ⟨#[]⟩] rfl (show 1<=maxLen by decide)
 have aZ:Hid (∃rv,Ending.returned (.tuple #[d.arrived,.slice (some ⟨B.heap.size,0,none⟩) 1 1])=.returned (.tuple #[d.arrived,rv])/\dt w fb ab (arr d p tag).1 (arr d p tag).2 rv (B.alloc (.cells #[d.arrived,st,.string ⟨#[]⟩,.string ⟨#[]⟩] 103))):=by
  refine⟨_,rfl,?_⟩;rw[aa aY]
  have e:(d.arriveE er).2=[⟨d.arrived,st,⟨#[]⟩,⟨#[]⟩⟩]:=by unfold FM.arriveE; rw[aa cq]
  rw[e];have r:=aa aj
  exact⟨aL,fun g K=>by have:=(aa ai).size; simp only[Value.ownBlock,zy] at K; omega,⟨m,sl,pv,I,r.frm (S:=fun _=>False) (aE.of_below av) (fun _ _ q=>q) (fun _ q=>q.elim),fun k G=>Or.inl (az k (aa ak k G))⟩,((aa ai).then (aE.of_below (S:=fun _=>False) av) (fun _ _ q=>q.elim)).mono fun k _ q=>q▸a2⟩
 clear av aL aj ai aM aY
 go_wp2_with (first|refine cP _ _ (aa ad _ _ rfl) rfl ?_|refine cU _ (aa al _ _ _ _ rfl rfl rfl) rfl ?_)
 refine RF.mono ?_;rintro e j ⟨rfl,rfl⟩;clear RF
 go_wp2_with (first|refine cP _ _ (bt35 d.arrived st _ _ _ _ rfl rfl rfl _) rfl ?_|refine cP _ _ (gz d.arrived st ⟨#[]⟩ ⟨#[]⟩ _ _ _ rfl rfl _) rfl ?_)
 go_ret2
 exact aa aZ
variable {F:FM}
theorem Ok.pins (h:Ok Oz F):F.PI.length<=4:=by
 have:=h.pin.length_eq;have:=fls_len F;have:=h.wn;simp only[zY] at *;omega
theorem Ok.held (h:Ok Oz F){f:Fl}(a:f∈F.fls):(f.reads:Int)∈F.PI:=h.pin.mem_iff.2 (yH.2 ⟨f,a,rfl⟩)
theorem heldP {ver:Nat}{PI:List Int}{v:Nat}(a:v<=ver)(h:(v:Int)∈PI):bS 0 ver (ri PI) v=true:=by
 unfold bS;rw[hasP_ri];simp[h,a]
theorem Work_any (fb:Nat)(C:Nat->Prop)(d:FM)(a:Int)(w:World)(h:eR w fb C d)(f:Ok Oz d)(bQ:d.started<=1000000000):
  Calls prog 42 #[some fb,a] w fun e w'=>∃rv,e=.returned rv/\dt w fb C (kV d a).1 (kV d a).2 rv w':=by
 have Q:=h;obtain⟨X,sl,pv,r,h,n⟩:=h;have E:=h.blk;have bS:=h.wlen;have bT:=f.wn
 by_cases ba:a<0
 ·have s:Hid (∃rv,Ending.returned (.slice none 0 0)=.returned rv/\dt w fb C (kV d a).1 (kV d a).2 rv w):=by
   have e:kV d a=(d,[]):=by unfold kV; rw[zJ ba]
   rw[e];exact⟨_,rfl,dt.same Q⟩
  clear h Q E n f;go_enter func42,ntmps42
  go_wp2
  go_ret;exact aa s
 obtain⟨i,rfl⟩:∃i:Nat,a=i:=⟨a.toNat,by omega⟩
 obtain⟨bA,cap,K,_,_,_⟩:=h.mem.wkv.at;rw[zY] at K
 have bW:w.cell? ⟨fb,9,none⟩=some (.slice bA r.length cap):=by rw[<-K]; exact E.cells.2.2.2.2.2.2.2.2.2.1
 have x:kV d (i:Int)=d.work Oz i:=by unfold kV; rw[zK ba]; simp
 by_cases am:i<r.length
 ·have bM:(i:Int)<(r.length:Int):=by omega
  cases j:r[i]? with
  | none=>exact absurd (List.getElem?_eq_none_iff.1 j) (by omega)
  | some o=>
  have U:(r.map (Option.map Wk.g))[i]?=some (o.map Wk.g):=by rw[zg,j]; rfl
  obtain⟨b,off,bG,z⟩:=h.mem.wkv.wkC U;have m:=z.kv;rw[zY,K] at m;simp only[Value.slice.injEq,true_and] at m;obtain⟨rfl,rfl⟩:=m
  cases o with
  | none=>
   have a5:w.cell? ⟨b,off+i,none⟩=some (.pointer none):=z.c;have D:=h.wat? j
   cases ak:d.line with
   | nil=>
    have a3:=take_none fb X w E (ak▸h.mem.lin)
    obtain⟨v,p,B⟩:=h.mem.wkv.kvset (by rw[zY]; exact am) z none
    obtain⟨w1,aK⟩:∃w1,w.setCell ⟨b,off+i,none⟩ (.pointer none)=w1:=⟨_,rfl⟩;have I:w.setCell ⟨b,off+i,none⟩ (ptr none)=w1:=aK;rw[I] at v p;have a8:=h.idle j v p B
    have s:Hid (∃rv,Ending.returned (.slice none 0 0)=.returned rv/\dt w fb C (kV d (i:Int)).1 (kV d (i:Int)).2 rv w1):=by
     have e:d.work Oz i=(d,[]):=by unfold FM.work; simp only[D,Option.map_none]; unfold FM.takeW; rw[ak]
     rw[x,e]
     exact⟨_,rfl,⟨aU,fun g ac=>by simp[Value.ownBlock] at ac,⟨X,sl,pv,r,a8,fun k A=>Or.inl (n k A)⟩,p.mono fun k _ q=>n k (aw.iK q)⟩⟩
    have bl:=z.fz;have bi:=ae aK;clear h Q E n f v p B a8 aK I z U j D x;go_enter func42,ntmps42
    go_wp2_with fail
    refine a3.mono ?_;rintro e b2 ⟨rfl,rfl⟩;clear a3
    go_wp2_with (refine cU w1 (stP1 _ _ _ _ rfl b (off+i) none rfl rfl w w1 a5 bl (aa bi)) rfl ?_)
    go_ret;exact aa s
   | cons bs rest=>
    obtain⟨bt,bv,bu,bj⟩:=bs
    have bf:=f.v100;have aW:=f.pins;have al:=h.ver.len;have ab:=f.ch
    have a4:=take_some fb X d.ver sl pv d.LS (d.FLs d.ver) d.PI d.chunk bt bv bu bj rest w E h.num.ch ab h.mem.sto (by omega) (by omega) (by omega) (h.ver.rel d.ver aD).1 (by have:=h.num.st; omega) (ak▸h.mem.lin)
    have N:=ae h;have bo:=ae (h.mem.wkv);have an:=ae z;clear h Q E z al aW ab;go_enter func42,ntmps42
    go_wp2_with fail
    refine a4.mono ?_;rintro e w1 ⟨rfl,bb,⟨bU,bn,aF,aP,aV,aZ,aX⟩,H⟩;have h:=aa N
    have a9:fQ (fun k=>k=fb\/k=X.sb\/pv.ownBlock=some k) w [129,119,3]:=fun k q=>by
     rcases q with rfl|rfl|q
     ·exact⟨_,_,h.blk,by simp⟩
     ·exact⟨_,_,h.mem.sto.blk,by simp⟩
     obtain⟨c,bx⟩:=h.mem.sto.pins.ty q
     exact⟨_,_,bx,by simp⟩
    have L:=h.mem.wkv.frmT H a9 (by decide)
    obtain⟨br,bh,be,m⟩:=L.wkC U;have O:=m.kv;rw[zY,K] at O;simp only[Value.slice.injEq,zy,Addr.mk.injEq,true_and,and_true] at O;obtain⟨⟨rfl,rfl⟩,rfl⟩:=O
    obtain⟨v,p,B⟩:=L.kvset (by rw[zY]; exact am) m (some w.heap.size)
    obtain⟨l,M⟩:∃l,w1.setCell ⟨b,off+i,none⟩ (.pointer (some ⟨w.heap.size,0,none⟩))=l:=⟨_,rfl⟩;have I:w1.setCell ⟨b,off+i,none⟩ (ptr (some w.heap.size))=l:=M;rw[I] at v p;obtain⟨G,S,V⟩:=h.take j ak bb aF aP aV aZ aX H v p B
    have s:Hid (∃rv,Ending.returned (.slice none 0 0)=.returned rv/\dt w fb C (kV d (i:Int)).1 (kV d (i:Int)).2 rv l):=by
     have e:d.work Oz i=(d.takeW i,[]):=by unfold FM.work; simp only[D,Option.map_none]
     rw[x,e]
     exact⟨_,rfl,⟨aU,fun g ac=>by simp[Value.ownBlock] at ac,⟨_,sl,bn,_,G,fun k A=>(S k A).imp (n k) id⟩,V.mono fun k _ q=>n k q⟩⟩
    have aB:w1.cell? ⟨b,off+i,none⟩=some (.pointer none):=m.c;have aC:=m.fz
    have bk:w1.cell? ⟨fb,9,none⟩=some (.slice (some ⟨b,off,none⟩) r.length cap):=by rw[<-K]; exact(aq.cells aF).2.2.2.2.2.2.2.2.2.1
    have az:=ae M;clear h n f v p B G S V M I bb aF aP aV aZ aX H a9 L m a4 N bo an U j D x
    go_wp2_with (refine cU l (stP1 _ _ _ _ rfl b (off+i) (some ⟨w.heap.size,0,none⟩) rfl rfl w1 l aB aC (aa az)) rfl ?_)
    go_ret;exact aa s
  | some u=>
   have a5:w.cell? ⟨b,off+i,none⟩=some (.pointer (some ⟨u.g,0,none⟩)):=z.c;have D:=h.wat? j;have aj:=wk_fls h.pu.wks j;obtain⟨ap,ar,J,a6,a7⟩:=f.flt u.f aj;have bf:=f.v100;have aW:=f.pins;have al:=h.ver.len;have ab:=f.ch;have bI:=ar.pos;obtain⟨u1,u2⟩:=h.mem.wat i u j;obtain⟨bd,bB,bC⟩:=h.pu.rd i u j;have bE:=ar.le (h.ver.rel u.f.reads ap).1.le40 ab.1
   have aM:=step_any fb X d.ver sl pv d.LS (ri d.PI) (d.FLs u.f.reads) u.R d.chunk u.g u.f.b.l u.f.b.z u.f.b.x u.f.b.y u.f.reads u.f.left u.rv w E h.num.ch ab h.mem.sto (by omega) (by rw[fI]; omega) (by omega) (heldP ap (f.held aj)) (h.ver.rel u.f.reads ap).1 u1 u2 bd (by omega)
   have N:=ae h;have ao:=ae f;have an:=ae z;have ax:=ae ar;have aQ:=ae u1;have ah:=ae a7;have ag:=ae a6;have ay:=ae aj;clear h Q E z f u1 u2 bd bB bC ar a7 a6 aj;go_enter func42,ntmps42
   go_wp2_with fail
   refine aM.mono ?_;rintro e w1 ⟨rfl,⟨y,rv',Z,ai,Y,aH,aI⟩,H⟩;obtain⟨G,S,V⟩:=(aa N).step (aa ao) j Z ai Y aH aI H
   have ad:aE C w w1:=H.mono fun k _ q=>by
    rcases q with rfl|q
    ·exact n _ (aw.iG j)
    exact n _ (aw.iR j q)
   have bV:w1.cell? ⟨u.g,5,none⟩=some (.int .i64 ((u.f.left:Int)-1)):=(af Z 5).trans rfl
   by_cases aT:1<u.f.left
   ·have bm:(0:Int)<(u.f.left:Int)-1:=by omega
    have s:Hid (∃rv,Ending.returned (.slice none 0 0)=.returned rv/\dt w fb C (kV d (i:Int)).1 (kV d (i:Int)).2 rv w1):=by
     have e:d.work Oz i=({ d with wks:=d.wks.set i (some (u.f.step (d.FLs u.f.reads).length d.chunk)) },[]):=by unfold FM.work; simp only[D,Option.map_some]; rw[zJ aT]
     rw[x,e]
     exact⟨_,rfl,⟨aU,fun g ac=>by simp[Value.ownBlock] at ac,⟨_,sl,pv,_,G,fun k A=>(S k A).imp (n k) id⟩,ad⟩⟩
    clear G S V ad Z ai Y aH aI H aM N ao an ax aQ ah ag ay j U D x n al
    go_wp2
    go_ret;exact aa s
   have bg:u.f.left=1:=by omega
   have bm:¬(0:Int)<(u.f.left:Int)-1:=by omega
   have aG:i<(r.set i (some (u.next (d.FLs u.f.reads).length d.chunk rv' y))).length:=by rw[zn]; exact am
   have L:=G.mem.wkv
   have aO:((r.set i (some (u.next (d.FLs u.f.reads).length d.chunk rv' y))).map (Option.map Wk.g))[i]?=some (some u.g):=by
    rw[zg,yZ,zJ rfl,zJ am]; rfl
   obtain⟨br,bh,be,m⟩:=L.wkC aO;have O:=m.kv;rw[zY,zn,K] at O;simp only[Value.slice.injEq,zy,Addr.mk.injEq,true_and,and_true] at O;obtain⟨⟨rfl,rfl⟩,rfl⟩:=O
   obtain⟨v,p,B⟩:=L.kvset (by rw[zY]; exact aG) m none
   obtain⟨l,M⟩:∃l,w1.setCell ⟨b,off+i,none⟩ (.pointer none)=l:=⟨_,rfl⟩;have I:w1.setCell ⟨b,off+i,none⟩ (ptr none)=l:=M;rw[I] at v p;obtain⟨F,bc⟩:=G.gone aG v p B
   have aS:=bJ Z p B (by decide)
   have aR:=(ownR_nf ai).frmT p B (by decide)
   have a1:((r.set i (some (u.next (d.FLs u.f.reads).length d.chunk rv' y))).set i none)[i]?=some none:=by
    rw[yZ,zJ rfl,zJ aG]
   have f:=aa ao;have bF:=f.rm
   have av:((u.R++y).map nf).length=(d.FLs u.f.reads).length:=by
    have q:((u.R++y).map nf).length=min (u.f.got+d.chunk) (d.FLs u.f.reads).length:=V
    rw[q]; exact(aa ax).end_ bg
   have T:=(aa N).ver.rel u.f.reads ap
   have au:∀k∈u.f.b.keys,dy k:=fun k A=>by rw[aa ah] at A; exact((jR (aa ag)).1 A).1
   have a0:u.f.b.keys.map (bR ((u.R++y).map nf) d.LS u.f.reads)=d.tilesOf Oz u.f:=by
    unfold FM.tilesOf
    apply List.map_congr_left
    intro k A;show(⟨k,cg ((u.R++y).map nf) k,du k (eA u.f.reads k d.LS)⟩:aL)=⟨k,cg (d.FLs u.f.reads) k,du k (eA u.f.reads k d.LS)⟩;rw[body_read Y.norm T.2 (oT _) av T.1.rt T.1.dis (au k A)]
   have aJ:(0<=u.f.b.x/\u.f.b.x<=4194304)/\(0<=u.f.b.y/\u.f.b.y<=4194304):=by
    rw[aa ah];obtain⟨b0,b1⟩:=(aa ag).small;show(0<=J.x-J.x%2/\J.x-J.x%2<=4194304)/\(0<=J.y-J.y%2/\J.y-J.y%2<=4194304);omega
   have bO:=f.wq;have bP:=f.q;have bN:=f.linLe;have bK:=f.byt;have aY:=Y.norm.rt T.1.rt
   have bH:7*d.tiles.length<=aA d.tiles:=f5 d.tiles fun t bz=>by
    obtain⟨a,b⟩:=f.til t bz
    rw[b]; exact(f.hi.bod d.ver aD t.k a).1
   have a2:=finish_any fb X d.room d.ver sl pv d.LS ((u.R++y).map nf) d.PI d.waiting d.line d.tiles u.g u.f.b.l u.f.b.z u.f.b.x u.f.b.y u.f.reads ((u.f.left:Int)-1) rv' l F.blk F.num.rm (by omega) F.mem.sto (by omega) au aJ.1 aJ.2 (by omega) (by omega) F.glb (by omega) (f.held (aa ay)) aS aR (by rw[av]; exact T.1.le40) aY F.mem.wai (fun bD R=>(f.req bD R).2.2.2.1) F.mem.lin F.mem.til (by omega) (by omega) (by omega) (by omega)
   have aB:w1.cell? ⟨b,off+i,none⟩=some (.pointer (some ⟨u.g,0,none⟩)):=m.c;have aC:=m.fz
   have bk:w1.cell? ⟨fb,9,none⟩=some (.slice (some ⟨b,off,none⟩) r.length cap):=by rw[<-K]; exact(aq.cells G.blk).2.2.2.2.2.2.2.2.2.1
   have aN:aE C w l:=ad.then p fun k _ q=>n k (aw.iK q)
   have s:Hid (∀rv W,FinR fb u.g X d.room d.ver sl d.LS ((u.R++y).map nf) d.PI d.waiting d.line d.tiles u.f.b u.f.reads l rv W->dt w fb C (kV d (i:Int)).1 (kV d (i:Int)).2 rv W):=by
    intro rv W R;have P:=gF.finish (fl:=u.f) F a1 rfl a0 R
    have e:d.work Oz i=d.finishW Oz i u.f:=by unfold FM.work; simp only[D,Option.map_some]; rw[zK aT]
    have bw:(({ d with wks:=(d.wks.set i (some (u.f.step (d.FLs u.f.reads).length d.chunk))).set i none }:FM)).finishW Oz i u.f=d.finishW Oz i u.f:=by
     unfold FM.finishW;simp only[List.set_set];rfl
    have bq:dt l fb (fun k=>aw fb X sl pv ((r.set i (some (u.next (d.FLs u.f.reads).length d.chunk rv' y))).set i none) k) (d.finishW Oz i u.f).1 (d.finishW Oz i u.f).2 rv W:=by rw[<-bw]; exact P
    rw[x,e];exact bq.trans aN fun k q=>(S k (bc k q)).imp (n k) id
   have az:=ae M;clear G S V ad Z ai Y aH aI H aM N ao an ax aQ ah ag ay j U D x n al v p B F bc aS aR a1 f T au a0 aJ aY aN L m aO av M I
   go_wp2_with (refine cU l (stP1 _ _ _ _ rfl b (off+i) none rfl rfl w1 l aB aC (aa az)) rfl ?_)
   refine a2.mono ?_;rintro e W ⟨rv,rfl,R⟩;obtain⟨bX,bZ,bY,rfl⟩:=R.reps.sl;have bp:=ae (aa s _ W R);clear R a2 s
   go_wp2
   go_ret;exact⟨_,rfl,aa bp⟩
 have s:Hid (∃rv,Ending.returned (.slice none 0 0)=.returned rv/\dt w fb C (kV d (i:Int)).1 (kV d (i:Int)).2 rv w):=by
  have e:d.work Oz i=(d,[]):=by
   unfold FM.work
   have:d.wks[i]?=none:=List.getElem?_eq_none_iff.2 (by omega)
   simp only[this]
  rw[x,e];exact⟨_,rfl,dt.same Q⟩
 have bL:¬(i:Int)<(r.length:Int):=by omega
 clear h Q E n f x;go_enter func42,ntmps42
 go_wp2
 go_ret;exact aa s
namespace Pk
theorem gU (s:ByteArray)(w:World)(h:s.size<=maxLen):
  Calls prog 184 #[s] w fun e w'=>e=.returned (.bool (Pt.okPic s.data.toList))/\w=w':=by
 unfold maxLen at h;go_enter func184,ntmps184
 go_wp2
 go_loop [3] (fun i=>∃k:Nat,k<=s.size/\i=.int .i64 k/\Hid (within 0 15 (s.data.toList.take k)=true)) (fun i=>s.size-(intOf i).toNat)
 ·exact⟨0,yF _,rfl,ae rfl⟩
 obtain⟨k,l,rfl,b⟩:=hrel
 by_cases c:k<s.size
 ·by_cases j:15<(s[k].toNat:Int)
  ·go_wp2
   go_ret;refine⟨ai ?_,rfl⟩
   have g:=cC 0 15 s k c (by omega)
   by_cases a:s.size=64
   ·rw[<-i7 _ (by simpa using a)]; exact g.symm
   exact(notpic s a).symm
  go_wp2
  go_round
  ·exact⟨k+1,by omega,by go_num,ae (eG 0 15 s k c (aa b) (by omega))⟩
  simp[intOf]; omega
 by_cases a:s.size=64
 ·have f:((s.size:Int)==64)=true:=by simp; omega
  have d:=ae a;clear a
  go_wp2
  go_ret;refine⟨ai ?_,rfl⟩;have:=aa b
  rw[z1 (by simp; omega)] at this
  rw[<-i7 _ (by simpa using aa d),this]
 have f:((s.size:Int)==64)=false:=by simp; omega
 go_wp2
 go_ret;exact⟨ai (notpic s a).symm,rfl⟩
def back (l:List UInt8):Nat->Nat
 | 0=>0
 | k+1=>if l[k+1]?=l[k]? then back l k+1 else 0
theorem pG (l:List UInt8):∀k,back l k<=k
 | 0=>zz _
 | k+1=>by have:=pG l k; unfold back; split<;>omega
theorem mg (s:ByteArray)(k:Nat)(h:k<s.size):s.data.toList[k]?=some s[k]:=by
 rw[zQ (by simpa using h)]; rfl
def jE (s:ByteArray)(i f:Nat):Prop:=s.data.toList[f]?=s.data.toList[i]?/\back s.data.toList i=(i-f)+back s.data.toList f
theorem pH (s:ByteArray)(i:Nat):jE s i i:=⟨rfl,by omega⟩
theorem backSo_step (s:ByteArray)(i g:Nat)(e:g+1<=i)(hi:i<s.size)(d:s[g]=s[i])(h:jE s i (g+1)):jE s i g:=by
 obtain⟨b,c⟩:=h
 have a:s.data.toList[g]?=s.data.toList[i]?:=by rw[mg s g (by omega),mg s i hi,d]
 refine⟨a,?_⟩;rw[c,back,zJ (b.trans a.symm)];omega
theorem backSo_end0 (s:ByteArray)(i:Nat)(h:jE s i 0):back s.data.toList i=i:=by
 rw[h.2]; simp[back]
theorem backSo_end (s:ByteArray)(i g:Nat)(f:g+1<=i)(hi:i<s.size)(e:¬s[g]=s[i])(h:jE s i (g+1)):back s.data.toList i=i-(g+1):=by
 obtain⟨a,b⟩:=h
 have c:¬s.data.toList[g+1]?=s.data.toList[g]?:=by
  rw[a,mg s g (by omega),mg s i hi]
  intro d;exact e (zu d).symm
 rw[b,back,zK c];omega
theorem back_out (s:ByteArray)(i f:Nat)(c:f<=i)(hi:i<s.size)(d:¬ ∃_:0<f,s[f-1]'(by omega)=s[i])(h:jE s i f):back s.data.toList i=i-f:=by
 by_cases a:f=0
 ·subst a; exact backSo_end0 s i h
 obtain⟨g,rfl⟩:∃g,f=g+1:=⟨f-1,by omega⟩
 refine backSo_end s i g c hi ?_ h;intro b
 exact d ⟨by omega,by simpa using b⟩
def i6 (s:ByteArray)(i:Nat)(c:UInt8)(n:Nat):Prop:=Pt.lead c 64 (s.data.toList.drop (i+1))=n+Pt.lead c (64-n) (s.data.toList.drop (i+1+n))
theorem fwdSo_start (s:ByteArray)(i:Nat)(c:UInt8):i6 s i c 0:=by unfold i6; simp
theorem fwdSo_more (s:ByteArray)(i:Nat)(c:UInt8)(n:Nat)(d:n<64)(b:i+1+n<s.size)(a:s[i+1+n]=c)(h:i6 s i c n):i6 s i c (n+1):=by
 unfold i6 at h ⊢
 rw[h,dP s (i+1+n) b,show 64-n=(64-(n+1))+1 from by omega]
 simp only[Pt.lead,a,if_true]
 rw[show i+1+n+1=i+1+(n+1) from by omega]
 omega
theorem fwdSo_endS (s:ByteArray)(i:Nat)(c:UInt8)(n:Nat)(b:n<64)(a:¬i+1+n<s.size)(h:i6 s i c n):Pt.lead c 64 (s.data.toList.drop (i+1))=n:=by
 unfold i6 at h
 rw[xX (l:=s.data.toList) (i:=i+1+n) (by simp; omega),show 64-n=(63-n)+1 from by omega] at h
 simpa[Pt.lead] using h
theorem fwdSo_endC (s:ByteArray)(i:Nat)(c:UInt8)(n:Nat)(d:n<64)(b:i+1+n<s.size)(a:¬s[i+1+n]=c)(h:i6 s i c n):Pt.lead c 64 (s.data.toList.drop (i+1))=n:=by
 unfold i6 at h
 rw[dP s (i+1+n) b,show 64-n=(63-n)+1 from by omega] at h
 simpa[Pt.lead,a] using h
theorem stretch_any (s:ByteArray)(i:Nat)(w:World)(H:s.size<=64)(hi:i<s.size):
  Calls prog 185 #[s,i] w fun e w'=>e=.returned (.tuple #[.int .i64 ((i:Int)-(back s.data.toList i:Int)),.int .i64 ((i:Int)+1+(Pt.lead s[i] 64 (s.data.toList.drop (i+1)):Int))])/\∃q,w'=w.drewN q:=by
 obtain⟨c,m⟩:∃c,c=s[i]:=⟨_,rfl⟩;rw[<-m];have t:=ae m;clear m
 have D:(i:Int)<(s.size:Int):=by omega
 go_enter func185,ntmps185
 go_wp2
 go_loopw [6] (fun v wr=>∃f:Nat,f<=i/\v=.int .i64 f/\Hid (jE s i f)/\∃q,wr=w.drewN q) (fun v _=>(intOf v).toNat)
 ·exact⟨i,zz _,rfl,pH s i,0,rfl⟩
 obtain⟨f,y,rfl,k,q,rfl⟩:=hrel
 by_cases j:∃h:0<f,s[f-1]'(by omega)=s[i]
 ·obtain⟨p,a⟩:=j
  obtain⟨g,rfl⟩:∃g,f=g+1:=⟨f-1,by omega⟩
  simp only[ye] at a
  have B:g<s.size:=by omega
  have z:(0:Int)<((g+1:Nat):Int):=by omega
  have l:((s[g].toNat:Int)==(s[i].toNat:Int))=true:=by rw[a]; simp
  have A:=ae (backSo_step s i g y hi a (aa k));clear a k
  go_wp2_with fail
  go_quiet (fail)
  go_wp2
  go_roundw
  ·exact⟨g,by omega,by go_num,A,_,rfl⟩
  simp[intOf]
 have u:=ae (back_out s i f y hi j (aa k));have C:=pG s.data.toList i;clear k
 by_cases p:0<f
 focus
  obtain⟨g,rfl⟩:∃g,f=g+1:=⟨f-1,by omega⟩
  have B:g<s.size:=by omega
  have r:¬s[g]=s[i]:=fun h=>j ⟨p,by simpa using h⟩
  have z:(0:Int)<((g+1:Nat):Int):=by omega
  have l:((s[g].toNat:Int)==(s[i].toNat:Int))=false:=by
   rw[zc];intro h
   exact r (UInt8.toNat_inj.1 (by omega))
  clear r j
  go_wp2_with fail
  go_quiet (fail)
  clear l z
 rotate_left
 focus
  have x:decide ((0:Int)<(f:Int))=false:=by simp; omega
  clear j
  go_wp2_with fail
  go_quiet (fail)
  clear x
 all_goals
  go_wp2
  go_loopw [7] (fun v wr=>∃n:Nat,i+1+n<=s.size/\v=.int .i64 ((i:Int)+1+(n:Int))/\Hid (i6 s i c n)/\∃q,wr=w.drewN q) (fun v _=>s.size-(intOf v).toNat)
  ·exact⟨0,by omega,by simp,fwdSo_start s i c,(by first|exact⟨_,rfl⟩|exact dd _ _ _)⟩
  obtain⟨n,G,rfl,b,q,rfl⟩:=hrel
  by_cases o:i+1+n<s.size
  ·have E:(i:Int)+1+(n:Int)<(s.size:Int):=by omega
   have I:(0:Int)<=(i:Int)+1+(n:Int):=by omega
   have F:((i:Int)+1+(n:Int)).toNat=i+1+n:=by omega
   by_cases a:s[i+1+n]=s[i]
   ·have l:((s[i+1+n].toNat:Int)==(s[i].toNat:Int))=true:=by rw[a]; simp
    have d:=ae (fwdSo_more s i c n (by omega) o (a.trans (aa t).symm) (aa b))
    clear a b
    go_wp2_with fail
    go_quiet (fail)
    go_wp2
    go_roundw
    ·exact⟨n+1,by omega,by go_num,d,_,rfl⟩
    simp[intOf]; omega
   have l:((s[i+1+n].toNat:Int)==(s[i].toNat:Int))=false:=by
    rw[zc];intro h
    exact a (UInt8.toNat_inj.1 (by omega))
   have d:=ae (fwdSo_endC s i c n (by omega) o (by rw[aa t]; exact a) (aa b))
   clear a b
   go_wp2_with fail
   go_quiet (fail)
   go_wp2
   go_ret2
   exact⟨oD (by have:=aa u; omega) (by rw[aa d]),(by first|exact⟨_,rfl⟩|exact dd _ _ _)⟩
  have x:decide ((i:Int)+1+(n:Int)<(s.size:Int))=false:=by simp; omega
  have d:=ae (fwdSo_endS s i c n (by omega) o (aa b))
  clear b
  go_wp2_with fail
  go_quiet (fail)
  go_wp2
  go_ret2
  exact⟨oD (by have:=aa u; omega) (by rw[aa d]),(by first|exact⟨_,rfl⟩|exact dd _ _ _)⟩
theorem lead_min (c:UInt8):∀(n m:Nat) (r:List UInt8),m<=n->Pt.lead c m r=min m (Pt.lead c n r)
 | _,0,_,_=>by simp[Pt.lead]
 | 0,m+1,_,h=>by omega
 | n+1,m+1,[],_=>by simp[Pt.lead]
 | n+1,m+1,x::r,h=>by
  have:=lead_min c n m r (by omega)
  unfold Pt.lead
  split<;>omega
def rest (l:List UInt8):Nat->List UInt8
 | 0=>Pt.runs l
 | k+1=>Pt.runs ((l.drop (k+1)).drop (Pt.lead (l.getD k 0) (15-back l k%16) (l.drop (k+1))))
theorem kt (l:List UInt8)(k:Nat)(h:k<l.length):l.drop k=l.getD k 0::l.drop (k+1):=by
 rw[yl h]; simp[h]
theorem back_eq (l:List UInt8)(j:Nat)(h:j+1<l.length):back l (j+1)=if l.getD (j+1) 0=l.getD j 0 then back l j+1 else 0:=by
 have e:(l[j+1]?=l[j]?)=(l.getD (j+1) 0=l.getD j 0):=by
  rw[zQ h,zQ (show j<l.length by omega)]
  simp[h,show j<l.length by omega]
 simp only[back,e]
theorem rest_start (l:List UInt8)(k:Nat)(h:k<l.length)(a:back l k%16=0):rest l k=Pt.runs (l.drop k):=by
 cases k with
 | zero=>rfl
 | succ j=>
  rw[back_eq l j h] at a
  have:Pt.lead (l.getD j 0) (15-back l j%16) (l.drop (j+1))=0:=by
   rw[kt l (j+1) h]
   by_cases b:l.getD (j+1) 0=l.getD j 0
   ·rw[zJ b] at a
    rw[show 15-back l j%16=0 from by omega]
    rfl
   cases 15-back l j%16 with
   | zero=>rfl
   | succ n=>rw[Pt.lead,zK b]
  rw[rest,this,List.drop_zero]
theorem rest_emit (l:List UInt8)(k:Nat)(h:k<l.length)(a:back l k%16=0):
  rest l k=Pt.runByte (Pt.lead (l.getD k 0) 15 (l.drop (k+1))) (l.getD k 0)::rest l (k+1):=by
 rw[rest_start l k h a,kt l k h,Pt.runs_cons,rest,a]
theorem rest_skip (l:List UInt8)(k:Nat)(h:k<l.length)(b:¬back l k%16=0):rest l k=rest l (k+1):=by
 cases k with
 | zero=>simp[back] at b
 | succ j=>
  have a:=back_eq l j h
  by_cases c:l.getD (j+1) 0=l.getD j 0
  ·rw[zJ c] at a
   rw[a] at b;simp only[rest]
   rw[kt l (j+1) h,<-c,show 15-back l j%16=(15-back l (j+1)%16)+1 from by omega]
   simp only[Pt.lead,if_true,List.drop_succ_cons]
  rw[zK c] at a;rw[a] at b;simp at b
theorem rest_end (l:List UInt8)(k:Nat)(h:¬k<l.length):rest l k=[]:=by
 cases k with
 | zero=>
  have:l=[]:=List.length_eq_zero_iff.1 (by omega)
  subst this; rfl
 | succ j=>rw[rest,xX (show l.length<=j+1 by omega)]; simp[Pt.runs]
def iZ (s:ByteArray)(k:Nat)(l:List UInt8):Prop:=l++rest s.data.toList k=84::Pt.runs s.data.toList
theorem refSo_start (s:ByteArray):iZ s 0 [84]:=rfl
theorem getD_at (s:ByteArray)(k:Nat)(h:k<s.size):s.data.toList.getD k 0=s[k]:=by
 rw[List.getD_eq_getElem?_getD,mg s k h]; rfl
theorem refSo_emit (s:ByteArray)(k:Nat)(h:k<s.size)(l:List UInt8)(b:back s.data.toList k%16=0)(a:iZ s k l):
  iZ s (k+1) (l++[Pt.runByte (min 15 (Pt.lead s[k] 64 (s.data.toList.drop (k+1)))) s[k]]):=by
 unfold iZ at a ⊢
 rw[rest_emit _ k (by simpa using h) b,getD_at s k h,lead_min s[k] 64 15 _ (by omega)] at a
 rw[yM];exact a
theorem refSo_skip (s:ByteArray)(k:Nat)(h:k<s.size)(l:List UInt8)(b:¬back s.data.toList k%16=0)(a:iZ s k l):iZ s (k+1) l:=by
 unfold iZ at a ⊢
 rw[<-rest_skip _ k (by simpa using h) b]
 exact a
theorem refSo_end (s:ByteArray)(k:Nat)(h:¬k<s.size)(l:List UInt8)(a:iZ s k l):l=84::Pt.runs s.data.toList:=by
 unfold iZ at a
 rw[rest_end _ k (by simpa using h),yW] at a
 exact a
theorem refPack_no (s:ByteArray)(w:World)(a:s.size<=maxLen)(h:Pt.okPic s.data.toList=false):
  Calls prog 153 #[s] w fun e w'=>e=.returned (.tuple #[.string ⟨#[]⟩,(5:Int)])/\w=w':=by
 go_enter func153,ntmps153
 go_wp2_with (go_at_call 184; refine(gU s _ a).mono ?_; rintro e w' ⟨rfl,rfl⟩)
 go_ret2
 exact⟨rfl,rfl⟩
theorem refPack_yes (s:ByteArray)(w:World)(h:Pt.okPic s.data.toList=true):
  Calls prog 153 #[s] w fun e w'=>e=.returned (.tuple #[.string ⟨(Pt.body s.data.toList).toArray⟩,()])/\Below w.heap.size w w':=by
 obtain⟨M,L⟩:=(Pt.okPic_iff _).1 h
 have F:s.size=64:=by simpa using M
 have ac:s.size<=maxLen:=by rw[F]; decide
 have W:s.size<=64:=by omega
 have aj:64<=s.size:=by omega
 have X:=ae L;have ak:=ae F;clear M L F;go_enter func153,ntmps153
 go_wp2_with (go_at_call 184; refine(gU s _ ac).mono ?_; rintro e w' ⟨rfl,rfl⟩)
 go_loopw [5,6,7,8,9,10,11] (fun v a b i _ _ _ wr=>∃(k:Nat) (l:List UInt8),k<=64/\i=.int .i64 k/\a=.int .i64 (Pt.sum1 (s.data.toList.take k):Int)/\b=.int .i64 (Pt.sum2 64 (s.data.toList.take k))/\l.length<=k+1/\Hid (iZ s k l)/\de wr w.heap.size v l/\Below w.heap.size w wr) (fun _ _ _ i _ _ _ _=>64-(intOf i).toNat)
 ·exact⟨0,[84],by omega,rfl,rfl,rfl,by simp,refSo_start s,lS w _ aD 84 84 rfl,bu.alloc aD _⟩
 obtain⟨k,l,am,rfl,rfl,rfl,ah,j,d,c⟩:=hrel;have G:=c.size
 have Q:(s.data.toList.take k).length=k:=by simp; omega
 have z:=Pt.sum1_le (s.data.toList.take k)
 have A:=Pt.sum2_le (s.data.toList.take k) 64 (by omega) (by omega)
 rw[Q] at z A;clear Q
 by_cases al:k<64
 ·have r:k<s.size:=by omega
  have K:s[k].toNat<=15:=aa X _ (Array.mem_toList_iff.2 (Array.getElem_mem _));have B:=ae (nu s k r);have C:=ae (nt s k r)
  have an:0<=(64-(k:Int))*s[k].toNat:=y2 (by omega) (by omega)
  have ao:(64-(k:Int))*s[k].toNat<=64*15:=Int.mul_le_mul (by omega) (by omega) (by omega) (by omega)
  have u:=fun ag=>stretch_any s k ag W r;have U:=pG s.data.toList k;have x:=Pt.lead_le s[k] 64 (s.data.toList.drop (k+1));have p:=ae (refSo_emit s k r l);have y:=ae (refSo_skip s k r l);generalize back s.data.toList k=b at u U p y;generalize Pt.lead s[k] 64 (s.data.toList.drop (k+1))=f at u x p;generalize Pt.sum1 (s.data.toList.take k)=Y at z B;generalize Pt.sum2 64 (s.data.toList.take k)=Z at A C
  have hm:k+1+f<=s.size:=by rw[yz] at x; simp at x; omega
  have n:=ae u;clear u x
  by_cases P:b%16=0
  ·have m:=ae (aa p P (aa j))
   clear p y j
   by_cases ai:16<f+1
   ·rw[show min 15 f=15 from by omega] at m
    go_wp2_with (first|(go_at_call 185; refine(aa n _).mono ?_; rintro e w1 ⟨rfl,q,t⟩; subst t)|(at_builtin; refine bQ rfl (.tmp 37) (.tmp 47) rfl _ w.heap.size _ l (Pt.runByte 15 s[k]) _ rfl (d.drewN _) rfl ?_ ?_ ?_ ?_))
    ·rw[gR 15 _ (by omega) K]; omega
    ·omega
    ·simpa using G
    intro ad w1 E o;have g:Below w.heap.size w w1:=(ap c _).trans o;clear d c o n
    go_wp2
    go_roundw
    ·exact⟨k+1,_,by omega,by go_num,by rw[aa B]; go_num,by rw[aa C],by simp; omega,m,E,g⟩
    simp[intOf]; omega
   rw[show min 15 f=f from by omega] at m
   go_wp2_with (first|(go_at_call 185; refine(aa n _).mono ?_; rintro e w1 ⟨rfl,q,t⟩; subst t)|(at_builtin; refine bQ rfl (.tmp 37) (.tmp 47) rfl _ w.heap.size _ l (Pt.runByte f s[k]) _ rfl (d.drewN _) rfl ?_ ?_ ?_ ?_))
   ·rw[gR f _ (by omega) K]; omega
   ·omega
   ·simpa using G
   intro ad w1 E o;have g:Below w.heap.size w w1:=(ap c _).trans o;clear d c o n
   go_wp2
   go_roundw
   ·exact⟨k+1,_,by omega,by go_num,by rw[aa B]; go_num,by rw[aa C],by simp; omega,m,E,g⟩
   simp[intOf]; omega
  have m:=ae (aa y P (aa j));clear p y j
  go_wp2_with (go_at_call 185; refine(aa n _).mono ?_; rintro e w1 ⟨rfl,q,t⟩; subst t)
  go_roundw
  ·exact⟨k+1,_,by omega,by go_num,by rw[aa B]; go_num,by rw[aa C],by omega,m,d.drewN _,ap c _⟩
  simp[intOf]; omega
 have ab:=ae (refSo_end s k (by omega) l (aa j))
 have H:s.data.toList.take k=s.data.toList:=z1 (by simp; omega)
 rw[H] at z A;have N:=ae (ch1_int s.data.toList);have O:=ae (ch2_int s.data.toList);rw[H];generalize Pt.sum1 s.data.toList=Y at z N;generalize Pt.sum2 64 s.data.toList=Z at A O;clear j H
 go_wp2_with (at_builtin; refine bQ rfl (.tmp 64) (.tmp 69) rfl _ w.heap.size _ l (Pt.ch1 s.data.toList) _ rfl d rfl ?_ ?_ ?_ ?_)
 ·exact(aa N).symm
 ·omega
 ·exact G
 intro aq w1 J I;have D:Below w.heap.size w w1:=c.trans I;have T:=D.size;clear d c I
 go_wp2_with (at_builtin; refine bQ rfl (.tmp 71) (.tmp 76) rfl _ w.heap.size _ (l++[Pt.ch1 s.data.toList]) (Pt.ch2 s.data.toList) _ rfl J rfl ?_ ?_ ?_ ?_)
 ·exact(aa O).symm
 ·simp; omega
 ·exact T
 intro ar af S g;have V:=S.str 0;rw[World.drewN_zero] at V;have R:Below w.heap.size w af:=D.trans g;clear J D g
 go_wp2
 go_ret2
 exact⟨fU (by rw[aa ab]; simp[Pt.body]),R⟩
end Pk
theorem Tile_any (v:Value)(n:Nat)(fs:Nat->Nat->Int)(l z x y:Int)(w:World)(u:kU w v n fs)(t:keyErr l z x y=0)(Q:n<=40)(q:iE fs n=true):
  Calls prog 166 #[v,.agg #[l,z,x,y]] w fun e w'=>e=.returned (.string ⟨(kP fs n l z x y 64).toArray⟩)/\Below w.heap.size w w':=by
 have J:=zZ w (.cells #[l,z,x,y] 39);have O:=ae u;have N:=ae t;have k:=ae q;obtain⟨R,cap,rfl,hm,P⟩:=u;clear P t q;go_enter func166,ntmps166
 go_wp2
 go_loopw [5,6,7] (fun v i _ m=>∃p:Nat,p<=64/\i=.int .i64 p/\de m (w.heap.size+1) v (kP fs n l z x y p)/\m.heap[w.heap.size]?=some (.cells #[l,z,x,y] 39)/\Below w.heap.size w m) (fun _ i _ _=>64-(intOf i).toNat)
 ·exact⟨0,by omega,rfl,ownB_nil _ _,J,aj _ _⟩
 obtain⟨p,W,rfl,b,j,f⟩:=hrel;have H:=af j;have c:=ae f;have E:=ae b
 by_cases L:p<64
 ·have U:(p:Int)<64:=by omega
  have s:=fun T h=>refInk_any (.slice R n cap) n fs l z x y p T h (aa N) L Q (j7 (aa k));have r:=(aa O).on f;have G:=ae (l8 (aa k) l z x y p);have V:IntKind.u8.wrap (ink fs n l z x y p)=ink fs n l z x y p:=nj (fun _=>ink fs n l z x y p) trivial rfl (j7 (aa k));clear b f
  go_wp2_with fail
  refine(s _ r).mono ?_;rintro e Y ⟨rfl,a⟩;have g:=ag j a;have o:=(aa E).on a;have C:=ae ((aa c).trans (a.mono (aa c).size));have M:=(zM.1 g).1;have F:=ae (oL fs n l z x y p);clear a j H s r
  go_wp2_with (at_builtin; refine bQ rfl (.tmp 16) (.tmp 19) rfl _ (w.heap.size+1) _ (kP fs n l z x y p) (UInt8.ofNat (ink fs n l z x y p).toNat) _ rfl o rfl ?_ ?_ ?_ ?_)
  ·exact aa G
  ·have:=aa F; omega
  ·exact M
  intro X S A d
  have K:S.heap[w.heap.size]?=some (.cells #[l,z,x,y] 39):=(d.block _ (by omega)).trans g
  have D:=ae ((aa C).trans (d.mono (by omega)))
  clear d o g
  go_wp2
  go_roundw
  ·exact⟨p+1,by omega,by go_num,by rw[pic_succ]; exact A,K,aa D⟩
  simp[intOf]; omega
 have B:p=64:=by omega
 subst B;have I:=b.str 0;rw[World.drewN_zero] at I
 go_wp2
 go_ret;exact⟨rfl,aa c⟩
theorem fy (f:Nat->Int)(w:World):
  Calls prog 17 #[.agg (fc f),.agg (fc f)] w fun e w'=>e=.returned (.bool true)/\Below w.heap.size w w':=by
 have a:=aN f 0 (by decide)
 have b:=aN f 1 (by decide)
 have c:=aN f 2 (by decide)
 have d:=aN f 3 (by decide)
 have g:=aN f 4 (by decide)
 have h:=aN f 5 (by decide)
 have j:=aN f 6 (by decide)
 have l:=aN f 7 (by decide)
 go_enter func17,ntmps17
 go_wp2
 clear a b c d g h j l
 go_loopw [5] (fun i wr=>∃k q:Nat,k<=8/\i=.int .i64 k/\wr=((w.alloc (.cells (fc f) 66)).alloc (.cells (fc f) 66)).drewN q) (fun i _=>8-(intOf i).toNat)
 ·exact⟨0,0,by omega,rfl,rfl⟩
 obtain⟨k,q,s,rfl,rfl⟩:=hrel
 by_cases n:k<8
 ·have p:=aN f (8+k) (by omega)
  have r:=aN f (16+k) (by omega)
  have m:(k:Int)<8:=by omega
  have o:(f (8+k) != f (8+k))=false:=by simp
  go_wp2
  go_quiet (fail)
  go_wp2
  go_roundw
  ·exact⟨k+1,_,by omega,by go_num,rfl⟩
  simp[intOf]; omega
 go_wp2
 go_ret;refine⟨rfl,?_⟩
 repeat first|exact zV _ _|refine ap ?_ _|refine zE ?_|refine aG ?_ aD _
structure Rq where
 k:K4
 asked:Int
 due:Int
 done:Bool
def Rq.a (r:Rq):Array Value:=#[r.k.l,r.k.z,r.k.x,r.k.y,r.asked,r.due,r.done]
def rRq:dR Rq:=⟨7,fun r=>r.a.toList,fun _=>rfl,fun k v hv=>by simp[Rq.a] at hv; rcases hv with rfl|rfl|rfl|rfl|rfl|rfl|rfl<;>rfl,by decide⟩
structure Jb where
 b:K4
 wk:Int
 pl:Int
 rd:Int
 lf:Int
def Jb.a (r:Jb):Array Value:=#[r.b.l,r.b.z,r.b.x,r.b.y,r.wk,r.pl,r.rd,r.lf]
def jP:dR Jb:=⟨8,fun r=>r.a.toList,fun _=>rfl,fun k v hv=>by simp[Jb.a] at hv; rcases hv with rfl|rfl|rfl|rfl|rfl|rfl|rfl|rfl<;>rfl,by decide⟩
structure En where
 k:K4
 body:ByteArray
 tag:ByteArray
 use:Int
def En.a (r:En):Array Value:=#[r.k.l,r.k.z,r.k.x,r.k.y,r.body,r.tag,r.use]
def iM:dR En:=⟨7,fun r=>r.a.toList,fun _=>rfl,fun k v hv=>by simp[En.a] at hv; rcases hv with rfl|rfl|rfl|rfl|rfl|rfl|rfl<;>rfl,by decide⟩
theorem bL.rq {d:World}{b off:Nat}{ws:List Rq}{k:Nat}{c:Rq}(h:∀i a,ws[i]?=some a->d.rangeAt b (off+i*rRq.wid) (rRq.enc a))(e:ws[k]?=some c):d.rangeAt b (off+k*7) c.a.toList:=h k c e
theorem bL.jb {d:World}{b off:Nat}{ws:List Jb}{k:Nat}{c:Jb}(h:∀i a,ws[i]?=some a->d.rangeAt b (off+i*jP.wid) (jP.enc a))(e:ws[k]?=some c):d.rangeAt b (off+k*8) c.a.toList:=h k c e
theorem bL.en {d:World}{b off:Nat}{ws:List En}{k:Nat}{c:En}(h:∀i a,ws[i]?=some a->d.rangeAt b (off+i*iM.wid) (iM.enc a))(e:ws[k]?=some c):d.rangeAt b (off+k*7) c.a.toList:=h k c e
theorem dV {c:World}{b o:Nat}{cs:List Value}{l z x y:Int}(h:c.rangeAt b o cs)(e:cs.take 4=[.int .i64 l,.int .i64 z,.int .i64 x,.int .i64 y]):c.rangeAt b o #[Value.int .i64 l,.int .i64 z,.int .i64 x,.int .i64 y].toList:=by
 intro j v a;refine h j v ?_
 have d:j<4:=by
  rcases yP j 4 with q|q
  ·exact q
  rw[yR (by simpa using q)] at a; cases a
 have:cs[j]?=(cs.take 4)[j]?:=(zs d).symm
 rw[this,e]; exact a
theorem dR.all_set {α:Type}(R:dR α):∀(l:List α) (i:Nat) (a c:α) (j:Nat) (x:Value),l[i]?=some a->j<R.wid->R.enc c=(R.enc a).set j x->R.all (l.set i c)=(R.all l).set (i*R.wid+j) x
 | [],i,a,_,_,_,h,_,_=>by simp at h
 | b::l,0,a,c,j,x,h,e,d=>by
  simp only[List.getElem?_cons_zero,zy] at h;subst h
  rw[List.set_cons_zero,R.all_cons,R.all_cons,d,Nat.zero_mul,zb,List.set_append_left _ _ (by rw[R.len]; exact e)]
 | b::l,i+1,a,c,j,x,h,e,d=>by
  rw[List.set_cons_succ,R.all_cons,R.all_cons,dR.all_set R l i a c j x (by simpa using h) e d,List.set_append_right _ _ (by rw[R.len,zd]; omega),R.len,show(i+1)*R.wid+j-R.wid=i*R.wid+j by rw[zd]; omega]
section
variable {α:Type}{R:dR α}{T:TypeId}{w:World}{l:List α}
theorem ah.setF {g off n cap:Nat}(h:ah R T w (.slice (some ⟨g,off,none⟩) n cap) l){i:Nat}{a b:α}(hi:l[i]?=some a){j:Nat}{x:Value}(r:j<R.wid)(p:R.enc b=(R.enc a).set j x):
  ah R T (w.setCell ⟨g,off+i*R.wid+j,none⟩ x) (.slice (some ⟨g,off,none⟩) n cap) (l.set i b):=by
 rcases h with⟨e,_⟩|⟨u,t,s,c,e,q,f,k,m,o⟩
 ·cases e
 cases e
 have d:(w.setCell ⟨g,off+i*R.wid+j,none⟩ x).heap[g]?=some (.cells (c.setIfInBounds (off+i*R.wid+j) x) T (0,0)):=by
  simp[World.setCell,zk,q]
 refine Or.inr ⟨g,off,cap,c.setIfInBounds (off+i*R.wid+j) x,by rw[zn],d,by rw[zn]; exact f,k,by rw[Array.size_setIfInBounds]; exact m,?_⟩
 rw[zn,R.all_set l i a b j x hi r p,<-o,Array.toList_setIfInBounds,List.drop_set,zK (by omega),show off+i*R.wid+j-off=i*R.wid+j by omega,List.take_set]
theorem ah.cellF {g off n cap:Nat}(h:ah R T w (.slice (some ⟨g,off,none⟩) n cap) l){i:Nat}{a:α}(hi:l[i]?=some a){j:Nat}{u:Value}(b:(R.enc a)[j]?=some u):w.cell? ⟨g,off+i*R.wid+j,none⟩=some u/\w.frozen? ⟨g,off+i*R.wid+j,none⟩=false:=by
 have f:=h;obtain⟨c,k⟩:=h.ty (g:=g) rfl;refine⟨?_,bi k _⟩;have d:i<l.length:=(zX.1 hi).1
 have m:j<R.wid:=by rw[<-R.len a]; exact(zX.1 b).1
 have e:i*R.wid+j<l.length*R.wid:=by
  have:(i+1)*R.wid<=l.length*R.wid:=zp _ d;rw[zd] at this;omega
 rw[yr,f.cellAt _ e,R.all_at l i a j hi m,b]
theorem ah.blkAt {v:Value}(h:ah R T w v l)(a:0<l.length):∃g off cap,v=.slice (some ⟨g,off,none⟩) l.length cap:=by
 rcases h with⟨_,rfl⟩|⟨g,off,cap,b,e,_⟩
 ·simp at a
 exact⟨g,off,cap,e⟩
end
structure RV where
 q:Int
 wk:Int
 wt:Int
 ca:Int
 ch:Int
 sb:Nat
 nw:Int
 ct:Int
 st:Int
 rv:Value
 jv:Value
 ev:Value
def RV.a (X:RV):Array Value:=#[X.q,X.wk,X.wt,X.ca,X.ch,.pointer (some ⟨X.sb,0,none⟩),X.nw,X.ct,X.st,X.rv,X.jv,X.ev]
abbrev aF (w:World)(fb:Nat)(X:RV):Prop:=w.heap[fb]?=some (.cells X.a 135)
theorem RV.set_ev (X:RV)(v:Value):X.a.setIfInBounds 11 v=({ X with ev:=v }:RV).a:=rfl
theorem RV.set_jv (X:RV)(v:Value):X.a.setIfInBounds 10 v=({ X with jv:=v }:RV).a:=rfl
theorem RV.set_rv (X:RV)(v:Value):X.a.setIfInBounds 9 v=({ X with rv:=v }:RV).a:=rfl
theorem RV.set_st (X:RV)(v:Int):X.a.setIfInBounds 8 (.int .i64 v)=({ X with st:=v }:RV).a:=rfl
theorem RV.set_ct (X:RV)(v:Int):X.a.setIfInBounds 7 (.int .i64 v)=({ X with ct:=v }:RV).a:=rfl
theorem RV.set_nw (X:RV)(v:Int):X.a.setIfInBounds 6 (.int .i64 v)=({ X with nw:=v }:RV).a:=rfl
theorem aF.c {w:World}{fb:Nat}{X:RV}(h:aF w fb X)(i:Nat){u:Value}(e:X.a[i]?=some u):w.cell? ⟨fb,i,none⟩=some u:=(af h i).trans e
theorem aF.set {w:World}{fb:Nat}{X:RV}(h:aF w fb X)(i:Nat)(v:Value){a:RV}(e:X.a.setIfInBounds i v=a.a):aF (w.setCell ⟨fb,i,none⟩ v) fb a:=by
 show(w.setCell ⟨fb,i,none⟩ v).heap[fb]?=_;rw[<-e];have b:w.heap[fb]?=some (.cells X.a 135):=h;simp[World.setCell,zk,b]
theorem kr {w:World}{fb:Nat}{X:RV}(h:aF w fb X)(i:Nat):w.frozen? ⟨fb,i,none⟩=false:=bi h i
theorem inf158:(prog.info? 158).map (fun i=>(i.zero,i.size,i.bytes))=some (some (.agg #[(),(),(),(),(),(),false]),7,56):=by kernel_rfl
theorem apRq {w:World}{v x:Value}{l a:List Rq}(h:ah rRq 158 w v l)(j:bL rRq w x a)(k:l.length+a.length<=100000000):
  ∃b w',(Builtin.append_ #[131,131] 131 #[v,x]).run prog w=.ok b w'/\ah rRq 158 w' b (l++a)/\w.grownBy w' v.ownBlock/\(b.ownBlock=v.ownBlock\/∀g,b.ownBlock=some g->w.heap.size<=g):=by
 obtain⟨i,c,d,e,f⟩:=ee inf158
 exact ah.append (P:=prog) 131 131 i _ 56 underlying131 c d e f rfl h a x j (by unfold maxLen; omega) (by omega)
theorem inf165:(prog.info? 165).map (fun i=>(i.zero,i.size,i.bytes))=some (some (.agg #[(),(),(),(),(),(),(),()]),8,64):=by kernel_rfl
theorem apJb {w:World}{v x:Value}{l a:List Jb}(h:ah jP 165 w v l)(j:bL jP w x a)(k:l.length+a.length<=100000000):
  ∃b w',(Builtin.append_ #[132,132] 132 #[v,x]).run prog w=.ok b w'/\ah jP 165 w' b (l++a)/\w.grownBy w' v.ownBlock/\(b.ownBlock=v.ownBlock\/∀g,b.ownBlock=some g->w.heap.size<=g):=by
 obtain⟨i,c,d,e,f⟩:=ee inf165
 exact ah.append (P:=prog) 132 132 i _ 64 underlying132 c d e f rfl h a x j (by unfold maxLen; omega) (by omega)
theorem inf162:(prog.info? 162).map (fun i=>(i.zero,i.size,i.bytes))=some (some (.agg #[(),(),(),(),.string ⟨#[]⟩,.string ⟨#[]⟩,()]),7,72):=by kernel_rfl
theorem apEn {w:World}{v x:Value}{l a:List En}(h:ah iM 162 w v l)(j:bL iM w x a)(k:l.length+a.length<=100000000):
  ∃b w',(Builtin.append_ #[133,133] 133 #[v,x]).run prog w=.ok b w'/\ah iM 162 w' b (l++a)/\w.grownBy w' v.ownBlock/\(b.ownBlock=v.ownBlock\/∀g,b.ownBlock=some g->w.heap.size<=g):=by
 obtain⟨i,c,d,e,f⟩:=ee inf162
 exact ah.append (P:=prog) 133 133 i _ 72 underlying133 c d e f rfl h a x j (by unfold maxLen; omega) (by omega)
theorem bsRq (a:Rq)(ev:Operand->Value)(o:Oper)(x:Operand)(b:o.op=.buildSlice 131 1 #[(0,x)])(c:ev x=.agg a.a)(w:World):(execOp ev o).run prog w=.ok (.value (.slice (some ⟨w.heap.size,0,none⟩) 1 1)) (w.alloc (.cells a.a 158)):=by
 unfold execOp;simp only[b];simp only[yN,zA,yQ,c,Rq.a]
 kernel_rfl
theorem bsJb (a:Jb)(ev:Operand->Value)(o:Oper)(x:Operand)(b:o.op=.buildSlice 132 1 #[(0,x)])(c:ev x=.agg a.a)(w:World):(execOp ev o).run prog w=.ok (.value (.slice (some ⟨w.heap.size,0,none⟩) 1 1)) (w.alloc (.cells a.a 165)):=by
 unfold execOp;simp only[b];simp only[yN,zA,yQ,c,Jb.a]
 kernel_rfl
theorem bsEn (a:En)(ev:Operand->Value)(o:Oper)(x:Operand)(b:o.op=.buildSlice 133 1 #[(0,x)])(c:ev x=.agg a.a)(w:World):(execOp ev o).run prog w=.ok (.value (.slice (some ⟨w.heap.size,0,none⟩) 1 1)) (w.alloc (.cells a.a 162)):=by
 unfold execOp;simp only[b];simp only[yN,zA,yQ,c,En.a]
 kernel_rfl
theorem sz158 (r:Rq):(prog.info? 158).map (·.size)=some r.a.size:=by kernel_rfl
theorem fu (r:Jb):(prog.info? 165).map (·.size)=some r.a.size:=by kernel_rfl
theorem sz162 (r:En):(prog.info? 162).map (·.size)=some r.a.size:=by kernel_rfl
theorem one165 (r:Jb):r.a.all (·.oneCell')=true:=by simp[Jb.a,Value.oneCell']
theorem jL (l z x y d c b a:Int)(w:World):Calls prog 138 #[.agg #[l,z,x,y],.agg #[d,c,b,a]] w fun e w'=>e=.returned (.bool (decide ((⟨l,z,x,y⟩:K4)=⟨d,c,b,a⟩)))/\Below w.heap.size w w':=by
 have g:∀{q:Bool} {p:World},Below w.heap.size w p->q=decide ((⟨l,z,x,y⟩:K4)=⟨d,c,b,a⟩)->(Ending.returned (.bool q)=.returned (.bool (decide ((⟨l,z,x,y⟩:K4)=⟨d,c,b,a⟩))))/\Below w.heap.size w p:=fun h e=>⟨by rw[e],h⟩
 have i:=ae ((((zV w.heap.size w).alloc aD (.cells #[l,z,x,y] 39))).alloc (by simp) (.cells #[d,c,b,a] 39))
 by_cases j:l=d
 ·subst j
  by_cases k:z=c
  ·subst k
   by_cases m:x=b
   ·subst m
    by_cases n:y=a
    ·subst n
     go_enter func138,ntmps138
     go_wp2
     go_ret
     exact g (aa i) (by simp)
    have f:Hid (false=decide ((⟨l,z,x,y⟩:K4)=⟨l,z,x,a⟩)):=by show _=_; simp[n]
    have o:(y==a)=false:=by simpa using n
    go_enter func138,ntmps138
    go_wp2
    go_ret;exact g (aa i) (aa f)
   have f:Hid (false=decide ((⟨l,z,x,y⟩:K4)=⟨l,z,b,a⟩)):=by show _=_; simp[m]
   have o:(x==b)=false:=by simpa using m
   go_enter func138,ntmps138
   go_wp2
   go_ret;exact g (aa i) (aa f)
  have f:Hid (false=decide ((⟨l,z,x,y⟩:K4)=⟨l,c,b,a⟩)):=by show _=_; simp[k]
  have o:(z==c)=false:=by simpa using k
  go_enter func138,ntmps138
  go_wp2
  go_ret;exact g (aa i) (aa f)
 have f:Hid (false=decide ((⟨l,z,x,y⟩:K4)=⟨d,c,b,a⟩)):=by show _=_; simp[j]
 have o:(l==d)=false:=by simpa using j
 go_enter func138,ntmps138
 go_wp2
 go_ret;exact g (aa i) (aa f)
theorem kB (l z x y:Int)(w:World)(d:0<=x/\x<=4194304)(hy:0<=y/\y<=4194304):
  Calls prog 88 #[.agg #[l,z,x,y]] w fun e w'=>e=.returned (.agg #[l,z,.int .i64 (x-x%2),.int .i64 (y-y%2)])/\Below w.heap.size w w':=by
 have b:x-x%2=2*(x / 2):=by omega
 have c:y-y%2=2*(y / 2):=by omega
 rw[b,c];clear b c;go_enter func88,ntmps88
 go_wp2_with fail
 have a:=zZ (w.alloc (.cells #[l,z,x,y] 39)) (.cells #[l,z,.int .i64 (2*(x / 2)),.int .i64 (2*(y / 2))] 39)
 rw[show(w.alloc (.cells #[l,z,x,y] 39)).heap.size=w.heap.size+1 by simp] at a
 refine zL (v:=.agg #[l,z,.int .i64 (2*(x / 2)),.int .i64 (2*(y / 2))]) (results_cell_row results88 _ _ (w.heap.size+1) 39 _ (0,0) _ rfl a underlying39 rfl (bj _ _ _ _)) rfl ⟨rfl,?_⟩
 exact(bu.alloc aD _).alloc (by simp) _
def bg (ws:List Rq)(b:K4)(all:Bool):Nat:=ws.countP fun r=>!r.done && (all || decide (r.k.blk=b))
theorem waitsN_take {ws:List Rq}{k:Nat}{a:Rq}(h:ws[k]?=some a)(b:K4)(c:Bool):bg (ws.take (k+1)) b c=bg (ws.take k) b c+(if !a.done && (c || decide (a.k.blk=b)) then 1 else 0):=by
 unfold bg;rw[be h,List.countP_append]
 congr 1
 by_cases e:(!a.done && (c || decide (a.k.blk=b)))=true
 ·rw[zJ e,List.countP_singleton,zJ e]
 rw[zK e,List.countP_singleton,zK e]
theorem ef (ws:List Rq)(b:K4)(a:Bool):bg ws b a<=ws.length:=List.countP_le_length
theorem fh (fb:Nat)(X:RV)(ws:List Rq)(l z x y:Int)(g:Bool)(w:World)(I:aF w fb X)(ay:bL rRq w X.rv ws)(Z:∀aA∈ws,bP aA.k)(aG:ws.length<=100000000):
  Calls prog 85 #[some fb,.agg #[l,z,x,y],g] w fun e w'=>e=.returned (.int .i64 (bg ws ⟨l,z,x,y⟩ g))/\Below w.heap.size w w':=by
 have ai:=an I;obtain⟨az,cap,e,aB,hm,Y⟩:=ay;have au:=ae Y;have av:=ae Z
 have S:w.cell? ⟨fb,9,none⟩=some (.slice az ws.length cap):=by rw[<-e]; exact I.c 9 rfl
 have al:=ae S;have ar:=ae (zZ w (.cells #[l,z,x,y] 39));have ak:=ae ((zV w.heap.size w).alloc aD (.cells #[l,z,x,y] 39));have aj:=ae kB;have am:=ae jL;clear I Y hm e Z S;go_enter func85,ntmps85
 go_wp2
 go_loopw [7,8,9] (fun n i _ wr=>∃k:Nat,k<=ws.length/\i=.int .i64 k/\n=.int .i64 (bg (ws.take k) ⟨l,z,x,y⟩ g)/\wr.heap[w.heap.size]?=some (.cells #[l,z,x,y] 39)/\Below w.heap.size w wr) (fun _ i _ _=>ws.length-(intOf i).toNat)
 ·exact⟨0,by omega,rfl,by simp[bg],aa ar,aa ak⟩
 obtain⟨k,aE,rfl,rfl,u,c⟩:=hrel;have aC:=c.size;have ab:=(c.cell (p:=⟨fb,9,none⟩) ai).trans (aa al)
 by_cases ap:k<ws.length
 ·have E:(k:Int)<ws.length:=by omega
  obtain⟨b,off,rfl,L,D⟩:=aa au (by omega)
  obtain⟨⟨⟨m,o,d,f⟩,aH,rd,T⟩,J⟩:∃t,ws[k]?=some t:=⟨_,zQ ap⟩;have aq:=aa av _ (zR J);obtain⟨⟨ac,ad⟩,⟨af,ah⟩⟩:=aq;dsimp only at ac ad af ah;have v:=bL.rq D J;have F:w.rangeAt b (off+k*7) (#[m,o,d,f]:Array Value).toList:=dV v rfl;have r:=waitsN_take J ⟨l,z,x,y⟩ g;have M:=ef (ws.take k) ⟨l,z,x,y⟩ g;rw[zD] at M;have ax:wr.cell? ⟨b,off+k*7+6,none⟩=some (.bool T):=(c.cell (p:=⟨b,off+k*7+6,none⟩) L).trans (v 6 _ rfl)
  cases T with
  | true=>
   have j:Hid (bg (ws.take (k+1)) ⟨l,z,x,y⟩ g=bg (ws.take k) ⟨l,z,x,y⟩ g):=by show _=_; rw[r]; rfl
   have q:=ae c;clear r F v D c
   go_wp2
   go_roundw
   ·exact⟨k+1,by omega,by go_num,by rw[aa j],u,aa q⟩
   simp[intOf]; omega
  | false=>
   have W:∀a,Below wr.heap.size wr a->a.rangeAt b (off+k*7) (#[m,o,d,f]:Array Value).toList:=fun a h=>dA F (c.trans (h.mono c.size)) L;have V:∀a,Below wr.heap.size wr a->a.rangeAt w.heap.size 0 (#[l,z,x,y]:Array Value).toList:=fun a h=>ao (ag u h)
   have U:∀a,Below wr.heap.size wr a->a.cell? ⟨fb,9,none⟩=some (.slice (some ⟨b,off,none⟩) ws.length cap):=fun a h=>(h.cell (p:=⟨fb,9,none⟩) (by show fb<_; omega)).trans ab
   have Q:=fun a=>aa aj m o d f a ⟨ac,ad⟩ ⟨af,ah⟩;have R:=fun a=>aa am m o (d-d%2) (f-f%2) l z x y a
   go_wp2_with fail
   refine aM (by kernel_rfl) (by kernel_rfl) ?_
   refine eI fb 0 ?_;refine bd fb 0 ?_;refine bd fb 9 ?_
   refine bH (.slice (some ⟨b,off,none⟩) ws.length cap) ?_ (h:=fun w' N=>by simp[go_sem,U w' N])
   refine bD (.int .i64 k) ?_
   refine bd b (off+k*7) ?_ (h:=fun w' N=>by simp[go_sem,E])
   refine bd b (off+k*7) ?_;refine vK b (off+k*7) W ?_
   refine vC Q ?_;refine vK w.heap.size 0 V ?_
   refine vC R ?_;refine vA (.bool (decide ((⟨m,o,d-d%2,f-f%2⟩:K4)=⟨l,z,x,y⟩))) ?_;refine zq ?_;intro aI G;have O:=ag u G;have q:=ae (c.trans (G.mono c.size));have B:=ae O;have K:((⟨m,o,d,f⟩:K4).blk=⟨l,z,x,y⟩)=((⟨m,o,d-d%2,f-f%2⟩:K4)=⟨l,z,x,y⟩):=rfl;simp only[K] at r;obtain⟨C,A⟩:∃C,bg (ws.take k) ⟨l,z,x,y⟩ g=C:=⟨_,rfl⟩;obtain⟨P,H⟩:∃P,decide ((⟨m,o,d-d%2,f-f%2⟩:K4)=⟨l,z,x,y⟩)=P:=⟨_,rfl⟩;rw[A,H] at r;rw[A] at M;have j:=ae r;rw[A];clear W V U F v D c u O G Q R r A K ab ax;simp only[H];clear H
   cases g with
   | true=>
    have s:Hid (bg (ws.take (k+1)) ⟨l,z,x,y⟩ true=C+1):=by show _=_; rw[aa j]; rfl
    clear j
    go_wp2
    go_roundw
    ·exact⟨k+1,by omega,by go_num,by rw[aa s]; go_num,aa B,aa q⟩
    simp[intOf]; omega
   | false=>
    cases P with
    | true=>
     have s:Hid (bg (ws.take (k+1)) ⟨l,z,x,y⟩ false=C+1):=by show _=_; rw[aa j]; rfl
     clear j
     go_wp2
     go_roundw
     ·exact⟨k+1,by omega,by go_num,by rw[aa s]; go_num,aa B,aa q⟩
     simp[intOf]; omega
    | false=>
     have s:Hid (bg (ws.take (k+1)) ⟨l,z,x,y⟩ false=C):=by show _=_; rw[aa j]; rfl
     clear j
     go_wp2
     go_roundw
     ·exact⟨k+1,by omega,by go_num,by rw[aa s],aa B,aa q⟩
     simp[intOf]; omega
 have E:k=ws.length:=by omega
 subst E;have q:=ae c;have aw:Hid (ws.take ws.length=ws):=zx;clear c u
 go_wp2
 go_ret
 exact⟨by rw[aa aw]; rfl,aa q⟩
def m5:Option Nat->Int
 | some i=>i
 | none=>-1
def o7 (ws:List Jb)(b:K4):Option Nat:=ws.findIdx? fun a=>decide (a.b=b)
def dB (ws:List En)(b:K4):Option Nat:=ws.findIdx? fun a=>decide (a.k=b)
theorem o8 {α:Type}{p:α->Bool}{l:List α}{k:Nat}{a:α}(f:l[k]?=some a)(g:p a=true)(c:∀i b,i<k->l[i]?=some b->¬p b=true):l.findIdx? p=some k:=by
 obtain⟨h,e⟩:=zX.1 f;rw[yf]
 refine⟨h,by rw[e]; exact g,fun j d=>?_⟩
 have:=c j l[j] d (zQ (by omega))
 exact this
theorem o9 {α:Type}{p:α->Bool}{l:List α}(a:∀i b,i<l.length->l[i]?=some b->¬p b=true):l.findIdx? p=none:=by
 rw[List.findIdx?_eq_none_iff];intro x c;obtain⟨i,hi⟩:=zB.1 c;have:=a i x (zX.1 hi).1 hi;simpa using this
theorem job_any (fb:Nat)(X:RV)(ws:List Jb)(l z x y:Int)(w:World)(D:aF w fb X)(ab:bL jP w X.jv ws)(aj:ws.length<=100000000):
  Calls prog 89 #[some fb,.agg #[l,z,x,y]] w fun e w'=>e=.returned (.int .i64 (m5 (o7 ws ⟨l,z,x,y⟩)))/\Below w.heap.size w w':=by
 have P:=an D;obtain⟨ac,cap,e,af,hm,O⟩:=ab;have Z:=ae O
 have K:w.cell? ⟨fb,10,none⟩=some (.slice ac ws.length cap):=by rw[<-e]; exact D.c 10 rfl
 have R:=ae K;have Y:=ae (zZ w (.cells #[l,z,x,y] 39));have Q:=ae ((zV w.heap.size w).alloc aD (.cells #[l,z,x,y] 39));have U:=ae jL;clear D O hm e K;go_enter func89,ntmps89
 go_wp2
 go_loopw [5,6] (fun i _ wr=>∃k:Nat,k<=ws.length/\i=.int .i64 k/\Hid (∀i a,i<k->ws[i]?=some a->a.b≠⟨l,z,x,y⟩)/\wr.heap[w.heap.size]?=some (.cells #[l,z,x,y] 39)/\Below w.heap.size w wr) (fun i _ _=>ws.length-(intOf i).toNat)
 ·exact⟨0,by omega,rfl,ae (fun i a hi=>absurd hi (by omega)),aa Y,aa Q⟩
 obtain⟨k,ai,rfl,A,s,f⟩:=hrel;have ah:=f.size;have ad:=(f.cell (p:=⟨fb,10,none⟩) P).trans (aa R)
 by_cases W:k<ws.length
 ·have v:(k:Int)<ws.length:=by omega
  obtain⟨b,off,rfl,V,F⟩:=aa Z (by omega)
  obtain⟨⟨⟨j,o,m,n⟩,ap,al,am,ak⟩,E⟩:∃t,ws[k]?=some t:=⟨_,zQ W⟩;have G:w.rangeAt b (off+k*8) (#[j,o,m,n]:Array Value).toList:=dV (bL.jb F E) rfl;have N:∀d,Below wr.heap.size wr d->d.rangeAt b (off+k*8) (#[j,o,m,n]:Array Value).toList:=fun d h=>dA G (f.trans (h.mono f.size)) V;have M:∀d,Below wr.heap.size wr d->d.rangeAt w.heap.size 0 (#[l,z,x,y]:Array Value).toList:=fun d h=>ao (ag s h)
  have L:∀d,Below wr.heap.size wr d->d.cell? ⟨fb,10,none⟩=some (.slice (some ⟨b,off,none⟩) ws.length cap):=fun d h=>(h.cell (p:=⟨fb,10,none⟩) (by show fb<_; omega)).trans ad
  have J:=fun d=>aa U j o m n l z x y d
  go_wp2_with fail
  refine aM (by kernel_rfl) (by kernel_rfl) ?_
  refine eI fb 0 ?_;refine bd fb 0 ?_;refine bd fb 10 ?_
  refine bH (.slice (some ⟨b,off,none⟩) ws.length cap) ?_ (h:=fun w' H=>by simp[go_sem,L w' H])
  refine bD (.int .i64 k) ?_
  refine bd b (off+k*8) ?_ (h:=fun w' H=>by simp[go_sem,v])
  refine bd b (off+k*8) ?_;refine vK b (off+k*8) N ?_;refine vK w.heap.size 0 M ?_
  refine vC J ?_;refine vA (.bool (decide ((⟨j,o,m,n⟩:K4)=⟨l,z,x,y⟩))) ?_;refine zq ?_;intro aq B;have I:=ag s B;have r:=ae (f.trans (B.mono f.size));have T:=ae I;clear N M L G F f s I B J
  by_cases q:(⟨j,o,m,n⟩:K4)=⟨l,z,x,y⟩
  ·have u:decide ((⟨j,o,m,n⟩:K4)=⟨l,z,x,y⟩)=true:=by simp[q]
   have C:Hid ((m5 (o7 ws ⟨l,z,x,y⟩))=k):=by show m5 _=_; rw[show o7 ws ⟨l,z,x,y⟩=some k from o8 E (by simpa using q) (fun i a hi g=>by simpa using aa A i a hi g)]; rfl
   clear q;simp only[u]
   go_wp2
   go_ret
   exact⟨by rw[aa C]; rfl,aa r⟩
  have u:decide ((⟨j,o,m,n⟩:K4)=⟨l,z,x,y⟩)=false:=by simp[q]
  have S:Hid (∀i a,i<k+1->ws[i]?=some a->a.b≠⟨l,z,x,y⟩):=fun i a hi g=>by
   by_cases c:i=k
   ·subst c; rw[E] at g; cases g; exact q
   exact aa A i a (by omega) g
  clear q;simp only[u]
  go_wp2
  go_roundw
  ·exact⟨k+1,by omega,by go_num,S,aa T,aa r⟩
  simp[intOf]; omega
 have v:k=ws.length:=by omega
 subst v
 have C:Hid (m5 (o7 ws ⟨l,z,x,y⟩)=-1):=by show m5 _=_; rw[show o7 ws ⟨l,z,x,y⟩=none from o9 (fun i a hi g=>by simpa using aa A i a hi g)]; rfl
 have r:=ae f;clear f s
 go_wp2
 go_ret
 exact⟨by rw[aa C]; rfl,aa r⟩
theorem nO (fb:Nat)(X:RV)(ws:List En)(l z x y:Int)(w:World)(D:aF w fb X)(ab:bL iM w X.ev ws)(am:ws.length<=100000000):
  Calls prog 87 #[some fb,.agg #[l,z,x,y]] w fun e w'=>e=.returned (.int .i64 (m5 (dB ws ⟨l,z,x,y⟩)))/\Below w.heap.size w w':=by
 have P:=an D;obtain⟨ac,cap,e,af,hm,O⟩:=ab;have Z:=ae O
 have K:w.cell? ⟨fb,11,none⟩=some (.slice ac ws.length cap):=by rw[<-e]; exact D.c 11 rfl
 have R:=ae K;have Y:=ae (zZ w (.cells #[l,z,x,y] 39));have Q:=ae ((zV w.heap.size w).alloc aD (.cells #[l,z,x,y] 39));have U:=ae jL;clear D O hm e K;go_enter func87,ntmps87
 go_wp2
 go_loopw [5,6] (fun i _ wr=>∃k:Nat,k<=ws.length/\i=.int .i64 k/\Hid (∀i a,i<k->ws[i]?=some a->a.k≠⟨l,z,x,y⟩)/\wr.heap[w.heap.size]?=some (.cells #[l,z,x,y] 39)/\Below w.heap.size w wr) (fun i _ _=>ws.length-(intOf i).toNat)
 ·exact⟨0,by omega,rfl,ae (fun i a hi=>absurd hi (by omega)),aa Y,aa Q⟩
 obtain⟨k,al,rfl,A,s,f⟩:=hrel;have ah:=f.size;have ad:=(f.cell (p:=⟨fb,11,none⟩) P).trans (aa R)
 by_cases W:k<ws.length
 ·have v:(k:Int)<ws.length:=by omega
  obtain⟨b,off,rfl,V,F⟩:=aa Z (by omega)
  obtain⟨⟨⟨j,o,m,n⟩,ai,aj,ak⟩,E⟩:∃t,ws[k]?=some t:=⟨_,zQ W⟩;have G:w.rangeAt b (off+k*7) (#[j,o,m,n]:Array Value).toList:=dV (bL.en F E) rfl;have N:∀d,Below wr.heap.size wr d->d.rangeAt b (off+k*7) (#[j,o,m,n]:Array Value).toList:=fun d h=>dA G (f.trans (h.mono f.size)) V;have M:∀d,Below wr.heap.size wr d->d.rangeAt w.heap.size 0 (#[l,z,x,y]:Array Value).toList:=fun d h=>ao (ag s h)
  have L:∀d,Below wr.heap.size wr d->d.cell? ⟨fb,11,none⟩=some (.slice (some ⟨b,off,none⟩) ws.length cap):=fun d h=>(h.cell (p:=⟨fb,11,none⟩) (by show fb<_; omega)).trans ad
  have J:=fun d=>aa U j o m n l z x y d
  go_wp2_with fail
  refine aM (by kernel_rfl) (by kernel_rfl) ?_
  refine eI fb 0 ?_;refine bd fb 0 ?_;refine bd fb 11 ?_
  refine bH (.slice (some ⟨b,off,none⟩) ws.length cap) ?_ (h:=fun w' H=>by simp[go_sem,L w' H])
  refine bD (.int .i64 k) ?_
  refine bd b (off+k*7) ?_ (h:=fun w' H=>by simp[go_sem,v])
  refine bd b (off+k*7) ?_;refine vK b (off+k*7) N ?_;refine vK w.heap.size 0 M ?_
  refine vC J ?_;refine vA (.bool (decide ((⟨j,o,m,n⟩:K4)=⟨l,z,x,y⟩))) ?_;refine zq ?_;intro ap B;have I:=ag s B;have r:=ae (f.trans (B.mono f.size));have T:=ae I;clear N M L G F f s I B J
  by_cases q:(⟨j,o,m,n⟩:K4)=⟨l,z,x,y⟩
  ·have u:decide ((⟨j,o,m,n⟩:K4)=⟨l,z,x,y⟩)=true:=by simp[q]
   have C:Hid ((m5 (dB ws ⟨l,z,x,y⟩))=k):=by show m5 _=_; rw[show dB ws ⟨l,z,x,y⟩=some k from o8 E (by simpa using q) (fun i a hi g=>by simpa using aa A i a hi g)]; rfl
   clear q;simp only[u]
   go_wp2
   go_ret
   exact⟨by rw[aa C]; rfl,aa r⟩
  have u:decide ((⟨j,o,m,n⟩:K4)=⟨l,z,x,y⟩)=false:=by simp[q]
  have S:Hid (∀i a,i<k+1->ws[i]?=some a->a.k≠⟨l,z,x,y⟩):=fun i a hi g=>by
   by_cases c:i=k
   ·subst c; rw[E] at g; cases g; exact q
   exact aa A i a (by omega) g
  clear q;simp only[u]
  go_wp2
  go_roundw
  ·exact⟨k+1,by omega,by go_num,S,aa T,aa r⟩
  simp[intOf]; omega
 have v:k=ws.length:=by omega
 subst v
 have C:Hid (m5 (dB ws ⟨l,z,x,y⟩)=-1):=by show m5 _=_; rw[show dB ws ⟨l,z,x,y⟩=none from o9 (fun i a hi g=>by simpa using aa A i a hi g)]; rfl
 have r:=ae f;clear f s
 go_wp2
 go_ret
 exact⟨by rw[aa C]; rfl,aa r⟩
structure ke (bs:List bK):Prop where
 n:bs.length<=100
 b8:∀k,k<bs.length->(ff bs k).length<=8
 rt:∀v,v<=bs.length->∀i,i<(dk bs v).length->Rt (gf (dk bs v) i)
def fB (bs:List bK)(v:Nat)(k:K4):Nat:=mF bs k.l k.z k.x k.y v
def En.t (e:En):aL:=⟨e.k,e.body,e.tag⟩
def aY (ws:List En):Nat:=aA (ws.map En.t)
theorem bytesE_take {ws:List En}{k:Nat}{a:En}(h:ws[k]?=some a):aY (ws.take (k+1))=aY (ws.take k)+a.body.size:=by
 unfold aY
 rw[be h,yV,ep]; simp[aA,En.t]
theorem gr {a b:List En}(h:a.Sublist b):aY a<=aY b:=eo (h.map _)
theorem oe (fb:Nat)(X:RV)(ts:List En)(w:World)(l:aF w fb X)(v:bL iM w X.ev ts)(h:aY ts<=1000000000)(D:ts.length<=100000000):
  Calls prog 110 #[some fb] w fun e w'=>e=.returned (.int .i64 (aY ts))/\w=w':=by
 obtain⟨x,cap,e,y,hm,j⟩:=v
 have z:w.cell? ⟨fb,11,none⟩=some (.slice x ts.length cap):=by rw[<-e]; exact l.c 11 rfl
 have r:=ae j;have q:=ae h;clear l j hm h e;go_enter func110,ntmps110
 go_wp2_with fail
 go_loop [3,4] (fun s i=>∃k:Nat,k<=ts.length/\i=.int .i64 k/\s=.int .i64 (aY (ts.take k))) (fun _ i=>ts.length-(intOf i).toNat)
 ·exact⟨0,by omega,rfl,by simp[aY,aA]⟩
 obtain⟨k,C,rfl,rfl⟩:=hrel
 by_cases p:k<ts.length
 ·have f:(k:Int)<ts.length:=by omega
  obtain⟨b,off,rfl,A,d⟩:=aa r (by omega)
  obtain⟨⟨⟨E,J,H,I⟩,a,F,G⟩,m⟩:∃t,ts[k]?=some t:=⟨_,zQ p⟩;have g:=bL.en d m;have B:w.cell? ⟨b,off+k*7+4,none⟩=some (.string a):=g 4 _ rfl;have c:aY (ts.take (k+1))=aY (ts.take k)+a.size:=bytesE_take m;have o:=gr (List.take_sublist (k+1) ts);have n:=aa q
  have hw:IntKind.i64.wrap ((aY (ts.take k):Int)+(a.size:Int))=((aY (ts.take k)+a.size:Nat):Int):=by
   rw[bG _ (by omega)]; omega
  have u:=ae c;clear g d c o n
  go_wp2_with fail
  go_round
  ·exact⟨k+1,by omega,by go_num,by rw[aa u]; rfl⟩
  simp[intOf]; omega
 have f:k=ts.length:=by omega
 subst f
 go_wp2
 go_ret;exact⟨rfl,rfl⟩
def mJ (ws:List En)(i:Nat):Int:=(ws[i]?.map En.use).getD 0
def dE (ws:List En):Nat->Nat
 | 0=>0
 | k+1=>if mJ ws k<mJ ws (dE ws k) then k else dE ws k
theorem lg (ws:List En):∀k,0<k->dE ws k<k
 | 0,h=>by omega
 | 1,_=>by unfold dE; split<;>simp[dE]
 | k+2,_=>by
  unfold dE
  have:=lg ws (k+1) (by omega)
  split<;>omega
theorem oldI_one (ws:List En):dE ws 1=0:=by unfold dE; split<;>simp[dE]
theorem oldest_any (fb:Nat)(X:RV)(ts:List En)(w:World)(f:aF w fb X)(F:bL iM w X.ev ts)(D:0<ts.length)(L:ts.length<=100000000):
  Calls prog 179 #[some fb] w fun e w'=>e=.returned (.int .i64 (dE ts ts.length))/\Below w.heap.size w w':=by
 obtain⟨G,cap,e,H,hm,x⟩:=F
 have d:w.cell? ⟨fb,11,none⟩=some (.slice G ts.length cap):=by rw[<-e]; exact f.c 11 rfl
 obtain⟨b,off,rfl,n,r⟩:=x D;have u:=ae r;have z:=an f;have y:=ae d;clear f x hm e r d;go_enter func179,ntmps179
 go_wp2
 go_loopw [3,4] (fun o i wr=>∃k:Nat,1<=k/\k<=ts.length/\i=.int .i64 k/\o=.int .i64 (dE ts k)/\Hid (Below w.heap.size w wr)) (fun _ i _=>ts.length-(intOf i).toNat)
 ·exact⟨1,by omega,by omega,rfl,by rw[oldI_one]; rfl,ae bu⟩
 obtain⟨k,I,K,rfl,rfl,a⟩:=hrel;have d:=((aa a).cell (p:=⟨fb,11,none⟩) z).trans (aa y)
 by_cases A:k<ts.length
 ·have s:(k:Int)<ts.length:=by omega
  have E:=lg ts k (by omega)
  have B:((dE ts k:Nat):Int)<ts.length:=by omega
  obtain⟨⟨⟨R,V,T,U⟩,Q,S,l⟩,h⟩:∃t,ts[k]?=some t:=⟨_,zQ A⟩
  obtain⟨⟨⟨sl,P,N,O⟩,M,st,j⟩,g⟩:∃t,ts[dE ts k]?=some t:=⟨_,zQ (by omega)⟩
  have J:wr.cell? ⟨b,off+k*7+6,none⟩=some (.int .i64 l):=((aa a).cell (p:=⟨b,off+k*7+6,none⟩) n).trans (bL.en (aa u) h 6 _ rfl);have C:wr.cell? ⟨b,off+dE ts k*7+6,none⟩=some (.int .i64 j):=((aa a).cell (p:=⟨b,off+dE ts k*7+6,none⟩) n).trans (bL.en (aa u) g 6 _ rfl)
  have c:Hid (dE ts (k+1)=if l<j then k else dE ts k):=by
   show _=_
   rw[dE,mJ,mJ,h,g]; rfl
  obtain⟨o,v⟩:∃o,dE ts k=o:=⟨_,rfl⟩;rw[v] at C B c E ⊢;clear h g v
  by_cases q:l<j
  focus
   have m:Hid (dE ts (k+1)=k):=by show _=_; rw[aa c,zJ q]
  rotate_left
  focus
   have m:Hid (dE ts (k+1)=o):=by show _=_; rw[aa c,zK q]
  all_goals
   clear c
   go_wp2_with fail
   go_quiet (fail)
   go_wp2
   go_roundw
   ·exact⟨k+1,by omega,by omega,by go_num,by rw[aa m],ae (ap (aa a) _)⟩
   simp[intOf]; omega
 have s:k=ts.length:=by omega
 subst s
 go_wp2
 go_ret;exact⟨rfl,aa a⟩
theorem refTag_any (l z x y s:Int)(w:World)(a:dy ⟨l,z,x,y⟩)(o:0<=s/\s<=100):
  Calls prog 139 #[.agg #[l,z,x,y],s] w fun e w'=>e=.returned (.tuple #[.string (du ⟨l,z,x,y⟩ s),()])/\Below w.heap.size w w':=by
 have m:=a.small;obtain⟨⟨j,p⟩,⟨k,q⟩⟩:=m;have h:=a.l;have i:=a.z;have b:=a.perr;dsimp only at j p k q h i b;have c:(l.toNat:Int)=l:=y4 h.1;have d:(z.toNat:Int)=z:=y4 i.1;have f:(x.toNat:Int)=x:=y4 j;have g:(y.toNat:Int)=y:=y4 k;have n:(s.toNat:Int)=s:=y4 o.1
 have T:=Dw.refTag_yes l.toNat z.toNat x.toNat y.toNat s.toNat w (by omega) (by omega) (by omega) (by omega) (by rw[c,d,f,g]; exact b) (by omega)
 rw[c,d,f,g,n] at T;refine T.mono ?_;rintro e w' ⟨⟨B,rfl,hB⟩,hb⟩
 exact⟨by rw[ba_of B _ hB]; rfl,hb⟩
section
variable {w:World}{fb:Nat}{X:RV}{keep:Int}{bv pv:Value}{SL:List cA}{bs:List bK}{PI:List Int}
theorem kX (v:Nat)(l z x y:Int)(k:aF w fb X)(s:eV w X.sb keep bv pv SL bs PI)(i:ke bs)(K:v<=bs.length)(t:dy ⟨l,z,x,y⟩):
  Calls prog 86 #[some fb,v,.agg #[l,z,x,y]] w fun e w'=>e=.returned (.string (du ⟨l,z,x,y⟩ (fB bs v ⟨l,z,x,y⟩)))/\Below w.heap.size w w':=by
 have M:=an k;have b:=(zV w.heap.size w).alloc aD (.cells #[l,z,x,y] 39);have g:=zZ w (.cells #[l,z,x,y] 39)
 have G:(w.alloc (.cells #[l,z,x,y] 39)).heap.size=w.heap.size+1:=by simp
 obtain⟨w1,d⟩:∃w1,w.alloc (.cells #[l,z,x,y] 39)=w1:=⟨_,rfl⟩;rw[d] at b g G;have C:=ae d;have p:=ag k b;have n:=s.on b;have r:∀a,Below w1.heap.size w1 a->a.cell? ⟨fb,5,none⟩=some (.pointer (some ⟨X.sb,0,none⟩)):=fun a h=>aF.c (X:=X) (ag p h) 5 rfl;have j:∀a,Below w1.heap.size w1 a->a.rangeAt w.heap.size 0 (#[l,z,x,y]:Array Value).toList:=fun a h=>ao (ag g h);have c:∀a,Below w1.heap.size w1 a->Calls prog 79 #[some X.sb,v,.agg #[l,z,x,y]] a fun e w'=>e=.returned (.int .i64 (mF bs l z x y v:Nat))/\Below a.heap.size a w':=fun a h=>Last_any X.sb keep bv pv SL bs PI v l z x y a (n.on h) K i.n i.b8;have E:=lsV_le bs l z x y v;have L:=i.n;unfold fB;dsimp only;generalize J:(mF bs l z x y v:Nat)=H at c E ⊢;obtain⟨S,D⟩:∃S:Int,(H:Int)=S:=⟨_,rfl⟩;rw[D] at c ⊢
 have I:=ae (fun a=>refTag_any l z x y S a t (by omega))
 have A:=ae b;clear k s n p b t J d;go_enter func86,ntmps86
 go_wp2_with fail
 rw[aa C]
 refine aM (by kernel_rfl) (by kernel_rfl) ?_
 refine eI fb 0 ?_;refine bd fb 0 ?_;refine bd fb 5 ?_
 refine bd X.sb 0 ?_ (h:=fun w' F=>by simp[go_sem,r w' F])
 refine bD (.int .i64 v) ?_;refine vK w.heap.size 0 j ?_
 refine eB rfl 79 (#[.pointer (some ⟨X.sb,0,none⟩),v,.agg #[l,z,x,y]]) (fun _=>by simp[go_sem]) (.int .i64 S) (c) ?_
 simp only[qZ];refine vA (.int .i64 S) ?_;refine zq ?_;intro u f;have q:=j u f
 have m:=ae ((aa A).trans (f.mono (by omega)))
 clear f r j c g
 go_wp2_with (refine vM q rfl _ rfl rfl ?_)
 refine(aa I u).mono ?_;rintro e N ⟨rfl,o⟩;have B:=ae ((aa m).trans (o.mono (aa m).size));clear o q
 go_wp2
 go_ret;exact⟨rfl,aa B⟩
theorem fH (v:Int)(l z x y:Int)(k:aF w fb X)(s:eV w X.sb keep bv pv SL bs PI)(p:ke bs):
  Calls prog 95 #[some fb,v,.agg #[l,z,x,y]] w fun e w'=>e=.returned (.bool (decide (((fB bs bs.length ⟨l,z,x,y⟩:Nat):Int)<=v)))/\Below w.heap.size w w':=by
 have D:=an k;have b:=(zV w.heap.size w).alloc aD (.cells #[l,z,x,y] 39);have i:=zZ w (.cells #[l,z,x,y] 39)
 have B:(w.alloc (.cells #[l,z,x,y] 39)).heap.size=w.heap.size+1:=by simp
 obtain⟨w1,f⟩:∃w1,w.alloc (.cells #[l,z,x,y] 39)=w1:=⟨_,rfl⟩;rw[f] at b i B;have A:=ae f;have m:=ag k b;have c:=s.on b;have j:∀a,Below w1.heap.size w1 a->a.cell? ⟨fb,5,none⟩=some (.pointer (some ⟨X.sb,0,none⟩)):=fun a h=>aF.c (X:=X) (ag m h) 5 rfl;have r:∀a,Below w1.heap.size w1 a->a.rangeAt w.heap.size 0 (#[l,z,x,y]:Array Value).toList:=fun a h=>ao (ag i h);have g:∀a,Below w1.heap.size w1 a->Calls prog 79 #[some X.sb,.int .i64 (bs.length:Nat),.agg #[l,z,x,y]] a fun e w'=>e=.returned (.int .i64 (mF bs l z x y bs.length:Nat))/\Below a.heap.size a w':=fun a h=>Last_any X.sb keep bv pv SL bs PI bs.length l z x y a (c.on h) aD p.n p.b8;have o:∀a,Below w1.heap.size w1 a->Calls prog 56 #[some X.sb] a fun e w'=>e=.returned (.int .i64 (bs.length:Nat))/\Below a.heap.size a w':=fun a h=>(dv (c.on h)).mono fun e w' q=>⟨q.1,q.2▸zV _ _⟩;unfold fB;dsimp only;generalize C:((mF bs l z x y bs.length:Nat):Int)=S at g ⊢;have t:=ae b;clear k s c m b C f;go_enter func95,ntmps95
 go_wp2_with fail
 rw[aa A]
 refine aM (by kernel_rfl) (by kernel_rfl) ?_
 refine eI fb 0 ?_;refine bd fb 0 ?_;refine bd fb 5 ?_
 refine bd X.sb 0 ?_ (h:=fun w' d=>by simp[go_sem,j w' d])
 refine eI fb 0 ?_;refine bd fb 0 ?_;refine bd fb 5 ?_
 refine bd X.sb 0 ?_ (h:=fun w' d=>by simp[go_sem,j w' d])
 refine eB rfl 56 (#[.pointer (some ⟨X.sb,0,none⟩)]) (fun _=>by simp[go_sem]) (.int .i64 (bs.length:Nat)) (o) ?_
 simp only[qZ];refine vK w.heap.size 0 r ?_
 refine eB rfl 79 (#[.pointer (some ⟨X.sb,0,none⟩),.int .i64 (bs.length:Nat),.agg #[l,z,x,y]]) (fun _=>by simp[go_sem]) (.int .i64 S) (g) ?_
 simp only[qZ];refine vA (.int .i64 S) ?_;refine zq ?_;intro E n
 have u:=ae ((aa t).trans (n.mono (by omega)))
 clear n j r g i o
 go_wp2
 go_ret;exact⟨rfl,aa u⟩
theorem mu (v:Nat)(l z x y:Int)(m:aF w fb X)(I:eV w X.sb keep bv pv SL bs PI)(k:ke bs)(K:v<=bs.length)(J:dy ⟨l,z,x,y⟩):
  Calls prog 145 #[some fb,v,.agg #[l,z,x,y]] w fun e w'=>e=.returned (.string (cg (dk bs v) ⟨l,z,x,y⟩))/\Below w.heap.size w w':=by
 have V:=an m;have b:=(zV w.heap.size w).alloc aD (.cells #[l,z,x,y] 39);have c:=zZ w (.cells #[l,z,x,y] 39)
 have O:(w.alloc (.cells #[l,z,x,y] 39)).heap.size=w.heap.size+1:=by simp
 obtain⟨w1,j⟩:∃w1,w.alloc (.cells #[l,z,x,y] 39)=w1:=⟨_,rfl⟩;rw[j] at b c O;have N:=ae j;have C:=ag m b;have t:=I.on b;have H:∀a,Below w1.heap.size w1 a->a.cell? ⟨fb,5,none⟩=some (.pointer (some ⟨X.sb,0,none⟩)):=fun a h=>aF.c (X:=X) (ag C h) 5 rfl;have R:∀a,Below w1.heap.size w1 a->a.rangeAt w.heap.size 0 (#[l,z,x,y]:Array Value).toList:=fun a h=>ao (ag c h);clear N;subst j;have Q:=H _ bu;have E:=At_any X.sb keep bv pv SL bs PI v _ t K k.n k.b8;have g:=k.rt v K;have s:=d7 bs v;have G:=ae (fun(a:World) (u:Value) (S:bL rF a u (dk bs v))=>Tile_any u _ _ l z x y a S.csF J.err s (pL g));have F:=ae (fun(a:World)=>Pk.refPack_yes (tile (dk bs v) l z x y) a (okTile g l z x y));have o:=ae b;have P:=ae c;clear m I t C b J H R g s c;go_enter func145,ntmps145
 go_wp2_with fail
 refine E.mono ?_;rintro e L ⟨rv,rfl,i,f⟩;obtain⟨Y,Z,T,_⟩:=id i;have r:=aa G L rv i;have D:L.rangeAt w.heap.size 0 (#[l,z,x,y]:Array Value).toList:=ao (ag (aa P) f);have p:=ae ((aa o).trans (f.mono (aa o).size));clear i f E G Q;subst T
 go_wp2_with (refine vM D rfl _ rfl rfl ?_)
 refine r.mono ?_;rintro e U ⟨rfl,A⟩;have d:=aa F U;have q:=ae ((aa p).trans (A.mono (aa p).size));clear A r F D;have n:(tile (dk bs v) l z x y)=⟨(kP (gf (dk bs v)) (dk bs v).length l z x y 64).toArray⟩:=rfl;rw[n] at d;have W:=ae n;clear n
 go_wp2_with fail
 refine d.mono ?_;rintro e ab ⟨rfl,B⟩;have M:=ae ((aa q).trans (B.mono (aa q).size));clear B d
 go_wp2
 go_ret;exact⟨rfl,aa M⟩
end
theorem mn {α:Type}{l:List α}{k:Nat}{a:α}(i:Nat)(h:l[k]?=some a):(l.take (k+1)).eraseIdx i=(l.take k).eraseIdx i++(if k=i then [] else [a]):=by
 have d:k<l.length:=(zX.1 h).1
 have b:(l.take k).length=k:=by rw[zD]; omega
 rw[be h]
 by_cases c:i<k
 ·rw[List.eraseIdx_append_of_lt_length (by omega),zK (by omega)]
 rw[List.eraseIdx_append_of_length_le (by omega),b,List.eraseIdx_of_length_le (l:=l.take k) (by omega)]
 by_cases e:k=i
 ·rw[zJ e,e]; simp
 rw[zK e,List.eraseIdx_of_length_le (by simp; omega)]
theorem dropJob_any (fb:Nat)(X:RV)(ws:List Jb)(i:Nat)(w:World)(m:aF w fb X)(D:ah jP 165 w X.jv ws)(ad:ws.length<=10000000):
  Calls prog 147 #[some fb,i] w fun e w'=>e=.returned (.tuple #[])/\(∃d,aF w' fb { X with jv:=d }/\ah jP 165 w' d (ws.eraseIdx i)/\∀g,d.ownBlock=some g->w.heap.size<=g)/\aE (fun k=>k=fb) w w':=by
 have H:=an m;obtain⟨S,cap,e,U,hm,C⟩:=D.at;have P:=ae C;have Q:=ae m
 have B:w.cell? ⟨fb,10,none⟩=some (.slice S ws.length cap):=by rw[<-e]; exact m.c 10 rfl
 have J:=ae B;clear m D C e B;go_enter func147,ntmps147
 go_wp2
 go_loopw [4,5] (fun lv s wr=>∃k:Nat,k<=ws.length/\s=.int .i64 k/\ah jP 165 wr lv ((ws.take k).eraseIdx i)/\Hid (∀g,lv.ownBlock=some g->w.heap.size<=g)/\Below w.heap.size w wr) (fun _ s _=>ws.length-(intOf s).toNat)
 ·exact⟨0,by omega,rfl,by simpa using aU,ae (fun g l=>by simp[Value.ownBlock] at l),zV _ _⟩
 obtain⟨k,ac,rfl,a,j,c⟩:=hrel;have O:=c.size;have ai:=(c.cell (p:=⟨fb,10,none⟩) H).trans (aa J)
 by_cases M:k<ws.length
 ·have q:(k:Int)<ws.length:=by omega
  obtain⟨b,off,rfl,L,z⟩:=aa P (by omega)
  obtain⟨f,E⟩:∃t,ws[k]?=some t:=⟨_,zQ M⟩;have N:=dA (bL.jb z E) c L;have h:=mn i E;have x:=ae c;clear c z
  by_cases r:k=i
  ·subst r
   rw[zJ rfl,yW] at h;rw[<-h] at a;have n:=ae a;clear a h
   go_wp2
   go_roundw
   ·exact⟨k+1,by omega,by go_num,aa n,j,aa x⟩
   simp[intOf]; omega
  have Y:((k:Int)==(i:Int))=false:=by simp only[zc]; omega
  have V:¬(k:Int)=(i:Int):=by omega
  rw[zK r] at h;have y:=aZ jP 165 wr f f.a rfl;have v:=a.on (bu.alloc aD (.cells f.a 165))
  obtain⟨aj,ak,T,u,F,G⟩:=apJb v y (by have:=List.length_eraseIdx_le (ws.take k) i; simp only[zD,zT] at this ⊢; omega)
  rw[<-h] at u;have n:=ae u
  have I:=ae (((aa x).alloc O (.cells f.a 165)).grown F (by simp; omega) (fun g l=>aa j g l))
  have K:=ae (bN (aa j) G (by simp; omega))
  clear a y v u F G h r
  go_wp2_with (first|refine bU 165 f.a underlying165 rfl (fu f) b (off+k*8) N rfl _ rfl rfl ?_|refine cP _ _ (bsJb f _ _ _ rfl rfl _) rfl ?_|(at_builtin; refine fS 132 T rfl _ _ rfl rfl rfl rfl ?_))
  go_roundw
  ·exact⟨k+1,by omega,by go_num,aa n,aa K,aa I⟩
  simp[intOf]; omega
 have q:k=ws.length:=by omega
 have o:=ag (aa Q) c;have W:=kr o 10
 have A:ws.take k=ws:=by rw[q,zx]
 rw[A] at a
 have R:Hid ((∃d,aF (wr.setCell ⟨fb,10,none⟩ u4) fb { X with jv:=d }/\ah jP 165 (wr.setCell ⟨fb,10,none⟩ u4) d (ws.eraseIdx i)/\∀g,d.ownBlock=some g->w.heap.size<=g)/\aE (fun k=>k=fb) w (wr.setCell ⟨fb,10,none⟩ u4)):=
  ⟨⟨u4,aF.set o 10 u4 (RV.set_jv X u4),a.same (fun g l=>zW _ _ _ _ (by have:=aa j g l; show g≠fb; omega)),aa j⟩,(aE.of_below c).setCell u4 (fun _=>rfl)⟩
 obtain⟨Z,af,ab,rfl⟩:=a.sl;clear a c o A;subst q
 go_wp2_with fail
 exact yB (yY results147 _ _ _) rfl ⟨rfl,aa R⟩
theorem iY (fb:Nat)(X:RV)(ws:List En)(i:Nat)(w:World)(m:aF w fb X)(D:ah iM 162 w X.ev ws)(ad:ws.length<=10000000):
  Calls prog 178 #[some fb,i] w fun e w'=>e=.returned (.tuple #[])/\(∃d,aF w' fb { X with ev:=d }/\ah iM 162 w' d (ws.eraseIdx i)/\∀g,d.ownBlock=some g->w.heap.size<=g)/\aE (fun k=>k=fb) w w':=by
 have H:=an m;obtain⟨S,cap,e,U,hm,C⟩:=D.at;have P:=ae C;have Q:=ae m
 have B:w.cell? ⟨fb,11,none⟩=some (.slice S ws.length cap):=by rw[<-e]; exact m.c 11 rfl
 have J:=ae B;clear m D C e B;go_enter func178,ntmps178
 go_wp2
 go_loopw [4,5] (fun lv s wr=>∃k:Nat,k<=ws.length/\s=.int .i64 k/\ah iM 162 wr lv ((ws.take k).eraseIdx i)/\Hid (∀g,lv.ownBlock=some g->w.heap.size<=g)/\Below w.heap.size w wr) (fun _ s _=>ws.length-(intOf s).toNat)
 ·exact⟨0,by omega,rfl,by simpa using aU,ae (fun g l=>by simp[Value.ownBlock] at l),zV _ _⟩
 obtain⟨k,ac,rfl,a,j,c⟩:=hrel;have O:=c.size;have ai:=(c.cell (p:=⟨fb,11,none⟩) H).trans (aa J)
 by_cases M:k<ws.length
 ·have q:(k:Int)<ws.length:=by omega
  obtain⟨b,off,rfl,L,z⟩:=aa P (by omega)
  obtain⟨f,E⟩:∃t,ws[k]?=some t:=⟨_,zQ M⟩;have N:=dA (bL.en z E) c L;have h:=mn i E;have x:=ae c;clear c z
  by_cases r:k=i
  ·subst r
   rw[zJ rfl,yW] at h;rw[<-h] at a;have n:=ae a;clear a h
   go_wp2
   go_roundw
   ·exact⟨k+1,by omega,by go_num,aa n,j,aa x⟩
   simp[intOf]; omega
  have Y:((k:Int)==(i:Int))=false:=by simp only[zc]; omega
  have V:¬(k:Int)=(i:Int):=by omega
  rw[zK r] at h;have y:=aZ iM 162 wr f f.a rfl;have v:=a.on (bu.alloc aD (.cells f.a 162))
  obtain⟨aj,ak,T,u,F,G⟩:=apEn v y (by have:=List.length_eraseIdx_le (ws.take k) i; simp only[zD,zT] at this ⊢; omega)
  rw[<-h] at u;have n:=ae u
  have I:=ae (((aa x).alloc O (.cells f.a 162)).grown F (by simp; omega) (fun g l=>aa j g l))
  have K:=ae (bN (aa j) G (by simp; omega))
  clear a y v u F G h r
  go_wp2_with (first|refine bU 162 f.a underlying162 rfl (sz162 f) b (off+k*7) N rfl _ rfl rfl ?_|refine cP _ _ (bsEn f _ _ _ rfl rfl _) rfl ?_|(at_builtin; refine fS 133 T rfl _ _ rfl rfl rfl rfl ?_))
  go_roundw
  ·exact⟨k+1,by omega,by go_num,aa n,aa K,aa I⟩
  simp[intOf]; omega
 have q:k=ws.length:=by omega
 have o:=ag (aa Q) c;have W:=kr o 11
 have A:ws.take k=ws:=by rw[q,zx]
 rw[A] at a
 have R:Hid ((∃d,aF (wr.setCell ⟨fb,11,none⟩ u4) fb { X with ev:=d }/\ah iM 162 (wr.setCell ⟨fb,11,none⟩ u4) d (ws.eraseIdx i)/\∀g,d.ownBlock=some g->w.heap.size<=g)/\aE (fun k=>k=fb) w (wr.setCell ⟨fb,11,none⟩ u4)):=
  ⟨⟨u4,aF.set o 11 u4 (RV.set_ev X u4),a.same (fun g l=>zW _ _ _ _ (by have:=aa j g l; show g≠fb; omega)),aa j⟩,(aE.of_below c).setCell u4 (fun _=>rfl)⟩
 obtain⟨Z,af,ab,rfl⟩:=a.sl;clear a c o A;subst q
 go_wp2_with fail
 exact yB (yY results178 _ _ _) rfl ⟨rfl,aa R⟩
set_option linter.unusedVariables false
theorem eV.frmT {w w':World}{rb:Nat}{d:Int}{bv pv:Value}{SL:List cA}{bs:List bK}{PI:List Int}{S:Nat->Prop}{Ts:List TypeId}(h:eV w rb d bv pv SL bs PI)(a:aE S w w')(c:fQ S w Ts)(e:121∉Ts)(f:40∉Ts)(g:100∉Ts)(j:3∉Ts):eV w' rb d bv pv SL bs PI:=
 ⟨bJ h.blk a c e,h.bat.frmT a c f,h.len,fun i s b l k=>(h.bts i s b l k).frmT a c g,h.pin.frmT a c j⟩
def dropK (ts:List En)(k:K4):List En:=match dB ts k with
 | some i=>ts.eraseIdx i
 | none=>ts
theorem dropK_sub (ts:List En)(k:K4):(dropK ts k).Sublist ts:=by
 unfold dropK
 split
 ·exact List.eraseIdx_sublist _ _
 exact yt _
theorem ko {ts:List En}(h:0<ts.length):(ts.eraseIdx (dE ts ts.length)).length<ts.length:=by
 have:=lg ts ts.length h
 rw[List.length_eraseIdx_of_lt this]; omega
def pD (room n:Nat)(ts:List En):List En:=if h:0<ts.length/\room<aY ts+n then pD room n (ts.eraseIdx (dE ts ts.length)) else ts
termination_by ts.length
decreasing_by exact ko h.1
theorem evE_go {room n:Nat}{ts:List En}(h:0<ts.length)(a:room<aY ts+n):pD room n ts=pD room n (ts.eraseIdx (dE ts ts.length)):=by
 rw[pD,dif_pos ⟨h,a⟩]
theorem jV {room n:Nat}{ts:List En}(h:¬(0<ts.length/\room<aY ts+n)):pD room n ts=ts:=by
 rw[pD,dif_neg h]
def mG (ca cnt:Nat)(ts:List En)(t:aL):Nat × List En:=if ca<t.body.size then (cnt,ts) else (cnt+1,pD ca t.body.size (dropK ts t.k)++[⟨t.k,t.body,t.tag,(cnt:Int)+1⟩])
def KpP (w:World)(fb:Nat)(X:RV)(n:Nat)(ts':List En)(w':World):Prop:=
 (∃ev',aF w' fb { X with ct:=n,ev:=ev' }/\ah iM 162 w' ev' ts'/\∀g,ev'.ownBlock=some g->X.ev.ownBlock=some g\/w.heap.size<=g)/\aE (fun k=>k=fb\/X.ev.ownBlock=some k) w w'
def elen (fb:Nat)(w:World):Nat:=match w.cell? ⟨fb,11,none⟩ with
 | some (.slice _ n _)=>n
 | _=>0
theorem elen_eq {fb:Nat}{w:World}{X:RV}{a:List En}(b:aF w fb X)(d:bL iM w X.ev a):elen fb w=a.length:=by
 obtain⟨f,cap,e,_⟩:=d;have c:=b.c 11 (u:=X.ev) rfl;unfold elen;rw[c,e]
theorem tyE {w:World}{fb:Nat}{X:RV}{ts:List En}(d:aF w fb X)(e:ah iM 162 w X.ev ts):fQ (fun k=>k=fb\/X.ev.ownBlock=some k) w [135,162]:=fun k a=>by
 rcases a with rfl|a
 ·exact⟨_,_,d,by simp⟩
 obtain⟨c,b⟩:=e.ty a
 exact⟨_,_,b,by simp⟩
theorem built162 (l z x y u:Int)(B T:ByteArray):prog.built 162 [(0,.agg #[l,z,x,y]),(1,.string B),(2,.string T),(3,.int .i64 u)]=some (En.a ⟨⟨l,z,x,y⟩,B,T,u⟩):=by kernel_rfl
theorem bEn (l z x y u:Int)(B T:ByteArray)(ev:Operand->Value)(o:Oper)(p q a s:Operand)(g:o.op=.build 162 #[(0,p),(1,q),(2,a),(3,s)])(b:ev p=.agg #[l,z,x,y])(c:ev q=.string B)(d:ev a=.string T)(e:ev s=.int .i64 u)(w:World):(execOp ev o).run prog w=.ok (.value (.agg (En.a ⟨⟨l,z,x,y⟩,B,T,u⟩))) w:=by
 have f:=run_build (P:=prog) w 162 #[(0,.agg #[l,z,x,y]),(1,.string B),(2,.string T),(3,.int .i64 u)] _ (built162 l z x y u B T);unfold execOp;simp[g,b,c,d,e,f]
section
variable {w:World}{fb:Nat}{X:RV}{keep:Int}{bv pv:Value}{SL:List cA}{bs:List bK}{PI:List Int}
theorem keep_any (v:Nat)(l z x y:Int)(ca cnt:Nat)(ts:List En)(aI:aF w fb X)(b3:X.ca=ca)(b4:X.ct=cnt)(cS:cnt<=1000000000)(bw:eV w X.sb keep bv pv SL bs PI)(a7:ke bs)(bA:v<=bs.length)(aJ:dy ⟨l,z,x,y⟩)(bz:ah iM 162 w X.ev ts)(cO:ts.length<=100000)(b2:aY ts<=1000000):
  Calls prog 146 #[some fb,v,.agg #[l,z,x,y]] w fun e w'=>e=.returned (.tuple #[])/\KpP w fb X (mG ca cnt ts ⟨⟨l,z,x,y⟩,cg (dk bs v) ⟨l,z,x,y⟩,du ⟨l,z,x,y⟩ (fB bs v ⟨l,z,x,y⟩)⟩).1 (mG ca cnt ts ⟨⟨l,z,x,y⟩,cg (dk bs v) ⟨l,z,x,y⟩,du ⟨l,z,x,y⟩ (fB bs v ⟨l,z,x,y⟩)⟩).2 w':=by
 have cQ:=an aI;have ck:=tyE aI bz;have aW:=(zV w.heap.size w).alloc aD (.cells #[l,z,x,y] 39);have bu:=zZ w (.cells #[l,z,x,y] 39);have a6:=mu v l z x y (ag aI aW) (bw.on aW) a7 bA aJ;have bt:=ae (fun(s:World) (cn:RV) (cK:aF s fb cn) (cM:eV s cn.sb keep bv pv SL bs PI)=>kX v l z x y cK cM a7 bA aJ);have cB:=(gu (a7.rt v bA) ⟨l,z,x,y⟩).2;generalize cg (dk bs v) ⟨l,z,x,y⟩=B at a6 cB ⊢;generalize du ⟨l,z,x,y⟩ (fB bs v ⟨l,z,x,y⟩)=T at bt ⊢;have bY:∀s,Below (w.alloc (.cells #[l,z,x,y] 39)).heap.size (w.alloc (.cells #[l,z,x,y] 39)) s->s.heap[w.heap.size]?=some (.cells #[l,z,x,y] 39):=fun s h=>ag bu h;have bB:(w.alloc (.cells #[l,z,x,y] 39)).rangeAt w.heap.size 0 (#[l,z,x,y]:Array Value).toList:=ao bu;have cI:=ae bw;have ch:=ae aI;have cH:=ae bz;have cZ:=ae ck;have cr:=ae bY;have bN:=ae aW
 have bO:=ae b2
 have bP:=ae b3;have bQ:=ae b4;clear aI bw bz ck aW bu bY aJ a7 b2 b3 b4;go_enter func146,ntmps146
 go_wp2_with (refine vM bB rfl _ rfl rfl ?_)
 refine a6.mono ?_;rintro e aM ⟨rfl,aX⟩;have D:=(aa bN).trans (aX.mono (aa bN).size);have f:=ag (aa ch) D
 have aG:aM.cell? ⟨fb,3,none⟩=some (.int .i64 ca):=by rw[<-aa bP]; exact aF.c (X:=X) f 3 rfl
 have A:=aa cr aM aX;have bC:aM.rangeAt w.heap.size 0 (#[l,z,x,y]:Array Value).toList:=ao A;have o:=(aa cH).on D
 by_cases bf:ca<B.size
 ·have cA:(ca:Int)<B.size:=by omega
  have br:Hid (KpP w fb X (mG ca cnt ts ⟨⟨l,z,x,y⟩,B,T⟩).1 (mG ca cnt ts ⟨⟨l,z,x,y⟩,B,T⟩).2 aM):=by
   unfold mG;rw[zJ bf];refine⟨⟨X.ev,?_,o,fun g d=>Or.inl d⟩,aE.of_below D⟩
   rw[<-aa bQ]; exact f
  clear f o A bC D aX a6 bB
  go_wp2_with fail
  exact zL (yY results146 _ _ _) rfl ⟨rfl,aa br⟩
 have cA:¬(ca:Int)<B.size:=by omega
 have b6:mG ca cnt ts ⟨⟨l,z,x,y⟩,B,T⟩=(cnt+1,pD ca B.size (dropK ts ⟨l,z,x,y⟩)++[⟨⟨l,z,x,y⟩,B,T,(cnt:Int)+1⟩]):=by unfold mG; rw[zK bf]
 have cq:=ae b6
 have b9:=nO fb X ts l z x y aM f o.at (by omega)
 have cb:=ae (And.intro f (And.intro o (And.intro A D)));clear f o A D aX a6 bB b6 bf
 go_wp2_with (refine vM bC rfl _ rfl rfl ?_)
 refine b9.mono ?_;rintro e aN ⟨rfl,al⟩;obtain⟨f,o,A,D⟩:=aa cb;have J:=ag f al;have W:=o.on al;have aT:=ag A al;have aR:=D.trans (al.mono D.size);clear f o A D al cb b9 bC aG;obtain⟨i,hi⟩:∃i,dB ts ⟨l,z,x,y⟩=i:=⟨_,rfl⟩;rw[hi]
 rcases i with _|i
 case' none=>
  have ar:dropK ts ⟨l,z,x,y⟩=ts:=by unfold dropK; rw[hi]
  have cd:Hid (∃(b:Value) (a:List En),aF aN fb { X with ev:=b }/\ah iM 162 aN b a/\(∀g,b.ownBlock=some g->X.ev.ownBlock=some g\/w.heap.size<=g)/\pD ca B.size a=pD ca B.size (dropK ts ⟨l,z,x,y⟩)/\a.length<=100000/\aY a<=1000000/\aN.heap[w.heap.size]?=some (.cells #[l,z,x,y] 39)/\aE (fun k=>k=fb) w aN):=
   ⟨X.ev,ts,J,W,fun g d=>Or.inl d,by rw[ar],cO,aa bO,aT,aE.of_below aR⟩
  clear J W aT aR ar hi;simp only[m5]
  go_wp2_with fail
 case' some=>
  have ar:dropK ts ⟨l,z,x,y⟩=ts.eraseIdx i:=by unfold dropK; rw[hi]
  have aB:=iY fb X ts i aN J W (by omega)
  have cc:=ae (And.intro J (And.intro aT (And.intro aR ar)))
  have cC:(0:Int)<=(i:Int):=by omega
  clear J W aT aR ar hi;simp only[m5]
  go_wp2_with fail
  refine aB.mono ?_;rintro e bb ⟨rfl,⟨bk,j,r,G⟩,u⟩
  have cd:Hid (∃(b:Value) (a:List En),aF bb fb { X with ev:=b }/\ah iM 162 bb b a/\(∀g,b.ownBlock=some g->X.ev.ownBlock=some g\/w.heap.size<=g)/\pD ca B.size a=pD ca B.size (dropK ts ⟨l,z,x,y⟩)/\a.length<=100000/\aY a<=1000000/\bb.heap[w.heap.size]?=some (.cells #[l,z,x,y] 39)/\aE (fun k=>k=fb) w bb):=by
   obtain⟨Y,Z,ab,M⟩:=aa cc;have:=ab.size
   exact⟨bk,_,j,r,fun g d=>Or.inr (by have:=G g d; omega),by rw[M],by have:=List.length_eraseIdx_le ts i; omega,by have:=gr (List.eraseIdx_sublist ts i); have:=aa bO; omega,aQ Z u (by omega),(aE.of_below ab).then u (fun _ _ h=>h)⟩
  clear j r G u aB cc cC
  go_wp2_with fail
 all_goals
  go_loopw [8] (fun _ wr=>Hid (∃(b:Value) (a:List En),aF wr fb { X with ev:=b }/\ah iM 162 wr b a/\(∀g,b.ownBlock=some g->X.ev.ownBlock=some g\/w.heap.size<=g)/\pD ca B.size a=pD ca B.size (dropK ts ⟨l,z,x,y⟩)/\a.length<=100000/\aY a<=1000000/\wr.heap[w.heap.size]?=some (.cells #[l,z,x,y] 39)/\aE (fun k=>k=fb) w wr)) (fun _ wr=>elen fb wr)
  ·exact cd
  obtain⟨b,a,j,r,G,bg,cD,b8,bm,u⟩:=aa hrel;have b7:=elen_eq j r.at
  have aG:wr.cell? ⟨fb,3,none⟩=some (.int .i64 ca):=by rw[<-aa bP]; exact aF.c j 3 rfl
  have aA:∀q,Calls prog 110 #[some fb] (wr.drewN q) fun e w'=>e=.returned (.int .i64 (aY a))/\wr.drewN q=w':=fun q=>oe fb _ a _ (ag j (nc wr q)) (r.at.on (nc wr q)) (by omega) (by omega)
  obtain⟨cP,cap,cj,_,_,cN⟩:=r.at
  have U:wr.cell? ⟨fb,11,none⟩=some (.slice cP a.length cap):=by rw[<-cj]; exact aF.c j 11 rfl
  have bJ:¬(0<a.length/\ca<aY a+B.size)->∀s,Below wr.heap.size wr s->aF s fb { X with ev:=b }/\ah iM 162 s b a/\(∀g,b.ownBlock=some g->X.ev.ownBlock=some g\/w.heap.size<=g)/\pD ca B.size (dropK ts ⟨l,z,x,y⟩)=a/\s.heap[w.heap.size]?=some (.cells #[l,z,x,y] 39)/\aE (fun k=>k=fb) w s:=fun bx s a8=>⟨ag j a8,r.on a8,G,by rw[<-bg]; exact jV bx,ag bm a8,u.then (aE.of_below (S:=fun k=>k=fb) a8) (fun _ _ h=>h)⟩
  have aC:=ae bJ;have aS:=ae (And.intro j (And.intro r (And.intro G (And.intro bg (And.intro bm u)))));have bi:=ae b7;have bU:=ae b8;have bh:=ae hrel;clear bJ j r G bg bm u cN cj hrel b7 b8
  by_cases bx:a.length=0
  case' pos=>
   obtain rfl:a=[]:=yU bx
   have ak:=ae (aa aC (by simp))
   simp only[List.length_nil] at U;clear aS bi aA aC bh
   go_wp2_with fail
   go_quiet (fail)
   obtain⟨K,L,ac,V,I,H⟩:=aa ak (wr.drewN nq) (nc wr nq);generalize wr.drewN nq=bc at K L I H ⊢;obtain⟨a,bq⟩:∃a:List En,a=[]:=⟨_,rfl⟩;rw[<-bq] at L V
   have cD:a.length<=100000:=by rw[bq]; simp
   clear ak U aG bq
  case' neg=>
   have cR:(0:Int)<a.length:=by omega
   have a2:0<a.length:=by omega
   have cY:decide (0<a.length)=true:=zU a2;have cz:=aa bU
   have cE:IntKind.i64.wrap ((aY a:Int)+(B.size:Int))=(aY a:Int)+(B.size:Int):=bG _ (by omega)
   by_cases a0:ca<aY a+B.size
   ·have bL:(ca:Int)<(aY a:Int)+(B.size:Int):=by omega
    have bK:=evE_go (n:=B.size) a2 a0;have bE:=ko a2;have bM:=gr (List.eraseIdx_sublist a (dE a a.length));have co:=ae bK;have bD:=ae bE;have cp:=ae bM;clear aC bh a0 bK bE bM
    go_wp2_with fail
    go_quiet (exact(aA _).mono fun e w' h=>⟨h.1,_,h.2.symm⟩)
    obtain⟨Y,Z,ab,M,Q,R⟩:=aa aS;have ax:=nc wr nq;have f:=ag Y ax;have o:=Z.on ax;have A:=ag Q ax;have bl:aE (fun k=>k=fb) w (wr.drewN nq):=R.then (aE.of_below (S:=fun k=>k=fb) ax) (fun _ _ h=>h);generalize wr.drewN nq=cF at f o A bl ⊢
    have ci:=oldest_any fb _ a cF f o.at a2 (by omega)
    have bR:=ae (And.intro f (And.intro o (And.intro ab (And.intro M (And.intro A bl)))));clear f o A bl Y Z ab M Q R ax aA U aG aS cE bL cz
    go_wp2_with fail
    refine ci.mono ?_;rintro e cG ⟨rfl,aj⟩;obtain⟨Y,Z,ab,M,Q,R⟩:=aa bR;have J:=ag Y aj;have W:=Z.on aj
    have aB:=iY fb _ a (dE a a.length) cG J W (by omega)
    have bS:=ae (And.intro J (And.intro M (And.intro (ag Q aj) (R.then (aE.of_below (S:=fun k=>k=fb) aj) (fun _ _ h=>h)))));clear J W Y Z ab M Q R aj ci bR
    go_wp2_with fail
    refine aB.mono ?_;rintro e a5 ⟨rfl,⟨bk,j,r,G⟩,u⟩
    have cv:Hid (∃(b:Value) (a:List En),aF a5 fb { X with ev:=b }/\ah iM 162 a5 b a/\(∀g,b.ownBlock=some g->X.ev.ownBlock=some g\/w.heap.size<=g)/\pD ca B.size a=pD ca B.size (dropK ts ⟨l,z,x,y⟩)/\a.length<=100000/\aY a<=1000000/\a5.heap[w.heap.size]?=some (.cells #[l,z,x,y] 39)/\aE (fun k=>k=fb) w a5):=by
     obtain⟨Y,M,Q,R⟩:=aa bS;have:=R.size;have:=an Q
     exact⟨bk,_,j,r,fun g d=>Or.inr (by have:=G g d; omega),by rw[<-aa co]; exact M,by have:=aa bD; omega,by have:=aa cp; have:=aa bU; omega,aQ Q u (by omega),R.then u (fun _ _ h=>h)⟩
    have cs:=ae (elen_eq j r.at);clear j r G u aB bS
    go_wp2
    go_roundw
    ·exact cv
    have c0:=aa cs;have c1:=aa bi;have c2:=aa bD;omega
   have bL:¬(ca:Int)<(aY a:Int)+(B.size:Int):=by omega
   have ak:=ae (aa aC (fun q=>a0 q.2));clear aS bi aC bh a0
   go_wp2_with fail
   go_quiet (exact(aA _).mono fun e w' h=>⟨h.1,_,h.2.symm⟩)
   obtain⟨K,L,ac,V,I,H⟩:=aa ak (wr.drewN nq) (nc wr nq);generalize wr.drewN nq=bc at K L I H ⊢;clear ak U aG aA
  all_goals
   have cy:fQ (fun k=>k=fb) w [135]:=fun k aJ=>by subst aJ; exact⟨_,_,aa ch,by simp⟩
   have bZ:eV bc X.sb keep bv pv SL bs PI:=(aa cI).frmT H cy (by decide) (by decide) (by decide) (by decide)
   have bV:=aa bt bc _ K bZ;have cl:bc.rangeAt w.heap.size 0 (#[l,z,x,y]:Array Value).toList:=ao I;have ce:=ae (And.intro K (And.intro L (And.intro ac (And.intro V (And.intro I H)))));clear K L ac V I H bZ bt
   go_wp2_with (refine vM cl rfl _ rfl rfl ?_)
   refine bV.mono ?_;rintro e aO ⟨rfl,ap⟩;obtain⟨K,L,ac,V,I,H⟩:=aa ce;have av:=ag K ap;have bp:=L.on ap;have bX:=ag I ap;have bW:aE (fun k=>k=fb) w aO:=H.then (aE.of_below (S:=fun k=>k=fb) ap) (fun _ _ h=>h)
   have cJ:aO.cell? ⟨fb,7,none⟩=some (.int .i64 (cnt:Int)):=by rw[<-aa bQ]; exact aF.c (X:={ X with ev:=b }) av 7 rfl
   have cw:=kr av 7;obtain⟨F,ay⟩:∃w',aO.setCell ⟨fb,7,none⟩ (.int .i64 ((cnt:Int)+1))=w':=⟨_,rfl⟩;have C:aF F fb { X with ev:=b,ct:=(cnt:Int)+1 }:=ay▸aF.set av 7 _ (RV.set_ct _ _);have t:aE (fun k=>k=fb) w F:=ay▸bW.setCell (p:=⟨fb,7,none⟩) _ (fun _=>rfl);have be:aE (fun k=>k=fb) aO F:=ay▸(aE.rfl' _ _).setCell (p:=⟨fb,7,none⟩) _ (fun _=>rfl)
   have P:=bp.frm be (fun g d=>au bp av (by decide) g d)
   have E:=aQ bX be (by omega)
   have cX:IntKind.i64.wrap ((cnt:Int)+1)=(cnt:Int)+1:=bG _ (by omega)
   have cf:=ae (And.intro C (And.intro P (And.intro E t)));have bd:=ae ac;have bT:=ae V;have cu:=ae ay;clear K L ac V I H av bp bX bW C P E t be ap ce bV cl ay
   go_wp2_with (refine cU F (kO _ _ _ _ rfl fb 7 ((cnt:Int)+1) rfl (by simp[go_sem]) aO F cJ cw (aa cu)) rfl ?_)
   refine z8 (S:=fun w'=>w'.heap[w.heap.size]?=some (.cells #[l,z,x,y] 39)/\w'.cell? ⟨fb,7,none⟩=some (.int .i64 ((cnt:Int)+1))) (by kernel_rfl) ?_
   change wpAnyH _ _ _ _ _ _ _ _ (World.drew _);obtain⟨C,P,E,t⟩:=aa cf;have C:aF (World.drew F) fb { X with ev:=b,ct:=(cnt:Int)+1 }:=C;have P:ah iM 162 (World.drew F) b a:=P;have E:(World.drew F).heap[w.heap.size]?=some (.cells #[l,z,x,y] 39):=E;have t:aE (fun k=>k=fb) w (World.drew F):=⟨t.os,t.tape,t.output,t.size,t.block⟩;generalize World.drew F=c at C P E t ⊢;have m:c.heap[w.heap.size]?=some (.cells #[l,z,x,y] 39)/\c.cell? ⟨fb,7,none⟩=some (.int .i64 ((cnt:Int)+1)):=⟨E,aF.c C 7 rfl⟩;have cV:w.heap.size<c.heap.size:=an E;have cT:fb<c.heap.size:=an C;have U:c.cell? ⟨fb,11,none⟩=some b:=aF.c C 11 rfl;have aq:=(zV c.heap.size c).alloc aD (.cells (En.a ⟨⟨l,z,x,y⟩,B,T,(cnt:Int)+1⟩) 162);have aw:=ag C aq;have ad:(c.alloc (.cells (En.a ⟨⟨l,z,x,y⟩,B,T,(cnt:Int)+1⟩) 162)).heap[w.heap.size]?=some (.cells #[l,z,x,y] 39)/\(c.alloc (.cells (En.a ⟨⟨l,z,x,y⟩,B,T,(cnt:Int)+1⟩) 162)).cell? ⟨fb,7,none⟩=some (.int .i64 ((cnt:Int)+1)):=⟨ag E aq,aF.c aw 7 rfl⟩;have bH:(c.alloc (.cells (En.a ⟨⟨l,z,x,y⟩,B,T,(cnt:Int)+1⟩) 162)).cell? ⟨fb,11,none⟩=some b:=aF.c aw 11 rfl;have b1:=aZ iM 162 c ⟨⟨l,z,x,y⟩,B,T,(cnt:Int)+1⟩ (En.a ⟨⟨l,z,x,y⟩,B,T,(cnt:Int)+1⟩) rfl;have a1:=P.on aq
   obtain⟨c3,N,cm,a9,ba,ai⟩:=apEn a1 b1 (by simp; omega)
   have bn:=(ba.block w.heap.size (by simp; omega) (fun q=>au a1 ad.1 (by decide) w.heap.size q.symm rfl)).trans ad.1
   have af:aF N fb { X with ev:=b,ct:=(cnt:Int)+1 }:=(ba.block fb (by simp; omega) (fun q=>au a1 aw (by decide) fb q.symm rfl)).trans aw
   have aU:N.heap[w.heap.size]?=some (.cells #[l,z,x,y] 39)/\N.cell? ⟨fb,7,none⟩=some (.int .i64 ((cnt:Int)+1)):=⟨bn,aF.c af 7 rfl⟩;have b5:=kr af 11;have bF:N.cell? ⟨fb,11,none⟩=some b:=aF.c af 11 rfl;obtain⟨az,aL,aK,rfl⟩:=a9.sl;obtain⟨O,a4⟩:∃O,N.setCell ⟨fb,11,none⟩ (.slice az aL aK)=O:=⟨_,rfl⟩;have bo:aF O fb { X with ct:=(cnt:Int)+1,ev:=.slice az aL aK }:=a4▸aF.set af 11 _ (RV.set_ev _ _);have aP:aE (fun k=>k=fb) N O:=a4▸(aE.rfl' _ _).setCell (p:=⟨fb,11,none⟩) _ (fun _=>rfl)
   have b0:O.heap[w.heap.size]?=some (.cells #[l,z,x,y] 39)/\O.cell? ⟨fb,7,none⟩=some (.int .i64 ((cnt:Int)+1)):=⟨aQ bn aP (by omega),aF.c bo 7 rfl⟩
   have br:Hid (KpP w fb X (mG ca cnt ts ⟨⟨l,z,x,y⟩,B,T⟩).1 (mG ca cnt ts ⟨⟨l,z,x,y⟩,B,T⟩).2 O):=by
    rw[aa cq,aa bT]
    refine⟨⟨.slice az aL aK,bo,a9.frm aP (fun g d=>au a9 af (by decide) g d),fun g d=>?_⟩,?_⟩
    ·rcases ai with ai|ai
     ·exact(aa bd g (ai▸d))
     have:=ai g d; simp at this; exact Or.inr (by omega)
    have cx:aE (fun k=>k=fb\/X.ev.ownBlock=some k) w N:=((t.mono (S':=fun k=>k=fb\/X.ev.ownBlock=some k) fun _ _ q=>Or.inl q).then (aE.of_below (S:=fun _=>False) aq) (fun _ _ h=>h.elim)).grown ba (fun g d cW=>by
     rcases aa bd g d with q|q
     ·exact Or.inr q
     omega)
    exact cx.then aP (fun _ _ q=>Or.inl q)
   clear a9 ba ai b1 a1 aw C P E t af bn bo aP aq cf bd bT;refine am 0 rfl fb 0 m ?_;refine am 1 rfl fb 0 m ?_;refine am 2 rfl fb 0 m ?_;refine am 3 rfl fb 11 m ?_;refine aH 5 rfl (.agg #[l,z,x,y]) m ?_ (hy:=fun w' a3=>jT _ _ _ 39 rfl _ rfl _ underlying39 rfl (bj _ _ _ _) w.heap.size 0 rfl _ (ao a3.1));refine aH 6 rfl (.string B) m ?_;refine aH 7 rfl (.string T) m ?_;refine am 8 rfl fb 0 m ?_;refine am 9 rfl fb 0 m ?_;refine am 10 rfl fb 7 m ?_
   refine aH 11 rfl (.int .i64 ((cnt:Int)+1)) m ?_ (hy:=fun w' a3=>by simp[go_sem,a3.2])
   refine aH 12 rfl (.agg (En.a ⟨⟨l,z,x,y⟩,B,T,(cnt:Int)+1⟩)) m ?_ (hy:=fun w' a3=>bEn _ _ _ _ _ _ _ _ _ _ _ _ _ rfl rfl rfl rfl rfl w')
   refine y6 (rs:=[4,13]) (by kernel_rfl) (by simp) ?_
   intro i hi;simp only[zv,yT,or_false] at hi
   rcases hi with rfl|rfl
   focus
    refine bI 4 rfl rfl (b) (c) (by simp[go_sem,U]) (m) ?_
    simp only[qZ];refine aV 13 ?_;refine bI 13 rfl rfl (.slice (some ⟨c.heap.size,0,none⟩) 1 1) ((c.alloc (.cells (En.a ⟨⟨l,z,x,y⟩,B,T,(cnt:Int)+1⟩) 162))) (bsEn ⟨⟨l,z,x,y⟩,B,T,(cnt:Int)+1⟩ _ _ _ rfl rfl _) (ad) ?_
   rotate_left
   focus
    refine bI 13 rfl rfl (.slice (some ⟨c.heap.size,0,none⟩) 1 1) ((c.alloc (.cells (En.a ⟨⟨l,z,x,y⟩,B,T,(cnt:Int)+1⟩) 162))) (bsEn ⟨⟨l,z,x,y⟩,B,T,(cnt:Int)+1⟩ _ _ _ rfl rfl _) (ad) ?_;simp only[qZ];refine aV 4 ?_
    refine bI 4 rfl rfl (b) ((c.alloc (.cells (En.a ⟨⟨l,z,x,y⟩,B,T,(cnt:Int)+1⟩) 162))) (by simp[go_sem,bH]) (ad) ?_
   all_goals
    simp only[qZ];refine aV 14 ?_;refine bI 14 rfl rfl (.slice az aL aK) (N) (exR 133 cm _ _ _ _ rfl rfl rfl rfl) (aU) ?_;simp only[qZ];refine am 15 rfl fb 0 aU ?_;refine am 16 rfl fb 11 aU ?_;refine aV 17 ?_
    refine cL 17 rfl rfl (O) (stS1 _ _ _ _ 133 rfl (fun _=>by simp[go_sem]) fb 11 az aL aK rfl rfl N O bF b5 a4) (b0) ?_
    simp only[Act.put]
    refine zm (by kernel_rfl) ?_ _
    clear m ad aU b0 cm U bH bF b5 a4
    go_wp2_with fail
    exact yB (yY results146 _ _ _) rfl ⟨rfl,aa br⟩
end
theorem gg {g:Nat}{T:TypeId}:∀(f:List Value) (o:Nat) (w:World) (b:Array Value),w.heap[g]?=some (.cells b T (0,0)) ->
  (w.setCells g o f).heap[g]?=some (.cells (jg b.toList o f).toArray T (0,0))/\w.grownBy (w.setCells g o f) (some g)
 | [],_,w,b,h=>⟨by show w.heap[g]?=_; simpa[jg] using h,ym _ _⟩
 | v::m,o,w,b,h=>by
  have l:(w.setCell ⟨g,o,none⟩ v).heap[g]?=some (.cells (b.setIfInBounds o v) T (0,0)):=by simp[World.setCell,zk,h]
  have a:w.grownBy (w.setCell ⟨g,o,none⟩ v) (some g):=⟨rfl,rfl,rfl,by simp[World.setCell],fun k _ d=>zW _ _ _ _ (fun e=>d (by rw[e]))⟩
  obtain⟨i,c⟩:=gg m (o+1) _ _ l;refine⟨?_,c.os.trans a.os,c.tape.trans a.tape,c.output.trans a.output,zF a.size c.size,fun k j d=>(c.block k (zC j a.size) d).trans (a.block k j d)⟩;rw[Array.toList_setIfInBounds] at i;exact i
theorem setR_take (a b:List Value)(o:Nat)(h:o+b.length<=a.length):(jg a o b).take o=a.take o:=by
 apply y0
 intro k
 by_cases c:k<o
 ·rw[zs c,zs c,kY _ _ _ _ h,zK (by omega)]
 rw[yR (by rw[zD]; omega),yR (by rw[zD]; omega)]
theorem setR_mid (b a:List Value)(o:Nat)(h:o+a.length<=b.length):((jg b o a).drop o).take a.length=a:=by
 apply y0
 intro k
 by_cases c:k<a.length
 ·rw[zs c,yD,kY _ _ _ _ h,zJ (by omega),yg]
 rw[yR (by rw[zD]; omega),yR (by omega)]
def lw {α:Type}(R:dR α)(T:TypeId)(w:World)(g off cap k:Nat)(x:α):Prop:=
 ∃cur:Array Value,w.heap[g]?=some (.cells cur T (0,0))/\off+cap*R.wid<=cur.size/\(cur.toList.drop off).take (k*R.wid)=R.all (List.replicate k x)
section
variable {α:Type}{R:dR α}{T:TypeId}{w w':World}{g off cap k:Nat}{x:α}
theorem lw.zero {n:Nat}{l:List α}(h:ah R T w (.slice (some ⟨g,off,none⟩) n cap) l):lw R T w g off cap 0 x:=by
 rcases h with⟨e,_⟩|⟨i,f,d,a,e,c,j,m,b,o⟩
 ·cases e
 cases e
 exact⟨a,c,b,by simp[dR.all]⟩
theorem lw.there (h:lw R T w g off cap k x)(e:k<cap):w.there g (off+k*R.wid) R.wid:=by
 obtain⟨b,a,i,_⟩:=h;intro j f;have c:(k+1)*R.wid<=cap*R.wid:=zp _ e;rw[zd] at c
 have d:off+k*R.wid+j<b.size:=by omega
 refine⟨?_,by simp[World.frozen?,a]⟩
 simp[World.cell?,a,d]
theorem lw.step (h:lw R T w g off cap k x)(q:k<cap):lw R T (w.setCells g (off+k*R.wid) (R.enc x)) g off cap (k+1) x/\w.grownBy (w.setCells g (off+k*R.wid) (R.enc x)) (some g):=by
 obtain⟨a,p,r,o⟩:=h;have e:(k+1)*R.wid<=cap*R.wid:=zp _ q;rw[zd] at e;obtain⟨m,n⟩:=gg (R.enc x) (off+k*R.wid) w a p
 have c:off+k*R.wid+(R.enc x).length<=a.toList.length:=by rw[R.len,zj]; omega
 refine⟨⟨_,m,by rw[List.size_toArray,lD,zj]; exact r,?_⟩,n⟩
 rw[List.replicate_succ',R.all_app,show(jg a.toList (off+k*R.wid) (R.enc x)).toArray.toList=jg a.toList (off+k*R.wid) (R.enc x) from rfl];generalize d:jg a.toList (off+k*R.wid) (R.enc x)=b
 have j:b.take (off+k*R.wid)=a.toList.take (off+k*R.wid):=by rw[<-d]; exact setR_take _ _ _ c
 have l:(b.drop (off+k*R.wid)).take R.wid=R.enc x:=by
  have:=setR_mid a.toList (R.enc x) (off+k*R.wid) c;rw[R.len,d] at this;exact this
 rw[zd,List.take_add,List.drop_drop,l]
 congr 1
 ·rw[<-o]
  have f:(b.drop off).take (k*R.wid)=(b.take (off+k*R.wid)).drop off:=by rw[List.drop_take,yg]
  have i:(a.toList.drop off).take (k*R.wid)=(a.toList.take (off+k*R.wid)).drop off:=by rw[List.drop_take,yg]
  rw[f,i,j]
 simp[dR.all]
theorem lw.own (h:lw R T w g off cap cap x)(hm:cap<=maxLen):ah R T w (.slice (some ⟨g,off,none⟩) cap cap) (List.replicate cap x):=by
 obtain⟨a,c,d,b⟩:=h
 refine Or.inr ⟨g,off,cap,a,by rw[zI],c,by rw[zI]; exact zz _,hm,d,?_⟩
 rw[zI]; exact b
end
structure OV where
 iv:Value
 fv:Value
 rv:Value
 gv:Value
 ev:Value
def OV.a (V:OV):Array Value:=#[V.iv,V.fv,V.rv,V.gv,V.ev]
def ei (j:Nat):Int:=-78-(j:Int)
def oP (j:Nat):Nat->Int:=fun t=>if t=0 then -78-(j:Int) else 0
def owE (j:Nat):Nat->Int:=fun t=>if t=0 then -78-(j:Int) else 0
def owR (j:Nat):gD:=⟨-78-(j:Int),0,⟨#[]⟩,⟨#[]⟩⟩
def owG (j:Nat):f9:=⟨⟨0,0,0,0⟩,-78-(j:Int),0,0,0⟩
structure bA (w:World)(ob:Nat)(V:OV)(IS FS RS GS ES:List cA):Prop where
 blk:w.heap[ob]?=some (.cells V.a 33)
 i:ah cq 60 w V.iv IS
 f:ah cq 62 w V.fv FS
 r:ah cq 89 w V.rv RS
 g:ah cq 104 w V.gv GS
 e:ah cq 40 w V.ev ES
 il:∀(j:Nat) (s:cA),IS[j]?=some s->ah rI 3 w s.v (List.replicate s.n (ei j))
 fl:∀(j:Nat) (s:cA),FS[j]?=some s->ah rF 66 w s.v (List.replicate s.n (oP j))
 rl:∀(j:Nat) (s:cA),RS[j]?=some s->ah bE 103 w s.v (List.replicate s.n (owR j))
 gl:∀(j:Nat) (s:cA),GS[j]?=some s->ah bC 107 w s.v (List.replicate s.n (owG j))
 el:∀(j:Nat) (s:cA),ES[j]?=some s->ah rE 100 w s.v (List.replicate s.n (owE j))
def j8 (ob:Nat)(V:OV)(IS FS RS GS ES:List cA)(k:Nat):Prop:=
 k=ob\/V.iv.ownBlock=some k\/V.fv.ownBlock=some k\/V.rv.ownBlock=some k\/V.gv.ownBlock=some k\/V.ev.ownBlock=some k\/∃s,(s∈IS\/s∈FS\/s∈RS\/s∈GS\/s∈ES)/\s.v.ownBlock=some k
theorem bA.cells {w:World}{ob:Nat}{V:OV}{IS FS b a ES:List cA}(h:bA w ob V IS FS b a ES)(i:Nat):w.cell? ⟨ob,i,none⟩=V.a[i]?:=af h.blk i
theorem bA.lt {w:World}{ob:Nat}{V:OV}{IS FS d c ES:List cA}(h:bA w ob V IS FS d c ES){k:Nat}(e:j8 ob V IS FS d c ES k):k<w.heap.size:=by
 rcases e with rfl|q|q|q|q|q|⟨s,a,q⟩
 ·exact an h.blk
 ·exact h.i.lt q
 ·exact h.f.lt q
 ·exact h.r.lt q
 ·exact h.g.lt q
 ·exact h.e.lt q
 rcases a with a|a|a|a|a
 ·obtain⟨j,b⟩:=zB.1 a; exact(h.il j s b).lt q
 ·obtain⟨j,b⟩:=zB.1 a; exact(h.fl j s b).lt q
 ·obtain⟨j,b⟩:=zB.1 a; exact(h.rl j s b).lt q
 ·obtain⟨j,b⟩:=zB.1 a; exact(h.gl j s b).lt q
 obtain⟨j,b⟩:=zB.1 a; exact(h.el j s b).lt q
theorem bA.frm {w w':World}{ob:Nat}{V:OV}{IS FS e d ES:List cA}{S:Nat->Prop}(h:bA w ob V IS FS e d ES)(b:aE S w w')(c:∀k,j8 ob V IS FS e d ES k->¬S k):bA w' ob V IS FS e d ES:=
 ⟨aQ h.blk b (c _ (Or.inl rfl)),h.i.frm b fun k q=>c k (Or.inr (Or.inl q)),h.f.frm b fun k q=>c k (Or.inr (Or.inr (Or.inl q))),h.r.frm b fun k q=>c k (Or.inr (Or.inr (Or.inr (Or.inl q)))),h.g.frm b fun k q=>c k (Or.inr (Or.inr (Or.inr (Or.inr (Or.inl q))))),h.e.frm b fun k q=>c k (Or.inr (Or.inr (Or.inr (Or.inr (Or.inr (Or.inl q)))))),
  fun j s a=>(h.il j s a).frm b fun k q=>c k (Or.inr (Or.inr (Or.inr (Or.inr (Or.inr (Or.inr ⟨s,Or.inl (zR a),q⟩)))))),
  fun j s a=>(h.fl j s a).frm b fun k q=>c k (Or.inr (Or.inr (Or.inr (Or.inr (Or.inr (Or.inr ⟨s,Or.inr (Or.inl (zR a)),q⟩)))))),
  fun j s a=>(h.rl j s a).frm b fun k q=>c k (Or.inr (Or.inr (Or.inr (Or.inr (Or.inr (Or.inr ⟨s,Or.inr (Or.inr (Or.inl (zR a))),q⟩)))))),
  fun j s a=>(h.gl j s a).frm b fun k q=>c k (Or.inr (Or.inr (Or.inr (Or.inr (Or.inr (Or.inr ⟨s,Or.inr (Or.inr (Or.inr (Or.inl (zR a)))),q⟩)))))),
  fun j s a=>(h.el j s a).frm b fun k q=>c k (Or.inr (Or.inr (Or.inr (Or.inr (Or.inr (Or.inr ⟨s,Or.inr (Or.inr (Or.inr (Or.inr (zR a)))),q⟩))))))⟩
theorem bA.on {w w':World}{ob:Nat}{V:OV}{IS FS b a ES:List cA}(h:bA w ob V IS FS b a ES)(c:Below w.heap.size w w'):bA w' ob V IS FS b a ES:=h.frm (S:=fun _=>False) (aE.of_below c) (fun _ _ q=>q)
theorem eC (n:Nat)(w:World)(a:n<=100000000):Calls prog 16 #[n] w fun e w'=>e=.returned (.int .i64 (ei n))/\w=w':=by
 have e:IntKind.i64.wrap (-78-(n:Int))=ei n:=by unfold ei; exact bG _ (by omega)
 go_enter func16,ntmps16
 go_wp2
 go_ret;exact⟨rfl,rfl⟩
section
variable {α:Type}{R:dR α}{T:TypeId}{w:World}{l:List α}
theorem ah.thereE {g off n cap:Nat}(h:ah R T w (.slice (some ⟨g,off,none⟩) n cap) l){i:Nat}(hi:i<l.length):w.there g (off+i*R.wid) R.wid:=by
 intro j d
 have a:j<(R.enc l[i]).length:=by rw[R.len]; exact d
 obtain⟨u,e⟩:∃u,(R.enc l[i])[j]?=some u:=⟨_,zQ a⟩;obtain⟨b,c⟩:=h.cellF (zQ hi) e
 exact⟨by rw[b]; rfl,c⟩
theorem ah.setE {g off n cap:Nat}(h:ah R T w (.slice (some ⟨g,off,none⟩) n cap) l){i:Nat}(hi:i<l.length)(a:α):
  ah R T (w.setCells g (off+i*R.wid) (R.enc a)) (.slice (some ⟨g,off,none⟩) n cap) (l.set i a)/\w.grownBy (w.setCells g (off+i*R.wid) (R.enc a)) (some g):=by
 rcases h with⟨e,_⟩|⟨F,B,A,b,e,p,o,x,y,z⟩
 ·cases e
 cases e;obtain⟨u,v⟩:=gg (R.enc a) (off+i*R.wid) w b p;have d:=R.pos;have s:(i+1)*R.wid<=l.length*R.wid:=zp _ hi;have C:l.length*R.wid<=cap*R.wid:=zp _ o;rw[zd] at s
 have r:off+i*R.wid+(R.enc a).length<=b.toList.length:=by rw[R.len,zj]; omega
 refine⟨Or.inr ⟨g,off,cap,_,by rw[zn],u,by rw[zn]; exact o,x,by rw[List.size_toArray,lD,zj]; exact y,?_⟩,v⟩
 rw[zn,show(jg b.toList (off+i*R.wid) (R.enc a)).toArray.toList=jg b.toList (off+i*R.wid) (R.enc a) from rfl]
 apply y0
 intro k
 by_cases f:k<l.length*R.wid
 ·rw[zs f,yD,kY _ _ _ _ r,R.len]
  have q:k / R.wid<l.length:=(xW d).2 f;have m:k%R.wid<R.wid:=Nat.mod_lt _ d;have e:k / R.wid*R.wid+k%R.wid=k:=Nat.div_add_mod' k R.wid
  have t:b.toList[off+k]?=(R.all l)[k]?:=by rw[<-z,zs f,yD]
  by_cases c:k / R.wid=i
  ·have j:(l.set i a)[k / R.wid]?=some a:=by rw[c,yi hi]
   rw[zJ (by rw[<-c]; omega),<-e,R.all_at _ _ _ _ j m,<-c]
   congr 1
   omega
  have j:(l.set i a)[k / R.wid]?=some l[k / R.wid]:=by rw[List.getElem?_set_ne (Ne.symm c),zQ q]
  rw[zK (fun p=>c (by
   have D:i<=k / R.wid:=(Nat.le_div_iff_mul_le d).2 (by omega)
   have E:k / R.wid<i+1:=(xW d).2 (by rw[zd]; omega)
   omega)),t,<-e,R.all_at _ _ _ _ j m,R.all_at _ _ _ _ (zQ q) m]
 rw[yR (by rw[zD]; omega),yR (by rw[R.all_len,zn]; omega)]
end
structure cE (w:World)(X:RV)(rq:List Rq)(jb:List Jb)(en:List En):Prop where
 rq:ah rRq 158 w X.rv rq
 jb:ah jP 165 w X.jv jb
 en:ah iM 162 w X.ev en
def RSet (fb:Nat)(X:RV)(k:Nat):Prop:=k=fb\/X.rv.ownBlock=some k\/X.jv.ownBlock=some k\/X.ev.ownBlock=some k
theorem cE.ty {w:World}{fb:Nat}{X:RV}{rq:List Rq}{jb:List Jb}{en:List En}(h:cE w X rq jb en)(b:aF w fb X):fQ (RSet fb X) w [135,158,165,162]:=fun k d=>by
 rcases d with rfl|q|q|q
 ·exact⟨_,_,b,by simp⟩
 ·obtain⟨c,a⟩:=h.rq.ty q; exact⟨_,_,a,by simp⟩
 ·obtain⟨c,a⟩:=h.jb.ty q; exact⟨_,_,a,by simp⟩
 obtain⟨c,a⟩:=h.en.ty q; exact⟨_,_,a,by simp⟩
structure aP (w:World)(fb:Nat)(X:RV)(w':World)(Y:RV)(rq:List Rq)(jb:List Jb)(en:List En):Prop where
 blk:aF w' fb Y
 mem:cE w' Y rq jb en
 frm:aE (RSet fb X) w w'
 new:∀k,RSet fb Y k->RSet fb X k\/w.heap.size<=k
 sb:Y.sb=X.sb
section
variable {w w1 w':World}{fb:Nat}{X Y Z:RV}{rq rq':List Rq}{jb jb':List Jb}{en en':List En}
theorem aP.refl (a:aF w fb X)(hm:cE w X rq jb en):aP w fb X w X rq jb en:=⟨a,hm,aE.rfl' _ _,fun _ q=>Or.inl q,rfl⟩
theorem cE.on (h:cE w X rq jb en)(a:Below w.heap.size w w'):cE w' X rq jb en:=⟨h.rq.on a,h.jb.on a,h.en.on a⟩
theorem aP.on (h:aP w fb X w1 Y rq jb en)(a:Below w1.heap.size w1 w'):aP w fb X w' Y rq jb en:=
 ⟨ag h.blk a,h.mem.on a,h.frm.then (aE.of_below (S:=fun _=>False) a) (fun _ _ q=>q.elim),h.new,h.sb⟩
theorem aP.trans (h:aP w fb X w1 Y rq jb en)(k:aP w1 fb Y w' Z rq' jb' en'):aP w fb X w' Z rq' jb' en':=
 ⟨k.blk,k.mem,h.frm.then k.frm (fun i hi q=>by
  rcases h.new i q with q|q
  ·exact q
  ·omega),fun i q=>by
  rcases k.new i q with q|q
  ·exact h.new i q
  exact Or.inr (by have:=h.frm.size; omega),k.sb.trans h.sb⟩
theorem cE.num (c:aF w fb X)(hm:cE w X rq jb en)(i:Nat)(v:Int)(j:X.a.setIfInBounds i (.int .i64 v)=Y.a)(d:Y.rv=X.rv)(e:Y.jv=X.jv)(f:Y.ev=X.ev)(h:Y.sb=X.sb):aP w fb X (w.setCell ⟨fb,i,none⟩ (.int .i64 v)) Y rq jb en:=by
 have b:aE (fun k=>k=fb) w (w.setCell ⟨fb,i,none⟩ (.int .i64 v)):=(aE.rfl' _ _).setCell (p:=⟨fb,i,none⟩) _ (fun _=>rfl);refine⟨aF.set c i _ j,⟨?_,?_,?_⟩,b.mono fun _ _ q=>Or.inl q,fun k q=>Or.inl ?_,h⟩
 ·rw[d]; exact hm.rq.frm b (fun g a=>au hm.rq c (by decide) g a)
 ·rw[e]; exact hm.jb.frm b (fun g a=>au hm.jb c (by decide) g a)
 ·rw[f]; exact hm.en.frm b (fun g a=>au hm.en c (by decide) g a)
 unfold RSet at q; rw[d,e,f] at q; exact q
theorem cE.ct (a:aF w fb X)(hm:cE w X rq jb en)(v:Int):aP w fb X (w.setCell ⟨fb,7,none⟩ (.int .i64 v)) { X with ct:=v } rq jb en:=hm.num a 7 v (RV.set_ct _ _) rfl rfl rfl rfl
theorem cE.nw (a:aF w fb X)(hm:cE w X rq jb en)(v:Int):aP w fb X (w.setCell ⟨fb,6,none⟩ (.int .i64 v)) { X with nw:=v } rq jb en:=hm.num a 6 v (RV.set_nw _ _) rfl rfl rfl rfl
theorem cE.st (a:aF w fb X)(hm:cE w X rq jb en)(v:Int):aP w fb X (w.setCell ⟨fb,8,none⟩ (.int .i64 v)) { X with st:=v } rq jb en:=hm.num a 8 v (RV.set_st _ _) rfl rfl rfl rfl
theorem cE.ev (f:aF w fb X)(hm:cE w X rq jb en){n:Int}{ev':Value}(c:aF w' fb { X with ct:=n,ev:=ev' })(d:ah iM 162 w' ev' en')(e:∀g,ev'.ownBlock=some g->X.ev.ownBlock=some g\/w.heap.size<=g)(a:aE (fun k=>k=fb\/X.ev.ownBlock=some k) w w'):aP w fb X w' { X with ct:=n,ev:=ev' } rq jb en':=by
 have b:=tyE f hm.en
 refine⟨c,⟨hm.rq.frmT a b (by decide),hm.jb.frmT a b (by decide),d⟩,a.mono fun k _ q=>?_,fun k q=>?_,rfl⟩
 ·rcases q with q|q
  ·exact Or.inl q
  exact Or.inr (Or.inr (Or.inr q))
 rcases q with q|q|q|q
 ·exact Or.inl (Or.inl q)
 ·exact Or.inl (Or.inr (Or.inl q))
 ·exact Or.inl (Or.inr (Or.inr (Or.inl q)))
 rcases e k q with q|q
 ·exact Or.inl (Or.inr (Or.inr (Or.inr q)))
 exact Or.inr q
theorem cE.kp (e:aF w fb X)(hm:cE w X rq jb en){n:Nat}(h:KpP w fb X n en' w'):∃ev',aP w fb X w' { X with ct:=n,ev:=ev' } rq jb en':=by
 obtain⟨⟨ev',a,b,c⟩,d⟩:=h;exact⟨ev',hm.ev e a b c d⟩
theorem cE.jv (j:aF w fb X)(hm:cE w X rq jb en){jv':Value}(e:aF w' fb { X with jv:=jv' })(f:ah jP 165 w' jv' jb')(h:∀g,jv'.ownBlock=some g->X.jv.ownBlock=some g\/w.heap.size<=g)(a:aE (fun k=>k=fb\/X.jv.ownBlock=some k) w w'):aP w fb X w' { X with jv:=jv' } rq jb' en:=by
 have d:fQ (fun k=>k=fb\/X.jv.ownBlock=some k) w [135,165]:=fun k b=>by
  rcases b with rfl|b
  ·exact⟨_,_,j,by simp⟩
  obtain⟨c,i⟩:=hm.jb.ty b
  exact⟨_,_,i,by simp⟩
 refine⟨e,⟨hm.rq.frmT a d (by decide),f,hm.en.frmT a d (by decide)⟩,a.mono fun k _ q=>?_,fun k q=>?_,rfl⟩
 ·rcases q with q|q
  ·exact Or.inl q
  exact Or.inr (Or.inr (Or.inl q))
 rcases q with q|q|q|q
 ·exact Or.inl (Or.inl q)
 ·exact Or.inl (Or.inr (Or.inl q))
 ·rcases h k q with q|q
  ·exact Or.inl (Or.inr (Or.inr (Or.inl q)))
  exact Or.inr q
 exact Or.inl (Or.inr (Or.inr (Or.inr q)))
theorem cE.jv' (e:aF w fb X)(hm:cE w X rq jb en){jv':Value}(a:aF w' fb { X with jv:=jv' })(b:ah jP 165 w' jv' jb')(c:∀g,jv'.ownBlock=some g->w.heap.size<=g)(d:aE (fun k=>k=fb) w w'):aP w fb X w' { X with jv:=jv' } rq jb' en:=
 hm.jv e a b (fun g f=>Or.inr (c g f)) (d.mono fun _ _ q=>Or.inl q)
theorem cE.jin (a:aF w fb X)(hm:cE w X rq jb en)(c:ah jP 165 w' X.jv jb')(b:aE (fun k=>X.jv.ownBlock=some k) w w'):aP w fb X w' X rq jb' en:=
 hm.jv (jv':=X.jv) a (aQ a b (fun q=>au hm.jb a (by decide) fb q rfl)) c (fun _ q=>Or.inl q) (b.mono fun _ _ q=>Or.inr q)
theorem cE.rv (j:aF w fb X)(hm:cE w X rq jb en){rv':Value}(e:aF w' fb { X with rv:=rv' })(f:ah rRq 158 w' rv' rq')(h:∀g,rv'.ownBlock=some g->X.rv.ownBlock=some g\/w.heap.size<=g)(a:aE (fun k=>k=fb\/X.rv.ownBlock=some k) w w'):aP w fb X w' { X with rv:=rv' } rq' jb en:=by
 have d:fQ (fun k=>k=fb\/X.rv.ownBlock=some k) w [135,158]:=fun k b=>by
  rcases b with rfl|b
  ·exact⟨_,_,j,by simp⟩
  obtain⟨c,i⟩:=hm.rq.ty b
  exact⟨_,_,i,by simp⟩
 refine⟨e,⟨f,hm.jb.frmT a d (by decide),hm.en.frmT a d (by decide)⟩,a.mono fun k _ q=>?_,fun k q=>?_,rfl⟩
 ·rcases q with q|q
  ·exact Or.inl q
  exact Or.inr (Or.inl q)
 rcases q with q|q|q|q
 ·exact Or.inl (Or.inl q)
 ·rcases h k q with q|q
  ·exact Or.inl (Or.inr (Or.inl q))
  exact Or.inr q
 ·exact Or.inl (Or.inr (Or.inr (Or.inl q)))
 exact Or.inl (Or.inr (Or.inr (Or.inr q)))
theorem cE.rin (a:aF w fb X)(hm:cE w X rq jb en)(c:ah rRq 158 w' X.rv rq')(b:aE (fun k=>X.rv.ownBlock=some k) w w'):aP w fb X w' X rq' jb en:=
 hm.rv (rv':=X.rv) a (aQ a b (fun q=>au hm.rq a (by decide) fb q rfl)) c (fun _ q=>Or.inl q) (b.mono fun _ _ q=>Or.inr q)
theorem aP.own {α:Type}{R:dR α}{T:TypeId}{v:Value}{l:List α}(h:aP w fb X w' Y rq' jb' en')(b:aF w fb X)(hm:cE w X rq jb en)(c:ah R T w v l)(a:T∉[135,158,165,162]):ah R T w' v l:=c.frmT h.frm (hm.ty b) a
theorem aP.rst {a:Int}{bv pv:Value}{SL:List cA}{bs:List bK}{PI:List Int}{rb:Nat}(h:aP w fb X w' Y rq' jb' en')(b:aF w fb X)(hm:cE w X rq jb en)(c:eV w rb a bv pv SL bs PI):eV w' rb a bv pv SL bs PI:=c.frmT h.frm (hm.ty b) (by decide) (by decide) (by decide) (by decide)
end
theorem Rq.enc_done (r:Rq)(d:Bool):rRq.enc { r with done:=d }=(rRq.enc r).set 6 (.bool d):=rfl
theorem En.enc_use (j:En)(n:Int):iM.enc { j with use:=n }=(iM.enc j).set 6 (.int .i64 n):=rfl
theorem stB (ev:Operand->Value)(o:Oper)(x y:Operand)(d:o.op=.store 4 x y)(g i:Nat)(n:Bool)(e:ev x=.pointer (some ⟨g,i,none⟩))(hy:ev y=.bool n)(w w1:World){u:Value}(b:w.cell? ⟨g,i,none⟩=some u)(c:w.frozen? ⟨g,i,none⟩=false)(a:w.setCell ⟨g,i,none⟩ (.bool n)=w1):(execOp ev o).run prog w=.ok .skip w1:=by
 subst a;unfold execOp;simp only[d,e,hy];simp[go_sem,b,c]
theorem kerr_ok {l z x y:Int}(h:keyErr l z x y=0):dy ⟨l,z,x,y⟩:=by
 unfold keyErr at h
 split at h
 ·cases h
 split at h
 ·cases h
 split at h
 ·cases h
 exact⟨by dsimp only; omega,by dsimp only; omega,by dsimp only; omega,by dsimp only; omega⟩
def svd (bs:List bK)(j:Jb)(r:Rq):Bool:=!r.done && decide (r.k.blk=j.b) && (decide ((fB bs bs.length r.k:Int)<=j.rd) || decide (r.asked<=j.rd))
def svF (bs:List bK)(j:Jb)(r:Rq):Rq:=if svd bs j r then { r with done:=true } else r
def fP (bs:List bK)(j:Jb)(rq:List Rq):List Rq:=rq.map (svF bs j)
def dx (bs:List bK)(rd:Nat)(k:K4):aL:=⟨k,cg (dk bs rd) k,du k (fB bs rd k)⟩
def svR (bs:List bK)(j:Jb)(o:Nat)(r:Rq):List gD:=if svd bs j r then [⟨o,200,(dx bs j.rd.toNat r.k).body,(dx bs j.rd.toNat r.k).tag⟩] else []
def iC (bs:List bK)(j:Jb):Nat->List Rq->List gD
 | _,[]=>[]
 | o,r::l=>svR bs j o r++iC bs j (o+1) l
theorem ptR_app (bs:List bK)(j:Jb):∀(l a:List Rq) (o:Nat),iC bs j o (l++a)=iC bs j o l++iC bs j (o+l.length) a
 | [],a,o=>by simp[iC]
 | b::l,a,o=>by rw[yj,iC,iC,ptR_app bs j l a (o+1),yM,zS,show o+1+l.length=o+(l.length+1) by omega]
theorem oJ (bs:List bK)(j:Jb):∀(l:List Rq) (o:Nat),(iC bs j o l).length<=l.length
 | [],_=>by simp[iC]
 | r::l,o=>by
  rw[iC,zH,zS];have:=oJ bs j l (o+1)
  have:(svR bs j o r).length<=1:=by unfold svR; split<;>simp
  omega
section
variable {bs:List bK}{j:Jb}{rq:List Rq}{k:Nat}{r:Rq}
theorem lO (h:rq[k]?=some r):iC bs j 0 (rq.take (k+1))=iC bs j 0 (rq.take k)++svR bs j k r:=by
 have a:k<rq.length:=(zX.1 h).1
 rw[be h,ptR_app,zD,zb,show min k rq.length=k by omega]
 simp[iC]
def gB (bs:List bK)(j:Jb)(rq:List Rq)(k:Nat):List Rq:=fP bs j (rq.take k)++rq.drop k
theorem midQ_zero (bs:List bK)(j:Jb)(rq:List Rq):gB bs j rq 0=rq:=by simp[gB,fP]
theorem midQ_all (bs:List bK)(j:Jb)(rq:List Rq):gB bs j rq rq.length=fP bs j rq:=by simp[gB]
theorem fX (bs:List bK)(j:Jb)(rq:List Rq)(k:Nat):(gB bs j rq k).length=rq.length:=by
 simp[gB,fP,List.length_take,List.length_drop]; omega
theorem lh (h:k<rq.length):(gB bs j rq k)[k]?=rq[k]?:=by
 unfold gB fP
 rw[List.getElem?_append_right (by simp[List.length_take]; omega),List.length_map,List.length_take,show min k rq.length=k by omega,Nat.sub_self,List.getElem?_drop,Nat.add_zero]
theorem lZ (h:rq[k]?=some r):(gB bs j rq k).set k (svF bs j r)=gB bs j rq (k+1):=by
 have a:k<rq.length:=(List.getElem?_eq_some_iff.1 h).1;unfold gB fP;rw[be h,List.map_append,List.map_cons,List.map_nil,List.append_assoc]
 rw[List.set_append_right _ _ (by simp[List.length_take]; omega),List.length_map,List.length_take,show min k rq.length=k by omega,Nat.sub_self]
 congr 1
 rw[List.drop_eq_getElem_cons a];rfl
theorem midQ_no (h:rq[k]?=some r)(b:svd bs j r=false):gB bs j rq (k+1)=gB bs j rq k:=by
 have a:k<rq.length:=(zX.1 h).1;rw[<-lZ h]
 have e:svF bs j r=r:=by unfold svF; rw[b]; rfl
 rw[e]
 apply y0
 intro i;rw[yZ]
 by_cases c:k=i
 ·subst c
  rw[zJ rfl,zJ (by rw[fX]; exact a),lh a,h]
 rw[zK c]
theorem ptR_no (h:rq[k]?=some r)(a:svd bs j r=false):iC bs j 0 (rq.take (k+1))=iC bs j 0 (rq.take k):=by
 rw[lO h]; unfold svR; rw[a]; simp
end
def cm (b:K4)(n:Nat):K4:=⟨b.l,b.z,b.x+(n:Int)%2,b.y+(n:Int) / 2⟩
def layN (bs:List bK)(ca:Nat)(b:K4)(rd:Nat)(c:Nat × List En):Nat->Nat × List En
 | 0=>c
 | n+1=>if keyErr (cm b n).l (cm b n).z (cm b n).x (cm b n).y=0/\fB bs bs.length (cm b n)<=rd then mG ca (layN bs ca b rd c n).1 (layN bs ca b rd c n).2 (dx bs rd (cm b n)) else layN bs ca b rd c n
def ptJ (rq:List Rq)(c:Nat)(jb:List Jb)(i:Nat)(b:K4):Nat × List Jb:=if 0<bg rq b false then (c+1,jb.set i ⟨b,-1,(c:Int)+1,0,0⟩) else (c,jb.eraseIdx i)
theorem evE_sub (room n:Nat):∀(m:Nat) (ts:List En),ts.length<=m->(pD room n ts).Sublist ts
 | m,ts,h=>by
  by_cases c:0<ts.length/\room<aY ts+n
  ·rw[evE_go c.1 c.2]
   have:=ko c.1
   cases m with
   | zero=>omega
   | succ m=>exact(evE_sub room n m _ (by omega)).trans (List.eraseIdx_sublist _ _)
  rw[jV c]; exact yt _
theorem kpE_le (ca cnt:Nat)(ts:List En)(t:aL):(mG ca cnt ts t).1<=cnt+1/\(mG ca cnt ts t).2.length<=ts.length+1/\aY (mG ca cnt ts t).2<=aY ts+t.body.size:=by
 unfold mG
 split
 ·exact⟨by simp,by simp,by simp⟩
 have a:=(evE_sub ca t.body.size _ (dropK ts t.k) aD).trans (dropK_sub ts t.k);have c:=a.length_le;have b:=gr a
 refine⟨zz _,by simp; omega,?_⟩
 unfold aY at b ⊢;rw[yV,ep]
 simp[aA,En.t]; omega
theorem layN_le (bs:List bK)(ca:Nat)(b:K4)(rd:Nat)(c:Nat × List En)(a:ke bs)(d:rd<=bs.length):∀n,(layN bs ca b rd c n).1<=c.1+n/\(layN bs ca b rd c n).2.length<=c.2.length+n/\aY (layN bs ca b rd c n).2<=aY c.2+67*n
 | 0=>⟨zz _,zz _,zz _⟩
 | n+1=>by
  obtain⟨g,h,i⟩:=layN_le bs ca b rd c a d n;rw[layN]
  split
  ·obtain⟨j,k,e⟩:=kpE_le ca (layN bs ca b rd c n).1 (layN bs ca b rd c n).2 (dx bs rd (cm b n))
   have:=(gu (a.rt rd d) (cm b n)).2;have f:aY (mG ca (layN bs ca b rd c n).1 (layN bs ca b rd c n).2 (dx bs rd (cm b n))).2<=aY (layN bs ca b rd c n).2+67:=zF e (Nat.add_le_add_left this _)
   exact⟨by omega,by omega,by omega⟩
  exact⟨by omega,by omega,by omega⟩
end Go.Proofs.YtpabpniaekldeaaGreatDoor
