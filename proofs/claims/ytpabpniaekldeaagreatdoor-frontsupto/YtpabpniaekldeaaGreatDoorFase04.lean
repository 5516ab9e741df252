/-
  The texts FeA, FeB, FeC, FeE, FeF, FeG, FeD, FeH, PkRefA, PkRefB, InkE, SdA, SdB, SdC, SdD, SdE, SbK, SdF, SdG.
-/
import Derived.Test.YtpabpniaekldeaaGreatDoorFase03
set_option maxHeartbeats 25600000
namespace Go.Proofs.YtpabpniaekldeaaGreatDoor
open Go.Proofs.Tryz
open Go.RowKit
set_option maxRecDepth 20000
def nf (f:Ft):Ft:=fun j=>if j<24 then f j else 0
theorem iQ (f:Ft):SF (nf f) f:=fun j hj=>by simp[nf,hj]
theorem nf_nf (f:Ft):nf (nf f)=nf f:=by funext j; simp only[nf]; split<;>rfl
theorem nf_eq {f g:Ft}(hf:nf f=f)(hg:nf g=g)(h:SF f g):f=g:=by
 rw[<-hf,<-hg]
 funext j
 simp only[nf]
 split
 ·exact h j (by assumption)
 rfl
theorem nf_cc (f:Ft):cc 24 (nf f)=cc 24 f:=cc_ext fun i hi=>iQ f i hi
theorem Rt.sf {f g:Ft}(h:Rt f)(hs:SF g f):Rt g:=ci ((ny hs).trans (lH h))
def Nor (L:List Ft):Prop:=∀f∈L,nf f=f
theorem fN {L:List Ft}{i:Nat}(h:i<L.length):gf L i∈L:=by
 have:gf L i=L[i]:=by simp[gf,h]
 rw[this]; exact List.getElem_mem h
theorem oT (L:List Ft):Nor (L.map nf):=fun f hf=>by
 obtain⟨g,_,rfl⟩:=List.mem_map.1 hf;exact nf_nf g
theorem fE {L:List Ft}{i:Nat}(h:i<L.length):gf (L.map nf) i=nf (gf L i):=by simp[gf,h]
theorem relV_nf {v:Int}{LS FL:List Ft}(h:d8 v LS FL):d8 v LS (FL.map nf):=by
 have hl:(FL.map nf).length=FL.length:=List.length_map _
 refine⟨fun i hi hv=>?_,fun j hj=>?_,fun j hj=>?_,fun j j' hj hj' e=>?_,by rw[hl]; exact h.le40⟩
 ·obtain⟨j,hj,hs⟩:=h.fwd i hi hv
  exact⟨j,by omega,by rw[fE hj]; exact hs.trans (iQ _).symm⟩
 ·rw[hl] at hj
  obtain⟨i,hi,hv,hs⟩:=h.fro j hj
  exact⟨i,hi,hv,by rw[fE hj]; exact hs.trans (iQ _).symm⟩
 ·rw[hl] at hj
  rw[fE hj];exact(h.rt j hj).sf (iQ _)
 rw[hl] at hj hj';rw[fE hj,fE hj'] at e;exact h.dis j j' hj hj' e
theorem rel_nf {LS FL:List Ft}(h:mC LS FL):mC LS (FL.map nf):=by
 have hl:(FL.map nf).length=FL.length:=List.length_map _
 refine⟨by rw[hl]; exact h.cnt,fun i hi hv=>?_,fun j hj=>?_,fun j hj=>?_,fun j j' hj hj' e=>?_,h.one⟩
 ·obtain⟨j,hj,hs⟩:=h.fwd i hi hv
  exact⟨j,by omega,by rw[fE hj]; exact hs.trans (iQ _).symm⟩
 ·rw[hl] at hj
  obtain⟨i,hi,hv,hs⟩:=h.fro j hj
  exact⟨i,hi,hv,by rw[fE hj]; exact hs.trans (iQ _).symm⟩
 ·rw[hl] at hj
  rw[fE hj];exact(h.rt j hj).sf (iQ _)
 rw[hl] at hj hj';rw[fE hj,fE hj'] at e;exact h.dis j j' hj hj' e
theorem inV_still {v v':Int}{g:Ft}(hv:v<=v')(h:lc v' g<=v):mH v g=mH v' g/\lc v g=lc v' g:=by
 unfold lc mH at *
 split at h
 ·rename_i q
  rw[if_pos ⟨q.1,h⟩,if_pos q];refine⟨?_,rfl⟩
  simp[q.1,show ¬v<g 25 by omega,show ¬v'<g 25 by omega]
 rename_i q
 rw[if_neg (show ¬(g 25≠0/\g 25<=v) from fun p=>q ⟨p.1,by omega⟩),if_neg q]
 have e25:(decide (g 25=0) || decide (v<g 25))=true:=by
  by_cases e:g 25=0
  ·simp[e]
  have:¬g 25<=v':=fun p=>q ⟨e,p⟩
  simp[show v<g 25 by omega]
 have e25':(decide (g 25=0) || decide (v'<g 25))=true:=by
  by_cases e:g 25=0
  ·simp[e]
  have:¬g 25<=v':=fun p=>q ⟨e,p⟩
  simp[show v'<g 25 by omega]
 rw[e25,e25']
 split at h
 ·rename_i r
  simp[r,h]
 rename_i r
 simp[r,show ¬g 24<=v by omega]
theorem body_set {A B:List Ft}{k:K4}(hk:dy k)(hrA:∀i,i<A.length->Rt (gf A i))(hrB:∀i,i<B.length->Rt (gf B i))(hd:∀i j,i<A.length->j<A.length->gf A i 0=gf A j 0->i=j)
  (h1:∀i,i<A.length->cJ (gf A i) k.l k.z k.x k.y=true->∃j,j<B.length/\gf B j=gf A i) (h2:∀j,j<B.length->cJ (gf B j) k.l k.z k.x k.y=true->∃i,i<A.length/\gf A i=gf B j):cg B k=cg A k:=by
 have he:=hk.err
 have hp:kP (gf B) B.length k.l k.z k.x k.y 64=kP (gf A) A.length k.l k.z k.x k.y 64:=by
  refine ink_of_top fun p hp=>top_set _ _ _ _ _ hrA hrB (fun i hi hv=>h1 i hi ?_) (fun j hj hv=>h2 j hj ?_) (fun i j hi hj e=>by rw[hd i j hi hj e])
  ·cases ht:cJ (gf A i) k.l k.z k.x k.y with
   | true=>rfl
   | false=>rw[far_vis (hrA i hi) he ht p hp] at hv; cases hv
  cases ht:cJ (gf B j) k.l k.z k.x k.y with
  | true=>rfl
  | false=>rw[far_vis (hrB j hj) he ht p hp] at hv; cases hv
 unfold cg tile;rw[hp]
def Oz:Ora:=⟨fun LS v k=>eA v k LS,cg,du⟩
theorem still_of {LS A B:List Ft}{v v':Int}(h:d8 v LS A)(h':d8 v' LS B)(nA:Nor A)(nB:Nor B)(hv:v<=v'){k:K4}(hk:dy k)(hs:eA v' k LS<=v):cg A k=cg B k/\eA v k LS=eA v' k LS:=by
 have hlc:∀i,i<LS.length->cJ (gf LS i) k.l k.z k.x k.y=true->mH v (gf LS i)=mH v' (gf LS i)/\lc v (gf LS i)=lc v' (gf LS i):=fun i hi ht=>inV_still hv (by
  have:lc v' (gf LS i)<=eW v' k.l k.z k.x k.y LS LS.length:=oy _ i hi ht
  unfold eA at hs; omega)
 constructor
 ·refine body_set hk h'.rt h.rt h'.dis (fun i hi ht=>?_) (fun j hj ht=>?_)
  ·obtain⟨a,ha,hin,hsf⟩:=h'.fro i hi
   have hta:=(fg hsf k.l k.z k.x k.y).trans ht;obtain⟨j,hj,hsj⟩:=h.fwd a ha ((hlc a ha hta).1.trans hin);exact⟨j,hj,nf_eq (nA _ (fN hj)) (nB _ (fN hi)) (hsj.symm.trans hsf)⟩
  obtain⟨a,ha,hin,hsf⟩:=h.fro j hj;have hta:=(fg hsf k.l k.z k.x k.y).trans ht;obtain⟨i,hi,hsi⟩:=h'.fwd a ha ((hlc a ha hta).1.symm.trans hin);exact⟨i,hi,nf_eq (nB _ (fN hi)) (nA _ (fN hj)) (hsi.symm.trans hsf)⟩
 unfold eA;exact fi _ fun i hi=>⟨rfl,fun ht=>(hlc i hi ht).2⟩
theorem hi_of {LS:List Ft}{n:Nat}{FLs:Nat->List Ft}(h:∀v:Nat,v<=n->d8 v LS (FLs v)/\Nor (FLs v)):Hi Oz LS n FLs:=by
 refine⟨fun v hv k hk=>stK_in (by omega) k,fun v v' hvv hv' k hk hs=>?_,fun v hv k hk=>gu (h v hv).1.rt k,fun v hv=>(h v hv).1.le40⟩
 exact still_of (h v (by omega)).1 (h v' hv').1 (h v (by omega)).2 (h v' hv').2 (by omega) hk hs
theorem lW {α:Type}:∀(l l':List α),l.Nodup->l ⊆ l'->l.length<=l'.length
 | [],_,_,_=>by simp
 | a::l,l',hn,hs=>by
  have ha:a∈l':=hs (by simp)
  obtain⟨s,t,rfl⟩:=List.append_of_mem ha;have hn':=List.nodup_cons.1 hn
  have:=lW l (s++t) hn'.2 (fun x hx=>by
   have:=hs (List.mem_cons_of_mem _ hx);simp only[List.mem_append,List.mem_cons] at this ⊢
   rcases this with q|rfl|q
   ·exact Or.inl q
   ·exact absurd hx hn'.1
   exact Or.inr q)
  simp only[List.length_append,List.length_cons] at this ⊢;omega
theorem jB.lt {FL R:List Ft}{a:Int}(h:jB FL a R):∀i j,i<j->j<R.length->gf R i 0<gf R j 0:=by
 intro i j hij hj
 induction j with
 | zero=>omega
 | succ j ih=>
  have h1:gf R j 0<gf R (j+1) 0:=h.ris (j+1) hj
  rcases Nat.lt_or_ge i j with q|q
  ·have:=ih q (by omega); omega
  have:i=j:=by omega
  subst this; exact h1
theorem ids_nodup (L:List Ft)(hd:∀i j,i<L.length->j<L.length->gf L i 0=gf L j 0->i=j):(L.map fun f=>f 0).Nodup:=by
 rw[List.nodup_iff_pairwise_ne,List.pairwise_iff_getElem];intro i j hi hj hij e;simp only[List.length_map] at hi hj;simp only[List.getElem_map] at e
 have:=hd i j hi hj (by simpa[gf,hi,hj] using e)
 omega
theorem jB.all {FL R:List Ft}(h:jB FL 0 R)(hn:Nor FL)(hl:R.length=FL.length)(hd:∀i j,i<FL.length->j<FL.length->gf FL i 0=gf FL j 0->i=j):∀j,j<FL.length->∃i,i<R.length/\nf (gf R i)=gf FL j:=by
 have hR:(R.map fun f=>f 0).Nodup:=ids_nodup R fun i j hi hj e=>by
  rcases Nat.lt_trichotomy i j with q|q|q
  ·have:=h.lt i j q hj; omega
  ·exact q
  have:=h.lt j i q hi; omega
 intro j hj
 by_cases hm:gf FL j 0∈R.map fun f=>f 0
 ·obtain⟨f,hf,e⟩:=List.mem_map.1 hm
  obtain⟨i,hi,rfl⟩:=List.mem_iff_getElem.1 hf
  have hgi:gf R i=R[i]:=by simp[gf,hi]
  obtain⟨j',hj',hs⟩:=h.mem i hi
  have:j'=j:=hd j' j hj' hj (by rw[<-hs 0 (by decide),hgi]; exact e)
  subst this;exact⟨i,hi,nf_eq (nf_nf _) (hn _ (fN hj)) ((iQ _).trans hs)⟩
 exfalso
 have:=lW (gf FL j 0::R.map fun f=>f 0) (FL.map fun f=>f 0) (List.nodup_cons.2 ⟨hm,hR⟩) (fun x hx=>by
  rcases List.mem_cons.1 hx with rfl|hx
  ·exact List.mem_map_of_mem (fN hj)
  obtain⟨f,hf,rfl⟩:=List.mem_map.1 hx;obtain⟨i,hi,rfl⟩:=List.mem_iff_getElem.1 hf;obtain⟨j',hj',hs⟩:=h.mem i hi
  have hgi:gf R i=R[i]:=by simp[gf,hi]
  exact List.mem_map.2 ⟨gf FL j',fN hj',by rw[<-hs 0 (by decide),hgi]⟩)
 simp only[List.length_cons,List.length_map] at this;omega
theorem jB.rt {FL R:List Ft}{a:Int}(h:jB FL a R)(hr:∀j,j<FL.length->Rt (gf FL j)):∀i,i<R.length->Rt (gf R i):=fun i hi=>by
 obtain⟨j,hj,hs⟩:=h.mem i hi;exact(hr j hj).sf hs
theorem jB.norm {FL R:List Ft}{a:Int}(h:jB FL a R):jB FL a (R.map nf):=by
 have hl:(R.map nf).length=R.length:=List.length_map _
 have hp:∀i,i<=R.length->lP a (R.map nf) i=lP a R i:=fun i hi=>by
  cases i with
  | zero=>rfl
  | succ i=>show gf (R.map nf) i 0=gf R i 0; rw[fE (by omega)]; rfl
 refine⟨fun i hi=>?_,fun i hi=>?_,?_⟩
 ·rw[hl] at hi
  obtain⟨j,hj,hs⟩:=h.mem i hi
  exact⟨j,hj,by rw[fE hi]; exact(iQ _).trans hs⟩
 ·rw[hl] at hi
  rw[hp i (by omega),fE hi]
  exact h.ris i hi
 rw[hl,hp _ aD]; exact h.cnt
theorem body_read {FL R:List Ft}(h:jB FL 0 R)(hn:Nor FL)(hnR:Nor R)(hl:R.length=FL.length)(hr:∀j,j<FL.length->Rt (gf FL j))(hd:∀i j,i<FL.length->j<FL.length->gf FL i 0=gf FL j 0->i=j){k:K4}(hk:dy k):cg R k=cg FL k:=by
 refine body_set hk hr (h.rt hr) hd (fun i hi _=>?_) (fun j hj _=>?_)
 ·obtain⟨j,hj,e⟩:=h.all hn hl hd i hi
  exact⟨j,hj,by rw[<-hnR _ (fN hj)]; exact e⟩
 obtain⟨i,hi,hs⟩:=h.mem j hj;exact⟨i,hi,(nf_eq (hnR _ (fN hj)) (hn _ (fN hi)) hs).symm⟩
def aw (fb:Nat)(X:FV)(sl pv:Value)(W:List (Option Wk))(k:Nat):Prop:=
 k=fb\/k=X.sb\/sl.ownBlock=some k\/pv.ownBlock=some k\/X.wv.ownBlock=some k\/X.lv.ownBlock=some k\/X.kv.ownBlock=some k\/X.tv.ownBlock=some k\/∃(i:Nat) (u:Wk),W[i]?=some (some u)/\(k=u.g\/u.rv.ownBlock=some k)
theorem aw.elim {P:Nat->Prop}{fb:Nat}{X:FV}{sl pv:Value}{W:List (Option Wk)}{k:Nat}(hk:aw fb X sl pv W k)(h0:P fb)(h1:P X.sb)(h2:∀k,sl.ownBlock=some k->P k)(h3:∀k,pv.ownBlock=some k->P k)(h4:∀k,X.wv.ownBlock=some k->P k)(h5:∀k,X.lv.ownBlock=some k->P k)(h6:∀k,X.kv.ownBlock=some k->P k)(h7:∀k,X.tv.ownBlock=some k->P k)
  (h8:∀(i:Nat) (u:Wk),W[i]?=some (some u)->P u.g/\∀k,u.rv.ownBlock=some k->P k):P k:=by
 rcases hk with rfl|rfl|q|q|q|q|q|q|⟨i,u,hu,q⟩
 ·exact h0
 ·exact h1
 ·exact h2 k q
 ·exact h3 k q
 ·exact h4 k q
 ·exact h5 k q
 ·exact h6 k q
 ·exact h7 k q
 rcases q with rfl|q
 ·exact(h8 i u hu).1
 exact(h8 i u hu).2 k q
section
variable {fb:Nat}{X:FV}{sl pv:Value}{W:List (Option Wk)}{k:Nat}
theorem aw.iF:aw fb X sl pv W fb:=Or.inl rfl
theorem aw.iS:aw fb X sl pv W X.sb:=Or.inr (Or.inl rfl)
theorem aw.iL (h:sl.ownBlock=some k):aw fb X sl pv W k:=Or.inr (Or.inr (Or.inl h))
theorem aw.iP (h:pv.ownBlock=some k):aw fb X sl pv W k:=Or.inr (Or.inr (Or.inr (Or.inl h)))
theorem aw.iW (h:X.wv.ownBlock=some k):aw fb X sl pv W k:=Or.inr (Or.inr (Or.inr (Or.inr (Or.inl h))))
theorem aw.iN (h:X.lv.ownBlock=some k):aw fb X sl pv W k:=Or.inr (Or.inr (Or.inr (Or.inr (Or.inr (Or.inl h)))))
theorem aw.iK (h:X.kv.ownBlock=some k):aw fb X sl pv W k:=Or.inr (Or.inr (Or.inr (Or.inr (Or.inr (Or.inr (Or.inl h))))))
theorem aw.iT (h:X.tv.ownBlock=some k):aw fb X sl pv W k:=Or.inr (Or.inr (Or.inr (Or.inr (Or.inr (Or.inr (Or.inr (Or.inl h)))))))
theorem aw.iG {i:Nat}{u:Wk}(h:W[i]?=some (some u)):aw fb X sl pv W u.g:=Or.inr (Or.inr (Or.inr (Or.inr (Or.inr (Or.inr (Or.inr (Or.inr ⟨i,u,h,Or.inl rfl⟩)))))))
theorem aw.iR {i:Nat}{u:Wk}(h:W[i]?=some (some u))(hk:u.rv.ownBlock=some k):aw fb X sl pv W k:=Or.inr (Or.inr (Or.inr (Or.inr (Or.inr (Or.inr (Or.inr (Or.inr ⟨i,u,h,Or.inr hk⟩)))))))
end
structure FNum (X:FV)(F:FM):Prop where
 q:X.q=F.queue
 wt:X.wt=F.wait
 ch:X.ch=F.chunk
 nw:X.nw=F.now
 ar:X.ar=F.arrived
 st:X.st=F.started
 rm:X.rm=F.room
structure FPu (W:List (Option Wk))(F:FM):Prop where
 wks:F.wks=W.map (Option.map Wk.f)
 rd:∀(i:Nat) (u:Wk),W[i]?=some (some u)->jB (F.FLs u.f.reads) 0 u.R/\u.R.length=u.f.got/\Nor u.R
 dis:∀(i j:Nat) (u v:Wk),i≠j->W[i]?=some (some u)->W[j]?=some (some v)->u.g≠v.g/\∀k,u.rv.ownBlock=some k->v.rv.ownBlock≠some k
structure FVer (LS:List Ft)(ver:Nat)(FLs:Nat->List Ft):Prop where
 rel:∀v:Nat,v<=ver->d8 v LS (FLs v)/\Nor (FLs v)
 now:mC LS (FLs ver)
 bnd:Bnd LS ver
 len:LS.length<=8*ver
structure FMem (w:World)(X:FV)(sl pv:Value)(W:List (Option Wk))(ver:Nat)(LS:List Ft)(PI:List Int)(ws:List dJ)(ls:List K4)(ts:List aL):Prop where
 sto:dD w X.sb 0 ver sl pv LS (ri PI)
 wai:ah cW 201 w X.wv ws
 lin:ah bT 39 w X.lv ls
 til:ah aW 196 w X.tv ts
 wkv:ah fK 166 w X.kv (W.map (Option.map Wk.g))
 wat:∀(i:Nat) (u:Wk),W[i]?=some (some u)->w.heap[u.g]?=some (.cells u.a 170)/\ah rF 66 w u.rv u.R
structure gF (w:World)(fb:Nat)(X:FV)(sl pv:Value)(W:List (Option Wk))(F:FM):Prop where
 blk:aq w fb X
 num:FNum X F
 pu:FPu W F
 ver:FVer F.LS F.ver F.FLs
 mem:FMem w X sl pv W F.ver F.LS F.PI F.waiting F.line F.tiles
 glb:Glb w
 lo:∀k,aw fb X sl pv W k->4<=k
def eR (w:World)(fb:Nat)(Ψ:Nat->Prop)(F:FM):Prop:=∃X sl pv W,gF w fb X sl pv W F/\∀k,aw fb X sl pv W k->Ψ k
def NewS (Ψ:Nat->Prop)(n:Nat)(k:Nat):Prop:=Ψ k\/n<=k
structure dt (w:World)(fb:Nat)(Ψ:Nat->Prop)(F:FM)(l:List gD)(rv:Value)(w':World):Prop where
 rep:ah bE 103 w' rv l
 repf:∀g,rv.ownBlock=some g->w.heap.size<=g
 fro:eR w' fb (NewS Ψ w.heap.size) F
 frm:aE Ψ w w'
theorem dD.slt {w:World}{sb:Nat}{keep ver:Int}{sl pv:Value}{LS PL:List Ft}(h:dD w sb keep ver sl pv LS PL):(∀g,sl.ownBlock=some g->g<w.heap.size)/\∀g,pv.ownBlock=some g->g<w.heap.size:=⟨fun g hg=>(h.own.lt g hg).2,fun g hg=>(h.pins.lt g hg).2⟩
theorem FMem.frm {w w':World}{X:FV}{sl pv:Value}{W:List (Option Wk)}{ver:Nat}{LS:List Ft}{PI:List Int}{ws:List dJ}{ls:List K4}{ts:List aL}{S:Nat->Prop}(h:FMem w X sl pv W ver LS PI ws ls ts)(hf:aE S w w')(fb:Nat){Y:FV}(hS:∀k,aw fb X sl pv W k->k≠fb->¬S k)(hfb:aq w fb Y):FMem w' X sl pv W ver LS PI ws ls ts:=by
 have n1:X.sb≠fb:=aI h.sto.blk hfb (by decide)
 refine⟨h.sto.frm hf (hS _ (Or.inr (Or.inl rfl)) n1) (fun g hg=>hS g (Or.inr (Or.inr (Or.inl hg))) ?_) (fun g hg=>hS g (Or.inr (Or.inr (Or.inr (Or.inl hg)))) ?_),
  h.wai.frm hf fun g hg=>hS g (Or.inr (Or.inr (Or.inr (Or.inr (Or.inl hg))))) (au h.wai hfb (by decide) g hg),
  h.lin.frm hf fun g hg=>hS g (Or.inr (Or.inr (Or.inr (Or.inr (Or.inr (Or.inl hg)))))) (au h.lin hfb (by decide) g hg),
  h.til.frm hf fun g hg=>hS g (Or.inr (Or.inr (Or.inr (Or.inr (Or.inr (Or.inr (Or.inr (Or.inl hg)))))))) (au h.til hfb (by decide) g hg),
  h.wkv.frm hf fun g hg=>hS g (Or.inr (Or.inr (Or.inr (Or.inr (Or.inr (Or.inr (Or.inl hg))))))) (au h.wkv hfb (by decide) g hg),fun i u hu=>?_⟩
 ·obtain⟨c,hc⟩:=h.sto.own.ty hg
  exact aI hc hfb (by decide)
 ·obtain⟨c,hc⟩:=h.sto.pins.ty hg
  exact aI hc hfb (by decide)
 obtain⟨h1,h2⟩:=h.wat i u hu
 exact⟨aQ h1 hf (hS u.g (Or.inr (Or.inr (Or.inr (Or.inr (Or.inr (Or.inr (Or.inr (Or.inr ⟨i,u,hu,Or.inl rfl⟩)))))))) (aI h1 hfb (by decide))),
  h2.frm hf fun g hg=>hS g (Or.inr (Or.inr (Or.inr (Or.inr (Or.inr (Or.inr (Or.inr (Or.inr ⟨i,u,hu,Or.inr hg⟩)))))))) (au h2 hfb (by decide) g hg)⟩
theorem aw.lt {w:World}{fb:Nat}{X:FV}{sl pv:Value}{W:List (Option Wk)}{F:FM}(h:gF w fb X sl pv W F){k:Nat}(hk:aw fb X sl pv W k):k<w.heap.size:=by
 rcases hk with rfl|rfl|q|q|q|q|q|q|⟨i,u,hu,q⟩
 ·exact an h.blk
 ·exact h.mem.sto.lt
 ·exact h.mem.sto.slt.1 k q
 ·exact h.mem.sto.slt.2 k q
 ·exact h.mem.wai.lt q
 ·exact h.mem.lin.lt q
 ·exact h.mem.wkv.lt q
 ·exact h.mem.til.lt q
 obtain⟨h1,h2⟩:=h.mem.wat i u hu
 rcases q with rfl|q
 ·exact an h1
 exact h2.lt q
theorem gF.frm {w w':World}{fb:Nat}{X:FV}{sl pv:Value}{W:List (Option Wk)}{F:FM}{S:Nat->Prop}(h:gF w fb X sl pv W F)(hf:aE S w w')(hS:∀k,aw fb X sl pv W k->¬S k)(h4:∀k,S k->4<=k):gF w' fb X sl pv W F:=
 ⟨aQ h.blk hf (hS fb (Or.inl rfl)),h.num,h.pu,h.ver,h.mem.frm hf fb (fun k hk _=>hS k hk) h.blk,h.glb.frm hf h4,h.lo⟩
theorem eR.frm {w w':World}{fb:Nat}{Ψ:Nat->Prop}{F:FM}{S:Nat->Prop}(h:eR w fb Ψ F)(hf:aE S w w')(hS:∀k,Ψ k->¬S k)(h4:∀k,S k->4<=k):eR w' fb Ψ F:=by
 obtain⟨X,sl,pv,W,h1,h2⟩:=h;exact⟨X,sl,pv,W,h1.frm hf (fun k hk=>hS k (h2 k hk)) h4,h2⟩
theorem eR.on {w w':World}{fb:Nat}{Ψ:Nat->Prop}{F:FM}(h:eR w fb Ψ F)(hb:Below w.heap.size w w'):eR w' fb Ψ F:=h.frm (S:=fun _=>False) (aE.of_below hb) (fun _ _ q=>q) (fun _ q=>q.elim)
theorem eR.mono {w:World}{fb:Nat}{Ψ Ψ':Nat->Prop}{F:FM}(h:eR w fb Ψ F)(hS:∀k,Ψ k->Ψ' k):eR w fb Ψ' F:=by
 obtain⟨X,sl,pv,W,h1,h2⟩:=h;exact⟨X,sl,pv,W,h1,fun k hk=>hS k (h2 k hk)⟩
theorem eR.glb {w:World}{fb:Nat}{Ψ:Nat->Prop}{F:FM}(h:eR w fb Ψ F):Glb w:=by
 obtain⟨X,sl,pv,W,h1,h2⟩:=h;exact h1.glb
theorem Tick_any (fb:Nat)(Ψ:Nat->Prop)(F:FM)(w:World)(h:eR w fb Ψ F)(ho:Ok Oz F)(hn:F.now<=1000000000):
  Calls prog 46 #[.pointer (some ⟨fb,0,none⟩)] w fun e w'=>∃rv,e=.returned rv/\dt w fb Ψ F.tick.1 F.tick.2 rv w':=by
 obtain⟨X,sl,pv,W,h,hΨ⟩:=h;have hf:=h.blk;have hnw:X.nw=F.now:=h.num.nw
 have hlw:F.waiting.length<=8:=by have:=ho.wq; have:=ho.q; omega
 have hll:F.line.length<=8:=by have:=ho.linLe; omega
 have hks:∀r∈F.waiting,dy r.k:=fun r hr=>(ho.req r hr).2.2.2.1;obtain⟨w1,hw1⟩:∃w1,w.setCell ⟨fb,3,none⟩ (.int .i64 (X.nw+1))=w1:=⟨_,rfl⟩;have hF1:aE (fun k=>k=fb) w w1:=hw1▸(aE.rfl' _ _).setCell (p:=⟨fb,3,none⟩) _ (fun _=>rfl);have hf1:aq w1 fb { X with nw:=X.nw+1 }:=hw1▸aq.set hf 3 _ (FV.set_nw X _);have c3:=(aq.cells hf).2.2.2.1;have fz:=jU hf 3;have hM1:=h.mem.frm hF1 fb (fun k _ hne q=>hne q) hf
 have AL:=mA fb { X with nw:=X.nw+1 } F.waiting w1 hf1 hM1.wai (by omega)
 have HW1:=ae hw1;have HH:=ae h;have HF1:=ae hF1;have HM1:=ae hM1;have HFB1:=ae hf1;have HKS:=ae hks
 have hov:IntKind.i64.wrap (X.nw+1)=X.nw+1:=bG _ (by omega)
 have hnb:0<=X.nw/\X.nw<=1000000000:=by omega
 have HNW:=ae hnw;clear hf h hF1 hM1 hf1 hw1 hks hnw;go_enter func46,ntmps46
 go_wp2_with (refine cU w1 (kO _ _ _ _ rfl fb 3 (X.nw+1) rfl (by simp[go_sem]) w w1 c3 fz (aa HW1)) rfl ?_)
 refine AL.mono ?_;rintro e w2 ⟨⟨rv,rfl,hrv,hrf⟩,⟨wv2,hf2,hwv2,hwf⟩,hF2⟩;have hM2:=(aa HM1).frm hF2 fb (fun k _ hne q=>hne q) (aa HFB1);have hsm:∀r∈gY F.waiting (X.nw+1),bP r.k:=fun r hr=>(aa HKS r (List.mem_filter.1 hr).1).small
 have EF:=kR fb { X with nw:=X.nw+1,wv:=wv2 } F.line (gY F.waiting (X.nw+1)) w2 hf2 hwv2.at hM2.lin hsm (by have:=nJ F.waiting (X.nw+1); omega) (by omega)
 obtain⟨ra,rn,rc,rfl⟩:=hrv.sl;have H2:=ae (And.intro hrv (And.intro hrf (And.intro hf2 (And.intro hwv2 (And.intro hwf (And.intro hF2 hM2))))));clear hrv hrf hf2 hwv2 hwf hF2 hM2 hsm AL
 go_wp2_with fail
 refine EF.mono ?_;rintro e w3 ⟨rfl,⟨lv3,hf3,hlv3,hlf⟩,hF3⟩
 have HQ:Hid (dt w fb Ψ F.tick.1 F.tick.2 (.slice ra rn rc) w3):=by
  obtain⟨hrv,hrf,hf2,hwv2,hwf,hF2,hM2⟩:=aa H2;have h:=aa HH;have hnw:=aa HNW;have hsz1:=(aa HF1).size;have hsz2:=hF2.size;have hfbΨ:Ψ fb:=hΨ fb (Or.inl rfl);have hFw:aE (fun k=>k=fb) w w3:=((aa HF1).trans hF2).trans hF3;have hM3:=(h.mem.frm hFw fb (fun k _ hne q=>hne q) h.blk)
  have hrv3:=hrv.frm hF3 (fun g hg=>au hrv hf2 (by decide) g hg)
  have hwv3:=hwv2.frm hF3 (fun g hg=>au hwv2 hf2 (by decide) g hg)
  have e1:iU F.waiting (X.nw+1)=F.tick.2:=by rw[hnw]; rfl
  have e2:gY F.waiting (X.nw+1)=F.tick.1.waiting:=by rw[hnw]; rfl
  have h4:4<=w.heap.size:=h.glb.1
  have hsub:∀k,aw fb { X with nw:=X.nw+1,wv:=wv2,lv:=lv3 } sl pv W k->aw fb X sl pv W k\/w.heap.size<=k:=fun k hk=>hk.elim (Or.inl aw.iF) (Or.inl aw.iS) (fun k q=>Or.inl (aw.iL q)) (fun k q=>Or.inl (aw.iP q)) (fun k q=>Or.inr (by have:=hwf k q; omega)) (fun k q=>Or.inr (by have:=hlf k q; omega)) (fun k q=>Or.inl (aw.iK q)) (fun k q=>Or.inl (aw.iT q)) (fun i u hu=>⟨Or.inl (aw.iG hu),fun k q=>Or.inl (aw.iR hu q)⟩)
  refine⟨e1▸hrv3,fun g hg=>by have:=hrf g hg; omega,⟨{ X with nw:=X.nw+1,wv:=wv2,lv:=lv3 },sl,pv,W,⟨hf3,⟨h.num.q,h.num.wt,h.num.ch,?_,h.num.ar,h.num.st,h.num.rm⟩,⟨h.pu.wks,h.pu.rd,h.pu.dis⟩,h.ver,⟨hM3.sto,e2▸hwv3,?_,hM3.til,hM3.wkv,hM3.wat⟩,?_,fun k hk=>?_⟩,fun k hk=>?_⟩,hFw.mono fun k _ q=>q▸hfbΨ⟩
  ·show X.nw+1=((F.now+1:Nat):Int); omega
  ·show ah bT 39 w3 lv3 (F.line.filter fun b=>decide (0<aC F.tick.1.waiting b))
   rw[<-e2]; exact hlv3
  ·exact h.glb.frm hFw fun k q=>q▸h.lo fb (Or.inl rfl)
  ·exact(hsub k hk).elim (h.lo k) (fun q=>by omega)
  exact(hsub k hk).imp (hΨ k) id
 clear H2 EF hf3 hlv3 hlf hF3 HF1 HM1 HFB1 HH HKS
 go_wp2_with fail
 go_ret;exact⟨_,rfl,aa HQ⟩
theorem wk_fls {W:List (Option Wk)}{F:FM}(h:F.wks=W.map (Option.map Wk.f)){i:Nat}{u:Wk}(hu:W[i]?=some (some u)):u.f∈F.fls:=by
 refine eY (i:=i) ?_;rw[h,List.getElem?_map,hu];rfl
theorem f5:∀ts:List aL,(∀t∈ts,7<=t.body.size)->7*ts.length<=aA ts
 | [],_=>by simp[aA]
 | t::ts,h=>by
  have h1:=f5 ts fun u hu=>h u (List.mem_cons_of_mem _ hu)
  have h2:=h t (by simp)
  simp only[List.length_cons,aA];omega
theorem all_nf (l:List Ft):rF.all (l.map nf)=rF.all l:=by
 unfold dR.all;rw[List.flatMap_map]
 congr 1
 funext f
 show(cc 24 (nf f)).toList=(cc 24 f).toList;rw[nf_cc]
theorem ownR_nf {w:World}{v:Value}{l:List Ft}(h:ah rF 66 w v l):ah rF 66 w v (l.map nf):=by
 rcases h with⟨rfl,rfl⟩|⟨g,off,cap,cur,h1,h2,h3,h4,h5,h6⟩
 ·exact Or.inl ⟨rfl,rfl⟩
 refine Or.inr ⟨g,off,cap,cur,?_,h2,?_,h4,h5,?_⟩
 ·rw[List.length_map]; exact h1
 ·rw[List.length_map]; exact h3
 rw[List.length_map,all_nf]; exact h6
def kV (F:FM)(a:Int):FM × List gD:=if a<0 then (F,[]) else F.work Oz a.toNat
theorem stP1 (ev:Operand->Value)(o:Oper)(x y:Operand)(ho:o.op=.store 166 x y)(g i:Nat)(q:Option Addr)(hx:ev x=.pointer (some ⟨g,i,none⟩))(hy:ev y=.pointer q)(w w1:World){u:Value}(hc:w.cell? ⟨g,i,none⟩=some u)(hf:w.frozen? ⟨g,i,none⟩=false)(h1:w.setCell ⟨g,i,none⟩ (.pointer q)=w1):(execOp ev o).run prog w=.ok .skip w1:=by
 rw[<-h1];unfold execOp;simp[ho,hx,hy,go_sem,hc,hf]
theorem eS {W:List (Option Wk)}{i:Nat}(_hi:i<W.length)(o:Option Wk)(j:Nat)(u:Wk)(h:(W.set i o)[j]?=some (some u)):(j=i/\o=some u)\/(j≠i/\W[j]?=some (some u)):=by
 rw[List.getElem?_set] at h
 split at h
 ·rename_i e
  subst e;simp only[Option.some.injEq] at h;exact Or.inl ⟨rfl,h⟩
 rename_i e
 exact Or.inr ⟨fun q=>e q.symm,h⟩
structure WkC (w:World)(kv:Value)(n:Nat)(i:Nat)(p:Option Nat)(b off cap:Nat):Prop where
 kv:kv=.slice (some ⟨b,off,none⟩) n cap
 c:w.cell? ⟨b,off+i,none⟩=some (ptr p)
 fz:w.frozen? ⟨b,off+i,none⟩=false
theorem ah.wkC {w:World}{kv:Value}{L:List (Option Nat)}(h:ah fK 166 w kv L){i:Nat}{p:Option Nat}(hp:L[i]?=some p):∃b off cap,WkC w kv L.length i p b off cap:=by
 have hi:=(List.getElem?_eq_some_iff.1 hp).1
 rcases h with⟨_,rfl⟩|⟨g,off,cap,cur,h1,h2,h3,h4,h5,h6⟩
 ·simp at hp
 refine⟨g,off,cap,h1,?_,?_⟩
 ·have hO:ah fK 166 w (.slice (some ⟨g,off,none⟩) L.length cap) L:=Or.inr ⟨g,off,cap,cur,rfl,h2,h3,h4,h5,h6⟩
  rw[hO.cellAt i (by show i<L.length*1; omega)]
  have:=fK.all_at L i p 0 hp (by decide)
  simpa[fK] using this
 simp[World.frozen?,h2]
def fQ (S:Nat->Prop)(w:World)(Ts:List TypeId):Prop:=∀k,S k->∃c T,w.heap[k]?=some (.cells c T (0,0))/\T∈Ts
theorem ah.frmT {α:Type}{R:dR α}{T:TypeId}{w w':World}{v:Value}{l:List α}{S:Nat->Prop}{Ts:List TypeId}(h:ah R T w v l)(hF:aE S w w')(hS:fQ S w Ts)(hT:T∉Ts):ah R T w' v l:=h.frm hF fun g hg q=>by
 obtain⟨c,T',h1,h2⟩:=hS g q;exact au h h1 (fun e=>hT (e▸h2)) g hg rfl
theorem bJ {w w':World}{g:Nat}{c:Array Value}{T:TypeId}{f:Nat × Nat}{S:Nat->Prop}{Ts:List TypeId}(h:w.heap[g]?=some (.cells c T f))(hF:aE S w w')(hS:fQ S w Ts)(hT:T∉Ts):w'.heap[g]?=some (.cells c T f):=aQ h hF fun q=>by
 obtain⟨c',T',h1,h2⟩:=hS g q;exact aI h h1 (fun e=>hT (e▸h2)) rfl
theorem dD.frmT {w w':World}{sb:Nat}{keep ver:Int}{sl pv:Value}{LS PL:List Ft}{S:Nat->Prop}{Ts:List TypeId}(h:dD w sb keep ver sl pv LS PL)(hF:aE S w w')(hS:fQ S w Ts)(h1:119∉Ts)(h2:147∉Ts)(h3:3∉Ts):dD w' sb keep ver sl pv LS PL:=by
 refine h.frm hF (fun q=>?_) (fun g hg q=>?_) (fun g hg q=>?_)
 ·obtain⟨c',T',a,b⟩:=hS sb q
  exact aI h.blk a (fun e=>h1 (e▸b)) rfl
 ·obtain⟨c',T',a,b⟩:=hS g q
  obtain⟨c,hc⟩:=h.own.ty hg;exact aI hc a (fun e=>h2 (e▸b)) rfl
 obtain⟨c',T',a,b⟩:=hS g q;obtain⟨c,hc⟩:=h.pins.ty hg;exact aI hc a (fun e=>h3 (e▸b)) rfl
theorem ah.kvset {w:World}{kv:Value}{L:List (Option Nat)}(h:ah fK 166 w kv L){i:Nat}{p:Option Nat}{b off cap:Nat}(hi:i<L.length)(hC:WkC w kv L.length i p b off cap)(q:Option Nat):
  ah fK 166 (w.setCell ⟨b,off+i,none⟩ (ptr q)) kv (L.set i q)/\aE (fun k=>kv.ownBlock=some k) w (w.setCell ⟨b,off+i,none⟩ (ptr q))/\fQ (fun k=>kv.ownBlock=some k) w [166]:=by
 have e:=hC.kv;subst e;refine⟨ah.set1 h rfl i hi q (ptr q) rfl,(aE.rfl' _ _).setCell (p:=⟨b,off+i,none⟩) _ (fun _=>rfl),fun k hk=>?_⟩;obtain⟨c,hc⟩:=h.ty hk
 exact⟨c,166,hc,by simp⟩
theorem dt.same {w:World}{fb:Nat}{Ψ:Nat->Prop}{F:FM}(h:eR w fb Ψ F):dt w fb Ψ F [] (.slice none 0 0) w:=⟨aU,fun g hg=>by simp[Value.ownBlock] at hg,h.mono fun _ q=>Or.inl q,aE.rfl' _ _⟩
theorem gF.wlen {w:World}{fb:Nat}{X:FV}{sl pv:Value}{W:List (Option Wk)}{F:FM}(h:gF w fb X sl pv W F):F.wks.length=W.length:=by rw[h.pu.wks,List.length_map]
theorem gF.wat? {w:World}{fb:Nat}{X:FV}{sl pv:Value}{W:List (Option Wk)}{F:FM}(h:gF w fb X sl pv W F){i:Nat}{o:Option Wk}(hi:W[i]?=some o):F.wks[i]?=some (o.map Wk.f):=by rw[h.pu.wks,List.getElem?_map,hi]; rfl
def Wk.next (u:Wk)(n chunk:Nat)(rv:Value)(R2:List Ft):Wk:=⟨u.g,u.f.step n chunk,rv,(u.R++R2).map nf⟩
theorem gF.step {w w':World}{fb:Nat}{X:FV}{sl pv:Value}{W:List (Option Wk)}{F:FM}(h:gF w fb X sl pv W F)(ho:Ok Oz F){i:Nat}{u:Wk}(hu:W[i]?=some (some u)){rv':Value}{R2:List Ft}
  (hb:w'.heap[u.g]?=some (.cells #[u.f.b.l,u.f.b.z,u.f.b.x,u.f.b.y,u.f.reads,.int .i64 ((u.f.left:Int)-1),rv'] 170)) (hR:ah rF 66 w' rv' (u.R++R2)) (hrd:jB (F.FLs u.f.reads) 0 (u.R++R2)) (hl:R2.length=min F.chunk ((F.FLs u.f.reads).length-u.R.length))
  (hn:rv'.ownBlock=u.rv.ownBlock\/∀k,rv'.ownBlock=some k->w.heap.size<=k) (hF:aE (fun k=>k=u.g\/u.rv.ownBlock=some k) w w') :
  gF w' fb X sl pv (W.set i (some (u.next (F.FLs u.f.reads).length F.chunk rv' R2))) { F with wks:=F.wks.set i (some (u.f.step (F.FLs u.f.reads).length F.chunk)) }/\(∀k,aw fb X sl pv (W.set i (some (u.next (F.FLs u.f.reads).length F.chunk rv' R2))) k->aw fb X sl pv W k\/w.heap.size<=k)/\(u.next (F.FLs u.f.reads).length F.chunk rv' R2).R.length=min (u.f.got+F.chunk) (F.FLs u.f.reads).length:=by
 have hi:i<W.length:=(List.getElem?_eq_some_iff.1 hu).1;obtain⟨a,b⟩:=h.mem.wat i u hu;obtain⟨r1,r2,r3⟩:=h.pu.rd i u hu;obtain⟨f1,f2,k0,f3,f4⟩:=ho.flt u.f (wk_fls h.pu.wks hu);have hpos:=f2.pos
 have hgot:u.f.got<=(F.FLs u.f.reads).length:=by
  rcases f2 with⟨q1,_,q3⟩|⟨_,q2,_⟩
  ·omega
  have:u.f.got<=u.f.got+(u.f.left-1)*F.chunk:=Nat.le_add_right _ _;omega
 have hlen:(u.next (F.FLs u.f.reads).length F.chunk rv' R2).R.length=min (u.f.got+F.chunk) (F.FLs u.f.reads).length:=by
  show((u.R++R2).map nf).length=_;rw[List.length_map,List.length_append,hl,r2];omega
 have hT:fQ (fun k=>k=u.g\/u.rv.ownBlock=some k) w [170,66]:=fun k q=>by
  rcases q with rfl|q
  ·exact⟨_,_,a,by simp⟩
  obtain⟨c,hc⟩:=b.ty q
  exact⟨_,_,hc,by simp⟩
 have h4:=h.glb.1
 have hsub:∀k,aw fb X sl pv (W.set i (some (u.next (F.FLs u.f.reads).length F.chunk rv' R2))) k->aw fb X sl pv W k\/w.heap.size<=k:=fun k hk=>hk.elim (Or.inl aw.iF) (Or.inl aw.iS) (fun _ q=>Or.inl (aw.iL q)) (fun _ q=>Or.inl (aw.iP q)) (fun _ q=>Or.inl (aw.iW q)) (fun _ q=>Or.inl (aw.iN q)) (fun _ q=>Or.inl (aw.iK q)) (fun _ q=>Or.inl (aw.iT q)) (fun j v hv=>by
  rcases eS hi _ j v hv with⟨rfl,q⟩|⟨_,q⟩
  ·have q:=(Option.some.inj q).symm
   subst q;refine⟨Or.inl (aw.iG (u:=u) hu),fun k q=>?_⟩
   rcases hn with e|e
   ·exact Or.inl (aw.iR hu (e▸q))
   exact Or.inr (e k q)
  exact⟨Or.inl (aw.iG q),fun k e=>Or.inl (aw.iR q e)⟩)
 refine⟨⟨bJ h.blk hF hT (by decide),⟨h.num.q,h.num.wt,h.num.ch,h.num.nw,h.num.ar,h.num.st,h.num.rm⟩,⟨?_,fun j v hv=>?_,fun j j' v v' hne hv hv'=>?_⟩,h.ver,⟨h.mem.sto.frmT hF hT (by decide) (by decide) (by decide),h.mem.wai.frmT hF hT (by decide),h.mem.lin.frmT hF hT (by decide),h.mem.til.frmT hF hT (by decide),?_,fun j v hv=>?_⟩,?_,fun k hk=>(hsub k hk).elim (h.lo k) (fun q=>by omega)⟩,hsub,hlen⟩
 ·show F.wks.set i _=_
  rw[h.pu.wks,List.map_set];rfl
 ·rcases eS hi _ j v hv with⟨rfl,q⟩|⟨_,q⟩
  ·have q:=(Option.some.inj q).symm
   subst q;exact⟨hrd.norm,hlen,oT _⟩
  exact h.pu.rd j v q
 ·rcases eS hi _ j v hv with⟨rfl,q⟩|⟨hj,q⟩<;>rcases eS hi _ j' v' hv' with⟨rfl,q'⟩|⟨hj',q'⟩
  ·exact absurd rfl hne
  ·have q:=(Option.some.inj q).symm
   subst q;obtain⟨d1,d2⟩:=h.pu.dis j j' u v' hne hu q';refine⟨d1,fun k hk=>?_⟩
   rcases hn with e|e
   ·exact d2 k (e▸hk)
   exact fun q=>absurd ((h.mem.wat j' v' q').2.lt q) (by have:=e k hk; omega)
  ·have q':=(Option.some.inj q').symm
   subst q';obtain⟨d1,d2⟩:=h.pu.dis j j' v u hne q hu;refine⟨d1,fun k hk=>?_⟩
   rcases hn with e|e
   ·exact fun p=>d2 k hk (e▸p)
   exact fun p=>absurd ((h.mem.wat j v q).2.lt hk) (by have:=e k p; omega)
  exact h.pu.dis j j' v v' hne q q'
 ·have e:(W.set i (some (u.next (F.FLs u.f.reads).length F.chunk rv' R2))).map (Option.map Wk.g)=W.map (Option.map Wk.g):=by
   rw[List.map_set]
   apply List.ext_getElem?
   intro j;rw[List.getElem?_set]
   split
   ·rename_i e
    subst e;rw[List.length_map,if_pos hi,List.getElem?_map,hu];rfl
   rfl
  rw[e]
  exact h.mem.wkv.frmT hF hT (by decide)
 ·rcases eS hi _ j v hv with⟨rfl,q⟩|⟨hj,q⟩
  ·have q:=(Option.some.inj q).symm
   subst q;refine⟨?_,ownR_nf hR⟩
   have:(((u.f.left-1:Nat)):Int)=(u.f.left:Int)-1:=by omega
   show w'.heap[u.g]?=some (.cells #[u.f.b.l,u.f.b.z,u.f.b.x,u.f.b.y,u.f.reads,.int .i64 ((u.f.left-1:Nat):Int),rv'] 170);rw[this];exact hb
  obtain⟨d1,d2⟩:=h.pu.dis i j u v (fun e=>hj e.symm) hu q;obtain⟨a',b'⟩:=h.mem.wat j v q;refine⟨aQ a' hF (fun p=>?_),b'.frm hF fun g hg p=>?_⟩
  ·rcases p with p|p
   ·exact d1 p.symm
   exact au b a' (by decide) _ p rfl
  rcases p with p|p
  ·exact au b' a (by decide) g hg p
  exact d2 g p hg
 exact h.glb.frm hF fun k q=>by
  rcases q with rfl|q
  ·exact h.lo _ (aw.iG hu)
  exact h.lo _ (aw.iR hu q)
theorem set_none {L:List (Option Nat)}{i:Nat}{p:Option Nat}(h:L[i]?=some p):L.set i p=L:=by
 apply List.ext_getElem?
 intro j;rw[List.getElem?_set]
 split
 ·rename_i e
  subst e;rw[if_pos (List.getElem?_eq_some_iff.1 h).1,h]
 rfl
theorem gF.idle {w w':World}{fb:Nat}{X:FV}{sl pv:Value}{W:List (Option Wk)}{F:FM}(h:gF w fb X sl pv W F){i:Nat}(hi:W[i]?=some none)(hk:ah fK 166 w' X.kv ((W.map (Option.map Wk.g)).set i none))(hF:aE (fun k=>X.kv.ownBlock=some k) w w')(hT:fQ (fun k=>X.kv.ownBlock=some k) w [166]):gF w' fb X sl pv W F:=by
 have e:(W.map (Option.map Wk.g)).set i none=W.map (Option.map Wk.g):=set_none (by rw[List.getElem?_map,hi]; rfl)
 rw[e] at hk
 exact⟨bJ h.blk hF hT (by decide),h.num,h.pu,h.ver,⟨h.mem.sto.frmT hF hT (by decide) (by decide) (by decide),h.mem.wai.frmT hF hT (by decide),h.mem.lin.frmT hF hT (by decide),h.mem.til.frmT hF hT (by decide),hk,fun j v hv=>⟨bJ (h.mem.wat j v hv).1 hF hT (by decide),(h.mem.wat j v hv).2.frmT hF hT (by decide)⟩⟩,h.glb.frm hF (fun k q=>h.lo k (aw.iK q)),h.lo⟩
theorem gF.take {w w1 w':World}{fb:Nat}{X:FV}{sl pv pv' lv':Value}{W:List (Option Wk)}{F:FM}(h:gF w fb X sl pv W F){i:Nat}(hi:W[i]?=some none){b:K4}{rest:List K4}(hl:F.line=b::rest)
  (hu:w1.heap[w.heap.size]?=some (.cells #[b.l,b.z,b.x,b.y,F.ver,.int .i64 (bB (F.FLs F.ver).length F.chunk),.slice none 0 0] 170)) (hf:aq w1 fb { X with lv:=lv',st:=X.st+1 }) (hlv:ah bT 39 w1 lv' rest) (hlo:lv'.ownBlock=X.lv.ownBlock) (hs:dD w1 X.sb 0 F.ver sl pv' F.LS (ri (F.PI++[(F.ver:Int)]))) (hpo:pv'.ownBlock=pv.ownBlock\/∀g,pv'.ownBlock=some g->w.heap.size<=g) (hF:aE (fun k=>k=fb\/k=X.sb\/pv.ownBlock=some k) w w1)
  (hk:ah fK 166 w' X.kv ((W.map (Option.map Wk.g)).set i (some w.heap.size))) (hF2:aE (fun k=>X.kv.ownBlock=some k) w1 w') (hT2:fQ (fun k=>X.kv.ownBlock=some k) w1 [166]) :
  gF w' fb { X with lv:=lv',st:=X.st+1 } sl pv' (W.set i (some ⟨w.heap.size,⟨b,F.ver,bB (F.FLs F.ver).length F.chunk,0⟩,.slice none 0 0,[]⟩)) (F.takeW i)/\(∀k,aw fb { X with lv:=lv',st:=X.st+1 } sl pv' (W.set i (some ⟨w.heap.size,⟨b,F.ver,bB (F.FLs F.ver).length F.chunk,0⟩,.slice none 0 0,[]⟩)) k->aw fb X sl pv W k\/w.heap.size<=k)/\aE (fun k=>aw fb X sl pv W k) w w':=by
 have hil:i<W.length:=(List.getElem?_eq_some_iff.1 hi).1;have h4:=h.glb.1
 have hT:fQ (fun k=>k=fb\/k=X.sb\/pv.ownBlock=some k) w [129,119,3]:=fun k q=>by
  rcases q with rfl|rfl|q
  ·exact⟨_,_,h.blk,by simp⟩
  ·exact⟨_,_,h.mem.sto.blk,by simp⟩
  obtain⟨c,hc⟩:=h.mem.sto.pins.ty q
  exact⟨_,_,hc,by simp⟩
 have hsub:∀k,aw fb { X with lv:=lv',st:=X.st+1 } sl pv' (W.set i (some ⟨w.heap.size,⟨b,F.ver,bB (F.FLs F.ver).length F.chunk,0⟩,.slice none 0 0,[]⟩)) k->aw fb X sl pv W k\/w.heap.size<=k:=fun k hk=>hk.elim (Or.inl aw.iF) (Or.inl aw.iS) (fun _ q=>Or.inl (aw.iL q)) (fun k q=>by
   rcases hpo with e|e
   ·exact Or.inl (aw.iP (e▸q))
   exact Or.inr (e k q)) (fun _ q=>Or.inl (aw.iW q)) (fun _ q=>Or.inl (aw.iN (hlo▸q))) (fun _ q=>Or.inl (aw.iK q)) (fun _ q=>Or.inl (aw.iT q)) (fun j v hv=>by
  rcases eS hil _ j v hv with⟨rfl,q⟩|⟨_,q⟩
  ·have q:=(Option.some.inj q).symm
   subst q
   exact⟨Or.inr aD,fun k q=>by simp[Value.ownBlock] at q⟩
  exact⟨Or.inl (aw.iG q),fun k e=>Or.inl (aw.iR q e)⟩)
 have hFw:aE (fun k=>aw fb X sl pv W k) w w':=(hF.mono fun k _ q=>by
   rcases q with rfl|rfl|q
   ·exact aw.iF
   ·exact aw.iS
   exact aw.iP q).then hF2 (fun k _ q=>aw.iK q)
 have hE:F.takeW i={ F with line:=rest,started:=F.started+1,PI:=F.PI++[(F.ver:Int)],wks:=F.wks.set i (some ⟨b,F.ver,bB (F.FLs F.ver).length F.chunk,0⟩) }:=by unfold FM.takeW; rw[hl]
 rw[hE]
 refine⟨⟨bJ hf hF2 hT2 (by decide),⟨h.num.q,h.num.wt,h.num.ch,h.num.nw,h.num.ar,by have:=h.num.st; show X.st+1=((F.started+1:Nat):Int); omega,h.num.rm⟩,⟨?_,fun j v hv=>?_,fun j j' v v' hne hv hv'=>?_⟩,h.ver,⟨hs.frmT hF2 hT2 (by decide) (by decide) (by decide),(h.mem.wai.frmT hF hT (by decide)).frmT hF2 hT2 (by decide),hlv.frmT hF2 hT2 (by decide),(h.mem.til.frmT hF hT (by decide)).frmT hF2 hT2 (by decide),?_,fun j v hv=>?_⟩,h.glb.frm hFw h.lo,fun k hk=>(hsub k hk).elim (h.lo k) (fun q=>by omega)⟩,hsub,hFw⟩
 ·show F.wks.set i _=_
  rw[h.pu.wks,List.map_set];rfl
 ·rcases eS hil _ j v hv with⟨rfl,q⟩|⟨_,q⟩
  ·have q:=(Option.some.inj q).symm
   subst q
   exact⟨rdP_nil _ _,rfl,fun f hf=>by simp at hf⟩
  exact h.pu.rd j v q
 ·rcases eS hil _ j v hv with⟨rfl,q⟩|⟨hj,q⟩<;>rcases eS hil _ j' v' hv' with⟨rfl,q'⟩|⟨hj',q'⟩
  ·exact absurd rfl hne
  ·have q:=(Option.some.inj q).symm
   subst q;have:=an (h.mem.wat j' v' q').1
   exact⟨by show w.heap.size≠v'.g; omega,fun k hk=>by simp[Value.ownBlock] at hk⟩
  ·have q':=(Option.some.inj q').symm
   subst q';have:=an (h.mem.wat j v q).1
   exact⟨by show v.g≠w.heap.size; omega,fun k _=>by simp[Value.ownBlock]⟩
  exact h.pu.dis j j' v v' hne q q'
 ·rw[List.map_set]
  exact hk
 rcases eS hil _ j v hv with⟨rfl,q⟩|⟨hj,q⟩
 ·have q:=(Option.some.inj q).symm
  subst q
  exact⟨bJ hu hF2 hT2 (by decide),aU⟩
 obtain⟨a,c⟩:=h.mem.wat j v q
 exact⟨bJ (bJ a hF hT (by decide)) hF2 hT2 (by decide),(c.frmT hF hT (by decide)).frmT hF2 hT2 (by decide)⟩
theorem gF.finish {w w':World}{fb:Nat}{X:FV}{sl pv rv:Value}{W:List (Option Wk)}{F:FM}{R:List Ft}{fl:Fl}(h:gF w fb X sl pv W F){i:Nat}(hi:W[i]?=some none){room:Nat}{g:Nat}(hroom:room=F.room)(hts:fl.b.keys.map (bR R F.LS fl.reads)=F.tilesOf Oz fl)(hr:FinR fb g X room F.ver sl F.LS R F.PI F.waiting F.line F.tiles fl.b fl.reads w rv w'):
  dt w fb (fun k=>aw fb X sl pv W k) (F.finishW Oz i fl).1 (F.finishW Oz i fl).2 rv w':=by
 subst hroom;have h4:=h.glb.1;obtain⟨h1,h2,⟨wv',lv',tv',pv',b1,b2,b3,b4,b5,b6,b7,b8,b9⟩,hF⟩:=hr;rw[hts] at h1 b2 b3 b4
 have hT:fQ (fun k=>k=fb\/k=X.sb\/X.lv.ownBlock=some k) w [129,119,39]:=fun k q=>by
  rcases q with rfl|rfl|q
  ·exact⟨_,_,h.blk,by simp⟩
  ·exact⟨_,_,h.mem.sto.blk,by simp⟩
  obtain⟨c,hc⟩:=h.mem.lin.ty q
  exact⟨_,_,hc,by simp⟩
 have hsub:∀k,aw fb { X with wv:=wv',lv:=lv',tv:=tv' } sl pv' W k->aw fb X sl pv W k\/w.heap.size<=k:=fun k hk=>hk.elim (Or.inl aw.iF) (Or.inl aw.iS) (fun _ q=>Or.inl (aw.iL q)) (fun k q=>Or.inr (b9 k q)) (fun k q=>Or.inr (b6 k q)) (fun k q=>(b8 k q).imp (fun e=>aw.iN e) id) (fun _ q=>Or.inl (aw.iK q)) (fun k q=>(b7 k q).imp (fun e=>aw.iT e) id) (fun j v hv=>⟨Or.inl (aw.iG hv),fun k e=>Or.inl (aw.iR hv e)⟩)
 have hFw:aE (fun k=>aw fb X sl pv W k) w w':=hF.mono fun k _ q=>by
  rcases q with rfl|rfl|q
  ·exact aw.iF
  ·exact aw.iS
  exact aw.iN q
 have hwi:F.wks.set i none=F.wks:=gP _ _ _ (by rw[h.wat? hi]; rfl)
 refine⟨h1,h2,⟨{ X with wv:=wv',lv:=lv',tv:=tv' },sl,pv',W,⟨b1,⟨h.num.q,h.num.wt,h.num.ch,h.num.nw,h.num.ar,h.num.st,h.num.rm⟩,⟨?_,h.pu.rd,h.pu.dis⟩,h.ver,⟨b5,b2,b4,b3,h.mem.wkv.frmT hF hT (by decide),fun j v hv=>⟨bJ (h.mem.wat j v hv).1 hF hT (by decide),(h.mem.wat j v hv).2.frmT hF hT (by decide)⟩⟩,h.glb.frm hFw h.lo,fun k hk=>(hsub k hk).elim (h.lo k) (fun q=>by omega)⟩,hsub⟩,hFw⟩
 show F.wks.set i none=_;rw[hwi];exact h.pu.wks
theorem gF.gone {w w':World}{fb:Nat}{X:FV}{sl pv:Value}{W:List (Option Wk)}{F:FM}(h:gF w fb X sl pv W F){i:Nat}(hi:i<W.length)(hk:ah fK 166 w' X.kv ((W.map (Option.map Wk.g)).set i none))(hF:aE (fun k=>X.kv.ownBlock=some k) w w')(hT:fQ (fun k=>X.kv.ownBlock=some k) w [166]):
  gF w' fb X sl pv (W.set i none) { F with wks:=F.wks.set i none }/\∀k,aw fb X sl pv (W.set i none) k->aw fb X sl pv W k:=by
 have hsub:∀k,aw fb X sl pv (W.set i none) k->aw fb X sl pv W k:=fun k hk=>hk.elim aw.iF aw.iS (fun _ q=>aw.iL q) (fun _ q=>aw.iP q) (fun _ q=>aw.iW q) (fun _ q=>aw.iN q) (fun _ q=>aw.iK q) (fun _ q=>aw.iT q) (fun j v hv=>by
  rcases eS hi _ j v hv with⟨rfl,q⟩|⟨_,q⟩
  ·cases q
  exact⟨aw.iG q,fun k e=>aw.iR q e⟩)
 have hold:∀(j:Nat) (v:Wk),(W.set i none)[j]?=some (some v)->W[j]?=some (some v):=fun j v hv=>by
  rcases eS hi _ j v hv with⟨rfl,q⟩|⟨_,q⟩
  ·cases q
  exact q
 refine⟨⟨bJ h.blk hF hT (by decide),⟨h.num.q,h.num.wt,h.num.ch,h.num.nw,h.num.ar,h.num.st,h.num.rm⟩,⟨?_,fun j v hv=>h.pu.rd j v (hold j v hv),fun j j' v v' hne hv hv'=>h.pu.dis j j' v v' hne (hold j v hv) (hold j' v' hv')⟩,h.ver,⟨h.mem.sto.frmT hF hT (by decide) (by decide) (by decide),h.mem.wai.frmT hF hT (by decide),h.mem.lin.frmT hF hT (by decide),h.mem.til.frmT hF hT (by decide),?_,fun j v hv=>⟨bJ (h.mem.wat j v (hold j v hv)).1 hF hT (by decide),(h.mem.wat j v (hold j v hv)).2.frmT hF hT (by decide)⟩⟩,h.glb.frm hF (fun k q=>h.lo k (aw.iK q)),fun k hk=>h.lo k (hsub k hk)⟩,hsub⟩
 ·show F.wks.set i none=_
  rw[h.pu.wks,List.map_set];rfl
 rw[List.map_set];exact hk
theorem dt.trans {w w1 w':World}{fb:Nat}{Ψ Ψ1:Nat->Prop}{F:FM}{l:List gD}{rv:Value}(hF:aE Ψ w w1)(h:dt w1 fb Ψ1 F l rv w')(h1:∀k,Ψ1 k->Ψ k\/w.heap.size<=k):dt w fb Ψ F l rv w':=by
 have hsz:=hF.size
 refine⟨h.rep,fun g hg=>by have:=h.repf g hg; omega,h.fro.mono fun k q=>?_,hF.then h.frm fun k hk q=>?_⟩
 ·rcases q with q|q
  ·exact h1 k q
  right; omega
 rcases h1 k q with e|e
 ·exact e
 omega
def k8 (p:ByteArray):K4 × Int:=(⟨(Dw.parseL p.data.toList).1.1,(Dw.parseL p.data.toList).1.2.1,(Dw.parseL p.data.toList).1.2.2.1,(Dw.parseL p.data.toList).1.2.2.2⟩,(Dw.parseL p.data.toList).2)
theorem perr_ok {k:K4}(h:Dw.Pp.keyErr k.l k.z k.x k.y=0):dy k:=by
 unfold Dw.Pp.keyErr at h
 split at h
 ·cases h
 split at h
 ·cases h
 split at h
 ·cases h
 exact⟨by omega,by omega,by omega,by omega⟩
theorem oK (p:ByteArray):((k8 p).2=0/\dy (k8 p).1)\/((k8 p).2≠0/\(k8 p).1=⟨0,0,0,0⟩):=by
 unfold k8 Dw.parseL
 split
 ·exact Or.inr ⟨by decide,rfl⟩
 split
 ·rename_i h
  exact Or.inl ⟨rfl,perr_ok h⟩
 rename_i h
 exact Or.inr ⟨h,rfl⟩
def arr (F:FM)(p tag:ByteArray):FM × List gD:=if (k8 p).2=0 then F.arriveK Oz (k8 p).1 tag else F.arriveE (k8 p).2
theorem refusal_any (e:Int)(w:World):Calls prog 81 #[e] w fun r w'=>r=.returned (.int .i64 (if e=1 then 400 else 404))/\w=w':=by
 by_cases h:e=1
 ·subst h
  go_enter func81,ntmps81
  go_wp2_with fail
  go_ret;exact⟨rfl,rfl⟩
 rw[if_neg h]
 have h':(e==1)=false:=by simpa using h
 go_enter func81,ntmps81
 go_wp2_with fail
 go_ret;exact⟨rfl,rfl⟩
theorem bt35 (n s:Int)(ev:Operand->Value)(o:Oper)(p q:Operand)(ho:o.op=.build 103 #[(0,p),(1,q)])(h1:ev p=.int .i64 n)(h2:ev q=.int .i64 s)(w:World):(execOp ev o).run prog w=.ok (.value (.agg #[n,s,.string ⟨#[]⟩,.string ⟨#[]⟩])) w:=by
 have hb:=run_build (P:=prog) w 103 #[(0,.int .i64 n),(1,.int .i64 s)] #[n,s,.string ⟨#[]⟩,.string ⟨#[]⟩] (by kernel_rfl)
 unfold execOp;simp[ho,h1,h2,hb]
theorem key_one (l z x y:Int):(#[l,z,x,y]:Array Value).all (·.oneCell')=true:=by simp[Value.oneCell']
theorem al39 (ev:Operand->Value)(o:Oper)(ho:o.op=.alloc 39)(w w1:World)(h1:w.alloc (.cells #[(),(),(),()] 39)=w1):(execOp ev o).run prog w=.ok (.value (.pointer (some ⟨w.heap.size,0,none⟩))) w1:=by
 rw[<-h1];unfold execOp;simp only[ho]
 kernel_rfl
theorem al35 (ev:Operand->Value)(o:Oper)(ho:o.op=.alloc 103)(w w1:World)(h1:w.alloc (.cells #[(),(),.string ⟨#[]⟩,.string ⟨#[]⟩] 103)=w1):(execOp ev o).run prog w=.ok (.value (.pointer (some ⟨w.heap.size,0,none⟩))) w1:=by
 rw[<-h1];unfold execOp;simp only[ho]
 kernel_rfl
theorem hasW_eq {W:List (Option Wk)}{wks:List (Option Fl)}(h:wks=W.map (Option.map Wk.f))(b:K4):hasW W b=wks.any fun o=>match o with
 | some fl=>decide (fl.b=b)
 | none=>false:=by
 rw[h,List.any_map];unfold hasW
 congr 1
 funext o
 cases o<;>rfl
theorem gF.wksAt {w:World}{fb:Nat}{X:FV}{sl pv:Value}{W:List (Option Wk)}{F:FM}(h:gF w fb X sl pv W F):f8 w X.kv W:=⟨h.mem.wkv.at,fun i u hu=>(h.mem.wat i u hu).1⟩
theorem gF.arr {w w':World}{fb:Nat}{X:FV}{sl pv:Value}{W:List (Option Wk)}{F:FM}(h:gF w fb X sl pv W F)(hF:aE (fun k=>k=fb) w w')(hf:aq w' fb { X with ar:=X.ar+1 }):gF w' fb { X with ar:=X.ar+1 } sl pv W { F with arrived:=F.arrived+1 }:=by
 have hM:=h.mem.frm hF fb (fun k _ hne q=>hne q) h.blk
 exact⟨hf,⟨h.num.q,h.num.wt,h.num.ch,h.num.nw,by have:=h.num.ar; show X.ar+1=((F.arrived+1:Nat):Int); omega,h.num.st,h.num.rm⟩,⟨h.pu.wks,h.pu.rd,h.pu.dis⟩,h.ver,⟨hM.sto,hM.wai,hM.lin,hM.til,hM.wkv,hM.wat⟩,h.glb.frm hF (fun k q=>q▸h.lo fb aw.iF),fun k hk=>h.lo k (hk.elim aw.iF aw.iS (fun _ q=>aw.iL q) (fun _ q=>aw.iP q) (fun _ q=>aw.iW q) (fun _ q=>aw.iN q) (fun _ q=>aw.iK q) (fun _ q=>aw.iT q) (fun _ _ hu=>⟨aw.iG hu,fun _ q=>aw.iR hu q⟩))⟩
theorem gF.tiles' {w w':World}{fb:Nat}{X:FV}{sl pv tv:Value}{W:List (Option Wk)}{F:FM}{ts:List aL}(h:gF w fb X sl pv W F)(hF:aE (fun k=>k=fb) w w')(hf:aq w' fb { X with tv:=tv })(ht:ah aW 196 w' tv ts)(hn:∀k,tv.ownBlock=some k->w.heap.size<=k):
  gF w' fb { X with tv:=tv } sl pv W { F with tiles:=ts }/\∀k,aw fb { X with tv:=tv } sl pv W k->aw fb X sl pv W k\/w.heap.size<=k:=by
 have hM:=h.mem.frm hF fb (fun k _ hne q=>hne q) h.blk;have h4:=h.glb.1;have hsub:∀k,aw fb { X with tv:=tv } sl pv W k->aw fb X sl pv W k\/w.heap.size<=k:=fun k hk=>hk.elim (Or.inl aw.iF) (Or.inl aw.iS) (fun _ q=>Or.inl (aw.iL q)) (fun _ q=>Or.inl (aw.iP q)) (fun _ q=>Or.inl (aw.iW q)) (fun _ q=>Or.inl (aw.iN q)) (fun _ q=>Or.inl (aw.iK q)) (fun k q=>Or.inr (hn k q)) (fun _ _ hu=>⟨Or.inl (aw.iG hu),fun _ q=>Or.inl (aw.iR hu q)⟩)
 exact⟨⟨hf,⟨h.num.q,h.num.wt,h.num.ch,h.num.nw,h.num.ar,h.num.st,h.num.rm⟩,⟨h.pu.wks,h.pu.rd,h.pu.dis⟩,h.ver,⟨hM.sto,hM.wai,hM.lin,ht,hM.wkv,hM.wat⟩,h.glb.frm hF (fun k q=>q▸h.lo fb aw.iF),fun k hk=>(hsub k hk).elim (h.lo k) (fun q=>by omega)⟩,hsub⟩
theorem Arrive_any (fb:Nat)(Ψ:Nat->Prop)(F:FM)(p tag:ByteArray)(w:World)(h:eR w fb Ψ F)(ho:Ok Oz F)(hp:p.size<=maxLen)(hna:F.arrived<=1000000000)(hnn:F.now<=1000000000):
  Calls prog 40 #[.pointer (some ⟨fb,0,none⟩),p,tag] w fun e w'=>∃rv,e=.returned (.tuple #[F.arrived,rv])/\dt w fb Ψ (arr F p tag).1 (arr F p tag).2 rv w':=by
 obtain⟨X,sl,pv,W,h,hΨ⟩:=h;have hf:=h.blk;have har:X.ar=F.arrived:=h.num.ar;have c4:w.cell? ⟨fb,4,none⟩=some (.int .i64 F.arrived):=har▸(aq.cells hf).2.2.2.2.1;have fz:=jU hf 4;obtain⟨w1,hw1⟩:∃w1,w.setCell ⟨fb,4,none⟩ (.int .i64 (F.arrived+1))=w1:=⟨_,rfl⟩;have hF1:aE (fun k=>k=fb) w w1:=hw1▸(aE.rfl' _ _).setCell (p:=⟨fb,4,none⟩) _ (fun _=>rfl)
 have hf1:aq w1 fb { X with ar:=X.ar+1 }:=by rw[<-hw1,har]; exact aq.set hf 4 _ (FV.set_ar X _)
 have h1:=h.arr hF1 hf1;have hsub1:∀k,aw fb { X with ar:=X.ar+1 } sl pv W k->aw fb X sl pv W k:=fun k hk=>hk.elim aw.iF aw.iS (fun _ q=>aw.iL q) (fun _ q=>aw.iP q) (fun _ q=>aw.iW q) (fun _ q=>aw.iN q) (fun _ q=>aw.iK q) (fun _ q=>aw.iT q) (fun _ _ hu=>⟨aw.iG hu,fun _ q=>aw.iR hu q⟩);have PA:=Dw.parse_any p w1 hp h1.glb.nm;have HW1:=ae hw1;have HH1:=ae h1;have HF1:=ae hF1;have HS1:=ae hsub1;have hfbΨ:Ψ fb:=hΨ fb aw.iF
 have hov:IntKind.i64.wrap ((F.arrived:Int)+1)=(F.arrived:Int)+1:=bG _ (by omega)
 have hab:(0:Int)<=(F.arrived:Int)/\(F.arrived:Int)<=1000000000:=by omega
 have HLO:=ae h.lo;have hG4:4<=w.heap.size:=h.glb.1;generalize hX1:({ X with ar:=X.ar+1 }:FV)=X1 at HH1 HS1;clear hf h hF1 hf1 hw1 har hsub1 h1 hX1;go_enter func40,ntmps40
 go_wp2_with (refine cU w1 (kO _ _ _ _ rfl fb 4 (F.arrived+1) rfl (by simp[go_sem]) w w1 c4 fz (aa HW1)) rfl ?_)
 refine PA.mono ?_;rintro e w2 ⟨⟨l,z,x,y,er,hpr,rfl⟩,hb2⟩
 have hprs:k8 p=(⟨l,z,x,y⟩,er):=by unfold k8; rw[hpr]
 have HPR:=ae hprs;obtain⟨w3,hw3⟩:∃w3,w2.alloc (.cells #[(),(),(),()] 39)=w3:=⟨_,rfl⟩;have hb3:Below w2.heap.size w2 w3:=hw3▸(Below.refl w2.heap.size w2).alloc aD (.cells #[(),(),(),()] 39);have hA3:w3.heap[w2.heap.size]?=some (.cells #[(),(),(),()] 39):=hw3▸heap_alloc_new w2 (.cells #[(),(),(),()] 39);have HW3:=ae hw3;clear hw3;obtain⟨g1,hg1⟩:∃g1,w2.heap.size=g1:=⟨_,rfl⟩;have HAL:=ae (show ∀(ev:Operand->Value) (o:Oper),o.op=.alloc 39->(execOp ev o).run prog w2=.ok (.value (.pointer (some ⟨g1,0,none⟩))) w3 from fun ev o q=>hg1▸al39 ev o q w2 w3 (aa HW3));rw[hg1] at hA3;have hb23:Below w1.heap.size w1 w3:=hb2.trans (hb3.mono hb2.size)
 have hg1':w1.heap.size<=g1:=by have:=hb2.size; omega
 obtain⟨w4,hw4⟩:∃w4,w3.setRow g1 #[l,z,x,y]=w4:=⟨_,rfl⟩;have hA4:w4.heap[g1]?=some (.cells #[l,z,x,y] 39):=hw4▸setRow_heap _ _ _ #[l,z,x,y] _ _ hA3;have hb14:Below w1.heap.size w1 w4:=hw4▸aK hb23 hg1' #[l,z,x,y];have HST:=ae (show ∀(ev:Operand->Value) (o:Oper) (s t:Operand),o.op=.store 39 s t->ev s=.pointer (some ⟨g1,0,none⟩)->ev t=.agg #[l,z,x,y]->(execOp ev o).run prog w3=.ok .skip w4 from fun ev o s t q q1 q2=>hw4▸stR ev o s t 39 q #[l,z,x,y] #[(),(),(),()] (bj _ _ _ _) (key_one _ _ _ _) rfl g1 q1 q2 w3 hA3);have h4:=(aa HH1).frm (S:=fun _=>False) (aE.of_below hb14) (fun _ _ q=>q) (fun _ q=>q.elim);have hF4:aE (fun k=>k=fb) w w4:=(aa HF1).then (aE.of_below (S:=fun _=>False) hb14) (fun _ _ q=>q.elim);have HH4:=ae h4;have HF4:=ae hF4;have HA4:=ae hA4;clear hb2 hb3 hA3 hb23 hb14 h4 hF4 hA4 hg1 HW3 HH1 HF1 PA hw4 HW1 c4 fz
 by_cases her:er=0
 ·subst her
  have hkk:dy ⟨l,z,x,y⟩:=by
   rcases oK p with q|q
   ·rw[hprs] at q; exact q.2
   rw[hprs] at q; exact absurd rfl q.1
  have h4:=aa HH4;have h100:=ho.v100;have hls:=h4.ver.len
  have hlt:F.tiles.length<=2000:=by
   have h7:∀t∈F.tiles,7<=t.body.size:=fun t ht=>by
    obtain⟨a,b⟩:=ho.til t ht
    rw[b]; exact(ho.hi.bod F.ver aD t.k a).1
   have:=f5 F.tiles h7
   have:=ho.byt; have:=ho.rm
   omega
  have AO:=atOnce_any fb X1 F.ver sl pv F.LS (ri F.PI) F.waiting F.tiles l z x y tag w4 h4.blk h4.mem.sto (by have:F.LS.length<=8*F.ver:=hls; omega) hkk (by omega) h4.glb h4.mem.wai h4.mem.til (by omega)
  have hrk:w4.rangeAt g1 0 #[.int .i64 l,.int .i64 z,.int .i64 x,.int .i64 y].toList:=ao (aa HA4)
  have hG:(arr F p tag)=F.arriveK Oz ⟨l,z,x,y⟩ tag:=by unfold arr; rw[hprs]; exact if_pos rfl
  have HGA:=ae hG;clear h4 hls hG hprs
  go_wp2_with (first|refine cP _ _ (aa HAL _ _ rfl) rfl ?_|refine cU _ (aa HST _ _ _ _ rfl rfl rfl) rfl ?_|refine bU 39 #[l,z,x,y] underlying39 rfl (bj _ _ _ _) g1 0 hrk rfl _ rfl rfl ?_)
  refine AO.mono ?_;intro e w5 hOn
  have key:(∃r:gD,e=.returned (.tuple #[.agg r.a,true])/\(arr F p tag).2=[⟨F.arrived,r.st,r.body,r.tag⟩]/\eR w5 fb (NewS Ψ w.heap.size) (arr F p tag).1/\aE Ψ w w5) \/
    (e=.returned (.tuple #[.agg #[(),(),.string ⟨#[]⟩,.string ⟨#[]⟩],false])/\(arr F p tag)=(FM.join { F with arrived:=F.arrived+1 } F.arrived ⟨l,z,x,y⟩,[])/\Below w4.heap.size w4 w5):=by
   obtain⟨r,b,rfl,hcase⟩:=hOn;have h4:=aa HH4;have hF4:=aa HF4;rw[aa HGA];have hst:F.stamp Oz F.ver ⟨l,z,x,y⟩=eA F.ver ⟨l,z,x,y⟩ F.LS:=rfl
   rcases hcase with⟨ht,rfl,rfl,hb⟩|⟨ht,t,hfi,rfl,rfl,⟨tv',q1,q2,q3⟩,hFr⟩|⟨ht,hfi,hq,rfl,rfl,hb⟩|⟨ht,hfi,hq,rfl,rfl,hb⟩
   ·refine Or.inl ⟨_,rfl,?_,?_,(hF4.then (aE.of_below (S:=fun _=>False) hb) (fun _ _ q=>q.elim)).mono fun k _ q=>q▸hfbΨ⟩
    ·unfold FM.arriveK; rw[if_pos (show tag=Oz.tag ⟨l,z,x,y⟩ (F.stamp Oz F.ver ⟨l,z,x,y⟩) from ht)]; exact congrArg (fun t=>[(⟨F.arrived,304,⟨#[]⟩,t⟩:gD)]) ht.symm
    unfold FM.arriveK; rw[if_pos (show tag=Oz.tag ⟨l,z,x,y⟩ (F.stamp Oz F.ver ⟨l,z,x,y⟩) from ht)]
    exact⟨X1,sl,pv,W,h4.frm (S:=fun _=>False) (aE.of_below hb) (fun _ _ q=>q) (fun _ q=>q.elim),fun k hk=>Or.inl (hΨ k (aa HS1 k hk))⟩
   ·have e1:F.arriveK Oz ⟨l,z,x,y⟩ tag=({ F with arrived:=F.arrived+1,tiles:=bm F.tiles t.k++[t] },[⟨F.arrived,200,t.body,t.tag⟩]):=by
     unfold FM.arriveK; rw[if_neg (show ¬tag=Oz.tag ⟨l,z,x,y⟩ (F.stamp Oz F.ver ⟨l,z,x,y⟩) from ht)]; simp only[hfi]
    rw[e1];obtain⟨a1,a2⟩:=h4.tiles' hFr q1 q2 q3
    refine Or.inl ⟨_,rfl,rfl,⟨_,sl,pv,W,a1,fun k hk=>(a2 k hk).imp (fun q=>hΨ k (aa HS1 k q)) (fun q=>by have:=hF4.size; omega)⟩,(hF4.then hFr (fun _ _ q=>q)).mono fun k _ q=>q▸hfbΨ⟩
   ·have e1:F.arriveK Oz ⟨l,z,x,y⟩ tag=({ F with arrived:=F.arrived+1 },[⟨F.arrived,503,⟨#[]⟩,⟨#[]⟩⟩]):=by
     unfold FM.arriveK; rw[if_neg (show ¬tag=Oz.tag ⟨l,z,x,y⟩ (F.stamp Oz F.ver ⟨l,z,x,y⟩) from ht)]; simp only[hfi]
     rw[if_pos (by have:X1.q=F.queue:=h4.num.q; omega)]
    rw[e1];exact Or.inl ⟨_,rfl,rfl,⟨X1,sl,pv,W,h4.frm (S:=fun _=>False) (aE.of_below hb) (fun _ _ q=>q) (fun _ q=>q.elim),fun k hk=>Or.inl (hΨ k (aa HS1 k hk))⟩,(hF4.then (aE.of_below (S:=fun _=>False) hb) (fun _ _ q=>q.elim)).mono fun k _ q=>q▸hfbΨ⟩
   have e1:F.arriveK Oz ⟨l,z,x,y⟩ tag=(FM.join { F with arrived:=F.arrived+1 } F.arrived ⟨l,z,x,y⟩,[]):=by
    unfold FM.arriveK; rw[if_neg (show ¬tag=Oz.tag ⟨l,z,x,y⟩ (F.stamp Oz F.ver ⟨l,z,x,y⟩) from ht)]; simp only[hfi]
    rw[if_neg (by have:X1.q=F.queue:=h4.num.q; omega)]
   exact Or.inr ⟨rfl,e1,hb⟩
  clear hOn AO hrk HAL HST HGA
  rcases key with⟨r,rfl,hr2,hfr,hFr⟩|⟨rfl,hG,hb⟩
  ·have hsz5:=hFr.size
   have HR2:=ae hr2;have HFR:=ae hfr;have HFRM:=ae hFr;clear hr2 hfr hFr HH4 HF4 HA4;obtain⟨rw',rs,rb,rt⟩:=r;obtain⟨w6,hw6⟩:∃w6,w5.alloc (.cells #[(),(),.string ⟨#[]⟩,.string ⟨#[]⟩] 103)=w6:=⟨_,rfl⟩;have hb6:Below w5.heap.size w5 w6:=hw6▸(Below.refl w5.heap.size w5).alloc aD (.cells #[(),(),.string ⟨#[]⟩,.string ⟨#[]⟩] 103);have hA6:w6.heap[w5.heap.size]?=some (.cells #[(),(),.string ⟨#[]⟩,.string ⟨#[]⟩] 103):=hw6▸heap_alloc_new w5 (.cells #[(),(),.string ⟨#[]⟩,.string ⟨#[]⟩] 103);have HW6:=ae hw6;clear hw6;obtain⟨g2,hg2⟩:∃g2,w5.heap.size=g2:=⟨_,rfl⟩;have HAL:=ae (show ∀(ev:Operand->Value) (o:Oper),o.op=.alloc 103->(execOp ev o).run prog w5=.ok (.value (.pointer (some ⟨g2,0,none⟩))) w6 from fun ev o q=>hg2▸al35 ev o q w5 w6 (aa HW6));rw[hg2] at hA6;obtain⟨w7,hw7⟩:∃w7,w6.setRow g2 #[rw',rs,rb,rt]=w7:=⟨_,rfl⟩;have hA7:w7.heap[g2]?=some (.cells #[rw',rs,rb,rt] 103):=hw7▸setRow_heap _ _ _ _ _ _ hA6
   have hb7:Below w5.heap.size w5 w7:=hw7▸aK hb6 (by omega) _
   have HST:=ae (show ∀(ev:Operand->Value) (o:Oper) (s t:Operand),o.op=.store 103 s t->ev s=.pointer (some ⟨g2,0,none⟩)->ev t=.agg #[rw',rs,rb,rt]->(execOp ev o).run prog w6=.ok .skip w7 from fun ev o s t q q1 q2=>hw7▸stR ev o s t 103 q #[rw',rs,rb,rt] #[(),(),.string ⟨#[]⟩,.string ⟨#[]⟩] (ki _ _ _ _) (gh _ _ _ _) rfl g2 q1 q2 w6 hA6);obtain⟨w8,hw8⟩:∃w8,w7.setCell ⟨g2,0,none⟩ (.int .i64 F.arrived)=w8:=⟨_,rfl⟩
   have hA8:w8.heap[g2]?=some (.cells #[F.arrived,rs,rb,rt] 103):=hw8▸by simp[World.setCell,Array.getElem?_modify,hA7]
   have hb8:Below w5.heap.size w5 w8:=hw8▸hb7.setCell (p:=⟨g2,0,none⟩) (show w5.heap.size<=g2 by omega) _
   have c0:w7.cell? ⟨g2,0,none⟩=some (.int .i64 rw'):=(af hA7 0).trans rfl
   have fz7:w7.frozen? ⟨g2,0,none⟩=false:=by simp[World.frozen?,hA7]
   have HW8:=ae hw8;have HA8:=ae hA8;have HB8:=ae hb8;clear hb6 hA6 hb7 hw7 hw8 hA8 hb8 HW6 hA7
   go_wp2_with (first|refine cP _ _ (aa HAL _ _ rfl) rfl ?_|refine cU _ (aa HST _ _ _ _ rfl rfl rfl) rfl ?_|refine cU w8 (kO _ _ _ _ rfl g2 0 F.arrived rfl rfl w7 w8 c0 fz7 (aa HW8)) rfl ?_)
   refine wp_region_held (S:=fun w'=>w'.heap[g2]?=some (.cells #[F.arrived,rs,rb,rt] 103)) (by kernel_rfl) ?_
   change wpAnyH _ _ _ _ _ _ _ _ (World.drew _);have hS:(World.drew w8).heap[g2]?=some (.cells #[F.arrived,rs,rb,rt] 103):=aa HA8;have hbD:Below w8.heap.size w8 (World.drew w8):=Below.drew bu;have hb9:Below w5.heap.size w5 (World.drew w8):=(aa HB8).trans (hbD.mono (aa HB8).size);generalize World.drew w8=w9 at hS hb9 ⊢;have hbN:=(Below.refl w9.heap.size w9).alloc aD (.cells #[F.arrived,rs,rb,rt] 103);have hSN:=ag hS hbN
   have hown:ah bE 103 (w9.alloc (.cells #[F.arrived,rs,rb,rt] 103)) (.slice (some ⟨w9.heap.size,0,none⟩) 1 1) [⟨F.arrived,rs,rb,rt⟩]:=cr (R:=bE) (T:=103) w9 [⟨F.arrived,rs,rb,rt⟩] #[F.arrived,rs,rb,rt] rfl (show 1<=maxLen by decide)
   have hb10:=hb9.trans (hbN.mono hb9.size)
   have HQ:Hid (∃rv,Ending.returned (.tuple #[F.arrived,.slice (some ⟨w9.heap.size,0,none⟩) 1 1])=.returned (.tuple #[F.arrived,rv])/\dt w fb Ψ (arr F p tag).1 (arr F p tag).2 rv (w9.alloc (.cells #[F.arrived,rs,rb,rt] 103))):=by
    refine⟨_,rfl,?_⟩;rw[aa HR2]
    exact⟨hown,fun g hg=>by have:=hb9.size; simp only[Value.ownBlock,Option.some.injEq] at hg; omega,(aa HFR).on hb10,(aa HFRM).then (aE.of_below (S:=fun _=>False) hb10) (fun _ _ q=>q.elim)⟩
   refine aH 0 rfl (.int .i64 F.arrived) hS ?_;refine aH 1 rfl (.agg #[F.arrived,rs,rb,rt]) hS ?_ (hy:=fun w' hw'=>jT _ _ _ 103 rfl _ rfl _ underlying103 rfl (ki _ _ _ _) g2 0 rfl _ (ao hw'));refine aH 3 rfl (.int .i64 F.arrived) hS ?_;refine aV 2 ?_;refine bI 2 rfl rfl (.slice (some ⟨w9.heap.size,0,none⟩) 1 1) (w9.alloc (.cells #[F.arrived,rs,rb,rt] 103)) (gz F.arrived rs rb rt _ _ _ rfl rfl _) (hSN) ?_;simp only[qZ];refine aH 4 rfl (.slice (some ⟨w9.heap.size,0,none⟩) 1 1) hSN ?_
   refine wpAnyH_done (by kernel_rfl) ?_ _
   clear hS hb9 hbN hSN hown hb10 HA8 HB8 HFR HFRM HR2
   go_wp2_with fail
   go_ret2
   exact aa HQ
  have h4:=aa HH4;have h5:=h4.frm (S:=fun _=>False) (aE.of_below hb) (fun _ _ q=>q) (fun _ q=>q.elim);have hF5:=(aa HF4).then (aE.of_below (S:=fun _=>False) hb) (fun _ _ q=>q.elim);have hA5:=ag (aa HA4) hb;have HH5:=ae h5;have HF5:=ae hF5;have HA5:=ae hA5;have HG:=ae hG;clear h4 h5 hF5 hA5 hb HH4 HF4 HA4 hG;obtain⟨w6,hw6⟩:∃w6,w5.alloc (.cells #[(),(),.string ⟨#[]⟩,.string ⟨#[]⟩] 103)=w6:=⟨_,rfl⟩;have hb6:Below w5.heap.size w5 w6:=hw6▸(Below.refl w5.heap.size w5).alloc aD (.cells #[(),(),.string ⟨#[]⟩,.string ⟨#[]⟩] 103);have hA6:w6.heap[w5.heap.size]?=some (.cells #[(),(),.string ⟨#[]⟩,.string ⟨#[]⟩] 103):=hw6▸heap_alloc_new w5 (.cells #[(),(),.string ⟨#[]⟩,.string ⟨#[]⟩] 103);have HW6:=ae hw6;clear hw6;obtain⟨g2,hg2⟩:∃g2,w5.heap.size=g2:=⟨_,rfl⟩;have HAL:=ae (show ∀(ev:Operand->Value) (o:Oper),o.op=.alloc 103->(execOp ev o).run prog w5=.ok (.value (.pointer (some ⟨g2,0,none⟩))) w6 from fun ev o q=>hg2▸al35 ev o q w5 w6 (aa HW6));rw[hg2] at hA6;obtain⟨w7,hw7⟩:∃w7,w6.setRow g2 #[(),(),.string ⟨#[]⟩,.string ⟨#[]⟩]=w7:=⟨_,rfl⟩
  have hb7:Below w5.heap.size w5 w7:=hw7▸aK hb6 (by omega) _
  have HST:=ae (show ∀(ev:Operand->Value) (o:Oper) (s t:Operand),o.op=.store 103 s t->ev s=.pointer (some ⟨g2,0,none⟩)->ev t=.agg #[(),(),.string ⟨#[]⟩,.string ⟨#[]⟩]->(execOp ev o).run prog w6=.ok .skip w7 from fun ev o s t q q1 q2=>hw7▸stR ev o s t 103 q _ #[(),(),.string ⟨#[]⟩,.string ⟨#[]⟩] (ki _ _ _ _) (gh _ _ _ _) rfl g2 q1 q2 w6 hA6);have h7:=(aa HH5).frm (S:=fun _=>False) (aE.of_below hb7) (fun _ _ q=>q) (fun _ q=>q.elim);have hF7:=(aa HF5).then (aE.of_below (S:=fun _=>False) hb7) (fun _ _ q=>q.elim);have hA7:=ag (aa HA5) hb7;have hks:=hkk.small;have hnw:X1.nw=F.now:=h7.num.nw;have hwt:X1.wt=F.wait:=h7.num.wt;have hwl:=ho.wt;have hwq:=ho.wq;have hqq:=ho.q;have hlL:=ho.linLe;have hwn:=ho.wn
  have hWl:W.length=F.wks.length:=by rw[show F.wks=W.map (Option.map Wk.f) from h7.pu.wks,List.length_map]
  have JO:=join_any fb X1 F.ver sl pv F.LS (ri F.PI) F.waiting F.line W F.arrived l z x y w7 h7.blk h7.mem.sto h7.mem.wai h7.mem.lin h7.mem.wkv h7.wksAt hks.1 hks.2 (by omega) (by omega) (by omega) (by omega)
  have hrk:w7.rangeAt g1 0 #[.int .i64 l,.int .i64 z,.int .i64 x,.int .i64 y].toList:=ao hA7;have HH7:=ae h7;have HF7:=ae hF7;clear hb6 hA6 hb7 hw7 HW6 h7 hF7 hA7 HH5 HF5 HA5 hnw hwt hwl hwq hqq hlL hwn hWl hks
  go_wp2_with (first|refine cP _ _ (aa HAL _ _ rfl) rfl ?_|refine cU _ (aa HST _ _ _ _ rfl rfl rfl) rfl ?_|refine bU 39 #[l,z,x,y] underlying39 rfl (bj _ _ _ _) g1 0 hrk rfl _ rfl rfl ?_)
  refine JO.mono ?_;rintro e w8 ⟨rfl,⟨wv8,lv8,hf8,hw8,hl8,hwf,hlf⟩,hF8⟩
  have HQ:Hid (∃rv,Ending.returned (.tuple #[F.arrived,.slice none 0 0])=.returned (.tuple #[F.arrived,rv])/\dt w fb Ψ (arr F p tag).1 (arr F p tag).2 rv w8):=by
   refine⟨_,rfl,?_⟩;rw[aa HG];have h:=aa HH7;have hF7:=aa HF7;have hsz7:=hF7.size;have hfr:aE (fun k=>k=fb\/X1.wv.ownBlock=some k\/X1.lv.ownBlock=some k) w w8:=(hF7.mono (S':=fun k=>k=fb\/X1.wv.ownBlock=some k\/X1.lv.ownBlock=some k) fun k _ q=>Or.inl q).then hF8 (fun k _ q=>q)
   have hne1:∀{α:Type} {R:dR α} {T:TypeId} {v:Value} {q:List α},ah R T w7 v q->T≠129->T≠201->T≠39->ah R T w8 v q:=fun ho h1 h2 h3=>ho.frm hF8 (fun g hg q=>by
    rcases q with q|q|q
    ·exact au ho h.blk h1 g hg q
    ·obtain⟨c,hc⟩:=h.mem.wai.ty q
     exact au ho hc h2 g hg rfl
    obtain⟨c,hc⟩:=h.mem.lin.ty q;exact au ho hc h3 g hg rfl)
   have hbne:∀{c:Array Value} {T:TypeId} {f:Nat × Nat} {g:Nat},w7.heap[g]?=some (.cells c T f)->T≠129->T≠201->T≠39->¬(g=fb\/X1.wv.ownBlock=some g\/X1.lv.ownBlock=some g):=fun hb h1 h2 h3 q=>by
    rcases q with q|q|q
    ·exact aI hb h.blk h1 q
    ·obtain⟨c,hc⟩:=h.mem.wai.ty q
     exact aI hb hc h2 rfl
    obtain⟨c,hc⟩:=h.mem.lin.ty q;exact aI hb hc h3 rfl
   have hs8:=h.mem.sto.frm hF8 (hbne h.mem.sto.blk (by decide) (by decide) (by decide)) (fun g hg=>by obtain⟨c,hc⟩:=h.mem.sto.own.ty hg; exact hbne hc (by decide) (by decide) (by decide)) (fun g hg=>by obtain⟨c,hc⟩:=h.mem.sto.pins.ty hg; exact hbne hc (by decide) (by decide) (by decide))
   have hsub:∀k,aw fb { X1 with wv:=wv8,lv:=lv8 } sl pv W k->aw fb X1 sl pv W k\/w.heap.size<=k:=fun k hk=>hk.elim (Or.inl aw.iF) (Or.inl aw.iS) (fun _ q=>Or.inl (aw.iL q)) (fun _ q=>Or.inl (aw.iP q)) (fun k q=>(hwf k q).imp (fun q=>aw.iW q) (fun q=>by omega)) (fun k q=>(hlf k q).imp (fun q=>aw.iN q) (fun q=>by omega)) (fun _ q=>Or.inl (aw.iK q)) (fun _ q=>Or.inl (aw.iT q)) (fun _ _ hu=>⟨Or.inl (aw.iG hu),fun _ q=>Or.inl (aw.iR hu q)⟩)
   have hS4:∀k,(k=fb\/X1.wv.ownBlock=some k\/X1.lv.ownBlock=some k)->aw fb X1 sl pv W k:=fun k q=>by
    rcases q with rfl|q|q
    ·exact aw.iF
    ·exact aw.iW q
    exact aw.iN q
   refine⟨aU,fun g hg=>by simp[Value.ownBlock] at hg,⟨{ X1 with wv:=wv8,lv:=lv8 },sl,pv,W,⟨hf8,⟨h.num.q,h.num.wt,h.num.ch,h.num.nw,h.num.ar,h.num.st,h.num.rm⟩,⟨h.pu.wks,h.pu.rd,h.pu.dis⟩,h.ver,⟨hs8,?_,?_,hne1 h.mem.til (by decide) (by decide) (by decide),hne1 h.mem.wkv (by decide) (by decide) (by decide),fun i u hu=>?_⟩,?_,fun k hk=>(hsub k hk).elim (h.lo k) (fun q=>by omega)⟩,fun k hk=>(hsub k hk).imp (fun q=>hΨ k (aa HS1 k q)) id⟩,hfr.mono fun k _ q=>hΨ k (aa HS1 k (hS4 k q))⟩
   ·have e:X1.nw+X1.wt=(F.now:Int)+F.wait:=by rw[show X1.nw=F.now from h.num.nw,show X1.wt=F.wait from h.num.wt]
    rw[e] at hw8;exact hw8
   ·have e:l6 F.line W (⟨l,z,x-x%2,y-y%2⟩:K4)=(FM.join { F with arrived:=F.arrived+1 } F.arrived ⟨l,z,x,y⟩).line:=by
     unfold l6 FM.join FM.hasFl;rw[hasW_eq h.pu.wks];rfl
    rw[<-e];exact hl8
   ·obtain⟨a,b⟩:=h.mem.wat i u hu
    exact⟨aQ a hF8 (hbne a (by decide) (by decide) (by decide)),hne1 b (by decide) (by decide) (by decide)⟩
   exact h.glb.frm hF8 fun k q=>h.lo k (hS4 k q)
  clear hf8 hw8 hl8 hwf hlf hF8 HH7 HF7 HG JO hrk
  go_wp2_with fail
  go_ret2
  exact aa HQ
 have hen:(er==0)=false:=by simpa using her
 have RF:=refusal_any er w4
 have hG:arr F p tag=F.arriveE er:=by unfold arr; rw[hprs]; exact if_neg her
 have HG:=ae hG;clear hG hprs
 obtain⟨st,hst⟩:∃st:Int,(if er=1 then 400 else 404)=st:=⟨_,rfl⟩
 rw[hst] at RF;have HS:=ae hst;clear hst;have hbN:=(Below.refl w4.heap.size w4).alloc aD (.cells #[F.arrived,st,.string ⟨#[]⟩,.string ⟨#[]⟩] 103)
 have hown:ah bE 103 (w4.alloc (.cells #[F.arrived,st,.string ⟨#[]⟩,.string ⟨#[]⟩] 103)) (.slice (some ⟨w4.heap.size,0,none⟩) 1 1) [⟨F.arrived,st,⟨#[]⟩,⟨#[]⟩⟩]:=cr (R:=bE) (T:=103) w4 [⟨F.arrived,st,⟨#[]⟩,⟨#[]⟩⟩] #[F.arrived,st,.string ⟨#[]⟩,.string ⟨#[]⟩] rfl (show 1<=maxLen by decide)
 have HQ:Hid (∃rv,Ending.returned (.tuple #[F.arrived,.slice (some ⟨w4.heap.size,0,none⟩) 1 1])=.returned (.tuple #[F.arrived,rv])/\dt w fb Ψ (arr F p tag).1 (arr F p tag).2 rv (w4.alloc (.cells #[F.arrived,st,.string ⟨#[]⟩,.string ⟨#[]⟩] 103))):=by
  refine⟨_,rfl,?_⟩;rw[aa HG]
  have e:(F.arriveE er).2=[⟨F.arrived,st,⟨#[]⟩,⟨#[]⟩⟩]:=by unfold FM.arriveE; rw[aa HS]
  rw[e];have h4:=aa HH4
  exact⟨hown,fun g hg=>by have:=(aa HF4).size; simp only[Value.ownBlock,Option.some.injEq] at hg; omega,⟨X1,sl,pv,W,h4.frm (S:=fun _=>False) (aE.of_below hbN) (fun _ _ q=>q) (fun _ q=>q.elim),fun k hk=>Or.inl (hΨ k (aa HS1 k hk))⟩,((aa HF4).then (aE.of_below (S:=fun _=>False) hbN) (fun _ _ q=>q.elim)).mono fun k _ q=>q▸hfbΨ⟩
 clear hbN hown HH4 HF4 HA4 HG
 go_wp2_with (first|refine cP _ _ (aa HAL _ _ rfl) rfl ?_|refine cU _ (aa HST _ _ _ _ rfl rfl rfl) rfl ?_)
 refine RF.mono ?_;rintro e w5 ⟨rfl,rfl⟩;clear RF
 go_wp2_with (first|refine cP _ _ (bt35 F.arrived st _ _ _ _ rfl rfl rfl _) rfl ?_|refine cP _ _ (gz F.arrived st ⟨#[]⟩ ⟨#[]⟩ _ _ _ rfl rfl _) rfl ?_)
 go_ret2
 exact aa HQ
variable {F:FM}
theorem Ok.pins (h:Ok Oz F):F.PI.length<=4:=by
 have:=h.pin.length_eq;have:=fls_len F;have:=h.wn;simp only[List.length_map] at *;omega
theorem Ok.held (h:Ok Oz F){f:Fl}(hf:f∈F.fls):(f.reads:Int)∈F.PI:=h.pin.mem_iff.2 (List.mem_map.2 ⟨f,hf,rfl⟩)
theorem heldP {ver:Nat}{PI:List Int}{v:Nat}(hv:v<=ver)(h:(v:Int)∈PI):bS 0 ver (ri PI) v=true:=by
 unfold bS;rw[hasP_ri];simp[h,hv]
theorem Work_any (fb:Nat)(Ψ:Nat->Prop)(F:FM)(a:Int)(w:World)(h:eR w fb Ψ F)(ho:Ok Oz F)(hst:F.started<=1000000000):
  Calls prog 42 #[.pointer (some ⟨fb,0,none⟩),a] w fun e w'=>∃rv,e=.returned rv/\dt w fb Ψ (kV F a).1 (kV F a).2 rv w':=by
 have hE:=h;obtain⟨X,sl,pv,W,h,hΨ⟩:=h;have hf:=h.blk;have hwl:=h.wlen;have hwn:=ho.wn
 by_cases ha:a<0
 ·have HQ:Hid (∃rv,Ending.returned (.slice none 0 0)=.returned rv/\dt w fb Ψ (kV F a).1 (kV F a).2 rv w):=by
   have e:kV F a=(F,[]):=by unfold kV; rw[if_pos ha]
   rw[e];exact⟨_,rfl,dt.same hE⟩
  clear h hE hf hΨ ho;go_enter func42,ntmps42
  go_wp2_with fail
  go_ret;exact aa HQ
 obtain⟨i,rfl⟩:∃i:Nat,a=i:=⟨a.toNat,by omega⟩
 obtain⟨oa,cap,ekv,_,_,_⟩:=h.mem.wkv.at;rw[List.length_map] at ekv
 have c9:w.cell? ⟨fb,9,none⟩=some (.slice oa W.length cap):=by rw[<-ekv]; exact hf.cells.2.2.2.2.2.2.2.2.2.1
 have hwrk:kV F (i:Int)=F.work Oz i:=by unfold kV; rw[if_neg ha]; simp
 by_cases hlt:i<W.length
 ·have hil:(i:Int)<(W.length:Int):=by omega
  cases hWi:W[i]? with
  | none=>exact absurd (List.getElem?_eq_none_iff.1 hWi) (by omega)
  | some o=>
  have hLi:(W.map (Option.map Wk.g))[i]?=some (o.map Wk.g):=by rw[List.getElem?_map,hWi]; rfl
  obtain⟨b,off,cap',hC⟩:=h.mem.wkv.wkC hLi;have hC1:=hC.kv;rw[List.length_map,ekv] at hC1;simp only[Value.slice.injEq,true_and] at hC1;obtain⟨rfl,rfl⟩:=hC1
  cases o with
  | none=>
   have cI:w.cell? ⟨b,off+i,none⟩=some (.pointer none):=hC.c;have hwi:=h.wat? hWi
   cases hln:F.line with
   | nil=>
    have TN:=take_none fb X w hf (hln▸h.mem.lin)
    obtain⟨k1,k2,k3⟩:=h.mem.wkv.kvset (by rw[List.length_map]; exact hlt) hC none
    obtain⟨w1,hw1⟩:∃w1,w.setCell ⟨b,off+i,none⟩ (.pointer none)=w1:=⟨_,rfl⟩;have e1:w.setCell ⟨b,off+i,none⟩ (ptr none)=w1:=hw1;rw[e1] at k1 k2;have h1:=h.idle hWi k1 k2 k3
    have HQ:Hid (∃rv,Ending.returned (.slice none 0 0)=.returned rv/\dt w fb Ψ (kV F (i:Int)).1 (kV F (i:Int)).2 rv w1):=by
     have e:F.work Oz i=(F,[]):=by unfold FM.work; simp only[hwi,Option.map_none]; unfold FM.takeW; rw[hln]
     rw[hwrk,e]
     exact⟨_,rfl,⟨aU,fun g hg=>by simp[Value.ownBlock] at hg,⟨X,sl,pv,W,h1,fun k hk=>Or.inl (hΨ k hk)⟩,k2.mono fun k _ q=>hΨ k (aw.iK q)⟩⟩
    have fzI:=hC.fz;have HW1:=ae hw1;clear h hE hf hΨ ho k1 k2 k3 h1 hw1 e1 hC hLi hWi hwi hwrk;go_enter func42,ntmps42
    go_wp2_with fail
    refine TN.mono ?_;rintro e w9 ⟨rfl,rfl⟩;clear TN
    go_wp2_with (refine cU w1 (stP1 _ _ _ _ rfl b (off+i) none rfl rfl w w1 cI fzI (aa HW1)) rfl ?_)
    go_ret;exact aa HQ
   | cons bb rest=>
    obtain⟨bl,bz,bx,by'⟩:=bb
    have h100:=ho.v100;have hpl:=ho.pins;have hls:=h.ver.len;have hch:=ho.ch
    have TS:=take_some fb X F.ver sl pv F.LS (F.FLs F.ver) F.PI F.chunk bl bz bx by' rest w hf h.num.ch hch h.mem.sto (by omega) (by omega) (by omega) (h.ver.rel F.ver aD).1 (by have:=h.num.st; omega) (hln▸h.mem.lin)
    have HH:=ae h;have HK:=ae (h.mem.wkv);have HC:=ae hC;clear h hE hf hC hls hpl hch;go_enter func42,ntmps42
    go_wp2_with fail
    refine TS.mono ?_;rintro e w1 ⟨rfl,hu,⟨lv',pv',hf1,hlv1,hlo,hs1,hpo⟩,hF1⟩;have h:=aa HH
    have hT:fQ (fun k=>k=fb\/k=X.sb\/pv.ownBlock=some k) w [129,119,3]:=fun k q=>by
     rcases q with rfl|rfl|q
     ·exact⟨_,_,h.blk,by simp⟩
     ·exact⟨_,_,h.mem.sto.blk,by simp⟩
     obtain⟨c,hc⟩:=h.mem.sto.pins.ty q
     exact⟨_,_,hc,by simp⟩
    have hk1:=h.mem.wkv.frmT hF1 hT (by decide)
    obtain⟨b1,off1,cap1,hC1⟩:=hk1.wkC hLi;have e9:=hC1.kv;rw[List.length_map,ekv] at e9;simp only[Value.slice.injEq,Option.some.injEq,Addr.mk.injEq,true_and,and_true] at e9;obtain⟨⟨rfl,rfl⟩,rfl⟩:=e9
    obtain⟨k1,k2,k3⟩:=hk1.kvset (by rw[List.length_map]; exact hlt) hC1 (some w.heap.size)
    obtain⟨w2,hw2⟩:∃w2,w1.setCell ⟨b,off+i,none⟩ (.pointer (some ⟨w.heap.size,0,none⟩))=w2:=⟨_,rfl⟩;have e1:w1.setCell ⟨b,off+i,none⟩ (ptr (some w.heap.size))=w2:=hw2;rw[e1] at k1 k2;obtain⟨n1,n2,n3⟩:=h.take hWi hln hu hf1 hlv1 hlo hs1 hpo hF1 k1 k2 k3
    have HQ:Hid (∃rv,Ending.returned (.slice none 0 0)=.returned rv/\dt w fb Ψ (kV F (i:Int)).1 (kV F (i:Int)).2 rv w2):=by
     have e:F.work Oz i=(F.takeW i,[]):=by unfold FM.work; simp only[hwi,Option.map_none]
     rw[hwrk,e]
     exact⟨_,rfl,⟨aU,fun g hg=>by simp[Value.ownBlock] at hg,⟨_,sl,pv',_,n1,fun k hk=>(n2 k hk).imp (hΨ k) id⟩,n3.mono fun k _ q=>hΨ k q⟩⟩
    have cI1:w1.cell? ⟨b,off+i,none⟩=some (.pointer none):=hC1.c;have fz1:=hC1.fz
    have c91:w1.cell? ⟨fb,9,none⟩=some (.slice (some ⟨b,off,none⟩) W.length cap):=by rw[<-ekv]; exact(aq.cells hf1).2.2.2.2.2.2.2.2.2.1
    have HW2:=ae hw2;clear h hΨ ho k1 k2 k3 n1 n2 n3 hw2 e1 hu hf1 hlv1 hlo hs1 hpo hF1 hT hk1 hC1 TS HH HK HC hLi hWi hwi hwrk
    go_wp2_with (refine cU w2 (stP1 _ _ _ _ rfl b (off+i) (some ⟨w.heap.size,0,none⟩) rfl rfl w1 w2 cI1 fz1 (aa HW2)) rfl ?_)
    go_ret;exact aa HQ
  | some u=>
   have cI:w.cell? ⟨b,off+i,none⟩=some (.pointer (some ⟨u.g,0,none⟩)):=hC.c;have hwi:=h.wat? hWi;have hfm:=wk_fls h.pu.wks hWi;obtain⟨f1,f2,k0,f3,f4⟩:=ho.flt u.f hfm;have h100:=ho.v100;have hpl:=ho.pins;have hls:=h.ver.len;have hch:=ho.ch;have hpos:=f2.pos;obtain⟨u1,u2⟩:=h.mem.wat i u hWi;obtain⟨r1,r2,r3⟩:=h.pu.rd i u hWi;have hle40:=f2.le (h.ver.rel u.f.reads f1).1.le40 hch.1
   have SP:=step_any fb X F.ver sl pv F.LS (ri F.PI) (F.FLs u.f.reads) u.R F.chunk u.g u.f.b.l u.f.b.z u.f.b.x u.f.b.y u.f.reads u.f.left u.rv w hf h.num.ch hch h.mem.sto (by omega) (by rw[fI]; omega) (by omega) (heldP f1 (ho.held hfm)) (h.ver.rel u.f.reads f1).1 u1 u2 r1 (by omega)
   have HH:=ae h;have HO:=ae ho;have HC:=ae hC;have HF2:=ae f2;have HU1:=ae u1;have HF4:=ae f4;have HF3:=ae f3;have HFM:=ae hfm;clear h hE hf hC ho u1 u2 r1 r2 r3 f2 f4 f3 hfm;go_enter func42,ntmps42
   go_wp2_with fail
   refine SP.mono ?_;rintro e w1 ⟨rfl,⟨R2,rv',hb1,hR1,hrd1,hl1,hn1⟩,hF1⟩;obtain⟨n1,n2,n3⟩:=(aa HH).step (aa HO) hWi hb1 hR1 hrd1 hl1 hn1 hF1
   have hFw1:aE Ψ w w1:=hF1.mono fun k _ q=>by
    rcases q with rfl|q
    ·exact hΨ _ (aw.iG hWi)
    exact hΨ _ (aw.iR hWi q)
   have c5:w1.cell? ⟨u.g,5,none⟩=some (.int .i64 ((u.f.left:Int)-1)):=(af hb1 5).trans rfl
   by_cases hlf:1<u.f.left
   ·have hlp:(0:Int)<(u.f.left:Int)-1:=by omega
    have HQ:Hid (∃rv,Ending.returned (.slice none 0 0)=.returned rv/\dt w fb Ψ (kV F (i:Int)).1 (kV F (i:Int)).2 rv w1):=by
     have e:F.work Oz i=({ F with wks:=F.wks.set i (some (u.f.step (F.FLs u.f.reads).length F.chunk)) },[]):=by unfold FM.work; simp only[hwi,Option.map_some]; rw[if_pos hlf]
     rw[hwrk,e]
     exact⟨_,rfl,⟨aU,fun g hg=>by simp[Value.ownBlock] at hg,⟨_,sl,pv,_,n1,fun k hk=>(n2 k hk).imp (hΨ k) id⟩,hFw1⟩⟩
    clear n1 n2 n3 hFw1 hb1 hR1 hrd1 hl1 hn1 hF1 SP HH HO HC HF2 HU1 HF4 HF3 HFM hWi hLi hwi hwrk hΨ hls
    go_wp2_with fail
    go_ret;exact aa HQ
   have hl1':u.f.left=1:=by omega
   have hlp:¬(0:Int)<(u.f.left:Int)-1:=by omega
   have hi2:i<(W.set i (some (u.next (F.FLs u.f.reads).length F.chunk rv' R2))).length:=by rw[List.length_set]; exact hlt
   have hk1:=n1.mem.wkv
   have hLi1:((W.set i (some (u.next (F.FLs u.f.reads).length F.chunk rv' R2))).map (Option.map Wk.g))[i]?=some (some u.g):=by
    rw[List.getElem?_map,List.getElem?_set,if_pos rfl,if_pos hlt]; rfl
   obtain⟨b1,off1,cap1,hC1⟩:=hk1.wkC hLi1;have e9:=hC1.kv;rw[List.length_map,List.length_set,ekv] at e9;simp only[Value.slice.injEq,Option.some.injEq,Addr.mk.injEq,true_and,and_true] at e9;obtain⟨⟨rfl,rfl⟩,rfl⟩:=e9
   obtain⟨k1,k2,k3⟩:=hk1.kvset (by rw[List.length_map]; exact hi2) hC1 none
   obtain⟨w2,hw2⟩:∃w2,w1.setCell ⟨b,off+i,none⟩ (.pointer none)=w2:=⟨_,rfl⟩;have e1:w1.setCell ⟨b,off+i,none⟩ (ptr none)=w2:=hw2;rw[e1] at k1 k2;obtain⟨m1,m2⟩:=n1.gone hi2 k1 k2 k3
   have hb2:=bJ hb1 k2 k3 (by decide)
   have hR2:=(ownR_nf hR1).frmT k2 k3 (by decide)
   have hw0:((W.set i (some (u.next (F.FLs u.f.reads).length F.chunk rv' R2))).set i none)[i]?=some none:=by
    rw[List.getElem?_set,if_pos rfl,if_pos hi2]
   have ho:=aa HO;have hroom:=ho.rm
   have hlen:((u.R++R2).map nf).length=(F.FLs u.f.reads).length:=by
    have q:((u.R++R2).map nf).length=min (u.f.got+F.chunk) (F.FLs u.f.reads).length:=n3
    rw[q]; exact(aa HF2).end_ hl1'
   have hver:=(aa HH).ver.rel u.f.reads f1
   have hkeys:∀k∈u.f.b.keys,dy k:=fun k hk=>by rw[aa HF4] at hk; exact((jR (aa HF3)).1 hk).1
   have hts:u.f.b.keys.map (bR ((u.R++R2).map nf) F.LS u.f.reads)=F.tilesOf Oz u.f:=by
    unfold FM.tilesOf
    apply List.map_congr_left
    intro k hk;show(⟨k,cg ((u.R++R2).map nf) k,du k (eA u.f.reads k F.LS)⟩:aL)=⟨k,cg (F.FLs u.f.reads) k,du k (eA u.f.reads k F.LS)⟩;rw[body_read hrd1.norm hver.2 (oT _) hlen hver.1.rt hver.1.dis (hkeys k hk)]
   have hsm:(0<=u.f.b.x/\u.f.b.x<=4194304)/\(0<=u.f.b.y/\u.f.b.y<=4194304):=by
    rw[aa HF4];obtain⟨s1,s2⟩:=(aa HF3).small;show(0<=k0.x-k0.x%2/\k0.x-k0.x%2<=4194304)/\(0<=k0.y-k0.y%2/\k0.y-k0.y%2<=4194304);omega
   have hlw:=ho.wq;have hqq:=ho.q;have hlL:=ho.linLe;have hbt:=ho.byt;have hrt:=hrd1.norm.rt hver.1.rt
   have hlt7:7*F.tiles.length<=aA F.tiles:=f5 F.tiles fun t ht=>by
    obtain⟨a,b⟩:=ho.til t ht
    rw[b]; exact(ho.hi.bod F.ver aD t.k a).1
   have FI:=finish_any fb X F.room F.ver sl pv F.LS ((u.R++R2).map nf) F.PI F.waiting F.line F.tiles u.g u.f.b.l u.f.b.z u.f.b.x u.f.b.y u.f.reads ((u.f.left:Int)-1) rv' w2 m1.blk m1.num.rm (by omega) m1.mem.sto (by omega) hkeys hsm.1 hsm.2 (by omega) (by omega) m1.glb (by omega) (ho.held (aa HFM)) hb2 hR2 (by rw[hlen]; exact hver.1.le40) hrt m1.mem.wai (fun r hr=>(ho.req r hr).2.2.2.1) m1.mem.lin m1.mem.til (by omega) (by omega) (by omega) (by omega)
   have cI1:w1.cell? ⟨b,off+i,none⟩=some (.pointer (some ⟨u.g,0,none⟩)):=hC1.c;have fz1:=hC1.fz
   have c91:w1.cell? ⟨fb,9,none⟩=some (.slice (some ⟨b,off,none⟩) W.length cap):=by rw[<-ekv]; exact(aq.cells n1.blk).2.2.2.2.2.2.2.2.2.1
   have hFw2:aE Ψ w w2:=hFw1.then k2 fun k _ q=>hΨ k (aw.iK q)
   have HQ:Hid (∀rv w3,FinR fb u.g X F.room F.ver sl F.LS ((u.R++R2).map nf) F.PI F.waiting F.line F.tiles u.f.b u.f.reads w2 rv w3->dt w fb Ψ (kV F (i:Int)).1 (kV F (i:Int)).2 rv w3):=by
    intro rv w3 hr;have P:=gF.finish (fl:=u.f) m1 hw0 rfl hts hr
    have e:F.work Oz i=F.finishW Oz i u.f:=by unfold FM.work; simp only[hwi,Option.map_some]; rw[if_neg hlf]
    have e2:(({ F with wks:=(F.wks.set i (some (u.f.step (F.FLs u.f.reads).length F.chunk))).set i none }:FM)).finishW Oz i u.f=F.finishW Oz i u.f:=by
     unfold FM.finishW;simp only[List.set_set];rfl
    have P':dt w2 fb (fun k=>aw fb X sl pv ((W.set i (some (u.next (F.FLs u.f.reads).length F.chunk rv' R2))).set i none) k) (F.finishW Oz i u.f).1 (F.finishW Oz i u.f).2 rv w3:=by rw[<-e2]; exact P
    rw[hwrk,e];exact P'.trans hFw2 fun k q=>(n2 k (m2 k q)).imp (hΨ k) id
   have HW2:=ae hw2;clear n1 n2 n3 hFw1 hb1 hR1 hrd1 hl1 hn1 hF1 SP HH HO HC HF2 HU1 HF4 HF3 HFM hWi hLi hwi hwrk hΨ hls k1 k2 k3 m1 m2 hb2 hR2 hw0 ho hver hkeys hts hsm hrt hFw2 hk1 hC1 hLi1 hlen hw2 e1
   go_wp2_with (refine cU w2 (stP1 _ _ _ _ rfl b (off+i) none rfl rfl w1 w2 cI1 fz1 (aa HW2)) rfl ?_)
   refine FI.mono ?_;rintro e w3 ⟨rv,rfl,hr⟩;obtain⟨ra,rn,rc,rfl⟩:=hr.reps.sl;have HP:=ae (aa HQ _ w3 hr);clear hr FI HQ
   go_wp2_with fail
   go_ret;exact⟨_,rfl,aa HP⟩
 have HQ:Hid (∃rv,Ending.returned (.slice none 0 0)=.returned rv/\dt w fb Ψ (kV F (i:Int)).1 (kV F (i:Int)).2 rv w):=by
  have e:F.work Oz i=(F,[]):=by
   unfold FM.work
   have:F.wks[i]?=none:=List.getElem?_eq_none_iff.2 (by omega)
   simp only[this]
  rw[hwrk,e];exact⟨_,rfl,dt.same hE⟩
 have hge:¬(i:Int)<(W.length:Int):=by omega
 clear h hE hf hΨ ho hwrk;go_enter func42,ntmps42
 go_wp2_with fail
 go_ret;exact aa HQ
end Go.Proofs.YtpabpniaekldeaaGreatDoor
namespace Go.Proofs.YtpabpniaekldeaaGreatDoor.Pk
open Go.Proofs.Tryz
open Go.RowKit
set_option maxRecDepth 20000
theorem gU (s:ByteArray)(w:World)(hs:s.size<=maxLen):
  Calls prog 184 #[s] w fun e w'=>e=.returned (.bool (Pt.okPic s.data.toList))/\w=w':=by
 unfold maxLen at hs;go_enter func184,ntmps184
 go_wp2
 go_loop [3] (fun i=>∃k:Nat,k<=s.size/\i=.int .i64 k/\Hid (within 0 15 (s.data.toList.take k)=true)) (fun i=>s.size-(intOf i).toNat)
 case atStart=>exact⟨0,Nat.zero_le _,rfl,ae rfl⟩
 case round=>
  obtain⟨k,hk,rfl,hall⟩:=hrel
  by_cases hlt:k<s.size
  ·by_cases h2:15<(s[k].toNat:Int)
   ·go_wp2
    go_ret;refine⟨ai ?_,rfl⟩
    have hf:=cC 0 15 s k hlt (by omega)
    by_cases h64:s.size=64
    ·rw[<-i7 _ (by simpa using h64)]; exact hf.symm
    exact(notpic s h64).symm
   go_wp2
   go_round
   case rel=>exact⟨k+1,by omega,by go_num,ae (eG 0 15 s k hlt (aa hall) (by omega))⟩
   case measure=>simp[intOf]; omega
  by_cases h64:s.size=64
  ·have hb:((s.size:Int)==64)=true:=by simp; omega
   have H64:=ae h64;clear h64
   go_wp2
   go_ret;refine⟨ai ?_,rfl⟩;have:=aa hall
   rw[List.take_of_length_le (by simp; omega)] at this
   rw[<-i7 _ (by simpa using aa H64),this]
  have hb:((s.size:Int)==64)=false:=by simp; omega
  go_wp2
  go_ret;exact⟨ai (notpic s h64).symm,rfl⟩
def back (l:List UInt8):Nat->Nat
 | 0=>0
 | k+1=>if l[k+1]?=l[k]? then back l k+1 else 0
theorem pG (l:List UInt8):∀k,back l k<=k
 | 0=>Nat.le_refl _
 | k+1=>by have:=pG l k; unfold back; split<;>omega
theorem mg (s:ByteArray)(k:Nat)(h:k<s.size):s.data.toList[k]?=some s[k]:=by
 rw[List.getElem?_eq_getElem (by simpa using h)]; rfl
def jE (s:ByteArray)(i f:Nat):Prop:=s.data.toList[f]?=s.data.toList[i]?/\back s.data.toList i=(i-f)+back s.data.toList f
theorem pH (s:ByteArray)(i:Nat):jE s i i:=⟨rfl,by omega⟩
theorem backSo_step (s:ByteArray)(i g:Nat)(hg:g+1<=i)(hi:i<s.size)(he:s[g]=s[i])(h:jE s i (g+1)):jE s i g:=by
 obtain⟨h1,h2⟩:=h
 have h3:s.data.toList[g]?=s.data.toList[i]?:=by rw[mg s g (by omega),mg s i hi,he]
 refine⟨h3,?_⟩;rw[h2,back,if_pos (h1.trans h3.symm)];omega
theorem backSo_end0 (s:ByteArray)(i:Nat)(h:jE s i 0):back s.data.toList i=i:=by
 rw[h.2]; simp[back]
theorem backSo_end (s:ByteArray)(i g:Nat)(hg:g+1<=i)(hi:i<s.size)(he:¬s[g]=s[i])(h:jE s i (g+1)):back s.data.toList i=i-(g+1):=by
 obtain⟨h1,h2⟩:=h
 have h3:¬s.data.toList[g+1]?=s.data.toList[g]?:=by
  rw[h1,mg s g (by omega),mg s i hi]
  intro h4;exact he (Option.some.inj h4).symm
 rw[h2,back,if_neg h3];omega
theorem back_out (s:ByteArray)(i f:Nat)(hf:f<=i)(hi:i<s.size)(hx:¬ ∃_:0<f,s[f-1]'(by omega)=s[i])(h:jE s i f):back s.data.toList i=i-f:=by
 by_cases h0:f=0
 ·subst h0; exact backSo_end0 s i h
 obtain⟨g,rfl⟩:∃g,f=g+1:=⟨f-1,by omega⟩
 refine backSo_end s i g hf hi ?_ h;intro he
 exact hx ⟨by omega,by simpa using he⟩
def i6 (s:ByteArray)(i:Nat)(c:UInt8)(n:Nat):Prop:=Pt.lead c 64 (s.data.toList.drop (i+1))=n+Pt.lead c (64-n) (s.data.toList.drop (i+1+n))
theorem fwdSo_start (s:ByteArray)(i:Nat)(c:UInt8):i6 s i c 0:=by unfold i6; simp
theorem fwdSo_more (s:ByteArray)(i:Nat)(c:UInt8)(n:Nat)(hn:n<64)(hk:i+1+n<s.size)(hc:s[i+1+n]=c)(h:i6 s i c n):i6 s i c (n+1):=by
 unfold i6 at h ⊢
 rw[h,dP s (i+1+n) hk,show 64-n=(64-(n+1))+1 from by omega]
 simp only[Pt.lead,hc,if_true]
 rw[show i+1+n+1=i+1+(n+1) from by omega]
 omega
theorem fwdSo_endS (s:ByteArray)(i:Nat)(c:UInt8)(n:Nat)(hn:n<64)(hk:¬i+1+n<s.size)(h:i6 s i c n):Pt.lead c 64 (s.data.toList.drop (i+1))=n:=by
 unfold i6 at h
 rw[List.drop_of_length_le (l:=s.data.toList) (i:=i+1+n) (by simp; omega),show 64-n=(63-n)+1 from by omega] at h
 simpa[Pt.lead] using h
theorem fwdSo_endC (s:ByteArray)(i:Nat)(c:UInt8)(n:Nat)(hn:n<64)(hk:i+1+n<s.size)(hc:¬s[i+1+n]=c)(h:i6 s i c n):Pt.lead c 64 (s.data.toList.drop (i+1))=n:=by
 unfold i6 at h
 rw[dP s (i+1+n) hk,show 64-n=(63-n)+1 from by omega] at h
 simpa[Pt.lead,hc] using h
theorem stretch_any (s:ByteArray)(i:Nat)(w:World)(hs:s.size<=64)(hi:i<s.size):
  Calls prog 185 #[s,i] w fun e w'=>e=.returned (.tuple #[.int .i64 ((i:Int)-(back s.data.toList i:Int)),.int .i64 ((i:Int)+1+(Pt.lead s[i] 64 (s.data.toList.drop (i+1)):Int))])/\∃q,w'=w.drewN q:=by
 obtain⟨c,hc⟩:∃c,c=s[i]:=⟨_,rfl⟩;rw[<-hc];have HC:=ae hc;clear hc
 have hi':(i:Int)<(s.size:Int):=by omega
 go_enter func185,ntmps185
 go_wp2
 go_loopw [6] (fun v wr=>∃f:Nat,f<=i/\v=.int .i64 f/\Hid (jE s i f)/\∃q,wr=w.drewN q) (fun v _=>(intOf v).toNat)
 case atStart=>exact⟨i,Nat.le_refl _,rfl,pH s i,0,rfl⟩
 case round=>
  obtain⟨f,hf,rfl,hB,q,rfl⟩:=hrel
  by_cases hx:∃h:0<f,s[f-1]'(by omega)=s[i]
  ·obtain⟨hf0,he⟩:=hx
   obtain⟨g,rfl⟩:∃g,f=g+1:=⟨f-1,by omega⟩
   simp only[Nat.add_sub_cancel] at he
   have hgs:g<s.size:=by omega
   have hp:(0:Int)<((g+1:Nat):Int):=by omega
   have hb:((s[g].toNat:Int)==(s[i].toNat:Int))=true:=by rw[he]; simp
   have hB':=ae (backSo_step s i g hf hi he (aa hB));clear he hB
   go_wp2_with fail
   go_quiet (fail)
   go_wp2
   go_roundw
   case rel=>exact⟨g,by omega,by go_num,hB',_,rfl⟩
   case measure=>simp[intOf]
  have hE:=ae (back_out s i f hf hi hx (aa hB));have hbl:=pG s.data.toList i;clear hB
  by_cases hf0:0<f
  focus
   obtain⟨g,rfl⟩:∃g,f=g+1:=⟨f-1,by omega⟩
   have hgs:g<s.size:=by omega
   have hne:¬s[g]=s[i]:=fun h=>hx ⟨hf0,by simpa using h⟩
   have hp:(0:Int)<((g+1:Nat):Int):=by omega
   have hb:((s[g].toNat:Int)==(s[i].toNat:Int))=false:=by
    rw[beq_eq_false_iff_ne];intro h
    exact hne (UInt8.toNat_inj.1 (by omega))
   clear hne hx
   go_wp2_with fail
   go_quiet (fail)
   clear hb hp
  rotate_left
  focus
   have hd:decide ((0:Int)<(f:Int))=false:=by simp; omega
   clear hx
   go_wp2_with fail
   go_quiet (fail)
   clear hd
  all_goals
   go_wp2
   go_loopw [7] (fun v wr=>∃n:Nat,i+1+n<=s.size/\v=.int .i64 ((i:Int)+1+(n:Int))/\Hid (i6 s i c n)/\∃q,wr=w.drewN q) (fun v _=>s.size-(intOf v).toNat)
   case atStart=>exact⟨0,by omega,by simp,fwdSo_start s i c,(by first|exact⟨_,rfl⟩|exact dd _ _ _)⟩
   case round=>
    obtain⟨n,hn,rfl,hF,q,rfl⟩:=hrel
    by_cases hk:i+1+n<s.size
    ·have hk':(i:Int)+1+(n:Int)<(s.size:Int):=by omega
     have p1:(0:Int)<=(i:Int)+1+(n:Int):=by omega
     have e1:((i:Int)+1+(n:Int)).toNat=i+1+n:=by omega
     by_cases he:s[i+1+n]=s[i]
     ·have hb:((s[i+1+n].toNat:Int)==(s[i].toNat:Int))=true:=by rw[he]; simp
      have hF':=ae (fwdSo_more s i c n (by omega) hk (he.trans (aa HC).symm) (aa hF))
      clear he hF
      go_wp2_with fail
      go_quiet (fail)
      go_wp2
      go_roundw
      case rel=>exact⟨n+1,by omega,by go_num,hF',_,rfl⟩
      case measure=>simp[intOf]; omega
     have hb:((s[i+1+n].toNat:Int)==(s[i].toNat:Int))=false:=by
      rw[beq_eq_false_iff_ne];intro h
      exact he (UInt8.toNat_inj.1 (by omega))
     have hF':=ae (fwdSo_endC s i c n (by omega) hk (by rw[aa HC]; exact he) (aa hF))
     clear he hF
     go_wp2_with fail
     go_quiet (fail)
     go_wp2
     go_ret2
     exact⟨oD (by have:=aa hE; omega) (by rw[aa hF']),(by first|exact⟨_,rfl⟩|exact dd _ _ _)⟩
    have hd:decide ((i:Int)+1+(n:Int)<(s.size:Int))=false:=by simp; omega
    have hF':=ae (fwdSo_endS s i c n (by omega) hk (aa hF))
    clear hF
    go_wp2_with fail
    go_quiet (fail)
    go_wp2
    go_ret2
    exact⟨oD (by have:=aa hE; omega) (by rw[aa hF']),(by first|exact⟨_,rfl⟩|exact dd _ _ _)⟩
theorem lead_min (c:UInt8):∀(n m:Nat) (r:List UInt8),m<=n->Pt.lead c m r=min m (Pt.lead c n r)
 | _,0,_,_=>by simp[Pt.lead]
 | 0,m+1,_,h=>by omega
 | n+1,m+1,[],_=>by simp[Pt.lead]
 | n+1,m+1,x::r,h=>by
  have:=lead_min c n m r (by omega)
  unfold Pt.lead
  split<;>omega
def rest (l:List UInt8):Nat->List UInt8
 | 0=>Pt.runs l
 | k+1=>Pt.runs ((l.drop (k+1)).drop (Pt.lead (l.getD k 0) (15-back l k%16) (l.drop (k+1))))
theorem kt (l:List UInt8)(k:Nat)(h:k<l.length):l.drop k=l.getD k 0::l.drop (k+1):=by
 rw[List.drop_eq_getElem_cons h]; simp[h]
theorem back_eq (l:List UInt8)(j:Nat)(h:j+1<l.length):back l (j+1)=if l.getD (j+1) 0=l.getD j 0 then back l j+1 else 0:=by
 have e:(l[j+1]?=l[j]?)=(l.getD (j+1) 0=l.getD j 0):=by
  rw[List.getElem?_eq_getElem h,List.getElem?_eq_getElem (show j<l.length by omega)]
  simp[h,show j<l.length by omega]
 simp only[back,e]
theorem rest_start (l:List UInt8)(k:Nat)(h:k<l.length)(hb:back l k%16=0):rest l k=Pt.runs (l.drop k):=by
 cases k with
 | zero=>rfl
 | succ j=>
  rw[back_eq l j h] at hb
  have:Pt.lead (l.getD j 0) (15-back l j%16) (l.drop (j+1))=0:=by
   rw[kt l (j+1) h]
   by_cases hx:l.getD (j+1) 0=l.getD j 0
   ·rw[if_pos hx] at hb
    rw[show 15-back l j%16=0 from by omega]
    rfl
   cases 15-back l j%16 with
   | zero=>rfl
   | succ n=>rw[Pt.lead,if_neg hx]
  rw[rest,this,List.drop_zero]
theorem rest_emit (l:List UInt8)(k:Nat)(h:k<l.length)(hb:back l k%16=0):
  rest l k=Pt.runByte (Pt.lead (l.getD k 0) 15 (l.drop (k+1))) (l.getD k 0)::rest l (k+1):=by
 rw[rest_start l k h hb,kt l k h,Pt.runs_cons,rest,hb]
theorem rest_skip (l:List UInt8)(k:Nat)(h:k<l.length)(hb:¬back l k%16=0):rest l k=rest l (k+1):=by
 cases k with
 | zero=>simp[back] at hb
 | succ j=>
  have hbe:=back_eq l j h
  by_cases hx:l.getD (j+1) 0=l.getD j 0
  ·rw[if_pos hx] at hbe
   rw[hbe] at hb;simp only[rest]
   rw[kt l (j+1) h,<-hx,show 15-back l j%16=(15-back l (j+1)%16)+1 from by omega]
   simp only[Pt.lead,if_true,List.drop_succ_cons]
  rw[if_neg hx] at hbe;rw[hbe] at hb;simp at hb
theorem rest_end (l:List UInt8)(k:Nat)(h:¬k<l.length):rest l k=[]:=by
 cases k with
 | zero=>
  have:l=[]:=List.length_eq_zero_iff.1 (by omega)
  subst this; rfl
 | succ j=>rw[rest,List.drop_of_length_le (show l.length<=j+1 by omega)]; simp[Pt.runs]
def iZ (s:ByteArray)(k:Nat)(l:List UInt8):Prop:=l++rest s.data.toList k=84::Pt.runs s.data.toList
theorem refSo_start (s:ByteArray):iZ s 0 [84]:=rfl
theorem getD_at (s:ByteArray)(k:Nat)(h:k<s.size):s.data.toList.getD k 0=s[k]:=by
 rw[List.getD_eq_getElem?_getD,mg s k h]; rfl
theorem refSo_emit (s:ByteArray)(k:Nat)(h:k<s.size)(l:List UInt8)(hb:back s.data.toList k%16=0)(hl:iZ s k l):
  iZ s (k+1) (l++[Pt.runByte (min 15 (Pt.lead s[k] 64 (s.data.toList.drop (k+1)))) s[k]]):=by
 unfold iZ at hl ⊢
 rw[rest_emit _ k (by simpa using h) hb,getD_at s k h,lead_min s[k] 64 15 _ (by omega)] at hl
 rw[List.append_assoc];exact hl
theorem refSo_skip (s:ByteArray)(k:Nat)(h:k<s.size)(l:List UInt8)(hb:¬back s.data.toList k%16=0)(hl:iZ s k l):iZ s (k+1) l:=by
 unfold iZ at hl ⊢
 rw[<-rest_skip _ k (by simpa using h) hb]
 exact hl
theorem refSo_end (s:ByteArray)(k:Nat)(h:¬k<s.size)(l:List UInt8)(hl:iZ s k l):l=84::Pt.runs s.data.toList:=by
 unfold iZ at hl
 rw[rest_end _ k (by simpa using h),List.append_nil] at hl
 exact hl
theorem refPack_no (s:ByteArray)(w:World)(hs:s.size<=maxLen)(h:Pt.okPic s.data.toList=false):
  Calls prog 153 #[s] w fun e w'=>e=.returned (.tuple #[.string ⟨#[]⟩,(5:Int)])/\w=w':=by
 go_enter func153,ntmps153
 go_wp2_with (go_at_call 184; refine(gU s _ hs).mono ?_; rintro e w' ⟨rfl,rfl⟩)
 go_ret2
 exact⟨rfl,rfl⟩
theorem refPack_yes (s:ByteArray)(w:World)(h:Pt.okPic s.data.toList=true):
  Calls prog 153 #[s] w fun e w'=>e=.returned (.tuple #[.string ⟨(Pt.body s.data.toList).toArray⟩,()])/\Below w.heap.size w w':=by
 obtain⟨h64,hink⟩:=(Pt.okPic_iff _).1 h
 have hs64:s.size=64:=by simpa using h64
 have hs:s.size<=maxLen:=by rw[hs64]; decide
 have hs':s.size<=64:=by omega
 have hs'':64<=s.size:=by omega
 have HI:=ae hink;have H64:=ae hs64;clear h64 hink hs64;go_enter func153,ntmps153
 go_wp2_with (go_at_call 184; refine(gU s _ hs).mono ?_; rintro e w' ⟨rfl,rfl⟩)
 go_loopw [5,6,7,8,9,10,11] (fun v a b i _ _ _ wr=>∃(k:Nat) (l:List UInt8),k<=64/\i=.int .i64 k/\a=.int .i64 (Pt.sum1 (s.data.toList.take k):Int)/\b=.int .i64 (Pt.sum2 64 (s.data.toList.take k))/\l.length<=k+1/\Hid (iZ s k l)/\de wr w.heap.size v l/\Below w.heap.size w wr) (fun _ _ _ i _ _ _ _=>64-(intOf i).toNat)
 case atStart=>exact⟨0,[84],by omega,rfl,rfl,rfl,by simp,refSo_start s,lS w _ aD 84 84 rfl,bu.alloc aD _⟩
 case round=>
  obtain⟨k,l,hk,rfl,rfl,rfl,hlen,hL,hown,hbel⟩:=hrel;have hsz:=hbel.size
  have hl:(s.data.toList.take k).length=k:=by simp; omega
  have b1:=Pt.sum1_le (s.data.toList.take k)
  have b2:=Pt.sum2_le (s.data.toList.take k) 64 (by omega) (by omega)
  rw[hl] at b1 b2;clear hl
  by_cases hlt:k<64
  ·have hks:k<s.size:=by omega
   have hc15:s[k].toNat<=15:=aa HI _ (Array.mem_toList_iff.2 (Array.getElem_mem _));have e1:=ae (nu s k hks);have e2:=ae (nt s k hks)
   have m1:0<=(64-(k:Int))*s[k].toNat:=Int.mul_nonneg (by omega) (by omega)
   have m2:(64-(k:Int))*s[k].toNat<=64*15:=Int.mul_le_mul (by omega) (by omega) (by omega) (by omega)
   have hcall:=fun wx=>stretch_any s k wx hs' hks;have hbk:=pG s.data.toList k;have hld:=Pt.lead_le s[k] 64 (s.data.toList.drop (k+1));have hem:=ae (refSo_emit s k hks l);have hsk:=ae (refSo_skip s k hks l);generalize back s.data.toList k=b at hcall hbk hem hsk;generalize Pt.lead s[k] 64 (s.data.toList.drop (k+1))=m at hcall hld hem;generalize Pt.sum1 (s.data.toList.take k)=S1 at b1 e1;generalize Pt.sum2 64 (s.data.toList.take k)=S2 at b2 e2
   have hm:k+1+m<=s.size:=by rw[List.length_drop] at hld; simp at hld; omega
   have hcall':=ae hcall;clear hcall hld
   by_cases hb:b%16=0
   ·have hR:=ae (aa hem hb (aa hL))
    clear hem hsk hL
    by_cases hm16:16<m+1
    ·rw[show min 15 m=15 from by omega] at hR
     go_wp2_with (first|(go_at_call 185; refine(aa hcall' _).mono ?_; rintro e w1 ⟨rfl,q,hq⟩; subst hq)|(at_builtin; refine bQ rfl (.tmp 37) (.tmp 47) rfl _ w.heap.size _ l (Pt.runByte 15 s[k]) _ rfl (hown.drewN _) rfl ?_ ?_ ?_ ?_))
     ·rw[gR 15 _ (by omega) hc15]; omega
     ·omega
     ·simpa using hsz
     intro v' w1 hown' hbel';have hbel2:Below w.heap.size w w1:=(ap hbel _).trans hbel';clear hown hbel hbel' hcall'
     go_wp2
     go_roundw
     case rel=>exact⟨k+1,_,by omega,by go_num,by rw[aa e1]; go_num,by rw[aa e2],by simp; omega,hR,hown',hbel2⟩
     case measure=>simp[intOf]; omega
    rw[show min 15 m=m from by omega] at hR
    go_wp2_with (first|(go_at_call 185; refine(aa hcall' _).mono ?_; rintro e w1 ⟨rfl,q,hq⟩; subst hq)|(at_builtin; refine bQ rfl (.tmp 37) (.tmp 47) rfl _ w.heap.size _ l (Pt.runByte m s[k]) _ rfl (hown.drewN _) rfl ?_ ?_ ?_ ?_))
    ·rw[gR m _ (by omega) hc15]; omega
    ·omega
    ·simpa using hsz
    intro v' w1 hown' hbel';have hbel2:Below w.heap.size w w1:=(ap hbel _).trans hbel';clear hown hbel hbel' hcall'
    go_wp2
    go_roundw
    case rel=>exact⟨k+1,_,by omega,by go_num,by rw[aa e1]; go_num,by rw[aa e2],by simp; omega,hR,hown',hbel2⟩
    case measure=>simp[intOf]; omega
   have hR:=ae (aa hsk hb (aa hL));clear hem hsk hL
   go_wp2_with (go_at_call 185; refine(aa hcall' _).mono ?_; rintro e w1 ⟨rfl,q,hq⟩; subst hq)
   go_roundw
   case rel=>exact⟨k+1,_,by omega,by go_num,by rw[aa e1]; go_num,by rw[aa e2],by omega,hR,hown.drewN _,ap hbel _⟩
   case measure=>simp[intOf]; omega
  have hE:=ae (refSo_end s k (by omega) l (aa hL))
  have ek:s.data.toList.take k=s.data.toList:=List.take_of_length_le (by simp; omega)
  rw[ek] at b1 b2;have c1:=ae (ch1_int s.data.toList);have c2:=ae (ch2_int s.data.toList);rw[ek];generalize Pt.sum1 s.data.toList=S1 at b1 c1;generalize Pt.sum2 64 s.data.toList=S2 at b2 c2;clear hL ek
  go_wp2_with (at_builtin; refine bQ rfl (.tmp 64) (.tmp 69) rfl _ w.heap.size _ l (Pt.ch1 s.data.toList) _ rfl hown rfl ?_ ?_ ?_ ?_)
  ·exact(aa c1).symm
  ·omega
  ·exact hsz
  intro v1 w1 hown1 hbel1;have hbelA:Below w.heap.size w w1:=hbel.trans hbel1;have hszA:=hbelA.size;clear hown hbel hbel1
  go_wp2_with (at_builtin; refine bQ rfl (.tmp 71) (.tmp 76) rfl _ w.heap.size _ (l++[Pt.ch1 s.data.toList]) (Pt.ch2 s.data.toList) _ rfl hown1 rfl ?_ ?_ ?_ ?_)
  ·exact(aa c2).symm
  ·simp; omega
  ·exact hszA
  intro v2 w2 hown2 hbel2;have hcv:=hown2.str 0;rw[World.drewN_zero] at hcv;have hbelB:Below w.heap.size w w2:=hbelA.trans hbel2;clear hown1 hbelA hbel2
  go_wp2
  go_ret2
  exact⟨fU (by rw[aa hE]; simp[Pt.body]),hbelB⟩
end Go.Proofs.YtpabpniaekldeaaGreatDoor.Pk
namespace Go.Proofs.YtpabpniaekldeaaGreatDoor
open Go.Proofs.Tryz
open Go.RowKit
set_option maxRecDepth 20000
theorem Tile_any (v:Value)(n:Nat)(fs:Nat->Nat->Int)(l z x y:Int)(w:World)(hv:kU w v n fs)(he:keyErr l z x y=0)(hn:n<=40)(hall:iE fs n=true):
  Calls prog 166 #[v,.agg #[l,z,x,y]] w fun e w'=>e=.returned (.string ⟨(kP fs n l z x y 64).toArray⟩)/\Below w.heap.size w w':=by
 have hg0:=heap_alloc_new w (.cells #[l,z,x,y] 39);have HV:=ae hv;have HE:=ae he;have HA:=ae hall;obtain⟨oa,cap,rfl,hm,hc⟩:=hv;clear hc he hall;go_enter func166,ntmps166
 go_wp2
 go_loopw [5,6,7] (fun v i _ wx=>∃p:Nat,p<=64/\i=.int .i64 p/\de wx (w.heap.size+1) v (kP fs n l z x y p)/\wx.heap[w.heap.size]?=some (.cells #[l,z,x,y] 39)/\Below w.heap.size w wx) (fun _ i _ _=>64-(intOf i).toNat)
 case atStart=>exact⟨0,by omega,rfl,ownB_nil _ _,hg0,aj _ _⟩
 case round=>
  obtain⟨p,hp,rfl,hown,hgp,hbp⟩:=hrel;have hcp:=af hgp;have HBp:=ae hbp;have HOW:=ae hown
  by_cases hlt:p<64
  ·have hlt':(p:Int)<64:=by omega
   have IK:=fun W h=>refInk_any (.slice oa n cap) n fs l z x y p W h (aa HE) hlt hn (j7 (aa HA));have hiv:=(aa HV).on hbp;have hby:=ae (l8 (aa HA) l z x y p);have hw8:IntKind.u8.wrap (ink fs n l z x y p)=ink fs n l z x y p:=nj (fun _=>ink fs n l z x y p) trivial rfl (j7 (aa HA));clear hown hbp
   go_wp2_with fail
   refine(IK _ hiv).mono ?_;rintro e w2 ⟨rfl,hb2⟩;have hg2:=ag hgp hb2;have hown2:=(aa HOW).on hb2;have HB2:=ae ((aa HBp).trans (hb2.mono (aa HBp).size));have hsz:=(Array.getElem?_eq_some_iff.1 hg2).1;have hbl:=ae (oL fs n l z x y p);clear hb2 hgp hcp IK hiv
   go_wp2_with (at_builtin; refine bQ rfl (.tmp 16) (.tmp 19) rfl _ (w.heap.size+1) _ (kP fs n l z x y p) (UInt8.ofNat (ink fs n l z x y p).toNat) _ rfl hown2 rfl ?_ ?_ ?_ ?_)
   ·exact aa hby
   ·have:=aa hbl; omega
   ·exact hsz
   intro v' w3 hown3 hb3
   have hg3:w3.heap[w.heap.size]?=some (.cells #[l,z,x,y] 39):=(hb3.block _ (by omega)).trans hg2
   have HB3:=ae ((aa HB2).trans (hb3.mono (by omega)))
   clear hb3 hown2 hg2
   go_wp2_with fail
   go_roundw
   case rel=>exact⟨p+1,by omega,by go_num,by rw[pic_succ]; exact hown3,hg3,aa HB3⟩
   case measure=>simp[intOf]; omega
  have hp64:p=64:=by omega
  subst hp64;have hcv:=hown.str 0;rw[World.drewN_zero] at hcv
  go_wp2_with fail
  go_ret;exact⟨rfl,aa HBp⟩
theorem fy (f:Nat->Int)(w:World):
  Calls prog 17 #[.agg (fc f),.agg (fc f)] w fun e w'=>e=.returned (.bool true)/\Below w.heap.size w w':=by
 have c0:=aN f 0 (by decide)
 have c1:=aN f 1 (by decide)
 have c2:=aN f 2 (by decide)
 have c3:=aN f 3 (by decide)
 have c4:=aN f 4 (by decide)
 have c5:=aN f 5 (by decide)
 have c6:=aN f 6 (by decide)
 have c7:=aN f 7 (by decide)
 go_enter func17,ntmps17
 go_wp2
 clear c0 c1 c2 c3 c4 c5 c6 c7
 go_loopw [5] (fun i wr=>∃k q:Nat,k<=8/\i=.int .i64 k/\wr=((w.alloc (.cells (fc f) 66)).alloc (.cells (fc f) 66)).drewN q) (fun i _=>8-(intOf i).toNat)
 case atStart=>exact⟨0,0,by omega,rfl,rfl⟩
 case round=>
  obtain⟨k,q,hk,rfl,rfl⟩:=hrel
  by_cases hlt:k<8
  ·have cx:=aN f (8+k) (by omega)
   have cy:=aN f (16+k) (by omega)
   have hk8:(k:Int)<8:=by omega
   have b1:(f (8+k) != f (8+k))=false:=by simp
   go_wp2
   go_quiet (fail)
   go_wp2
   go_roundw
   case rel=>exact⟨k+1,_,by omega,by go_num,rfl⟩
   case measure=>simp[intOf]; omega
  go_wp2
  go_ret;refine⟨rfl,?_⟩
  repeat first|exact Below.refl _ _|refine ap ?_ _|refine Below.drew ?_|refine aG ?_ aD _
structure Rq where
 k:K4
 asked:Int
 due:Int
 done:Bool
def Rq.a (r:Rq):Array Value:=#[r.k.l,r.k.z,r.k.x,r.k.y,r.asked,r.due,r.done]
def rRq:dR Rq:=⟨7,fun r=>r.a.toList,fun _=>rfl,fun k v hv=>by simp[Rq.a] at hv; rcases hv with rfl|rfl|rfl|rfl|rfl|rfl|rfl<;>rfl,by decide⟩
structure Jb where
 b:K4
 wk:Int
 pl:Int
 rd:Int
 lf:Int
def Jb.a (r:Jb):Array Value:=#[r.b.l,r.b.z,r.b.x,r.b.y,r.wk,r.pl,r.rd,r.lf]
def jP:dR Jb:=⟨8,fun r=>r.a.toList,fun _=>rfl,fun k v hv=>by simp[Jb.a] at hv; rcases hv with rfl|rfl|rfl|rfl|rfl|rfl|rfl|rfl<;>rfl,by decide⟩
structure En where
 k:K4
 body:ByteArray
 tag:ByteArray
 use:Int
def En.a (r:En):Array Value:=#[r.k.l,r.k.z,r.k.x,r.k.y,r.body,r.tag,r.use]
def iM:dR En:=⟨7,fun r=>r.a.toList,fun _=>rfl,fun k v hv=>by simp[En.a] at hv; rcases hv with rfl|rfl|rfl|rfl|rfl|rfl|rfl<;>rfl,by decide⟩
theorem bL.rq {W:World}{b off:Nat}{ws:List Rq}{k:Nat}{r:Rq}(h:∀i a,ws[i]?=some a->W.rangeAt b (off+i*rRq.wid) (rRq.enc a))(hk:ws[k]?=some r):W.rangeAt b (off+k*7) r.a.toList:=h k r hk
theorem bL.jb {W:World}{b off:Nat}{ws:List Jb}{k:Nat}{r:Jb}(h:∀i a,ws[i]?=some a->W.rangeAt b (off+i*jP.wid) (jP.enc a))(hk:ws[k]?=some r):W.rangeAt b (off+k*8) r.a.toList:=h k r hk
theorem bL.en {W:World}{b off:Nat}{ws:List En}{k:Nat}{r:En}(h:∀i a,ws[i]?=some a->W.rangeAt b (off+i*iM.wid) (iM.enc a))(hk:ws[k]?=some r):W.rangeAt b (off+k*7) r.a.toList:=h k r hk
theorem dV {W:World}{b o:Nat}{cs:List Value}{l z x y:Int}(h:W.rangeAt b o cs)(e:cs.take 4=[.int .i64 l,.int .i64 z,.int .i64 x,.int .i64 y]):W.rangeAt b o #[Value.int .i64 l,.int .i64 z,.int .i64 x,.int .i64 y].toList:=by
 intro j v hv;refine h j v ?_
 have hj:j<4:=by
  rcases Nat.lt_or_ge j 4 with q|q
  ·exact q
  rw[List.getElem?_eq_none (by simpa using q)] at hv; cases hv
 have:cs[j]?=(cs.take 4)[j]?:=(List.getElem?_take_of_lt hj).symm
 rw[this,e]; exact hv
theorem dR.all_set {α:Type}(R:dR α):∀(l:List α) (i:Nat) (a a':α) (j:Nat) (x:Value),l[i]?=some a->j<R.wid->R.enc a'=(R.enc a).set j x->R.all (l.set i a')=(R.all l).set (i*R.wid+j) x
 | [],i,a,_,_,_,h,_,_=>by simp at h
 | b::l,0,a,a',j,x,h,hj,he=>by
  simp only[List.getElem?_cons_zero,Option.some.injEq] at h;subst h
  rw[List.set_cons_zero,R.all_cons,R.all_cons,he,Nat.zero_mul,Nat.zero_add,List.set_append_left _ _ (by rw[R.len]; exact hj)]
 | b::l,i+1,a,a',j,x,h,hj,he=>by
  rw[List.set_cons_succ,R.all_cons,R.all_cons,dR.all_set R l i a a' j x (by simpa using h) hj he,List.set_append_right _ _ (by rw[R.len,Nat.succ_mul]; omega),R.len,show(i+1)*R.wid+j-R.wid=i*R.wid+j by rw[Nat.succ_mul]; omega]
section
variable {α:Type}{R:dR α}{T:TypeId}{w:World}{l:List α}
theorem ah.setF {g off n cap:Nat}(h:ah R T w (.slice (some ⟨g,off,none⟩) n cap) l){i:Nat}{a a':α}(hi:l[i]?=some a){j:Nat}{x:Value}(hj:j<R.wid)(he:R.enc a'=(R.enc a).set j x):
  ah R T (w.setCell ⟨g,off+i*R.wid+j,none⟩ x) (.slice (some ⟨g,off,none⟩) n cap) (l.set i a'):=by
 rcases h with⟨e,_⟩|⟨g',off',cap',cur,e,hh,h2,h3,h4,h5⟩
 ·cases e
 cases e
 have hblk:(w.setCell ⟨g,off+i*R.wid+j,none⟩ x).heap[g]?=some (.cells (cur.setIfInBounds (off+i*R.wid+j) x) T (0,0)):=by
  simp[World.setCell,Array.getElem?_modify,hh]
 refine Or.inr ⟨g,off,cap,cur.setIfInBounds (off+i*R.wid+j) x,by rw[List.length_set],hblk,by rw[List.length_set]; exact h2,h3,by rw[Array.size_setIfInBounds]; exact h4,?_⟩
 rw[List.length_set,R.all_set l i a a' j x hi hj he,<-h5,Array.toList_setIfInBounds,List.drop_set,if_neg (by omega),show off+i*R.wid+j-off=i*R.wid+j by omega,List.take_set]
theorem ah.cellF {g off n cap:Nat}(h:ah R T w (.slice (some ⟨g,off,none⟩) n cap) l){i:Nat}{a:α}(hi:l[i]?=some a){j:Nat}{u:Value}(hu:(R.enc a)[j]?=some u):w.cell? ⟨g,off+i*R.wid+j,none⟩=some u/\w.frozen? ⟨g,off+i*R.wid+j,none⟩=false:=by
 have h0:=h;obtain⟨c,hc⟩:=h.ty (g:=g) rfl;refine⟨?_,bi hc _⟩;have hi':i<l.length:=(List.getElem?_eq_some_iff.1 hi).1
 have hj:j<R.wid:=by rw[<-R.len a]; exact(List.getElem?_eq_some_iff.1 hu).1
 have hlt:i*R.wid+j<l.length*R.wid:=by
  have:(i+1)*R.wid<=l.length*R.wid:=Nat.mul_le_mul_right _ hi';rw[Nat.succ_mul] at this;omega
 rw[Nat.add_assoc,h0.cellAt _ hlt,R.all_at l i a j hi hj,hu]
theorem ah.blkAt {v:Value}(h:ah R T w v l)(hl:0<l.length):∃g off cap,v=.slice (some ⟨g,off,none⟩) l.length cap:=by
 rcases h with⟨_,rfl⟩|⟨g,off,cap,cur,e,_⟩
 ·simp at hl
 exact⟨g,off,cap,e⟩
end
structure RV where
 q:Int
 wk:Int
 wt:Int
 ca:Int
 ch:Int
 sb:Nat
 nw:Int
 ct:Int
 st:Int
 rv:Value
 jv:Value
 ev:Value
def RV.a (X:RV):Array Value:=#[X.q,X.wk,X.wt,X.ca,X.ch,.pointer (some ⟨X.sb,0,none⟩),X.nw,X.ct,X.st,X.rv,X.jv,X.ev]
abbrev aF (w:World)(fb:Nat)(X:RV):Prop:=w.heap[fb]?=some (.cells X.a 135)
theorem RV.set_ev (X:RV)(v:Value):X.a.setIfInBounds 11 v=({ X with ev:=v }:RV).a:=rfl
theorem RV.set_jv (X:RV)(v:Value):X.a.setIfInBounds 10 v=({ X with jv:=v }:RV).a:=rfl
theorem RV.set_rv (X:RV)(v:Value):X.a.setIfInBounds 9 v=({ X with rv:=v }:RV).a:=rfl
theorem RV.set_st (X:RV)(v:Int):X.a.setIfInBounds 8 (.int .i64 v)=({ X with st:=v }:RV).a:=rfl
theorem RV.set_ct (X:RV)(v:Int):X.a.setIfInBounds 7 (.int .i64 v)=({ X with ct:=v }:RV).a:=rfl
theorem RV.set_nw (X:RV)(v:Int):X.a.setIfInBounds 6 (.int .i64 v)=({ X with nw:=v }:RV).a:=rfl
theorem aF.c {w:World}{fb:Nat}{X:RV}(h:aF w fb X)(i:Nat){u:Value}(e:X.a[i]?=some u):w.cell? ⟨fb,i,none⟩=some u:=(af h i).trans e
theorem aF.set {w:World}{fb:Nat}{X:RV}(h:aF w fb X)(i:Nat)(v:Value){Y:RV}(e:X.a.setIfInBounds i v=Y.a):aF (w.setCell ⟨fb,i,none⟩ v) fb Y:=by
 show(w.setCell ⟨fb,i,none⟩ v).heap[fb]?=_;rw[<-e];have h':w.heap[fb]?=some (.cells X.a 135):=h;simp[World.setCell,Array.getElem?_modify,h']
theorem kr {w:World}{fb:Nat}{X:RV}(h:aF w fb X)(i:Nat):w.frozen? ⟨fb,i,none⟩=false:=bi h i
theorem inf158:(prog.info? 158).map (fun i=>(i.zero,i.size,i.bytes))=some (some (.agg #[(),(),(),(),(),(),false]),7,56):=by kernel_rfl
theorem apRq {w:World}{v x:Value}{l news:List Rq}(ho:ah rRq 158 w v l)(hx:bL rRq w x news)(hl:l.length+news.length<=100000000):
  ∃v' w',(Builtin.append_ #[131,131] 131 #[v,x]).run prog w=.ok v' w'/\ah rRq 158 w' v' (l++news)/\w.grownBy w' v.ownBlock/\(v'.ownBlock=v.ownBlock\/∀g,v'.ownBlock=some g->w.heap.size<=g):=by
 obtain⟨i,h1,h2,h3,h4⟩:=ee inf158
 exact ah.append (P:=prog) 131 131 i _ 56 underlying131 h1 h2 h3 h4 rfl ho news x hx (by unfold maxLen; omega) (by omega)
theorem inf165:(prog.info? 165).map (fun i=>(i.zero,i.size,i.bytes))=some (some (.agg #[(),(),(),(),(),(),(),()]),8,64):=by kernel_rfl
theorem apJb {w:World}{v x:Value}{l news:List Jb}(ho:ah jP 165 w v l)(hx:bL jP w x news)(hl:l.length+news.length<=100000000):
  ∃v' w',(Builtin.append_ #[132,132] 132 #[v,x]).run prog w=.ok v' w'/\ah jP 165 w' v' (l++news)/\w.grownBy w' v.ownBlock/\(v'.ownBlock=v.ownBlock\/∀g,v'.ownBlock=some g->w.heap.size<=g):=by
 obtain⟨i,h1,h2,h3,h4⟩:=ee inf165
 exact ah.append (P:=prog) 132 132 i _ 64 underlying132 h1 h2 h3 h4 rfl ho news x hx (by unfold maxLen; omega) (by omega)
theorem inf162:(prog.info? 162).map (fun i=>(i.zero,i.size,i.bytes))=some (some (.agg #[(),(),(),(),.string ⟨#[]⟩,.string ⟨#[]⟩,()]),7,72):=by kernel_rfl
theorem apEn {w:World}{v x:Value}{l news:List En}(ho:ah iM 162 w v l)(hx:bL iM w x news)(hl:l.length+news.length<=100000000):
  ∃v' w',(Builtin.append_ #[133,133] 133 #[v,x]).run prog w=.ok v' w'/\ah iM 162 w' v' (l++news)/\w.grownBy w' v.ownBlock/\(v'.ownBlock=v.ownBlock\/∀g,v'.ownBlock=some g->w.heap.size<=g):=by
 obtain⟨i,h1,h2,h3,h4⟩:=ee inf162
 exact ah.append (P:=prog) 133 133 i _ 72 underlying133 h1 h2 h3 h4 rfl ho news x hx (by unfold maxLen; omega) (by omega)
theorem bsRq (r:Rq)(ev:Operand->Value)(o:Oper)(x:Operand)(ho:o.op=.buildSlice 131 1 #[(0,x)])(hx:ev x=.agg r.a)(w:World):(execOp ev o).run prog w=.ok (.value (.slice (some ⟨w.heap.size,0,none⟩) 1 1)) (w.alloc (.cells r.a 158)):=by
 unfold execOp;simp only[ho];simp only[List.map_toArray,List.map_cons,List.map_nil,hx,Rq.a]
 kernel_rfl
theorem bsJb (r:Jb)(ev:Operand->Value)(o:Oper)(x:Operand)(ho:o.op=.buildSlice 132 1 #[(0,x)])(hx:ev x=.agg r.a)(w:World):(execOp ev o).run prog w=.ok (.value (.slice (some ⟨w.heap.size,0,none⟩) 1 1)) (w.alloc (.cells r.a 165)):=by
 unfold execOp;simp only[ho];simp only[List.map_toArray,List.map_cons,List.map_nil,hx,Jb.a]
 kernel_rfl
theorem bsEn (r:En)(ev:Operand->Value)(o:Oper)(x:Operand)(ho:o.op=.buildSlice 133 1 #[(0,x)])(hx:ev x=.agg r.a)(w:World):(execOp ev o).run prog w=.ok (.value (.slice (some ⟨w.heap.size,0,none⟩) 1 1)) (w.alloc (.cells r.a 162)):=by
 unfold execOp;simp only[ho];simp only[List.map_toArray,List.map_cons,List.map_nil,hx,En.a]
 kernel_rfl
theorem sz158 (r:Rq):(prog.info? 158).map (·.size)=some r.a.size:=by kernel_rfl
theorem fu (r:Jb):(prog.info? 165).map (·.size)=some r.a.size:=by kernel_rfl
theorem sz162 (r:En):(prog.info? 162).map (·.size)=some r.a.size:=by kernel_rfl
theorem one165 (r:Jb):r.a.all (·.oneCell')=true:=by simp[Jb.a,Value.oneCell']
theorem jL (l z x y l' z' x' y':Int)(w:World):Calls prog 138 #[.agg #[l,z,x,y],.agg #[l',z',x',y']] w fun e w'=>e=.returned (.bool (decide ((⟨l,z,x,y⟩:K4)=⟨l',z',x',y'⟩)))/\Below w.heap.size w w':=by
 have fin:∀{r:Bool} {W:World},Below w.heap.size w W->r=decide ((⟨l,z,x,y⟩:K4)=⟨l',z',x',y'⟩)->(Ending.returned (.bool r)=.returned (.bool (decide ((⟨l,z,x,y⟩:K4)=⟨l',z',x',y'⟩))))/\Below w.heap.size w W:=fun h e=>⟨by rw[e],h⟩
 have HB:=ae ((((Below.refl w.heap.size w).alloc aD (.cells #[l,z,x,y] 39))).alloc (by simp) (.cells #[l',z',x',y'] 39))
 by_cases e0:l=l'
 ·subst e0
  by_cases e1:z=z'
  ·subst e1
   by_cases e2:x=x'
   ·subst e2
    by_cases e3:y=y'
    ·subst e3
     go_enter func138,ntmps138
     go_wp2
     go_ret
     exact fin (aa HB) (by simp)
    have HF:Hid (false=decide ((⟨l,z,x,y⟩:K4)=⟨l,z,x,y'⟩)):=by show _=_; simp[e3]
    have f3:(y==y')=false:=by simpa using e3
    go_enter func138,ntmps138
    go_wp2
    go_ret;exact fin (aa HB) (aa HF)
   have HF:Hid (false=decide ((⟨l,z,x,y⟩:K4)=⟨l,z,x',y'⟩)):=by show _=_; simp[e2]
   have f3:(x==x')=false:=by simpa using e2
   go_enter func138,ntmps138
   go_wp2
   go_ret;exact fin (aa HB) (aa HF)
  have HF:Hid (false=decide ((⟨l,z,x,y⟩:K4)=⟨l,z',x',y'⟩)):=by show _=_; simp[e1]
  have f3:(z==z')=false:=by simpa using e1
  go_enter func138,ntmps138
  go_wp2
  go_ret;exact fin (aa HB) (aa HF)
 have HF:Hid (false=decide ((⟨l,z,x,y⟩:K4)=⟨l',z',x',y'⟩)):=by show _=_; simp[e0]
 have f3:(l==l')=false:=by simpa using e0
 go_enter func138,ntmps138
 go_wp2
 go_ret;exact fin (aa HB) (aa HF)
theorem kB (l z x y:Int)(w:World)(hx:0<=x/\x<=4194304)(hy:0<=y/\y<=4194304):
  Calls prog 88 #[.agg #[l,z,x,y]] w fun e w'=>e=.returned (.agg #[l,z,.int .i64 (x-x%2),.int .i64 (y-y%2)])/\Below w.heap.size w w':=by
 have ex:x-x%2=2*(x / 2):=by omega
 have ey:y-y%2=2*(y / 2):=by omega
 rw[ex,ey];clear ex ey;go_enter func88,ntmps88
 go_wp2_with fail
 have HZ:=heap_alloc_new (w.alloc (.cells #[l,z,x,y] 39)) (.cells #[l,z,.int .i64 (2*(x / 2)),.int .i64 (2*(y / 2))] 39)
 rw[show(w.alloc (.cells #[l,z,x,y] 39)).heap.size=w.heap.size+1 by simp] at HZ
 refine bodyPost_ret (v:=.agg #[l,z,.int .i64 (2*(x / 2)),.int .i64 (2*(y / 2))]) (results_cell_row results88 _ _ (w.heap.size+1) 39 _ (0,0) _ rfl HZ underlying39 rfl (bj _ _ _ _)) rfl ⟨rfl,?_⟩
 exact(bu.alloc aD _).alloc (by simp) _
def bg (ws:List Rq)(b:K4)(all:Bool):Nat:=ws.countP fun r=>!r.done && (all || decide (r.k.blk=b))
theorem waitsN_take {ws:List Rq}{k:Nat}{r:Rq}(h:ws[k]?=some r)(b:K4)(all:Bool):bg (ws.take (k+1)) b all=bg (ws.take k) b all+(if !r.done && (all || decide (r.k.blk=b)) then 1 else 0):=by
 unfold bg;rw[be h,List.countP_append]
 congr 1
 by_cases e:(!r.done && (all || decide (r.k.blk=b)))=true
 ·rw[if_pos e,List.countP_singleton,if_pos e]
 rw[if_neg e,List.countP_singleton,if_neg e]
theorem ef (ws:List Rq)(b:K4)(all:Bool):bg ws b all<=ws.length:=List.countP_le_length
theorem fh (fb:Nat)(X:RV)(ws:List Rq)(l z x y:Int)(all:Bool)(w:World)(hf:aF w fb X)(hv:bL rRq w X.rv ws)(hs:∀r∈ws,bP r.k)(hl:ws.length<=100000000):
  Calls prog 85 #[.pointer (some ⟨fb,0,none⟩),.agg #[l,z,x,y],all] w fun e w'=>e=.returned (.int .i64 (bg ws ⟨l,z,x,y⟩ all))/\Below w.heap.size w w':=by
 have hlt0:=an hf;obtain⟨oa,cap,e,hcap,hm,hc⟩:=hv;have HC:=ae hc;have HS:=ae hs
 have c7:w.cell? ⟨fb,9,none⟩=some (.slice oa ws.length cap):=by rw[<-e]; exact hf.c 9 rfl
 have HC7:=ae c7;have HA:=ae (heap_alloc_new w (.cells #[l,z,x,y] 39));have HB0:=ae ((Below.refl w.heap.size w).alloc aD (.cells #[l,z,x,y] 39));have BL0:=ae kB;have SM0:=ae jL;clear hf hc hm e hs c7;go_enter func85,ntmps85
 go_wp2_with fail
 go_loopw [7,8,9] (fun n i _ wr=>∃k:Nat,k<=ws.length/\i=.int .i64 k/\n=.int .i64 (bg (ws.take k) ⟨l,z,x,y⟩ all)/\wr.heap[w.heap.size]?=some (.cells #[l,z,x,y] 39)/\Below w.heap.size w wr) (fun _ i _ _=>ws.length-(intOf i).toNat)
 case atStart=>exact⟨0,by omega,rfl,by simp[bg],aa HA,aa HB0⟩
 case round=>
  obtain⟨k,hk,rfl,rfl,h0,hb⟩:=hrel;have hsz:=hb.size;have r7:=(hb.cell (p:=⟨fb,9,none⟩) hlt0).trans (aa HC7)
  by_cases hlt:k<ws.length
  ·have hkn:(k:Int)<ws.length:=by omega
   obtain⟨b,off,rfl,hbl,hc0⟩:=aa HC (by omega)
   obtain⟨⟨⟨rl,rz,rx,ry⟩,ra,rd,dn⟩,ht⟩:∃t,ws[k]?=some t:=⟨_,List.getElem?_eq_getElem hlt⟩;have hsm:=aa HS _ (List.mem_of_getElem? ht);obtain⟨⟨x1,x2⟩,⟨y1,y2⟩⟩:=hsm;dsimp only at x1 x2 y1 y2;have hrg0:=bL.rq hc0 ht;have hrg:w.rangeAt b (off+k*7) #[.int .i64 rl,.int .i64 rz,.int .i64 rx,.int .i64 ry].toList:=dV hrg0 rfl;have hct:=waitsN_take ht ⟨l,z,x,y⟩ all;have hcl:=ef (ws.take k) ⟨l,z,x,y⟩ all;rw[List.length_take] at hcl;have d6:wr.cell? ⟨b,off+k*7+6,none⟩=some (.bool dn):=(hb.cell (p:=⟨b,off+k*7+6,none⟩) hbl).trans (hrg0 6 _ rfl)
   cases dn with
   | true=>
    have HCT:Hid (bg (ws.take (k+1)) ⟨l,z,x,y⟩ all=bg (ws.take k) ⟨l,z,x,y⟩ all):=by show _=_; rw[hct]; rfl
    have HB2:=ae hb;clear hct hrg hrg0 hc0 hb
    go_wp2_with fail
    go_roundw
    case rel=>exact⟨k+1,by omega,by go_num,by rw[aa HCT],h0,aa HB2⟩
    case measure=>simp[intOf]; omega
   | false=>
    have hW:∀W,Below wr.heap.size wr W->W.rangeAt b (off+k*7) #[.int .i64 rl,.int .i64 rz,.int .i64 rx,.int .i64 ry].toList:=fun W h=>dA hrg (hb.trans (h.mono hb.size)) hbl;have hK:∀W,Below wr.heap.size wr W->W.rangeAt w.heap.size 0 #[.int .i64 l,.int .i64 z,.int .i64 x,.int .i64 y].toList:=fun W h=>ao (ag h0 h)
    have hF:∀W,Below wr.heap.size wr W->W.cell? ⟨fb,9,none⟩=some (.slice (some ⟨b,off,none⟩) ws.length cap):=fun W h=>(h.cell (p:=⟨fb,9,none⟩) (by show fb<_; omega)).trans r7
    have BL:=fun W=>aa BL0 rl rz rx ry W ⟨x1,x2⟩ ⟨y1,y2⟩;have SM:=fun W=>aa SM0 rl rz (rx-rx%2) (ry-ry%2) l z x y W
    go_wp2_with fail
    refine aM (by kernel_rfl) (by kernel_rfl) ?_
    refine eI fb 0 ?_;refine bd fb 0 ?_;refine bd fb 9 ?_
    refine bH (.slice (some ⟨b,off,none⟩) ws.length cap) ?_ (h:=fun w' hw'=>by simp[go_sem,hF w' hw'])
    refine bD (.int .i64 k) ?_
    refine bd b (off+k*7) ?_ (h:=fun w' hw'=>by simp[go_sem,hkn])
    refine bd b (off+k*7) ?_;refine aR rfl 39 _ rfl (b) (off+k*7) rfl (#[rl,rz,rx,ry]) _ underlying39 rfl (bj _ _ _ _) (hW) ?_;simp only[qZ]
    refine br rfl 88 (#[.agg #[rl,rz,rx,ry]]) (fun _=>by simp[go_sem]) _ (BL) ?_
    simp only[qZ];refine aR rfl 39 _ rfl (w.heap.size) (0) rfl (#[l,z,x,y]) _ underlying39 rfl (bj _ _ _ _) (hK) ?_;simp only[qZ]
    refine br rfl 138 (#[.agg #[rl,rz,.int .i64 (rx-rx%2),.int .i64 (ry-ry%2)],.agg #[l,z,x,y]]) (fun _=>by simp[go_sem]) _ (SM) ?_
    simp only[qZ];refine bF rfl _ rfl (.bool (decide ((⟨rl,rz,rx-rx%2,ry-ry%2⟩:K4)=⟨l,z,x,y⟩))) rfl ?_;simp only[qZ];refine wpQuiet_nil ?_;intro w2 hw2;have hw0:=ag h0 hw2;have HB2:=ae (hb.trans (hw2.mono hb.size));have HW0:=ae hw0;have hblk:((⟨rl,rz,rx,ry⟩:K4).blk=⟨l,z,x,y⟩)=((⟨rl,rz,rx-rx%2,ry-ry%2⟩:K4)=⟨l,z,x,y⟩):=rfl;simp only[hblk] at hct;obtain⟨C,hC⟩:∃C,bg (ws.take k) ⟨l,z,x,y⟩ all=C:=⟨_,rfl⟩;obtain⟨P,hP⟩:∃P,decide ((⟨rl,rz,rx-rx%2,ry-ry%2⟩:K4)=⟨l,z,x,y⟩)=P:=⟨_,rfl⟩;rw[hC,hP] at hct;rw[hC] at hcl;have HCT:=ae hct;rw[hC];clear hW hK hF hrg hrg0 hc0 hb h0 hw0 hw2 BL SM hct hC hblk r7 d6;simp only[hP];clear hP
    cases all with
    | true=>
     have HC1:Hid (bg (ws.take (k+1)) ⟨l,z,x,y⟩ true=C+1):=by show _=_; rw[aa HCT]; rfl
     clear HCT
     go_wp2_with fail
     go_roundw
     case rel=>exact⟨k+1,by omega,by go_num,by rw[aa HC1]; go_num,aa HW0,aa HB2⟩
     case measure=>simp[intOf]; omega
    | false=>
     cases P with
     | true=>
      have HC1:Hid (bg (ws.take (k+1)) ⟨l,z,x,y⟩ false=C+1):=by show _=_; rw[aa HCT]; rfl
      clear HCT
      go_wp2_with fail
      go_roundw
      case rel=>exact⟨k+1,by omega,by go_num,by rw[aa HC1]; go_num,aa HW0,aa HB2⟩
      case measure=>simp[intOf]; omega
     | false=>
      have HC1:Hid (bg (ws.take (k+1)) ⟨l,z,x,y⟩ false=C):=by show _=_; rw[aa HCT]; rfl
      clear HCT
      go_wp2_with fail
      go_roundw
      case rel=>exact⟨k+1,by omega,by go_num,by rw[aa HC1],aa HW0,aa HB2⟩
      case measure=>simp[intOf]; omega
  have hkn:k=ws.length:=by omega
  subst hkn;have HB2:=ae hb;have HT:Hid (ws.take ws.length=ws):=List.take_length;clear hb h0
  go_wp2_with fail
  go_ret
  exact⟨by rw[aa HT]; rfl,aa HB2⟩
def m5:Option Nat->Int
 | some i=>i
 | none=>-1
def o7 (ws:List Jb)(b:K4):Option Nat:=ws.findIdx? fun a=>decide (a.b=b)
def dB (ws:List En)(b:K4):Option Nat:=ws.findIdx? fun a=>decide (a.k=b)
theorem o8 {α:Type}{p:α->Bool}{l:List α}{k:Nat}{a:α}(hk:l[k]?=some a)(hp:p a=true)(hno:∀i b,i<k->l[i]?=some b->¬p b=true):l.findIdx? p=some k:=by
 obtain⟨h,e⟩:=List.getElem?_eq_some_iff.1 hk;rw[List.findIdx?_eq_some_iff_getElem]
 refine⟨h,by rw[e]; exact hp,fun j hj=>?_⟩
 have:=hno j l[j] hj (List.getElem?_eq_getElem (by omega))
 exact this
theorem o9 {α:Type}{p:α->Bool}{l:List α}(hno:∀i b,i<l.length->l[i]?=some b->¬p b=true):l.findIdx? p=none:=by
 rw[List.findIdx?_eq_none_iff];intro x hx;obtain⟨i,hi⟩:=List.mem_iff_getElem?.1 hx;have:=hno i x (List.getElem?_eq_some_iff.1 hi).1 hi;simpa using this
theorem job_any (fb:Nat)(X:RV)(ws:List Jb)(l z x y:Int)(w:World)(hf:aF w fb X)(hv:bL jP w X.jv ws)(hl:ws.length<=100000000):
  Calls prog 89 #[.pointer (some ⟨fb,0,none⟩),.agg #[l,z,x,y]] w fun e w'=>e=.returned (.int .i64 (m5 (o7 ws ⟨l,z,x,y⟩)))/\Below w.heap.size w w':=by
 have hlt0:=an hf;obtain⟨oa,cap,e,hcap,hm,hc⟩:=hv;have HC:=ae hc
 have c7:w.cell? ⟨fb,10,none⟩=some (.slice oa ws.length cap):=by rw[<-e]; exact hf.c 10 rfl
 have HC7:=ae c7;have HA:=ae (heap_alloc_new w (.cells #[l,z,x,y] 39));have HB0:=ae ((Below.refl w.heap.size w).alloc aD (.cells #[l,z,x,y] 39));have SM0:=ae jL;clear hf hc hm e c7;go_enter func89,ntmps89
 go_wp2_with fail
 go_loopw [5,6] (fun i _ wr=>∃k:Nat,k<=ws.length/\i=.int .i64 k/\Hid (∀i a,i<k->ws[i]?=some a->a.b≠⟨l,z,x,y⟩)/\wr.heap[w.heap.size]?=some (.cells #[l,z,x,y] 39)/\Below w.heap.size w wr) (fun i _ _=>ws.length-(intOf i).toNat)
 case atStart=>exact⟨0,by omega,rfl,ae (fun i a hi=>absurd hi (by omega)),aa HA,aa HB0⟩
 case round=>
  obtain⟨k,hk,rfl,hno,h0,hb⟩:=hrel;have hsz:=hb.size;have r7:=(hb.cell (p:=⟨fb,10,none⟩) hlt0).trans (aa HC7)
  by_cases hlt:k<ws.length
  ·have hkn:(k:Int)<ws.length:=by omega
   obtain⟨b,off,rfl,hbl,hc0⟩:=aa HC (by omega)
   obtain⟨⟨⟨rl,rz,rx,ry⟩,jw,jp,jr,jl⟩,ht⟩:∃t,ws[k]?=some t:=⟨_,List.getElem?_eq_getElem hlt⟩;have hrg:w.rangeAt b (off+k*8) #[.int .i64 rl,.int .i64 rz,.int .i64 rx,.int .i64 ry].toList:=dV (bL.jb hc0 ht) rfl;have hW:∀W,Below wr.heap.size wr W->W.rangeAt b (off+k*8) #[.int .i64 rl,.int .i64 rz,.int .i64 rx,.int .i64 ry].toList:=fun W h=>dA hrg (hb.trans (h.mono hb.size)) hbl;have hK:∀W,Below wr.heap.size wr W->W.rangeAt w.heap.size 0 #[.int .i64 l,.int .i64 z,.int .i64 x,.int .i64 y].toList:=fun W h=>ao (ag h0 h)
   have hF:∀W,Below wr.heap.size wr W->W.cell? ⟨fb,10,none⟩=some (.slice (some ⟨b,off,none⟩) ws.length cap):=fun W h=>(h.cell (p:=⟨fb,10,none⟩) (by show fb<_; omega)).trans r7
   have SM:=fun W=>aa SM0 rl rz rx ry l z x y W
   go_wp2_with fail
   refine aM (by kernel_rfl) (by kernel_rfl) ?_
   refine eI fb 0 ?_;refine bd fb 0 ?_;refine bd fb 10 ?_
   refine bH (.slice (some ⟨b,off,none⟩) ws.length cap) ?_ (h:=fun w' hw'=>by simp[go_sem,hF w' hw'])
   refine bD (.int .i64 k) ?_
   refine bd b (off+k*8) ?_ (h:=fun w' hw'=>by simp[go_sem,hkn])
   refine bd b (off+k*8) ?_;refine aR rfl 39 _ rfl (b) (off+k*8) rfl (#[rl,rz,rx,ry]) _ underlying39 rfl (bj _ _ _ _) (hW) ?_;simp only[qZ];refine aR rfl 39 _ rfl (w.heap.size) (0) rfl (#[l,z,x,y]) _ underlying39 rfl (bj _ _ _ _) (hK) ?_;simp only[qZ]
   refine br rfl 138 (#[.agg #[rl,rz,rx,ry],.agg #[l,z,x,y]]) (fun _=>by simp[go_sem]) _ (SM) ?_
   simp only[qZ];refine bF rfl _ rfl (.bool (decide ((⟨rl,rz,rx,ry⟩:K4)=⟨l,z,x,y⟩))) rfl ?_;simp only[qZ];refine wpQuiet_nil ?_;intro w2 hw2;have hw0:=ag h0 hw2;have HB2:=ae (hb.trans (hw2.mono hb.size));have HW0:=ae hw0;clear hW hK hF hrg hc0 hb h0 hw0 hw2 SM
   by_cases he:(⟨rl,rz,rx,ry⟩:K4)=⟨l,z,x,y⟩
   ·have hde:decide ((⟨rl,rz,rx,ry⟩:K4)=⟨l,z,x,y⟩)=true:=by simp[he]
    have HF:Hid ((m5 (o7 ws ⟨l,z,x,y⟩))=k):=by show m5 _=_; rw[show o7 ws ⟨l,z,x,y⟩=some k from o8 ht (by simpa using he) (fun i a hi ha=>by simpa using aa hno i a hi ha)]; rfl
    clear he;simp only[hde]
    go_wp2_with fail
    go_ret
    exact⟨by rw[aa HF]; rfl,aa HB2⟩
   have hde:decide ((⟨rl,rz,rx,ry⟩:K4)=⟨l,z,x,y⟩)=false:=by simp[he]
   have HNO:Hid (∀i a,i<k+1->ws[i]?=some a->a.b≠⟨l,z,x,y⟩):=fun i a hi ha=>by
    by_cases c:i=k
    ·subst c; rw[ht] at ha; cases ha; exact he
    exact aa hno i a (by omega) ha
   clear he;simp only[hde]
   go_wp2_with fail
   go_roundw
   case rel=>exact⟨k+1,by omega,by go_num,HNO,aa HW0,aa HB2⟩
   case measure=>simp[intOf]; omega
  have hkn:k=ws.length:=by omega
  subst hkn
  have HF:Hid (m5 (o7 ws ⟨l,z,x,y⟩)=-1):=by show m5 _=_; rw[show o7 ws ⟨l,z,x,y⟩=none from o9 (fun i a hi ha=>by simpa using aa hno i a hi ha)]; rfl
  have HB2:=ae hb;clear hb h0
  go_wp2_with fail
  go_ret
  exact⟨by rw[aa HF]; rfl,aa HB2⟩
theorem nO (fb:Nat)(X:RV)(ws:List En)(l z x y:Int)(w:World)(hf:aF w fb X)(hv:bL iM w X.ev ws)(hl:ws.length<=100000000):
  Calls prog 87 #[.pointer (some ⟨fb,0,none⟩),.agg #[l,z,x,y]] w fun e w'=>e=.returned (.int .i64 (m5 (dB ws ⟨l,z,x,y⟩)))/\Below w.heap.size w w':=by
 have hlt0:=an hf;obtain⟨oa,cap,e,hcap,hm,hc⟩:=hv;have HC:=ae hc
 have c7:w.cell? ⟨fb,11,none⟩=some (.slice oa ws.length cap):=by rw[<-e]; exact hf.c 11 rfl
 have HC7:=ae c7;have HA:=ae (heap_alloc_new w (.cells #[l,z,x,y] 39));have HB0:=ae ((Below.refl w.heap.size w).alloc aD (.cells #[l,z,x,y] 39));have SM0:=ae jL;clear hf hc hm e c7;go_enter func87,ntmps87
 go_wp2_with fail
 go_loopw [5,6] (fun i _ wr=>∃k:Nat,k<=ws.length/\i=.int .i64 k/\Hid (∀i a,i<k->ws[i]?=some a->a.k≠⟨l,z,x,y⟩)/\wr.heap[w.heap.size]?=some (.cells #[l,z,x,y] 39)/\Below w.heap.size w wr) (fun i _ _=>ws.length-(intOf i).toNat)
 case atStart=>exact⟨0,by omega,rfl,ae (fun i a hi=>absurd hi (by omega)),aa HA,aa HB0⟩
 case round=>
  obtain⟨k,hk,rfl,hno,h0,hb⟩:=hrel;have hsz:=hb.size;have r7:=(hb.cell (p:=⟨fb,11,none⟩) hlt0).trans (aa HC7)
  by_cases hlt:k<ws.length
  ·have hkn:(k:Int)<ws.length:=by omega
   obtain⟨b,off,rfl,hbl,hc0⟩:=aa HC (by omega)
   obtain⟨⟨⟨rl,rz,rx,ry⟩,eb,et,eu⟩,ht⟩:∃t,ws[k]?=some t:=⟨_,List.getElem?_eq_getElem hlt⟩;have hrg:w.rangeAt b (off+k*7) #[.int .i64 rl,.int .i64 rz,.int .i64 rx,.int .i64 ry].toList:=dV (bL.en hc0 ht) rfl;have hW:∀W,Below wr.heap.size wr W->W.rangeAt b (off+k*7) #[.int .i64 rl,.int .i64 rz,.int .i64 rx,.int .i64 ry].toList:=fun W h=>dA hrg (hb.trans (h.mono hb.size)) hbl;have hK:∀W,Below wr.heap.size wr W->W.rangeAt w.heap.size 0 #[.int .i64 l,.int .i64 z,.int .i64 x,.int .i64 y].toList:=fun W h=>ao (ag h0 h)
   have hF:∀W,Below wr.heap.size wr W->W.cell? ⟨fb,11,none⟩=some (.slice (some ⟨b,off,none⟩) ws.length cap):=fun W h=>(h.cell (p:=⟨fb,11,none⟩) (by show fb<_; omega)).trans r7
   have SM:=fun W=>aa SM0 rl rz rx ry l z x y W
   go_wp2_with fail
   refine aM (by kernel_rfl) (by kernel_rfl) ?_
   refine eI fb 0 ?_;refine bd fb 0 ?_;refine bd fb 11 ?_
   refine bH (.slice (some ⟨b,off,none⟩) ws.length cap) ?_ (h:=fun w' hw'=>by simp[go_sem,hF w' hw'])
   refine bD (.int .i64 k) ?_
   refine bd b (off+k*7) ?_ (h:=fun w' hw'=>by simp[go_sem,hkn])
   refine bd b (off+k*7) ?_;refine aR rfl 39 _ rfl (b) (off+k*7) rfl (#[rl,rz,rx,ry]) _ underlying39 rfl (bj _ _ _ _) (hW) ?_;simp only[qZ];refine aR rfl 39 _ rfl (w.heap.size) (0) rfl (#[l,z,x,y]) _ underlying39 rfl (bj _ _ _ _) (hK) ?_;simp only[qZ]
   refine br rfl 138 (#[.agg #[rl,rz,rx,ry],.agg #[l,z,x,y]]) (fun _=>by simp[go_sem]) _ (SM) ?_
   simp only[qZ];refine bF rfl _ rfl (.bool (decide ((⟨rl,rz,rx,ry⟩:K4)=⟨l,z,x,y⟩))) rfl ?_;simp only[qZ];refine wpQuiet_nil ?_;intro w2 hw2;have hw0:=ag h0 hw2;have HB2:=ae (hb.trans (hw2.mono hb.size));have HW0:=ae hw0;clear hW hK hF hrg hc0 hb h0 hw0 hw2 SM
   by_cases he:(⟨rl,rz,rx,ry⟩:K4)=⟨l,z,x,y⟩
   ·have hde:decide ((⟨rl,rz,rx,ry⟩:K4)=⟨l,z,x,y⟩)=true:=by simp[he]
    have HF:Hid ((m5 (dB ws ⟨l,z,x,y⟩))=k):=by show m5 _=_; rw[show dB ws ⟨l,z,x,y⟩=some k from o8 ht (by simpa using he) (fun i a hi ha=>by simpa using aa hno i a hi ha)]; rfl
    clear he;simp only[hde]
    go_wp2_with fail
    go_ret
    exact⟨by rw[aa HF]; rfl,aa HB2⟩
   have hde:decide ((⟨rl,rz,rx,ry⟩:K4)=⟨l,z,x,y⟩)=false:=by simp[he]
   have HNO:Hid (∀i a,i<k+1->ws[i]?=some a->a.k≠⟨l,z,x,y⟩):=fun i a hi ha=>by
    by_cases c:i=k
    ·subst c; rw[ht] at ha; cases ha; exact he
    exact aa hno i a (by omega) ha
   clear he;simp only[hde]
   go_wp2_with fail
   go_roundw
   case rel=>exact⟨k+1,by omega,by go_num,HNO,aa HW0,aa HB2⟩
   case measure=>simp[intOf]; omega
  have hkn:k=ws.length:=by omega
  subst hkn
  have HF:Hid (m5 (dB ws ⟨l,z,x,y⟩)=-1):=by show m5 _=_; rw[show dB ws ⟨l,z,x,y⟩=none from o9 (fun i a hi ha=>by simpa using aa hno i a hi ha)]; rfl
  have HB2:=ae hb;clear hb h0
  go_wp2_with fail
  go_ret
  exact⟨by rw[aa HF]; rfl,aa HB2⟩
structure ke (bs:List bK):Prop where
 n:bs.length<=100
 b8:∀k,k<bs.length->(ff bs k).length<=8
 rt:∀v,v<=bs.length->∀i,i<(dk bs v).length->Rt (gf (dk bs v) i)
def fB (bs:List bK)(v:Nat)(k:K4):Nat:=mF bs k.l k.z k.x k.y v
def En.t (e:En):aL:=⟨e.k,e.body,e.tag⟩
def aY (ws:List En):Nat:=aA (ws.map En.t)
theorem bytesE_take {ws:List En}{k:Nat}{a:En}(h:ws[k]?=some a):aY (ws.take (k+1))=aY (ws.take k)+a.body.size:=by
 unfold aY
 rw[be h,List.map_append,ep]; simp[aA,En.t]
theorem gr {a b:List En}(h:a.Sublist b):aY a<=aY b:=eo (h.map _)
theorem oe (fb:Nat)(X:RV)(ts:List En)(w:World)(hf:aF w fb X)(hv:bL iM w X.ev ts)(hb:aY ts<=1000000000)(hl:ts.length<=100000000):
  Calls prog 110 #[.pointer (some ⟨fb,0,none⟩)] w fun e w'=>e=.returned (.int .i64 (aY ts))/\w=w':=by
 obtain⟨oa,cap,e,hcap,hm,hc⟩:=hv
 have c11:w.cell? ⟨fb,11,none⟩=some (.slice oa ts.length cap):=by rw[<-e]; exact hf.c 11 rfl
 have HC:=ae hc;have HB:=ae hb;clear hf hc hm hb e;go_enter func110,ntmps110
 go_wp2_with fail
 go_loop [3,4] (fun s i=>∃k:Nat,k<=ts.length/\i=.int .i64 k/\s=.int .i64 (aY (ts.take k))) (fun _ i=>ts.length-(intOf i).toNat)
 case atStart=>exact⟨0,by omega,rfl,by simp[aY,aA]⟩
 case round=>
  obtain⟨k,hk,rfl,rfl⟩:=hrel
  by_cases hlt:k<ts.length
  ·have hkn:(k:Int)<ts.length:=by omega
   obtain⟨b,off,rfl,hbl,hc0⟩:=aa HC (by omega)
   obtain⟨⟨⟨tl,tz,tx,ty⟩,tb,tt,tu⟩,ht⟩:∃t,ts[k]?=some t:=⟨_,List.getElem?_eq_getElem hlt⟩;have hrg:=bL.en hc0 ht;have c4:w.cell? ⟨b,off+k*7+4,none⟩=some (.string tb):=hrg 4 _ rfl;have hsum:aY (ts.take (k+1))=aY (ts.take k)+tb.size:=bytesE_take ht;have hle:=gr (List.take_sublist (k+1) ts);have hbb:=aa HB
   have hw:IntKind.i64.wrap ((aY (ts.take k):Int)+(tb.size:Int))=((aY (ts.take k)+tb.size:Nat):Int):=by
    rw[bG _ (by omega)]; omega
   have HS:=ae hsum;clear hrg hc0 hsum hle hbb
   go_wp2_with fail
   go_round
   case rel=>exact⟨k+1,by omega,by go_num,by rw[aa HS]; rfl⟩
   case measure=>simp[intOf]; omega
  have hkn:k=ts.length:=by omega
  subst hkn
  go_wp2_with fail
  go_ret;exact⟨rfl,rfl⟩
def mJ (ws:List En)(i:Nat):Int:=(ws[i]?.map En.use).getD 0
def dE (ws:List En):Nat->Nat
 | 0=>0
 | k+1=>if mJ ws k<mJ ws (dE ws k) then k else dE ws k
theorem lg (ws:List En):∀k,0<k->dE ws k<k
 | 0,h=>by omega
 | 1,_=>by unfold dE; split<;>simp[dE]
 | k+2,_=>by
  unfold dE
  have:=lg ws (k+1) (by omega)
  split<;>omega
theorem oldI_one (ws:List En):dE ws 1=0:=by unfold dE; split<;>simp[dE]
theorem oldest_any (fb:Nat)(X:RV)(ts:List En)(w:World)(hf:aF w fb X)(hv:bL iM w X.ev ts)(h0:0<ts.length)(hl:ts.length<=100000000):
  Calls prog 179 #[.pointer (some ⟨fb,0,none⟩)] w fun e w'=>e=.returned (.int .i64 (dE ts ts.length))/\Below w.heap.size w w':=by
 obtain⟨oa,cap,e,hcap,hm,hc⟩:=hv
 have c11:w.cell? ⟨fb,11,none⟩=some (.slice oa ts.length cap):=by rw[<-e]; exact hf.c 11 rfl
 obtain⟨b,off,rfl,hbl,hc0⟩:=hc h0;have HC:=ae hc0;have hfl:=an hf;have HC11:=ae c11;clear hf hc hm e hc0 c11;go_enter func179,ntmps179
 go_wp2_with fail
 go_loopw [3,4] (fun o i wr=>∃k:Nat,1<=k/\k<=ts.length/\i=.int .i64 k/\o=.int .i64 (dE ts k)/\Hid (Below w.heap.size w wr)) (fun _ i _=>ts.length-(intOf i).toNat)
 case atStart=>exact⟨1,by omega,by omega,rfl,by rw[oldI_one]; rfl,ae bu⟩
 case round=>
  obtain⟨k,hk1,hk,rfl,rfl,hb⟩:=hrel;have c11:=((aa hb).cell (p:=⟨fb,11,none⟩) hfl).trans (aa HC11)
  by_cases hlt:k<ts.length
  ·have hkn:(k:Int)<ts.length:=by omega
   have ho:=lg ts k (by omega)
   have hon:((dE ts k:Nat):Int)<ts.length:=by omega
   obtain⟨⟨⟨tl,tz,tx,ty⟩,tb,tt,tu⟩,ht⟩:∃t,ts[k]?=some t:=⟨_,List.getElem?_eq_getElem hlt⟩
   obtain⟨⟨⟨sl,sz,sx,sy⟩,sb,st,su⟩,hs⟩:∃t,ts[dE ts k]?=some t:=⟨_,List.getElem?_eq_getElem (by omega)⟩
   have c4:wr.cell? ⟨b,off+k*7+6,none⟩=some (.int .i64 tu):=((aa hb).cell (p:=⟨b,off+k*7+6,none⟩) hbl).trans (bL.en (aa HC) ht 6 _ rfl);have c5:wr.cell? ⟨b,off+dE ts k*7+6,none⟩=some (.int .i64 su):=((aa hb).cell (p:=⟨b,off+dE ts k*7+6,none⟩) hbl).trans (bL.en (aa HC) hs 6 _ rfl)
   have HO:Hid (dE ts (k+1)=if tu<su then k else dE ts k):=by
    show _=_
    rw[dE,mJ,mJ,ht,hs]; rfl
   obtain⟨o,hO⟩:∃o,dE ts k=o:=⟨_,rfl⟩;rw[hO] at c5 hon HO ho ⊢;clear ht hs hO
   by_cases q:tu<su
   focus
    have HO1:Hid (dE ts (k+1)=k):=by show _=_; rw[aa HO,if_pos q]
   rotate_left
   focus
    have HO1:Hid (dE ts (k+1)=o):=by show _=_; rw[aa HO,if_neg q]
   all_goals
    clear HO
    go_wp2_with fail
    go_quiet (fail)
    go_wp2_with fail
    go_roundw
    case rel=>exact⟨k+1,by omega,by omega,by go_num,by rw[aa HO1],ae (ap (aa hb) _)⟩
    case measure=>simp[intOf]; omega
  have hkn:k=ts.length:=by omega
  subst hkn
  go_wp2_with fail
  go_ret;exact⟨rfl,aa hb⟩
theorem refTag_any (l z x y s:Int)(w:World)(hk:dy ⟨l,z,x,y⟩)(hs:0<=s/\s<=100):
  Calls prog 139 #[.agg #[l,z,x,y],s] w fun e w'=>e=.returned (.tuple #[.string (du ⟨l,z,x,y⟩ s),()])/\Below w.heap.size w w':=by
 have hsm:=hk.small;obtain⟨⟨x1,x2⟩,⟨y1,y2⟩⟩:=hsm;have hl:=hk.l;have hz:=hk.z;have hpe:=hk.perr;dsimp only at x1 x2 y1 y2 hl hz hpe;have e1:(l.toNat:Int)=l:=Int.toNat_of_nonneg hl.1;have e2:(z.toNat:Int)=z:=Int.toNat_of_nonneg hz.1;have e3:(x.toNat:Int)=x:=Int.toNat_of_nonneg x1;have e4:(y.toNat:Int)=y:=Int.toNat_of_nonneg y1;have e5:(s.toNat:Int)=s:=Int.toNat_of_nonneg hs.1
 have T:=Dw.refTag_yes l.toNat z.toNat x.toNat y.toNat s.toNat w (by omega) (by omega) (by omega) (by omega) (by rw[e1,e2,e3,e4]; exact hpe) (by omega)
 rw[e1,e2,e3,e4,e5] at T;refine T.mono ?_;rintro e w' ⟨⟨B,rfl,hB⟩,hb⟩
 exact⟨by rw[ba_of B _ hB]; rfl,hb⟩
section
variable {w:World}{fb:Nat}{X:RV}{keep:Int}{bv pv:Value}{SL:List cA}{bs:List bK}{PI:List Int}
theorem kX (v:Nat)(l z x y:Int)(hf:aF w fb X)(hR:eV w X.sb keep bv pv SL bs PI)(hB:ke bs)(hv:v<=bs.length)(hk:dy ⟨l,z,x,y⟩):
  Calls prog 86 #[.pointer (some ⟨fb,0,none⟩),v,.agg #[l,z,x,y]] w fun e w'=>e=.returned (.string (du ⟨l,z,x,y⟩ (fB bs v ⟨l,z,x,y⟩)))/\Below w.heap.size w w':=by
 have hlt0:=an hf;have hb0:=(Below.refl w.heap.size w).alloc aD (.cells #[l,z,x,y] 39);have hA:=heap_alloc_new w (.cells #[l,z,x,y] 39)
 have hz1:(w.alloc (.cells #[l,z,x,y] 39)).heap.size=w.heap.size+1:=by simp
 obtain⟨w1,hw1⟩:∃w1,w.alloc (.cells #[l,z,x,y] 39)=w1:=⟨_,rfl⟩;rw[hw1] at hb0 hA hz1;have HW1:=ae hw1;have hf1:=ag hf hb0;have hR1:=hR.on hb0;have hF:∀W,Below w1.heap.size w1 W->W.cell? ⟨fb,5,none⟩=some (.pointer (some ⟨X.sb,0,none⟩)):=fun W h=>aF.c (X:=X) (ag hf1 h) 5 rfl;have hK:∀W,Below w1.heap.size w1 W->W.rangeAt w.heap.size 0 #[.int .i64 l,.int .i64 z,.int .i64 x,.int .i64 y].toList:=fun W h=>ao (ag hA h);have LA:∀W,Below w1.heap.size w1 W->Calls prog 79 #[.pointer (some ⟨X.sb,0,none⟩),v,.agg #[l,z,x,y]] W fun e w'=>e=.returned (.int .i64 (mF bs l z x y v:Nat))/\Below W.heap.size W w':=fun W h=>Last_any X.sb keep bv pv SL bs PI v l z x y W (hR1.on h) hv hB.n hB.b8;have hle:=lsV_le bs l z x y v;have h100:=hB.n;unfold fB;dsimp only;generalize hS:(mF bs l z x y v:Nat)=S0 at LA hle ⊢;obtain⟨S,hSS⟩:∃S:Int,(S0:Int)=S:=⟨_,rfl⟩;rw[hSS] at LA ⊢
 have TG:=ae (fun W=>refTag_any l z x y S W hk (by omega))
 have HB0:=ae hb0;clear hf hR hR1 hf1 hb0 hk hS hw1;go_enter func86,ntmps86
 go_wp2_with fail
 rw[aa HW1]
 refine aM (by kernel_rfl) (by kernel_rfl) ?_
 refine eI fb 0 ?_;refine bd fb 0 ?_;refine bd fb 5 ?_
 refine bd X.sb 0 ?_ (h:=fun w' hw'=>by simp[go_sem,hF w' hw'])
 refine bD (.int .i64 v) ?_;refine aR rfl 39 _ rfl (w.heap.size) (0) rfl (#[l,z,x,y]) _ underlying39 rfl (bj _ _ _ _) (hK) ?_;simp only[qZ]
 refine eB rfl 79 (#[.pointer (some ⟨X.sb,0,none⟩),v,.agg #[l,z,x,y]]) (fun _=>by simp[go_sem]) (.int .i64 S) (LA) ?_
 simp only[qZ];refine bF rfl _ rfl (.int .i64 S) rfl ?_;simp only[qZ];refine wpQuiet_nil ?_;intro w2 hw2;have hk2:=hK w2 hw2
 have HB2:=ae ((aa HB0).trans (hw2.mono (by omega)))
 clear hw2 hF hK LA hA
 go_wp2_with (refine bU 39 #[l,z,x,y] underlying39 rfl (bj _ _ _ _) w.heap.size 0 hk2 rfl _ rfl rfl ?_)
 refine(aa TG w2).mono ?_;rintro e w3 ⟨rfl,hb3⟩;have HB3:=ae ((aa HB2).trans (hb3.mono (aa HB2).size));clear hb3 hk2
 go_wp2_with fail
 go_ret;exact⟨rfl,aa HB3⟩
theorem fH (v:Int)(l z x y:Int)(hf:aF w fb X)(hR:eV w X.sb keep bv pv SL bs PI)(hB:ke bs):
  Calls prog 95 #[.pointer (some ⟨fb,0,none⟩),v,.agg #[l,z,x,y]] w fun e w'=>e=.returned (.bool (decide (((fB bs bs.length ⟨l,z,x,y⟩:Nat):Int)<=v)))/\Below w.heap.size w w':=by
 have hlt0:=an hf;have hb0:=(Below.refl w.heap.size w).alloc aD (.cells #[l,z,x,y] 39);have hA:=heap_alloc_new w (.cells #[l,z,x,y] 39)
 have hz1:(w.alloc (.cells #[l,z,x,y] 39)).heap.size=w.heap.size+1:=by simp
 obtain⟨w1,hw1⟩:∃w1,w.alloc (.cells #[l,z,x,y] 39)=w1:=⟨_,rfl⟩;rw[hw1] at hb0 hA hz1;have HW1:=ae hw1;have hf1:=ag hf hb0;have hR1:=hR.on hb0;have hF:∀W,Below w1.heap.size w1 W->W.cell? ⟨fb,5,none⟩=some (.pointer (some ⟨X.sb,0,none⟩)):=fun W h=>aF.c (X:=X) (ag hf1 h) 5 rfl;have hK:∀W,Below w1.heap.size w1 W->W.rangeAt w.heap.size 0 #[.int .i64 l,.int .i64 z,.int .i64 x,.int .i64 y].toList:=fun W h=>ao (ag hA h);have LA:∀W,Below w1.heap.size w1 W->Calls prog 79 #[.pointer (some ⟨X.sb,0,none⟩),.int .i64 (bs.length:Nat),.agg #[l,z,x,y]] W fun e w'=>e=.returned (.int .i64 (mF bs l z x y bs.length:Nat))/\Below W.heap.size W w':=fun W h=>Last_any X.sb keep bv pv SL bs PI bs.length l z x y W (hR1.on h) aD hB.n hB.b8;have VE:∀W,Below w1.heap.size w1 W->Calls prog 56 #[.pointer (some ⟨X.sb,0,none⟩)] W fun e w'=>e=.returned (.int .i64 (bs.length:Nat))/\Below W.heap.size W w':=fun W h=>(dv (hR1.on h)).mono fun e w' q=>⟨q.1,q.2▸Below.refl _ _⟩;unfold fB;dsimp only;generalize hS:((mF bs l z x y bs.length:Nat):Int)=S at LA ⊢;have HB0:=ae hb0;clear hf hR hR1 hf1 hb0 hS hw1;go_enter func95,ntmps95
 go_wp2_with fail
 rw[aa HW1]
 refine aM (by kernel_rfl) (by kernel_rfl) ?_
 refine eI fb 0 ?_;refine bd fb 0 ?_;refine bd fb 5 ?_
 refine bd X.sb 0 ?_ (h:=fun w' hw'=>by simp[go_sem,hF w' hw'])
 refine eI fb 0 ?_;refine bd fb 0 ?_;refine bd fb 5 ?_
 refine bd X.sb 0 ?_ (h:=fun w' hw'=>by simp[go_sem,hF w' hw'])
 refine eB rfl 56 (#[.pointer (some ⟨X.sb,0,none⟩)]) (fun _=>by simp[go_sem]) (.int .i64 (bs.length:Nat)) (VE) ?_
 simp only[qZ];refine aR rfl 39 _ rfl (w.heap.size) (0) rfl (#[l,z,x,y]) _ underlying39 rfl (bj _ _ _ _) (hK) ?_;simp only[qZ]
 refine eB rfl 79 (#[.pointer (some ⟨X.sb,0,none⟩),.int .i64 (bs.length:Nat),.agg #[l,z,x,y]]) (fun _=>by simp[go_sem]) (.int .i64 S) (LA) ?_
 simp only[qZ];refine bF rfl _ rfl (.int .i64 S) rfl ?_;simp only[qZ];refine wpQuiet_nil ?_;intro w2 hw2
 have HB2:=ae ((aa HB0).trans (hw2.mono (by omega)))
 clear hw2 hF hK LA hA VE
 go_wp2_with fail
 go_ret;exact⟨rfl,aa HB2⟩
theorem mu (v:Nat)(l z x y:Int)(hf:aF w fb X)(hR:eV w X.sb keep bv pv SL bs PI)(hB:ke bs)(hv:v<=bs.length)(hk:dy ⟨l,z,x,y⟩):
  Calls prog 145 #[.pointer (some ⟨fb,0,none⟩),v,.agg #[l,z,x,y]] w fun e w'=>e=.returned (.string (cg (dk bs v) ⟨l,z,x,y⟩))/\Below w.heap.size w w':=by
 have hlt0:=an hf;have hb0:=(Below.refl w.heap.size w).alloc aD (.cells #[l,z,x,y] 39);have hA:=heap_alloc_new w (.cells #[l,z,x,y] 39)
 have hz1:(w.alloc (.cells #[l,z,x,y] 39)).heap.size=w.heap.size+1:=by simp
 obtain⟨w1,hw1⟩:∃w1,w.alloc (.cells #[l,z,x,y] 39)=w1:=⟨_,rfl⟩;rw[hw1] at hb0 hA hz1;have HW1:=ae hw1;have hf1:=ag hf hb0;have hR1:=hR.on hb0;have hF:∀W,Below w1.heap.size w1 W->W.cell? ⟨fb,5,none⟩=some (.pointer (some ⟨X.sb,0,none⟩)):=fun W h=>aF.c (X:=X) (ag hf1 h) 5 rfl;have hK:∀W,Below w1.heap.size w1 W->W.rangeAt w.heap.size 0 #[.int .i64 l,.int .i64 z,.int .i64 x,.int .i64 y].toList:=fun W h=>ao (ag hA h);clear HW1;subst hw1;have c5:=hF _ bu;have AT:=At_any X.sb keep bv pv SL bs PI v _ hR1 hv hB.n hB.b8;have hrt:=hB.rt v hv;have h40:=d7 bs v;have TI:=ae (fun(W:World) (u:Value) (hu:bL rF W u (dk bs v))=>Tile_any u _ _ l z x y W hu.csF hk.err h40 (pL hrt));have PA:=ae (fun(W:World)=>Pk.refPack_yes (tile (dk bs v) l z x y) W (okTile hrt l z x y));have HB0:=ae hb0;have HA:=ae hA;clear hf hR hR1 hf1 hb0 hk hF hK hrt h40 hA;go_enter func145,ntmps145
 go_wp2_with fail
 refine AT.mono ?_;rintro e w2 ⟨rv,rfl,hrv,hb2⟩;obtain⟨ra,rc,re,_⟩:=id hrv;have TI2:=aa TI w2 rv hrv;have hk2:w2.rangeAt w.heap.size 0 #[.int .i64 l,.int .i64 z,.int .i64 x,.int .i64 y].toList:=ao (ag (aa HA) hb2);have HB2:=ae ((aa HB0).trans (hb2.mono (aa HB0).size));clear hrv hb2 AT TI c5;subst re
 go_wp2_with (refine bU 39 #[l,z,x,y] underlying39 rfl (bj _ _ _ _) w.heap.size 0 hk2 rfl _ rfl rfl ?_)
 refine TI2.mono ?_;rintro e w3 ⟨rfl,hb3⟩;have PA3:=aa PA w3;have HB3:=ae ((aa HB2).trans (hb3.mono (aa HB2).size));clear hb3 TI2 PA hk2;have ht:(tile (dk bs v) l z x y)=⟨(kP (gf (dk bs v)) (dk bs v).length l z x y 64).toArray⟩:=rfl;rw[ht] at PA3;have HT:=ae ht;clear ht
 go_wp2_with fail
 refine PA3.mono ?_;rintro e w4 ⟨rfl,hb4⟩;have HB4:=ae ((aa HB3).trans (hb4.mono (aa HB3).size));clear hb4 PA3
 go_wp2_with fail
 go_ret;exact⟨rfl,aa HB4⟩
end
theorem mn {α:Type}{l:List α}{k:Nat}{a:α}(i:Nat)(h:l[k]?=some a):(l.take (k+1)).eraseIdx i=(l.take k).eraseIdx i++(if k=i then [] else [a]):=by
 have hk:k<l.length:=(List.getElem?_eq_some_iff.1 h).1
 have hl:(l.take k).length=k:=by rw[List.length_take]; omega
 rw[be h]
 by_cases c:i<k
 ·rw[List.eraseIdx_append_of_lt_length (by omega),if_neg (by omega)]
 rw[List.eraseIdx_append_of_length_le (by omega),hl,List.eraseIdx_of_length_le (l:=l.take k) (by omega)]
 by_cases e:k=i
 ·rw[if_pos e,e]; simp
 rw[if_neg e,List.eraseIdx_of_length_le (by simp; omega)]
theorem dropJob_any (fb:Nat)(X:RV)(ws:List Jb)(i:Nat)(w:World)(hf:aF w fb X)(ho:ah jP 165 w X.jv ws)(hl:ws.length<=10000000):
  Calls prog 147 #[.pointer (some ⟨fb,0,none⟩),i] w fun e w'=>e=.returned (.tuple #[])/\(∃v',aF w' fb { X with jv:=v' }/\ah jP 165 w' v' (ws.eraseIdx i)/\∀g,v'.ownBlock=some g->w.heap.size<=g)/\aE (fun k=>k=fb) w w':=by
 have hlt0:=an hf;obtain⟨oa,cap,e,hcap,hm,hc⟩:=ho.at;have HC:=ae hc;have HF:=ae hf
 have c8:w.cell? ⟨fb,10,none⟩=some (.slice oa ws.length cap):=by rw[<-e]; exact hf.c 10 rfl
 have HC8:=ae c8;clear hf ho hc e c8;go_enter func147,ntmps147
 go_wp2_with fail
 go_loopw [4,5] (fun lv i' wr=>∃k:Nat,k<=ws.length/\i'=.int .i64 k/\ah jP 165 wr lv ((ws.take k).eraseIdx i)/\Hid (∀g,lv.ownBlock=some g->w.heap.size<=g)/\Below w.heap.size w wr) (fun _ i' _=>ws.length-(intOf i').toNat)
 case atStart=>exact⟨0,by omega,rfl,by simpa using aU,ae (fun g hg=>by simp[Value.ownBlock] at hg),Below.refl _ _⟩
 case round=>
  obtain⟨k,hk,rfl,hown,hfr,hb⟩:=hrel;have hsz:=hb.size;have r8:=(hb.cell (p:=⟨fb,10,none⟩) hlt0).trans (aa HC8)
  by_cases hlt:k<ws.length
  ·have hkn:(k:Int)<ws.length:=by omega
   obtain⟨b,off,rfl,hbl,hc0⟩:=aa HC (by omega)
   obtain⟨r,ht⟩:∃t,ws[k]?=some t:=⟨_,List.getElem?_eq_getElem hlt⟩;have hrg:=dA (bL.jb hc0 ht) hb hbl;have hfs:=mn i ht;have HB2:=ae hb;clear hb hc0
   by_cases hp:k=i
   ·subst hp
    rw[if_pos rfl,List.append_nil] at hfs;rw[<-hfs] at hown;have HO3:=ae hown;clear hown hfs
    go_wp2_with fail
    go_roundw
    case rel=>exact⟨k+1,by omega,by go_num,aa HO3,hfr,aa HB2⟩
    case measure=>simp[intOf]; omega
   have hne:((k:Int)==(i:Int))=false:=by simp only[beq_eq_false_iff_ne]; omega
   have hne':¬(k:Int)=(i:Int):=by omega
   rw[if_neg hp] at hfs;have hat:=aZ jP 165 wr r r.a rfl;have hownA:=hown.on (bu.alloc aD (.cells r.a 165))
   obtain⟨v3,w3,r1,r2,r3,r4⟩:=apJb hownA hat (by have:=List.length_eraseIdx_le (ws.take k) i; simp only[List.length_take,List.length_singleton] at this ⊢; omega)
   rw[<-hfs] at r2;have HO3:=ae r2
   have HB3:=ae (((aa HB2).alloc hsz (.cells r.a 165)).grown r3 (by simp; omega) (fun g hg=>aa hfr g hg))
   have HFR:=ae (bN (aa hfr) r4 (by simp; omega))
   clear hown hat hownA r2 r3 r4 hfs hp
   go_wp2_with (first|refine bU 165 r.a underlying165 rfl (fu r) b (off+k*8) hrg rfl _ rfl rfl ?_|refine cP _ _ (bsJb r _ _ _ rfl rfl _) rfl ?_|(at_builtin; refine fS 132 r1 rfl _ _ rfl rfl rfl rfl ?_))
   go_roundw
   case rel=>exact⟨k+1,by omega,by go_num,aa HO3,aa HFR,aa HB3⟩
   case measure=>simp[intOf]; omega
  have hkn:k=ws.length:=by omega
  have hfb:=ag (aa HF) hb;have hfz:=kr hfb 10
  have htl:ws.take k=ws:=by rw[hkn,List.take_length]
  rw[htl] at hown
  have HH:Hid ((∃v',aF (wr.setCell ⟨fb,10,none⟩ u4) fb { X with jv:=v' }/\ah jP 165 (wr.setCell ⟨fb,10,none⟩ u4) v' (ws.eraseIdx i)/\∀g,v'.ownBlock=some g->w.heap.size<=g)/\aE (fun k=>k=fb) w (wr.setCell ⟨fb,10,none⟩ u4)):=
   ⟨⟨u4,aF.set hfb 10 u4 (RV.set_jv X u4),hown.same (fun g hg=>Below.heap_setCell _ _ _ _ (by have:=aa hfr g hg; show g≠fb; omega)),aa hfr⟩,(aE.of_below hb).setCell u4 (fun _=>rfl)⟩
  obtain⟨oa4,n4,c4,rfl⟩:=hown.sl;clear hown hb hfb htl;subst hkn
  go_wp2_with fail
  exact bodyPost_end (results_none results147 _ _ _) rfl ⟨rfl,aa HH⟩
theorem iY (fb:Nat)(X:RV)(ws:List En)(i:Nat)(w:World)(hf:aF w fb X)(ho:ah iM 162 w X.ev ws)(hl:ws.length<=10000000):
  Calls prog 178 #[.pointer (some ⟨fb,0,none⟩),i] w fun e w'=>e=.returned (.tuple #[])/\(∃v',aF w' fb { X with ev:=v' }/\ah iM 162 w' v' (ws.eraseIdx i)/\∀g,v'.ownBlock=some g->w.heap.size<=g)/\aE (fun k=>k=fb) w w':=by
 have hlt0:=an hf;obtain⟨oa,cap,e,hcap,hm,hc⟩:=ho.at;have HC:=ae hc;have HF:=ae hf
 have c8:w.cell? ⟨fb,11,none⟩=some (.slice oa ws.length cap):=by rw[<-e]; exact hf.c 11 rfl
 have HC8:=ae c8;clear hf ho hc e c8;go_enter func178,ntmps178
 go_wp2_with fail
 go_loopw [4,5] (fun lv i' wr=>∃k:Nat,k<=ws.length/\i'=.int .i64 k/\ah iM 162 wr lv ((ws.take k).eraseIdx i)/\Hid (∀g,lv.ownBlock=some g->w.heap.size<=g)/\Below w.heap.size w wr) (fun _ i' _=>ws.length-(intOf i').toNat)
 case atStart=>exact⟨0,by omega,rfl,by simpa using aU,ae (fun g hg=>by simp[Value.ownBlock] at hg),Below.refl _ _⟩
 case round=>
  obtain⟨k,hk,rfl,hown,hfr,hb⟩:=hrel;have hsz:=hb.size;have r8:=(hb.cell (p:=⟨fb,11,none⟩) hlt0).trans (aa HC8)
  by_cases hlt:k<ws.length
  ·have hkn:(k:Int)<ws.length:=by omega
   obtain⟨b,off,rfl,hbl,hc0⟩:=aa HC (by omega)
   obtain⟨r,ht⟩:∃t,ws[k]?=some t:=⟨_,List.getElem?_eq_getElem hlt⟩;have hrg:=dA (bL.en hc0 ht) hb hbl;have hfs:=mn i ht;have HB2:=ae hb;clear hb hc0
   by_cases hp:k=i
   ·subst hp
    rw[if_pos rfl,List.append_nil] at hfs;rw[<-hfs] at hown;have HO3:=ae hown;clear hown hfs
    go_wp2_with fail
    go_roundw
    case rel=>exact⟨k+1,by omega,by go_num,aa HO3,hfr,aa HB2⟩
    case measure=>simp[intOf]; omega
   have hne:((k:Int)==(i:Int))=false:=by simp only[beq_eq_false_iff_ne]; omega
   have hne':¬(k:Int)=(i:Int):=by omega
   rw[if_neg hp] at hfs;have hat:=aZ iM 162 wr r r.a rfl;have hownA:=hown.on (bu.alloc aD (.cells r.a 162))
   obtain⟨v3,w3,r1,r2,r3,r4⟩:=apEn hownA hat (by have:=List.length_eraseIdx_le (ws.take k) i; simp only[List.length_take,List.length_singleton] at this ⊢; omega)
   rw[<-hfs] at r2;have HO3:=ae r2
   have HB3:=ae (((aa HB2).alloc hsz (.cells r.a 162)).grown r3 (by simp; omega) (fun g hg=>aa hfr g hg))
   have HFR:=ae (bN (aa hfr) r4 (by simp; omega))
   clear hown hat hownA r2 r3 r4 hfs hp
   go_wp2_with (first|refine bU 162 r.a underlying162 rfl (sz162 r) b (off+k*7) hrg rfl _ rfl rfl ?_|refine cP _ _ (bsEn r _ _ _ rfl rfl _) rfl ?_|(at_builtin; refine fS 133 r1 rfl _ _ rfl rfl rfl rfl ?_))
   go_roundw
   case rel=>exact⟨k+1,by omega,by go_num,aa HO3,aa HFR,aa HB3⟩
   case measure=>simp[intOf]; omega
  have hkn:k=ws.length:=by omega
  have hfb:=ag (aa HF) hb;have hfz:=kr hfb 11
  have htl:ws.take k=ws:=by rw[hkn,List.take_length]
  rw[htl] at hown
  have HH:Hid ((∃v',aF (wr.setCell ⟨fb,11,none⟩ u4) fb { X with ev:=v' }/\ah iM 162 (wr.setCell ⟨fb,11,none⟩ u4) v' (ws.eraseIdx i)/\∀g,v'.ownBlock=some g->w.heap.size<=g)/\aE (fun k=>k=fb) w (wr.setCell ⟨fb,11,none⟩ u4)):=
   ⟨⟨u4,aF.set hfb 11 u4 (RV.set_ev X u4),hown.same (fun g hg=>Below.heap_setCell _ _ _ _ (by have:=aa hfr g hg; show g≠fb; omega)),aa hfr⟩,(aE.of_below hb).setCell u4 (fun _=>rfl)⟩
  obtain⟨oa4,n4,c4,rfl⟩:=hown.sl;clear hown hb hfb htl;subst hkn
  go_wp2_with fail
  exact bodyPost_end (results_none results178 _ _ _) rfl ⟨rfl,aa HH⟩
set_option linter.unusedVariables false
theorem eV.frmT {w w':World}{rb:Nat}{keep:Int}{bv pv:Value}{SL:List cA}{bs:List bK}{PI:List Int}{S:Nat->Prop}{Ts:List TypeId}(h:eV w rb keep bv pv SL bs PI)(hF:aE S w w')(hS:fQ S w Ts)(h1:121∉Ts)(h2:40∉Ts)(h3:100∉Ts)(h4:3∉Ts):eV w' rb keep bv pv SL bs PI:=
 ⟨bJ h.blk hF hS h1,h.bat.frmT hF hS h2,h.len,fun i s b hs hb=>(h.bts i s b hs hb).frmT hF hS h3,h.pin.frmT hF hS h4⟩
def dropK (ts:List En)(k:K4):List En:=match dB ts k with
 | some i=>ts.eraseIdx i
 | none=>ts
theorem dropK_sub (ts:List En)(k:K4):(dropK ts k).Sublist ts:=by
 unfold dropK
 split
 ·exact List.eraseIdx_sublist _ _
 exact List.Sublist.refl _
theorem ko {ts:List En}(h:0<ts.length):(ts.eraseIdx (dE ts ts.length)).length<ts.length:=by
 have:=lg ts ts.length h
 rw[List.length_eraseIdx_of_lt this]; omega
def pD (room n:Nat)(ts:List En):List En:=if h:0<ts.length/\room<aY ts+n then pD room n (ts.eraseIdx (dE ts ts.length)) else ts
termination_by ts.length
decreasing_by exact ko h.1
theorem evE_go {room n:Nat}{ts:List En}(h:0<ts.length)(h':room<aY ts+n):pD room n ts=pD room n (ts.eraseIdx (dE ts ts.length)):=by
 rw[pD,dif_pos ⟨h,h'⟩]
theorem jV {room n:Nat}{ts:List En}(h:¬(0<ts.length/\room<aY ts+n)):pD room n ts=ts:=by
 rw[pD,dif_neg h]
def mG (ca cnt:Nat)(ts:List En)(t:aL):Nat × List En:=if ca<t.body.size then (cnt,ts) else (cnt+1,pD ca t.body.size (dropK ts t.k)++[⟨t.k,t.body,t.tag,(cnt:Int)+1⟩])
def KpP (w:World)(fb:Nat)(X:RV)(n:Nat)(ts':List En)(w':World):Prop:=
 (∃ev',aF w' fb { X with ct:=n,ev:=ev' }/\ah iM 162 w' ev' ts'/\∀g,ev'.ownBlock=some g->X.ev.ownBlock=some g\/w.heap.size<=g)/\aE (fun k=>k=fb\/X.ev.ownBlock=some k) w w'
def elen (fb:Nat)(w:World):Nat:=match w.cell? ⟨fb,11,none⟩ with
 | some (.slice _ n _)=>n
 | _=>0
theorem elen_eq {fb:Nat}{w:World}{X:RV}{us:List En}(hf:aF w fb X)(hv:bL iM w X.ev us):elen fb w=us.length:=by
 obtain⟨oa,cap,e,_⟩:=hv;have c:=hf.c 11 (u:=X.ev) rfl;unfold elen;rw[c,e]
theorem tyE {w:World}{fb:Nat}{X:RV}{ts:List En}(hf:aF w fb X)(ho:ah iM 162 w X.ev ts):fQ (fun k=>k=fb\/X.ev.ownBlock=some k) w [135,162]:=fun k hk=>by
 rcases hk with rfl|hk
 ·exact⟨_,_,hf,by simp⟩
 obtain⟨c,hc⟩:=ho.ty hk
 exact⟨_,_,hc,by simp⟩
theorem built162 (l z x y u:Int)(B T:ByteArray):prog.built 162 [(0,.agg #[l,z,x,y]),(1,.string B),(2,.string T),(3,.int .i64 u)]=some (En.a ⟨⟨l,z,x,y⟩,B,T,u⟩):=by kernel_rfl
theorem bEn (l z x y u:Int)(B T:ByteArray)(ev:Operand->Value)(o:Oper)(p q r s:Operand)(ho:o.op=.build 162 #[(0,p),(1,q),(2,r),(3,s)])(h0:ev p=.agg #[l,z,x,y])(h1:ev q=.string B)(h2:ev r=.string T)(h3:ev s=.int .i64 u)(w:World):(execOp ev o).run prog w=.ok (.value (.agg (En.a ⟨⟨l,z,x,y⟩,B,T,u⟩))) w:=by
 have hb:=run_build (P:=prog) w 162 #[(0,.agg #[l,z,x,y]),(1,.string B),(2,.string T),(3,.int .i64 u)] _ (built162 l z x y u B T);unfold execOp;simp[ho,h0,h1,h2,h3,hb]
section
variable {w:World}{fb:Nat}{X:RV}{keep:Int}{bv pv:Value}{SL:List cA}{bs:List bK}{PI:List Int}
theorem keep_any (v:Nat)(l z x y:Int)(ca cnt:Nat)(ts:List En)(hf:aF w fb X)(hca:X.ca=ca)(hct:X.ct=cnt)(hcb:cnt<=1000000000)(hR:eV w X.sb keep bv pv SL bs PI)(hB:ke bs)(hv:v<=bs.length)(hk:dy ⟨l,z,x,y⟩)(ho:ah iM 162 w X.ev ts)(hl:ts.length<=100000)(hby:aY ts<=1000000):
  Calls prog 146 #[.pointer (some ⟨fb,0,none⟩),v,.agg #[l,z,x,y]] w fun e w'=>e=.returned (.tuple #[])/\KpP w fb X (mG ca cnt ts ⟨⟨l,z,x,y⟩,cg (dk bs v) ⟨l,z,x,y⟩,du ⟨l,z,x,y⟩ (fB bs v ⟨l,z,x,y⟩)⟩).1 (mG ca cnt ts ⟨⟨l,z,x,y⟩,cg (dk bs v) ⟨l,z,x,y⟩,du ⟨l,z,x,y⟩ (fB bs v ⟨l,z,x,y⟩)⟩).2 w':=by
 have hlt0:=an hf;have hT:=tyE hf ho;have hb0:=(Below.refl w.heap.size w).alloc aD (.cells #[l,z,x,y] 39);have hA:=heap_alloc_new w (.cells #[l,z,x,y] 39);have BO:=mu v l z x y (ag hf hb0) (hR.on hb0) hB hv hk;have TG:=ae (fun(W:World) (Y:RV) (h1:aF W fb Y) (h2:eV W Y.sb keep bv pv SL bs PI)=>kX v l z x y h1 h2 hB hv hk);have hbs:=(gu (hB.rt v hv) ⟨l,z,x,y⟩).2;generalize cg (dk bs v) ⟨l,z,x,y⟩=B at BO hbs ⊢;generalize du ⟨l,z,x,y⟩ (fB bs v ⟨l,z,x,y⟩)=T at TG ⊢;have hKr:∀W,Below (w.alloc (.cells #[l,z,x,y] 39)).heap.size (w.alloc (.cells #[l,z,x,y] 39)) W->W.heap[w.heap.size]?=some (.cells #[l,z,x,y] 39):=fun W h=>ag hA h;have k1:(w.alloc (.cells #[l,z,x,y] 39)).rangeAt w.heap.size 0 #[.int .i64 l,.int .i64 z,.int .i64 x,.int .i64 y].toList:=ao hA;have HR:=ae hR;have HF:=ae hf;have HO:=ae ho;have HT:=ae hT;have HKR:=ae hKr;have HB0:=ae hb0
 have HBY:=ae hby
 have HCA:=ae hca;have HCT:=ae hct;clear hf hR ho hT hb0 hA hKr hk hB hby hca hct;go_enter func146,ntmps146
 go_wp2_with (refine bU 39 #[l,z,x,y] underlying39 rfl (bj _ _ _ _) w.heap.size 0 k1 rfl _ rfl rfl ?_)
 refine BO.mono ?_;rintro e w2 ⟨rfl,hb2⟩;have hb02:=(aa HB0).trans (hb2.mono (aa HB0).size);have hf2:=ag (aa HF) hb02
 have c3:w2.cell? ⟨fb,3,none⟩=some (.int .i64 ca):=by rw[<-aa HCA]; exact aF.c (X:=X) hf2 3 rfl
 have hK2:=aa HKR w2 hb2;have k2:w2.rangeAt w.heap.size 0 #[.int .i64 l,.int .i64 z,.int .i64 x,.int .i64 y].toList:=ao hK2;have ho2:=(aa HO).on hb02
 by_cases hbig:ca<B.size
 ·have hbi:(ca:Int)<B.size:=by omega
  have HQ:Hid (KpP w fb X (mG ca cnt ts ⟨⟨l,z,x,y⟩,B,T⟩).1 (mG ca cnt ts ⟨⟨l,z,x,y⟩,B,T⟩).2 w2):=by
   unfold mG;rw[if_pos hbig];refine⟨⟨X.ev,?_,ho2,fun g hg=>Or.inl hg⟩,aE.of_below hb02⟩
   rw[<-aa HCT]; exact hf2
  clear hf2 ho2 hK2 k2 hb02 hb2 BO k1
  go_wp2_with fail
  exact bodyPost_ret (results_none results146 _ _ _) rfl ⟨rfl,aa HQ⟩
 have hbi:¬(ca:Int)<B.size:=by omega
 have hkp:mG ca cnt ts ⟨⟨l,z,x,y⟩,B,T⟩=(cnt+1,pD ca B.size (dropK ts ⟨l,z,x,y⟩)++[⟨⟨l,z,x,y⟩,B,T,(cnt:Int)+1⟩]):=by unfold mG; rw[if_neg hbig]
 have HKP:=ae hkp
 have EN:=nO fb X ts l z x y w2 hf2 ho2.at (by omega)
 have H2:=ae (And.intro hf2 (And.intro ho2 (And.intro hK2 hb02)));clear hf2 ho2 hK2 hb02 hb2 BO k1 hkp hbig
 go_wp2_with (refine bU 39 #[l,z,x,y] underlying39 rfl (bj _ _ _ _) w.heap.size 0 k2 rfl _ rfl rfl ?_)
 refine EN.mono ?_;rintro e w3 ⟨rfl,hb3⟩;obtain⟨hf2,ho2,hK2,hb02⟩:=aa H2;have hf3:=ag hf2 hb3;have ho3:=ho2.on hb3;have hK3:=ag hK2 hb3;have hb03:=hb02.trans (hb3.mono hb02.size);clear hf2 ho2 hK2 hb02 hb3 H2 EN k2 c3;obtain⟨i,hi⟩:∃i,dB ts ⟨l,z,x,y⟩=i:=⟨_,rfl⟩;rw[hi]
 rcases i with _|i
 case' none=>
  have hdk:dropK ts ⟨l,z,x,y⟩=ts:=by unfold dropK; rw[hi]
  have H4:Hid (∃(evr:Value) (us:List En),aF w3 fb { X with ev:=evr }/\ah iM 162 w3 evr us/\(∀g,evr.ownBlock=some g->X.ev.ownBlock=some g\/w.heap.size<=g)/\pD ca B.size us=pD ca B.size (dropK ts ⟨l,z,x,y⟩)/\us.length<=100000/\aY us<=1000000/\w3.heap[w.heap.size]?=some (.cells #[l,z,x,y] 39)/\aE (fun k=>k=fb) w w3):=
   ⟨X.ev,ts,hf3,ho3,fun g hg=>Or.inl hg,by rw[hdk],hl,aa HBY,hK3,aE.of_below hb03⟩
  clear hf3 ho3 hK3 hb03 hdk hi;simp only[m5]
  go_wp2_with fail
 case' some=>
  have hdk:dropK ts ⟨l,z,x,y⟩=ts.eraseIdx i:=by unfold dropK; rw[hi]
  have DE:=iY fb X ts i w3 hf3 ho3 (by omega)
  have H3:=ae (And.intro hf3 (And.intro hK3 (And.intro hb03 hdk)))
  have hi0:(0:Int)<=(i:Int):=by omega
  clear hf3 ho3 hK3 hb03 hdk hi;simp only[m5]
  go_wp2_with fail
  refine DE.mono ?_;rintro e w4 ⟨rfl,⟨ev4,hf4,ho4,hfr4⟩,hF4⟩
  have H4:Hid (∃(evr:Value) (us:List En),aF w4 fb { X with ev:=evr }/\ah iM 162 w4 evr us/\(∀g,evr.ownBlock=some g->X.ev.ownBlock=some g\/w.heap.size<=g)/\pD ca B.size us=pD ca B.size (dropK ts ⟨l,z,x,y⟩)/\us.length<=100000/\aY us<=1000000/\w4.heap[w.heap.size]?=some (.cells #[l,z,x,y] 39)/\aE (fun k=>k=fb) w w4):=by
   obtain⟨g1,g2,g3,g4⟩:=aa H3;have:=g3.size
   exact⟨ev4,_,hf4,ho4,fun g hg=>Or.inr (by have:=hfr4 g hg; omega),by rw[g4],by have:=List.length_eraseIdx_le ts i; omega,by have:=gr (List.eraseIdx_sublist ts i); have:=aa HBY; omega,aQ g2 hF4 (by omega),(aE.of_below g3).then hF4 (fun _ _ h=>h)⟩
  clear hf4 ho4 hfr4 hF4 DE H3 hi0
  go_wp2_with fail
 all_goals
  go_loopw [8] (fun _ wr=>Hid (∃(evr:Value) (us:List En),aF wr fb { X with ev:=evr }/\ah iM 162 wr evr us/\(∀g,evr.ownBlock=some g->X.ev.ownBlock=some g\/w.heap.size<=g)/\pD ca B.size us=pD ca B.size (dropK ts ⟨l,z,x,y⟩)/\us.length<=100000/\aY us<=1000000/\wr.heap[w.heap.size]?=some (.cells #[l,z,x,y] 39)/\aE (fun k=>k=fb) w wr)) (fun _ wr=>elen fb wr)
  case atStart=>exact H4
  case round=>
   obtain⟨evr,us,hf4,ho4,hfr4,hev4,hul,hub,hK4,hF4⟩:=aa hrel;have htl:=elen_eq hf4 ho4.at
   have c3:wr.cell? ⟨fb,3,none⟩=some (.int .i64 ca):=by rw[<-aa HCA]; exact aF.c hf4 3 rfl
   have BQ:∀q,Calls prog 110 #[.pointer (some ⟨fb,0,none⟩)] (wr.drewN q) fun e w'=>e=.returned (.int .i64 (aY us))/\wr.drewN q=w':=fun q=>oe fb _ us _ (ag hf4 (nc wr q)) (ho4.at.on (nc wr q)) (by omega) (by omega)
   obtain⟨oa,cap,eq,_,_,hc⟩:=ho4.at
   have c11:wr.cell? ⟨fb,11,none⟩=some (.slice oa us.length cap):=by rw[<-eq]; exact aF.c hf4 11 rfl
   have exit:¬(0<us.length/\ca<aY us+B.size)->∀W,Below wr.heap.size wr W->aF W fb { X with ev:=evr }/\ah iM 162 W evr us/\(∀g,evr.ownBlock=some g->X.ev.ownBlock=some g\/w.heap.size<=g)/\pD ca B.size (dropK ts ⟨l,z,x,y⟩)=us/\W.heap[w.heap.size]?=some (.cells #[l,z,x,y] 39)/\aE (fun k=>k=fb) w W:=fun hn W hW=>⟨ag hf4 hW,ho4.on hW,hfr4,by rw[<-hev4]; exact jV hn,ag hK4 hW,hF4.then (aE.of_below (S:=fun k=>k=fb) hW) (fun _ _ h=>h)⟩
   have EX:=ae exit;have HFX:=ae (And.intro hf4 (And.intro ho4 (And.intro hfr4 (And.intro hev4 (And.intro hK4 hF4)))));have HTL:=ae htl;have HUB:=ae hub;have HRE:=ae hrel;clear exit hf4 ho4 hfr4 hev4 hK4 hF4 hc eq hrel htl hub
   by_cases hn:us.length=0
   case' pos=>
    obtain rfl:us=[]:=List.eq_nil_of_length_eq_zero hn
    have EX2:=ae (aa EX (by simp))
    simp only[List.length_nil] at c11;clear HFX HTL BQ EX HRE
    go_wp2_with fail
    go_quiet (fail)
    obtain⟨hf5,ho5,hfr5,hL5,hK5,hF5⟩:=aa EX2 (wr.drewN nq) (nc wr nq);generalize wr.drewN nq=w5 at hf5 ho5 hK5 hF5 ⊢;obtain⟨us,hus⟩:∃us:List En,us=[]:=⟨_,rfl⟩;rw[<-hus] at ho5 hL5
    have hul:us.length<=100000:=by rw[hus]; simp
    clear EX2 c11 c3 hus
   case' neg=>
    have hpos:(0:Int)<us.length:=by omega
    have hpn:0<us.length:=by omega
    have hpd:decide (0<us.length)=true:=decide_eq_true hpn;have hbb:=aa HUB
    have hwr:IntKind.i64.wrap ((aY us:Int)+(B.size:Int))=(aY us:Int)+(B.size:Int):=bG _ (by omega)
    by_cases hgo:ca<aY us+B.size
    ·have hgo':(ca:Int)<(aY us:Int)+(B.size:Int):=by omega
     have hevn:=evE_go (n:=B.size) hpn hgo;have hless:=ko hpn;have hle2:=gr (List.eraseIdx_sublist us (dE us us.length));have HEVN:=ae hevn;have HLESS:=ae hless;have HLE2:=ae hle2;clear EX HRE hgo hevn hless hle2
     go_wp2_with fail
     go_quiet (exact(BQ _).mono fun e w' h=>⟨h.1,_,h.2.symm⟩)
     obtain⟨g1,g2,g3,g4,g5,g6⟩:=aa HFX;have hw2:=nc wr nq;have hf2:=ag g1 hw2;have ho2:=g2.on hw2;have hK2:=ag g5 hw2;have hF2:aE (fun k=>k=fb) w (wr.drewN nq):=g6.then (aE.of_below (S:=fun k=>k=fb) hw2) (fun _ _ h=>h);generalize wr.drewN nq=w2' at hf2 ho2 hK2 hF2 ⊢
     have OD:=oldest_any fb _ us w2' hf2 ho2.at hpn (by omega)
     have HF2:=ae (And.intro hf2 (And.intro ho2 (And.intro g3 (And.intro g4 (And.intro hK2 hF2)))));clear hf2 ho2 hK2 hF2 g1 g2 g3 g4 g5 g6 hw2 BQ c11 c3 HFX hwr hgo' hbb
     go_wp2_with fail
     refine OD.mono ?_;rintro e w3' ⟨rfl,hb3'⟩;obtain⟨g1,g2,g3,g4,g5,g6⟩:=aa HF2;have hf3:=ag g1 hb3';have ho3:=g2.on hb3'
     have DE:=iY fb _ us (dE us us.length) w3' hf3 ho3 (by omega)
     have HF3:=ae (And.intro hf3 (And.intro g4 (And.intro (ag g5 hb3') (g6.then (aE.of_below (S:=fun k=>k=fb) hb3') (fun _ _ h=>h)))));clear hf3 ho3 g1 g2 g3 g4 g5 g6 hb3' OD HF2
     go_wp2_with fail
     refine DE.mono ?_;rintro e w4' ⟨rfl,⟨ev4,hf4,ho4,hfr4⟩,hF4⟩
     have HX4:Hid (∃(evr:Value) (us:List En),aF w4' fb { X with ev:=evr }/\ah iM 162 w4' evr us/\(∀g,evr.ownBlock=some g->X.ev.ownBlock=some g\/w.heap.size<=g)/\pD ca B.size us=pD ca B.size (dropK ts ⟨l,z,x,y⟩)/\us.length<=100000/\aY us<=1000000/\w4'.heap[w.heap.size]?=some (.cells #[l,z,x,y] 39)/\aE (fun k=>k=fb) w w4'):=by
      obtain⟨g1,g4,g5,g6⟩:=aa HF3;have:=g6.size;have:=an g5
      exact⟨ev4,_,hf4,ho4,fun g hg=>Or.inr (by have:=hfr4 g hg; omega),by rw[<-aa HEVN]; exact g4,by have:=aa HLESS; omega,by have:=aa HLE2; have:=aa HUB; omega,aQ g5 hF4 (by omega),g6.then hF4 (fun _ _ h=>h)⟩
     have HT4:=ae (elen_eq hf4 ho4.at);clear hf4 ho4 hfr4 hF4 DE HF3
     go_wp2_with fail
     go_roundw
     case rel=>exact HX4
     case measure=>
      have q1:=aa HT4;have q2:=aa HTL;have q3:=aa HLESS;omega
    have hgo':¬(ca:Int)<(aY us:Int)+(B.size:Int):=by omega
    have EX2:=ae (aa EX (fun q=>hgo q.2));clear HFX HTL EX HRE hgo
    go_wp2_with fail
    go_quiet (exact(BQ _).mono fun e w' h=>⟨h.1,_,h.2.symm⟩)
    obtain⟨hf5,ho5,hfr5,hL5,hK5,hF5⟩:=aa EX2 (wr.drewN nq) (nc wr nq);generalize wr.drewN nq=w5 at hf5 ho5 hK5 hF5 ⊢;clear EX2 c11 c3 BQ
   all_goals
    have hT0:fQ (fun k=>k=fb) w [135]:=fun k hk=>by subst hk; exact⟨_,_,aa HF,by simp⟩
    have hR5:eV w5 X.sb keep bv pv SL bs PI:=(aa HR).frmT hF5 hT0 (by decide) (by decide) (by decide) (by decide)
    have TG5:=aa TG w5 _ hf5 hR5;have k5:w5.rangeAt w.heap.size 0 #[.int .i64 l,.int .i64 z,.int .i64 x,.int .i64 y].toList:=ao hK5;have H5:=ae (And.intro hf5 (And.intro ho5 (And.intro hfr5 (And.intro hL5 (And.intro hK5 hF5)))));clear hf5 ho5 hfr5 hL5 hK5 hF5 hR5 TG
    go_wp2_with (refine bU 39 #[l,z,x,y] underlying39 rfl (bj _ _ _ _) w.heap.size 0 k5 rfl _ rfl rfl ?_)
    refine TG5.mono ?_;rintro e w6 ⟨rfl,hb6⟩;obtain⟨hf5,ho5,hfr5,hL5,hK5,hF5⟩:=aa H5;have hf6:=ag hf5 hb6;have ho6:=ho5.on hb6;have hK6:=ag hK5 hb6;have hF6:aE (fun k=>k=fb) w w6:=hF5.then (aE.of_below (S:=fun k=>k=fb) hb6) (fun _ _ h=>h)
    have c7:w6.cell? ⟨fb,7,none⟩=some (.int .i64 (cnt:Int)):=by rw[<-aa HCT]; exact aF.c (X:={ X with ev:=evr }) hf6 7 rfl
    have fz7:=kr hf6 7;obtain⟨w6',hw6⟩:∃w',w6.setCell ⟨fb,7,none⟩ (.int .i64 ((cnt:Int)+1))=w':=⟨_,rfl⟩;have hf7:aF w6' fb { X with ev:=evr,ct:=(cnt:Int)+1 }:=hw6▸aF.set hf6 7 _ (RV.set_ct _ _);have hF7:aE (fun k=>k=fb) w w6':=hw6▸hF6.setCell (p:=⟨fb,7,none⟩) _ (fun _=>rfl);have hF67:aE (fun k=>k=fb) w6 w6':=hw6▸(aE.rfl' _ _).setCell (p:=⟨fb,7,none⟩) _ (fun _=>rfl)
    have ho7:=ho6.frm hF67 (fun g hg=>au ho6 hf6 (by decide) g hg)
    have hK7:=aQ hK6 hF67 (by omega)
    have hov:IntKind.i64.wrap ((cnt:Int)+1)=(cnt:Int)+1:=bG _ (by omega)
    have H7:=ae (And.intro hf7 (And.intro ho7 (And.intro hK7 hF7)));have HFR5:=ae hfr5;have HL5:=ae hL5;have HW6:=ae hw6;clear hf5 ho5 hfr5 hL5 hK5 hF5 hf6 ho6 hK6 hF6 hf7 ho7 hK7 hF7 hF67 hb6 H5 TG5 k5 hw6
    go_wp2_with (refine cU w6' (kO _ _ _ _ rfl fb 7 ((cnt:Int)+1) rfl (by simp[go_sem]) w6 w6' c7 fz7 (aa HW6)) rfl ?_)
    refine wp_region_held (S:=fun w'=>w'.heap[w.heap.size]?=some (.cells #[l,z,x,y] 39)/\w'.cell? ⟨fb,7,none⟩=some (.int .i64 ((cnt:Int)+1))) (by kernel_rfl) ?_
    change wpAnyH _ _ _ _ _ _ _ _ (World.drew _);obtain⟨hf7,ho7,hK7,hF7⟩:=aa H7;have hf7:aF (World.drew w6') fb { X with ev:=evr,ct:=(cnt:Int)+1 }:=hf7;have ho7:ah iM 162 (World.drew w6') evr us:=ho7;have hK7:(World.drew w6').heap[w.heap.size]?=some (.cells #[l,z,x,y] 39):=hK7;have hF7:aE (fun k=>k=fb) w (World.drew w6'):=⟨hF7.os,hF7.tape,hF7.output,hF7.size,hF7.block⟩;generalize World.drew w6'=w7 at hf7 ho7 hK7 hF7 ⊢;have hS:w7.heap[w.heap.size]?=some (.cells #[l,z,x,y] 39)/\w7.cell? ⟨fb,7,none⟩=some (.int .i64 ((cnt:Int)+1)):=⟨hK7,aF.c hf7 7 rfl⟩;have hgl:w.heap.size<w7.heap.size:=an hK7;have hfl:fb<w7.heap.size:=an hf7;have c11:w7.cell? ⟨fb,11,none⟩=some evr:=aF.c hf7 11 rfl;have hbA:=(Below.refl w7.heap.size w7).alloc aD (.cells (En.a ⟨⟨l,z,x,y⟩,B,T,(cnt:Int)+1⟩) 162);have hfA:=ag hf7 hbA;have hSA:(w7.alloc (.cells (En.a ⟨⟨l,z,x,y⟩,B,T,(cnt:Int)+1⟩) 162)).heap[w.heap.size]?=some (.cells #[l,z,x,y] 39)/\(w7.alloc (.cells (En.a ⟨⟨l,z,x,y⟩,B,T,(cnt:Int)+1⟩) 162)).cell? ⟨fb,7,none⟩=some (.int .i64 ((cnt:Int)+1)):=⟨ag hK7 hbA,aF.c hfA 7 rfl⟩;have c11A:(w7.alloc (.cells (En.a ⟨⟨l,z,x,y⟩,B,T,(cnt:Int)+1⟩) 162)).cell? ⟨fb,11,none⟩=some evr:=aF.c hfA 11 rfl;have hat:=aZ iM 162 w7 ⟨⟨l,z,x,y⟩,B,T,(cnt:Int)+1⟩ (En.a ⟨⟨l,z,x,y⟩,B,T,(cnt:Int)+1⟩) rfl;have hoA:=ho7.on hbA
    obtain⟨v4,w8,r1,r2,r3,r4⟩:=apEn hoA hat (by simp; omega)
    have hK8:=(r3.block w.heap.size (by simp; omega) (fun q=>au hoA hSA.1 (by decide) w.heap.size q.symm rfl)).trans hSA.1
    have hf8:aF w8 fb { X with ev:=evr,ct:=(cnt:Int)+1 }:=(r3.block fb (by simp; omega) (fun q=>au hoA hfA (by decide) fb q.symm rfl)).trans hfA
    have hS8:w8.heap[w.heap.size]?=some (.cells #[l,z,x,y] 39)/\w8.cell? ⟨fb,7,none⟩=some (.int .i64 ((cnt:Int)+1)):=⟨hK8,aF.c hf8 7 rfl⟩;have hfz:=kr hf8 11;have c118:w8.cell? ⟨fb,11,none⟩=some evr:=aF.c hf8 11 rfl;obtain⟨oa4,n4,k4,rfl⟩:=r2.sl;obtain⟨w9,hw9⟩:∃w9,w8.setCell ⟨fb,11,none⟩ (.slice oa4 n4 k4)=w9:=⟨_,rfl⟩;have hf9:aF w9 fb { X with ct:=(cnt:Int)+1,ev:=.slice oa4 n4 k4 }:=hw9▸aF.set hf8 11 _ (RV.set_ev _ _);have hF89:aE (fun k=>k=fb) w8 w9:=hw9▸(aE.rfl' _ _).setCell (p:=⟨fb,11,none⟩) _ (fun _=>rfl)
    have hS9:w9.heap[w.heap.size]?=some (.cells #[l,z,x,y] 39)/\w9.cell? ⟨fb,7,none⟩=some (.int .i64 ((cnt:Int)+1)):=⟨aQ hK8 hF89 (by omega),aF.c hf9 7 rfl⟩
    have HQ:Hid (KpP w fb X (mG ca cnt ts ⟨⟨l,z,x,y⟩,B,T⟩).1 (mG ca cnt ts ⟨⟨l,z,x,y⟩,B,T⟩).2 w9):=by
     rw[aa HKP,aa HL5]
     refine⟨⟨.slice oa4 n4 k4,hf9,r2.frm hF89 (fun g hg=>au r2 hf8 (by decide) g hg),fun g hg=>?_⟩,?_⟩
     ·rcases r4 with r4|r4
      ·exact(aa HFR5 g (r4▸hg))
      have:=r4 g hg; simp at this; exact Or.inr (by omega)
     have hF8:aE (fun k=>k=fb\/X.ev.ownBlock=some k) w w8:=((hF7.mono (S':=fun k=>k=fb\/X.ev.ownBlock=some k) fun _ _ q=>Or.inl q).then (aE.of_below (S:=fun _=>False) hbA) (fun _ _ h=>h.elim)).grown r3 (fun g hg hlt=>by
      rcases aa HFR5 g hg with q|q
      ·exact Or.inr q
      omega)
     exact hF8.then hF89 (fun _ _ q=>Or.inl q)
    clear r2 r3 r4 hat hoA hfA hf7 ho7 hK7 hF7 hf8 hK8 hf9 hF89 hbA H7 HFR5 HL5;refine am 0 rfl fb 0 hS ?_;refine am 1 rfl fb 0 hS ?_;refine am 2 rfl fb 0 hS ?_;refine am 3 rfl fb 11 hS ?_;refine aH 5 rfl (.agg #[l,z,x,y]) hS ?_ (hy:=fun w' hw'=>jT _ _ _ 39 rfl _ rfl _ underlying39 rfl (bj _ _ _ _) w.heap.size 0 rfl _ (ao hw'.1));refine aH 6 rfl (.string B) hS ?_;refine aH 7 rfl (.string T) hS ?_;refine am 8 rfl fb 0 hS ?_;refine am 9 rfl fb 0 hS ?_;refine am 10 rfl fb 7 hS ?_
    refine aH 11 rfl (.int .i64 ((cnt:Int)+1)) hS ?_ (hy:=fun w' hw'=>by simp[go_sem,hw'.2])
    refine aH 12 rfl (.agg (En.a ⟨⟨l,z,x,y⟩,B,T,(cnt:Int)+1⟩)) hS ?_ (hy:=fun w' hw'=>bEn _ _ _ _ _ _ _ _ _ _ _ _ _ rfl rfl rfl rfl rfl w')
    refine wpAnyH_all (rs:=[4,13]) (by kernel_rfl) (by simp) ?_
    intro i hi;simp only[List.mem_cons,List.not_mem_nil,or_false] at hi
    rcases hi with rfl|rfl
    focus
     refine bI 4 rfl rfl (evr) (w7) (by simp[go_sem,c11]) (hS) ?_
     simp only[qZ];refine aV 13 ?_;refine bI 13 rfl rfl (.slice (some ⟨w7.heap.size,0,none⟩) 1 1) ((w7.alloc (.cells (En.a ⟨⟨l,z,x,y⟩,B,T,(cnt:Int)+1⟩) 162))) (bsEn ⟨⟨l,z,x,y⟩,B,T,(cnt:Int)+1⟩ _ _ _ rfl rfl _) (hSA) ?_
    rotate_left
    focus
     refine bI 13 rfl rfl (.slice (some ⟨w7.heap.size,0,none⟩) 1 1) ((w7.alloc (.cells (En.a ⟨⟨l,z,x,y⟩,B,T,(cnt:Int)+1⟩) 162))) (bsEn ⟨⟨l,z,x,y⟩,B,T,(cnt:Int)+1⟩ _ _ _ rfl rfl _) (hSA) ?_;simp only[qZ];refine aV 4 ?_
     refine bI 4 rfl rfl (evr) ((w7.alloc (.cells (En.a ⟨⟨l,z,x,y⟩,B,T,(cnt:Int)+1⟩) 162))) (by simp[go_sem,c11A]) (hSA) ?_
    all_goals
     simp only[qZ];refine aV 14 ?_;refine bI 14 rfl rfl (.slice oa4 n4 k4) (w8) (exR 133 r1 _ _ _ _ rfl rfl rfl rfl) (hS8) ?_;simp only[qZ];refine am 15 rfl fb 0 hS8 ?_;refine am 16 rfl fb 11 hS8 ?_;refine aV 17 ?_
     refine cL 17 rfl rfl (w9) (stS1 _ _ _ _ 133 rfl (fun _=>by simp[go_sem]) fb 11 oa4 n4 k4 rfl rfl w8 w9 c118 hfz hw9) (hS9) ?_
     simp only[Act.put]
     refine wpAnyH_done (by kernel_rfl) ?_ _
     clear hS hSA hS8 hS9 r1 c11 c11A c118 hfz hw9
     go_wp2_with fail
     exact bodyPost_end (results_none results146 _ _ _) rfl ⟨rfl,aa HQ⟩
end
theorem gg {g:Nat}{T:TypeId}:∀(vs:List Value) (o:Nat) (w:World) (cur:Array Value),w.heap[g]?=some (.cells cur T (0,0)) ->
  (w.setCells g o vs).heap[g]?=some (.cells (jg cur.toList o vs).toArray T (0,0))/\w.grownBy (w.setCells g o vs) (some g)
 | [],_,w,cur,h=>⟨by show w.heap[g]?=_; simpa[jg] using h,World.grownBy.refl _ _⟩
 | v::r,o,w,cur,h=>by
  have h1:(w.setCell ⟨g,o,none⟩ v).heap[g]?=some (.cells (cur.setIfInBounds o v) T (0,0)):=by simp[World.setCell,Array.getElem?_modify,h]
  have h2:w.grownBy (w.setCell ⟨g,o,none⟩ v) (some g):=⟨rfl,rfl,rfl,by simp[World.setCell],fun k _ hne=>Below.heap_setCell _ _ _ _ (fun e=>hne (by rw[e]))⟩
  obtain⟨h3,h4⟩:=gg r (o+1) _ _ h1;refine⟨?_,h4.os.trans h2.os,h4.tape.trans h2.tape,h4.output.trans h2.output,Nat.le_trans h2.size h4.size,fun k hk hne=>(h4.block k (Nat.lt_of_lt_of_le hk h2.size) hne).trans (h2.block k hk hne)⟩;rw[Array.toList_setIfInBounds] at h3;exact h3
theorem setR_take (xs vs:List Value)(o:Nat)(h:o+vs.length<=xs.length):(jg xs o vs).take o=xs.take o:=by
 apply List.ext_getElem?
 intro k
 by_cases c:k<o
 ·rw[List.getElem?_take_of_lt c,List.getElem?_take_of_lt c,kY _ _ _ _ h,if_neg (by omega)]
 rw[List.getElem?_eq_none (by rw[List.length_take]; omega),List.getElem?_eq_none (by rw[List.length_take]; omega)]
theorem setR_mid (xs vs:List Value)(o:Nat)(h:o+vs.length<=xs.length):((jg xs o vs).drop o).take vs.length=vs:=by
 apply List.ext_getElem?
 intro k
 by_cases c:k<vs.length
 ·rw[List.getElem?_take_of_lt c,List.getElem?_drop,kY _ _ _ _ h,if_pos (by omega),Nat.add_sub_cancel_left]
 rw[List.getElem?_eq_none (by rw[List.length_take]; omega),List.getElem?_eq_none (by omega)]
def lw {α:Type}(R:dR α)(T:TypeId)(w:World)(g off cap k:Nat)(x:α):Prop:=
 ∃cur:Array Value,w.heap[g]?=some (.cells cur T (0,0))/\off+cap*R.wid<=cur.size/\(cur.toList.drop off).take (k*R.wid)=R.all (List.replicate k x)
section
variable {α:Type}{R:dR α}{T:TypeId}{w w':World}{g off cap k:Nat}{x:α}
theorem lw.zero {n:Nat}{l:List α}(h:ah R T w (.slice (some ⟨g,off,none⟩) n cap) l):lw R T w g off cap 0 x:=by
 rcases h with⟨e,_⟩|⟨g',off',cap',cur,e,hh,h1,h2,h3,h4⟩
 ·cases e
 cases e
 exact⟨cur,hh,h3,by simp[dR.all]⟩
theorem lw.there (h:lw R T w g off cap k x)(hk:k<cap):w.there g (off+k*R.wid) R.wid:=by
 obtain⟨cur,hh,hs,_⟩:=h;intro j hj;have hle:(k+1)*R.wid<=cap*R.wid:=Nat.mul_le_mul_right _ hk;rw[Nat.succ_mul] at hle
 have hlt:off+k*R.wid+j<cur.size:=by omega
 refine⟨?_,by simp[World.frozen?,hh]⟩
 simp[World.cell?,hh,hlt]
theorem lw.step (h:lw R T w g off cap k x)(hk:k<cap):lw R T (w.setCells g (off+k*R.wid) (R.enc x)) g off cap (k+1) x/\w.grownBy (w.setCells g (off+k*R.wid) (R.enc x)) (some g):=by
 obtain⟨cur,hh,hs,hf⟩:=h;have hle:(k+1)*R.wid<=cap*R.wid:=Nat.mul_le_mul_right _ hk;rw[Nat.succ_mul] at hle;obtain⟨h1,h2⟩:=gg (R.enc x) (off+k*R.wid) w cur hh
 have hfit:off+k*R.wid+(R.enc x).length<=cur.toList.length:=by rw[R.len,Array.length_toList]; omega
 refine⟨⟨_,h1,by rw[List.size_toArray,lD,Array.length_toList]; exact hs,?_⟩,h2⟩
 rw[List.replicate_succ',R.all_app,show(jg cur.toList (off+k*R.wid) (R.enc x)).toArray.toList=jg cur.toList (off+k*R.wid) (R.enc x) from rfl];generalize hL:jg cur.toList (off+k*R.wid) (R.enc x)=L
 have e1:L.take (off+k*R.wid)=cur.toList.take (off+k*R.wid):=by rw[<-hL]; exact setR_take _ _ _ hfit
 have e2:(L.drop (off+k*R.wid)).take R.wid=R.enc x:=by
  have:=setR_mid cur.toList (R.enc x) (off+k*R.wid) hfit;rw[R.len,hL] at this;exact this
 rw[Nat.succ_mul,List.take_add,List.drop_drop,e2]
 congr 1
 ·rw[<-hf]
  have a1:(L.drop off).take (k*R.wid)=(L.take (off+k*R.wid)).drop off:=by rw[List.drop_take,Nat.add_sub_cancel_left]
  have a2:(cur.toList.drop off).take (k*R.wid)=(cur.toList.take (off+k*R.wid)).drop off:=by rw[List.drop_take,Nat.add_sub_cancel_left]
  rw[a1,a2,e1]
 simp[dR.all]
theorem lw.own (h:lw R T w g off cap cap x)(hm:cap<=maxLen):ah R T w (.slice (some ⟨g,off,none⟩) cap cap) (List.replicate cap x):=by
 obtain⟨cur,hh,hs,hf⟩:=h
 refine Or.inr ⟨g,off,cap,cur,by rw[List.length_replicate],hh,by rw[List.length_replicate]; exact Nat.le_refl _,hm,hs,?_⟩
 rw[List.length_replicate]; exact hf
end
structure OV where
 iv:Value
 fv:Value
 rv:Value
 gv:Value
 ev:Value
def OV.a (V:OV):Array Value:=#[V.iv,V.fv,V.rv,V.gv,V.ev]
def ei (j:Nat):Int:=-78-(j:Int)
def oP (j:Nat):Nat->Int:=fun t=>if t=0 then -78-(j:Int) else 0
def owE (j:Nat):Nat->Int:=fun t=>if t=0 then -78-(j:Int) else 0
def owR (j:Nat):gD:=⟨-78-(j:Int),0,⟨#[]⟩,⟨#[]⟩⟩
def owG (j:Nat):f9:=⟨⟨0,0,0,0⟩,-78-(j:Int),0,0,0⟩
structure bA (w:World)(ob:Nat)(V:OV)(IS FS RS GS ES:List cA):Prop where
 blk:w.heap[ob]?=some (.cells V.a 33)
 i:ah cq 60 w V.iv IS
 f:ah cq 62 w V.fv FS
 r:ah cq 89 w V.rv RS
 g:ah cq 104 w V.gv GS
 e:ah cq 40 w V.ev ES
 il:∀(j:Nat) (s:cA),IS[j]?=some s->ah rI 3 w s.v (List.replicate s.n (ei j))
 fl:∀(j:Nat) (s:cA),FS[j]?=some s->ah rF 66 w s.v (List.replicate s.n (oP j))
 rl:∀(j:Nat) (s:cA),RS[j]?=some s->ah bE 103 w s.v (List.replicate s.n (owR j))
 gl:∀(j:Nat) (s:cA),GS[j]?=some s->ah bC 107 w s.v (List.replicate s.n (owG j))
 el:∀(j:Nat) (s:cA),ES[j]?=some s->ah rE 100 w s.v (List.replicate s.n (owE j))
def j8 (ob:Nat)(V:OV)(IS FS RS GS ES:List cA)(k:Nat):Prop:=
 k=ob\/V.iv.ownBlock=some k\/V.fv.ownBlock=some k\/V.rv.ownBlock=some k\/V.gv.ownBlock=some k\/V.ev.ownBlock=some k\/∃s,(s∈IS\/s∈FS\/s∈RS\/s∈GS\/s∈ES)/\s.v.ownBlock=some k
theorem bA.cells {w:World}{ob:Nat}{V:OV}{IS FS RS GS ES:List cA}(h:bA w ob V IS FS RS GS ES)(i:Nat):w.cell? ⟨ob,i,none⟩=V.a[i]?:=af h.blk i
theorem bA.lt {w:World}{ob:Nat}{V:OV}{IS FS RS GS ES:List cA}(h:bA w ob V IS FS RS GS ES){k:Nat}(hk:j8 ob V IS FS RS GS ES k):k<w.heap.size:=by
 rcases hk with rfl|q|q|q|q|q|⟨s,hs,q⟩
 ·exact an h.blk
 ·exact h.i.lt q
 ·exact h.f.lt q
 ·exact h.r.lt q
 ·exact h.g.lt q
 ·exact h.e.lt q
 rcases hs with hs|hs|hs|hs|hs
 ·obtain⟨j,hj⟩:=List.mem_iff_getElem?.1 hs; exact(h.il j s hj).lt q
 ·obtain⟨j,hj⟩:=List.mem_iff_getElem?.1 hs; exact(h.fl j s hj).lt q
 ·obtain⟨j,hj⟩:=List.mem_iff_getElem?.1 hs; exact(h.rl j s hj).lt q
 ·obtain⟨j,hj⟩:=List.mem_iff_getElem?.1 hs; exact(h.gl j s hj).lt q
 obtain⟨j,hj⟩:=List.mem_iff_getElem?.1 hs; exact(h.el j s hj).lt q
theorem bA.frm {w w':World}{ob:Nat}{V:OV}{IS FS RS GS ES:List cA}{S:Nat->Prop}(h:bA w ob V IS FS RS GS ES)(hF:aE S w w')(hS:∀k,j8 ob V IS FS RS GS ES k->¬S k):bA w' ob V IS FS RS GS ES:=
 ⟨aQ h.blk hF (hS _ (Or.inl rfl)),h.i.frm hF fun k q=>hS k (Or.inr (Or.inl q)),h.f.frm hF fun k q=>hS k (Or.inr (Or.inr (Or.inl q))),h.r.frm hF fun k q=>hS k (Or.inr (Or.inr (Or.inr (Or.inl q)))),h.g.frm hF fun k q=>hS k (Or.inr (Or.inr (Or.inr (Or.inr (Or.inl q))))),h.e.frm hF fun k q=>hS k (Or.inr (Or.inr (Or.inr (Or.inr (Or.inr (Or.inl q)))))),
  fun j s hs=>(h.il j s hs).frm hF fun k q=>hS k (Or.inr (Or.inr (Or.inr (Or.inr (Or.inr (Or.inr ⟨s,Or.inl (List.mem_of_getElem? hs),q⟩)))))),
  fun j s hs=>(h.fl j s hs).frm hF fun k q=>hS k (Or.inr (Or.inr (Or.inr (Or.inr (Or.inr (Or.inr ⟨s,Or.inr (Or.inl (List.mem_of_getElem? hs)),q⟩)))))),
  fun j s hs=>(h.rl j s hs).frm hF fun k q=>hS k (Or.inr (Or.inr (Or.inr (Or.inr (Or.inr (Or.inr ⟨s,Or.inr (Or.inr (Or.inl (List.mem_of_getElem? hs))),q⟩)))))),
  fun j s hs=>(h.gl j s hs).frm hF fun k q=>hS k (Or.inr (Or.inr (Or.inr (Or.inr (Or.inr (Or.inr ⟨s,Or.inr (Or.inr (Or.inr (Or.inl (List.mem_of_getElem? hs)))),q⟩)))))),
  fun j s hs=>(h.el j s hs).frm hF fun k q=>hS k (Or.inr (Or.inr (Or.inr (Or.inr (Or.inr (Or.inr ⟨s,Or.inr (Or.inr (Or.inr (Or.inr (List.mem_of_getElem? hs)))),q⟩))))))⟩
theorem bA.on {w w':World}{ob:Nat}{V:OV}{IS FS RS GS ES:List cA}(h:bA w ob V IS FS RS GS ES)(hb:Below w.heap.size w w'):bA w' ob V IS FS RS GS ES:=h.frm (S:=fun _=>False) (aE.of_below hb) (fun _ _ q=>q)
theorem eC (n:Nat)(w:World)(hn:n<=100000000):Calls prog 16 #[n] w fun e w'=>e=.returned (.int .i64 (ei n))/\w=w':=by
 have e:IntKind.i64.wrap (-78-(n:Int))=ei n:=by unfold ei; exact bG _ (by omega)
 go_enter func16,ntmps16
 go_wp2_with fail
 go_ret;exact⟨rfl,rfl⟩
section
variable {α:Type}{R:dR α}{T:TypeId}{w:World}{l:List α}
theorem ah.thereE {g off n cap:Nat}(h:ah R T w (.slice (some ⟨g,off,none⟩) n cap) l){i:Nat}(hi:i<l.length):w.there g (off+i*R.wid) R.wid:=by
 intro j hj
 have hje:j<(R.enc l[i]).length:=by rw[R.len]; exact hj
 obtain⟨u,hu⟩:∃u,(R.enc l[i])[j]?=some u:=⟨_,List.getElem?_eq_getElem hje⟩;obtain⟨h1,h2⟩:=h.cellF (List.getElem?_eq_getElem hi) hu
 exact⟨by rw[h1]; rfl,h2⟩
theorem ah.setE {g off n cap:Nat}(h:ah R T w (.slice (some ⟨g,off,none⟩) n cap) l){i:Nat}(hi:i<l.length)(a':α):
  ah R T (w.setCells g (off+i*R.wid) (R.enc a')) (.slice (some ⟨g,off,none⟩) n cap) (l.set i a')/\w.grownBy (w.setCells g (off+i*R.wid) (R.enc a')) (some g):=by
 rcases h with⟨e,_⟩|⟨g',off',cap',cur,e,hh,h2,h3,h4,h5⟩
 ·cases e
 cases e;obtain⟨b1,b2⟩:=gg (R.enc a') (off+i*R.wid) w cur hh;have hp:=R.pos;have hle:(i+1)*R.wid<=l.length*R.wid:=Nat.mul_le_mul_right _ hi;have hlc:l.length*R.wid<=cap*R.wid:=Nat.mul_le_mul_right _ h2;rw[Nat.succ_mul] at hle
 have hfit:off+i*R.wid+(R.enc a').length<=cur.toList.length:=by rw[R.len,Array.length_toList]; omega
 refine⟨Or.inr ⟨g,off,cap,_,by rw[List.length_set],b1,by rw[List.length_set]; exact h2,h3,by rw[List.size_toArray,lD,Array.length_toList]; exact h4,?_⟩,b2⟩
 rw[List.length_set,show(jg cur.toList (off+i*R.wid) (R.enc a')).toArray.toList=jg cur.toList (off+i*R.wid) (R.enc a') from rfl]
 apply List.ext_getElem?
 intro k
 by_cases ck:k<l.length*R.wid
 ·rw[List.getElem?_take_of_lt ck,List.getElem?_drop,kY _ _ _ _ hfit,R.len]
  have q1:k / R.wid<l.length:=(Nat.div_lt_iff_lt_mul hp).2 ck;have q2:k%R.wid<R.wid:=Nat.mod_lt _ hp;have e:k / R.wid*R.wid+k%R.wid=k:=Nat.div_add_mod' k R.wid
  have old:cur.toList[off+k]?=(R.all l)[k]?:=by rw[<-h5,List.getElem?_take_of_lt ck,List.getElem?_drop]
  by_cases c:k / R.wid=i
  ·have hs:(l.set i a')[k / R.wid]?=some a':=by rw[c,List.getElem?_set_self hi]
   rw[if_pos (by rw[<-c]; omega),<-e,R.all_at _ _ _ _ hs q2,<-c]
   congr 1
   omega
  have hs:(l.set i a')[k / R.wid]?=some l[k / R.wid]:=by rw[List.getElem?_set_ne (Ne.symm c),List.getElem?_eq_getElem q1]
  rw[if_neg (fun hh=>c (by
   have a1:i<=k / R.wid:=(Nat.le_div_iff_mul_le hp).2 (by omega)
   have a2:k / R.wid<i+1:=(Nat.div_lt_iff_lt_mul hp).2 (by rw[Nat.succ_mul]; omega)
   omega)),old,<-e,R.all_at _ _ _ _ hs q2,R.all_at _ _ _ _ (List.getElem?_eq_getElem q1) q2]
 rw[List.getElem?_eq_none (by rw[List.length_take]; omega),List.getElem?_eq_none (by rw[R.all_len,List.length_set]; omega)]
end
structure cE (w:World)(X:RV)(rq:List Rq)(jb:List Jb)(en:List En):Prop where
 rq:ah rRq 158 w X.rv rq
 jb:ah jP 165 w X.jv jb
 en:ah iM 162 w X.ev en
def RSet (fb:Nat)(X:RV)(k:Nat):Prop:=k=fb\/X.rv.ownBlock=some k\/X.jv.ownBlock=some k\/X.ev.ownBlock=some k
theorem cE.ty {w:World}{fb:Nat}{X:RV}{rq:List Rq}{jb:List Jb}{en:List En}(h:cE w X rq jb en)(hf:aF w fb X):fQ (RSet fb X) w [135,158,165,162]:=fun k hk=>by
 rcases hk with rfl|q|q|q
 ·exact⟨_,_,hf,by simp⟩
 ·obtain⟨c,hc⟩:=h.rq.ty q; exact⟨_,_,hc,by simp⟩
 ·obtain⟨c,hc⟩:=h.jb.ty q; exact⟨_,_,hc,by simp⟩
 obtain⟨c,hc⟩:=h.en.ty q; exact⟨_,_,hc,by simp⟩
structure aP (w:World)(fb:Nat)(X:RV)(w':World)(Y:RV)(rq:List Rq)(jb:List Jb)(en:List En):Prop where
 blk:aF w' fb Y
 mem:cE w' Y rq jb en
 frm:aE (RSet fb X) w w'
 new:∀k,RSet fb Y k->RSet fb X k\/w.heap.size<=k
 sb:Y.sb=X.sb
section
variable {w w1 w':World}{fb:Nat}{X Y Z:RV}{rq rq':List Rq}{jb jb':List Jb}{en en':List En}
theorem aP.refl (hf:aF w fb X)(hm:cE w X rq jb en):aP w fb X w X rq jb en:=⟨hf,hm,aE.rfl' _ _,fun _ q=>Or.inl q,rfl⟩
theorem cE.on (h:cE w X rq jb en)(hb:Below w.heap.size w w'):cE w' X rq jb en:=⟨h.rq.on hb,h.jb.on hb,h.en.on hb⟩
theorem aP.on (h:aP w fb X w1 Y rq jb en)(hb:Below w1.heap.size w1 w'):aP w fb X w' Y rq jb en:=
 ⟨ag h.blk hb,h.mem.on hb,h.frm.then (aE.of_below (S:=fun _=>False) hb) (fun _ _ q=>q.elim),h.new,h.sb⟩
theorem aP.trans (h:aP w fb X w1 Y rq jb en)(k:aP w1 fb Y w' Z rq' jb' en'):aP w fb X w' Z rq' jb' en':=
 ⟨k.blk,k.mem,h.frm.then k.frm (fun i hi q=>by
  rcases h.new i q with q|q
  ·exact q
  ·omega),fun i q=>by
  rcases k.new i q with q|q
  ·exact h.new i q
  exact Or.inr (by have:=h.frm.size; omega),k.sb.trans h.sb⟩
theorem cE.num (hf:aF w fb X)(hm:cE w X rq jb en)(i:Nat)(v:Int)(hY:X.a.setIfInBounds i (.int .i64 v)=Y.a)(e1:Y.rv=X.rv)(e2:Y.jv=X.jv)(e3:Y.ev=X.ev)(e4:Y.sb=X.sb):aP w fb X (w.setCell ⟨fb,i,none⟩ (.int .i64 v)) Y rq jb en:=by
 have hF:aE (fun k=>k=fb) w (w.setCell ⟨fb,i,none⟩ (.int .i64 v)):=(aE.rfl' _ _).setCell (p:=⟨fb,i,none⟩) _ (fun _=>rfl);refine⟨aF.set hf i _ hY,⟨?_,?_,?_⟩,hF.mono fun _ _ q=>Or.inl q,fun k q=>Or.inl ?_,e4⟩
 ·rw[e1]; exact hm.rq.frm hF (fun g hg=>au hm.rq hf (by decide) g hg)
 ·rw[e2]; exact hm.jb.frm hF (fun g hg=>au hm.jb hf (by decide) g hg)
 ·rw[e3]; exact hm.en.frm hF (fun g hg=>au hm.en hf (by decide) g hg)
 unfold RSet at q; rw[e1,e2,e3] at q; exact q
theorem cE.ct (hf:aF w fb X)(hm:cE w X rq jb en)(v:Int):aP w fb X (w.setCell ⟨fb,7,none⟩ (.int .i64 v)) { X with ct:=v } rq jb en:=hm.num hf 7 v (RV.set_ct _ _) rfl rfl rfl rfl
theorem cE.nw (hf:aF w fb X)(hm:cE w X rq jb en)(v:Int):aP w fb X (w.setCell ⟨fb,6,none⟩ (.int .i64 v)) { X with nw:=v } rq jb en:=hm.num hf 6 v (RV.set_nw _ _) rfl rfl rfl rfl
theorem cE.st (hf:aF w fb X)(hm:cE w X rq jb en)(v:Int):aP w fb X (w.setCell ⟨fb,8,none⟩ (.int .i64 v)) { X with st:=v } rq jb en:=hm.num hf 8 v (RV.set_st _ _) rfl rfl rfl rfl
theorem cE.ev (hf:aF w fb X)(hm:cE w X rq jb en){n:Int}{ev':Value}(h1:aF w' fb { X with ct:=n,ev:=ev' })(h2:ah iM 162 w' ev' en')(h3:∀g,ev'.ownBlock=some g->X.ev.ownBlock=some g\/w.heap.size<=g)(hF:aE (fun k=>k=fb\/X.ev.ownBlock=some k) w w'):aP w fb X w' { X with ct:=n,ev:=ev' } rq jb en':=by
 have hT:=tyE hf hm.en
 refine⟨h1,⟨hm.rq.frmT hF hT (by decide),hm.jb.frmT hF hT (by decide),h2⟩,hF.mono fun k _ q=>?_,fun k q=>?_,rfl⟩
 ·rcases q with q|q
  ·exact Or.inl q
  exact Or.inr (Or.inr (Or.inr q))
 rcases q with q|q|q|q
 ·exact Or.inl (Or.inl q)
 ·exact Or.inl (Or.inr (Or.inl q))
 ·exact Or.inl (Or.inr (Or.inr (Or.inl q)))
 rcases h3 k q with q|q
 ·exact Or.inl (Or.inr (Or.inr (Or.inr q)))
 exact Or.inr q
theorem cE.kp (hf:aF w fb X)(hm:cE w X rq jb en){n:Nat}(h:KpP w fb X n en' w'):∃ev',aP w fb X w' { X with ct:=n,ev:=ev' } rq jb en':=by
 obtain⟨⟨ev',h1,h2,h3⟩,hF⟩:=h;exact⟨ev',hm.ev hf h1 h2 h3 hF⟩
theorem cE.jv (hf:aF w fb X)(hm:cE w X rq jb en){jv':Value}(h1:aF w' fb { X with jv:=jv' })(h2:ah jP 165 w' jv' jb')(h3:∀g,jv'.ownBlock=some g->X.jv.ownBlock=some g\/w.heap.size<=g)(hF:aE (fun k=>k=fb\/X.jv.ownBlock=some k) w w'):aP w fb X w' { X with jv:=jv' } rq jb' en:=by
 have hT:fQ (fun k=>k=fb\/X.jv.ownBlock=some k) w [135,165]:=fun k hk=>by
  rcases hk with rfl|hk
  ·exact⟨_,_,hf,by simp⟩
  obtain⟨c,hc⟩:=hm.jb.ty hk
  exact⟨_,_,hc,by simp⟩
 refine⟨h1,⟨hm.rq.frmT hF hT (by decide),h2,hm.en.frmT hF hT (by decide)⟩,hF.mono fun k _ q=>?_,fun k q=>?_,rfl⟩
 ·rcases q with q|q
  ·exact Or.inl q
  exact Or.inr (Or.inr (Or.inl q))
 rcases q with q|q|q|q
 ·exact Or.inl (Or.inl q)
 ·exact Or.inl (Or.inr (Or.inl q))
 ·rcases h3 k q with q|q
  ·exact Or.inl (Or.inr (Or.inr (Or.inl q)))
  exact Or.inr q
 exact Or.inl (Or.inr (Or.inr (Or.inr q)))
theorem cE.jv' (hf:aF w fb X)(hm:cE w X rq jb en){jv':Value}(h1:aF w' fb { X with jv:=jv' })(h2:ah jP 165 w' jv' jb')(h3:∀g,jv'.ownBlock=some g->w.heap.size<=g)(hF:aE (fun k=>k=fb) w w'):aP w fb X w' { X with jv:=jv' } rq jb' en:=
 hm.jv hf h1 h2 (fun g hg=>Or.inr (h3 g hg)) (hF.mono fun _ _ q=>Or.inl q)
theorem cE.jin (hf:aF w fb X)(hm:cE w X rq jb en)(h2:ah jP 165 w' X.jv jb')(hF:aE (fun k=>X.jv.ownBlock=some k) w w'):aP w fb X w' X rq jb' en:=
 hm.jv (jv':=X.jv) hf (aQ hf hF (fun q=>au hm.jb hf (by decide) fb q rfl)) h2 (fun _ q=>Or.inl q) (hF.mono fun _ _ q=>Or.inr q)
theorem cE.rv (hf:aF w fb X)(hm:cE w X rq jb en){rv':Value}(h1:aF w' fb { X with rv:=rv' })(h2:ah rRq 158 w' rv' rq')(h3:∀g,rv'.ownBlock=some g->X.rv.ownBlock=some g\/w.heap.size<=g)(hF:aE (fun k=>k=fb\/X.rv.ownBlock=some k) w w'):aP w fb X w' { X with rv:=rv' } rq' jb en:=by
 have hT:fQ (fun k=>k=fb\/X.rv.ownBlock=some k) w [135,158]:=fun k hk=>by
  rcases hk with rfl|hk
  ·exact⟨_,_,hf,by simp⟩
  obtain⟨c,hc⟩:=hm.rq.ty hk
  exact⟨_,_,hc,by simp⟩
 refine⟨h1,⟨h2,hm.jb.frmT hF hT (by decide),hm.en.frmT hF hT (by decide)⟩,hF.mono fun k _ q=>?_,fun k q=>?_,rfl⟩
 ·rcases q with q|q
  ·exact Or.inl q
  exact Or.inr (Or.inl q)
 rcases q with q|q|q|q
 ·exact Or.inl (Or.inl q)
 ·rcases h3 k q with q|q
  ·exact Or.inl (Or.inr (Or.inl q))
  exact Or.inr q
 ·exact Or.inl (Or.inr (Or.inr (Or.inl q)))
 exact Or.inl (Or.inr (Or.inr (Or.inr q)))
theorem cE.rin (hf:aF w fb X)(hm:cE w X rq jb en)(h2:ah rRq 158 w' X.rv rq')(hF:aE (fun k=>X.rv.ownBlock=some k) w w'):aP w fb X w' X rq' jb en:=
 hm.rv (rv':=X.rv) hf (aQ hf hF (fun q=>au hm.rq hf (by decide) fb q rfl)) h2 (fun _ q=>Or.inl q) (hF.mono fun _ _ q=>Or.inr q)
theorem aP.own {α:Type}{R:dR α}{T:TypeId}{v:Value}{l:List α}(h:aP w fb X w' Y rq' jb' en')(hf:aF w fb X)(hm:cE w X rq jb en)(ho:ah R T w v l)(hT:T∉[135,158,165,162]):ah R T w' v l:=ho.frmT h.frm (hm.ty hf) hT
theorem aP.rst {keep:Int}{bv pv:Value}{SL:List cA}{bs:List bK}{PI:List Int}{rb:Nat}(h:aP w fb X w' Y rq' jb' en')(hf:aF w fb X)(hm:cE w X rq jb en)(ho:eV w rb keep bv pv SL bs PI):eV w' rb keep bv pv SL bs PI:=ho.frmT h.frm (hm.ty hf) (by decide) (by decide) (by decide) (by decide)
end
theorem Rq.enc_done (r:Rq)(d:Bool):rRq.enc { r with done:=d }=(rRq.enc r).set 6 (.bool d):=rfl
theorem En.enc_use (j:En)(n:Int):iM.enc { j with use:=n }=(iM.enc j).set 6 (.int .i64 n):=rfl
theorem stB (ev:Operand->Value)(o:Oper)(x y:Operand)(ho:o.op=.store 4 x y)(g i:Nat)(n:Bool)(hx:ev x=.pointer (some ⟨g,i,none⟩))(hy:ev y=.bool n)(w w1:World){u:Value}(hc:w.cell? ⟨g,i,none⟩=some u)(hf:w.frozen? ⟨g,i,none⟩=false)(h1:w.setCell ⟨g,i,none⟩ (.bool n)=w1):(execOp ev o).run prog w=.ok .skip w1:=by
 subst h1;unfold execOp;simp only[ho,hx,hy];simp[go_sem,hc,hf]
theorem kerr_ok {l z x y:Int}(h:keyErr l z x y=0):dy ⟨l,z,x,y⟩:=by
 unfold keyErr at h
 split at h
 ·cases h
 split at h
 ·cases h
 split at h
 ·cases h
 exact⟨by dsimp only; omega,by dsimp only; omega,by dsimp only; omega,by dsimp only; omega⟩
def svd (bs:List bK)(j:Jb)(r:Rq):Bool:=!r.done && decide (r.k.blk=j.b) && (decide ((fB bs bs.length r.k:Int)<=j.rd) || decide (r.asked<=j.rd))
def svF (bs:List bK)(j:Jb)(r:Rq):Rq:=if svd bs j r then { r with done:=true } else r
def fP (bs:List bK)(j:Jb)(rq:List Rq):List Rq:=rq.map (svF bs j)
def dx (bs:List bK)(rd:Nat)(k:K4):aL:=⟨k,cg (dk bs rd) k,du k (fB bs rd k)⟩
def svR (bs:List bK)(j:Jb)(o:Nat)(r:Rq):List gD:=if svd bs j r then [⟨o,200,(dx bs j.rd.toNat r.k).body,(dx bs j.rd.toNat r.k).tag⟩] else []
def iC (bs:List bK)(j:Jb):Nat->List Rq->List gD
 | _,[]=>[]
 | o,r::l=>svR bs j o r++iC bs j (o+1) l
theorem ptR_app (bs:List bK)(j:Jb):∀(l l':List Rq) (o:Nat),iC bs j o (l++l')=iC bs j o l++iC bs j (o+l.length) l'
 | [],l',o=>by simp[iC]
 | r::l,l',o=>by rw[List.cons_append,iC,iC,ptR_app bs j l l' (o+1),List.append_assoc,List.length_cons,show o+1+l.length=o+(l.length+1) by omega]
theorem oJ (bs:List bK)(j:Jb):∀(l:List Rq) (o:Nat),(iC bs j o l).length<=l.length
 | [],_=>by simp[iC]
 | r::l,o=>by
  rw[iC,List.length_append,List.length_cons];have:=oJ bs j l (o+1)
  have:(svR bs j o r).length<=1:=by unfold svR; split<;>simp
  omega
section
variable {bs:List bK}{j:Jb}{rq:List Rq}{k:Nat}{r:Rq}
theorem lO (h:rq[k]?=some r):iC bs j 0 (rq.take (k+1))=iC bs j 0 (rq.take k)++svR bs j k r:=by
 have hk:k<rq.length:=(List.getElem?_eq_some_iff.1 h).1
 rw[be h,ptR_app,List.length_take,Nat.zero_add,show min k rq.length=k by omega]
 simp[iC]
def gB (bs:List bK)(j:Jb)(rq:List Rq)(k:Nat):List Rq:=fP bs j (rq.take k)++rq.drop k
theorem midQ_zero (bs:List bK)(j:Jb)(rq:List Rq):gB bs j rq 0=rq:=by simp[gB,fP]
theorem midQ_all (bs:List bK)(j:Jb)(rq:List Rq):gB bs j rq rq.length=fP bs j rq:=by simp[gB]
theorem fX (bs:List bK)(j:Jb)(rq:List Rq)(k:Nat):(gB bs j rq k).length=rq.length:=by
 simp[gB,fP,List.length_take,List.length_drop]; omega
theorem lh (h:k<rq.length):(gB bs j rq k)[k]?=rq[k]?:=by
 unfold gB fP
 rw[List.getElem?_append_right (by simp[List.length_take]; omega),List.length_map,List.length_take,show min k rq.length=k by omega,Nat.sub_self,List.getElem?_drop,Nat.add_zero]
theorem lZ (h:rq[k]?=some r):(gB bs j rq k).set k (svF bs j r)=gB bs j rq (k+1):=by
 have hk:k<rq.length:=(List.getElem?_eq_some_iff.1 h).1;unfold gB fP;rw[be h,List.map_append,List.map_cons,List.map_nil,List.append_assoc]
 rw[List.set_append_right _ _ (by simp[List.length_take]; omega),List.length_map,List.length_take,show min k rq.length=k by omega,Nat.sub_self]
 congr 1
 rw[List.drop_eq_getElem_cons hk];rfl
theorem midQ_no (h:rq[k]?=some r)(hs:svd bs j r=false):gB bs j rq (k+1)=gB bs j rq k:=by
 have hk:k<rq.length:=(List.getElem?_eq_some_iff.1 h).1;rw[<-lZ h]
 have e:svF bs j r=r:=by unfold svF; rw[hs]; rfl
 rw[e]
 apply List.ext_getElem?
 intro i;rw[List.getElem?_set]
 by_cases c:k=i
 ·subst c
  rw[if_pos rfl,if_pos (by rw[fX]; exact hk),lh hk,h]
 rw[if_neg c]
theorem ptR_no (h:rq[k]?=some r)(hs:svd bs j r=false):iC bs j 0 (rq.take (k+1))=iC bs j 0 (rq.take k):=by
 rw[lO h]; unfold svR; rw[hs]; simp
end
def cm (b:K4)(n:Nat):K4:=⟨b.l,b.z,b.x+(n:Int)%2,b.y+(n:Int) / 2⟩
def layN (bs:List bK)(ca:Nat)(b:K4)(rd:Nat)(c:Nat × List En):Nat->Nat × List En
 | 0=>c
 | n+1=>if keyErr (cm b n).l (cm b n).z (cm b n).x (cm b n).y=0/\fB bs bs.length (cm b n)<=rd then mG ca (layN bs ca b rd c n).1 (layN bs ca b rd c n).2 (dx bs rd (cm b n)) else layN bs ca b rd c n
def ptJ (rq:List Rq)(c:Nat)(jb:List Jb)(i:Nat)(b:K4):Nat × List Jb:=if 0<bg rq b false then (c+1,jb.set i ⟨b,-1,(c:Int)+1,0,0⟩) else (c,jb.eraseIdx i)
theorem evE_sub (room n:Nat):∀(m:Nat) (ts:List En),ts.length<=m->(pD room n ts).Sublist ts
 | m,ts,h=>by
  by_cases c:0<ts.length/\room<aY ts+n
  ·rw[evE_go c.1 c.2]
   have:=ko c.1
   cases m with
   | zero=>omega
   | succ m=>exact(evE_sub room n m _ (by omega)).trans (List.eraseIdx_sublist _ _)
  rw[jV c]; exact List.Sublist.refl _
theorem kpE_le (ca cnt:Nat)(ts:List En)(t:aL):(mG ca cnt ts t).1<=cnt+1/\(mG ca cnt ts t).2.length<=ts.length+1/\aY (mG ca cnt ts t).2<=aY ts+t.body.size:=by
 unfold mG
 split
 ·exact⟨by simp,by simp,by simp⟩
 have h1:=(evE_sub ca t.body.size _ (dropK ts t.k) aD).trans (dropK_sub ts t.k);have h2:=h1.length_le;have h3:=gr h1
 refine⟨Nat.le_refl _,by simp; omega,?_⟩
 unfold aY at h3 ⊢;rw[List.map_append,ep]
 simp[aA,En.t]; omega
theorem layN_le (bs:List bK)(ca:Nat)(b:K4)(rd:Nat)(c:Nat × List En)(hB:ke bs)(hv:rd<=bs.length):∀n,(layN bs ca b rd c n).1<=c.1+n/\(layN bs ca b rd c n).2.length<=c.2.length+n/\aY (layN bs ca b rd c n).2<=aY c.2+67*n
 | 0=>⟨Nat.le_refl _,Nat.le_refl _,Nat.le_refl _⟩
 | n+1=>by
  obtain⟨h1,h2,h3⟩:=layN_le bs ca b rd c hB hv n;rw[layN]
  split
  ·obtain⟨k1,k2,k3⟩:=kpE_le ca (layN bs ca b rd c n).1 (layN bs ca b rd c n).2 (dx bs rd (cm b n))
   have:=(gu (hB.rt rd hv) (cm b n)).2;have k3':aY (mG ca (layN bs ca b rd c n).1 (layN bs ca b rd c n).2 (dx bs rd (cm b n))).2<=aY (layN bs ca b rd c n).2+67:=Nat.le_trans k3 (Nat.add_le_add_left this _)
   exact⟨by omega,by omega,by omega⟩
  exact⟨by omega,by omega,by omega⟩
end Go.Proofs.YtpabpniaekldeaaGreatDoor
