/-
  The texts SbE, SbF, SbG, SbH, SbJ, FaD, FaE, FaF, FbA, FbB, FbC, FbD, FbE, FrJ, FbF, FbG, FbH, DwParts, DwLeaf, DwLeafB, DwLeafC, DwLeafD, DwParse, DwParseB.
-/
import Derived.Test.YtpabpniaekldeaaGreatDoorFase01
import Derived.Test.YtpabpniaekldeaaGreatDoorRows
import Derived.WalkKit
import Derived.WalkSpells
import Derived.WalkLawsBesides
import Derived.Deep.QuietTactic
import Derived.BigQuiet
import Derived.Lib.Strings
import Derived.Lib.ItoaNum
import Derived.Laws.IdiomStrings
set_option maxHeartbeats 25600000
namespace Go.Proofs.YtpabpniaekldeaaGreatDoor
open Go.Proofs.Tryz
open Go.RowKit
set_option maxRecDepth 20000
def lsB (c:Bool)(n L:Nat):Nat:=bif c then n else L
theorem lsB_more (a b:Bool)(n L:Nat):lsB b n (lsB a n L)=lsB (a || b) n L:=by cases a<;>cases b<;>rfl
theorem any_take {M:List (Nat->Int)}{p:(Nat->Int)->Bool}{j:Nat}(h:j<M.length):(M.take (j+1)).any p=((M.take j).any p || p (gf M j)):=by
 rw[List.take_add_one,ix h]; simp
theorem ls_step (bs:List bK)(l z x y:Int)(k:Nat):mF bs l z x y (k+1)=lsB ((mvT (dk bs k) (gf (ff bs k)) (ff bs k).length).any (fun f=>cJ f l z x y)) (k+1) (mF bs l z x y k):=rfl
theorem mv_step {fs:List (Nat->Int)}{es:Nat->Nat->Int}{j:Nat}{p:(Nat->Int)->Bool}(n L:Nat):lsB ((mvT fs es (j+1)).any p) n L=lsB ((nP (jX fs es j) (es j)).any p) n (lsB ((mvT fs es j).any p) n L):=by
 rw[lsB_more,mvT,List.any_append]
theorem edM_le {fs:List (Nat->Int)}{e:Nat->Int}(h:fs.length<=40):(nP fs e).length<=41:=by have:=edM_len (fs:=fs) (e:=e); omega
theorem Last_any (rb:Nat)(keep:Int)(bv pv:Value)(SL:List cA)(bs:List bK)(PI:List Int)(v:Nat)(l z x y:Int)(w:World)(hR:eV w rb keep bv pv SL bs PI)(hv:v<=bs.length)(hl:bs.length<=100)(h8:∀k,k<bs.length->(ff bs k).length<=8):
  Calls prog 79 #[.pointer (some ⟨rb,0,none⟩),v,.agg #[l,z,x,y]] w fun en w'=>en=.returned (.int .i64 (mF bs l z x y v:Nat))/\Below w.heap.size w w':=by
 have HA:=ae (heap_alloc_new w (.cells #[l,z,x,y] 39));have HB0:=ae (aj w (.cells #[l,z,x,y] 39));have HR:=ae (hR.on (aa HB0))
 have hs0:(w.alloc (.cells #[l,z,x,y] 39)).heap.size=w.heap.size+1:=by simp
 clear hR;go_enter func79,ntmps79
 go_wp2_with fail
 obtain⟨w1,hw1⟩:∃w1,(w.alloc (.cells #[l,z,x,y] 39))=w1:=⟨_,rfl⟩;rw[hw1] at HA HB0 HR hs0 ⊢;clear hw1
 go_loopw [7,8,9,10,11,12,13,14,15] (fun fv la i _ _ _ _ _ _ wr=>∃k:Nat,k<=v/\i=.int .i64 k/\la=.int .i64 (mF bs l z x y k:Nat)/\Hid (bL rF wr fv (dk bs k))/\Hid (Below w1.heap.size w1 wr)) (fun _ _ i _ _ _ _ _ _ _=>v-(intOf i).toNat)
 case atStart=>exact⟨0,by omega,rfl,rfl,ae (mV _),ae bu⟩
 case round=>
  obtain⟨k,hk,rfl,rfl,hF,hb⟩:=hrel
  by_cases hlt:k<v
  ·have hkv:(k:Int)<v:=by omega
   have hkb:(k:Int)<bs.length:=by omega
   obtain⟨b,off,cap,oa,c,e,hc,hE⟩:=((aa HR).on (aa hb)).batch (k:=k) (by omega)
   have r1:=((aa HR).on (aa hb)).c1
   have hlb:b<wr.heap.size:=by
    rcases Nat.lt_or_ge b wr.heap.size with q|q
    ·exact q
    simp[World.cell?,Array.getElem?_eq_none q] at hc
   have hlr:rb<wr.heap.size:=((aa HR).on (aa hb)).lt;rw[e] at r1;obtain⟨N,hN⟩:∃N,(ff bs k).length=N:=⟨_,rfl⟩
   have hN8:=h8 k (by omega)
   rw[hN] at hc hE hN8;have HN:=ae hN;have HE:=ae hE;have HC:=ae hc;have HR1:=ae r1;have HA1:=ae (ag (aa HA) (aa hb));obtain⟨L,hL⟩:∃L,mF bs l z x y k=L:=⟨_,rfl⟩;rw[hL];have HL:=ae hL;clear hE e hN hL
   go_wp2_with fail
   go_loopw [7,8,10,11,12,13,14,15] (fun fv la i _ _ _ _ _ w2=>∃j:Nat,j<=N/\i=.int .i64 j/\la=.int .i64 (lsB ((mvT (dk bs k) (gf (ff bs k)) j).any (fun f=>cJ f l z x y)) (k+1) L:Nat)/\Hid (bL rF w2 fv (jX (dk bs k) (gf (ff bs k)) j))/\Hid (Below wr.heap.size wr w2)) (fun _ _ i _ _ _ _ _ _=>N-(intOf i).toNat)
   case atStart=>exact⟨0,by omega,rfl,rfl,hF,ae bu⟩
   case round=>
    obtain⟨j,hj,rfl,rfl,hF2,hb2⟩:=hrel;have q1:=((aa hb2).cell (p:=⟨rb,1,none⟩) hlr).trans (aa HR1);have qc:=((aa hb2).cell (p:=⟨b,off+k,none⟩) hlb).trans (aa HC);clear r1 hc
    by_cases hjn:j<N
    ·have hjN:(j:Int)<N:=by omega
     obtain⟨oa',cap',e',_,_,hr⟩:=aa HE;have hEl:(ff bs k).length=N:=aa HN;cases e'
     obtain⟨b',off',rfl,hb',hr0⟩:=hr (by rw[hEl]; omega)
     have hrg0:=rngE hr0 (k:=j) (by rw[hEl]; omega)
     have hrg:wr.rangeAt b' (off'+j*25) (cc 25 (gf (ff bs k) j)).toList:=fun q u hu=>((aa hb2).cell (p:=⟨b',off'+j*25+q,none⟩) hb').trans (hrg0 q u hu);obtain⟨C,hC⟩:∃C,lsB ((mvT (dk bs k) (gf (ff bs k)) j).any (fun f=>cJ f l z x y)) (k+1) L=C:=⟨_,rfl⟩;rw[hC];have HCE:=ae hC;clear hr hr0 hrg0 hEl hC
     go_wp2_with (refine bU 100 (cc 25 (gf (ff bs k) j)) underlying100 rfl (sz56 _) b' (off'+j*25) hrg rfl _ rfl rfl ?_)
     refine(jD _ _ (gf (ff bs k) j) _ (aa hF2) (eZ (d7 bs k) j)).mono ?_;rintro en w3 ⟨nv,mv,rfl,hN3,hM3,hb3⟩;have HN3:=ae hN3;have hb3':=(aa hb2).trans (hb3.mono (aa hb2).size);have HB3:=ae hb3';have HA3:=ae (ag (aa HA1) hb3');have hMl:(nP (jX (dk bs k) (gf (ff bs k)) j) (gf (ff bs k) j)).length<=41:=edM_le (eZ (d7 bs k) j);obtain⟨M,hM⟩:∃M,nP (jX (dk bs k) (gf (ff bs k)) j) (gf (ff bs k) j)=M:=⟨_,rfl⟩;rw[hM] at hM3 hMl;have HME:=ae hM;obtain⟨ma,mc,rfl,_,_,hmr⟩:=hM3;have HMR:=ae hmr;clear hN3 hb3 hb3' q1 qc hrg hmr hM
     go_wp2_with fail
     go_loopw [8,14,15] (fun la i _ w4=>∃m:Nat,m<=M.length/\i=.int .i64 m/\la=.int .i64 (lsB ((M.take m).any (fun f=>cJ f l z x y)) (k+1) C:Nat)/\Hid (Below w3.heap.size w3 w4)) (fun _ i _ _=>M.length-(intOf i).toNat)
     case atStart=>exact⟨0,by omega,rfl,rfl,ae bu⟩
     case round=>
      obtain⟨m,hm,rfl,rfl,hb4⟩:=hrel
      by_cases hmn:m<M.length
      ·have hmN:(m:Int)<M.length:=by omega
       obtain⟨b5,off5,rfl,hb5,hr5⟩:=aa HMR (by omega)
       have hrg5:∀W,Below wr.heap.size wr W->W.rangeAt b5 (off5+m*24) (fc (gf M m)).toList:=fun W hW q u hu=>(((aa hb4).trans (hW.mono (aa hb4).size)).cell (p:=⟨b5,off5+m*24+q,none⟩) hb5).trans (rngF hr5 hmn q u hu);have hKY:∀W,Below wr.heap.size wr W->W.rangeAt w.heap.size 0 #[Value.int .i64 l,.int .i64 z,.int .i64 x,.int .i64 y].toList:=fun W hW=>ao (ag (aa HA3) ((aa hb4).trans (hW.mono (aa hb4).size)));have TT:=fun W=>lJ (gf M m) l z x y W;obtain⟨T,hT⟩:∃T,cJ (gf M m) l z x y=T:=⟨_,rfl⟩
       have hnx:lsB ((M.take (m+1)).any (fun f=>cJ f l z x y)) (k+1) C=bif T then k+1 else lsB ((M.take m).any (fun f=>cJ f l z x y)) (k+1) C:=by
        rw[any_take hmn,hT,<-lsB_more]; rfl
       rw[hT] at TT;have HNX:=ae hnx;clear hnx hr5 hT
       go_wp2_with fail
       refine aM (by kernel_rfl) (by kernel_rfl) ?_
       refine bD (.slice (some ⟨b5,off5,none⟩) M.length mc) ?_;refine bD (.int .i64 m) ?_
       refine bd b5 (off5+m*24) ?_ (h:=fun _ _=>by simp[go_sem,hmN])
       refine aR rfl 66 _ rfl b5 (off5+m*24) rfl (fc (gf M m)) _ underlying66 rfl (gK _) hrg5 ?_;simp only[qZ];refine aR rfl 39 _ rfl w.heap.size 0 rfl #[l,z,x,y] _ underlying39 rfl (sz28 l z x y) hKY ?_;simp only[qZ]
       refine br rfl 106 #[.agg (fc (gf M m)),.agg #[l,z,x,y]] (fun _=>by simp[go_sem]) _ TT ?_
       simp only[qZ];refine bH (.bool T) ?_;refine wpQuiet_nil ?_;intro w6 hw6;have HB6:=ae ((aa hb4).trans (hw6.mono (aa hb4).size));clear hw6 TT hrg5 hKY
       cases T with
       | false=>
        go_wp2_with fail
        go_roundw
        case rel=>exact⟨m+1,by omega,by go_num,by rw[aa HNX]; rfl,HB6⟩
        case measure=>simp[intOf]; omega
       | true=>
        have hwr:IntKind.i64.wrap ((k:Int)+1)=((k+1:Nat):Int):=by rw[bG _ (by omega)]; omega
        go_wp2_with fail
        go_roundw
        case rel=>exact⟨m+1,by omega,by go_num,by rw[aa HNX]; rfl,HB6⟩
        case measure=>simp[intOf]; omega
      have hmN:m=M.length:=by omega
      subst hmN;rw[List.take_length]
      have HNE:Hid (lsB (M.any fun f=>cJ f l z x y) (k+1) C=lsB ((mvT (dk bs k) (gf (ff bs k)) (j+1)).any (fun f=>cJ f l z x y)) (k+1) L):=by
       show _=_;rw[mv_step,aa HME,aa HCE]
      have HB7:=ae ((aa HB3).trans ((aa hb4).mono (aa HB3).size));have HN7:=ae ((aa HN3).on (aa hb4))
      go_wp2_with fail
      go_roundw
      case rel=>exact⟨j+1,by omega,by go_num,by rw[aa HNE],HN7,HB7⟩
      case measure=>simp[intOf]; omega
    have hjN:j=N:=by omega
    subst hjN
    have HF3:Hid (bL rF wr u7 (dk bs (k+1))):=by rw[at_step,aa HN]; exact hF2
    have HNE:Hid (lsB ((mvT (dk bs k) (gf (ff bs k)) j).any (fun f=>cJ f l z x y)) (k+1) L=mF bs l z x y (k+1)):=by
     show _=_;rw[ls_step,aa HN,aa HL]
    have HB3:=ae ((aa hb).trans ((aa hb2).mono (aa hb).size));clear hF2
    go_wp2_with fail
    go_roundw
    case rel=>exact⟨k+1,by omega,by go_num,by rw[aa HNE],HF3,HB3⟩
    case measure=>simp[intOf]; omega
  have hkn:k=v:=by omega
  subst hkn
  have hkv:¬(k:Int)<k:=by omega
  have HB9:=ae ((aa HB0).trans ((aa hb).mono (by omega)))
  go_wp2_with fail
  go_ret;exact⟨rfl,aa HB9⟩
section
variable {w:World}{rb:Nat}{keep:Int}{bv pv:Value}{SL:List cA}{bs:List bK}{PI:List Int}
theorem count_take {v:Int}{k:Nat}(h:k<PI.length):(PI.take (k+1)).count v=(PI.take k).count v+(if PI[k]=v then 1 else 0):=by
 rw[List.take_add_one,List.getElem?_eq_getElem h,List.count_append]
 by_cases c:PI[k]=v
 ·simp[c]
 simp[c]
theorem count_pos (PI:List Int)(v:Int):decide (0<PI.count v)=decide (v∈PI):=by
 by_cases c:v∈PI
 ·rw[decide_eq_true c,decide_eq_true (List.count_pos_iff.2 c)]
 rw[decide_eq_false c,decide_eq_false (fun q=>c (List.count_pos_iff.1 q))]
theorem pd (keep:Int)(n:Nat)(PI:List Int)(v:Int):bS keep n (ri PI) v=(decide (0<=v) && decide (v<=n) && (decide (0<PI.count v) || decide ((n:Int)-v<=keep))):=by
 unfold bS;rw[hasP_ri,count_pos,Bool.or_comm (decide (v∈PI))]
 congr 2
 by_cases c:(n:Int)-keep<=v
 ·rw[decide_eq_true c,decide_eq_true (by omega)]
 rw[decide_eq_false c,decide_eq_false (by omega)]
theorem pins_any (v:Int)(hR:eV w rb keep bv pv SL bs PI)(hl:PI.length<=100):
  Calls prog 118 #[.pointer (some ⟨rb,0,none⟩),v] w fun en w'=>en=.returned (.int .i64 (PI.count v:Nat))/\w=w':=by
 have c2:=hR.c2;obtain⟨oa,cap,e,_,_,hc⟩:=hR.pin.at;rw[e] at c2;have HC:=ae hc;clear hc hR e;go_enter func118,ntmps118
 go_wp2_with fail
 go_loop [5,6] (fun s i=>∃k:Nat,k<=PI.length/\i=.int .i64 k/\s=.int .i64 ((PI.take k).count v:Nat)) (fun _ i=>PI.length-(intOf i).toNat)
 case atStart=>exact⟨0,by omega,rfl,by simp⟩
 case round=>
  obtain⟨k,hk,rfl,rfl⟩:=hrel
  by_cases hlt:k<PI.length
  ·have hkn:(k:Int)<PI.length:=by omega
   obtain⟨b,off,rfl,hbl,hc0⟩:=aa HC (by omega)
   have hi:PI[k]?=some PI[k]:=List.getElem?_eq_getElem hlt;have ck:=rngI hc0 hi;have HS:=ae (count_take (PI:=PI) (v:=v) hlt)
   have hcl:(PI.take k).count v<=k:=by have:=List.count_le_length (a:=v) (l:=PI.take k); rw[List.length_take] at this; omega
   obtain⟨x,hx⟩:∃x,PI[k]=x:=⟨_,rfl⟩;rw[hx] at ck HS;clear hc0 hi hx
   by_cases he:x=v
   ·subst he
    have hw:IntKind.i64.wrap (((PI.take k).count x:Nat)+1:Int)=(((PI.take k).count x+1:Nat):Int):=by rw[bG _ (by omega)]; omega
    go_wp2_with fail
    go_round
    case rel=>exact⟨k+1,by omega,by go_num,by rw[aa HS,if_pos rfl,Int.natCast_add]; rfl⟩
    case measure=>simp[intOf]; omega
   go_wp2_with fail
   go_round
   case rel=>exact⟨k+1,by omega,by go_num,by rw[aa HS,if_neg he]; rfl⟩
   case measure=>simp[intOf]; omega
  have hkn:k=PI.length:=by omega
  subst hkn;rw[List.take_length]
  go_wp2_with fail
  go_ret;exact⟨rfl,rfl⟩
theorem IsHeld_any (v:Int)(hR:eV w rb keep bv pv SL bs PI)(hl:PI.length<=100)(hn:bs.length<=100):
  Calls prog 72 #[.pointer (some ⟨rb,0,none⟩),v] w fun en w'=>en=.returned (.bool (bS keep (bs.length:Nat) (ri PI) v))/\Below w.heap.size w w':=by
 have c0:=hR.c0;have c1:=hR.c1;obtain⟨oa,cap,e,_,_,hc⟩:=hR.bat.at;rw[e,hR.len] at c1;have HR:=ae hR;clear hR hc e
 by_cases h1:v<0
 ·have H:Hid (bS keep (bs.length:Nat) (ri PI) v=false):=by show _=_; rw[pd,decide_eq_false (by omega)]; rfl
  go_enter func72,ntmps72
  go_wp2_with fail
  go_ret;exact⟨ai (aa H).symm,Below.refl _ _⟩
 by_cases h2:(bs.length:Int)<v
 ·have H:Hid (bS keep (bs.length:Nat) (ri PI) v=false):=by show _=_; rw[pd,decide_eq_false (show ¬v<=(bs.length:Nat) by omega),Bool.and_false]; rfl
  go_enter func72,ntmps72
  go_wp2_with fail
  go_ret;exact⟨ai (aa H).symm,Below.refl _ _⟩
 have H:Hid (bS keep (bs.length:Nat) (ri PI) v=(decide (0<PI.count v) || decide ((bs.length:Int)-v<=keep))):=by show _=_; rw[pd,decide_eq_true (show 0<=v by omega),decide_eq_true (show v<=(bs.length:Nat) by omega)]; rfl
 have e1:IntKind.i64.wrap ((bs.length:Int)-v)=(bs.length:Int)-v:=bG _ (by omega)
 obtain⟨P,hP⟩:∃P,PI.count v=P:=⟨_,rfl⟩;have HP:=ae hP;have HC:=ae (pins_any v (aa HR) hl);rw[hP] at HC;rw[hP] at H;clear hP;go_enter func72,ntmps72
 go_wp2_with fail
 refine(aa HC).mono ?_;rintro en w2 ⟨rfl,rfl⟩
 by_cases h3:0<P
 ·have h3':(0:Int)<P:=by omega
  have hd:decide (0<P)=true:=decide_eq_true h3
  go_wp2_with fail
  go_quiet (fail)
  go_wp2_with fail
  go_ret
  refine⟨ai (by rw[aa H,hd]; rfl),?_⟩
  repeat first|exact Below.refl _ _|refine ap ?_ _|refine Below.drew ?_
 have h3':¬(0:Int)<P:=by omega
 have hd:decide (0<P)=false:=decide_eq_false h3
 by_cases h4:(bs.length:Int)-v<=keep
 focus
  have hd4:decide ((bs.length:Int)-v<=keep)=true:=decide_eq_true h4
 rotate_left
 focus
  have hd4:decide ((bs.length:Int)-v<=keep)=false:=decide_eq_false h4
 all_goals
  go_wp2_with fail
  go_quiet (fail)
  go_wp2_with fail
  go_ret
  refine⟨ai (by rw[aa H,hd,hd4]; rfl),?_⟩
  repeat first|exact Below.refl _ _|refine ap ?_ _|refine Below.drew ?_
end
def md (keep:Int)(n:Nat)(PI:List Int)(k:Nat):List Int:=((List.range k).filter fun v=>bS keep n (ri PI) (v:Nat)).map fun v=>((v:Nat):Int)
theorem nL (keep:Int)(n:Nat)(PI:List Int)(k:Nat):md keep n PI (k+1)=md keep n PI k++(bif bS keep n (ri PI) (k:Nat) then [(k:Int)] else []):=by
 unfold md;rw[List.range_succ,List.filter_append,List.map_append]
 congr 1
 cases h:bS keep n (ri PI) (k:Nat)<;>simp[h]
theorem hldL_len (keep:Int)(n:Nat)(PI:List Int)(k:Nat):(md keep n PI k).length<=k:=by
 unfold md;rw[List.length_map]
 exact Nat.le_trans (List.length_filter_le _ _) (by simp)
theorem ah.slice {α:Type}{R:dR α}{T:TypeId}{w:World}{v:Value}{l:List α}(h:ah R T w v l):∃oa c,v=.slice oa l.length c:=by
 obtain⟨oa,c,e,_⟩:=h.at;exact⟨oa,c,e⟩
section
variable {w:World}{rb:Nat}{keep:Int}{bv pv:Value}{SL:List cA}{bs:List bK}{PI:List Int}
theorem rHeld_any (hR:eV w rb keep bv pv SL bs PI)(hl:PI.length<=100)(hn:bs.length<=100):
  Calls prog 58 #[.pointer (some ⟨rb,0,none⟩)] w fun en w'=>∃rv,en=.returned rv/\ah rI 3 w' rv (md keep bs.length PI (bs.length+1))/\(∀g,rv.ownBlock=some g->w.heap.size<=g)/\Below w.heap.size w w':=by
 have c1:=hR.c1;have hlr:=hR.lt;obtain⟨oa,cap,e,_,_,hc⟩:=hR.bat.at;rw[e,hR.len] at c1;have HR:=ae hR;have HC1:=ae c1;clear hR hc e c1;go_enter func58,ntmps58
 go_wp2_with fail
 go_loopw [3,4,5] (fun lv i _ wr=>∃k:Nat,k<=bs.length+1/\i=.int .i64 k/\Hid (ah rI 3 wr lv (md keep bs.length PI k))/\Hid (∀g,lv.ownBlock=some g->w.heap.size<=g)/\Hid (Below w.heap.size w wr)) (fun _ i _ _=>bs.length+1-(intOf i).toNat)
 case atStart=>exact⟨0,by omega,rfl,ae (aU),ae (fun g hg=>by simp[Value.ownBlock] at hg),ae bu⟩
 case round=>
  obtain⟨k,hk',rfl,ho,hf,hb⟩:=hrel;have r1:=((aa hb).cell (p:=⟨rb,1,none⟩) hlr).trans (aa HC1)
  by_cases hlt:k<=bs.length
  ·have hkn:(k:Int)<=bs.length:=by omega
   have HI:=ae (IsHeld_any (v:=(k:Nat)) ((aa HR).on (aa hb)) hl hn);obtain⟨B,hB⟩:∃B,bS keep (bs.length:Nat) (ri PI) (k:Nat)=B:=⟨_,rfl⟩;have HS:=ae (nL keep bs.length PI k);rw[hB] at HI HS;clear hB
   go_wp2_with fail
   refine(aa HI).mono ?_;rintro en w2 ⟨rfl,hb2⟩;have HO2:=ae ((aa ho).on hb2);have HB2:=ae ((aa hb).trans (hb2.mono (aa hb).size));clear hb2 r1
   cases B with
   | false=>
    go_wp2_with fail
    go_roundw
    case rel=>exact⟨k+1,by omega,by go_num,by rw[aa HS,cond_false,List.append_nil]; exact HO2,hf,HB2⟩
    case measure=>simp[intOf]; omega
   | true=>
    have hll:=hldL_len keep bs.length PI k
    obtain⟨v3,w3,r1,r2,r3,r4⟩:=apI ((aa HO2).on (bu.alloc aD (.cells #[(k:Int)] 3))) (aZ rI 3 w2 (k:Int) #[(k:Int)] rfl) (by simp; omega)
    have HO3:Hid (ah rI 3 w3 v3 (md keep bs.length PI (k+1))):=by rw[aa HS]; exact r2
    have HF3:Hid (∀g,v3.ownBlock=some g->w.heap.size<=g):=fun g hg=>by
     rcases r4 with r4|r4
     ·exact aa hf g (r4▸hg)
     have q1:=r4 g hg; have:=(aa HB2).size; simp at q1; omega
    have HB3:=ae (((aa HB2).alloc (aa HB2).size _).grown r3 (by have:=(aa HB2).size; simp; omega) (fun g hg=>aa hf g hg))
    clear r2 r3 r4
    go_wp2_with (first|refine cP _ _ (bsI (k:Int) _ _ _ rfl rfl _) rfl ?_|(at_builtin; refine fS 60 r1 rfl _ _ rfl rfl rfl rfl ?_))
    go_roundw
    case rel=>exact⟨k+1,by omega,by go_num,HO3,HF3,HB3⟩
    case measure=>simp[intOf]; omega
  have hkn:k=bs.length+1:=by omega
  subst hkn
  have hkv:¬((bs.length+1:Nat):Int)<=bs.length:=by omega
  go_wp2_with fail
  go_ret;exact⟨_,rfl,aa ho,aa hf,aa hb⟩
end
theorem cn {w w1 w':World}{o:Obj}{row:Option Nat}(hb:Below w.heap.size w w1)(hg:(w1.alloc o).grownBy w' row):aE (fun k=>row=some k) w w':=
 (aE.of_below (S:=fun k=>row=some k) (hb.alloc hb.size o)).grown hg fun _ q _=>q
theorem ah.slc {α:Type}{R:dR α}{T:TypeId}{w:World}{v:Value}{l:List α}(h:ah R T w v l):∃oa n c,v=.slice oa n c:=by
 obtain⟨oa,c,e,_⟩:=h.at;exact⟨oa,_,c,e⟩
section
variable {w:World}{rb:Nat}{keep:Int}{bv pv:Value}{SL:List cA}{bs:List bK}{PI:List Int}
theorem dv (hR:eV w rb keep bv pv SL bs PI):
  Calls prog 56 #[.pointer (some ⟨rb,0,none⟩)] w fun e w'=>e=.returned (.int .i64 (bs.length:Nat))/\w=w':=by
 have c1:=hR.c1;obtain⟨oa,cap,e⟩:=hR.bat.slice;rw[e,hR.len] at c1;clear hR e;go_enter func56,ntmps56
 go_wp2_with fail
 go_ret;exact⟨rfl,rfl⟩
end
structure FV where
 q:Int
 wt:Int
 ch:Int
 nw:Int
 ar:Int
 st:Int
 sb:Nat
 wv:Value
 lv:Value
 kv:Value
 rm:Int
 tv:Value
def FV.a (X:FV):Array Value:=#[X.q,X.wt,X.ch,X.nw,X.ar,X.st,.pointer (some ⟨X.sb,0,none⟩),X.wv,X.lv,X.kv,X.rm,X.tv]
abbrev aq (w:World)(fb:Nat)(X:FV):Prop:=w.heap[fb]?=some (.cells X.a 129)
theorem FV.set_tv (X:FV)(v:Value):X.a.setIfInBounds 11 v=({ X with tv:=v }:FV).a:=rfl
theorem FV.set_lv (X:FV)(v:Value):X.a.setIfInBounds 8 v=({ X with lv:=v }:FV).a:=rfl
theorem FV.set_wv (X:FV)(v:Value):X.a.setIfInBounds 7 v=({ X with wv:=v }:FV).a:=rfl
theorem FV.set_st (X:FV)(v:Int):X.a.setIfInBounds 5 (.int .i64 v)=({ X with st:=v }:FV).a:=rfl
theorem FV.set_ar (X:FV)(v:Int):X.a.setIfInBounds 4 (.int .i64 v)=({ X with ar:=v }:FV).a:=rfl
theorem FV.set_nw (X:FV)(v:Int):X.a.setIfInBounds 3 (.int .i64 v)=({ X with nw:=v }:FV).a:=rfl
theorem aq.cells {w:World}{fb:Nat}{X:FV}(h:aq w fb X):w.cell? ⟨fb,0,none⟩=some (.int .i64 X.q)/\w.cell? ⟨fb,1,none⟩=some (.int .i64 X.wt)/\w.cell? ⟨fb,2,none⟩=some (.int .i64 X.ch)/\w.cell? ⟨fb,3,none⟩=some (.int .i64 X.nw)/\w.cell? ⟨fb,4,none⟩=some (.int .i64 X.ar)/\w.cell? ⟨fb,5,none⟩=some (.int .i64 X.st) /\
  w.cell? ⟨fb,6,none⟩=some (.pointer (some ⟨X.sb,0,none⟩))/\w.cell? ⟨fb,7,none⟩=some X.wv/\w.cell? ⟨fb,8,none⟩=some X.lv/\w.cell? ⟨fb,9,none⟩=some X.kv/\w.cell? ⟨fb,10,none⟩=some (.int .i64 X.rm)/\w.cell? ⟨fb,11,none⟩=some X.tv:=
 ⟨(af h 0).trans rfl,(af h 1).trans rfl,(af h 2).trans rfl,(af h 3).trans rfl,(af h 4).trans rfl,(af h 5).trans rfl,(af h 6).trans rfl,(af h 7).trans rfl,(af h 8).trans rfl,(af h 9).trans rfl,(af h 10).trans rfl,(af h 11).trans rfl⟩
theorem aq.set {w:World}{fb:Nat}{X:FV}(h:aq w fb X)(i:Nat)(v:Value){Y:FV}(e:X.a.setIfInBounds i v=Y.a):aq (w.setCell ⟨fb,i,none⟩ v) fb Y:=by
 show(w.setCell ⟨fb,i,none⟩ v).heap[fb]?=_;rw[<-e];have h':w.heap[fb]?=some (.cells X.a 129):=h;simp[World.setCell,Array.getElem?_modify,h']
theorem jU {w:World}{fb:Nat}{X:FV}(h:aq w fb X)(i:Nat):w.frozen? ⟨fb,i,none⟩=false:=bi h i
theorem au {α:Type}{R:dR α}{T T':TypeId}{w:World}{v:Value}{l:List α}{fb:Nat}{cs:Array Value}{fr:Nat × Nat}(ho:ah R T w v l)(hf:w.heap[fb]?=some (.cells cs T' fr))(hT:T≠T'):∀g,v.ownBlock=some g->g≠fb:=by
 intro g hg e;obtain⟨cur,hc⟩:=ho.ty hg;subst e;rw[hc] at hf;simp only[Option.some.injEq,Obj.cells.injEq] at hf;exact hT hf.2.1
theorem be {α:Type}{l:List α}{k:Nat}{a:α}(h:l[k]?=some a):l.take (k+1)=l.take k++[a]:=by
 rw[List.take_add_one,h]; rfl
theorem outT_app (a b:List aL)(k:K4):bm (a++b) k=bm a k++bm b k:=by simp[bm]
theorem outT_yes {t:aL}{k:K4}(h:t.k=k):bm [t] k=[]:=by simp[bm,h]
theorem outT_keep {t:aL}{k:K4}(h:t.k≠k):bm [t] k=[t]:=by simp[bm,h]
theorem bytesT_take {ts:List aL}{k:Nat}{t:aL}(h:ts[k]?=some t):aA (ts.take (k+1))=aA (ts.take k)+t.body.size:=by
 rw[be h,ep]; simp[aA]
theorem nV (fb:Nat)(X:FV)(ts:List aL)(w:World)(hf:aq w fb X)(hv:bL aW w X.tv ts)(hb:aA ts<=1000000000)(hl:ts.length<=100000000):
  Calls prog 109 #[.pointer (some ⟨fb,10,none⟩)] w fun e w'=>e=.returned (.int .i64 (aA ts))/\w=w':=by
 obtain⟨_,_,_,_,_,_,_,_,_,_,_,c11⟩:=hf.cells;obtain⟨oa,cap,e,hcap,hm,hc⟩:=hv;rw[e] at c11;have HC:=ae hc;have HB:=ae hb;clear hf hc hm hb e;go_enter func109,ntmps109
 go_wp2_with fail
 go_loop [3,4] (fun s i=>∃k:Nat,k<=ts.length/\i=.int .i64 k/\s=.int .i64 (aA (ts.take k))) (fun _ i=>ts.length-(intOf i).toNat)
 case atStart=>exact⟨0,by omega,rfl,by simp[aA]⟩
 case round=>
  obtain⟨k,hk,rfl,rfl⟩:=hrel
  by_cases hlt:k<ts.length
  ·have hkn:(k:Int)<ts.length:=by omega
   obtain⟨b,off,rfl,hbl,hc0⟩:=aa HC (by omega)
   obtain⟨⟨⟨tl,tz,tx,ty⟩,tb,tt⟩,ht⟩:∃t,ts[k]?=some t:=⟨_,List.getElem?_eq_getElem hlt⟩;have hrg:=bL.tile hc0 ht;have c4:=hrg 4 (.string tb) rfl;have hsum:aA (ts.take (k+1))=aA (ts.take k)+tb.size:=bytesT_take ht;have hle:=eo (List.take_sublist (k+1) ts);have hbb:=aa HB
   have hw:IntKind.i64.wrap ((aA (ts.take k):Int)+(tb.size:Int))=((aA (ts.take k)+tb.size:Nat):Int):=by
    rw[bG _ (by omega)]; omega
   have HS:=ae hsum;clear hrg hc0 hsum hle hbb
   go_wp2_with fail
   go_round
   case rel=>exact⟨k+1,by omega,by go_num,by rw[aa HS]; rfl⟩
   case measure=>simp[intOf]; omega
  have hkn:k=ts.length:=by omega
  subst hkn
  go_wp2_with fail
  go_ret;exact⟨rfl,rfl⟩
theorem gJ (fb:Nat)(X:FV)(ts:List aL)(l z x y:Int)(w:World)(hf:aq w fb X)(ho:ah aW 196 w X.tv ts)(hl:ts.length<=10000000):
  Calls prog 172 #[.pointer (some ⟨fb,10,none⟩),.agg #[l,z,x,y]] w fun e w'=>e=.returned (.tuple #[])/\(∃tv',aq w' fb { X with tv:=tv' }/\ah aW 196 w' tv' (bm ts ⟨l,z,x,y⟩)/\∀g,tv'.ownBlock=some g->w.heap.size<=g)/\aE (fun k=>k=fb) w w':=by
 have hlt0:=an hf;obtain⟨oa,cap,e,hcap,hm,hc⟩:=ho.at;have HC:=ae hc;have HF:=ae hf;unfold maxLen at hm;have hA:=heap_alloc_new w (.cells #[l,z,x,y] 39);have hB0:=(Below.refl w.heap.size w).alloc aD (.cells #[l,z,x,y] 39)
 have hN:=cr (R:=aW) (T:=196) (w.alloc (.cells #[l,z,x,y] 39)) [] #[] rfl (by simp)
 have hB1:=hB0.alloc (by simp) (.cells #[] 196)
 have hA1:=(heap_alloc_old (w.alloc (.cells #[l,z,x,y] 39)) (.cells #[] 196) (show w.heap.size<_ by simp)).trans hA
 have HN:=ae hN;have HA1:=ae hA1;have HB1:=ae hB1
 have c11:w.cell? ⟨fb,11,none⟩=some (.slice oa ts.length cap):=by rw[<-e]; exact hf.cells.2.2.2.2.2.2.2.2.2.2.2
 have HC11:=ae c11;clear hf ho hc hN hB0 hB1 hA hA1 e c11;go_enter func172,ntmps172
 go_wp2_with fail
 go_loopw [4,5] (fun lv i wr=>∃k:Nat,k<=ts.length/\i=.int .i64 k/\ah aW 196 wr lv (bm (ts.take k) ⟨l,z,x,y⟩)/\Hid (∀g,lv.ownBlock=some g->w.heap.size<=g)/\wr.heap[w.heap.size]?=some (.cells #[l,z,x,y] 39)/\Below w.heap.size w wr) (fun _ i _=>ts.length-(intOf i).toNat)
 case atStart=>exact⟨0,by omega,rfl,by simpa[bm] using aa HN,ae (fun g hg=>by simp[Value.ownBlock] at hg; omega),aa HA1,aa HB1⟩
 case round=>
  obtain⟨k,hk,rfl,hown,hfr,h0,hb⟩:=hrel;have hsz:=hb.size;have r11:=(hb.cell (p:=⟨fb,11,none⟩) hlt0).trans (aa HC11)
  by_cases hlt:k<ts.length
  ·have hkn:(k:Int)<ts.length:=by omega
   obtain⟨b,off,rfl,hbl,hc0⟩:=aa HC (by omega)
   obtain⟨⟨⟨tl,tz,tx,ty⟩,tb,tt⟩,ht⟩:∃t,ts[k]?=some t:=⟨_,List.getElem?_eq_getElem hlt⟩;have hrg:=bL.tile hc0 ht;have hW:∀W,Below wr.heap.size wr W->W.rangeAt b (off+k*6) (tv (some ⟨⟨tl,tz,tx,ty⟩,tb,tt⟩)).toList:=fun W h j u hu=>((hb.trans (h.mono hb.size)).cell (p:=⟨b,off+k*6+j,none⟩) hbl).trans (hrg j u hu);have hW4:=fun W h=>rng4 (hW W h);have hK:∀W,Below wr.heap.size wr W->W.rangeAt w.heap.size 0 #[.int .i64 l,.int .i64 z,.int .i64 x,.int .i64 y].toList:=fun W h=>ao (ag h0 h)
   have hF11:∀W,Below wr.heap.size wr W->W.cell? ⟨fb,11,none⟩=some (.slice (some ⟨b,off,none⟩) ts.length cap):=fun W h=>(h.cell (p:=⟨fb,11,none⟩) (by show fb<_; omega)).trans r11
   go_wp2_with fail
   refine aM (by kernel_rfl) (by kernel_rfl) ?_
   refine eI fb 10 ?_;refine bd fb 10 ?_;refine bd fb 11 ?_
   refine bH (.slice (some ⟨b,off,none⟩) ts.length cap) ?_ (h:=fun w' hw'=>by simp[go_sem,hF11 w' hw'])
   refine bD (.int .i64 k) ?_
   refine bd b (off+k*6) ?_ (h:=fun w' hw'=>by simp[go_sem,hkn])
   refine bd b (off+k*6) ?_;refine aR rfl 39 _ rfl (b) (off+k*6) rfl (#[tl,tz,tx,ty]) _ underlying39 rfl (bj _ _ _ _) (hW4) ?_;simp only[qZ];refine aR rfl 39 _ rfl (w.heap.size) (0) rfl (#[l,z,x,y]) _ underlying39 rfl (bj _ _ _ _) (hK) ?_;simp only[qZ]
   refine bH (.bool (!decide ((⟨tl,tz,tx,ty⟩:K4)=⟨l,z,x,y⟩))) ?_ (h:=fun w' hw'=>by simp[go_sem,neq39])
   refine wpQuiet_nil ?_;intro w2 hw2;have hw0:=ag h0 hw2;have hrg2:=hW w2 hw2;have hown2:=hown.on hw2;have f11:=hF11 w2 hw2;have hb2:=hb.trans (hw2.mono hb.size);have hsz2:=hb2.size;have HB2:=ae hb2;have HW0:=ae hw0;clear hW hW4 hK hF11 hrg hc0 hb h0 hw0 hw2 hown r11 hb2;have htk:=be ht
   by_cases he:(⟨tl,tz,tx,ty⟩:K4)=⟨l,z,x,y⟩
   ·have hde:(!decide ((⟨tl,tz,tx,ty⟩:K4)=⟨l,z,x,y⟩))=false:=by simp[he]
    have HO:=ae (show ah aW 196 w2 u4 (bm (ts.take (k+1)) ⟨l,z,x,y⟩) by rw[htk,outT_app,outT_yes (t:=⟨⟨tl,tz,tx,ty⟩,tb,tt⟩) he,List.append_nil]; exact hown2)
    clear he hown2 htk;simp only[hde]
    go_wp2_with fail
    go_roundw
    case rel=>exact⟨k+1,by omega,by go_num,aa HO,hfr,aa HW0,aa HB2⟩
    case measure=>simp[intOf]; omega
   have hde:(!decide ((⟨tl,tz,tx,ty⟩:K4)=⟨l,z,x,y⟩))=true:=by simp[he]
   have hat:=aZ aW 196 w2 ⟨⟨tl,tz,tx,ty⟩,tb,tt⟩ (tv (some ⟨⟨tl,tz,tx,ty⟩,tb,tt⟩)) rfl;have hownA:ah aW 196 (w2.alloc (.cells (tv (some ⟨⟨tl,tz,tx,ty⟩,tb,tt⟩)) 196)) u4 (bm (ts.take k) ⟨l,z,x,y⟩):=hown2.on (bu.alloc aD _)
   obtain⟨v3,w3,r1,r2,r3,r4⟩:=mz hownA hat (by have:=eL (ts.take k) ⟨l,z,x,y⟩; simp at this ⊢; omega)
   have HO:=ae (show ah aW 196 w3 v3 (bm (ts.take (k+1)) ⟨l,z,x,y⟩) by rw[htk,outT_app,outT_keep (t:=⟨⟨tl,tz,tx,ty⟩,tb,tt⟩) he]; exact r2)
   have HB3:=ae (((aa HB2).alloc hsz2 (.cells (tv (some ⟨⟨tl,tz,tx,ty⟩,tb,tt⟩)) 196)).grown r3 (by simp; omega) (fun g hg=>aa hfr g hg))
   have HW3:=ae ((r3.block w.heap.size (by have:=an (aa HW0); simp; omega) (fun q=>by have:=au hown2 (aa HW0) (by decide) w.heap.size q.symm; exact this rfl)).trans ((heap_alloc_old w2 (.cells (tv (some ⟨⟨tl,tz,tx,ty⟩,tb,tt⟩)) 196) (an (aa HW0))).trans (aa HW0)))
   have HFR:=ae (show ∀g,v3.ownBlock=some g->w.heap.size<=g from fun g hg=>by
    rcases r4 with r4|r4
    ·exact aa hfr g (r4▸hg)
    have:=r4 g hg; simp at this; omega)
   clear he hown2 htk hat hownA r2 r3 r4;simp only[hde]
   go_wp2_with (first|refine bU 196 (tv (some ⟨⟨tl,tz,tx,ty⟩,tb,tt⟩)) underlying196 rfl (d9 _) b (off+k*6) hrg2 rfl _ rfl rfl ?_|refine cP _ _ (jt tl tz tx ty tb tt _ _ _ rfl rfl _) rfl ?_|(at_builtin; refine fS 123 r1 rfl _ _ rfl rfl rfl rfl ?_))
   go_roundw
   case rel=>exact⟨k+1,by omega,by go_num,aa HO,aa HFR,aa HW3,aa HB3⟩
   case measure=>simp[intOf]; omega
  have hkn:k=ts.length:=by omega
  have hfb:=ag (aa HF) hb;have hfz:=jU hfb 11
  have htl:ts.take k=ts:=by rw[hkn,List.take_length]
  rw[htl] at hown
  have HH:Hid ((∃tv',aq (wr.setCell ⟨fb,11,none⟩ u4) fb { X with tv:=tv' }/\ah aW 196 (wr.setCell ⟨fb,11,none⟩ u4) tv' (bm ts ⟨l,z,x,y⟩)/\∀g,tv'.ownBlock=some g->w.heap.size<=g)/\aE (fun k=>k=fb) w (wr.setCell ⟨fb,11,none⟩ u4)):=
   ⟨⟨u4,aq.set hfb 11 u4 (FV.set_tv X u4),hown.same (fun g hg=>Below.heap_setCell _ _ _ _ (by have:=aa hfr g hg; show g≠fb; omega)),aa hfr⟩,(aE.of_below hb).setCell u4 (fun _=>rfl)⟩
  have hslice:∃oa n c,u4=.slice oa n c:=by
   rcases hown with⟨rfl,_⟩|⟨g,off,c,cur,rfl,_⟩
   ·exact⟨_,_,_,rfl⟩
   exact⟨_,_,_,rfl⟩
  obtain⟨oa4,n4,c4,rfl⟩:=hslice;clear hown hb hfb htl;subst hkn
  go_wp2_with fail
  exact bodyPost_end (results_none results172 _ _ _) rfl ⟨rfl,aa HH⟩
theorem bL.req {W:World}{b off:Nat}{ws:List dJ}{k:Nat}{r:dJ}(h:∀i a,ws[i]?=some a->W.rangeAt b (off+i*cW.wid) (cW.enc a))(hk:ws[k]?=some r):W.rangeAt b (off+k*7) r.a.toList:=h k r hk
theorem rngK {W:World}{b o:Nat}{r:dJ}(h:W.rangeAt b o r.a.toList):W.rangeAt b (o+1) #[Value.int .i64 r.k.l,.int .i64 r.k.z,.int .i64 r.k.x,.int .i64 r.k.y].toList:=by
 intro j v hv;rw[Nat.add_assoc];refine h (1+j) v ?_
 rcases j with _|_|_|_|j
 ·exact hv
 ·exact hv
 ·exact hv
 ·exact hv
 simp at hv
theorem ng {ws:List dJ}{k:Nat}{r:dJ}(h:ws[k]?=some r)(b:K4):aC (ws.take (k+1)) b=aC (ws.take k) b+(if r.k.blk=b then 1 else 0):=by
 unfold aC;rw[be h,List.countP_append]
 congr 1
 by_cases e:r.k.blk=b
 ·simp[e]
 simp[e]
theorem countFor_le (ws:List dJ)(b:K4):aC ws b<=ws.length:=List.countP_le_length
theorem dA {w W:World}{b off:Nat}{cs:List Value}(h:w.rangeAt b off cs)(hb:Below w.heap.size w W)(hlt:b<w.heap.size):W.rangeAt b off cs:=fun j v hv=>(hb.cell (p:=⟨b,off+j,none⟩) hlt).trans (h j v hv)
def bP (k:K4):Prop:=(0<=k.x/\k.x<=4194304)/\(0<=k.y/\k.y<=4194304)
theorem fe (fb:Nat)(X:FV)(ws:List dJ)(l z x y:Int)(w:World)(hf:aq w fb X)(hv:bL cW w X.wv ws)(hs:∀r∈ws,bP r.k)(hl:ws.length<=100000000):
  Calls prog 111 #[.pointer (some ⟨fb,0,none⟩),.agg #[l,z,x,y]] w fun e w'=>e=.returned (.int .i64 (aC ws ⟨l,z,x,y⟩))/\Below w.heap.size w w':=by
 have hlt0:=an hf;obtain⟨oa,cap,e,hcap,hm,hc⟩:=hv;have HC:=ae hc;have HS:=ae hs
 have c7:w.cell? ⟨fb,7,none⟩=some (.slice oa ws.length cap):=by rw[<-e]; exact hf.cells.2.2.2.2.2.2.2.1
 have HC7:=ae c7;have HA:=ae (heap_alloc_new w (.cells #[l,z,x,y] 39));have HB0:=ae ((Below.refl w.heap.size w).alloc aD (.cells #[l,z,x,y] 39));clear hf hc hm e hs c7;go_enter func111,ntmps111
 go_wp2_with fail
 go_loopw [5,6] (fun n i wr=>∃k:Nat,k<=ws.length/\i=.int .i64 k/\n=.int .i64 (aC (ws.take k) ⟨l,z,x,y⟩)/\wr.heap[w.heap.size]?=some (.cells #[l,z,x,y] 39)/\Below w.heap.size w wr) (fun _ i _=>ws.length-(intOf i).toNat)
 case atStart=>exact⟨0,by omega,rfl,by simp[aC],aa HA,aa HB0⟩
 case round=>
  obtain⟨k,hk,rfl,rfl,h0,hb⟩:=hrel;have hsz:=hb.size;have r7:=(hb.cell (p:=⟨fb,7,none⟩) hlt0).trans (aa HC7)
  by_cases hlt:k<ws.length
  ·have hkn:(k:Int)<ws.length:=by omega
   obtain⟨b,off,rfl,hbl,hc0⟩:=aa HC (by omega)
   obtain⟨⟨rw',⟨rl,rz,rx,ry⟩,ra,rd⟩,ht⟩:∃t,ws[k]?=some t:=⟨_,List.getElem?_eq_getElem hlt⟩;have hsm:=aa HS _ (List.mem_of_getElem? ht);obtain⟨⟨x1,x2⟩,⟨y1,y2⟩⟩:=hsm;dsimp only at x1 x2 y1 y2;have hrg:=rngK (bL.req hc0 ht);have hW:∀W,Below wr.heap.size wr W->W.rangeAt b (off+k*7+1) #[.int .i64 rl,.int .i64 rz,.int .i64 rx,.int .i64 ry].toList:=fun W h=>dA hrg (hb.trans (h.mono hb.size)) hbl;have hK:∀W,Below wr.heap.size wr W->W.rangeAt w.heap.size 0 #[.int .i64 l,.int .i64 z,.int .i64 x,.int .i64 y].toList:=fun W h=>ao (ag h0 h)
   have hF:∀W,Below wr.heap.size wr W->W.cell? ⟨fb,7,none⟩=some (.slice (some ⟨b,off,none⟩) ws.length cap):=fun W h=>(h.cell (p:=⟨fb,7,none⟩) (by show fb<_; omega)).trans r7
   have BL:=fun W=>kL rl rz rx ry W ⟨x1,by omega⟩ ⟨y1,by omega⟩
   go_wp2_with fail
   refine aM (by kernel_rfl) (by kernel_rfl) ?_
   refine eI fb 0 ?_;refine bd fb 0 ?_;refine bd fb 7 ?_
   refine bH (.slice (some ⟨b,off,none⟩) ws.length cap) ?_ (h:=fun w' hw'=>by simp[go_sem,hF w' hw'])
   refine bD (.int .i64 k) ?_
   refine bd b (off+k*7) ?_ (h:=fun w' hw'=>by simp[go_sem,hkn])
   refine bd b (off+k*7+1) ?_;refine aR rfl 39 _ rfl (b) (off+k*7+1) rfl (#[rl,rz,rx,ry]) _ underlying39 rfl (bj _ _ _ _) (hW) ?_;simp only[qZ]
   refine br rfl 132 (#[.agg #[rl,rz,rx,ry]]) (fun _=>by simp[go_sem]) _ (BL) ?_
   simp only[qZ];refine aR rfl 39 _ rfl (w.heap.size) (0) rfl (#[l,z,x,y]) _ underlying39 rfl (bj _ _ _ _) (hK) ?_;simp only[qZ]
   refine bH (.bool (decide ((⟨rl,rz,rx-rx%2,ry-ry%2⟩:K4)=⟨l,z,x,y⟩))) ?_ (h:=fun w' hw'=>by simp[go_sem,eql39])
   refine wpQuiet_nil ?_;intro w2 hw2;have hw0:=ag h0 hw2;have hct:=ng ht ⟨l,z,x,y⟩;have hcl:=countFor_le (ws.take k) ⟨l,z,x,y⟩;rw[List.length_take] at hcl;have HB2:=ae (hb.trans (hw2.mono hb.size));have HW0:=ae hw0;clear hW hK hF hrg hc0 hb h0 hw0 hw2 BL
   by_cases he:(⟨rl,rz,rx-rx%2,ry-ry%2⟩:K4)=⟨l,z,x,y⟩
   ·have hde:decide ((⟨rl,rz,rx-rx%2,ry-ry%2⟩:K4)=⟨l,z,x,y⟩)=true:=by simp[he]
    have hct':aC (ws.take (k+1)) ⟨l,z,x,y⟩=aC (ws.take k) ⟨l,z,x,y⟩+1:=by rw[hct,if_pos (show(⟨rl,rz,rx,ry⟩:K4).blk=_ from he)]
    have HCT:=ae hct';obtain⟨C,hC⟩:∃C,aC (ws.take k) ⟨l,z,x,y⟩=C:=⟨_,rfl⟩;rw[hC] at HCT hcl ⊢;clear he hct hct' hC;simp only[hde]
    go_wp2_with fail
    go_roundw
    case rel=>exact⟨k+1,by omega,by go_num,by rw[aa HCT]; go_num,aa HW0,aa HB2⟩
    case measure=>simp[intOf]; omega
   have hde:decide ((⟨rl,rz,rx-rx%2,ry-ry%2⟩:K4)=⟨l,z,x,y⟩)=false:=by simp[he]
   have hct':aC (ws.take (k+1)) ⟨l,z,x,y⟩=aC (ws.take k) ⟨l,z,x,y⟩:=by rw[hct,if_neg (show ¬(⟨rl,rz,rx,ry⟩:K4).blk=_ from he),Nat.add_zero]
   have HCT:=ae hct';clear he hct hct';simp only[hde]
   go_wp2_with fail
   go_roundw
   case rel=>exact⟨k+1,by omega,by go_num,by rw[aa HCT],aa HW0,aa HB2⟩
   case measure=>simp[intOf]; omega
  have hkn:k=ws.length:=by omega
  subst hkn
  go_wp2_with fail
  go_ret
  exact⟨aB (by rw[List.take_length]),hb⟩
structure Wk where
 g:Nat
 f:Fl
 rv:Value
 R:List Ft
def Wk.a (u:Wk):Array Value:=#[u.f.b.l,u.f.b.z,u.f.b.x,u.f.b.y,u.f.reads,u.f.left,u.rv]
structure f8 (w:World)(kv:Value)(W:List (Option Wk)):Prop where
 kv:bL fK w kv (W.map (Option.map Wk.g))
 at_:∀(i:Nat) (u:Wk),W[i]?=some (some u)->w.heap[u.g]?=some (.cells u.a 170)
theorem f8.on {w w':World}{kv:Value}{W:List (Option Wk)}(h:f8 w kv W)(hb:Below w.heap.size w w'):f8 w' kv W:=⟨h.kv.on hb,fun i u hu=>ag (h.at_ i u hu) hb⟩
def hasW (W:List (Option Wk))(b:K4):Bool:=W.any fun o=>match o with
 | some u=>decide (u.f.b=b)
 | none=>false
theorem any_no {α:Type}{p:α->Bool}{l:List α}(h:∀i a,i<l.length->l[i]?=some a->p a=false):l.any p=false:=by
 rw[List.any_eq_false];intro a ha;obtain⟨i,hi⟩:=List.mem_iff_getElem?.1 ha;rw[h i a (List.getElem?_eq_some_iff.1 hi).1 hi];simp
theorem any_yes {α:Type}{p:α->Bool}{l:List α}{i:Nat}{a:α}(h:l[i]?=some a)(hp:p a=true):l.any p=true:=List.any_eq_true.2 ⟨a,List.mem_of_getElem? h,hp⟩
theorem bL.key {W:World}{b off:Nat}{ws:List K4}{k:Nat}{r:K4}(h:∀i a,ws[i]?=some a->W.rangeAt b (off+i*bT.wid) (bT.enc a))(hk:ws[k]?=some r):W.rangeAt b (off+k*4) r.a.toList:=h k r hk
theorem rng4u {W:World}{g:Nat}{u:Wk}(h:W.heap[u.g]?=some (.cells u.a 170))(e:g=u.g):W.rangeAt g 0 #[Value.int .i64 u.f.b.l,.int .i64 u.f.b.z,.int .i64 u.f.b.x,.int .i64 u.f.b.y].toList:=by
 subst e;intro j v hv;rw[af h,Nat.zero_add]
 rcases j with _|_|_|_|j
 ·simpa[Wk.a] using hv
 ·simpa[Wk.a] using hv
 ·simpa[Wk.a] using hv
 ·simpa[Wk.a] using hv
 simp at hv
theorem m8 (fb:Nat)(X:FV)(ls:List K4)(W:List (Option Wk))(l z x y:Int)(w:World)(hf:aq w fb X)(hv:bL bT w X.lv ls)(hw:f8 w X.kv W)(hl:ls.length<=100000000)(hl':W.length<=100):
  Calls prog 133 #[.pointer (some ⟨fb,0,none⟩),.agg #[l,z,x,y]] w fun e w'=>e=.returned (.bool (ls.any (fun k=>decide (k=⟨l,z,x,y⟩)) || hasW W ⟨l,z,x,y⟩))/\Below w.heap.size w w':=by
 have hlt0:=an hf;obtain⟨oa,cap,e,hcap,hm,hc⟩:=hv;obtain⟨⟨ob,capb,eb,hcapb,hmb,hcb⟩,hu⟩:=hw;rw[List.length_map] at eb hcapb hmb hcb;have HC:=ae hc;have HCB:=ae hcb;have HU:=ae hu
 have c8:w.cell? ⟨fb,8,none⟩=some (.slice oa ls.length cap):=by rw[<-e]; exact hf.cells.2.2.2.2.2.2.2.2.1
 have c9:w.cell? ⟨fb,9,none⟩=some (.slice ob W.length capb):=by rw[<-eb]; exact hf.cells.2.2.2.2.2.2.2.2.2.1
 have HC8:=ae c8;have HC9:=ae c9;have HA:=ae (heap_alloc_new w (.cells #[l,z,x,y] 39));have HB0:=ae ((Below.refl w.heap.size w).alloc aD (.cells #[l,z,x,y] 39));clear hf hc hm e eb hcb hu c8 c9;go_enter func133,ntmps133
 go_wp2_with fail
 go_loopw [5] (fun i wr=>∃k:Nat,k<=ls.length/\i=.int .i64 k/\Hid (∀i a,i<k->ls[i]?=some a->decide (a=(⟨l,z,x,y⟩:K4))=false)/\wr.heap[w.heap.size]?=some (.cells #[l,z,x,y] 39)/\Below w.heap.size w wr) (fun i _=>ls.length-(intOf i).toNat)
 case atStart=>exact⟨0,by omega,rfl,ae (fun i a hi=>absurd hi (by omega)),aa HA,aa HB0⟩
 case round=>
  obtain⟨k,hk,rfl,hno,h0,hb⟩:=hrel;have hsz:=hb.size;have r8:=(hb.cell (p:=⟨fb,8,none⟩) hlt0).trans (aa HC8)
  by_cases hlt:k<ls.length
  ·have hkn:(k:Int)<ls.length:=by omega
   obtain⟨b,off,rfl,hbl,hc0⟩:=aa HC (by omega)
   obtain⟨⟨rl,rz,rx,ry⟩,ht⟩:∃t,ls[k]?=some t:=⟨_,List.getElem?_eq_getElem hlt⟩;have hrg:=bL.key hc0 ht;have hW:∀W,Below wr.heap.size wr W->W.rangeAt b (off+k*4) #[.int .i64 rl,.int .i64 rz,.int .i64 rx,.int .i64 ry].toList:=fun W h=>dA hrg (hb.trans (h.mono hb.size)) hbl;have hK:∀W,Below wr.heap.size wr W->W.rangeAt w.heap.size 0 #[.int .i64 l,.int .i64 z,.int .i64 x,.int .i64 y].toList:=fun W h=>ao (ag h0 h)
   have hF:∀W,Below wr.heap.size wr W->W.cell? ⟨fb,8,none⟩=some (.slice (some ⟨b,off,none⟩) ls.length cap):=fun W h=>(h.cell (p:=⟨fb,8,none⟩) (by show fb<_; omega)).trans r8
   go_wp2_with fail
   refine aM (by kernel_rfl) (by kernel_rfl) ?_
   refine eI fb 0 ?_;refine bd fb 0 ?_;refine bd fb 8 ?_
   refine bH (.slice (some ⟨b,off,none⟩) ls.length cap) ?_ (h:=fun w' hw'=>by simp[go_sem,hF w' hw'])
   refine bD (.int .i64 k) ?_
   refine bd b (off+k*4) ?_ (h:=fun w' hw'=>by simp[go_sem,hkn])
   refine aR rfl 39 _ rfl (b) (off+k*4) rfl (#[rl,rz,rx,ry]) _ underlying39 rfl (bj _ _ _ _) (hW) ?_;simp only[qZ];refine aR rfl 39 _ rfl (w.heap.size) (0) rfl (#[l,z,x,y]) _ underlying39 rfl (bj _ _ _ _) (hK) ?_;simp only[qZ]
   refine bH (.bool (decide ((⟨rl,rz,rx,ry⟩:K4)=⟨l,z,x,y⟩))) ?_ (h:=fun w' hw'=>by simp[go_sem,eql39])
   refine wpQuiet_nil ?_;intro w2 hw2;have hw0:=ag h0 hw2;have HB2:=ae (hb.trans (hw2.mono hb.size));have HW0:=ae hw0;clear hW hK hF hrg hc0 hb h0 hw0 hw2
   by_cases he:(⟨rl,rz,rx,ry⟩:K4)=⟨l,z,x,y⟩
   ·have hde:decide ((⟨rl,rz,rx,ry⟩:K4)=⟨l,z,x,y⟩)=true:=by simp[he]
    have HY:=ae (any_yes (p:=fun k=>decide (k=(⟨l,z,x,y⟩:K4))) ht hde);clear he;simp only[hde]
    go_wp2_with fail
    go_ret
    exact⟨ai (by rw[aa HY]; rfl),aa HB2⟩
   have hde:decide ((⟨rl,rz,rx,ry⟩:K4)=⟨l,z,x,y⟩)=false:=by simp[he]
   clear he;have HD:=ae hde;simp only[hde]
   go_wp2_with fail
   go_roundw
   case rel=>exact⟨k+1,by omega,by go_num,ae (fun i a hi ha=>by
    by_cases e:i=k
    ·subst e; rw[ht] at ha; simp only[Option.some.injEq] at ha; subst ha; exact aa HD
    exact aa hno i a (by omega) ha),aa HW0,aa HB2⟩
   case measure=>simp[intOf]; omega
  have hkn:k=ls.length:=by omega
  have HL:=ae (any_no (p:=fun k=>decide (k=(⟨l,z,x,y⟩:K4))) (by rw[<-hkn]; exact aa hno))
  have HB1:=ae hb;have HH0:=ae h0;subst hkn;clear hb h0
  go_wp2_with fail
  go_loopw [6,7] (fun i _ wx=>∃k:Nat,k<=W.length/\i=.int .i64 k/\Hid (∀i a,i<k->W[i]?=some a->(match a with|some u=>decide (u.f.b=(⟨l,z,x,y⟩:K4))|none=>false)=false)/\wx.heap[w.heap.size]?=some (.cells #[l,z,x,y] 39)/\Below w.heap.size w wx) (fun i _ _=>W.length-(intOf i).toNat)
  case atStart=>exact⟨0,by omega,rfl,ae (fun i a hi=>absurd hi (by omega)),aa HH0,aa HB1⟩
  case round=>
   obtain⟨k,hk,rfl,hno,h0,hb⟩:=hrel;have hsz:=hb.size;have r9:=(hb.cell (p:=⟨fb,9,none⟩) hlt0).trans (aa HC9)
   by_cases hlt:k<W.length
   ·have hkn:(k:Int)<W.length:=by omega
    obtain⟨b,off,rfl,hbl,hc0⟩:=aa HCB (by omega)
    obtain⟨o,ht⟩:∃t,W[k]?=some t:=⟨_,List.getElem?_eq_getElem hlt⟩
    have hp0:w.cell? ⟨b,off+k,none⟩=some (ptr (o.map Wk.g)):=by
     have:=hc0 k (o.map Wk.g) (by rw[List.getElem?_map,ht]; rfl) 0 _ rfl
     rwa [show off+k*fK.wid+0=off+k by simp[fK]] at this
    have hp:=(hb.cell (p:=⟨b,off+k,none⟩) hbl).trans hp0;have hK:∀W,Below wr.heap.size wr W->W.rangeAt w.heap.size 0 #[.int .i64 l,.int .i64 z,.int .i64 x,.int .i64 y].toList:=fun W h=>ao (ag h0 h);have HB:=ae hb;have H0:=ae h0
    cases o with
    | none=>
     have hp':wr.cell? ⟨b,off+k,none⟩=some (.pointer none):=hp;clear hp hc0 hp0 hb
     go_wp2_with fail
     refine aM (by kernel_rfl) (by kernel_rfl) ?_
     refine bD (.pointer none) ?_;refine bH (.bool false) ?_;refine bD (.bool false) ?_;refine kn rfl ?_;simp only[qZ];refine kn rfl ?_;simp only[qZ];refine kn rfl ?_;simp only[qZ];refine kn rfl ?_;simp only[qZ];refine kn rfl ?_;simp only[qZ];refine kn rfl ?_;simp only[qZ];refine bH (.bool false) ?_;refine wpQuiet_nil ?_;intro w2 hw2;have hw0:=ag (aa H0) hw2;have HB2:=ae ((aa HB).trans (hw2.mono (aa HB).size));have HW0:=ae hw0;clear hw0 hw2 hK h0
     go_wp2_with fail
     go_roundw
     case rel=>exact⟨k+1,by omega,by go_num,ae (fun i a hi ha=>by
      by_cases e:i=k
      ·subst e; rw[ht] at ha; simp only[Option.some.injEq] at ha; subst ha; rfl
      exact aa hno i a (by omega) ha),aa HW0,aa HB2⟩
     case measure=>simp[intOf]; omega
    | some u=>
     have hp':wr.cell? ⟨b,off+k,none⟩=some (.pointer (some ⟨u.g,0,none⟩)):=hp;have hug:=ag (aa HU k u ht) hb;have hW:∀W,Below wr.heap.size wr W->W.rangeAt u.g 0 #[Value.int .i64 u.f.b.l,.int .i64 u.f.b.z,.int .i64 u.f.b.x,.int .i64 u.f.b.y].toList:=fun W h=>rng4u (ag hug h) rfl;obtain⟨ug,⟨⟨rl,rz,rx,ry⟩,ur,ul,uo⟩,urv,uR⟩:=u;clear hp hc0 hp0 hb hug
     go_wp2_with fail
     refine aM (by kernel_rfl) (by kernel_rfl) ?_
     refine eI ug 0 ?_;refine bH (.bool true) ?_;refine bD (.bool true) ?_;refine eI ug 0 ?_;refine bd ug 0 ?_;refine bd ug 0 ?_;refine aR rfl 39 _ rfl (ug) (0) rfl (#[rl,rz,rx,ry]) _ underlying39 rfl (bj _ _ _ _) (hW) ?_;simp only[qZ];refine aR rfl 39 _ rfl (w.heap.size) (0) rfl (#[l,z,x,y]) _ underlying39 rfl (bj _ _ _ _) (hK) ?_;simp only[qZ]
     refine bH (.bool (decide ((⟨rl,rz,rx,ry⟩:K4)=⟨l,z,x,y⟩))) ?_ (h:=fun w' hw'=>by simp[go_sem,eql39])
     refine bH (.bool (decide ((⟨rl,rz,rx,ry⟩:K4)=⟨l,z,x,y⟩))) ?_;refine wpQuiet_nil ?_;intro w2 hw2;have hw0:=ag (aa H0) hw2;have HB2:=ae ((aa HB).trans (hw2.mono (aa HB).size));have HW0:=ae hw0;clear hw0 hw2 hK h0 hW
     by_cases he:(⟨rl,rz,rx,ry⟩:K4)=⟨l,z,x,y⟩
     ·have hde:decide ((⟨rl,rz,rx,ry⟩:K4)=⟨l,z,x,y⟩)=true:=by simp[he]
      have HY:=ae (any_yes (p:=fun o:Option Wk=>match o with|some u=>decide (u.f.b=(⟨l,z,x,y⟩:K4))|none=>false) ht hde)
      clear he;simp only[hde]
      go_wp2_with fail
      go_ret
      exact⟨ai (by rw[aa HL]; unfold hasW; rw[aa HY]; rfl),aa HB2⟩
     have hde:decide ((⟨rl,rz,rx,ry⟩:K4)=⟨l,z,x,y⟩)=false:=by simp[he]
     clear he;have HD:=ae hde;simp only[hde]
     go_wp2_with fail
     go_roundw
     case rel=>exact⟨k+1,by omega,by go_num,ae (fun i a hi ha=>by
      by_cases e:i=k
      ·subst e; rw[ht] at ha; simp only[Option.some.injEq] at ha; subst ha; exact aa HD
      exact aa hno i a (by omega) ha),aa HW0,aa HB2⟩
     case measure=>simp[intOf]; omega
   have hkn:k=W.length:=by omega
   have HL2:=ae (any_no (p:=fun o:Option Wk=>match o with|some u=>decide (u.f.b=(⟨l,z,x,y⟩:K4))|none=>false) (by rw[<-hkn]; exact aa hno))
   subst hkn
   go_wp2_with fail
   go_ret
   exact⟨ai (by rw[aa HL]; unfold hasW; rw[aa HL2]; rfl),hb⟩
theorem dy.err {k:K4}(h:dy k):keyErr k.l k.z k.x k.y=0:=by
 have h1:=h.l;have h2:=h.z;have h3:=h.x;have h4:=h.y;unfold keyErr
 rw[if_neg (by omega),if_neg (by omega),if_neg (by omega)]
theorem dD.sto {w:World}{sb:Nat}{keep ver:Int}{sl pv:Value}{LS PL:List (Nat->Int)}(h:dD w sb keep ver sl pv LS PL):Sto w sb keep ver sl pv LS:=⟨h.blk,h.own⟩
def eA (v:Int)(k:K4)(LS:List Ft):Int:=eW v k.l k.z k.x k.y LS LS.length
theorem eU (fb:Nat)(X:FV)(ver:Int)(sl pv:Value)(LS PL:List Ft)(l z x y reads:Int)(w:World)(hf:aq w fb X)(hs:dD w X.sb 0 ver sl pv LS PL)(hl:LS.length<=1000)(hk:dy ⟨l,z,x,y⟩)(hv:0<=ver):
  Calls prog 148 #[.pointer (some ⟨fb,0,none⟩),.agg #[l,z,x,y],reads] w fun e w'=>e=.returned (.bool (decide (eA ver ⟨l,z,x,y⟩ LS<=reads)))/\Below w.heap.size w w':=by
 have hlt0:=an hf;have he:=hk.err;have hb0:=(Below.refl w.heap.size w).alloc aD (.cells #[l,z,x,y] 39);have hA:=heap_alloc_new w (.cells #[l,z,x,y] 39)
 have hz1:(w.alloc (.cells #[l,z,x,y] 39)).heap.size=w.heap.size+1:=by simp
 have c6:=(hb0.cell (p:=⟨fb,6,none⟩) hlt0).trans hf.cells.2.2.2.2.2.2.1;have hs1:=hs.on hb0;have V:=dQ X.sb 0 ver sl pv LS PL _ hs1
 have hF:∀W,Below (w.alloc (.cells #[l,z,x,y] 39)).heap.size (w.alloc (.cells #[l,z,x,y] 39)) W->W.cell? ⟨fb,6,none⟩=some (.pointer (some ⟨X.sb,0,none⟩)):=fun W h=>(h.cell (p:=⟨fb,6,none⟩) (by show fb<_; omega)).trans c6
 have hK:∀W,Below (w.alloc (.cells #[l,z,x,y] 39)).heap.size (w.alloc (.cells #[l,z,x,y] 39)) W->W.rangeAt w.heap.size 0 #[.int .i64 l,.int .i64 z,.int .i64 x,.int .i64 y].toList:=fun W h=>ao (ag hA h);have ST:∀W,Below (w.alloc (.cells #[l,z,x,y] 39)).heap.size (w.alloc (.cells #[l,z,x,y] 39)) W->Calls prog 38 #[.pointer (some ⟨X.sb,0,none⟩),ver,.agg #[l,z,x,y]] W fun e w'=>e=.returned (.tuple #[.int .i64 (eW ver l z x y LS LS.length),()])/\Below W.heap.size W w':=fun W h=>nZ X.sb 0 ver sl pv LS ver l z x y W (hs1.on h).sto hl he ⟨hv,Int.le_refl _⟩;have HB0:=ae hb0;unfold eA;clear hf hs hs1 hb0 he hk;generalize eW ver l z x y LS LS.length=S at ST ⊢;go_enter func148,ntmps148
 go_wp2_with fail
 refine V.mono ?_;rintro e w9 ⟨rfl,rfl⟩
 go_wp2_with fail
 refine aM (by kernel_rfl) (by kernel_rfl) ?_
 refine eI fb 0 ?_;refine bd fb 0 ?_;refine bd fb 6 ?_
 refine bd X.sb 0 ?_ (h:=fun w' hw'=>by simp[go_sem,hF w' hw'])
 refine bD (.int .i64 ver) ?_;refine aR rfl 39 _ rfl (w.heap.size) (0) rfl (#[l,z,x,y]) _ underlying39 rfl (bj _ _ _ _) (hK) ?_;simp only[qZ]
 refine eB rfl 38 (#[.pointer (some ⟨X.sb,0,none⟩),ver,.agg #[l,z,x,y]]) (fun _=>by simp[go_sem]) (.tuple #[S,()]) (ST) ?_
 simp only[qZ];refine bD (.tuple #[S,()]) ?_;refine bH (.int .i64 S) ?_;refine bH (.int .i64 0) ?_;refine bF rfl _ rfl (.int .i64 S) rfl ?_;simp only[qZ];refine bF rfl _ rfl (.int .i64 0) rfl ?_;simp only[qZ];refine wpQuiet_nil ?_;intro w2 hw2
 have HB2:=ae ((aa HB0).trans (hw2.mono (by simp)))
 clear hw2 hF hK ST V hA c6
 go_wp2_with fail
 go_ret;exact⟨rfl,aa HB2⟩
theorem pb (fb:Nat)(X:FV)(ver:Int)(sl pv:Value)(LS PL:List Ft)(n l z x y a d reads:Int)(w:World)(hf:aq w fb X)(hs:dD w X.sb 0 ver sl pv LS PL)(hl:LS.length<=1000)(hk:dy ⟨l,z,x,y⟩)(hv:0<=ver):
  Calls prog 176 #[.pointer (some ⟨fb,0,none⟩),.agg #[n,l,z,x,y,a,d],reads] w fun e w'=>e=.returned (.bool (decide (a<=reads) || decide (eA ver ⟨l,z,x,y⟩ LS<=reads)))/\Below w.heap.size w w':=by
 have hb0:=(Below.refl w.heap.size w).alloc aD (.cells #[n,l,z,x,y,a,d] 201);have U:=eU fb X ver sl pv LS PL l z x y reads _ (ag hf hb0) (hs.on hb0) hl hk hv;have HB0:=ae hb0;clear hf hs hb0 hk
 by_cases c:a<=reads
 ·go_enter func176,ntmps176
  go_wp2_with fail
  go_ret
  exact⟨ai (by simp[c]),aa HB0⟩
 go_enter func176,ntmps176
 go_wp2_with fail
 refine U.mono ?_;rintro e w9 ⟨rfl,hb9⟩
 have HB9:=ae ((aa HB0).trans (hb9.mono (by simp)))
 clear hb9
 go_wp2_with fail
 go_ret
 exact⟨ai (by rw[decide_eq_false (show ¬a<=reads by omega)]; rfl),aa HB9⟩
theorem dN {α:Type}{l:List α}{k:Nat}{a:α}(p:α->Bool)(h:l[k]?=some a):(l.take (k+1)).filter p=(l.take k).filter p++(if p a=true then [a] else []):=by
 rw[be h,List.filter_append]
 by_cases c:p a=true
 ·rw[if_pos c]; simp[c]
 rw[if_neg c]; simp[c]
theorem ah.sl {α:Type}{R:dR α}{T:TypeId}{w:World}{v:Value}{l:List α}(h:ah R T w v l):∃oa n c,v=.slice oa n c:=by
 rcases h with⟨rfl,_⟩|⟨g,off,c,cur,rfl,_⟩
 ·exact⟨_,_,_,rfl⟩
 exact⟨_,_,_,rfl⟩
theorem kR (fb:Nat)(X:FV)(ls:List K4)(ws:List dJ)(w:World)(hf:aq w fb X)(hv:bL cW w X.wv ws)(ho:ah bT 39 w X.lv ls)(hs:∀r∈ws,bP r.k)(hl:ws.length<=100000000)(hll:ls.length<=10000000):
  Calls prog 97 #[.pointer (some ⟨fb,0,none⟩)] w fun e w'=>e=.returned (.tuple #[])/\(∃lv',aq w' fb { X with lv:=lv' }/\ah bT 39 w' lv' (ls.filter fun b=>decide (0<aC ws b))/\∀g,lv'.ownBlock=some g->w.heap.size<=g)/\aE (fun k=>k=fb) w w':=by
 have hlt0:=an hf;obtain⟨oa,cap,e,hcap,hm,hc⟩:=ho.at;have HC:=ae hc;have HF:=ae hf;have HV:=ae hv;have HS:=ae hs;unfold maxLen at hm
 have hN:=cr (R:=bT) (T:=39) w [] #[] rfl (by simp)
 have hB1:=(Below.refl w.heap.size w).alloc aD (.cells #[] 39);have HN:=ae hN;have HB1:=ae hB1
 have c8:w.cell? ⟨fb,8,none⟩=some (.slice oa ls.length cap):=by rw[<-e]; exact hf.cells.2.2.2.2.2.2.2.2.1
 have HC8:=ae c8;clear hf ho hc hN hB1 e c8 hv hs;go_enter func97,ntmps97
 go_wp2_with fail
 go_loopw [2,3] (fun lv i wr=>∃k:Nat,k<=ls.length/\i=.int .i64 k/\ah bT 39 wr lv ((ls.take k).filter fun b=>decide (0<aC ws b))/\Hid (∀g,lv.ownBlock=some g->w.heap.size<=g)/\Below w.heap.size w wr) (fun _ i _=>ls.length-(intOf i).toNat)
 case atStart=>exact⟨0,by omega,rfl,by simpa using aa HN,ae (fun g hg=>by simp[Value.ownBlock] at hg; omega),aa HB1⟩
 case round=>
  obtain⟨k,hk,rfl,hown,hfr,hb⟩:=hrel;have hsz:=hb.size;have r8:=(hb.cell (p:=⟨fb,8,none⟩) hlt0).trans (aa HC8)
  by_cases hlt:k<ls.length
  ·have hkn:(k:Int)<ls.length:=by omega
   obtain⟨b,off,rfl,hbl,hc0⟩:=aa HC (by omega)
   obtain⟨⟨rl,rz,rx,ry⟩,ht⟩:∃t,ls[k]?=some t:=⟨_,List.getElem?_eq_getElem hlt⟩;have hrg0:w.rangeAt b (off+k*4) #[.int .i64 rl,.int .i64 rz,.int .i64 rx,.int .i64 ry].toList:=bL.key hc0 ht;have hrg:=dA hrg0 hb hbl;have CF:=fe fb X ws rl rz rx ry wr (ag (aa HF) hb) ((aa HV).on hb) (aa HS) hl;have HB:=ae hb;have HR0:=ae hrg0;have HO:=ae hown;clear hb hc0 hrg0 hown
   go_wp2_with (refine bU 39 #[rl,rz,rx,ry] underlying39 rfl (bj _ _ _ _) b (off+k*4) hrg rfl _ rfl rfl ?_)
   refine CF.mono ?_;rintro e w2 ⟨rfl,hb2⟩;have hB2:=(aa HB).trans (hb2.mono (aa HB).size);have hrg2:=dA (aa HR0) hB2 hbl;have q8:=(hB2.cell (p:=⟨fb,8,none⟩) hlt0).trans (aa HC8);have hown2:=(aa HO).on hb2;have hsz2:=hB2.size;have HB2:=ae hB2;have hfs:=dN (fun b=>decide (0<aC ws b)) ht;obtain⟨C,hC⟩:∃C,aC ws ⟨rl,rz,rx,ry⟩=C:=⟨_,rfl⟩;rw[hC] at hfs;rw[hC];clear CF hb2 hB2 hrg r8
   by_cases hp:0<C
   ·have hp':(0:Int)<C:=by omega
    rw[if_pos (by simpa using hp)] at hfs
    have hat:=aZ bT 39 w2 ⟨rl,rz,rx,ry⟩ #[rl,rz,rx,ry] rfl;have hownA:=hown2.on (bu.alloc aD (.cells #[rl,rz,rx,ry] 39))
    obtain⟨v3,w3,r1,r2,r3,r4⟩:=apKey hownA hat (by have:=List.length_filter_le (fun b=>decide (0<aC ws b)) (ls.take k); simp at this ⊢; omega)
    rw[<-hfs] at r2;have HO3:=ae r2
    have HB3:=ae (((aa HB2).alloc hsz2 (.cells #[rl,rz,rx,ry] 39)).grown r3 (by simp; omega) (fun g hg=>aa hfr g hg))
    have HFR:=ae (show ∀g,v3.ownBlock=some g->w.heap.size<=g from fun g hg=>by
     rcases r4 with r4|r4
     ·exact aa hfr g (r4▸hg)
     have:=r4 g hg; simp at this; omega)
    clear hown2 hat hownA r2 r3 r4 hfs hp hC
    go_wp2_with (first|refine bU 39 #[rl,rz,rx,ry] underlying39 rfl (bj _ _ _ _) b (off+k*4) hrg2 rfl _ rfl rfl ?_|refine cP _ _ (mt rl rz rx ry _ _ _ rfl rfl _) rfl ?_|(at_builtin; refine fS 127 r1 rfl _ _ rfl rfl rfl rfl ?_))
    go_roundw
    case rel=>exact⟨k+1,by omega,by go_num,aa HO3,aa HFR,aa HB3⟩
    case measure=>simp[intOf]; omega
   have hp':¬(0:Int)<C:=by omega
   rw[if_neg (by simpa using hp),List.append_nil] at hfs
   rw[<-hfs] at hown2;have HO3:=ae hown2;clear hown2 hfs hp hC
   go_wp2_with fail
   go_roundw
   case rel=>exact⟨k+1,by omega,by go_num,aa HO3,hfr,aa HB2⟩
   case measure=>simp[intOf]; omega
  have hkn:k=ls.length:=by omega
  have hfb:=ag (aa HF) hb;have hfz:=jU hfb 8
  have htl:ls.take k=ls:=by rw[hkn,List.take_length]
  rw[htl] at hown
  have HH:Hid ((∃lv',aq (wr.setCell ⟨fb,8,none⟩ u2) fb { X with lv:=lv' }/\ah bT 39 (wr.setCell ⟨fb,8,none⟩ u2) lv' (ls.filter fun b=>decide (0<aC ws b))/\∀g,lv'.ownBlock=some g->w.heap.size<=g)/\aE (fun k=>k=fb) w (wr.setCell ⟨fb,8,none⟩ u2)):=
   ⟨⟨u2,aq.set hfb 8 u2 (FV.set_lv X u2),hown.same (fun g hg=>Below.heap_setCell _ _ _ _ (by have:=aa hfr g hg; show g≠fb; omega)),aa hfr⟩,(aE.of_below hb).setCell u2 (fun _=>rfl)⟩
  obtain⟨oa4,n4,c4,rfl⟩:=hown.sl;clear hown hb hfb htl;subst hkn
  go_wp2_with fail
  exact bodyPost_end (results_none results97 _ _ _) rfl ⟨rfl,aa HH⟩
theorem ns (n l z x y a d:Int):(prog.info? 201).map (·.size)=some (#[Value.int .i64 n,Value.int .i64 l,Value.int .i64 z,Value.int .i64 x,Value.int .i64 y,Value.int .i64 a,Value.int .i64 d]:Array Value).size:=by kernel_rfl
def iU (ws:List dJ)(now:Int):List gD:=(ws.filter fun r=>decide (r.due<=now)).map fun r=>⟨r.who,504,⟨#[]⟩,⟨#[]⟩⟩
def gY (ws:List dJ)(now:Int):List dJ:=ws.filter fun r=>decide (¬r.due<=now)
theorem lateR_snoc {ws:List dJ}{k:Nat}{r:dJ}(now:Int)(h:ws[k]?=some r):iU (ws.take (k+1)) now=iU (ws.take k) now++(if r.due<=now then [⟨r.who,504,⟨#[]⟩,⟨#[]⟩⟩] else []):=by
 unfold iU;rw[dN _ h,List.map_append]
 congr 1
 by_cases c:r.due<=now<;>simp[c]
theorem lateL_snoc {ws:List dJ}{k:Nat}{r:dJ}(now:Int)(h:ws[k]?=some r):gY (ws.take (k+1)) now=gY (ws.take k) now++(if r.due<=now then [] else [r]):=by
 unfold gY;rw[dN _ h]
 congr 1
 by_cases c:r.due<=now<;>simp[c]
theorem lateR_len (ws:List dJ)(now:Int):(iU ws now).length<=ws.length:=by unfold iU; rw[List.length_map]; exact List.length_filter_le _ _
theorem nJ (ws:List dJ)(now:Int):(gY ws now).length<=ws.length:=List.length_filter_le _ _
theorem bN {v v':Value}{B n:Nat}(hfr:∀g,v.ownBlock=some g->B<=g)(r4:v'.ownBlock=v.ownBlock\/∀g,v'.ownBlock=some g->n<=g)(hn:B<=n):∀g,v'.ownBlock=some g->B<=g:=fun g hg=>by
 rcases r4 with r4|r4
 ·exact hfr g (r4▸hg)
 have:=r4 g hg; omega
theorem mA (fb:Nat)(X:FV)(ws:List dJ)(w:World)(hf:aq w fb X)(ho:ah cW 201 w X.wv ws)(hl:ws.length<=10000000):
  Calls prog 96 #[.pointer (some ⟨fb,0,none⟩)] w fun e w'=>(∃rv,e=.returned rv/\ah bE 103 w' rv (iU ws X.nw)/\∀g,rv.ownBlock=some g->w.heap.size<=g)/\(∃wv',aq w' fb { X with wv:=wv' }/\ah cW 201 w' wv' (gY ws X.nw)/\∀g,wv'.ownBlock=some g->w.heap.size<=g)/\aE (fun k=>k=fb) w w':=by
 have hlt0:=an hf;obtain⟨oa,cap,e,hcap,hm,hc⟩:=ho.at;have HC:=ae hc;have HF:=ae hf;unfold maxLen at hm
 have hz1:(w.alloc (.cells #[] 103)).heap.size=w.heap.size+1:=by simp
 have hB1:=(Below.refl w.heap.size w).alloc aD (.cells #[] 103)
 have hB2:=hB1.alloc (by simp) (.cells #[] 201)
 have hN:=(cr (R:=bE) (T:=103) w [] #[] rfl (by simp)).on (bu.alloc aD (.cells #[] 201))
 have hM:=cr (R:=cW) (T:=201) (w.alloc (.cells #[] 103)) [] #[] rfl (by simp)
 have HN:=ae hN;have HM:=ae hM;have HB1:=ae hB2;obtain⟨nw,hnw⟩:∃nw,X.nw=nw:=⟨_,rfl⟩
 have c7:w.cell? ⟨fb,7,none⟩=some (.slice oa ws.length cap):=by rw[<-e]; exact hf.cells.2.2.2.2.2.2.2.1
 have c3:w.cell? ⟨fb,3,none⟩=some (.int .i64 nw):=by rw[<-hnw]; exact hf.cells.2.2.2.1
 have HC7:=ae c7;have HC3:=ae c3;rw[hnw];have HNW:=ae hnw;clear hf ho hc hN hM hB1 hB2 e c7 c3 hnw;go_enter func96,ntmps96
 go_wp2_with fail
 go_loopw [3,4,5,6] (fun rv lv i _ wr=>∃k:Nat,k<=ws.length/\i=.int .i64 k/\ah bE 103 wr rv (iU (ws.take k) nw)/\ah cW 201 wr lv (gY (ws.take k) nw)/\Hid (∀g,rv.ownBlock=some g->w.heap.size<=g)/\Hid (∀g,lv.ownBlock=some g->w.heap.size<=g)/\Below w.heap.size w wr) (fun _ _ i _ _=>ws.length-(intOf i).toNat)
 case atStart=>exact⟨0,by omega,rfl,by simpa[iU] using aa HN,by simpa[gY] using aa HM,ae (fun g hg=>by simp[Value.ownBlock] at hg; omega),ae (fun g hg=>by simp[Value.ownBlock] at hg; omega),aa HB1⟩
 case round=>
  obtain⟨k,hk,rfl,hown,hownL,hfr,hfrL,hb⟩:=hrel;have hsz:=hb.size;have r7:=(hb.cell (p:=⟨fb,7,none⟩) hlt0).trans (aa HC7)
  by_cases hlt:k<ws.length
  ·have hkn:(k:Int)<ws.length:=by omega
   obtain⟨b,off,rfl,hbl,hc0⟩:=aa HC (by omega)
   obtain⟨⟨rn,⟨rl,rz,rx,ry⟩,ra,rd⟩,ht⟩:∃t,ws[k]?=some t:=⟨_,List.getElem?_eq_getElem hlt⟩;have hrg:wr.rangeAt b (off+k*7) #[.int .i64 rn,.int .i64 rl,.int .i64 rz,.int .i64 rx,.int .i64 ry,.int .i64 ra,.int .i64 rd].toList:=dA (bL.req hc0 ht) hb hbl;have hA:=heap_alloc_new wr (.cells #[rn,rl,rz,rx,ry,ra,rd] 201);have hbA:=(Below.refl wr.heap.size wr).alloc aD (.cells #[rn,rl,rz,rx,ry,ra,rd] 201)
   have hF3:∀W,Below (wr.alloc (.cells #[rn,rl,rz,rx,ry,ra,rd] 201)).heap.size (wr.alloc (.cells #[rn,rl,rz,rx,ry,ra,rd] 201)) W->W.cell? ⟨fb,3,none⟩=some (.int .i64 nw):=fun W h=>((hb.trans ((hbA.trans (h.mono (by simp))).mono hb.size)).cell (p:=⟨fb,3,none⟩) hlt0).trans (aa HC3)
   have hD6:∀W,Below (wr.alloc (.cells #[rn,rl,rz,rx,ry,ra,rd] 201)).heap.size (wr.alloc (.cells #[rn,rl,rz,rx,ry,ra,rd] 201)) W->W.cell? ⟨wr.heap.size,6,none⟩=some (.int .i64 rd):=fun W h=>(af (ag hA h) 6).trans rfl;clear hc0
   go_wp2_with (refine bU 201 #[rn,rl,rz,rx,ry,ra,rd] underlying201 rfl (ns _ _ _ _ _ _ _) b (off+k*7) hrg rfl _ rfl rfl ?_)
   refine aM (by kernel_rfl) (by kernel_rfl) ?_
   refine bd wr.heap.size 6 ?_
   refine bH (.int .i64 rd) ?_ (h:=fun w' hw'=>by simp[go_sem,hD6 w' hw'])
   refine eI fb 0 ?_;refine bd fb 0 ?_;refine bd fb 3 ?_
   refine bH (.int .i64 nw) ?_ (h:=fun w' hw'=>by simp[go_sem,hF3 w' hw'])
   refine bH (.bool (decide (rd<=nw))) ?_;refine wpQuiet_nil ?_;intro w2 hw2;have hA2:=ag hA hw2
   have hbW:=hbA.trans (hw2.mono (by simp))
   have hown2:=hown.on hbW;have hownL2:=hownL.on hbW;have hb2:=hb.trans (hbW.mono hb.size);have hsz2:=hb2.size;have hlr:=lateR_snoc nw ht;have hll:=lateL_snoc nw ht;have hlen1:=lateR_len (ws.take k) nw;have hlen2:=nJ (ws.take k) nw;rw[List.length_take] at hlen1 hlen2;have HB2:=ae hb2;have hlt2:w.heap.size<=wr.heap.size:=hsz;clear hF3 hD6 hA hbA hw2 hbW hb hb2 hown hownL hrg r7;dsimp only at hlr hll
   by_cases hp:rd<=nw
   ·rw[if_pos hp] at hlr
    rw[if_pos hp,List.append_nil] at hll;have hat:=aZ bE 103 w2 ⟨rn,504,⟨#[]⟩,⟨#[]⟩⟩ #[rn,(504:Int),.string ⟨#[]⟩,.string ⟨#[]⟩] rfl;have hbA:=(Below.refl w2.heap.size w2).alloc aD (.cells #[rn,(504:Int),.string ⟨#[]⟩,.string ⟨#[]⟩] 103);have hownA:=hown2.on hbA;have hownLA:=hownL2.on hbA
    obtain⟨v3,w3,r1,r2,r3,r4⟩:=apRep hownA hat (by simp; omega)
    rw[<-hlr] at r2;rw[<-hll] at hownLA;have hc0:=(af hA2 0).trans (show _=some (Value.int .i64 rn) from rfl);have HO3:=ae r2
    have HL3:=ae (hownLA.same (w':=w3) fun g hg=>r3.block g (hownLA.lt hg) (fun q=>by
     obtain⟨c1,d1⟩:=hownA.ty q.symm
     exact au hownLA d1 (by decide) g hg rfl))
    have HB3:=ae (((aa HB2).alloc hsz2 (.cells #[rn,(504:Int),.string ⟨#[]⟩,.string ⟨#[]⟩] 103)).grown r3 (by simp; omega) (fun g hg=>aa hfr g hg))
    have HFR:=ae (bN (aa hfr) r4 (by simp; omega))
    clear hown2 hownL2 hat hownA hownLA r2 r3 r4 hlr hll hbA hA2
    go_wp2_with (first|refine cP _ _ (gz rn 504 ⟨#[]⟩ ⟨#[]⟩ _ _ _ rfl rfl _) rfl ?_|(at_builtin; refine fS 89 r1 rfl _ _ rfl rfl rfl rfl ?_))
    go_roundw
    case rel=>exact⟨k+1,by omega,by go_num,aa HO3,aa HL3,aa HFR,hfrL,aa HB3⟩
    case measure=>simp[intOf]; omega
   rw[if_neg hp,List.append_nil] at hlr;rw[if_neg hp] at hll;have hat:=aZ cW 201 w2 ⟨rn,⟨rl,rz,rx,ry⟩,ra,rd⟩ #[rn,rl,rz,rx,ry,ra,rd] rfl;have hbA:=(Below.refl w2.heap.size w2).alloc aD (.cells #[rn,rl,rz,rx,ry,ra,rd] 201);have hownA:=hown2.on hbA;have hownLA:=hownL2.on hbA
   obtain⟨v3,w3,r1,r2,r3,r4⟩:=apReq hownLA hat (by simp; omega)
   rw[<-hll] at r2;rw[<-hlr] at hownA;have HL3:=ae r2
   have HO3:=ae (hownA.same (w':=w3) fun g hg=>r3.block g (hownA.lt hg) (fun q=>by
    obtain⟨c1,d1⟩:=hownLA.ty q.symm
    exact au hownA d1 (by decide) g hg rfl))
   have HB3:=ae (((aa HB2).alloc hsz2 (.cells #[rn,rl,rz,rx,ry,ra,rd] 201)).grown r3 (by simp; omega) (fun g hg=>aa hfrL g hg))
   have HFR:=ae (bN (aa hfrL) r4 (by simp; omega))
   have hrg2:w2.rangeAt wr.heap.size 0 #[.int .i64 rn,.int .i64 rl,.int .i64 rz,.int .i64 rx,.int .i64 ry,.int .i64 ra,.int .i64 rd].toList:=ao hA2;clear hown2 hownL2 hat hownA hownLA r2 r3 r4 hlr hll hbA hA2
   go_wp2_with (first|refine bU 201 #[rn,rl,rz,rx,ry,ra,rd] underlying201 rfl (ns _ _ _ _ _ _ _) wr.heap.size 0 hrg2 rfl _ rfl rfl ?_|refine cP _ _ (bsReq rn rl rz rx ry ra rd _ _ _ rfl rfl _) rfl ?_|(at_builtin; refine fS 126 r1 rfl _ _ rfl rfl rfl rfl ?_))
   go_roundw
   case rel=>exact⟨k+1,by omega,by go_num,aa HO3,aa HL3,hfr,aa HFR,aa HB3⟩
   case measure=>simp[intOf]; omega
  have hkn:k=ws.length:=by omega
  have hnw:=aa HNW;subst hnw;have hfb:=ag (aa HF) hb;have hfz:=jU hfb 7
  have htl:ws.take k=ws:=by rw[hkn,List.take_length]
  rw[htl] at hown hownL
  have HH:Hid (∀rv,rv=u3->(∃rv',Ending.returned rv=.returned rv'/\ah bE 103 (wr.setCell ⟨fb,7,none⟩ u4) rv' (iU ws X.nw)/\∀g,rv'.ownBlock=some g->w.heap.size<=g)/\(∃wv',aq (wr.setCell ⟨fb,7,none⟩ u4) fb { X with wv:=wv' }/\ah cW 201 (wr.setCell ⟨fb,7,none⟩ u4) wv' (gY ws X.nw)/\∀g,wv'.ownBlock=some g->w.heap.size<=g)/\aE (fun k=>k=fb) w (wr.setCell ⟨fb,7,none⟩ u4)):=by
   rintro rv rfl
   exact⟨⟨_,rfl,hown.same (fun g hg=>Below.heap_setCell _ _ _ _ (by have:=aa hfr g hg; show g≠fb; omega)),aa hfr⟩,⟨u4,aq.set hfb 7 u4 (FV.set_wv X u4),hownL.same (fun g hg=>Below.heap_setCell _ _ _ _ (by have:=aa hfrL g hg; show g≠fb; omega)),aa hfrL⟩,(aE.of_below hb).setCell u4 (fun _=>rfl)⟩
  obtain⟨oa4,n4,c4,rfl⟩:=hownL.sl;obtain⟨oa3,n3,c3,rfl⟩:=hown.sl;clear hown hownL hb hfb htl;subst hkn
  go_wp2_with fail
  go_ret;exact aa HH _ rfl
def iX (ver:Int)(LS:List Ft)(ts:List aL)(reads:Int)(r:dJ):Option aL:=
 match cS ts r.k with
 | some t=>if decide (r.asked<=reads) || decide (eA ver r.k LS<=reads) then some t else none
 | none=>none
def dI (ver:Int)(LS:List Ft)(ts:List aL)(reads:Int)(ws:List dJ):List gD:=ws.filterMap fun r=>(iX ver LS ts reads r).map fun t=>⟨r.who,200,t.body,t.tag⟩
def cN (ver:Int)(LS:List Ft)(ts:List aL)(reads:Int)(ws:List dJ):List dJ:=ws.filter fun r=>(iX ver LS ts reads r).isNone
section
variable {ver:Int}{LS:List Ft}{ts:List aL}{reads:Int}{ws:List dJ}{k:Nat}{r:dJ}
theorem fineR_some {t:aL}(h:ws[k]?=some r)(hg:iX ver LS ts reads r=some t):dI ver LS ts reads (ws.take (k+1))=dI ver LS ts reads (ws.take k)++[⟨r.who,200,t.body,t.tag⟩]/\cN ver LS ts reads (ws.take (k+1))=cN ver LS ts reads (ws.take k):=by
 unfold dI cN;rw[dN _ h,be h,List.filterMap_append];simp[hg]
theorem mi (h:ws[k]?=some r)(hg:iX ver LS ts reads r=none):dI ver LS ts reads (ws.take (k+1))=dI ver LS ts reads (ws.take k)/\cN ver LS ts reads (ws.take (k+1))=cN ver LS ts reads (ws.take k)++[r]:=by
 unfold dI cN;rw[dN _ h,be h,List.filterMap_append];simp[hg]
theorem fineR_len:(dI ver LS ts reads ws).length<=ws.length:=List.length_filterMap_le _ _
theorem nN:(cN ver LS ts reads ws).length<=ws.length:=List.length_filter_le _ _
end
theorem mB (fb:Nat)(X:FV)(ver:Int)(sl pv:Value)(LS PL:List Ft)(ws:List dJ)(tsv:Value)(ts:List aL)(reads:Int)(w:World)(hf:aq w fb X)(hs:dD w X.sb 0 ver sl pv LS PL)(hLS:LS.length<=1000)(hv:0<=ver)(ho:ah cW 201 w X.wv ws)(hk:∀r∈ws,dy r.k)(hat:bL aW w tsv ts)(hl:ws.length<=10000000):
  Calls prog 143 #[.pointer (some ⟨fb,0,none⟩),tsv,reads] w fun e w'=>(∃rv,e=.returned rv/\ah bE 103 w' rv (dI ver LS ts reads ws)/\∀g,rv.ownBlock=some g->w.heap.size<=g)/\(∃wv',aq w' fb { X with wv:=wv' }/\ah cW 201 w' wv' (cN ver LS ts reads ws)/\∀g,wv'.ownBlock=some g->w.heap.size<=g)/\aE (fun k=>k=fb) w w':=by
 have hlt0:=an hf;obtain⟨oa,cap,e,hcap,hm,hc⟩:=ho.at;have HC:=ae hc;have HF:=ae hf;have HS:=ae hs;have HK:=ae hk;have HAT:=ae hat
 have htsl:∃ta tn tc,tsv=.slice ta tn tc:=by obtain⟨a1,a2,a3,_⟩:=hat; exact⟨_,_,_,a3⟩
 unfold maxLen at hm;have hB1:=(Below.refl w.heap.size w).alloc aD (.cells #[] 103)
 have hB2:=hB1.alloc (by simp) (.cells #[] 201)
 have hN:=(cr (R:=bE) (T:=103) w [] #[] rfl (by simp)).on (bu.alloc aD (.cells #[] 201))
 have hM:=cr (R:=cW) (T:=201) (w.alloc (.cells #[] 103)) [] #[] rfl (by simp)
 have HN:=ae hN;have HM:=ae hM;have HB1:=ae hB2
 have c7:w.cell? ⟨fb,7,none⟩=some (.slice oa ws.length cap):=by rw[<-e]; exact hf.cells.2.2.2.2.2.2.2.1
 have HC7:=ae c7;clear hf ho hc hN hM hB1 hB2 e c7 hs hk hat;obtain⟨ta,tn,tc,rfl⟩:=htsl;go_enter func143,ntmps143
 go_wp2_with fail
 go_loopw [7,8,9,10,11,12] (fun rv lv i _ _ _ wr=>∃k:Nat,k<=ws.length/\i=.int .i64 k/\ah bE 103 wr rv (dI ver LS ts reads (ws.take k))/\ah cW 201 wr lv (cN ver LS ts reads (ws.take k))/\Hid (∀g,rv.ownBlock=some g->w.heap.size<=g)/\Hid (∀g,lv.ownBlock=some g->w.heap.size<=g)/\Below w.heap.size w wr) (fun _ _ i _ _ _ _=>ws.length-(intOf i).toNat)
 case atStart=>exact⟨0,by omega,rfl,by simpa[dI] using aa HN,by simpa[cN] using aa HM,ae (fun g hg=>by simp[Value.ownBlock] at hg; omega),ae (fun g hg=>by simp[Value.ownBlock] at hg; omega),aa HB1⟩
 case round=>
  obtain⟨k,hk,rfl,hown,hownL,hfr,hfrL,hb⟩:=hrel;have hsz:=hb.size;have r7:=(hb.cell (p:=⟨fb,7,none⟩) hlt0).trans (aa HC7)
  by_cases hlt:k<ws.length
  ·have hkn:(k:Int)<ws.length:=by omega
   obtain⟨b,off,rfl,hbl,hc0⟩:=aa HC (by omega)
   obtain⟨⟨rn,⟨rl,rz,rx,ry⟩,ra,rd⟩,ht⟩:∃t,ws[k]?=some t:=⟨_,List.getElem?_eq_getElem hlt⟩;have hrg:wr.rangeAt b (off+k*7) #[.int .i64 rn,.int .i64 rl,.int .i64 rz,.int .i64 rx,.int .i64 ry,.int .i64 ra,.int .i64 rd].toList:=dA (bL.req hc0 ht) hb hbl;have hko:=aa HK _ (List.mem_of_getElem? ht);dsimp only at hko;have hA:=heap_alloc_new wr (.cells #[rn,rl,rz,rx,ry,ra,rd] 201);have hbA:=(Below.refl wr.heap.size wr).alloc aD (.cells #[rn,rl,rz,rx,ry,ra,rd] 201);have hbA0:=hb.trans (hbA.mono hb.size);have FI:=mj _ ts rl rz rx ry _ ((aa HAT).on hbA0);have hlen1:=fineR_len (ver:=ver) (LS:=LS) (ts:=ts) (reads:=reads) (ws:=ws.take k);have hlen2:=nN (ver:=ver) (LS:=LS) (ts:=ts) (reads:=reads) (ws:=ws.take k);rw[List.length_take] at hlen1 hlen2;have HO:=ae (hown.on hbA);have HOL:=ae (hownL.on hbA);have HBA0:=ae hbA0;have HHA:=ae hA;clear hc0 hb hown hownL hbA hbA0
   go_wp2_with (refine bU 201 #[rn,rl,rz,rx,ry,ra,rd] underlying201 rfl (ns _ _ _ _ _ _ _) b (off+k*7) hrg rfl _ rfl rfl ?_)
   refine FI.mono ?_;rintro e w2 ⟨rfl,hb2⟩;have hA2:=ag (aa HHA) hb2;have hown2:=(aa HO).on hb2;have hownL2:=(aa HOL).on hb2;have hB2:=(aa HBA0).trans (hb2.mono (aa HBA0).size);have hsz2:wr.heap.size<w2.heap.size:=an hA2;have hT0:=heap_alloc_new w2 (.cells (tv none) 196);have hA3:=(heap_alloc_old w2 (.cells (tv none) 196) hsz2).trans hA2;have hbT:=(Below.refl w2.heap.size w2).alloc aD (.cells (tv none) 196);clear FI hb2 hA hrg r7
   cases hfo:cS ts ⟨rl,rz,rx,ry⟩ with
   | none=>
    have hg:iX ver LS ts reads ⟨rn,⟨rl,rz,rx,ry⟩,ra,rd⟩=none:=by unfold iX; dsimp only; rw[hfo]
    obtain⟨hr1,hr2⟩:=mi ht hg;have hS1:=setRow_heap _ _ _ (tv none) _ _ hT0
    have hA4:=(setRow_other (show w2.heap.size≠wr.heap.size by omega) (tv none)).trans hA3
    have hbS:=aK hbT aD (tv none);have hB4:=hB2.trans (hbS.mono hB2.size);have hown4:=hown2.on hbS;have hownL4:=hownL2.on hbS;rw[<-hr1] at hown4;have hatN:=aZ cW 201 ((w2.alloc (.cells (tv none) 196)).setRow w2.heap.size (tv none)) ⟨rn,⟨rl,rz,rx,ry⟩,ra,rd⟩ #[rn,rl,rz,rx,ry,ra,rd] rfl;have hbA:=(Below.refl ((w2.alloc (.cells (tv none) 196)).setRow w2.heap.size (tv none)).heap.size ((w2.alloc (.cells (tv none) 196)).setRow w2.heap.size (tv none))).alloc aD (.cells #[rn,rl,rz,rx,ry,ra,rd] 201);have hownA:=hown4.on hbA;have hownLA:=hownL4.on hbA
    obtain⟨v3,w3,r1,r2,r3,r4⟩:=apReq hownLA hatN (by simp; omega)
    rw[<-hr2] at r2;have HL3:=ae r2
    have HO3:=ae (hownA.same (w':=w3) fun g hg=>r3.block g (hownA.lt hg) (fun q=>by
     obtain⟨c1,d1⟩:=hownLA.ty q.symm
     exact au hownA d1 (by decide) g hg rfl))
    have HB3:=ae ((hB4.alloc hB4.size (.cells #[rn,rl,rz,rx,ry,ra,rd] 201)).grown r3 (by simp; have:=hB4.size; omega) (fun g hg=>aa hfrL g hg))
    have HFR:=ae (bN (aa hfrL) r4 (by simp; have:=hB4.size; omega))
    have hrg2:((w2.alloc (.cells (tv none) 196)).setRow w2.heap.size (tv none)).rangeAt wr.heap.size 0 #[.int .i64 rn,.int .i64 rl,.int .i64 rz,.int .i64 rx,.int .i64 ry,.int .i64 ra,.int .i64 rd].toList:=ao hA4;have HHT:=ae hfo;clear hown2 hownL2 hatN hownA hownLA r2 r3 r4 hr1 hr2 hbA hA2 hA3 hA4 hS1 hbS hB4 hB2 hown4 hownL4 hbT hg hfo
    go_wp2_with (first|refine stG 196 (tv none) (tv none) (d9 none) (je none) rfl w2.heap.size hT0 rfl _ _ rfl rfl rfl ?_|refine bU 201 #[rn,rl,rz,rx,ry,ra,rd] underlying201 rfl (ns _ _ _ _ _ _ _) wr.heap.size 0 hrg2 rfl _ rfl rfl ?_|refine cP _ _ (bsReq rn rl rz rx ry ra rd _ _ _ rfl rfl _) rfl ?_|(at_builtin; refine fS 126 r1 rfl _ _ rfl rfl rfl rfl ?_))
    go_roundw
    case rel=>exact⟨k+1,by omega,by go_num,aa HO3,aa HL3,hfr,aa HFR,aa HB3⟩
    case measure=>simp[intOf]; omega
   | some t=>
    obtain⟨⟨tl,tz,tx,ty⟩,tb,tt⟩:=t;have hS1:=setRow_heap _ _ _ (tv (some ⟨⟨tl,tz,tx,ty⟩,tb,tt⟩)) _ _ hT0
    have hA4:=(setRow_other (show w2.heap.size≠wr.heap.size by omega) (tv (some ⟨⟨tl,tz,tx,ty⟩,tb,tt⟩))).trans hA3
    have hbS:=aK hbT aD (tv (some ⟨⟨tl,tz,tx,ty⟩,tb,tt⟩));have hB4:=hB2.trans (hbS.mono hB2.size);have hown4:=hown2.on hbS;have hownL4:=hownL2.on hbS;have SV:=pb fb X ver sl pv LS PL rn rl rz rx ry ra rd reads ((w2.alloc (.cells (tv none) 196)).setRow w2.heap.size (tv (some ⟨⟨tl,tz,tx,ty⟩,tb,tt⟩))) (ag (aa HF) hB4) ((aa HS).on hB4) hLS hko hv;have hrg2:((w2.alloc (.cells (tv none) 196)).setRow w2.heap.size (tv (some ⟨⟨tl,tz,tx,ty⟩,tb,tt⟩))).rangeAt wr.heap.size 0 #[.int .i64 rn,.int .i64 rl,.int .i64 rz,.int .i64 rx,.int .i64 ry,.int .i64 ra,.int .i64 rd].toList:=ao hA4;have HHT:=ae hfo;have HB4:=ae hB4;have HS1:=ae hS1;have HA4:=ae hA4;have HO4:=ae hown4;have HOL4:=ae hownL4;clear hown2 hownL2 hA2 hA3 hbS hB2 hbT hfo hB4 hS1 hA4 hown4 hownL4
    go_wp2_with (first|refine stG 196 (tv (some ⟨⟨tl,tz,tx,ty⟩,tb,tt⟩)) (tv none) (d9 _) (je _) rfl w2.heap.size hT0 rfl _ _ rfl rfl rfl ?_|refine bU 201 #[rn,rl,rz,rx,ry,ra,rd] underlying201 rfl (ns _ _ _ _ _ _ _) wr.heap.size 0 hrg2 rfl _ rfl rfl ?_)
    refine SV.mono ?_;rintro e w5 ⟨rfl,hb5⟩;have hS5:=ag (aa HS1) hb5;have hA5:=ag (aa HA4) hb5;have hown5:=(aa HO4).on hb5;have hownL5:=(aa HOL4).on hb5;have hB5:=(aa HB4).trans (hb5.mono (aa HB4).size);have hsz5:=hB5.size;clear SV hb5 hrg2 hT0
    cases hsv:(decide (ra<=reads) || decide (eA ver ⟨rl,rz,rx,ry⟩ LS<=reads)) with
    | true=>
     have hg:iX ver LS ts reads ⟨rn,⟨rl,rz,rx,ry⟩,ra,rd⟩=some ⟨⟨tl,tz,tx,ty⟩,tb,tt⟩:=by unfold iX; dsimp only; rw[aa HHT]; dsimp only; rw[if_pos hsv]
     obtain⟨hr1,hr2⟩:=fineR_some ht hg;have hatN:=aZ bE 103 w5 ⟨rn,200,tb,tt⟩ #[rn,(200:Int),tb,tt] rfl;have hbA:=(Below.refl w5.heap.size w5).alloc aD (.cells #[rn,(200:Int),tb,tt] 103);have hownA:=hown5.on hbA;have hownLA:=hownL5.on hbA
     obtain⟨v3,w3,r1,r2,r3,r4⟩:=apRep hownA hatN (by simp; omega)
     dsimp only at hr1;rw[<-hr1] at r2;rw[<-hr2] at hownLA;have HO3:=ae r2
     have HL3:=ae (hownLA.same (w':=w3) fun g hg=>r3.block g (hownLA.lt hg) (fun q=>by
      obtain⟨c1,d1⟩:=hownA.ty q.symm
      exact au hownLA d1 (by decide) g hg rfl))
     have HB3:=ae ((hB5.alloc hsz5 (.cells #[rn,(200:Int),tb,tt] 103)).grown r3 (by simp; omega) (fun g hg=>aa hfr g hg))
     have HFR:=ae (bN (aa hfr) r4 (by simp; omega))
     have q0:=(af hA5 0).trans (show _=some (Value.int .i64 rn) from rfl);have q4:=(af hS5 4).trans (show _=some (Value.string tb) from rfl);have q5:=(af hS5 5).trans (show _=some (Value.string tt) from rfl);clear hown5 hownL5 hatN hownA hownLA r2 r3 r4 hr1 hr2 hbA hA5 hS5 hB5 hg hsv
     go_wp2_with (first|refine cP _ _ (gz rn 200 tb tt _ _ _ rfl rfl _) rfl ?_|(at_builtin; refine fS 89 r1 rfl _ _ rfl rfl rfl rfl ?_))
     go_roundw
     case rel=>exact⟨k+1,by omega,by go_num,aa HO3,aa HL3,aa HFR,hfrL,aa HB3⟩
     case measure=>simp[intOf]; omega
    | false=>
     have hg:iX ver LS ts reads ⟨rn,⟨rl,rz,rx,ry⟩,ra,rd⟩=none:=by unfold iX; dsimp only; rw[aa HHT]; dsimp only; rw[if_neg (by rw[hsv]; simp)]
     obtain⟨hr1,hr2⟩:=mi ht hg;have hatN:=aZ cW 201 w5 ⟨rn,⟨rl,rz,rx,ry⟩,ra,rd⟩ #[rn,rl,rz,rx,ry,ra,rd] rfl;have hbA:=(Below.refl w5.heap.size w5).alloc aD (.cells #[rn,rl,rz,rx,ry,ra,rd] 201);have hownA:=hown5.on hbA;have hownLA:=hownL5.on hbA
     obtain⟨v3,w3,r1,r2,r3,r4⟩:=apReq hownLA hatN (by simp; omega)
     rw[<-hr2] at r2;rw[<-hr1] at hownA;have HL3:=ae r2
     have HO3:=ae (hownA.same (w':=w3) fun g hg=>r3.block g (hownA.lt hg) (fun q=>by
      obtain⟨c1,d1⟩:=hownLA.ty q.symm
      exact au hownA d1 (by decide) g hg rfl))
     have HB3:=ae ((hB5.alloc hsz5 (.cells #[rn,rl,rz,rx,ry,ra,rd] 201)).grown r3 (by simp; omega) (fun g hg=>aa hfrL g hg))
     have HFR:=ae (bN (aa hfrL) r4 (by simp; omega))
     have hrg5:w5.rangeAt wr.heap.size 0 #[.int .i64 rn,.int .i64 rl,.int .i64 rz,.int .i64 rx,.int .i64 ry,.int .i64 ra,.int .i64 rd].toList:=ao hA5;clear hown5 hownL5 hatN hownA hownLA r2 r3 r4 hr1 hr2 hbA hA5 hS5 hB5 hg hsv
     go_wp2_with (first|refine bU 201 #[rn,rl,rz,rx,ry,ra,rd] underlying201 rfl (ns _ _ _ _ _ _ _) wr.heap.size 0 hrg5 rfl _ rfl rfl ?_|refine cP _ _ (bsReq rn rl rz rx ry ra rd _ _ _ rfl rfl _) rfl ?_|(at_builtin; refine fS 126 r1 rfl _ _ rfl rfl rfl rfl ?_))
     go_roundw
     case rel=>exact⟨k+1,by omega,by go_num,aa HO3,aa HL3,hfr,aa HFR,aa HB3⟩
     case measure=>simp[intOf]; omega
  have hkn:k=ws.length:=by omega
  have hfb:=ag (aa HF) hb;have hfz:=jU hfb 7
  have htl:ws.take k=ws:=by rw[hkn,List.take_length]
  rw[htl] at hown hownL
  have HH:Hid (∀rv,rv=u7->(∃rv',Ending.returned rv=.returned rv'/\ah bE 103 (wr.setCell ⟨fb,7,none⟩ u8) rv' (dI ver LS ts reads ws)/\∀g,rv'.ownBlock=some g->w.heap.size<=g)/\(∃wv',aq (wr.setCell ⟨fb,7,none⟩ u8) fb { X with wv:=wv' }/\ah cW 201 (wr.setCell ⟨fb,7,none⟩ u8) wv' (cN ver LS ts reads ws)/\∀g,wv'.ownBlock=some g->w.heap.size<=g)/\aE (fun k=>k=fb) w (wr.setCell ⟨fb,7,none⟩ u8)):=by
   rintro rv rfl
   exact⟨⟨_,rfl,hown.same (fun g hg=>Below.heap_setCell _ _ _ _ (by have:=aa hfr g hg; show g≠fb; omega)),aa hfr⟩,⟨u8,aq.set hfb 7 u8 (FV.set_wv X u8),hownL.same (fun g hg=>Below.heap_setCell _ _ _ _ (by have:=aa hfrL g hg; show g≠fb; omega)),aa hfrL⟩,(aE.of_below hb).setCell u8 (fun _=>rfl)⟩
  obtain⟨oa4,n4,c4,rfl⟩:=hownL.sl;obtain⟨oa3,n3,c3,rfl⟩:=hown.sl;clear hown hownL hb hfb htl;subst hkn
  go_wp2_with fail
  go_ret;exact aa HH _ rfl
theorem jT (ev:Operand->Value)(o:Oper)(x:Operand)(ty:TypeId)(ho:o.op=.load ty x)(a:Addr)(hx:ev x=.pointer (some a))(cs:Array Value){d:TypeDesc}(hu:prog.underlying ty=some d)(hd:d.isRow=true)(hi:(prog.info? ty).map (·.size)=some cs.size)(b off:Nat)(ha:a=⟨b,off,none⟩)(w:World)(hc:w.rangeAt b off cs.toList):(execOp ev o).run prog w=.ok (.value (.agg cs)) w:=by
 subst ha
 have:=run_loadVar_mid (P:=prog) w b off ty cs.toList d hc hu hd (by simpa using hi)
 unfold execOp;simp only[ho,hx,Instr.loadAt,Instr.sureAddr,Sem.run_bind,Sem.run_pure,Result.andThen_ok,this,Array.toArray_toList]
theorem stS (ev:Operand->Value)(o:Oper)(x y:Operand)(t:TypeId)(ho:o.op=.store t x y)(hz:∀w,(sizeOf t).run prog w=.ok 1 w)(fb i:Nat)(oa:Option Addr)(n c:Nat)(hx:ev x=.pointer (some ⟨fb,i,none⟩))(hy:ev y=.slice oa n c)(w:World){u:Value}(hc:w.cell? ⟨fb,i,none⟩=some u)(hf:w.frozen? ⟨fb,i,none⟩=false):(execOp ev o).run prog w=.ok .skip (w.setCell ⟨fb,i,none⟩ (.slice oa n c)):=by
 unfold execOp;simp only[ho,hx,hy];simp[go_sem,hz,hc,hf]
theorem use_any (fb:Nat)(X:FV)(ts:List aL)(tl tz tx ty:Int)(tb tt:ByteArray)(w:World)(hf:aq w fb X)(ho:ah aW 196 w X.tv ts)(hl:ts.length<=1000000):
  Calls prog 131 #[.pointer (some ⟨fb,10,none⟩),.agg #[tl,tz,tx,ty,tb,tt]] w fun e w'=>e=.returned (.tuple #[])/\(∃tv',aq w' fb { X with tv:=tv' }/\ah aW 196 w' tv' (bm ts ⟨tl,tz,tx,ty⟩++[⟨⟨tl,tz,tx,ty⟩,tb,tt⟩])/\∀g,tv'.ownBlock=some g->w.heap.size<=g)/\aE (fun k=>k=fb) w w':=by
 have hlt0:=an hf;have hb0:=(Below.refl w.heap.size w).alloc aD (.cells #[tl,tz,tx,ty,tb,tt] 196);have hA:=heap_alloc_new w (.cells #[tl,tz,tx,ty,tb,tt] 196)
 have TO:=gJ fb X ts tl tz tx ty _ (ag hf hb0) (ho.on hb0) (by omega)
 have HA:=ae hA;have HB0:=ae hb0;clear hf ho hb0 hA;go_enter func131,ntmps131
 go_wp2_with fail
 refine TO.mono ?_;rintro e w2 ⟨rfl,⟨tv2,hf2,ho2,hfr2⟩,hF2⟩
 have hne:w.heap.size≠fb:=by omega
 have hA2:=aQ (aa HA) hF2 hne;have hF02:aE (fun k=>k=fb) w w2:=(aE.of_below (aa HB0)).then hF2 (fun _ _ h=>h);have HA2:=ae hA2;have HF2:=ae hf2;have HO2:=ae ho2
 have HFR2:=ae (show ∀g,tv2.ownBlock=some g->w.heap.size+1<=g from fun g hg=>by have:=hfr2 g hg; simp at this; omega)
 have HF02:=ae hF02;clear TO hf2 ho2 hfr2 hF2 hA2 hF02
 go_wp2_with fail
 refine wp_region_held (S:=fun w'=>w'.heap[w.heap.size]?=some (.cells #[tl,tz,tx,ty,tb,tt] 196)) (by kernel_rfl) ?_
 change wpAnyH _ _ _ _ _ _ _ _ (World.drew _);have hS:(World.drew w2).heap[w.heap.size]?=some (.cells #[tl,tz,tx,ty,tb,tt] 196):=aa HA2;have hf3:aq (World.drew w2) fb { X with tv:=tv2 }:=aa HF2;have ho3:ah aW 196 (World.drew w2) tv2 (bm ts ⟨tl,tz,tx,ty⟩):=aa HO2;have hF3:aE (fun k=>k=fb) w (World.drew w2):=⟨(aa HF02).os,(aa HF02).tape,(aa HF02).output,(aa HF02).size,(aa HF02).block⟩;have hfr3:=aa HFR2;generalize World.drew w2=w3 at hS hf3 ho3 hF3 ⊢;have hgl:w.heap.size<w3.heap.size:=an hS;have hfl:fb<w3.heap.size:=an hf3;have c11:w3.cell? ⟨fb,11,none⟩=some tv2:=(af hf3 11).trans rfl;have hbA:=(Below.refl w3.heap.size w3).alloc aD (.cells #[tl,tz,tx,ty,tb,tt] 196);have hSA:=ag hS hbA;have hfA:=ag hf3 hbA;have c11A:=(hbA.cell (p:=⟨fb,11,none⟩) hfl).trans c11;have hat:=aZ aW 196 w3 ⟨⟨tl,tz,tx,ty⟩,tb,tt⟩ #[tl,tz,tx,ty,tb,tt] rfl;have hoA:=ho3.on hbA
 obtain⟨v4,w4,r1,r2,r3,r4⟩:=mz hoA hat (by have:=eL ts ⟨tl,tz,tx,ty⟩; simp; omega)
 have hS4:=(r3.block w.heap.size (by simp; omega) (fun q=>by have:=hfr3 w.heap.size q.symm; omega)).trans hSA
 have hf4:aq w4 fb { X with tv:=tv2 }:=(r3.block fb (by simp; omega) (fun q=>au hoA hfA (by decide) fb q.symm rfl)).trans hfA
 have hfz:=jU hf4 11;have c114:w4.cell? ⟨fb,11,none⟩=some tv2:=(af hf4 11).trans rfl
 have hF4:=(hF3.then (aE.of_below hbA) (fun _ _ h=>h)).grown r3 (fun g hg hlt=>by have:=hfr3 g hg; omega)
 have hfr4:=bN (B:=w.heap.size) (fun g hg=>by have:=hfr3 g hg; omega) r4 (by simp; have:=hF3.size; omega)
 obtain⟨oa4,n4,k4,rfl⟩:=r2.sl;have hf5:=aq.set hf4 11 (.slice oa4 n4 k4) (FV.set_tv { X with tv:=tv2 } _)
 have ho5:ah aW 196 (w4.setCell ⟨fb,11,none⟩ (.slice oa4 n4 k4)) (.slice oa4 n4 k4) _:=r2.same (fun g hg=>Below.heap_setCell _ _ _ _ (au r2 hf4 (by decide) g hg))
 have hF5:=hF4.setCell (p:=⟨fb,11,none⟩) (.slice oa4 n4 k4) (fun _=>rfl)
 have hS5:=(Below.heap_setCell w4 ⟨fb,11,none⟩ (.slice oa4 n4 k4) w.heap.size (by show w.heap.size≠fb; omega)).trans hS4
 have HF5:=ae hf5;have HO5:=ae ho5;have HFF5:=ae hF5;have HFR5:=ae hfr4;obtain⟨oa2,n2,k2,rfl⟩:=ho3.sl;refine am 0 rfl fb 10 hS ?_;refine am 1 rfl fb 10 hS ?_;refine am 2 rfl fb 10 hS ?_;refine am 3 rfl fb 11 hS ?_;refine aH 5 rfl (.agg #[tl,tz,tx,ty,tb,tt]) hS ?_ (hy:=fun w' hw'=>jT _ _ _ 196 rfl _ rfl _ underlying196 rfl (d9 (some ⟨⟨tl,tz,tx,ty⟩,tb,tt⟩)) w.heap.size 0 rfl _ (ao hw'))
 refine wpAnyH_all (rs:=[4,6]) (by kernel_rfl) (by simp) ?_
 intro i hi;simp only[List.mem_cons,List.not_mem_nil,or_false] at hi
 rcases hi with rfl|rfl
 focus
  refine bI 4 rfl rfl (.slice oa2 n2 k2) (w3) (by simp[go_sem,c11]) (hS) ?_
  simp only[qZ];refine aV 6 ?_;refine bI 6 rfl rfl (.slice (some ⟨w3.heap.size,0,none⟩) 1 1) (w3.alloc (.cells #[tl,tz,tx,ty,tb,tt] 196)) (jt tl tz tx ty tb tt _ _ _ rfl rfl _) (hSA) ?_
 rotate_left
 focus
  refine bI 6 rfl rfl (.slice (some ⟨w3.heap.size,0,none⟩) 1 1) (w3.alloc (.cells #[tl,tz,tx,ty,tb,tt] 196)) (jt tl tz tx ty tb tt _ _ _ rfl rfl _) (hSA) ?_;simp only[qZ];refine aV 4 ?_
  refine bI 4 rfl rfl (.slice oa2 n2 k2) (w3.alloc (.cells #[tl,tz,tx,ty,tb,tt] 196)) (by simp[go_sem,c11A]) (hSA) ?_
 all_goals
  simp only[qZ];refine aV 7 ?_;refine bI 7 rfl rfl (.slice oa4 n4 k4) (w4) (exR 123 r1 _ _ _ _ rfl rfl rfl rfl) (hS4) ?_;simp only[qZ];refine am 8 rfl fb 10 hS4 ?_;refine am 9 rfl fb 11 hS4 ?_;refine aV 10 ?_
  refine cL 10 rfl rfl (w4.setCell ⟨fb,11,none⟩ (.slice oa4 n4 k4)) (stS _ _ _ _ 123 rfl (fun _=>by simp[go_sem]) fb 11 oa4 n4 k4 rfl rfl w4 c114 hfz) (hS5) ?_
  simp only[Act.put]
  refine wpAnyH_done (by kernel_rfl) ?_ _
  clear hS hf3 ho3 hF3 hgl hfl c11 hbA hSA hfA c11A hat hoA r1 r3 r4 hS4 hf4 hfz c114 hF4 hf5 ho5 hF5 hS5 hfr4 r2 hfr3
  go_wp2_with fail
  exact bodyPost_end (results_none results131 _ _ _) rfl ⟨rfl,⟨_,aa HF5,aa HO5,aa HFR5⟩,aa HFF5⟩
end Go.Proofs.YtpabpniaekldeaaGreatDoor
namespace Go.Proofs.YtpabpniaekldeaaGreatDoor
open Go.Proofs.Tryz
set_option maxRecDepth 20000
section
variable {O:Ora}{F:FM}
theorem fj (room n:Nat):∀(m:Nat) (ts:List aL),ts.length<=m->(evict room n ts).Sublist ts/\(n<=room->aA (evict room n ts)+n<=room)
 | 0,ts,h=>by
  obtain rfl:ts=[]:=List.eq_nil_of_length_eq_zero (by omega)
  unfold evict
  exact⟨List.Sublist.refl _,fun h=>by simp only[aA]; omega⟩
 | m+1,[],h=>by unfold evict; exact⟨List.Sublist.refl _,fun h=>by simp only[aA]; omega⟩
 | m+1,t::ts,h=>by
  unfold evict
  split
  ·have hl:=eL ts t.k
   have ih:=fj room n m (bm ts t.k) (by simp only[List.length_cons] at h; omega)
   exact⟨(ih.1.trans (eK ts t.k)).cons t,ih.2⟩
  exact⟨List.Sublist.refl _,fun _=>by omega⟩
structure CaOk (O:Ora)(F:FM)(ts:List aL):Prop where
 byt:aA ts<=F.room
 til:∀t∈ts,dy t.k/\t=F.tileOf O F.ver t.k
 tno:(ts.map aL.k).Nodup
theorem CaOk.lay {ts:List aL}(h:CaOk O F ts){t:aL}(ht:dy t.k/\t=F.tileOf O F.ver t.k):CaOk O F (eT F.room ts t):=by
 unfold eT
 split
 ·exact h
 rename_i hr
 have he:=fj F.room t.body.size _ (bm ts t.k) aD;refine⟨?_,?_,nF h.tno t he.1⟩
 ·rw[ep]
  have:=he.2 (by omega)
  simp only[aA]; omega
 intro u hu
 rcases List.mem_append.1 hu with hu|hu
 ·exact h.til u ((eK _ _).subset (he.1.subset hu))
 simp at hu; subst hu; exact ht
theorem Ok.still (h:Ok O F){k:K4}(hk:dy k){reads:Nat}(hr:reads<=F.ver)(hs:F.same O k reads=true):F.tileOf O reads k=F.tileOf O F.ver k:=by
 unfold FM.same FM.stamp at hs
 have:=h.hi.still reads F.ver hr aD k hk (by simpa using hs)
 unfold FM.tileOf FM.stamp;rw[this.1,this.2]
theorem CaOk.layU (h:Ok O F){reads:Nat}(hr:reads<=F.ver):∀(us ts:List aL),CaOk O F ts->(∀t∈us,dy t.k/\t=F.tileOf O reads t.k)->CaOk O F (F.layU O reads ts us)
 | [],ts,hc,_=>hc
 | u::us,ts,hc,hu=>by
  unfold FM.layU;rw[List.foldl_cons];refine CaOk.layU h hr us _ ?_ fun t ht=>hu t (List.mem_cons_of_mem _ ht)
  split
  ·rename_i hs
   have:=hu u (List.mem_cons_self ..)
   exact hc.lay ⟨this.1,by rw[<-h.still this.1 hr hs]; exact this.2⟩
  exact hc
theorem kC (F:FM)(f:Fl){k:K4}(hk:dy k)(hb:f.b=k.blk):∀t∈F.tilesOf O f,dy t.k/\t.k.blk=f.b/\t=F.tileOf O f.reads t.k:=by
 intro t ht;unfold FM.tilesOf at ht;obtain⟨k',hk',rfl⟩:=List.mem_map.1 ht;rw[hb] at hk' ⊢;have:=(jR hk).1 hk';exact⟨this.1,this.2,rfl⟩
theorem ot (F:FM)(f:Fl){k:K4}(hk:dy k)(hb:f.b=k.blk)(k':K4)(hk':dy k'):cS (F.tilesOf O f) k'=if k'.blk=f.b then some (F.tileOf O f.reads k') else none:=by
 cases e:cS (F.tilesOf O f) k' with
 | some t=>
  have h1:=ml e;have h2:=kC F f hk hb t h1.1;rw[<-h1.2,if_pos h2.2.1,<-h2.2.2]
 | none=>
  by_cases c:k'.blk=f.b
  ·exfalso
   have:=mm e (F.tileOf O f.reads k') (by unfold FM.tilesOf; rw[hb]; exact List.mem_map.2 ⟨k',(jR hk).2 ⟨hk',by rw[c,hb]⟩,rfl⟩)
   exact this rfl
  rw[if_neg c]
theorem Ok.good (h:Ok O F){f:Fl}(hf:f∈F.fls){r:dJ}(hr:r∈F.waiting):F.good O (F.tilesOf O f) f.reads r=if r.k.blk=f.b/\(r.asked<=f.reads\/F.same O r.k f.reads=true) then some (F.tileOf O f.reads r.k) else none:=by
 obtain⟨_,_,k,hk,hb⟩:=h.flt f hf;unfold FM.good;rw[ot F f hk hb r.k (h.req r hr).2.2.2.1]
 by_cases c:r.k.blk=f.b
 ·rw[if_pos c]
  dsimp only
  by_cases d:r.asked<=f.reads\/F.same O r.k f.reads=true
  ·rw[if_pos (show(decide (r.asked<=(f.reads:Int)) || F.same O r.k f.reads)=true by simpa using d),if_pos ⟨c,d⟩]
  rw[if_neg (show ¬(decide (r.asked<=(f.reads:Int)) || F.same O r.k f.reads)=true by simpa using d),if_neg (fun q=>d q.2)]
 rw[if_neg c,if_neg (fun q=>c q.1)]
theorem eY {i:Nat}{f:Fl}(h:F.wks[i]?=some (some f)):f∈F.fls:=by
 unfold FM.fls;rw[List.mem_filterMap];exact⟨some f,List.mem_of_getElem? h,rfl⟩
theorem Ok.take (h:Ok O F){i:Nat}(hi:F.wks[i]?=some none):Ok O (F.takeW i):=by
 unfold FM.takeW
 cases hl:F.line with
 | nil=>exact h
 | cons b rest=>
  have hlt:i<F.wks.length:=(List.getElem?_eq_some_iff.1 hi).1
  have hp:((F.wks.set i (some ⟨b,F.ver,bB (F.FLs F.ver).length F.chunk,0⟩)).filterMap id).Perm (⟨b,F.ver,bB (F.FLs F.ver).length F.chunk,0⟩::F.fls):=by
   have h1:=lm F.wks i (some ⟨b,F.ver,bB (F.FLs F.ver).length F.chunk,0⟩) hlt;rw[gP F.wks i none hi] at h1;exact h1
  obtain⟨r0,hr0,e0⟩:=h.lin b (by rw[hl]; exact List.mem_cons_self ..)
  have hnod:=h.nod;rw[hl] at hnod;refine{ h with wn:=?_,fl:=?_,lin:=?_,nod:=?_,flt:=?_,pin:=?_,bus:=?_ }
  ·show 1<=(F.wks.set i _).length/\(F.wks.set i _).length<=4
   rw[List.length_set]; exact h.wn
  ·intro r hr
   show r.k.blk∈rest\/r.k.blk∈((F.wks.set i _).filterMap id).map Fl.b;have:=h.fl r hr;rw[hl] at this
   rcases this with q|q
   ·rcases List.mem_cons.1 q with q|q
    ·right
     rw[(hp.map Fl.b).mem_iff,q];exact List.mem_cons_self ..
    exact Or.inl q
   right
   rw[(hp.map Fl.b).mem_iff];exact List.mem_cons_of_mem _ q
  ·intro c hc
   exact h.lin c (by rw[hl]; exact List.mem_cons_of_mem _ hc)
  ·show(rest++((F.wks.set i _).filterMap id).map Fl.b).Nodup
   refine((hp.map Fl.b).append_left rest).nodup_iff.2 ?_;exact(List.perm_middle.nodup_iff).2 hnod
  ·intro f hf
   rcases List.mem_cons.1 (hp.mem_iff.1 hf) with rfl|hf
   ·exact⟨Nat.le_refl _,flOk_start _ _ _ _ h.ch.1,r0.k,(h.req r0 hr0).2.2.2.1,e0.symm⟩
   exact h.flt f hf
  ·show(F.PI++[(F.ver:Int)]).Perm (((F.wks.set i _).filterMap id).map _)
   refine List.Perm.trans ?_ (hp.map _).symm;rw[List.map_cons];exact(List.perm_append_singleton _ _).trans (List.Perm.cons _ h.pin)
  show((F.wks.set i _).filterMap id).length<=F.started+1;rw[hp.length_eq,List.length_cons];have:=h.bus;omega
theorem Ok.step (h:Ok O F){i:Nat}{f:Fl}(hi:F.wks[i]?=some (some f))(h1:1<f.left):Ok O { F with wks:=F.wks.set i (some (f.step (F.FLs f.reads).length F.chunk)) }:=by
 have hlt:i<F.wks.length:=(List.getElem?_eq_some_iff.1 hi).1;have p1:=lm F.wks i (some (f.step (F.FLs f.reads).length F.chunk)) hlt;have p2:F.fls.Perm (f::(F.wks.set i none).filterMap id):=fls_at hi;have hb:(((F.wks.set i (some (f.step (F.FLs f.reads).length F.chunk))).filterMap id).map Fl.b).Perm (F.fls.map Fl.b):=(p1.map Fl.b).trans (p2.map Fl.b).symm;have hf:=h.flt f (eY hi);refine{ h with wn:=?_,fl:=?_,nod:=?_,flt:=?_,pin:=?_,bus:=?_ }
 ·show 1<=(F.wks.set i _).length/\(F.wks.set i _).length<=4
  rw[List.length_set]; exact h.wn
 ·intro r hr
  rcases h.fl r hr with q|q
  ·exact Or.inl q
  exact Or.inr (hb.mem_iff.2 q)
 ·exact(hb.append_left F.line).nodup_iff.2 h.nod
 ·intro g hg
  rcases List.mem_cons.1 (p1.mem_iff.1 hg) with rfl|hg
  ·exact⟨hf.1,(hf.2.1.next h1).1,hf.2.2⟩
  exact h.flt g (p2.mem_iff.2 (List.mem_cons_of_mem _ hg))
 ·exact h.pin.trans ((p2.map fun f=>(f.reads:Int)).trans (p1.map fun f=>(f.reads:Int)).symm)
 show((F.wks.set i _).filterMap id).length<=F.started;have e1:=p1.length_eq;have e2:=p2.length_eq;have:=h.bus;simp only[Option.toList,List.cons_append,List.nil_append,List.length_cons] at e1 e2;omega
theorem Ok.finish (h:Ok O F){i:Nat}{f:Fl}(hi:F.wks[i]?=some (some f)):Ok O (F.finishW O i f).1:=by
 have hf0:=eY hi;have hf:=h.flt f hf0;obtain⟨k,hk,hb⟩:=hf.2.2;have p2:F.fls.Perm (f::(F.wks.set i none).filterMap id):=fls_at hi
 have hnod:(f.b::(F.line++((F.wks.set i none).filterMap id).map Fl.b)).Nodup:=by
  have:=((p2.map Fl.b).append_left F.line).nodup_iff.1 h.nod;exact(List.perm_middle.nodup_iff).1 this
 have hsub:(F.fineL O (F.tilesOf O f) f.reads).Sublist F.waiting:=List.filter_sublist
 have hca:=CaOk.layU h hf.1 (F.tilesOf O f) F.tiles ⟨h.byt,h.til,h.tno⟩ fun t ht=>by have:=kC F f hk hb t ht; exact⟨this.1,this.2.2⟩
 have hstay:∀r∈F.waiting,r.k.blk≠f.b->r∈F.fineL O (F.tilesOf O f) f.reads:=by
  intro r hr hne;unfold FM.fineL;rw[List.mem_filter]
  exact⟨hr,by rw[h.good hf0 hr,if_neg (fun q=>hne q.1)]; rfl⟩
 refine{ h with
  wn:=?_,wq:=Nat.le_trans hsub.length_le h.wq,req:=fun r hr=>h.req r (hsub.subset hr),srt:=h.srt.sublist hsub,fl:=?_,lin:=?_,nod:=?_,flt:=?_,pin:=?_,bus:=?_,
  byt:=hca.byt,til:=hca.til,tno:=hca.tno }
 ·show 1<=(F.wks.set i _).length/\(F.wks.set i _).length<=4
  rw[List.length_set]; exact h.wn
 ·intro r hr
  show r.k.blk∈(if 0<aC (F.fineL O (F.tilesOf O f) f.reads) f.b then F.line++[f.b] else F.line)\/r.k.blk∈((F.wks.set i none).filterMap id).map Fl.b
  have hr':r∈F.fineL O (F.tilesOf O f) f.reads:=hr
  by_cases c:r.k.blk=f.b
  ·left
   rw[if_pos ((e8 _ _).2 ⟨r,hr',c⟩),c];simp
  rcases h.fl r (hsub.subset hr') with q|q
  ·left; split
   ·exact List.mem_append_left _ q
   exact q
  right
  rcases List.mem_cons.1 ((p2.map Fl.b).mem_iff.1 q) with q|q
  ·exact absurd q c
  exact q
 ·intro c hc
  have hc':c∈(if 0<aC (F.fineL O (F.tilesOf O f) f.reads) f.b then F.line++[f.b] else F.line):=hc
  show ∃r∈F.fineL O (F.tilesOf O f) f.reads,_
  by_cases d:c∈F.line
  ·obtain⟨r,hr,e⟩:=h.lin c d
   refine⟨r,hstay r hr (fun q=>?_),e⟩;rw[e] at q;exact(List.nodup_cons.1 hnod).1 (List.mem_append_left _ (q▸d))
  split at hc'
  ·rename_i q
   rcases List.mem_append.1 hc' with hc'|hc'
   ·exact absurd hc' d
   simp at hc';rw[hc'];exact(e8 _ _).1 q
  exact absurd hc' d
 ·show((if 0<aC (F.fineL O (F.tilesOf O f) f.reads) f.b then F.line++[f.b] else F.line)++((F.wks.set i none).filterMap id).map Fl.b).Nodup
  split
  ·rw[List.append_assoc]
   exact(List.perm_middle.nodup_iff).2 hnod
  exact(List.nodup_cons.1 hnod).2
 ·intro g hg
  exact h.flt g (p2.mem_iff.2 (List.mem_cons_of_mem _ hg))
 ·show(F.PI.erase (f.reads:Int)).Perm (((F.wks.set i none).filterMap id).map _)
  have:=(h.pin.trans (p2.map _)).erase (f.reads:Int);rw[List.map_cons,List.erase_cons_head] at this;exact this
 show((F.wks.set i none).filterMap id).length<=F.started;have e2:=p2.length_eq;have:=h.bus;simp only[List.length_cons] at e2;omega
theorem Ok.work (h:Ok O F)(i:Nat):Ok O (F.work O i).1:=by
 unfold FM.work
 cases e:F.wks[i]? with
 | none=>exact h
 | some o=>
  cases o with
  | none=>exact h.take e
  | some f=>
   dsimp only
   split
   ·exact h.step e (by assumption)
   exact h.finish e
theorem Ok.tick (h:Ok O F):Ok O F.tick.1:=by
 have hsub:(F.waiting.filter fun r=>decide (¬r.due<=((F.now+1:Nat):Int))).Sublist F.waiting:=List.filter_sublist;have hsubl:(F.line.filter fun b=>decide (0<aC (F.waiting.filter fun r=>decide (¬r.due<=((F.now+1:Nat):Int))) b)).Sublist F.line:=List.filter_sublist;refine{ h with wq:=Nat.le_trans hsub.length_le h.wq,req:=?_,srt:=h.srt.sublist hsub,fl:=?_,lin:=?_,nod:=?_ }
 ·intro r hr
  have h1:=h.req r (hsub.subset hr)
  have h2:¬r.due<=((F.now+1:Nat):Int):=by simpa using(List.mem_filter.1 hr).2
  refine⟨by show((F.now+1:Nat):Int)<r.due; omega,h1.2.1,h1.2.2.1,h1.2.2.2.1,h1.2.2.2.2.1,h1.2.2.2.2.2.1,by show r.due<=((F.now+1:Nat):Int)+F.wait; omega⟩
 ·intro r hr
  rcases h.fl r (hsub.subset hr) with q|q
  ·left
   show r.k.blk∈F.line.filter _;rw[List.mem_filter]
   exact⟨q,by rw[decide_eq_true_eq]; exact(e8 _ _).2 ⟨r,hr,rfl⟩⟩
  exact Or.inr q
 ·intro b hb
  have:=(List.mem_filter.1 hb).2;rw[decide_eq_true_eq] at this;exact(e8 _ _).1 this
 show(F.line.filter _++F.fls.map Fl.b).Nodup;exact(List.Sublist.append hsubl (List.Sublist.refl _)).nodup h.nod
structure Nxt (O:Ora)(LS:List Ft)(n:Nat)(FLs:Nat->List Ft)(LS' FL':List Ft):Prop where
 hi:Hi O LS' (n+1) (fun v=>if v=n+1 then FL' else FLs v)
 old:∀v:Nat,v<=n->∀k,dy k->O.stamp LS' v k=O.stamp LS v k
theorem tileOf_old (F:FM){LS' FL':List Ft}(hx:Nxt O F.LS F.ver F.FLs LS' FL'){v:Nat}(hv:v<=F.ver){k:K4}(hk:dy k):(F.write O LS' FL').tileOf O v k=F.tileOf O v k:=by
 unfold FM.tileOf FM.stamp FM.write;dsimp only
 rw[if_neg (by omega),hx.old v hv k hk]
theorem Ok.write (h:Ok O F){LS' FL':List Ft}(hv:F.ver<100)(hx:Nxt O F.LS F.ver F.FLs LS' FL'):Ok O (F.write O LS' FL'):=by
 have hsub:((F.write O LS' FL').tiles).Sublist F.tiles:=List.filter_sublist
 have hok:∀t∈(F.write O LS' FL').tiles,dy t.k/\t=(F.write O LS' FL').tileOf O (F.ver+1) t.k:=by
  intro t ht;have h1:=h.til t (hsub.subset ht);refine⟨h1.1,?_⟩
  have h2:O.stamp LS' ((F.ver+1:Nat):Int) t.k<=F.ver:=by
   have:decide (O.stamp LS' ((F.ver+1:Nat):Int) t.k<=F.ver)=true:=(List.mem_filter.1 ht).2;exact of_decide_eq_true this
  have h3:=hx.hi.still F.ver (F.ver+1) (by omega) aD t.k h1.1 h2
  have h4:=tileOf_old F hx aD h1.1;rw[h1.2,<-h4];unfold FM.tileOf FM.stamp FM.write;dsimp only at h3 ⊢;rw[h3.1,h3.2]
 refine{ h with v100:=?_,req:=?_,flt:=?_,hi:=hx.hi,byt:=Nat.le_trans (eo hsub) h.byt,til:=hok,tno:=(hsub.map _).nodup h.tno }
 ·show F.ver+1<=100; omega
 ·intro r hr
  have:=h.req r hr
  exact⟨this.1,this.2.1,by show r.asked<=((F.ver+1:Nat):Int); omega,this.2.2.2⟩
 intro f hf;have:=h.flt f hf
 refine⟨by show f.reads<=F.ver+1; omega,?_,this.2.2⟩
 show kA (if f.reads=F.ver+1 then FL' else F.FLs f.reads).length F.chunk f
 rw[if_neg (by omega)]
 exact this.2.1
end
end Go.Proofs.YtpabpniaekldeaaGreatDoor
namespace Go.Proofs.YtpabpniaekldeaaGreatDoor
open Go.Proofs.Tryz
open Go.RowKit
set_option maxRecDepth 20000
theorem evict_nil (room n:Nat):evict room n []=[]:=by unfold evict; rfl
theorem evict_go {room n:Nat}{t:aL}{ts:List aL}(h:room<aA (t::ts)+n):evict room n (t::ts)=evict room n (bm (t::ts) t.k):=by
 rw[evict,if_pos h]; congr 1; simp[bm]
theorem evict_stop {room n:Nat}{t:aL}{ts:List aL}(h:¬room<aA (t::ts)+n):evict room n (t::ts)=t::ts:=by rw[evict,if_neg h]
theorem outT_less (t:aL)(ts:List aL):(bm (t::ts) t.k).length<(t::ts).length:=by
 have:bm (t::ts) t.k=bm ts t.k:=by simp[bm]
 rw[this];have:=eL ts t.k
 simp only[List.length_cons]; omega
theorem nc (w:World)(n:Nat):Below w.heap.size w (w.drewN n):=⟨rfl,rfl,rfl,Nat.le_refl _,fun _ _=>rfl⟩
def tlen (fb:Nat)(w:World):Nat:=match w.cell? ⟨fb,11,none⟩ with
 | some (.slice _ n _)=>n
 | _=>0
theorem tlen_eq {fb:Nat}{w:World}{X:FV}{ts:List aL}(hf:aq w fb X)(ho:bL aW w X.tv ts):tlen fb w=ts.length:=by
 obtain⟨oa,cap,e,_⟩:=ho;have:=hf.cells.2.2.2.2.2.2.2.2.2.2.2;unfold tlen;rw[this,e]
theorem lay_any (fb:Nat)(X:FV)(room:Nat)(ts:List aL)(tl tz tx ty:Int)(tb tt:ByteArray)(w:World)(hf:aq w fb X)(hrm:X.rm=room)(ho:ah aW 196 w X.tv ts)(hl:ts.length<=1000000)(hby:aA ts<=100000000)(hbs:tb.size<=1000000):
  Calls prog 177 #[.pointer (some ⟨fb,10,none⟩),.agg #[tl,tz,tx,ty,tb,tt]] w fun e w'=>e=.returned (.tuple #[])/\(∃tv',aq w' fb { X with tv:=tv' }/\ah aW 196 w' tv' (eT room ts ⟨⟨tl,tz,tx,ty⟩,tb,tt⟩)/\∀g,tv'.ownBlock=some g->X.tv.ownBlock=some g\/w.heap.size<=g)/\aE (fun k=>k=fb) w w':=by
 have hlt0:=an hf;have hb0:=(Below.refl w.heap.size w).alloc aD (.cells #[tl,tz,tx,ty,tb,tt] 196);have hA:=heap_alloc_new w (.cells #[tl,tz,tx,ty,tb,tt] 196)
 have hz1:(w.alloc (.cells #[tl,tz,tx,ty,tb,tt] 196)).heap.size=w.heap.size+1:=by simp
 have hf1:=ag hf hb0;have ho1:=ho.on hb0
 have c10:(w.alloc (.cells #[tl,tz,tx,ty,tb,tt] 196)).cell? ⟨fb,10,none⟩=some (.int .i64 room):=by rw[<-hrm]; exact(aq.cells hf1).2.2.2.2.2.2.2.2.2.2.1
 have hC10:∀W,Below (w.alloc (.cells #[tl,tz,tx,ty,tb,tt] 196)).heap.size (w.alloc (.cells #[tl,tz,tx,ty,tb,tt] 196)) W->W.cell? ⟨fb,10,none⟩=some (.int .i64 room):=fun W h=>(h.cell (p:=⟨fb,10,none⟩) (by show fb<_; omega)).trans c10
 have hT4:∀W,Below (w.alloc (.cells #[tl,tz,tx,ty,tb,tt] 196)).heap.size (w.alloc (.cells #[tl,tz,tx,ty,tb,tt] 196)) W->W.cell? ⟨w.heap.size,4,none⟩=some (.string tb):=fun W h=>(af (ag hA h) 4).trans rfl;have HF1:=ae hf1;have HO1:=ae ho1;have HA:=ae hA;have HB0:=ae hb0
 have HBY:=ae hby
 have HRM:=ae hrm;clear hf ho hb0 hA hf1 ho1 hby c10 hrm;go_enter func177,ntmps177
 go_wp2_with fail
 refine aM (by kernel_rfl) (by kernel_rfl) ?_
 refine bd w.heap.size 4 ?_
 refine bH (.string tb) ?_ (h:=fun w' hw'=>by simp[go_sem,hT4 w' hw'])
 refine bH (.int .i64 tb.size) ?_;refine eI fb 10 ?_;refine bd fb 10 ?_;refine bd fb 10 ?_
 refine bH (.int .i64 room) ?_ (h:=fun w' hw'=>by simp[go_sem,hC10 w' hw'])
 refine bH (.bool (decide ((room:Int)<(tb.size:Int)))) ?_;refine wpQuiet_nil ?_;intro w2 hw2;have hf2:=ag (aa HF1) hw2;have ho2:=(aa HO1).on hw2;have hA2:=ag (aa HA) hw2
 have hb2:=(aa HB0).trans (hw2.mono (by simp))
 have hsz2:=hw2.size;rw[hz1] at hsz2;clear hC10 hT4 hw2
 by_cases hbig:room<tb.size
 ·have hbig':decide ((room:Int)<(tb.size:Int))=true:=decide_eq_true (by omega)
  have HH:Hid ((∃tv',aq w2 fb { X with tv:=tv' }/\ah aW 196 w2 tv' (eT room ts ⟨⟨tl,tz,tx,ty⟩,tb,tt⟩)/\∀g,tv'.ownBlock=some g->X.tv.ownBlock=some g\/w.heap.size<=g)/\aE (fun k=>k=fb) w w2):=
   ⟨⟨X.tv,hf2,by unfold eT; rw[if_pos hbig]; exact ho2,fun g hg=>Or.inl hg⟩,aE.of_below hb2⟩
  clear hf2 ho2 hA2 hb2;simp only[hbig']
  go_wp2_with fail
  exact bodyPost_ret (results_none results177 _ _ _) rfl ⟨rfl,aa HH⟩
 have hbig':decide ((room:Int)<(tb.size:Int))=false:=decide_eq_false (by omega)
 have hlay:eT room ts ⟨⟨tl,tz,tx,ty⟩,tb,tt⟩=evict room tb.size (bm ts ⟨tl,tz,tx,ty⟩)++[⟨⟨tl,tz,tx,ty⟩,tb,tt⟩]:=by unfold eT; rw[if_neg hbig]
 have HLAY:=ae hlay
 have TO:=gJ fb X ts tl tz tx ty w2 hf2 ho2 (by omega)
 have hrgK:w2.rangeAt w.heap.size 0 #[Value.int .i64 tl,.int .i64 tz,.int .i64 tx,.int .i64 ty].toList:=rng4 (t:=⟨⟨tl,tz,tx,ty⟩,tb,tt⟩) (ao hA2);have HA2:=ae hA2;have HB2:=ae hb2;clear hf2 ho2 hA2 hb2 hlay;simp only[hbig']
 go_wp2_with (refine bU 39 #[tl,tz,tx,ty] underlying39 rfl (bj _ _ _ _) w.heap.size 0 hrgK rfl _ rfl rfl ?_)
 refine TO.mono ?_;rintro e w3 ⟨rfl,⟨tv3,hf3,ho3,hfr3⟩,hF3⟩
 have hne:w.heap.size≠fb:=by omega
 have hA3:=aQ (aa HA2) hF3 hne;have hF03:aE (fun k=>k=fb) w w3:=(aE.of_below (aa HB2)).then hF3 (fun _ _ h=>h);have hby3:aA (bm ts ⟨tl,tz,tx,ty⟩)<=100000000:=Nat.le_trans (eo (eK _ _)) (aa HBY);have hln3:(bm ts ⟨tl,tz,tx,ty⟩).length<=1000000:=Nat.le_trans (eL _ _) hl
 have HX:Hid (∃(tvr:Value) (us:List aL),aq w3 fb { X with tv:=tvr }/\ah aW 196 w3 tvr us/\(∀g,tvr.ownBlock=some g->w.heap.size+1<=g)/\evict room tb.size us=evict room tb.size (bm ts ⟨tl,tz,tx,ty⟩)/\us.length<=1000000/\aA us<=100000000/\w3.heap[w.heap.size]?=some (.cells #[tl,tz,tx,ty,tb,tt] 196)/\aE (fun k=>k=fb) w w3):=
  ⟨tv3,_,hf3,ho3,fun g hg=>by have:=hfr3 g hg; omega,rfl,hln3,hby3,hA3,hF03⟩
 clear TO hrgK hf3 ho3 hfr3 hF3 hA3 hF03 hby3 hln3
 go_wp2_with fail
 go_loopw [4] (fun _ wr=>Hid (∃(tvr:Value) (us:List aL),aq wr fb { X with tv:=tvr }/\ah aW 196 wr tvr us/\(∀g,tvr.ownBlock=some g->w.heap.size+1<=g)/\evict room tb.size us=evict room tb.size (bm ts ⟨tl,tz,tx,ty⟩)/\us.length<=1000000/\aA us<=100000000/\wr.heap[w.heap.size]?=some (.cells #[tl,tz,tx,ty,tb,tt] 196)/\aE (fun k=>k=fb) w wr)) (fun _ wr=>tlen fb wr)
 case atStart=>exact HX
 case round=>
  obtain⟨tvr,us,hf4,ho4,hfr4,hev,hln4,hby4,hA4,hF4⟩:=aa hrel;have hsz4:w.heap.size<wr.heap.size:=an hA4;have htl:=tlen_eq hf4 ho4.at;obtain⟨oa,cap,eq,hcap,hm,hc⟩:=ho4.at
  have d10:∀W,Below wr.heap.size wr W->W.cell? ⟨fb,10,none⟩=some (.int .i64 room):=fun W h=>by rw[<-aa HRM]; exact(aq.cells (ag hf4 h)).2.2.2.2.2.2.2.2.2.2.1
  have d11:∀W,Below wr.heap.size wr W->W.cell? ⟨fb,11,none⟩=some (.slice oa us.length cap):=fun W h=>by rw[<-eq]; exact(aq.cells (ag hf4 h)).2.2.2.2.2.2.2.2.2.2.2
  have d4:∀W,Below wr.heap.size wr W->W.cell? ⟨w.heap.size,4,none⟩=some (.string tb):=fun W h=>(af (ag hA4 h) 4).trans rfl
  have BY:=fun q=>nV fb { X with tv:=tvr } us (wr.drewN q) (ag hf4 (nc wr q)) (ho4.at.on (nc wr q)) (by omega) (by omega)
  have dT:∀W,Below wr.heap.size wr W->W.rangeAt w.heap.size 0 #[.int .i64 tl,.int .i64 tz,.int .i64 tx,.int .i64 ty,.string tb,.string tt].toList:=fun W h=>ao (ag hA4 h)
  have HEX:Hid (evict room tb.size us=us->∀w5,Below wr.heap.size wr w5->(∃tvr:Value,aq w5 fb { X with tv:=tvr }/\ah aW 196 w5 tvr (evict room tb.size (bm ts ⟨tl,tz,tx,ty⟩))/\(∀g,tvr.ownBlock=some g->w.heap.size+1<=g)/\w5.heap[w.heap.size]?=some (.cells #[tl,tz,tx,ty,tb,tt] 196)/\aE (fun k=>k=fb) w w5)):=
   fun q w5 h5=>⟨tvr,ag hf4 h5,by rw[<-hev,q]; exact ho4.on h5,hfr4,ag hA4 h5,hF4.then (aE.of_below h5) (fun _ _ h=>h)⟩
  have hlen:(evict room tb.size (bm ts ⟨tl,tz,tx,ty⟩)).length<=1000000:=by rw[<-hev]; exact Nat.le_trans (fj room tb.size _ us aD).1.length_le hln4
  rcases hus:us with _|⟨⟨⟨al,az,ax,ay⟩,ab,at'⟩,rest⟩
  case' nil=>
   have h0:us.length=0:=by rw[hus]; rfl
   have HE:=ae (aa HEX (by rw[hus]; exact evict_nil _ _))
   rw[h0] at d11;clear hf4 ho4 hfr4 hev hby4 hA4 hF4 hc BY d10 d4 dT HEX hrel hus h0 htl hln4 eq hcap hm;have c11:=d11 wr bu
   go_wp2_with fail
   go_quiet (fail)
   have hw2:=nc wr nq;obtain⟨tv2,hf2,ho2,hfr2,hA2,hF02⟩:=aa HE (wr.drewN nq) hw2;generalize wr.drewN nq=w2 at hf2 ho2 hA2 hF02 ⊢;have HA2:=ae hA2;have HF2:=ae hf2;have HO2:=ae ho2;have HFR2:=ae hfr2;have HF02:=ae hF02;clear hf2 ho2 hfr2 hA2 hF02 HE hw2 d11 c11
  case' cons=>
   have hpos:(0:Int)<us.length:=by rw[hus]; simp
   have hwr:IntKind.i64.wrap ((aA us:Int)+(tb.size:Int))=(aA us:Int)+(tb.size:Int):=bG _ (by omega)
   obtain⟨b,off,hoa,hbl,hc0⟩:=hc (by omega)
   have hrgT:=rng4 (bL.tile hc0 (show us[0]?=some ⟨⟨al,az,ax,ay⟩,ab,at'⟩ by rw[hus]; rfl))
   rw[Nat.zero_mul,Nat.add_zero] at hrgT;dsimp only at hrgT;subst hoa;have HC4:=ae (show aq wr fb { X with tv:=tvr }/\ah aW 196 wr tvr us/\(∀g,tvr.ownBlock=some g->w.heap.size+1<=g)/\wr.heap[w.heap.size]?=some (.cells #[tl,tz,tx,ty,tb,tt] 196)/\aE (fun k=>k=fb) w wr from⟨hf4,ho4,hfr4,hA4,hF4⟩);have HUS:=ae hus;have HEV:=ae hev;have HTL:=ae htl;have HEQ:=ae eq;clear hf4 ho4 hfr4 hA4 hF4 hc hc0 dT hrel hus hev htl eq;have c10:=d10 wr bu;have c11:=d11 wr bu;have c4:=d4 wr bu;have BQ:∀q,Calls prog 109 #[.pointer (some ⟨fb,10,none⟩)] (wr.drewN q) fun e w'=>e=.returned (.int .i64 (aA us))/\wr.drewN q=w':=BY
   have hpn:0<us.length:=by omega
   have hpd:decide (0<us.length)=true:=decide_eq_true hpn;clear d10 d11 d4
   by_cases hgo:room<aA us+tb.size
   ·have hgo':(room:Int)<(aA us:Int)+(tb.size:Int):=by omega
    have hevn:evict room tb.size (bm us ⟨al,az,ax,ay⟩)=evict room tb.size (bm ts ⟨tl,tz,tx,ty⟩):=by
     rw[<-aa HEV,aa HUS];rw[aa HUS] at hgo;exact(evict_go hgo).symm
    have hless:(bm us ⟨al,az,ax,ay⟩).length<us.length:=by rw[aa HUS]; exact outT_less _ _
    have hless2:aA (bm us ⟨al,az,ax,ay⟩)<=100000000:=Nat.le_trans (eo (eK _ _)) hby4;obtain⟨g1,g2,g3,g4,g5⟩:=aa HC4;have HEVN:=ae hevn;have HLESS:=ae hless;have HLESS2:=ae hless2;clear HEX HEV HC4 HUS hgo hevn hless hless2;have hw2:=fun q=>nc wr q
    go_wp2_with fail
    go_quiet (exact(BQ _).mono fun e w' h=>⟨h.1,_,h.2.symm⟩)
    have hf2:=ag g1 (hw2 nq);have ho2:=g2.on (hw2 nq);have hA2:=ag g4 (hw2 nq);have hF2:=g5.then (aE.of_below (hw2 nq)) (fun _ _ h=>h);have hrg2:=dA hrgT (hw2 nq) hbl;generalize wr.drewN nq=w2 at hf2 ho2 hA2 hF2 hrg2 ⊢
    have c11:w2.cell? ⟨fb,11,none⟩=some (.slice (some ⟨b,off,none⟩) us.length cap):=by rw[<-aa HEQ]; exact(aq.cells hf2).2.2.2.2.2.2.2.2.2.2.2
    have hbA:=(Below.refl w2.heap.size w2).alloc aD (.cells #[al,az,ax,ay] 39)
    have TO:=gJ fb { X with tv:=tvr } us al az ax ay _ (ag hf2 hbA) (ho2.on hbA) (by omega)
    have HA2:=ae (ag hA2 hbA);have HF2:=ae (hF2.then (aE.of_below hbA) (fun _ _ h=>h));have hsz2:w.heap.size<w2.heap.size:=an hA2;clear hf2 ho2 hA2 hF2 hbA g1 g2 g4 g5 hw2 c10 c4 BQ BY hrgT
    go_wp2_with (refine bU 39 #[al,az,ax,ay] underlying39 rfl (bj _ _ _ _) b off hrg2 rfl _ rfl rfl ?_)
    refine TO.mono ?_;rintro e w3 ⟨rfl,⟨tv3,hf3,ho3,hfr3⟩,hF3⟩
    have HX3:Hid (∃(tvr:Value) (us:List aL),aq w3 fb { X with tv:=tvr }/\ah aW 196 w3 tvr us/\(∀g,tvr.ownBlock=some g->w.heap.size+1<=g)/\evict room tb.size us=evict room tb.size (bm ts ⟨tl,tz,tx,ty⟩)/\us.length<=1000000/\aA us<=100000000/\w3.heap[w.heap.size]?=some (.cells #[tl,tz,tx,ty,tb,tt] 196)/\aE (fun k=>k=fb) w w3):=
     ⟨tv3,_,hf3,ho3,fun g hg=>by have:=hfr3 g hg; simp at this; omega,aa HEVN,by have:=aa HLESS; omega,aa HLESS2,aQ (aa HA2) hF3 (by omega),(aa HF2).then hF3 (fun _ _ h=>h)⟩
    have HT3:=ae (tlen_eq hf3 ho3.at);clear TO hf3 ho3 hfr3 hF3 c11
    go_wp2_with fail
    go_roundw
    case rel=>exact HX3
    case measure=>
     have q1:=aa HT3;have q2:=aa HTL;have q3:=aa HLESS;omega
   have hgo':¬(room:Int)<(aA us:Int)+(tb.size:Int):=by omega
   have HE:=ae (aa HEX (by rw[aa HUS]; rw[aa HUS] at hgo; exact evict_stop hgo))
   clear HEX HEV HC4 HUS HTL hgo
   go_wp2_with fail
   go_quiet (exact(BQ _).mono fun e w' h=>⟨h.1,_,h.2.symm⟩)
   have hw2:=nc wr nq;obtain⟨tv2,hf2,ho2,hfr2,hA2,hF02⟩:=aa HE (wr.drewN nq) hw2;generalize wr.drewN nq=w2 at hf2 ho2 hA2 hF02 ⊢;have HA2:=ae hA2;have HF2:=ae hf2;have HO2:=ae ho2;have HFR2:=ae hfr2;have HF02:=ae hF02;clear hf2 ho2 hfr2 hA2 hF02 HE hw2 c10 c11 c4 BQ
  all_goals
   go_wp2_with fail
   refine wp_region_held (S:=fun w'=>w'.heap[w.heap.size]?=some (.cells #[tl,tz,tx,ty,tb,tt] 196)) (by kernel_rfl) ?_
   change wpAnyH _ _ _ _ _ _ _ _ (World.drew _);have hS:(World.drew w2).heap[w.heap.size]?=some (.cells #[tl,tz,tx,ty,tb,tt] 196):=aa HA2;have hf3:aq (World.drew w2) fb { X with tv:=tv2 }:=aa HF2;have ho3:ah aW 196 (World.drew w2) tv2 (evict room tb.size (bm ts ⟨tl,tz,tx,ty⟩)):=aa HO2;have hF3:aE (fun k=>k=fb) w (World.drew w2):=⟨(aa HF02).os,(aa HF02).tape,(aa HF02).output,(aa HF02).size,(aa HF02).block⟩;have hfr3:=aa HFR2;generalize World.drew w2=w3 at hS hf3 ho3 hF3 ⊢;have hgl:w.heap.size<w3.heap.size:=an hS;have hfl:fb<w3.heap.size:=an hf3;have c11:w3.cell? ⟨fb,11,none⟩=some tv2:=(af hf3 11).trans rfl;have hbA:=(Below.refl w3.heap.size w3).alloc aD (.cells #[tl,tz,tx,ty,tb,tt] 196);have hSA:=ag hS hbA;have hfA:=ag hf3 hbA;have c11A:=(hbA.cell (p:=⟨fb,11,none⟩) hfl).trans c11;have hat:=aZ aW 196 w3 ⟨⟨tl,tz,tx,ty⟩,tb,tt⟩ #[tl,tz,tx,ty,tb,tt] rfl;have hoA:=ho3.on hbA
   obtain⟨v4,w4,r1,r2,r3,r4⟩:=mz hoA hat (by simp; omega)
   have hS4:=(r3.block w.heap.size (by simp; omega) (fun q=>by have:=hfr3 w.heap.size q.symm; omega)).trans hSA
   have hf4:aq w4 fb { X with tv:=tv2 }:=(r3.block fb (by simp; omega) (fun q=>au hoA hfA (by decide) fb q.symm rfl)).trans hfA
   have hfz:=jU hf4 11;have c114:w4.cell? ⟨fb,11,none⟩=some tv2:=(af hf4 11).trans rfl
   have hF4:=(hF3.then (aE.of_below hbA) (fun _ _ h=>h)).grown r3 (fun g hg hlt=>by have:=hfr3 g hg; omega)
   have hfr4:=bN (B:=w.heap.size) (fun g hg=>by have:=hfr3 g hg; omega) r4 (by simp; have:=hF3.size; omega)
   obtain⟨oa4,n4,k4,rfl⟩:=r2.sl;have hf5:=aq.set hf4 11 (.slice oa4 n4 k4) (FV.set_tv { X with tv:=tv2 } _)
   have ho5:ah aW 196 (w4.setCell ⟨fb,11,none⟩ (.slice oa4 n4 k4)) (.slice oa4 n4 k4) _:=r2.same (fun g hg=>Below.heap_setCell _ _ _ _ (au r2 hf4 (by decide) g hg))
   have hF5:=hF4.setCell (p:=⟨fb,11,none⟩) (.slice oa4 n4 k4) (fun _=>rfl)
   have hS5:=(Below.heap_setCell w4 ⟨fb,11,none⟩ (.slice oa4 n4 k4) w.heap.size (by show w.heap.size≠fb; omega)).trans hS4
   have HF5:=ae hf5;have HO5:=ae ho5;have HFF5:=ae hF5;have HFR5:=ae hfr4;obtain⟨oa2,n2,k2,rfl⟩:=ho3.sl;refine am 0 rfl fb 10 hS ?_;refine am 1 rfl fb 10 hS ?_;refine am 2 rfl fb 10 hS ?_;refine am 3 rfl fb 11 hS ?_;refine aH 5 rfl (.agg #[tl,tz,tx,ty,tb,tt]) hS ?_ (hy:=fun w' hw'=>jT _ _ _ 196 rfl _ rfl _ underlying196 rfl (d9 (some ⟨⟨tl,tz,tx,ty⟩,tb,tt⟩)) w.heap.size 0 rfl _ (ao hw'))
   refine wpAnyH_all (rs:=[4,6]) (by kernel_rfl) (by simp) ?_
   intro i hi;simp only[List.mem_cons,List.not_mem_nil,or_false] at hi
   rcases hi with rfl|rfl
   focus
    refine bI 4 rfl rfl (.slice oa2 n2 k2) (w3) (by simp[go_sem,c11]) (hS) ?_
    simp only[qZ];refine aV 6 ?_;refine bI 6 rfl rfl (.slice (some ⟨w3.heap.size,0,none⟩) 1 1) (w3.alloc (.cells #[tl,tz,tx,ty,tb,tt] 196)) (jt tl tz tx ty tb tt _ _ _ rfl rfl _) (hSA) ?_
   rotate_left
   focus
    refine bI 6 rfl rfl (.slice (some ⟨w3.heap.size,0,none⟩) 1 1) (w3.alloc (.cells #[tl,tz,tx,ty,tb,tt] 196)) (jt tl tz tx ty tb tt _ _ _ rfl rfl _) (hSA) ?_;simp only[qZ];refine aV 4 ?_
    refine bI 4 rfl rfl (.slice oa2 n2 k2) (w3.alloc (.cells #[tl,tz,tx,ty,tb,tt] 196)) (by simp[go_sem,c11A]) (hSA) ?_
   all_goals
    simp only[qZ];refine aV 7 ?_;refine bI 7 rfl rfl (.slice oa4 n4 k4) (w4) (exR 123 r1 _ _ _ _ rfl rfl rfl rfl) (hS4) ?_;simp only[qZ];refine am 8 rfl fb 10 hS4 ?_;refine am 9 rfl fb 11 hS4 ?_;refine aV 10 ?_
    refine cL 10 rfl rfl (w4.setCell ⟨fb,11,none⟩ (.slice oa4 n4 k4)) (stS _ _ _ _ 123 rfl (fun _=>by simp[go_sem]) fb 11 oa4 n4 k4 rfl rfl w4 c114 hfz) (hS5) ?_
    simp only[Act.put]
    refine wpAnyH_done (by kernel_rfl) ?_ _
    clear hS hf3 ho3 hF3 hgl hfl c11 hbA hSA hfA c11A hat hoA r1 r3 r4 hS4 hf4 hfz c114 hF4 hf5 ho5 hF5 hS5 hfr4 r2 hfr3
    go_wp2_with fail
    exact bodyPost_end (results_none results177 _ _ _) rfl ⟨rfl,⟨_,aa HF5,(aa HLAY).symm▸aa HO5,fun g hg=>Or.inr (aa HFR5 g hg)⟩,aa HFF5⟩
theorem it {l:List Oper}{Q:Exit->Act->World->Prop}{S:World->Prop}{listed:Array Bool}{a:Act}{w:World}{fuel:Nat}{o:Oper}{rest:List Oper}(i:Nat)(hd:l.drop i=o::rest)(hw:Region.wanted o (yielded l.toArray a.tmps)=true)(f:FuncId)(args:Array Value)(h0:(execOp a.eval o).run prog w=.ok (.enter f args) w)(v:Value)(R:World->Prop)
  (hc:Calls prog f args w fun e w'=>e=.returned v/\R w') (h:∀w',R w'->S w'/\wpAnyH prog .any l.toArray Q S fuel (listed.setIfInBounds i true) (a.put o.dst v) w') :
  wpOp prog l.toArray Q i (fun a' w'=>S w'/\wpAnyH prog .any l.toArray Q S fuel (listed.setIfInBounds i true) a' w') a w:=by
 unfold wpOp;simp only[gw hd];rw[if_pos hw]
 left
 unfold Oper.wp;rw[h0]
 exact hc.mono fun e w' ⟨e1,e2⟩=>by subst e1; exact h w' e2
theorem kS (fb:Nat)(X:FV)(ver newest:Int)(sl pv:Value)(LS PL:List Ft)(ts:List aL)(w:World)(hf:aq w fb X)(hst:dD w X.sb 0 ver sl pv LS PL)(hLS:LS.length<=1000)(hver:0<=ver)(hnw:0<=newest/\newest<=1000)(ho:ah aW 196 w X.tv ts)(hk:∀t∈ts,dy t.k)(hll:ts.length<=10000000):
  Calls prog 94 #[.pointer (some ⟨fb,0,none⟩),newest] w fun e w'=>e=.returned (.tuple #[])/\(∃tv',aq w' fb { X with tv:=tv' }/\ah aW 196 w' tv' (ts.filter fun t=>decide (eA ver t.k LS<=newest-1))/\∀g,tv'.ownBlock=some g->w.heap.size<=g)/\aE (fun k=>k=fb) w w':=by
 have hlt0:=an hf;obtain⟨oa,cap,e,hcap,hm,hc⟩:=ho.at;have HC:=ae hc;have HF:=ae hf;have HST:=ae hst;have HK:=ae hk;unfold maxLen at hm
 have hN:=cr (R:=aW) (T:=196) w [] #[] rfl (by simp)
 have hB1:=(Below.refl w.heap.size w).alloc aD (.cells #[] 196);have HN:=ae hN;have HB1:=ae hB1
 have c8:w.cell? ⟨fb,11,none⟩=some (.slice oa ts.length cap):=by rw[<-e]; exact hf.cells.2.2.2.2.2.2.2.2.2.2.2
 have HC8:=ae c8
 have hwn:IntKind.i64.wrap (newest-1)=newest-1:=bG _ (by omega)
 clear hf ho hc hN hB1 e c8 hst hk;go_enter func94,ntmps94
 go_wp2_with fail
 go_loopw [4,5] (fun lv i wr=>∃k:Nat,k<=ts.length/\i=.int .i64 k/\ah aW 196 wr lv ((ts.take k).filter fun t=>decide (eA ver t.k LS<=newest-1))/\Hid (∀g,lv.ownBlock=some g->w.heap.size<=g)/\Below w.heap.size w wr) (fun _ i _=>ts.length-(intOf i).toNat)
 case atStart=>exact⟨0,by omega,rfl,by simpa using aa HN,ae (fun g hg=>by simp[Value.ownBlock] at hg; omega),aa HB1⟩
 case round=>
  obtain⟨k,hk,rfl,hown,hfr,hb⟩:=hrel;have hsz:=hb.size;have r8:=(hb.cell (p:=⟨fb,11,none⟩) hlt0).trans (aa HC8)
  by_cases hlt:k<ts.length
  ·have hkn:(k:Int)<ts.length:=by omega
   obtain⟨b,off,rfl,hbl,hc0⟩:=aa HC (by omega)
   obtain⟨⟨⟨tl,tz,tx,ty⟩,tb,tt⟩,ht⟩:∃t,ts[k]?=some t:=⟨_,List.getElem?_eq_getElem hlt⟩;have hko:=aa HK _ (List.mem_of_getElem? ht);dsimp only at hko;have hrg0:w.rangeAt b (off+k*6) (tv (some ⟨⟨tl,tz,tx,ty⟩,tb,tt⟩)).toList:=bL.tile hc0 ht;have hrgk:=rng4 (dA hrg0 hb hbl);have CF:=eU fb X ver sl pv LS PL tl tz tx ty (newest-1) wr (ag (aa HF) hb) ((aa HST).on hb) hLS hko hver;have HB:=ae hb;have HR0:=ae hrg0;have HO:=ae hown;clear hb hc0 hrg0 hown
   go_wp2_with (refine bU 39 #[tl,tz,tx,ty] underlying39 rfl (bj _ _ _ _) b (off+k*6) hrgk rfl _ rfl rfl ?_)
   refine CF.mono ?_;rintro e w2 ⟨rfl,hb2⟩;have hB2:=(aa HB).trans (hb2.mono (aa HB).size);have hrg2:=dA (aa HR0) hB2 hbl;have q8:=(hB2.cell (p:=⟨fb,11,none⟩) hlt0).trans (aa HC8);have hown2:=(aa HO).on hb2;have hsz2:=hB2.size;have HB2:=ae hB2;have hfs:=dN (fun t:aL=>decide (eA ver t.k LS<=newest-1)) ht;dsimp only at hfs;clear CF hb2 hB2 hrgk r8
   cases hp:decide (eA ver ⟨tl,tz,tx,ty⟩ LS<=newest-1) with
   | true=>
    rw[if_pos hp] at hfs;have hat:=aZ aW 196 w2 ⟨⟨tl,tz,tx,ty⟩,tb,tt⟩ #[tl,tz,tx,ty,tb,tt] rfl;have hownA:=hown2.on (bu.alloc aD (.cells #[tl,tz,tx,ty,tb,tt] 196))
    obtain⟨v3,w3,r1,r2,r3,r4⟩:=mz hownA hat (by have:=List.length_filter_le (fun t:aL=>decide (eA ver t.k LS<=newest-1)) (ts.take k); simp at this ⊢; omega)
    rw[<-hfs] at r2;have HO3:=ae r2
    have HB3:=ae (((aa HB2).alloc hsz2 (.cells #[tl,tz,tx,ty,tb,tt] 196)).grown r3 (by simp; omega) (fun g hg=>aa hfr g hg))
    have HFR:=ae (bN (aa hfr) r4 (by simp; omega))
    clear hown2 hat hownA r2 r3 r4 hfs hp
    go_wp2_with (first|refine bU 196 (tv (some ⟨⟨tl,tz,tx,ty⟩,tb,tt⟩)) underlying196 rfl (d9 _) b (off+k*6) hrg2 rfl _ rfl rfl ?_|refine cP _ _ (jt tl tz tx ty tb tt _ _ _ rfl rfl _) rfl ?_|(at_builtin; refine fS 123 r1 rfl _ _ rfl rfl rfl rfl ?_))
    go_roundw
    case rel=>exact⟨k+1,by omega,by go_num,aa HO3,aa HFR,aa HB3⟩
    case measure=>simp[intOf]; omega
   | false=>
    rw[if_neg (by rw[hp]; simp),List.append_nil] at hfs
    rw[<-hfs] at hown2;have HO3:=ae hown2;clear hown2 hfs hp
    go_wp2_with fail
    go_roundw
    case rel=>exact⟨k+1,by omega,by go_num,aa HO3,hfr,aa HB2⟩
    case measure=>simp[intOf]; omega
  have hkn:k=ts.length:=by omega
  have hfb:=ag (aa HF) hb;have hfz:=jU hfb 11
  have htl:ts.take k=ts:=by rw[hkn,List.take_length]
  rw[htl] at hown
  have HH:Hid ((∃tv',aq (wr.setCell ⟨fb,11,none⟩ u4) fb { X with tv:=tv' }/\ah aW 196 (wr.setCell ⟨fb,11,none⟩ u4) tv' (ts.filter fun t=>decide (eA ver t.k LS<=newest-1))/\∀g,tv'.ownBlock=some g->w.heap.size<=g)/\aE (fun k=>k=fb) w (wr.setCell ⟨fb,11,none⟩ u4)):=
   ⟨⟨u4,aq.set hfb 11 u4 (FV.set_tv X u4),hown.same (fun g hg=>Below.heap_setCell _ _ _ _ (by have:=aa hfr g hg; show g≠fb; omega)),aa hfr⟩,(aE.of_below hb).setCell u4 (fun _=>rfl)⟩
  obtain⟨oa4,n4,c4,rfl⟩:=hown.sl;clear hown hb hfb htl;subst hkn
  go_wp2_with fail
  exact bodyPost_end (results_none results94 _ _ _) rfl ⟨rfl,aa HH⟩
theorem dD.frm {w w':World}{sb:Nat}{keep ver:Int}{sl pv:Value}{LS PL:List (Nat->Int)}{S:Nat->Prop}(h:dD w sb keep ver sl pv LS PL)(hf:aE S w w')(h1:¬S sb)(h2:∀g,sl.ownBlock=some g->¬S g)(h3:∀g,pv.ownBlock=some g->¬S g):dD w' sb keep ver sl pv LS PL:=
 ⟨aQ h.blk hf h1,h.own.same fun g hg=>hf.block g (World.ownsRow.lt h.own g hg).2 (h2 g hg),h.pins.same fun g hg=>hf.block g (World.ownsRow.lt h.pins g hg).2 (h3 g hg)⟩
theorem dD.fb {w w':World}{sb:Nat}{keep ver:Int}{sl pv:Value}{LS PL:List (Nat->Int)}{fb:Nat}{X:FV}(h:dD w sb keep ver sl pv LS PL)(hF:aq w fb X)(hf:aE (fun k=>k=fb) w w'):dD w' sb keep ver sl pv LS PL:=by
 refine h.frm hf (aI h.blk hF (by decide)) (fun g hg=>?_) (fun g hg=>?_)
 ·obtain⟨c,hc⟩:=h.own.ty hg; exact aI hc hF (by decide)
 obtain⟨c,hc⟩:=h.pins.ty hg; exact aI hc hF (by decide)
def cR (ver:Int)(LS:List Ft)(room:Nat)(reads:Int)(cs ts:List aL):List aL:=ts.foldl (fun c t=>if decide (eA ver t.k LS<=reads) then eT room c t else c) cs
theorem layUl_snoc {ver:Int}{LS:List Ft}{room:Nat}{reads:Int}{cs ts:List aL}{k:Nat}{t:aL}(h:ts[k]?=some t):cR ver LS room reads cs (ts.take (k+1))=if decide (eA ver t.k LS<=reads) then eT room (cR ver LS room reads cs (ts.take k)) t else cR ver LS room reads cs (ts.take k):=by
 unfold cR;rw[be h,List.foldl_append];rfl
theorem layT_bytes (room:Nat)(ts:List aL)(t:aL):aA (eT room ts t)<=max (aA ts) room:=by
 unfold eT
 split
 ·exact Nat.le_max_left _ _
 have:=(fj room t.body.size _ (bm ts t.k) aD).2 (by omega)
 rw[ep];simp only[aA];have:=Nat.le_max_right (aA ts) room;omega
theorem layT_len (room:Nat)(ts:List aL)(t:aL):(eT room ts t).length<=ts.length+1:=by
 unfold eT
 split
 ·omega
 have:=(fj room t.body.size _ (bm ts t.k) aD).1.length_le;have:=eL ts t.k
 simp; omega
theorem kq (fb:Nat)(X:FV)(room:Nat)(ver reads:Int)(sl pv:Value)(LS PL:List Ft)(cs ts:List aL)(tsv:Value)(w:World)(hf:aq w fb X)(hrm:X.rm=room)(hst:dD w X.sb 0 ver sl pv LS PL)(hLS:LS.length<=1000)(hver:0<=ver)(ho:ah aW 196 w X.tv cs)(hot:ah aW 196 w tsv ts)(hk:∀t∈ts,dy t.k/\t.body.size<=1000000)(hl:cs.length<=1000)(hlt:ts.length<=1000)(hby:aA cs<=1000000)(hro:room<=1000000):
  Calls prog 144 #[.pointer (some ⟨fb,0,none⟩),tsv,reads] w fun e w'=>e=.returned (.tuple #[])/\(∃tv',aq w' fb { X with tv:=tv' }/\ah aW 196 w' tv' (cR ver LS room reads cs ts)/\∀g,tv'.ownBlock=some g->X.tv.ownBlock=some g\/w.heap.size<=g)/\aE (fun k=>k=fb) w w':=by
 have hlt0:=an hf
 have hne:=au hot hf (by decide)
 obtain⟨oa,cap,e,hcap,hm,hc⟩:=hot.at;have HC:=ae hc;have HF:=ae hf;have HST:=ae hst;have HK:=ae hk;have HO:=ae ho;have HRM:=ae hrm;unfold maxLen at hm;rw[e] at hne;have HNE:=ae hne;clear hf ho hot hc hst hk hrm hne;subst e;go_enter func144,ntmps144
 go_wp2_with fail
 go_loopw [6] (fun i wr=>∃(k:Nat) (tvr:Value),k<=ts.length/\i=.int .i64 k/\Hid (aq wr fb { X with tv:=tvr }/\ah aW 196 wr tvr (cR ver LS room reads cs (ts.take k))/\(∀g,tvr.ownBlock=some g->X.tv.ownBlock=some g\/w.heap.size<=g)/\(cR ver LS room reads cs (ts.take k)).length<=1000+k/\aA (cR ver LS room reads cs (ts.take k))<=1000000/\aE (fun k=>k=fb) w wr)) (fun i _=>ts.length-(intOf i).toNat)
 case atStart=>exact⟨0,X.tv,by omega,rfl,ae ⟨aa HF,by simpa[cR] using aa HO,fun g hg=>Or.inl hg,by simpa[cR] using hl,by simpa[cR] using hby,aE.rfl' _ _⟩⟩
 case round=>
  obtain⟨k,tvr,hk,rfl,hh⟩:=hrel;obtain⟨g1,g2,g3,g4,g5,g6⟩:=aa hh
  by_cases hlk:k<ts.length
  ·have hkn:(k:Int)<ts.length:=by omega
   obtain⟨b,off,rfl,hbl,hc0⟩:=aa HC (by omega)
   obtain⟨⟨⟨tl,tz,tx,ty⟩,tb,tt⟩,ht⟩:∃t,ts[k]?=some t:=⟨_,List.getElem?_eq_getElem hlk⟩;obtain⟨hko,htb⟩:=aa HK _ (List.mem_of_getElem? ht);dsimp only at hko htb;have hbf:b≠fb:=aa HNE b rfl
   have hrg:∀W,aE (fun k=>k=fb) w W->W.rangeAt b (off+k*6) (tv (some ⟨⟨tl,tz,tx,ty⟩,tb,tt⟩)).toList:=fun W h j u hu=>by
    rw[World.cell?_of_block (a:=⟨b,off+k*6+j,none⟩) (h.block b hbl hbf)]; exact bL.tile hc0 ht j u hu
   have hrgk:=rng4 (hrg wr g6);have hstr:=(aa HST).fb (aa HF) g6;have CF:=eU fb { X with tv:=tvr } ver sl pv LS PL tl tz tx ty reads wr g1 hstr hLS hko hver;have hls:=layUl_snoc (ver:=ver) (LS:=LS) (room:=room) (reads:=reads) (cs:=cs) ht;dsimp only at hls;have HG:=ae (show aq wr fb { X with tv:=tvr }/\ah aW 196 wr tvr (cR ver LS room reads cs (ts.take k))/\aE (fun k=>k=fb) w wr from⟨g1,g2,g6⟩);have HRG:=ae hrg;have HG3:=ae g3;have HG4:=ae g4;have HG5:=ae g5;clear hc0 g1 g2 g3 g4 g5 g6 hh hrg hstr
   go_wp2_with (refine bU 39 #[tl,tz,tx,ty] underlying39 rfl (bj _ _ _ _) b (off+k*6) hrgk rfl _ rfl rfl ?_)
   refine CF.mono ?_;rintro e w2 ⟨rfl,hb2⟩;obtain⟨g1,g2,g6⟩:=aa HG;have hf2:=ag g1 hb2;have ho2:=g2.on hb2;have hF2:=g6.then (aE.of_below hb2) (fun _ _ h=>h);have hsz:w.heap.size<=wr.heap.size:=g6.size;have hsz2:=hb2.size;clear CF hb2 hrgk g1 g2 g6
   cases hp:decide (eA ver ⟨tl,tz,tx,ty⟩ LS<=reads) with
   | false=>
    rw[if_neg (by rw[hp]; simp)] at hls
    rw[<-hls] at ho2
    have HH:Hid (aq w2 fb { X with tv:=tvr }/\ah aW 196 w2 tvr (cR ver LS room reads cs (ts.take (k+1)))/\(∀g,tvr.ownBlock=some g->X.tv.ownBlock=some g\/w.heap.size<=g)/\(cR ver LS room reads cs (ts.take (k+1))).length<=1000+(k+1)/\aA (cR ver LS room reads cs (ts.take (k+1)))<=1000000/\aE (fun k=>k=fb) w w2):=
     ⟨hf2,ho2,aa HG3,by rw[hls]; have:=aa HG4; omega,by rw[hls]; exact aa HG5,hF2⟩
    clear hf2 ho2 hF2 hls hp
    go_wp2_with fail
    go_roundw
    case rel=>exact⟨k+1,tvr,by omega,by go_num,HH⟩
    case measure=>simp[intOf]; omega
   | true=>
    rw[if_pos hp] at hls;have hlb:=layT_bytes room (cR ver LS room reads cs (ts.take k)) ⟨⟨tl,tz,tx,ty⟩,tb,tt⟩;have hll:=layT_len room (cR ver LS room reads cs (ts.take k)) ⟨⟨tl,tz,tx,ty⟩,tb,tt⟩;rw[<-hls] at hlb hll;have hrg2:=aa HRG w2 hF2;have HF2:=ae hf2;have HO2:=ae ho2;have HFF2:=ae hF2;have HLS:=ae hls;clear hf2 ho2 hF2 hls hp
    go_wp2_with fail
    refine wp_region_held (S:=fun w'=>w'.rangeAt b (off+k*6) (tv (some ⟨⟨tl,tz,tx,ty⟩,tb,tt⟩)).toList) (by kernel_rfl) ?_
    change wpAnyH _ _ _ _ _ _ _ _ (World.drew _);have hS:(World.drew w2).rangeAt b (off+k*6) (tv (some ⟨⟨tl,tz,tx,ty⟩,tb,tt⟩)).toList:=hrg2;have hf3:aq (World.drew w2) fb { X with tv:=tvr }:=aa HF2;have ho3:ah aW 196 (World.drew w2) tvr (cR ver LS room reads cs (ts.take k)):=aa HO2;have hF3:aE (fun k=>k=fb) w (World.drew w2):=⟨(aa HFF2).os,(aa HFF2).tape,(aa HFF2).output,(aa HFF2).size,(aa HFF2).block⟩;generalize World.drew w2=w3 at hS hf3 ho3 hF3 ⊢;have hq4:=aa HG4;have hq5:=aa HG5
    have LY:=lay_any fb { X with tv:=tvr } room _ tl tz tx ty tb tt w3 hf3 (aa HRM) ho3 (by omega) (by omega) htb
    have HRF:Hid (∀w4,((∃tv',aq w4 fb { X with tv:=tv' }/\ah aW 196 w4 tv' (eT room (cR ver LS room reads cs (ts.take k)) ⟨⟨tl,tz,tx,ty⟩,tb,tt⟩)/\∀g,tv'.ownBlock=some g->tvr.ownBlock=some g\/w3.heap.size<=g)/\aE (fun k=>k=fb) w3 w4)->w4.rangeAt b (off+k*6) (tv (some ⟨⟨tl,tz,tx,ty⟩,tb,tt⟩)).toList/\∃tv',aq w4 fb { X with tv:=tv' }/\ah aW 196 w4 tv' (cR ver LS room reads cs (ts.take (k+1)))/\(∀g,tv'.ownBlock=some g->X.tv.ownBlock=some g\/w.heap.size<=g)/\(cR ver LS room reads cs (ts.take (k+1))).length<=1000+(k+1)/\aA (cR ver LS room reads cs (ts.take (k+1)))<=1000000/\aE (fun k=>k=fb) w w4):=by
     rintro w4 ⟨⟨tv',z1,z2,z3⟩,z4⟩;have zf:=hF3.then z4 (fun _ _ h=>h)
     refine⟨aa HRG w4 zf,tv',z1,by rw[aa HLS]; exact z2,fun g hg=>?_,by omega,by omega,zf⟩
     rcases z3 g hg with z|z
     ·exact aa HG3 g z
     right; have:=hF3.size; omega
    refine am 0 rfl fb 0 hS ?_;refine am 1 rfl fb 0 hS ?_;refine am 2 rfl fb 10 hS ?_;refine aH 3 rfl (.slice (some ⟨b,off,none⟩) ts.length cap) hS ?_;refine aH 4 rfl (.int .i64 k) hS ?_
    refine am 5 rfl b (off+k*6) hS ?_ (hy:=fun w' hw'=>by simp[go_sem,hkn])
    refine aH 6 rfl (.agg (tv (some ⟨⟨tl,tz,tx,ty⟩,tb,tt⟩))) hS ?_ (hy:=fun w' hw'=>jT _ _ _ 196 rfl _ rfl _ underlying196 rfl (d9 (some ⟨⟨tl,tz,tx,ty⟩,tb,tt⟩)) b (off+k*6) rfl _ hw');refine aV 7 ?_
    refine it 7 rfl rfl 177 #[.pointer (some ⟨fb,10,none⟩),.agg #[tl,tz,tx,ty,tb,tt]] (by simp[go_sem,tv]) (.tuple #[]) _ LY ?_
    intro w4 hR4;obtain⟨hS4,tv4,z1,z2,z3,z4,z5,z6⟩:=aa HRF w4 hR4;refine⟨hS4,?_⟩;simp only[qZ]
    refine wpAnyH_done (by kernel_rfl) ?_ _
    have HH:=ae (And.intro z1 (And.intro z2 (And.intro z3 (And.intro z4 (And.intro z5 z6)))));clear hS hf3 ho3 hF3 LY hR4 hS4 z1 z2 z3 z4 z5 z6 HRF hrg2 hlb hll hq4 hq5
    go_wp2_with fail
    go_roundw
    case rel=>exact⟨k+1,tv4,by omega,by go_num,HH⟩
    case measure=>simp[intOf]; omega
  have hkn:k=ts.length:=by omega
  have htl:ts.take k=ts:=by rw[hkn,List.take_length]
  rw[htl] at g2;have HH:=ae (show(∃tv',aq wr fb { X with tv:=tv' }/\ah aW 196 wr tv' (cR ver LS room reads cs ts)/\∀g,tv'.ownBlock=some g->X.tv.ownBlock=some g\/w.heap.size<=g)/\aE (fun k=>k=fb) w wr from⟨⟨tvr,g1,g2,g3⟩,g6⟩);clear g1 g2 g3 g4 g5 g6 hh htl;subst hkn
  go_wp2_with fail
  exact bodyPost_end (results_none results144 _ _ _) rfl ⟨rfl,aa HH⟩
end Go.Proofs.YtpabpniaekldeaaGreatDoor
namespace Go.Proofs.YtpabpniaekldeaaGreatDoor.Dw
open Go.Proofs.Tryz
set_option maxRecDepth 20000
namespace Pp
open Go.Proofs.Tryz
def cutL (m:UInt8):List UInt8->List UInt8 × List UInt8
 | []=>([],[])
 | c::r=>if c=m then ([],r) else (c::(cutL m r).1,(cutL m r).2)
theorem cutL_none (m:UInt8):∀l:List UInt8,m∉l->cutL m l=(l,[])
 | [],_=>rfl
 | c::r,h=>by
  have hc:c≠m:=fun e=>h (by simp[e])
  have ih:=cutL_none m r (fun e=>h (by simp[e]))
  simp[cutL,hc,ih]
theorem cutL_found (m:UInt8)(r:List UInt8):∀a:List UInt8,m∉a->cutL m (a++m::r)=(a,r)
 | [],_=>by simp[cutL]
 | c::a,h=>by
  have hc:c≠m:=fun e=>h (by simp[e])
  have ih:=cutL_found m r a (fun e=>h (by simp[e]))
  simp[cutL,hc,ih]
theorem fm (m:UInt8):∀l:List UInt8,(cutL m l).2≠[]->l=(cutL m l).1++m::(cutL m l).2
 | [],h=>by simp[cutL] at h
 | c::r,h=>by
  by_cases hc:c=m
  ·simp[cutL,hc]
  simp only[cutL,hc,if_false] at h ⊢;have ih:=fm m r h;rw[List.cons_append,<-ih]
def within (lo hi:Nat)(l:List UInt8):Bool:=l.all fun c=>decide (lo<=c.toNat/\c.toNat<=hi)
def nameB (l:List UInt8):Bool:=decide (1<=l.length/\l.length<=8) && within 97 122 l
def numB (l:List UInt8):Bool:=decide (1<=l.length/\l.length<=9) && (!(decide (1<l.length) && (l.getD 0 0==48)) && within 48 57 l)
theorem i8 (lo hi:Nat)(l:List UInt8)(m:UInt8)(hm:m.toNat<lo\/hi<m.toNat)(h:within lo hi l=true):m∉l:=by
 intro hx;simp only[within,List.all_eq_true,decide_eq_true_eq] at h;have:=h m hx;omega
theorem oW (l:List UInt8)(h:nameB l=true):within 97 122 l=true:=by
 simp only[nameB,Bool.and_eq_true] at h; exact h.2
theorem numB_within (l:List UInt8)(h:numB l=true):within 48 57 l=true:=by
 simp only[numB,Bool.and_eq_true] at h; exact h.2.2
theorem numB_len (l:List UInt8)(h:numB l=true):1<=l.length/\l.length<=9:=by
 simp only[numB,Bool.and_eq_true,decide_eq_true_eq] at h; exact h.1
theorem name_47 (l:List UInt8)(h:nameB l=true):(47:UInt8)∉l:=i8 _ _ l 47 (Or.inl (by decide)) (oW l h)
theorem lV (l:List UInt8)(h:numB l=true):(47:UInt8)∉l:=i8 _ _ l 47 (Or.inl (by decide)) (numB_within l h)
theorem num_46 (l:List UInt8)(h:numB l=true):(46:UInt8)∉l:=i8 _ _ l 46 (Or.inl (by decide)) (numB_within l h)
def tile:List UInt8:=[116,105,108,101]
def dotTile:List UInt8:=[46,116,105,108,101]
abbrev Quad:=List UInt8 × List UInt8 × List UInt8 × List UInt8
def Form (p:List UInt8)(q:Quad):Prop:=
 p=47::(q.1++47::(q.2.1++47::(q.2.2.1++47::(q.2.2.2++46::tile))))/\nameB q.1=true/\numB q.2.1=true/\numB q.2.2.1=true/\numB q.2.2.2=true
def splitOk (a n z x y:List UInt8 × List UInt8):Bool:=decide (a.1=[]/\y.2=tile) && (nameB n.1 && (numB z.1 && (numB x.1 && numB y.1)))
def splitL (p:List UInt8):Option Quad:=
 let a:=cutL 47 p
 let n:=cutL 47 a.2
 let z:=cutL 47 n.2
 let x:=cutL 47 z.2
 let y:=cutL 46 x.2
 if splitOk a n z x y=true then some (n.1,z.1,x.1,y.1) else none
theorem kF (a n z x y:List UInt8 × List UInt8):splitOk a n z x y=true↔(a.1=[]/\y.2=tile)/\nameB n.1=true/\numB z.1=true/\numB x.1=true/\numB y.1=true:=by
 simp[splitOk]
theorem splitL_iff (p:List UInt8)(q:Quad):splitL p=some q↔Form p q:=by
 constructor
 ·intro h
  unfold splitL at h;simp only at h;generalize ha:cutL 47 p=a at h;generalize hn:cutL 47 a.2=n at h;generalize hz:cutL 47 n.2=z at h;generalize hx:cutL 47 z.2=x at h;generalize hy:cutL 46 x.2=y at h
  by_cases hok:splitOk a n z x y=true
  ·rw[if_pos hok] at h
   obtain⟨⟨h1,h2⟩,h3,h4,h5,h6⟩:=(kF _ _ _ _ _).1 hok
   have ey:=fm 46 x.2 (by rw[hy,h2]; decide)
   rw[hy,h2] at ey
   have ex:=fm 47 z.2 (by rw[hx,ey]; simp)
   rw[hx,ey] at ex
   have ez:=fm 47 n.2 (by rw[hz,ex]; simp)
   rw[hz,ex] at ez
   have en:=fm 47 a.2 (by rw[hn,ez]; simp)
   rw[hn,ez] at en
   have ea:=fm 47 p (by rw[ha,en]; simp)
   rw[ha,h1,en] at ea;have hq:=Option.some.inj h;subst hq
   exact⟨by simpa using ea,h3,h4,h5,h6⟩
  rw[if_neg hok] at h;cases h
 rintro⟨rfl,h3,h4,h5,h6⟩;obtain⟨n,z,x,y⟩:=q;simp only at h3 h4 h5 h6 ⊢;unfold splitL
 have e1:cutL 47 (47::(n++47::(z++47::(x++47::(y++46::tile)))))=([],n++47::(z++47::(x++47::(y++46::tile)))):=by simp[cutL]
 simp only[e1,cutL_found 47 _ n (name_47 n h3),cutL_found 47 _ z (lV z h4),cutL_found 47 _ x (lV x h5),cutL_found 46 _ y (num_46 y h6)];rw[if_pos ((kF _ _ _ _ _).2 ⟨⟨rfl,rfl⟩,h3,h4,h5,h6⟩)]
def pieces:List UInt8->List (List UInt8)
 | []=>[[]]
 | c::r=>if c=47 then []::pieces r else (c::(pieces r).headD [])::(pieces r).tail
theorem pieces_ne:∀l,pieces l≠[]
 | []=>by simp[pieces]
 | c::r=>by unfold pieces; split<;>simp
theorem pieces_none:∀a:List UInt8,(47:UInt8)∉a->pieces a=[a]
 | [],_=>rfl
 | c::a,h=>by
  have hc:c≠47:=fun e=>h (by simp[e])
  have ih:=pieces_none a (fun e=>h (by simp[e]))
  simp[pieces,hc,ih]
theorem pieces_found (r:List UInt8):∀a:List UInt8,(47:UInt8)∉a->pieces (a++47::r)=a::pieces r
 | [],_=>by simp[pieces]
 | c::a,h=>by
  have hc:c≠47:=fun e=>h (by simp[e])
  have ih:=pieces_found r a (fun e=>h (by simp[e]))
  simp[pieces,hc,ih]
theorem kH:∀l,l=(pieces l).headD []++(pieces l).tail.flatMap (47::·)
 | []=>rfl
 | c::r=>by
  have ih:=kH r;have hne:=pieces_ne r
  by_cases hc:c=47
  ·subst hc
   simp only[pieces,if_true,List.headD_cons,List.tail_cons,List.nil_append]
   cases hp:pieces r with
   | nil=>exact absurd hp hne
   | cons h t=>
    rw[hp] at ih;simp only[List.headD_cons,List.tail_cons] at ih;rw[List.flatMap_cons,List.cons_append,<-ih]
  simp only[pieces,hc,if_false,List.headD_cons,List.tail_cons,List.cons_append];rw[<-ih]
def refOk (l:List (List UInt8)):Bool:=decide (l.length=5/\l.getD 0 []=[]) && (nameB (l.getD 1 []) && (numB (l.getD 2 []) && (numB (l.getD 3 []) && numB (l.getD 4 []))))
def refL (p:List UInt8):Option Quad:=
 if p.length<5\/p.drop (p.length-5)≠dotTile then none else
 let l:=pieces (p.take (p.length-5))
 if refOk l=true then some (l.getD 1 [],l.getD 2 [],l.getD 3 [],l.getD 4 []) else none
theorem refOk_iff (l:List (List UInt8)):refOk l=true↔(l.length=5/\l.getD 0 []=[])/\nameB (l.getD 1 [])=true/\numB (l.getD 2 [])=true/\numB (l.getD 3 [])=true/\numB (l.getD 4 [])=true:=by
 unfold refOk;simp only[Bool.and_eq_true,decide_eq_true_eq]
theorem refL_iff (p:List UInt8)(q:Quad):refL p=some q↔Form p q:=by
 constructor
 ·intro h
  unfold refL at h
  by_cases h0:p.length<5\/p.drop (p.length-5)≠dotTile
  ·rw[if_pos h0] at h; cases h
  rw[if_neg h0] at h;have hlen:¬p.length<5:=fun e=>h0 (Or.inl e);have htl:p.drop (p.length-5)=dotTile:=Classical.not_not.1 (fun e=>h0 (Or.inr e));simp only at h;have hj:=kH (p.take (p.length-5));generalize hl:pieces (p.take (p.length-5))=l at h hj
  by_cases hok:refOk l=true
  ·rw[if_pos hok] at h
   obtain⟨⟨h1,h2⟩,h3,h4,h5,h6⟩:=(refOk_iff _).1 hok
   match l,h1 with
   | [a,n,z,x,y],_=>
    have h2':a=[]:=h2;subst h2';have hq:=Option.some.inj h;subst hq;refine⟨?_,h3,h4,h5,h6⟩;have:=List.take_append_drop (p.length-5) p;rw[htl,hj] at this;rw[<-this];simp[dotTile,tile]
  rw[if_neg hok] at h; cases h
 rintro⟨hp,h3,h4,h5,h6⟩;obtain⟨n,z,x,y⟩:=q;simp only at hp h3 h4 h5 h6
 have hp':p=(47::(n++47::(z++47::(x++47::y))))++dotTile:=by rw[hp]; simp[dotTile,tile]
 have hlen:p.length-5=(47::(n++47::(z++47::(x++47::y)))).length:=by rw[hp',List.length_append]; simp[dotTile]
 have htk:p.take (p.length-5)=47::(n++47::(z++47::(x++47::y))):=by rw[hlen,hp']; exact List.take_left' rfl
 have hdr:p.drop (p.length-5)=dotTile:=by rw[hlen,hp']; exact List.drop_left' rfl
 have hpc:pieces (47::(n++47::(z++47::(x++47::y))))=[[],n,z,x,y]:=by
  have e:=pieces_found (n++47::(z++47::(x++47::y))) [] (by simp)
  simp only[List.nil_append] at e;rw[e,pieces_found _ n (name_47 n h3),pieces_found _ z (lV z h4),pieces_found _ x (lV x h5),pieces_none y (lV y h6)]
 unfold refL
 have hnot:¬(p.length<5\/p.drop (p.length-5)≠dotTile):=by
  intro e
  rcases e with e|e
  ·rw[hp'] at e; simp[dotTile] at e; omega
  exact e hdr
 rw[if_neg hnot];simp only[htk,hpc];rw[if_pos ((refOk_iff [[],n,z,x,y]).2 ⟨⟨rfl,rfl⟩,h3,h4,h5,h6⟩)];rfl
theorem refL_eq (p:List UInt8):refL p=splitL p:=by
 cases h:splitL p with
 | some q=>exact(refL_iff p q).2 ((splitL_iff p q).1 h)
 | none=>
  cases h':refL p with
  | none=>rfl
  | some q=>
   have:=(splitL_iff p q).2 ((refL_iff p q).1 h');rw[h] at this;cases this
def valL (l:List UInt8):Nat:=l.foldl (fun n c=>10*n+(c.toNat-48)) 0
theorem valL_snoc (l:List UInt8)(c:UInt8):valL (l++[c])=10*valL l+(c.toNat-48):=by simp[valL]
theorem valL_lt (l:List UInt8)(h:within 48 57 l=true):valL l<10 ^ l.length:=by
 have key:∀(l:List UInt8) (n k:Nat),within 48 57 l=true->n<10 ^ k->l.foldl (fun n c=>10*n+(c.toNat-48)) n<10 ^ (k+l.length):=by
  intro l
  induction l with
  | nil=>intro n k _ hn; simpa using hn
  | cons c r ih=>
   intro n k hw hn;simp only[within,List.all_cons,Bool.and_eq_true,decide_eq_true_eq] at hw
   have:=ih (10*n+(c.toNat-48)) (k+1) hw.2 (by rw[Nat.pow_succ]; omega)
   rw[List.foldl_cons,List.length_cons,show k+(r.length+1)=k+1+r.length from by omega]
   exact this
 have:=key l 0 0 h (by decide)
 simpa[valL] using this
def land:List UInt8:=[108,97,110,100]
def water:List UInt8:=[119,97,116,101,114]
def road:List UInt8:=[114,111,97,100]
def mark:List UInt8:=[109,97,114,107]
def names (i:Nat):List UInt8:=[land,water,road,mark].getD i []
def layerL (l:List UInt8):Int:=if l=land then 0 else if l=water then 1 else if l=road then 2 else if l=mark then 3 else -1
def keyErr (l z x y:Int):Int:=
 if l<0\/3<l then 2 else if z<0\/22<z then 3 else if x<0\/(2:Int) ^ z.toNat<=x\/y<0\/(2:Int) ^ z.toNat<=y then 4 else 0
end Pp
end Go.Proofs.YtpabpniaekldeaaGreatDoor.Dw
namespace Go.Proofs.YtpabpniaekldeaaGreatDoor.Dw
open Go.Proofs.Tryz
open Go.RowKit
set_option maxRecDepth 20000
theorem ae {p:Prop}(h:p):Hid p:=h
theorem aa {p:Prop}(h:Hid p):p:=h
theorem ai {a b:Bool}(h:a=b):Ending.returned (.bool a)=.returned (.bool b):=by rw[h]
theorem aB {k:IntKind}{a b:Int}(h:a=b):Ending.returned (.int k a)=.returned (.int k b):=by rw[h]
theorem ret_str {a b:List UInt8}(h:a=b):Ending.returned (.string ⟨a.toArray⟩)=.returned (.string ⟨b.toArray⟩):=by rw[h]
theorem eg (s:ByteArray)(k:Nat)(h:k<s.size):s.data.toList.take (k+1)=s.data.toList.take k++[s[k]]:=by
 rw[List.take_succ_eq_append_getElem (by simpa using h)]; rfl
theorem dP (s:ByteArray)(k:Nat)(h:k<s.size):s.data.toList.drop k=s[k]::s.data.toList.drop (k+1):=by
 rw[List.drop_eq_getElem_cons (by simpa using h)]; rfl
theorem dH (x:Int)(h1:-9223372036854775808<=x)(h2:x<=9223372036854775807):IntKind.i64.wrap x=x:=by rw[IntKind.wrap_i64]; omega
theorem dd (w:World)(q n:Nat):∃k,(w.drewN q).drewN n=w.drewN k:=⟨_,World.drewN_drewN _ _ _⟩
theorem cC (lo hi:Nat)(s:ByteArray)(k:Nat)(h:k<s.size)(hb:¬(lo<=s[k].toNat/\s[k].toNat<=hi)):Pp.within lo hi s.data.toList=false:=by
 rw[Bool.eq_false_iff];intro ht;simp only[Pp.within,List.all_eq_true,decide_eq_true_eq] at ht;exact hb (ht s[k] (Array.mem_toList_iff.2 (Array.getElem_mem _)))
theorem eG (lo hi:Nat)(s:ByteArray)(k:Nat)(h:k<s.size)(h0:Pp.within lo hi (s.data.toList.take k)=true)(hb:lo<=s[k].toNat/\s[k].toNat<=hi):Pp.within lo hi (s.data.toList.take (k+1))=true:=by
 rw[eg s k h];unfold Pp.within at h0 ⊢;rw[List.all_append,h0];simp[hb]
theorem lz (lo hi:Nat)(s:ByteArray)(h:Pp.within lo hi s.data.toList=true)(k:Nat)(hk:k<s.size):lo<=s[k].toNat/\s[k].toNat<=hi:=by
 simp only[Pp.within,List.all_eq_true,decide_eq_true_eq] at h;exact h s[k] (Array.mem_toList_iff.2 (Array.getElem_mem _))
theorem dG (s:ByteArray)(lo hi:Nat)(lo' hi':Int)(w:World)(hs:s.size<=maxLen)(e1:(lo:Int)=lo')(e2:(hi:Int)=hi'):
  Calls prog 194 #[s,.int .u8 lo',.int .u8 hi'] w fun e w'=>e=.returned (.bool (Pp.within lo hi s.data.toList))/\w=w':=by
 unfold maxLen at hs
 have g1:(lo:Int)<=lo':=by omega
 have g2:lo'<=(lo:Int):=by omega
 have g3:(hi:Int)<=hi':=by omega
 have g4:hi'<=(hi:Int):=by omega
 clear e1 e2;go_enter func194,ntmps194
 go_wp2
 go_loop [7] (fun i=>∃k:Nat,k<=s.size/\i=.int .i64 k/\Hid (Pp.within lo hi (s.data.toList.take k)=true)) (fun i=>s.size-(intOf i).toNat)
 case atStart=>exact⟨0,Nat.zero_le _,rfl,ae rfl⟩
 case round=>
  obtain⟨k,hk,rfl,hall⟩:=hrel
  by_cases hlt:k<s.size
  ·by_cases h1:(s[k].toNat:Int)<lo'
   ·go_wp2
    go_ret
    exact⟨ai (cC lo hi s k hlt (by omega)).symm,rfl⟩
   by_cases h2:hi'<(s[k].toNat:Int)
   ·go_wp2
    go_ret
    exact⟨ai (cC lo hi s k hlt (by omega)).symm,rfl⟩
   go_wp2
   go_round
   case rel=>exact⟨k+1,by omega,by go_num,ae (eG lo hi s k hlt (aa hall) (by omega))⟩
   case measure=>simp[intOf]; omega
  go_wp2
  go_ret;refine⟨ai ?_,rfl⟩;have:=aa hall
  rw[List.take_of_length_le (by simp; omega)] at this
  exact this.symm
theorem bw (s:ByteArray):s.data.toList.length=s.size:=by simp
theorem fA (s:ByteArray)(w:World)(hs:s.size<=maxLen):
  Calls prog 170 #[s] w fun e w'=>e=.returned (.bool (Pp.nameB s.data.toList))/\w=w':=by
 have hs':=hs;unfold maxLen at hs'
 by_cases h1:1<=s.size
 ·by_cases h8:s.size<=8
  ·have hn:Hid (Pp.nameB s.data.toList=Pp.within 97 122 s.data.toList):=by
    show Pp.nameB s.data.toList=_
    unfold Pp.nameB; rw[bw]; simp[h1,h8]
   have g1:(1:Int)<=(s.size:Int):=by omega
   have g2:(s.size:Int)<=8:=by omega
   go_enter func170,ntmps170
   go_wp2_with (go_at_call 194; refine(dG s 97 122 _ _ _ hs rfl rfl).mono ?_; rintro e w' ⟨rfl,rfl⟩)
   go_ret;exact⟨ai (aa hn).symm,rfl⟩
  have hn:Hid (Pp.nameB s.data.toList=false):=by
   show Pp.nameB s.data.toList=_
   unfold Pp.nameB; rw[bw]; simp[h8]
  have g1:decide ((s.size:Int)<=8)=false:=by simp; omega
  go_enter func170,ntmps170
  go_wp2_with fail
  go_ret;exact⟨ai (aa hn).symm,rfl⟩
 have hn:Hid (Pp.nameB s.data.toList=false):=by
  show Pp.nameB s.data.toList=_
  unfold Pp.nameB; rw[bw]; simp[h1]
 have g1:decide ((1:Int)<=(s.size:Int))=false:=by simp; omega
 go_enter func170,ntmps170
 go_wp2_with fail
 go_ret;exact⟨ai (aa hn).symm,rfl⟩
theorem head_at (s:ByteArray)(h:0<s.size):s.data.toList.getD 0 0=s[0]:=by
 rw[List.getD_eq_getElem?_getD,List.getElem?_eq_getElem (by simpa using h)]; rfl
theorem bZ (s:ByteArray)(w:World)(hs:s.size<=maxLen):
  Calls prog 171 #[s] w fun e w'=>e=.returned (.bool (Pp.numB s.data.toList))/\w=w':=by
 have hs':=hs;unfold maxLen at hs'
 by_cases h1:s.size<1
 ·have hn:Hid (Pp.numB s.data.toList=false):=by
   show Pp.numB s.data.toList=_
   have:¬ 1<=s.size:=by omega
   unfold Pp.numB; rw[bw]; simp[this]
  go_enter func171,ntmps171
  go_wp2_with fail
  go_ret;exact⟨ai (aa hn).symm,rfl⟩
 by_cases h9:9<s.size
 ·have hn:Hid (Pp.numB s.data.toList=false):=by
   show Pp.numB s.data.toList=_
   have:¬s.size<=9:=by omega
   unfold Pp.numB; rw[bw]; simp[this]
  go_enter func171,ntmps171
  go_wp2_with fail
  go_ret;exact⟨ai (aa hn).symm,rfl⟩
 have hpos:0<s.size:=by omega
 have hh:=ae (head_at s hpos)
 by_cases hg:1<s.size
 ·by_cases h0:s[0]=48
  ·have hn:Hid (Pp.numB s.data.toList=false):=by
    show Pp.numB s.data.toList=_
    unfold Pp.numB; rw[bw,aa hh]; simp[hg,h0]
   have g0:((s[0].toNat:Int)==48)=true:=by rw[h0]; rfl
   clear h0;go_enter func171,ntmps171
   go_wp2_with fail
   go_ret;exact⟨ai (aa hn).symm,rfl⟩
  have hn:Hid (Pp.numB s.data.toList=Pp.within 48 57 s.data.toList):=by
   show Pp.numB s.data.toList=_
   have a1:1<=s.size:=by omega
   have a2:s.size<=9:=by omega
   unfold Pp.numB; rw[bw,aa hh]; simp[a1,a2,h0]
  have g0:((s[0].toNat:Int)==48)=false:=by
   rw[beq_eq_false_iff_ne];intro h
   apply h0
   apply UInt8.toNat_inj.1
   have:(48:UInt8).toNat=48:=rfl;omega
  clear h0;go_enter func171,ntmps171
  go_wp2_with (go_at_call 194; refine(dG s 48 57 _ _ _ hs rfl rfl).mono ?_; rintro e w' ⟨rfl,rfl⟩)
  go_ret;exact⟨ai (aa hn).symm,rfl⟩
 have hn:Hid (Pp.numB s.data.toList=Pp.within 48 57 s.data.toList):=by
  show Pp.numB s.data.toList=_
  have a1:1<=s.size:=by omega
  have a2:s.size<=9:=by omega
  unfold Pp.numB; rw[bw]; simp[a1,a2,hg]
 have g0:decide ((1:Int)<(s.size:Int))=false:=by simp; omega
 go_enter func171,ntmps171
 go_wp2_with (go_at_call 194; refine(dG s 48 57 _ _ _ hs rfl rfl).mono ?_; rintro e w' ⟨rfl,rfl⟩)
 go_ret;exact⟨ai (aa hn).symm,rfl⟩
theorem cut_lo (S:ByteArray)(i:Nat):(S.extract 0 i).data.toList=S.data.toList.take i:=by rw[Lib.extract_data]; simp
theorem cut_hi (S:ByteArray)(i:Nat):(S.extract i S.size).data.toList=S.data.toList.drop i:=by rw[Lib.extract_data,List.take_of_length_le (by simp)]
theorem cut_at (s:ByteArray)(m:UInt8)(k:Nat)(h:k<s.size)(hk:s[k]=m)(h0:m∉s.data.toList.take k):Pp.cutL m s.data.toList=(s.data.toList.take k,s.data.toList.drop (k+1)):=by
 have e:s.data.toList=s.data.toList.take k++m::s.data.toList.drop (k+1):=by
  rw[<-hk,<-dP s k h,List.take_append_drop]
 have:=Pp.cutL_found m (s.data.toList.drop (k+1)) (s.data.toList.take k) h0;rw[<-e] at this;exact this
theorem not_snoc (s:ByteArray)(m:UInt8)(k:Nat)(h:k<s.size)(hk:¬s[k]=m)(h0:m∉s.data.toList.take k):m∉s.data.toList.take (k+1):=by
 rw[eg s k h];intro hm
 rcases List.mem_append.1 hm with hm|hm
 ·exact h0 hm
 exact hk (List.mem_singleton.1 hm).symm
theorem jY (s:ByteArray)(m:UInt8)(m':Int)(w:World)(hs:s.size<=maxLen)(em:(m.toNat:Int)=m'):
  Calls prog 169 #[s,.int .u8 m'] w fun e w'=>∃A R:ByteArray,e=.returned (.tuple #[A,R])/\A.data.toList=(Pp.cutL m s.data.toList).1/\R.data.toList=(Pp.cutL m s.data.toList).2/\A.size<=s.size/\R.size<=s.size/\∃q,w'=w.drewN q:=by
 unfold maxLen at hs
 have g1:(m.toNat:Int)<=m':=by omega
 have g2:m'<=(m.toNat:Int):=by omega
 clear em;go_enter func169,ntmps169
 go_wp2
 go_loop [6] (fun i=>∃k:Nat,k<=s.size/\i=.int .i64 k/\Hid (m∉s.data.toList.take k)) (fun i=>s.size-(intOf i).toNat)
 case atStart=>exact⟨0,Nat.zero_le _,rfl,ae (by simp)⟩
 case round=>
  obtain⟨k,hk,rfl,hno⟩:=hrel
  by_cases hlt:k<s.size
  ·by_cases he:s[k]=m
   ·have hb:((s[k].toNat:Int)==m')=true:=by rw[he]; simp; omega
    have hc:=ae (cut_at s m k hlt he (aa hno))
    have hk1:k<=s.size:=by omega
    have hk2:k+1<=s.size:=by omega
    clear he hno
    go_wp2_with fail
    go_region
    all_goals
     go_wp2
     go_ret2
     exact⟨_,_,rfl,by rw[aa hc,cut_lo],by rw[aa hc,cut_hi],by simp; omega,by simp,1,rfl⟩
   have hb:((s[k].toNat:Int)==m')=false:=by
    rw[beq_eq_false_iff_ne];intro h
    exact he (UInt8.toNat_inj.1 (by omega))
   have hn:=ae (not_snoc s m k hlt he (aa hno));clear he
   go_wp2
   go_round
   case rel=>exact⟨k+1,by omega,by go_num,hn⟩
   case measure=>simp[intOf]; omega
  have hc:Hid (Pp.cutL m s.data.toList=(s.data.toList,[])):=by
   have:=aa hno
   rw[List.take_of_length_le (by simp; omega)] at this
   exact Pp.cutL_none m _ this
  go_wp2
  go_ret2
  exact⟨_,_,rfl,by rw[aa hc],by rw[aa hc],Nat.le_refl _,Nat.zero_le _,0,rfl⟩
theorem val_snoc (s:ByteArray)(k:Nat)(h:k<s.size):Pp.valL (s.data.toList.take (k+1))=10*Pp.valL (s.data.toList.take k)+(s[k].toNat-48):=by
 rw[eg s k h,Pp.valL_snoc]
theorem within_take (lo hi:Nat)(l:List UInt8)(k:Nat)(h:Pp.within lo hi l=true):Pp.within lo hi (l.take k)=true:=by
 simp only[Pp.within,List.all_eq_true] at h ⊢;exact fun c hc=>h c (List.mem_of_mem_take hc)
theorem dU (s:ByteArray)(k:Nat)(h9:s.size<=9)(h:Pp.within 48 57 s.data.toList=true):Pp.valL (s.data.toList.take k)<1000000000:=by
 have h1:=Pp.valL_lt _ (within_take 48 57 _ k h)
 have h2:(s.data.toList.take k).length<=9:=by simp; omega
 have h3:10 ^ (s.data.toList.take k).length<=10 ^ 9:=Nat.pow_le_pow_right (by decide) h2
 omega
theorem kg (s:ByteArray)(w:World)(h9:s.size<=9)(hw:Pp.within 48 57 s.data.toList=true):
  Calls prog 128 #[s] w fun e w'=>e=.returned (.int .i64 (Pp.valL s.data.toList:Int))/\w=w':=by
 have HW:=ae hw;clear hw;go_enter func128,ntmps128
 go_wp2
 go_loop [3,4] (fun n i=>∃k:Nat,k<=s.size/\i=.int .i64 k/\n=.int .i64 (Pp.valL (s.data.toList.take k):Int)) (fun _ i=>s.size-(intOf i).toNat)
 case atStart=>exact⟨0,Nat.zero_le _,rfl,rfl⟩
 case round=>
  obtain⟨k,hk,rfl,rfl⟩:=hrel;have hcap:=dU s k h9 (aa HW)
  by_cases hlt:k<s.size
  ·have hsn:=ae (val_snoc s k hlt)
   obtain⟨d1,d2⟩:=lz 48 57 s (aa HW) k hlt;generalize Pp.valL (s.data.toList.take k)=V at hcap hsn
   go_wp2
   go_round
   case rel=>exact⟨k+1,by omega,by go_num,by rw[aa hsn]; go_num⟩
   case measure=>simp[intOf]; omega
  go_wp2
  go_ret
  exact⟨aB (by rw[List.take_of_length_le (by simp; omega)]),rfl⟩
def NamesIn (w:World):Prop:=
 w.cell? ⟨0,0,none⟩=some (.string ⟨#[108,97,110,100]⟩)/\w.cell? ⟨0,1,none⟩=some (.string ⟨#[119,97,116,101,114]⟩) /\
 w.cell? ⟨0,2,none⟩=some (.string ⟨#[114,111,97,100]⟩)/\w.cell? ⟨0,3,none⟩=some (.string ⟨#[109,97,114,107]⟩)
theorem fG (a b:List UInt8)(h:b=a):(a==b)=true:=by simp[h]
theorem im (a b:List UInt8)(h:¬b=a):(a==b)=false:=by
 rw[beq_eq_false_iff_ne]; exact fun e=>h e.symm
theorem layerOf_any (s:ByteArray)(w:World)(hN:NamesIn w):
  Calls prog 127 #[s] w fun e w'=>e=.returned (.int .i64 (Pp.layerL s.data.toList))/\w=w':=by
 obtain⟨c0,c1,c2,c3⟩:=hN;have hsl:s.toList=s.data.toList:=ByteArray.toList_eq s
 by_cases h0:s.data.toList=Pp.land
 ·have hL:Hid (Pp.layerL s.data.toList=0):=by show Pp.layerL s.data.toList=_; simp[Pp.layerL,h0]
  have b0:([108,97,110,100]==s.data.toList)=true:=fG _ _ h0;clear h0;go_enter func127,ntmps127
  go_wp2
  refine wp_loop_rounds 4 ?_
  rw[rounds_succ]; go_wp2
  go_ret;exact⟨aB (aa hL).symm,rfl⟩
 have b0:([108,97,110,100]==s.data.toList)=false:=im _ _ h0
 by_cases h1:s.data.toList=Pp.water
 ·have hL:Hid (Pp.layerL s.data.toList=1):=by show Pp.layerL s.data.toList=_; simp[Pp.layerL,h1,Pp.land,Pp.water]
  have b1:([119,97,116,101,114]==s.data.toList)=true:=fG _ _ h1;clear h0 h1;go_enter func127,ntmps127
  go_wp2
  refine wp_loop_rounds 4 ?_
  rw[rounds_succ]; go_wp2
  rw[rounds_succ]; go_wp2
  go_ret;exact⟨aB (aa hL).symm,rfl⟩
 have b1:([119,97,116,101,114]==s.data.toList)=false:=im _ _ h1
 by_cases h2:s.data.toList=Pp.road
 ·have hL:Hid (Pp.layerL s.data.toList=2):=by show Pp.layerL s.data.toList=_; simp[Pp.layerL,h2,Pp.land,Pp.water,Pp.road]
  have b2:([114,111,97,100]==s.data.toList)=true:=fG _ _ h2;clear h0 h1 h2;go_enter func127,ntmps127
  go_wp2
  refine wp_loop_rounds 4 ?_
  rw[rounds_succ]; go_wp2
  rw[rounds_succ]; go_wp2
  rw[rounds_succ]; go_wp2
  go_ret;exact⟨aB (aa hL).symm,rfl⟩
 have b2:([114,111,97,100]==s.data.toList)=false:=im _ _ h2
 by_cases h3:s.data.toList=Pp.mark
 ·have hL:Hid (Pp.layerL s.data.toList=3):=by show Pp.layerL s.data.toList=_; simp[Pp.layerL,h3,Pp.land,Pp.water,Pp.road,Pp.mark]
  have b3:([109,97,114,107]==s.data.toList)=true:=fG _ _ h3;clear h0 h1 h2 h3;go_enter func127,ntmps127
  go_wp2
  refine wp_loop_rounds 4 ?_
  rw[rounds_succ]; go_wp2
  rw[rounds_succ]; go_wp2
  rw[rounds_succ]; go_wp2
  rw[rounds_succ]; go_wp2
  go_ret;exact⟨aB (aa hL).symm,rfl⟩
 have b3:([109,97,114,107]==s.data.toList)=false:=im _ _ h3
 have hL:Hid (Pp.layerL s.data.toList=-1):=by show Pp.layerL s.data.toList=_; simp[Pp.layerL,h0,h1,h2,h3]
 clear h0 h1 h2 h3;go_enter func127,ntmps127
 go_wp2
 refine wp_loop_rounds 5 ?_
 rw[rounds_succ]; go_wp2
 rw[rounds_succ]; go_wp2
 rw[rounds_succ]; go_wp2
 rw[rounds_succ]; go_wp2
 rw[rounds_succ]; go_wp2
 go_ret;exact⟨aB (aa hL).symm,rfl⟩
theorem gi (z:Int)(h:z<=22):(1:Int)<=(2:Int) ^ z.toNat/\(2:Int) ^ z.toNat<=4194304:=by
 have h1:z.toNat<=22:=by omega
 have h2:(2:Nat) ^ z.toNat<=2 ^ 22:=Nat.pow_le_pow_right (by decide) h1
 have h3:1<=(2:Nat) ^ z.toNat:=Nat.one_le_two_pow
 have e:((2:Int) ^ z.toNat)=(((2:Nat) ^ z.toNat:Nat):Int):=by simp
 rw[e];omega
theorem eO (x N:Int)(h:1<=N):0<x / N↔N<=x:=by
 have:=Int.le_ediv_iff_mul_le (a:=1) (b:=x) (c:=N) (by omega)
 omega
theorem dF (l z x y:Int)(h:l<0\/3<l):Pp.keyErr l z x y=2:=by unfold Pp.keyErr; rw[if_pos h]
theorem dW (l z x y:Int)(h:¬(l<0\/3<l))(h':z<0\/22<z):Pp.keyErr l z x y=3:=by unfold Pp.keyErr; rw[if_neg h,if_pos h']
theorem gZ (l z x y:Int)(h:¬(l<0\/3<l))(h':¬(z<0\/22<z))(h'':x<0\/(2:Int) ^ z.toNat<=x\/y<0\/(2:Int) ^ z.toNat<=y):Pp.keyErr l z x y=4:=by unfold Pp.keyErr; rw[if_neg h,if_neg h',if_pos h'']
theorem g8 (l z x y:Int)(h:¬(l<0\/3<l))(h':¬(z<0\/22<z))(h'':¬(x<0\/(2:Int) ^ z.toNat<=x\/y<0\/(2:Int) ^ z.toNat<=y)):Pp.keyErr l z x y=0:=by unfold Pp.keyErr; rw[if_neg h,if_neg h',if_neg h'']
def dm (n lo hi:Int):Bool:=decide (lo<=n/\n<=hi)
theorem dM {n lo hi:Int}(h:lo<=n)(h':n<=hi):dm n lo hi=true:=by simp[dm,h,h']
theorem jo {n lo hi:Int}(h:n<lo):dm n lo hi=false:=by simp[dm]; omega
theorem jn {n lo hi:Int}(h:hi<n):dm n lo hi=false:=by simp[dm]; omega
theorem bh (z:Int)(w:World):
  Calls prog 120 #[z] w fun e w'=>e=.returned (.bool (dm z 0 22))/\w=w':=by
 by_cases h1:0<=z
 ·by_cases h2:z<=22
  ·have H:=ae (dM h1 h2)
   go_enter func120,ntmps120
   go_wp2
   go_ret;exact⟨ai (aa H).symm,rfl⟩
  have H:=ae (jn (n:=z) (lo:=0) (hi:=22) (by omega))
  go_enter func120,ntmps120
  go_wp2
  go_ret;exact⟨ai (aa H).symm,rfl⟩
 have H:=ae (jo (n:=z) (lo:=0) (hi:=22) (by omega))
 go_enter func120,ntmps120
 go_wp2
 go_ret;exact⟨ai (aa H).symm,rfl⟩
theorem bV (l z x y:Int)(w:World):
  Calls prog 75 #[.agg #[l,z,x,y]] w fun e w'=>e=.returned (.int .i64 (Pp.keyErr l z x y))/\Below w.heap.size w w':=by
 by_cases h1:l<0
 ·have HK:=ae (dF l z x y (Or.inl h1))
  go_enter func75,ntmps75
  go_wp2_with (go_at_call 120; refine(bh _ _).mono ?_; rintro e w1 ⟨rfl,rfl⟩)
  go_ret;exact⟨aB (aa HK).symm,bu.alloc aD _⟩
 by_cases h2:3<l
 ·have HK:=ae (dF l z x y (Or.inr h2))
  go_enter func75,ntmps75
  go_wp2_with (go_at_call 120; refine(bh _ _).mono ?_; rintro e w1 ⟨rfl,rfl⟩)
  go_ret;exact⟨aB (aa HK).symm,bu.alloc aD _⟩
 have hl:¬(l<0\/3<l):=by omega
 by_cases h3:z<0
 ·have HK:=ae (dW l z x y hl (Or.inl h3))
  have hzz:=jo (n:=z) (lo:=0) (hi:=22) h3;clear hl;go_enter func75,ntmps75
  go_wp2_with (go_at_call 120; refine(bh _ _).mono ?_; rintro e w1 ⟨rfl,rfl⟩)
  go_ret;exact⟨aB (aa HK).symm,bu.alloc aD _⟩
 by_cases h4:22<z
 ·have HK:=ae (dW l z x y hl (Or.inr h4))
  have hzz:=jn (n:=z) (lo:=0) (hi:=22) h4;clear hl;go_enter func75,ntmps75
  go_wp2_with (go_at_call 120; refine(bh _ _).mono ?_; rintro e w1 ⟨rfl,rfl⟩)
  go_ret;exact⟨aB (aa HK).symm,bu.alloc aD _⟩
 have hz:¬(z<0\/22<z):=by omega
 have hzz:=dM (n:=z) (lo:=0) (hi:=22) (by omega) (by omega)
 have K4:=ae (gZ l z x y hl hz);have K0:=ae (g8 l z x y hl hz)
 obtain⟨p1,p2⟩:=gi z (by omega)
 have hw:wrap64 ((2:Int) ^ z.toNat)=(2:Int) ^ z.toNat:=IntWalk.wrap64_in _ ⟨by omega,by omega⟩
 obtain⟨N,hN⟩:∃N,(2:Int) ^ z.toNat=N:=⟨_,rfl⟩;rw[hN] at p1 p2 K4 K0;have hw':wrap64 ((2:Int) ^ z.toNat)=N:=hw.trans hN;clear hN hw hl hz
 by_cases h5:x<0
 ·have HK:=ae (aa K4 (Or.inl h5))
  clear K4 K0;go_enter func75,ntmps75
  go_wp2_with (go_at_call 120; refine(bh _ _).mono ?_; rintro e w1 ⟨rfl,rfl⟩)
  go_ret;exact⟨aB (aa HK).symm,bu.alloc aD _⟩
 by_cases h6:N<=x
 ·have HK:=ae (aa K4 (Or.inr (Or.inl h6)))
  clear K4 K0;go_enter func75,ntmps75
  go_wp2_with (go_at_call 120; refine(bh _ _).mono ?_; rintro e w1 ⟨rfl,rfl⟩)
  go_ret;exact⟨aB (aa HK).symm,bu.alloc aD _⟩
 by_cases h7:y<0
 ·have HK:=ae (aa K4 (Or.inr (Or.inr (Or.inl h7))))
  clear K4 K0;go_enter func75,ntmps75
  go_wp2_with (go_at_call 120; refine(bh _ _).mono ?_; rintro e w1 ⟨rfl,rfl⟩)
  go_ret;exact⟨aB (aa HK).symm,bu.alloc aD _⟩
 by_cases h8:N<=y
 ·have HK:=ae (aa K4 (Or.inr (Or.inr (Or.inr h8))))
  clear K4 K0;go_enter func75,ntmps75
  go_wp2_with (go_at_call 120; refine(bh _ _).mono ?_; rintro e w1 ⟨rfl,rfl⟩)
  go_ret;exact⟨aB (aa HK).symm,bu.alloc aD _⟩
 have HK:=ae (aa K0 (by omega))
 clear K4 K0;go_enter func75,ntmps75
 go_wp2_with (go_at_call 120; refine(bh _ _).mono ?_; rintro e w1 ⟨rfl,rfl⟩)
 go_ret;exact⟨aB (aa HK).symm,bu.alloc aD _⟩
theorem bq (l z x y:Int)(w:World):
  Calls prog 78 #[.agg #[l,z,x,y]] w fun e w'=>e=.returned (.int .i64 (Pp.keyErr l z x y))/\Below w.heap.size w w':=by
 by_cases h1:l<0
 ·have HK:=ae (dF l z x y (Or.inl h1))
  go_enter func78,ntmps78
  go_wp2
  go_ret;exact⟨aB (aa HK).symm,bu.alloc aD _⟩
 by_cases h2:3<l
 ·have HK:=ae (dF l z x y (Or.inr h2))
  go_enter func78,ntmps78
  go_wp2
  go_ret;exact⟨aB (aa HK).symm,bu.alloc aD _⟩
 have hl:¬(l<0\/3<l):=by omega
 by_cases h3:z<0
 ·have HK:=ae (dW l z x y hl (Or.inl h3))
  clear hl;go_enter func78,ntmps78
  go_wp2
  go_ret;exact⟨aB (aa HK).symm,bu.alloc aD _⟩
 by_cases h4:22<z
 ·have HK:=ae (dW l z x y hl (Or.inr h4))
  clear hl;go_enter func78,ntmps78
  go_wp2
  go_ret;exact⟨aB (aa HK).symm,bu.alloc aD _⟩
 have hz:¬(z<0\/22<z):=by omega
 have K4:=ae (gZ l z x y hl hz);have K0:=ae (g8 l z x y hl hz)
 obtain⟨p1,p2⟩:=gi z (by omega)
 clear hl hz
 by_cases h5:x<0
 ·have HK:=ae (aa K4 (Or.inl h5))
  clear K4 K0;go_enter func78,ntmps78
  go_wp2
  go_ret;exact⟨aB (aa HK).symm,bu.alloc aD _⟩
 by_cases h7:y<0
 ·have HK:=ae (aa K4 (Or.inr (Or.inr (Or.inl h7))))
  clear K4 K0;go_enter func78,ntmps78
  go_wp2
  go_ret;exact⟨aB (aa HK).symm,bu.alloc aD _⟩
 have qx:=eO x _ p1;have qy:=eO y _ p1;have QX:=ae qx;have QY:=ae qy;clear qx qy p1 p2
 by_cases h6:0<x / (2:Int) ^ z.toNat
 ·have HK:=ae (aa K4 (Or.inr (Or.inl ((aa QX).1 h6))))
  clear K4 K0;go_enter func78,ntmps78
  go_wp2
  go_ret;exact⟨aB (aa HK).symm,bu.alloc aD _⟩
 by_cases h8:0<y / (2:Int) ^ z.toNat
 ·have HK:=ae (aa K4 (Or.inr (Or.inr (Or.inr ((aa QY).1 h8)))))
  clear K4 K0;go_enter func78,ntmps78
  go_wp2
  go_ret;exact⟨aB (aa HK).symm,bu.alloc aD _⟩
 have n6:¬(2:Int) ^ z.toNat<=x:=fun e=>h6 ((aa QX).2 e);have n8:¬(2:Int) ^ z.toNat<=y:=fun e=>h8 ((aa QY).2 e)
 have HK:=ae (aa K0 (by omega))
 clear K4 K0 n6 n8;go_enter func78,ntmps78
 go_wp2
 go_ret;exact⟨aB (aa HK).symm,bu.alloc aD _⟩
def fY (lo hi most:Nat)(l:List UInt8):Bool:=Pp.within lo hi l && decide (0<l.length/\l.length<=most)
theorem da (s:ByteArray)(lo hi most:Nat)(lo' hi' most':Int)(w:World)(hs:s.size<=maxLen)(e1:(lo:Int)=lo')(e2:(hi:Int)=hi')(e3:(most:Int)=most'):
  Calls prog 135 #[s,.int .u8 lo',.int .u8 hi',most'] w fun e w'=>e=.returned (.bool (fY lo hi most s.data.toList))/\w=w':=by
 unfold maxLen at hs
 have g1:(lo:Int)<=lo':=by omega
 have g2:lo'<=(lo:Int):=by omega
 have g3:(hi:Int)<=hi':=by omega
 have g4:hi'<=(hi:Int):=by omega
 have g5:(most:Int)<=most':=by omega
 have g6:most'<=(most:Int):=by omega
 clear e1 e2 e3;go_enter func135,ntmps135
 go_wp2
 go_loop [9] (fun i=>∃k:Nat,k<=s.size/\i=.int .i64 k/\Hid (Pp.within lo hi (s.data.toList.take k)=true)) (fun i=>s.size-(intOf i).toNat)
 case atStart=>exact⟨0,Nat.zero_le _,rfl,ae rfl⟩
 case round=>
  obtain⟨k,hk,rfl,hall⟩:=hrel
  by_cases hlt:k<s.size
  ·by_cases h1:(s[k].toNat:Int)<lo'
   ·go_wp2
    go_ret
    exact⟨ai (by unfold fY; rw[cC lo hi s k hlt (by omega)]; rfl),rfl⟩
   by_cases h2:hi'<(s[k].toNat:Int)
   ·go_wp2
    go_ret
    exact⟨ai (by unfold fY; rw[cC lo hi s k hlt (by omega)]; rfl),rfl⟩
   go_wp2
   go_round
   case rel=>exact⟨k+1,by omega,by go_num,ae (eG lo hi s k hlt (aa hall) (by omega))⟩
   case measure=>simp[intOf]; omega
  have hw:Hid (Pp.within lo hi s.data.toList=true):=by
   have:=aa hall
   rw[List.take_of_length_le (by simp; omega)] at this
   exact this
  by_cases h0:0<s.size
  ·by_cases hm:(s.size:Int)<=most'
   ·have hm':s.size<=most:=by omega
    go_wp2
    go_ret
    exact⟨ai (by unfold fY; rw[aa hw,bw]; simp[h0,hm']),rfl⟩
   have hm':¬s.size<=most:=by omega
   have d:decide ((s.size:Int)<=most')=false:=by simp; omega
   go_wp2
   go_ret
   exact⟨ai (by unfold fY; rw[aa hw,bw]; simp[hm']),rfl⟩
  have d:decide ((0:Int)<(s.size:Int))=false:=decide_eq_false (by omega)
  go_wp2
  go_ret
  exact⟨ai (by unfold fY; rw[aa hw,bw]; simp[h0]),rfl⟩
theorem dw (l:List UInt8):fY 97 122 8 l=Pp.nameB l:=by
 unfold fY Pp.nameB;rw[Bool.and_comm]
 congr 1
theorem lone_num (l:List UInt8):Pp.numB l=(fY 48 57 9 l && !(decide (1<l.length) && (l.getD 0 0==48))):=by
 unfold fY Pp.numB;have e:decide (1<=l.length/\l.length<=9)=decide (0<l.length/\l.length<=9):=rfl;rw[e]
 cases Pp.within 48 57 l<;>cases decide (0<l.length/\l.length<=9)<;>simp
def eH (l:List UInt8):Int:=if Pp.numB l=true then (Pp.valL l:Int) else -1
theorem jF (l:List UInt8)(h:Pp.numB l=false):eH l=-1:=by unfold eH; rw[h]; rfl
theorem fq (l:List UInt8)(h:Pp.numB l=true):eH l=(Pp.valL l:Int):=by unfold eH; rw[if_pos h]
theorem aJ (s:ByteArray)(w:World)(hs:s.size<=maxLen):
  Calls prog 136 #[s] w fun e w'=>e=.returned (.int .i64 (eH s.data.toList))/\w=w':=by
 have hs':=hs;unfold maxLen at hs'
 cases hl:fY 48 57 9 s.data.toList with
 | false=>
  have hn:Hid (Pp.numB s.data.toList=false):=by show Pp.numB _=_; rw[lone_num,hl]; rfl
  have HL:=ae hl;clear hl;go_enter func136,ntmps136
  go_wp2_with fail
  refine(da s 48 57 9 _ _ _ _ hs rfl rfl rfl).mono ?_;rintro e w' ⟨rfl,rfl⟩;rw[aa HL]
  go_wp2_with fail
  go_ret;exact⟨aB (jF _ (aa hn)).symm,rfl⟩
 | true=>
  have hlen:0<s.size/\s.size<=9:=by
   simp only[fY,Bool.and_eq_true,decide_eq_true_eq,bw] at hl;exact hl.2
  have hwi:Pp.within 48 57 s.data.toList=true:=by
   simp only[fY,Bool.and_eq_true] at hl;exact hl.1
  obtain⟨hpos,h9⟩:=hlen;have hh:=ae (head_at s hpos);have hnum:=ae (lone_num s.data.toList);have HL:=ae hl;have HW:=ae hwi;clear hl hwi
  by_cases hbad:1<s.size/\s[0]=48
  ·obtain⟨hg,h0⟩:=hbad
   have hn:Hid (Pp.numB s.data.toList=false):=by
    show Pp.numB _=_;rw[aa hnum,aa HL,bw,aa hh];simp[hg,h0]
   have g0:((s[0].toNat:Int)==48)=true:=by rw[h0]; rfl
   clear h0;go_enter func136,ntmps136
   go_wp2_with fail
   refine(da s 48 57 9 _ _ _ _ hs rfl rfl rfl).mono ?_;rintro e w' ⟨rfl,rfl⟩;rw[aa HL]
   go_wp2_with fail
   go_ret;exact⟨aB (jF _ (aa hn)).symm,rfl⟩
  have hn:Hid (Pp.numB s.data.toList=true):=by
   show Pp.numB _=_;rw[aa hnum,aa HL,bw,aa hh]
   by_cases hg:1<s.size
   ·have h0:¬s[0]=48:=fun e=>hbad ⟨hg,e⟩
    simp[h0]
   simp[hg]
  by_cases hg:1<s.size
  focus
   have h0:¬s[0]=48:=fun e=>hbad ⟨hg,e⟩
   have g0:((s[0].toNat:Int)==48)=false:=by
    rw[beq_eq_false_iff_ne];intro h
    apply h0
    apply UInt8.toNat_inj.1
    have:(48:UInt8).toNat=48:=rfl;omega
   clear h0 hbad
  rotate_left
  focus
   have g0:decide ((1:Int)<(s.size:Int))=false:=by simp; omega
   clear hbad
  all_goals
   go_enter func136,ntmps136
   go_wp2_with fail
   refine(da s 48 57 9 _ _ _ _ hs rfl rfl rfl).mono ?_;rintro e w' ⟨rfl,rfl⟩;rw[aa HL]
   go_wp2
   go_loop [4,5] (fun n i=>∃k:Nat,k<=s.size/\i=.int .i64 k/\n=.int .i64 (Pp.valL (s.data.toList.take k):Int)) (fun _ i=>s.size-(intOf i).toNat)
   case atStart=>exact⟨0,Nat.zero_le _,rfl,rfl⟩
   case round=>
    obtain⟨k,hk,rfl,rfl⟩:=hrel;have hcap:=dU s k h9 (aa HW)
    by_cases hlt:k<s.size
    ·have hsn:=ae (val_snoc s k hlt)
     obtain⟨d1,d2⟩:=lz 48 57 s (aa HW) k hlt;generalize Pp.valL (s.data.toList.take k)=V at hcap hsn
     go_wp2
     go_round
     case rel=>exact⟨k+1,by omega,by go_num,by rw[aa hsn]; go_num⟩
     case measure=>simp[intOf]; omega
    go_wp2
    go_ret
    exact⟨aB (by rw[fq _ (aa hn),List.take_of_length_le (by simp; omega)]),rfl⟩
theorem gV (i:Nat)(hi:i<4)(w:World):
  Calls prog 137 #[i] w fun e w'=>e=.returned (.string ⟨(Pp.names i).toArray⟩)/\Below w.heap.size w w':=by
 match i,hi with
 | 0,_=>
  go_enter func137,ntmps137
  go_wp2
  go_ret;exact⟨rfl,bu.alloc aD _⟩
 | 1,_=>
  go_enter func137,ntmps137
  go_wp2
  go_ret;exact⟨rfl,bu.alloc aD _⟩
 | 2,_=>
  go_enter func137,ntmps137
  go_wp2
  go_ret;exact⟨rfl,bu.alloc aD _⟩
 | 3,_=>
  go_enter func137,ntmps137
  go_wp2
  go_ret;exact⟨rfl,bu.alloc aD _⟩
theorem str_one (v:UInt8)(W:World)(g:Nat)(h:W.cell? ⟨g,0,none⟩=some (.int .u8 (v.toNat:Int))):(convert 220 9 (.slice (some ⟨g,0,none⟩) 1 1)).run prog W=.ok (.string ⟨#[v]⟩) W:=by
 refine run_convert_bytes_back W 220 9 5 ⟨g,0,none⟩ 1 [v] underlying220 underlying5 underlying9 ?_;intro j hj
 have:j=0:=by simpa using hj
 subst this;simpa[Addr.add] using h
theorem dec_len (u:Nat):(Lib.decDigits u).length<=u+1:=by
 induction u using Nat.strongRecOn with
 | _ u ih=>
  rw[Lib.decDigits]
  split
  ·simp
  have:=ih (u / 10) (by omega)
  simp;omega
def ir (N m:Nat)(acc:List UInt8):Prop:=Lib.decDigits m++acc=Lib.decDigits N
theorem digSo_end (N m:Nat)(acc:List UInt8)(h:m<10)(hd:ir N m acc):UInt8.ofNat (48+m%10)::acc=Lib.decDigits N:=by
 unfold ir at hd;rw[<-hd,Lib.decDigits_one h,Nat.mod_eq_of_lt h];rfl
theorem digSo_more (N m:Nat)(acc:List UInt8)(h:¬m<10)(hd:ir N m acc):ir N (m / 10) (UInt8.ofNat (48+m%10)::acc):=by
 unfold ir at hd ⊢;rw[<-hd,Lib.decDigits.eq_def m,dif_neg h];simp
theorem digSo_len (N m:Nat)(acc:List UInt8)(hN:N<=1000000000)(hd:ir N m acc):acc.length<=1000000001:=by
 unfold ir at hd;have h1:=congrArg List.length hd;rw[List.length_append] at h1;have:=dec_len N;omega
theorem cons_str (v:UInt8)(acc:List UInt8):(⟨#[v]⟩:ByteArray)++⟨acc.toArray⟩=⟨(v::acc).toArray⟩:=by
 apply ByteArray.ext
 simp
theorem digits_any (N:Nat)(w:World)(hN:N<=1000000000):
  Calls prog 173 #[N] w fun e w'=>e=.returned (.string ⟨(Lib.decDigits N).toArray⟩)/\Below w.heap.size w w':=by
 go_enter func173,ntmps173
 go_wp2
 go_loopw [0,3] (fun n s wr=>∃(m:Nat) (acc:List UInt8),m<=N/\n=.int .i64 m/\s=.string ⟨acc.toArray⟩/\Hid (ir N m acc)/\Below w.heap.size w wr) (fun n _ _=>(intOf n).toNat)
 case atStart=>exact⟨N,[],Nat.le_refl _,rfl,rfl,ae (by simp[ir]),Below.refl _ _⟩
 case round=>
  obtain⟨m,acc,hm,rfl,rfl,hd,hbel⟩:=hrel;have hlen:=digSo_len N m acc hN (aa hd)
  obtain⟨v,hv,hvv⟩:∃v:UInt8,(48+(m:Int)%10)=(v.toNat:Int)/\v=UInt8.ofNat (48+m%10):=⟨UInt8.ofNat (48+m%10),by rw[UInt8.toNat_ofNat']; omega,rfl⟩
  have HV:=ae hvv;clear hvv;have hcv:=fun W=>str_one v W wr.heap.size;have hsz:(⟨acc.toArray⟩:ByteArray).size=acc.length:=rfl;have hjn:=cons_str v acc
  by_cases h10:m<10
  ·have hE:Hid (v::acc=Lib.decDigits N):=by
    show v::acc=_
    rw[aa HV]; exact digSo_end N m acc h10 (aa hd)
   have hz:((m:Int) / 10==0)=true:=by
    rw[beq_iff_eq]; omega
   go_wp2
   go_ret;exact⟨ret_str (aa hE),hbel.alloc hbel.size _⟩
  have hE:Hid (ir N (m / 10) (v::acc)):=by
   show ir N (m / 10) (v::acc)
   rw[aa HV]; exact digSo_more N m acc h10 (aa hd)
  have hz:((m:Int) / 10==0)=false:=by
   rw[beq_eq_false_iff_ne]; omega
  go_wp2
  go_roundw
  case rel=>exact⟨m / 10,v::acc,by omega,by go_num,rfl,hE,hbel.alloc hbel.size _⟩
  case measure=>simp[intOf]; omega
theorem Tryz.info9:(prog.info? 9).map (fun i=>(i.zero,i.size,i.bytes))=some (some (.string ⟨#[]⟩),1,16):=by kernel_rfl
def OwnS (w:World)(B:Nat)(v:Value)(l:List ByteArray):Prop:=w.ownsRow B 9 1 v l.length (l.map Value.string)
theorem ownS_nil (w:World)(B:Nat):OwnS w B (.slice none 0 0) []:=World.ownsRow_nil _ _ _ _
theorem iI {ops:Array Oper}{rest:List Oper}{o:Oper}{a:Act}{Q:Exit->Act->World->Prop}(hgd:o.guard=none)(s x:Operand)
  (ho:o.op=.call { callee:=.builtin .append,args:=#[s,x],argTypes:=#[203,203] })
  (W:World) (B:Nat) (v:Value) (l:List ByteArray) (b:ByteArray) (hs:a.eval s=v) (hown:OwnS W B v l) (hx:a.eval x=.slice (some ⟨W.heap.size,0,none⟩) 1 1)
  (hlen:l.length<=2000000) (hB:B<=W.heap.size)
  (h:∀v' w',OwnS w' B v' (l++[b])->Below B W w'->wpList prog ops Q rest (a.put o.dst v') w') :
  wpList prog ops Q (o::rest) a (W.alloc (.cells #[b] 9)):=by
 obtain⟨i0,hi,hz0,hz1,hz2⟩:=info_parts Tryz.info9
 refine wpList_append_own _ hgd s x 203 ho B 9 i0 (.string ⟨#[]⟩) 1 16 underlying203 hi hz0 hz1 hz2 rfl (by decide) v l.length (l.map Value.string) hs (World.ownsRow.alloc hown _) ⟨W.heap.size,0,none⟩ 1 1 [.string b] hx rfl (cell_one_new _ _ _) ?_ ?_ ?_ ?_ ?_
 ·intro u hu; simp at hu; subst hu; rfl
 ·unfold maxLen; omega
 ·omega
 ·simp; omega
 intro v' w1 hown' hgrow _;refine h v' w1 ?_ ?_
 ·unfold OwnS
  simpa using hown'
 exact((Below.refl B W).alloc hB _).grown hgrow (by simp; omega) (fun k hk=>(World.ownsRow.lt hown k hk).1)
def jC (s:ByteArray)(f i:Nat)(l:List ByteArray):Prop:=
 l.map (fun b=>b.data.toList)++Pp.pieces (s.data.toList.drop f)=Pp.pieces s.data.toList/\(47:UInt8)∉(s.data.toList.drop f).take (i-f)
theorem oM (s:ByteArray):jC s 0 0 []:=⟨rfl,by simp⟩
theorem mid_split (s:ByteArray)(f i:Nat)(h:f<=i)(hi:i<s.size):s.data.toList.drop f=(s.data.toList.drop f).take (i-f)++s[i]::s.data.toList.drop (i+1):=by
 have e:=List.take_append_drop (i-f) (s.data.toList.drop f)
 rw[List.drop_drop,show f+(i-f)=i from by omega,dP s i hi] at e
 exact e.symm
theorem partSo_hit (s:ByteArray)(f i:Nat)(l:List ByteArray)(h:f<=i)(hi:i<s.size)(hc:s[i]=47)(hp:jC s f i l):jC s (i+1) (i+1) (l++[s.extract f i]):=by
 obtain⟨h1,h2⟩:=hp
 refine⟨?_,by simp⟩
 rw[mid_split s f i h hi,hc,Pp.pieces_found _ _ h2] at h1;rw[List.map_append,List.append_assoc,<-h1];simp
theorem partSo_miss (s:ByteArray)(f i:Nat)(l:List ByteArray)(h:f<=i)(hi:i<s.size)(hc:¬s[i]=47)(hp:jC s f i l):jC s f (i+1) l:=by
 obtain⟨h1,h2⟩:=hp;refine⟨h1,?_⟩
 have e:(s.data.toList.drop f).take (i+1-f)=(s.data.toList.drop f).take (i-f)++[s[i]]:=by
  rw[show i+1-f=(i-f)+1 from by omega,List.take_succ_eq_append_getElem (by simp; omega)]
  simp[show f+(i-f)=i from by omega]
  rfl
 rw[e];intro hm
 rcases List.mem_append.1 hm with hm|hm
 ·exact h2 hm
 exact hc (List.mem_singleton.1 hm).symm
theorem partSo_last (s:ByteArray)(f i:Nat)(l:List ByteArray)(h:f<=i)(hi:i=s.size)(hp:jC s f i l):(l++[s.extract f i]).map (fun b=>b.data.toList)=Pp.pieces s.data.toList:=by
 obtain⟨h1,h2⟩:=hp;subst hi
 have e:(s.data.toList.drop f).take (s.size-f)=s.data.toList.drop f:=List.take_of_length_le (by simp)
 rw[e] at h2;rw[Pp.pieces_none _ h2] at h1;rw[List.map_append,<-h1];simp[e]
def PartR (s:ByteArray)(F k:Nat)(l:List ByteArray):Prop:=(k<=s.size/\F<=k/\jC s F k l)\/(k=s.size+1/\l.map (fun b=>b.data.toList)=Pp.pieces s.data.toList)
theorem sizes_snoc (s:ByteArray)(l:List ByteArray)(f i:Nat)(hs:s.size<=1048576)(h:∀b∈l,b.size<=maxLen):∀b∈l++[s.extract f i],b.size<=maxLen:=by
 intro b hb
 rcases List.mem_append.1 hb with hb|hb
 ·exact h b hb
 rw[List.mem_singleton.1 hb];unfold maxLen;simp;omega
theorem parts_any (s:ByteArray)(w:World)(hs:s.size<=1048576):
  Calls prog 134 #[s] w fun e w'=>∃(v:Value) (l:List ByteArray),e=.returned v/\OwnS w' w.heap.size v l/\l.map (fun b=>b.data.toList)=Pp.pieces s.data.toList/\(∀b∈l,b.size<=maxLen)/\Below w.heap.size w w':=by
 go_enter func134,ntmps134
 go_wp2
 go_loopw [3,4,5] (fun v f i wr=>∃(F k:Nat) (l:List ByteArray),f=.int .i64 F/\i=.int .i64 k/\l.length<=k/\Hid (PartR s F k l)/\Hid (∀b∈l,b.size<=maxLen)/\OwnS wr w.heap.size v l/\Below w.heap.size w wr) (fun _ _ i _=>s.size+2-(intOf i).toNat)
 case atStart=>exact⟨0,0,[],rfl,rfl,Nat.le_refl _,ae (Or.inl ⟨Nat.zero_le _,Nat.le_refl _,oM s⟩),ae (by simp),ownS_nil _ _,Below.refl _ _⟩
 case round=>
  obtain⟨F,k,l,rfl,rfl,hlen,hR,hA,hown,hbel⟩:=hrel;have hsz:=hbel.size
  rcases aa hR with⟨hk,hF,hP⟩|⟨hk,hfin⟩
  ·have HP:=ae hP
   clear hP hR;have hA2:=ae (sizes_snoc s l F k hs (aa hA))
   by_cases hlt:k<s.size
   ·have g0:((k:Int)==(s.size:Int))=false:=by rw[beq_eq_false_iff_ne]; omega
    by_cases hc:s[k]=47
    ·have g1:((s[k].toNat:Int)==47)=true:=by rw[hc]; rfl
     have hN:=ae (partSo_hit s F k l hF hlt hc (aa HP));clear hc HP
     go_wp2_with (at_builtin; refine iI rfl (.tmp 22) (.tmp 27) rfl _ w.heap.size _ l _ rfl hown rfl ?_ ?_ ?_)
     ·omega
     ·exact hsz
     intro v' w1 hown' hbel';have hb2:=hbel.trans hbel';clear hown hbel hbel'
     go_wp2
     go_roundw
     case rel=>exact⟨k+1,k+1,l++[s.extract F k],by go_num,by go_num,by simp; omega,ae (Or.inl ⟨by omega,Nat.le_refl _,aa hN⟩),hA2,hown',hb2⟩
     case measure=>simp[intOf]; omega
    have g1:((s[k].toNat:Int)==47)=false:=by
     rw[beq_eq_false_iff_ne];intro h
     apply hc
     apply UInt8.toNat_inj.1
     have:(47:UInt8).toNat=47:=rfl;omega
    have hN:=ae (partSo_miss s F k l hF hlt hc (aa HP));clear hc HP
    go_wp2
    go_roundw
    case rel=>exact⟨F,k+1,l,rfl,by go_num,by omega,ae (Or.inl ⟨by omega,by omega,aa hN⟩),hA,hown,hbel⟩
    case measure=>simp[intOf]; omega
   have g0:((k:Int)==(s.size:Int))=true:=by rw[beq_iff_eq]; omega
   have hN:=ae (partSo_last s F k l hF (by omega) (aa HP))
   clear HP
   go_wp2_with (at_builtin; refine iI rfl (.tmp 22) (.tmp 27) rfl _ w.heap.size _ l _ rfl hown rfl ?_ ?_ ?_)
   ·omega
   ·exact hsz
   intro v' w1 hown' hbel';have hb2:=hbel.trans hbel';clear hown hbel hbel'
   go_wp2
   go_roundw
   case rel=>exact⟨k+1,k+1,l++[s.extract F k],by go_num,by go_num,by simp; omega,ae (Or.inr ⟨by omega,aa hN⟩),hA2,hown',hb2⟩
   case measure=>simp[intOf]; omega
  have HF:=ae hfin;clear hfin hR
  have hk':s.size<k:=by omega
  clear hk
  go_wp2
  go_ret;exact⟨_,l,rfl,hown,aa HF,aa hA,hbel⟩
theorem empty_of (A:ByteArray)(l:List UInt8)(h:A.data.toList=l):A.toList.isEmpty=l.isEmpty:=by rw[ByteArray.toList_eq,h]
theorem below_dn {B:Nat}{a w:World}(h:Below B a w)(n:Nat):Below B a (w.drewN n):=h.trans ⟨rfl,rfl,rfl,Nat.le_refl _,fun _ _=>rfl⟩
theorem split_no1 (p:List UInt8)(h:(Pp.cutL 47 p).1.isEmpty=false):Pp.splitL p=none:=by
 unfold Pp.splitL
 have h':¬(Pp.cutL 47 p).1=[]:=fun e=>by rw[e] at h; cases h
 simp[Pp.splitOk,h']
theorem split_eq (p a r0 n r1 z r2 x r3 y r4:List UInt8)(h1:a=(Pp.cutL 47 p).1)(h2:r0=(Pp.cutL 47 p).2)(h3:n=(Pp.cutL 47 r0).1)(h4:r1=(Pp.cutL 47 r0).2)
  (h5:z=(Pp.cutL 47 r1).1) (h6:r2=(Pp.cutL 47 r1).2) (h7:x=(Pp.cutL 47 r2).1) (h8:r3=(Pp.cutL 47 r2).2) (h9:y=(Pp.cutL 46 r3).1) (h10:r4=(Pp.cutL 46 r3).2) :
  Pp.splitL p=if (decide (a=[]/\r4=Pp.tile) && (Pp.nameB n && (Pp.numB z && (Pp.numB x && Pp.numB y))))=true then some (n,z,x,y) else none:=by
 subst h1 h2 h3 h4 h5 h6 h7 h8 h9 h10;rfl
theorem ju (w:World)(o:Obj)(q:Nat)(a b c d:Value):Below w.heap.size w ((((((w.alloc o).drewN q).setCell ⟨w.heap.size,0,none⟩ a).setCell ⟨w.heap.size,1,none⟩ b).setCell ⟨w.heap.size,2,none⟩ c).setCell ⟨w.heap.size,3,none⟩ d):=
 ((((below_dn (bu.alloc aD _) _).setCell aD _).setCell aD _).setCell aD _).setCell aD _
theorem split_any (s:ByteArray)(w:World)(hs:s.size<=maxLen):
  Calls prog 126 #[s] w fun e w'=>
   ((Pp.splitL s.data.toList=none/\e=.returned (.tuple #[.agg #[.string ⟨#[]⟩,.string ⟨#[]⟩,.string ⟨#[]⟩,.string ⟨#[]⟩],false])) \/
    (∃N Z X Y:ByteArray,Pp.splitL s.data.toList=some (N.data.toList,Z.data.toList,X.data.toList,Y.data.toList)/\e=.returned (.tuple #[.agg #[N,Z,X,Y],true])))/\Below w.heap.size w w':=by
 go_enter func126,ntmps126
 go_wp2_with fail
 refine(jY s 47 _ _ hs rfl).mono ?_;rintro e w1 ⟨A,R0,rfl,hA,hR0,-,sR0,q0,rfl⟩;have HA:=ae hA;have HR0:=ae hR0;have hE:=empty_of A _ hA;clear hA hR0
 cases hAe:(Pp.cutL 47 s.data.toList).1.isEmpty with
 | false=>
  rw[hAe] at hE;have hno:=ae (split_no1 _ hAe);clear hAe
  go_wp2_with fail
  exact bodyPost_ret (v:=.tuple #[.agg #[.string ⟨#[]⟩,.string ⟨#[]⟩,.string ⟨#[]⟩,.string ⟨#[]⟩],false]) (by simp[results,results126,go_sem]) rfl ⟨Or.inl ⟨aa hno,rfl⟩,ju _ _ _ _ _ _ _⟩
 | true=>
  rw[hAe] at hE
  have hA0:Hid (A.data.toList=[]):=by
   show A.data.toList=[]
   rw[aa HA]; exact List.isEmpty_iff.1 hAe
  clear hAe
  go_wp2_with fail
  refine(jY R0 47 _ _ (Nat.le_trans sR0 hs) rfl).mono ?_;rintro e w1 ⟨N,R1,rfl,hN,hR1,sN,sR1,q1,rfl⟩;have HN:=ae hN;have HR1:=ae hR1;clear hN hR1;have mN:N.size<=maxLen:=Nat.le_trans (Nat.le_trans sN sR0) hs;have m1:R1.size<=maxLen:=Nat.le_trans (Nat.le_trans sR1 sR0) hs;clear sN sR1 sR0
  go_wp2_with fail
  refine(jY R1 47 _ _ m1 rfl).mono ?_;rintro e w1 ⟨Z,R2,rfl,hZ,hR2,sZ,sR2,q2,rfl⟩;have HZ:=ae hZ;have HR2:=ae hR2;clear hZ hR2;have mZ:Z.size<=maxLen:=Nat.le_trans sZ m1;have m2:R2.size<=maxLen:=Nat.le_trans sR2 m1;clear sZ sR2 m1
  go_wp2_with fail
  refine(jY R2 47 _ _ m2 rfl).mono ?_;rintro e w1 ⟨X,R3,rfl,hX,hR3,sX,sR3,q3,rfl⟩;have HX:=ae hX;have HR3:=ae hR3;clear hX hR3;have mX:X.size<=maxLen:=Nat.le_trans sX m2;have m3:R3.size<=maxLen:=Nat.le_trans sR3 m2;clear sX sR3 m2
  go_wp2_with fail
  refine(jY R3 46 _ _ m3 rfl).mono ?_;rintro e w1 ⟨Y,R4,rfl,hY,hR4,sY,-,q4,rfl⟩;have HS:=ae (split_eq _ _ _ _ _ _ _ _ _ _ _ (aa HA) (aa HR0) (aa HN) (aa HR1) (aa HZ) (aa HR2) (aa HX) (aa HR3) hY hR4);clear HA HR0 HN HR1 HZ HR2 HX HR3 hY hR4;have mY:Y.size<=maxLen:=Nat.le_trans sY m3;clear sY m3;have hRl:R4.toList=R4.data.toList:=ByteArray.toList_eq R4;rw[aa hA0] at HS
  by_cases ht:R4.data.toList=Pp.tile
  ·have gt:(R4.data.toList==[116,105,108,101])=true:=by rw[ht]; rfl
   rw[ht] at HS;clear ht
   cases hn:Pp.nameB N.data.toList with
   | false=>
    have hno:Hid (Pp.splitL s.data.toList=none):=by
     show Pp.splitL s.data.toList=none
     rw[aa HS]; simp[hn]
    have Hn:=ae hn;clear hn HS
    go_wp2_with (go_at_call 170; refine(fA N _ mN).mono ?_; rintro e w' ⟨rfl,rfl⟩; rw[aa Hn])
    exact bodyPost_ret (v:=.tuple #[.agg #[.string ⟨#[]⟩,.string ⟨#[]⟩,.string ⟨#[]⟩,.string ⟨#[]⟩],false]) (by simp[results,results126,go_sem]) rfl ⟨Or.inl ⟨aa hno,rfl⟩,ju _ _ _ _ _ _ _⟩
   | true=>
    cases hz:Pp.numB Z.data.toList with
    | false=>
     have hno:Hid (Pp.splitL s.data.toList=none):=by
      show Pp.splitL s.data.toList=none
      rw[aa HS]; simp[hn,hz]
     have Hn:=ae hn;have Hz:=ae hz;clear hn hz HS
     go_wp2_with (first|(go_at_call 170; refine(fA N _ mN).mono ?_; rintro e w' ⟨rfl,rfl⟩; rw[aa Hn])|(go_at_call 171; refine(bZ Z _ mZ).mono ?_; rintro e w' ⟨rfl,rfl⟩; rw[aa Hz]))
     exact bodyPost_ret (v:=.tuple #[.agg #[.string ⟨#[]⟩,.string ⟨#[]⟩,.string ⟨#[]⟩,.string ⟨#[]⟩],false]) (by simp[results,results126,go_sem]) rfl ⟨Or.inl ⟨aa hno,rfl⟩,ju _ _ _ _ _ _ _⟩
    | true=>
     cases hx:Pp.numB X.data.toList with
     | false=>
      have hno:Hid (Pp.splitL s.data.toList=none):=by
       show Pp.splitL s.data.toList=none
       rw[aa HS]; simp[hn,hz,hx]
      have Hn:=ae hn;have Hz:=ae hz;have Hx:=ae hx;clear hn hz hx HS
      go_wp2_with fail
      refine(fA N _ mN).mono ?_;rintro e w' ⟨rfl,rfl⟩;rw[aa Hn]
      go_wp2_with fail
      refine(bZ Z _ mZ).mono ?_;rintro e w' ⟨rfl,rfl⟩;rw[aa Hz]
      go_wp2_with fail
      refine(bZ X _ mX).mono ?_;rintro e w' ⟨rfl,rfl⟩;rw[aa Hx]
      go_wp2_with fail
      exact bodyPost_ret (v:=.tuple #[.agg #[.string ⟨#[]⟩,.string ⟨#[]⟩,.string ⟨#[]⟩,.string ⟨#[]⟩],false]) (by simp[results,results126,go_sem]) rfl ⟨Or.inl ⟨aa hno,rfl⟩,ju _ _ _ _ _ _ _⟩
     | true=>
      cases hy:Pp.numB Y.data.toList with
      | false=>
       have hno:Hid (Pp.splitL s.data.toList=none):=by
        show Pp.splitL s.data.toList=none
        rw[aa HS]; simp[hn,hz,hx,hy]
       have Hn:=ae hn;have Hz:=ae hz;have Hx:=ae hx;have Hy:=ae hy;clear hn hz hx hy HS
       go_wp2_with fail
       refine(fA N _ mN).mono ?_;rintro e w' ⟨rfl,rfl⟩;rw[aa Hn]
       go_wp2_with fail
       refine(bZ Z _ mZ).mono ?_;rintro e w' ⟨rfl,rfl⟩;rw[aa Hz]
       go_wp2_with fail
       refine(bZ X _ mX).mono ?_;rintro e w' ⟨rfl,rfl⟩;rw[aa Hx]
       go_wp2_with fail
       refine(bZ Y _ mY).mono ?_;rintro e w' ⟨rfl,rfl⟩;rw[aa Hy]
       go_wp2_with fail
       exact bodyPost_ret (v:=.tuple #[.agg #[.string ⟨#[]⟩,.string ⟨#[]⟩,.string ⟨#[]⟩,.string ⟨#[]⟩],false]) (by simp[results,results126,go_sem]) rfl ⟨Or.inl ⟨aa hno,rfl⟩,ju _ _ _ _ _ _ _⟩
      | true=>
       have hyes:Hid (Pp.splitL s.data.toList=some (N.data.toList,Z.data.toList,X.data.toList,Y.data.toList)):=by
        show Pp.splitL s.data.toList=_
        rw[aa HS]; simp[hn,hz,hx,hy]
       have Hn:=ae hn;have Hz:=ae hz;have Hx:=ae hx;have Hy:=ae hy;clear hn hz hx hy HS
       go_wp2_with fail
       refine(fA N _ mN).mono ?_;rintro e w' ⟨rfl,rfl⟩;rw[aa Hn]
       go_wp2_with fail
       refine(bZ Z _ mZ).mono ?_;rintro e w' ⟨rfl,rfl⟩;rw[aa Hz]
       go_wp2_with fail
       refine(bZ X _ mX).mono ?_;rintro e w' ⟨rfl,rfl⟩;rw[aa Hx]
       go_wp2_with fail
       refine(bZ Y _ mY).mono ?_;rintro e w' ⟨rfl,rfl⟩;rw[aa Hy]
       go_wp2_with fail
       exact bodyPost_ret (v:=.tuple #[.agg #[N,Z,X,Y],true]) (by simp[results,results126,go_sem]) rfl ⟨Or.inr ⟨N,Z,X,Y,aa hyes,rfl⟩,ju _ _ _ _ _ _ _⟩
  have gt:(R4.data.toList==[116,105,108,101])=false:=by
   rw[beq_eq_false_iff_ne]; exact ht
  have hno:Hid (Pp.splitL s.data.toList=none):=by
   show Pp.splitL s.data.toList=none
   rw[aa HS]; simp[ht]
  clear ht HS
  go_wp2_with fail
  exact bodyPost_ret (v:=.tuple #[.agg #[.string ⟨#[]⟩,.string ⟨#[]⟩,.string ⟨#[]⟩,.string ⟨#[]⟩],false]) (by simp[results,results126,go_sem]) rfl ⟨Or.inl ⟨aa hno,rfl⟩,ju _ _ _ _ _ _ _⟩
theorem mw {W w1:World}(hb:Below W.heap.size W w1):(∀b o,b<W.heap.size->w1.cell? ⟨b,o,none⟩=W.cell? ⟨b,o,none⟩)/\(∀b o,b<W.heap.size->w1.frozen? ⟨b,o,none⟩=W.frozen? ⟨b,o,none⟩):=
 ⟨fun b o h=>hb.cell (p:=⟨b,o,none⟩) h,fun b o h=>hb.frozen (p:=⟨b,o,none⟩) h⟩
def Nm (w:World):Prop:=0<w.heap.size/\NamesIn w
theorem Nm.on {w w':World}(h:Nm w)(hb:Below w.heap.size w w'):Nm w':=by
 obtain⟨h0,c0,c1,c2,c3⟩:=h;have hs:=hb.size
 refine⟨by omega,?_,?_,?_,?_⟩
 ·rw[hb.cell (p:=⟨0,0,none⟩) h0]; exact c0
 ·rw[hb.cell (p:=⟨0,1,none⟩) h0]; exact c1
 ·rw[hb.cell (p:=⟨0,2,none⟩) h0]; exact c2
 rw[hb.cell (p:=⟨0,3,none⟩) h0]; exact c3
def parseL (p:List UInt8):(Int × Int × Int × Int) × Int:=
 match Pp.splitL p with
 | none=>((0,0,0,0),1)
 | some (n,z,x,y)=>
  if Pp.keyErr (Pp.layerL n) (Pp.valL z) (Pp.valL x) (Pp.valL y)=0 then ((Pp.layerL n,(Pp.valL z:Int),(Pp.valL x:Int),(Pp.valL y:Int)),0)
  else ((0,0,0,0),Pp.keyErr (Pp.layerL n) (Pp.valL z) (Pp.valL x) (Pp.valL y))
theorem cQ (p:List UInt8)(h:Pp.splitL p=none):parseL p=((0,0,0,0),1):=by unfold parseL; rw[h]
theorem fW (p n z x y:List UInt8)(h:Pp.splitL p=some (n,z,x,y))(he:Pp.keyErr (Pp.layerL n) (Pp.valL z) (Pp.valL x) (Pp.valL y)=0):
  parseL p=((Pp.layerL n,(Pp.valL z:Int),(Pp.valL x:Int),(Pp.valL y:Int)),0):=by unfold parseL; rw[h]; simp only; rw[if_pos he]
theorem eh (p n z x y:List UInt8)(h:Pp.splitL p=some (n,z,x,y))(he:¬Pp.keyErr (Pp.layerL n) (Pp.valL z) (Pp.valL x) (Pp.valL y)=0):
  parseL p=((0,0,0,0),Pp.keyErr (Pp.layerL n) (Pp.valL z) (Pp.valL x) (Pp.valL y)):=by unfold parseL; rw[h]; simp only; rw[if_neg he]
theorem split_nums (p n z x y:List UInt8)(h:Pp.splitL p=some (n,z,x,y)):Pp.nameB n=true/\Pp.numB z=true/\Pp.numB x=true/\Pp.numB y=true:=
 ((Pp.splitL_iff p (n,z,x,y)).1 h).2
theorem layer_cap (n:List UInt8):-1<=Pp.layerL n/\Pp.layerL n<=3:=by
 unfold Pp.layerL
 split
 ·omega
 split
 ·omega
 split
 ·omega
 split<;>omega
theorem parse_any (s:ByteArray)(w:World)(hs:s.size<=maxLen)(hN:Nm w):
  Calls prog 80 #[s] w fun e w'=>(∃l z x y er:Int,parseL s.data.toList=((l,z,x,y),er)/\e=.returned (.tuple #[.agg #[l,z,x,y],er]))/\Below w.heap.size w w':=by
 have HN:=ae hN;clear hN;go_enter func80,ntmps80
 go_wp2_with fail
 refine(split_any s _ hs).mono ?_;rintro e w1 ⟨⟨hn,rfl⟩|⟨N,Z,X,Y,hsp,rfl⟩,hb⟩
 ·have hP:=ae (cQ _ hn)
  clear hn;obtain⟨hc,hf⟩:=mw hb
  have hz:w.heap.size<w1.heap.size:=by have:=hb.size; simp at this; omega
  have HB:=ae hb;clear hb
  have hBw:Below w.heap.size w w1:=(bu.alloc aD _).trans ((aa HB).mono (by simp))
  have HBw:=ae hBw;clear hBw
  go_wp2_with fail
  refine bodyPost_ret (v:=.tuple #[.agg #[(),(),(),()],(1:Int)]) (by simp[results,results80,go_sem,hz,hc]) rfl ⟨⟨0,0,0,0,1,aa hP,rfl⟩,?_⟩
  exact(((((aa HBw).setCell aD _).setCell aD _).setCell aD _).setCell aD _).alloc (by simp; omega) _
 have HSP:=ae hsp;obtain⟨n1,n2,n3,n4⟩:=split_nums _ _ _ _ _ hsp;have hok:=ae (fW _ _ _ _ _ hsp);have herr:=ae (eh _ _ _ _ _ hsp);clear hsp;have hlc:=layer_cap N.data.toList;have z9:=(Pp.numB_len _ n2).2;have x9:=(Pp.numB_len _ n3).2;have y9:=(Pp.numB_len _ n4).2;rw[bw] at z9 x9 y9;have hZ:=ae (Pp.numB_within _ n2);have hX:=ae (Pp.numB_within _ n3);have hY:=ae (Pp.numB_within _ n4);have cZ:=dU Z 9 z9 (aa hZ);have cX:=dU X 9 x9 (aa hX);have cY:=dU Y 9 y9 (aa hY)
 rw[List.take_of_length_le (by simp; omega)] at cZ cX cY
 clear n1 n2 n3 n4;obtain⟨hc,hf⟩:=mw hb
 have hz:w.heap.size<w1.heap.size:=by have:=hb.size; simp at this; omega
 have hBw:Below w.heap.size w w1:=(bu.alloc aD _).trans (hb.mono (by simp))
 have hNm:Nm w1:=(aa HN).on hBw;have hNm2:∀o1 o2,Hid (NamesIn ((w1.alloc o1).alloc o2)):=fun o1 o2=>((hNm.on (bu.alloc aD o1)).on (bu.alloc aD o2)).2;have HBw:=ae hBw;clear hBw hb hNm
 go_wp2_with fail
 refine(layerOf_any N _ (aa (hNm2 _ _))).mono ?_;rintro e w2 ⟨rfl,rfl⟩;clear hNm2;obtain⟨L,hL⟩:∃L,Pp.layerL N.data.toList=L:=⟨_,rfl⟩;obtain⟨vz,hvz⟩:∃v,Pp.valL Z.data.toList=v:=⟨_,rfl⟩;obtain⟨vx,hvx⟩:∃v,Pp.valL X.data.toList=v:=⟨_,rfl⟩;obtain⟨vy,hvy⟩:∃v,Pp.valL Y.data.toList=v:=⟨_,rfl⟩;rw[hL] at hok herr hlc ⊢;rw[hvz] at hok herr cZ;rw[hvx] at hok herr cX;rw[hvy] at hok herr cY;have HVZ:=ae hvz;have HVX:=ae hvx;have HVY:=ae hvy;clear hL hvz hvx hvy
 go_wp2_with fail
 refine(kg Z _ z9 (aa hZ)).mono ?_;rintro e w2 ⟨rfl,rfl⟩;rw[aa HVZ]
 go_wp2_with fail
 refine(kg X _ x9 (aa hX)).mono ?_;rintro e w2 ⟨rfl,rfl⟩;rw[aa HVX]
 go_wp2_with fail
 refine(kg Y _ y9 (aa hY)).mono ?_;rintro e w2 ⟨rfl,rfl⟩;rw[aa HVY];clear HVZ HVX HVY hZ hX hY HSP
 go_wp2_with fail
 refine(bV L vz vx vy _).mono ?_;rintro e w2 ⟨rfl,hb2⟩;generalize Pp.keyErr L vz vx vy=E at hok herr;obtain⟨hc2,hf2⟩:=mw hb2
 have hz2:w1.heap.size+1<w2.heap.size:=by have:=hb2.size; simp at this; omega
 have hz3:w.heap.size<w1.heap.size+1+1:=by omega
 have hz4:w.heap.size<w1.heap.size+1:=by omega
 have hB2:Below w.heap.size w w2:=(((aa HBw).alloc (by omega) _).alloc (by simp; omega) _).trans (hb2.mono (by simp; omega))
 have HB2:=ae hB2;clear hb2 hB2 HBw
 by_cases hE:E=0
 ·have hP:=ae (aa hok hE)
  subst hE;clear hok herr
  go_wp2_with fail
  refine bodyPost_ret (v:=.tuple #[.agg #[L,vz,vx,vy],()]) (by simp[results,results80,go_sem,hz,hz3,hz4,hc,hc2]) rfl ⟨⟨L,vz,vx,vy,0,aa hP,rfl⟩,?_⟩
  exact((((aa HB2).setCell aD _).setCell aD _).setCell aD _).setCell aD _
 have hP:=ae (aa herr hE)
 have hbe:(E != 0)=true:=by rw[bne_iff_ne]; exact hE
 clear hok herr hE
 go_wp2_with fail
 refine bodyPost_ret (v:=.tuple #[.agg #[(),(),(),()],E]) (by simp[results,results80,go_sem,hz,hz3,hz4,hc,hc2]) rfl ⟨⟨0,0,0,0,E,aa hP,rfl⟩,?_⟩
 exact((((aa HB2).setCell aD _).setCell aD _).setCell aD _).setCell aD _
end Go.Proofs.YtpabpniaekldeaaGreatDoor.Dw
