import Derived.Test.YtpabpniaekldeaaGreatDoorRows
import Derived.WalkKit
import Derived.Deep.MidRow
import Derived.WalkSmall
import Derived.Laws.AppendOwn
import Derived.WalkSpells
import Derived.WalkLawsBesides
import Derived.Deep.QuietTactic
import Derived.BigQuiet
import Derived.Deep.DeepCutAuto
import Derived.Laws.StructEq
import Derived.Laws.BytesArg
import Derived.Laws.IdiomStrings
set_option maxHeartbeats 25600000
set_option maxRecDepth 20000
open Go.RowKit Go.Proofs.Tryz
namespace Go.Proofs.YtpabpniaekldeaaGreatDoor
instance (n:Nat):CoeDep (Option Nat) (some n) Value:=⟨.pointer (some ⟨n,0,none⟩)⟩
theorem zQ:type_of% @List.getElem?_eq_getElem:=@List.getElem?_eq_getElem
theorem zX:type_of% @List.getElem?_eq_some_iff:=@List.getElem?_eq_some_iff
theorem zZ:type_of% @heap_alloc_new:=@heap_alloc_new
theorem zJ:type_of% @if_pos:=@if_pos
theorem zK:type_of% @if_neg:=@if_neg
theorem zV:type_of% @Below.refl:=@Below.refl
theorem zW:type_of% @Below.heap_setCell:=@Below.heap_setCell
theorem zY:type_of% @List.length_map:=@List.length_map
theorem zG:type_of% @decide_eq_false:=@decide_eq_false
theorem zU:type_of% @decide_eq_true:=@decide_eq_true
theorem zH:type_of% @List.length_append:=@List.length_append
theorem zN:type_of% @decide_eq_true_eq:=@decide_eq_true_eq
theorem zM:type_of% @Array.getElem?_eq_some_iff:=@Array.getElem?_eq_some_iff
theorem zB:type_of% @List.mem_iff_getElem?:=@List.mem_iff_getElem?
theorem zD:type_of% @List.length_take:=@List.length_take
theorem zP:type_of% @World.cell?_of_block:=@World.cell?_of_block
theorem zR:type_of% @List.mem_of_getElem?:=@List.mem_of_getElem?
theorem zS:type_of% @List.length_cons:=@List.length_cons
theorem zT:type_of% @List.length_singleton:=@List.length_singleton
theorem zL:type_of% @bodyPost_ret:=@bodyPost_ret
theorem zE:type_of% @Below.drew:=@Below.drew
theorem zA:type_of% @List.map_cons:=@List.map_cons
theorem zC:type_of% @Nat.lt_of_lt_of_le:=@Nat.lt_of_lt_of_le
theorem zF:type_of% @Nat.le_trans:=@Nat.le_trans
theorem zI:type_of% @List.length_replicate:=@List.length_replicate
theorem z1:type_of% @List.take_of_length_le:=@List.take_of_length_le
theorem z6:type_of% @IntWalk.wrap64_in:=@IntWalk.wrap64_in
theorem z7:type_of% @List.mem_singleton:=@List.mem_singleton
theorem z8:type_of% @wp_region_held:=@wp_region_held
theorem zq:type_of% @wpQuiet_nil:=@wpQuiet_nil
theorem zx:type_of% @List.take_length:=@List.take_length
theorem zz:type_of% @Nat.le_refl:=@Nat.le_refl
theorem zj:type_of% @Array.length_toList:=@Array.length_toList
theorem zk:type_of% @Array.getElem?_modify:=@Array.getElem?_modify
theorem zv:type_of% @List.mem_cons:=@List.mem_cons
theorem zw:type_of% @rounds_succ:=@rounds_succ
theorem zy:type_of% @Option.some.injEq:=@Option.some.injEq
theorem zg:type_of% @List.getElem?_map:=@List.getElem?_map
theorem zu:type_of% @Option.some.inj:=@Option.some.inj
theorem zh:type_of% @List.mem_append:=@List.mem_append
theorem zn:type_of% @List.length_set:=@List.length_set
theorem zm:type_of% @wpAnyH_done:=@wpAnyH_done
theorem zb:type_of% @Nat.zero_add:=@Nat.zero_add
theorem zd:type_of% @Nat.succ_mul:=@Nat.succ_mul
theorem zp:type_of% @Nat.mul_le_mul_right:=@Nat.mul_le_mul_right
theorem zr:type_of% @heap_alloc_old:=@heap_alloc_old
theorem zs:type_of% @List.getElem?_take_of_lt:=@List.getElem?_take_of_lt
theorem zt:type_of% @List.mem_cons_of_mem:=@List.mem_cons_of_mem
theorem zl:type_of% @Bool.and_eq_true:=@Bool.and_eq_true
theorem ze:type_of% @List.length_filter_le:=@List.length_filter_le
theorem za:type_of% @Option.isSome_iff_exists:=@Option.isSome_iff_exists
theorem zc:type_of% @beq_eq_false_iff_ne:=@beq_eq_false_iff_ne
theorem zi:type_of% @List.all_eq_true:=@List.all_eq_true
theorem yQ:type_of% @List.map_nil:=@List.map_nil
theorem yX:type_of% @setRow_heap:=@setRow_heap
theorem yZ:type_of% @List.getElem?_set:=@List.getElem?_set
theorem yJ:type_of% @List.mem_cons_self:=@List.mem_cons_self
theorem yK:type_of% @Below.heap_alloc:=@Below.heap_alloc
theorem yV:type_of% @List.map_append:=@List.map_append
theorem yW:type_of% @List.append_nil:=@List.append_nil
theorem yY:type_of% @results_none:=@results_none
theorem yG:type_of% @Nat.add_zero:=@Nat.add_zero
theorem yU:type_of% @List.eq_nil_of_length_eq_zero:=@List.eq_nil_of_length_eq_zero
theorem yH:type_of% @List.mem_map:=@List.mem_map
theorem yN:type_of% @List.map_toArray:=@List.map_toArray
theorem yM:type_of% @List.append_assoc:=@List.append_assoc
theorem yB:type_of% @bodyPost_end:=@bodyPost_end
theorem yD:type_of% @List.getElem?_drop:=@List.getElem?_drop
theorem yP:type_of% @Nat.lt_or_ge:=@Nat.lt_or_ge
theorem yR:type_of% @List.getElem?_eq_none:=@List.getElem?_eq_none
theorem yS:type_of% @Array.getElem?_toList:=@Array.getElem?_toList
theorem yT:type_of% @List.not_mem_nil:=@List.not_mem_nil
theorem yL:type_of% @List.mem_range:=@List.mem_range
theorem yE:type_of% @List.mem_map_of_mem:=@List.mem_map_of_mem
theorem yA:type_of% @List.mem_filter:=@List.mem_filter
theorem yC:type_of% @List.filter_cons_of_neg:=@List.filter_cons_of_neg
theorem yF:type_of% @Nat.zero_le:=@Nat.zero_le
theorem yI:type_of% @List.filter_append:=@List.filter_append
theorem y0:type_of% @List.ext_getElem?:=@List.ext_getElem?
theorem y1:type_of% @List.filter_cons_of_pos:=@List.filter_cons_of_pos
theorem y2:type_of% @Int.mul_nonneg:=@Int.mul_nonneg
theorem y3:type_of% @List.getElem?_append_left:=@List.getElem?_append_left
theorem y4:type_of% @Int.toNat_of_nonneg:=@Int.toNat_of_nonneg
theorem y5:type_of% @List.range_succ:=@List.range_succ
theorem y6:type_of% @wpAnyH_all:=@wpAnyH_all
theorem y7:type_of% @World.ownsRow.cellAt:=@World.ownsRow.cellAt
theorem y8:type_of% @List.mem_append_left:=@List.mem_append_left
theorem y9:type_of% @World.ownsRow.lt:=@World.ownsRow.lt
theorem yq:type_of% @Bool.eq_iff_iff:=@Bool.eq_iff_iff
theorem yx:type_of% @List.filter_eq_nil_iff:=@List.filter_eq_nil_iff
theorem yz:type_of% @List.length_drop:=@List.length_drop
theorem yj:type_of% @List.cons_append:=@List.cons_append
theorem yk:type_of% @List.getElem?_append_right:=@List.getElem?_append_right
theorem yv:type_of% @List.flatMap_cons:=@List.flatMap_cons
theorem yw:type_of% @Int.le_refl:=@Int.le_refl
theorem yy:type_of% @List.filter_sublist:=@List.filter_sublist
theorem yg:type_of% @Nat.add_sub_cancel_left:=@Nat.add_sub_cancel_left
theorem yu:type_of% @List.perm_middle:=@List.perm_middle
theorem yh:type_of% @List.Perm.cons:=@List.Perm.cons
theorem yn:type_of% @Nat.le_succ:=@Nat.le_succ
theorem ym:type_of% @World.grownBy.refl:=@World.grownBy.refl
theorem yd:type_of% @List.nodup_cons:=@List.nodup_cons
theorem yp:type_of% @List.nil_append:=@List.nil_append
theorem yr:type_of% @Nat.add_assoc:=@Nat.add_assoc
theorem ys:type_of% @List.take_add_one:=@List.take_add_one
theorem yt:type_of% @List.Sublist.refl:=@List.Sublist.refl
theorem yl:type_of% @List.drop_eq_getElem_cons:=@List.drop_eq_getElem_cons
theorem ye:type_of% @Nat.add_sub_cancel:=@Nat.add_sub_cancel
theorem ya:type_of% @List.pairwise_cons:=@List.pairwise_cons
theorem yc:type_of% @List.getElem?_replicate:=@List.getElem?_replicate
theorem yf:type_of% @List.findIdx?_eq_some_iff_getElem:=@List.findIdx?_eq_some_iff_getElem
theorem yi:type_of% @List.getElem?_set_self:=@List.getElem?_set_self
theorem xQ:type_of% @List.filter_congr:=@List.filter_congr
theorem xX:type_of% @List.drop_of_length_le:=@List.drop_of_length_le
theorem xZ:type_of% @Bool.eq_false_iff:=@Bool.eq_false_iff
theorem xJ:type_of% @Bool.and_false:=@Bool.and_false
theorem xK:type_of% @Array.getElem?_eq_none:=@Array.getElem?_eq_none
theorem xV:type_of% @Array.all_eq_true_iff_forall_mem:=@Array.all_eq_true_iff_forall_mem
theorem xW:type_of% @Nat.div_lt_iff_lt_mul:=@Nat.div_lt_iff_lt_mul
theorem xY:type_of% @List.mem_append_right:=@List.mem_append_right
theorem qZ:(∀(a:Act) (d:Nat) (v:Value),a.put (some d) v={ a with tmps:=a.tmps.setIfInBounds d v })/\(∀(a:Act) (v:Value),a.put none v=a)/\(∀(α:Type) (l:List α) (i:Nat) (a:α),l.toArray.setIfInBounds i a=(l.set i a).toArray)/\(∀(α:Type) (a b:α) (l:List α) (n:Nat),(a::l).set (n+1) b=a::l.set n b)/\(∀(α:Type) (a b:α) (l:List α),(a::l).set 0 b=b::l):=
 ⟨fun _ _ _=>rfl,fun _ _=>rfl,fun _ _ _ _=>List.setIfInBounds_toArray ..,fun _ _ _ _ _=>List.set_cons_succ ..,fun _ _ _ _=>List.set_cons_zero ..⟩
instance : Coe Int Value := ⟨fun x => .int .i64 x⟩
instance : Coe Nat Value := ⟨fun x => .int .i64 x⟩
instance : Coe ByteArray Value := ⟨fun s => .string s⟩
instance : Coe Unit Value := ⟨fun _ => .int .i64 0⟩
instance : Coe Bool Value := ⟨fun b => .bool b⟩
theorem aD {n:Nat}:n<=n:=zz n
theorem bu {n:Nat}{w:World}:Below n w w:=zV n w
structure dR (α:Type) where
 wid:Nat
 enc:α->List Value
 len:∀a,(enc a).length=wid
 one:∀a,∀v∈enc a,v.oneCell'=true
 pos:0<wid
section
variable {α:Type}(R:dR α)
def dR.all (l:List α):List Value:=l.flatMap R.enc
theorem dR.all_nil:R.all []=[]:=rfl
theorem dR.all_cons (a:α)(l:List α):R.all (a::l)=R.enc a++R.all l:=rfl
theorem dR.all_app (l a:List α):R.all (l++a)=R.all l++R.all a:=by simp[dR.all]
theorem dR.all_len:∀l:List α,(R.all l).length=l.length*R.wid
 | []=>by simp[dR.all]
 | a::l=>by rw[dR.all_cons,zH,dR.all_len l,R.len,zS,zd]; omega
theorem dR.all_at:∀(l:List α) (i:Nat) (a:α) (j:Nat),l[i]?=some a->j<R.wid->(R.all l)[i*R.wid+j]?=(R.enc a)[j]?
 | [],i,a,_,h,_=>by simp at h
 | b::l,0,a,j,h,c=>by
  simp only[List.getElem?_cons_zero,zy] at h;subst h
  rw[dR.all_cons,y3 (by rw[R.len]; omega),Nat.zero_mul,zb]
 | b::l,i+1,a,j,h,c=>by
  rw[dR.all_cons,yk (by rw[R.len,zd]; omega),R.len,show(i+1)*R.wid+j-R.wid=i*R.wid+j by rw[zd]; omega]
  exact dR.all_at l i a j (by simpa using h) c
theorem dR.all_one (l:List α):∀v∈R.all l,v.oneCell'=true:=by
 intro v b;simp only[dR.all,List.mem_flatMap] at b;obtain⟨a,_,c⟩:=b;exact R.one a v c
def ah (T:TypeId)(w:World)(v:Value)(l:List α):Prop:=
 (v=.slice none 0 0/\l=[]) \/
 ∃g off cap cur,v=.slice (some ⟨g,off,none⟩) l.length cap/\w.heap[g]?=some (.cells cur T (0,0))/\l.length<=cap/\cap<=maxLen/\off+cap*R.wid<=cur.size/\(cur.toList.drop off).take (l.length*R.wid)=R.all l
def bL (w:World)(v:Value)(l:List α):Prop:=
 ∃oa cap,v=.slice oa l.length cap/\l.length<=cap/\l.length<=maxLen/\(0<l.length->∃b off,oa=some ⟨b,off,none⟩/\b<w.heap.size/\∀i a,l[i]?=some a->w.rangeAt b (off+i*R.wid) (R.enc a))
end
section
variable {α:Type}{R:dR α}{T:TypeId}{w w':World}{v:Value}{l:List α}
theorem aU:ah R T w (.slice none 0 0) []:=Or.inl ⟨rfl,rfl⟩
theorem ah.same (h:ah R T w v l)(c:∀g,v.ownBlock=some g->w'.heap[g]?=w.heap[g]?):ah R T w' v l:=by
 rcases h with h|⟨g,off,cap,b,a,d,e⟩
 ·exact Or.inl h
 exact Or.inr ⟨g,off,cap,b,a,(c g (by rw[a]; rfl)).trans d,e⟩
theorem ah.lt (h:ah R T w v l){g:Nat}(a:v.ownBlock=some g):g<w.heap.size:=by
 rcases h with⟨rfl,_⟩|⟨d,off,cap,c,rfl,b,e⟩
 ·simp[Value.ownBlock] at a
 simp only[Value.ownBlock,zy] at a;subst a;exact(zM.1 b).1
theorem ah.on (h:ah R T w v l)(a:Below w.heap.size w w'):ah R T w' v l:=h.same fun g b=>a.block g (h.lt b)
theorem ah.ty (h:ah R T w v l){g:Nat}(b:v.ownBlock=some g):∃a,w.heap[g]?=some (.cells a T (0,0)):=by
 rcases h with⟨rfl,_⟩|⟨d,off,cap,a,rfl,c,e⟩
 ·simp[Value.ownBlock] at b
 simp only[Value.ownBlock,zy] at b
 subst b; exact⟨a,c⟩
theorem ah.cellAt {g off n cap:Nat}(h:ah R T w (.slice (some ⟨g,off,none⟩) n cap) l)(k:Nat)(f:k<l.length*R.wid):w.cell? ⟨g,off+k,none⟩=(R.all l)[k]?:=by
 rcases h with⟨e,_⟩|⟨m,j,i,a,e,d,b,o,p,c⟩
 ·cases e
 cases e
 have q:off+k<a.size:=by
  have:=zp R.wid b;omega
 have:w.cell? ⟨g,off+k,none⟩=a[off+k]?:=by simp[World.cell?,d]
 rw[this,<-c,zs f,yD,yS]
theorem ah.len_le (h:ah R T w v l):l.length<=maxLen:=by
 rcases h with⟨_,rfl⟩|⟨d,b,a,c,e,k,f,g,i,j⟩
 ·exact yF _
 omega
theorem ah.at (h:ah R T w v l):bL R w v l:=by
 have e:=h
 rcases h with⟨rfl,rfl⟩|⟨g,off,cap,n,rfl,k,f,o,p,q⟩
 ·exact⟨none,0,rfl,yF _,yF _,fun h=>absurd h (by simp)⟩
 refine⟨_,cap,rfl,f,by omega,fun _=>⟨g,off,rfl,(zM.1 k).1,fun i a hi j x b=>?_⟩⟩
 have m:j<R.wid:=by rw[<-R.len a]; exact(zX.1 b).1
 have c:i<l.length:=(zX.1 hi).1
 have d:i*R.wid+j<l.length*R.wid:=by
  have:(i+1)*R.wid<=l.length*R.wid:=zp _ c;rw[zd] at this;omega
 rw[yr,e.cellAt _ d,R.all_at l i a j hi m,b]
theorem bL.on (h:bL R w v l)(d:Below w.heap.size w w'):bL R w' v l:=by
 obtain⟨r,cap,e,g,k,m⟩:=h;refine⟨r,cap,e,g,k,fun o=>?_⟩;obtain⟨b,off,f,c,n⟩:=m o;exact⟨b,off,f,zC c d.size,fun i a hi j x q=>(d.cell (p:=⟨b,off+i*R.wid+j,none⟩) c).trans (n i a hi j x q)⟩
theorem cr (w:World)(l:List α)(cs:Array Value)(a:cs.toList=R.all l)(b:l.length<=maxLen):ah R T (w.alloc (.cells cs T)) (.slice (some ⟨w.heap.size,0,none⟩) l.length l.length) l:=by
 refine Or.inr ⟨w.heap.size,0,l.length,cs,rfl,zZ w _,zz _,b,?_,?_⟩
 ·rw[<-zj,a,R.all_len]; omega
 rw[a,List.drop_zero,<-R.all_len l,zx]
theorem ah.tail {g off cap:Nat}{a:α}(h:ah R T w (.slice (some ⟨g,off,none⟩) (a::l).length cap) (a::l)):ah R T w (.slice (some ⟨g,off+R.wid,none⟩) l.length (cap-1)) l:=by
 rcases h with⟨e,_⟩|⟨n,m,k,b,e,j,d,o,f,i⟩
 ·cases e
 cases e;simp only[zS] at d
 refine Or.inr ⟨g,off+R.wid,cap-1,b,rfl,j,by omega,by omega,?_,?_⟩
 ·obtain⟨c,rfl⟩:∃c,cap=c+1:=⟨cap-1,by omega⟩
  rw[zd] at f
  rw[ye]; omega
 have:=congrArg (List.drop R.wid) i;rw[R.all_cons,List.drop_left' (R.len a),List.drop_take,List.drop_drop,zS,zd,ye] at this;exact this
theorem ah.tail0 {g off:Nat}{a:α}(h:ah R T w (.slice (some ⟨g,off,none⟩) (a::l).length 1) (a::l)):l=[]/\ah R T w (.slice (some ⟨g,off,none⟩) 0 0) []:=by
 rcases h with⟨e,_⟩|⟨j,i,f,b,e,d,c,k,m,n⟩
 ·cases e
 cases e;simp only[zS] at c
 exact⟨yU (by omega),Or.inr ⟨g,off,0,b,rfl,d,zz _,yF _,by omega,by simp[dR.all]⟩⟩
theorem ah.set1 {g off n cap:Nat}(h:ah R T w (.slice (some ⟨g,off,none⟩) n cap) l)(j:R.wid=1)(i:Nat)(hi:i<l.length)(a:α)(x:Value)(r:R.enc a=[x]):
  ah R T (w.setCell ⟨g,off+i,none⟩ x) (.slice (some ⟨g,off,none⟩) n cap) (l.set i a):=by
 rcases h with⟨e,_⟩|⟨z,u,t,c,e,q,k,m,o,p⟩
 ·cases e
 cases e
 have f:(w.setCell ⟨g,off+i,none⟩ x).heap[g]?=some (.cells (c.setIfInBounds (off+i) x) T (0,0)):=by
  simp[World.setCell,zk,q]
 have d:∀(l:List α) (i:Nat),i<l.length->R.all (l.set i a)=(R.all l).set i x:=by
  intro l
  induction l with
  | nil=>intro i hi; simp at hi
  | cons b l s=>
   intro i hi
   obtain⟨y,hy⟩:∃y,R.enc b=[y]:=by
    have:=R.len b;rw[j] at this;exact List.length_eq_one_iff.1 this
   cases i with
   | zero=>rw[List.set_cons_zero,R.all_cons,R.all_cons,r,hy]; rfl
   | succ i=>rw[List.set_cons_succ,R.all_cons,R.all_cons,hy,s i (by simpa using hi)]; rfl
 refine Or.inr ⟨g,off,cap,c.setIfInBounds (off+i) x,by rw[zn],f,by rw[zn]; exact k,m,by rw[Array.size_setIfInBounds]; exact o,?_⟩
 rw[zn,d l i hi,<-p,Array.toList_setIfInBounds,List.drop_set,zK (by omega),yg,List.take_set]
theorem bL.one_of (a:α){b off c:Nat}(e:1<=c)(d:b<w.heap.size)(f:w.rangeAt b off (R.enc a)):bL R w (.slice (some ⟨b,off,none⟩) 1 c) [a]:=
 ⟨_,c,rfl,e,by simp[maxLen],fun _=>⟨b,off,rfl,d,fun i x hi=>by
  cases i with
  | zero=>simp at hi; subst hi; simpa using f
  | succ i=>simp at hi⟩⟩
theorem bL.cells {b off c:Nat}(h:bL R w (.slice (some ⟨b,off,none⟩) l.length c) l):∀j u,(R.all l)[j]?=some u->w.cell? ((⟨b,off,none⟩:Addr).add j)=some u:=by
 intro j u a;obtain⟨t,cap,e,r,s,i⟩:=h
 have d:j<l.length*R.wid:=by rw[<-R.all_len]; exact(zX.1 a).1
 have f:=R.pos
 have m:0<l.length:=Nat.pos_of_ne_zero fun h=>by rw[h] at d; omega
 obtain⟨q,p,g,_,k⟩:=i m;cases e;cases g;have n:j / R.wid<l.length:=(xW f).2 d;have o:j%R.wid<R.wid:=Nat.mod_lt _ f;have e:j / R.wid*R.wid+j%R.wid=j:=Nat.div_add_mod' j R.wid;have hi:l[j / R.wid]?=some l[j / R.wid]:=zQ n;rw[Addr.add_mid,<-e,<-yr];rw[<-e,R.all_at l _ _ _ hi o] at a;exact k _ _ hi _ _ a
theorem ah.append {P:Program}(t G:TypeId)(i:TypeInfo)(z:Value)(H:Nat)(p:P.underlying t=some (.slice T))(hi:P.info? T=some i)(S:i.zero=some z)(h:i.size=R.wid)(K:i.bytes=H)(af:z.cells.size=R.wid)
  (A:ah R T w v l) (a:List α) (x:Value) (Q:bL R w x a) (J:l.length+a.length<=maxLen) (O:(l.length+a.length)*H<=140737488355328) :
  ∃r w',(Builtin.append_ #[t,t] G #[v,x]).run P w=.ok r w'/\ah R T w' r (l++a)/\w.grownBy w' v.ownBlock/\(r.ownBlock=v.ownBlock\/∀g,r.ownBlock=some g->w.heap.size<=g):=by
 have an:=R.pos
 have V:l.length+a.length<=9223372036854775807:=by simp only[maxLen] at J; omega
 have ad:=Q;obtain⟨U,c,rfl,al,hm,n⟩:=Q
 by_cases ai:a.length=0
 ·obtain rfl:a=[]:=yU ai
  refine⟨v,w,?_,by simpa using A,⟨rfl,rfl,rfl,zz _,fun _ _ _=>rfl⟩,Or.inl rfl⟩
  rcases A with⟨rfl,rfl⟩|⟨g,off,cap,d,rfl,q,B,C,N,D⟩
  ·cases U<;>simp[Builtin.append_,run_underlying p,sizeOf,typeInfo,hi,Builtin.lenOf,Builtin.firstCells,loadCells,loadCellsFrom]
  cases U<;>simp[Builtin.append_,run_underlying p,sizeOf,typeInfo,hi,Builtin.lenOf,Builtin.firstCells,loadCells,loadCellsFrom,B,storeCells]
 obtain⟨b,o,rfl,aj,_⟩:=n (by omega)
 have s:=ad.cells
 have I:∀(f:Nat),f<l.length+a.length->∀(M:Option Nat),
   ah R T (w.drew.alloc (.cells ((R.all l).toArray++(R.all a).toArray++Builtin.zeroCells z.cells (grownCap w (l.length+a.length) f T-(l.length+a.length))) T))
    (.slice (some ⟨w.heap.size,0,none⟩) (l.length+a.length) (grownCap w (l.length+a.length) f T)) (l++a) /\
   w.grownBy (w.drew.alloc (.cells ((R.all l).toArray++(R.all a).toArray++Builtin.zeroCells z.cells (grownCap w (l.length+a.length) f T-(l.length+a.length))) T)) M:=by
  intro f am M;have ab:=grownCap_ge w (l.length+a.length) f T;have Z:grownCap w (l.length+a.length) f T<=maxLen:=grownCap_le_maxLen w (l.length+a.length) f T J
  refine⟨Or.inr ⟨w.heap.size,0,_,_,by rw[zH],zZ w.drew _,by rw[zH]; exact ab,Z,?_,?_⟩,⟨rfl,rfl,rfl,by simp,fun k F _=>zr w.drew _ F⟩⟩
  ·simp only[Array.size_append,List.size_toArray,size_zeroCells,af,R.all_len,<-Nat.add_mul]
   rw[zb]
   exact zp _ (by omega)
  rw[List.drop_zero,Array.toList_append,Array.toList_append,R.all_app,zH]
  rw[show(l.length+a.length)*R.wid=(R.all l++R.all a).length by rw[zH,R.all_len,R.all_len,Nat.add_mul]]
  exact List.take_left
 rcases A with⟨rfl,rfl⟩|⟨g,off,cap,d,rfl,q,B,C,N,D⟩
 ·have n:=run_append_nil (P:=P) w t G T i z p hi S ⟨b,o,none⟩ a.length c (R.all a) (by rw[R.all_len,h]) s (by omega) (by simp at V; omega) (by rw[K]; simp at O; omega)
  have m:=I 0 (by omega) (Value.ownBlock (.slice none 0 0))
  simp only[List.length_nil,zb,dR.all_nil,yp,Array.empty_append] at m ⊢
  exact⟨_,_,n,m.1,m.2,Or.inr fun g E=>by simp[Value.ownBlock] at E; omega⟩
 by_cases y:l.length+a.length<=cap
 ·have Y:off+l.length*R.wid+(R.all a).length<=d.size:=by
   have:=zp R.wid y;rw[Nat.add_mul] at this;rw[R.all_len];omega
  have ag:=run_firstCells_some (P:=P) w i.size a.length ⟨b,o,none⟩ a.length c (R.all a) (by rw[R.all_len,h]) s
  have L:=run_storeCells_at P g (off+l.length*R.wid) T (R.all a) 0 d w q (by simpa using Y) (R.all_one a)
  simp only[yG] at L
  refine⟨.slice (some ⟨g,off,none⟩) (l.length+a.length) cap,w.setRow g (d.toList.take (off+l.length*R.wid)++R.all a++d.toList.drop (off+l.length*R.wid+(R.all a).length)).toArray,?_,Or.inr ⟨g,off,cap,_,by rw[zH],yX w g d _ T _ q,by rw[zH]; exact y,C,?_,?_⟩,⟨rfl,rfl,rfl,?_,fun k _ F=>setRow_other w g k _ (fun e=>F (by simp[Value.ownBlock,e]))⟩,Or.inl rfl⟩
  ·simp[Builtin.append_,run_underlying p,sizeOf,typeInfo,hi,Builtin.lenOf,y,Addr.add_mid,h▸ag,h,L]
  ·simp only[List.size_toArray,zH,zD,yz,zj]
   omega
  ·have X:(d.toList.take (off+l.length*R.wid)).drop off=R.all l:=by
    rw[List.drop_take,yg]; exact D
   have ac:off<=(d.toList.take (off+l.length*R.wid)).length:=by
    have:off<=d.size:=by omega
    rw[zD,zj]; exact Nat.le_min.2 ⟨Nat.le_add_right _ _,this⟩
   rw[yM,List.drop_append_of_le_length ac,X,<-yM,R.all_app,zH,show(l.length+a.length)*R.wid=(R.all l++R.all a).length by rw[zH,R.all_len,R.all_len,Nat.add_mul]]
   exact List.take_left
  simp[World.setRow]
 have W:∀j u,(R.all l)[j]?=some u->w.cell? ((⟨g,off,none⟩:Addr).add j)=some u:=bL.cells (ah.at (Or.inr ⟨g,off,cap,d,rfl,q,B,C,N,D⟩))
 have n:=run_append_grow (P:=P) w t G T i z p hi S ⟨g,off,none⟩ l.length cap (R.all l) (by rw[R.all_len,h]) W ⟨b,o,none⟩ a.length c (R.all a) (by rw[R.all_len,h]) s (by omega) (by omega) (by rw[K]; exact growslice_fits (by omega) O)
 have m:=I cap (by omega) (Value.ownBlock (.slice (some ⟨g,off,none⟩) l.length cap))
 exact⟨_,_,n,m.1,m.2,Or.inr fun ak E=>by simp[Value.ownBlock] at E; omega⟩
end
structure K4 where
 l:Int
 z:Int
 x:Int
 y:Int
deriving DecidableEq
def K4.a (k:K4):Array Value:=#[k.l,k.z,k.x,k.y]
def bT:dR K4:=⟨4,fun k=>k.a.toList,fun _=>rfl,fun k v hv=>by simp[K4.a] at hv; rcases hv with rfl|rfl|rfl|rfl<;>rfl,by decide⟩
structure dJ where
 who:Int
 k:K4
 asked:Int
 due:Int
def dJ.a (r:dJ):Array Value:=#[r.who,r.k.l,r.k.z,r.k.x,r.k.y,r.asked,r.due]
def cW:dR dJ:=⟨7,fun r=>r.a.toList,fun _=>rfl,fun k v hv=>by simp[dJ.a] at hv; rcases hv with rfl|rfl|rfl|rfl|rfl|rfl|rfl<;>rfl,by decide⟩
structure aL where
 k:K4
 body:ByteArray
 tag:ByteArray
def aL.a (t:aL):Array Value:=#[t.k.l,t.k.z,t.k.x,t.k.y,t.body,t.tag]
def aW:dR aL:=⟨6,fun r=>r.a.toList,fun _=>rfl,fun k v hv=>by simp[aL.a] at hv; rcases hv with rfl|rfl|rfl|rfl|rfl|rfl<;>rfl,by decide⟩
structure gD where
 who:Int
 st:Int
 body:ByteArray
 tag:ByteArray
def gD.a (t:gD):Array Value:=#[t.who,t.st,t.body,t.tag]
def bE:dR gD:=⟨4,fun r=>r.a.toList,fun _=>rfl,fun k v hv=>by simp[gD.a] at hv; rcases hv with rfl|rfl|rfl|rfl<;>rfl,by decide⟩
structure f9 where
 k:K4
 worker:Int
 reads:Int
 left:Int
 waiting:Int
def f9.a (t:f9):Array Value:=#[t.k.l,t.k.z,t.k.x,t.k.y,t.worker,t.reads,t.left,t.waiting]
def bC:dR f9:=⟨8,fun r=>r.a.toList,fun _=>rfl,fun k v hv=>by simp[f9.a] at hv; rcases hv with rfl|rfl|rfl|rfl|rfl|rfl|rfl|rfl<;>rfl,by decide⟩
def ptr (o:Option Nat):Value:=.pointer (o.map fun b=>⟨b,0,none⟩)
def fK:dR (Option Nat):=⟨1,fun o=>[ptr o],fun _=>rfl,fun o v hv=>by simp at hv; subst hv; rfl,by decide⟩
structure cA where
 at_:Option Addr
 n:Nat
 cap:Nat
def cA.v (s:cA):Value:=.slice s.at_ s.n s.cap
def cq:dR cA:=⟨1,fun s=>[s.v],fun _=>rfl,fun o v hv=>by simp at hv; subst hv; rfl,by decide⟩
abbrev Ft:=Nat->Int
structure Ora where
 stamp:List Ft->Int->K4->Int
 body:List Ft->K4->ByteArray
 tag:K4->Int->ByteArray
structure Fl where
 b:K4
 reads:Nat
 left:Nat
 got:Nat
structure FM where
 queue:Nat
 wait:Nat
 chunk:Nat
 room:Nat
 now:Nat
 arrived:Nat
 started:Nat
 ver:Nat
 LS:List Ft
 FLs:Nat->List Ft
 PI:List Int
 waiting:List dJ
 line:List K4
 wks:List (Option Fl)
 tiles:List aL
def K4.blk (k:K4):K4:=⟨k.l,k.z,k.x-k.x%2,k.y-k.y%2⟩
def K4.keys (b:K4):List K4:=if b.z=0 then [b] else [b,⟨b.l,b.z,b.x+1,b.y⟩,⟨b.l,b.z,b.x,b.y+1⟩,⟨b.l,b.z,b.x+1,b.y+1⟩]
def cS (ts:List aL)(k:K4):Option aL:=ts.find? fun t=>decide (t.k=k)
def bm (ts:List aL)(k:K4):List aL:=ts.filter fun t=>decide (t.k≠k)
def aA:List aL->Nat
 | []=>0
 | t::ts=>t.body.size+aA ts
theorem eL (ts:List aL)(k:K4):(bm ts k).length<=ts.length:=ze _ _
def evict (room n:Nat):List aL->List aL
 | []=>[]
 | t::ts=>if room<aA (t::ts)+n then evict room n (bm ts t.k) else t::ts
termination_by ts=>ts.length
decreasing_by have:=eL ts t.k; simp only[List.length_cons]; omega
def eT (room:Nat)(ts:List aL)(t:aL):List aL:=if room<t.body.size then ts else evict room t.body.size (bm ts t.k)++[t]
def aC (ws:List dJ)(b:K4):Nat:=ws.countP fun r=>decide (r.k.blk=b)
def bB (n chunk:Nat):Nat:=if n=0 then 1 else (n+chunk-1) / chunk
section
variable (O:Ora)
def FM.stamp (F:FM)(v:Int)(k:K4):Int:=O.stamp F.LS v k
def FM.same (F:FM)(k:K4)(reads:Int):Bool:=decide (F.stamp O F.ver k<=reads)
def FM.tileOf (F:FM)(reads:Nat)(k:K4):aL:=⟨k,O.body (F.FLs reads) k,O.tag k (F.stamp O reads k)⟩
def FM.tilesOf (F:FM)(fl:Fl):List aL:=fl.b.keys.map (F.tileOf O fl.reads)
def FM.good (F:FM)(ts:List aL)(reads:Int)(r:dJ):Option aL:=
 match cS ts r.k with
 | some t=>if decide (r.asked<=reads) || F.same O r.k reads then some t else none
 | none=>none
def FM.fineR (F:FM)(ts:List aL)(reads:Int):List gD:=F.waiting.filterMap fun r=>(F.good O ts reads r).map fun t=>⟨r.who,200,t.body,t.tag⟩
def FM.fineL (F:FM)(ts:List aL)(reads:Int):List dJ:=F.waiting.filter fun r=>(F.good O ts reads r).isNone
def FM.layU (F:FM)(reads:Int)(cs:List aL)(ts:List aL):List aL:=ts.foldl (fun c t=>if F.same O t.k reads then eT F.room c t else c) cs
def FM.hasFl (F:FM)(b:K4):Bool:=F.line.any (fun k=>decide (k=b)) || F.wks.any fun o=>match o with
 | some fl=>decide (fl.b=b)
 | none=>false
def FM.join (F:FM)(who:Int)(k:K4):FM:={ F with waiting:=F.waiting++[⟨who,k,F.ver,F.now+F.wait⟩],line:=if F.hasFl k.blk then F.line else F.line++[k.blk] }
def FM.arriveK (F:FM)(k:K4)(tag:ByteArray):FM × List gD:=
 let F1:={ F with arrived:=F.arrived+1 }
 let pt:=O.tag k (F.stamp O F.ver k)
 if tag=pt then (F1,[⟨F.arrived,304,⟨#[]⟩,pt⟩])
 else match cS F.tiles k with
  | some t=>({ F1 with tiles:=bm F.tiles t.k++[t] },[⟨F.arrived,200,t.body,t.tag⟩])
  | none=>if F.queue<=F.waiting.length then (F1,[⟨F.arrived,503,⟨#[]⟩,⟨#[]⟩⟩]) else (F1.join F.arrived k,[])
def FM.arriveE (F:FM)(e:Int):FM × List gD:=({ F with arrived:=F.arrived+1 },[⟨F.arrived,if e=1 then 400 else 404,⟨#[]⟩,⟨#[]⟩⟩])
def FM.takeW (F:FM)(i:Nat):FM:=
 match F.line with
 | []=>F
 | b::rest=>{ F with line:=rest,started:=F.started+1,PI:=F.PI++[(F.ver:Int)],wks:=F.wks.set i (some ⟨b,F.ver,bB (F.FLs F.ver).length F.chunk,0⟩) }
def FM.finishW (F:FM)(i:Nat)(fl:Fl):FM × List gD:=
 let ts:=F.tilesOf O fl
 let left:=F.fineL O ts fl.reads
 ({ F with wks:=F.wks.set i none,PI:=F.PI.erase fl.reads,waiting:=left,tiles:=F.layU O fl.reads F.tiles ts,line:=if 0<aC left fl.b then F.line++[fl.b] else F.line },F.fineR O ts fl.reads)
def Fl.step (fl:Fl)(n chunk:Nat):Fl:={ fl with left:=fl.left-1,got:=min (fl.got+chunk) n }
def FM.work (F:FM)(i:Nat):FM × List gD:=
 match F.wks[i]? with
 | none=>(F,[])
 | some none=>(F.takeW i,[])
 | some (some fl)=>if 1<fl.left then ({ F with wks:=F.wks.set i (some (fl.step (F.FLs fl.reads).length F.chunk)) },[]) else F.finishW O i fl
def FM.tick (F:FM):FM × List gD:=
 let now:=F.now+1
 let left:=F.waiting.filter fun r=>decide (¬r.due<=(now:Int))
 ({ F with now:=now,waiting:=left,line:=F.line.filter fun b=>decide (0<aC left b) },(F.waiting.filter fun r=>decide (r.due<=(now:Int))).map fun r=>⟨r.who,504,⟨#[]⟩,⟨#[]⟩⟩)
def FM.write (F:FM)(LS':List Ft)(FL':List Ft):FM:=
 let F1:={ F with ver:=F.ver+1,LS:=LS',FLs:=fun v=>if v=F.ver+1 then FL' else F.FLs v }
 { F1 with tiles:=F.tiles.filter fun t=>F1.same O t.k F.ver }
def FM.busy (F:FM):Nat:=F.wks.countP (·.isSome)
def FM.told (F:FM):List f9:=
 (F.wks.zipIdx.filterMap fun(o,i)=>o.map fun fl=>⟨fl.b,i,fl.reads,fl.left,aC F.waiting fl.b⟩)++F.line.map fun b=>⟨b,-1,-1,0,aC F.waiting b⟩
end
structure dy (k:K4):Prop where
 l:0<=k.l/\k.l<=3
 z:0<=k.z/\k.z<=22
 x:0<=k.x/\k.x<(2:Int) ^ k.z.toNat
 y:0<=k.y/\k.y<(2:Int) ^ k.z.toNat
theorem pow_even {z:Int}(h:z≠0)(c:0<=z):∃b:Int,(2:Int) ^ z.toNat=2*b:=by
 obtain⟨n,a⟩:∃n,z.toNat=n+1:=⟨z.toNat-1,by omega⟩
 exact⟨2 ^ n,by rw[a,Int.pow_succ,Int.mul_comm]⟩
theorem ib {a b:K4}(c:a.l=b.l)(d:a.z=b.z)(e:a.x=b.x)(f:a.y=b.y):a=b:=by cases a; cases b; simp_all
theorem dy.zero {k:K4}(h:dy k)(b:k.z=0):k.x=0/\k.y=0:=by
 have a:=h.x;have hy:=h.y;rw[b] at a hy;simp at a hy;omega
theorem jR {k c:K4}(e:dy k):c∈k.blk.keys↔dy c/\c.blk=k.blk:=by
 by_cases j:k.z=0
 ·obtain⟨o,hy⟩:=e.zero j
  have i:k.blk=k:=by apply ib<;>simp only[K4.blk]<;>omega
  have:k.blk.keys=[k]:=by rw[i]; simp[K4.keys,j]
  rw[this,i]
  constructor
  ·intro h; simp at h; subst h; exact⟨e,i⟩
  rintro⟨n,d⟩;have m:c.z=k.z:=(show c.blk.z=_ from congrArg K4.z d)
  obtain⟨r,s⟩:=n.zero (by omega)
  have l:c.l=k.l:=(show c.blk.l=_ from congrArg K4.l d);simp only[z7]
  apply ib<;>omega
 obtain⟨y,hm⟩:=pow_even j e.z.1
 have q:k.blk.keys=[k.blk,⟨k.l,k.z,k.blk.x+1,k.blk.y⟩,⟨k.l,k.z,k.blk.x,k.blk.y+1⟩,⟨k.l,k.z,k.blk.x+1,k.blk.y+1⟩]:=by
  unfold K4.keys; rw[zK (show ¬k.blk.z=0 from j)]; rfl
 have v:k.blk.x=k.x-k.x%2:=rfl;have w:k.blk.y=k.y-k.y%2:=rfl;have o:=e.x;have hy:=e.y;rw[hm] at o hy;rw[q]
 constructor
 ·intro h
  have key:∀a b:Int,(a=k.blk.x\/a=k.blk.x+1)->(b=k.blk.y\/b=k.blk.y+1)->dy ⟨k.l,k.z,a,b⟩/\(⟨k.l,k.z,a,b⟩:K4).blk=k.blk:=by
   intro a b x i;refine⟨⟨e.l,e.z,?_,?_⟩,?_⟩
   ·show 0<=a/\a<(2:Int) ^ k.z.toNat
    rw[hm]; omega
   ·show 0<=b/\b<(2:Int) ^ k.z.toNat
    rw[hm]; omega
   apply ib
   ·rfl
   ·rfl
   ·show a-a%2=k.blk.x; omega
   show b-b%2=k.blk.y; omega
  simp only[zv,yT,or_false] at h
  rcases h with rfl|rfl|rfl|rfl
  ·exact key _ _ (Or.inl rfl) (Or.inl rfl)
  ·exact key _ _ (Or.inr rfl) (Or.inl rfl)
  ·exact key _ _ (Or.inl rfl) (Or.inr rfl)
  exact key _ _ (Or.inr rfl) (Or.inr rfl)
 rintro⟨n,d⟩;have l:c.l=k.l:=(show c.blk.l=k.blk.l from congrArg K4.l d);have m:c.z=k.z:=(show c.blk.z=k.blk.z from congrArg K4.z d);have t:c.x-c.x%2=k.blk.x:=(show c.blk.x=_ from congrArg K4.x d);have u:c.y-c.y%2=k.blk.y:=(show c.blk.y=_ from congrArg K4.y d);have p:c=⟨k.l,k.z,c.x,c.y⟩:=ib l m rfl rfl
 have f:c.x=k.blk.x\/c.x=k.blk.x+1:=by omega
 have g:c.y=k.blk.y\/c.y=k.blk.y+1:=by omega
 rw[p];simp only[zv,yT,or_false]
 rcases f with f|f<;>rcases g with g|g<;>rw[f,g]
 ·exact Or.inl rfl
 ·exact Or.inr (Or.inr (Or.inl rfl))
 ·exact Or.inr (Or.inl rfl)
 exact Or.inr (Or.inr (Or.inr rfl))
structure Hi (O:Ora)(LS:List Ft)(n:Nat)(FLs:Nat->List Ft):Prop where
 rng:∀v:Nat,v<=n->∀k,dy k->0<=O.stamp LS v k/\O.stamp LS v k<=v
 still:∀v v':Nat,v<=v'->v'<=n->∀k,dy k->O.stamp LS v' k<=v->O.body (FLs v) k=O.body (FLs v') k/\O.stamp LS v k=O.stamp LS v' k
 bod:∀v:Nat,v<=n->∀k,dy k->7<=(O.body (FLs v) k).size/\(O.body (FLs v) k).size<=67
 le40:∀v:Nat,v<=n->(FLs v).length<=40
def kA (n chunk:Nat)(f:Fl):Prop:=(n=0/\f.left=1/\f.got=0)\/(1<=f.left/\f.got+(f.left-1)*chunk<n/\n<=f.got+f.left*chunk)
theorem kA.pos {n a:Nat}{f:Fl}(h:kA n a f):1<=f.left:=by rcases h with h|h<;>omega
theorem kA.le {n a:Nat}{f:Fl}(h:kA n a f)(e:n<=40)(b:1<=a):f.left<=40:=by
 rcases h with h|⟨c,d,_⟩
 ·omega
 have:=Nat.mul_le_mul_left (f.left-1) b;omega
theorem flOk_start (n a:Nat)(b:K4)(reads:Nat)(g:1<=a):kA n a ⟨b,reads,bB n a,0⟩:=by
 unfold kA bB
 by_cases h:n=0
 ·left; simp[h]
 right
 simp only[h,if_false,zb]
 have e:1<=(n+a-1) / a:=(Nat.le_div_iff_mul_le (by omega)).2 (by omega)
 have c:=Nat.div_add_mod (n+a-1) a
 have f:=Nat.mod_lt (n+a-1) (show 0<a by omega)
 obtain⟨s,d⟩:∃s,(n+a-1) / a=s+1:=⟨(n+a-1) / a-1,by omega⟩
 rw[d] at c ⊢;rw[Nat.mul_succ] at c;rw[ye,zd,Nat.mul_comm s a];omega
theorem kA.next {n a:Nat}{f:Fl}(h:kA n a f)(i:1<f.left):kA n a (f.step n a)/\(f.step n a).got=f.got+a/\f.got+a<=n:=by
 rcases h with h|⟨_,b,c⟩
 ·omega
 obtain⟨s,d⟩:∃s,f.left=s+2:=⟨f.left-2,by omega⟩
 rw[d] at b c
 have e:(s+2-1)*a=s*a+a:=by rw[show s+2-1=s+1 by omega,zd]
 have g:(s+2)*a=s*a+a+a:=by rw[zd,zd]
 rw[e] at b;rw[g] at c
 have hm:min (f.got+a) n=f.got+a:=Nat.min_eq_left (by omega)
 refine⟨Or.inr ?_,hm,by omega⟩
 simp only[Fl.step,hm,d]
 refine⟨by omega,?_,?_⟩
 ·rw[show s+2-1-1=s by omega]; omega
 rw[show s+2-1=s+1 by omega,zd]; omega
theorem kA.end_ {n a:Nat}{f:Fl}(h:kA n a f)(b:f.left=1):min (f.got+a) n=n:=by
 rcases h with⟨h,_,_⟩|⟨_,d,c⟩
 ·omega
 rw[b] at c; omega
def FM.fls (F:FM):List Fl:=F.wks.filterMap id
theorem lm:∀(ws:List (Option Fl)) (i:Nat) (o:Option Fl),i<ws.length->((ws.set i o).filterMap id).Perm (o.toList++(ws.set i none).filterMap id)
 | [],i,o,h=>by simp at h
 | a::ws,0,o,_=>by cases o<;>simp
 | a::ws,i+1,o,h=>by
  have b:=lm ws i o (by simpa using h)
  cases a with
  | none=>simpa using b
  | some f=>
   simp only[List.set_cons_succ,List.filterMap_cons,id];exact(yh f b).trans (yu.symm)
theorem gP (ws:List (Option Fl))(i:Nat)(o:Option Fl)(h:ws[i]?=some o):ws.set i o=ws:=by
 apply y0
 intro j;rw[yZ]
 by_cases e:i=j
 ·subst e; rw[zJ rfl,zJ (zX.1 h).1,h]
 rw[zK e]
theorem fls_at {ws:List (Option Fl)}{i:Nat}{o:Option Fl}(h:ws[i]?=some o):(ws.filterMap id).Perm (o.toList++(ws.set i none).filterMap id):=by
 have:=lm ws i o (zX.1 h).1
 rwa [gP ws i o h] at this
theorem nM (c:FM)(b:K4):c.hasFl b=true↔b∈c.line\/b∈c.fls.map Fl.b:=by
 unfold FM.hasFl FM.fls;simp only[Bool.or_eq_true,List.any_eq_true,zN,yH,List.mem_filterMap,id]
 constructor
 ·rintro(⟨k,d,rfl⟩|⟨o,a,h⟩)
  ·exact Or.inl d
  cases o with
  | none=>simp at h
  | some f=>exact Or.inr ⟨f,⟨_,a,rfl⟩,by simpa using h⟩
 rintro(h|⟨f,⟨o,a,rfl⟩,rfl⟩)
 ·exact Or.inl ⟨b,h,rfl⟩
 exact Or.inr ⟨_,a,by simp⟩
theorem e8 (ws:List dJ)(b:K4):0<aC ws b↔∃r∈ws,r.k.blk=b:=by
 unfold aC;rw[List.countP_pos_iff];simp
structure Ok (O:Ora)(F:FM):Prop where
 q:1<=F.queue/\F.queue<=8
 wt:1<=F.wait/\F.wait<=50
 ch:1<=F.chunk/\F.chunk<=8
 rm:F.room<=2000
 wn:1<=F.wks.length/\F.wks.length<=4
 v100:F.ver<=100
 wq:F.waiting.length<=F.queue
 req:∀r∈F.waiting,(F.now:Int)<r.due/\0<=r.asked/\r.asked<=F.ver/\dy r.k/\0<=r.who/\r.who<F.arrived/\r.due<=F.now+F.wait
 srt:F.waiting.Pairwise fun a b=>a.who<b.who
 fl:∀r∈F.waiting,r.k.blk∈F.line\/r.k.blk∈F.fls.map Fl.b
 lin:∀b∈F.line,∃r∈F.waiting,r.k.blk=b
 nod:(F.line++F.fls.map Fl.b).Nodup
 flt:∀f∈F.fls,f.reads<=F.ver/\kA (F.FLs f.reads).length F.chunk f/\∃k,dy k/\f.b=k.blk
 pin:F.PI.Perm (F.fls.map fun f=>(f.reads:Int))
 bus:F.fls.length<=F.started
 hi:Hi O F.LS F.ver F.FLs
 byt:aA F.tiles<=F.room
 til:∀t∈F.tiles,dy t.k/\t=F.tileOf O F.ver t.k
 tno:(F.tiles.map aL.k).Nodup
theorem fls_len (F:FM):F.fls.length<=F.wks.length:=List.length_filterMap_le _ _
theorem busy_fls (b:FM):b.busy=b.fls.length:=by
 unfold FM.busy FM.fls
 induction b.wks with
 | nil=>rfl
 | cons a l c=>cases a<;>simp[c]
theorem nG:∀(l c:List K4),l.Nodup->l ⊆ c->l.length<=c.length
 | [],_,_,_=>by simp
 | a::l,c,i,h=>by
  have f:a∈c:=h (yJ ..);have d:=yd.1 i;have:=nG l (c.erase a) d.2 fun b g=>(List.mem_erase_of_ne (fun e:b=a=>d.1 (e▸g))).2 (h (zt _ g));rw[List.length_erase_of_mem f] at this;have:=List.length_pos_of_mem f
  simp only[zS]; omega
section
variable {O:Ora}{F:FM}
theorem Ok.linLe (h:Ok O F):F.line.length<=F.waiting.length:=by
 have d:F.line.Nodup:=(List.nodup_append.1 h.nod).1
 have g:F.line ⊆ F.waiting.map fun a=>a.k.blk:=by
  intro b c;obtain⟨a,f,e⟩:=h.lin b c;exact yH.2 ⟨a,f,e⟩
 simpa using nG _ _ d g
theorem Ok.arriveE (h:Ok O F)(e:Int):Ok O (F.arriveE e).1:=
 { h with req:=fun b a=>by have:=h.req b a; simp only[FM.arriveE]; exact⟨this.1,this.2.1,this.2.2.1,this.2.2.2.1,this.2.2.2.2.1,by omega,this.2.2.2.2.2.2⟩ }
theorem ep (a b:List aL):aA (a++b)=aA a+aA b:=by
 induction a with
 | nil=>simp[aA]
 | cons t a c=>simp only[yj,aA,c]; omega
theorem eo {a b:List aL}(h:a.Sublist b):aA a<=aA b:=by
 induction h with
 | slnil=>simp
 | cons t _ c=>simp only[aA]; omega
 | cons_cons t _ c=>simp only[aA]; omega
theorem eK (ts:List aL)(k:K4):(bm ts k).Sublist ts:=yy
theorem outT_not (ts:List aL)(k:K4):k∉(bm ts k).map aL.k:=by
 intro h;obtain⟨t,a,e⟩:=yH.1 h;unfold bm at a;rw[yA] at a;simp[e] at a
theorem outT_bytes {ts:List aL}{t:aL}(b:t∈ts):aA (bm ts t.k)+t.body.size<=aA ts:=by
 induction ts with
 | nil=>simp at b
 | cons a ts c=>
  rcases zv.1 b with rfl|b
  ·have:bm (t::ts) t.k=bm ts t.k:=by simp[bm]
   rw[this];have:=eo (eK ts t.k)
   simp only[aA]; omega
  have:=c b
  by_cases e:a.k=t.k
  ·have:bm (a::ts) t.k=bm ts t.k:=by simp[bm,e]
   rw[this]; simp only[aA]; omega
  have:bm (a::ts) t.k=a::bm ts t.k:=by simp[bm,e]
  rw[this]; simp only[aA]; omega
theorem ml {ts:List aL}{k:K4}{t:aL}(h:cS ts k=some t):t∈ts/\t.k=k:=by
 unfold cS at h
 exact⟨List.mem_of_find?_eq_some h,by simpa using List.find?_some h⟩
theorem mm {ts:List aL}{k:K4}(h:cS ts k=none):∀t∈ts,t.k≠k:=by
 unfold cS at h;rw[List.find?_eq_none] at h;intro t a e
 exact h t a (by simp[e])
theorem nF {ts:List aL}(h:(ts.map aL.k).Nodup)(t:aL){f:List aL}(d:f.Sublist (bm ts t.k)):((f++[t]).map aL.k).Nodup:=by
 rw[yV,zA,yQ,List.nodup_append]
 refine⟨(d.trans (eK ts t.k)).map _ |>.nodup h,by simp,?_⟩
 intro a g b c;simp at c;subst c;intro e;subst e;exact outT_not ts t.k ((d.map _).subset g)
theorem Ok.used (h:Ok O F){t:aL}(b:t∈F.tiles):Ok O { F with arrived:=F.arrived+1,tiles:=bm F.tiles t.k++[t] }:=
 { h with
  req:=fun c d=>by have:=h.req c d; exact⟨this.1,this.2.1,this.2.2.1,this.2.2.2.1,this.2.2.2.2.1,by show c.who<((F.arrived+1:Nat):Int); omega,this.2.2.2.2.2.2⟩
  byt:=by
   show aA (bm F.tiles t.k++[t])<=F.room;rw[ep];have:=outT_bytes b;have:=h.byt
   simp only[aA]; omega
  til:=fun u a=>by
   rcases zh.1 a with a|a
   ·exact h.til u ((eK _ _).subset a)
   simp at a; subst a; exact h.til u b
  tno:=nF h.tno t (yt _) }
theorem Ok.join (h:Ok O F){k:K4}(o:dy k)(p:F.waiting.length<F.queue):Ok O (FM.join { F with arrived:=F.arrived+1 } F.arrived k):=by
 have l:({ F with arrived:=F.arrived+1 }:FM).hasFl k.blk=F.hasFl k.blk:=rfl;have j:=nM F k.blk
 refine{ h with
  wq:=?_,req:=?_,srt:=?_,fl:=?_,lin:=?_,nod:=?_ }
 ·show(F.waiting++[_]).length<=F.queue
  simp; omega
 ·intro f d
  rcases zh.1 d with d|d
  ·have:=h.req f d
   exact⟨this.1,this.2.1,this.2.2.1,this.2.2.2.1,this.2.2.2.2.1,by show f.who<((F.arrived+1:Nat):Int); omega,this.2.2.2.2.2.2⟩
  simp at d;subst d;have:=h.wt
  refine⟨by show(F.now:Int)<(F.now:Int)+F.wait; omega,by show(0:Int)<=F.ver; omega,by show(F.ver:Int)<=F.ver; omega,o,by show(0:Int)<=F.arrived; omega,by show(F.arrived:Int)<((F.arrived+1:Nat):Int); omega,by show(F.now:Int)+F.wait<=F.now+F.wait; omega⟩
 ·show(F.waiting++[_]).Pairwise _
  rw[List.pairwise_append]
  refine⟨h.srt,by simp,fun a n b g=>?_⟩
  simp at g;subst g;have:=h.req a n;show a.who<F.arrived;omega
 ·intro f d
  show f.k.blk∈(if ({ F with arrived:=F.arrived+1 }:FM).hasFl k.blk then F.line else F.line++[k.blk])\/f.k.blk∈F.fls.map Fl.b
  rw[l]
  rcases zh.1 d with d|d
  ·rcases h.fl f d with q|q
   ·left; split
    ·exact q
    exact y8 _ q
   exact Or.inr q
  simp at d;subst d;show k.blk∈_\/k.blk∈_
  split
  ·rename_i q; exact j.1 q
  left; simp
 ·intro b g
  have i:b∈(if F.hasFl k.blk then F.line else F.line++[k.blk]):=g
  show ∃f∈F.waiting++[_],_
  by_cases c:b∈F.line
  ·obtain⟨f,d,e⟩:=h.lin b c
   exact⟨f,y8 _ d,e⟩
  refine⟨_,xY _ (z7.2 rfl),?_⟩
  split at i
  ·exact absurd i c
  rcases zh.1 i with q|q
  ·exact absurd q c
  simp at q; exact q.symm
 show((if F.hasFl k.blk then F.line else F.line++[k.blk])++F.fls.map Fl.b).Nodup
 split
 ·exact h.nod
 rename_i q
 have m:k.blk∉F.line++F.fls.map Fl.b:=by
  intro hm;exact q (j.2 (zh.1 hm))
 rw[yM];exact(List.perm_middle.nodup_iff).2 (yd.2 ⟨m,h.nod⟩)
theorem Ok.arriveK (h:Ok O F){k:K4}(a:dy k)(tag:ByteArray):Ok O (F.arriveK O k tag).1:=by
 unfold FM.arriveK;dsimp only
 split
 ·exact h.arriveE 0
 cases e:cS F.tiles k with
 | some t=>exact h.used (ml e).1
 | none=>
  dsimp only
  split
  ·exact h.arriveE 0
  exact h.join a (by omega)
end
theorem ae {p:Prop}(h:p):Hid p:=h
theorem aa {p:Prop}(h:Hid p):p:=h
theorem ai {a b:Bool}(h:a=b):Ending.returned (.bool a)=.returned (.bool b):=by rw[h]
theorem aB {k:IntKind}{a b:Int}(h:a=b):Ending.returned (.int k a)=.returned (.int k b):=by rw[h]
def fc (f:Nat->Int):Array Value:=(Array.range 24).map fun i=>.int .i64 (f i)
theorem dX (f:Nat->Int):(fc f).size=24:=by simp[fc]
theorem aN (f:Nat->Int)(i:Nat)(h:i<24):(fc f)[i]?=some (.int .i64 (f i)):=by simp[fc,h]
def dm (n lo hi:Int):Bool:=decide (lo<=n/\n<=hi)
theorem dM {n lo hi:Int}(h:lo<=n)(a:n<=hi):dm n lo hi=true:=by simp[dm,h,a]
theorem jo {n lo hi:Int}(h:n<lo):dm n lo hi=false:=by simp[dm]; omega
theorem jn {n lo hi:Int}(h:hi<n):dm n lo hi=false:=by simp[dm]; omega
theorem cG (n lo hi:Int)(w:World):
  Calls prog 187 #[n,lo,hi] w fun e w'=>e=.returned (.bool (dm n lo hi))/\w=w':=by
 by_cases b:lo<=n
 ·by_cases c:n<=hi
  ·have a:=ae (dM b c)
   go_enter func187,ntmps187
   go_wp2
   go_ret;exact⟨ai (aa a).symm,rfl⟩
  have a:=ae (jn (n:=n) (lo:=lo) (hi:=hi) (by omega))
  go_enter func187,ntmps187
  go_wp2
  go_ret;exact⟨ai (aa a).symm,rfl⟩
 have a:=ae (jo (n:=n) (lo:=lo) (hi:=hi) (by omega))
 go_enter func187,ntmps187
 go_wp2
 go_ret;exact⟨ai (aa a).symm,rfl⟩
theorem bM (n lo hi:Int)(w:World):
  Calls prog 67 #[n,lo,hi] w fun e w'=>e=.returned (.bool (dm n lo hi))/\w=w':=by
 by_cases b:lo<=n
 ·by_cases c:n<=hi
  ·have a:=ae (dM b c)
   go_enter func67,ntmps67
   go_wp2
   go_ret;exact⟨ai (aa a).symm,rfl⟩
  have a:=ae (jn (n:=n) (lo:=lo) (hi:=hi) (by omega))
  go_enter func67,ntmps67
  go_wp2
  go_ret;exact⟨ai (aa a).symm,rfl⟩
 have a:=ae (jo (n:=n) (lo:=lo) (hi:=hi) (by omega))
 go_enter func67,ntmps67
 go_wp2
 go_ret;exact⟨ai (aa a).symm,rfl⟩
theorem dL (n:Int)(w:World):
  Calls prog 159 #[n] w fun e w'=>e=.returned (.bool (dm n 0 1073741824))/\w=w':=by
 go_enter func159,ntmps159
 go_wp2_with fail
 refine(cG n _ _ _).mono ?_;rintro e w1 ⟨rfl,rfl⟩
 go_wp2
 go_ret;exact⟨rfl,rfl⟩
def bO (f:Nat->Int):Bool:=dm (f 0) 1 1000 && dm (f 1) 0 3 && dm (f 3) 1 15 && dm (f 4) 0 9 && dm (f 5) 0 22
theorem aj (w:World)(o:Obj):Below w.heap.size w (w.alloc o):=bu.alloc aD _
theorem eD (f:Nat->Int)(w:World):
  Calls prog 156 #[.agg (fc f)] w fun e w'=>e=.returned (.bool (bO f))/\Below w.heap.size w w':=by
 have h:=aN f 0 (by decide)
 have i:=aN f 1 (by decide)
 have j:=aN f 3 (by decide)
 have k:=aN f 4 (by decide)
 have l:=aN f 5 (by decide)
 cases b:dm (f 0) 1 1000 with
 | false=>
  have a:Hid (bO f=false):=by show bO f=false; simp[bO,b]
  go_enter func156,ntmps156
  go_wp2_with (go_at_call 187; refine(cG _ _ _ _).mono ?_; rintro e w1 ⟨rfl,rfl⟩)
  go_ret;exact⟨ai (aa a).symm,aj _ _⟩
 | true=>
 cases c:dm (f 1) 0 3 with
 | false=>
  have a:Hid (bO f=false):=by show bO f=false; simp[bO,c]
  go_enter func156,ntmps156
  go_wp2_with (go_at_call 187; refine(cG _ _ _ _).mono ?_; rintro e w1 ⟨rfl,rfl⟩)
  go_ret;exact⟨ai (aa a).symm,aj _ _⟩
 | true=>
 cases d:dm (f 3) 1 15 with
 | false=>
  have a:Hid (bO f=false):=by show bO f=false; simp[bO,d]
  go_enter func156,ntmps156
  go_wp2_with (go_at_call 187; refine(cG _ _ _ _).mono ?_; rintro e w1 ⟨rfl,rfl⟩)
  go_ret;exact⟨ai (aa a).symm,aj _ _⟩
 | true=>
 cases g:dm (f 4) 0 9 with
 | false=>
  have a:Hid (bO f=false):=by show bO f=false; simp[bO,g]
  go_enter func156,ntmps156
  go_wp2_with (go_at_call 187; refine(cG _ _ _ _).mono ?_; rintro e w1 ⟨rfl,rfl⟩)
  go_ret;exact⟨ai (aa a).symm,aj _ _⟩
 | true=>
  have a:Hid (bO f=dm (f 5) 0 22):=by show bO f=_; simp[bO,b,c,d,g]
  go_enter func156,ntmps156
  go_wp2_with (go_at_call 187; refine(cG _ _ _ _).mono ?_; rintro e w1 ⟨rfl,rfl⟩)
  go_ret;exact⟨ai (aa a).symm,aj _ _⟩
def form (f:Nat->Int):Bool:=
 if f 2=0 then decide (f 6=0) && dm (f 7) 3 8 else if f 2=1 then dm (f 6) 1 3 && decide (f 7=1) else false
def pt (f:Nat->Int)(i:Nat):Bool:=
 dm (f (8+i)) 0 1073741824 && dm (f (16+i)) 0 1073741824 && !(decide (f 7<=(i:Int)) && (decide (f (8+i)≠0) || decide (f (16+i)≠0)))
def nC (f:Nat->Int)(k:Nat):Bool:=(List.range k).all (pt f)
def right (f:Nat->Int):Bool:=bO f && form f && nC f 8
theorem fV (f:Nat->Int)(k:Nat)(h:nC f k=true)(a:pt f k=true):nC f (k+1)=true:=by
 unfold nC at *; rw[y5,List.all_append,h]; simp[a]
theorem cB (f:Nat->Int)(k:Nat)(b:k<8)(h:pt f k=false):nC f 8=false:=by
 rw[xZ]; intro a
 simp only[nC,zi,yL] at a
 rw[a k b] at h; cases h
theorem pt_x {f:Nat->Int}{k:Nat}{X:Int}(e:f (8+k)=X)(h:dm X 0 1073741824=false):pt f k=false:=by simp[pt,e,h]
theorem pt_y {f:Nat->Int}{k:Nat}{X:Int}(e:f (16+k)=X)(h:dm X 0 1073741824=false):pt f k=false:=by simp[pt,e,h]
theorem pt_t {f:Nat->Int}{k:Nat}{X c g:Int}(e:f (8+k)=X)(i:f (16+k)=c)(en:f 7=g)(h:dm X 0 1073741824=true)(j:dm c 0 1073741824=true)(d:(k:Int)<g\/(X=0/\c=0)):pt f k=true:=by
 simp only[pt,e,i,en,h,j,Bool.true_and,Bool.not_eq_true',Bool.and_eq_false_iff,decide_eq_false_iff_not,Bool.or_eq_false_iff]
 rcases d with d|⟨a,b⟩
 ·left; omega
 right; simp[a,b]
theorem pt_f {f:Nat->Int}{k:Nat}{X b a:Int}(e:f (8+k)=X)(c:f (16+k)=b)(en:f 7=a)(d:a<=(k:Int))(h:¬X=0\/¬b=0):pt f k=false:=by
 simp only[pt,e,c,en,Bool.and_eq_false_iff,Bool.not_eq_false',zl,Bool.or_eq_true,zN]
 right; exact⟨d,h⟩
theorem ic (f:Nat->Int)(w:World):
  Calls prog 157 #[.agg (fc f)] w fun e w'=>e=.returned (.bool (form f))/\Below w.heap.size w w':=by
 have m:=aN f 2 (by decide)
 have n:=aN f 6 (by decide)
 have o:=aN f 7 (by decide)
 obtain⟨d,a⟩:∃d,f 2=d:=⟨_,rfl⟩;obtain⟨S,b⟩:∃d,f 6=d:=⟨_,rfl⟩;obtain⟨l,g⟩:∃d,f 7=d:=⟨_,rfl⟩
 rw[a] at m; rw[b] at n; rw[g] at o
 by_cases h:d=0
 ·subst h
  by_cases j:S=0
  focus
   subst j
   have c:Hid (form f=dm l 3 8):=by show form f=_; simp[form,a,b,g]
  rotate_left
  focus
   have c:Hid (form f=false):=by show form f=_; simp[form,a,b,j]
  all_goals
   clear a b g;go_enter func157,ntmps157
   go_wp2_with (go_at_call 187; refine(cG _ _ _ _).mono ?_; rintro e w1 ⟨rfl,rfl⟩)
   go_ret;exact⟨ai (aa c).symm,aj _ _⟩
 by_cases i:d=1
 ·subst i
  cases k:dm S 1 3 with
  | true=>
   have c:Hid (form f=(l==1)):=by show form f=_; simp[form,a,b,g,k,BEq.beq]
   clear a b g;go_enter func157,ntmps157
   go_wp2_with (go_at_call 187; refine(cG _ _ _ _).mono ?_; rintro e w1 ⟨rfl,rfl⟩)
   go_ret;exact⟨ai (aa c).symm,aj _ _⟩
  | false=>
   have c:Hid (form f=false):=by show form f=_; simp[form,a,b,k]
   clear a b g;go_enter func157,ntmps157
   go_wp2_with (go_at_call 187; refine(cG _ _ _ _).mono ?_; rintro e w1 ⟨rfl,rfl⟩)
   go_ret;exact⟨ai (aa c).symm,aj _ _⟩
 have c:Hid (form f=false):=by show form f=_; simp[form,a,h,i]
 clear a b g;go_enter func157,ntmps157
 go_wp2_with (go_at_call 187; refine(cG _ _ _ _).mono ?_; rintro e w1 ⟨rfl,rfl⟩)
 go_ret;exact⟨ai (aa c).symm,aj _ _⟩
theorem iV (f:Nat->Int)(w:World):
  Calls prog 158 #[.agg (fc f)] w fun e w'=>e=.returned (.bool (nC f 8))/\Below w.heap.size w w':=by
 have t:=aN f 7 (by decide)
 obtain⟨x,l⟩:∃c,f 7=c:=⟨_,rfl⟩;rw[l] at t;have g:=ae l;clear l;go_enter func158,ntmps158
 go_wp2
 go_loop [3] (fun i=>∃k:Nat,k<=8/\i=.int .i64 k/\Hid (nC f k=true)) (fun i=>8-(intOf i).toNat)
 ·exact⟨0,by decide,rfl,ae rfl⟩
 obtain⟨k,y,rfl,h⟩:=hrel
 by_cases d:k<8
 ·have u:=aN f (8+k) (by omega)
  have v:=aN f (16+k) (by omega)
  obtain⟨X,m⟩:∃c,f (8+k)=c:=⟨_,rfl⟩;obtain⟨r,n⟩:∃c,f (16+k)=c:=⟨_,rfl⟩
  rw[m] at u; rw[n] at v
  have a:=ae m;have b:=ae n;clear m n
  cases q:dm X 0 1073741824 with
  | false=>
   go_wp2_with (go_at_call 159; refine(dL _ _).mono ?_; rintro e w1 ⟨rfl,rfl⟩)
   go_ret;exact⟨ai (cB f k d (pt_x (aa a) q)).symm,aj _ _⟩
  | true=>
  cases hy:dm r 0 1073741824 with
  | false=>
   go_wp2_with (go_at_call 159; refine(dL _ _).mono ?_; rintro e w1 ⟨rfl,rfl⟩)
   go_ret;exact⟨ai (cB f k d (pt_y (aa b) hy)).symm,aj _ _⟩
  | true=>
  by_cases p:x<=(k:Int)
  ·by_cases j:X=0
   ·by_cases o:r=0
    ·subst j
     subst o
     go_wp2_with (go_at_call 159; refine(dL _ _).mono ?_; rintro e w1 ⟨rfl,rfl⟩)
     go_round
     ·exact⟨k+1,by omega,by go_num,ae (fV f k (aa h) (pt_t (aa a) (aa b) (aa g) rfl rfl (Or.inr ⟨rfl,rfl⟩)))⟩
     simp[intOf]; omega
    subst j
    go_wp2_with (go_at_call 159; refine(dL _ _).mono ?_; rintro e w1 ⟨rfl,rfl⟩)
    go_ret;exact⟨ai (cB f k d (pt_f (aa a) (aa b) (aa g) p (Or.inr o))).symm,aj _ _⟩
   go_wp2_with (go_at_call 159; refine(dL _ _).mono ?_; rintro e w1 ⟨rfl,rfl⟩)
   go_ret;exact⟨ai (cB f k d (pt_f (aa a) (aa b) (aa g) p (Or.inl j))).symm,aj _ _⟩
  go_wp2_with (go_at_call 159; refine(dL _ _).mono ?_; rintro e w1 ⟨rfl,rfl⟩)
  go_round
  ·exact⟨k+1,by omega,by go_num,ae (fV f k (aa h) (pt_t (aa a) (aa b) (aa g) q hy (Or.inl (by omega))))⟩
  simp[intOf]; omega
 go_wp2
 go_ret
 have s:k=8:=by omega
 subst s;exact⟨ai (aa h).symm,aj _ _⟩
theorem ag {a c:World}{b:Nat}{o:Obj}(h:a.heap[b]?=some o)(d:Below a.heap.size a c):c.heap[b]?=some o:=by
 have:b<a.heap.size:=(zM.1 h).1;rw[d.block b this,h]
theorem af {W:World}{b:Nat}{cs:Array Value}{t:TypeId}(h:W.heap[b]?=some (.cells cs t (0,0)))(j:Nat):W.cell? ⟨b,j,none⟩=cs[j]?:=cell_of_row W b j cs t (0,0) h
theorem gK (f:Nat->Int):(prog.info? 66).map (·.size)=some (fc f).size:=by rw[dX]; kernel_rfl
theorem dh {b:Array Oper}{rest:List Oper}{o:Oper}{a:Act}{w:World}{c:Exit->Act->World->Prop}(hw:Region.wanted o (yielded b a.tmps)=true)(x:Operand)(e:o.op=.load 66 x)
  (g:Nat) (i:a.eval x=.pointer (some ⟨g,0,none⟩)) (f:Nat->Int) (d:w.heap[g]?=some (.cells (fc f) 66))
  (h:wpList prog b c rest (a.put o.dst (.agg (fc f))) w):wpList prog b c (o::rest) a w:=by
 unfold wpList;rw[zJ hw];exact Or.inl (wp_load_row 66 x e g i 66 (fc f) (0,0) _ d underlying66 rfl (gK f) h)
theorem nU (f:Nat->Int)(w:World):
  Calls prog 102 #[.agg (fc f)] w fun e w'=>e=.returned (.int .i64 (bif right f then 0 else 7))/\Below w.heap.size w w':=by
 have h:=zZ w (.cells (fc f) 66)
 cases m:bO f with
 | false=>
  have i:Hid (right f=false):=by show right f=_; simp[right,m]
  go_enter func102,ntmps102
  go_wp2_with (refine dh rfl _ rfl _ rfl f h ?_)
  refine(eD f _).mono ?_;rintro e w1 ⟨rfl,a⟩
  have d:=ae ((aj _ _).trans (a.mono (by simp)))
  clear a
  go_wp2
  go_ret
  exact⟨aB (by rw[aa i]; rfl),aa d⟩
 | true=>
 cases n:form f with
 | false=>
  have i:Hid (right f=false):=by show right f=_; simp[right,n]
  go_enter func102,ntmps102
  go_wp2_with (refine dh rfl _ rfl _ rfl f h ?_)
  refine(eD f _).mono ?_;rintro e w1 ⟨rfl,a⟩;have c:=ag h a
  have d:=ae ((aj _ _).trans (a.mono (by simp)))
  clear a
  go_wp2_with (refine dh rfl _ rfl _ rfl f c ?_)
  refine(ic f _).mono ?_;rintro e p ⟨rfl,b⟩;have g:=ae ((aa d).trans (b.mono (aa d).size));clear b c
  go_wp2
  go_ret
  exact⟨aB (by rw[aa i]; rfl),aa g⟩
 | true=>
  have i:Hid (right f=nC f 8):=by show right f=_; simp[right,m,n]
  cases o:nC f 8 with
  | false=>
   go_enter func102,ntmps102
   go_wp2_with (refine dh rfl _ rfl _ rfl f h ?_)
   refine(eD f _).mono ?_;rintro e w1 ⟨rfl,a⟩;have c:=ag h a
   have d:=ae ((aj _ _).trans (a.mono (by simp)))
   clear a
   go_wp2_with (refine dh rfl _ rfl _ rfl f c ?_)
   refine(ic f _).mono ?_;rintro e p ⟨rfl,b⟩;have k:=ag c b;have g:=ae ((aa d).trans (b.mono (aa d).size));clear b c
   go_wp2_with (refine dh rfl _ rfl _ rfl f k ?_)
   refine(iV f _).mono ?_;rintro e q ⟨rfl,j⟩;have l:=ae ((aa g).trans (j.mono (aa g).size));clear j k
   go_wp2
   go_ret
   exact⟨aB (by rw[aa i,o]; rfl),aa l⟩
  | true=>
   go_enter func102,ntmps102
   go_wp2_with (refine dh rfl _ rfl _ rfl f h ?_)
   refine(eD f _).mono ?_;rintro e w1 ⟨rfl,a⟩;have c:=ag h a
   have d:=ae ((aj _ _).trans (a.mono (by simp)))
   clear a
   go_wp2_with (refine dh rfl _ rfl _ rfl f c ?_)
   refine(ic f _).mono ?_;rintro e p ⟨rfl,b⟩;have k:=ag c b;have g:=ae ((aa d).trans (b.mono (aa d).size));clear b c
   go_wp2_with (refine dh rfl _ rfl _ rfl f k ?_)
   refine(iV f _).mono ?_;rintro e q ⟨rfl,j⟩;have l:=ae ((aa g).trans (j.mono (aa g).size));clear j k
   go_wp2
   go_ret
   exact⟨aB (by rw[aa i,o]; rfl),aa l⟩
theorem jO (f:Nat->Int)(w:World):
  Calls prog 116 #[.agg (fc f)] w fun e w'=>e=.returned (.bool (right f))/\Below w.heap.size w w':=by
 have O:=aN f 0 (by decide)
 have P:=aN f 1 (by decide)
 have Q:=aN f 3 (by decide)
 have R:=aN f 4 (by decide)
 have T:=aN f 5 (by decide)
 have K:=aN f 2 (by decide)
 have L:=aN f 6 (by decide)
 have M:=aN f 7 (by decide)
 obtain⟨g,b⟩:∃g,f 2=g:=⟨_,rfl⟩;obtain⟨S,d⟩:∃g,f 6=g:=⟨_,rfl⟩;obtain⟨F,c⟩:∃g,f 7=g:=⟨_,rfl⟩
 rw[b] at K; rw[d] at L; rw[c] at M
 cases A:dm (f 0) 1 1000 with
 | false=>
  have a:Hid (right f=false):=by show right f=_; simp[right,bO,A]
  clear b d c;go_enter func116,ntmps116
  go_wp2_with (go_at_call 67; refine(bM _ _ _ _).mono ?_; rintro e w1 ⟨rfl,rfl⟩)
  go_ret;exact⟨ai (aa a).symm,aj _ _⟩
 | true=>
 cases B:dm (f 1) 0 3 with
 | false=>
  have a:Hid (right f=false):=by show right f=_; simp[right,bO,B]
  clear b d c;go_enter func116,ntmps116
  go_wp2_with (go_at_call 67; refine(bM _ _ _ _).mono ?_; rintro e w1 ⟨rfl,rfl⟩)
  go_ret;exact⟨ai (aa a).symm,aj _ _⟩
 | true=>
 cases C:dm (f 3) 1 15 with
 | false=>
  have a:Hid (right f=false):=by show right f=_; simp[right,bO,C]
  clear b d c;go_enter func116,ntmps116
  go_wp2_with (go_at_call 67; refine(bM _ _ _ _).mono ?_; rintro e w1 ⟨rfl,rfl⟩)
  go_ret;exact⟨ai (aa a).symm,aj _ _⟩
 | true=>
 cases D:dm (f 4) 0 9 with
 | false=>
  have a:Hid (right f=false):=by show right f=_; simp[right,bO,D]
  clear b d c;go_enter func116,ntmps116
  go_wp2_with (go_at_call 67; refine(bM _ _ _ _).mono ?_; rintro e w1 ⟨rfl,rfl⟩)
  go_ret;exact⟨ai (aa a).symm,aj _ _⟩
 | true=>
 cases E:dm (f 5) 0 22 with
 | false=>
  have a:Hid (right f=false):=by show right f=_; simp[right,bO,E]
  clear b d c;go_enter func116,ntmps116
  go_wp2_with (go_at_call 67; refine(bM _ _ _ _).mono ?_; rintro e w1 ⟨rfl,rfl⟩)
  go_ret;exact⟨ai (aa a).symm,aj _ _⟩
 | true=>
 by_cases G:g=0
 ·subst G
  cases t:dm F 3 8 with
  | false=>
   have a:Hid (right f=false):=by show right f=_; simp[right,form,b,c,t]
   clear b d c;go_enter func116,ntmps116
   go_wp2_with (go_at_call 67; refine(bM _ _ _ _).mono ?_; rintro e w1 ⟨rfl,rfl⟩)
   go_ret;exact⟨ai (aa a).symm,aj _ _⟩
  | true=>
   by_cases I:S=0
   ·subst I
    have a:Hid (right f=nC f 8):=by show right f=_; simp[right,bO,form,b,d,c,A,B,C,D,E,t]
    have m:=ae c;clear b d c;go_enter func116,ntmps116
    go_wp2_with (go_at_call 67; refine(bM _ _ _ _).mono ?_; rintro e w1 ⟨rfl,rfl⟩)
    go_loop [10,11,12] (fun i _ _=>∃k:Nat,k<=8/\i=.int .i64 k/\Hid (nC f k=true)) (fun i _ _=>8-(intOf i).toNat)
    ·exact⟨0,by decide,rfl,ae rfl⟩
    obtain⟨k,N,rfl,n⟩:=hrel
    by_cases l:k<8
    ·have y:=aN f (8+k) (by omega)
     have z:=aN f (16+k) (by omega)
     obtain⟨X,p⟩:∃g,f (8+k)=g:=⟨_,rfl⟩;obtain⟨v,q⟩:∃g,f (16+k)=g:=⟨_,rfl⟩
     rw[p] at y; rw[q] at z
     have h:=ae p;have j:=ae q;clear p q
     cases u:dm X 0 1073741824 with
     | false=>
      go_wp2_with (go_at_call 67; refine(bM _ _ _ _).mono ?_; rintro e w1 ⟨rfl,rfl⟩)
      go_ret;exact⟨ai ((aa a).trans (cB f k l (pt_x (aa h) u))).symm,aj _ _⟩
     | true=>
     cases hy:dm v 0 1073741824 with
     | false=>
      go_wp2_with (go_at_call 67; refine(bM _ _ _ _).mono ?_; rintro e w1 ⟨rfl,rfl⟩)
      go_ret;exact⟨ai ((aa a).trans (cB f k l (pt_y (aa j) hy))).symm,aj _ _⟩
     | true=>
     by_cases s:F<=(k:Int)
     ·by_cases o:X=0
      ·by_cases r:v=0
       ·subst o
        subst r
        go_wp2_with (go_at_call 67; refine(bM _ _ _ _).mono ?_; rintro e w1 ⟨rfl,rfl⟩)
        go_round
        ·exact⟨k+1,by omega,by go_num,ae (fV f k (aa n) (pt_t (aa h) (aa j) (aa m) rfl rfl (Or.inr ⟨rfl,rfl⟩)))⟩
        simp[intOf]; omega
       subst o
       go_wp2_with (go_at_call 67; refine(bM _ _ _ _).mono ?_; rintro e w1 ⟨rfl,rfl⟩)
       go_ret;exact⟨ai ((aa a).trans (cB f k l (pt_f (aa h) (aa j) (aa m) s (Or.inr r)))).symm,aj _ _⟩
      go_wp2_with (go_at_call 67; refine(bM _ _ _ _).mono ?_; rintro e w1 ⟨rfl,rfl⟩)
      go_ret;exact⟨ai ((aa a).trans (cB f k l (pt_f (aa h) (aa j) (aa m) s (Or.inl o)))).symm,aj _ _⟩
     go_wp2_with (go_at_call 67; refine(bM _ _ _ _).mono ?_; rintro e w1 ⟨rfl,rfl⟩)
     go_round
     ·exact⟨k+1,by omega,by go_num,ae (fV f k (aa n) (pt_t (aa h) (aa j) (aa m) u hy (Or.inl (by omega))))⟩
     simp[intOf]; omega
    go_wp2
    go_ret
    have x:k=8:=by omega
    subst x;exact⟨ai ((aa a).trans (aa n)).symm,aj _ _⟩
   have a:Hid (right f=false):=by show right f=_; simp[right,form,b,d,I]
   clear b d c;go_enter func116,ntmps116
   go_wp2_with (go_at_call 67; refine(bM _ _ _ _).mono ?_; rintro e w1 ⟨rfl,rfl⟩)
   go_ret;exact⟨ai (aa a).symm,aj _ _⟩
 by_cases H:g=1
 ·subst H
  cases t:dm S 1 3 with
  | false=>
   have a:Hid (right f=false):=by show right f=_; simp[right,form,b,d,t]
   clear b d c;go_enter func116,ntmps116
   go_wp2_with (go_at_call 67; refine(bM _ _ _ _).mono ?_; rintro e w1 ⟨rfl,rfl⟩)
   go_ret;exact⟨ai (aa a).symm,aj _ _⟩
  | true=>
   by_cases J:F=1
   ·subst J
    have a:Hid (right f=nC f 8):=by show right f=_; simp[right,bO,form,b,d,c,A,B,C,D,E,t]
    have m:=ae c;clear b d c;go_enter func116,ntmps116
    go_wp2_with (go_at_call 67; refine(bM _ _ _ _).mono ?_; rintro e w1 ⟨rfl,rfl⟩)
    go_loop [10,11,12] (fun i _ _=>∃k:Nat,k<=8/\i=.int .i64 k/\Hid (nC f k=true)) (fun i _ _=>8-(intOf i).toNat)
    ·exact⟨0,by decide,rfl,ae rfl⟩
    obtain⟨k,N,rfl,n⟩:=hrel
    by_cases l:k<8
    ·have y:=aN f (8+k) (by omega)
     have z:=aN f (16+k) (by omega)
     obtain⟨X,p⟩:∃g,f (8+k)=g:=⟨_,rfl⟩;obtain⟨v,q⟩:∃g,f (16+k)=g:=⟨_,rfl⟩
     rw[p] at y; rw[q] at z
     have h:=ae p;have j:=ae q;clear p q
     cases u:dm X 0 1073741824 with
     | false=>
      go_wp2_with (go_at_call 67; refine(bM _ _ _ _).mono ?_; rintro e w1 ⟨rfl,rfl⟩)
      go_ret;exact⟨ai ((aa a).trans (cB f k l (pt_x (aa h) u))).symm,aj _ _⟩
     | true=>
     cases hy:dm v 0 1073741824 with
     | false=>
      go_wp2_with (go_at_call 67; refine(bM _ _ _ _).mono ?_; rintro e w1 ⟨rfl,rfl⟩)
      go_ret;exact⟨ai ((aa a).trans (cB f k l (pt_y (aa j) hy))).symm,aj _ _⟩
     | true=>
     by_cases s:(1:Int)<=(k:Int)
     ·by_cases o:X=0
      ·by_cases r:v=0
       ·subst o
        subst r
        go_wp2_with (go_at_call 67; refine(bM _ _ _ _).mono ?_; rintro e w1 ⟨rfl,rfl⟩)
        go_round
        ·exact⟨k+1,by omega,by go_num,ae (fV f k (aa n) (pt_t (aa h) (aa j) (aa m) rfl rfl (Or.inr ⟨rfl,rfl⟩)))⟩
        simp[intOf]; omega
       subst o
       go_wp2_with (go_at_call 67; refine(bM _ _ _ _).mono ?_; rintro e w1 ⟨rfl,rfl⟩)
       go_ret;exact⟨ai ((aa a).trans (cB f k l (pt_f (aa h) (aa j) (aa m) s (Or.inr r)))).symm,aj _ _⟩
      go_wp2_with (go_at_call 67; refine(bM _ _ _ _).mono ?_; rintro e w1 ⟨rfl,rfl⟩)
      go_ret;exact⟨ai ((aa a).trans (cB f k l (pt_f (aa h) (aa j) (aa m) s (Or.inl o)))).symm,aj _ _⟩
     go_wp2_with (go_at_call 67; refine(bM _ _ _ _).mono ?_; rintro e w1 ⟨rfl,rfl⟩)
     go_round
     ·exact⟨k+1,by omega,by go_num,ae (fV f k (aa n) (pt_t (aa h) (aa j) (aa m) u hy (Or.inl (by omega))))⟩
     simp[intOf]; omega
    go_wp2
    go_ret
    have x:k=8:=by omega
    subst x;exact⟨ai ((aa a).trans (aa n)).symm,aj _ _⟩
   have a:Hid (right f=false):=by show right f=_; simp[right,form,b,c,J]
   clear b d c;go_enter func116,ntmps116
   go_wp2_with (go_at_call 67; refine(bM _ _ _ _).mono ?_; rintro e w1 ⟨rfl,rfl⟩)
   go_ret;exact⟨ai (aa a).symm,aj _ _⟩
 have a:Hid (right f=false):=by show right f=_; simp[right,form,b,G,H]
 clear b d c;go_enter func116,ntmps116
 go_wp2_with (go_at_call 67; refine(bM _ _ _ _).mono ?_; rintro e w1 ⟨rfl,rfl⟩)
 go_ret;exact⟨ai (aa a).symm,aj _ _⟩
def keyErr (l z x y:Int):Int:=
 if l<0\/3<l then 2 else if z<0\/22<z then 3
 else if x<0\/(2:Int) ^ z.toNat<=x\/y<0\/(2:Int) ^ z.toNat<=y then 4 else 0
theorem bh (z:Int)(w:World):
  Calls prog 120 #[z] w fun e w'=>e=.returned (.bool (dm z 0 22))/\w=w':=by
 by_cases b:0<=z
 ·by_cases c:z<=22
  ·have a:=ae (dM b c)
   go_enter func120,ntmps120
   go_wp2
   go_ret;exact⟨ai (aa a).symm,rfl⟩
  have a:=ae (jn (n:=z) (lo:=0) (hi:=22) (by omega))
  go_enter func120,ntmps120
  go_wp2
  go_ret;exact⟨ai (aa a).symm,rfl⟩
 have a:=ae (jo (n:=z) (lo:=0) (hi:=22) (by omega))
 go_enter func120,ntmps120
 go_wp2
 go_ret;exact⟨ai (aa a).symm,rfl⟩
theorem gi (z:Int)(h:z<=22):(1:Int)<=(2:Int) ^ z.toNat/\(2:Int) ^ z.toNat<=4194304:=by
 have a:z.toNat<=22:=by omega
 have b:(2:Nat) ^ z.toNat<=2 ^ 22:=Nat.pow_le_pow_right (by decide) a
 have c:1<=(2:Nat) ^ z.toNat:=Nat.one_le_two_pow
 have e:((2:Int) ^ z.toNat)=(((2:Nat) ^ z.toNat:Nat):Int):=by simp
 rw[e];omega
theorem eO (x N:Int)(h:1<=N):0<x / N↔N<=x:=by
 have:=Int.le_ediv_iff_mul_le (a:=1) (b:=x) (c:=N) (by omega)
 omega
theorem dF (l z x y:Int)(h:l<0\/3<l):keyErr l z x y=2:=by unfold keyErr; rw[zJ h]
theorem dW (l z x y:Int)(h:¬(l<0\/3<l))(a:z<0\/22<z):keyErr l z x y=3:=by unfold keyErr; rw[zK h,zJ a]
theorem gZ (l z x y:Int)(h:¬(l<0\/3<l))(b:¬(z<0\/22<z))(a:x<0\/(2:Int) ^ z.toNat<=x\/y<0\/(2:Int) ^ z.toNat<=y):keyErr l z x y=4:=by unfold keyErr; rw[zK h,zK b,zJ a]
theorem g8 (l z x y:Int)(h:¬(l<0\/3<l))(b:¬(z<0\/22<z))(a:¬(x<0\/(2:Int) ^ z.toNat<=x\/y<0\/(2:Int) ^ z.toNat<=y)):keyErr l z x y=0:=by unfold keyErr; rw[zK h,zK b,zK a]
theorem bV (l z x y:Int)(w:World):
  Calls prog 75 #[.agg #[l,z,x,y]] w fun e w'=>e=.returned (.int .i64 (keyErr l z x y))/\Below w.heap.size w w':=by
 by_cases k:l<0
 ·have a:=ae (dF l z x y (Or.inl k))
  go_enter func75,ntmps75
  go_wp2_with (go_at_call 120; refine(bh _ _).mono ?_; rintro e w1 ⟨rfl,rfl⟩)
  go_ret;exact⟨aB (aa a).symm,bu.alloc aD _⟩
 by_cases m:3<l
 ·have a:=ae (dF l z x y (Or.inr m))
  go_enter func75,ntmps75
  go_wp2_with (go_at_call 120; refine(bh _ _).mono ?_; rintro e w1 ⟨rfl,rfl⟩)
  go_ret;exact⟨aB (aa a).symm,bu.alloc aD _⟩
 have c:¬(l<0\/3<l):=by omega
 by_cases i:z<0
 ·have a:=ae (dW l z x y c (Or.inl i))
  have h:=jo (n:=z) (lo:=0) (hi:=22) i;clear c;go_enter func75,ntmps75
  go_wp2_with (go_at_call 120; refine(bh _ _).mono ?_; rintro e w1 ⟨rfl,rfl⟩)
  go_ret;exact⟨aB (aa a).symm,bu.alloc aD _⟩
 by_cases j:22<z
 ·have a:=ae (dW l z x y c (Or.inr j))
  have h:=jn (n:=z) (lo:=0) (hi:=22) j;clear c;go_enter func75,ntmps75
  go_wp2_with (go_at_call 120; refine(bh _ _).mono ?_; rintro e w1 ⟨rfl,rfl⟩)
  go_ret;exact⟨aB (aa a).symm,bu.alloc aD _⟩
 have g:¬(z<0\/22<z):=by omega
 have h:=dM (n:=z) (lo:=0) (hi:=22) (by omega) (by omega)
 have K4:=ae (gZ l z x y c g);have b:=ae (g8 l z x y c g)
 obtain⟨s,t⟩:=gi z (by omega)
 have hw:wrap64 ((2:Int) ^ z.toNat)=(2:Int) ^ z.toNat:=z6 _ ⟨by omega,by omega⟩
 obtain⟨d,f⟩:∃d,(2:Int) ^ z.toNat=d:=⟨_,rfl⟩;rw[f] at s t K4 b;have u:wrap64 ((2:Int) ^ z.toNat)=d:=hw.trans f;clear f hw c g
 by_cases o:x<0
 ·have a:=ae (aa K4 (Or.inl o))
  clear K4 b;go_enter func75,ntmps75
  go_wp2_with (go_at_call 120; refine(bh _ _).mono ?_; rintro e w1 ⟨rfl,rfl⟩)
  go_ret;exact⟨aB (aa a).symm,bu.alloc aD _⟩
 by_cases p:d<=x
 ·have a:=ae (aa K4 (Or.inr (Or.inl p)))
  clear K4 b;go_enter func75,ntmps75
  go_wp2_with (go_at_call 120; refine(bh _ _).mono ?_; rintro e w1 ⟨rfl,rfl⟩)
  go_ret;exact⟨aB (aa a).symm,bu.alloc aD _⟩
 by_cases q:y<0
 ·have a:=ae (aa K4 (Or.inr (Or.inr (Or.inl q))))
  clear K4 b;go_enter func75,ntmps75
  go_wp2_with (go_at_call 120; refine(bh _ _).mono ?_; rintro e w1 ⟨rfl,rfl⟩)
  go_ret;exact⟨aB (aa a).symm,bu.alloc aD _⟩
 by_cases r:d<=y
 ·have a:=ae (aa K4 (Or.inr (Or.inr (Or.inr r))))
  clear K4 b;go_enter func75,ntmps75
  go_wp2_with (go_at_call 120; refine(bh _ _).mono ?_; rintro e w1 ⟨rfl,rfl⟩)
  go_ret;exact⟨aB (aa a).symm,bu.alloc aD _⟩
 have a:=ae (aa b (by omega))
 clear K4 b;go_enter func75,ntmps75
 go_wp2_with (go_at_call 120; refine(bh _ _).mono ?_; rintro e w1 ⟨rfl,rfl⟩)
 go_ret;exact⟨aB (aa a).symm,bu.alloc aD _⟩
theorem bq (l z x y:Int)(w:World):
  Calls prog 78 #[.agg #[l,z,x,y]] w fun e w'=>e=.returned (.int .i64 (keyErr l z x y))/\Below w.heap.size w w':=by
 by_cases n:l<0
 ·have a:=ae (dF l z x y (Or.inl n))
  go_enter func78,ntmps78
  go_wp2
  go_ret;exact⟨aB (aa a).symm,bu.alloc aD _⟩
 by_cases o:3<l
 ·have a:=ae (dF l z x y (Or.inr o))
  go_enter func78,ntmps78
  go_wp2
  go_ret;exact⟨aB (aa a).symm,bu.alloc aD _⟩
 have b:¬(l<0\/3<l):=by omega
 by_cases p:z<0
 ·have a:=ae (dW l z x y b (Or.inl p))
  clear b;go_enter func78,ntmps78
  go_wp2
  go_ret;exact⟨aB (aa a).symm,bu.alloc aD _⟩
 by_cases q:22<z
 ·have a:=ae (dW l z x y b (Or.inr q))
  clear b;go_enter func78,ntmps78
  go_wp2
  go_ret;exact⟨aB (aa a).symm,bu.alloc aD _⟩
 have d:¬(z<0\/22<z):=by omega
 have K4:=ae (gZ l z x y b d);have c:=ae (g8 l z x y b d)
 obtain⟨f,v⟩:=gi z (by omega)
 clear b d
 by_cases r:x<0
 ·have a:=ae (aa K4 (Or.inl r))
  clear K4 c;go_enter func78,ntmps78
  go_wp2
  go_ret;exact⟨aB (aa a).symm,bu.alloc aD _⟩
 by_cases s:y<0
 ·have a:=ae (aa K4 (Or.inr (Or.inr (Or.inl s))))
  clear K4 c;go_enter func78,ntmps78
  go_wp2
  go_ret;exact⟨aB (aa a).symm,bu.alloc aD _⟩
 have k:=eO x _ f;have m:=eO y _ f;have g:=ae k;have h:=ae m;clear k m f v
 by_cases i:0<x / (2:Int) ^ z.toNat
 ·have a:=ae (aa K4 (Or.inr (Or.inl ((aa g).1 i))))
  clear K4 c;go_enter func78,ntmps78
  go_wp2
  go_ret;exact⟨aB (aa a).symm,bu.alloc aD _⟩
 by_cases j:0<y / (2:Int) ^ z.toNat
 ·have a:=ae (aa K4 (Or.inr (Or.inr (Or.inr ((aa h).1 j)))))
  clear K4 c;go_enter func78,ntmps78
  go_wp2
  go_ret;exact⟨aB (aa a).symm,bu.alloc aD _⟩
 have t:¬(2:Int) ^ z.toNat<=x:=fun e=>i ((aa g).2 e);have u:¬(2:Int) ^ z.toNat<=y:=fun e=>j ((aa h).2 e)
 have a:=ae (aa c (by omega))
 clear K4 c t u;go_enter func78,ntmps78
 go_wp2
 go_ret;exact⟨aB (aa a).symm,bu.alloc aD _⟩
def un (z:Int):Int:=(2:Int) ^ (27-z.toNat)
theorem un_eq (n:Nat)(h:n<=22):(134217728:Int) / (2:Int) ^ n=(2:Int) ^ (27-n)/\(32:Int)<=(2:Int) ^ (27-n)/\(2:Int) ^ (27-n)<=134217728/\(2:Int) ^ n*(2:Int) ^ (27-n)=134217728:=by
 have:n∈List.range 23:=by simp; omega
 have key:∀m∈List.range 23,(134217728:Int) / (2:Int) ^ m=(2:Int) ^ (27-m)/\(32:Int)<=(2:Int) ^ (27-m)/\(2:Int) ^ (27-m)<=134217728/\(2:Int) ^ m*(2:Int) ^ (27-m)=134217728:=by decide
 exact key n this
theorem unit_yes (z:Int)(w:World)(a:0<=z)(b:z<=22):
  Calls prog 122 #[z] w fun e w'=>e=.returned (.int .i64 (un z))/\w=w':=by
 have h:=dM a b
 have c:=ae (un_eq z.toNat (by omega)).1
 go_enter func122,ntmps122
 go_wp2_with (go_at_call 120; refine(bh _ _).mono ?_; rintro e w1 ⟨rfl,rfl⟩)
 go_ret;exact⟨aB (aa c),rfl⟩
theorem gS (z:Int)(w:World)(f:0<=z)(g:z<=22):
  Calls prog 161 #[z] w fun e w'=>e=.returned (.int .i64 (un z))/\w=w':=by
 have a:(27-z).toNat=27-z.toNat:=by omega
 obtain⟨_,b,c,_⟩:=un_eq z.toNat (by omega)
 have hw:wrap64 ((2:Int) ^ (27-z.toNat))=(2:Int) ^ (27-z.toNat):=z6 _ ⟨by omega,by omega⟩
 rw[<-a] at hw b c
 have d:Hid ((2:Int) ^ (27-z).toNat=un z):=by show _=un z; rw[a]; rfl
 clear a;go_enter func161,ntmps161
 go_wp2
 go_ret;exact⟨aB (aa d),rfl⟩
theorem held39:prog.stoodInHeld 39=false:=by kernel_rfl
theorem flds39:prog.underlying 39=some (.struct (prog.fieldsOf 39)):=by kernel_rfl
theorem flds39' : (Tryz.prog.fieldsOf 39).toList.map (fun f => (f.type, f.offset, f.name == "_")) = [(3, 0, false), (3, 1, false), (3, 2, false), (3, 3, false)] := by kernel_rfl
theorem kJ (w:World)(l z x y e i f g:Int):(Op.equalIn 10000 39 (.agg #[l,z,x,y]) (.agg #[e,i,f,g])).run prog w=.ok (decide ((⟨l,z,x,y⟩:K4)=⟨e,i,f,g⟩)) w:=by
 rw[run_equalIn_agg w 9999 39 _ _ flds39 held39];have h:=flds39'
 rcases hf:(prog.fieldsOf 39).toList with _|⟨J,_|⟨K,_|⟨L,_|⟨M,_|⟨N,O⟩⟩⟩⟩⟩<;>rw[hf] at h<;>simp at h
 obtain⟨⟨o,p,q⟩,⟨r,s,t⟩,⟨u,v,A⟩,⟨B,C,D⟩⟩:=h;have I:∀(a b:Int),(Op.equalIn 9999 3 (.int .i64 a) (.int .i64 b)).run prog w=.ok (a==b) w:=fun a b=>run_equalIn_int w 9998 3 _ _ a b underlying3
 have j:∀(a b c d:Int),(part 3 #[a,b,c,d] 0).run prog w=.ok (.int .i64 a) w:=fun a b c d=>by simp[go_sem]
 have k:∀(a b c d:Int),(part 3 #[a,b,c,d] 1).run prog w=.ok (.int .i64 b) w:=fun a b c d=>by simp[go_sem]
 have m:∀(a b c d:Int),(part 3 #[a,b,c,d] 2).run prog w=.ok (.int .i64 c) w:=fun a b c d=>by simp[go_sem]
 have n:∀(a b c d:Int),(part 3 #[a,b,c,d] 3).run prog w=.ok (.int .i64 d) w:=fun a b c d=>by simp[go_sem]
 by_cases E:l=e<;>by_cases F:z=i<;>by_cases G:x=f<;>by_cases H:y=g <;>
 simp only[Op.eqFields,o,p,q,r,s,t,u,v,A,B,C,D,ne_eq,not_false_eq_true,if_true,Sem.run_bind,Sem.run_ite,j,k,m,n,I,Result.andThen_ok,K4.mk.injEq]<;>simp[E,F,G,H]
theorem eql39 (w:World)(l z x y a d b c:Int):(binOp .eql 39 (.agg #[l,z,x,y]) (.agg #[a,d,b,c])).run prog w=.ok (.bool (decide ((⟨l,z,x,y⟩:K4)=⟨a,d,b,c⟩))) w:=by
 rw[run_eql_struct,kJ]; rfl
theorem neq39 (w:World)(l z x y a d b c:Int):(binOp .neq 39 (.agg #[l,z,x,y]) (.agg #[a,d,b,c])).run prog w=.ok (.bool (!decide ((⟨l,z,x,y⟩:K4)=⟨a,d,b,c⟩))) w:=by
 rw[run_neq_struct,kJ]; rfl
theorem bG (x:Int)(h:-9223372036854775808<=x/\x<=9223372036854775807):IntKind.i64.wrap x=x:=by rw[IntKind.wrap_i64]; omega
theorem bj (l z x y:Int):(prog.info? 39).map (·.size)=some (#[Value.int .i64 l,Value.int .i64 z,Value.int .i64 x,Value.int .i64 y]:Array Value).size:=by kernel_rfl
theorem kL (l z x y:Int)(w:World)(b:0<=x/\x<=9223372036854775807)(hy:0<=y/\y<=9223372036854775807):
  Calls prog 132 #[.agg #[l,z,x,y]] w fun e w'=>e=.returned (.agg #[l,z,.int .i64 (x-x%2),.int .i64 (y-y%2)])/\Below w.heap.size w w':=by
 have c:IntKind.i64.wrap (x-Int.tmod x 2)=x-x%2:=by rw[Int.tmod_eq_emod_of_nonneg b.1]; exact bG _ (by omega)
 have d:IntKind.i64.wrap (y-Int.tmod y 2)=y-y%2:=by rw[Int.tmod_eq_emod_of_nonneg hy.1]; exact bG _ (by omega)
 go_enter func132,ntmps132
 go_wp2_with fail
 have a:=zZ (w.alloc (.cells #[l,z,.int .i64 (x-x%2),.int .i64 (y-y%2)] 39)) (.cells #[l,z,.int .i64 (x-x%2),.int .i64 (y-y%2)] 39)
 rw[show(w.alloc (.cells #[l,z,.int .i64 (x-x%2),.int .i64 (y-y%2)] 39)).heap.size=w.heap.size+1 by simp] at a
 refine zL (v:=.agg #[l,z,.int .i64 (x-x%2),.int .i64 (y-y%2)]) (results_cell_row results132 _ _ (w.heap.size+1) 39 _ (0,0) _ rfl a underlying39 rfl (bj _ _ _ _)) rfl ⟨rfl,?_⟩
 exact(bu.alloc aD _).alloc (by simp) _
theorem lY (a b:Int)(d:-1073741824<=a/\a<=1073741824)(e:-1073741824<=b/\b<=1073741824):-1152921504606846976<=a*b/\a*b<=1152921504606846976:=by
 have h:=Nat.mul_le_mul (show a.natAbs<=1073741824 by omega) (show b.natAbs<=1073741824 by omega)
 rw[<-Int.natAbs_mul] at h;generalize a*b=c at *;omega
theorem kI (a b:Int)(c:-1073741824<=a/\a<=1073741824)(d:-1073741824<=b/\b<=1073741824):wrap64 (a*b)=a*b:=by
 have:=lY a b c d
 exact z6 _ ⟨by omega,by omega⟩
theorem dH (x:Int)(h:-9223372036854775808<=x/\x<=9223372036854775807):IntKind.i64.wrap x=x:=by rw[IntKind.wrap_i64]; omega
theorem aG {B:Nat}{a w:World}(h:Below B a w)(b:B<=a.heap.size)(o:Obj):Below B a (w.alloc o):=h.alloc (zF b h.size) o
theorem ap {B:Nat}{a w:World}(h:Below B a w)(n:Nat):Below B a (w.drewN n):=⟨h.os,h.tape,h.output,h.size,h.block⟩
theorem eJ (a b:Int)(w:World)(c:-1073741824<=a/\a<=1073741824)(d:-1073741824<=b/\b<=1073741824):
  Calls prog 196 #[a,b] w fun e w'=>e=.returned (.int .i64 (a*b))/\w=w':=by
 have h:=kI a b c d;clear c d;go_enter func196,ntmps196
 go_wp2
 go_ret;exact⟨aB h,rfl⟩
def cnt (ax ay bx yb x y:Int):Bool:=
 if ay<=y/\y<yb then decide ((x-ax)*(yb-ay)<(bx-ax)*(y-ay))
 else if yb<=y/\y<ay then decide ((x-bx)*(ay-yb)<(ax-bx)*(y-yb)) else false
def dC (a:Int):Prop:=0<=a/\a<=1073741824
theorem iJ (c a d b x y:Int)(w:World)(i:dC c)(j:dC a)(k:dC d)(l:dC b)(m:dC x)(n:dC y):
  Calls prog 162 #[c,a,d,b,x,y] w fun e w'=>e=.returned (.bool (cnt c a d b x y))/\w=w':=by
 unfold dC at i j k l m n
 have p:=kI (d-c) (y-a) (by omega) (by omega)
 have q:=kI (x-c) (b-a) (by omega) (by omega)
 have r:=kI (c-d) (y-b) (by omega) (by omega)
 have s:=kI (x-d) (a-b) (by omega) (by omega)
 by_cases h:a<=y
 ·by_cases g:y<b
  ·have f:Hid (cnt c a d b x y=decide ((x-c)*(b-a)<(d-c)*(y-a))):=by show cnt c a d b x y=_; simp[cnt,h,g]
   go_enter func162,ntmps162
   go_wp2
   go_ret;exact⟨ai (aa f).symm,rfl⟩
  have f:Hid (cnt c a d b x y=false):=by show cnt c a d b x y=_; simp[cnt,h,g]; intros; omega
  go_enter func162,ntmps162
  go_wp2
  go_ret;exact⟨ai (aa f).symm,rfl⟩
 by_cases g:b<=y
 ·have f:Hid (cnt c a d b x y=decide ((x-d)*(a-b)<(c-d)*(y-b))):=by show cnt c a d b x y=_; simp[cnt,h,g]; intros; omega
  have o:y<a:=by omega
  go_enter func162,ntmps162
  go_wp2
  go_ret;exact⟨ai (aa f).symm,rfl⟩
 have f:Hid (cnt c a d b x y=false):=by show cnt c a d b x y=_; simp[cnt,h,g]
 go_enter func162,ntmps162
 go_wp2
 go_ret;exact⟨ai (aa f).symm,rfl⟩
theorem counts_up (b a d c x y:Int)(w:World)(l:dC b)(m:dC a)(n:dC d)(o:dC c)(p:dC x)(q:dC y)(j:a<=y)(k:y<c):
  Calls prog 189 #[.agg #[b,a],.agg #[d,c],.agg #[x,y]] w fun e w'=>e=.returned (.bool (cnt b a d c x y))/\Below w.heap.size w w':=by
 unfold dC at l m n o p q
 have r:Hid (cnt b a d c x y=decide ((x-b)*(c-a)<(d-b)*(y-a))):=by show cnt b a d c x y=_; simp[cnt,j,k]
 have s:¬c<a:=by omega
 have t:decide (y<a)=false:=zG (by omega)
 have u:=dH (d-b) (by omega)
 have v:=dH (y-a) (by omega)
 have z:=dH (x-b) (by omega)
 have A:=dH (c-a) (by omega)
 have g:=fun f=>eJ (d-b) (y-a) f (by omega) (by omega)
 have i:=fun f=>eJ (x-b) (c-a) f (by omega) (by omega)
 go_enter func189,ntmps189
 go_wp2
 go_region
 all_goals
  go_wp2
  go_quiet (first|exact(g _).mono fun e w' h=>⟨h.1,_,h.2.symm⟩|exact(i _).mono fun e w' h=>⟨h.1,_,h.2.symm⟩)
  go_wp2
  go_ret;refine⟨ai (aa r).symm,?_⟩
  repeat first|exact zV _ _|refine ap ?_ _|refine zE ?_|refine aG ?_ aD _
theorem counts_down (d c b a x y:Int)(w:World)(l:dC d)(m:dC c)(n:dC b)(o:dC a)(p:dC x)(q:dC y)(j:a<=y)(k:y<c):
  Calls prog 189 #[.agg #[d,c],.agg #[b,a],.agg #[x,y]] w fun e w'=>e=.returned (.bool (cnt d c b a x y))/\Below w.heap.size w w':=by
 unfold dC at l m n o p q
 have r:Hid (cnt d c b a x y=decide ((x-b)*(c-a)<(d-b)*(y-a))):=by show cnt d c b a x y=_; simp[cnt,j,k]; intros; omega
 have s:a<c:=by omega
 have t:decide (y<a)=false:=zG (by omega)
 have u:=dH (d-b) (by omega)
 have v:=dH (y-a) (by omega)
 have z:=dH (x-b) (by omega)
 have A:=dH (c-a) (by omega)
 have g:=fun f=>eJ (d-b) (y-a) f (by omega) (by omega)
 have i:=fun f=>eJ (x-b) (c-a) f (by omega) (by omega)
 go_enter func189,ntmps189
 go_wp2
 go_region
 all_goals
  go_wp2
  go_region
  all_goals
   go_wp2
   go_quiet (first|exact(g _).mono fun e w' h=>⟨h.1,_,h.2.symm⟩|exact(i _).mono fun e w' h=>⟨h.1,_,h.2.symm⟩)
   go_wp2
   go_ret;refine⟨ai (aa r).symm,?_⟩
   repeat first|exact zV _ _|refine ap ?_ _|refine zE ?_|refine aG ?_ aD _
theorem nQ (c a d b x y:Int)(w:World)(h:(y<a/\y<b)\/(a<=y/\b<=y)):
  Calls prog 189 #[.agg #[c,a],.agg #[d,b],.agg #[x,y]] w fun e w'=>e=.returned (.bool (cnt c a d b x y))/\Below w.heap.size w w':=by
 have k:Hid (cnt c a d b x y=false):=by
  show cnt c a d b x y=_;unfold cnt
  rw[zK (by omega),zK (by omega)]
 rcases h with⟨f,g⟩|⟨f,g⟩
 focus
  have i:decide (y<a)=true:=zU f;have j:decide (y<b)=true:=zU g
 rotate_left
 focus
  have i:decide (y<a)=false:=zG (by omega)
  have j:decide (y<b)=false:=zG (by omega)
 all_goals
  clear f g;go_enter func189,ntmps189
  go_wp2
  go_ret;refine⟨ai (aa k).symm,?_⟩
  repeat first|exact zV _ _|refine ap ?_ _|refine zE ?_|refine aG ?_ aD _
theorem counts_any (c b d a x y:Int)(w:World)(g:dC c)(h:dC b)(i:dC d)(j:dC a)(k:dC x)(l:dC y):
  Calls prog 189 #[.agg #[c,b],.agg #[d,a],.agg #[x,y]] w fun e w'=>e=.returned (.bool (cnt c b d a x y))/\Below w.heap.size w w':=by
 by_cases m:b<=y
 ·by_cases f:y<a
  ·exact counts_up c b d a x y w g h i j k l m f
  exact nQ c b d a x y w (by omega)
 by_cases f:a<=y
 ·exact counts_down c b d a x y w g h i j k l f (by omega)
 exact nQ c b d a x y w (by omega)
def near (mx my r x y:Int):Bool:=decide ((x-mx)*(x-mx)+(y-my)*(y-my)<=r*r)
theorem isNear_any (a b c x y:Int)(w:World)(d:dC a)(f:dC b)(g:dC x)(h:dC y)(i:dC c):
  Calls prog 188 #[.agg #[a,b],c,.agg #[x,y]] w fun e w'=>e=.returned (.bool (near a b c x y))/\Below w.heap.size w w':=by
 unfold dC at d f g h i
 have j:=lY (x-a) (x-a) (by omega) (by omega)
 have k:=lY (y-b) (y-b) (by omega) (by omega)
 have l:wrap64 ((x-a)*(x-a)+(y-b)*(y-b))=(x-a)*(x-a)+(y-b)*(y-b):=z6 _ ⟨by omega,by omega⟩
 clear j k;go_enter func188,ntmps188
 go_wp2_with (go_at_call 196; refine(eJ _ _ _ ⟨by omega,by omega⟩ ⟨by omega,by omega⟩).mono ?_; rintro e w1 ⟨rfl,rfl⟩)
 go_ret;refine⟨ai ?_,?_⟩
 ·rfl
 repeat first|exact zV _ _|refine ap ?_ _|refine zE ?_|refine aG ?_ aD _
abbrev Cq (w:World):World->Prop:=fun w'=>Below w.heap.size w w'
theorem aM {e:Nat}{b:Exit->Act->World->Prop}{a:Act}{w:World}{l:List Oper}(hm:prog.follows .mixedOrders=true)(d:Region.lexB .any l.toArray=true)
  (h:wpQuiet prog l.toArray (Cq w) (fun c=>∀w',Below w.heap.size w w'->b .normal c w') l a):(Code.region e l.toArray true).wp prog b a w:=
 wp_region_quiet (C:=Cq w) hm d (zE bu) (by simpa using h)
section
variable {ops:Array Oper}{w:World}{Q:Act->Prop}{a:Act}{o:Oper}{rest:List Oper}
theorem q_val (hw:Region.wanted o (yielded ops a.tmps)=true)(v:Value)(h:∀w',Below w.heap.size w w'->(execOp a.eval o).run prog w'=.ok (.value v) w')(d:wpQuiet prog ops (Cq w) Q rest (a.put o.dst v)):
  wpQuiet prog ops (Cq w) Q (o::rest) a:=
 BigFrame.wpQuiet_want hw fun _ c=>⟨v,fun w' b=>by unfold Oper.quietAt; rw[h w' b]; exact⟨rfl,rfl⟩,c _ d⟩
theorem lN (hw:Region.wanted o (yielded ops a.tmps)=true)(x:Operand)(d:o.op=.move x)(v:Value)(e:a.eval x=v)(c:wpQuiet prog ops (Cq w) Q rest (a.put o.dst v)):
  wpQuiet prog ops (Cq w) Q (o::rest) a:=
 BigFrame.wpQuiet_want hw fun _ b=>BigFrame.quiet_move x d (by rw[e]; exact b _ c)
theorem bF (hw:Region.wanted o (yielded ops a.tmps)=true)(x:Operand)(d:o.op=.assign x)(v:Value)(e:a.eval x=v)(c:wpQuiet prog ops (Cq w) Q rest (a.put o.dst v)):
  wpQuiet prog ops (Cq w) Q (o::rest) a:=
 BigFrame.wpQuiet_want hw fun _ b=>BigFrame.quiet_assign x d (by rw[e]; exact b _ c)
theorem kn (hw:Region.wanted o (yielded ops a.tmps)=false)(b:wpQuiet prog ops (Cq w) Q rest (a.put o.dst undef)):
  wpQuiet prog ops (Cq w) Q (o::rest) a:=BigFrame.wpQuiet_skip hw b
theorem aR (hw:Region.wanted o (yielded ops a.tmps)=true)(c:TypeId)(x:Operand)(i:o.op=.load c x)(b off:Nat)(k:a.eval x=.pointer (some ⟨b,off,none⟩))(cs:Array Value)(d:TypeDesc)
  (j:prog.underlying c=some d) (g:d.isRow=true) (hi:(prog.info? c).map (·.size)=some cs.size)
  (f:∀w',Below w.heap.size w w'->w'.rangeAt b off cs.toList) (h:wpQuiet prog ops (Cq w) Q rest (a.put o.dst (.agg cs))) :
  wpQuiet prog ops (Cq w) Q (o::rest) a:=by
 refine q_val hw _ (fun w' e=>?_) h
 have:=run_loadVar_mid (P:=prog) w' b off c cs.toList d (f w' e) j g (by simpa using hi)
 unfold execOp;simp only[i,k,Instr.loadAt,Instr.sureAddr,Sem.run_bind,Sem.run_pure,Result.andThen_ok,this,Array.toArray_toList]
theorem br (hw:Region.wanted o (yielded ops a.tmps)=true)(f:FuncId)(args:Array Value)(d:∀w',(execOp a.eval o).run prog w'=.ok (.enter f args) w')(v:Value)
  (i:∀w',Calls prog f args w' fun e c=>e=.returned v/\Below w'.heap.size w' c) (j:wpQuiet prog ops (Cq w) Q rest (a.put o.dst v)) :
  wpQuiet prog ops (Cq w) Q (o::rest) a:=
 BigFrame.wpQuiet_want hw fun _ g=>⟨v,fun w' b=>by
  unfold Oper.quietAt; rw[d w']
  exact⟨rfl,(i w').mono fun e c h=>⟨h.1,Below.trans b (h.2.mono b.size)⟩⟩,g _ j⟩
end
section
variable {ops:Array Oper}{w:World}{Q:Act->Prop}{a a':Act}{o:Oper}{rest:List Oper}
theorem vK {x:Operand}{p q r s:Int}(b f:Nat)(hc:∀w',Below w.heap.size w w'->w'.rangeAt b f #[.int .i64 p,.int .i64 q,.int .i64 r,.int .i64 s].toList)(hk:wpQuiet prog ops (Cq w) Q rest a')(ho:o.op=.load 39 x:=by rfl)(hx:a.eval x=.pointer (some ⟨b,f,none⟩):=by rfl)(hw:Region.wanted o (yielded ops a.tmps)=true:=by rfl)(e:a.put o.dst (.agg #[.int .i64 p,.int .i64 q,.int .i64 r,.int .i64 s])=a':=by (try simp only[qZ])<;>rfl):wpQuiet prog ops (Cq w) Q (o::rest) a:=by
 subst e;exact aR hw 39 x ho b f hx _ _ underlying39 rfl (bj _ _ _ _) hc hk
theorem vF {x:Operand}{g:Nat->Int}(b f:Nat)(hc:∀w',Below w.heap.size w w'->w'.rangeAt b f (fc g).toList)(hk:wpQuiet prog ops (Cq w) Q rest a')(ho:o.op=.load 66 x:=by rfl)(hx:a.eval x=.pointer (some ⟨b,f,none⟩):=by rfl)(hw:Region.wanted o (yielded ops a.tmps)=true:=by rfl)(e:a.put o.dst (.agg (fc g))=a':=by (try simp only[qZ])<;>rfl):wpQuiet prog ops (Cq w) Q (o::rest) a:=by
 subst e;exact aR hw 66 x ho b f hx _ _ underlying66 rfl (gK _) hc hk
theorem vC {f:FuncId}{g:Array Value}{v:Value}(hc:∀w',Calls prog f g w' fun e w''=>e=.returned v/\Below w'.heap.size w' w'')(hk:wpQuiet prog ops (Cq w) Q rest a')(h0:∀w',(execOp a.eval o).run prog w'=.ok (.enter f g) w':=by exact fun _=>by simp[go_sem])(hw:Region.wanted o (yielded ops a.tmps)=true:=by rfl)(e:a.put o.dst v=a':=by (try simp only[qZ])<;>rfl):wpQuiet prog ops (Cq w) Q (o::rest) a:=by
 subst e;exact br hw f g h0 v hc hk
theorem vA {x:Operand}(v:Value)(hk:wpQuiet prog ops (Cq w) Q rest a')(ho:o.op=.assign x:=by rfl)(hv:a.eval x=v:=by rfl)(hw:Region.wanted o (yielded ops a.tmps)=true:=by rfl)(e:a.put o.dst v=a':=by (try simp only[qZ])<;>rfl):wpQuiet prog ops (Cq w) Q (o::rest) a:=by
 subst e;exact bF hw x ho v hv hk
end
theorem rng_of {a:World}{b:Nat}{cs:Array Value}{t:TypeId}(h:a.heap[b]?=some (.cells cs t (0,0))):a.rangeAt b 0 cs.toList:=by
 intro j v c;rw[zb,af h];simpa using c
theorem dz {a c:World}{b:Nat}{cs:Array Value}{t:TypeId}(h:a.heap[b]?=some (.cells cs t (0,0)))(d:Below a.heap.size a c):c.rangeAt b 0 cs.toList:=rng_of (ag h d)
theorem sz59 (x y:Int):(prog.info? 217).map (·.size)=some (#[Value.int .i64 x,Value.int .i64 y]:Array Value).size:=by kernel_rfl
def cix (f:Nat->Int)(i:Int):Nat:=if i<0\/f 7<=i\/8<=i then 0 else i.toNat
theorem mp (f:Nat->Int)(i:Int)(w:World):
  Calls prog 190 #[.agg (fc f),i] w fun e w'=>e=.returned (.agg #[.int .i64 (f (8+cix f i)),.int .i64 (f (16+cix f i))])/\Below w.heap.size w w':=by
 have c:=aN f 7 (by decide)
 have o:=aN f 8 (by decide)
 have m:=aN f 16 (by decide)
 obtain⟨l,a⟩:∃j,f 7=j:=⟨_,rfl⟩;rw[a] at c
 by_cases d:i<0
 ·have b:Hid (cix f i=0):=by show cix f i=0; simp[cix,d]
  clear a;go_enter func190,ntmps190
  go_wp2
  refine zL (v:=.agg #[.int .i64 (f 8),.int .i64 (f 16)]) (by simp[results,results190,go_sem]) rfl ⟨by rw[aa b],?_⟩
  repeat first|exact zV _ _|refine ap ?_ _|refine zE ?_|refine aG ?_ aD _
 by_cases g:l<=i
 ·have b:Hid (cix f i=0):=by show cix f i=0; simp[cix,g,a]
  clear a;go_enter func190,ntmps190
  go_wp2
  refine zL (v:=.agg #[.int .i64 (f 8),.int .i64 (f 16)]) (by simp[results,results190,go_sem]) rfl ⟨by rw[aa b],?_⟩
  repeat first|exact zV _ _|refine ap ?_ _|refine zE ?_|refine aG ?_ aD _
 by_cases h:8<=i
 ·have b:Hid (cix f i=0):=by show cix f i=0; simp[cix,h]
  clear a;go_enter func190,ntmps190
  go_wp2
  refine zL (v:=.agg #[.int .i64 (f 8),.int .i64 (f 16)]) (by simp[results,results190,go_sem]) rfl ⟨by rw[aa b],?_⟩
  repeat first|exact zV _ _|refine ap ?_ _|refine zE ?_|refine aG ?_ aD _
 obtain⟨k,rfl⟩:=Int.eq_ofNat_of_zero_le (show 0<=i by omega)
 have b:Hid (cix f (k:Int)=k):=by show cix f (k:Int)=k; unfold cix; rw[zK (by rw[a]; omega)]; simp
 have p:=aN f (8+k) (by omega)
 have q:=aN f (16+k) (by omega)
 have n:k<8:=by omega
 clear a;go_enter func190,ntmps190
 go_wp2
 go_region
 all_goals
  go_wp2
  refine zL (v:=.agg #[.int .i64 (f (8+k)),.int .i64 (f (16+k))]) (by simp[results,results190,go_sem]) rfl ⟨by rw[aa b],?_⟩
  repeat first|exact zV _ _|refine ap ?_ _|refine zE ?_|refine aG ?_ aD _
def ig (f:Nat->Int)(n:Int)(k:Nat)(x y:Int):Bool:=
 cnt (f (8+k)) (f (16+k)) (f (8+(if n<=(k:Int)+1 then 0 else k+1))) (f (16+(if n<=(k:Int)+1 then 0 else k+1))) x y
def lQ (f:Nat->Int)(n:Int)(x y:Int):Nat->Bool
 | 0=>false
 | k+1=>lQ f n x y k != ig f n k x y
def jZ (f:Nat->Int)(u x y:Int):Bool:=if f 2=1 then near (f 8) (f 16) (f 6*u) x y else lQ f (f 7) x y (f 7).toNat
theorem cV {n lo hi:Int}(h:dm n lo hi=true):lo<=n/\n<=hi:=by simpa[dm] using h
structure Rt (f:Nat->Int):Prop where
 id:1<=f 0/\f 0<=1000
 la:0<=f 1/\f 1<=3
 ink:1<=f 3/\f 3<=15
 rk:0<=f 4/\f 4<=9
 fr:0<=f 5/\f 5<=22
 kind:(f 2=0/\f 6=0/\3<=f 7/\f 7<=8)\/(f 2=1/\1<=f 6/\f 6<=3/\f 7=1)
 px:∀i,i<8->dC (f (8+i))
 py:∀i,i<8->dC (f (16+i))
 rest:∀i:Nat,i<8->f 7<=(i:Int)->f (8+i)=0/\f (16+i)=0
theorem ci {f:Nat->Int}(h:right f=true):Rt f:=by
 simp only[right,bO,zl] at h;obtain⟨⟨⟨⟨⟨⟨c,d⟩,g⟩,j⟩,k⟩,a⟩,b⟩:=h;simp only[nC,zi,yL,pt,zl,Bool.not_eq_true',Bool.and_eq_false_iff,Bool.or_eq_false_iff,decide_eq_false_iff_not,Decidable.not_not] at b;refine⟨cV c,cV d,cV g,cV j,cV k,?_,fun i hi=>cV (b i hi).1.1,fun i hi=>cV (b i hi).1.2,fun i hi l=>?_⟩
 ·unfold form at a
  split at a
  ·rename_i e
   simp only[zl,zN] at a;have:=cV a.2;exact Or.inl ⟨e,a.1,this.1,this.2⟩
  split at a
  ·rename_i e
   simp only[zl,zN] at a;have:=cV a.1;exact Or.inr ⟨e,this.1,this.2,a.2⟩
  cases a
 rcases(b i hi).2 with h|h
 ·exact absurd l h
 exact h
theorem cix_at {f:Nat->Int}(k:Nat)(a:(k:Int)<f 7)(b:f 7<=8):cix f (k:Int)=k:=by
 unfold cix; rw[zK (by omega)]; simp
theorem cix_next {f:Nat->Int}(k:Nat)(a:f 7<=8):cix f ((k:Int)+1)=if f 7<=(k:Int)+1 then 0 else k+1:=by
 unfold cix
 by_cases h:f 7<=(k:Int)+1
 ·rw[zJ (Or.inr (Or.inl h)),zJ h]
 rw[zK (by omega),zK h]; omega
theorem covers_any (f:Nat->Int)(u x y:Int)(w:World)(d:Rt f)(P:dC x)(hy:dC y)(ak:0<=u/\u<=134217728):
  Calls prog 160 #[.agg (fc f),u,.agg #[x,y]] w fun e w'=>e=.returned (.bool (jZ f u x y))/\Below w.heap.size w w':=by
 have N:=aN f 2 (by decide)
 have V:=aN f 6 (by decide)
 have W:=aN f 7 (by decide)
 have ah:=aN f 8 (by decide)
 have ac:=aN f 16 (by decide)
 have n:=ae d
 rcases d.kind with⟨c,s,Y,Z⟩|⟨c,s,K,X⟩
 ·have E:Hid (jZ f u x y=lQ f (f 7) x y (f 7).toNat):=by show jZ f u x y=_; simp[jZ,c]
  rw[c] at N;obtain⟨a,C⟩:∃a,f 7=a:=⟨_,rfl⟩;rw[C] at W Y Z;have g:=ae C;clear c s d C;go_enter func160,ntmps160
  go_wp2
  go_loopw [7,8] (fun v i wr=>∃k:Nat,(k:Int)<=a/\i=.int .i64 k/\v=.bool (lQ f a x y k)/\wr.heap[w.heap.size]?=some (.cells (fc f) 66)/\wr.heap[w.heap.size+1]?=some (.cells #[x,y] 217)/\Below w.heap.size w wr) (fun _ i _=>8-(intOf i).toNat)
  ·refine⟨0,by omega,rfl,rfl,?_,?_,?_⟩
   ·rw[yK _ _ _ (by simp)]; exact zZ _ _
   ·simpa using zZ (w.alloc (.cells (fc f) 66)) (.cells #[x,y] 217)
   repeat first|exact zV _ _|refine ap ?_ _|refine zE ?_|refine aG ?_ aD _
  obtain⟨k,aj,rfl,rfl,b,r,o⟩:=hrel;have ab:=af b;have G:=o.size
  by_cases ad:(k:Int)<a
  ·have O:=cix_at (f:=f) k (by rw[aa g]; omega) (by rw[aa g]; omega)
   have B:=cix_next (f:=f) k (by rw[aa g]; omega)
   rw[aa g] at B
   obtain⟨j,q⟩:∃j,(if a<=(k:Int)+1 then 0 else k+1)=j:=⟨_,rfl⟩
   have I:j<8:=by rw[<-q]; split<;>omega
   have z:=fun l=>mp f (k:Int) l;have A:=fun l=>mp f ((k:Int)+1) l;rw[O] at z;rw[B,q] at A
   have m:=fun l=>counts_any (f (8+k)) (f (16+k)) (f (8+j)) (f (16+j)) x y l ((aa n).px k (by omega)) ((aa n).py k (by omega)) ((aa n).px j I) ((aa n).py j I) P hy
   have H:Hid (ig f a k x y=cnt (f (8+k)) (f (16+k)) (f (8+j)) (f (16+j)) x y):=by show ig f a k x y=_; unfold ig; rw[q]
   have J:=dH ((k:Int)+1) (by omega)
   clear O B q
   cases p:ig f a k x y with
   | true=>
    rw[<-aa H,p] at m
    go_wp2
    refine aM (by kernel_rfl) (by kernel_rfl) ?_
    refine vF w.heap.size 0 (fun w' h=>dz b h) ?_;refine lN rfl _ rfl (.int .i64 k) rfl ?_;simp only[qZ]
    refine vC z ?_;refine vF w.heap.size 0 (fun w' h=>dz b h) ?_;refine lN rfl _ rfl (.int .i64 k) rfl ?_;simp only[qZ]
    refine q_val rfl (.int .i64 ((k:Int)+1)) (fun _ _=>by simp[go_sem,J]) ?_
    simp only[qZ]
    refine vC A ?_;refine aR rfl 217 _ rfl (w.heap.size+1) 0 rfl #[x,y] _ underlying217 rfl (sz59 x y) (fun w' h=>dz r h) ?_;simp only[qZ]
    refine vC m ?_;refine zq ?_;intro w' hw'
    go_wp2
    go_roundw
    ·exact⟨k+1,by omega,by go_num,congrArg Value.bool (by simp[lQ,p]),ag b hw',ag r hw',o.trans (hw'.mono G)⟩
    simp[intOf]; omega
   | false=>
    rw[<-aa H,p] at m
    go_wp2
    refine aM (by kernel_rfl) (by kernel_rfl) ?_
    refine vF w.heap.size 0 (fun w' h=>dz b h) ?_;refine lN rfl _ rfl (.int .i64 k) rfl ?_;simp only[qZ]
    refine vC z ?_;refine vF w.heap.size 0 (fun w' h=>dz b h) ?_;refine lN rfl _ rfl (.int .i64 k) rfl ?_;simp only[qZ]
    refine q_val rfl (.int .i64 ((k:Int)+1)) (fun _ _=>by simp[go_sem,J]) ?_
    simp only[qZ]
    refine vC A ?_;refine aR rfl 217 _ rfl (w.heap.size+1) 0 rfl #[x,y] _ underlying217 rfl (sz59 x y) (fun w' h=>dz r h) ?_;simp only[qZ]
    refine vC m ?_;refine zq ?_;intro w' hw'
    go_wp2
    go_roundw
    ·exact⟨k+1,by omega,by go_num,congrArg Value.bool (by simp[lQ,p]),ag b hw',ag r hw',o.trans (hw'.mono G)⟩
    simp[intOf]; omega
  have Q:(k:Int)=a:=by omega
  have M:Hid ((f 7).toNat=k/\f 7=a):=by show(f 7).toNat=k/\f 7=a; rw[aa g]; omega
  clear Q
  go_wp2
  go_ret;refine⟨ai ?_,o⟩;rw[aa E,(aa M).1,(aa M).2]
 have E:Hid (jZ f u x y=near (f 8) (f 16) (f 6*u) x y):=by show jZ f u x y=_; simp[jZ,c]
 rw[c] at N;obtain⟨S,D⟩:∃S,f 6=S:=⟨_,rfl⟩;rw[D] at V s K;have T:=ae D
 have t:dC (S*u):=by
  have:S=1\/S=2\/S=3:=by omega
  unfold dC
  rcases this with rfl|rfl|rfl<;>omega
 have hm:wrap64 (S*u)=S*u:=by unfold dC at t; exact z6 _ ⟨by omega,by omega⟩
 have L:Hid (dC (f 8)/\dC (f 16)):=⟨d.px 0 (by omega),d.py 0 (by omega)⟩
 have U:=ae t;clear c s K X d D t;go_enter func160,ntmps160
 go_wp2_with (go_at_call 188; refine(isNear_any _ _ _ _ _ _ ?_ ?_ ?_ ?_ ?_).mono ?_)
 all_goals first|exact(aa L).1|exact(aa L).2|exact P|exact hy|exact aa U|skip
 rintro e w1 ⟨rfl,F⟩
 have R:Hid (Below w.heap.size w w1):=by
  refine Below.trans ?_ (F.mono ?_)
  ·repeat first|exact zV _ _|refine ap ?_ _|refine zE ?_|refine aG ?_ aD _
  simp; omega
 clear F
 go_wp2
 go_ret;refine⟨ai ?_,aa R⟩;rw[aa E,aa T]
section
variable {ops:Array Oper}{w:World}{Q:Act->Prop}{a a':Act}{o:Oper}{rest:List Oper}
theorem bH (v:Value)(b:wpQuiet Tryz.prog ops (Cq w) Q rest a')(h:∀w',Below w.heap.size w w'->(execOp a.eval o).run Tryz.prog w'=.ok (.value v) w':=by exact fun _ _=>by simp[go_sem])(hw:Region.wanted o (yielded ops a.tmps)=true:=by rfl)(e:a.put o.dst v=a':=by(try simp only[qZ]); rfl):wpQuiet Tryz.prog ops (Cq w) Q (o::rest) a:=by
 subst e;exact q_val hw v h b
theorem bD {x:Operand}(v:Value)(b:wpQuiet Tryz.prog ops (Cq w) Q rest a')(c:o.op=.move x:=by rfl)(d:a.eval x=v:=by rfl)(hw:Region.wanted o (yielded ops a.tmps)=true:=by rfl)(e:a.put o.dst v=a':=by(try simp only[qZ]); rfl):wpQuiet Tryz.prog ops (Cq w) Q (o::rest) a:=by
 subst e;exact lN hw x c v d b
theorem bd (b f:Nat)(c:wpQuiet Tryz.prog ops (Cq w) Q rest a')(h:∀w',Below w.heap.size w w'->(execOp a.eval o).run Tryz.prog w'=.ok (.value (.pointer (some ⟨b,f,none⟩))) w':=by exact fun _ _=>by simp[go_sem])(hw:Region.wanted o (yielded ops a.tmps)=true:=by rfl)(e:a.put o.dst (.pointer (some ⟨b,f,none⟩))=a':=by(try simp only[qZ]); rfl):wpQuiet Tryz.prog ops (Cq w) Q (o::rest) a:=bH _ c h hw e
theorem eI {x:Operand}(b f:Nat)(c:wpQuiet Tryz.prog ops (Cq w) Q rest a')(d:o.op=.move x:=by rfl)(g:a.eval x=.pointer (some ⟨b,f,none⟩):=by rfl)(hw:Region.wanted o (yielded ops a.tmps)=true:=by rfl)(e:a.put o.dst (.pointer (some ⟨b,f,none⟩))=a':=by(try simp only[qZ]); rfl):wpQuiet Tryz.prog ops (Cq w) Q (o::rest) a:=bD _ c d g hw e
end
def lx (f:Nat->Int)(z x y:Int):Bool:=right f && dm z 0 22 && dm x 0 1073741824 && dm y 0 1073741824 && jZ f (un z) x y
theorem iA {f:Nat->Int}(h:right f=true)(w:World):Calls prog 102 #[.agg (fc f)] w fun e w'=>e=.returned (.int .i64 0)/\Below w.heap.size w w':=by
 have:=nU f w; rw[h] at this; exact this
theorem pE {f:Nat->Int}(h:right f=false)(w:World):Calls prog 102 #[.agg (fc f)] w fun e w'=>e=.returned (.int .i64 7)/\Below w.heap.size w w':=by
 have:=nU f w; rw[h] at this; exact this
theorem lA (z:Int)(a:0<=z)(b:z<=22):32<=un z/\un z<=134217728:=by
 have:=un_eq z.toNat (by omega)
 unfold un; exact⟨this.2.1,this.2.2.1⟩
theorem cH {f:Nat->Int}(h:right f=true)(w:World):Calls prog 116 #[.agg (fc f)] w fun e w'=>e=.returned (.bool true)/\Below w.heap.size w w':=by
 have:=jO f w; rw[h] at this; exact this
theorem ji {f:Nat->Int}(h:right f=false)(w:World):Calls prog 116 #[.agg (fc f)] w fun e w'=>e=.returned (.bool false)/\Below w.heap.size w w':=by
 have:=jO f w; rw[h] at this; exact this
theorem lb (b:Bool)(p:Bool)(c:Nat)(h:p=decide (c%2=1)):(p != b)=decide ((bif b then c+1 else c)%2=1):=by
 subst h;cases b
 ·simp
 rcases Nat.mod_two_eq_zero_or_one c with h|h
 ·have:(c+1)%2=1:=by omega
  simp[h,this]
 have:(c+1)%2=0:=by omega
 simp[h,this]
theorem par_end (c:Nat):((c:Int)%2==1)=decide (c%2=1):=by
 rw[yq]; simp; omega
theorem eX (f:Nat->Int)(z x y:Int)(w:World)(h:right f=false\/dm z 0 22=false\/dm x 0 1073741824=false\/dm y 0 1073741824=false):
  Calls prog 105 #[.agg (fc f),z,x,y] w fun e w'=>e=.returned (.bool (lx f z x y))/\Below w.heap.size w w':=by
 have b:=zZ w (.cells (fc f) 66)
 cases i:right f with
 | false=>
  have g:Hid (lx f z x y=false):=by show lx f z x y=_; simp[lx,i]
  clear h;go_enter func105,ntmps105
  go_wp2_with (refine dh rfl _ rfl _ rfl f b ?_)
  refine(ji i _).mono ?_;rintro e w1 ⟨rfl,a⟩;have c:=ag b a;have j:=af c
  have d:=ae ((aj _ _).trans (a.mono (by simp)))
  clear a
  go_wp2_with (go_at_call 67; refine(bM _ _ _ _).mono ?_; rintro e k ⟨rfl,rfl⟩)
  go_ret;exact⟨ai (aa g).symm,aa d⟩
 | true=>
 cases m:dm z 0 22 with
 | false=>
  clear h
  have g:Hid (lx f z x y=false):=by show lx f z x y=_; simp[lx,m]
  go_enter func105,ntmps105
  go_wp2_with (refine dh rfl _ rfl _ rfl f b ?_)
  refine(cH i _).mono ?_;rintro e w1 ⟨rfl,a⟩;have c:=ag b a;have j:=af c
  have d:=ae ((aj _ _).trans (a.mono (by simp)))
  clear a
  go_wp2_with (go_at_call 67; refine(bM _ _ _ _).mono ?_; rintro e k ⟨rfl,rfl⟩)
  go_ret;exact⟨ai (aa g).symm,aa d⟩
 | true=>
 cases l:dm x 0 1073741824 with
 | false=>
  clear h
  have g:Hid (lx f z x y=false):=by show lx f z x y=_; simp[lx,l]
  go_enter func105,ntmps105
  go_wp2_with (refine dh rfl _ rfl _ rfl f b ?_)
  refine(cH i _).mono ?_;rintro e w1 ⟨rfl,a⟩;have c:=ag b a;have j:=af c
  have d:=ae ((aj _ _).trans (a.mono (by simp)))
  clear a
  go_wp2_with (go_at_call 67; refine(bM _ _ _ _).mono ?_; rintro e k ⟨rfl,rfl⟩)
  go_ret;exact⟨ai (aa g).symm,aa d⟩
 | true=>
 cases hy:dm y 0 1073741824 with
 | false=>
  clear h
  have g:Hid (lx f z x y=false):=by show lx f z x y=_; simp[lx,hy]
  go_enter func105,ntmps105
  go_wp2_with (refine dh rfl _ rfl _ rfl f b ?_)
  refine(cH i _).mono ?_;rintro e w1 ⟨rfl,a⟩;have c:=ag b a;have j:=af c
  have d:=ae ((aj _ _).trans (a.mono (by simp)))
  clear a
  go_wp2_with (go_at_call 67; refine(bM _ _ _ _).mono ?_; rintro e k ⟨rfl,rfl⟩)
  go_ret;exact⟨ai (aa g).symm,aa d⟩
 | true=>
  simp[i,m,l,hy] at h
theorem mS (f:Nat->Int)(z x y:Int)(w:World)(l:right f=true)(n:dm z 0 22=true)(q:dm x 0 1073741824=true)(hy:dm y 0 1073741824=true)(o:f 2=1):
  Calls prog 105 #[.agg (fc f),z,x,y] w fun e w'=>e=.returned (.bool (lx f z x y))/\Below w.heap.size w w':=by
 have p:=zZ w (.cells (fc f) 66);have N:=cV q;have O:=cV hy;have r:=(cV n).1;have s:=(cV n).2;have t:=fun K=>gS z K r s;obtain⟨u1,u2⟩:=lA z r s;obtain⟨u,m⟩:∃u,un z=u:=⟨_,rfl⟩;rw[m] at t u1 u2;have d:=ci l
 have C:=aN f 2 (by decide)
 have D:=aN f 6 (by decide)
 have E:=aN f 8 (by decide)
 have v:=aN f 16 (by decide)
 rw[o] at C;obtain⟨S,k⟩:∃S,f 6=S:=⟨_,rfl⟩;obtain⟨X,g⟩:∃S,f 8=S:=⟨_,rfl⟩;obtain⟨c,i⟩:∃S,f 16=S:=⟨_,rfl⟩
 have J:Hid (lx f z x y=near X c (S*u) x y):=by show lx f z x y=_; simp[lx,l,n,q,hy,jZ,o,m,k,g,i]
 have H:dC X:=g▸d.px 0 (by omega)
 have I:dC c:=i▸d.py 0 (by omega)
 have V:1<=S/\S<=3:=by
  rcases d.kind with⟨e,_⟩|⟨_,a,b,_⟩
  ·omega
  omega
 rw[k] at D; rw[g] at E; rw[i] at v
 have M:0<=S*u/\S*u<=1073741824:=by
  have:S=1\/S=2\/S=3:=by omega
  rcases this with rfl|rfl|rfl<;>omega
 unfold dC at H I
 have hm:=dH (S*u) (by omega)
 have F:=lY (x-X) (x-X) (by omega) (by omega)
 have G:=lY (y-c) (y-c) (by omega) (by omega)
 have P:=kI (x-X) (x-X) (by omega) (by omega)
 have Q:=kI (y-c) (y-c) (by omega) (by omega)
 have R:=kI (S*u) (S*u) (by omega) (by omega)
 have T:wrap64 ((x-X)*(x-X)+(y-c)*(y-c))=(x-X)*(x-X)+(y-c)*(y-c):=z6 _ ⟨by omega,by omega⟩
 clear o m d k g i F G;go_enter func105,ntmps105
 go_wp2_with (refine dh rfl _ rfl _ rfl f p ?_)
 refine(cH l _).mono ?_;rintro e w1 ⟨rfl,j⟩;have A:=ag p j;have L:=af A
 have B:=ae ((aj _ _).trans (j.mono (by simp)))
 clear j
 go_wp2_with (go_at_call 67; refine(bM _ _ _ _).mono ?_; rintro e U ⟨rfl,rfl⟩)
 go_quiet (exact(t _).mono fun e w' h=>⟨h.1,_,h.2.symm⟩)
 go_wp2
 go_ret;refine⟨ai ?_,ap (aa B) _⟩;rw[aa J];rfl
theorem lL (f:Nat->Int)(z x y:Int)(w:World)(t:right f=true)(O:dm z 0 22=true)(E:dm x 0 1073741824=true)(hy:dm y 0 1073741824=true)(u:f 2=0):
  Calls prog 105 #[.agg (fc f),z,x,y] w fun e w'=>e=.returned (.bool (lx f z x y))/\Below w.heap.size w w':=by
 have A:=zZ w (.cells (fc f) 66);have B:dC x:=cV E;have D:dC y:=cV hy;have j:=ae (ci t)
 have L:=aN f 2 (by decide)
 have M:=aN f 7 (by decide)
 rw[u] at L;obtain⟨d,s⟩:∃S,f 7=S:=⟨_,rfl⟩
 have P:Hid (lx f z x y=lQ f d x y d.toNat):=by show lx f z x y=_; simp[lx,t,O,E,hy,jZ,u,s]
 have F:3<=d/\d<=8:=by
  rcases(aa j).kind with⟨_,_,a,b⟩|⟨e,_⟩
  ·omega
  omega
 obtain⟨F,ac⟩:=F;rw[s] at M;clear u s;go_enter func105,ntmps105
 go_wp2_with (refine dh rfl _ rfl _ rfl f A ?_)
 refine(cH t _).mono ?_;rintro e w1 ⟨rfl,r⟩;have H:=ag A r;have Q:=af H
 have K:=ae ((aj _ _).trans (r.mono (by simp)))
 clear r
 go_wp2_with (go_at_call 67; refine(bM _ _ _ _).mono ?_; rintro e ad ⟨rfl,rfl⟩)
 go_loopw [16,17,18,19] (fun n i _ _ wr=>∃k c:Nat,(k:Int)<=d/\c<=k/\i=.int .i64 k/\n=.int .i64 c/\Hid (lQ f d x y k=decide (c%2=1))/\∃q,wr=w1.drewN q) (fun _ i _ _ _=>8-(intOf i).toNat)
 ·exact⟨0,0,by omega,by omega,rfl,rfl,ae rfl,0,rfl⟩
 obtain⟨k,c,ab,R,rfl,rfl,o,q,rfl⟩:=hrel
 by_cases X:(k:Int)<d
 ·have Y:=aN f (8+k) (by omega)
  have Z:=aN f (16+k) (by omega)
  have W:(k:Int)<8:=by omega
  by_cases p:(k:Int)+1=d
  ·have C:=fun v=>iJ (f (8+k)) (f (16+k)) (f 8) (f 16) x y v ((aa j).px k (by omega)) ((aa j).py k (by omega)) ((aa j).px 0 (by omega)) ((aa j).py 0 (by omega)) B D
   have l:Hid (ig f d k x y=cnt (f (8+k)) (f (16+k)) (f 8) (f 16) x y):=by show ig f d k x y=_; unfold ig; rw[zJ (by omega)]
   have N:=aN f 8 (by decide)
   have G:=aN f 16 (by decide)
   have I:((k:Int)+1==d)=true:=by simp[p]
   clear p
   cases g:cnt (f (8+k)) (f (16+k)) (f 8) (f 16) x y with
   | true=>
    have m:=ae ((aa l).trans g);rw[g] at C;clear g l
    go_wp2
    go_quiet (exact(C _).mono fun e w' h=>⟨h.1,_,h.2.symm⟩)
    go_wp2
    go_roundw
    ·exact⟨k+1,c+1,by omega,by omega,by go_num,by go_num,ae (by rw[lQ,lb _ _ c (aa o),aa m]; rfl),_,rfl⟩
    simp[intOf]; omega
   | false=>
    have m:=ae ((aa l).trans g);rw[g] at C;clear g l
    go_wp2
    go_quiet (exact(C _).mono fun e w' h=>⟨h.1,_,h.2.symm⟩)
    go_wp2
    go_roundw
    ·exact⟨k+1,c,by omega,by omega,by go_num,by go_num,ae (by rw[lQ,lb _ _ c (aa o),aa m]; rfl),_,rfl⟩
    simp[intOf]; omega
  have C:=fun v=>iJ (f (8+k)) (f (16+k)) (f (8+(k+1))) (f (16+(k+1))) x y v ((aa j).px k (by omega)) ((aa j).py k (by omega)) ((aa j).px (k+1) (by omega)) ((aa j).py (k+1) (by omega)) B D
  have l:Hid (ig f d k x y=cnt (f (8+k)) (f (16+k)) (f (8+(k+1))) (f (16+(k+1))) x y):=by show ig f d k x y=_; unfold ig; rw[zK (by omega)]
  have N:=aN f (8+(k+1)) (by omega)
  have G:=aN f (16+(k+1)) (by omega)
  have I:((k:Int)+1==d)=false:=by simp[p]
  have T:(k:Int)+1<8:=by omega
  have U:((k:Int)+1).toNat=k+1:=by omega
  have V:(0:Int)<=(k:Int)+1:=by omega
  clear p
  cases g:cnt (f (8+k)) (f (16+k)) (f (8+(k+1))) (f (16+(k+1))) x y with
  | true=>
   have m:=ae ((aa l).trans g);rw[g] at C;clear g l
   go_wp2
   go_quiet (exact(C _).mono fun e w' h=>⟨h.1,_,h.2.symm⟩)
   go_wp2
   go_roundw
   ·exact⟨k+1,c+1,by omega,by omega,by go_num,by go_num,ae (by rw[lQ,lb _ _ c (aa o),aa m]; rfl),_,rfl⟩
   simp[intOf]; omega
  | false=>
   have m:=ae ((aa l).trans g);rw[g] at C;clear g l
   go_wp2
   go_quiet (exact(C _).mono fun e w' h=>⟨h.1,_,h.2.symm⟩)
   go_wp2
   go_roundw
   ·exact⟨k+1,c,by omega,by omega,by go_num,by go_num,ae (by rw[lQ,lb _ _ c (aa o),aa m]; rfl),_,rfl⟩
   simp[intOf]; omega
 have J:Hid (d.toNat=k):=by show d.toNat=k; omega
 go_wp2
 go_ret;refine⟨ai ?_,ap (aa K) _⟩;rw[aa P,aa J,aa o];exact par_end c
theorem mT (f:Nat->Int)(z x y:Int)(w:World):
  Calls prog 105 #[.agg (fc f),z,x,y] w fun e w'=>e=.returned (.bool (lx f z x y))/\Below w.heap.size w w':=by
 cases a:right f with
 | false=>exact eX f z x y w (Or.inl a)
 | true=>
 cases c:dm z 0 22 with
 | false=>exact eX f z x y w (Or.inr (Or.inl c))
 | true=>
 cases b:dm x 0 1073741824 with
 | false=>exact eX f z x y w (Or.inr (Or.inr (Or.inl b)))
 | true=>
 cases hy:dm y 0 1073741824 with
 | false=>exact eX f z x y w (Or.inr (Or.inr (Or.inr hy)))
 | true=>
 rcases(ci a).kind with⟨k,_⟩|⟨k,_⟩
 ·exact lL f z x y w a c b hy k
 exact mS f z x y w a c b hy k
def iw (f:Nat->Int)(l z:Int):Bool:=decide (f 1=l) && decide (f 5<=z)
theorem gO (f:Nat->Int)(l z x y:Int)(w:World):
  Calls prog 121 #[.agg (fc f),.agg #[l,z,x,y]] w fun e w'=>e=.returned (.bool (iw f l z))/\Below w.heap.size w w':=by
 have h:=aN f 1 (by decide)
 have i:=aN f 5 (by decide)
 obtain⟨g,b⟩:∃S,f 1=S:=⟨_,rfl⟩;obtain⟨j,a⟩:∃S,f 5=S:=⟨_,rfl⟩
 rw[b] at h; rw[a] at i
 have d:Hid (iw f l z=(decide (g=l) && decide (j<=z))):=by show iw f l z=_; simp[iw,b,a]
 clear b a
 by_cases c:g=l
 ·subst c
  go_enter func121,ntmps121
  go_wp2
  go_ret;refine⟨ai ?_,?_⟩
  ·rw[aa d]; simp
  repeat first|exact zV _ _|refine ap ?_ _|refine zE ?_|refine aG ?_ aD _
 go_enter func121,ntmps121
 go_wp2
 go_ret;refine⟨ai ?_,?_⟩
 ·rw[aa d]; simp[c]
 repeat first|exact zV _ _|refine ap ?_ _|refine zE ?_|refine aG ?_ aD _
theorem gN (f:Nat->Int)(l z x y:Int)(w:World):
  Calls prog 163 #[.agg (fc f),.agg #[l,z,x,y]] w fun e w'=>e=.returned (.bool (iw f l z))/\Below w.heap.size w w':=by
 have h:=aN f 1 (by decide)
 have i:=aN f 5 (by decide)
 obtain⟨g,b⟩:∃S,f 1=S:=⟨_,rfl⟩;obtain⟨j,a⟩:∃S,f 5=S:=⟨_,rfl⟩
 rw[b] at h; rw[a] at i
 have d:Hid (iw f l z=(decide (g=l) && decide (j<=z))):=by show iw f l z=_; simp[iw,b,a]
 clear b a
 by_cases c:g=l
 ·subst c
  go_enter func163,ntmps163
  go_wp2
  go_ret;refine⟨ai ?_,?_⟩
  ·rw[aa d]; simp
  repeat first|exact zV _ _|refine ap ?_ _|refine zE ?_|refine aG ?_ aD _
 go_enter func163,ntmps163
 go_wp2
 go_ret;refine⟨ai ?_,?_⟩
 ·rw[aa d]; simp[c]
 repeat first|exact zV _ _|refine ap ?_ _|refine zE ?_|refine aG ?_ aD _
theorem meet_any (a b c d:Int)(w:World):
  Calls prog 123 #[.agg #[a,b],.agg #[c,d]] w fun e w'=>e=.returned (.bool (decide (a<=d) && decide (c<=b)))/\Below w.heap.size w w':=by
 by_cases f:a<=d
 ·go_enter func123,ntmps123
  go_wp2
  go_ret;refine⟨ai ?_,?_⟩
  ·simp[f]
  repeat first|exact zV _ _|refine ap ?_ _|refine zE ?_|refine aG ?_ aD _
 go_enter func123,ntmps123
 go_wp2
 go_ret;refine⟨ai ?_,?_⟩
 ·simp; intros; omega
 repeat first|exact zV _ _|refine ap ?_ _|refine zE ?_|refine aG ?_ aD _
theorem gM (p u:Int)(w:World)(f:0<=p/\p<=4194304)(a:0<=8*p*u/\8*p*u<=1073741824)(b:0<=8*(p+1)*u/\8*(p+1)*u<=1073741824):
  Calls prog 125 #[p,u] w fun e w'=>e=.returned (.agg #[.int .i64 (8*p*u),.int .i64 (8*(p+1)*u)])/\Below w.heap.size w w':=by
 have c:wrap64 (8*p*u)=8*p*u:=z6 _ ⟨by omega,by omega⟩
 have d:wrap64 (8*(p+1)*u)=8*(p+1)*u:=z6 _ ⟨by omega,by omega⟩
 clear a b;go_enter func125,ntmps125
 go_wp2
 refine zL (v:=.agg #[.int .i64 (8*p*u),.int .i64 (8*(p+1)*u)]) (by simp[results,results125,go_sem,c,d]) rfl ⟨rfl,?_⟩
 repeat first|exact zV _ _|refine ap ?_ _|refine zE ?_|refine aG ?_ aD _
def ac (g:Nat->Int):Array Value:=(Array.range 8).map fun i=>.int .i64 (g i)
theorem pM (g:Nat->Int):(ac g).size=8:=by simp[ac]
theorem ac_at (g:Nat->Int)(i:Nat)(h:i<8):(ac g)[i]?=some (.int .i64 (g i)):=by simp[ac,h]
def oY (g:Nat->Int):Nat->Int
 | 0=>g 0
 | k+1=>if g k<oY g k then g k else oY g k
def oX (g:Nat->Int):Nat->Int
 | 0=>g 0
 | k+1=>if oX g k<g k then g k else oX g k
theorem st0 {X c:World}{n:Nat}{a b v:Int}(d:n=X.heap.size)(h:∃q,c=(X.alloc (.cells #[a,b] 186)).drewN q):∃q,c.setCell ⟨n,0,none⟩ (.int .i64 v)=(X.alloc (.cells #[v,b] 186)).drewN q:=by
 obtain⟨q,rfl⟩:=h;refine⟨q,?_⟩;show((X.alloc (.cells #[a,b] 186)).setCell ⟨n,0,none⟩ (.int .i64 v)).drewN q=_
 rw[World.setCell_alloc_at _ _ _ _ _ d]; rfl
theorem st1 {X c:World}{n:Nat}{a b v:Int}(d:n=X.heap.size)(h:∃q,c=(X.alloc (.cells #[a,b] 186)).drewN q):∃q,c.setCell ⟨n,1,none⟩ (.int .i64 v)=(X.alloc (.cells #[a,v] 186)).drewN q:=by
 obtain⟨q,rfl⟩:=h;refine⟨q,?_⟩;show((X.alloc (.cells #[a,b] 186)).setCell ⟨n,1,none⟩ (.int .i64 v)).drewN q=_
 rw[World.setCell_alloc_at _ _ _ _ _ d]; rfl
theorem dr {W Y:World}(h:∃q,W=Y.drewN q)(m:Nat):∃q,W.drewN m=Y.drewN q:=by
 obtain⟨q,rfl⟩:=h;exact⟨_,World.drewN_drewN _ _ _⟩
theorem kK (f g:Nat->Int)(u:Int)(w:World)(B:1<=f 7/\f 7<=8)(A:∀i,i<8->dC (g i))(x:dC (f 6*u)):
  Calls prog 124 #[.agg (fc f),.agg (ac g),u] w fun e w'=>e=.returned (.agg #[.int .i64 (oY g (f 7).toNat-f 6*u),.int .i64 (oX g (f 7).toNat+f 6*u)])/\Below w.heap.size w w':=by
 have E:=aN f 6 (by decide)
 have F:=aN f 7 (by decide)
 have K:=ac_at g 0 (by decide)
 obtain⟨S,t⟩:∃S,f 6=S:=⟨_,rfl⟩;obtain⟨n,s⟩:∃S,f 7=S:=⟨_,rfl⟩;rw[t] at E x;rw[s] at F B;rw[t,s];clear t s;obtain⟨M,N⟩:=B;unfold dC at x;obtain⟨R,m⟩:∃R,S*u=R:=⟨_,rfl⟩;rw[m] at x
 have O:wrap64 (S*u)=R:=by rw[m]; exact z6 _ ⟨by omega,by omega⟩
 rw[m];clear m;have o:=ae A;clear A;go_enter func124,ntmps124
 go_wp2
 go_loopw [8] (fun i wr=>∃(k:Nat) (a b:Int),1<=k/\(k:Int)<=n/\i=.int .i64 k/\Hid (a=oY g k)/\Hid (b=oX g k)/\dC a/\dC b/\∃q,wr=(((((w.alloc (.cells (fc f) 66)).alloc (.cells (ac g) 64)).alloc (.cells #[(),()] 186)).alloc (.cells #[a,b] 186))).drewN q) (fun i _=>8-(intOf i).toNat)
 ·exact⟨1,g 0,g 0,by omega,by omega,rfl,by simp[Hid,oY],by simp[Hid,oX],aa o 0 (by omega),aa o 0 (by omega),0,rfl⟩
 obtain⟨k,a,b,G,L,rfl,h,j,y,wb,q,rfl⟩:=hrel
 by_cases I:(k:Int)<n
 ·have H:(k:Int)<8:=by omega
  have D:=ac_at g k (by omega)
  obtain⟨d,r⟩:∃S,g k=S:=⟨_,rfl⟩;rw[r] at D;have c:=ae r;clear r
  have l:dC d:=(aa c)▸aa o k (by omega)
  have J:=ae l
  by_cases z:d<a
  ·by_cases p:b<d
   ·go_wp2
    go_quiet (fail)
    go_wp2
    go_quiet (fail)
    go_wp2
    go_roundw
    ·exact⟨k+1,d,d,by omega,by omega,by go_num,ae (by simp only[oY,<-aa h,aa c]; rw[zJ z]),ae (by simp only[oX,<-aa j,aa c]; rw[zJ p]),l,l,st1 (by simp) (dr (st0 (by simp) ⟨_,rfl⟩) _)⟩
    simp[intOf]; omega
   go_wp2
   go_quiet (fail)
   go_wp2
   go_quiet (fail)
   go_wp2
   go_roundw
   ·exact⟨k+1,d,b,by omega,by omega,by go_num,ae (by simp only[oY,<-aa h,aa c]; rw[zJ z]),ae (by simp only[oX,<-aa j,aa c]; rw[zK (by omega)]),l,wb,dr (st0 (by simp) ⟨_,rfl⟩) _⟩
   simp[intOf]; omega
  by_cases p:b<d
  ·go_wp2
   go_quiet (fail)
   go_wp2
   go_quiet (fail)
   go_wp2
   go_roundw
   ·exact⟨k+1,a,d,by omega,by omega,by go_num,ae (by simp only[oY,<-aa h,aa c]; rw[zK (by omega)]),ae (by simp only[oX,<-aa j,aa c]; rw[zJ p]),y,l,st1 (by simp) ⟨_,rfl⟩⟩
   simp[intOf]; omega
  go_wp2
  go_quiet (fail)
  go_wp2
  go_quiet (fail)
  go_wp2
  go_roundw
  ·exact⟨k+1,a,b,by omega,by omega,by go_num,ae (by simp only[oY,<-aa h,aa c]; rw[zK (by omega)]),ae (by simp only[oX,<-aa j,aa c]; rw[zK (by omega)]),y,wb,⟨_,rfl⟩⟩
  simp[intOf]; omega
 have C:Hid (n.toNat=k):=by show n.toNat=k; omega
 unfold dC at y wb
 go_wp2
 refine zL (v:=.agg #[.int .i64 (a-R),.int .i64 (b+R)]) (by simp[results,results124,go_sem]) rfl ⟨?_,?_⟩
 ·rw[aa C,<-aa h,<-aa j]
 repeat first|exact zV _ _|refine ap ?_ _|refine zE ?_|refine aG ?_ aD _|refine Below.setCell ?_ (by simp only[]; omega) _
def apB (g:Nat->Int)(r lo:Int)(n:Nat):Bool:=(List.range n).all fun i=>decide (g i+r<lo)
def apA (g:Nat->Int)(r hi:Int)(n:Nat):Bool:=(List.range n).all fun i=>decide (hi<g i-r)
theorem apB_succ (g:Nat->Int)(r lo:Int)(k:Nat):apB g r lo (k+1)=(apB g r lo k && decide (g k+r<lo)):=by simp[apB,y5]
theorem apA_succ (g:Nat->Int)(r lo:Int)(k:Nat):apA g r lo (k+1)=(apA g r lo k && decide (lo<g k-r)):=by simp[apA,y5]
theorem nY (g:Nat->Int)(n:Nat)(c lo hi:Int)(w:World)(y:n<=8)(h:∀i,i<8->dC (g i))(q:dC c):
  Calls prog 164 #[.agg (ac g),n,c,lo,hi] w fun e w'=>e=.returned (.bool (apB g c lo n || apA g c hi n))/\Below w.heap.size w w':=by
 unfold dC at q;have o:=ae h;clear h;go_enter func164,ntmps164
 go_wp2
 go_loop [11,12,13] (fun b a i=>∃k:Nat,k<=n/\i=.int .i64 k/\b=.bool (apB g c lo k)/\a=.bool (apA g c hi k)) (fun _ _ i=>8-(intOf i).toNat)
 ·exact⟨0,by omega,rfl,rfl,rfl⟩
 obtain⟨k,x,rfl,rfl,rfl⟩:=hrel
 by_cases s:k<n
 ·have r:(k:Int)<8:=by omega
  have p:=ac_at g k (by omega)
  obtain⟨l,d⟩:∃S,g k=S:=⟨_,rfl⟩
  have j:=aa o k (by omega)
  rw[d] at p j;have f:=ae d;clear d;unfold dC at j
  by_cases t:lo<=l+c
  rotate_left
  all_goals
   by_cases u:l-c<=hi
   rotate_left
   all_goals
    go_wp2
    go_round
    ·exact⟨k+1,by omega,by go_num,congrArg Value.bool (by rw[apB_succ,aa f]; simp; omega),congrArg Value.bool (by rw[apA_succ,aa f]; simp; omega)⟩
    simp[intOf]; omega
 have m:k=n:=by omega
 subst m
 cases v:apB g c lo k with
 | true=>
  go_wp2
  go_ret
  refine⟨ai (by simp),?_⟩
  repeat first|exact zV _ _|refine ap ?_ _|refine zE ?_|refine aG ?_ aD _
 | false=>
  go_wp2
  go_ret
  refine⟨ai (by simp),?_⟩
  repeat first|exact zV _ _|refine ap ?_ _|refine zE ?_|refine aG ?_ aD _
def nh (g:Nat->Int)(n:Nat)(r lo hi:Int):Bool:=!(apB g r lo n || apA g r hi n)
def cJ (f:Nat->Int)(l z x y:Int):Bool:=
 right f && decide (keyErr l z x y=0) && iw f l z && (nh (fun i=>f (8+i)) (f 7).toNat (f 6*un z) (8*x*un z) (8*(x+1)*un z) && nh (fun i=>f (16+i)) (f 7).toNat (f 6*un z) (8*y*un z) (8*(y+1)*un z))
theorem mnC_spec (g:Nat->Int):∀n,1<=n->(∀i,i<n->oY g n<=g i)/\∃i,i<n/\g i=oY g n
 | 0,h=>by omega
 | 1,_=>by
  refine⟨fun i hi=>?_,0,by omega,by simp[oY]⟩
  have:i=0:=by omega
  subst this; simp[oY]
 | n+2,_=>by
  obtain⟨b,i,hi,c⟩:=mnC_spec g (n+1) (by omega)
  rw[oY]
  by_cases h:g (n+1)<oY g (n+1)
  ·rw[zJ h]
   refine⟨fun j d=>?_,n+1,by omega,rfl⟩
   rcases yP j (n+1) with a|a
   ·have:=b j a; omega
   have:j=n+1:=by omega
   subst this; exact yw _
  rw[zK h]
  refine⟨fun j d=>?_,i,by omega,c⟩
  rcases yP j (n+1) with a|a
  ·exact b j a
  have:j=n+1:=by omega
  subst this; omega
theorem mxC_spec (g:Nat->Int):∀n,1<=n->(∀i,i<n->g i<=oX g n)/\∃i,i<n/\g i=oX g n
 | 0,h=>by omega
 | 1,_=>by
  refine⟨fun i hi=>?_,0,by omega,by simp[oX]⟩
  have:i=0:=by omega
  subst this; simp[oX]
 | n+2,_=>by
  obtain⟨b,i,hi,c⟩:=mxC_spec g (n+1) (by omega)
  rw[oX]
  by_cases h:oX g (n+1)<g (n+1)
  ·rw[zJ h]
   refine⟨fun j d=>?_,n+1,by omega,rfl⟩
   rcases yP j (n+1) with a|a
   ·have:=b j a; omega
   have:j=n+1:=by omega
   subst this; exact yw _
  rw[zK h]
  refine⟨fun j d=>?_,i,by omega,c⟩
  rcases yP j (n+1) with a|a
  ·exact b j a
  have:j=n+1:=by omega
  subst this; omega
theorem apB_eq (g:Nat->Int)(n:Nat)(b lo:Int)(h:1<=n):apB g b lo n=decide (oX g n+b<lo):=by
 obtain⟨c,j,d,f⟩:=mxC_spec g n h;rw[yq];simp only[apB,zN,zi,yL]
 constructor
 ·intro a; have:=a j d; omega
 intro a k e; have:=c k e; omega
theorem apA_eq (g:Nat->Int)(n:Nat)(b hi:Int)(h:1<=n):apA g b hi n=decide (hi<oY g n-b):=by
 obtain⟨c,j,d,f⟩:=mnC_spec g n h;rw[yq];simp only[apA,zN,zi,yL]
 constructor
 ·intro a; have:=a j d; omega
 intro a k e; have:=c k e; omega
theorem axT_eq (g:Nat->Int)(n:Nat)(r lo hi:Int)(h:1<=n):(decide (oY g n-r<=hi) && decide (lo<=oX g n+r))=nh g n r lo hi:=by
 rw[nh,apB_eq g n r lo h,apA_eq g n r hi h,yq];simp only[zl,zN,Bool.not_eq_true',Bool.or_eq_false_iff,decide_eq_false_iff_not];omega
theorem dK {l z x y:Int}(h:keyErr l z x y=0):(0<=l/\l<=3)/\(0<=z/\z<=22)/\(0<=x/\x<(2:Int) ^ z.toNat)/\(0<=y/\y<(2:Int) ^ z.toNat):=by
 unfold keyErr at h
 by_cases a:l<0\/3<l
 ·rw[zJ a] at h; cases h
 rw[zK a] at h
 by_cases b:z<0\/22<z
 ·rw[zJ b] at h; cases h
 rw[zK b] at h
 by_cases c:x<0\/(2:Int) ^ z.toNat<=x\/y<0\/(2:Int) ^ z.toNat<=y
 ·rw[zJ c] at h; cases h
 omega
theorem sq_in {z x:Int}(g:0<=z)(e:z<=22)(f:0<=x)(h:x<(2:Int) ^ z.toNat):(0<=x/\x<=4194304)/\(0<=8*x*un z/\8*x*un z<=1073741824)/\(0<=8*(x+1)*un z/\8*(x+1)*un z<=1073741824):=by
 obtain⟨_,a,b,c⟩:=un_eq z.toNat (by omega)
 have i:=(gi z e).2;unfold un;generalize (2:Int) ^ (27-z.toNat)=u at *;generalize (2:Int) ^ z.toNat=p at *
 have d:(x+1)*u<=p*u:=Int.mul_le_mul_of_nonneg_right (by omega) (by omega)
 have j:0<=x*u:=y2 f (by omega)
 rw[c] at d;rw[Int.mul_assoc,Int.mul_assoc];rw[Int.add_mul] at d ⊢;generalize x*u=v at *;omega
theorem oz {f:Nat->Int}(h:Rt f){u:Int}(a:0<=u/\u<=134217728):dC (f 6*u):=by
 have:f 6=0\/f 6=1\/f 6=2\/f 6=3:=by rcases h.kind with h|h<;>omega
 unfold dC
 rcases this with e|e|e|e<;>rw[e]<;>omega
theorem n_in {f:Nat->Int}(h:Rt f):1<=f 7/\f 7<=8:=by rcases h.kind with h|h<;>omega
theorem sza (g:Nat->Int):(prog.info? 64).map (·.size)=some (ac g).size:=by rw[pM]; kernel_rfl
theorem rng8 {c:World}{b:Nat}{f:Nat->Int}(h:c.heap[b]?=some (.cells (fc f) 66)):c.rangeAt b 8 (ac fun i=>f (8+i)).toList:=by
 intro j v a;rw[af h]
 have d:j<8:=by
  have:=(zX.1 a).1;simpa[pM] using this
 have e:(ac fun i=>f (8+i))[j]?=some v:=by simpa using a
 rw[ac_at _ j d] at e
 rw[aN f (8+j) (by omega)]; exact e
theorem rng16 {c:World}{b:Nat}{f:Nat->Int}(h:c.heap[b]?=some (.cells (fc f) 66)):c.rangeAt b 16 (ac fun i=>f (16+i)).toList:=by
 intro j v a;rw[af h]
 have d:j<8:=by
  have:=(zX.1 a).1;simpa[pM] using this
 have e:(ac fun i=>f (16+i))[j]?=some v:=by simpa using a
 rw[ac_at _ j d] at e
 rw[aN f (16+j) (by omega)]; exact e
theorem ft (w:World)(o a:Obj):((w.alloc o).alloc a).heap[w.heap.size]?=some o/\((w.alloc o).alloc a).heap[w.heap.size+1]?=some a/\Below w.heap.size w ((w.alloc o).alloc a):=by
 refine⟨?_,?_,?_⟩
 ·rw[yK _ _ _ (by simp)]; exact zZ _ _
 ·simpa using zZ (w.alloc o) a
 repeat first|exact zV _ _|refine ap ?_ _|refine zE ?_|refine aG ?_ aD _
theorem jA (f:Nat->Int)(l z x y:Int)(w:World)(h:right f=false\/¬keyErr l z x y=0\/iw f l z=false):
  Calls prog 77 #[.agg (fc f),.agg #[l,z,x,y]] w fun e w'=>e=.returned (.bool (cJ f l z x y))/\Below w.heap.size w w':=by
 obtain⟨j,v,s⟩:=ft w (.cells (fc f) 66) (.cells #[l,z,x,y] 39);have d:=ae s;clear s
 cases k:right f with
 | false=>
  have m:Hid (cJ f l z x y=false):=by show cJ f l z x y=_; simp[cJ,k]
  clear h;go_enter func77,ntmps77
  go_wp2_with (refine dh rfl _ rfl _ rfl f j ?_)
  refine(pE k _).mono ?_;rintro e w1 ⟨rfl,a⟩;have c:=ae ((aa d).trans (a.mono (aa d).size));clear a
  go_wp2
  go_ret;exact⟨ai (aa m).symm,aa c⟩
 | true=>
 by_cases i:keyErr l z x y=0
 ·have B:iw f l z=false:=by
   rcases h with h|h|h
   ·rw[k] at h; cases h
   ·exact absurd i h
   exact h
  have m:Hid (cJ f l z x y=false):=by show cJ f l z x y=_; simp[cJ,B]
  have q:=fun n=>bV l z x y n;have S:=fun n=>gO f l z x y n;rw[i] at q;rw[B] at S;clear h i;go_enter func77,ntmps77
  go_wp2_with (refine dh rfl _ rfl _ rfl f j ?_)
  refine(iA k _).mono ?_;rintro e w1 ⟨rfl,a⟩;have p:=ag j a;have g:=ag v a;have r:=af g;have c:=ae ((aa d).trans (a.mono (aa d).size));clear a
  go_wp2_with fail
  refine(q _).mono ?_;rintro e E ⟨rfl,b⟩;have u:=ag p b;have A:=ag g b;have D:=af A;have o:=ae ((aa c).trans (b.mono (aa c).size));clear b p g r
  go_wp2_with (refine dh rfl _ rfl _ rfl f u ?_)
  refine(S _).mono ?_;rintro e G ⟨rfl,t⟩;have C:=ae ((aa o).trans (t.mono (aa o).size));clear t u A D
  go_wp2
  go_ret;exact⟨ai (aa m).symm,aa C⟩
 have m:Hid (cJ f l z x y=false):=by show cJ f l z x y=_; simp[cJ,i]
 have q:=fun n=>bV l z x y n
 have F:(keyErr l z x y==0)=false:=by simp[i]
 clear h i;go_enter func77,ntmps77
 go_wp2_with (refine dh rfl _ rfl _ rfl f j ?_)
 refine(iA k _).mono ?_;rintro e w1 ⟨rfl,a⟩;have p:=ag j a;have g:=ag v a;have r:=af g;have c:=ae ((aa d).trans (a.mono (aa d).size));clear a
 go_wp2_with fail
 refine(q _).mono ?_;rintro e E ⟨rfl,b⟩;have o:=ae ((aa c).trans (b.mono (aa c).size));clear b p g r
 go_wp2
 go_ret;exact⟨ai (aa m).symm,aa o⟩
theorem Touches_yes (f:Nat->Int)(l z x y:Int)(w:World)(J:right f=true)(I:keyErr l z x y=0)(am:iw f l z=true):
  Calls prog 77 #[.agg (fc f),.agg #[l,z,x,y]] w fun e w'=>e=.returned (.bool (cJ f l z x y))/\Below w.heap.size w w':=by
 obtain⟨F,X,W⟩:=ft w (.cells (fc f) 66) (.cells #[l,z,x,y] 39);have E:=ae W;clear W;have r:=ci J;have U:=fun a=>bV l z x y a;have S:=fun a=>gO f l z x y a;rw[I] at U;rw[am] at S;obtain⟨_,⟨K,L⟩,⟨aA,aB⟩,⟨aC,aD⟩⟩:=dK I;have V:=fun a=>unit_yes z a K L;obtain⟨aq,Y,Z⟩:=sq_in K L aA aB;obtain⟨ar,ab,ad⟩:=sq_in K L aC aD;obtain⟨u1,u2⟩:=lA z K L;obtain⟨ao,ap⟩:=n_in r
 have M:Hid (cJ f l z x y=(nh (fun i=>f (8+i)) (f 7).toNat (f 6*un z) (8*x*un z) (8*(x+1)*un z) && nh (fun i=>f (16+i)) (f 7).toNat (f 6*un z) (8*y*un z) (8*(y+1)*un z))):=by show cJ f l z x y=_; simp[cJ,J,I,am]
 obtain⟨u,an⟩:∃u,un z=u:=⟨_,rfl⟩;rw[an] at M V Y Z ab ad u1 u2
 have ah:=fun a=>kK f (fun i=>f (8+i)) u a ⟨ao,ap⟩ r.px (oz r ⟨by omega,by omega⟩)
 have aj:=fun a=>kK f (fun i=>f (16+i)) u a ⟨ao,ap⟩ r.py (oz r ⟨by omega,by omega⟩)
 have ak:=fun a=>gM x u a aq Y Z;have al:=fun a=>gM y u a ar ab ad;have G:=fun a=>meet_any (oY (fun i=>f (8+i)) (f 7).toNat-f 6*u) (oX (fun i=>f (8+i)) (f 7).toNat+f 6*u) (8*x*u) (8*(x+1)*u) a;have H:=fun a=>meet_any (oY (fun i=>f (16+i)) (f 7).toNat-f 6*u) (oX (fun i=>f (16+i)) (f 7).toNat+f 6*u) (8*y*u) (8*(y+1)*u) a
 rw[axT_eq _ _ _ _ _ (by omega)] at G H
 obtain⟨au,O⟩:∃b,nh (fun i=>f (8+i)) (f 7).toNat (f 6*u) (8*x*u) (8*(x+1)*u)=b:=⟨_,rfl⟩;obtain⟨aE,P⟩:∃b,nh (fun i=>f (16+i)) (f 7).toNat (f 6*u) (8*y*u) (8*(y+1)*u)=b:=⟨_,rfl⟩;rw[O,P] at M;rw[O] at G;rw[P] at H;clear O P I an r
 cases au with
 | true=>
  go_enter func77,ntmps77
  go_wp2_with (refine dh rfl _ rfl _ rfl f F ?_)
  refine(iA J _).mono ?_;rintro e w1 ⟨rfl,d⟩;have B:=ag F d;have p:=ag X d;have Q:=af p;have D:=ae ((aa E).trans (d.mono (aa E).size));clear d
  go_wp2_with fail
  refine(U _).mono ?_;rintro e av ⟨rfl,g⟩;have n:=ag B g;have q:=ag p g;have R:=af q;have t:=ae ((aa D).trans (g.mono (aa D).size));clear g B p Q
  go_wp2_with (refine dh rfl _ rfl _ rfl f n ?_)
  refine(S _).mono ?_;rintro e aw ⟨rfl,j⟩;have k:=ag n j;have m:=ag q j;have T:=af m;have v:=ae ((aa t).trans (j.mono (aa t).size));clear j n q R
  go_wp2_with (go_at_call 122; refine(V _).mono ?_; rintro e az ⟨rfl,rfl⟩)
  refine aM (by kernel_rfl) (by kernel_rfl) ?_
  refine vF w.heap.size 0 (fun w' h=>dz k h) ?_;refine bd w.heap.size 8 ?_;refine aR rfl 64 _ rfl w.heap.size 8 rfl (ac fun i=>f (8+i)) _ underlying64 rfl (sza _) (fun w' h=>rng8 (ag k h)) ?_;simp only[qZ];refine bD (.int .i64 u) ?_
  refine vC ah ?_;refine bd (w.heap.size+1) 2 ?_
  refine bH (.int .i64 x) ?_ (h:=fun w' h=>by simp[go_sem,af (ag m h)])
  refine bD (.int .i64 u) ?_
  refine vC ak ?_
  refine vC G ?_;refine vA _ ?_;refine zq ?_;intro ax c;have o:=ag k c;have C:=ag m c;have A:=ae ((aa v).trans (c.mono (aa v).size));clear c k m T
  go_wp2_with fail
  refine aM (by kernel_rfl) (by kernel_rfl) ?_
  refine vF w.heap.size 0 (fun w' h=>dz o h) ?_;refine bd w.heap.size 16 ?_;refine aR rfl 64 _ rfl w.heap.size 16 rfl (ac fun i=>f (16+i)) _ underlying64 rfl (sza _) (fun w' h=>rng16 (ag o h)) ?_;simp only[qZ];refine bD (.int .i64 u) ?_
  refine vC aj ?_;refine bd (w.heap.size+1) 3 ?_
  refine bH (.int .i64 y) ?_ (h:=fun w' h=>by simp[go_sem,af (ag C h)])
  refine bD (.int .i64 u) ?_
  refine vC al ?_
  refine vC H ?_;refine vA _ ?_;refine zq ?_;intro ay s;have N:=ae ((aa A).trans (s.mono (aa A).size));clear s o C
  go_wp2
  go_ret
  exact⟨ai (by rw[aa M]; simp),aa N⟩
 | false=>
  go_enter func77,ntmps77
  go_wp2_with (refine dh rfl _ rfl _ rfl f F ?_)
  refine(iA J _).mono ?_;rintro e w1 ⟨rfl,d⟩;have B:=ag F d;have p:=ag X d;have Q:=af p;have D:=ae ((aa E).trans (d.mono (aa E).size));clear d
  go_wp2_with fail
  refine(U _).mono ?_;rintro e av ⟨rfl,g⟩;have n:=ag B g;have q:=ag p g;have R:=af q;have t:=ae ((aa D).trans (g.mono (aa D).size));clear g B p Q
  go_wp2_with (refine dh rfl _ rfl _ rfl f n ?_)
  refine(S _).mono ?_;rintro e aw ⟨rfl,j⟩;have k:=ag n j;have m:=ag q j;have T:=af m;have v:=ae ((aa t).trans (j.mono (aa t).size));clear j n q R
  go_wp2_with (go_at_call 122; refine(V _).mono ?_; rintro e az ⟨rfl,rfl⟩)
  refine aM (by kernel_rfl) (by kernel_rfl) ?_
  refine vF w.heap.size 0 (fun w' h=>dz k h) ?_;refine bd w.heap.size 8 ?_;refine aR rfl 64 _ rfl w.heap.size 8 rfl (ac fun i=>f (8+i)) _ underlying64 rfl (sza _) (fun w' h=>rng8 (ag k h)) ?_;simp only[qZ];refine bD (.int .i64 u) ?_
  refine vC ah ?_;refine bd (w.heap.size+1) 2 ?_
  refine bH (.int .i64 x) ?_ (h:=fun w' h=>by simp[go_sem,af (ag m h)])
  refine bD (.int .i64 u) ?_
  refine vC ak ?_
  refine vC G ?_;refine vA _ ?_;refine zq ?_;intro ax c;have o:=ag k c;have C:=ag m c;have A:=ae ((aa v).trans (c.mono (aa v).size));clear c k m T
  go_wp2_with fail
  refine aM (by kernel_rfl) (by kernel_rfl) ?_
  refine vF w.heap.size 0 (fun w' h=>dz o h) ?_;refine bd w.heap.size 16 ?_;refine aR rfl 64 _ rfl w.heap.size 16 rfl (ac fun i=>f (16+i)) _ underlying64 rfl (sza _) (fun w' h=>rng16 (ag o h)) ?_;simp only[qZ];refine bD (.int .i64 u) ?_
  refine vC aj ?_;refine bd (w.heap.size+1) 3 ?_
  refine bH (.int .i64 y) ?_ (h:=fun w' h=>by simp[go_sem,af (ag C h)])
  refine bD (.int .i64 u) ?_
  refine vC al ?_
  refine vC H ?_;refine vA _ ?_;refine zq ?_;intro ay s;have N:=ae ((aa A).trans (s.mono (aa A).size));clear s o C
  go_wp2
  go_ret
  exact⟨ai (by rw[aa M]; simp),aa N⟩
theorem Touches_any (f:Nat->Int)(l z x y:Int)(w:World):
  Calls prog 77 #[.agg (fc f),.agg #[l,z,x,y]] w fun e w'=>e=.returned (.bool (cJ f l z x y))/\Below w.heap.size w w':=by
 cases b:right f with
 | false=>exact jA f l z x y w (Or.inl b)
 | true=>
 by_cases a:keyErr l z x y=0
 ·cases c:iw f l z with
  | false=>exact jA f l z x y w (Or.inr (Or.inr c))
  | true=>exact Touches_yes f l z x y w b a c
 exact jA f l z x y w (Or.inr (Or.inl a))
theorem ld24 {c:Array Oper}{rest:List Oper}{o:Oper}{a:Act}{w:World}{d:Exit->Act->World->Prop}(hw:Region.wanted o (yielded c a.tmps)=true)(x:Operand)(f:o.op=.load 64 x)
  (b off:Nat) (i:a.eval x=.pointer (some ⟨b,off,none⟩)) (g:Nat->Int) (e:w.rangeAt b off (ac g).toList)
  (h:wpList prog c d rest (a.put o.dst (.agg (ac g))) w):wpList prog c d (o::rest) a w:=by
 unfold wpList;rw[zJ hw]
 exact Or.inl (wp_load_mid 64 x f b off i (ac g).toList _ e underlying64 rfl (by rw[zj]; exact sza g) h)
theorem fJ (f:Nat->Int)(l z x y:Int)(w:World)(h:right f=false\/¬keyErr l z x y=0\/iw f l z=false):
  Calls prog 106 #[.agg (fc f),.agg #[l,z,x,y]] w fun e w'=>e=.returned (.bool (cJ f l z x y))/\Below w.heap.size w w':=by
 obtain⟨n,v,A⟩:=ft w (.cells (fc f) 66) (.cells #[l,z,x,y] 39);have k:=ae A;clear A
 cases s:right f with
 | false=>
  have t:Hid (cJ f l z x y=false):=by show cJ f l z x y=_; simp[cJ,s]
  have q:=fun j=>bq l z x y j;clear h;go_enter func106,ntmps106
  go_wp2_with (refine dh rfl _ rfl _ rfl f n ?_)
  refine(ji s _).mono ?_;rintro e w1 ⟨rfl,a⟩;have d:=ag n a;have c:=ag v a;have r:=af c;have g:=ae ((aa k).trans (a.mono (aa k).size));clear a
  go_wp2_with fail
  refine(q _).mono ?_;rintro e E ⟨rfl,b⟩;have i:=ag d b;have o:=ag c b;have u:=af o;have C:=af i;have m:=ae ((aa g).trans (b.mono (aa g).size));clear b d c r
  go_wp2
  go_ret;exact⟨ai (aa t).symm,aa m⟩
 | true=>
 by_cases p:keyErr l z x y=0
 ·have D:iw f l z=false:=by
   rcases h with h|h|h
   ·rw[s] at h; cases h
   ·exact absurd p h
   exact h
  have t:Hid (cJ f l z x y=false):=by show cJ f l z x y=_; simp[cJ,D]
  have q:=fun j=>bq l z x y j;have S:=fun j=>gN f l z x y j;rw[p] at q;rw[D] at S;clear h p;go_enter func106,ntmps106
  go_wp2_with (refine dh rfl _ rfl _ rfl f n ?_)
  refine(cH s _).mono ?_;rintro e w1 ⟨rfl,a⟩;have d:=ag n a;have c:=ag v a;have r:=af c;have g:=ae ((aa k).trans (a.mono (aa k).size));clear a
  go_wp2_with fail
  refine(q _).mono ?_;rintro e E ⟨rfl,b⟩;have i:=ag d b;have o:=ag c b;have u:=af o;have C:=af i;have m:=ae ((aa g).trans (b.mono (aa g).size));clear b d c r
  go_wp2_with (refine dh rfl _ rfl _ rfl f i ?_)
  refine(S _).mono ?_;rintro e H ⟨rfl,B⟩;have F:=ae ((aa m).trans (B.mono (aa m).size));clear B i o u
  go_wp2
  go_ret;exact⟨ai (aa t).symm,aa F⟩
 have t:Hid (cJ f l z x y=false):=by show cJ f l z x y=_; simp[cJ,p]
 have q:=fun j=>bq l z x y j
 have G:(keyErr l z x y==0)=false:=by simp[p]
 clear h p;go_enter func106,ntmps106
 go_wp2_with (refine dh rfl _ rfl _ rfl f n ?_)
 refine(cH s _).mono ?_;rintro e w1 ⟨rfl,a⟩;have d:=ag n a;have c:=ag v a;have r:=af c;have g:=ae ((aa k).trans (a.mono (aa k).size));clear a
 go_wp2_with fail
 refine(q _).mono ?_;rintro e E ⟨rfl,b⟩;have i:=ag d b;have o:=ag c b;have u:=af o;have C:=af i;have m:=ae ((aa g).trans (b.mono (aa g).size));clear b d c r
 go_wp2
 go_ret;exact⟨ai (aa t).symm,aa m⟩
theorem lI (f:Nat->Int)(l z x y:Int)(w:World)(I:right f=true)(H:keyErr l z x y=0)(ao:iw f l z=true):
  Calls prog 106 #[.agg (fc f),.agg #[l,z,x,y]] w fun e w'=>e=.returned (.bool (cJ f l z x y))/\Below w.heap.size w w':=by
 obtain⟨G,ad,ac⟩:=ft w (.cells (fc f) 66) (.cells #[l,z,x,y] 39);have F:=ae ac;clear ac;have E:=ci I;have Z:=fun k=>bq l z x y k;have S:=fun k=>gN f l z x y k;rw[H] at Z;rw[ao] at S;obtain⟨_,⟨K,L⟩,⟨aB,aq⟩,⟨aC,ar⟩⟩:=dK H;have ab:=fun k=>gS z k K L;obtain⟨⟨aD,aE⟩,aj,ak⟩:=sq_in K L aB aq;obtain⟨⟨aF,aG⟩,al,am⟩:=sq_in K L aC ar;obtain⟨u1,u2⟩:=lA z K L;obtain⟨aJ,aK⟩:=n_in E
 have aI:=aN f 6 (by decide)
 have av:=aN f 7 (by decide)
 have r:Hid (cJ f l z x y=(nh (fun i=>f (8+i)) (f 7).toNat (f 6*un z) (8*x*un z) (8*(x+1)*un z) && nh (fun i=>f (16+i)) (f 7).toNat (f 6*un z) (8*y*un z) (8*(y+1)*un z))):=by show cJ f l z x y=_; simp[cJ,I,H,ao]
 obtain⟨u,ap⟩:∃u,un z=u:=⟨_,rfl⟩;rw[ap] at r ab aj ak al am u1 u2
 have J:=oz E (u:=u) ⟨by omega,by omega⟩
 obtain⟨n,an⟩:∃n:Nat,f 7=(n:Int):=⟨(f 7).toNat,by omega⟩
 have ah:(f 7).toNat=n:=by omega
 have X:=fun k=>nY (fun i=>f (8+i)) n (f 6*u) (8*x*u) (8*(x+1)*u) k (by omega) E.px J
 have Y:=fun k=>nY (fun i=>f (16+i)) n (f 6*u) (8*y*u) (8*(y+1)*u) k (by omega) E.py J
 rw[ah] at r;rw[an] at av;unfold dC at J
 have aL:wrap64 (f 6*u)=f 6*u:=z6 _ ⟨by omega,by omega⟩
 have aM:wrap64 (8*x*u)=8*x*u:=z6 _ ⟨by omega,by omega⟩
 have aO:wrap64 (8*(x+1)*u)=8*(x+1)*u:=z6 _ ⟨by omega,by omega⟩
 have aP:wrap64 (8*y*u)=8*y*u:=z6 _ ⟨by omega,by omega⟩
 have aQ:wrap64 (8*(y+1)*u)=8*(y+1)*u:=z6 _ ⟨by omega,by omega⟩
 unfold nh at r;obtain⟨au,N⟩:∃b,(apB (fun i=>f (8+i)) (f 6*u) (8*x*u) n || apA (fun i=>f (8+i)) (f 6*u) (8*(x+1)*u) n)=b:=⟨_,rfl⟩;obtain⟨aH,O⟩:∃b,(apB (fun i=>f (16+i)) (f 6*u) (8*y*u) n || apA (fun i=>f (16+i)) (f 6*u) (8*(y+1)*u) n)=b:=⟨_,rfl⟩;rw[N,O] at r;rw[N] at X;rw[O] at Y;clear N O H ap E an ah aj ak al am J aq ar
 cases au with
 | true=>
  go_enter func106,ntmps106
  go_wp2_with (refine dh rfl _ rfl _ rfl f G ?_)
  refine(cH I _).mono ?_;rintro e w1 ⟨rfl,a⟩;have B:=ag G a;have o:=ag ad a;have P:=af o;have D:=ae ((aa F).trans (a.mono (aa F).size));clear a
  go_wp2_with fail
  refine(Z _).mono ?_;rintro e aw ⟨rfl,c⟩;have h:=ag B c;have p:=ag o c;have Q:=af p;have U:=af h;have s:=ae ((aa D).trans (c.mono (aa D).size));clear c B o P
  go_wp2_with (refine dh rfl _ rfl _ rfl f h ?_)
  refine(S _).mono ?_;rintro e ax ⟨rfl,d⟩;have j:=ag h d;have q:=ag p d;have R:=af q;have V:=af j;have t:=ae ((aa s).trans (d.mono (aa s).size));clear d h p Q U
  go_wp2_with (first|(go_at_call 161; refine(ab _).mono ?_; rintro e aA ⟨rfl,rfl⟩)|(refine ld24 rfl _ rfl w.heap.size 8 rfl (fun i=>f (8+i)) (rng8 j) ?_))
  refine(X _).mono ?_;rintro e ay ⟨rfl,g⟩;have m:=ag j g;have C:=ag q g;have T:=af C;have W:=af m;have v:=ae ((aa t).trans (g.mono (aa t).size));clear g j q R V
  go_wp2_with (refine ld24 rfl _ rfl w.heap.size 16 rfl (fun i=>f (16+i)) (rng16 m) ?_)
  refine(Y _).mono ?_;rintro e az ⟨rfl,A⟩;have M:=ae ((aa v).trans (A.mono (aa v).size));clear A m C T W
  go_wp2
  go_ret
  exact⟨ai (by rw[aa r]; simp),aa M⟩
 | false=>
  go_enter func106,ntmps106
  go_wp2_with (refine dh rfl _ rfl _ rfl f G ?_)
  refine(cH I _).mono ?_;rintro e w1 ⟨rfl,a⟩;have B:=ag G a;have o:=ag ad a;have P:=af o;have D:=ae ((aa F).trans (a.mono (aa F).size));clear a
  go_wp2_with fail
  refine(Z _).mono ?_;rintro e aw ⟨rfl,c⟩;have h:=ag B c;have p:=ag o c;have Q:=af p;have U:=af h;have s:=ae ((aa D).trans (c.mono (aa D).size));clear c B o P
  go_wp2_with (refine dh rfl _ rfl _ rfl f h ?_)
  refine(S _).mono ?_;rintro e ax ⟨rfl,d⟩;have j:=ag h d;have q:=ag p d;have R:=af q;have V:=af j;have t:=ae ((aa s).trans (d.mono (aa s).size));clear d h p Q U
  go_wp2_with (first|(go_at_call 161; refine(ab _).mono ?_; rintro e aA ⟨rfl,rfl⟩)|(refine ld24 rfl _ rfl w.heap.size 8 rfl (fun i=>f (8+i)) (rng8 j) ?_))
  refine(X _).mono ?_;rintro e ay ⟨rfl,g⟩;have m:=ag j g;have C:=ag q g;have T:=af C;have W:=af m;have v:=ae ((aa t).trans (g.mono (aa t).size));clear g j q R V
  go_wp2_with (refine ld24 rfl _ rfl w.heap.size 16 rfl (fun i=>f (16+i)) (rng16 m) ?_)
  refine(Y _).mono ?_;rintro e az ⟨rfl,A⟩;have M:=ae ((aa v).trans (A.mono (aa v).size));clear A m C T W
  go_wp2
  go_ret
  exact⟨ai (by rw[aa r]; simp),aa M⟩
theorem lJ (f:Nat->Int)(l z x y:Int)(w:World):
  Calls prog 106 #[.agg (fc f),.agg #[l,z,x,y]] w fun e w'=>e=.returned (.bool (cJ f l z x y))/\Below w.heap.size w w':=by
 cases b:right f with
 | false=>exact fJ f l z x y w (Or.inl b)
 | true=>
 by_cases a:keyErr l z x y=0
 ·cases c:iw f l z with
  | false=>exact fJ f l z x y w (Or.inr (Or.inr c))
  | true=>exact lI f l z x y w b a c
 exact fJ f l z x y w (Or.inr (Or.inl a))
def fM (a b:Nat->Int):Bool:=if a 4=b 4 then decide (b 0<a 0) else decide (b 4<a 4)
theorem isAbove_any (a b:Nat->Int)(w:World):
  Calls prog 192 #[.agg (fc a),.agg (fc b)] w fun e w'=>e=.returned (.bool (fM a b))/\Below w.heap.size w w':=by
 have k:=aN a 0 (by decide)
 have i:=aN a 4 (by decide)
 have l:=aN b 0 (by decide)
 have j:=aN b 4 (by decide)
 obtain⟨R,c⟩:∃S,a 4=S:=⟨_,rfl⟩;obtain⟨S,d⟩:∃S,b 4=S:=⟨_,rfl⟩
 rw[c] at i; rw[d] at j
 have f:=ae c;have g:=ae d;clear c d
 by_cases h:R=S
 ·subst h
  go_enter func192,ntmps192
  go_wp2
  go_ret;refine⟨ai ?_,?_⟩
  ·simp[fM,aa f,aa g]
  repeat first|exact zV _ _|refine ap ?_ _|refine zE ?_|refine aG ?_ aD _
 go_enter func192,ntmps192
 go_wp2
 go_ret;refine⟨ai ?_,?_⟩
 ·simp[fM,aa f,aa g,h]
 repeat first|exact zV _ _|refine ap ?_ _|refine zE ?_|refine aG ?_ aD _
theorem above_any (a b:Nat->Int)(w:World):
  Calls prog 197 #[.agg (fc a),.agg (fc b)] w fun e w'=>e=.returned (.bool (!fM b a))/\Below w.heap.size w w':=by
 have l:=aN a 0 (by decide)
 have i:=aN a 4 (by decide)
 have m:=aN b 0 (by decide)
 have j:=aN b 4 (by decide)
 obtain⟨R,c⟩:∃S,a 4=S:=⟨_,rfl⟩;obtain⟨S,d⟩:∃S,b 4=S:=⟨_,rfl⟩
 rw[c] at i; rw[d] at j
 have f:=ae c;have g:=ae d;clear c d
 by_cases h:R=S
 ·subst h
  go_enter func197,ntmps197
  go_wp2
  go_ret;refine⟨ai ?_,?_⟩
  ·simp only[fM,aa f,aa g]
   rw[zJ trivial,yq];simp only[zN,Bool.not_eq_true',decide_eq_false_iff_not];omega
  repeat first|exact zV _ _|refine ap ?_ _|refine zE ?_|refine aG ?_ aD _
 go_enter func197,ntmps197
 go_wp2
 go_ret;refine⟨ai ?_,?_⟩
 ·have k:¬S=R:=fun e=>h e.symm
  simp only[fM,aa f,aa g];rw[zK k,yq];simp only[zN,Bool.not_eq_true',decide_eq_false_iff_not];omega
 repeat first|exact zV _ _|refine ap ?_ _|refine zE ?_|refine aG ?_ aD _
def js (x u c:Int):Int:=(8*x+c)*u+u / 2
theorem ij {z x c:Int}(m:0<=z)(j:z<=22)(k:0<=x)(n:x<(2:Int) ^ z.toNat)(e:0<=c)(f:c<=7):
  (0<=x/\x<=4194304)/\(0<=(8*x+c)*un z/\(8*x+c)*un z<=1073741824)/\dC (js x (un z) c)/\(0<=8*x*un z/\8*x*un z<=1073741824)/\(0<=c*un z/\c*un z<=1073741824)/\js x (un z) c=8*x*un z+c*un z+un z / 2/\8*x*un z<=js x (un z) c/\js x (un z) c<=8*(x+1)*un z:=by
 obtain⟨_,a,b,l⟩:=un_eq z.toNat (by omega)
 have o:=(gi z j).2;unfold js un;generalize (2:Int) ^ (27-z.toNat)=u at *;generalize (2:Int) ^ z.toNat=p at *
 have d:(x+1)*u<=p*u:=Int.mul_le_mul_of_nonneg_right (by omega) (by omega)
 have q:0<=x*u:=y2 k (by omega)
 have r:0<=c*u:=y2 e (by omega)
 have s:c*u<=7*u:=Int.mul_le_mul_of_nonneg_right f (by omega)
 rw[l] at d;have g:8*x*u=8*(x*u):=Int.mul_assoc _ _ _
 have h:8*(x+1)*u=8*(x*u)+8*u:=by rw[Int.mul_assoc,Int.add_mul,Int.one_mul,Int.mul_add]
 have i:(8*x+c)*u=8*(x*u)+c*u:=by rw[Int.add_mul,Int.mul_assoc]
 rw[Int.add_mul,Int.one_mul] at d;rw[g,h,i];unfold dC;generalize x*u=v at *;generalize c*u=t at *;omega
theorem mod8 (p:Nat)(h:p<64):0<=(p:Int)%8/\(p:Int)%8<=7/\0<=(p:Int) / 8/\(p:Int) / 8<=7:=by omega
theorem centre_any (l z x y:Int)(p:Nat)(w:World)(f:keyErr l z x y=0)(k:p<64):
  Calls prog 191 #[.agg #[l,z,x,y],.int .i64 (un z),p] w fun e w'=>e=.returned (.agg #[.int .i64 (js x (un z) ((p:Int)%8)),.int .i64 (js y (un z) ((p:Int) / 8))])/\Below w.heap.size w w':=by
 obtain⟨_,⟨a,b⟩,⟨B,g⟩,⟨C,h⟩⟩:=dK f;obtain⟨m,n,o,q⟩:=mod8 p k;obtain⟨⟨D,E⟩,i,d,_⟩:=ij a b B g m n;obtain⟨⟨F,G⟩,j,c,_⟩:=ij a b C h o q;obtain⟨u1,u2⟩:=lA z a b;generalize un z=u at *;unfold dC js at d c
 have r:wrap64 ((8*x+(p:Int)%8)*u)=(8*x+(p:Int)%8)*u:=z6 _ ⟨by omega,by omega⟩
 have s:wrap64 ((8*y+(p:Int) / 8)*u)=(8*y+(p:Int) / 8)*u:=z6 _ ⟨by omega,by omega⟩
 have t:wrap64 ((8*x+(p:Int)%8)*u+u / 2)=(8*x+(p:Int)%8)*u+u / 2:=z6 _ ⟨by omega,by omega⟩
 have A:wrap64 ((8*y+(p:Int) / 8)*u+u / 2)=(8*y+(p:Int) / 8)*u+u / 2:=z6 _ ⟨by omega,by omega⟩
 clear f i j d c g h;go_enter func191,ntmps191
 go_wp2
 refine zL (v:=.agg #[.int .i64 (js x u ((p:Int)%8)),.int .i64 (js y u ((p:Int) / 8))]) (by simp[results,results191,go_sem,js,r,s,t,A]) rfl ⟨rfl,?_⟩
 repeat first|exact zV _ _|refine ap ?_ _|refine zE ?_|refine aG ?_ aD _
def kU (W:World)(v:Value)(n:Nat)(fs:Nat->Nat->Int):Prop:=
 ∃(oa:Option Addr) (cap:Nat),v=.slice oa n cap/\n<=maxLen/\(0<n->∃b off,oa=some ⟨b,off,none⟩/\b<W.heap.size/\∀i,i<n->∀j,j<24->W.cell? ⟨b,off+i*24+j,none⟩=some (.int .i64 (fs i j)))
theorem kU.on {a d:World}{v:Value}{n:Nat}{fs:Nat->Nat->Int}(h:kU a v n fs)(f:Below a.heap.size a d):kU d v n fs:=by
 obtain⟨o,cap,e,hm,h⟩:=h;refine⟨o,cap,e,hm,fun m=>?_⟩;obtain⟨b,off,g,c,k⟩:=h m;exact⟨b,off,g,zC c f.size,fun i hi j l=>(f.cell (p:=⟨b,off+i*24+j,none⟩) c).trans (k i hi j l)⟩
def fO (fs:Nat->Nat->Int)(l z u px py:Int):Nat->Nat->Int
 | 0=>fun _=>0
 | k+1=>bif iw (fs k) l z && !fM (fO fs l z u px py k) (fs k) && jZ (fs k) u px py then fs k else fO fs l z u px py k
def zf:Nat->Int:=fun _=>0
theorem built26:prog.built 66 []=some (fc zf):=by kernel_rfl
theorem run_alloc26 (ev:Operand->Value)(o:Oper)(a:o.op=.alloc 66)(w:World):(execOp ev o).run prog w=.ok (.value (.pointer (some ⟨w.heap.size,0,none⟩))) (w.alloc (.cells (fc zf) 66)):=by
 unfold execOp;simp only[a]
 kernel_rfl
theorem fc_one (f:Nat->Int):(fc f).all (·.oneCell')=true:=by
 rw[xV];intro v a;simp only[fc,Array.mem_map] at a;obtain⟨i,_,rfl⟩:=a;rfl
section
variable {ops:Array Oper}{rest:List Oper}{o:Oper}{a:Act}{w:World}{Q:Exit->Act->World->Prop}
theorem bld26 (b:o.guard=none)(c:o.op=.build 66 #[])(h:wpList prog ops Q rest (a.put o.dst (.agg (fc zf))) w):wpList prog ops Q (o::rest) a w:=by
 refine wpList_build b 66 #[] c (by simp[built26]) ?_
 simpa[built26] using h
theorem al26 (b:o.guard=none)(e:o.op=.alloc 66)(n:Nat)(d:w.heap.size=n)(h:wpList prog ops Q rest (a.put o.dst (.pointer (some ⟨n,0,none⟩))) (w.alloc (.cells (fc zf) 66))):wpList prog ops Q (o::rest) a w:=
 wpList_plain b fun _ c=>by
  unfold Oper.wp;rw[run_alloc26 _ _ e,d];exact c _ _ h
theorem mP (b:o.guard=none)(x y:Operand)(d:o.op=.store 66 x y)(g:Nat)(T:Nat->Int)(e:a.eval x=.pointer (some ⟨g,0,none⟩))(hy:a.eval y=.agg (fc T))(S:Nat->Int)(c:w.heap[g]?=some (.cells (fc S) 66))
  (h:wpList prog ops Q rest (a.put o.dst undef) (w.setRow g (fc T))):wpList prog ops Q (o::rest) a w:=
 wpList_store_row b 66 x y d g (fc T) e hy 66 (fc S) c (gK T) (by rw[dX,dX]) (fc_one T) h
theorem nI (hw:Region.wanted o (yielded ops a.tmps)=true)(x:Operand)(d:o.op=.load 66 x)
  (b off:Nat) (e:a.eval x=.pointer (some ⟨b,off,none⟩)) (f:Nat->Int) (c:w.rangeAt b off (fc f).toList)
  (h:wpList prog ops Q rest (a.put o.dst (.agg (fc f))) w):wpList prog ops Q (o::rest) a w:=by
 unfold wpList;rw[zJ hw]
 exact Or.inl (wp_load_mid 66 x d b off e (fc f).toList _ c underlying66 rfl (by rw[zj]; exact gK f) h)
end
theorem aK {B:Nat}{a w:World}(h:Below B a w){g:Nat}(b:B<=g)(cs:Array Value):Below B a (w.setRow g cs):=by
 refine h.trans ⟨rfl,rfl,rfl,by simp[World.setRow],fun k c=>?_⟩
 show(w.heap.modify g _)[k]?=_
 rw[zk,zK (by omega)]
theorem setRow_other {w:World}{g k:Nat}(h:g≠k)(cs:Array Value):(w.setRow g cs).heap[k]?=w.heap[k]?:=by
 show(w.heap.modify g _)[k]?=_;rw[zk,zK h]
theorem gq {d:World}{b off n:Nat}{fs:Nat->Nat->Int}(f:∀i,i<n->∀j,j<24->d.cell? ⟨b,off+i*24+j,none⟩=some (.int .i64 (fs i j))){k:Nat}(g:k<n):d.rangeAt b (off+k*24) (fc (fs k)).toList:=by
 intro j v c
 have a:j<24:=by
  have:=(zX.1 c).1;simpa[dX] using this
 have e:(fc (fs k))[j]?=some v:=by simpa using c
 rw[aN _ j a] at e;rw[f k g j a,e]
theorem sz28 (l z x y:Int):(prog.info? 39).map (·.size)=some (#[Value.int .i64 l,Value.int .i64 z,Value.int .i64 x,Value.int .i64 y]:Array Value).size:=by kernel_rfl
theorem kh {fs:Nat->Nat->Int}{l z u a b:Int}{k:Nat}(h:(iw (fs k) l z && !fM (fO fs l z u a b k) (fs k) && jZ (fs k) u a b)=false):fO fs l z u a b k=fO fs l z u a b (k+1):=by
 rw[fO,h]; rfl
theorem kW {fs:Nat->Nat->Int}{l z u a b:Int}{k:Nat}(h:(iw (fs k) l z && !fM (fO fs l z u a b k) (fs k) && jZ (fs k) u a b)=true):fs k=fO fs l z u a b (k+1):=by
 rw[fO,h]; rfl
theorem top_or (fs:Nat->Nat->Int)(l z u a b:Int):∀k,fO fs l z u a b k=zf\/∃i,i<k/\fO fs l z u a b k=fs i
 | 0=>Or.inl rfl
 | k+1=>by
  rw[fO]
  cases (iw (fs k) l z && !fM (fO fs l z u a b k) (fs k) && jZ (fs k) u a b) with
  | true=>exact Or.inr ⟨k,by omega,rfl⟩
  | false=>
   rcases top_or fs l z u a b k with h|⟨i,hi,h⟩
   ·exact Or.inl h
   exact Or.inr ⟨i,by omega,h⟩
theorem oq {fs:Nat->Nat->Int}{n:Nat}(c:∀i,i<n->right (fs i)=true)(l z u a b:Int):0<=fO fs l z u a b n 3/\fO fs l z u a b n 3<=15:=by
 rcases top_or fs l z u a b n with h|⟨i,hi,h⟩
 ·rw[h]; simp[zf]
 rw[h]; have:=(ci (c i hi)).ink; omega
theorem nj {fs:Nat->Nat->Int}{n:Nat}{l z u a b:Int}(T:Nat->Int)(_:True)(h:T 3=fO fs l z u a b n 3)(c:∀i,i<n->right (fs i)=true):IntKind.u8.wrap (T 3)=T 3:=by
 have:=oq c l z u a b;rw[h];generalize fO fs l z u a b n 3=v at *
 have e:v=0\/v=1\/v=2\/v=3\/v=4\/v=5\/v=6\/v=7\/v=8\/v=9\/v=10\/v=11\/v=12\/v=13\/v=14\/v=15:=by omega
 rcases e with rfl|rfl|rfl|rfl|rfl|rfl|rfl|rfl|rfl|rfl|rfl|rfl|rfl|rfl|rfl|rfl<;>rfl
theorem inkOf_any (v:Value)(n:Nat)(fs:Nat->Nat->Int)(l z x y:Int)(p:Nat)(w:World)(ak:kU w v n fs)(O:keyErr l z x y=0)(ad:p<64)(aH:n<=40)(ah:∀i,i<n->right (fs i)=true):
  Calls prog 165 #[v,.agg #[l,z,x,y],p] w fun e w'=>e=.returned (.int .u8 (fO fs l z (un z) (js x (un z) ((p:Int)%8)) (js y (un z) ((p:Int) / 8)) n 3))/\Below w.heap.size w w':=by
 obtain⟨_,⟨G,H⟩,⟨aE,ap⟩,⟨aF,aq⟩⟩:=dK O;have ar:=fun o=>unit_yes z o G H;have F:=fun o=>centre_any l z x y p o O ad;obtain⟨al,am,an,ao⟩:=mod8 p ad;have K:=(ij G H aE ap al am).2.2.1;have L:=(ij G H aF aq an ao).2.2.1;obtain⟨u1,u2⟩:=lA z G H;obtain⟨u,P⟩:∃u,un z=u:=⟨_,rfl⟩;rw[P] at ar F K L u1 u2;rw[P];obtain⟨X,M⟩:∃X,js x u ((p:Int)%8)=X:=⟨_,rfl⟩;obtain⟨d,N⟩:∃X,js y u ((p:Int) / 8)=X:=⟨_,rfl⟩;rw[M] at F K;rw[N] at F L;rw[M,N];clear P M N O ap aq al am an ao;have aO:=ae ak;obtain⟨aQ,cap,rfl,hm,ac⟩:=ak;have az:=ae ac;clear ac;go_enter func165,ntmps165
 go_wp2_with (go_at_call 122; refine(ar _).mono ?_; rintro e aS ⟨rfl,rfl⟩)
 refine(F _).mono ?_;rintro e w1 ⟨rfl,I⟩;have c:=ag (zZ w (.cells #[l,z,x,y] 39)) I
 have ay:=ae ((aj _ _).trans (I.mono (by simp)))
 clear I
 have Z:((w1.alloc (.cells #[X,d] 217)).alloc (.cells (fc zf) 66)).heap[w1.heap.size+1]?=some (.cells (fc zf) 66):=by
  simpa using zZ (w1.alloc (.cells #[X,d] 217)) (.cells (fc zf) 66)
 have Y:(w1.alloc (.cells #[X,d] 217)).heap.size=w1.heap.size+1:=by simp
 go_wp2_with (first|refine bld26 rfl rfl ?_|refine al26 rfl rfl (w1.heap.size+1) Y ?_|(refine mP rfl _ _ rfl (w1.heap.size+1) zf rfl rfl zf Z ?_))
 clear Z Y;have au:w.heap.size<w1.heap.size:=(zM.1 c).1
 go_loopw [10] (fun i wr=>∃(k:Nat) (T:Nat->Int),k<=n/\i=.int .i64 k/\Hid (T=fO fs l z u X d k)/\wr.heap[w.heap.size]?=some (.cells #[l,z,x,y] 39)/\wr.heap[w1.heap.size]?=some (.cells #[X,d] 217)/\wr.heap[w1.heap.size+1]?=some (.cells (fc T) 66)/\Below w.heap.size w wr) (fun i _=>n-(intOf i).toNat)
 ·have aC:=zZ (w1.alloc (.cells #[X,d] 217)) (.cells (fc zf) 66)
  refine⟨0,zf,by omega,rfl,ae rfl,?_,?_,?_,?_⟩
  ·rw[setRow_other (by omega),yK _ _ _ (by simp; omega),yK _ _ _ au]; exact c
  ·rw[setRow_other (by omega),yK _ _ _ (by simp)]; exact zZ _ _
  ·exact yX _ _ (fc zf) _ 66 (0,0) (by simpa using aC)
  refine aK (aG (aG (aa ay) aD _) aD _) (by omega) _
 obtain⟨k,T,D,rfl,B,c,g,f,a⟩:=hrel
 by_cases J:k<n
 ·obtain⟨b,off,rfl,S,U⟩:=aa az (by omega)
  have q:∀i,i<n->∀j,j<24->wr.cell? ⟨b,off+i*24+j,none⟩=some (.int .i64 (fs i j)):=fun i hi j m=>(a.cell (p:=⟨b,off+i*24+j,none⟩) S).trans (U i hi j m);have E:b<wr.heap.size:=zC S a.size;clear U;have D:=J
  have C:(k:Int)<n:=by omega
  have aA:=fun o=>gO (fs k) l z x y o;have aw:=fun o=>isAbove_any T (fs k) o
  have ax:=fun o=>covers_any (fs k) u X d o (ci (ah k J)) K L ⟨by omega,by omega⟩
  clear J
  go_wp2
  refine aM (by kernel_rfl) (by kernel_rfl) ?_
  refine bD (.slice (some ⟨b,off,none⟩) n cap) ?_;refine bD (.int .i64 k) ?_
  refine bd b (off+k*24) ?_ (h:=fun _ _=>by simp[go_sem,C])
  refine vF b (off+k*24) (fun w' h=>gq (fun i hi j m=>(h.cell (p:=⟨b,off+i*24+j,none⟩) E).trans (q i hi j m)) D) ?_;refine vK w.heap.size 0 (fun w' h=>dz c h) ?_
  refine vC aA ?_
  cases ai:iw (fs k) l z with
  | false=>
   refine bD (.bool false) ?_
   go_big_quiet_skip
   go_big_quiet_skip
   go_big_quiet_skip
   go_big_quiet_skip
   go_big_quiet_skip
   go_big_quiet_skip
   go_big_quiet_skip
   refine bH (.bool false) ?_;refine bD (.bool false) ?_
   go_big_quiet_skip
   go_big_quiet_skip
   go_big_quiet_skip
   go_big_quiet_skip
   go_big_quiet_skip
   go_big_quiet_skip
   go_big_quiet_skip
   refine bH (.bool false) ?_;refine zq ?_;intro w' hw';have t:=ag c hw';have A:=ag g hw';have r:=ag f hw';have s:=a.trans (hw'.mono a.size);have W:=hw'.size;clear c g f a q
   go_wp2
   go_roundw
   ·exact⟨k+1,T,by omega,by go_num,ae ((aa B).trans (kh (by rw[ai]; rfl))),t,A,r,s⟩
   simp[intOf]; omega
  | true=>
  refine bD (.bool true) ?_
  refine aR (by kernel_rfl) 66 _ rfl (w1.heap.size+1) 0 rfl (fc T) _ underlying66 rfl (gK _) (fun w' h=>dz f h) ?_
  simp only[qZ]
  refine bD (.slice (some ⟨b,off,none⟩) n cap) ?_ (hw:=by kernel_rfl)
  refine bD (.int .i64 k) ?_ (hw:=by kernel_rfl)
  refine bd b (off+k*24) ?_ (h:=fun _ _=>by simp[go_sem,C]) (hw:=by kernel_rfl)
  refine aR (by kernel_rfl) 66 _ rfl b (off+k*24) rfl (fc (fs k)) _ underlying66 rfl (gK _) (fun w' h=>gq (fun i hi j m=>(h.cell (p:=⟨b,off+i*24+j,none⟩) E).trans (q i hi j m)) D) ?_
  simp only[qZ]
  refine br (by kernel_rfl) 192 #[.agg (fc T),.agg (fc (fs k))] (fun _=>by simp[go_sem]) _ aw ?_
  simp only[qZ]
  cases ab:fM T (fs k) with
  | true=>
   refine bH (.bool false) ?_ (hw:=by kernel_rfl)
   refine bH (.bool false) ?_ (hw:=by kernel_rfl)
   refine bD (.bool false) ?_ (hw:=by kernel_rfl)
   go_big_quiet_skip
   go_big_quiet_skip
   go_big_quiet_skip
   go_big_quiet_skip
   go_big_quiet_skip
   go_big_quiet_skip
   go_big_quiet_skip
   refine bH (.bool false) ?_ (hw:=by kernel_rfl)
   refine zq ?_;intro w' hw';have t:=ag c hw';have A:=ag g hw';have r:=ag f hw';have s:=a.trans (hw'.mono a.size);have W:=hw'.size;clear c g f a q
   go_wp2
   go_roundw
   ·exact⟨k+1,T,by omega,by go_num,ae ((aa B).trans (kh (by rw[<-aa B,ab]; simp))),t,A,r,s⟩
   simp[intOf]; omega
  | false=>
  refine bH (.bool true) ?_ (hw:=by kernel_rfl)
  refine bH (.bool true) ?_ (hw:=by kernel_rfl)
  refine bD (.bool true) ?_ (hw:=by kernel_rfl)
  refine bD (.slice (some ⟨b,off,none⟩) n cap) ?_ (hw:=by kernel_rfl)
  refine bD (.int .i64 k) ?_ (hw:=by kernel_rfl)
  refine bd b (off+k*24) ?_ (h:=fun _ _=>by simp[go_sem,C]) (hw:=by kernel_rfl)
  refine aR (by kernel_rfl) 66 _ rfl b (off+k*24) rfl (fc (fs k)) _ underlying66 rfl (gK _) (fun w' h=>gq (fun i hi j m=>(h.cell (p:=⟨b,off+i*24+j,none⟩) E).trans (q i hi j m)) D) ?_
  simp only[qZ]
  refine bD (.int .i64 u) ?_ (hw:=by kernel_rfl)
  refine aR (by kernel_rfl) 217 _ rfl w1.heap.size 0 rfl #[X,d] _ underlying217 rfl (sz59 X d) (fun w' h=>dz g h) ?_
  simp only[qZ]
  refine br (by kernel_rfl) 160 #[.agg (fc (fs k)),u,.agg #[X,d]] (fun _=>by simp[go_sem]) _ ax ?_
  simp only[qZ]
  cases V:jZ (fs k) u X d with
  | false=>
   refine bH (.bool false) ?_ (hw:=by kernel_rfl)
   refine zq ?_;intro w' hw';have t:=ag c hw';have A:=ag g hw';have r:=ag f hw';have s:=a.trans (hw'.mono a.size);have W:=hw'.size;clear c g f a q
   go_wp2
   go_roundw
   ·exact⟨k+1,T,by omega,by go_num,ae ((aa B).trans (kh (by rw[V]; simp))),t,A,r,s⟩
   simp[intOf]; omega
  | true=>
   refine bH (.bool true) ?_ (hw:=by kernel_rfl)
   refine zq ?_;intro w' hw';have t:=ag c hw';have A:=ag g hw';have r:=ag f hw';have s:=a.trans (hw'.mono a.size);have Q:∀i,i<n->∀j,j<24->w'.cell? ⟨b,off+i*24+j,none⟩=some (.int .i64 (fs i j)):=fun i hi j m=>(hw'.cell (p:=⟨b,off+i*24+j,none⟩) E).trans (q i hi j m);have av:=gq Q D;have aP:=ae hw'.size;clear c g f a q Q hw'
   go_wp2_with (first|refine nI rfl _ rfl b (off+k*24) rfl (fs k) av ?_|refine mP rfl _ _ rfl (w1.heap.size+1) (fs k) rfl rfl T r ?_)
   go_roundw
   ·exact⟨k+1,fs k,by omega,by go_num,ae (kW (by rw[<-aa B,ai,ab,V]; rfl)),(setRow_other (by omega) _).trans t,(setRow_other (by omega) _).trans A,yX _ _ _ _ _ _ r,aK s (by omega) _⟩
   simp[intOf]; omega
 have C:k=n:=by omega
 subst C;have aJ:=af f
 have aI:=aN T 3 (by decide)
 have R:Hid (T 3=fO fs l z u X d k 3):=by show T 3=_; rw[aa B]
 have aL:IntKind.u8.wrap (T 3)=T 3:=nj _ trivial (aa R) ah
 go_wp2
 go_ret;exact⟨aB (aa R),a⟩
theorem Tryz.info5:(prog.info? 5).map (fun i=>(i.zero,i.size,i.bytes))=some (some (.int .u8 0),1,1):=by kernel_rfl
def bv (b:UInt8):Value:=.int .u8 b.toNat
def de (w:World)(B:Nat)(v:Value)(l:List UInt8):Prop:=w.ownsRow B 5 1 v l.length (l.map bv)
theorem ownB_nil (w:World)(B:Nat):de w B (.slice none 0 0) []:=World.ownsRow_nil _ _ _ _
theorem ownB_none (w:World)(B:Nat)(a:B<=w.heap.size):de (w.alloc (.cells #[] 5)) B (.slice (some ⟨w.heap.size,0,none⟩) 0 0) []:=
 World.ownsRow_lit w #[] 0 a (yF _) rfl
theorem lS (w:World)(B:Nat)(a:B<=w.heap.size)(b:UInt8)(n:Int)(c:n=b.toNat):de (w.alloc (.cells #[.int .u8 n] 5)) B (.slice (some ⟨w.heap.size,0,none⟩) 1 1) [b]:=by
 subst c
 exact World.ownsRow_lit w #[bv b] 1 a (by decide) rfl
theorem de.alloc {w:World}{B:Nat}{v:Value}{l:List UInt8}(h:de w B v l)(o:Obj):de (w.alloc o) B v l:=World.ownsRow.alloc h o
theorem de.drewN {w:World}{B:Nat}{v:Value}{l:List UInt8}(h:de w B v l)(q:Nat):de (w.drewN q) B v l:=h
theorem de.str {w:World}{B:Nat}{v:Value}{l:List UInt8}(h:de w B v l)(q:Nat):(convert 220 9 v).run prog (w.drewN q)=.ok (.string ⟨l.toArray⟩) (w.drewN q):=by
 have b:=h
 rcases h.2 with⟨rfl,c⟩|⟨g,cap,f,rfl,_,i,_,_,_,d⟩
 ·have:l=[]:=List.length_eq_zero_iff.1 c
  subst this;exact run_convert_bytes_nil (P:=prog) (w.drewN q) 220 5 underlying220 underlying5 0 0 9 underlying9
 refine run_convert_bytes_back (w.drewN q) 220 9 5 ⟨g,0,none⟩ cap l underlying220 underlying5 underlying9 ?_;intro j a
 have:=y7 b j (by simpa using a)
 rw[World.cell?_drewN]
 have e:(⟨g,0,none⟩:Addr).add j=⟨g,j,none⟩:=by simp[Addr.add]; exact fun h=>h.symm
 rw[e,this];simp[a,bv]
theorem bQ {f:Array Oper}{rest:List Oper}{o:Oper}{a:Act}{i:Exit->Act->World->Prop}(p:o.guard=none)(s x:Operand)
  (A:o.op=.call { callee:=.builtin .append,args:=#[s,x],argTypes:=#[220,220] })
  (c:World) (B:Nat) (v:Value) (l:List UInt8) (b:UInt8) (n:Int) (C:a.eval s=v) (e:de c B v l) (D:a.eval x=.slice (some ⟨c.heap.size,0,none⟩) 1 1)
  (y:n=b.toNat) (F:l.length<=1000000) (w:B<=c.heap.size)
  (h:∀d w',de w' B d (l++[b])->Below B c w'->wpList prog f i rest (a.put o.dst d) w') :
  wpList prog f i (o::rest) a (c.alloc (.cells #[.int .u8 n] 5)):=by
 subst y;obtain⟨E,hi,q,r,t⟩:=info_parts Tryz.info5
 refine wpList_append_own _ p s x 220 A B 5 E (.int .u8 0) 1 1 underlying220 hi q r t rfl (by decide) v l.length (l.map bv) C (e.alloc _) ⟨c.heap.size,0,none⟩ 1 1 [bv b] D rfl (cell_one_new _ _ _) ?_ ?_ ?_ ?_ ?_
 ·intro u g; simp at g; subst g; rfl
 ·unfold maxLen; omega
 ·omega
 ·simp; omega
 intro d w1 m j _;refine h d w1 ?_ ?_
 ·unfold de
  simpa using m
 exact((zV B c).alloc w _).grown j (by simp; omega) (fun k z=>(y9 e k z).1)
theorem de.on {w w':World}{B:Nat}{v:Value}{l:List UInt8}(h:de w B v l)(d:Below w.heap.size w w'):de w' B v l:=by
 obtain⟨c,a⟩:=h;refine⟨c,?_⟩
 rcases a with a|⟨g,cap,b,i,e,f,j⟩
 ·exact Or.inl a
 exact Or.inr ⟨g,cap,b,i,e,ag f d,j⟩
theorem fU {a b:List UInt8}{c n:Int}(h:a=b)(d:c=n):Ending.returned (.tuple #[.string ⟨a.toArray⟩,c])=.returned (.tuple #[.string ⟨b.toArray⟩,n]):=by rw[h,d]
def iE (fs:Nat->Nat->Int)(k:Nat):Bool:=(List.range k).all fun i=>right (fs i)
theorem allR_snoc {fs:Nat->Nat->Int}{k:Nat}(h:iE fs k=true)(a:right (fs k)=true):iE fs (k+1)=true:=by
 unfold iE at *; rw[y5,List.all_append,h]; simp[a]
theorem allR_bad {fs:Nat->Nat->Int}{k n:Nat}(b:k<n)(h:right (fs k)=false):iE fs n=false:=by
 rw[xZ]; intro a
 simp only[iE,zi,yL] at a
 rw[a k b] at h; cases h
theorem j7 {fs:Nat->Nat->Int}{n:Nat}(h:iE fs n=true)(i:Nat)(hi:i<n):right (fs i)=true:=by
 simp only[iE,zi,yL] at h;exact h i hi
def ink (fs:Nat->Nat->Int)(n:Nat)(l z x y:Int)(p:Nat):Int:=fO fs l z (un z) (js x (un z) ((p:Int)%8)) (js y (un z) ((p:Int) / 8)) n 3
def kP (fs:Nat->Nat->Int)(n:Nat)(l z x y:Int)(k:Nat):List UInt8:=(List.range k).map fun p=>UInt8.ofNat (ink fs n l z x y p).toNat
theorem pic_succ (fs:Nat->Nat->Int)(n:Nat)(l z x y:Int)(k:Nat):kP fs n l z x y (k+1)=kP fs n l z x y k++[UInt8.ofNat (ink fs n l z x y k).toNat]:=by simp[kP,y5]
theorem oL (fs:Nat->Nat->Int)(n:Nat)(l z x y:Int)(k:Nat):(kP fs n l z x y k).length=k:=by simp[kP]
theorem l8 {fs:Nat->Nat->Int}{n:Nat}(a:iE fs n=true)(l z x y:Int)(p:Nat):ink fs n l z x y p=((UInt8.ofNat (ink fs n l z x y p).toNat).toNat:Int):=by
 have:=oq (j7 a) l z (un z) (js x (un z) ((p:Int)%8)) (js y (un z) ((p:Int) / 8));unfold ink;generalize fO fs l z (un z) (js x (un z) ((p:Int)%8)) (js y (un z) ((p:Int) / 8)) n 3=v at *;rw[UInt8.toNat_ofNat'];omega
def jm (fs:Nat->Nat->Int)(n:Nat)(l z x y:Int):Int:=if keyErr l z x y=0 then (if 40<n then 11 else bif iE fs n then 0 else 7) else keyErr l z x y
def jj (fs:Nat->Nat->Int)(n:Nat)(l z x y:Int):List UInt8:=if keyErr l z x y=0 then (if 40<n then [] else bif iE fs n then kP fs n l z x y 64 else []) else []
theorem n7 (v:Value)(n:Nat)(fs:Nat->Nat->Int)(l z x y:Int)(w:World)(j:kU w v n fs)(h:¬keyErr l z x y=0\/40<n):
  Calls prog 107 #[v,.agg #[l,z,x,y]] w fun e w'=>e=.returned (.tuple #[.string ⟨(jj fs n l z x y).toArray⟩,.int .i64 (jm fs n l z x y)])/\Below w.heap.size w w':=by
 have p:=zZ w (.cells #[l,z,x,y] 39);have f:=fun k=>bV l z x y k;obtain⟨q,cap,rfl,hm,i⟩:=j;clear i
 by_cases a:keyErr l z x y=0
 focus
  have c:40<n:=by rcases h with h|h; exact absurd a h; exact h
  have b:Hid (jj fs n l z x y=[]/\jm fs n l z x y=11):=by show jj fs n l z x y=[]/\jm fs n l z x y=11; simp[jj,jm,a,c]
  rw[a] at f
  have m:(40:Int)<(n:Int):=by omega
  clear h a c
 rotate_left
 focus
  have b:Hid (jj fs n l z x y=[]/\jm fs n l z x y=keyErr l z x y):=by show jj fs n l z x y=[]/\jm fs n l z x y=_; simp[jj,jm,a]
  have o:(keyErr l z x y==0)=false:=by simp[a]
  clear h a
 all_goals
  go_enter func107,ntmps107
  go_wp2_with fail
  refine(f _).mono ?_;rintro e w1 ⟨rfl,d⟩
  have g:=ae ((aj _ _).trans (d.mono (by simp)))
  clear d
  go_wp2
  go_ret2
  exact⟨fU (aa b).1.symm (aa b).2.symm,aa g⟩
theorem Paint_in (v:Value)(n:Nat)(fs:Nat->Nat->Int)(l z x y:Int)(w:World)(Q:kU w v n fs)(g:keyErr l z x y=0)(au:n<=40):
  Calls prog 107 #[v,.agg #[l,z,x,y]] w fun e w'=>e=.returned (.tuple #[.string ⟨(jj fs n l z x y).toArray⟩,.int .i64 (jm fs n l z x y)])/\Below w.heap.size w w':=by
 have ab:=zZ w (.cells #[l,z,x,y] 39);have S:=fun I=>bV l z x y I;rw[g] at S;have aq:=ae Q;have ao:=ae g
 have al:Hid (iE fs n=false->jj fs n l z x y=[]/\jm fs n l z x y=7):=fun h=>by simp[jj,jm,g,h,show ¬ 40<n by omega]
 have ak:Hid (iE fs n=true->jj fs n l z x y=kP fs n l z x y 64/\jm fs n l z x y=0):=fun h=>by simp[jj,jm,g,h,show ¬ 40<n by omega]
 obtain⟨av,cap,rfl,hm,P⟩:=Q;have an:=ae P
 have ay:(n:Int)<=40:=by omega
 clear P g;go_enter func107,ntmps107
 go_wp2_with fail
 refine(S _).mono ?_;rintro e w1 ⟨rfl,C⟩;have ac:=ag ab C
 have am:=ae ((aj _ _).trans (C.mono (by simp)))
 clear C
 go_wp2
 go_loopw [7] (fun i wr=>∃k:Nat,k<=n/\i=.int .i64 k/\Hid (iE fs k=true)/\wr.heap[w.heap.size]?=some (.cells #[l,z,x,y] 39)/\Below w.heap.size w wr) (fun i _=>n-(intOf i).toNat)
 ·exact⟨0,by omega,rfl,ae rfl,ac,aa am⟩
 obtain⟨k,az,rfl,o,q,t⟩:=hrel;have d:=ae t
 by_cases r:k<n
 ·obtain⟨b,off,rfl,E,K⟩:=aa an (by omega)
  have L:∀i,i<n->∀j,j<24->wr.cell? ⟨b,off+i*24+j,none⟩=some (.int .i64 (fs i j)):=fun i hi j ar=>(t.cell (p:=⟨b,off+i*24+j,none⟩) E).trans (K i hi j ar);have s:=gq L r
  have N:(k:Int)<n:=by omega
  clear K L t
  cases u:right (fs k) with
  | true=>
   go_wp2_with (refine nI rfl _ rfl b (off+k*24) rfl (fs k) s ?_)
   refine(iA u _).mono ?_;rintro e R ⟨rfl,a⟩;have f:=ag q a;have c:=ae ((aa d).trans (a.mono (aa d).size));clear a s
   go_wp2
   go_roundw
   ·exact⟨k+1,by omega,by go_num,ae (allR_snoc (aa o) u),f,aa c⟩
   simp[intOf]; omega
  | false=>
   go_wp2_with (refine nI rfl _ rfl b (off+k*24) rfl (fs k) s ?_)
   refine(pE u _).mono ?_;rintro e R ⟨rfl,a⟩;have c:=ae ((aa d).trans (a.mono (aa d).size));clear a s
   go_wp2
   go_ret2
   have m:=aa al (allR_bad r u);exact⟨fU m.1.symm m.2.symm,aa c⟩
 have N:k=n:=by omega
 subst N;have ah:=(zM.1 q).1;have ap:=ae (ownB_none wr (w.heap.size+1) ah);clear t
 go_wp2
 go_loopw [8,9] (fun v i H=>∃p:Nat,p<=64/\i=.int .i64 p/\de H (w.heap.size+1) v (kP fs k l z x y p)/\H.heap[w.heap.size]?=some (.cells #[l,z,x,y] 39)/\Below w.heap.size w H) (fun _ i _=>64-(intOf i).toNat)
 ·exact⟨0,by omega,rfl,aa ap,(yK _ _ _ (zM.1 q).1).trans q,aG (aa d) aD _⟩
 obtain⟨p,aA,rfl,A,G,F⟩:=hrel;have Y:=af G;have B:=ae F;have W:=ae A
 by_cases r:p<64
 ·have ax:(p:Int)<64:=by omega
  have O:=fun I h=>inkOf_any (.slice av k cap) k fs l z x y p I h (aa ao) r au (j7 (aa o));have M:=(aa aq).on F;have X:=ae (l8 (aa o) l z x y p);clear A F
  go_wp2_with fail
  refine(O _ M).mono ?_;rintro e R ⟨rfl,a⟩;have f:=ag G a;have J:=(aa W).on a;have c:=ae ((aa B).trans (a.mono (aa B).size));have ai:=(zM.1 f).1;have E:=ae (oL fs k l z x y p);clear a G Y O M
  go_wp2_with (at_builtin; refine bQ rfl (.tmp 35) (.tmp 40) rfl _ (w.heap.size+1) _ (kP fs k l z x y p) (UInt8.ofNat (ink fs k l z x y p).toNat) _ rfl J rfl ?_ ?_ ?_ ?_)
  ·exact aa X
  ·have:=aa E; omega
  ·exact ai
  intro aB aw T D
  have ad:aw.heap[w.heap.size]?=some (.cells #[l,z,x,y] 39):=(D.block _ (by omega)).trans f
  have V:=ae ((aa c).trans (D.mono (by omega)))
  clear D J f
  go_wp2
  go_roundw
  ·exact⟨p+1,by omega,by go_num,by rw[pic_succ]; exact T,ad,aa V⟩
  simp[intOf]; omega
 have U:p=64:=by omega
 subst U;have Z:=A.str 0;rw[World.drewN_zero] at Z
 go_wp2
 go_ret2
 have m:=aa ak (aa o);exact⟨fU m.1.symm m.2.symm,aa B⟩
section
variable {ops:Array Oper}{rest:List Oper}{o:Oper}{a:Act}{w:World}{Q:Exit->Act->World->Prop}
theorem bU (c:TypeId)(cs:Array Value){d:TypeDesc}(i:prog.underlying c=some d)(f:d.isRow=true)(hi:(prog.info? c).map (·.size)=some cs.size)(b off:Nat)(e:w.rangeAt b off cs.toList)
  (hw:Region.wanted o (yielded ops a.tmps)=true) (x:Operand) (g:o.op=.load c x) (j:a.eval x=.pointer (some ⟨b,off,none⟩))
  (h:wpList prog ops Q rest (a.put o.dst (.agg cs)) w):wpList prog ops Q (o::rest) a w:=by
 unfold wpList;rw[zJ hw]
 exact Or.inl (wp_load_mid c x g b off j cs.toList _ e i f (by simpa using hi) (by simpa using h))
theorem vM {p q r s:Int}{b f:Nat}(hc:w.rangeAt b f #[.int .i64 p,.int .i64 q,.int .i64 r,.int .i64 s].toList)(hw:Region.wanted o (yielded ops a.tmps)=true)(x:Operand)(ho:o.op=.load 39 x)(hx:a.eval x=.pointer (some ⟨b,f,none⟩))(h:wpList prog ops Q rest (a.put o.dst (.agg #[.int .i64 p,.int .i64 q,.int .i64 r,.int .i64 s])) w):wpList prog ops Q (o::rest) a w:=bU 39 _ underlying39 rfl (bj _ _ _ _) b f hc hw x ho hx h
theorem stG (b:TypeId)(cs c:Array Value)(hi:(prog.info? b).map (·.size)=some cs.size)(e:cs.all (·.oneCell')=true)(j:c.size=cs.size)(g:Nat)(f:w.heap[g]?=some (.cells c b (0,0)))
  (d:o.guard=none) (x y:Operand) (i:o.op=.store b x y) (k:a.eval x=.pointer (some ⟨g,0,none⟩)) (hy:a.eval y=.agg cs)
  (h:wpList prog ops Q rest (a.put o.dst undef) (w.setRow g cs)):wpList prog ops Q (o::rest) a w:=
 wpList_store_row d b x y i g cs k hy b c f hi j e h
end
theorem ao {w:World}{g:Nat}{cs:Array Value}{t:TypeId}(h:w.heap[g]?=some (.cells cs t (0,0))):w.rangeAt g 0 cs.toList:=fun j v a=>by
 rw[af h,zb]; simpa using a
def tv:Option aL->Array Value
 | some t=>#[t.k.l,t.k.z,t.k.x,t.k.y,t.body,t.tag]
 | none=>#[(),(),(),(),.string ⟨#[]⟩,.string ⟨#[]⟩]
theorem d9 (o:Option aL):(prog.info? 196).map (·.size)=some (tv o).size:=by cases o<;>kernel_rfl
theorem je (o:Option aL):(tv o).all (·.oneCell')=true:=by cases o<;>simp[tv,Value.oneCell']
theorem rct {P:Program}{d:Func}{p q:Tmp}{a:TypeId}(h:d.results=#[.cell p a,.tmp q])(tmps:Array Value)(w:World)(g:Nat)(t:TypeId)(cs:Array Value)(e:Nat × Nat)(c:TypeDesc)(b:Value)
  (l:tmps.getD p undef=.pointer (some ⟨g,0,none⟩)) (m:tmps.getD q undef=b) (k:w.heap[g]?=some (.cells cs t e))
  (n:P.underlying a=some c) (j:(match c with|.struct _|.array _ _=>true|_=>false)=true) (hi:(P.info? a).map (·.size)=some cs.size) :
  (results d tmps).run P w=.ok (.tuple #[.agg cs,b]) w:=by
 have f:tmps[p]?.getD undef=.pointer (some ⟨g,0,none⟩):=by simpa using l
 have i:tmps[q]?.getD undef=b:=by simpa using m
 simp[results,h,f,i,asAddr,run_loadVar_row w g t a cs e c k n j hi]
theorem findT_at {ts:List aL}{k:Nat}{t:aL}{key:K4}(f:ts[k]?=some t)(c:t.k=key)(b:∀i u,i<k->ts[i]?=some u->u.k≠key):cS ts key=some t:=by
 unfold cS;rw[List.find?_eq_some_iff_getElem];obtain⟨a,e⟩:=zX.1 f
 refine⟨by simp[c],k,a,e,fun j d=>?_⟩
 have:=b j ts[j] d (zQ (by omega))
 simp[this]
theorem findT_no {ts:List aL}{key:K4}(a:∀i u,i<ts.length->ts[i]?=some u->u.k≠key):cS ts key=none:=by
 unfold cS;rw[List.find?_eq_none];intro t b;obtain⟨i,hi⟩:=zB.1 b;have:=a i t (zX.1 hi).1 hi;simp[this]
theorem bL.tile {c:World}{b off:Nat}{ts:List aL}{k:Nat}{t:aL}(h:∀i a,ts[i]?=some a->c.rangeAt b (off+i*aW.wid) (aW.enc a))(d:ts[k]?=some t):c.rangeAt b (off+k*6) (tv (some t)).toList:=h k t d
theorem rng4 {c:World}{b o:Nat}{t:aL}(h:c.rangeAt b o (tv (some t)).toList):c.rangeAt b o #[Value.int .i64 t.k.l,.int .i64 t.k.z,.int .i64 t.k.x,.int .i64 t.k.y].toList:=by
 intro j v a;refine h j v ?_
 rcases j with _|_|_|_|j
 ·exact a
 ·exact a
 ·exact a
 ·exact a
 simp at a
theorem mj (v:Value)(ts:List aL)(l z x y:Int)(w:World)(al:bL aW w v ts):
  Calls prog 130 #[v,.agg #[l,z,x,y]] w fun e w'=>e=.returned (.tuple #[.agg (tv (cS ts ⟨l,z,x,y⟩)),.bool (cS ts ⟨l,z,x,y⟩).isSome])/\Below w.heap.size w w':=by
 obtain⟨aq,cap,rfl,an,hm,W⟩:=al;have ak:=ae W;unfold maxLen at hm;clear W;have U:=zZ w (.cells #[l,z,x,y] 39);have L:=zZ (w.alloc (.cells #[l,z,x,y] 39)) (.cells (tv none) 196)
 have ah:(w.alloc (.cells #[l,z,x,y] 39)).heap.size=w.heap.size+1:=by simp
 rw[ah] at L
 have P:=(zr (w.alloc (.cells #[l,z,x,y] 39)) (.cells (tv none) 196) (show w.heap.size<_ by simp)).trans U
 have B:=((zV w.heap.size w).alloc aD (.cells #[l,z,x,y] 39)).alloc (by simp) (.cells (tv none) 196)
 have ai:=ae P;have aj:=ae L;have Y:=ae B;clear U L P B;go_enter func130,ntmps130
 go_wp2
 go_loopw [6] (fun i wr=>∃k:Nat,k<=ts.length/\i=.int .i64 k/\Hid (∀i u,i<k->ts[i]?=some u->u.k≠⟨l,z,x,y⟩)/\wr.heap[w.heap.size]?=some (.cells #[l,z,x,y] 39)/\wr.heap[w.heap.size+1]?=some (.cells (tv none) 196)/\Below w.heap.size w wr) (fun i _=>ts.length-(intOf i).toNat)
 ·exact⟨0,by omega,rfl,ae (fun i u hi=>absurd hi (by omega)),aa ai,aa aj,aa Y⟩
 obtain⟨k,ap,rfl,H,K,D,n⟩:=hrel;have ao:w.heap.size+1<wr.heap.size:=(zM.1 D).1
 by_cases ac:k<ts.length
 ·have C:(k:Int)<ts.length:=by omega
  obtain⟨b,off,rfl,B,R⟩:=aa ak (by omega)
  obtain⟨⟨⟨a,f,c,d⟩,o,q⟩,N⟩:∃t,ts[k]?=some t:=⟨_,zQ ac⟩;have S:=bL.tile R N;have M:∀g,Below wr.heap.size wr g->g.rangeAt b (off+k*6) (tv (some ⟨⟨a,f,c,d⟩,o,q⟩)).toList:=fun g h j u m=>((n.trans (h.mono n.size)).cell (p:=⟨b,off+k*6+j,none⟩) B).trans (S j u m);have Q:=fun g h=>rng4 (M g h)
  have V:∀g,Below wr.heap.size wr g->g.rangeAt w.heap.size 0 (#[l,z,x,y]:Array Value).toList:=fun g h j u m=>by
   rw[af (ag K h),zb]; simpa using m
  go_wp2_with fail
  refine aM (by kernel_rfl) (by kernel_rfl) ?_
  refine bD (.slice (some ⟨b,off,none⟩) ts.length cap) ?_;refine bD (.int .i64 k) ?_
  refine bd b (off+k*6) ?_ (h:=fun w' ad=>by simp[go_sem,C])
  refine bd b (off+k*6) ?_;refine vK b (off+k*6) Q ?_;refine vK w.heap.size 0 V ?_
  refine bH (.bool (decide ((⟨a,f,c,d⟩:K4)=⟨l,z,x,y⟩))) ?_ (h:=fun w' ad=>by simp[go_sem,eql39])
  refine zq ?_;intro am s;have T:=ag K s;have I:=ag D s;have X:=M am s;have O:=ae (n.trans (s.mono n.size));have Z:=ae T;have ab:=ae I;clear M Q V S R n K T s
  by_cases A:(⟨a,f,c,d⟩:K4)=⟨l,z,x,y⟩
  ·have r:=yX _ _ _ (tv (some ⟨⟨a,f,c,d⟩,o,q⟩)) _ _ I
   have E:=ae r
   have F:=ae (aK (aa O) (show w.heap.size<=w.heap.size+1 by omega) (tv (some ⟨⟨a,f,c,d⟩,o,q⟩)))
   have G:decide ((⟨a,f,c,d⟩:K4)=⟨l,z,x,y⟩)=true:=by simp[A]
   have J:=ae (findT_at N A (aa H));clear r A;simp only[G]
   go_wp2_with (first|refine bU 196 (tv (some ⟨⟨a,f,c,d⟩,o,q⟩)) underlying196 rfl (d9 _) b (off+k*6) X rfl _ rfl rfl ?_|refine stG 196 (tv (some ⟨⟨a,f,c,d⟩,o,q⟩)) (tv none) (d9 _) (je _) rfl (w.heap.size+1) I rfl _ _ rfl rfl rfl ?_)
   refine zL (v:=.tuple #[.agg (tv (some ⟨⟨a,f,c,d⟩,o,q⟩)),true]) (rct results130 _ _ (w.heap.size+1) 196 (tv (some ⟨⟨a,f,c,d⟩,o,q⟩)) (0,0) _ (.bool true) rfl rfl (aa E) underlying196 rfl (d9 _)) rfl ⟨?_,aa F⟩;rw[aa J];rfl
  have G:decide ((⟨a,f,c,d⟩:K4)=⟨l,z,x,y⟩)=false:=by simp[A]
  simp only[G]
  go_wp2
  go_roundw
  ·exact⟨k+1,by omega,by go_num,ae (fun i u hi m=>by
   by_cases e:i=k
   ·subst e; rw[N] at m; simp only[zy] at m; subst m; exact A
   exact aa H i u (by omega) m),aa Z,aa ab,aa O⟩
  simp[intOf]; omega
 have C:k=ts.length:=by omega
 have J:=ae (findT_no (key:=⟨l,z,x,y⟩) (by rw[<-C]; exact aa H))
 have r:=yX _ _ _ (tv none) _ _ D;have E:=ae r
 have F:=ae (aK n (show w.heap.size<=w.heap.size+1 by omega) (tv none))
 clear r n;subst C
 go_wp2_with (refine stG 196 (tv none) (tv none) (d9 none) (je none) rfl (w.heap.size+1) D rfl _ _ rfl rfl rfl ?_)
 refine zL (v:=.tuple #[.agg (tv none),false]) (rct results130 _ _ (w.heap.size+1) 196 (tv none) (0,0) _ (.bool false) rfl rfl (aa E) underlying196 rfl (d9 _)) rfl ⟨?_,aa F⟩;rw[aa J];rfl
structure aE (S:Nat->Prop)(w w':World):Prop where
 os:w'.os=w.os
 tape:w'.tape=w.tape
 output:w'.output=w.output
 size:w.heap.size<=w'.heap.size
 block:∀k,k<w.heap.size->¬S k->w'.heap[k]?=w.heap[k]?
theorem aE.rfl' (S:Nat->Prop)(w:World):aE S w w:=⟨rfl,rfl,rfl,zz _,fun _ _ _=>rfl⟩
theorem aE.trans {S:Nat->Prop}{a b c:World}(h:aE S a b)(k:aE S b c):aE S a c:=
 ⟨k.os.trans h.os,k.tape.trans h.tape,k.output.trans h.output,zF h.size k.size,fun i hi d=>(k.block i (zC hi h.size) d).trans (h.block i hi d)⟩
theorem aE.mono {S S':Nat->Prop}{a b:World}(h:aE S a b)(c:∀k,k<a.heap.size->S k->S' k):aE S' a b:=⟨h.os,h.tape,h.output,h.size,fun i hi d=>h.block i hi (fun q=>d (c i hi q))⟩
theorem aE.then {S S':Nat->Prop}{a b c:World}(h:aE S a b)(k:aE S' b c)(e:∀i,i<a.heap.size->S' i->S i):aE S a c:=
 ⟨k.os.trans h.os,k.tape.trans h.tape,k.output.trans h.output,zF h.size k.size,fun i hi d=>(k.block i (zC hi h.size) (fun q=>d (e i hi q))).trans (h.block i hi d)⟩
theorem aE.of_below {S:Nat->Prop}{a b:World}(h:Below a.heap.size a b):aE S a b:=⟨h.os,h.tape,h.output,h.size,fun i hi _=>h.block i hi⟩
theorem aE.grown {S:Nat->Prop}{a b c:World}{f:Option Nat}(h:aE S a b)(d:b.grownBy c f)(j:∀k,f=some k->k<a.heap.size->S k):aE S a c:=
 ⟨d.os.trans h.os,d.tape.trans h.tape,d.output.trans h.output,zF h.size d.size,fun i hi g=>(d.block i (zC hi h.size) (fun e=>g (j i e.symm hi))).trans (h.block i hi g)⟩
theorem aE.setCell {S:Nat->Prop}{a b:World}(h:aE S a b){p:Addr}(v:Value)(d:p.block<a.heap.size->S p.block):aE S a (b.setCell p v):=
 ⟨h.os,h.tape,h.output,by simpa using h.size,fun i hi c=>by
  rw[zW b p v i (fun e=>c (by rw[e] at hi ⊢; exact d hi))]; exact h.block i hi c⟩
theorem ah.frm {α:Type}{R:dR α}{T:TypeId}{w w':World}{v:Value}{l:List α}{S:Nat->Prop}(h:ah R T w v l)(c:aE S w w')(b:∀g,v.ownBlock=some g->¬S g):ah R T w' v l:=h.same fun g a=>c.block g (h.lt a) (b g a)
theorem aQ {w w':World}{S:Nat->Prop}{g:Nat}{o:Obj}(h:w.heap[g]?=some o)(b:aE S w w')(a:¬S g):w'.heap[g]?=some o:=(b.block g (zM.1 h).1 a).trans h
theorem an {w:World}{g:Nat}{o:Obj}(h:w.heap[g]?=some o):g<w.heap.size:=(zM.1 h).1
section
variable {ops:Array Oper}{rest:List Oper}{o:Oper}{a:Act}{Q:Exit->Act->World->Prop}{w w':World}{v x' v':Value}
theorem exR (t:TypeId)(c:(Builtin.append_ #[t,t] t #[v,x']).run prog w=.ok v' w')(a:Act)(o:Oper)(s x:Operand)(b:o.op=.call { callee:=.builtin .append,args:=#[s,x],argTypes:=#[t,t] })(e:o.type=t)(d:a.eval s=v)(f:a.eval x=x'):(execOp a.eval o).run prog w=.ok (.value v') w':=by
 unfold execOp;simp only[b,resolve,invoke,builtin];simp[d,f,e,c,Result.andThen]
theorem fS (t:TypeId)(e:(Builtin.append_ #[t,t] t #[v,x']).run prog w=.ok v' w')(b:o.guard=none)(s x:Operand)(d:o.op=.call { callee:=.builtin .append,args:=#[s,x],argTypes:=#[t,t] })(g:o.type=t)(f:a.eval s=v)(i:a.eval x=x')
  (h:wpList prog ops Q rest (a.put o.dst v') w'):wpList prog ops Q (o::rest) a w:=
 wpList_plain b fun _ c=>by
  unfold Oper.wp;rw[exR t e a o s x d g f i];exact c _ _ h
theorem cP (u:Value)(w1:World)(d:(execOp a.eval o).run prog w=.ok (.value u) w1)(b:o.guard=none)(h:wpList prog ops Q rest (a.put o.dst u) w1):wpList prog ops Q (o::rest) a w:=
 wpList_plain b fun _ c=>by
  unfold Oper.wp;rw[d];exact c _ _ h
end
theorem ee {t:TypeId}{z:Value}{s b:Nat}(h:(prog.info? t).map (fun i=>(i.zero,i.size,i.bytes))=some (some z,s,b)):∃i,prog.info? t=some i/\i.zero=some z/\i.size=s/\i.bytes=b:=by
 cases e:prog.info? t with
 | none=>rw[e] at h; simp at h
 | some i=>rw[e] at h; simp at h; exact⟨i,rfl,h.1,h.2.1,h.2.2⟩
theorem inf196:(prog.info? 196).map (fun i=>(i.zero,i.size,i.bytes))=some (some (.agg #[(),(),(),(),.string ⟨#[]⟩,.string ⟨#[]⟩]),6,64):=by kernel_rfl
theorem mz {w:World}{v x:Value}{l a:List aL}(h:ah aW 196 w v l)(j:bL aW w x a)(k:l.length+a.length<=100000000):
  ∃b w',(Builtin.append_ #[123,123] 123 #[v,x]).run prog w=.ok b w'/\ah aW 196 w' b (l++a)/\w.grownBy w' v.ownBlock/\(b.ownBlock=v.ownBlock\/∀g,b.ownBlock=some g->w.heap.size<=g):=by
 obtain⟨i,c,d,e,f⟩:=ee inf196
 exact ah.append (P:=prog) 123 123 i _ 64 underlying123 c d e f rfl h a x j (by unfold maxLen; omega) (by omega)
theorem inf201:(prog.info? 201).map (fun i=>(i.zero,i.size,i.bytes))=some (some (.agg #[(),(),(),(),(),(),()]),7,56):=by kernel_rfl
theorem apReq {w:World}{v x:Value}{l a:List dJ}(h:ah cW 201 w v l)(j:bL cW w x a)(k:l.length+a.length<=100000000):
  ∃b w',(Builtin.append_ #[126,126] 126 #[v,x]).run prog w=.ok b w'/\ah cW 201 w' b (l++a)/\w.grownBy w' v.ownBlock/\(b.ownBlock=v.ownBlock\/∀g,b.ownBlock=some g->w.heap.size<=g):=by
 obtain⟨i,c,d,e,f⟩:=ee inf201
 exact ah.append (P:=prog) 126 126 i _ 56 underlying126 c d e f rfl h a x j (by unfold maxLen; omega) (by omega)
theorem inf39:(prog.info? 39).map (fun i=>(i.zero,i.size,i.bytes))=some (some (.agg #[(),(),(),()]),4,32):=by kernel_rfl
theorem apKey {w:World}{v x:Value}{l a:List K4}(h:ah bT 39 w v l)(j:bL bT w x a)(k:l.length+a.length<=100000000):
  ∃b w',(Builtin.append_ #[127,127] 127 #[v,x]).run prog w=.ok b w'/\ah bT 39 w' b (l++a)/\w.grownBy w' v.ownBlock/\(b.ownBlock=v.ownBlock\/∀g,b.ownBlock=some g->w.heap.size<=g):=by
 obtain⟨i,c,d,e,f⟩:=ee inf39
 exact ah.append (P:=prog) 127 127 i _ 32 underlying127 c d e f rfl h a x j (by unfold maxLen; omega) (by omega)
theorem inf103:(prog.info? 103).map (fun i=>(i.zero,i.size,i.bytes))=some (some (.agg #[(),(),.string ⟨#[]⟩,.string ⟨#[]⟩]),4,48):=by kernel_rfl
theorem apRep {w:World}{v x:Value}{l a:List gD}(h:ah bE 103 w v l)(j:bL bE w x a)(k:l.length+a.length<=100000000):
  ∃b w',(Builtin.append_ #[89,89] 89 #[v,x]).run prog w=.ok b w'/\ah bE 103 w' b (l++a)/\w.grownBy w' v.ownBlock/\(b.ownBlock=v.ownBlock\/∀g,b.ownBlock=some g->w.heap.size<=g):=by
 obtain⟨i,c,d,e,f⟩:=ee inf103
 exact ah.append (P:=prog) 89 89 i _ 48 underlying89 c d e f rfl h a x j (by unfold maxLen; omega) (by omega)
theorem inf107:(prog.info? 107).map (fun i=>(i.zero,i.size,i.bytes))=some (some (.agg #[(),(),(),(),(),(),(),()]),8,64):=by kernel_rfl
theorem pK {w:World}{v x:Value}{l a:List f9}(h:ah bC 107 w v l)(j:bL bC w x a)(k:l.length+a.length<=100000000):
  ∃b w',(Builtin.append_ #[104,104] 104 #[v,x]).run prog w=.ok b w'/\ah bC 107 w' b (l++a)/\w.grownBy w' v.ownBlock/\(b.ownBlock=v.ownBlock\/∀g,b.ownBlock=some g->w.heap.size<=g):=by
 obtain⟨i,c,d,e,f⟩:=ee inf107
 exact ah.append (P:=prog) 104 104 i _ 64 underlying104 c d e f rfl h a x j (by unfold maxLen; omega) (by omega)
theorem jt (l z a y:Int)(b t:ByteArray)(ev:Operand->Value)(o:Oper)(x:Operand)(c:o.op=.buildSlice 123 1 #[(0,x)])(d:ev x=.agg #[l,z,a,y,b,t])(w:World):(execOp ev o).run prog w=.ok (.value (.slice (some ⟨w.heap.size,0,none⟩) 1 1)) (w.alloc (.cells #[l,z,a,y,b,t] 196)):=by
 unfold execOp;simp only[c];simp only[yN,zA,yQ,d]
 kernel_rfl
theorem mt (l z a y:Int)(ev:Operand->Value)(o:Oper)(x:Operand)(b:o.op=.buildSlice 127 1 #[(0,x)])(c:ev x=.agg #[l,z,a,y])(w:World):(execOp ev o).run prog w=.ok (.value (.slice (some ⟨w.heap.size,0,none⟩) 1 1)) (w.alloc (.cells #[l,z,a,y] 39)):=by
 unfold execOp;simp only[b];simp only[yN,zA,yQ,c]
 kernel_rfl
theorem bsReq (n l z b y a c:Int)(ev:Operand->Value)(o:Oper)(x:Operand)(d:o.op=.buildSlice 126 1 #[(0,x)])(e:ev x=.agg #[n,l,z,b,y,a,c])(w:World):(execOp ev o).run prog w=.ok (.value (.slice (some ⟨w.heap.size,0,none⟩) 1 1)) (w.alloc (.cells #[n,l,z,b,y,a,c] 201)):=by
 unfold execOp;simp only[d];simp only[yN,zA,yQ,e]
 kernel_rfl
theorem gz (n s:Int)(b t:ByteArray)(ev:Operand->Value)(o:Oper)(x:Operand)(a:o.op=.buildSlice 89 1 #[(0,x)])(c:ev x=.agg #[n,s,b,t])(w:World):(execOp ev o).run prog w=.ok (.value (.slice (some ⟨w.heap.size,0,none⟩) 1 1)) (w.alloc (.cells #[n,s,b,t] 103)):=by
 unfold execOp;simp only[a];simp only[yN,zA,yQ,c]
 kernel_rfl
theorem ms (l z d y a b c e:Int)(ev:Operand->Value)(o:Oper)(x:Operand)(f:o.op=.buildSlice 104 1 #[(0,x)])(g:ev x=.agg #[l,z,d,y,a,b,c,e])(w:World):(execOp ev o).run prog w=.ok (.value (.slice (some ⟨w.heap.size,0,none⟩) 1 1)) (w.alloc (.cells #[l,z,d,y,a,b,c,e] 107)):=by
 unfold execOp;simp only[f];simp only[yN,zA,yQ,g]
 kernel_rfl
theorem aZ {α:Type}(R:dR α)(T:TypeId)(w:World)(a:α)(cs:Array Value)(b:cs.toList=R.enc a):bL R (w.alloc (.cells cs T)) (.slice (some ⟨w.heap.size,0,none⟩) 1 1) [a]:=
 bL.one_of a aD (by simp) (by rw[<-b]; exact ao (zZ w (.cells cs T (0,0))))
end Go.Proofs.YtpabpniaekldeaaGreatDoor
