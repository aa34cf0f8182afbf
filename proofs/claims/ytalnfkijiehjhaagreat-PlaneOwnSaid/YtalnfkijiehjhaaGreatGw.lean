/- append(x, make([]byte, m)...): noughts onto a row of bytes of the call's own. Bytes and numbers. put. number. clone. Pairs, small tests. What a head, a body tell. -/
import Derived.Test.YtalnfkijiehjhaaGreatGa
import Derived.Test.YtalnfkijiehjhaaGreatGs
import Derived.Lib.AppendZeros
import Derived.Test.YtalnfkijiehjhaaGreatGm
import Derived.BigQuiet
import Derived.Deep.RegionHeld3
import Derived.Deep.Cut
import Derived.Laws.CopyOwn
import Derived.Laws.OwnMore
namespace Go.Proofs.YtalnfkijiehjhaaGreat
set_option linter.unusedVariables false
open Go.RowKit Go.ChangeShapes Go.WideShapes Go.ChangeAt
section
variable {P:Program}(w:World)
theorem je (z:Value)(m:Nat):(Builtin.zeroCells #[z] m).toList=List.replicate m z:=by
 rw[List.eq_replicate_iff]
 refine⟨by simp[Builtin.zeroCells],fun b hb=>?_⟩
 simp only[Builtin.zeroCells,Array.mem_toList_iff,Array.mem_map,Array.mem_range]at hb
 obtain ⟨i,h⟩:=hb
 first
  | (have:=h.2;simp[Nat.mod_one]at this;exact this.symm)
  | (simp[Nat.mod_one]at h;exact h.symm)
theorem tF (base:Nat)(t tn ty e:TypeId)(i:TypeInfo)(z:Value)(bytes:Nat)(kn:IntKind)(ht:P.underlying t=some (.slice e))(htn:P.underlying tn=some (.int kn))(hi:P.info? e=some i)(hz:i.zero=some z)
 (hsize:i.size=1) (hby:i.bytes=bytes) (hzc:z.cells =#[z]) (h1:z.oneCell'=true)
 (v:Value) (n:Nat) (xs:List Value) (hown:w.ownsRow base e 1 v n xs) (m:Nat) (h63:n+m≤maxLen) (hbytes:(n+m)*bytes≤140737488355328) (hbase:base≤w.heap.size) :
 ∃v' w',(Builtin.append_ #[t,tn] ty #[v,(m:Int)]).run P w =.ok v' w'∧w'.ownsRow base e 1 v' (n+m) (xs++List.replicate m z)∧w.grownBy w' v.ownBlock∧
  (v'.ownBlock=v.ownBlock∨v'.ownBlock=some w.heap.size):=by
 subst hby
 have hmx:n+m≤9223372036854775807:=by simp only[maxLen]at h63;omega
 have hw:IntKind.i64.wrap (m:Int)=m:=by rw[IntKind.wrap_i64];omega
 have hneg:¬((m:Int)<0):=by omega
 have hle:m*i.bytes≤(n+m)*i.bytes:=Nat.mul_le_mul_right _ (by omega)
 have h48i:¬(281474976710656<(m:Int)*(i.bytes:Int)):=by
  rw[←Int.natCast_mul]
  omega
 have hlen:(xs++List.replicate m z).length=(n+m)*1:=by rw[List.length_append,hown.1,List.length_replicate];omega
 have grown:∀(old:Nat),old<n+m→∀(row:Option Nat),
  (w.drew.alloc (.cells (xs.toArray++Builtin.zeroCells #[z] m++Builtin.zeroCells #[z] (grownCap w (n+m) old e-(n+m))) e)).ownsRow base e 1
   (.slice (some ⟨w.heap.size,0,none⟩) (n+m) (grownCap w (n+m) old e)) (n+m) (xs++List.replicate m z)∧
  w.grownBy (w.drew.alloc (.cells (xs.toArray++Builtin.zeroCells #[z] m++Builtin.zeroCells #[z] (grownCap w (n+m) old e-(n+m))) e)) row:=by
  intro old ho row
  have hge:=grownCap_ge w (n+m) old e
  have hcm:grownCap w (n+m) old e≤maxLen:=grownCap_le_maxLen w (n+m) old e h63
  refine⟨⟨hlen,.inr ⟨w.heap.size,_,_,rfl,hbase,heap_alloc_new w.drew _,hge,hcm,?_,?_⟩⟩,⟨rfl,rfl,rfl,by simp,fun k hk _=>Below.heap_alloc w.drew _ k hk⟩⟩
  ·have:=hown.1
   simp only[Array.size_append,List.size_toArray,size_zeroCells,this]
   simp
   omega
  simp only[Array.toList_append,List.append_assoc,je]
  rw[←List.append_assoc,←hlen]
  exact List.take_left
 rcases hown.2 with ⟨rfl,rfl⟩ |⟨g,cap,cur,rfl,hbg,hg,hnc,hcm,hcs,htake⟩
 ·have hx:xs =[]:=List.eq_nil_of_length_eq_zero (by simpa using hown.1)
  subst hx
  by_cases hm:m=0
  ·subst hm
   refine⟨.slice none 0 0,w,?_,World.ownsRow_nil w base e 1,⟨rfl,rfl,rfl,Nat.le_refl _,fun _ _ _=>rfl⟩,.inl rfl⟩
   simp[Builtin.append_,run_underlying ht,run_underlying htn,sizeOf,typeInfo,hi,asInt,asIntOf,show IntKind.i64.wrap 0=0 from rfl]
  have hr:=Lib.run_append_nil_zeros (P:=P) w t tn ty e i z .i64 kn ht htn hi hz m (by omega) (by omega) (by omega) (by omega)
  have hgr:=grown 0 (by omega) (Value.ownBlock (.slice none 0 0))
  rw[hzc]at hr
  simp only[Nat.zero_add,List.nil_append]at hgr ⊢
  have e0:(([]:List Value).toArray++Builtin.zeroCells #[z] m)=Builtin.zeroCells #[z] m:=by simp
  rw[e0]at hgr
  exact⟨_,_,hr,hgr.1,hgr.2,.inr rfl⟩
 by_cases hroom:n+m≤cap
 ·have hst:=run_storeCells_at P g n e (List.replicate m z) 0 cur w hg (by simp;omega) (fun u hu=>by rw[List.eq_of_mem_replicate hu];exact h1)
  simp only[Nat.add_zero]at hst
  refine⟨.slice (some ⟨g,0,none⟩) (n+m) cap,_,?_,⟨hlen,.inr ⟨g,cap,_,rfl,hbg,setRow_heap w g cur (cur.toList.take n++List.replicate m z++cur.toList.drop (n+(List.replicate m z).length)).toArray e _ hg,hroom,hcm,?_,?_⟩⟩,⟨rfl,rfl,rfl,by simp,fun k _ hk=>setRow_other w g k _ (fun e=>hk (by simp[Value.ownBlock,e]))⟩,.inl rfl⟩
  ·by_cases hm:m=0
   ·subst hm
    have hs0:(storeCells ⟨g,n,none⟩ []).run P w =.ok () (w.setRow g (cur.toList.take n++List.replicate 0 z++cur.toList.drop (n+(List.replicate 0 z).length)).toArray):=by simpa using hst
    simp[Builtin.append_,run_underlying ht,run_underlying htn,sizeOf,typeInfo,hi,asInt,asIntOf,show IntKind.i64.wrap 0=0 from rfl,hsize,hnc,Addr.add_lit]at hs0 ⊢
    rw[hs0]
    rfl
   have hst':=hst
   rw[←je]at hst'
   simp only[List.length_replicate,je]at hst'
   simp[Builtin.append_,run_underlying ht,run_underlying htn,sizeOf,typeInfo,zeroValue,hi,hz,asInt,asIntOf,hw,hneg,h48i,hm,hsize,hroom,hzc,je,Addr.add_lit,hst']
  ·simp
   omega
  rw[←htake]
  simp only[Nat.mul_one,List.append_assoc]
  rw[←List.append_assoc]
  have h2:(cur.toList.take n++List.replicate m z).length=n+m:=by simp;omega
  rw[←h2]
  exact List.take_left
 have holds:∀j u,xs[j]? = some u→w.cell? ((⟨g,0,none⟩:Addr).add j)=some u:=hown.cells (g:=g) rfl
 have hn:¬(n+m≤cap):=hroom
 have h63':¬(9223372036854775807<((n:Int)+(m:Int))):=by omega
 have h48':¬(281474976710656<Builtin.nextslicecap (n+m) cap*i.bytes):=by have:=growslice_fits (need:=n+m) (old:=cap) (bytes:=i.bytes) (by omega) hbytes;omega
 have hfo:=run_firstCells_some (P:=P) w.drew 1 n ⟨g,0,none⟩ n cap xs (by simpa using hown.1) (by simpa using holds)
 have hgr:=grown cap (by omega) (Value.ownBlock (.slice (some ⟨g,0,none⟩) n cap))
 have hm:m≠0:=by omega
 refine⟨_,_,?_,hgr.1,hgr.2,.inr rfl⟩
 simp[Builtin.append_,run_underlying ht,run_underlying htn,sizeOf,typeInfo,zeroValue,hi,hz,asInt,asIntOf,hw,hneg,h48i,hm,hsize,hn,h63',h48',Question.forced,hfo,hzc,newRow,grownCap]
end
section
variable {w:World}{ops:Array Oper}{rest:List Oper}{o:Oper}{a:Act}{Q:Exit→Act→World→Prop}
theorem qZ0{P:Prop}(h:P:=by
 have hr:List.replicate m (Value.int .u8 0)=(List.range m).map (fun _=>Value.int .u8 0):=by simp[List.map_const']
 rw[hr,Nat.mul_one,Nat.mul_one,mw]
 refine List.map_congr_left fun j _=>?_
 simp only[two]
 split <;> rfl
 ):P:=h
theorem Cr (hgd:o.guard=none)(s x:Operand)(ho:o.op =.call { callee:=.builtin .append,args:=#[s,x],argTypes:=#[23,3] })
 (base:Nat) (v:Value) (n:Nat) (f:Nat→Int) (hs:a.eval s=v) (hown:Ow w base 5 1 v n (fun j=>.int .u8 (f j)))
 (m:Nat) (hx:a.eval x =.int .i64 (m:Int)) (hsz:n+m≤140737488355328) (hbase:base≤w.heap.size)
 (h:∀A' c' w',Ow w' base 5 1 (.slice A' (n+m) c') (n+m) (fun j=>.int .u8 (if j<n then f j else 0))→n+m≤c'→c'≤maxLen→Below base w w'→w.grownBy w' v.ownBlock→
  (∀g,(Value.slice A' (n+m) c').ownBlock=some g→v.ownBlock=some g∨g=w.heap.size)→wpList Tryz.prog ops Q rest (a.put o.dst (.slice A' (n+m) c')) w'):wpList Tryz.prog ops Q (o::rest) a w:=by
 obtain ⟨i0,hi,hz0,hz1,hz2⟩:=info_parts kj
 obtain ⟨v',w',hrun,h2,h3,h4⟩:=tF (P:=Tryz.prog) w base 23 3 o.type 5 i0 (.int .u8 0) 1 .i64 Tryz.underlying23 Tryz.underlying3 hi hz0 hz1 hz2 rfl rfl v n _ hown m (by simp only[maxLen];omega) (by omega) hbase
 have hrow:(List.range (n*1)).map (fun j=>Value.int .u8 (f j))++List.replicate m (Value.int .u8 0)=(List.range ((n+m)*1)).map (fun j=>Value.int .u8 (if j<n then f j else 0)):=by
  exact qZ0
 rw[hrow]at h2
 have h2':Ow w' base 5 1 v' (n+m) (fun j=>.int .u8 (if j<n then f j else 0)):=h2
 obtain ⟨A',c',rfl,hc1,hc2,_⟩:=h2'.aF
 refine Lib.wpList_append_run w hgd s x 23 3 ho v (.int .i64 (m:Int)) hs hx _ w' hrun (h A' c' w' h2' hc1 hc2 (Ow.below_ hown h3 hbase) h3 (fun g hg=>?_))
 rcases h4 with h4 |h4
 ·exact .inl (h4 ▸ hg)
 rw[h4]at hg
 injection hg with hg
 exact .inr hg.symm
end
set_option linter.unusedSimpArgs false
def eG (v:Int)(k:Nat):Int:=v/256^k%256
theorem kY (v:Int)(k:Nat):0≤eG v k∧eG v k≤255:=by unfold eG;omega
def ao (g:Nat→Int)(off m:Nat)(v:Int):Nat→Int:=fun j=>if off≤j∧j<off+m then eG v (off+m-1-j) else g j
theorem vx (v:Int)(m q:Nat)(h:q<m):v/256^(m-(q+1))/256=v/256^(m-q):=by
 rw[show m-q=m-(q+1)+1 from by omega,Int.pow_succ,Int.ediv_ediv_of_nonneg (Int.pow_nonneg (by decide))]
def qX (g:Nat→Int)(off m r:Nat)(v:Int):Nat→Int:=fun j=>if off+r≤j∧j<off+m then eG v (off+m-1-j) else g j
theorem Ak (g:Nat→Int)(off m:Nat)(v:Int):qX g off m m v=g:=by
 funext j;unfold qX;rw[if_neg (by omega)]
theorem tH (g:Nat→Int)(off m r:Nat)(v:Int)(h:r<m):set1 (qX g off m (r+1) v) (off+r) (eG v (m-1-r))=qX g off m r v:=by
 funext j
 unfold set1 qX
 by_cases e:j=off+r
 ·subst e
  rw[if_pos rfl,if_pos (by omega),show off+m-1-(off+r)=m-1-r from by omega]
 rw[if_neg e]
 by_cases h2:off+(r+1)≤j∧j<off+m
 ·rw[if_pos h2,if_pos (by omega)]
 rw[if_neg h2,if_neg (by omega)]
theorem dy {g:Nat→Int}(hg:aC g)(off m:Nat)(v:Int):aC (ao g off m v):=by
 intro j;unfold ao;split
 ·exact kY _ _
 exact hg j
def num (g:Nat→Int)(at_:Nat):Nat→Int
 |0=>0
 |n+1=>num g at_ n*256+g (at_+n)
theorem fF {g:Nat→Int}(hg:aC g)(a n:Nat):0≤num g a n∧num g a n<256^n:=by
 induction n with
 |zero=>exact⟨Int.le_refl _,by show (0:Int)<1;decide⟩
 |succ n ih=>
  have:=hg (a+n)
  unfold num
  rw[Int.pow_succ]
  omega
theorem oU (g:Nat→Int)(a b n:Nat):num (fun j=>g (a+j)) b n=num g (a+b) n:=by
 induction n with
 |zero=>rfl
 |succ n ih=>unfold num;rw[ih,Nat.add_assoc]
theorem ly {g g':Nat→Int}{a n:Nat}(h:∀j,a≤j→j<a+n→g j=g' j):num g a n=num g' a n:=by
 induction n with
 |zero=>rfl
 |succ n ih=>
  unfold num
  rw[ih (fun j h1 h2=>h j h1 (by omega)),h (a+n) (by omega) (by omega)]
abbrev OB (w:World)(B:Nat)(v:Value)(n:Nat)(g:Nat→Int):Prop:=Ow w B 5 1 v n (fun j=>.int .u8 (g j))
theorem OB.store {w:World}{B G n c:Nat}{g:Nat→Int}(h:OB w B (.slice (some ⟨G,0,none⟩) n c) n g)(i:Nat)(x:Int):OB (w.setCell ⟨G,i,none⟩ (.int .u8 x)) B (.slice (some ⟨G,0,none⟩) n c) n (set1 g i x):=
 (Ow.store_ h i (.int .u8 x)).fQ fun j _=>by unfold qY set1;split <;> rfl
theorem OB.mJ {w:World}{B n:Nat}{v:Value}{g g':Nat→Int}(h:OB w B v n g)(hg:∀j,j<n→g j=g' j):OB w B v n g':=h.fQ fun j hj=>by rw[hg j (by omega)]
theorem kW (w:World)(p:Addr)(v:Value):w.grownBy (w.setCell p v) (some p.block):=
 ⟨rfl,rfl,rfl,by simp,fun k hk hne=>by
  have:p.block≠k:=fun e=>hne (by rw[e])
  simp[World.setCell,Array.getElem?_modify,this]⟩
theorem gs {w a:World}{p:Nat}(j:Nat)(v:Value)(h:w.grownBy a (some p)):w.grownBy (a.setCell ⟨p,j,none⟩ v) (some p):=h.trans (kW a ⟨p,j,none⟩ v)
theorem qYU{P:Prop}(h:P:=by
 obtain rfl:r=0:=by omega
 rw[show (((0:Nat):Int)-1) = -1 from rfl]
 have HO:=hid ho
 have HG:=hid hg
 clear ho hg O
 go_wp2_with fail
 go_end0
 exact⟨rfl,HO.out,HG.out⟩
 ):P:=h
set_option maxHeartbeats 4000000 in
theorem dX {w:World}{B G n c:Nat}{g:Nat→Int}(O:OB w B (.slice (some ⟨G,0,none⟩) n c) n g)(off m c':Nat)(v:Int)(h:off+m≤n)(h4:m≤8) :
 Calls Tryz.prog 150 #[.slice (some ⟨G,off,none⟩) m c',v] w fun e w'=>e =.returned (.tuple #[])∧OB w' B (.slice (some ⟨G,0,none⟩) n c) n (ao g off m v)∧w.grownBy w' (some G):=by
 go_enter Tryz.func150,Tryz.ntmps150
 go_wp2_with fail
 go_loopw [1,4] (fun x i wr=>∃r:Nat,r≤m∧i =.int .i64 ((r:Int)-1)∧x =.int .i64 (v/256^(m-r))∧OB wr B (.slice (some ⟨G,0,none⟩) n c) n (qX g off m r v)∧w.grownBy wr (some G)) (fun _ i _=>(intOf i+1).toNat)
 case atStart=>exact⟨m,Nat.le_refl _,rfl,by simp,by rw[Ak];exact O,World.grownBy.refl _ _⟩
 obtain ⟨r,hr,rfl,rfl,ho,hg⟩:=hrel
 by_cases h0:0<r
 ·obtain ⟨q,rfl⟩:∃q,r=q+1:=⟨r-1,by omega⟩
  obtain ⟨g',e,hB,hgs,hce,hfr⟩:=Ow.block_ ho (by omega)
  injection e with e
  injection e with e _
  subst e
  have e0:(((q+1:Nat):Int)-1)=(q:Int):=by omega
  rw[e0]
  have c1:=hce (off+q) (by omega)
  have f1:=hfr (off+q)
  have i0:(0:Int)≤q:=by omega
  have i1:(q:Int)<m:=by omega
  have HO:=hid ho
  have HG:=hid hg
  clear hce hfr ho hg O e0
  go_wp2_with fail
  go_roundw
  case rel=>
   refine⟨q,by omega,rfl,by rw[vx v m q (by omega)],?_,gs _ _ HG.out⟩
   have:=OB.store HO.out (off+q) (eG v (m-1-q))
   rw[tH g off m q v (by omega)]at this
   rw[show v/256^(m-(q+1))%256=eG v (m-1-q) from by unfold eG;rw[show m-(q+1)=m-1-q from by omega]]
   exact this
  simp[intOf]
 exact qYU
set_option maxHeartbeats 4000000 in
theorem aM {w:World}{B G n c:Nat}{g:Nat→Int}(O:OB w B (.slice (some ⟨G,0,none⟩) n c) n g)(off m:Nat)(v:Int)(h:off+m≤n)(h4:m≤8)(hn:n≤1000000) :
 Calls Tryz.prog 62 #[.slice (some ⟨G,0,none⟩) n c,off,m,v] w fun e w'=>e =.returned (.tuple #[])∧OB w' B (.slice (some ⟨G,0,none⟩) n c) n (ao g off m v)∧w.grownBy w' (some G):=by
 go_enter Tryz.func62,Tryz.ntmps62
 go_wp2_with fail
 go_loopw [3,8] (fun x i wr=>∃r:Nat,r≤m∧i =.int .i64 ((r:Int)-1)∧x =.int .i64 (v/256^(m-r))∧OB wr B (.slice (some ⟨G,0,none⟩) n c) n (qX g off m r v)∧w.grownBy wr (some G)) (fun _ i _=>(intOf i+1).toNat)
 case atStart=>exact⟨m,Nat.le_refl _,rfl,by simp,by rw[Ak];exact O,World.grownBy.refl _ _⟩
 obtain ⟨r,hr,rfl,rfl,ho,hg⟩:=hrel
 by_cases h0:0<r
 ·obtain ⟨q,rfl⟩:∃q,r=q+1:=⟨r-1,by omega⟩
  obtain ⟨g',e,hB,hgs,hce,hfr⟩:=Ow.block_ ho (by omega)
  injection e with e
  injection e with e _
  subst e
  have e0:(((q+1:Nat):Int)-1)=(q:Int):=by omega
  rw[e0]
  have c1:=hce (off+q) (by omega)
  have f1:=hfr (off+q)
  have i0:(0:Int)≤q:=by omega
  have i1:(q:Int)<m:=by omega
  have i2:(0:Int)≤(off:Int)+q:=by omega
  have i3:(off:Int)+q<n:=by omega
  have i4:IntKind.i64.wrap ((off:Int)+q)=(off:Int)+q:=IntWalk.i64_in _ (by omega)
  have HO:=hid ho
  have HG:=hid hg
  clear hce hfr ho hg O e0
  go_wp2_with fail
  go_roundw
  case rel=>
   refine⟨q,by omega,rfl,by rw[vx v m q (by omega)],?_,gs _ _ HG.out⟩
   have:=OB.store HO.out (off+q) (eG v (m-1-q))
   rw[tH g off m q v (by omega)]at this
   rw[show v/256^(m-(q+1))%256=eG v (m-1-q) from by unfold eG;rw[show m-(q+1)=m-1-q from by omega]]
   first
    |exact this
    | (rw[show ((off:Int)+q).toNat=off+q from by omega];exact this)
  simp[intOf]
 exact qYU
theorem u4 (a b:Int)(ha:0≤a)(ha':a≤72057594037927935/2)(hb:0≤b)(hb':b≤255):bits .or .i64 (a*256) b=a*256+b:=by
 exact qXS
theorem sS {g:Nat→Int}(hg:aC g)(a k:Nat)(hk:k≤3):0≤num g a k∧num g a k≤16777215:=by
 have h:=fF hg a k
 have:(256:Int)^k≤256^3:=by rcases (show k=0∨k=1∨k=2∨k=3 by omega) with e |e |e |e <;> subst e <;> decide
 have h3:(256:Int)^3=16777216:=by decide
 omega
theorem qJ0{P:Prop}(h:P:=by
 obtain rfl:k=m:=by omega
 have i1:¬(k:Int)<k:=by omega
 go_wp2_with fail
 go_ret
 exact⟨rfl,rfl⟩
 ):P:=h
theorem qJB{P:Prop}(h:P:=by
 clear hcell h
 go_wp2_with fail
 go_round
 case rel=>exact⟨k+1,by omega,by go_num,by rw[en.out]⟩
 simp[intOf];omega
 ):P:=h
theorem qXK{P:Prop}(h:P:=by
 go_wp2_with fail
 go_loop [3,8] (fun x i=>∃k:Nat,k≤m∧i =.int .i64 k∧x =.int .i64 (num g 0 k)) (fun _ i=>m-(intOf i).toNat)
 case atStart=>exact⟨0,by omega,rfl,rfl⟩
 obtain ⟨k,hk,rfl,rfl⟩:=hrel
 by_cases hlt:k<m
 ·obtain ⟨b,off,rfl,hblt,hcell⟩:=h (by omega)
  have c1:=hcell k hlt
  have i0:(0:Int)≤k:=by omega
  have i1:(k:Int)<m:=by omega
  have nb:=sS hg 0 k (by omega)
  obtain ⟨n0,n1⟩:=nb
  have gb:=hg k
  obtain ⟨g0,g1⟩:=gb
  have oq:=u4 (num g 0 k) (g k) n0 (by omega) g0 g1
  have en:Hid (num g 0 (k+1)=num g 0 k*256+g k):=hid (by simp[num])
  exact qJB
 exact qJ0
 ):P:=h
theorem rN (A:Option Addr)(m c:Nat)(g:Nat→Int)(w:World)(h:By w A m g)(hg:aC g)(hm:m≤4) :
 Calls Tryz.prog 84 #[.slice A m c] w fun e w'=>e =.returned (.int .i64 (num g 0 m))∧w=w':=by
 go_enter Tryz.func84,Tryz.ntmps84
 exact qXK
theorem aX (A:Option Addr)(n c:Nat)(g:Nat→Int)(w:World)(h:By w A n g)(hg:aC g)(at_ m:Nat)(hm:m≤4)(hn:at_+m≤n)(hb:n≤1000000) :
 Calls Tryz.prog 55 #[.slice A n c,at_,m] w fun e w'=>e =.returned (.int .i64 (num g at_ m))∧w=w':=by
 go_enter Tryz.func55,Tryz.ntmps55
 go_wp2_with fail
 go_loop [7,8] (fun x i=>∃k:Nat,k≤m∧i =.int .i64 k∧x =.int .i64 (num g at_ k)) (fun _ i=>m-(intOf i).toNat)
 case atStart=>exact⟨0,by omega,rfl,rfl⟩
 obtain ⟨k,hk,rfl,rfl⟩:=hrel
 by_cases hlt:k<m
 ·obtain ⟨b,off,rfl,hblt,hcell⟩:=h (by omega)
  have c1:=hcell (at_+k) (by omega)
  have i0:(0:Int)≤k:=by omega
  have i1:(k:Int)<m:=by omega
  have i2:(0:Int)≤(at_:Int)+k:=by omega
  have i3:(at_:Int)+k<n:=by omega
  have i4:IntKind.i64.wrap ((at_:Int)+k)=(at_:Int)+k:=IntWalk.i64_in _ (by omega)
  have nb:=sS hg at_ k (by omega)
  obtain ⟨n0,n1⟩:=nb
  have gb:=hg (at_+k)
  obtain ⟨g0,g1⟩:=gb
  have oq:=u4 (num g at_ k) (g (at_+k)) n0 (by omega) g0 g1
  have en:Hid (num g at_ (k+1)=num g at_ k*256+g (at_+k)):=hid (by simp[num])
  exact qJB
 exact qJ0
section
variable {w:World}{ops:Array Oper}{rest:List Oper}{o:Oper}{a:Act}{Q:Exit→Act→World→Prop}
theorem mm (hgd:o.guard=none)(l c:Operand)(ho:o.op =.makeSlice 23 l c)(base n:Nat)(L C:Int)(hl:a.eval l =.int .i64 L)(hc:a.eval c =.int .i64 C)(hL:L=n)(hC:C=n)(hsz:n≤140737488355328)(hbase:base≤w.heap.size)
 (h:∀w',Ow w' base 5 1 (.slice (some ⟨w.heap.size,0,none⟩) n n) n (fun _=>.int .u8 0)→Below base w w'→wpList Tryz.prog ops Q rest (a.put o.dst (.slice (some ⟨w.heap.size,0,none⟩) n n)) w'):wpList Tryz.prog ops Q (o::rest) a w:=by
 obtain ⟨i0,hi,hz0,hz1,hz2⟩:=info_parts kj
 refine wpList_make_full w hgd l c _ ho base 5 i0 (.int .u8 0) 1 Tryz.underlying23 hi hz0 hz1 .i64 .i64 L C n hl hc hL hC (by rw[hz2];omega) (by simp only[maxLen];omega) hbase ?_
 intro w' h1 h2
 refine h w' ?_ (Ow.below_ (v:=.slice none 0 0) (Ow.none_ (w:=w) (B:=base) (e:=5) (size:=1) (f:=fun _=>.int .u8 0)) h2 hbase)
 have e:(madeCells (Value.int .u8 0).cells (n*1)).toList=(List.range (n*1)).map (fun _=>Value.int .u8 0):=by
  rw[show (Value.int .u8 0).cells =#[Value.int .u8 0] from rfl,toList_madeCells_one]
  simp[List.map_const']
 rw[e]at h1
 exact h1
end
theorem OB.cells {w:World}{B G n c:Nat}{g:Nat→Int}(h:OB w B (.slice (some ⟨G,0,none⟩) n c) n g)(hc:c=n):w.heap[G]? = some (.cells ((List.range n).map (fun j=>Value.int .u8 (g j))).toArray 5 (0,0)):=by
 subst hc
 rcases h.2 with ⟨h0,_⟩ |⟨g',cap,cur,hv,_,hh,_,_,hs,ht⟩
 ·cases h0
 injection hv with hA _ hcap
 injection hA with hA
 injection hA with hA _ _
 subst hA
 subst hcap
 rw[hh]
 have:cur.toList=(List.range (c*1)).map (fun j=>Value.int .u8 (g j)):=by
  rw[←ht,List.take_of_length_le (by simp[hs])]
 rw[Nat.mul_one]at this
 rw[←this]
theorem OB.of_cells {w:World}{B G n:Nat}{g:Nat→Int}(hB:B≤G)(hn:n≤maxLen)(h:w.heap[G]? = some (.cells ((List.range n).map (fun j=>Value.int .u8 (g j))).toArray 5 (0,0))):OB w B (.slice (some ⟨G,0,none⟩) n n) n g:=
 ⟨by simp,.inr ⟨G,n,_,rfl,hB,h,Nat.le_refl _,hn,by simp,by rw[List.take_of_length_le (by simp)];simp⟩⟩
theorem D9 {w1:World}{A:Option Addr}{n:Nat}{g:Nat→Int}(G:Nat)(hs:By w1 A n g):0<((List.range n).map (fun j=>Value.int .u8 (g j))).length→some (⟨G,0,none⟩:Addr)=some ⟨G,0,none⟩∧∃ad,A=some ad∧∀j v,((List.range n).map (fun j=>Value.int .u8 (g j)))[j]? = some v→w1.cell? (ad.add j)=some v:=by
 intro h0
 obtain ⟨b,off,rfl,hlt,hcell⟩:=hs (by simpa using h0)
 refine⟨rfl,_,rfl,fun j v hj=>?_⟩
 have hjn:j<n:=by
  rcases Nat.lt_or_ge j n with h1 |h1
  ·exact h1
  simp[Nat.not_lt.2 h1]at hj
 simp[hjn]at hj
 subst hj
 rw[add_plain]
 exact hcell j hjn
theorem Ar (n:Nat)(g:Nat→Int):∀v∈(List.range n).map (fun j=>Value.int .u8 (g j)),v.oneCell'=true:=fun v hv=>by obtain ⟨j,_,rfl⟩:=List.mem_map.1 hv;rfl
theorem Bg (n:Nat)(g:Nat→Int):0+((List.range n).map (fun j=>Value.int .u8 (g j))).length≤((List.range n).map (fun _=>Value.int .u8 0)).length:=by simp
theorem AV (n:Nat)(g:Nat→Int):((List.range n).map (fun j=>Value.int .u8 (g j))).length=Nat.min n n:=by rw[List.length_map,List.length_range];exact(Nat.min_self n).symm
def J8 (w:World)(n:Nat)(g:Nat→Int)(e:Ending)(w':World):Prop:=∃G:Nat,e =.returned (.slice (some ⟨G,0,none⟩) n n)∧w.heap.size≤G∧OB w' w.heap.size (.slice (some ⟨G,0,none⟩) n n) n g∧Below w.heap.size w w'
set_option maxHeartbeats 4000000 in
theorem gZ (A:Option Addr)(n c:Nat)(g:Nat→Int)(w:World)(h:By w A n g)(hn:n≤1000000) :
 Calls Tryz.prog 85 #[.slice A n c] w (J8 w n g):=by
 go_enter Tryz.func85,Tryz.ntmps85
 have Pn:=hid (fun (w1:World) (hb1:Below w.heap.size w w1)=>D9 (w1:=w1) w.heap.size (h.below hb1 (Nat.le_refl _)))
 clear h
 go_wp2_with (first
  | (at_make;refine mm rfl (.tmp 5) (.tmp 5) rfl w.heap.size n _ _ rfl rfl rfl rfl (by omega) (Nat.le_refl _) ?_;intro w1 O1 hb1;have HG:=hid (OB.cells O1 rfl);have SC:=hid (Pn.out w1 hb1);have B1:=hid hb1;clear O1 hb1)
  | (with_reducible refine wpList_copy_splice rfl (.tmp 7) (.tmp 8) 23 23 rfl 5 Tryz.underlying23 (by kernel_rfl) (some ⟨w.heap.size,0,none⟩) A n n n c rfl rfl w.heap.size 0 _ 5 HG.out ((List.range n).map (fun j=>Value.int .u8 (g j))) (AV n g) SC.out (Bg n g) (Ar n g) w.heap.size w B1.out (Nat.le_refl _) ?_;intro w2 hh hb2))
 go_ret
 refine⟨w.heap.size,rfl,Nat.le_refl _,OB.of_cells (Nat.le_refl _) (by simp only[maxLen];omega) ?_,hb2⟩
 have:=hh.out
 rw[this]
 congr 3
 unfold splice
 simp
def aL (g:Nat→Int)(n a:Nat):Int:=if a+1=n then g a*256 else num g a 2
theorem dh {g:Nat→Int}(hg:aC g)(n a:Nat):0≤aL g n a∧aL g n a≤65535:=by
 unfold aL
 split
 ·have:=hg a;omega
 have h:=fF hg a 2
 have h2:(256:Int)^2=65536:=by decide
 omega
theorem fj (A:Option Addr)(n c:Nat)(g:Nat→Int)(w:World)(h:By w A n g)(hg:aC g)(a:Nat)(ha:a<n)(hn:n≤c)(hb:n≤1000000) :
 Calls Tryz.prog 86 #[.slice A n c,a] w fun e w'=>e =.returned (.int .i64 (aL g n a))∧w=w':=by
 have q1:IntKind.i64.wrap ((a:Int)+1)=(a:Int)+1:=IntWalk.i64_in _ (by omega)
 have q2:IntKind.i64.wrap ((a:Int)+2)=(a:Int)+2:=IntWalk.i64_in _ (by omega)
 have i0:(0:Int)≤a:=by omega
 have i1:(a:Int)<n:=by omega
 by_cases e:a+1=n
 ·have he:((a:Int)+1==n)=true:=by simp;omega
  obtain ⟨b,off,rfl,hblt,hcell⟩:=h (by omega)
  have c1:=hcell a ha
  have gb:=hg a
  obtain ⟨g0,g1⟩:=gb
  have HF:Hid (aL g n a=g a*256):=hid (by unfold aL;rw[if_pos e])
  clear hcell h e
  go_enter Tryz.func86,Tryz.ntmps86
  go_wp2_with fail
  go_ret
  exact⟨bp HF.out.symm,rfl⟩
 have he:((a:Int)+1==n)=false:=by simp;omega
 obtain ⟨A',r1,r2⟩:=iK A n c a (a+2) (by omega) (by omega) hn (a:Int) ((a:Int)+2) rfl (by omega)
 rw[show a+2-a=2 from by omega]at r1 r2
 have HB:=hid (r2 w g h)
 have HF:Hid (aL g n a=num (fun j=>g (a+j)) 0 2):=hid (by unfold aL;rw[if_neg e,oU];rfl)
 have HG:Hid (aC (fun j=>g (a+j))):=hid (fun j=>hg _)
 clear r2 h e
 go_enter Tryz.func86,Tryz.ntmps86
 go_wp2_with fail
 refine(rN A' 2 (c-a) _ _ HB.out HG.out (by omega)).mono ?_
 rintro x w' ⟨rfl,rfl⟩
 go_wp2_with fail
 go_ret
 exact⟨bp HF.out.symm,rfl⟩
theorem ey (A:Option Addr)(n c:Nat)(g:Nat→Int)(w:World)(h:By w A n g)(hg:aC g)(a:Nat)(ha:a<n)(hb:n≤1000000) :
 Calls Tryz.prog 139 #[.slice A n c,a] w fun e w'=>e =.returned (.int .i64 (aL g n a))∧w=w':=by
 have q1:IntKind.i64.wrap ((a:Int)+1)=(a:Int)+1:=IntWalk.i64_in _ (by omega)
 have i0:(0:Int)≤a:=by omega
 have i1:(a:Int)<n:=by omega
 by_cases e:a+1=n
 ·have he:¬(a:Int)+1<n:=by omega
  obtain ⟨b,off,rfl,hblt,hcell⟩:=h (by omega)
  have c1:=hcell a ha
  have gb:=hg a
  obtain ⟨g0,g1⟩:=gb
  have HF:Hid (aL g n a=g a*256):=hid (by unfold aL;rw[if_pos e])
  clear hcell h e
  go_enter Tryz.func139,Tryz.ntmps139
  go_wp2_with fail
  go_ret
  exact⟨bp HF.out.symm,rfl⟩
 have he:(a:Int)+1<n:=by omega
 have HF:Hid (aL g n a=num g a 2):=hid (by unfold aL;rw[if_neg e])
 have HN:=hid (aX A n c g w h hg a 2 (by omega) (by omega) hb)
 clear h e
 go_enter Tryz.func139,Tryz.ntmps139
 go_wp2_with fail
 refine HN.out.mono ?_
 rintro x w' ⟨rfl,rfl⟩
 go_wp2_with fail
 go_ret
 exact⟨bp HF.out.symm,rfl⟩
def cW (n m:Int):Bool:=decide (0≤n)&&decide (n≤m)
theorem dH (n m:Int)(w:World):Calls Tryz.prog 164 #[n,m] w fun e w'=>e =.returned (.bool (cW n m))∧w=w':=by
 unfold cW
 cases h1:decide (0≤n) <;> cases h2:decide (n≤m)
 all_goals
  go_enter Tryz.func164,Tryz.ntmps164
  go_wp2
  go_ret
  exact⟨rfl,rfl⟩
theorem dB (n m:Int)(w:World):Calls Tryz.prog 61 #[n,m] w fun e w'=>e =.returned (.bool (!cW n m))∧w=w':=by
 unfold cW
 cases h1:decide (n<0) <;> cases h2:decide (m<n)
 ·have e1:decide (0≤n)=true:=by simp at h1 ⊢;omega
  have e2:decide (n≤m)=true:=by simp at h2 ⊢;omega
  rw[e1,e2]
  clear e1 e2
  go_enter Tryz.func61,Tryz.ntmps61
  go_wp2
  go_ret
  exact⟨rfl,rfl⟩
 ·have e1:decide (0≤n)=true:=by simp at h1 ⊢;omega
  have e2:decide (n≤m)=false:=by simp at h2 ⊢;omega
  rw[e1,e2]
  clear e1 e2
  go_enter Tryz.func61,Tryz.ntmps61
  go_wp2
  go_ret
  exact⟨rfl,rfl⟩
 all_goals
  have e1:decide (0≤n)=false:=by simp at h1 ⊢;omega
  rw[e1]
  clear e1
  go_enter Tryz.func61,Tryz.ntmps61
  go_wp2
  go_ret
  exact⟨rfl,rfl⟩
def isK (k:Int):Bool:=decide (1≤k)&&decide (k≤3)
theorem rS (k:Int)(w:World):Calls Tryz.prog 117 #[k] w fun e w'=>e =.returned (.bool (isK k))∧w=w':=by
 unfold isK
 cases h1:decide (1≤k) <;> cases h2:decide (k≤3)
 all_goals
  go_enter Tryz.func117,Tryz.ntmps117
  go_wp2
  go_ret
  exact⟨rfl,rfl⟩
def a_ (k:Int):Nat:=if k=3 then 18 else 22
theorem jl (k:Int)(w:World):Calls Tryz.prog 64 #[k] w fun e w'=>e =.returned (.int .i64 (a_ k:Int))∧w=w':=by
 unfold a_
 cases h1:(k==3)
 ·rw[if_neg (by simpa using h1)]
  go_enter Tryz.func64,Tryz.ntmps64
  go_wp2
  go_ret
  exact⟨rfl,rfl⟩
 rw[if_pos (by simpa using h1)]
 go_enter Tryz.func64,Tryz.ntmps64
 go_wp2
 go_ret
 exact⟨rfl,rfl⟩
theorem jk (A:Option Addr)(n c:Nat)(g:Nat→Int)(w:World)(h:By w A n g)(hn:0<n) :
 Calls Tryz.prog 153 #[.slice A n c] w fun e w'=>e =.returned (.int .i64 (a_ (g 0):Int))∧w=w':=by
 obtain ⟨b,off,rfl,hblt,hcell⟩:=h hn
 have c1:=hcell 0 hn
 have i1:(0:Int)<n:=by omega
 rw[Nat.add_zero]at c1
 clear hcell h
 unfold a_
 cases h1:(g 0==3)
 ·rw[if_neg (by simpa using h1)]
  go_enter Tryz.func153,Tryz.ntmps153
  go_wp2
  go_ret
  exact⟨rfl,rfl⟩
 rw[if_pos (by simpa using h1)]
 go_enter Tryz.func153,Tryz.ntmps153
 go_wp2
 go_ret
 exact⟨rfl,rfl⟩
def du (g:Nat→Int):Bool:=g 0==2&&num g 22 2==0
theorem qY0{P:Prop}(h:P:=by
 go_wp2_with fail
 refine jB.out.mono ?_
 rintro x w' ⟨rfl,rfl⟩
 go_wp2
 go_ret
 exact⟨rfl,rfl⟩
 ):P:=h
theorem nS (A:Option Addr)(n c:Nat)(g:Nat→Int)(w:World)(h:By w A n g)(hg:aC g)(hn:0<n)(hk:g 0=3∨24≤n)(hc:n≤c)(hb:n≤1000000) :
 Calls Tryz.prog 87 #[.slice A n c] w fun e w'=>e =.returned (.bool (du g))∧w=w':=by
 unfold du
 have HP:=hid (fun jc:24≤n=>fj A n c g w h hg 22 (by omega) hc hb)
 obtain ⟨b,off,rfl,hblt,hcell⟩:=h hn
 have c1:=hcell 0 hn
 have i1:(0:Int)<n:=by omega
 rw[Nat.add_zero]at c1
 clear hcell h
 cases h1:(g 0==2)
 ·rw[Bool.false_and]
  clear hk
  go_enter Tryz.func87,Tryz.ntmps87
  go_wp2
  go_ret
  exact⟨rfl,rfl⟩
 have jc:24≤n:=by
  rcases hk with h3 |h3
  ·rw[h3]at h1;cases h1
  exact h3
 have HF:Hid (aL g n 22=num g 22 2):=hid (by unfold aL;rw[if_neg (by omega)])
 have jB:=HP.out jc
 rw[HF.out]at jB
 replace jB:=hid jB
 clear hk HP HF
 go_enter Tryz.func87,Tryz.ntmps87
 exact qY0
theorem fO (A:Option Addr)(n c:Nat)(g:Nat→Int)(w:World)(h:By w A n g)(hg:aC g)(hn:0<n)(hk:g 0=3∨24≤n)(hb:n≤1000000) :
 Calls Tryz.prog 78 #[.slice A n c] w fun e w'=>e =.returned (.bool (du g))∧w=w':=by
 unfold du
 have HP:=hid (fun jc:24≤n=>aX A n c g w h hg 22 2 (by omega) (by omega) hb)
 obtain ⟨b,off,rfl,hblt,hcell⟩:=h hn
 have c1:=hcell 0 hn
 have i1:(0:Int)<n:=by omega
 rw[Nat.add_zero]at c1
 clear hcell h
 cases h1:(g 0==2)
 ·rw[Bool.false_and]
  clear hk
  go_enter Tryz.func78,Tryz.ntmps78
  go_wp2
  go_ret
  exact⟨rfl,rfl⟩
 have jc:24≤n:=by
  rcases hk with h3 |h3
  ·rw[h3]at h1;cases h1
  exact h3
 have jB:=hid (HP.out jc)
 clear hk HP
 go_enter Tryz.func78,Tryz.ntmps78
 exact qY0
def cC (g:Nat→Int)(n:Nat):Int:=
 if n<16 then 1 else if isK (g 0)=false then 2 else if ((aL g n 2 != (n:Int)) || decide (1500<(n:Int)) || (g 13 != 0))=true then 3 else if (norm (tot g 16)==65535)=false then 4 else 0
def dk (g:Nat→Int)(n:Nat):Int:=
 if g 0=3 then (if n<44 then 1 else if g 17≠0 then 2 else 0)
 else if n<24 then 1 else if g 0=1∧(15<g 20∨40<g 21∨(n:Int)-24<g 21) then 5 else 0
def az (g:Nat→Int)(n:Nat):Int:=if cC g n=0 then dk g n else cC g n
theorem lD {g:Nat→Int}{n:Nat}(h:cC g n=0):16≤n∧isK (g 0)=true∧aL g n 2=n∧n≤1500∧g 13=0∧norm (tot g 16)=65535:=by
 unfold cC at h
 split at h
 ·cases h
 split at h
 ·cases h
 split at h
 ·cases h
 split at h
 ·cases h
 rename_i h1 h2 h3 h4
 simp at h2 h3 h4
 exact⟨by omega,h2,h3.1.1,by omega,h3.2,h4⟩
set_option maxHeartbeats 4000000 in
theorem DN (A:Option Addr)(n c:Nat)(g:Nat→Int)(w:World)(h:By w A n g)(hg:aC g)(hc:n≤c)(hb:n≤1000000) :
 Calls Tryz.prog 82 #[.slice A n c] w fun e w'=>e =.returned (.int .i64 (cC g n))∧∃m,w'=w.drewN m:=by
 by_cases h16:n<16
 ·have i1:(n:Int)<16:=by omega
  have HF:Hid (cC g n=1):=hid (by unfold cC;rw[if_pos h16])
  clear h h16
  go_enter Tryz.func82,Tryz.ntmps82
  go_wp2_with fail
  go_ret
  exact⟨bp HF.out.symm,0,rfl⟩
 have i1:¬(n:Int)<16:=by omega
 have HP:=hid (fj A n c g w h hg 2 (by omega) hc hb)
 have k6:=hid (fun c'=>zZ A 16 c' g w (h.less (k:=16) (by omega)) hg (by omega))
 obtain ⟨b,off,rfl,hblt,hcell⟩:=h (by omega)
 have c0:=hcell 0 (by omega)
 have c13:=hcell 13 (by omega)
 rw[Nat.add_zero]at c0
 have i2:(0:Int)<n:=by omega
 have i3:(13:Int)<n:=by omega
 have i4:(16:Int)≤c:=by omega
 have IK:=hid (rS (g 0))
 have gb:=hg 0
 obtain ⟨xx,ov⟩:=gb
 have HG:=hid hg
 clear hcell h hg
 cases b0:isK (g 0)
 ·have HF:Hid (cC g n=2):=hid (by unfold cC;rw[if_neg h16,if_pos b0])
  rw[b0]at IK
  clear h16
  go_enter Tryz.func82,Tryz.ntmps82
  go_wp2_with fail
  refine(IK.out _).mono ?_
  rintro x w' ⟨rfl,rfl⟩
  go_wp2_with fail
  go_ret
  exact⟨bp HF.out.symm,0,rfl⟩
 rw[b0]at IK
 have HX:Hid (cC g n=if ((aL g n 2 != (n:Int)) || decide (1500<(n:Int)) || (g 13 != 0))=true then 3 else if (norm (tot g 16)==65535)=false then 4 else 0):=hid (by
  unfold cC;rw[if_neg h16,if_neg (by simp[b0])])
 clear h16
 obtain ⟨p,hp⟩:∃p,p=aL g n 2:=⟨_,rfl⟩
 rw[←hp]at HP HX
 clear hp
 cases b1:(p != (n:Int)) <;> cases b2:decide (1500<(n:Int)) <;> cases b3:(g 13 != 0)
 ·obtain ⟨r,hr⟩:∃r,r=(norm (tot g 16)==65535):=⟨_,rfl⟩
  rw[←hr]at k6 HX
  rw[b1,b2,b3]at HX
  clear hr
  cases r
  all_goals
   go_enter Tryz.func82,Tryz.ntmps82
   go_wp2_with fail
   refine(IK.out _).mono ?_
   rintro x w' ⟨rfl,rfl⟩
   go_wp2_with fail
   refine HP.out.mono ?_
   rintro x w' ⟨rfl,rfl⟩
   go_wp2_with fail
   refine(k6.out _).mono ?_
   rintro x w' ⟨rfl,m,rfl⟩
   go_wp2_with fail
   go_ret
   exact⟨bp (by rw[HX.out];rfl),m,rfl⟩
 all_goals
  rw[b1,b2,b3]at HX
  go_enter Tryz.func82,Tryz.ntmps82
  go_wp2_with fail
  refine(IK.out _).mono ?_
  rintro x w' ⟨rfl,rfl⟩
  go_wp2_with fail
  refine HP.out.mono ?_
  rintro x w' ⟨rfl,rfl⟩
  go_wp2_with fail
  go_ret
  exact⟨bp (by rw[HX.out];rfl),0,rfl⟩
theorem qZY{P:Prop}(h:P:=by
 go_enter Tryz.func83,Tryz.ntmps83
 go_wp2_with fail
 go_ret
 exact⟨bp HF.out.symm,rfl⟩
 ):P:=h
set_option maxHeartbeats 4000000 in
theorem BL (A:Option Addr)(n c:Nat)(g:Nat→Int)(w:World)(h:By w A n g)(hg:aC g)(hn:16≤n)(hb:n≤1000000) :
 Calls Tryz.prog 83 #[.slice A n c] w fun e w'=>e =.returned (.int .i64 (dk g n))∧w=w':=by
 have HG:=hid hg
 have gb:=hg 21
 obtain ⟨g0,g1⟩:=gb
 obtain ⟨b,off,rfl,hblt,hcell⟩:=h (by omega)
 have c0:=hcell 0 (by omega)
 rw[Nat.add_zero]at c0
 have i2:(0:Int)<n:=by omega
 have HC:=hid hcell
 clear hcell h hg
 cases b0:(g 0==3)
 ·have h0:¬g 0=3:=by simpa using b0
  by_cases jc:n<24
  ·have i1:(n:Int)<24:=by omega
   have HF:Hid (dk g n=1):=hid (by unfold dk;rw[if_neg h0,if_pos jc])
   clear jc h0
   exact qZY
  have i1:¬(n:Int)<24:=by omega
  have c20:=HC.out 20 (by omega)
  have c21:=HC.out 21 (by omega)
  have i3:(20:Int)<n:=by omega
  have i4:(21:Int)<n:=by omega
  have q1:IntKind.i64.wrap ((n:Int)-24)=(n:Int)-24:=IntWalk.i64_in _ (by omega)
  have HX:Hid (dk g n=if g 0=1∧(15<g 20∨40<g 21∨(n:Int)-24<g 21) then 5 else 0):=hid (by unfold dk;rw[if_neg h0,if_neg jc])
  clear HC jc h0
  cases b1:(g 0==1)
  ·have HF:Hid (dk g n=0):=hid (by rw[HX.out,if_neg (by intro h;rw[h.1]at b1;cases b1)])
   exact qZY
  have h1:Hid (g 0=1):=hid (by simpa using b1)
  cases b2:decide (15<g 20) <;> cases b3:decide (40<g 21) <;> cases b4:decide ((n:Int)-24<g 21)
  all_goals
   have HF:Hid (dk g n=if (decide (15<g 20) || decide (40<g 21) || decide ((n:Int)-24<g 21))=true then 5 else 0):=hid (by
    rw[HX.out];simp only[h1.out,true_and,Bool.or_eq_true,decide_eq_true_eq,or_assoc])
   rw[b2,b3,b4]at HF
   go_enter Tryz.func83,Tryz.ntmps83
   go_wp2_with fail
   go_ret
   exact⟨bp (by rw[HF.out];rfl),rfl⟩
 have h0:g 0=3:=by simpa using b0
 by_cases EM:n<44
 ·have i1:(n:Int)<44:=by omega
  have HF:Hid (dk g n=1):=hid (by unfold dk;rw[if_pos h0,if_pos EM])
  clear EM h0
  exact qZY
 have i1:¬(n:Int)<44:=by omega
 have c17:=HC.out 17 (by omega)
 have i3:(17:Int)<n:=by omega
 have HX:Hid (dk g n=if g 17≠0 then 2 else 0):=hid (by unfold dk;rw[if_pos h0,if_neg EM])
 clear HC EM h0
 cases b1:(g 17 != 0)
 ·have HF:Hid (dk g n=0):=hid (by rw[HX.out,if_neg (by simpa using b1)])
  exact qZY
 have HF:Hid (dk g n=2):=hid (by rw[HX.out,if_pos (by simpa using b1)])
 exact qZY
end Go.Proofs.YtalnfkijiehjhaaGreat
