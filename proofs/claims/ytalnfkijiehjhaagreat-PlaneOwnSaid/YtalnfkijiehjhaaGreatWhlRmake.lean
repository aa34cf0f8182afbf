/- The reference's Make. -/
import Derived.Test.YtalnfkijiehjhaaGreatGa
import Derived.Test.YtalnfkijiehjhaaGreatGx
import Derived.Deep.LoopGhost
import Derived.Deep.CutRange
import Derived.Deep.CutBlock
import Derived.BigQuiet
import Derived.Deep.RegionHeld3
import Derived.Deep.Cut
namespace Go.Proofs.YtalnfkijiehjhaaGreat
set_option linter.unusedVariables false
set_option linter.unusedSimpArgs false
open Go.RowKit Go.ChangeShapes Go.WideShapes Go.ChangeAt
def NO (p:Pl)(f nx:Nat→Int):Prop:=∀i,i<64→∃k,k<127∧nx i=(k:Nat)∧∀j,j<k→f (cq (df p i) (cX p i) j)≠-1
theorem NO.turn {p:Pl}{f nx:Nat→Int}{i F:Nat}(h:NO p f nx)(Ol:F<127)(hF:∀j,j<F→f (cq (df p i) (cX p i) j)≠-1) :
 NO p (da f (cq (df p i) (cX p i) F) i) (da nx i (F:Nat)):=by
 intro s hs
 obtain ⟨k,h0,h1,h3⟩:=h s hs
 have hput:∀q,f q≠-1→da f (cq (df p i) (cX p i) F) (i:Int) q≠-1:=fun q hq=>by
  unfold da
  split
  ·omega
  exact hq
 by_cases e:s=i
 ·subst e
  exact⟨F,Ol,dp _ _ _,fun j hj=>hput _ (hF j hj)⟩
 exact⟨k,h0,by rw[eh _ _ e];exact h1,fun j hj=>hput _ (h3 j hj)⟩
theorem NO.start {p:Pl}:NO p (fun _=> -1) (fun _=>0):=fun i _=>⟨0,by omega,rfl,fun j hj=>absurd hj (by omega)⟩
theorem xe (a b t:Nat):((a:Int)+(t:Int)*(b:Int)).tmod 127=(cq a b t:Nat):=by
 have e:((a:Int)+(t:Int)*(b:Int))=((a+t*b:Nat):Int):=by push_cast;rfl
 rw[e,Int.tmod_eq_emod_of_nonneg (by omega)]
 unfold cq
 omega
theorem AK {t b:Nat}(ht:t<127)(hb:b≤126):0≤(t:Int)*(b:Int)∧(t:Int)*(b:Int)≤15876:=by
 have h:=Nat.mul_le_mul (show t≤126 by omega) hb
 have e:(t:Int)*(b:Int)=((t*b:Nat):Int):=by push_cast;rfl
 rw[e]
 omega
theorem Kf {p:Pl}(hp:Pw p){i:Nat}(hi:i<64)(h:(p.s i).st=2):(bm p i:Int)=(p.s i).we∧1≤bm p i:=by
 have h1:=(hp i hi).2.2 (by rw[h];decide)
 unfold bm
 rw[if_pos h]
 omega
theorem Kg {p:Pl}{i:Nat}(h:(p.s i).st≠2):bm p i=0:=by unfold bm;rw[if_neg h]
theorem Kh {p:Pl}(hT:0<bz (bm p) 64)(k q:Nat)(h:eT (bm p) (df p) (cX p) k q≠-1):0≤eT (bm p) (df p) (cX p) k q:=by
 rcases uB (at_:=df p) (fh:=cX p) hT k q with h1 |⟨i,_,_,h1⟩
 ·exact absurd h1 h
 rw[h1];omega
theorem Jt (p:Pl)(i:Nat):pB (p.s i).ad (p.s i).po=((df p i:Nat):Int):=by have:=vF (p.s i).ad (p.s i).po;unfold df;omega
theorem Jo (p:Pl)(i:Nat):pz (p.s i).ad (p.s i).po=((cX p i:Nat):Int):=by have:=vE (p.s i).ad (p.s i).po;unfold cX;omega
theorem Da {db:Bool}{TT r k0 k1:Nat}(hd:decide (0<TT)=db)(h0:k0=min 127 (r*TT))(h1:k1=min 127 (r*TT+TT))(hk:k0<127):128-k1+(if db=true then 1 else 0)<128-k0+(if true=true then 1 else 0):=by
 by_cases h:TT=0
 ·subst h
  simp at hd
  subst hd
  simp at h0 h1 ⊢
  omega
 have h2:db=true:=by rw[←hd];simp;omega
 subst h2
 generalize r*TT=m at *
 simp
 omega
section
variable {o:Oper}{f:Operand→Value}
end
attribute [local irreducible] PA ia pB pz df cX bm S3 iH
theorem qYK{P:Prop}(h:P:=by
 go_wp2_with fail
 go_roundg (64-(i+1))
 case measure=>omega
 exact⟨i+1,k,nx,rfl,by omega,K3.out,rfl,by rw[Fi.out],by go_num,I9.out,N9.out,nm.out,P9.out,B9.out⟩
 ):P:=h
set_option maxRecDepth 100000 in
set_option maxHeartbeats 4000000 in
theorem yg (p:Pl)(hp:Pw p)(w:World):Calls Tryz.prog 35 #[gG p] w fun x w'=>∃B:Nat,x =.returned (.slice (some ⟨B,0,none⟩) 127 127)∧w.heap.size≤B∧IA w' B 127 (cF p)∧Below w.heap.size w w':=by
 have hz:∀w:World,(zeroValue 131).run Tryz.prog w =.ok (.agg (ia 64 fun _=>0)) w:=fun w=>uz w
 have hz1:=js 64 (fun _=>0)
 have hz2:=rT (n:=64) (fun _=>0) (by omega)
 have g8:=hid hp
 clear hp
 unfold gG
 go_enter Tryz.func35,Tryz.ntmps35
 go_upto_region 1 with (fail)
 have P0:=hid (au.made (w:=w) (p:=p) (T:=34) rfl)
 have B0:=hid ((Below.refl w.heap.size w).alloc (Nat.le_refl _) (.cells (PA p) 34))
 generalize w.alloc (.cells (PA p) 34)=w0 at *
 obtain ⟨P,hP⟩:∃P,P=w.heap.size:=⟨_,rfl⟩
 rw[←hP]at P0
 rw[show (Value.pointer (some ⟨w.heap.size,0,none⟩))=Value.pointer (some ⟨P,0,none⟩) from by rw[hP]]
 have HP:=hid hP
 clear hP
 go_upto_region 2 with (at_make;refine tm rfl _ _ rfl 127 127 127 rfl rfl rfl rfl (by omega) (by omega) ?_;intro w1 hI1 hb1;have I1:=hid hI1;have P1:=hid (P0.out.below hb1);have B1:=hid (B0.out.trans (hb1.mono B0.out.size));have EP:w0.heap.size≠P:=Nat.ne_of_gt P0.out.1;have lB:=B0.out.size;clear hI1 hb1 P0 B0)
 generalize w0.heap.size=B at *
 go_wp2_with fail
 go_loopw [4] (fun i wr=>∃k:Nat,k≤127∧i =.int .i64 (k:Int)∧IA wr B 127 (fun j=>if j<k then -1 else 0)∧au wr P p∧Below w.heap.size w wr) (fun i _=>127-(intOf i).toNat)
 case atStart=>exact⟨0,by omega,rfl,I1.out.fQ (fun j _=>by rw[if_neg (by omega)]),P1.out,B1.out⟩
 clear I1 P1 B1
 obtain ⟨k,hk,rfl,hI,hP,hB⟩:=hrel
 have I2:=hid hI
 have P2:=hid hP
 have B2:=hid hB
 clear hI hP hB
 by_cases hlt:k<127
 ·have i0:(0:Int)≤k:=by omega
  exact qXM
 have e:k=127:=by omega
 subst e
 have I4:=hid (I2.out.fQ (g:=fun _=> -1) (fun j hj=>by rw[if_pos hj]))
 clear I2
 go_upto_region 7 with (fail)
 have N6:=hid (IA.made (w:=wr) (n:=64) (f:=fun _=>0) (T:=131) (d:=wr.heap.size) rfl)
 have LJ:wr.heap.size≠B:=Nat.ne_of_gt I4.out.1
 have OG:wr.heap.size≠P:=Nat.ne_of_gt P2.out.1
 have lN:=B2.out.size
 have I6:=hid (I4.out.alloc (.cells (ia 64 fun _=>0) 131))
 have P6:=hid (P2.out.alloc (.cells (ia 64 fun _=>0) 131))
 have B6:=hid (B2.out.alloc B2.out.size (.cells (ia 64 fun _=>0) 131))
 clear I4 P2 B2
 generalize wr.alloc (.cells (ia 64 fun _=>0) 131)=w4 at *
 generalize wr.heap.size=Nb at *
 have OL:=Ne.symm LJ
 obtain ⟨TT,Lx⟩:∃TT,TT=bz (bm p) 64:=⟨_,rfl⟩
 have Fg:=hid Lx
 clear Lx
 go_wp2_with fail
 go_loopg [6,7] 129 (fun gh l ag wr=>∃(r k:Nat) (a:Bool) (nx:Nat→Int),gh=128-k+(if a then 1 else 0)∧k=min 127 (r*TT)∧(a=true∨TT=0)∧l =.int .i64 (127-(k:Int))∧ag =.bool a∧IA wr B 127 (eT (bm p) (df p) (cX p) k)∧IA wr Nb 64 nx∧NO p (eT (bm p) (df p) (cX p) k) nx∧au wr P p∧Below w.heap.size w wr)
 case atStart=>exact⟨0,0,true,fun _=>0,rfl,by omega,.inl rfl,rfl,rfl,I6.out,N6.out,NO.start,P6.out,B6.out⟩
 clear I6 N6 P6 B6
 obtain ⟨r,k0,a,nx,rfl,hk,ha,rfl,rfl,hI,hN,hno,hP,hB⟩:=hrel
 have I9:=hid hI
 have N9:=hid hN
 have nm:=hid hno
 have P9:=hid hP
 have B9:=hid hB
 clear hI hN hno hP hB
 have K0:=hid hk
 have HA:=hid ha
 clear hk ha
 cases a
 ·have hT0:=hid (show TT=0 from by rcases HA.out with h |h;(exact absurd h (by decide));exact h)
  have hk0:=hid (show k0=0 from by have:=K0.out;rw[hT0.out]at this;omega)
  go_wp2_with fail
  go_ret
  exact⟨B,rfl,lB,by unfold cF;rw[if_pos (by rw[←Fg.out];exact hT0.out)];have h:=I9.out;rw[hk0.out]at h;exact h,B9.out⟩
 by_cases h127:k0=127
 ·have b0:¬((127:Int)-(k0:Int)>0):=by omega
  have Oh:=hid (show ¬bz (bm p) 64=0 from by have:=K0.out;rw[←Fg.out];intro h;rw[h]at this;omega)
  go_wp2_with fail
  go_ret
  exact⟨B,rfl,lB,by unfold cF;rw[if_neg Oh.out];have h:=I9.out;rw[h127]at h;exact h,B9.out⟩
 have A_:k0<127:=by have:=K0.out;omega
 have b0:((127:Int)-(k0:Int))>0:=by omega
 have st0:=hid (show IA wr B 127 (eT (bm p) (df p) (cX p) k0)∧IA wr Nb 64 nx∧NO p (eT (bm p) (df p) (cX p) k0) nx∧au wr P p∧Below w.heap.size w wr from ⟨I9.out,N9.out,nm.out,P9.out,B9.out⟩)
 clear I9 N9 nm P9 B9
 go_wp2_with fail
 go_loopg [6,7,8] 64 (fun gh l ag i wr=>∃(i' k:Nat) (nx:Nat→Int),gh=64-i'∧i'≤64∧k=min 127 (r*TT+bz (bm p) i')∧l =.int .i64 (127-(k:Int))∧ag =.bool (decide (0<bz (bm p) i'))∧i =.int .i64 (i':Int)∧IA wr B 127 (eT (bm p) (df p) (cX p) k)∧IA wr Nb 64 nx∧NO p (eT (bm p) (df p) (cX p) k) nx∧au wr P p∧Below w.heap.size w wr)
 case atStart=>exact⟨0,k0,nx,rfl,by omega,by rw[K0.out];rfl,rfl,rfl,rfl,st0.out⟩
 clear st0
 obtain ⟨i,k1,Av,rfl,hi,hk1,rfl,rfl,rfl,hI,hN,hno,hP,hB⟩:=hrel
 have I9:=hid hI
 have N9:=hid hN
 have nm:=hid hno
 have P9:=hid hP
 have B9:=hid hB
 clear hI hN hno hP hB
 have K1:=hid hk1
 clear hk1
 by_cases hlt:i<64
 ·have i0:(0:Int)≤i:=by omega
  have i1:(i:Int)<64:=by omega
  have qI:=hid (show bz (bm p) (i+1)=bz (bm p) i+bm p i from rfl)
  have cs:wr.cell? ⟨P,3+i*5,none⟩=some (.int .i64 (p.s i).st):=P9.out.cs i 0 hlt (by omega)
  generalize hdb:decide (0<bz (bm p) i)=db at *
  have jC:=hid hdb
  clear hdb
  cases b2:((p.s i).st != 2)
  ·have hst:(p.s i).st=2:=by simpa using b2
   have hws:=Kf g8.out hlt hst
   obtain ⟨tP,hw1⟩:=hws
   have hp:=g8.out i hlt
   obtain ⟨⟨a1,a2⟩,⟨p1,p2⟩,_⟩:=hp
   have w8:=Ej g8.out i hlt
   have Fi:=hid (show decide (0<bz (bm p) (i+1))=true from by rw[qI.out];simp;omega)
   have LK:=P9.out.lp i hlt
   have OR:=hid (fun w=>Ao 2 (p.s i).ad (p.s i).po (p.s i).we (p.s i).si ⟨by omega,by omega⟩ ⟨by omega,by omega⟩ w)
   unfold ik at LK
   have HAT:=hid (Jt p i)
   have cx:=hid (Jo p i)
   rw[HAT.out,cx.out]at OR
   have cw:∀w',au w' P p→w'.cell? ⟨P,3+i*5+3,none⟩=some (.int .i64 ((bm p i:Nat):Int)):=fun w' h=>by rw[tP];exact h.cs i 3 hlt (by omega)
   have CW:=hid cw
   clear cw tP
   obtain ⟨wn,hwn⟩:∃wn,wn=bm p i:=⟨_,rfl⟩
   rw[←hwn]at qI w8 CW hw1
   have Ff:=hid hwn
   clear hwn
   go_wp2_with ((with_reducible refine ah ?_);refine cu rfl rfl rfl LK ?_)
   refine(OR.out _).mono ?_
   rintro x w5 ⟨rfl,hb⟩
   clear LK OR cs b2 hst
   have st1:=hid (show IA w5 B 127 (eT (bm p) (df p) (cX p) k1)∧IA w5 Nb 64 Av∧NO p (eT (bm p) (df p) (cX p) k1) Av∧au w5 P p∧Below w.heap.size w w5 from ⟨I9.out.below hb,N9.out.below hb,nm.out,P9.out.below hb,B9.out.trans (hb.mono B9.out.size)⟩)
   clear hb I9 N9 nm P9 B9
   have EL:=(r_ p i).2
   have hb1:=(r_ p i).1
   have PY:=E2 p i
   go_wp2_with fail
   go_loopg [6,11] (wn+1) (fun gh l n wr=>∃(n' k:Nat) (nx:Nat→Int),gh=wn+1-n'∧n'≤wn∧k=min 127 (r*TT+bz (bm p) i+n')∧l =.int .i64 (127-(k:Int))∧n =.int .i64 (n':Int)∧IA wr B 127 (eT (bm p) (df p) (cX p) k)∧IA wr Nb 64 nx∧NO p (eT (bm p) (df p) (cX p) k) nx∧au wr P p∧Below w.heap.size w wr)
   case atStart=>exact⟨0,k1,Av,rfl,by omega,by rw[K1.out];rfl,rfl,rfl,st1.out⟩
   clear st1
   obtain ⟨n,k,nx,rfl,hn,hk,rfl,rfl,hI,hN,hno,hP,hB⟩:=hrel
   have I9:=hid hI
   have N9:=hid hN
   have nm:=hid hno
   have P9:=hid hP
   have B9:=hid hB
   clear hI hN hno hP hB
   have K2:=hid hk
   clear hk
   have n0:(0:Int)≤n:=by omega
   have PW:k≤127:=by have:=K2.out;omega
   have cw:=CW.out wr P9.out
   by_cases hgo:n<wn∧k<127
   ·obtain ⟨hnw,hkk⟩:=hgo
    have n1:(n:Int)<wn:=by omega
    have b0:(127:Int)-(k:Int)>0:=by omega
    have hT:0<bz (bm p) 64:=by have:=nQ (bm p) (show i+1≤64 by omega);have:=qI.out;omega
    obtain ⟨F1,F2,F3,F4⟩:=uE (p:=p) (i:=i) (n:=n) (r:=r) (k:=k) hlt (by rw[←Ff.out];exact hnw) (by rw[←Fg.out];exact K2.out) hkk
    obtain ⟨kc,c0,c1,c3⟩:=nm.out i hlt
    obtain ⟨F,hF⟩:∃F,F=rY (eT (bm p) (df p) (cX p) k) (df p i) (cX p i):=⟨_,rfl⟩
    rw[←hF]at F1 F2 F3 F4
    clear hF
    have hge:kc≤F:=by
     rcases Nat.lt_or_ge F kc with h |h
     ·exact absurd F2 (c3 F h)
     exact h
    have vX:=hid F4
    have Fh:=hid (nm.out.turn (i:=i) F1 F3)
    have qJ:=hid F2
    have Mr:=hid (fun t (ht:t<F)=>Kh hT k _ (F3 t ht))
    clear F2 F3 F4 c3
    have JW:=hid (show IA wr Nb 64 (da nx i (kc:Nat)) from N9.out.fQ (fun j _=>by by_cases e:j=i;(subst e;rw[dp,c1]);(rw[eh _ _ e])))
    clear c1 nm
    obtain ⟨fk,xn⟩:∃fk,fk=(eT (bm p) (df p) (cX p) k):=⟨_,rfl⟩
    rw[←xn]at vX Fh qJ Mr I9
    have Rs:=hid xn
    clear xn
    generalize df p i=av at *
    generalize cX p i=bv at *
    go_upto_block 8 with (fail)
    clear cw
    go_cut [] from 43 to 85 (fun wx=>IA wx Nb 64 (da nx i (F:Nat))∧IA wx B 127 fk∧au wx P p∧Below w.heap.size w wx)
    case first=>
     go_wp2_with fail
     go_loopg [] (F-kc) (fun gh wr=>∃t,kc≤t∧gh=F-t∧t≤F∧IA wr Nb 64 (da nx i (t:Nat))∧IA wr B 127 fk∧au wr P p∧Below w.heap.size w wr)
     case atStart=>exact⟨kc,Nat.le_refl _,rfl,hge,JW.out,I9.out,P9.out,B9.out⟩
     clear JW I9 P9 B9 N9
     obtain ⟨t,ht,rfl,N8,hN,hI,hP,hB⟩:=hrel
     have qE:=hid hN
     have nt:=hid hI
     have xJ:=hid hP
     have B11:=hid hB
     clear hN hI hP hB
     have c0:=qE.out.2.1 i hlt
     rw[dp]at c0
     have z0:=qE.out.2.2 i
     obtain ⟨q,ot⟩:∃q:Nat,q=cq av bv t:=⟨_,rfl⟩
     have AZ:q<127:=by rw[ot];exact oQ av bv t
     have hpi:=xe av bv t
     rw[←ot]at hpi
     have hmb:=(AK (t:=t) (b:=bv) (by omega) EL)
     obtain ⟨m,hm⟩:∃m:Int,m=(t:Int)*(bv:Int):=⟨_,rfl⟩
     rw[←hm]at hpi hmb
     have hw1:IntKind.i64.wrap ((t:Int)*(bv:Int))=m:=by rw[←hm];exact IntWalk.i64_in _ (by omega)
     clear hm
     obtain ⟨z,hz⟩:∃z:Int,z=(av:Int)+m:=⟨_,rfl⟩
     rw[←hz]at hpi
     have hw2:IntKind.i64.wrap ((av:Int)+m)=z:=by rw[←hz];exact IntWalk.i64_in _ (by omega)
     clear hz hmb
     have hq:z.tmod 127=(q:Int):=hpi
     clear hpi
     have q0:(0:Int)≤(q:Int):=by omega
     have q1:(q:Int)<127:=by omega
     by_cases hlt2:t<F
     ·have h3:=Mr.out t hlt2
      rw[←ot]at h3
      have cb:=nt.out.2.1 q AZ
      clear ot
      obtain ⟨y,hy⟩:∃y,y=fk q:=⟨_,rfl⟩
      rw[←hy]at h3 cb
      clear hy
      have t7:(t:Int)≤126:=by omega
      have t0:(0:Int)≤t:=by omega
      have JV:=hid ((qE.out.set i hlt ((t:Int)+1)).fQ (g:=da nx i ((t+1:Nat):Int)) (fun j _=>by rw[qW];rfl))
      have Fc:=hid (nt.out.other (c:=Nb) (j:=i) (v:=.int .i64 ((t:Int)+1)) LJ)
      have JM:=hid (xJ.out.other (c:=Nb) (j:=i) (v:=.int .i64 ((t:Int)+1)) OG)
      have Kd:=hid (B11.out.setCell (p:=⟨Nb,i,none⟩) lN (.int .i64 ((t:Int)+1)))
      clear qE nt xJ B11
      go_wp2_with fail
      go_roundg (F-(t+1))
      case measure=>omega
      exact⟨t+1,by omega,rfl,hlt2,JV.out,Fc.out,JM.out,Kd.out⟩
     have e:t=F:=by omega
     subst e
     have hf2:=qJ.out
     rw[←ot]at hf2
     have cb:=nt.out.2.1 q AZ
     rw[hf2]at cb
     clear ot hf2
     go_wp2_with fail
     go_meet
     exact⟨qE.out,nt.out,xJ.out,B11.out⟩
    obtain ⟨hN,hI,hP,hB⟩:=hcut
    have qE:=hid hN
    have nt:=hid hI
    have xJ:=hid hP
    have B11:=hid hB
    clear hN hI hP hB JW I9 P9 B9 N9
    obtain ⟨t,rfl⟩:∃t,t=F:=⟨_,rfl⟩
    have c0:=qE.out.2.1 i hlt
    rw[dp]at c0
    have z0:=qE.out.2.2 i
    obtain ⟨q,ot⟩:∃q:Nat,q=cq av bv t:=⟨_,rfl⟩
    have AZ:q<127:=by rw[ot];exact oQ av bv t
    have hpi:=xe av bv t
    rw[←ot]at hpi
    have hmb:=(AK (t:=t) (b:=bv) (by omega) EL)
    obtain ⟨m,hm⟩:∃m:Int,m=(t:Int)*(bv:Int):=⟨_,rfl⟩
    rw[←hm]at hpi hmb
    have hw1:IntKind.i64.wrap ((t:Int)*(bv:Int))=m:=by rw[←hm];exact IntWalk.i64_in _ (by omega)
    clear hm
    obtain ⟨z,hz⟩:∃z:Int,z=(av:Int)+m:=⟨_,rfl⟩
    rw[←hz]at hpi
    have hw2:IntKind.i64.wrap ((av:Int)+m)=z:=by rw[←hz];exact IntWalk.i64_in _ (by omega)
    clear hz hmb
    have hq:z.tmod 127=(q:Int):=hpi
    clear hpi
    have q0:(0:Int)≤(q:Int):=by omega
    have q1:(q:Int)<127:=by omega
    have hf2:=qJ.out
    rw[←ot]at hf2
    have IC:=vX.out
    rw[←ot]at IC Fh
    have cb:=nt.out.2.1 q AZ
    rw[hf2]at cb
    have zb:=nt.out.2.2 q
    have Fc:=hid (nt.out.set q AZ i)
    rw[←IC]at Fc Fh
    clear ot hf2 IC vX qJ
    have JV:=hid (qE.out.other (c:=B) (j:=q) (v:=.int .i64 (i:Int)) OL)
    have JM:=hid (xJ.out.other (c:=B) (j:=q) (v:=.int .i64 (i:Int)) EP)
    have Kd:=hid (B11.out.setCell (p:=⟨B,q,none⟩) lB (.int .i64 (i:Int)))
    clear qE nt xJ B11
    go_wp2_with fail
    go_roundg (wn+1-(n+1))
    case measure=>omega
    exact⟨n+1,k+1,_,rfl,hnw,by have:=K2.out;omega,by go_num,by go_num,Fc.out,JV.out,Fh.out,JM.out,Kd.out⟩
   have K3:=hid (show k=min 127 (r*TT+bz (bm p) (i+1)) from by rw[qI.out];have:=K2.out;omega)
   by_cases hnw:n<wn
   ·have n1:(n:Int)<wn:=by omega
    have b0:¬((127:Int)-(k:Int)>0):=by omega
    exact qYK
   have n1:¬(n:Int)<wn:=by omega
   exact qYK
  have hst:(p.s i).st≠2:=by simpa using b2
  have hw0:=Kg hst
  rw[hw0]at qI
  have K3:=hid (show k1=min 127 (r*TT+bz (bm p) (i+1)) from by rw[qI.out];exact K1.out)
  have Fi:=hid (show decide (0<bz (bm p) (i+1))=db from by rw[qI.out];exact jC.out)
  clear hw0 hst
  go_wp2_with fail
  go_roundg (64-(i+1))
  case measure=>omega
  exact⟨i+1,k1,Av,rfl,by omega,K3.out,rfl,by rw[Fi.out],by go_num,I9.out,N9.out,nm.out,P9.out,B9.out⟩
 have e:i=64:=by omega
 subst e
 rw[←Fg.out]at K1 ⊢
 have K4:=hid (show k1=min 127 ((r+1)*TT) from by rw[K1.out,Nat.add_mul,Nat.one_mul])
 have Ii:=K1.out
 have tO:=K0.out
 generalize hdb:decide (0<TT)=db at *
 have jC:=hid hdb
 clear hdb
 have hda:Hid (db=true∨TT=0):=hid (by rw[←jC.out];by_cases h:TT=0;exact .inr h;exact .inl (by simp;omega))
 have Oe:=hid (Da jC.out tO Ii A_)
 clear Ii tO
 go_wp2_with fail
 go_roundg (128-k1+(if db then 1 else 0))
 case measure=>exact Oe.out
 exact⟨r+1,k1,db,Av,rfl,K4.out,hda.out,rfl,rfl,I9.out,N9.out,nm.out,P9.out,B9.out⟩
end Go.Proofs.YtalnfkijiehjhaaGreat
