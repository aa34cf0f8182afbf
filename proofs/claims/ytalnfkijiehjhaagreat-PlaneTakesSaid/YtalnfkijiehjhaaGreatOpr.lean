/- The reference's Walk. The reference's Stamp. -/
import Derived.Test.YtalnfkijiehjhaaGreatGa
import Derived.Test.YtalnfkijiehjhaaGreatGo
namespace Go.Proofs.YtalnfkijiehjhaaGreat
set_option linter.unusedVariables false
set_option linter.unusedSimpArgs false
open Go.RowKit Go.ChangeShapes Go.WideShapes Go.ChangeAt
def K7 (w:World)(n:Nat)(g:Nat→Int)(v i:Value)(wr:World):Prop:=
 ∃(p:Nat) (l:List (Int×Int×Int)) (L:Option Addr) (d m:Nat),v =.slice L m d∧i =.int .i64 (p:Int)∧m=l.length∧mK g n l p∧Below w.heap.size w wr∧nj 117 wr w.heap.size (.slice L m d) l
set_option maxHeartbeats 2000000 in
theorem zI (A:Option Addr)(n c:Nat)(g:Nat→Int)(w:World)(h:By w A n g)(hg:aC g)(hn:n≤1000000) :
 Calls Tryz.prog 57 #[.slice A n c] w (ni 117 g n w):=by
 go_enter Tryz.func57,Tryz.ntmps57
 go_wp2
 go_loopw [4,5] (fun v i wr=>K7 w n g v i wr) (fun _ i _=>n-(intOf i).toNat)
 case atStart=>exact⟨0,[],none,0,0,rfl,rfl,rfl,zy g n,Below.refl _ _,Ow.none_⟩
 obtain ⟨p,l,L,d,m,rfl,rfl,hm,hs,hb,ho⟩:=hrel
 have hs':=hs
 obtain ⟨_,hlp,hpn⟩:=hs'
 rw[←hm]at hlp
 have HM:=hid hm
 have HS:=hid hs
 have HB:=hid hb
 have HO:=hid ho
 clear hs hm hb ho
 by_cases hlt:p<n
 ·obtain ⟨b,off,rfl,hbw,hc⟩:=h (by omega)
  have c0:wr.cell? ⟨b,off+p,none⟩=some (.int .u8 (g p)):=(HB.out.cell (p:=⟨b,off+p,none⟩) hbw).trans (hc p hlt)
  have hbr:b<wr.heap.size:=Nat.lt_of_lt_of_le hbw HB.out.size
  have gx:=hg p
  have hne:=hid (nj.Ee HO.out hbw)
  cases hon:eu g n p with
  |none=>
   have hbad:=hid (tE HS.out hlt hon)
   have hx:¬g p<2:=by intro hx;unfold eu at hon;rw[if_pos hx]at hon;cases hon
   obtain ⟨x,hgx⟩:∃x,x=g p:=⟨_,rfl⟩
   rw[←hgx]at c0 gx hx
   have t0:decide (x<2)=false:=by simpa using hx
   obtain ⟨Oz,Oy⟩:=gx
   by_cases hs:n≤p+1
   ·have t1:decide ((n:Int)≤(p:Int)+1)=true:=by simp;omega
    clear hon hc h hg hgx
    go_wp2
    go_ret2
    exact kp hbad.out HB.out
   have t1:decide ((n:Int)≤(p:Int)+1)=false:=by simp;omega
   have c1:wr.cell? ⟨b,off+(p+1),none⟩=some (.int .u8 (g (p+1))):=(HB.out.cell (p:=⟨b,off+(p+1),none⟩) hbw).trans (hc (p+1) (by omega))
   have gy:=hg (p+1)
   have hy:g (p+1)<2∨(n:Int)-p<g (p+1):=by
    unfold eu at hon
    rw[if_neg (by omega),if_neg hs]at hon
    by_cases q1:g (p+1)<2
    ·exact .inl q1
    rw[if_neg q1]at hon
    by_cases q2:(n:Int)-p<g (p+1)
    ·exact .inr q2
    rw[if_neg q2]at hon;cases hon
   have e1:((p:Int)+1).toNat=p+1:=by omega
   obtain ⟨y,Lt⟩:∃y,y=g (p+1):=⟨_,rfl⟩
   rw[←Lt]at c1 gy hy
   obtain ⟨Ox,Ov⟩:=gy
   clear hon hc h hg hgx Lt
   by_cases q1:y<2
   ·have t2:decide (y<2)=true:=by simpa using q1
    go_wp2
    go_ret2
    exact kp hbad.out HB.out
   have t2:decide (y<2)=false:=by simpa using q1
   have t3:decide ((n:Int)-p<y)=true:=by simp;omega
   go_wp2
   go_ret2
   exact kp hbad.out HB.out
  |some o=>
   obtain ⟨ok,oa,ol⟩:=o
   have vj:=kO hon hlt
   simp only at vj
   obtain ⟨rfl,rfl,o1,o2,o3,o4⟩:=vj
   have hlast:=hid (fun hk=>rE HS.out hlt hon hk)
   have hmore:=hid (fun hk=>rD HS.out hlt hon hk)
   simp only at hlast hmore
   by_cases hx:g p<2
   ·have hl:ol=1:=by unfold eu at hon;rw[if_pos hx]at hon;injection hon with e;injection e with _ e;injection e with _ e;exact e.symm
    subst hl
    obtain ⟨x,hgx⟩:∃x,x=g p:=⟨_,rfl⟩
    rw[←hgx]at c0 gx hx hlast hmore
    have t0:decide (x<2)=true:=by simpa using hx
    clear hon hc h hg hgx
    have MZ:x=0∨x=1:=by omega
    rcases MZ with rfl |rfl
    ·have hL:=hid (hlast.out rfl)
     clear hlast hmore
     go_wp2_with (at_builtin;refine lH rfl (.tmp 18) (.tmp 22) 113 117 rfl Tryz.underlying113 (.inr rfl) w.heap.size _ l m HM.out rfl (Ow.alloc HO.out _) wr.heap.size 1 (0,(p:Int),1) rfl (Ce.made (w:=wr) (l:=[(),((p:Int)),.int .i64 (1)]) rfl) (by have:=HM.out;omega) (by simp;exact Nat.le_succ_of_le HB.out.size) ?_;intro A' c' w3 hown hbel hgr;have mh:=hid ((HB.out.alloc HB.out.size _).trans hbel);have sk:=hid hown;clear hown hbel hgr HB HO)
     go_ret2
     exact ko hL.out (by rw[HM.out];simp) sk.out mh.out
    have hL:=hid (hmore.out (by decide))
    clear hlast hmore
    go_wp2_with (at_builtin;refine lH rfl (.tmp 18) (.tmp 22) 113 117 rfl Tryz.underlying113 (.inr rfl) w.heap.size _ l m HM.out rfl (Ow.alloc HO.out _) wr.heap.size 1 (1,(p:Int),1) rfl (Ce.made (w:=wr) (l:=[.int .i64 (1),((p:Int)),.int .i64 (1)]) rfl) (by have:=HM.out;omega) (by simp;exact Nat.le_succ_of_le HB.out.size) ?_;intro A' c' w3 hown hbel hgr;have mh:=hid ((HB.out.alloc HB.out.size _).trans hbel);have sk:=hid hown;clear hown hbel hgr HB HO)
    go_roundw
    case rel=>exact⟨p+1,l ++ [(1,(p:Int),1)],A',c',m+1,rfl,by go_num,(by rw[HM.out];simp),hL.out,mh.out,sk.out⟩
    simp[intOf];omega
   have hs:¬n≤p+1:=by intro hs;unfold eu at hon;rw[if_neg hx,if_pos hs]at hon;cases hon
   have hy:g (p+1)=ol∧¬g (p+1)<2∧¬(n:Int)-p<g (p+1):=by
    unfold eu at hon
    rw[if_neg hx,if_neg hs]at hon
    by_cases q1:g (p+1)<2
    ·rw[if_pos q1]at hon;cases hon
    rw[if_neg q1]at hon
    by_cases q2:(n:Int)-p<g (p+1)
    ·rw[if_pos q2]at hon;cases hon
    rw[if_neg q2]at hon;injection hon with e;injection e with _ e;injection e with _ e;exact⟨e,q1,q2⟩
   have gy:=hg (p+1)
   obtain ⟨e,hy1,hy2⟩:=hy
   have c1:wr.cell? ⟨b,off+(p+1),none⟩=some (.int .u8 (g (p+1))):=(HB.out.cell (p:=⟨b,off+(p+1),none⟩) hbw).trans (hc (p+1) (by omega))
   have c1':Hid (w.cell? ⟨b,off+(p+1),none⟩=some (.int .u8 (g (p+1)))):=hid (hc (p+1) (by omega))
   rw[e]at c1 gy hy1 hy2
   have C1:∀w3,Below w.heap.size w w3→w3.cell? ⟨b,off+(p+1),none⟩=some (.int .u8 ol):=fun w3 hb=>by rw[hb.cell (p:=⟨b,off+(p+1),none⟩) hbw,c1'.out,e]
   obtain ⟨x,hgx⟩:∃x,x=g p:=⟨_,rfl⟩
   rw[←hgx]at c0 gx hx hlast hmore
   obtain ⟨Oz,Oy⟩:=gx
   obtain ⟨Ox,Ov⟩:=gy
   have e1:((p:Int)+1).toNat=p+1:=by omega
   have t0:decide (x<2)=false:=by simpa using hx
   have t1:decide ((n:Int)≤(p:Int)+1)=false:=by simp;omega
   have t2:decide (ol<2)=false:=by simpa using hy1
   have t3:decide ((n:Int)-p<ol)=false:=by simpa using hy2
   have hL:=hid (hmore.out (by omega))
   have CH:=hid C1
   have e3:(p:Int)+ol=((p+ol.toNat:Nat):Int):=by omega
   have E3:=hid e3
   clear hon hc h hg hgx e c1' C1 hlast hmore e3
   go_wp2_with (at_builtin;refine lH rfl (.tmp 55) (.tmp 65) 113 117 rfl Tryz.underlying113 (.inr rfl) w.heap.size _ l m HM.out rfl (Ow.alloc HO.out _) wr.heap.size 1 (x,(p:Int),ol) rfl (Ce.made (w:=wr) (l:=[(x),((p:Int)),(ol)]) rfl) (by have:=HM.out;omega) (by simp;exact Nat.le_succ_of_le HB.out.size) ?_;intro A' c' w3 hown hbel hgr;have mh:=hid ((HB.out.alloc HB.out.size _).trans hbel);have sk:=hid hown;have c2:=CH.out _ mh.out;clear hown hbel hgr HB HO)
   go_roundw
   case rel=>exact⟨p+ol.toNat,l ++ [(x,(p:Int),ol)],A',c',m+1,rfl,(by rw[E3.out]),(by rw[HM.out];simp),hL.out,mh.out,sk.out⟩
   simp[intOf];omega
 have e1:p=n:=by omega
 have hend:=hid (tD HS.out (show n≤p by omega))
 have t0:¬(p:Int)<n:=by omega
 clear e1
 go_wp2
 go_ret2
 exact ko hend.out HM.out HO.out HB.out
theorem GY (g:Nat→Int)(n:Nat):stamp g n=match fst (wl g n) with
 |none=>(0,0,0,false)
 |some o=>(o.2.1+2,gR g (o.2.1.toNat+2),gR g (o.2.1.toNat+6),true):=by
 unfold stamp wl rB
 cases walk g n 0 <;> rfl
theorem GJ {g:Nat→Int}{n:Nat}{o:Int×Int×Int}(hf:fst (wl g n)=some o):0≤o.2.1∧o.2.1.toNat+10≤n∧o.2.1=o.2.1.toNat:=by
 unfold wl at hf
 cases hw:walk g n 0 with
 |none=>rw[hw]at hf;cases hf
 |some l=>rw[hw]at hf;exact rX hw hf
def K6 (w:World)(l:List (Int×Int×Int))(A:Option Addr)(i:Value)(wr:World):Prop:=
 ∃k:Nat,k≤l.length∧i =.int .i64 (k:Int)∧fst (l.drop k)=fst l∧Below w.heap.size w wr∧qC wr A l
set_option maxHeartbeats 2000000 in
theorem nG (A:Option Addr)(n c:Nat)(g:Nat→Int)(w:World)(h:By w A n g)(hg:aC g)(hn:n≤1000000)(hc:n≤c) :
 Calls Tryz.prog 20 #[.slice A n c] w fun e w'=>e =.returned (L4 (stamp g n))∧Below w.heap.size w w':=by
 have W:=hid (zI A n c g w h hg hn)
 have hlen:=y_ g n
 have HS:=hid (GY g n)
 have HW:=fun o=>hid (@GJ g n o)
 obtain ⟨l,hl⟩:∃l,l=wl g n:=⟨_,rfl⟩
 obtain ⟨m,hm⟩:∃m,m=l.length:=⟨_,rfl⟩
 unfold ni at W
 rw[←hl]at W HS hlen
 rw[←hm]at W hlen
 have HM:=hid hm
 have HL:=hid hl
 clear hl hm
 replace HW:=hid HW
 have HY:=hid h
 have HG:=hid hg
 clear h hg
 go_enter Tryz.func20,Tryz.ntmps20
 go_wp2_with fail
 refine W.out.mono ?_
 rintro e w1 ⟨A1,c1,rfl,ho,hb⟩
 have HB:=hid hb
 have HO:=hid (show qC w1 A1 l by unfold qC;rw[HM.out]at ho;have:=Ow.sl ho;exact this)
 clear ho hb W
 go_wp2
 go_loopw [8] (fun i wr=>K6 w l A1 i wr) (fun i _=>m-(intOf i).toNat)
 case atStart=>exact⟨0,Nat.zero_le _,rfl,rfl,HB.out,HO.out⟩
 clear HB HO
 obtain ⟨k,hk,rfl,hf,hb,hC⟩:=hrel
 rw[←HM.out]at hk
 by_cases hlt:k<m
 ·have hkl:k<l.length:=by rw[←HM.out];exact hlt
  obtain ⟨b,off,rfl,hbw,hcc⟩:=hC (by omega)
  clear hcc
  obtain ⟨c0,c1,c2⟩:=qC.cells hC hkl
  have hd:=vt hkl
  obtain ⟨x,y,z,hx⟩:∃x y z:Int,l[k]=(x,y,z):=⟨_,_,_,rfl⟩
  rw[hx]at c0 c1 c2 hd
  simp only at c0 c1 c2
  have HF:=hid hf
  have HB:=hid hb
  have HC:=hid hC
  have i1:(k:Int)<m:=by omega
  have i0:(0:Int)≤k:=by omega
  cases hs:qp (x,y,z)
  ·have hnx:fst (l.drop (k+1))=fst l:=by rw[←hf,hd,hs];rfl
   have HN:=hid hnx
   have hxz:(x==8)=false∨((x==8)=true∧(z==10)=false):=by
    simp only[qp]at hs
    cases h1:(x==8) <;> cases h2:(z==10) <;> simp_all
   clear hd hx hs hnx hf hb hC
   rcases hxz with h1 |⟨h1,h2⟩
   all_goals
    go_wp2
    go_roundw
    case rel=>exact⟨k+1,by rw[←HM.out];omega,by go_num,HN.out,HB.out,HC.out⟩
    simp[intOf];omega
  have hfo:fst l=some (x,y,z):=by rw[←hf,hd,hs];rfl
  have hw:=HW.out (x,y,z)
  rw[←HL.out]at hw
  obtain ⟨o1,o2,o3⟩:=hw.out hfo
  obtain ⟨p,hp⟩:∃p,p=y.toNat:=⟨_,rfl⟩
  simp only at o1 o2 o3
  rw[←hp]at o2 o3
  have hxz:(x==8)=true∧(z==10)=true:=by simpa [qp]using hs
  obtain ⟨h1,h2⟩:=hxz
  subst o3
  have Pq:Hid (stamp g n=((p:Int)+2,gR g (p+2),gR g (p+6),true)):=hid (by rw[HS.out,hfo];simp)
  clear hd hx hs hf hb hC hfo hw hp HW
  have hy:=HY.out.below HB.out (Nat.le_refl _)
  obtain ⟨A2,r2,s2⟩:=eA A n c (p+2) (by omega) hc ((p:Int)+2) (by omega)
  obtain ⟨A3,r3,s3⟩:=eA A n c (p+6) (by omega) hc ((p:Int)+6) (by omega)
  have S2:=hid (s2 wr g hy)
  have S3:=hid (s3 wr g hy)
  have b1:(0:Int)≤p:=by omega
  have b2:(p:Int)+10≤n:=by omega
  have i4:IntKind.i64.wrap ((p:Int)+2+4)=(p:Int)+6:=by rw[IntKind.wrap_i64];omega
  have j4:IntKind.i64.wrap ((p:Int)+6)=(p:Int)+6:=by rw[IntKind.wrap_i64];omega
  have O2:=hid (show 4≤n-(p+2) by omega)
  have O3:=hid (show 4≤n-(p+6) by omega)
  clear hy s2 s3 HY HF HL o1 o2
  go_wp2
  go_quiet ((go_at_call 58;first |exact Ld (uQ _ _ _ _ _ _ (by first |exact S2.out.drewN _ |exact S3.out.drewN _) HG.out (by first |exact O2.out |exact O3.out)) |exact Lb (uQ _ _ _ _ _ _ (by first |exact S2.out.drewN _ |exact S3.out.drewN _) HG.out (by first |exact O2.out |exact O3.out))))
  go_wp2
  refine bodyPost_ret (v:=.tuple #[.int .i64 ((p:Int)+2),.int .u32 (gR g (p+2)),.int .u32 (gR g (p+6)),true]) (by simp[results,Tryz.results20,go_sem]) rfl ⟨by rw[Pq.out];rfl,below_drewN HB.out _⟩
 have i1:¬(k:Int)<m:=by omega
 have hnone:fst l=none:=by rw[←hf,List.drop_of_length_le (by rw[←HM.out];omega)];rfl
 have HN:=hid hnone
 have HB:=hid hb
 clear hb hC hf hnone
 go_wp2
 refine bodyPost_ret (v:=.tuple #[(),.int .u32 0,.int .u32 0,false]) (by simp[results,Tryz.results20,go_sem]) rfl ⟨by rw[HS.out,HN.out];rfl,HB.out⟩
end Go.Proofs.YtalnfkijiehjhaaGreat
