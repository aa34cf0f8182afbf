/- The reference's Readdress. -/
import Derived.Test.YtalnfkijiehjhaaGreatGa
import Derived.Test.YtalnfkijiehjhaaGreatPlr
import Derived.Test.YtalnfkijiehjhaaGreatWirRef3
import Derived.BigQuiet
import Derived.Deep.RegionHeld3
import Derived.Deep.Cut
import Derived.IntWalk
namespace Go.Proofs.YtalnfkijiehjhaaGreat
set_option linter.unusedVariables false
set_option linter.unusedSimpArgs false
open Go.RowKit Go.ChangeShapes Go.WideShapes Go.ChangeAt
set_option maxRecDepth 100000
def De (g:Nat→Int)(n:Nat)(a:Int):Nat→Int:=aQ 14 n g 2 8 (ao g 8 4 a)
theorem Fu {s a b:Int}(hs:0≤s)(hs':s≤65535)(ha:0≤a)(ha':a≤65534)(hb:0≤b)(hb':b≤65535):turn s a b≤65534:=by
 unfold turn plus
 split <;> (try split) <;> omega
theorem Hg {g:Nat→Int}{n:Nat}(hg:aC g)(hp:az g n=0)(h3:g 0=3){a:Int}(ha:0≤a∧a≤4294967295){j:Nat}(hj:j<14):cj { ax g n with dst:=a } j=ao g 8 4 a j:=by
 have hx:ax g n ={ kind:=g 0,life:=g 1,piece:=g 12,src:=num g 4 4,dst:=num g 8 4,code:=g 16,nd:=n-20,gd:=fun j=>g (20+j) }:=by
  unfold ax eY
  rw[if_pos hp,if_pos h3]
 have ln:=ew hg hp
 have hL:=(um hg hp h3 ha).2
 obtain ⟨q1,_⟩:=iI hp
 obtain ⟨_,_,q3,_,q5,_⟩:=lD q1
 have q2:g 2*256+g 3=n:=by
  unfold aL at q3
  rw[if_neg (by omega),iB]at q3
  exact q3
 have b2:=hg 2
 have b3:=hg 3
 have b4:=hg 4
 have b5:=hg 5
 have b6:=hg 6
 have b7:=hg 7
 have n4:num g 4 4=((g 4*256+g 5)*256+g 6)*256+g 7:=yo g 4
 unfold cj
 rw[hL]
 rw[hx]
 dsimp only
 unfold ao
 match j,hj with
 |0,_=>rfl
 |1,_=>rfl
 |2,_=>show eG n 1=g 2;rw[qe];omega
 |3,_=>show eG n 0=g 3;rw[qf];omega
 |4,_=>show eG (num g 4 4) 3=g 4;rw[EX];omega
 |5,_=>show eG (num g 4 4) 2=g 5;rw[EY];omega
 |6,_=>show eG (num g 4 4) 1=g 6;rw[qe];omega
 |7,_=>show eG (num g 4 4) 0=g 7;rw[qf];omega
 |8,_=>rfl
 |9,_=>rfl
 |10,_=>rfl
 |11,_=>rfl
 |12,_=>rfl
 |13,_=>exact q5.symm
theorem Kr {g:Nat→Int}{n:Nat}(hg:aC g)(hp:az g n=0)(h3:g 0=3){a:Int}(ha:0≤a∧a≤4294967295)(hd:num g 10 2≤65534)(j:Nat):De g n a j=eS g n a j:=by
 have hlow:=fun {j:Nat} (hj:j<14)=>Hg hg hp h3 ha hj
 have ln:=ew hg hp
 obtain ⟨q1,_⟩:=iI hp
 obtain ⟨hE,hL⟩:=um hg hp h3 ha
 have bd:=kr hg hp
 have hR:eS g n a j=if j<16 then aP { ax g n with dst:=a } j else g j:=rfl
 have hk:({ ax g n with dst:=a }:Pk).kind=3:=ln.2.2.1.trans h3
 have hgo:aC ({ ax g n with dst:=a }:Pk).go:=bd.2.2.2.2.2.1
 have hgd:aC ({ ax g n with dst:=a }:Pk).gd:=bd.2.2.2.2.2.2
 generalize ({ ax g n with dst:=a }:Pk)=x at *
 rw[hR]
 have n24:24≤n:=ln.1
 have hP:aC (ao g 8 4 a):=dy hg _ _ _
 unfold De
 by_cases h16:16≤j
 ·rw[if_neg (by omega),eM (by omega),aT (by omega)]
 rw[if_pos (by omega)]
 by_cases xv:j<14
 ·rw[eM (by omega),gF xv,hlow xv]
 have hX:=qy hgd hgo hE
 have tx:=(lD hX).2.2.2.2.2
 have tg:=(lD q1).2.2.2.2.2
 have bx:=nZ hgd hgo hE
 have hY:aC (aQ 14 n g 2 8 (ao g 8 4 a)):=cJ _ _ _ hP
 have mx:=((jL (fA _ bx 16)).1 tx).2
 have mg:=((jL (fA g hg 16)).1 tg).2
 have ms:=oJ (F:=fun x=>tot x 16) (s:=14) (L:=n) hg 7 rfl (by omega) (fun _=>True) (fun _ _ _=>trivial) (fun x v hB _ hv hv'=>by
  have:=nD x 7 v hv hv' 16 (by omega);exact this) 2 4 (ao g 8 4 a) hP trivial (fun q' h1 h2=>by omega)
 have hdf:=uH (g:=g) (x:=ao g 8 4 a) (L:=n) (a:=4) (k:=2) (n:=8) (by omega) (by omega) (fun j hj=>aT (by omega))
 rw[show min (2*8) n=16 from by omega]at hdf
 rw[show 2*4=8 from rfl]at ms
 try dsimp only at ms
 have xb:=lL hgd hgo hE
 have nz:=jo (tot (cj x) 16)
 have nx:num (aP x) 14 2=65535-norm (tot (cj x) 16):=by
  rw[ly (g':=aZ x) (fun j h1 h2=>t5 (by omega))]
  unfold aZ
  rw[kg (by omega) (by omega)]
 have np:tot (cj x) 16≠0:=sE xb (j:=0) (by omega) (by rw[jg,hk];decide)
 have QI:norm (tot (cj x) 16)≠0:=fun h=>np ((Ay _).1 h)
 have p8:=dh hg n 8
 have y8:=dh hP n 8
 have y1:=ga (s:=14) (L:=n) (g:=g) hP 8
 have c1:=bE y1 14
 have c2:=dh y1 n 10
 have c3:0≤aL g n 10∧aL g n 10≤65534:=by
  have:=dh hg n 10
  refine⟨this.1,?_⟩
  unfold aL
  rw[if_neg (by omega)]
  exact hd
 have tl:=Fu c1.1 c1.2 c3.1 c3.2 c2.1 c2.2
 have tb:=sD _ _ _ c1.1 c1.2 c3.1 (by omega) c2.1 c2.2
 have ny:num (aQ 14 n g 2 8 (ao g 8 4 a)) 14 2=turn (num (bh 14 n g (ao g 8 4 a) 8) 14 2) (aL g n 10) (aL (bh 14 n g (ao g 8 4 a) 8) n 10):=by
  show num (ao (bh 14 n g (ao g 8 4 a) 8) 14 2 _) 14 2=_
  exact kg tb.1 tb.2
 have e14:tot (aQ 14 n g 2 8 (ao g 8 4 a)) 14=tot (aP x) 14:=gM _ _ _ fun j hj=>by rw[eM (by omega),gF hj,hlow hj]
 have s1:=iG (aQ 14 n g 2 8 (ao g 8 4 a)) 7
 have s2:=iG (aP x) 7
 rw[show 2*7+2=16 from rfl,show 2*7=14 from rfl,show 14+1=15 from rfl]at s1 s2
 have u1:=iB (aQ 14 n g 2 8 (ao g 8 4 a)) 14
 have u2:=iB (aP x) 14
 rw[show 14+1=15 from rfl]at u1 u2
 have b1:=hY 14
 have b2:=hY 15
 have b3:=bx 14
 have b4:=bx 15
 rcases (show j=14∨j=15 by omega) with rfl |rfl <;> omega
set_option maxHeartbeats 4000000 in
theorem CN (A:Option Addr)(L c:Nat)(g:Nat→Int)(w:World)(h:By w A L g)(hg:aC g)(hc:L≤c)(hb:L≤1000000)(n24:24≤L)(ad:Int) :
 Calls Tryz.prog 104 #[.slice A L c,ad] w fun e w'=>∃A' c',e =.returned (.slice A' L c')∧OB w' w.heap.size (.slice A' L c') L (De g L ad)∧L≤c'∧Below w.heap.size w w':=by
 have cx:=hid (fun (W:World) (hw:Below w.heap.size w W)=>Sl.below h hw (Nat.le_refl _))
 have HG:=hid hg
 obtain ⟨b,off,rfl,hblt,_⟩:=h (by omega)
 clear h hg
 have XB:=hid (dy HG.out 8 4 ad)
 go_enter Tryz.func104,Tryz.ntmps104
 go_upto_region 2 with (at_builtin;refine eK rfl (.tmp 7) (.tmp 8) rfl w.heap.size _ rfl (fun f=>Ow.new' (w:=w) rfl) _ L _ g rfl (Sl.alloc (cx.out _ (Below.refl _ _)) _) (by omega) (by simp) ?_;intro A2 c2 w2 h1 h2 h3 h4 h5 h6;have ec:=hid h1;have hc2:=h2;have B2:=hid (Below.trans ((Below.refl w.heap.size w).alloc (Nat.le_refl _) (.cells #[] 5)) h4);clear h1 h2 h3 h4 h5 h6)
 have O2:=hid ec.out
 obtain ⟨G,e,hB,hgs,hce,hfr⟩:=Ow.block_ ec.out (by omega)
 subst e
 have cz:w.heap.size≤G:=by omega
 have hne:b≠G:=by omega
 clear hce hfr hgs ec
 go_wp2_with fail
 refine(aM O2.out 8 4 ad (by omega) (by omega) hb).mono ?_
 rintro e w3 ⟨rfl,hO,hg3⟩
 have O3:=hid hO
 have G3:=hid hg3
 clear hO hg3 O2
 go_wp2_with fail
 go_loopw [6] (fun i wr=>∃k:Nat,k≤2∧i =.int .i64 ((8+2*k:Nat):Int)∧OB wr w.heap.size (.slice (some ⟨G,0,none⟩) L c2) L (bH L g true 8 (ao g 8 4 ad) k)∧w2.grownBy wr (some G)) (fun i _=>20-(intOf i).toNat)
 case atStart=>exact⟨0,by omega,rfl,O3.out,G3.out⟩
 obtain ⟨k,hk,rfl,ho,hgr⟩:=hrel
 obtain ⟨i,hi⟩:∃i,i=8+2*k:=⟨_,rfl⟩
 rw[←hi]
 have HI:=hid hi
 have HO:=hid ho
 have HR:=hid hgr
 have dG:k<2↔i<12:=by omega
 clear hi ho hgr O3 G3
 have B5:=hid (B2.out.trans (af HR.out cz B2.out.size))
 have HB:=hid (nJ (L:=L) (g:=g) XB.out true 8 k)
 by_cases hlt:i<12
 ·have i1:(i:Int)<12:=by omega
  have i2:i+1<L:=by omega
  have i3:IntKind.i64.wrap ((i:Int)+2)=(i:Int)+2:=IntWalk.i64_in _ (by omega)
  have kl:=dG.2 hlt
  clear dG hlt
  have sh:=hid (aX (some ⟨G,0,none⟩) L c2 _ wr HO.out.sl1 HB.out 14 2 (by omega) (by omega) hb)
  have sj:=hid (aX (some ⟨b,off,none⟩) L c g wr (cx.out _ B5.out) HG.out i 2 (by omega) (by omega) hb)
  have sg:=hid (aX (some ⟨G,0,none⟩) L c2 _ wr HO.out.sl1 HB.out i 2 (by omega) (by omega) hb)
  have b1:=bE HB.out 14
  have b2:=bE HG.out i
  have b3:=bE HB.out i
  have se:=hid (fun w=>dU (num (bH L g true 8 (ao g 8 4 ad) k) 14 2) (num g i 2) (num (bH L g true 8 (ao g 8 4 ad) k) i 2) w b1.1 b1.2 b2.1 b2.2 b3.1 b3.2)
  have sf:=hid (aM HO.out 14 2 (turn (num (bH L g true 8 (ao g 8 4 ad) k) 14 2) (num g i 2) (num (bH L g true 8 (ao g 8 4 ad) k) i 2)) (by omega) (by omega) hb)
  clear b1 b2 b3
  go_wp2_with fail
  refine sh.out.mono ?_
  rintro e w' ⟨rfl,rfl⟩
  go_wp2_with fail
  refine sj.out.mono ?_
  rintro e w' ⟨rfl,rfl⟩
  go_wp2_with fail
  refine sg.out.mono ?_
  rintro e w' ⟨rfl,rfl⟩
  go_wp2_with fail
  refine(se.out _).mono ?_
  rintro e w' ⟨rfl,rfl⟩
  go_wp2_with fail
  refine sf.out.mono ?_
  rintro e w5 ⟨rfl,ic,jP⟩
  have T1:ao (bH L g true 8 (ao g 8 4 ad) k) 14 2 (turn (num (bH L g true 8 (ao g 8 4 ad) k) 14 2) (num g i 2) (num (bH L g true 8 (ao g 8 4 ad) k) i 2))=(bh 14 L g (bH L g true 8 (ao g 8 4 ad) k) i):=by unfold bh;rw[dY (by omega),dY (by omega)]
  rw[T1]at ic
  have O5:=hid ic
  have R5:=hid (HR.out.trans jP)
  exact qZX
 have i1:¬(i:Int)<12:=by omega
 have kk:k=2:=by omega
 subst kk
 clear dG hlt HI
 go_wp2_with fail
 go_ret
 exact⟨some ⟨G,0,none⟩,c2,rfl,HO.out,hc2,B5.out⟩
end Go.Proofs.YtalnfkijiehjhaaGreat
