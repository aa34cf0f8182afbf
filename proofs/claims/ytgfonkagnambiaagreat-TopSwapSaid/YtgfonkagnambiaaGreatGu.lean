/- What the tops' known does. What the tops' laws share. -/
import Derived.Test.YtgfonkagnambiaaGreatGa
import Derived.Test.YtgfonkagnambiaaGreatGz
import Derived.Test.YtgfonkagnambiaaGreatGwd
import Derived.Test.YtgfonkagnambiaaGreatGsb
import Derived.Test.YtgfonkagnambiaaGreatGr
import Derived.Test.YtgfonkagnambiaaGreatGm
import Derived.BigQuiet
import Derived.Deep.RegionHeld3
import Derived.Deep.Cut
import Derived.IntWalk
import Derived.Test.YtgfonkagnambiaaGreatPolMake
import Derived.Test.YtgfonkagnambiaaGreatGx
import Derived.Test.YtgfonkagnambiaaGreatGkb
namespace Go.Proofs.YtgfonkagnambiaaGreat
set_option linter.unusedVariables false
set_option linter.unusedSimpArgs false
open Go.RowKit Go.ChangeShapes Go.WideShapes Go.ChangeAt
set_option maxRecDepth 100000
def tP:Pl:=⟨0,10,80,fun _=>fu,⟨1,dX,⟨1,0⟩,⟨2,0⟩⟩⟩
def tX:Pk:={ kind:=2,life:=9,src:=1,dst:=10,tp:=80 }
theorem tNew:nQ 10 80 ⟨1,0⟩ ⟨2,0⟩=(tP,0):=by unfold nQ gg;rw[show (cQ 10 0 4294967295&&cQ 80 0 65535)=true by decide];rfl
theorem sJ:az (fun _=>(0:Int)):=fun _=>⟨(by decide:(0:Int)≤0),(by decide:(0:Int)≤255)⟩
theorem tE:ax tX=0:=by decide +kernel
theorem tL:aG tX=24:=by decide +kernel
theorem tB:az (aD tX):=lM sJ sJ tE
theorem J_:aB (aD tX) 24=0:=by decide +kernel
theorem Hj:Pw tP:=fun i hi=>⟨⟨by show (0:Int)≤0;decide,by show (0:Int)≤4294967295;decide⟩,⟨by show (0:Int)≤0;decide,by show (0:Int)≤65535;decide⟩,fun h=>absurd rfl h⟩
theorem J9:Pt tP:=⟨Hj,⟨by show (-4611686018427387904:Int)≤1;decide,by show (1:Int)≤4611686018427387904;decide⟩,fun i hi=>⟨by show (0:Int)≤0;decide,by show (0:Int)≤4;decide⟩,⟨by show (0:Int)≤10;decide,by show (10:Int)≤4294967295;decide⟩,⟨by show (0:Int)≤80;decide,by show (80:Int)≤65535;decide⟩⟩
theorem J8:fi tP=fun _=> -1:=by
 unfold fi
 rw[if_pos (by decide +kernel)]
theorem Gs (nr:Nat→Option Int):dj tP true nr (aD tX) 24=cE 9 nr:=by
 have pe:=nY (p:=tX) sJ sJ tE ⟨fun h=>absurd h (by decide),fun _=>⟨rfl,rfl⟩,fun h=>absurd rfl h,fun _=>rfl⟩
 rw[tL]at pe
 unfold dj
 dsimp only
 generalize au (aD tX) 24=x at pe
 have e1:x.kind=2:=pe.kind
 have e2:x.life=9:=pe.life
 have e3:x.piece=0:=pe.piece
 have e4:x.dst=10:=pe.dst
 have e5:x.tp=80:=pe.tp
 have e6:x.label=0:=pe.label
 rw[if_neg (by simp),J_,if_neg (by simp),e3,if_neg (by simp),e2,if_neg (by decide),e4,e1,if_neg (by intro h;exact absurd h.2 (by decide)),e5,if_pos ⟨rfl,rfl⟩]
 unfold inT
 have hs:jj tP x = -1:=by
  unfold jj jI gF
  rw[if_pos e1,if_pos e6,J8]
  rfl
 rw[if_pos hs]
theorem Gr (w:World):Calls Tryz.prog 13 #[.int .i64 10,.int .i64 80,.agg #[.int .u64 1,.int .u64 0],.agg #[.int .u64 2,.int .u64 0]] w fun x w'=>x =.returned (.tuple #[.agg (FA 330 (pc tP)),()])∧Below w.heap.size w w':=by
 have h:=Cs 10 80 ⟨1,0⟩ ⟨2,0⟩ w
 rw[tNew]at h
 exact h
theorem BL (w:World):Calls Tryz.prog 12 #[.agg #[.int .i64 2,.int .i64 9,(),.int .i64 1,.int .i64 10,(),.int .i64 80,(),(),false,(),.slice none 0 0,.slice none 0 0]] w fun e w'=>∃A c,e =.returned (.tuple #[.slice A 24 c,()])∧OB w' w.heap.size (.slice A 24 c) 24 (aD tX)∧24≤c∧Below w.heap.size w w':=by
 have h:=mX tX none 0 none 0 w (fun h=>absurd h (by decide)) (fun h=>absurd h (by decide)) sJ sJ (by decide) (by decide)
 rw[tE,tL]at h
 exact h.mono fun e w' h=>nu h
theorem Dy (w:World)(pb sb wb:Nat)(X:Option Addr)(c:Nat)(hF:Fb w pb 130 (dv sb (fun _=>none)))(hne:pb≠sb∧pb≠wb)(hS:gG w sb wb tP)(hB:By w X 24 (aD tX))(hc:24≤c):Calls Tryz.prog 8 #[.pointer (some ⟨pb,0,none⟩),.slice X 24 c] w fun e w'=>(∃X c,e =.returned (fz 9 (-1) false (.slice X 0 c)))∧Ch [pb] w w':=by
 refine(rD tP pb sb wb (fun _=>none) (aD tX) 24 c X w tB (by decide) (fun _=>?_) J9 (fun j v h=>by cases h) hF hne hS hB hc).mono ?_
 ·have:aD tX 0=2:=by decide +kernel
  rw[this];decide
 rintro e w' ⟨X,c,he,_,_,_,hch⟩
 rw[Gs]at he
 exact⟨⟨X,c,he⟩,hch⟩
theorem Gp (w:World):Calls Tryz.prog 14 #[.slice none 0 0] w fun e w'=>e =.returned (.int .i64 65535)∧Below w.heap.size w w':=by
 refine(oY none 0 0 (fun _=>0) w (fun h=>absurd h (by decide)) sJ (by decide)).mono ?_
 rintro e w' ⟨rfl,k,rfl⟩
 exact⟨by rw[show (65535-norm (tot (fun _=>0) 0):Int)=65535 by decide],below_drewN (Below.refl _ _) k⟩
theorem BJ (w:World):Calls Tryz.prog 15 #[.agg #[.int .u64 0,.int .u64 0],.slice none 0 0] w fun e w'=>e =.returned (.int .u64 (gU 0 0 (fun _=>0) 0))∧Below w.heap.size w w':=
 jg 0 0 none 0 0 (fun _=>0) w (fun h=>absurd h (by decide)) (fun j=>⟨by show (-9223372036854775808:Int)≤0;decide,by show (0:Int)≤9223372036854775807;decide⟩) (by decide)
theorem Gq (w:World):Calls Tryz.prog 16 #[.agg #[.int .u64 0,.int .u64 0],.slice none 0 0] w fun e w'=>e =.returned (.int .u64 (gU 0 0 (fun _=>0) 0))∧Below w.heap.size w w':=by
 rw[←oM]
 exact Co 0 0 none 0 0 (byteOf (fun _=>0)) w (fun h=>absurd h (by decide)) (sK _) (by decide) (by decide)
theorem Dj (w:World):(zeroValue 33).run Tryz.prog w =.ok (.agg (FA 330 (pc bh))) w:=by kernel_rfl
attribute [local irreducible] FA FL
set_option maxHeartbeats 9000000 in
theorem Cz (w:World):Calls Tryz.prog 4 #[] w fun e w'=>e =.returned (.bool true)∧Below w.heap.size w w':=by
 have NEW:=hid (fun (w:World)=>(show Calls Tryz.prog 13 #[.int .i64 10,.int .i64 80,.agg #[.int .u64 1,.int .u64 0],.agg #[.int .u64 2,.int .u64 0]] w fun x w'=>x =.returned (.tuple #[.agg (FA 330 (pc tP)),()])∧Below w.heap.size w w' from Gr w))
 have Bq:=hid (fun (w:World)=>BL w)
 have Lu:=hid (fun (w:World) pb sb wb X c (hF:Fb w pb 130 (dv sb (fun _=>none))) (hne:pb≠sb∧pb≠wb) (hS:gG w sb wb tP) (hB:By w X 24 (aD tX)) (hc:24≤c)=>Dy w pb sb wb X c hF hne hS hB hc)
 have SUM:=hid (fun (w:World)=>Gp w)
 have Lx:=hid (fun (w:World)=>BJ w)
 have Ly:=hid (fun (w:World)=>Gq w)
 have S0:Hid (HS [] w w []):=hid HS.start
 go_enter Tryz.func4,Tryz.ntmps4
 go_wp2_with fail
 refine(NEW.out _).mono ?_
 rintro e w1 ⟨rfl,hb⟩
 have S1:=hid (S0.out.below hb)
 clear hb
 go_simp
 go_upto_region 2 with (first | ((with_reducible refine ak ?_);refine aF rfl (oo rfl (Dj _) (by omega) S1.out ?_);intro U w_ hZ _;have SA:=hid hZ;clear hZ) | ((with_reducible refine ak ?_);refine aF rfl (jX (A:=[]) 0 330 (pc tP) (pc tP) rfl rfl rfl SA.out (by omega) (fun j hj=>mE _ _ _ j hj) eB (rP _) ?_);intro w_ hZ;have S3:=hid hZ;clear hZ))
 go_wp2_with fail
 refine(plane_new S3.out).mono ?_
 rintro e w4 ⟨pb,rfl,hz⟩
 have S4:=hid hz
 clear hz S0 S1 S3
 go_simp
 go_upto_region 5 with (fail)
 go_wp2_with ((with_reducible refine ak ?_);refine aF rfl (iQ 1 rfl 0 330 (pc tP) rfl rfl S4.out (by omega) (fun j hj=>by rw[Nat.zero_add]) Tryz.underlying33 rfl eB ?_))
 refine(rW (w:=w4) (nr:=fun _=>none) (S4.out.fb 0 rfl) tP Hj).mono ?_
 rintro e w5 ⟨rfl,sb,wb,hF,hS,hne,hch,_,_⟩
 have B5:=hid (S4.out.bl.trans (hch.below (B:=w.heap.size) (fun k hk=>by simp at hk;subst hk;rcases S4.out.2.2.2 k (by simp[aM]) with h |h;cases h;exact h) S4.out.i6))
 have IT:Hid (w.heap.size≤pb):=hid (by rcases S4.out.2.2.2 pb (by simp[aM]) with h |h;cases h;exact h)
 have HF:=hid hF
 have HS2:=hid hS
 have F6:=hid hne
 clear hF hS hch hne S4
 go_simp
 go_wp2_with fail
 refine(Bq.out _).mono ?_
 rintro e w6 ⟨A,c,rfl,hO,hc,hb⟩
 have B6:=hid (B5.out.trans (hb.mono B5.out.size))
 have Ja:=hid (HF.out.below hb)
 have IJ:=hid (HS2.out.below hb)
 have HO:=hid hO.sl1
 have HC:=hid hc
 clear hb hO hc HF HS2 B5
 go_simp
 go_wp2_with fail
 refine(Lu.out _ pb sb wb A c Ja.out F6.out IJ.out HO.out HC.out).mono ?_
 rintro e w7 ⟨⟨X,c,rfl⟩,hch⟩
 have B7:=hid (B6.out.trans (hch.below (B:=w.heap.size) (fun k hk=>by simp at hk;subst hk;exact IT.out) B6.out.size))
 have S7:Hid (HS [] w7 w7 []):=hid HS.start
 clear hch Ja IJ HO HC B6
 unfold fz
 go_simp
 go_upto_region 8 with (first | ((with_reducible refine ak ?_);refine aF rfl (bH rfl (nF _) (by simp) S7.out ?_);intro V w_ hZ _;have S8:=hid hZ;clear hZ) | ((with_reducible refine ak ?_);refine aF rfl (aH (A:=[]) [.int .i64 9,.int .i64 (-1),false,.slice X 0 c] rfl rfl (rfl) S8.out rfl dr rfl ?_);intro w_ hZ;have S9:=hid hZ;clear hZ))
 obtain ⟨f0,f1,f2,f3⟩:=(S9.out.ce 0 rfl).c4
 go_wp2_with fail
 refine(SUM.out _).mono ?_
 rintro e eh ⟨rfl,hb⟩
 have gP:=hid (S9.out.below hb)
 clear hb S7 S8 S9 f0 f1 f2 f3
 go_simp
 go_wp2_with fail
 refine(Lx.out _).mono ?_
 rintro e mq ⟨rfl,hb⟩
 have ff:=hid (gP.out.below hb)
 clear hb gP
 go_simp
 go_wp2_with fail
 refine(Ly.out _).mono ?_
 rintro e oI ⟨rfl,hb⟩
 have ka:=hid (ff.out.below hb)
 clear hb ff
 go_simp
 go_wp2_with fail
 go_ret
 exact⟨by simp,B7.out.trans (ka.out.bl.mono B7.out.size)⟩
end Go.Proofs.YtgfonkagnambiaaGreat
namespace Go.Proofs.YtgfonkagnambiaaGreat
set_option linter.unusedVariables false
set_option linter.unusedSimpArgs false
open Go.RowKit Go.ChangeShapes Go.WideShapes Go.ChangeAt
set_option maxRecDepth 100000
theorem xu (W:World)(A1:Option Addr)(n1 c1:Nat)(g1:Nat→Int)(hr1:Is W A1 n1 g1)(hl1:∀ad,A1=some ad→0<n1→ad.block<W.heap.size)(hn1:n1≤c1)(hc1:c1≤maxLen)(m:Nat)(hm:m≤1000)(w:World)(hb:Below W.heap.size W w) :
 Calls Tryz.prog 5 #[.slice A1 n1 c1,(m:Int)] w fun x w'=>x =.returned (.agg (FA 330 (pc (eJ g1 (min n1 m)))))∧Below w.heap.size w w':=
 xx w A1 n1 c1 g1 (Sl.below hr1 hb (Nat.le_refl _)) (fun ad e h=>Nat.lt_of_lt_of_le (hl1 ad e h) hb.size) (by have:=hn1;unfold maxLen at hc1;omega) m hm
theorem fZ {w:World}{b:Nat}{p:Pl}(h:Fb w b 330 (pc p)):al w b p:=h
end Go.Proofs.YtgfonkagnambiaaGreat
