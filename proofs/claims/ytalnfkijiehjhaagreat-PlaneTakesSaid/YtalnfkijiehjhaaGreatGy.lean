/- What a unit tells of a packet, as plain functions. No change is refused. What a unit's way with packets calls first. A stand in memory; flow, back, carried. byCookie; a way's end. -/
import Derived.Test.YtalnfkijiehjhaaGreatGa
import Derived.Test.YtalnfkijiehjhaaGreatGwc
import Derived.Test.YtalnfkijiehjhaaGreatGwb
import Derived.Test.YtalnfkijiehjhaaGreatGo
import Derived.Test.YtalnfkijiehjhaaGreatGk
import Derived.Test.YtalnfkijiehjhaaGreatGf
import Derived.Test.YtalnfkijiehjhaaGreatGx
import Derived.BigQuiet
import Derived.Deep.RegionHeld3
import Derived.Deep.Cut
import Derived.IntWalk
import Derived.Test.YtalnfkijiehjhaaGreatGw
import Derived.Test.YtalnfkijiehjhaaGreatGt
import Derived.Test.YtalnfkijiehjhaaGreatGkb
import Derived.Test.YtalnfkijiehjhaaGreatGc
namespace Go.Proofs.YtalnfkijiehjhaaGreat
set_option linter.unusedVariables false
set_option linter.unusedSimpArgs false
open Go.RowKit Go.ChangeShapes Go.WideShapes Go.ChangeAt
structure To where
 d:Int
 s:Int
 c:Bool
 n:Nat
 f:Nat→Int
 nr:Nat→Option Int
def oI (k:Int):Int:=if k=1 then 4096 else 256
def dV (p:Pl)(a q:Int):Fl:=⟨a,q,p.a,p.p⟩
def bB (e:Int)(nr:Nat→Option Int):To:=⟨e,-1,false,0,fun _=>0,nr⟩
def jG (nr:Nat→Option Int)(s:Nat)(v:Int):Nat→Option Int:=fun j=>if j=s then some v else nr j
def bV (x:Pk):Int×Int×Int×Bool:=stamp x.go x.no
def jJ (p:Pl)(x:Pk)(s:Nat):Int:=ix (oI x.kind) p.r.c x.kind (dV p x.dst x.tp) s (p.r.e%4)
def outT (p:Pl)(nr:Nat→Option Int)(g:Nat→Int)(n:Nat)(x:Pk)(s:Nat):To:=
 let g2:=bA (aN g) n true p.a p.p
 if x.kind=2 then ⟨0,-1,false,n,cB g2 n 20 2 (jJ p x s),nr⟩
 else if (bV x).2.2.2=true then ⟨0,-1,false,n,cB g2 n (24+(bV x).1.toNat) 4 (fR (bV x).2.1 (jJ p x s)),jG nr s (bV x).2.1⟩
 else ⟨0,-1,false,n,g2,nr⟩
def gE (x:Pk):Option Int:=if x.kind=2 then (if x.label=0 then none else some x.label) else if x.flags=1 then none else if (bV x).2.2.2=true then some ((bV x).2.2.1%1048576) else none
def iX (p:Pl)(x:Pk):Option Int:=(gE x).bind fun c=>(fm (oI x.kind) p.r x.kind (dV p x.src x.fp) c).bind fun s=>if dO (p.s s.toNat).st=true then some s else none
def iq (p:Pl)(x:Pk):Int:=(iX p x).getD (cF p (jI (dV p x.src x.fp)).toNat)
def ei (nr:Nat→Option Int)(s:Nat)(e:Int):Int:=match nr s with |none=>0 |some v=>od e v
def oo (p:Pl)(nr:Nat→Option Int)(g:Nat→Int)(n:Nat)(x:Pk)(s:Nat):Nat→Int:=
 let g2:=bA (aN g) n false (p.s s).ad (p.s s).po
 if (bV x).2.2.2=true∧(bV x).2.2.1≠0 then cB g2 n (28+(bV x).1.toNat) 4 (ei nr s (bV x).2.2.1) else g2
def inT (p:Pl)(nr:Nat→Option Int)(g:Nat→Int)(n:Nat)(x:Pk):To:=
 if iq p x = -1 then bB 9 nr else ⟨0,iq p x,(iX p x).isSome,n,oo p nr g n x (iq p x).toNat,nr⟩
def eS (g:Nat→Int)(n:Nat)(a:Int):Nat→Int:=fun j=>if j<16 then aP { ax g n with dst:=a } j else g j
def D1 (g:Nat→Int)(n:Nat)(s:Sp):Nat→Int:=cB (cB (eS (aN g) n s.ad) n 24 4 s.ad) n 36 2 s.po
def gS (p:Pl)(x:Pk):Int:=cF p (jI (dV p (num x.gd 8 4) (num x.gd 18 2))).toNat
def nV (p:Pl)(x:Pk):Bool:=((x.gd 0 != 1&&x.gd 0 != 2) || num x.gd 4 4 != p.a) || num x.gd 16 2 != p.p
def fS (p:Pl)(nr:Nat→Option Int)(g:Nat→Int)(n:Nat)(x:Pk):To:=
 if nV p x=true then bB 8 nr else if gS p x = -1 then bB 9 nr else ⟨0,gS p x,false,n,D1 g n (p.s (gS p x).toNat),nr⟩
def cY (p:Pl)(up:Bool)(nr:Nat→Option Int)(g:Nat→Int)(n:Nat):To:=
 let x:=ax g n
 if up=false then bB 10 nr
 else if az g n≠0 then bB (az g n) nr
 else if x.piece≠0 then bB 6 nr
 else if x.life≤1 then bB 7 nr
 else if x.dst=p.a∧x.kind=3 then fS p nr g n x
 else if x.dst=p.a∧x.tp=p.p then inT p nr g n x
 else if x.kind=3 then bB 8 nr
 else match fu p x.src x.fp with
  |none=>bB 8 nr
  |some s=>outT p nr g n x s
def Pt (p:Pl):Prop:=Pw p∧Ep p.r.e∧JF p∧(0≤p.a∧p.a≤4294967295)∧(0≤p.p∧p.p≤65535)
def iP (nr:Nat→Option Int):Prop:=∀j v,nr j=some v→eH v
theorem uj {x:Pk}(h:(bV x).2.2.2=true):(2≤(bV x).1∧(bV x).1.toNat+8≤x.no∧(bV x).1=((bV x).1.toNat:Int)):=by
 unfold bV at h ⊢
 unfold stamp at h ⊢
 cases hw:walk x.go x.no 0 with
 |none=>rw[hw]at h;cases h
 |some l=>
  rw[hw]at h
  cases hf:fst l with
  |none=>simp only[rB,hf]at h;cases h
  |some o=>
   simp only[rB,hf]
   have h3:=rX hw hf
   obtain ⟨a1,a2,a3⟩:=h3
   rw[a3]
   refine⟨by omega,by omega,by omega⟩
theorem lK {x:Pk}(hg:aC x.go):eH (bV x).2.1∧eH (bV x).2.2.1:=by
 unfold bV stamp
 unfold rB
 split
 ·exact⟨⟨by decide,by decide⟩,⟨by decide,by decide⟩⟩
 split
 ·exact⟨⟨by decide,by decide⟩,⟨by decide,by decide⟩⟩
 exact⟨xj hg _,xj hg _⟩
theorem gk {g:Nat→Int}{n:Nat}(hp:az g n=0)(h:1<g 1):iL g n=0:=by
 unfold iL;rw[if_neg (by rw[hp];simp),if_neg (by omega)]
theorem sG {g:Nat→Int}:aN g 0=g 0:=iA (by omega) (by omega)
theorem oH {g:Nat→Int}{n:Nat}{ad po:Int}(hg:aC g)(hp:az g n=0)(h:1<g 1)(h3:g 0≠3)(h1:0≤ad∧ad≤4294967295)(h2:0≤po∧po≤65535):iZ (aN g) n ad po=0:=by
 unfold iZ cW
 rw[if_neg (by rw[ub hg (gk hp h)];simp),sG,if_neg h3,if_pos (by simp;omega)]
theorem Fv {g:Nat→Int}{n:Nat}{s:Bool}{ad po:Int}:bA (aN g) n s ad po 0=g 0:=by
 rw[AJ (by omega) (by omega),vb (by have:=uw s;omega) (by have:=uw s;omega),sG]
theorem pU {g:Nat→Int}{n:Nat}{s:Bool}{ad po a m v:Int}(hg:aC g)(hp:az g n=0)(h:1<g 1)(h3:g 0≠3)(h1:0≤ad∧ad≤4294967295)(h2:0≤po∧po≤65535)
 (hm:m=2∧v≤65535∨m=4∧v≤4294967295) (hv:0≤v) (ha:16≤a) (hL:a+m≤n) (hs:a+m≤22∨24≤a):fG (bA (aN g) n s ad po) n a m v=0:=by
 have hk:a_ (bA (aN g) n s ad po 0)=22:=by rw[Fv];unfold a_;rw[if_neg h3]
 unfold fG
 rw[if_neg (by rw[AH (jz hg (gk hp h)) (oH hg hp h h3 h1 h2)];simp),if_pos]
 unfold di
 rw[hk]
 simp only[Bool.and_eq_true,Bool.or_eq_true,decide_eq_true_eq,beq_iff_eq]
 omega
theorem ru {g:Nat→Int}{n:Nat}{s:Bool}{ad po:Int}(hg:aC g)(hp:az g n=0)(h:1<g 1):aC (bA (aN g) n s ad po):=sU (jz hg (gk hp h)) _ _ _ _
theorem kr {g:Nat→Int}{n:Nat}(hg:aC g)(hp:az g n=0):(0≤(ax g n).src∧(ax g n).src<4294967296)∧(0≤(ax g n).dst∧(ax g n).dst<4294967296)∧(0≤(ax g n).fp∧(ax g n).fp<65536)∧(0≤(ax g n).tp∧(ax g n).tp<65536)∧(0≤(ax g n).label∧(ax g n).label<65536)∧aC (ax g n).go∧aC (ax g n).gd:=by
 have b4:=fF hg 4 4
 have b8:=fF hg 8 4
 have c16:=fF hg 16 2
 have c18:=fF hg 18 2
 have c20:=fF hg 20 2
 have e4:(256:Int)^4=4294967296:=by decide
 have e2:(256:Int)^2=65536:=by decide
 rw[e4]at b4 b8
 rw[e2]at c16 c18 c20
 have z:∀k:Nat,aC (fun _:Nat=>(0:Int)):=fun _ _=>(by show (0:Int)≤0∧(0:Int)≤255;decide)
 have zz:(0:Int)≤0∧(0:Int)<65536:=by decide
 unfold ax
 rw[if_pos hp]
 unfold eY
 split
 ·exact⟨b4,b8,zz,zz,zz,z 0,fun j=>hg _⟩
 split
 ·exact⟨b4,b8,c16,c18,c20,z 0,fun j=>hg _⟩
 exact⟨b4,b8,c16,c18,zz,fun j=>hg _,fun j=>hg _⟩
theorem ew {g:Nat→Int}{n:Nat}(hg:aC g)(hp:az g n=0):24≤n∧n≤1500∧(ax g n).kind=g 0∧(ax g n).life=g 1∧(g 0=1∨g 0=2∨g 0=3)∧(g 0=2→(ax g n).no=0)∧(g 0=1→24+(ax g n).no≤n)∧(ax g n).no≤40∧(g 0=3→44≤n∧(ax g n).nd=n-20∧∀j,(ax g n).gd j=g (20+j)):=by
 have f:=eW hp
 obtain ⟨f1,f2,f3,f4⟩:=f
 have l:=gn hp
 have hk:g 0=1∨g 0=2∨g 0=3:=by unfold isK at f4;simp at f4;omega
 have hb:dk g n=0:=by
  unfold az at hp
  split at hp
  ·exact hp
  contradiction
 have h3:=tc hb f4
 refine⟨f1,f2,l.2,l.1,hk,fun h=>?_,fun h=>?_,?_,fun h=>?_⟩
 ·unfold ax;rw[if_pos hp];unfold eY;rw[if_neg (by omega),if_pos h]
 ·unfold ax;rw[if_pos hp];unfold eY;rw[if_neg (by omega),if_neg (by omega)]
  have g21:=hg 21
  show 24+(g 21).toNat≤n
  omega
 ·unfold ax;rw[if_pos hp];unfold eY
  split
  ·exact Nat.zero_le _
  split
  ·exact Nat.zero_le _
  show (g 21).toNat≤40
  have g21:=hg 21
  omega
 unfold ax;rw[if_pos hp];unfold eY;rw[if_pos h]
 exact⟨by omega,rfl,fun j=>rfl⟩
theorem vJ (nr:Nat→Option Int)(s:Nat)(e:Int):0≤ei nr s e∧ei nr s e<4294967296:=by
 unfold ei
 split
 ·exact⟨by decide,by decide⟩
 unfold od;omega
theorem zc {p:Pl}{j:Nat}(hj:j<127):cF p j = -1∨∃i:Nat,i<64∧(p.s i).st=2∧cF p j=i:=by
 unfold cF
 by_cases h:bz (bm p) 64=0
 ·rw[if_pos h];exact .inl rfl
 rw[if_neg h]
 obtain ⟨i,h1,h2,h3⟩:=wT (at_:=df p) (fh:=cX p) (by omega) (yJ p) j hj
 refine .inr ⟨i,h1,?_,h3⟩
 by_cases hs:(p.s i).st=2
 ·exact hs
 unfold bm at h2
 rw[if_neg hs]at h2
 omega
theorem Er (p:Pl)(x:Pk):iq p x = -1∨∃k:Nat,k<64∧iq p x=k:=by
 unfold iq
 cases h:iX p x with
 |none=>
  have hb:=uY (dV p x.src x.fp)
  rcases zc (p:=p) (j:=(jI (dV p x.src x.fp)).toNat) (by omega) with h |⟨i,h1,_,h3⟩
  ·exact .inl h
  exact .inr ⟨i,h1,h3⟩
 |some s=>
  unfold iX at h
  cases hc:gE x with
  |none=>rw[hc]at h;cases h
  |some c=>
   rw[hc]at h
   simp only[Option.bind]at h
   cases hr:fm (oI x.kind) p.r x.kind (dV p x.src x.fp) c with
   |none=>rw[hr]at h;cases h
   |some t=>
    rw[hr]at h
    have:=sK _ _ _ _ _ _ hr
    simp only at h
    split at h
    ·injection h with h
     subst h
     refine .inr ⟨t.toNat,by omega,by show t=_;omega⟩
    cases h
set_option maxRecDepth 100000
def eN (d s:Int)(c:Bool)(r:Value):Value:=.agg #[d,s,c,r]
theorem wG (A:Option Addr)(m c:Nat)(g:Nat→Int)(w:World)(h:By w A m g)(hg:aC g)(hm:m≤4) :
 Calls Tryz.prog 88 #[.slice A m c] w fun e w'=>e =.returned (.int .i64 (num g 0 m))∧w=w':=by
 go_enter Tryz.func88,Tryz.ntmps88
 exact qXK
theorem fT (d:Int)(w:World):Calls Tryz.prog 42 #[d] w fun x w'=>x =.returned (eN d (-1) false (.slice none 0 0))∧Below w.heap.size w w':=by
 unfold eN
 have S0:Hid (HS [] w w []):=hid HS.start
 go_enter Tryz.func42,Tryz.ntmps42
 go_wp2_with (first | ((with_reducible refine ah ?_);refine ay rfl (bw rfl (oC _) (by simp) S0.out ?_);intro U w_ hZ _;have S1:=hid hZ;clear hZ) | ((with_reducible refine ah ?_);refine ay rfl (aB (A:=[]) [d,.int .i64 (-1),false,.slice none 0 0] rfl rfl (rfl) S1.out rfl d9 rfl ?_);intro w_ hZ;have S9:=hid hZ;clear hZ;(first |refine aJ ?_ |refine aR ?_);apply_assumption;refine wp_ret ?_;(repeat refine aI ?_);(show bodyPost _ _ _ _ _ _);exact bodyPost_ret (v:=.agg ([d,.int .i64 (-1),false,.slice none 0 0]:List Value).toArray) (aS Tryz.results42 _ rfl (S9.out.ce 0 rfl) Tryz.underlying45 rfl d9) rfl ⟨rfl,S9.out.bl⟩))
theorem pa (v:Int)(b:Bool)(w:World):Calls Tryz.prog 60 #[.agg #[.int .u32 v,b]] w fun x w'=>x =.returned (.tuple #[.int .u32 v,b])∧Below w.heap.size w w':=by
 go_enter Tryz.func60,Tryz.ntmps60
 go_wp2_with fail
 go_quiet (fail)
 go_wp2_with fail
 go_ret2
 first |exact⟨rfl,below_drewN ((Below.refl _ _).alloc (Nat.le_refl _) _) _⟩ |exact⟨rfl,(Below.refl _ _).alloc (Nat.le_refl _) _⟩
theorem tY (p:Pl)(sb:Nat)(x:Pk)(AO:Option Addr)(cO:Nat)(AD:Option Addr)(cD:Nat)(w:World)(h1:w.cell? ⟨sb,1,none⟩=some (.int .i64 p.a))(h2:w.cell? ⟨sb,2,none⟩=some (.int .i64 p.p))(hb:sb<w.heap.size) :
 Calls Tryz.prog 44 #[.pointer (some ⟨sb,0,none⟩),.agg #[x.kind,x.life,x.piece,x.src,x.dst,x.fp,x.tp,x.flags,x.label,x.bare,x.code,.slice AO x.no cO,.slice AD x.nd cD]] w fun e w'=>e =.returned (.bool (x.dst==p.a&&(x.kind==3 || x.tp==p.p)))∧Below w.heap.size w w':=by
 cases k1:(x.dst==p.a) <;> cases k2:(x.kind==3) <;> cases k3:(x.tp==p.p)
 all_goals
  go_enter Tryz.func44,Tryz.ntmps44
  go_wp2_with fail
  go_quiet (fail)
  go_wp2_with fail
  go_ret
  first |exact⟨rfl,below_drewN ((Below.refl _ _).alloc (Nat.le_refl _) _) _⟩ |exact⟨rfl,(Below.refl _ _).alloc (Nat.le_refl _) _⟩
theorem sP {w w':World}{L:Nat}{F:Nat→Int}{e:Ending}(h:ij w 0 L F e w'):∃A c,e =.returned (.tuple #[.slice A L c,()])∧OB w' w.heap.size (.slice A L c) L F∧L≤c∧Below w.heap.size w w':=by
 obtain ⟨v,rfl,hO,hb⟩:=h
 obtain ⟨A,c,rfl,hc,_,_⟩:=hO.aF
 exact⟨A,c,rfl,hO,hc,hb⟩
theorem iR {P:Program}{f:Nat}{args:Array Value}{w:World}{E:Int}{L:Nat}{F:Nat→Int}(h:Calls P f args w (ij w E L F))(hE:E=0):Calls P f args w fun e w'=>∃A c,e =.returned (.tuple #[.slice A L c,()])∧OB w' w.heap.size (.slice A L c) L F∧L≤c∧Below w.heap.size w w':=by
 subst hE
 exact h.mono fun e w' h=>sP h
def Way (w:World)(wb:Nat)(n:Nat)(F:Nat→Int)(B:Nat)(w':World):Prop:=∃X c,Ce w' wb [.slice X n c,()]∧OB w' B (.slice X n c) n F∧n≤c∧Ch [wb] w w'
theorem sx {w w1:World}{wb n c:Nat}{X:Option Addr}{F:Nat→Int}{l:List Value}(hC:Ce w wb l)(hl:l.length=2)(hb:Below w.heap.size w w1)(hO:OB w1 w.heap.size (.slice X n c) n F)(hc:n≤c):Way w wb n F w.heap.size ((w1.setCell ⟨wb,0,none⟩ (.slice X n c)).setCell ⟨wb,1,none⟩ (.int .i64 0)):=by
 obtain ⟨x,y,rfl⟩:∃x y,l =[x,y]:=by
  match l,hl with
  | [x,y],_=>exact⟨x,y,rfl⟩
 have jS:=hC.below hb
 exact⟨X,c,(jS.set 0 _ (by simp)).set 1 _ (by simp),hO.grown (gs 1 _ (kW w1 ⟨wb,0,none⟩ _)) (hO.ne hC.1),hc,((Ch.of_below (S:=[wb]) hb).set1 (.inl (by simp))).set1 (.inl (by simp))⟩
theorem qXP{P:Prop}(h:P:=by
 go_wp2_with fail
 refine AG.out.mono ?_
 rintro e w1 ⟨X1,cc,rfl,hO,hcc,hb⟩
 have HE:=hid (sx C.out rfl hb hO hcc)
 have jS:=C.out.below hb
 have d0:=jS.2.1 0 _ rfl
 have d1:=jS.2.1 1 _ rfl
 have e0:=jS.2.2 0
 have e1:=jS.2.2 1
 clear jS hO hb c0 c1 f0 f1 AG C
 go_simp
 go_wp2_with fail
 go_end0
 exact⟨rfl,HE.out⟩
 ):P:=h
theorem sy {w:World}{wb n c:Nat}{X:Option Addr}{g:Nat→Int}(hC:Ce w wb [.slice X n c,()])(hX:By w X n g)(hg:aC g)(hn:n≤1000000)(hc:n≤c)(hE:iL g n=0) :
 Calls Tryz.prog 91 #[.pointer (some ⟨wb,0,none⟩)] w fun x w'=>x =.returned (.tuple #[])∧Way w wb n (aN g) w.heap.size w':=by
 have AG:=hid (iR (Gx X n c g w hX hg hc hn) hE)
 have C:=hid hC
 have c0:=hC.2.1 0 _ rfl
 have c1:=hC.2.1 1 _ rfl
 have f0:=hC.2.2 0
 have f1:=hC.2.2 1
 have hlt:=hC.1
 clear hC hX hE
 go_enter Tryz.func91,Tryz.ntmps91
 exact qXP
theorem wU {w:World}{wb n c:Nat}{X:Option Addr}{g:Nat→Int}(hC:Ce w wb [.slice X n c,()])(hX:By w X n g)(hg:aC g)(hn:n≤1000000)(hc:n≤c)(s:Bool)(ad po:Int)(hE:iZ g n ad po=0) :
 Calls Tryz.prog 96 #[.pointer (some ⟨wb,0,none⟩),s,ad,po] w fun x w'=>x =.returned (.tuple #[])∧Way w wb n (bA g n s ad po) w.heap.size w':=by
 have AG:=hid (iR (Ga X n c g w hX hg hc hn s ad po) hE)
 have C:=hid hC
 have c0:=hC.2.1 0 _ rfl
 have c1:=hC.2.1 1 _ rfl
 have f0:=hC.2.2 0
 have f1:=hC.2.2 1
 have hlt:=hC.1
 clear hC hX hE
 go_enter Tryz.func96,Tryz.ntmps96
 exact qXP
theorem kC {w:World}{wb n c:Nat}{X:Option Addr}{g:Nat→Int}(hC:Ce w wb [.slice X n c,()])(hX:By w X n g)(hg:aC g)(hn:n≤1000000)(hc:n≤c)(a m v:Int)(ra: -9223372036854775808≤a∧a≤9223372036854775807)(hE:fG g n a m v=0) :
 Calls Tryz.prog 93 #[.pointer (some ⟨wb,0,none⟩),a,m,v] w fun x w'=>x =.returned (.tuple #[])∧Way w wb n (cB g n a.toNat m.toNat v) w.heap.size w':=by
 have AG:=hid (iR (yV X n c g w hX hg hc hn a m v ra) hE)
 have C:=hid hC
 have c0:=hC.2.1 0 _ rfl
 have c1:=hC.2.1 1 _ rfl
 have f0:=hC.2.2 0
 have f1:=hC.2.2 1
 have hlt:=hC.1
 clear hC hX hE
 go_enter Tryz.func93,Tryz.ntmps93
 exact qXP
end Go.Proofs.YtalnfkijiehjhaaGreat
namespace Go.Proofs.YtalnfkijiehjhaaGreat
open List renaming setIfInBounds_toArray→zA,set_cons_zero→zB,set_cons_succ→zC
set_option linter.unusedVariables false
set_option linter.unusedSimpArgs false
open Go.RowKit Go.ChangeShapes Go.WideShapes Go.ChangeAt
set_option maxRecDepth 100000
structure iM (w:World) (sb wb:Nat) (p:Pl):Prop where
 pl:au w sb p
 sl:w.cell? ⟨sb,330,none⟩=some (.slice (some ⟨wb,0,none⟩) 127 127)
 wh:IA w wb 127 (cF p)
section
variable {w w':World}{sb wb pb:Nat}{p:Pl}{nr:Nat→Option Int}
theorem iM.below (h:iM w sb wb p)(hb:Below w.heap.size w w'):iM w' sb wb p:=⟨h.pl.below hb,(hb.cell (p:=⟨sb,330,none⟩) h.pl.1).trans h.sl,h.wh.below hb⟩
theorem au.r7 (h:au w sb p):w.cell? ⟨sb,323,none⟩=some (.int .i64 p.r.e)∧w.cell? ⟨sb,324,none⟩=some (.int .u64 p.r.p.a)∧w.cell? ⟨sb,325,none⟩=some (.int .u64 p.r.p.b)∧w.cell? ⟨sb,326,none⟩=some (.int .u64 p.r.c.a)∧w.cell? ⟨sb,327,none⟩=some (.int .u64 p.r.c.b)∧w.cell? ⟨sb,328,none⟩=some (.int .u64 p.r.n.a)∧w.cell? ⟨sb,329,none⟩=some (.int .u64 p.r.n.b):=
 ⟨h.cr 0 (by omega),h.cr 1 (by omega),h.cr 2 (by omega),h.cr 3 (by omega),h.cr 4 (by omega),h.cr 5 (by omega),h.cr 6 (by omega)⟩
theorem au.s5 (h:au w sb p)(i:Nat)(hi:i<64):w.cell? ⟨sb,3+i*5,none⟩=some (.int .i64 (p.s i).st)∧w.cell? ⟨sb,3+i*5+1,none⟩=some (.int .i64 (p.s i).ad)∧w.cell? ⟨sb,3+i*5+2,none⟩=some (.int .i64 (p.s i).po)∧w.cell? ⟨sb,3+i*5+3,none⟩=some (.int .i64 (p.s i).we)∧w.cell? ⟨sb,3+i*5+4,none⟩=some (.int .i64 (p.s i).si):=
 ⟨h.cs i 0 hi (by omega),h.cs i 1 hi (by omega),h.cs i 2 hi (by omega),h.cs i 3 hi (by omega),h.cs i 4 hi (by omega)⟩
def rO (nr:Nat→Option Int)(j:Nat):Value:=if j%2=0 then .int .u32 ((nr (j/2)).getD 0) else .bool (nr (j/2)).isSome
def dw (sb:Nat)(nr:Nat→Option Int)(j:Nat):Value:=if j=0 then .pointer (some ⟨sb,0,none⟩) else if j=1 then .bool true else rO nr (j-2)
theorem sT (h:Fb w pb 130 (dw sb nr))(i:Nat)(hi:i<64):w.cell? ⟨pb,2+i*2,none⟩=some (.int .u32 ((nr i).getD 0))∧w.cell? ⟨pb,2+i*2+1,none⟩=some (.bool (nr i).isSome):=by
 have h1:=h.2.1 (2+i*2) (by omega)
 have h2:=h.2.1 (2+i*2+1) (by omega)
 unfold dw rO at h1 h2
 rw[if_neg (by omega),if_neg (by omega),if_pos (by omega),show (2+i*2-2)/2=i by omega]at h1
 rw[if_neg (by omega),if_neg (by omega),if_neg (by omega),show (2+i*2+1-2)/2=i by omega]at h2
 exact⟨h1,h2⟩
end
theorem rp (p:Pl)(sb:Nat)(a q:Int)(w:World)(h1:w.cell? ⟨sb,1,none⟩=some (.int .i64 p.a))(h2:w.cell? ⟨sb,2,none⟩=some (.int .i64 p.p))(hlt:sb<w.heap.size) :
 Calls Tryz.prog 90 #[.pointer (some ⟨sb,0,none⟩),a,q] w fun e w'=>e =.returned (ff (dV p a q))∧Below w.heap.size w w':=by
 unfold ff dV
 have S0:Hid (HS [] w w []):=hid HS.start
 go_enter Tryz.func90,Tryz.ntmps90
 go_upto_region 1 with ((with_reducible refine ah ?_);refine ay rfl (bw rfl (Ei _) (by simp) S0.out ?_);intro U w_ hZ _;have S1:=hid hZ;clear hZ)
 refine wp_region_held_drew (S:=fun (w':World)=>∃l,HS [] w w' [aw U l]) (by kernel_rfl) ?_ (fun hHeld=>?_)
 ·exact⟨_,S1.out.drew⟩
 have F0:=S1.out.drew
 clear S0 S1
 refine ae 0 hHeld ?_
 refine ae 1 hHeld ?_
 refine ae 2 hHeld ?_
 refine ae 3 hHeld ?_
 refine ae 4 hHeld ?_
 refine ae 5 hHeld ?_
 refine ae 6 hHeld ?_ (hy:=by intro w hSw;(try dsimp only at hSw);obtain ⟨f,hS⟩:=hSw;have x1:=(hS.bl.cell (p:=⟨sb,1,none⟩) hlt).trans h1;have x2:=(hS.bl.cell (p:=⟨sb,2,none⟩) hlt).trans h2;go_simp;(try with_reducible rfl))
 refine ae 7 hHeld ?_
 refine ae 8 hHeld ?_
 refine ae 9 hHeld ?_
 refine ae 10 hHeld ?_
 refine ae 11 hHeld ?_ (hy:=by intro w hSw;(try dsimp only at hSw);obtain ⟨f,hS⟩:=hSw;have x1:=(hS.bl.cell (p:=⟨sb,1,none⟩) hlt).trans h1;have x2:=(hS.bl.cell (p:=⟨sb,2,none⟩) hlt).trans h2;go_simp;(try with_reducible rfl))
 refine ae 12 hHeld ?_
 refine only 13 rfl (by kernel_rfl) rfl (fun K hK=>?_)
 refine aB (A:=[]) [a,q,p.a,p.p] rfl rfl rfl F0 rfl AX rfl (fun w9 hZ=>?_)
 refine hK.out _ _ ⟨_,hZ⟩ (fun _=>?_)
 clear hK
 try simp only[Act.put,zA,zB,zC]
 have S9:=hid hZ
 refine wpAnyH_done (by kernel_rfl) ?_ _
 (first |refine aJ ?_ |refine aR ?_);apply_assumption;refine wp_ret ?_;(repeat refine aI ?_);(show bodyPost _ _ _ _ _ _);exact bodyPost_ret (v:=.agg ([a,q,p.a,p.p]:List Value).toArray) (aS Tryz.results90 _ rfl (S9.out.ce 0 rfl) Tryz.underlying141 rfl AX) rfl ⟨rfl,S9.out.bl⟩
theorem Js (p:Pl)(pb sb:Nat)(nr:Nat→Option Int)(s:Nat)(hs:s<64)(e:Int)(he:eH e)(hnr:iP nr)(w:World)(hF:Fb w pb 130 (dw sb nr)) :
 Calls Tryz.prog 98 #[.pointer (some ⟨pb,0,none⟩),(s:Int),.int .u32 e] w fun x w'=>x =.returned (.int .u32 (ei nr s e))∧Below w.heap.size w w':=by
 have c0:=(sT hF s hs).1
 have c1:=(sT hF s hs).2
 have i0:(0:Int)≤s:=by omega
 have i1:(s:Int)<64:=by omega
 clear hF
 cases hn:nr s with
 |none=>
  have HT:Hid (ei nr s e=0):=hid (by unfold ei;rw[hn])
  rw[hn]at c0 c1
  dsimp only[Option.getD,Option.isSome]at c0 c1
  go_enter Tryz.func98,Tryz.ntmps98
  go_wp2_with fail
  refine(pa 0 false _).mono ?_
  rintro x w1 ⟨rfl,hb⟩
  have HB:=hid hb
  clear hb c0 c1
  go_simp
  go_wp2_with fail
  go_ret
  exact⟨by rw[HT.out];rfl,HB.out⟩
 |some v=>
  have HT:Hid (ei nr s e=od e v):=hid (by unfold ei;rw[hn])
  have hv:=hnr s v hn
  rw[hn]at c0 c1
  dsimp only[Option.getD,Option.isSome]at c0 c1
  go_enter Tryz.func98,Tryz.ntmps98
  go_wp2_with fail
  refine(pa v true _).mono ?_
  rintro x w1 ⟨rfl,hb⟩
  have HB:=hid hb
  clear hb c0 c1
  go_simp
  go_wp2_with fail
  refine(Ef e v he hv _).mono ?_
  rintro x w2 ⟨rfl,hb⟩
  have HB2:=hid (then_ HB.out hb)
  clear hb
  go_simp
  go_wp2_with fail
  go_ret
  exact⟨by rw[HT.out];rfl,HB2.out⟩
theorem qYZ{P:Prop}(h:P:=by
 go_enter Tryz.func122,Tryz.ntmps122
 go_wp2_with fail
 go_quiet (fail)
 go_wp2_with fail
 go_ret2
 exact⟨by rw[HT.out];rfl,below_drewN ((Below.refl _ _).alloc (Nat.le_refl _) _) _⟩
 ):P:=h
theorem wL (x:Pk)(AO:Option Addr)(cO:Nat)(AD:Option Addr)(cD:Nat)(w:World)(hB:By w AO x.no x.go)(hg:aC x.go)(hn:x.no≤1000000)(hc:x.no≤cO) :
 Calls Tryz.prog 122 #[.agg #[x.kind,x.life,x.piece,x.src,x.dst,x.fp,x.tp,x.flags,x.label,x.bare,x.code,.slice AO x.no cO,.slice AD x.nd cD]] w fun e w'=>e =.returned (.tuple #[((gE x).getD 0),(gE x).isSome])∧Below w.heap.size w w':=by
 cases k2:(x.kind==2)
 ·cases k1:(x.flags==1)
  ·have ST:=hid (fun (w':World) (hb:Below w.heap.size w w')=>(show Calls Tryz.prog 97 #[.slice AO x.no cO] w' fun e w2=>e =.returned (.tuple #[(bV x).1,.int .u32 (bV x).2.1,.int .u32 (bV x).2.2.1,(bV x).2.2.2])∧Below w'.heap.size w' w2 from oM AO x.no cO x.go w' (Sl.below hB hb (Nat.le_refl _)) hg hn hc))
   have hu:=lK hg
   have HT:Hid ((gE x).getD 0=(bV x).2.2.1%1048576∧(gE x).isSome=(bV x).2.2.2):=hid (by
    unfold gE
    rw[if_neg (by simpa using k2),if_neg (by simpa using k1)]
    cases hs:(bV x).2.2.2
    ·have h0:(bV x).2.2.1=0:=by
      unfold bV stamp rB at hs ⊢
      split
      ·rfl
      split
      ·rfl
      rename_i h1 _ _ h2;rw[h1]at hs;simp only[h2]at hs;cases hs
     rw[h0];exact⟨rfl,rfl⟩
    exact⟨rfl,rfl⟩)
   clear hB
   generalize bV x=z at ST hu HT
   obtain ⟨z1,z2,z3,z4⟩:=z
   dsimp only at ST hu HT
   obtain ⟨_,hu3⟩:=hu
   have GT:=hid (fun w=>xw z3 hu3 w)
   clear hu3
   go_enter Tryz.func122,Tryz.ntmps122
   go_wp2_with fail
   refine(ST.out _ ((Below.refl _ _).alloc (Nat.le_refl _) _)).mono ?_
   rintro e w1 ⟨rfl,hb⟩
   have HB:=hid (then_ ((Below.refl _ _).alloc (Nat.le_refl _) _) hb)
   clear hb ST
   go_simp
   go_wp2_with fail
   refine(GT.out _).mono ?_
   rintro e w2 ⟨rfl,hb⟩
   have HB2:=hid (then_ HB.out hb)
   clear hb
   go_simp
   go_wp2_with fail
   go_ret2
   exact⟨by rw[HT.out.1,HT.out.2];rfl,HB2.out⟩
  have HT:Hid (gE x=none):=hid (by unfold gE;rw[if_neg (by simpa using k2),if_pos (by simpa using k1)])
  go_enter Tryz.func122,Tryz.ntmps122
  go_wp2_with fail
  go_ret2
  exact⟨by rw[HT.out];rfl,(Below.refl _ _).alloc (Nat.le_refl _) _⟩
 cases k0:(x.label==0)
 ·have HT:Hid (gE x=some x.label):=hid (by unfold gE;rw[if_pos (by simpa using k2),if_neg (by simpa using k0)])
  have k3:(x.label != 0)=true:=by simpa using k0
  exact qYZ
 have HT:Hid (gE x=none):=hid (by unfold gE;rw[if_pos (by simpa using k2),if_pos (by simpa using k0)])
 have k4:x.label=0:=by simpa using k0
 have k3:(x.label != 0)=false:=by simpa using k0
 exact qYZ
end Go.Proofs.YtalnfkijiehjhaaGreat
namespace Go.Proofs.YtalnfkijiehjhaaGreat
open List renaming setIfInBounds_toArray→zA,set_cons_zero→zB,set_cons_succ→zC
set_option linter.unusedVariables false
set_option linter.unusedSimpArgs false
open Go.RowKit Go.ChangeShapes Go.WideShapes Go.ChangeAt
set_option maxRecDepth 100000
def rq (w:World)(pb sb:Nat)(t:To)(e:Ending)(w':World):Prop:=∃X c,e =.returned (eN t.d t.s t.c (.slice X t.n c))∧OB w' w.heap.size (.slice X t.n c) t.n t.f∧t.n≤c∧Fb w' pb 130 (dw sb t.nr)∧Ch [pb] w w'
theorem HS.way {S:List Nat}{W w w':World}{A R:List Th}{wb n B:Nat}{l:List Value}{F:Nat→Int}(h:HS S W w (A++aw wb l::R))(hw:Way w wb n F B w')(hB:B=w.heap.size):∃X c,HS S W w' (bU W.heap.size 5 1 (.slice X n c) n (fun j=>.int .u8 (F j))::(A++aw wb [.slice X n c,()]::R))∧n≤c:=by
 subst hB
 obtain ⟨X,c,hC,hO,hc,hch⟩:=hw
 refine⟨X,c,?_,hc⟩
 have h1:=h.upd (aw wb [.slice X n c,()]) rfl hch hC
 have IP:Ow w' W.heap.size 5 1 (.slice X n c) n (fun j=>.int .u8 (F j)):=OB.base hO h.jf
 have hlt:∀b,b∈(A++aw wb l::R).flatMap Th.bs→b<w.heap.size:=fun b hb=>by
  obtain ⟨t,ht,htb⟩:=List.mem_flatMap.1 hb
  exact t.lt w (h.1 t ht) b htb
 have hbs:(A++aw wb [.slice X n c,()]::R).flatMap Th.bs=(A++aw wb l::R).flatMap Th.bs:=by simp[aw]
 have hge:∀b,b∈(bU W.heap.size 5 1 (.slice X n c) n (fun j=>.int .u8 (F j))).bs→w.heap.size≤b:=fun b hb=>(World.ownsRow.lt hO b (by simpa [bU]using hb)).1
 refine⟨fun t ht=>?_,h1.2.1,?_,fun b hb=>?_⟩
 ·rcases List.mem_cons.1 ht with rfl |ht
  ·exact IP
  exact h1.1 t ht
 ·rw[List.flatMap_cons,List.nodup_append]
  refine⟨by unfold bU;dsimp only;cases (Value.slice X n c).ownBlock <;> simp,h1.2.2.1,fun a ha b hb e=>?_⟩
  subst e
  rw[hbs]at hb
  have:=hlt a hb
  have:=hge a ha
  omega
 rw[List.flatMap_cons]at hb
 rcases List.mem_append.1 hb with hb |hb
 ·exact .inr (Nat.le_trans h.jf (hge b hb))
 exact h1.2.2.2 b hb
theorem qZF{P:Prop}(h:P:=by
 rw[ht]at qB
 dsimp only[Option.getD,Option.isSome]
 go_wp2_with fail
 refine(qB.out _).mono ?_
 rintro e w5 ⟨rfl,hb⟩
 have HB:=hid (then_ S4.out.bl hb)
 clear hb S4 q0 q1 q2 q3 q4
 go_simp
 go_wp2_with fail
 go_ret2
 exact⟨by rw[HT.out];rfl,HB.out⟩
 ):P:=h
theorem vH (p:Pl)(sb wb:Nat)(x:Pk)(hkd:x.kind=1∨x.kind=2)(hp:Pt p)(AO:Option Addr)(cO:Nat)(AD:Option Addr)(cD:Nat)(w:World)(hS:iM w sb wb p)(hB:By w AO x.no x.go)(hg:aC x.go)(hn:x.no≤1000000)(hc:x.no≤cO)(hf:(dV p x.src x.fp).I) :
 Calls Tryz.prog 95 #[.pointer (some ⟨sb,0,none⟩),.agg #[x.kind,x.life,x.piece,x.src,x.dst,x.fp,x.tp,x.flags,x.label,x.bare,x.code,.slice AO x.no cO,.slice AD x.nd cD],.agg #[x.src,x.fp,p.a,p.p]] w fun e w'=>e =.returned (.tuple #[((iX p x).getD 0),(iX p x).isSome])∧Below w.heap.size w w':=by
 have CR:=hid (fun (w':World) (hb:Below w.heap.size w w')=>wL x AO cO AD cD w' (Sl.below hB hb (Nat.le_refl _)) hg hn hc)
 have RD:=hid (fun (c:Int) (w':World)=>(show Calls Tryz.prog 123 #[.agg #[p.r.e,.int .u64 p.r.p.a,.int .u64 p.r.p.b,.int .u64 p.r.c.a,.int .u64 p.r.c.b,.int .u64 p.r.n.a,.int .u64 p.r.n.b],x.kind,.agg #[x.src,x.fp,p.a,p.p],c] w' fun e w2=>e =.returned (mX (fm (oI x.kind) p.r x.kind (dV p x.src x.fp) c))∧Below w'.heap.size w' w2 from by
  rcases hkd with h |h
  ·rw[h];exact Kq p.r (dV p x.src x.fp) c hf hp.2.1 w'
  rw[h];exact Kp p.r (dV p x.src x.fp) c hf hp.2.1 w'))
 have SA:=hid hS
 have S0:Hid (HS [] w w []):=hid HS.start
 clear hS hB
 cases hcar:gE x with
 |none=>
  have HT:Hid (iX p x=none):=hid (by unfold iX;rw[hcar];rfl)
  go_enter Tryz.func95,Tryz.ntmps95
  go_wp2_with fail
  refine(CR.out _ (((Below.refl _ _).alloc (Nat.le_refl _) _).alloc (by simp) _)).mono ?_
  rintro e w1 ⟨rfl,hb⟩
  have HB:=hid (then_ (((Below.refl _ _).alloc (Nat.le_refl _) _).alloc (by simp) _) hb)
  clear hb CR
  rw[hcar]
  dsimp only[Option.getD,Option.isSome]
  go_simp
  go_wp2_with fail
  go_ret2
  exact⟨by rw[HT.out];rfl,HB.out⟩
 |some c=>
  obtain ⟨o,ho⟩:∃o,o=fm (oI x.kind) p.r x.kind (dV p x.src x.fp) c:=⟨_,rfl⟩
  have HT0:Hid (iX p x=o.bind fun s=>if dO (p.s s.toNat).st=true then some s else none):=hid (by unfold iX;rw[hcar,ho];rfl)
  have ho2:=hid (fun s (h:o=some s)=>sK _ _ _ _ _ _ (by rw[←ho];exact h))
  have JI:=hid (fun w'=>RD.out c w')
  rw[←ho]at JI
  unfold mX at JI
  clear ho RD
  go_enter Tryz.func95,Tryz.ntmps95
  go_upto_region 1 with (first | ((with_reducible refine ah ?_);refine ay rfl (fi (l:=[x.kind,x.life,x.piece,x.src,x.dst,x.fp,x.tp,x.flags,x.label,x.bare,x.code,.slice AO x.no cO,.slice AD x.nd cD]) rfl rfl (by simp) S0.out ?_);intro E w_ hZ _;have S1:=hid hZ;clear hZ) | ((with_reducible refine ah ?_);refine ay rfl (fi (l:=[x.src,x.fp,p.a,p.p]) rfl rfl (by simp) S1.out ?_);intro F w_ hZ _;have S2:=hid hZ;clear hZ))
  obtain ⟨y0,y1,y2,y3,y4,y5,y6,y7,y8,y9,al,ak,aj⟩:=(S2.out.ce 1 rfl).c13
  go_wp2_with fail
  refine(CR.out _ S2.out.bl).mono ?_
  rintro e w1 ⟨rfl,hb⟩
  have S3:=hid (S2.out.below hb)
  clear hb CR S0 S1 S2 y0 y1 y2 y3 y4 y5 y6 y7 y8 y9 al ak aj
  rw[hcar]
  dsimp only[Option.getD,Option.isSome]
  go_simp
  go_upto_region 4 with (fail)
  refine wp_region_held_drew (S:=fun (w':World)=>HS [] w w' [aw F [x.src,x.fp,p.a,p.p],aw E [x.kind,x.life,x.piece,x.src,x.dst,x.fp,x.tp,x.flags,x.label,x.bare,x.code,.slice AO x.no cO,.slice AD x.nd cD]]) (by kernel_rfl) ?_ (fun hHeld=>?_)
  ·exact S3.out.drew
  refine ae 0 hHeld ?_
  refine ae 1 hHeld ?_
  refine ae 2 hHeld ?_
  refine ae 3 hHeld ?_
  refine ae 4 hHeld ?_ (hy:=by intro w hSw;(try dsimp only at hSw);obtain ⟨r0,r1,r2,r3,r4,r5,r6⟩:=(SA.out.below hSw.bl).pl.r7;go_simp;(try with_reducible rfl))
  refine ae 5 hHeld ?_
  refine ae 6 hHeld ?_ (hy:=by intro w hSw;(try dsimp only at hSw);obtain ⟨y0,y1,y2,y3,y4,y5,y6,y7,y8,y9,al,ak,aj⟩:=(hSw.ce 1 rfl).c13;go_simp;(try with_reducible rfl))
  refine ae 7 hHeld ?_ (hy:=by intro w hSw;(try dsimp only at hSw);obtain ⟨f0,f1,f2,f3⟩:=(hSw.ce 0 rfl).c4;go_simp;(try with_reducible rfl))
  refine ae 8 hHeld ?_
  refine only 9 rfl (by kernel_rfl) rfl (fun K hK=>?_)
  go_simp
  refine(JI.out _).mono ?_
  rintro e w4 ⟨rfl,hb⟩
  try go_wp2_with fail
  refine hK.out _ _ (hHeld.below hb) (fun h4=>?_)
  clear hK hb
  try simp only[Act.put,zA,zB,zC]
  refine ae 10 h4 ?_
  refine ae 11 h4 ?_
  refine ae 12 h4 ?_
  refine ae 13 h4 ?_
  refine ae 14 h4 ?_
  have S4:=hid h4
  clear h4 hHeld S3
  refine wpAnyH_done (by kernel_rfl) ?_ _
  cases o with
  |none=>
   have HT:Hid (iX p x=none):=hid HT0.out
   dsimp only[Option.getD,Option.isSome]
   go_wp2_with fail
   go_ret2
   exact⟨by rw[HT.out];rfl,S4.out.bl⟩
  |some s=>
   obtain ⟨hs0,hs1⟩:=ho2.out s rfl
   obtain ⟨k,rfl⟩:∃k:Nat,s=(k:Int):=⟨s.toNat,by omega⟩
   have hk:k<64:=by omega
   have i0:(0:Int)≤k:=by omega
   have i1:(k:Int)<64:=by omega
   have hst:=SA.out.below S4.out.bl
   obtain ⟨q0,q1,q2,q3,q4⟩:=hst.pl.s5 k hk
   clear hst ho2
   have qB:=hid (fun (w':World)=>(show Calls Tryz.prog 124 #[.agg #[(p.s k).st,(p.s k).ad,(p.s k).po,(p.s k).we,(p.s k).si]] w' fun e w2=>e =.returned (.bool (dO (p.s k).st))∧Below w'.heap.size w' w2 from zq (p.s k) w'))
   cases ht:dO (p.s k).st
   ·have HT:Hid (iX p x=none):=hid (by rw[HT0.out];show (if dO (p.s k).st=true then some (k:Int) else none)=none;rw[ht];rfl)
    exact qZF
   have HT:Hid (iX p x=some (k:Int)):=hid (by rw[HT0.out];show (if dO (p.s k).st=true then some (k:Int) else none)=_;rw[ht];rfl)
   exact qZF
theorem jh {w:World}{wb n c:Nat}{X:Option Addr}(hC:Ce w wb [.slice X n c,()])(s:Int)(b:Bool) :
 Calls Tryz.prog 94 #[.pointer (some ⟨wb,0,none⟩),.agg #[(),s,b,.slice none 0 0]] w fun x w'=>x =.returned (eN 0 s b (.slice X n c))∧Below w.heap.size w w':=by
 unfold eN
 have HC:=hid hC
 have S0:Hid (HS [] w w []):=hid HS.start
 clear hC
 go_enter Tryz.func94,Tryz.ntmps94
 go_upto_region 1 with (first | ((with_reducible refine ah ?_);refine ay rfl (fi (l:=[(),s,b,.slice none 0 0]) rfl rfl (by simp) S0.out ?_);intro T w_ hZ _;have S1:=hid hZ;clear hZ) | ((with_reducible refine ah ?_);refine ay rfl (bw rfl (oC _) (by simp) S1.out ?_);intro U w_ hZ _;have S2:=hid hZ;clear hZ))
 obtain ⟨c0,c1⟩:=(HC.out.below S2.out.bl).c2
 obtain ⟨f0,f1,f2,f3⟩:=(S2.out.ce 1 rfl).c4
 have g3:=(S2.out.ce 1 rfl).2.2 3
 go_upto_region 4 with (fail)
 have S3:=hid (HS.lg (A:=[aw U [(),(),false,.slice none 0 0]]) S2.out 3 (.slice X n c) (by simp))
 simp only[zC,zB,List.cons_append,List.nil_append]at S3
 generalize w_.setCell ⟨T,3,none⟩ (.slice X n c)=w3 at *
 clear S2 S1 S0 f0 f1 f2 f3 c0 c1
 obtain ⟨f0,f1,f2,f3⟩:=(S3.out.ce 1 rfl).c4
 go_wp2_with (((with_reducible refine ah ?_);refine ay rfl (aB (A:=[]) [(),s,b,.slice X n c] rfl rfl (rfl) S3.out rfl d9 rfl ?_);intro w_ hZ;have S9:=hid hZ;clear hZ;(first |refine aJ ?_ |refine aR ?_);apply_assumption;refine wp_ret ?_;(repeat refine aI ?_);(show bodyPost _ _ _ _ _ _);exact bodyPost_ret (v:=.agg ([(),s,b,.slice X n c]:List Value).toArray) (aS Tryz.results94 _ rfl (S9.out.ce 0 rfl) Tryz.underlying45 rfl d9) rfl ⟨rfl,S9.out.bl⟩))
end Go.Proofs.YtalnfkijiehjhaaGreat
