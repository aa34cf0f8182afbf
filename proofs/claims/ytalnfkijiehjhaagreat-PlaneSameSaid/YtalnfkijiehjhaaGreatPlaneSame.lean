import Derived.Test.YtalnfkijiehjhaaGreatSom
import Derived.Test.YtalnfkijiehjhaaGreatPkn
import Derived.Deep.LoopGhost
import Derived.Deep.CutRange
import Derived.Deep.CutBlock
set_option linter.unusedVariables false
set_option linter.unusedSimpArgs false
set_option maxRecDepth 100000
open Go.RowKit Go.ChangeShapes Go.WideShapes Go.ChangeAt
namespace Go.Proofs.YtalnfkijiehjhaaGreat
theorem mR.Ct {E:TypeId}{w:World}{B:Nat}{v:Value}{l:List (Int×Int×Int)}(h:mR E w B v l){k:Nat}(hk:k<B):v.ownBlock≠some k:=by
 intro e
 have:=(World.ownsRow.lt h k e).1
 omega
theorem Eo (x0 x1 x2 x3:Int)(b off n c:Nat)(w:World)(h0:0≤x0∧x0≤255)(h1:0≤x1∧x1≤255)(h2:0≤x2∧x2≤255)(h3:0≤x3∧x3≤255)(hn:4≤n)
 (c0:w.cell? ⟨b,off,none⟩=some (.int .u8 x0)) (c1:w.cell? ⟨b,off+1,none⟩=some (.int .u8 x1)) (c2:w.cell? ⟨b,off+2,none⟩=some (.int .u8 x2)) (c3:w.cell? ⟨b,off+3,none⟩=some (.int .u8 x3)) :
 Calls Tryz.prog 58 #[.slice (some ⟨b,off,none⟩) n c] w fun e w'=>e =.returned (.int .u32 (x0*16777216+x1*65536+x2*256+x3))∧∃k,w'=w.drewN k:=by
 have q1:=Gn x0 x1 h0 h1
 have q2:=Gm x0 x1 x2 h0 h1 h2
 have q3:=Gl x0 x1 x2 x3 h0 h1 h2 h3
 obtain ⟨Nz,Ny⟩:=h0
 obtain ⟨h1a,h1b⟩:=h1
 obtain ⟨Ho,Hn⟩:=h2
 obtain ⟨Nx,Nw⟩:=h3
 have i0:(0:Int)<n:=by omega
 have i1:(1:Int)<n:=by omega
 have i2:(2:Int)<n:=by omega
 have i3:(3:Int)<n:=by omega
 go_enter Tryz.func58,Tryz.ntmps58
 go_wp2
 go_quiet (fail)
 go_wp2
 go_ret
 exact⟨rfl,_,rfl⟩
theorem yK (A:Option Addr)(n c:Nat)(g:Nat→Int)(w:World)(h:By w A n g)(hg:az g)(hn:4≤n) :
 Calls Tryz.prog 58 #[.slice A n c] w fun e w'=>e =.returned (.int .u32 (fJ g 0))∧∃k,w'=w.drewN k:=by
 obtain ⟨b,off,rfl,_,hc⟩:=h (by omega)
 exact Eo _ _ _ _ b off n c w (hg 0) (hg 1) (hg 2) (hg 3) hn (hc 0 (by omega)) (hc 1 (by omega)) (hc 2 (by omega)) (hc 3 (by omega))
theorem tQ (A:Option Addr)(n c:Nat)(g:Nat→Int)(i:Nat)(w:World)(h:By w A n (fun j=>g (i+j)))(hg:az g)(hn:4≤n) :
 Calls Tryz.prog 58 #[.slice A n c] w fun e w'=>e =.returned (.int .u32 (fJ g i))∧∃k,w'=w.drewN k:=
 yK A n c (fun j=>g (i+j)) w h (fun j=>hg _) hn
def cK (g:Nat→Int)(n:Nat):Bool:=ax g n==0&&(bz g || norm (tot (bq g n) (bo g n))==65535)
theorem pW {g:Nat→Int}{a:Nat}{v:Int}(hv:0≤v)(hv':v≤4294967295):num (ah g a 4 v) a 4=v:=
 rP (by rw[iE (by omega) (by omega),show a+4-1-a=3 from by omega]) (by rw[iE (by omega) (by omega),show a+4-1-(a+1)=2 from by omega])
  (by rw[iE (by omega) (by omega),show a+4-1-(a+2)=1 from by omega]) (by rw[iE (by omega) (by omega),show a+4-1-(a+3)=0 from by omega]) hv hv'
theorem o6 {g:Nat→Int}{n:Nat}(hg:az g)(v:Int)(hv:0≤v)(hv':v≤65535)(hn:24≤n):tot (bq (ah g (aI (g 0)) 2 v) n) (bo (ah g (aI (g 0)) 2 v) n)=tot (bq g n) (bo g n)+v-num g (aI (g 0)) 2:=by
 have hA:=(eH (g 0)).choose_spec
 have e0:ah g (aI (g 0)) 2 v 0=g 0:=aH (by omega)
 have eE:eD (ah g (aI (g 0)) 2 v) n=eD g n:=by funext j;unfold eD;rw[e0]
 by_cases k:g 0=3
 ·have hs:aI (g 0)=18:=by unfold aI;rw[if_pos k]
  have h1:bq (ah g (aI (g 0)) 2 v) n=ah (bq g n) 6 2 v:=by
   funext j
   unfold bq
   rw[e0,if_pos k,eE,hs,if_pos k]
   unfold ah
   dsimp only
   by_cases c1:j<4
   ·rw[if_pos c1,if_neg (by omega),if_pos c1]
   rw[if_neg c1,if_neg c1]
   by_cases c2:6≤j∧j<6+2
   ·rw[if_pos (by omega),if_pos c2,show 18+2-1-(12+j)=6+2-1-j from by omega]
   rw[if_neg (by omega),if_neg c2]
  have h2:bo (ah g (aI (g 0)) 2 v) n=bo g n:=by unfold bo;rw[e0]
  rw[h1,h2,lh (bq g n) 3 v hv hv' _ (by unfold bo;rw[if_pos k];omega),hs,eU,eU]
  unfold bq
  rw[if_pos k]
  simp
 have hs:aI (g 0)=22:=by unfold aI;rw[if_neg k]
 have h1:bq (ah g (aI (g 0)) 2 v) n=ah (bq g n) 18 2 v:=by
  funext j
  unfold bq
  rw[e0,if_neg k,eE,hs,if_neg k]
  unfold ah
  dsimp only
  by_cases c1:j<8
  ·rw[if_pos c1,if_neg (by omega),if_neg (by omega),if_pos c1]
  rw[if_neg c1,if_neg c1]
  by_cases c3:j<12
  ·rw[if_pos c3,if_neg (by omega),if_pos c3]
  rw[if_neg c3,if_neg c3]
  by_cases c2:18≤j∧j<18+2
  ·rw[if_pos (by omega),if_pos c2,show 22+2-1-(4+j)=18+2-1-j from by omega]
  rw[if_neg (by omega),if_neg c2]
 have h2:bo (ah g (aI (g 0)) 2 v) n=bo g n:=by unfold bo;rw[e0]
 rw[h1,h2,lh (bq g n) 9 v hv hv' _ (by unfold bo;rw[if_neg k];omega),hs,eU,eU]
 unfold bq
 rw[if_neg k]
 simp
theorem FN {g:Nat→Int}{n:Nat}(hg:az g)(h0:g 0≠0)(hn:24≤n):tot (bq g n) (bo g n)≠0:=by
 by_cases k:g 0=3
 ·refine oZ (jo hg n) (j:=1) (by unfold bo;rw[if_pos k];omega) ?_
  unfold bq;rw[if_pos k]
  simpa [eD]using h0
 refine oZ (jo hg n) (j:=9) (by unfold bo;rw[if_neg k];omega) ?_
 unfold bq;rw[if_neg k]
 simpa [eD]using h0
theorem nM {g:Nat→Int}{n:Nat}(hg:az g)(h0:g 0≠0)(hn:24≤n):(norm (tot (bq g n) (bo g n))==65535)=true↔tot (bq g n) (bo g n)%65535=0:=by
 have h1:=fC (bq g n) (jo hg n) (bo g n)
 have h2:=FN hg h0 hn
 rw[beq_iff_eq,kU h1]
 exact⟨fun h=>h.2,fun h=>⟨h2,h⟩⟩
theorem qh {g:Nat→Int}{n:Nat}(hg:az g)(hn:24≤n):tot (bq (cm g) n) (bo (cm g) n)%65535=tot (bq g n) (bo g n)%65535:=by
 unfold cm
 by_cases hb:bz g=true
 ·rw[if_pos hb]
  unfold bz at hb
  simp at hb
  have hs:aI (g 0)=22:=by unfold aI;rw[if_neg (by omega)]
  have:=o6 hg (n:=n) 65535 (by omega) (by omega) hn
  rw[hs]at this
  rw[this,hb.2]
  omega
 rw[if_neg hb]
theorem tK {g:Nat→Int}{n:Nat}(k:g 0=3)(hn:16≤n)(hn':n≤1500):tot (bq g n) (bo g n)=tot g n-tot g 16+g 0+((n:Int)-16):=by
 have e1:bo g n=2*2+(n-16):=by unfold bo;rw[if_pos k];omega
 have e2:tot g n=tot g 16+tot (fun j=>g (2*8+j)) (n-16):=by
  have h:=fG g 8 (n-16)
  rw[show 2*8+(n-16)=n from by omega]at h
  exact h
 rw[e1,fG,e2]
 have e3:tot (fun j=>bq g n (2*2+j)) (n-16)=tot (fun j=>g (2*8+j)) (n-16):=eG _ _ _ (fun j _=>by
  unfold bq;rw[if_pos k,if_neg (by omega),show 12+(2*2+j)=2*8+j from by omega])
 rw[e3]
 have e4:tot (bq g n) (2*2)=g 0+((n:Int)-16):=by
  unfold bq
  rw[if_pos k]
  simp[tot,eD,mw,mr]
  omega
 rw[e4]
 omega
theorem o5 {g:Nat→Int}{n:Nat}(k:g 0≠3)(hn:16≤n)(hn':n≤1500):tot (bq g n) (bo g n)=tot g n-tot g 4-(tot g 16-tot g 12)+g 0+((n:Int)-16):=by
 have e1:bo g n=2*6+(n-16):=by unfold bo;rw[if_neg k];omega
 have e2:tot g n=tot g 16+tot (fun j=>g (2*8+j)) (n-16):=by
  have h:=fG g 8 (n-16)
  rw[show 2*8+(n-16)=n from by omega]at h
  exact h
 rw[e1,fG,e2]
 have e3:tot (fun j=>bq g n (2*6+j)) (n-16)=tot (fun j=>g (2*8+j)) (n-16):=eG _ _ _ (fun j _=>by
  unfold bq;rw[if_neg k,if_neg (by omega),if_neg (by omega),show 4+(2*6+j)=2*8+j from by omega])
 rw[e3]
 have e4:tot (bq g n) (2*6)=tot (fun j=>g (2*2+j)) 8+g 0+((n:Int)-16):=by
  unfold bq
  rw[if_neg k,show 2*6=2*4+4 from rfl,fG]
  rw[eG (fun j=>if j<8 then g (4+j) else if j<12 then eD g n (j-8) else g (4+j)) (fun j=>g (2*2+j)) (2*4) (fun j hj=>by rw[if_pos (by omega)])]
  simp[tot,eD,mw,mr]
  omega
 have e5:tot g 12=tot g 4+tot (fun j=>g (2*2+j)) 8:=fG g 2 8
 rw[e4,e5]
 omega
theorem ka {g x:Nat→Int}{L:Nat}(hg:az g)(hx:az x)(h0:x 0=g 0)(hn0:g 0≠0)(hL:24≤L)(hp:ax x L=0)(hp':ax g L=0)(hb:bz x=bz g)
 (hT:bz g=false→tot (bq x L) (bo x L)%65535=tot (bq g L) (bo g L)%65535):cK x L=cK g L:=by
 unfold cK
 rw[hp,hp',hb]
 cases hbb:bz g
 ·have h1:=nM hx (n:=L) (by rw[h0];exact hn0) hL
  have h2:=nM hg (n:=L) hn0 hL
  rw[hT hbb,←h2]at h1
  rw[Bool.eq_iff_iff.2 h1]
 rfl
theorem sP (g:Nat→Int):bz (cm g)=false:=by
 unfold cm
 split
 ·unfold bz;rw[ij (by omega) (by omega)];simp
 rename_i h
 simpa using h
theorem qj {g x:Nat→Int}(h0:x 0=g 0)(h1:x 22=g 22)(h2:x 23=g 23):bz x=bz g:=by unfold bz;rw[h0,eU,eU,h1,h2]
theorem vy {g:Nat→Int}{L a m:Nat}{v:Int}(ha:16≤a)(hs:a+m≤aI (g 0)∨aI (g 0)+2≤a):bz (bN g L a m v)=bz g:=by
 unfold bN
 split
 ·rename_i hb
  have k:g 0=2:=by unfold bz at hb;simp at hb;exact hb.1
  have h22:aI (g 0)=22:=by unfold aI;rw[if_neg (by omega)]
  exact qj (aH (by omega)) (aH (by omega)) (aH (by omega))
 rename_i hb
 rw[sP]
 simpa using hb
theorem xW {g:Nat→Int}{L a m:Nat}{v:Int}(hg:az g)(hL:24≤L)(hL':L≤1500)(ha:16≤a)(hm:a+m≤L)(hm0:0<m)(hs:a+m≤aI (g 0)∨aI (g 0)+2≤a)(hb:bz g=false) :
 tot (bq (bN g L a m v) L) (bo (bN g L a m v) L)%65535=tot (bq g L) (bo g L)%65535:=by
 obtain ⟨σ,hσ,h1,h2⟩:=eH (g 0)
 have hx:=dd hg a m v
 have hx0:ah g a m v 0=g 0:=aH (by omega)
 unfold bN
 rw[if_neg (by rw[hb];decide),qh (b_ _ _ _ hx) hL]
 have hi:a-a%2=2*(a/2):=by omega
 rw[hi]
 have hmain:=lO (F:=fun x=>tot (bq x L) (bo x L)) (s:=aI (g 0)) (L:=L) hg σ hσ (by omega) (fun x=>x 0=g 0) (fun x v h=>by rw[aH (by omega)];exact h)
  (fun x v hB hr hv hv'=>by have:=o6 hB (n:=L) v hv hv' hL;rw[hr]at this;exact this) ((m+a%2+1)/2) (a/2) (ah g a m v) hx hx0 (fun q h3 h4=>by omega)
 rw[hmain]
 have hd:=m6 (g:=g) (x:=ah g a m v) (L:=L) (a:=a/2) (k:=(m+a%2+1)/2) (n:=(L+1)/2) (by omega) (by omega) (fun j hj=>aH (by omega))
 rw[show min (2*((L+1)/2)) L=L from by omega]at hd
 have ex:∀N,N≤16→tot (ah g a m v) N=tot g N:=fun N hN=>eG _ _ _ (fun j hj=>aH (by omega))
 by_cases k:g 0=3
 ·rw[tK (by rw[hx0];exact k) (by omega) hL',tK k (by omega) hL',hx0,ex 16 (by omega)]
  omega
 rw[o5 (by rw[hx0];exact k) (by omega) hL',o5 k (by omega) hL',hx0,ex 16 (by omega),ex 4 (by omega),ex 12 (by omega)]
 omega
theorem mX {g:Nat→Int}{L a m:Nat}{v:Int}(hg:az g)(ha:24≤a)(hm:a+m≤L)(hm0:0<m)(hp:ax g L=0):cK (bN g L a m v) L=cK g L:=by
 obtain ⟨h1,h2,h3,_⟩:=du hp
 have hA:=(eH (g 0)).choose_spec
 exact ka hg (nJ hg _ _ _ _) (k_ (by omega) (by omega) (by omega)) h3 h1 (iV ha hp) hp (vy (by omega) (by omega)) (fun hb=>xW hg h1 h2 (by omega) hm hm0 (by omega) hb)
theorem tL {g x:Nat→Int}{n:Nat}(h0:x 0=g 0)(h4:∀j,4≤j→j<12→x j=g j)(h16:∀j,16≤j→x j=g j):tot (bq x n) (bo x n)=tot (bq g n) (bo g n):=by
 have e1:bo x n=bo g n:=by unfold bo;rw[h0]
 rw[e1]
 refine eG _ _ _ fun j _=>?_
 have e2:eD x n=eD g n:=by funext j;unfold eD;rw[h0]
 unfold bq
 rw[h0,e2]
 by_cases k:g 0=3
 ·rw[if_pos k,if_pos k]
  split
  ·rfl
  exact h16 _ (by omega)
 rw[if_neg k,if_neg k]
 split
 ·exact h4 _ (by omega) (by omega)
 split
 ·rfl
 exact h16 _ (by omega)
theorem sR {g:Nat→Int}{L:Nat}(hg:az g)(h:fW g L=0):cK (aO g) L=cK g L:=by
 obtain ⟨hp,h1⟩:=ry h
 have pf:=du hp
 exact ka hg (jj hg h) (dZ (by omega) (by omega)) pf.2.2.1 pf.1 (kz hg h) hp (qj (dZ (by omega) (by omega)) (dZ (by omega) (by omega)) (dZ (by omega) (by omega)))
  (fun _=>by rw[tL (dZ (by omega) (by omega)) (fun j h1 h2=>dZ (by omega) (by omega)) (fun j h1=>dZ (by omega) (by omega))])
theorem Cx {g:Nat→Int}{L:Nat}(hg:az g)(h:fW g L=0):Pe (aj (aO g) L) { aj g L with life:=g 1-1 }:=by
 obtain ⟨hp,h1⟩:=ry h
 have o:∀j,j≠1→(j<14∨16≤j)→aO g j=g j:=fun j a b=>dZ a b
 have n4:num (aO g) 4 4=num g 4 4:=cg fun j a b=>o j (by omega) (by omega)
 have n8:num (aO g) 8 4=num g 8 4:=cg fun j a b=>o j (by omega) (by omega)
 have n16:num (aO g) 16 2=num g 16 2:=cg fun j a b=>o j (by omega) (by omega)
 have n18:num (aO g) 18 2=num g 18 2:=cg fun j a b=>o j (by omega) (by omega)
 have n20:num (aO g) 20 2=num g 20 2:=cg fun j a b=>o j (by omega) (by omega)
 have n22:num (aO g) 22 2=num g 22 2:=cg fun j a b=>o j (by omega) (by omega)
 have e1:aO g 1=g 1-1:=by unfold aO;rw[aH (by omega)];unfold set1;rw[if_pos rfl]
 unfold aj
 rw[kz hg h,hp,if_pos rfl,if_pos rfl]
 unfold dW
 rw[o 0 (by omega) (by omega),o 12 (by omega) (by omega),o 16 (by omega) (by omega),o 20 (by omega) (by omega),o 21 (by omega) (by omega),n4,n8,n16,n18,n20,n22,e1]
 split
 ·exact⟨rfl,rfl,rfl,rfl,rfl,rfl,rfl,rfl,rfl,rfl,rfl,rfl,fun _ _=>rfl,rfl,fun j _=>o _ (by omega) (by omega)⟩
 split
 ·exact⟨rfl,rfl,rfl,rfl,rfl,rfl,rfl,rfl,rfl,rfl,rfl,rfl,fun _ _=>rfl,rfl,fun j _=>o _ (by omega) (by omega)⟩
 exact⟨rfl,rfl,rfl,rfl,rfl,rfl,rfl,rfl,rfl,rfl,rfl,rfl,fun j _=>o _ (by omega) (by omega),rfl,fun j _=>o _ (by omega) (by omega)⟩
theorem ue {g:Nat→Int}{L:Nat}{s:Bool}{ad po:Int}:bz (bp g L s ad po)=bz g:=by
 have ha:=mx s
 rw[mK]
 split
 ·have o:∀j,(j=0∨j=22∨j=23)→aL 14 L g 2 (aA s) (aE g s ad po) j=g j:=fun j hj=>by rw[dq (by omega),ik (by omega) (by omega)]
  exact qj (o 0 (by omega)) (o 22 (by omega)) (o 23 (by omega))
 rename_i hb
 rw[sP]
 simpa using hb
theorem EL {g:Nat→Int}{L:Nat}{s:Bool}{ad po:Int}(hg:az g)(hL:24≤L)(hL':L≤1500)(h3:g 0≠3)(hb:bz g=false) :
 tot (bq (bp g L s ad po) L) (bo (bp g L s ad po) L)%65535=tot (bq g L) (bo g L)%65535:=by
 have ha:=mx s
 have hs:aI (g 0)=22:=by unfold aI;rw[if_neg h3]
 have hx:=na hg s ad po
 have hx0:aE g s ad po 0=g 0:=ik (by omega) (by omega)
 have hx2:az (aL 14 L g 2 (aA s) (aE g s ad po)):=b_ _ _ _ hx
 have o2:∀j,(j<14∨16≤j)→aL 14 L g 2 (aA s) (aE g s ad po) j=aE g s ad po j:=fun j hj=>dq hj _ _ _
 obtain ⟨q,hq⟩:∃q,aA s=2*q:=⟨aA s/2,by omega⟩
 obtain ⟨r,hr⟩:∃r,pA s=2*r:=⟨pA s/2,by omega⟩
 rw[mK,if_neg (by rw[hb];decide),qh (b_ _ _ _ (b_ _ _ _ hx2)) hL]
 have step:=fun (k a:Nat) (x:Nat→Int) (hB:az x) (h0:x 0=g 0) (hk:∀q',a≤q'→q'<a+k→q'≠11∧2*q'<L)=>
  lO (F:=fun x=>tot (bq x L) (bo x L)) (s:=22) (L:=L) hg 11 rfl (by omega) (fun x=>x 0=g 0) (fun x v h=>by rw[aH (by omega)];exact h)
   (fun x v hB hr hv hv'=>by have:=o6 hB (n:=L) v hv hv' hL;rw[hr,hs]at this;exact this) k a x hB h0 hk
 have y0:aL 14 L g 2 (aA s) (aE g s ad po) 0=g 0:=by rw[o2 0 (by omega),hx0]
 have m1:=step 2 q (aL 14 L g 2 (aA s) (aE g s ad po)) hx2 y0 (fun q' h1 h2=>by omega)
 have z0:aL 22 L g 2 (2*q) (aL 14 L g 2 (aA s) (aE g s ad po)) 0=g 0:=by rw[dq (by omega),y0]
 have m2:=step 1 r (aL 22 L g 2 (2*q) (aL 14 L g 2 (aA s) (aE g s ad po))) (b_ _ _ _ hx2) z0 (fun q' h1 h2=>by omega)
 rw[hr]
 have e0:aL 22 L g 2 (aA s) (aL 14 L g 2 (aA s) (aE g s ad po))=aL 22 L g 2 (2*q) (aL 14 L g 2 (aA s) (aE g s ad po)):=by rw[←hq]
 rw[e0,m2]
 have f1:dS (dP g (aL 14 L g 2 (aA s) (aE g s ad po)) L) q 2=dS (dP g (aE g s ad po) L) q 2:=ly 2 q fun q' h1 h2=>rn (o2 _ (by omega)) (fun _=>o2 _ (by omega)) (by omega)
 have f2:dS (dP g (aL 22 L g 2 (2*q) (aL 14 L g 2 (aA s) (aE g s ad po))) L) r 1=dS (dP g (aE g s ad po) L) r 1:=ly 1 r fun q' h1 h2=>rn (by rw[dq (by omega),o2 _ (by omega)]) (fun _=>by rw[dq (by omega),o2 _ (by omega)]) (by omega)
 have f3:tot (bq (aL 14 L g 2 (aA s) (aE g s ad po)) L) (bo (aL 14 L g 2 (aA s) (aE g s ad po)) L)=tot (bq (aE g s ad po) L) (bo (aE g s ad po) L):=tL (o2 0 (by omega)) (fun j h1 h2=>o2 j (by omega)) (fun j h1=>o2 j (by omega))
 -- what was laid
 have d1:=m6 (g:=g) (x:=ah g (aA s) 4 ad) (L:=L) (a:=q) (k:=2) (n:=(L+1)/2) (by omega) (by omega) (fun j hj=>aH (by omega))
 have d2:=m6 (g:=ah g (aA s) 4 ad) (x:=aE g s ad po) (L:=L) (a:=r) (k:=1) (n:=(L+1)/2) (by omega) (by omega) (fun j hj=>by rw[jd,aH (by omega)])
 rw[show min (2*((L+1)/2)) L=L from by omega]at d1 d2
 have f4:dS (dP g (aE g s ad po) L) q 2=dS (dP g (ah g (aA s) 4 ad) L) q 2:=ly 2 q fun q' h1 h2=>rn (by rw[jd,aH (by omega)]) (fun _=>by rw[jd,aH (by omega)]) (by omega)
 have f5:dS (dP g (aE g s ad po) L) r 1=dS (dP (ah g (aA s) 4 ad) (aE g s ad po) L) r 1:=ly 1 r fun q' h1 h2=>by
  unfold dP
  rw[gG (x:=ah g (aA s) 4 ad) (y:=g) (aH (by omega)) (fun _=>aH (by omega)) (by omega)]
 have t4:tot (aE g s ad po) 4=tot g 4:=eG _ _ _ fun j hj=>ik (by omega) (by omega)
 have t12:tot (aE g s ad po) 16-tot (aE g s ad po) 12=tot g 16-tot g 12:=by
  have u1:=fG (aE g s ad po) 6 4
  have u2:=fG g 6 4
  have u3:tot (fun j=>aE g s ad po (2*6+j)) 4=tot (fun j=>g (2*6+j)) 4:=eG _ _ _ fun j hj=>ik (by omega) (by omega)
  rw[show 2*6+4=16 from rfl,show 2*6=12 from rfl]at u1 u2
  rw[show 2*6=12 from rfl]at u3
  omega
 have g1:=o5 (g:=aE g s ad po) (n:=L) (by rw[hx0];exact h3) (by omega) hL'
 have g2:=o5 (g:=g) (n:=L) h3 (by omega) hL'
 rw[f1,f3]at m1
 rw[f2]
 rw[hx0]at g1
 omega
theorem zj {g:Nat→Int}{L:Nat}{s:Bool}{ad po:Int}(hg:az g)(h:fV g L ad po=0):cK (bp g L s ad po) L=cK g L:=by
 obtain ⟨hp,h3,_,_⟩:=uf h
 have pf:=du hp
 have ha:=mx s
 exact ka hg (pn hg _ _ _ _) (by rw[qW (by omega) (by omega),ik (by omega) (by omega)]) pf.2.2.1 pf.1 (l0 hg h) hp ue (fun hb=>EL hg pf.1 pf.2.1 h3 hb)
theorem zp {x n:Int}(h:cn x n=true):0≤x∧x≤n:=by unfold cn at h;simpa using h
theorem Bo {g:Nat→Int}{L:Nat}{s:Bool}{ad po:Int}(hg:az g)(h:fV g L ad po=0):Pe (aj (bp g L s ad po) L) (if s=true then { aj g L with src:=ad,fp:=po } else { aj g L with dst:=ad,tp:=po }):=by
 obtain ⟨hp,h3,ra,rp⟩:=uf h
 have ha:=zp ra
 have hpo:=zp rp
 have Qv:=mx s
 have o:∀j,(j<14∨16≤j)→(j<22∨24≤j)→bp g L s ad po j=aE g s ad po j:=fun j a b=>qW a b
 have q:∀j,(j<4∨j=12∨j=13∨(20≤j∧j<22)∨24≤j)→bp g L s ad po j=g j:=fun j hj=>by rw[o j (by omega) (by omega),ik (by omega) (by omega)]
 have nm:∀a n,(a+n≤14∨16≤a)→(a+n≤22∨24≤a)→num (bp g L s ad po) a n=num (aE g s ad po) a n:=fun a n h1 h2=>cg fun j a b=>o j (by omega) (by omega)
 have nl:num (bp g L s ad po) 20 2=num g 20 2:=cg fun j a b=>q j (by omega)
 have hbr:=ue (g:=g) (L:=L) (s:=s) (ad:=ad) (po:=po)
 have e0:bp g L s ad po 0=g 0:=q 0 (by omega)
 have hbare:g 0=2→(num (bp g L s ad po) 22 2==0)=(num g 22 2==0):=fun h2=>by
  unfold bz at hbr
  rw[e0,h2]at hbr
  simpa using hbr
 have Me:num (bp g L s ad po) 4 4=(if s=true then ad else num g 4 4)∧num (bp g L s ad po) 8 4=(if s=true then num g 8 4 else ad)∧num (bp g L s ad po) 16 2=(if s=true then po else num g 16 2)∧num (bp g L s ad po) 18 2=(if s=true then num g 18 2 else po):=by
  rw[nm 4 4 (by omega) (by omega),nm 8 4 (by omega) (by omega),nm 16 2 (by omega) (by omega),nm 18 2 (by omega) (by omega)]
  cases s
  ·have e:aE g false ad po=ah (ah g 8 4 ad) 18 2 po:=rfl
   rw[e,fw (by omega),fw (by omega),fw (by omega),pW ha.1 ha.2,fw (by omega),fw (by omega),ij hpo.1 hpo.2]
   exact⟨rfl,rfl,rfl,rfl⟩
  have e:aE g true ad po=ah (ah g 4 4 ad) 16 2 po:=rfl
  rw[e,fw (by omega),pW ha.1 ha.2,fw (by omega),fw (by omega),ij hpo.1 hpo.2,fw (by omega),fw (by omega)]
  exact⟨rfl,rfl,rfl,rfl⟩
 obtain ⟨n4,n8,n16,n18⟩:=Me
 have e:aj (bp g L s ad po) L=dW (bp g L s ad po) L:=by unfold aj;rw[l0 hg h,if_pos rfl]
 have e':aj g L=dW g L:=by unfold aj;rw[hp,if_pos rfl]
 rw[e,e']
 unfold dW
 rw[e0,if_neg h3,if_neg h3,q 1 (by omega),q 12 (by omega),q 20 (by omega),q 21 (by omega),n4,n8,n16,n18,nl]
 by_cases h2:g 0=2
 ·rw[if_pos h2,if_pos h2,hbare h2]
  cases s
  ·exact⟨rfl,rfl,rfl,rfl,rfl,rfl,rfl,rfl,rfl,rfl,rfl,rfl,fun _ _=>rfl,rfl,fun j _=>q _ (by omega)⟩
  exact⟨rfl,rfl,rfl,rfl,rfl,rfl,rfl,rfl,rfl,rfl,rfl,rfl,fun _ _=>rfl,rfl,fun j _=>q _ (by omega)⟩
 rw[if_neg h2,if_neg h2]
 cases s
 ·exact⟨rfl,rfl,rfl,rfl,rfl,rfl,rfl,rfl,rfl,rfl,rfl,rfl,fun j _=>q _ (by omega),rfl,fun j _=>q _ (by omega)⟩
 exact⟨rfl,rfl,rfl,rfl,rfl,rfl,rfl,rfl,rfl,rfl,rfl,rfl,fun j _=>q _ (by omega),rfl,fun j _=>q _ (by omega)⟩
theorem CI {g:Nat→Int}{L a m:Nat}{v:Int}{j:Nat}(h:a≤j)(ha:24≤a):bN g L a m v j=ah g a m v j:=by
 have hA:=(eH (g 0)).choose_spec
 unfold bN
 split
 ·rfl
 have e0:aL (aI (g 0)) L g ((m+a%2+1)/2) (a-a%2) (ah g a m v) 0=g 0:=by rw[dq (by omega),aH (by omega)]
 by_cases k2:g 0=2
 ·rw[gJ (by omega),dq (by omega)]
 rw[mO (by rw[e0];exact k2),dq (by omega)]
theorem Fg {g:Nat→Int}{L:Nat}(hp:ax g L=0)(h:1<g 1):fW g L=0:=by
 unfold fW;rw[if_neg (by rw[hp];simp),if_neg (by omega)]
theorem EK {g:Nat→Int}{L:Nat}{ad po:Int}(hp:ax g L=0)(h3:g 0≠3)(h1:0≤ad∧ad≤4294967295)(h2:0≤po∧po≤65535):fV g L ad po=0:=by
 unfold fV cn
 rw[if_neg (by rw[hp];simp),if_neg h3,if_pos (by simp;omega)]
theorem jP {p q r:Pk}(h:Pe p q)(k:Pe q r):Pe p r:=
 ⟨h.kind.trans k.kind,h.life.trans k.life,h.piece.trans k.piece,h.src.trans k.src,h.dst.trans k.dst,h.fp.trans k.fp,h.tp.trans k.tp,h.flags.trans k.flags,h.label.trans k.label,h.bare.trans k.bare,h.code.trans k.code,h.no.trans k.no,
  fun j hj=>(h.go j hj).trans (k.go j (by rw[←h.no];exact hj)),h.nd.trans k.nd,fun j hj=>(h.gd j hj).trans (k.gd j (by rw[←h.nd];exact hj))⟩
theorem Ge {p q:Pk}(h:Pe p q)(a b:Int):Pe { p with src:=a,fp:=b } { q with src:=a,fp:=b }:=
 ⟨h.kind,h.life,h.piece,rfl,h.dst,rfl,h.tp,h.flags,h.label,h.bare,h.code,h.no,h.go,h.nd,h.gd⟩
theorem Gg {p q:Pk}(h:Pe p q)(a b:Int):Pe { p with dst:=a,tp:=b } { q with dst:=a,tp:=b }:=
 ⟨h.kind,h.life,h.piece,h.src,rfl,h.fp,rfl,h.flags,h.label,h.bare,h.code,h.no,h.go,h.nd,h.gd⟩
def moved (p:Pk)(s:Bool)(a b:Int):Pk:=if s=true then { p with src:=a,fp:=b } else { p with dst:=a,tp:=b }
theorem Bf {p q:Pk}(h:Pe p q)(s:Bool)(a b:Int):Pe (moved p s a b) (moved q s a b):=by
 cases s
 ·exact Gg h a b
 exact Ge h a b
theorem Gw {g:Nat→Int}{L:Nat}{p:Pk}{s:Bool}{ad po:Int}(hg:az g)(hp:Pe (aj g L) p)(h:fV g L ad po=0):Pe (aj (bp g L s ad po) L) (moved p s ad po):=
 jP (Bo hg h) (Bf hp s ad po)
theorem rM {g:Nat→Int}{L:Nat}{p:Pk}(hP:ax g L=0)(h:Pe (aj g L) p):g 0=p.kind:=(fi hP).2.symm.trans h.kind
theorem Ey {g:Nat→Int}{L:Nat}{p:Pk}(hP:ax g L=0)(h:Pe (aj g L) p):g 1=p.life:=(fi hP).1.symm.trans h.life
theorem EC {p:Pl}{nr:Nat→Option Int}{g:Nat→Int}{n s:Nat}{x y:Pk}(h:Pe x y):outT p nr g n x s=outT p nr g n y s:=by
 unfold outT ja
 rw[h.kind,h.dst,h.tp,yA h]
theorem AU {p:Pl}{nr:Nat→Option Int}{g:Nat→Int}{n s:Nat}{x:Pk}(hp:ax g n=0)(pe:Pe (aj g n) x)(h0:x.piece=0)(h1:1<x.life)(hk:x.kind≠3)(hd:¬(x.dst=p.a∧x.tp=p.p))(hf:fD p x.src x.fp=some s):df p true nr g n=outT p nr g n x s:=by
 unfold df
 dsimp only
 rw[if_neg (by simp),hp,if_neg (by simp),pe.piece,if_neg (by simp[h0]),pe.life,if_neg (by omega),pe.dst,pe.kind,pe.tp,if_neg (fun h=>hk h.2),if_neg hd,if_neg hk,pe.src,pe.fp,hf]
 exact EC pe
theorem xX {g:Nat→Int}{L i:Nat}{v:Int}(hp:ax g L=0)(h1:g 0=1)(hi:i+4≤(aj g L).no):Pe (aj (bN g L (24+i) 4 v) L) { aj g L with go:=ah (aj g L).go i 4 v }:=by
 have hs:aI (g 0)=22:=by rw[h1];decide
 have o:∀j,j<24+i∨24+i+4≤j→(j<22∨24≤j)→bN g L (24+i) 4 v j=g j:=fun j a b=>k_ (by omega) (by omega) (by omega)
 have e0:bN g L (24+i) 4 v 0=g 0:=o 0 (by omega) (by omega)
 have q:=iV (v:=v) (m:=4) (show 24≤24+i by omega) hp
 have nm:∀a m,a+m≤22→num (bN g L (24+i) 4 v) a m=num g a m:=fun a m h=>cg fun j a b=>o j (by omega) (by omega)
 unfold aj at hi ⊢
 rw[if_pos hp]at hi
 rw[if_pos q,if_pos hp]
 unfold dW at hi ⊢
 rw[h1,if_neg (by decide),if_neg (by decide)]at hi
 rw[e0,h1,if_neg (by decide),if_neg (by decide),if_neg (by decide),if_neg (by decide),o 1 (by omega) (by omega),o 12 (by omega) (by omega),o 20 (by omega) (by omega),o 21 (by omega) (by omega),nm 4 4 (by omega),nm 8 4 (by omega),nm 16 2 (by omega),nm 18 2 (by omega)]
 dsimp only at hi
 refine⟨rfl,rfl,rfl,rfl,rfl,rfl,rfl,rfl,rfl,rfl,rfl,rfl,fun j hj=>?_,rfl,fun j hj=>o _ (by omega) (by omega)⟩
 show bN g L (24+i) 4 v (24+j)=ah (fun j=>g (24+j)) i 4 v j
 by_cases hij:i≤j
 ·rw[CI (by omega) (by omega)]
  unfold ah
  by_cases h4:j<i+4
  ·rw[if_pos (by omega),if_pos (by omega)];congr 1;omega
  rw[if_neg (by omega),if_neg (by omega)]
 rw[o _ (by omega) (by omega)]
 unfold ah
 rw[if_neg (by omega)]
theorem De {x y:Pk}(h:Pe x y){i:Nat}{v:Int}:Pe { x with go:=ah x.go i 4 v } { y with go:=ah y.go i 4 v }:=
 ⟨h.kind,h.life,h.piece,h.src,h.dst,h.fp,h.tp,h.flags,h.label,h.bare,h.code,h.no,fun j hj=>by
  show ah x.go i 4 v j=ah y.go i 4 v j
  unfold ah;split;rfl;exact h.go j hj,h.nd,h.gd⟩
theorem Bg {x y:Pk}(h:Pe x y){a b:Int}(e:a=b):Pe { x with life:=a } { y with life:=b }:=
 ⟨h.kind,e,h.piece,h.src,h.dst,h.fp,h.tp,h.flags,h.label,h.bare,h.code,h.no,h.go,h.nd,h.gd⟩
theorem wF {g:Nat→Int}{n:Nat}{x:Pk}{s:Bool}{ad po:Int}(hg:az g)(hp:ax g n=0)(pe:Pe (aj g n) x)(h1:1<x.life)(hk:x.kind≠3)(ha:0≤ad∧ad≤4294967295)(hb:0≤po∧po≤65535) :
 ax (bp (aO g) n s ad po) n=0∧az (bp (aO g) n s ad po)∧Pe (aj (bp (aO g) n s ad po) n) (moved { x with life:=x.life-1 } s ad po)∧cK (bp (aO g) n s ad po) n=cK g n∧bp (aO g) n s ad po 0=g 0:=by
 have e0:=rM hp pe
 have e1:=Ey hp pe
 have hA:fW g n=0:=Fg hp (by rw[e1];exact h1)
 have hgA:=jj hg hA
 have NA:aO g 0=g 0:=dZ (by omega) (by omega)
 have hN:fV (aO g) n ad po=0:=EK (kz hg hA) (by rw[NA,e0];exact hk) ha hb
 have hP:=Cx hg hA
 exact⟨l0 hgA hN,pn hgA _ _ _ _,Gw hgA (jP hP (Bg pe (by rw[e1]))) hN,by rw[zj hgA hN,sR hg hA],vE⟩
theorem HS.QM {S:List Nat}{W w:World}{L:List Th}{X Y:Option Addr}{no nd c d:Nat}{go gd:Nat→Int}(h:HS S W w L)(k:Nat)(hk:L[k]? = some (fS 0 (.slice X no c) (.slice Y nd d) no nd go gd)):By w X no go∧By w Y nd gd:=
 ⟨Ow.sl1 (show Ow w 0 5 1 (.slice X no c) no (fun j=>.int .u8 (go j)) from (h.nth k hk).1),Ow.sl1 (show Ow w 0 5 1 (.slice Y nd d) nd (fun j=>.int .u8 (gd j)) from (h.nth k hk).2)⟩
theorem Fx {g:Nat→Int}{L:Nat}{v:Int}(hg:az g)(hp:ax g L=0)(h2:g 0=2)(hv:0≤v∧v≤65535):ax (bN g L 20 2 v) L=0∧cK (bN g L 20 2 v) L=cK g L∧Pe (aj (bN g L 20 2 v) L) { aj g L with label:=v }:=by
 have hs:aI (g 0)=22:=by rw[h2];decide
 have o:∀j,j<20∨24≤j→bN g L 20 2 v j=g j:=fun j a=>k_ (by omega) (by omega) (by omega)
 have hi:∀j,20≤j→j<22→bN g L 20 2 v j=eY v (21-j):=fun j a b=>by
  unfold bN
  split
  ·rw[iE a b]
  rw[gJ (by omega),dq (by omega),iE a b]
 have e0:bN g L 20 2 v 0=g 0:=o 0 (by omega)
 have hb:=vy (L:=L) (v:=v) (show 16≤20 by omega) (show 20+2≤aI (g 0)∨aI (g 0)+2≤20 by omega)
 obtain ⟨f1,f2,f3,_⟩:=du hp
 obtain ⟨a1,a2⟩:=iX hp
 have q:ax (bN g L 20 2 v) L=0:=by
  unfold ax
  rw[oh (g:=g) (fun j hj=>o j (by omega)),if_pos a1]
  unfold cJ at a2 ⊢
  rw[e0,h2,if_neg (by decide),if_neg (by omega),if_neg (fun h=>absurd h.1 (by decide))]
 refine⟨q,ka hg (nJ hg _ _ _ _) e0 f3 f1 q hp hb (fun h=>xW hg f1 f2 (by omega) (by omega) (by omega) (by omega) h),?_⟩
 have nm:∀a m,a+m≤20→num (bN g L 20 2 v) a m=num g a m:=fun a m h=>cg fun j a b=>o j (by omega)
 have nl:num (bN g L 20 2 v) 20 2=v:=jb (hi 20 (by omega) (by omega)) (hi 21 (by omega) (by omega)) hv.1 hv.2
 have hbare:(num (bN g L 20 2 v) 22 2==0)=(num g 22 2==0):=by
  unfold bz at hb
  rw[e0,h2]at hb
  simpa using hb
 unfold aj
 rw[if_pos q,if_pos hp]
 unfold dW
 rw[e0,h2,if_neg (by decide),if_pos rfl,if_neg (by decide),if_pos rfl,o 1 (by omega),o 12 (by omega),nm 4 4 (by omega),nm 8 4 (by omega),nm 16 2 (by omega),nm 18 2 (by omega),nl,hbare]
 exact⟨rfl,rfl,rfl,rfl,rfl,rfl,rfl,rfl,rfl,rfl,rfl,rfl,fun _ _=>rfl,rfl,fun j _=>o _ (by omega)⟩
theorem Gf {x y:Pk}(h:Pe x y)(v:Int):Pe { x with label:=v } { y with label:=v }:=
 ⟨h.kind,h.life,h.piece,h.src,h.dst,h.fp,h.tp,h.flags,rfl,h.bare,h.code,h.no,h.go,h.nd,h.gd⟩
theorem EB {p:Pl}{nr:Nat→Option Int}{g:Nat→Int}{n s:Nat}{x:Pk}(hp:Pt p)(hnr:mB nr)(hg:az g)(hq:ax g n=0)(pe:Pe (aj g n) x)(hk:x.kind=1∨x.kind=2)(hl:1<x.life)(hgo:az x.go)(hlb:0≤x.label∧x.label≤65535)(hs:s<64) :
 ∃F uc go' lb,outT p nr g n x s=⟨0,-1,false,n,F,uc⟩∧az F∧ax F n=0∧cK F n=cK g n∧az go'∧(0≤lb∧lb≤65535)∧(x.kind=1→lb=x.label)∧mB uc∧Pe (aj F n) { moved { x with life:=x.life-1 } true p.a p.p with go:=go',label:=lb }:=by
 have hk3:x.kind≠3:=by omega
 obtain ⟨q1,q2,q3,q4,q5⟩:=wF (s:=true) (ad:=p.a) (po:=p.p) hg hq pe hl hk3 hp.2.2.2.1 hp.2.2.2.2
 have e0:g 0=x.kind:=rM hq pe
 have ob:=ze p x s hs
 rcases hk with hk |hk
 ·by_cases hst:(ct x).2.2.2=true
  ·obtain ⟨i1,i2,i3⟩:=qz hst
   obtain ⟨u1,u2⟩:=qy hgo
   have Mi:24+x.no≤n:=by have:=(gW hg hq).2.2.2.2.2.2.1 (by rw[e0,hk]);rw[pe.no]at this;exact this
   have hw:=xX (i:=(ct x).1.toNat) (v:=gk (ct x).2.1 (ja p x s)) q1 (by rw[q5,e0,hk]) (by rw[q3.no];show _≤x.no;omega)
   refine⟨bN (bp (aO g) n true p.a p.p) n (24+(ct x).1.toNat) 4 (gk (ct x).2.1 (ja p x s)),m8 nr s (ct x).2.1,ah x.go (ct x).1.toNat 4 (gk (ct x).2.1 (ja p x s)),x.label,?_,nJ q2 _ _ _ _,iV (by omega) q1,?_,dd hgo _ _ _,hlb,fun _=>rfl,?_,?_⟩
   ·unfold outT
    dsimp only
    rw[if_neg (by omega),if_pos hst]
   ·rw[mX q2 (by omega) (by omega) (by omega) q1,q4]
   ·intro j v hj
    unfold m8 at hj
    split at hj
    ·injection hj with hj;rw[←hj];exact u1
    exact hnr j v hj
   exact jP hw (De q3)
  refine⟨bp (aO g) n true p.a p.p,nr,x.go,x.label,?_,q2,q1,q4,hgo,hlb,fun _=>rfl,hnr,q3⟩
  unfold outT
  dsimp only
  rw[if_neg (by omega),if_neg hst]
 obtain ⟨w1,w2,w3⟩:=Fx (v:=ja p x s) q2 q1 (by rw[q5,e0,hk]) (by have:=ob.1 hk;omega)
 refine⟨bN (bp (aO g) n true p.a p.p) n 20 2 (ja p x s),nr,x.go,ja p x s,?_,nJ q2 _ _ _ _,w1,by rw[w2,q4],hgo,by have:=ob.1 hk;omega,fun h=>absurd (hk.symm.trans h) (by decide),hnr,?_⟩
 ·unfold outT
  dsimp only
  rw[if_pos hk]
 exact jP w3 (Gf q3 _)
theorem GQ {p:Pl}{nr:Nat→Option Int}{g:Nat→Int}{n:Nat}{x:Pk}(hp:Pt p)(hg:az g)(hq:ax g n=0)(pe:Pe (aj g n) x)(hk:x.kind=1∨x.kind=2)(hl:1<x.life)(hgo:az x.go) :
 inT p nr g n x=c_ 9 nr∨∃(k:Nat) (c:Bool) (F go':Nat→Int),k<64∧jJ p x=k∧inT p nr g n x=⟨0,k,c,n,F,nr⟩∧c=(iT p x).isSome∧az F∧ax F n=0∧cK F n=cK g n∧az go'∧Pe (aj F n) { moved { x with life:=x.life-1 } false (p.s k).ad (p.s k).po with go:=go' }:=by
 have hk3:x.kind≠3:=by omega
 have e0:g 0=x.kind:=rM hq pe
 rcases CZ p x with h |⟨k,BP,h⟩
 ·left
  unfold inT
  rw[if_pos h]
 right
 have hsp:=hp.1 k BP
 obtain ⟨q1,q2,q3,q4,q5⟩:=wF (s:=false) (ad:=(p.s k).ad) (po:=(p.s k).po) hg hq pe hl hk3 hsp.1 hsp.2.1
 have hI:inT p nr g n x=⟨0,k,(iT p x).isSome,n,og p nr g n x k,nr⟩:=by
  unfold inT
  rw[h,if_neg (by omega)]
  rfl
 by_cases hst:(ct x).2.2.2=true∧(ct x).2.2.1≠0
 ·have hk1:x.kind=1:=by
   rcases hk with hk |hk
   ·exact hk
   have h0:=(gW hg hq).2.2.2.2.2.1 (by rw[e0,hk])
   rw[pe.no]at h0
   have:=(qz hst.1).2.1
   omega
  obtain ⟨i1,i2,i3⟩:=qz hst.1
  have Mi:24+x.no≤n:=by have:=(gW hg hq).2.2.2.2.2.2.1 (by rw[e0,hk1]);rw[pe.no]at this;exact this
  obtain ⟨b,hb⟩:∃b,b=fE nr k (ct x).2.2.1:=⟨_,rfl⟩
  have hw:=xX (i:=4+(ct x).1.toNat) (v:=b) q1 (by rw[q5,e0,hk1]) (by rw[q3.no];show _≤x.no;omega)
  refine⟨k,(iT p x).isSome,bN (bp (aO g) n false (p.s k).ad (p.s k).po) n (24+(4+(ct x).1.toNat)) 4 b,ah x.go (4+(ct x).1.toNat) 4 b,BP,h,?_,rfl,nJ q2 _ _ _ _,iV (by omega) q1,?_,dd hgo _ _ _,?_⟩
  ·rw[hI]
   unfold og
   dsimp only
   rw[if_pos hst,←hb,show 28+(ct x).1.toNat=24+(4+(ct x).1.toNat) from by omega]
  ·rw[mX q2 (by omega) (by omega) (by omega) q1,q4]
  exact jP hw (De q3)
 refine⟨k,(iT p x).isSome,bp (aO g) n false (p.s k).ad (p.s k).po,x.go,BP,h,?_,rfl,q2,q1,q4,hgo,q3⟩
 rw[hI]
 unfold og
 dsimp only
 rw[if_neg hst]
theorem qA9 {g g':Nat→Int}{n:Nat}(h:∀j,j<n→g j=g' j):Nb g n=Nb g' n:=by
 unfold Nb
 rw[List.map_congr_left (fun j hj=>h j (by simpa using hj))]
theorem F8 {g:Nat→Int}{n:Nat}(hp:ax g n=0)(h3:g 0=3):aj g n ={ kind:=g 0,life:=g 1,piece:=g 12,src:=num g 4 4,dst:=num g 8 4,code:=g 16,nd:=n-20,gd:=fun j=>g (20+j) }:=by
 unfold aj dW
 rw[if_pos hp,if_pos h3]
theorem Af {g:Nat→Int}(h:g 0=3):bz g=false:=by unfold bz;rw[h];rfl
theorem yS {g:Nat→Int}{n:Nat}(hg:az g)(hp:ax g n=0)(h3:g 0=3)(hn:24≤n){a:Int}(ha:0≤a∧a≤4294967295):cK (eJ g n a) n=cK g n:=by
 obtain ⟨r1,r2,r3⟩:=nW hg hp h3 ha
 refine ka hg r3 (r2.trans h3.symm) (by omega) hn r1 hp (by rw[Af r2,Af h3]) (fun _=>?_)
 have e:bq (eJ g n a) n=bq g n:=by
  unfold bq
  rw[if_pos r2,if_pos h3]
  funext j
  try dsimp only
  split
  ·unfold eD;rw[r2,h3]
  unfold eJ;rw[if_neg (by omega)]
 have e2:bo (eJ g n a) n=bo g n:=by unfold bo;rw[if_pos r2,if_pos h3]
 rw[e,e2]
theorem Dj {g:Nat→Int}{L a m:Nat}{v:Int}(ha:24≤a)(hm:m=2∧v≤65535∨m=4∧v≤4294967295)(hv:0≤v):num (bN g L a m v) a m=v:=by
 rw[cg (g':=ah g a m v) (fun j h1 h2=>CI h1 ha)]
 rcases hm with ⟨rfl,h⟩ |⟨rfl,h⟩
 ·exact ij hv h
 exact pW hv h
theorem CN {g:Nat→Int}(h:g 0=3):aI (g 0)=18:=by unfold aI;rw[if_pos h]
theorem RZ (p:Pl)(f:Fl):eC p (iQ f).toNat = -1∨∃k:Nat,k<64∧(p.s k).st=2∧eC p (iQ f).toNat=k:=by
 have b:=qO f
 generalize iQ f=z at b
 obtain ⟨j,hj⟩:∃j:Nat,z=j:=⟨z.toNat,by omega⟩
 subst hj
 rcases tt (p:=p) (j:=j) (by omega) with h |⟨i,h1,h3,h2⟩
 ·exact .inl h
 exact .inr ⟨i,h1,h3,h2⟩
theorem Sm {g:Nat→Int}{n:Nat}(hg:az g)(hq:ax g n=0)(h3:g 0=3)(hl:1<g 1){sl:Sp}(ha:0≤sl.ad∧sl.ad≤4294967295)(hb:0≤sl.po∧sl.po≤65535)(hn:44≤n) :
 az (iu g n sl)∧ax (iu g n sl) n=0∧cK (iu g n sl) n=cK g n∧iu g n sl 0=3∧iu g n sl 1=g 1-1∧num (iu g n sl) 4 4=num g 4 4∧num (iu g n sl) 8 4=sl.ad∧num (iu g n sl) 24 4=sl.ad∧num (iu g n sl) 36 2=sl.po∧num (iu g n sl) 28 4=num g 28 4:=by
 obtain ⟨⟨A1,A2,A3⟩,⟨B1,B2⟩,⟨C1,C2⟩⟩:=sG hg hq hl h3 (q:=sl.po) ha hb
 have hA:=iO (n:=n) hq hl
 have aw:=sR hg hA
 obtain ⟨x,hx⟩:∃x:Pk,x ={ aj (aO g) n with dst:=sl.ad }:=⟨_,rfl⟩
 obtain ⟨A,wj⟩:∃A,A=aO g:=⟨_,rfl⟩
 have a1:A 1=g 1-1:=by rw[wj];unfold aO;rw[aH (by omega)];unfold set1;rw[if_pos rfl]
 have On:num A 4 4=num g 4 4:=by rw[wj];exact cg (fun j h1 h2=>dZ (by omega) (by omega))
 have a28:num A 28 4=num g 28 4:=by rw[wj];exact cg (fun j h1 h2=>dZ (by omega) (by omega))
 rw[←wj]at A1 A2 A3 B1 B2 C1 C2 hx
 have Kb:=yS A3 A1 A2 (by omega) ha
 obtain ⟨R1,R2,R3⟩:=nW A3 A1 A2 ha
 have hR:∀j,eJ A n sl.ad j=if j<16 then aF x j else A j:=fun j=>by rw[hx];rfl
 have hr3:=F8 A1 A2
 have b4:=f9 A3 4 4
 rw[show (256:Int)^4=4294967296 by decide]at b4
 have hdst:num (aF x) 8 4=sl.ad:=by
  rw[cg (g':=bU x) (fun j h1 h2=>dU (by omega)),rL (by rw[hx];exact ha.1) (by rw[hx];exact ha.2),hx]
 have hsrc:num (aF x) 4 4=num A 4 4:=by
  have e:x.src=num A 4 4:=by rw[hx,hr3]
  rw[cg (g':=bU x) (fun j h1 h2=>dU (by omega)),rK (by rw[e];exact b4.1) (by rw[e];omega),e]
 have hlf:aF x 1=A 1:=by rw[dU (by omega),xg,hx,hr3]
 have hF:iu g n sl=bN (bN (eJ A n sl.ad) n 24 4 sl.ad) n 36 2 sl.po:=by unfold iu;rw[wj]
 obtain ⟨R,hRe⟩:∃R,R=eJ A n sl.ad:=⟨_,rfl⟩
 rw[←hRe]at B1 B2 C1 C2 R1 R2 R3 Kb hF
 have hR':∀j,R j=if j<16 then aF x j else A j:=fun j=>by rw[hRe];exact hR j
 obtain ⟨V,hV⟩:∃V,V=bN R n 24 4 sl.ad:=⟨_,rfl⟩
 have V1:ax V n=0:=by rw[hV];exact iV (by omega) R1
 have V2:∀j,(j<24∨28≤j)→(j<18∨20≤j)→V j=R j:=fun j h h'=>by rw[hV];exact k_ h (by rw[CN R2];exact h') (by omega)
 have V0:V 0=3:=by rw[V2 0 (by omega) (by omega),R2]
 have V3:az V:=by rw[hV];exact nJ R3 _ _ _ _
 have V4:cK V n=cK R n:=by rw[hV];exact mX R3 (by omega) (by omega) (by omega) R1
 have V5:num V 24 4=sl.ad:=by rw[hV];exact Dj (by omega) (.inr ⟨rfl,ha.2⟩) ha.1
 rw[←hV]at hF
 have F2:∀j,(j<36∨38≤j)→(j<18∨20≤j)→iu g n sl j=V j:=fun j h h'=>by rw[hF];exact k_ h (by rw[CN V0];exact h') (by omega)
 have q:∀a m:Nat,(a+m≤18∨20≤a)→(a+m≤36∨38≤a)→num (iu g n sl) a m=num V a m:=fun a m h h'=>cg (fun j h1 h2=>F2 j (by omega) (by omega))
 have q2:∀a m:Nat,(a+m≤18∨20≤a)→(a+m≤24∨28≤a)→num V a m=num R a m:=fun a m h h'=>cg (fun j h1 h2=>V2 j (by omega) (by omega))
 refine⟨by rw[hF];exact nJ V3 _ _ _ _,by rw[hF];exact iV (by omega) V1,by rw[hF,mX V3 (by omega) (by omega) (by omega) V1,V4,Kb,wj,aw],by rw[F2 0 (by omega) (by omega),V0],?_,?_,?_,?_,?_,?_⟩
 ·rw[F2 1 (by omega) (by omega),V2 1 (by omega) (by omega),hR',if_pos (by omega),hlf,a1]
 ·rw[q 4 4 (by omega) (by omega),q2 4 4 (by omega) (by omega),cg (g':=aF x) (fun j h1 h2=>by rw[hR',if_pos (by omega)]),hsrc,On]
 ·rw[q 8 4 (by omega) (by omega),q2 8 4 (by omega) (by omega),cg (g':=aF x) (fun j h1 h2=>by rw[hR',if_pos (by omega)]),hdst]
 ·rw[q 24 4 (by omega) (by omega),V5]
 ·rw[hF];exact Dj (by omega) (.inl ⟨rfl,hb.2⟩) hb.1
 rw[q 28 4 (by omega) (by omega),q2 28 4 (by omega) (by omega),cg (g':=A) (fun j h1 h2=>by rw[hR',if_neg (by omega)]),a28]
theorem Sv {p:Pl}{x:Pk}{s:Int}(h:iT p x=some s):eP (p.s s.toNat).st=true:=by
 unfold iT at h
 cases h1:iy x with
 |none=>rw[h1]at h;cases h
 |some c=>
  rw[h1]at h
  change (jr (vF x.kind) p.r x.kind (fx p x.src x.fp) c).bind _=some s at h
  cases h2:jr (vF x.kind) p.r x.kind (fx p x.src x.fp) c with
  |none=>rw[h2]at h;cases h
  |some s'=>
   rw[h2]at h
   change (if eP (p.s s'.toNat).st=true then some s' else none)=some s at h
   split at h
   ·injection h with h;subst h;assumption
   cases h
structure Si (t:To):Prop where
 d:t.d≠0
 s:t.s = -1
 c:t.c=false
 n:t.n=0
structure Sg (p:Pl) (g:Nat→Int) (n:Nat) (t:To):Prop where
 d:t.d=0
 q:ax g n=0
 ln:t.n=n
 B:az t.f
 F:ax t.f n=0
 w:cK t.f n=cK g n
 lf:(aj t.f n).life=(aj g n).life-1
 kd:(aj t.f n).kind=(aj g n).kind
 goes:(t.s = -1∧t.c=false∧(aj t.f n).src=p.a∧(aj t.f n).fp=p.p∧(aj t.f n).dst=(aj g n).dst∧(aj t.f n).tp=(aj g n).tp)∨∃k:Nat,k<64∧t.s=k∧(aj t.f n).dst=(p.s k).ad∧(aj t.f n).src=(aj g n).src∧((aj g n).kind≠3→(aj t.f n).tp=(p.s k).po∧(aj t.f n).fp=(aj g n).fp)∧(t.c=true→eP (p.s k).st=true)∧(t.c=false→(p.s k).st=2)
theorem RJ {e:Int}{nr:Nat→Option Int}(h:e≠0):Si (c_ e nr):=⟨h,rfl,rfl,rfl⟩
theorem Sk {p:Pl}{nr:Nat→Option Int}{g:Nat→Int}{n:Nat}{x:Pk}(hp:Pt p)(hg:az g)(hq:ax g n=0)(pe:Pe (aj g n) x)(hk:x.kind=1∨x.kind=2)(hl:1<x.life)(hgo:az x.go):Si (inT p nr g n x)∨Sg p g n (inT p nr g n x):=by
 rcases GQ (nr:=nr) hp hg hq pe hk hl hgo with h |⟨k,c,F,go',BP,hs,h,hc,hB,hF,hw,hgo',hpe⟩
 ·left;rw[h];exact RJ (by decide)
 right
 rw[h]
 refine⟨rfl,hq,rfl,hB,hF,hw,?_,?_,.inr ⟨k,BP,rfl,hpe.dst,?_,fun _=>⟨hpe.tp,?_⟩,fun e=>?_,fun e=>?_⟩⟩
 ·rw[pe.life];exact hpe.life
 ·rw[pe.kind];exact hpe.kind
 ·rw[pe.src];exact hpe.src
 ·rw[pe.fp];exact hpe.fp
 ·have e:c=true:=e
  rw[hc]at e
  cases hb:iT p x with
  |none=>rw[hb]at e;cases e
  |some s=>
   have h1:=Sv hb
   unfold jJ at hs
   rw[hb]at hs
   have h2:s=(k:Int):=hs
   rw[h2]at h1
   exact h1
 have e:c=false:=e
 rw[hc]at e
 cases hb:iT p x with
 |some s=>rw[hb]at e;cases e
 |none=>
  unfold jJ at hs
  rw[hb]at hs
  have h2:eC p (iQ (fx p x.src x.fp)).toNat=(k:Int):=hs
  rcases RZ p (fx p x.src x.fp) with h3 |⟨i,h4,h5,h6⟩
  ·omega
  have:i=k:=by omega
  subst this
  exact h5
theorem Sc {p:Pl}{nr:Nat→Option Int}{g:Nat→Int}{n s:Nat}{x:Pk}(hp:Pt p)(hnr:mB nr)(hg:az g)(hq:ax g n=0)(pe:Pe (aj g n) x)(hk:x.kind=1∨x.kind=2)(hl:1<x.life)(hgo:az x.go)(hlb:0≤x.label∧x.label≤65535)(hs:s<64):Sg p g n (outT p nr g n x s):=by
 obtain ⟨F,uc,go',lb,h,hB,hF,hw,hgo',SN,_,_,hpe⟩:=EB (nr:=nr) hp hnr hg hq pe hk hl hgo hlb hs
 rw[h]
 refine⟨rfl,hq,rfl,hB,hF,hw,?_,?_,.inl ⟨rfl,rfl,hpe.src,hpe.fp,?_,?_⟩⟩
 ·rw[pe.life];exact hpe.life
 ·rw[pe.kind];exact hpe.kind
 ·rw[pe.dst];exact hpe.dst
 rw[pe.tp];exact hpe.tp
theorem Sd {p:Pl}{nr:Nat→Option Int}{g:Nat→Int}{n:Nat}(hp:Pt p)(hg:az g)(hq:ax g n=0)(h3:g 0=3)(hl:1<g 1):Si (iZ p nr g n (aj g n))∨Sg p g n (iZ p nr g n (aj g n)):=by
 unfold iZ
 split
 ·exact .inl (RJ (by decide))
 split
 ·exact .inl (RJ (by decide))
 rename_i hb hs
 right
 unfold i6 at hs ⊢
 rcases RZ p (fx p (num (aj g n).gd 8 4) (num (aj g n).gd 18 2)) with h |⟨k,hk,hst,h⟩
 ·exact absurd h hs
 rw[h]
 have hsp:=hp.1 k hk
 have hn:=((gW hg hq).2.2.2.2.2.2.2.2 h3).1
 obtain ⟨o1,o2,o3,o4,o5,o6,o7,_⟩:=Sm (sl:=p.s k) hg hq h3 hl hsp.1 hsp.2.1 hn
 have e:=F8 o2 o4
 have eg:=F8 hq h3
 rw[Int.toNat_natCast]
 refine⟨rfl,hq,rfl,o1,o2,o3,?_,?_,.inr ⟨k,hk,rfl,?_,?_,fun hne=>absurd (by rw[eg];exact h3) hne,fun e=>(by cases e),fun _=>hst⟩⟩
 ·show (aj (iu g n (p.s k)) n).life=_
  rw[e,eg];exact o5
 ·show (aj (iu g n (p.s k)) n).kind=_
  rw[e,eg];exact o4.trans h3.symm
 ·show (aj (iu g n (p.s k)) n).dst=_
  rw[e];exact o7
 show (aj (iu g n (p.s k)) n).src=_
 rw[e,eg];exact o6
theorem Sf {p:Pl}{nr:Nat→Option Int}{g:Nat→Int}{n:Nat}(hp:Pt p)(hnr:mB nr)(hg:az g):Si (df p true nr g n)∨Sg p g n (df p true nr g n):=by
 by_cases hq:ax g n=0
 case neg=>
  left
  have e:df p true nr g n=c_ (ax g n) nr:=by unfold df;dsimp only;rw[if_neg (by decide),if_pos hq]
  rw[e];exact RJ hq
 obtain ⟨b1,b2,b3,b4,b5,b6,b7⟩:=qM hg hq
 obtain ⟨l1,l2,l3,l4,l5,_⟩:=gW hg hq
 have pe:Pe (aj g n) (aj g n):=⟨rfl,rfl,rfl,rfl,rfl,rfl,rfl,rfl,rfl,rfl,rfl,rfl,fun _ _=>rfl,rfl,fun _ _=>rfl⟩
 by_cases h0:(aj g n).piece=0
 case neg=>
  left
  have e:df p true nr g n=c_ 6 nr:=by unfold df;dsimp only;rw[if_neg (by decide),if_neg (by simp[hq]),if_pos h0]
  rw[e];exact RJ (by decide)
 by_cases hl:(aj g n).life≤1
 case pos=>
  left
  have e:df p true nr g n=c_ 7 nr:=by unfold df;dsimp only;rw[if_neg (by decide),if_neg (by simp[hq]),if_neg (by simp[h0]),if_pos hl]
  rw[e];exact RJ (by decide)
 by_cases h3:(aj g n).dst=p.a∧(aj g n).kind=3
 case pos=>
  have e:df p true nr g n=iZ p nr g n (aj g n):=by unfold df;dsimp only;rw[if_neg (by decide),if_neg (by simp[hq]),if_neg (by simp[h0]),if_neg hl,if_pos h3]
  rw[e]
  exact Sd hp hg hq (by rw[←l3];exact h3.2) (by rw[←l4];omega)
 by_cases hd:(aj g n).dst=p.a∧(aj g n).tp=p.p
 case pos=>
  have hk:(aj g n).kind≠3:=fun h=>h3 ⟨hd.1,h⟩
  rw[vG hq pe h0 (by omega) hk hd]
  exact Sk hp hg hq pe (by rw[l3]at hk ⊢;omega) (by omega) b6
 by_cases hk:(aj g n).kind=3
 case pos=>
  left
  have e:df p true nr g n=c_ 8 nr:=by unfold df;dsimp only;rw[if_neg (by decide),if_neg (by simp[hq]),if_neg (by simp[h0]),if_neg hl,if_neg h3,if_neg hd,if_pos hk]
  rw[e];exact RJ (by decide)
 cases hf:fD p (aj g n).src (aj g n).fp with
 |none=>
  left
  have e:df p true nr g n=c_ 8 nr:=by unfold df;dsimp only;rw[if_neg (by decide),if_neg (by simp[hq]),if_neg (by simp[h0]),if_neg hl,if_neg h3,if_neg hd,if_neg hk,hf]
  rw[e];exact RJ (by decide)
 |some s=>
  right
  rw[AU hq pe h0 (by omega) hk hd hf]
  exact Sc hp hnr hg hq pe (by rw[l3]at hk ⊢;omega) (by omega) b6 (by omega) (wy hf)
def J5 (w:World)(n:Nat)(g:Nat→Int)(v i:Value)(wr:World):Prop:=
 ∃(p:Nat) (l:List (Int×Int×Int)) (L:Option Addr) (d m:Nat),v =.slice L m d∧i =.int .i64 (p:Int)∧m=l.length∧my g n l p∧Below w.heap.size w wr∧mR 117 wr w.heap.size (.slice L m d) l
set_option maxHeartbeats 2000000 in
theorem yG (A:Option Addr)(n c:Nat)(g:Nat→Int)(w:World)(h:By w A n g)(hg:az g)(hn:n≤1000000) :
 Calls Tryz.prog 57 #[.slice A n c] w (mQ 117 g n w):=by
 go_enter Tryz.func57,Tryz.ntmps57
 go_wp2
 go_loopw [4,5] (fun v i wr=>J5 w n g v i wr) (fun _ i _=>n-(intOf i).toNat)
 case atStart=>exact⟨0,[],none,0,0,rfl,rfl,rfl,yC g n,Below.refl _ _,Ow.none_⟩
 obtain ⟨p,l,L,d,m,rfl,rfl,hm,hs,hb,ho⟩:=hrel
 have hs':=hs
 obtain ⟨_,hlp,hpn⟩:=hs'
 rw[←hm]at hlp
 have HM:=hid hm
 have HS:=hid hs
 have HB:=hid hb
 have HO:=hid ho
 clear hs hm hb ho
 by_cases hlt:p<n
 ·obtain ⟨b,off,rfl,hbw,hc⟩:=h (by omega)
  have c0:wr.cell? ⟨b,off+p,none⟩=some (.int .u8 (g p)):=(HB.out.cell (p:=⟨b,off+p,none⟩) hbw).trans (hc p hlt)
  have hbr:b<wr.heap.size:=Nat.lt_of_lt_of_le hbw HB.out.size
  have gx:=hg p
  have hne:=hid (mR.Ct HO.out hbw)
  cases hon:dT g n p with
  |none=>
   have hbad:=hid (sk HS.out hlt hon)
   have hx:¬g p<2:=by intro hx;unfold dT at hon;rw[if_pos hx]at hon;cases hon
   obtain ⟨x,hgx⟩:∃x,x=g p:=⟨_,rfl⟩
   rw[←hgx]at c0 gx hx
   have t0:decide (x<2)=false:=by simpa using hx
   obtain ⟨NG,ND⟩:=gx
   by_cases hs:n≤p+1
   ·have t1:decide ((n:Int)≤(p:Int)+1)=true:=by simp;omega
    clear hon hc h hg hgx
    go_wp2
    go_ret2
    exact jU hbad.out HB.out
   have t1:decide ((n:Int)≤(p:Int)+1)=false:=by simp;omega
   have c1:wr.cell? ⟨b,off+(p+1),none⟩=some (.int .u8 (g (p+1))):=(HB.out.cell (p:=⟨b,off+(p+1),none⟩) hbw).trans (hc (p+1) (by omega))
   have gy:=hg (p+1)
   have hy:g (p+1)<2∨(n:Int)-p<g (p+1):=by
    unfold dT at hon
    rw[if_neg (by omega),if_neg hs]at hon
    by_cases q1:g (p+1)<2
    ·exact .inl q1
    rw[if_neg q1]at hon
    by_cases q2:(n:Int)-p<g (p+1)
    ·exact .inr q2
    rw[if_neg q2]at hon;cases hon
   have e1:((p:Int)+1).toNat=p+1:=by omega
   obtain ⟨y,Kz⟩:∃y,y=g (p+1):=⟨_,rfl⟩
   rw[←Kz]at c1 gy hy
   obtain ⟨NC,NB⟩:=gy
   clear hon hc h hg hgx Kz
   by_cases q1:y<2
   ·have t2:decide (y<2)=true:=by simpa using q1
    go_wp2
    go_ret2
    exact jU hbad.out HB.out
   have t2:decide (y<2)=false:=by simpa using q1
   have t3:decide ((n:Int)-p<y)=true:=by simp;omega
   go_wp2
   go_ret2
   exact jU hbad.out HB.out
  |some o=>
   obtain ⟨ok,oa,ol⟩:=o
   have uk:=ko hon hlt
   simp only at uk
   obtain ⟨rfl,rfl,o1,o2,o3,o4⟩:=uk
   have hlast:=hid (fun hk=>qC HS.out hlt hon hk)
   have hmore:=hid (fun hk=>qB HS.out hlt hon hk)
   simp only at hlast hmore
   by_cases hx:g p<2
   ·have hl:ol=1:=by unfold dT at hon;rw[if_pos hx]at hon;injection hon with e;injection e with _ e;injection e with _ e;exact e.symm
    subst hl
    obtain ⟨x,hgx⟩:∃x,x=g p:=⟨_,rfl⟩
    rw[←hgx]at c0 gx hx hlast hmore
    have t0:decide (x<2)=true:=by simpa using hx
    clear hon hc h hg hgx
    have Mc:x=0∨x=1:=by omega
    rcases Mc with rfl |rfl
    ·have hL:=hid (hlast.out rfl)
     clear hlast hmore
     go_wp2_with (at_builtin;refine lg rfl (.tmp 18) (.tmp 22) 113 117 rfl Tryz.underlying113 (.inr rfl) w.heap.size _ l m HM.out rfl (Ow.alloc HO.out _) wr.heap.size 1 (0,(p:Int),1) rfl (Ce.made (w:=wr) (l:=[(),((p:Int)),.int .i64 1]) rfl) (by have:=HM.out;omega) (by simp;exact Nat.le_succ_of_le HB.out.size) ?_;intro A' c' w3 hown hbel hgr;have lH:=hid ((HB.out.alloc HB.out.size _).trans hbel);have rA:=hid hown;clear hown hbel hgr HB HO)
     go_ret2
     exact jT hL.out (by rw[HM.out];simp) rA.out lH.out
    have hL:=hid (hmore.out (by decide))
    clear hlast hmore
    go_wp2_with (at_builtin;refine lg rfl (.tmp 18) (.tmp 22) 113 117 rfl Tryz.underlying113 (.inr rfl) w.heap.size _ l m HM.out rfl (Ow.alloc HO.out _) wr.heap.size 1 (1,(p:Int),1) rfl (Ce.made (w:=wr) (l:=[.int .i64 1,((p:Int)),.int .i64 1]) rfl) (by have:=HM.out;omega) (by simp;exact Nat.le_succ_of_le HB.out.size) ?_;intro A' c' w3 hown hbel hgr;have lH:=hid ((HB.out.alloc HB.out.size _).trans hbel);have rA:=hid hown;clear hown hbel hgr HB HO)
    go_roundw
    case rel=>exact⟨p+1,l ++ [(1,(p:Int),1)],A',c',m+1,rfl,by go_num,(by rw[HM.out];simp),hL.out,lH.out,rA.out⟩
    simp[intOf];omega
   have hs:¬n≤p+1:=by intro hs;unfold dT at hon;rw[if_neg hx,if_pos hs]at hon;cases hon
   have hy:g (p+1)=ol∧¬g (p+1)<2∧¬(n:Int)-p<g (p+1):=by
    unfold dT at hon
    rw[if_neg hx,if_neg hs]at hon
    by_cases q1:g (p+1)<2
    ·rw[if_pos q1]at hon;cases hon
    rw[if_neg q1]at hon
    by_cases q2:(n:Int)-p<g (p+1)
    ·rw[if_pos q2]at hon;cases hon
    rw[if_neg q2]at hon;injection hon with e;injection e with _ e;injection e with _ e;exact⟨e,q1,q2⟩
   have gy:=hg (p+1)
   obtain ⟨e,hy1,hy2⟩:=hy
   have c1:wr.cell? ⟨b,off+(p+1),none⟩=some (.int .u8 (g (p+1))):=(HB.out.cell (p:=⟨b,off+(p+1),none⟩) hbw).trans (hc (p+1) (by omega))
   have c1':Hid (w.cell? ⟨b,off+(p+1),none⟩=some (.int .u8 (g (p+1)))):=hid (hc (p+1) (by omega))
   rw[e]at c1 gy hy1 hy2
   have C1:∀w3,Below w.heap.size w w3→w3.cell? ⟨b,off+(p+1),none⟩=some (.int .u8 ol):=fun w3 hb=>by rw[hb.cell (p:=⟨b,off+(p+1),none⟩) hbw,c1'.out,e]
   obtain ⟨x,hgx⟩:∃x,x=g p:=⟨_,rfl⟩
   rw[←hgx]at c0 gx hx hlast hmore
   obtain ⟨NG,ND⟩:=gx
   obtain ⟨NC,NB⟩:=gy
   have e1:((p:Int)+1).toNat=p+1:=by omega
   have t0:decide (x<2)=false:=by simpa using hx
   have t1:decide ((n:Int)≤(p:Int)+1)=false:=by simp;omega
   have t2:decide (ol<2)=false:=by simpa using hy1
   have t3:decide ((n:Int)-p<ol)=false:=by simpa using hy2
   have hL:=hid (hmore.out (by omega))
   have CH:=hid C1
   have e3:(p:Int)+ol=((p+ol.toNat:Nat):Int):=by omega
   have E3:=hid e3
   clear hon hc h hg hgx e c1' C1 hlast hmore e3
   go_wp2_with (at_builtin;refine lg rfl (.tmp 55) (.tmp 65) 113 117 rfl Tryz.underlying113 (.inr rfl) w.heap.size _ l m HM.out rfl (Ow.alloc HO.out _) wr.heap.size 1 (x,(p:Int),ol) rfl (Ce.made (w:=wr) (l:=[(x),((p:Int)),(ol)]) rfl) (by have:=HM.out;omega) (by simp;exact Nat.le_succ_of_le HB.out.size) ?_;intro A' c' w3 hown hbel hgr;have lH:=hid ((HB.out.alloc HB.out.size _).trans hbel);have rA:=hid hown;have c2:=CH.out _ lH.out;clear hown hbel hgr HB HO)
   go_roundw
   case rel=>exact⟨p+ol.toNat,l ++ [(x,(p:Int),ol)],A',c',m+1,rfl,(by rw[E3.out]),(by rw[HM.out];simp),hL.out,lH.out,rA.out⟩
   simp[intOf];omega
 have e1:p=n:=by omega
 have hend:=hid (sj HS.out (show n≤p by omega))
 have t0:¬(p:Int)<n:=by omega
 clear e1
 go_wp2
 go_ret2
 exact jT hend.out HM.out HO.out HB.out
theorem FQ (g:Nat→Int)(n:Nat):stamp g n=match fst (wl g n) with
 |none=>(0,0,0,false)
 |some o=>(o.2.1+2,fJ g (o.2.1.toNat+2),fJ g (o.2.1.toNat+6),true):=by
 unfold stamp wl pD
 cases walk g n 0 <;> rfl
theorem Fz {g:Nat→Int}{n:Nat}{o:Int×Int×Int}(hf:fst (wl g n)=some o):0≤o.2.1∧o.2.1.toNat+10≤n∧o.2.1=o.2.1.toNat:=by
 unfold wl at hf
 cases hw:walk g n 0 with
 |none=>rw[hw]at hf;cases hf
 |some l=>rw[hw]at hf;exact rj hw hf
def J4 (w:World)(l:List (Int×Int×Int))(A:Option Addr)(i:Value)(wr:World):Prop:=
 ∃k:Nat,k≤l.length∧i =.int .i64 (k:Int)∧fst (l.drop k)=fst l∧Below w.heap.size w wr∧pM wr A l
set_option maxHeartbeats 2000000 in
theorem Jx (A:Option Addr)(n c:Nat)(g:Nat→Int)(w:World)(h:By w A n g)(hg:az g)(hn:n≤1000000)(hc:n≤c) :
 Calls Tryz.prog 20 #[.slice A n c] w fun e w'=>e =.returned (Lc (stamp g n))∧Below w.heap.size w w':=by
 have W:=hid (yG A n c g w h hg hn)
 have hlen:=yd g n
 have HS:=hid (FQ g n)
 have HW:=fun o=>hid (@Fz g n o)
 obtain ⟨l,hl⟩:∃l,l=wl g n:=⟨_,rfl⟩
 obtain ⟨m,hm⟩:∃m,m=l.length:=⟨_,rfl⟩
 unfold mQ at W
 rw[←hl]at W HS hlen
 rw[←hm]at W hlen
 have HM:=hid hm
 have HL:=hid hl
 clear hl hm
 replace HW:=hid HW
 have HY:=hid h
 have HG:=hid hg
 clear h hg
 go_enter Tryz.func20,Tryz.ntmps20
 go_wp2_with fail
 refine W.out.mono ?_
 rintro e w1 ⟨A1,c1,rfl,ho,hb⟩
 have HB:=hid hb
 have HO:=hid (show pM w1 A1 l by unfold pM;rw[HM.out]at ho;have:=Ow.sl ho;exact this)
 clear ho hb W
 go_wp2
 go_loopw [8] (fun i wr=>J4 w l A1 i wr) (fun i _=>m-(intOf i).toNat)
 case atStart=>exact⟨0,Nat.zero_le _,rfl,rfl,HB.out,HO.out⟩
 clear HB HO
 obtain ⟨k,hk,rfl,hf,hb,hC⟩:=hrel
 rw[←HM.out]at hk
 by_cases hlt:k<m
 ·have hkl:k<l.length:=by rw[←HM.out];exact hlt
  obtain ⟨b,off,rfl,hbw,hcc⟩:=hC (by omega)
  clear hcc
  obtain ⟨c0,c1,c2⟩:=pM.cells hC hkl
  have hd:=ux hkl
  obtain ⟨x,y,z,hx⟩:∃x y z:Int,l[k]=(x,y,z):=⟨_,_,_,rfl⟩
  rw[hx]at c0 c1 c2 hd
  simp only at c0 c1 c2
  have HF:=hid hf
  have HB:=hid hb
  have HC:=hid hC
  have i1:(k:Int)<m:=by omega
  have i0:(0:Int)≤k:=by omega
  cases hs:oe (x,y,z)
  ·have hnx:fst (l.drop (k+1))=fst l:=by rw[←hf,hd,hs];rfl
   have HN:=hid hnx
   have hxz:(x==8)=false∨((x==8)=true∧(z==10)=false):=by
    simp only[oe]at hs
    cases h1:(x==8) <;> cases h2:(z==10) <;> simp_all
   clear hd hx hs hnx hf hb hC
   rcases hxz with h1 |⟨h1,h2⟩
   all_goals
    go_wp2
    go_roundw
    case rel=>exact⟨k+1,by rw[←HM.out];omega,by go_num,HN.out,HB.out,HC.out⟩
    simp[intOf];omega
  have hfo:fst l=some (x,y,z):=by rw[←hf,hd,hs];rfl
  have hw:=HW.out (x,y,z)
  rw[←HL.out]at hw
  obtain ⟨o1,o2,o3⟩:=hw.out hfo
  obtain ⟨p,hp⟩:∃p,p=y.toNat:=⟨_,rfl⟩
  simp only at o1 o2 o3
  rw[←hp]at o2 o3
  have hxz:(x==8)=true∧(z==10)=true:=by simpa [oe]using hs
  obtain ⟨h1,h2⟩:=hxz
  subst o3
  have OL:Hid (stamp g n=((p:Int)+2,fJ g (p+2),fJ g (p+6),true)):=hid (by rw[HS.out,hfo];simp)
  clear hd hx hs hf hb hC hfo hw hp HW
  have hy:=HY.out.below HB.out (Nat.le_refl _)
  obtain ⟨A2,r2,s2⟩:=ev A n c (p+2) (by omega) hc ((p:Int)+2) (by omega)
  obtain ⟨A3,r3,s3⟩:=ev A n c (p+6) (by omega) hc ((p:Int)+6) (by omega)
  have S2:=hid (s2 wr g hy)
  have S3:=hid (s3 wr g hy)
  have b1:(0:Int)≤p:=by omega
  have b2:(p:Int)+10≤n:=by omega
  have i4:IntKind.i64.wrap ((p:Int)+2+4)=(p:Int)+6:=by rw[IntKind.wrap_i64];omega
  have j4:IntKind.i64.wrap ((p:Int)+6)=(p:Int)+6:=by rw[IntKind.wrap_i64];omega
  have O2:=hid (show 4≤n-(p+2) by omega)
  have O3:=hid (show 4≤n-(p+6) by omega)
  clear hy s2 s3 HY HF HL o1 o2
  go_wp2
  go_quiet ((go_at_call 58;first |exact Ki (tQ _ _ _ _ _ _ (by first |exact S2.out.drewN _ |exact S3.out.drewN _) HG.out (by first |exact O2.out |exact O3.out)) |exact Kf (tQ _ _ _ _ _ _ (by first |exact S2.out.drewN _ |exact S3.out.drewN _) HG.out (by first |exact O2.out |exact O3.out))))
  go_wp2
  refine bodyPost_ret (v:=.tuple #[.int .i64 ((p:Int)+2),.int .u32 (fJ g (p+2)),.int .u32 (fJ g (p+6)),true]) (by simp[results,Tryz.results20,go_sem]) rfl ⟨by rw[OL.out];rfl,below_drewN HB.out _⟩
 have i1:¬(k:Int)<m:=by omega
 have hnone:fst l=none:=by rw[←hf,List.drop_of_length_le (by rw[←HM.out];omega)];rfl
 have HN:=hid hnone
 have HB:=hid hb
 clear hb hC hf hnone
 go_wp2
 refine bodyPost_ret (v:=.tuple #[(),.int .u32 0,.int .u32 0,false]) (by simp[results,Tryz.results20,go_sem]) rfl ⟨by rw[HS.out,HN.out];rfl,HB.out⟩
theorem qAI (g:Nat→Int)(n:Nat):∀(l:List (Int×Int×Int)) (a:Nat),ti g n a l→walk g n a=some l:=by
 intro l
 induction l with
 |nil=>intro a h;exact m4 g h
 |cons o l ih=>
  intro a ⟨ho,ha,h⟩
  rcases h with ⟨hk,rfl⟩ |⟨hk,h⟩
  ·exact sa ha ho hk
  rw[lM ha ho hk,ih _ h];rfl
theorem qAO {g g':Nat→Int}{n a:Nat}(h0:g' a=g a)(h1:g' (a+1)=g (a+1)):dT g' n a=dT g n a:=by unfold dT;rw[h0,h1]
theorem qAG {g:Nat→Int}{n:Nat}:∀(l:List (Int×Int×Int)) (a:Nat),ti g n a l→∀o∈l,(a:Int)≤o.2.1:=by
 intro l
 induction l with
 |nil=>intro a _ o ho;cases ho
 |cons o l ih=>
  intro a ⟨h1,ha,h⟩ x hx
  have hi:=ko h1 ha
  rcases List.mem_cons.1 hx with rfl |hx
  ·omega
  rcases h with ⟨_,rfl⟩ |⟨_,h⟩
  ·cases hx
  have:=ih _ h x hx
  omega
theorem qAE {g g':Nat→Int}{n p:Nat}(hg:∀j,j<p+2∨p+10≤j→g' j=g j):∀(l:List (Int×Int×Int)) (a:Nat),ti g n a l→(p+10≤a∨∃o∈l,o.2.1=(p:Int)∧o.2.2=10)→ti g' n a l:=by
 intro l
 induction l with
 |nil=>intro a h _;exact h
 |cons o l ih=>
  intro a ⟨h1,ha,h⟩ hp
  have hi:=ko h1 ha
  have hs:(a<p+2∨p+10≤a)∧(a+1<p+2∨p+10≤a+1)∧(o.1≠0→ti g n (a+o.2.2.toNat) l→(p+10≤a+o.2.2.toNat∨∃o∈l,o.2.1=(p:Int)∧o.2.2=10)):=by
   rcases hp with hp |⟨x,hx,hx1,hx2⟩
   ·exact⟨.inr hp,.inr (by omega),fun _ _=>.inl (by omega)⟩
   rcases List.mem_cons.1 hx with rfl |hx
   ·exact⟨.inl (by omega),.inl (by omega),fun _ _=>.inl (by omega)⟩
   rcases h with ⟨_,rfl⟩ |⟨_,h⟩
   ·cases hx
   have:=qAG _ _ h x hx
   exact⟨.inl (by omega),.inl (by omega),fun _ _=>.inr ⟨x,hx,hx1,hx2⟩⟩
  obtain ⟨s1,s2,s3⟩:=hs
  refine⟨by rw[qAO (hg _ s1) (hg _ s2)];exact h1,ha,?_⟩
  rcases h with h |⟨h2,h3⟩
  ·exact .inl h
  exact .inr ⟨h2,ih _ h3 (s3 h2 h3)⟩
theorem qAF {g:Nat→Int}{n:Nat}(h:(stamp g n).2.2.2=true)(b:Int):(stamp (ah g (4+(stamp g n).1.toNat) 4 b) n).1=(stamp g n).1∧(stamp (ah g (4+(stamp g n).1.toNat) 4 b) n).2.2.2=true:=by
 unfold stamp at h ⊢
 cases hw:walk g n 0 with
 |none=>rw[hw]at h;cases h
 |some l=>
  rw[hw]at h
  cases hf:fst l with
  |none=>simp only[pD,hf]at h;cases h
  |some o=>
   have h3:=rj hw hf
   have hm:=List.mem_of_find?_eq_some hf
   have hs:=List.find?_some hf
   simp[oe]at hs
   have e:(pD g (some l)).1=o.2.1+2:=by simp only[pD,hf]
   rw[e]
   have hw2:walk (ah g (4+(o.2.1+2).toNat) 4 b) n 0=some l:=by
    refine qAI _ _ _ _ (qAE (p:=o.2.1.toNat) (fun j hj=>aH (by omega)) l 0 (tG g n n 0 l (by omega) hw) (.inr ⟨o,hm,by omega,hs.2⟩))
   rw[hw2]
   simp only[pD,hf]
   exact⟨trivial,trivial⟩
structure qAC (x y:Pk) (s:Int):Prop where
 kind:x.kind=y.kind
 life:x.life=y.life
 piece:x.piece=y.piece
 src:x.src=y.src
 dst:x.dst=y.dst
 fp:x.fp=y.fp
 tp:x.tp=y.tp
 flags:x.flags=y.flags
 label:x.label=y.label
 bare:x.bare=y.bare
 code:x.code=y.code
 no:x.no=y.no
 nd:x.nd=y.nd
 gd:∀j,j<x.nd→x.gd j=y.gd j
 e1:¬((stamp x.go x.no).2.2.2=true∧0≤s)→∀j,j<x.no→x.go j=y.go j
 e2:∀j,j<x.no→(j<(stamp x.go x.no).1.toNat+4∨(stamp x.go x.no).1.toNat+8≤j)→x.go j=y.go j
theorem qAC.qB7 (x:Pk)(s:Int):qAC x x s:=⟨rfl,rfl,rfl,rfl,rfl,rfl,rfl,rfl,rfl,rfl,rfl,rfl,rfl,fun _ _=>rfl,fun _ _ _=>rfl,fun _ _ _=>rfl⟩
structure qAW (n:Nat) (a c:To):Prop where
 d:a.d=c.d
 s:a.s=c.s
 k:a.c=c.c
 ln:a.n=c.n
 g:(a.d≠0∧a.n=0)∨(a.d=0∧a.n=n∧ax a.f n=0∧ax c.f n=0∧az a.f∧az c.f∧qAC (aj a.f n) (aj c.f n) a.s)
theorem qA3 {p:Pl}{g:Nat→Int}{n:Nat}{a c:To}(tr:Si a∨Sg p g n a)(h1:a.d=c.d)(h2:a.s=c.s)(h3:a.c=c.c)(h4:a.n=c.n)(h5:a.f=c.f):qAW n a c:=by
 refine⟨h1,h2,h3,h4,?_⟩
 rcases tr with t |t
 ·exact .inl ⟨t.d,t.n⟩
 exact .inr ⟨t.d,t.ln,t.F,by rw[←h5];exact t.F,t.B,by rw[←h5];exact t.B,by rw[←h5];exact qAC.qB7 _ _⟩
theorem qAS {p:Pl}{nr uc:Nat→Option Int}{g:Nat→Int}{n:Nat}{x:Pk}(hp:Pt p)(hg:az g)(hq:ax g n=0)(pe:Pe (aj g n) x)(hk:x.kind=1∨x.kind=2)(hl:1<x.life)(hgo:az x.go):qAW n (inT p nr g n x) (inT p uc g n x):=by
 by_cases hst:(ct x).2.2.2=true∧(ct x).2.2.1≠0
 case neg=>
  have e:∀m:Nat→Option Int,inT p m g n x ={ inT p nr g n x with nr:=m }:=fun m=>by
   unfold inT og
   dsimp only
   rw[if_neg hst]
   split <;> rfl
  rw[e uc]
  exact qA3 (Sk hp hg hq pe hk hl hgo) rfl rfl rfl rfl rfl
 rcases CZ p x with h |⟨k,BP,h⟩
 ·have e:∀m:Nat→Option Int,inT p m g n x=c_ 9 m:=fun m=>by unfold inT;rw[if_pos h]
  rw[e nr,e uc]
  exact⟨rfl,rfl,rfl,rfl,.inl ⟨by show (9:Int)≠0;decide,rfl⟩⟩
 have hsp:=hp.1 k BP
 have e0:g 0=x.kind:=rM hq pe
 have hk3:x.kind≠3:=by omega
 obtain ⟨q1,q2,q3,q4,q5⟩:=wF (s:=false) (ad:=(p.s k).ad) (po:=(p.s k).po) hg hq pe hl hk3 hsp.1 hsp.2.1
 have hk1:x.kind=1:=by
  rcases hk with hk |hk
  ·exact hk
  have h0:=(gW hg hq).2.2.2.2.2.1 (by rw[e0,hk])
  rw[pe.no]at h0
  have:=(qz hst.1).2.1
  omega
 obtain ⟨i1,i2,i3⟩:=qz hst.1
 have Mi:24+x.no≤n:=by have:=(gW hg hq).2.2.2.2.2.2.1 (by rw[e0,hk1]);rw[pe.no]at this;exact this
 obtain ⟨y,hy⟩:∃y,y=moved { x with life:=x.life-1 } false (p.s k).ad (p.s k).po:=⟨_,rfl⟩
 have yg:y.go=x.go:=by rw[hy];rfl
 have yn:y.no=x.no:=by rw[hy];rfl
 rw[←hy]at q3
 have hF:∀m:Nat→Option Int,∃b,inT p m g n x=⟨0,k,(iT p x).isSome,n,bN (bp (aO g) n false (p.s k).ad (p.s k).po) n (24+(4+(ct x).1.toNat)) 4 b,m⟩:=fun m=>by
  refine⟨fE m k (ct x).2.2.1,?_⟩
  unfold inT
  rw[h,if_neg (by omega)]
  show (⟨0,(k:Int),(iT p x).isSome,n,og p m g n x k,m⟩:To)=_
  unfold og
  dsimp only
  rw[if_pos hst,show 28+(ct x).1.toNat=24+(4+(ct x).1.toNat) from by omega]
 have hw:∀b:Int,Pe (aj (bN (bp (aO g) n false (p.s k).ad (p.s k).po) n (24+(4+(ct x).1.toNat)) 4 b) n) { y with go:=ah y.go (4+(ct x).1.toNat) 4 b }:=fun b=>
  jP (xX (i:=4+(ct x).1.toNat) (v:=b) q1 (by rw[q5,e0,hk1]) (by rw[q3.no,yn];omega)) (De q3)
 obtain ⟨b,hb⟩:=hF nr
 obtain ⟨b',hb'⟩:=hF uc
 rw[hb,hb']
 have P:=hw b
 have P':=hw b'
 have hsp2:=qAF (g:=x.go) (n:=x.no) hst.1 b
 have hsx:stamp (aj (bN (bp (aO g) n false (p.s k).ad (p.s k).po) n (24+(4+(ct x).1.toNat)) 4 b) n).go (aj (bN (bp (aO g) n false (p.s k).ad (p.s k).po) n (24+(4+(ct x).1.toNat)) 4 b) n).no=stamp (ah x.go (4+(ct x).1.toNat) 4 b) x.no:=by
  have e1:=P.no
  have e2:=yz P.go
  rw[e2,e1]
  show stamp (ah y.go _ 4 b) y.no=_
  rw[yg,yn]
 have E2:∀j,j<(aj (bN (bp (aO g) n false (p.s k).ad (p.s k).po) n (24+(4+(ct x).1.toNat)) 4 b) n).no→(j<(ct x).1.toNat+4∨(ct x).1.toNat+8≤j)→(aj (bN (bp (aO g) n false (p.s k).ad (p.s k).po) n (24+(4+(ct x).1.toNat)) 4 b) n).go j=(aj (bN (bp (aO g) n false (p.s k).ad (p.s k).po) n (24+(4+(ct x).1.toNat)) 4 b') n).go j:=fun j hj hj2=>by
  have a1:=P.go j hj
  have a2:=P'.go j (by rw[P'.no,←P.no];exact hj)
  have o:∀c:Int,ah y.go (4+(ct x).1.toNat) 4 c j=y.go j:=fun c=>aH (by omega)
  dsimp only at a1 a2
  rw[a1,a2,o,o]
 have E1:(stamp (ah x.go (4+(ct x).1.toNat) 4 b) x.no).2.2.2=true∧(0:Int)≤(k:Int):=⟨hsp2.2,by omega⟩
 have E3:(stamp (ah x.go (4+(ct x).1.toNat) 4 b) x.no).1=(ct x).1:=hsp2.1
 refine⟨rfl,rfl,rfl,rfl,.inr ⟨rfl,rfl,iV (by omega) q1,iV (by omega) q1,nJ q2 _ _ _ _,nJ q2 _ _ _ _,?_⟩⟩
 show qAC (aj (bN (bp (aO g) n false (p.s k).ad (p.s k).po) n (24+(4+(ct x).1.toNat)) 4 b) n) (aj (bN (bp (aO g) n false (p.s k).ad (p.s k).po) n (24+(4+(ct x).1.toNat)) 4 b') n) k
 refine⟨P.kind.trans P'.kind.symm,P.life.trans P'.life.symm,P.piece.trans P'.piece.symm,P.src.trans P'.src.symm,P.dst.trans P'.dst.symm,P.fp.trans P'.fp.symm,P.tp.trans P'.tp.symm,P.flags.trans P'.flags.symm,P.label.trans P'.label.symm,P.bare.trans P'.bare.symm,P.code.trans P'.code.symm,P.no.trans P'.no.symm,P.nd.trans P'.nd.symm,fun j hj=>(P.gd j hj).trans (P'.gd j (by rw[P'.nd,←P.nd];exact hj)).symm,fun hn=>absurd (by rw[hsx];exact E1) hn,fun j hj hj2=>E2 j hj (by rw[hsx,E3]at hj2;exact hj2)⟩
theorem qAH {p:Pl}{nr uc:Nat→Option Int}{g:Nat→Int}{n:Nat}(hp:Pt p)(hnr:mB nr)(hg:az g):qAW n (df p true nr g n) (df p true uc g n):=by
 have TR:=Sf (p:=p) (n:=n) hp hnr hg
 by_cases hq:ax g n=0
 case neg=>
  have e:∀m:Nat→Option Int,df p true m g n=c_ (ax g n) m:=fun m=>by unfold df;dsimp only;rw[if_neg (by decide),if_pos hq]
  rw[e nr]at TR ⊢;rw[e uc];exact qA3 TR rfl rfl rfl rfl rfl
 obtain ⟨b1,b2,b3,b4,b5,b6,b7⟩:=qM hg hq
 obtain ⟨l1,l2,l3,l4,l5,_⟩:=gW hg hq
 have pe:Pe (aj g n) (aj g n):=⟨rfl,rfl,rfl,rfl,rfl,rfl,rfl,rfl,rfl,rfl,rfl,rfl,fun _ _=>rfl,rfl,fun _ _=>rfl⟩
 by_cases h0:(aj g n).piece=0
 case neg=>
  have e:∀m:Nat→Option Int,df p true m g n=c_ 6 m:=fun m=>by unfold df;dsimp only;rw[if_neg (by decide),if_neg (by simp[hq]),if_pos h0]
  rw[e nr]at TR ⊢;rw[e uc];exact qA3 TR rfl rfl rfl rfl rfl
 by_cases hl:(aj g n).life≤1
 case pos=>
  have e:∀m:Nat→Option Int,df p true m g n=c_ 7 m:=fun m=>by unfold df;dsimp only;rw[if_neg (by decide),if_neg (by simp[hq]),if_neg (by simp[h0]),if_pos hl]
  rw[e nr]at TR ⊢;rw[e uc];exact qA3 TR rfl rfl rfl rfl rfl
 by_cases h3:(aj g n).dst=p.a∧(aj g n).kind=3
 case pos=>
  have e:∀m:Nat→Option Int,df p true m g n=iZ p m g n (aj g n):=fun m=>by unfold df;dsimp only;rw[if_neg (by decide),if_neg (by simp[hq]),if_neg (by simp[h0]),if_neg hl,if_pos h3]
  have e2:∀m:Nat→Option Int,iZ p m g n (aj g n) ={ iZ p nr g n (aj g n) with nr:=m }:=fun m=>by unfold iZ;split;rfl;split <;> rfl
  rw[e nr]at TR ⊢;rw[e uc,e2 uc];exact qA3 TR rfl rfl rfl rfl rfl
 by_cases hd:(aj g n).dst=p.a∧(aj g n).tp=p.p
 case pos=>
  have hk:(aj g n).kind≠3:=fun h=>h3 ⟨hd.1,h⟩
  rw[vG hq pe h0 (by omega) hk hd,vG hq pe h0 (by omega) hk hd]
  exact qAS hp hg hq pe (by rw[l3]at hk ⊢;omega) (by omega) b6
 by_cases hk:(aj g n).kind=3
 case pos=>
  have e:∀m:Nat→Option Int,df p true m g n=c_ 8 m:=fun m=>by unfold df;dsimp only;rw[if_neg (by decide),if_neg (by simp[hq]),if_neg (by simp[h0]),if_neg hl,if_neg h3,if_neg hd,if_pos hk]
  rw[e nr]at TR ⊢;rw[e uc];exact qA3 TR rfl rfl rfl rfl rfl
 cases hf:fD p (aj g n).src (aj g n).fp with
 |none=>
  have e:∀m:Nat→Option Int,df p true m g n=c_ 8 m:=fun m=>by unfold df;dsimp only;rw[if_neg (by decide),if_neg (by simp[hq]),if_neg (by simp[h0]),if_neg hl,if_neg h3,if_neg hd,if_neg hk,hf]
  rw[e nr]at TR ⊢;rw[e uc];exact qA3 TR rfl rfl rfl rfl rfl
 |some s=>
  rw[AU hq pe h0 (by omega) hk hd hf]at TR ⊢
  rw[AU hq pe h0 (by omega) hk hd hf]
  refine qA3 TR ?_ ?_ ?_ ?_ ?_ <;> (unfold outT;dsimp only;split;rfl;split <;> rfl)
set_option maxHeartbeats 9000000 in
theorem qA8 (p:Pk)(AO AD qAY qAZ:Option Addr)(cO cD qAU qAV:Nat)(go2 qB1:Nat→Int)(w:World)(h1:By w AO p.no p.go)(h2:By w AD p.nd p.gd)(h3:By w qAY p.no go2)(h4:By w qAZ p.nd qB1)(ho:∀j,j<p.no→p.go j=go2 j)(hd:∀j,j<p.nd→p.gd j=qB1 j) :
 Calls Tryz.prog 21 #[.agg #[p.kind,p.life,p.piece,p.src,p.dst,p.fp,p.tp,p.flags,p.label,p.bare,p.code,.slice AO p.no cO,.slice AD p.nd cD],.agg #[p.kind,p.life,p.piece,p.src,p.dst,p.fp,p.tp,p.flags,p.label,p.bare,p.code,.slice qAY p.no qAU,.slice qAZ p.nd qAV]] w fun e w'=>e =.returned (.bool true)∧Below w.heap.size w w':=by
 have eo:=qA9 ho
 have ed:=qA9 hd
 have K1:=fun (W:World) (hw:Below w.heap.size w W)=>b5 cO (Sl.below h1 hw (Nat.le_refl _))
 have K2:=fun (W:World) (hw:Below w.heap.size w W)=>b5 cD (Sl.below h2 hw (Nat.le_refl _))
 have K3:=fun (W:World) (hw:Below w.heap.size w W)=>b5 qAU (Sl.below h3 hw (Nat.le_refl _))
 have K4:=fun (W:World) (hw:Below w.heap.size w W)=>b5 qAV (Sl.below h4 hw (Nat.le_refl _))
 have BW:Below w.heap.size w ((w.alloc (.cells #[p.kind,p.life,p.piece,p.src,p.dst,p.fp,p.tp,p.flags,p.label,p.bare,p.code,.slice AO p.no cO,.slice AD p.nd cD] 53)).alloc (.cells #[p.kind,p.life,p.piece,p.src,p.dst,p.fp,p.tp,p.flags,p.label,p.bare,p.code,.slice qAY p.no qAU,.slice qAZ p.nd qAV] 53)):=((Below.refl w.heap.size w).alloc (Nat.le_refl _) _).alloc (by simp) _
 have C1:=K1 _ BW
 have C2:=K2 _ BW
 have C3:=K3 _ BW
 have C4:=K4 _ BW
 rw[←eo]at C3
 rw[←ed]at C4
 clear K1 K2 K3 K4 eo ed ho hd h1 h2 h3 h4
 replace BW:=hid BW
 go_enter Tryz.func21,Tryz.ntmps21
 go_wp2_with fail
 go_ret
 exact⟨rfl,BW.out⟩
attribute [local irreducible] FA FL iL
theorem HS.split {S:List Nat}{W w:World}{L:List Th}{t t1 t2:Th}(h:HS S W w (t::L))(hbs:t.bs=t1.bs++t2.bs)(h1:t1.at_ w)(h2:t2.at_ w):HS S W w (t1::t2::L):=by
 have e:(t1::t2::L).flatMap Th.bs=(t::L).flatMap Th.bs:=by simp[hbs]
 refine⟨fun x hx=>?_,h.2.1,by rw[e];exact h.2.2.1,fun b hb=>h.2.2.2 b (by rw[←e];exact hb)⟩
 rcases List.mem_cons.1 hx with rfl |hx
 ·exact h1
 rcases List.mem_cons.1 hx with rfl |hx
 ·exact h2
 exact h.1 x (by simp[hx])
theorem HS.qAK {S:List Nat}{W w:World}{A B:List Th}{g n c:Nat}{f:Nat→Int}(h:HS S W w (A++dx (.slice (some ⟨g,0,none⟩) n c) n f::B))(i:Nat)(v:Int):HS S W (w.setCell ⟨g,i,none⟩ (.int .u8 v)) (A++dx (.slice (some ⟨g,0,none⟩) n c) n (set1 f i v)::B):=by
 have h0:OB w 0 (.slice (some ⟨g,0,none⟩) n c) n f:=h.1 (dx (.slice (some ⟨g,0,none⟩) n c) n f) (by simp)
 refine HS.upd (A:=A) h (dx (.slice (some ⟨g,0,none⟩) n c) n (set1 f i v)) rfl ((Ch.refl _ _).set1 (.inl (by simp[dx,cB,Value.ownBlock]))) ?_
 show OB _ 0 _ n (set1 f i v)
 refine(Ow.store_ h0 i (.int .u8 v)).fQ (fun j _=>?_)
 unfold tV set1
 split <;> rfl
def qA4 (g:Nat→Int)(a m:Nat)(j:Nat):Int:=if a≤j∧j<a+m then 0 else g j
theorem qAQ (g:Nat→Int)(a:Nat):qA4 g a 0=g:=by funext j;unfold qA4;rw[if_neg (by omega)]
theorem qAP (g:Nat→Int)(a m:Nat):set1 (qA4 g a m) (a+m) 0=qA4 g a (m+1):=by
 funext j
 unfold set1 qA4
 by_cases h:j=a+m
 ·rw[if_pos h,if_pos (by omega)]
 rw[if_neg h]
 by_cases h2:a≤j∧j<a+m
 ·rw[if_pos h2,if_pos (by omega)]
 rw[if_neg h2,if_neg (by omega)]
theorem qAA (g:Nat→Int):ax g 0=1:=by unfold ax;rw[show cz g 0=1 from by unfold cz;rw[if_pos (by omega)]];rfl
theorem qAR {x y:Pk}{s:Int}(h:qAC x y s):{ x with go:=y.go,gd:=y.gd } = y:=by
 obtain ⟨h1,h2,h3,h4,h5,h6,h7,h8,h9,h10,h11,h12,nC,_,_,_⟩:=h
 cases x
 cases y
 simp only at h1 h2 h3 h4 h5 h6 h7 h8 h9 h10 h11 h12 nC
 subst h1 h2 h3 h4 h5 h6 h7 h8 h9 h10 h11 h12 nC
 rfl
theorem Sr {S:List Nat}{W w:World}{L:List Th}(hS:HS S W w L)(g:Nat→Int)(n:Nat)(hg:az g)(hn:n≤1000000)(A:Option Addr)(c:Nat)(hc:n≤c)(h:By w A n g)(p:Pk)(hp:p=aj g n)(E:Int)(hE:E=ax g n) :
 Calls Tryz.prog 19 #[.slice A n c] w fun e w'=>∃AO cO AD cD,e =.returned (.tuple #[.agg #[p.kind,p.life,p.piece,p.src,p.dst,p.fp,p.tp,p.flags,p.label,p.bare,p.code,.slice AO p.no cO,.slice AD p.nd cD],E])∧HS S W w' (fS 0 (.slice AO p.no cO) (.slice AD p.nd cD) p.no p.nd p.go p.gd::L):=by
 subst hp hE
 refine(gS A n c g w h hg hc hn).mono ?_
 rintro e w' ⟨O,D,rfl,hO,hD,hb⟩
 obtain ⟨AO,cO,rfl,_,_⟩:=hO.aD
 obtain ⟨AD,cD,rfl,_,_⟩:=hD.aD
 exact⟨AO,cO,AD,cD,rfl,hS.newP hb hO hD⟩
theorem qAM {S:List Nat}{W w:World}{L:List Th}(hS:HS S W w L)(g:Nat→Int)(n:Nat)(hg:az g)(hn:n≤1000000)(A:Option Addr)(c:Nat)(hc:n≤c)(h:By w A n g)(p:Pk)(hp:p=aj g n)(hE:ax g n=0)(h1:g 0=1) :
 Calls Tryz.prog 19 #[.slice A n c] w fun e w'=>∃AO cO AD cD,e =.returned (.tuple #[.agg #[p.kind,p.life,p.piece,p.src,p.dst,p.fp,p.tp,p.flags,p.label,p.bare,p.code,.slice AO p.no cO,.slice AD p.nd cD],()])∧HS S W w' (dx (.slice AO p.no cO) p.no p.go::dx (.slice AD p.nd cD) p.nd p.gd::L)∧p.no≤cO:=by
 subst hp
 refine(qrs2 A n c g w h hg hc hn (iX hE).1 (gW hg hE).1 (by rw[h1];rfl) (by rw[h1];rfl) (hid h1)).mono ?_
 rintro e w' ⟨O,D,rfl,hO,hD,hap,hb⟩
 obtain ⟨AO,cO,rfl,oj,_⟩:=hO.aD
 obtain ⟨AD,cD,rfl,_,_⟩:=hD.aD
 rw[hE]
 have z:=hS.newP hb hO hD
 refine⟨AO,cO,AD,cD,rfl,?_,oj⟩
 have hne:¬((Value.slice AO (aj g n).no cO).ownBlock=(Value.slice AD (aj g n).nd cD).ownBlock∧(Value.slice AO (aj g n).no cO).ownBlock≠none):=fun h=>by
  cases e:(Value.slice AO (aj g n).no cO).ownBlock with
  |none=>exact h.2 e
  |some b=>exact hap b e (by rw[←h.1];exact e)
 have zt:(fS 0 (.slice AO (aj g n).no cO) (.slice AD (aj g n).nd cD) (aj g n).no (aj g n).nd (aj g n).go (aj g n).gd).at_ w':=z.nth 0 rfl
 have eb:(fS 0 (.slice AO (aj g n).no cO) (.slice AD (aj g n).nd cD) (aj g n).no (aj g n).nd (aj g n).go (aj g n).gd).bs=(Value.slice AO (aj g n).no cO).ownBlock.toList++(Value.slice AD (aj g n).nd cD).ownBlock.toList:=by
  dsimp only[fS]
  split
  ·rename_i e
   cases e2:(Value.slice AO (aj g n).no cO).ownBlock with
   |none=>rw[←e,e2];rfl
   |some b=>exact absurd ⟨e,by rw[e2];simp⟩ hne
  rfl
 exact HS.split z eb zt.1 zt.2
theorem qA5 (g:Nat→Int)(i:Nat)(v:Int):set1 (set1 g i v) i v=set1 g i v:=by funext j;unfold set1;split <;> rfl
theorem HS.qAL {S:List Nat}{W w:World}{L:List Th}{g n c:Nat}{f:Nat→Int}(h:HS S W w L)(k:Nat)(hk:L[k]? = some (dx (.slice (some ⟨g,0,none⟩) n c) n f))(hn:0<n):g<w.heap.size∧(∀j,j<n→w.cell? ⟨g,j,none⟩=some (.int .u8 (f j)))∧∀j,w.frozen? ⟨g,j,none⟩=false:=by
 obtain ⟨b,e,_,h1,h2,h3⟩:=Ow.block_ (show OB w 0 (.slice (some ⟨g,0,none⟩) n c) n f from h.nth k hk) hn
 injection e with e
 injection e with e
 subst e
 exact⟨h1,fun j hj=>h2 j (by omega),h3⟩
theorem HS.qAJ {S:List Nat}{W w:World}{L:List Th}{A:Option Addr}{n c:Nat}{f:Nat→Int}(h:HS S W w L)(k:Nat)(hk:L[k]? = some (dx (.slice A n c) n f))(hn:0<n):∃g:Nat,A=some ⟨g,0,none⟩:=by
 obtain ⟨b,e,_⟩:=Ow.block_ (show OB w 0 (.slice A n c) n f from h.nth k hk) hn
 exact⟨b,e⟩
end Go.Proofs.YtalnfkijiehjhaaGreat
namespace Go.Proofs.YtalnfkijiehjhaaGreat.planeSame
open List renaming setIfInBounds_toArray→zA,set_cons_zero→zB,set_cons_succ→zC
attribute [local irreducible] FA FL iL
set_option maxHeartbeats 18000000 in
theorem walk (W:World)(A1:Option Addr)(n1 c1:Nat)(g1:Nat→Int)(hn1:n1≤c1)(hc1:c1≤maxLen)(hr1:Is W A1 n1 g1)(hg1:wJ g1)(hl1:∀ad,A1=some ad→0<n1→ad.block<W.heap.size)(tB:c1*8≤140737488351232)(A2:Option Addr)(n2 c2:Nat)(g2:Nat→Int)(hn2:n2≤c2)(hc2:c2≤maxLen)(hr2:Is W A2 n2 g2)(hg2:wJ g2)(hl2:∀ad,A2=some ad→0<n2→ad.block<W.heap.size)(tq:c2*8≤140737488351232)(A3:Option Addr)(n3 c3:Nat)(g3:Nat→Int)(GY:n3≤c3)(hc3:c3≤maxLen)(hr3:Is W A3 n3 g3)(hg3:wJ g3)(hl3:∀ad,A3=some ad→0<n3→ad.block<W.heap.size)(Q9:c3*8≤140737488351232)(a0:Int)(CH: -9223372036854775808≤a0∧a0≤9223372036854775807)(b0:Int)(zE: -9223372036854775808≤b0∧b0≤9223372036854775807) :
 Calls Tryz.prog 4 #[.slice A1 n1 c1,.slice A2 n2 c2,.slice A3 n3 c3,a0,b0] W fun e w'=>e =.returned (.bool true)∧Below W.heap.size W w':=by
 obtain ⟨p,hp⟩:∃p,p=fP g1 (min n1 60):=⟨_,rfl⟩
 have Ry:=hid (show jG p 60 from by rw[hp];exact(rS g1 _).mono (by omega))
 have Rz:=hid (show p.a=10∧p.p=80 from by rw[hp];exact ug g1 _)
 have OP:=hid (show Pt p from by rw[hp];exact Gz g1 _ (by omega))
 have mU:=hid (show Pw p from by rw[hp];exact xv g1 _)
 have MK:=hid (fun (w:World) (hb:Below W.heap.size W w)=>(show Calls Tryz.prog 9 #[.slice A1 n1 c1,.int .i64 60] w fun x w'=>x =.returned (.agg (FA 330 (pc p)))∧Below w.heap.size w w' from by rw[hp];exact MZ W A1 n1 c1 g1 hr1 hl1 hn1 hc1 60 (by decide) w hb))
 clear hp hr1 hl1 hg1 tB hn1 hc1
 have S0:Hid (HS [] W W []):=hid HS.start
 have HR2:=hid (show ∀(w:World),Below W.heap.size W w→Is w A2 n2 g2 from fun w h=>hr2.below h (Nat.le_refl _))
 have HG2:=hid hg2
 unfold maxLen at hc2
 have Rk:(n2:Int)≤9223372036854775807:=by have:=hn2;omega
 clear hr2 hg2 hl2 tq hn2 hc2
 have HR3:=hid (show ∀(w:World),Below W.heap.size W w→Is w A3 n3 g3 from fun w h=>hr3.below h (Nat.le_refl _))
 have Re:=hid hg3
 unfold maxLen at hc3
 have Rj:(n3:Int)≤9223372036854775807:=by have:=GY;omega
 clear hr3 hg3 hl3 Q9 GY hc3
 have OT:=hid (show mB (fun _=>none) from fun j v h=>by cases h)
 go_enter Tryz.func4,Tryz.ntmps4
 go_wp2_with fail
 refine(Mv _).mono ?_
 rintro e w1 ⟨rfl,hb⟩
 have S1:=hid (S0.out.below hb)
 clear hb S0
 go_simp
 go_wp2_with fail
 refine(MK.out _ S1.out.bl).mono ?_
 rintro e w2 ⟨rfl,hb⟩
 have S2:=hid (S1.out.below hb)
 clear hb S1 MK
 go_simp
 go_upto_region 4 with (first | ((with_reducible refine ay ?_);refine aS rfl (t9 rfl (LD _) (by omega) S2.out ?_);intro P w_ hZ _;have SA:=hid hZ;clear hZ) | ((with_reducible refine ay ?_);refine aS rfl (lk (A:=[]) 0 330 (pc p) (pc p) rfl rfl rfl SA.out (by omega) (fun j hj=>nY _ _ _ j hj) lp (t5 _) ?_);intro w_ hZ;have SX:=hid hZ;clear hZ))
 have S3:=hid (SX.out)
 clear SX SA S2
 go_wp2_with fail
 refine(plane_new S3.out).mono ?_
 rintro e QY ⟨pb,rfl,hz⟩
 have S4:=hid (hz)
 clear hz S3
 go_simp
 go_wp2_with fail
 refine(plane_new S4.out).mono ?_
 rintro e QX ⟨qb,rfl,hz⟩
 have S5:=hid (hz)
 clear hz S4
 go_simp
 go_upto_region 7 with (fail)
 go_wp2_with ((with_reducible refine ay ?_);refine aS rfl (vQ 2 rfl 0 330 (pc p) rfl rfl S5.out (by omega) (fun j hj=>by rw[Nat.zero_add]) Tryz.underlying34 rfl lp ?_))
 refine(Aa (A:=[aP qb 130 (fO none false js)]) (B:=[aP P 330 (pc p)]) (nr:=fun _=>none) S5.out p mU.out).mono ?_
 rintro e QW ⟨rfl,sb,wb,hne,hz⟩
 have S6:=hid (hz)
 clear hz S5
 have OQ:=hid hne
 clear hne
 go_simp
 go_upto_region 8 with (fail)
 go_wp2_with ((with_reducible refine ay ?_);refine aS rfl (vQ 3 rfl 0 330 (pc p) rfl rfl S6.out (by omega) (fun j hj=>by rw[Nat.zero_add]) Tryz.underlying34 rfl lp ?_))
 refine(Aa (A:=[kg sb wb p]) (B:=[aP pb 130 (dD sb (fun _=>none)),aP P 330 (pc p)]) (nr:=fun _=>none) S6.out p mU.out).mono ?_
 rintro e QU ⟨rfl,sd,wd,hne,hz⟩
 have S7:=hid (hz)
 clear hz S6
 have N6:=hid hne
 clear hne
 go_simp
 go_wp2_with fail
 go_loopg [14] 20 (fun gh i wx=>∃(k:Nat) (nr:Nat→Option Int),gh=20-k∧k≤20∧i =.int .i64 (k:Int)∧mB nr∧HS [] W wx [kg sd wd p,kg sb wb p,aP qb 130 (dD sd (fun _=>none)),aP pb 130 (dD sb (nr)),aP P 330 (pc p)])
 case atStart=>exact⟨0,fun _=>none,by omega,by omega,rfl,OT.out,S7.out⟩
 clear S7
 obtain ⟨k,nr,hgh,hk,rfl,hnr,hS⟩:=hrel
 have U0:=hid hS
 have IW:=hid hnr
 clear hS hnr
 go_upto_region 10 with (fail)
 obtain ⟨bb,hbb⟩:∃bb:Bool,bb=(decide (k<n2)&&decide (k<n3)&&decide (k<20)):=⟨_,rfl⟩
 have eE:=hid hbb
 clear hbb
 go_cut [58] from 45 to 58 (fun x wx=>x =.bool bb∧wr=wx)
 case first=>
  by_cases h1:(k:Int)<n2
  ·by_cases h2:(k:Int)<n3
   ·by_cases h3:(k:Int)<20
    ·go_wp2_with fail
     go_meet
     exact⟨by rw[eE.out];simp;omega,rfl⟩
    go_wp2_with fail
    go_meet
    exact⟨by rw[eE.out];simp;omega,rfl⟩
   go_wp2_with fail
   go_meet
   exact⟨by rw[eE.out];simp;omega,rfl⟩
  go_wp2_with fail
  go_meet
  exact⟨by rw[eE.out];simp;omega,rfl⟩
 obtain ⟨rfl,rfl⟩:=hcut
 cases bb
 rotate_left
 ·have hkn2:k<n2∧k<n3∧k<20:=by have:=eE.out;simp at this;exact⟨this.1.1,this.1.2,this.2⟩
  obtain ⟨hl1,hl2,hl3⟩:=hkn2
  clear eE
  have i1:(k:Int)<n2:=by omega
  have i2:(k:Int)<n3:=by omega
  have i3:(k:Int)<20:=by omega
  have z1:(0:Int)≤k:=by omega
  obtain ⟨bb2,off2,rfl⟩:=Sl.addr (HR2.out _ U0.out.bl) (by omega)
  have xY:=hid (fun (w:World) (h:Below W.heap.size W w)=>Sl.at_ (show Sl w (some ⟨bb2,off2,none⟩) n2 (fun j=>.int .i64 (g2 j)) from HR2.out w h) (j:=k) (by omega))
  have xp:=HG2.out k
  obtain ⟨kv,hkv⟩:∃v,v=g2 k:=⟨_,rfl⟩
  rw[←hkv]at xY xp
  clear hkv
  obtain ⟨bb3,CW,rfl⟩:=Sl.addr (HR3.out _ U0.out.bl) (by omega)
  have xK:=hid (fun (w:World) (h:Below W.heap.size W w)=>Sl.at_ (show Sl w (some ⟨bb3,CW,none⟩) n3 (fun j=>.int .i64 (g3 j)) from HR3.out w h) (j:=k) (by omega))
  have xl:=Re.out k
  obtain ⟨mv,hmv⟩:∃v,v=g3 k:=⟨_,rfl⟩
  rw[←hmv]at xK xl
  clear hmv
  go_upto_region 12 with (fail)
  refine wp_region_held_drew (S:=fun (w':World)=>∃nr:Nat→Option Int,mB nr∧HS [] W w' [kg sd wd p,kg sb wb p,aP qb 130 (dD sd (fun _=>none)),aP pb 130 (dD sb (nr)),aP P 330 (pc p)]) (by kernel_rfl) ?_ (fun hHeld=>?_)
  ·exact⟨nr,IW.out,U0.out.drew⟩
  refine ae 0 hHeld ?_
  refine tk 1 (v:=.agg (FA 330 (pc p))) rfl (by kernel_rfl) (by kernel_rfl) (by kernel_rfl) (fun _ _ _ h=>h) rfl (fun w hSw=>by obtain ⟨_,_,hSw⟩:=hSw;exact jR rfl rfl ((hSw.fb 4 rfl).load 0 330 (pc p) (by omega) (fun j hj=>by rw[Nat.zero_add]) Tryz.underlying34 rfl lp)) hHeld ?_;(try simp only[Act.put,zA,zB,zC])
  refine ae 2 hHeld ?_
  refine ae 3 hHeld ?_
  refine ae 4 hHeld ?_
  refine ae 5 hHeld ?_ (hy:=by intro w hSw;(try dsimp only at hSw);obtain ⟨_,_,hS2⟩:=hSw;have xc:=xY.out _ hS2.bl;go_simp;(try with_reducible rfl))
  refine ae 6 hHeld ?_
  refine ae 7 hHeld ?_
  refine ae 8 hHeld ?_
  refine ae 9 hHeld ?_ (hy:=by intro w hSw;(try dsimp only at hSw);obtain ⟨_,_,hS2⟩:=hSw;have xc:=xK.out _ hS2.bl;go_simp;(try with_reducible rfl))
  obtain ⟨Rb,hn2,hH⟩:=hHeld
  refine only 10 rfl (by kernel_rfl) rfl (fun K hK=>?_)
  go_simp
  refine(g5 hH p OP.out kv mv xp xl).mono ?_
  rintro e jH ⟨AB,nb,cb,gb,rfl,hcb,hnb,hgb,hz⟩
  try go_wp2_with fail
  refine hK.out _ _ ⟨Rb,hn2,hz.tail⟩ (fun h2=>?_)
  clear hK hH
  try simp only[Act.put,zA,zB,zC]
  refine only 11 rfl (by kernel_rfl) rfl (fun K hK=>?_)
  go_simp
  refine(Mx (A:=[_,kg sd wd p,kg sb wb p,aP qb 130 (dD sd (fun _=>none))]) (B:=[aP P 330 (pc p)]) hz (hz.st 2 rfl) OQ.out OP.out hn2 gb nb cb AB hgb (by omega) (hz.gP 0 rfl) hcb _ rfl).mono ?_
  rintro e qo ⟨X',c',rfl,hz2,hc2⟩
  try go_wp2_with fail
  refine hK.out _ _ ⟨_,rp (p:=p) (n:=nb) hn2 hgb,hz2.tail.tail⟩ (fun h3=>?_)
  clear hK h2 hz hz2 hc2 hcb
  try simp only[Act.put,zA,zB,zC]
  obtain ⟨Ra,GY,h3⟩:=h3
  have IY:=hid GY
  clear GY
  have U1:=hid h3
  clear h3 U0
  refine wpAnyH_done (by kernel_rfl) ?_ _
  go_wp2_with fail
  go_roundg (20-(k+1))
  case rel=>exact⟨k+1,Ra,by omega,by omega,by go_num,IY.out,U1.out⟩
  omega
 clear eE hgh
 go_upto_region 13 with (fail)
 go_wp2_with ((with_reducible refine ay ?_);refine aS rfl (vQ 4 rfl 0 330 (pc p) rfl rfl U0.out (by omega) (fun j hj=>by rw[Nat.zero_add]) Tryz.underlying34 rfl lp ?_))
 refine(g5 U0.out p OP.out a0 b0 CH zE).mono ?_
 rintro e Q7 ⟨AB,nb,cb,gb,rfl,hcb,hnb,hgb,hz⟩
 have nI:=hid (hz)
 clear hz U0
 have I_:=hid hgb
 clear hgb
 go_simp
 have SM:=qAH (p:=p) (n:=nb) (nr:=nr) (uc:=fun _=>none) OP.out IW.out I_.out
 obtain ⟨ta,ha⟩:∃t,df p true nr gb nb=t:=⟨_,rfl⟩
 obtain ⟨tc,hc⟩:∃t,df p true (fun _=>none) gb nb=t:=⟨_,rfl⟩
 have qB5:=hid ha
 have qB4:=hid hc
 rw[ha,hc]at SM
 clear ha hc
 obtain ⟨m1,m2,m3,m4,m5⟩:=SM
 have E1:=hid m1
 have E2:=hid m2
 have E3:=hid m3
 have E4:=hid m4
 have HM:=hid m5
 clear m1 m2 m3 m4 m5
 go_wp2_with fail
 refine(Mx (A:=[dx (.slice AB nb cb) nb gb,kg sd wd p,kg sb wb p,aP qb 130 (dD sd (fun _=>none))]) (B:=[aP P 330 (pc p)]) nI.out (nI.out.st 2 rfl) OQ.out OP.out IW.out gb nb cb AB I_.out (by omega) (nI.out.gP 0 rfl) hcb _ qB5.out).mono ?_
 rintro e Q0 ⟨e9,b9,rfl,hz,Rh⟩
 have nx:=hid (hz)
 clear hz nI
 go_simp
 go_wp2_with fail
 refine(Mx (A:=[dx (.slice e9 ta.n b9) ta.n ta.f,dx (.slice AB nb cb) nb gb,kg sd wd p,kg sb wb p]) (B:=[aP pb 130 (dD sb ta.nr),aP P 330 (pc p)]) nx.out (nx.out.st 2 rfl) N6.out OP.out OT.out gb nb cb AB I_.out (by omega) (nx.out.gP 1 rfl) hcb _ qB4.out).mono ?_
 rintro e QZ ⟨qZ,g6,rfl,hz,Rf⟩
 have t4:=hid (hz)
 clear hz nx
 go_simp
 go_upto_region 15 with (first | ((with_reducible refine ay ?_);refine aS rfl (bZ rfl (px _) (by simp) t4.out ?_);intro O2 w_ hZ _;have SA:=hid hZ;clear hZ) | ((with_reducible refine ay ?_);refine aS rfl (bZ rfl (px _) (by simp) SA.out ?_);intro O3 w_ hZ _;have SB:=hid hZ;clear hZ) | ((with_reducible refine ay ?_);refine aS rfl (aT (A:=[aB O3 [(),(),false,.slice none 0 0]]) [ta.d,ta.s,ta.c,.slice e9 ta.n b9] rfl rfl (rfl) SB.out rfl dY rfl ?_);intro w_ hZ;have SC:=hid hZ;clear hZ) | ((with_reducible refine ay ?_);refine aS rfl (aT (A:=[]) [tc.d,tc.s,tc.c,.slice qZ tc.n g6] rfl rfl (rfl) SC.out rfl dY rfl ?_);intro w_ hZ;have SD:=hid hZ;clear hZ))
 have nm:=hid (show HS [] W _ [aB O3 [tc.d,tc.s,tc.c,.slice qZ tc.n g6],aB O2 [ta.d,ta.s,ta.c,.slice e9 ta.n b9],dx (.slice qZ tc.n g6) tc.n tc.f,dx (.slice e9 ta.n b9) ta.n ta.f] from HS.sub (show HS [] W _ [aB O3 [tc.d,tc.s,tc.c,.slice qZ tc.n g6],aB O2 [ta.d,ta.s,ta.c,.slice e9 ta.n b9],dx (.slice qZ tc.n g6) tc.n tc.f,dx (.slice e9 ta.n b9) ta.n ta.f,dx (.slice AB nb cb) nb gb,kg sd wd p,kg sb wb p,aP qb 130 (dD sd tc.nr),aP pb 130 (dD sb ta.nr),aP P 330 (pc p)] from SD.out) (by repeat (first |exact List.Sublist.slnil |with_reducible apply List.Sublist.cons_cons |with_reducible apply List.Sublist.cons)))
 clear SA SB SC SD t4 qB5 qB4 IW I_
 obtain ⟨e0,e1,e2,e3⟩:=(nm.out.ce 0 rfl).c4
 obtain ⟨f0,f1,f2,f3⟩:=(nm.out.ce 1 rfl).c4
 rw[←E1.out]at e0
 rw[←E2.out]at e1
 rw[←E3.out]at e2
 have e4:((ta.n:Int) != (tc.n:Int))=false:=by rw[E4.out];simp
 go_upto_region 17 with (fail)
 clear e0 e1 e2 e3 f0 f1 f2 f3 e4
 rcases HM.out with ⟨d1,d2⟩ |⟨d1,d2,q1,q2,b1,b2,sp⟩
 ·have hd0:(ta.d != 0)=true:=by simpa using d1
  have HZ1:=hid d2
  have HZ2:=hid (show tc.n=0 from by rw[←E4.out];exact d2)
  clear d1 d2 HM
  obtain ⟨x,hx⟩:∃x,x=aj (fun _=>0) 0:=⟨_,rfl⟩
  have HX:=hid hx
  clear hx
  obtain ⟨o0,o1,o2,o3⟩:=(nm.out.ce 1 rfl).c4
  rw[HZ1.out]at o3
  go_wp2_with fail
  refine(Sr nm.out (fun _=>0) 0 oL (by omega) e9 b9 (by omega) (fun h=>absurd h (by omega)) x HX.out 1 (qAA _).symm).mono ?_
  rintro e wu ⟨RH,RF,RI,RG,rfl,hz⟩
  clear o0 o1 o2 o3
  have t3:=hid (hz)
  clear hz nm
  go_simp
  go_upto_region 18 with (first | ((with_reducible refine ay ?_);refine aS rfl (bZ rfl (qn _) (by simp) t3.out ?_);intro V1 w_ hZ _;have SY:=hid hZ;clear hZ) | ((with_reducible refine ay ?_);refine aS rfl (aT (A:=[]) [x.kind,x.life,x.piece,x.src,x.dst,x.fp,x.tp,x.flags,x.label,x.bare,x.code,.slice RH x.no RF,.slice RI x.nd RG] rfl rfl (rfl) SY.out rfl lq rfl ?_);intro w_ hZ;have SX:=hid hZ;clear hZ))
  have qA2:=hid (SX.out)
  clear SX SY t3
  obtain ⟨o0,o1,o2,o3⟩:=(qA2.out.ce 2 rfl).c4
  rw[HZ2.out]at o3
  go_wp2_with fail
  refine(Sr qA2.out (fun _=>0) 0 oL (by omega) qZ g6 (by omega) (fun h=>absurd h (by omega)) x HX.out 1 (qAA _).symm).mono ?_
  rintro e wv ⟨RO,RL,RQ,RN,rfl,hz⟩
  clear o0 o1 o2 o3
  have qA6:=hid (hz)
  clear hz qA2
  go_simp
  go_upto_region 19 with (first | ((with_reducible refine ay ?_);refine aS rfl (bZ rfl (qn _) (by simp) qA6.out ?_);intro V2 w_ hZ _;have SY:=hid hZ;clear hZ) | ((with_reducible refine ay ?_);refine aS rfl (aT (A:=[]) [x.kind,x.life,x.piece,x.src,x.dst,x.fp,x.tp,x.flags,x.label,x.bare,x.code,.slice RO x.no RL,.slice RQ x.nd RN] rfl rfl (rfl) SY.out rfl lq rfl ?_);intro w_ hZ;have SX:=hid hZ;clear hZ))
  have qA1:=hid (SX.out)
  clear SX SY qA6
  obtain ⟨o0,o1,o2,o3⟩:=(qA1.out.ce 5 rfl).c4
  go_wp2_with fail
  go_ret
  exact⟨by simp,qA1.out.bl⟩
 have HD:=hid d1
 have qAD:=hid d2
 have HL2:=hid (show tc.n=nb from by rw[←E4.out];exact d2)
 have Q1:=hid q1
 have Q2:=hid q2
 have B1:=hid b1
 have B2:=hid b2
 obtain ⟨x,hx⟩:∃x,x=aj ta.f nb:=⟨_,rfl⟩
 obtain ⟨y,hy⟩:∃y,y=aj tc.f nb:=⟨_,rfl⟩
 rw[←hx,←hy]at sp
 have qB3:=hid (show { x with go:=y.go,gd:=y.gd } = aj tc.f nb from (qAR sp).trans hy)
 have HX:=hid hx
 have Ls:=hid sp.gd
 have qBD:=hid sp.e1
 have HE2:=hid sp.e2
 have Lr:=hid (show az x.go from by rw[hx];exact(qM b1 q1).2.2.2.2.2.1)
 have D5:=hid (show x.no≤1000000 from by have:=(gW b1 q1).2.2.2.2.2.2.2.1;rw[←hx]at this;omega)
 obtain ⟨at_,v_,e_,qAB,hst⟩:∃a b c d,stamp x.go x.no=(a,b,c,d):=⟨_,_,_,_,rfl⟩
 have HST:=hid hst
 have qAX:=hid (fun (h:qAB=true)=>(show 2≤at_∧at_.toNat+8≤x.no∧at_=(at_.toNat:Int) from by have h1:=qz (x:=x) (show (stamp x.go x.no).2.2.2=true by rw[hst];exact h);unfold ct at h1;rw[hst]at h1;exact h1))
 have qB6:=hid (fun (h:qAB=true)=>(show ta.f 0=1 from by have h2:=(qAX.out h).2.1;have h3:=gW b1 q1;rw[←hx]at h3;rcases h3.2.2.2.2.1 with h4 |h4 |h4;exact h4;have:=h3.2.2.2.2.2.1 h4;omega;have h5:=F8 q1 h4;rw[←hx]at h5;rw[h5]at h2;exact absurd h2 (by show ¬_+8≤0;omega)))
 have qBC:=hid (fun (h:qAB=true)=>(show tc.f 0=1 from by have h3:=(gW b2 q2).2.2.1;rw[←h3,←hy,←sp.kind,hx,(gW b1 q1).2.2.1];exact qB6.out h))
 have qB2:=hid (fun (w:World) (AO:Option Addr) (cO:Nat) (hc:x.no≤cO) (h:By w AO x.no x.go)=>(show Calls Tryz.prog 20 #[.slice AO x.no cO] w fun e w'=>e =.returned (.tuple #[at_,.int .u32 v_,.int .u32 e_,qAB])∧Below w.heap.size w w' from by have h1:=Jx AO x.no cO x.go w h Lr.out D5.out hc;rw[hst]at h1;exact h1))
 clear d1 d2 q1 q2 b1 b2 sp HM hx hy hst
 by_cases hB:qAB=true∧0≤ta.s
 rotate_left
 ·have HB:=hid hB
  clear hB
  obtain ⟨o0,o1,o2,o3⟩:=(nm.out.ce 1 rfl).c4
  rw[qAD.out]at o3
  go_wp2_with fail
  refine(Sr nm.out ta.f nb B1.out (by omega) e9 b9 (by rw[←qAD.out];exact Rh) (by rw[←qAD.out];exact nm.out.gP 3 rfl) x HX.out 0 Q1.out.symm).mono ?_
  rintro e wu ⟨RH,RF,RI,RG,rfl,hz⟩
  clear o0 o1 o2 o3
  have t3:=hid (hz)
  clear hz nm
  go_simp
  go_upto_region 18 with (first | ((with_reducible refine ay ?_);refine aS rfl (bZ rfl (qn _) (by simp) t3.out ?_);intro V1 w_ hZ _;have SY:=hid hZ;clear hZ) | ((with_reducible refine ay ?_);refine aS rfl (aT (A:=[]) [x.kind,x.life,x.piece,x.src,x.dst,x.fp,x.tp,x.flags,x.label,x.bare,x.code,.slice RH x.no RF,.slice RI x.nd RG] rfl rfl (rfl) SY.out rfl lq rfl ?_);intro w_ hZ;have SX:=hid hZ;clear hZ))
  have qA2:=hid (SX.out)
  clear SX SY t3
  obtain ⟨o0,o1,o2,o3⟩:=(qA2.out.ce 2 rfl).c4
  rw[HL2.out]at o3
  go_wp2_with fail
  refine(Sr qA2.out tc.f nb B2.out (by omega) qZ g6 (by rw[←HL2.out];exact Rf) (by rw[←HL2.out];exact qA2.out.gP 4 rfl) { x with go:=y.go,gd:=y.gd } qB3.out 0 Q2.out.symm).mono ?_
  rintro e wv ⟨RO,RL,RQ,RN,rfl,hz⟩
  clear o0 o1 o2 o3
  have qA6:=hid (hz)
  clear hz qA2
  go_simp
  go_upto_region 19 with (first | ((with_reducible refine ay ?_);refine aS rfl (bZ rfl (qn _) (by simp) qA6.out ?_);intro V2 w_ hZ _;have SY:=hid hZ;clear hZ) | ((with_reducible refine ay ?_);refine aS rfl (aT (A:=[]) [x.kind,x.life,x.piece,x.src,x.dst,x.fp,x.tp,x.flags,x.label,x.bare,x.code,.slice RO x.no RL,.slice RQ x.nd RN] rfl rfl (rfl) SY.out rfl lq rfl ?_);intro w_ hZ;have SX:=hid hZ;clear hZ))
  have qA1:=hid (SX.out)
  clear SX SY qA6
  obtain ⟨y0,y1,y2,y3,y4,y5,y6,y7,y8,y9,au,ao,al⟩:=(qA1.out.ce 2 rfl).c13
  have qBA:=mG (show Ow _ 0 5 1 (.slice RH x.no RF) x.no (fun j=>.int .u8 (x.go j)) from (show (fS 0 (.slice RH x.no RF) (.slice RI x.nd RG) x.no x.nd x.go x.gd).at_ _ from qA1.out.nth 3 rfl).1)
  go_wp2_with fail
  refine(qB2.out _ RH RF qBA (qA1.out.QM 3 rfl).1).mono ?_
  rintro e qB9 ⟨rfl,hb⟩
  clear y0 y1 y2 y3 y4 y5 y6 y7 y8 y9 au ao al
  have qA0:=hid (qA1.out.below hb)
  clear hb qA1
  go_simp
  obtain ⟨y0,y1,y2,y3,y4,y5,y6,y7,y8,y9,au,ao,al⟩:=(qA0.out.ce 2 rfl).c13
  obtain ⟨z0,z1,z2,z3,z4,z5,z6,z7,z8,z9,j_,j9,z12⟩:=(qA0.out.ce 0 rfl).c13
  obtain ⟨o0,o1,o2,o3⟩:=(qA0.out.ce 5 rfl).c4
  have qAN:=hid (fun (w:World) (h1:By w RH x.no x.go) (h2:By w RI x.nd x.gd) (h3:By w RO x.no y.go) (h4:By w RQ x.nd y.gd)=>qA8 x RH RI RO RQ RF RG RL RN y.go y.gd w h1 h2 h3 h4 (qBD.out (by rw[HST.out];exact HB.out)) Ls.out)
  cases qAB
  ·skip
   go_wp2_with fail
   refine(qAN.out _ (qA0.out.QM 3 rfl).1 (qA0.out.QM 3 rfl).2 (qA0.out.QM 1 rfl).1 (qA0.out.QM 1 rfl).2).mono ?_
   rintro e qB0 ⟨rfl,hb⟩
   clear y0 y1 y2 y3 y4 y5 y6 y7 y8 y9 au ao al z0 z1 z2 z3 z4 z5 z6 z7 z8 z9 j_ j9 z12 o0 o1 o2 o3
   go_simp
   go_wp2_with fail
   go_ret
   exact⟨by simp,(qA0.out.below hb).bl⟩
  have hs0:¬(0:Int)≤ta.s:=fun h=>HB.out ⟨rfl,h⟩
  go_wp2_with fail
  refine(qAN.out _ (qA0.out.QM 3 rfl).1 (qA0.out.QM 3 rfl).2 (qA0.out.QM 1 rfl).1 (qA0.out.QM 1 rfl).2).mono ?_
  rintro e qB0 ⟨rfl,hb⟩
  clear y0 y1 y2 y3 y4 y5 y6 y7 y8 y9 au ao al z0 z1 z2 z3 z4 z5 z6 z7 z8 z9 j_ j9 z12 o0 o1 o2 o3
  go_simp
  go_wp2_with fail
  go_ret
  exact⟨by simp,(qA0.out.below hb).bl⟩
 obtain ⟨rfl,hs⟩:=hB
 have qBB:=hid hs
 clear hs
 obtain ⟨s1,s2,s3⟩:=qAX.out rfl
 obtain ⟨a,rfl⟩:∃a:Nat,at_=(a:Int):=⟨at_.toNat,s3⟩
 rw[Int.toNat_natCast]at s2
 have qBI:=hid s2
 have qBE:=D5.out
 clear s1 s3 qAX
 obtain ⟨o0,o1,o2,o3⟩:=(nm.out.ce 1 rfl).c4
 rw[qAD.out]at o3
 go_wp2_with fail
 refine(qAM nm.out ta.f nb B1.out (by omega) e9 b9 (by rw[←qAD.out];exact Rh) (by rw[←qAD.out];exact nm.out.gP 3 rfl) x HX.out Q1.out (qB6.out (by simp))).mono ?_
 rintro e wu ⟨RH,RF,RI,RG,rfl,hz,qB8⟩
 clear o0 o1 o2 o3
 have t3:=hid (hz)
 clear hz nm
 go_simp
 go_upto_region 18 with (first | ((with_reducible refine ay ?_);refine aS rfl (bZ rfl (qn _) (by simp) t3.out ?_);intro V1 w_ hZ _;have SY:=hid hZ;clear hZ) | ((with_reducible refine ay ?_);refine aS rfl (aT (A:=[]) [x.kind,x.life,x.piece,x.src,x.dst,x.fp,x.tp,x.flags,x.label,x.bare,x.code,.slice RH x.no RF,.slice RI x.nd RG] rfl rfl (rfl) SY.out rfl lq rfl ?_);intro w_ hZ;have SX:=hid hZ;clear hZ))
 have qA2:=hid (SX.out)
 clear SX SY t3
 obtain ⟨o0,o1,o2,o3⟩:=(qA2.out.ce 3 rfl).c4
 rw[HL2.out]at o3
 go_wp2_with fail
 refine(qAM qA2.out tc.f nb B2.out (by omega) qZ g6 (by rw[←HL2.out];exact Rf) (by rw[←HL2.out];exact qA2.out.gP 5 rfl) { x with go:=y.go,gd:=y.gd } qB3.out Q2.out (qBC.out (by simp))).mono ?_
 rintro e wv ⟨RO,RL,RQ,RN,rfl,hz,qBG⟩
 clear o0 o1 o2 o3
 have qA6:=hid (hz)
 clear hz qA2
 go_simp
 go_upto_region 19 with (first | ((with_reducible refine ay ?_);refine aS rfl (bZ rfl (qn _) (by simp) qA6.out ?_);intro V2 w_ hZ _;have SY:=hid hZ;clear hZ) | ((with_reducible refine ay ?_);refine aS rfl (aT (A:=[]) [x.kind,x.life,x.piece,x.src,x.dst,x.fp,x.tp,x.flags,x.label,x.bare,x.code,.slice RO x.no RL,.slice RQ x.nd RN] rfl rfl (rfl) SY.out rfl lq rfl ?_);intro w_ hZ;have SX:=hid hZ;clear hZ))
 have qA1:=hid (SX.out)
 clear SX SY qA6
 obtain ⟨gu,hgu⟩:=HS.qAJ qA1.out 4 rfl (by omega)
 obtain ⟨gv,hgv⟩:=HS.qAJ qA1.out 1 rfl (show 0<x.no by omega)
 subst hgu hgv
 obtain ⟨y0,y1,y2,y3,y4,y5,y6,y7,y8,y9,au,ao,al⟩:=(qA1.out.ce 3 rfl).c13
 go_wp2_with fail
 refine(qB2.out _ (some ⟨gu,0,none⟩) RF qB8 (qA1.out.gP 4 rfl)).mono ?_
 rintro e qB9 ⟨rfl,hb⟩
 clear y0 y1 y2 y3 y4 y5 y6 y7 y8 y9 au ao al
 have qA0:=hid (qA1.out.below hb)
 clear hb qA1
 go_simp
 obtain ⟨y0,y1,y2,y3,y4,y5,y6,y7,y8,y9,au,ao,al⟩:=(qA0.out.ce 3 rfl).c13
 obtain ⟨z0,z1,z2,z3,z4,z5,z6,z7,z8,z9,j_,j9,z12⟩:=(qA0.out.ce 0 rfl).c13
 obtain ⟨o0,o1,o2,o3⟩:=(qA0.out.ce 7 rfl).c4
 have hs:=qBB.out
 have w4:IntKind.i64.wrap ((a:Int)+4)=(a:Int)+4:=IntWalk.i64_in _ (by omega)
 have w8:IntKind.i64.wrap ((a:Int)+8)=(a:Int)+8:=IntWalk.i64_in _ (by omega)
 go_wp2_with fail
 clear y0 y1 y2 y3 y4 y5 y6 y7 y8 y9 au ao al z0 z1 z2 z3 z4 z5 z6 z7 z8 z9 j_ j9 z12 o0 o1 o2 o3 hs
 go_loopg [26] 4 (fun gh i wx=>∃(m j:Nat),gh=4-m∧m≤4∧j=a+4+m∧i =.int .i64 (j:Int)∧HS [] W wx [aB V2 [x.kind,x.life,x.piece,x.src,x.dst,x.fp,x.tp,x.flags,x.label,x.bare,x.code,.slice (some ⟨gv,0,none⟩) x.no RL,.slice RQ x.nd RN],dx (.slice (some ⟨gv,0,none⟩) x.no RL) x.no (qA4 y.go (a+4) m),dx (.slice RQ x.nd RN) x.nd y.gd,aB V1 [x.kind,x.life,x.piece,x.src,x.dst,x.fp,x.tp,x.flags,x.label,x.bare,x.code,.slice (some ⟨gu,0,none⟩) x.no RF,.slice RI x.nd RG],dx (.slice (some ⟨gu,0,none⟩) x.no RF) x.no (qA4 x.go (a+4) m),dx (.slice RI x.nd RG) x.nd x.gd,aB O3 [tc.d,tc.s,tc.c,.slice qZ tc.n g6],aB O2 [ta.d,ta.s,ta.c,.slice e9 ta.n b9],dx (.slice qZ tc.n g6) tc.n tc.f,dx (.slice e9 ta.n b9) ta.n ta.f])
 case atStart=>exact⟨0,a+4,by omega,by omega,by omega,by simp,by rw[qAQ,qAQ];exact qA0.out⟩
 clear qA0
 obtain ⟨m,j,qBF,hm,hj,rfl,hS⟩:=hrel
 have V0:=hid hS
 have HJ:=hid hj
 clear hS
 by_cases qBH:m<4
 ·have j1:(j:Int)<(a:Int)+8:=by omega
  have j2:(0:Int)≤j:=by omega
  have j3:(j:Int)<x.no:=by omega
  have j4:j<x.no:=by omega
  have qAT:0<x.no:=by omega
  clear hj
  go_upto_region 26 with (fail)
  refine wp_region_held_drew (S:=fun (w':World)=>∃f f2:Nat→Int,set1 f j 0=qA4 x.go (a+4) (m+1)∧set1 f2 j 0=qA4 y.go (a+4) (m+1)∧HS [] W w' [aB V2 [x.kind,x.life,x.piece,x.src,x.dst,x.fp,x.tp,x.flags,x.label,x.bare,x.code,.slice (some ⟨gv,0,none⟩) x.no RL,.slice RQ x.nd RN],dx (.slice (some ⟨gv,0,none⟩) x.no RL) x.no (f2),dx (.slice RQ x.nd RN) x.nd y.gd,aB V1 [x.kind,x.life,x.piece,x.src,x.dst,x.fp,x.tp,x.flags,x.label,x.bare,x.code,.slice (some ⟨gu,0,none⟩) x.no RF,.slice RI x.nd RG],dx (.slice (some ⟨gu,0,none⟩) x.no RF) x.no (f),dx (.slice RI x.nd RG) x.nd x.gd,aB O3 [tc.d,tc.s,tc.c,.slice qZ tc.n g6],aB O2 [ta.d,ta.s,ta.c,.slice e9 ta.n b9],dx (.slice qZ tc.n g6) tc.n tc.f,dx (.slice e9 ta.n b9) ta.n ta.f]) (by kernel_rfl) ?_ (fun hHeld=>?_)
  ·exact⟨_,_,by rw[HJ.out];exact qAP _ _ _,by rw[HJ.out];exact qAP _ _ _,V0.out.drew⟩
  refine ae 0 hHeld ?_
  refine ae 1 hHeld ?_ (hy:=by intro w hSw;(try dsimp only at hSw);obtain ⟨_,_,_,_,hS2⟩:=hSw;have xc:=(hS2.ce 3 rfl).2.1 11 _ rfl;go_simp;(try with_reducible rfl))
  refine ae 2 hHeld ?_
  refine ae 3 hHeld ?_
  refine ae 4 hHeld ?_ (hy:=by intro w hSw;(try dsimp only at hSw);obtain ⟨_,_,_,_,hS2⟩:=hSw;have xc:=(hS2.ce 0 rfl).2.1 11 _ rfl;go_simp;(try with_reducible rfl))
  refine ae 5 hHeld ?_
  refine ae 6 hHeld ?_
  obtain ⟨f,f2,hf,hf2,hH⟩:=hHeld
  refine only 7 rfl (by kernel_rfl) rfl (fun K hK=>?_)
  obtain ⟨c1,c2,c3⟩:=HS.qAL hH 4 rfl qAT
  have xc:=c2 j j4
  have xf:=c3 j
  clear c2 c3
  go_simp
  have z1:=HS.qAK (A:=[_,_,_,_]) hH j 0
  dsimp only[List.cons_append,List.nil_append]at z1
  refine hK.out _ _ ⟨set1 f j 0,f2,by rw[qA5];exact hf,hf2,z1⟩ (fun h2=>?_)
  clear hK xc xf c1 hH
  try simp only[Act.put,zA,zB,zC]
  refine ae 8 h2 ?_
  refine only 9 rfl (by kernel_rfl) rfl (fun K hK=>?_)
  obtain ⟨c1,c2,c3⟩:=HS.qAL z1 1 rfl qAT
  have xc:(wr.setCell ⟨gu,j,none⟩ (.int .u8 0)).cell? ⟨gv,j,none⟩=_:=c2 j j4
  have xf:(wr.setCell ⟨gu,j,none⟩ (.int .u8 0)).frozen? ⟨gv,j,none⟩=_:=c3 j
  clear c2 c3
  go_simp
  have z2:=HS.qAK (A:=[_]) z1 j 0
  dsimp only[List.cons_append,List.nil_append]at z2
  refine hK.out _ _ ⟨set1 f j 0,set1 f2 j 0,by rw[qA5];exact hf,by rw[qA5];exact hf2,z2⟩ (fun h3=>?_)
  clear hK xc xf c1 z1 h2 h3
  try simp only[Act.put,zA,zB,zC]
  rw[hf,hf2]at z2
  have V1:=hid z2
  clear z2 V0
  refine wpAnyH_done (by kernel_rfl) ?_ _
  have w1:IntKind.i64.wrap ((j:Int)+1)=(j:Int)+1:=IntWalk.i64_in _ (by omega)
  go_wp2_with fail
  go_roundg (4-(m+1))
  case rel=>exact⟨m+1,j+1,by omega,by omega,by have:=HJ.out;omega,by go_num,V1.out⟩
  omega
 have j1:¬(j:Int)<(a:Int)+8:=by omega
 obtain rfl:m=4:=by omega
 clear hj
 have qA7:=hid (V0.out)
 clear V0
 obtain ⟨y0,y1,y2,y3,y4,y5,y6,y7,y8,y9,au,ao,al⟩:=(qA7.out.ce 3 rfl).c13
 obtain ⟨z0,z1,z2,z3,z4,z5,z6,z7,z8,z9,j_,j9,z12⟩:=(qA7.out.ce 0 rfl).c13
 have EE:∀j,j<x.no→qA4 x.go (a+4) 4 j=qA4 y.go (a+4) 4 j:=fun j hj=>by
          unfold qA4
          split
          ·rfl
          exact HE2.out j hj (by rw[HST.out];show j<(a:Int).toNat+4∨(a:Int).toNat+8≤j;rw[Int.toNat_natCast];omega)
 have qAN:=hid (fun (w:World) (h1:By w (some ⟨gu,0,none⟩) x.no (qA4 x.go (a+4) 4)) (h2:By w RI x.nd x.gd) (h3:By w (some ⟨gv,0,none⟩) x.no (qA4 y.go (a+4) 4)) (h4:By w RQ x.nd y.gd)=>qA8 { x with go:=qA4 x.go (a+4) 4 } (some ⟨gu,0,none⟩) RI (some ⟨gv,0,none⟩) RQ RF RG RL RN (qA4 y.go (a+4) 4) y.gd w h1 h2 h3 h4 EE Ls.out)
 go_wp2_with fail
 refine(qAN.out _ (qA7.out.gP 4 rfl) (qA7.out.gP 5 rfl) (qA7.out.gP 1 rfl) (qA7.out.gP 2 rfl)).mono ?_
 rintro e qB0 ⟨rfl,hb⟩
 clear y0 y1 y2 y3 y4 y5 y6 y7 y8 y9 au ao al z0 z1 z2 z3 z4 z5 z6 z7 z8 z9 j_ j9 z12
 go_simp
 go_wp2_with fail
 go_ret
 exact⟨by simp,(qA7.out.below hb).bl⟩
theorem lifted (os:Os)(started:os.Started)(H:Type)(enc:TypeId×Value→H) :
 ReturnsInHanded {} Tryz.checked os 4 .any (Rows.planeSameSpec.pre6 enc Tryz.prog Tryz.f4 [] false) (Rows.planeSameSpec.post enc Tryz.prog Tryz.f4 false true false false):=
 L6 (s:=Rows.planeSameSpec) started (by kernel_rfl) Tryz.func4
  (ChangeSpec.witness6 (s:=Rows.planeSameSpec) (enc:=enc) (C:=Tryz.checked) false ⟨#[],#[.slice none 0 0,.slice none 0 0,.slice none 0 0,(),()],[]⟩ 8 (by kernel_rfl) (by kernel_rfl) (by kernel_rfl) (by kernel_rfl))
  rfl (by rw[Tryz.params4];decide +kernel) rfl Tryz.underlying4
  (fun ds h=>by
   rw[Tryz.params4]at h
   match ds,h with
   | [_,_,_,_,_],_=>rfl)
  (fun W base args ds ps hval hA hsz=>by
   rw[Tryz.params4]at hA hval hsz
   obtain ⟨v0,Rp,d0,ds0,p0,q0,hargs,rfl,rfl,h0,r0⟩:=trodAll_cons hA
   obtain ⟨v1,vs1,d1,ds1,p1,q1,rfl,rfl,rfl,h1,r1⟩:=trodAll_cons r0
   obtain ⟨v2,vs2,d2,Ru,p2,q2,rfl,rfl,rfl,h2,r2⟩:=trodAll_cons r1
   obtain ⟨v3,vs3,d3,ds3,p3,q3,rfl,rfl,rfl,h3,r3⟩:=trodAll_cons r2
   obtain ⟨v4,Ro,d4,Rt,p4,q4,rfl,rfl,rfl,h4,r4⟩:=trodAll_cons r3
   obtain ⟨rfl,rfl,rfl⟩:=trodAll_nil r4
   obtain rfl:args =#[v0,v1,v2,v3,v4]:=by cases args;simp_all
   obtain ⟨A0,n0,c0,g0,rfl,hn0,hc0,hs0,hw0,hl0,hd0⟩:=open_row Tryz.underlying22 Tryz.underlying3 (by kernel_rfl) (hval 0 22 v0 rfl rfl) h0
   have Q_:c0*8≤140737488351232:=by
    rcases hd0 with ⟨_,h0⟩ |⟨xs,ys,h1,h2⟩
    ·omega
    have:=sized_slice hsz (j:=0) (t:=22) (e:=3) rfl (by rw[h1];rfl) Tryz.underlying22
    rw[h2,show Tryz.prog.bytesOf 3=8 from by kernel_rfl]at this
    simpa [reachBytes]using this
   obtain ⟨A1,n1,c1,g1,rfl,hn1,hc1,hs1,hw1,hl1,hd1⟩:=open_row Tryz.underlying22 Tryz.underlying3 (by kernel_rfl) (hval 1 22 v1 rfl rfl) h1
   have tB:c1*8≤140737488351232:=by
    rcases hd1 with ⟨_,h0⟩ |⟨xs,ys,h1,h2⟩
    ·omega
    have:=sized_slice hsz (j:=1) (t:=22) (e:=3) rfl (by rw[h1];rfl) Tryz.underlying22
    rw[h2,show Tryz.prog.bytesOf 3=8 from by kernel_rfl]at this
    simpa [reachBytes]using this
   obtain ⟨A2,n2,c2,g2,rfl,hn2,hc2,hs2,hw2,hl2,hd2⟩:=open_row Tryz.underlying22 Tryz.underlying3 (by kernel_rfl) (hval 2 22 v2 rfl rfl) h2
   have tq:c2*8≤140737488351232:=by
    rcases hd2 with ⟨_,h0⟩ |⟨xs,ys,h1,h2⟩
    ·omega
    have:=sized_slice hsz (j:=2) (t:=22) (e:=3) rfl (by rw[h1];rfl) Tryz.underlying22
    rw[h2,show Tryz.prog.bytesOf 3=8 from by kernel_rfl]at this
    simpa [reachBytes]using this
   obtain ⟨a3,rfl,rfl,rfl,w3⟩:=open_int Tryz.underlying3 (hval 3 3 v3 rfl rfl) h3
   obtain ⟨a4,rfl,rfl,rfl,w4⟩:=open_int Tryz.underlying3 (hval 4 3 v4 rfl rfl) h4
   exact walk W A0 n0 c0 g0 hn0 hc0 hs0 (fun j=>bounds_i64 (hw0 j)) hl0 Q_ A1 n1 c1 g1 hn1 hc1 hs1 (fun j=>bounds_i64 (hw1 j)) hl1 tB A2 n2 c2 g2 hn2 hc2 hs2 (fun j=>bounds_i64 (hw2 j)) hl2 tq a3 (bounds_i64 w3) a4 (bounds_i64 w4))
theorem proved:Rows.PlaneSameSaid:=
 OpenClaim.holds_of_wide 4 Tryz.f4 rfl rfl rfl rfl rfl rfl rfl ⟨rfl,rfl,rfl,rfl,rfl⟩ rfl rfl rfl rfl rfl (by kernel_rfl) Tryz.func4 (by kernel_rfl)
  (of_decide_eq_true (by kernel_rfl)) (by unfold Func.isWrapper;first | (rw[if_pos (by decide +kernel)];kernel_rfl) | (rw[if_neg (by decide +kernel)];exact⟨rfl,rfl⟩))
  (fun os started H enc _=>lifted os started H enc)
end Go.Proofs.YtalnfkijiehjhaaGreat.planeSame
