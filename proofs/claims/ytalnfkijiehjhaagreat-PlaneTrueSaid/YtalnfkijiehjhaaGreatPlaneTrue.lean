/- PlaneTrue answers true for every three rows; no condition. -/
import Derived.Test.YtalnfkijiehjhaaGreatSom
import Derived.Test.YtalnfkijiehjhaaGreatPkn
set_option linter.unusedVariables false
set_option linter.unusedSimpArgs false
set_option maxRecDepth 100000
open Go.RowKit Go.ChangeShapes Go.WideShapes Go.ChangeAt
namespace Go.Proofs.YtalnfkijiehjhaaGreat
def cK (g:Nat→Int)(n:Nat):Bool:=ax g n==0&&(bz g || norm (tot (bq g n) (bo g n))==65535)
theorem pW {g:Nat→Int}{a:Nat}{v:Int}(hv:0≤v)(hv':v≤4294967295):num (ah g a 4 v) a 4=v:=
 rP (by rw[iE (by omega) (by omega),show a+4-1-a=3 from by omega]) (by rw[iE (by omega) (by omega),show a+4-1-(a+1)=2 from by omega])
  (by rw[iE (by omega) (by omega),show a+4-1-(a+2)=1 from by omega]) (by rw[iE (by omega) (by omega),show a+4-1-(a+3)=0 from by omega]) hv hv'
theorem o6 {g:Nat→Int}{n:Nat}(hg:az g)(v:Int)(hv:0≤v)(hv':v≤65535)(hn:24≤n):tot (bq (ah g (aI (g 0)) 2 v) n) (bo (ah g (aI (g 0)) 2 v) n)=tot (bq g n) (bo g n)+v-num g (aI (g 0)) 2:=by
 have hA:=(eH (g 0)).choose_spec
 have e0:ah g (aI (g 0)) 2 v 0=g 0:=aH (by omega)
 have eE:eD (ah g (aI (g 0)) 2 v) n=eD g n:=by funext j;unfold eD;rw[e0]
 by_cases k:g 0=3
 ·have hs:aI (g 0)=18:=by unfold aI;rw[if_pos k]
  have h1:bq (ah g (aI (g 0)) 2 v) n=ah (bq g n) 6 2 v:=by
   funext j
   unfold bq
   rw[e0,if_pos k,eE,hs,if_pos k]
   unfold ah
   dsimp only
   by_cases c1:j<4
   ·rw[if_pos c1,if_neg (by omega),if_pos c1]
   rw[if_neg c1,if_neg c1]
   by_cases c2:6≤j∧j<6+2
   ·rw[if_pos (by omega),if_pos c2,show 18+2-1-(12+j)=6+2-1-j from by omega]
   rw[if_neg (by omega),if_neg c2]
  have h2:bo (ah g (aI (g 0)) 2 v) n=bo g n:=by unfold bo;rw[e0]
  rw[h1,h2,lh (bq g n) 3 v hv hv' _ (by unfold bo;rw[if_pos k];omega),hs,eU,eU]
  unfold bq
  rw[if_pos k]
  simp
 have hs:aI (g 0)=22:=by unfold aI;rw[if_neg k]
 have h1:bq (ah g (aI (g 0)) 2 v) n=ah (bq g n) 18 2 v:=by
  funext j
  unfold bq
  rw[e0,if_neg k,eE,hs,if_neg k]
  unfold ah
  dsimp only
  by_cases c1:j<8
  ·rw[if_pos c1,if_neg (by omega),if_neg (by omega),if_pos c1]
  rw[if_neg c1,if_neg c1]
  by_cases c3:j<12
  ·rw[if_pos c3,if_neg (by omega),if_pos c3]
  rw[if_neg c3,if_neg c3]
  by_cases c2:18≤j∧j<18+2
  ·rw[if_pos (by omega),if_pos c2,show 22+2-1-(4+j)=18+2-1-j from by omega]
  rw[if_neg (by omega),if_neg c2]
 have h2:bo (ah g (aI (g 0)) 2 v) n=bo g n:=by unfold bo;rw[e0]
 rw[h1,h2,lh (bq g n) 9 v hv hv' _ (by unfold bo;rw[if_neg k];omega),hs,eU,eU]
 unfold bq
 rw[if_neg k]
 simp
theorem FN {g:Nat→Int}{n:Nat}(hg:az g)(h0:g 0≠0)(hn:24≤n):tot (bq g n) (bo g n)≠0:=by
 by_cases k:g 0=3
 ·refine oZ (jo hg n) (j:=1) (by unfold bo;rw[if_pos k];omega) ?_
  unfold bq;rw[if_pos k]
  simpa [eD]using h0
 refine oZ (jo hg n) (j:=9) (by unfold bo;rw[if_neg k];omega) ?_
 unfold bq;rw[if_neg k]
 simpa [eD]using h0
theorem nM {g:Nat→Int}{n:Nat}(hg:az g)(h0:g 0≠0)(hn:24≤n):(norm (tot (bq g n) (bo g n))==65535)=true↔tot (bq g n) (bo g n)%65535=0:=by
 have h1:=fC (bq g n) (jo hg n) (bo g n)
 have h2:=FN hg h0 hn
 rw[beq_iff_eq,kU h1]
 exact⟨fun h=>h.2,fun h=>⟨h2,h⟩⟩
theorem qh {g:Nat→Int}{n:Nat}(hg:az g)(hn:24≤n):tot (bq (cm g) n) (bo (cm g) n)%65535=tot (bq g n) (bo g n)%65535:=by
 unfold cm
 by_cases hb:bz g=true
 ·rw[if_pos hb]
  unfold bz at hb
  simp at hb
  have hs:aI (g 0)=22:=by unfold aI;rw[if_neg (by omega)]
  have:=o6 hg (n:=n) 65535 (by omega) (by omega) hn
  rw[hs]at this
  rw[this,hb.2]
  omega
 rw[if_neg hb]
theorem tK {g:Nat→Int}{n:Nat}(k:g 0=3)(hn:16≤n)(hn':n≤1500):tot (bq g n) (bo g n)=tot g n-tot g 16+g 0+((n:Int)-16):=by
 have e1:bo g n=2*2+(n-16):=by unfold bo;rw[if_pos k];omega
 have e2:tot g n=tot g 16+tot (fun j=>g (2*8+j)) (n-16):=by
  have h:=fG g 8 (n-16)
  rw[show 2*8+(n-16)=n from by omega]at h
  exact h
 rw[e1,fG,e2]
 have e3:tot (fun j=>bq g n (2*2+j)) (n-16)=tot (fun j=>g (2*8+j)) (n-16):=eG _ _ _ (fun j _=>by
  unfold bq;rw[if_pos k,if_neg (by omega),show 12+(2*2+j)=2*8+j from by omega])
 rw[e3]
 have e4:tot (bq g n) (2*2)=g 0+((n:Int)-16):=by
  unfold bq
  rw[if_pos k]
  simp[tot,eD,mw,mr]
  omega
 rw[e4]
 omega
theorem o5 {g:Nat→Int}{n:Nat}(k:g 0≠3)(hn:16≤n)(hn':n≤1500):tot (bq g n) (bo g n)=tot g n-tot g 4-(tot g 16-tot g 12)+g 0+((n:Int)-16):=by
 have e1:bo g n=2*6+(n-16):=by unfold bo;rw[if_neg k];omega
 have e2:tot g n=tot g 16+tot (fun j=>g (2*8+j)) (n-16):=by
  have h:=fG g 8 (n-16)
  rw[show 2*8+(n-16)=n from by omega]at h
  exact h
 rw[e1,fG,e2]
 have e3:tot (fun j=>bq g n (2*6+j)) (n-16)=tot (fun j=>g (2*8+j)) (n-16):=eG _ _ _ (fun j _=>by
  unfold bq;rw[if_neg k,if_neg (by omega),if_neg (by omega),show 4+(2*6+j)=2*8+j from by omega])
 rw[e3]
 have e4:tot (bq g n) (2*6)=tot (fun j=>g (2*2+j)) 8+g 0+((n:Int)-16):=by
  unfold bq
  rw[if_neg k,show 2*6=2*4+4 from rfl,fG]
  rw[eG (fun j=>if j<8 then g (4+j) else if j<12 then eD g n (j-8) else g (4+j)) (fun j=>g (2*2+j)) (2*4) (fun j hj=>by rw[if_pos (by omega)])]
  simp[tot,eD,mw,mr]
  omega
 have e5:tot g 12=tot g 4+tot (fun j=>g (2*2+j)) 8:=fG g 2 8
 rw[e4,e5]
 omega
theorem ka {g x:Nat→Int}{L:Nat}(hg:az g)(hx:az x)(h0:x 0=g 0)(hn0:g 0≠0)(hL:24≤L)(hp:ax x L=0)(hp':ax g L=0)(hb:bz x=bz g)
 (hT:bz g=false→tot (bq x L) (bo x L)%65535=tot (bq g L) (bo g L)%65535):cK x L=cK g L:=by
 unfold cK
 rw[hp,hp',hb]
 cases hbb:bz g
 ·have h1:=nM hx (n:=L) (by rw[h0];exact hn0) hL
  have h2:=nM hg (n:=L) hn0 hL
  rw[hT hbb,←h2]at h1
  rw[Bool.eq_iff_iff.2 h1]
 rfl
theorem sP (g:Nat→Int):bz (cm g)=false:=by
 unfold cm
 split
 ·unfold bz;rw[ij (by omega) (by omega)];simp
 rename_i h
 simpa using h
theorem qj {g x:Nat→Int}(h0:x 0=g 0)(h1:x 22=g 22)(h2:x 23=g 23):bz x=bz g:=by unfold bz;rw[h0,eU,eU,h1,h2]
theorem vy {g:Nat→Int}{L a m:Nat}{v:Int}(ha:16≤a)(hs:a+m≤aI (g 0)∨aI (g 0)+2≤a):bz (bN g L a m v)=bz g:=by
 unfold bN
 split
 ·rename_i hb
  have k:g 0=2:=by unfold bz at hb;simp at hb;exact hb.1
  have h22:aI (g 0)=22:=by unfold aI;rw[if_neg (by omega)]
  exact qj (aH (by omega)) (aH (by omega)) (aH (by omega))
 rename_i hb
 rw[sP]
 simpa using hb
theorem xW {g:Nat→Int}{L a m:Nat}{v:Int}(hg:az g)(hL:24≤L)(hL':L≤1500)(ha:16≤a)(hm:a+m≤L)(hm0:0<m)(hs:a+m≤aI (g 0)∨aI (g 0)+2≤a)(hb:bz g=false) :
 tot (bq (bN g L a m v) L) (bo (bN g L a m v) L)%65535=tot (bq g L) (bo g L)%65535:=by
 obtain ⟨σ,hσ,h1,h2⟩:=eH (g 0)
 have hx:=dd hg a m v
 have hx0:ah g a m v 0=g 0:=aH (by omega)
 unfold bN
 rw[if_neg (by rw[hb];decide),qh (b_ _ _ _ hx) hL]
 have hi:a-a%2=2*(a/2):=by omega
 rw[hi]
 have hmain:=lO (F:=fun x=>tot (bq x L) (bo x L)) (s:=aI (g 0)) (L:=L) hg σ hσ (by omega) (fun x=>x 0=g 0) (fun x v h=>by rw[aH (by omega)];exact h)
  (fun x v hB hr hv hv'=>by have:=o6 hB (n:=L) v hv hv' hL;rw[hr]at this;exact this) ((m+a%2+1)/2) (a/2) (ah g a m v) hx hx0 (fun q h3 h4=>by omega)
 rw[hmain]
 have hd:=m6 (g:=g) (x:=ah g a m v) (L:=L) (a:=a/2) (k:=(m+a%2+1)/2) (n:=(L+1)/2) (by omega) (by omega) (fun j hj=>aH (by omega))
 rw[show min (2*((L+1)/2)) L=L from by omega]at hd
 have ex:∀N,N≤16→tot (ah g a m v) N=tot g N:=fun N hN=>eG _ _ _ (fun j hj=>aH (by omega))
 by_cases k:g 0=3
 ·rw[tK (by rw[hx0];exact k) (by omega) hL',tK k (by omega) hL',hx0,ex 16 (by omega)]
  omega
 rw[o5 (by rw[hx0];exact k) (by omega) hL',o5 k (by omega) hL',hx0,ex 16 (by omega),ex 4 (by omega),ex 12 (by omega)]
 omega
theorem mX {g:Nat→Int}{L a m:Nat}{v:Int}(hg:az g)(ha:24≤a)(hm:a+m≤L)(hm0:0<m)(hp:ax g L=0):cK (bN g L a m v) L=cK g L:=by
 obtain ⟨h1,h2,h3,_⟩:=du hp
 have hA:=(eH (g 0)).choose_spec
 exact ka hg (nJ hg _ _ _ _) (k_ (by omega) (by omega) (by omega)) h3 h1 (iV ha hp) hp (vy (by omega) (by omega)) (fun hb=>xW hg h1 h2 (by omega) hm hm0 (by omega) hb)
theorem tL {g x:Nat→Int}{n:Nat}(h0:x 0=g 0)(h4:∀j,4≤j→j<12→x j=g j)(h16:∀j,16≤j→x j=g j):tot (bq x n) (bo x n)=tot (bq g n) (bo g n):=by
 have e1:bo x n=bo g n:=by unfold bo;rw[h0]
 rw[e1]
 refine eG _ _ _ fun j _=>?_
 have e2:eD x n=eD g n:=by funext j;unfold eD;rw[h0]
 unfold bq
 rw[h0,e2]
 by_cases k:g 0=3
 ·rw[if_pos k,if_pos k]
  split
  ·rfl
  exact h16 _ (by omega)
 rw[if_neg k,if_neg k]
 split
 ·exact h4 _ (by omega) (by omega)
 split
 ·rfl
 exact h16 _ (by omega)
theorem sR {g:Nat→Int}{L:Nat}(hg:az g)(h:fW g L=0):cK (aO g) L=cK g L:=by
 obtain ⟨hp,h1⟩:=ry h
 have pf:=du hp
 exact ka hg (jj hg h) (dZ (by omega) (by omega)) pf.2.2.1 pf.1 (kz hg h) hp (qj (dZ (by omega) (by omega)) (dZ (by omega) (by omega)) (dZ (by omega) (by omega)))
  (fun _=>by rw[tL (dZ (by omega) (by omega)) (fun j h1 h2=>dZ (by omega) (by omega)) (fun j h1=>dZ (by omega) (by omega))])
theorem Cx {g:Nat→Int}{L:Nat}(hg:az g)(h:fW g L=0):Pe (aj (aO g) L) { aj g L with life:=g 1-1 }:=by
 obtain ⟨hp,h1⟩:=ry h
 have o:∀j,j≠1→(j<14∨16≤j)→aO g j=g j:=fun j a b=>dZ a b
 have n4:num (aO g) 4 4=num g 4 4:=cg fun j a b=>o j (by omega) (by omega)
 have n8:num (aO g) 8 4=num g 8 4:=cg fun j a b=>o j (by omega) (by omega)
 have n16:num (aO g) 16 2=num g 16 2:=cg fun j a b=>o j (by omega) (by omega)
 have n18:num (aO g) 18 2=num g 18 2:=cg fun j a b=>o j (by omega) (by omega)
 have n20:num (aO g) 20 2=num g 20 2:=cg fun j a b=>o j (by omega) (by omega)
 have n22:num (aO g) 22 2=num g 22 2:=cg fun j a b=>o j (by omega) (by omega)
 have e1:aO g 1=g 1-1:=by unfold aO;rw[aH (by omega)];unfold set1;rw[if_pos rfl]
 unfold aj
 rw[kz hg h,hp,if_pos rfl,if_pos rfl]
 unfold dW
 rw[o 0 (by omega) (by omega),o 12 (by omega) (by omega),o 16 (by omega) (by omega),o 20 (by omega) (by omega),o 21 (by omega) (by omega),n4,n8,n16,n18,n20,n22,e1]
 split
 ·exact⟨rfl,rfl,rfl,rfl,rfl,rfl,rfl,rfl,rfl,rfl,rfl,rfl,fun _ _=>rfl,rfl,fun j _=>o _ (by omega) (by omega)⟩
 split
 ·exact⟨rfl,rfl,rfl,rfl,rfl,rfl,rfl,rfl,rfl,rfl,rfl,rfl,fun _ _=>rfl,rfl,fun j _=>o _ (by omega) (by omega)⟩
 exact⟨rfl,rfl,rfl,rfl,rfl,rfl,rfl,rfl,rfl,rfl,rfl,rfl,fun j _=>o _ (by omega) (by omega),rfl,fun j _=>o _ (by omega) (by omega)⟩
theorem ue {g:Nat→Int}{L:Nat}{s:Bool}{ad po:Int}:bz (bp g L s ad po)=bz g:=by
 have ha:=mx s
 rw[mK]
 split
 ·have o:∀j,(j=0∨j=22∨j=23)→aL 14 L g 2 (aA s) (aE g s ad po) j=g j:=fun j hj=>by rw[dq (by omega),ik (by omega) (by omega)]
  exact qj (o 0 (by omega)) (o 22 (by omega)) (o 23 (by omega))
 rename_i hb
 rw[sP]
 simpa using hb
theorem EL {g:Nat→Int}{L:Nat}{s:Bool}{ad po:Int}(hg:az g)(hL:24≤L)(hL':L≤1500)(h3:g 0≠3)(hb:bz g=false) :
 tot (bq (bp g L s ad po) L) (bo (bp g L s ad po) L)%65535=tot (bq g L) (bo g L)%65535:=by
 have ha:=mx s
 have hs:aI (g 0)=22:=by unfold aI;rw[if_neg h3]
 have hx:=na hg s ad po
 have hx0:aE g s ad po 0=g 0:=ik (by omega) (by omega)
 have hx2:az (aL 14 L g 2 (aA s) (aE g s ad po)):=b_ _ _ _ hx
 have o2:∀j,(j<14∨16≤j)→aL 14 L g 2 (aA s) (aE g s ad po) j=aE g s ad po j:=fun j hj=>dq hj _ _ _
 obtain ⟨q,hq⟩:∃q,aA s=2*q:=⟨aA s/2,by omega⟩
 obtain ⟨r,hr⟩:∃r,pA s=2*r:=⟨pA s/2,by omega⟩
 rw[mK,if_neg (by rw[hb];decide),qh (b_ _ _ _ (b_ _ _ _ hx2)) hL]
 have step:=fun (k a:Nat) (x:Nat→Int) (hB:az x) (h0:x 0=g 0) (hk:∀q',a≤q'→q'<a+k→q'≠11∧2*q'<L)=>
  lO (F:=fun x=>tot (bq x L) (bo x L)) (s:=22) (L:=L) hg 11 rfl (by omega) (fun x=>x 0=g 0) (fun x v h=>by rw[aH (by omega)];exact h)
   (fun x v hB hr hv hv'=>by have:=o6 hB (n:=L) v hv hv' hL;rw[hr,hs]at this;exact this) k a x hB h0 hk
 have y0:aL 14 L g 2 (aA s) (aE g s ad po) 0=g 0:=by rw[o2 0 (by omega),hx0]
 have m1:=step 2 q (aL 14 L g 2 (aA s) (aE g s ad po)) hx2 y0 (fun q' h1 h2=>by omega)
 have z0:aL 22 L g 2 (2*q) (aL 14 L g 2 (aA s) (aE g s ad po)) 0=g 0:=by rw[dq (by omega),y0]
 have m2:=step 1 r (aL 22 L g 2 (2*q) (aL 14 L g 2 (aA s) (aE g s ad po))) (b_ _ _ _ hx2) z0 (fun q' h1 h2=>by omega)
 rw[hr]
 have e0:aL 22 L g 2 (aA s) (aL 14 L g 2 (aA s) (aE g s ad po))=aL 22 L g 2 (2*q) (aL 14 L g 2 (aA s) (aE g s ad po)):=by rw[←hq]
 rw[e0,m2]
 have f1:dS (dP g (aL 14 L g 2 (aA s) (aE g s ad po)) L) q 2=dS (dP g (aE g s ad po) L) q 2:=ly 2 q fun q' h1 h2=>rn (o2 _ (by omega)) (fun _=>o2 _ (by omega)) (by omega)
 have f2:dS (dP g (aL 22 L g 2 (2*q) (aL 14 L g 2 (aA s) (aE g s ad po))) L) r 1=dS (dP g (aE g s ad po) L) r 1:=ly 1 r fun q' h1 h2=>rn (by rw[dq (by omega),o2 _ (by omega)]) (fun _=>by rw[dq (by omega),o2 _ (by omega)]) (by omega)
 have f3:tot (bq (aL 14 L g 2 (aA s) (aE g s ad po)) L) (bo (aL 14 L g 2 (aA s) (aE g s ad po)) L)=tot (bq (aE g s ad po) L) (bo (aE g s ad po) L):=tL (o2 0 (by omega)) (fun j h1 h2=>o2 j (by omega)) (fun j h1=>o2 j (by omega))
 -- what was laid
 have d1:=m6 (g:=g) (x:=ah g (aA s) 4 ad) (L:=L) (a:=q) (k:=2) (n:=(L+1)/2) (by omega) (by omega) (fun j hj=>aH (by omega))
 have d2:=m6 (g:=ah g (aA s) 4 ad) (x:=aE g s ad po) (L:=L) (a:=r) (k:=1) (n:=(L+1)/2) (by omega) (by omega) (fun j hj=>by rw[jd,aH (by omega)])
 rw[show min (2*((L+1)/2)) L=L from by omega]at d1 d2
 have f4:dS (dP g (aE g s ad po) L) q 2=dS (dP g (ah g (aA s) 4 ad) L) q 2:=ly 2 q fun q' h1 h2=>rn (by rw[jd,aH (by omega)]) (fun _=>by rw[jd,aH (by omega)]) (by omega)
 have f5:dS (dP g (aE g s ad po) L) r 1=dS (dP (ah g (aA s) 4 ad) (aE g s ad po) L) r 1:=ly 1 r fun q' h1 h2=>by
  unfold dP
  rw[gG (x:=ah g (aA s) 4 ad) (y:=g) (aH (by omega)) (fun _=>aH (by omega)) (by omega)]
 have t4:tot (aE g s ad po) 4=tot g 4:=eG _ _ _ fun j hj=>ik (by omega) (by omega)
 have t12:tot (aE g s ad po) 16-tot (aE g s ad po) 12=tot g 16-tot g 12:=by
  have u1:=fG (aE g s ad po) 6 4
  have u2:=fG g 6 4
  have u3:tot (fun j=>aE g s ad po (2*6+j)) 4=tot (fun j=>g (2*6+j)) 4:=eG _ _ _ fun j hj=>ik (by omega) (by omega)
  rw[show 2*6+4=16 from rfl,show 2*6=12 from rfl]at u1 u2
  rw[show 2*6=12 from rfl]at u3
  omega
 have g1:=o5 (g:=aE g s ad po) (n:=L) (by rw[hx0];exact h3) (by omega) hL'
 have g2:=o5 (g:=g) (n:=L) h3 (by omega) hL'
 rw[f1,f3]at m1
 rw[f2]
 rw[hx0]at g1
 omega
theorem zj {g:Nat→Int}{L:Nat}{s:Bool}{ad po:Int}(hg:az g)(h:fV g L ad po=0):cK (bp g L s ad po) L=cK g L:=by
 obtain ⟨hp,h3,_,_⟩:=uf h
 have pf:=du hp
 have ha:=mx s
 exact ka hg (pn hg _ _ _ _) (by rw[qW (by omega) (by omega),ik (by omega) (by omega)]) pf.2.2.1 pf.1 (l0 hg h) hp ue (fun hb=>EL hg pf.1 pf.2.1 h3 hb)
theorem zp {x n:Int}(h:cn x n=true):0≤x∧x≤n:=by unfold cn at h;simpa using h
theorem Bo {g:Nat→Int}{L:Nat}{s:Bool}{ad po:Int}(hg:az g)(h:fV g L ad po=0):Pe (aj (bp g L s ad po) L) (if s=true then { aj g L with src:=ad,fp:=po } else { aj g L with dst:=ad,tp:=po }):=by
 obtain ⟨hp,h3,ra,rp⟩:=uf h
 have ha:=zp ra
 have hpo:=zp rp
 have Qv:=mx s
 have o:∀j,(j<14∨16≤j)→(j<22∨24≤j)→bp g L s ad po j=aE g s ad po j:=fun j a b=>qW a b
 have q:∀j,(j<4∨j=12∨j=13∨(20≤j∧j<22)∨24≤j)→bp g L s ad po j=g j:=fun j hj=>by rw[o j (by omega) (by omega),ik (by omega) (by omega)]
 have nm:∀a n,(a+n≤14∨16≤a)→(a+n≤22∨24≤a)→num (bp g L s ad po) a n=num (aE g s ad po) a n:=fun a n h1 h2=>cg fun j a b=>o j (by omega) (by omega)
 have nl:num (bp g L s ad po) 20 2=num g 20 2:=cg fun j a b=>q j (by omega)
 have hbr:=ue (g:=g) (L:=L) (s:=s) (ad:=ad) (po:=po)
 have e0:bp g L s ad po 0=g 0:=q 0 (by omega)
 have hbare:g 0=2→(num (bp g L s ad po) 22 2==0)=(num g 22 2==0):=fun h2=>by
  unfold bz at hbr
  rw[e0,h2]at hbr
  simpa using hbr
 have Me:num (bp g L s ad po) 4 4=(if s=true then ad else num g 4 4)∧num (bp g L s ad po) 8 4=(if s=true then num g 8 4 else ad)∧num (bp g L s ad po) 16 2=(if s=true then po else num g 16 2)∧num (bp g L s ad po) 18 2=(if s=true then num g 18 2 else po):=by
  rw[nm 4 4 (by omega) (by omega),nm 8 4 (by omega) (by omega),nm 16 2 (by omega) (by omega),nm 18 2 (by omega) (by omega)]
  cases s
  ·have e:aE g false ad po=ah (ah g 8 4 ad) 18 2 po:=rfl
   rw[e,fw (by omega),fw (by omega),fw (by omega),pW ha.1 ha.2,fw (by omega),fw (by omega),ij hpo.1 hpo.2]
   exact⟨rfl,rfl,rfl,rfl⟩
  have e:aE g true ad po=ah (ah g 4 4 ad) 16 2 po:=rfl
  rw[e,fw (by omega),pW ha.1 ha.2,fw (by omega),fw (by omega),ij hpo.1 hpo.2,fw (by omega),fw (by omega)]
  exact⟨rfl,rfl,rfl,rfl⟩
 obtain ⟨n4,n8,n16,n18⟩:=Me
 have e:aj (bp g L s ad po) L=dW (bp g L s ad po) L:=by unfold aj;rw[l0 hg h,if_pos rfl]
 have e':aj g L=dW g L:=by unfold aj;rw[hp,if_pos rfl]
 rw[e,e']
 unfold dW
 rw[e0,if_neg h3,if_neg h3,q 1 (by omega),q 12 (by omega),q 20 (by omega),q 21 (by omega),n4,n8,n16,n18,nl]
 by_cases h2:g 0=2
 ·rw[if_pos h2,if_pos h2,hbare h2]
  cases s
  ·exact⟨rfl,rfl,rfl,rfl,rfl,rfl,rfl,rfl,rfl,rfl,rfl,rfl,fun _ _=>rfl,rfl,fun j _=>q _ (by omega)⟩
  exact⟨rfl,rfl,rfl,rfl,rfl,rfl,rfl,rfl,rfl,rfl,rfl,rfl,fun _ _=>rfl,rfl,fun j _=>q _ (by omega)⟩
 rw[if_neg h2,if_neg h2]
 cases s
 ·exact⟨rfl,rfl,rfl,rfl,rfl,rfl,rfl,rfl,rfl,rfl,rfl,rfl,fun j _=>q _ (by omega),rfl,fun j _=>q _ (by omega)⟩
 exact⟨rfl,rfl,rfl,rfl,rfl,rfl,rfl,rfl,rfl,rfl,rfl,rfl,fun j _=>q _ (by omega),rfl,fun j _=>q _ (by omega)⟩
theorem wY (s:Sp)(w:World):Calls Tryz.prog 23 #[gV s] w fun e w'=>e =.returned (.bool (eP s.st))∧Below w.heap.size w w':=by
 unfold eP gV
 obtain ⟨st,ad,po,we,si⟩:=s
 simp only
 cases h1:(st==1) <;> cases h2:(st==2) <;> cases h3:(st==3)
 all_goals
  go_enter Tryz.func23,Tryz.ntmps23
  go_wp2
  go_ret
  exact⟨rfl,(Below.refl _ _).alloc (Nat.le_refl _) _⟩
theorem CI {g:Nat→Int}{L a m:Nat}{v:Int}{j:Nat}(h:a≤j)(ha:24≤a):bN g L a m v j=ah g a m v j:=by
 have hA:=(eH (g 0)).choose_spec
 unfold bN
 split
 ·rfl
 have e0:aL (aI (g 0)) L g ((m+a%2+1)/2) (a-a%2) (ah g a m v) 0=g 0:=by rw[dq (by omega),aH (by omega)]
 by_cases k2:g 0=2
 ·rw[gJ (by omega),dq (by omega)]
 rw[mO (by rw[e0];exact k2),dq (by omega)]
theorem Fg {g:Nat→Int}{L:Nat}(hp:ax g L=0)(h:1<g 1):fW g L=0:=by
 unfold fW;rw[if_neg (by rw[hp];simp),if_neg (by omega)]
theorem EK {g:Nat→Int}{L:Nat}{ad po:Int}(hp:ax g L=0)(h3:g 0≠3)(h1:0≤ad∧ad≤4294967295)(h2:0≤po∧po≤65535):fV g L ad po=0:=by
 unfold fV cn
 rw[if_neg (by rw[hp];simp),if_neg h3,if_pos (by simp;omega)]
theorem jP {p q r:Pk}(h:Pe p q)(k:Pe q r):Pe p r:=
 ⟨h.kind.trans k.kind,h.life.trans k.life,h.piece.trans k.piece,h.src.trans k.src,h.dst.trans k.dst,h.fp.trans k.fp,h.tp.trans k.tp,h.flags.trans k.flags,h.label.trans k.label,h.bare.trans k.bare,h.code.trans k.code,h.no.trans k.no,
  fun j hj=>(h.go j hj).trans (k.go j (by rw[←h.no];exact hj)),h.nd.trans k.nd,fun j hj=>(h.gd j hj).trans (k.gd j (by rw[←h.nd];exact hj))⟩
theorem Ge {p q:Pk}(h:Pe p q)(a b:Int):Pe { p with src:=a,fp:=b } { q with src:=a,fp:=b }:=
 ⟨h.kind,h.life,h.piece,rfl,h.dst,rfl,h.tp,h.flags,h.label,h.bare,h.code,h.no,h.go,h.nd,h.gd⟩
theorem Gg {p q:Pk}(h:Pe p q)(a b:Int):Pe { p with dst:=a,tp:=b } { q with dst:=a,tp:=b }:=
 ⟨h.kind,h.life,h.piece,h.src,rfl,h.fp,rfl,h.flags,h.label,h.bare,h.code,h.no,h.go,h.nd,h.gd⟩
def moved (p:Pk)(s:Bool)(a b:Int):Pk:=if s=true then { p with src:=a,fp:=b } else { p with dst:=a,tp:=b }
theorem Bf {p q:Pk}(h:Pe p q)(s:Bool)(a b:Int):Pe (moved p s a b) (moved q s a b):=by
 cases s
 ·exact Gg h a b
 exact Ge h a b
theorem Gw {g:Nat→Int}{L:Nat}{p:Pk}{s:Bool}{ad po:Int}(hg:az g)(hp:Pe (aj g L) p)(h:fV g L ad po=0):Pe (aj (bp g L s ad po) L) (moved p s ad po):=
 jP (Bo hg h) (Bf hp s ad po)
theorem rM {g:Nat→Int}{L:Nat}{p:Pk}(hP:ax g L=0)(h:Pe (aj g L) p):g 0=p.kind:=(fi hP).2.symm.trans h.kind
theorem Ey {g:Nat→Int}{L:Nat}{p:Pk}(hP:ax g L=0)(h:Pe (aj g L) p):g 1=p.life:=(fi hP).1.symm.trans h.life
theorem EC {p:Pl}{nr:Nat→Option Int}{g:Nat→Int}{n s:Nat}{x y:Pk}(h:Pe x y):outT p nr g n x s=outT p nr g n y s:=by
 unfold outT ja
 rw[h.kind,h.dst,h.tp,yA h]
theorem AU {p:Pl}{nr:Nat→Option Int}{g:Nat→Int}{n s:Nat}{x:Pk}(hp:ax g n=0)(pe:Pe (aj g n) x)(h0:x.piece=0)(h1:1<x.life)(hk:x.kind≠3)(hd:¬(x.dst=p.a∧x.tp=p.p))(hf:fD p x.src x.fp=some s):df p true nr g n=outT p nr g n x s:=by
 unfold df
 dsimp only
 rw[if_neg (by simp),hp,if_neg (by simp),pe.piece,if_neg (by simp[h0]),pe.life,if_neg (by omega),pe.dst,pe.kind,pe.tp,if_neg (fun h=>hk h.2),if_neg hd,if_neg hk,pe.src,pe.fp,hf]
 exact EC pe
theorem xX {g:Nat→Int}{L i:Nat}{v:Int}(hp:ax g L=0)(h1:g 0=1)(hi:i+4≤(aj g L).no):Pe (aj (bN g L (24+i) 4 v) L) { aj g L with go:=ah (aj g L).go i 4 v }:=by
 have hs:aI (g 0)=22:=by rw[h1];decide
 have o:∀j,j<24+i∨24+i+4≤j→(j<22∨24≤j)→bN g L (24+i) 4 v j=g j:=fun j a b=>k_ (by omega) (by omega) (by omega)
 have e0:bN g L (24+i) 4 v 0=g 0:=o 0 (by omega) (by omega)
 have q:=iV (v:=v) (m:=4) (show 24≤24+i by omega) hp
 have nm:∀a m,a+m≤22→num (bN g L (24+i) 4 v) a m=num g a m:=fun a m h=>cg fun j a b=>o j (by omega) (by omega)
 unfold aj at hi ⊢
 rw[if_pos hp]at hi
 rw[if_pos q,if_pos hp]
 unfold dW at hi ⊢
 rw[h1,if_neg (by decide),if_neg (by decide)]at hi
 rw[e0,h1,if_neg (by decide),if_neg (by decide),if_neg (by decide),if_neg (by decide),o 1 (by omega) (by omega),o 12 (by omega) (by omega),o 20 (by omega) (by omega),o 21 (by omega) (by omega),nm 4 4 (by omega),nm 8 4 (by omega),nm 16 2 (by omega),nm 18 2 (by omega)]
 dsimp only at hi
 refine⟨rfl,rfl,rfl,rfl,rfl,rfl,rfl,rfl,rfl,rfl,rfl,rfl,fun j hj=>?_,rfl,fun j hj=>o _ (by omega) (by omega)⟩
 show bN g L (24+i) 4 v (24+j)=ah (fun j=>g (24+j)) i 4 v j
 by_cases hij:i≤j
 ·rw[CI (by omega) (by omega)]
  unfold ah
  by_cases h4:j<i+4
  ·rw[if_pos (by omega),if_pos (by omega)];congr 1;omega
  rw[if_neg (by omega),if_neg (by omega)]
 rw[o _ (by omega) (by omega)]
 unfold ah
 rw[if_neg (by omega)]
theorem De {x y:Pk}(h:Pe x y){i:Nat}{v:Int}:Pe { x with go:=ah x.go i 4 v } { y with go:=ah y.go i 4 v }:=
 ⟨h.kind,h.life,h.piece,h.src,h.dst,h.fp,h.tp,h.flags,h.label,h.bare,h.code,h.no,fun j hj=>by
  show ah x.go i 4 v j=ah y.go i 4 v j
  unfold ah;split;rfl;exact h.go j hj,h.nd,h.gd⟩
theorem Bg {x y:Pk}(h:Pe x y){a b:Int}(e:a=b):Pe { x with life:=a } { y with life:=b }:=
 ⟨h.kind,e,h.piece,h.src,h.dst,h.fp,h.tp,h.flags,h.label,h.bare,h.code,h.no,h.go,h.nd,h.gd⟩
theorem wF {g:Nat→Int}{n:Nat}{x:Pk}{s:Bool}{ad po:Int}(hg:az g)(hp:ax g n=0)(pe:Pe (aj g n) x)(h1:1<x.life)(hk:x.kind≠3)(ha:0≤ad∧ad≤4294967295)(hb:0≤po∧po≤65535) :
 ax (bp (aO g) n s ad po) n=0∧az (bp (aO g) n s ad po)∧Pe (aj (bp (aO g) n s ad po) n) (moved { x with life:=x.life-1 } s ad po)∧cK (bp (aO g) n s ad po) n=cK g n∧bp (aO g) n s ad po 0=g 0:=by
 have e0:=rM hp pe
 have e1:=Ey hp pe
 have hA:fW g n=0:=Fg hp (by rw[e1];exact h1)
 have hgA:=jj hg hA
 have NA:aO g 0=g 0:=dZ (by omega) (by omega)
 have hN:fV (aO g) n ad po=0:=EK (kz hg hA) (by rw[NA,e0];exact hk) ha hb
 have hP:=Cx hg hA
 exact⟨l0 hgA hN,pn hgA _ _ _ _,Gw hgA (jP hP (Bg pe (by rw[e1]))) hN,by rw[zj hgA hN,sR hg hA],vE⟩
theorem Fx {g:Nat→Int}{L:Nat}{v:Int}(hg:az g)(hp:ax g L=0)(h2:g 0=2)(hv:0≤v∧v≤65535):ax (bN g L 20 2 v) L=0∧cK (bN g L 20 2 v) L=cK g L∧Pe (aj (bN g L 20 2 v) L) { aj g L with label:=v }:=by
 have hs:aI (g 0)=22:=by rw[h2];decide
 have o:∀j,j<20∨24≤j→bN g L 20 2 v j=g j:=fun j a=>k_ (by omega) (by omega) (by omega)
 have hi:∀j,20≤j→j<22→bN g L 20 2 v j=eY v (21-j):=fun j a b=>by
  unfold bN
  split
  ·rw[iE a b]
  rw[gJ (by omega),dq (by omega),iE a b]
 have e0:bN g L 20 2 v 0=g 0:=o 0 (by omega)
 have hb:=vy (L:=L) (v:=v) (show 16≤20 by omega) (show 20+2≤aI (g 0)∨aI (g 0)+2≤20 by omega)
 obtain ⟨f1,f2,f3,_⟩:=du hp
 obtain ⟨a1,a2⟩:=iX hp
 have q:ax (bN g L 20 2 v) L=0:=by
  unfold ax
  rw[oh (g:=g) (fun j hj=>o j (by omega)),if_pos a1]
  unfold cJ at a2 ⊢
  rw[e0,h2,if_neg (by decide),if_neg (by omega),if_neg (fun h=>absurd h.1 (by decide))]
 refine⟨q,ka hg (nJ hg _ _ _ _) e0 f3 f1 q hp hb (fun h=>xW hg f1 f2 (by omega) (by omega) (by omega) (by omega) h),?_⟩
 have nm:∀a m,a+m≤20→num (bN g L 20 2 v) a m=num g a m:=fun a m h=>cg fun j a b=>o j (by omega)
 have nl:num (bN g L 20 2 v) 20 2=v:=jb (hi 20 (by omega) (by omega)) (hi 21 (by omega) (by omega)) hv.1 hv.2
 have hbare:(num (bN g L 20 2 v) 22 2==0)=(num g 22 2==0):=by
  unfold bz at hb
  rw[e0,h2]at hb
  simpa using hb
 unfold aj
 rw[if_pos q,if_pos hp]
 unfold dW
 rw[e0,h2,if_neg (by decide),if_pos rfl,if_neg (by decide),if_pos rfl,o 1 (by omega),o 12 (by omega),nm 4 4 (by omega),nm 8 4 (by omega),nm 16 2 (by omega),nm 18 2 (by omega),nl,hbare]
 exact⟨rfl,rfl,rfl,rfl,rfl,rfl,rfl,rfl,rfl,rfl,rfl,rfl,fun _ _=>rfl,rfl,fun j _=>o _ (by omega)⟩
theorem Gf {x y:Pk}(h:Pe x y)(v:Int):Pe { x with label:=v } { y with label:=v }:=
 ⟨h.kind,h.life,h.piece,h.src,h.dst,h.fp,h.tp,h.flags,rfl,h.bare,h.code,h.no,h.go,h.nd,h.gd⟩
theorem EB {p:Pl}{nr:Nat→Option Int}{g:Nat→Int}{n s:Nat}{x:Pk}(hp:Pt p)(hnr:mB nr)(hg:az g)(hq:ax g n=0)(pe:Pe (aj g n) x)(hk:x.kind=1∨x.kind=2)(hl:1<x.life)(hgo:az x.go)(hlb:0≤x.label∧x.label≤65535)(hs:s<64) :
 ∃F uc go' lb,outT p nr g n x s=⟨0,-1,false,n,F,uc⟩∧az F∧ax F n=0∧cK F n=cK g n∧az go'∧(0≤lb∧lb≤65535)∧(x.kind=1→lb=x.label)∧mB uc∧Pe (aj F n) { moved { x with life:=x.life-1 } true p.a p.p with go:=go',label:=lb }:=by
 have hk3:x.kind≠3:=by omega
 obtain ⟨q1,q2,q3,q4,q5⟩:=wF (s:=true) (ad:=p.a) (po:=p.p) hg hq pe hl hk3 hp.2.2.2.1 hp.2.2.2.2
 have e0:g 0=x.kind:=rM hq pe
 have ob:=ze p x s hs
 rcases hk with hk |hk
 ·by_cases hst:(ct x).2.2.2=true
  ·obtain ⟨i1,i2,i3⟩:=qz hst
   obtain ⟨u1,u2⟩:=qy hgo
   have Mi:24+x.no≤n:=by have:=(gW hg hq).2.2.2.2.2.2.1 (by rw[e0,hk]);rw[pe.no]at this;exact this
   have hw:=xX (i:=(ct x).1.toNat) (v:=gk (ct x).2.1 (ja p x s)) q1 (by rw[q5,e0,hk]) (by rw[q3.no];show _≤x.no;omega)
   refine⟨bN (bp (aO g) n true p.a p.p) n (24+(ct x).1.toNat) 4 (gk (ct x).2.1 (ja p x s)),m8 nr s (ct x).2.1,ah x.go (ct x).1.toNat 4 (gk (ct x).2.1 (ja p x s)),x.label,?_,nJ q2 _ _ _ _,iV (by omega) q1,?_,dd hgo _ _ _,hlb,fun _=>rfl,?_,?_⟩
   ·unfold outT
    dsimp only
    rw[if_neg (by omega),if_pos hst]
   ·rw[mX q2 (by omega) (by omega) (by omega) q1,q4]
   ·intro j v hj
    unfold m8 at hj
    split at hj
    ·injection hj with hj;rw[←hj];exact u1
    exact hnr j v hj
   exact jP hw (De q3)
  refine⟨bp (aO g) n true p.a p.p,nr,x.go,x.label,?_,q2,q1,q4,hgo,hlb,fun _=>rfl,hnr,q3⟩
  unfold outT
  dsimp only
  rw[if_neg (by omega),if_neg hst]
 obtain ⟨w1,w2,w3⟩:=Fx (v:=ja p x s) q2 q1 (by rw[q5,e0,hk]) (by have:=ob.1 hk;omega)
 refine⟨bN (bp (aO g) n true p.a p.p) n 20 2 (ja p x s),nr,x.go,ja p x s,?_,nJ q2 _ _ _ _,w1,by rw[w2,q4],hgo,by have:=ob.1 hk;omega,fun h=>absurd (hk.symm.trans h) (by decide),hnr,?_⟩
 ·unfold outT
  dsimp only
  rw[if_pos hk]
 exact jP w3 (Gf q3 _)
theorem GQ {p:Pl}{nr:Nat→Option Int}{g:Nat→Int}{n:Nat}{x:Pk}(hp:Pt p)(hg:az g)(hq:ax g n=0)(pe:Pe (aj g n) x)(hk:x.kind=1∨x.kind=2)(hl:1<x.life)(hgo:az x.go) :
 inT p nr g n x=c_ 9 nr∨∃(k:Nat) (c:Bool) (F go':Nat→Int),k<64∧jJ p x=k∧inT p nr g n x=⟨0,k,c,n,F,nr⟩∧c=(iT p x).isSome∧az F∧ax F n=0∧cK F n=cK g n∧az go'∧Pe (aj F n) { moved { x with life:=x.life-1 } false (p.s k).ad (p.s k).po with go:=go' }:=by
 have hk3:x.kind≠3:=by omega
 have e0:g 0=x.kind:=rM hq pe
 rcases CZ p x with h |⟨k,BP,h⟩
 ·left
  unfold inT
  rw[if_pos h]
 right
 have hsp:=hp.1 k BP
 obtain ⟨q1,q2,q3,q4,q5⟩:=wF (s:=false) (ad:=(p.s k).ad) (po:=(p.s k).po) hg hq pe hl hk3 hsp.1 hsp.2.1
 have hI:inT p nr g n x=⟨0,k,(iT p x).isSome,n,og p nr g n x k,nr⟩:=by
  unfold inT
  rw[h,if_neg (by omega)]
  rfl
 by_cases hst:(ct x).2.2.2=true∧(ct x).2.2.1≠0
 ·have hk1:x.kind=1:=by
   rcases hk with hk |hk
   ·exact hk
   have h0:=(gW hg hq).2.2.2.2.2.1 (by rw[e0,hk])
   rw[pe.no]at h0
   have:=(qz hst.1).2.1
   omega
  obtain ⟨i1,i2,i3⟩:=qz hst.1
  have Mi:24+x.no≤n:=by have:=(gW hg hq).2.2.2.2.2.2.1 (by rw[e0,hk1]);rw[pe.no]at this;exact this
  obtain ⟨b,hb⟩:∃b,b=fE nr k (ct x).2.2.1:=⟨_,rfl⟩
  have hw:=xX (i:=4+(ct x).1.toNat) (v:=b) q1 (by rw[q5,e0,hk1]) (by rw[q3.no];show _≤x.no;omega)
  refine⟨k,(iT p x).isSome,bN (bp (aO g) n false (p.s k).ad (p.s k).po) n (24+(4+(ct x).1.toNat)) 4 b,ah x.go (4+(ct x).1.toNat) 4 b,BP,h,?_,rfl,nJ q2 _ _ _ _,iV (by omega) q1,?_,dd hgo _ _ _,?_⟩
  ·rw[hI]
   unfold og
   dsimp only
   rw[if_pos hst,←hb,show 28+(ct x).1.toNat=24+(4+(ct x).1.toNat) from by omega]
  ·rw[mX q2 (by omega) (by omega) (by omega) q1,q4]
  exact jP hw (De q3)
 refine⟨k,(iT p x).isSome,bp (aO g) n false (p.s k).ad (p.s k).po,x.go,BP,h,?_,rfl,q2,q1,q4,hgo,q3⟩
 rw[hI]
 unfold og
 dsimp only
 rw[if_neg hst]
set_option maxHeartbeats 9000000 in
theorem Jw (A:Option Addr)(L c:Nat)(g:Nat→Int)(w:World)(h:By w A L g)(hg:az g)(hc:L≤c)(hb:L≤1000000) :
 Calls Tryz.prog 22 #[.slice A L c] w fun e w'=>e =.returned (.bool (cK g L))∧Below w.heap.size w w':=by
 have HP:=hid (gS A L c g w h hg hc hb)
 have cI:=hid (fun (W:World) (hw:Below w.heap.size w W)=>Sl.below h hw (Nat.le_refl _))
 have HG:=hid hg
 have HH:=hid h
 clear h hg
 obtain ⟨z,hz⟩:∃z,z=ax g L:=⟨_,rfl⟩
 unfold Parsed at HP
 rw[←hz]at HP
 cases hz0:(z==0)
 ·have HW:Hid (cK g L=false):=hid (by unfold cK;rw[←hz,hz0];rfl)
  generalize aj g L=p at HP
  clear hz
  go_enter Tryz.func22,Tryz.ntmps22
  go_wp2_with fail
  refine HP.out.mono ?_
  rintro x w1 ⟨O,D,rfl,hO,hD,hb1⟩
  obtain ⟨AO,cO,rfl,_,_,_⟩:=hO.aD
  obtain ⟨AD,cD,rfl,_,_,_⟩:=hD.aD
  have B1:=hid (hb1.alloc hb1.size (.cells #[p.kind,p.life,p.piece,p.src,p.dst,p.fp,p.tp,p.flags,p.label,p.bare,p.code,.slice AO p.no cO,.slice AD p.nd cD] 53))
  clear hb1 HP hO hD
  unfold bS cC
  go_simp
  have CE:=hid (Ce.made (w:=w1) (l:=[p.kind,p.life,p.piece,p.src,p.dst,p.fp,p.tp,p.flags,p.label,p.bare,p.code,.slice AO p.no cO,.slice AD p.nd cD]) (T:=53) rfl)
  simp only[List.toArray]at CE
  go_wp2_with fail
  go_ret
  exact⟨cf HW.out.symm,B1.out⟩
 have z0:ax g L=0:=by rw[←hz];simpa using hz0
 have pf:=du z0
 have n24:=pf.1
 have n15:=pf.2.1
 have HW:Hid (cK g L=(bz g || norm (tot (bq g L) (bo g L))==65535)):=hid (by unfold cK;rw[z0];rfl)
 have PB:=hid (pG z0)
 have OH:=hid (jo HG.out L)
 have Lm:Hid (bo g L≤140737488355328):=hid (by unfold bo;split <;> omega)
 have OE:=hid (fun W hW=>jV A L c g W hW HG.out n24 hc n15)
 clear pf z0 hz
 generalize aj g L=p at HP PB
 cases bb:p.bare
 ·rw[bb]at PB
  have BB:=hid bb
  clear bb
  go_enter Tryz.func22,Tryz.ntmps22
  go_wp2_with fail
  refine HP.out.mono ?_
  rintro x w1 ⟨O,D,rfl,hO,hD,hb1⟩
  obtain ⟨AO,cO,rfl,_,_,_⟩:=hO.aD
  obtain ⟨AD,cD,rfl,_,_,_⟩:=hD.aD
  have B1:=hid (hb1.alloc hb1.size (.cells #[p.kind,p.life,p.piece,p.src,p.dst,p.fp,p.tp,p.flags,p.label,p.bare,p.code,.slice AO p.no cO,.slice AD p.nd cD] 53))
  clear hb1 HP hO hD
  unfold bS cC
  go_simp
  have CE:=hid (Ce.made (w:=w1) (l:=[p.kind,p.life,p.piece,p.src,p.dst,p.fp,p.tp,p.flags,p.label,p.bare,p.code,.slice AO p.no cO,.slice AD p.nd cD]) (T:=53) rfl)
  simp only[List.toArray]at CE
  go_upto_region 2 with (fail)
  generalize (w1.alloc (.cells #[p.kind,p.life,p.piece,p.src,p.dst,p.fp,p.tp,p.flags,p.label,p.bare,p.code,.slice AO p.no cO,.slice AD p.nd cD] 53))=wA at *
  have k9:=CE.out.2.1 9 _ rfl
  rw[BB.out]at k9
  go_wp2_with fail
  refine(OE.out _ (cI.out _ B1.out)).mono ?_
  rintro x w2 ⟨A2,c2,rfl,hS,hb2⟩
  have S2:=hid hS
  have B2:=hid (B1.out.trans (hb2.mono B1.out.size))
  clear hS hb2 k9
  go_wp2_with fail
  refine(kO A2 _ c2 _ _ S2.out OH.out Lm.out).mono ?_
  rintro x w' ⟨rfl,rfl⟩
  go_wp2_with fail
  go_ret
  refine⟨cf ?_,B2.out⟩
  rw[HW.out,←PB.out]
  rfl
 rw[bb]at PB
 have BB:=hid bb
 clear bb
 go_enter Tryz.func22,Tryz.ntmps22
 go_wp2_with fail
 refine HP.out.mono ?_
 rintro x w1 ⟨O,D,rfl,hO,hD,hb1⟩
 obtain ⟨AO,cO,rfl,_,_,_⟩:=hO.aD
 obtain ⟨AD,cD,rfl,_,_,_⟩:=hD.aD
 have B1:=hid (hb1.alloc hb1.size (.cells #[p.kind,p.life,p.piece,p.src,p.dst,p.fp,p.tp,p.flags,p.label,p.bare,p.code,.slice AO p.no cO,.slice AD p.nd cD] 53))
 clear hb1 HP hO hD
 unfold bS cC
 go_simp
 have CE:=hid (Ce.made (w:=w1) (l:=[p.kind,p.life,p.piece,p.src,p.dst,p.fp,p.tp,p.flags,p.label,p.bare,p.code,.slice AO p.no cO,.slice AD p.nd cD]) (T:=53) rfl)
 simp only[List.toArray]at CE
 go_upto_region 2 with (fail)
 generalize (w1.alloc (.cells #[p.kind,p.life,p.piece,p.src,p.dst,p.fp,p.tp,p.flags,p.label,p.bare,p.code,.slice AO p.no cO,.slice AD p.nd cD] 53))=wA at *
 have k9:=CE.out.2.1 9 _ rfl
 rw[BB.out]at k9
 go_wp2_with fail
 go_ret
 refine⟨cf ?_,B1.out⟩
 rw[HW.out,←PB.out]
 rfl
theorem F8 {g:Nat→Int}{n:Nat}(hp:ax g n=0)(h3:g 0=3):aj g n ={ kind:=g 0,life:=g 1,piece:=g 12,src:=num g 4 4,dst:=num g 8 4,code:=g 16,nd:=n-20,gd:=fun j=>g (20+j) }:=by
 unfold aj dW
 rw[if_pos hp,if_pos h3]
theorem Af {g:Nat→Int}(h:g 0=3):bz g=false:=by unfold bz;rw[h];rfl
theorem yS {g:Nat→Int}{n:Nat}(hg:az g)(hp:ax g n=0)(h3:g 0=3)(hn:24≤n){a:Int}(ha:0≤a∧a≤4294967295):cK (eJ g n a) n=cK g n:=by
 obtain ⟨r1,r2,r3⟩:=nW hg hp h3 ha
 refine ka hg r3 (r2.trans h3.symm) (by omega) hn r1 hp (by rw[Af r2,Af h3]) (fun _=>?_)
 have e:bq (eJ g n a) n=bq g n:=by
  unfold bq
  rw[if_pos r2,if_pos h3]
  funext j
  try dsimp only
  split
  ·unfold eD;rw[r2,h3]
  unfold eJ;rw[if_neg (by omega)]
 have e2:bo (eJ g n a) n=bo g n:=by unfold bo;rw[if_pos r2,if_pos h3]
 rw[e,e2]
theorem Dj {g:Nat→Int}{L a m:Nat}{v:Int}(ha:24≤a)(hm:m=2∧v≤65535∨m=4∧v≤4294967295)(hv:0≤v):num (bN g L a m v) a m=v:=by
 rw[cg (g':=ah g a m v) (fun j h1 h2=>CI h1 ha)]
 rcases hm with ⟨rfl,h⟩ |⟨rfl,h⟩
 ·exact ij hv h
 exact pW hv h
theorem CN {g:Nat→Int}(h:g 0=3):aI (g 0)=18:=by unfold aI;rw[if_pos h]
end Go.Proofs.YtalnfkijiehjhaaGreat
namespace Go.Proofs.YtalnfkijiehjhaaGreat
theorem RZ (p:Pl)(f:Fl):eC p (iQ f).toNat = -1∨∃k:Nat,k<64∧(p.s k).st=2∧eC p (iQ f).toNat=k:=by
 have b:=qO f
 generalize iQ f=z at b
 obtain ⟨j,hj⟩:∃j:Nat,z=j:=⟨z.toNat,by omega⟩
 subst hj
 rcases tt (p:=p) (j:=j) (by omega) with h |⟨i,h1,h3,h2⟩
 ·exact .inl h
 exact .inr ⟨i,h1,h3,h2⟩
theorem Sm {g:Nat→Int}{n:Nat}(hg:az g)(hq:ax g n=0)(h3:g 0=3)(hl:1<g 1){sl:Sp}(ha:0≤sl.ad∧sl.ad≤4294967295)(hb:0≤sl.po∧sl.po≤65535)(hn:44≤n) :
 az (iu g n sl)∧ax (iu g n sl) n=0∧cK (iu g n sl) n=cK g n∧iu g n sl 0=3∧iu g n sl 1=g 1-1∧num (iu g n sl) 4 4=num g 4 4∧num (iu g n sl) 8 4=sl.ad∧num (iu g n sl) 24 4=sl.ad∧num (iu g n sl) 36 2=sl.po∧num (iu g n sl) 28 4=num g 28 4:=by
 obtain ⟨⟨A1,A2,A3⟩,⟨B1,B2⟩,⟨C1,C2⟩⟩:=sG hg hq hl h3 (q:=sl.po) ha hb
 have hA:=iO (n:=n) hq hl
 have aw:=sR hg hA
 obtain ⟨x,hx⟩:∃x:Pk,x ={ aj (aO g) n with dst:=sl.ad }:=⟨_,rfl⟩
 obtain ⟨A,wj⟩:∃A,A=aO g:=⟨_,rfl⟩
 have a1:A 1=g 1-1:=by rw[wj];unfold aO;rw[aH (by omega)];unfold set1;rw[if_pos rfl]
 have On:num A 4 4=num g 4 4:=by rw[wj];exact cg (fun j h1 h2=>dZ (by omega) (by omega))
 have a28:num A 28 4=num g 28 4:=by rw[wj];exact cg (fun j h1 h2=>dZ (by omega) (by omega))
 rw[←wj]at A1 A2 A3 B1 B2 C1 C2 hx
 have Kb:=yS A3 A1 A2 (by omega) ha
 obtain ⟨R1,R2,R3⟩:=nW A3 A1 A2 ha
 have hR:∀j,eJ A n sl.ad j=if j<16 then aF x j else A j:=fun j=>by rw[hx];rfl
 have hr3:=F8 A1 A2
 have b4:=f9 A3 4 4
 rw[show (256:Int)^4=4294967296 by decide]at b4
 have hdst:num (aF x) 8 4=sl.ad:=by
  rw[cg (g':=bU x) (fun j h1 h2=>dU (by omega)),rL (by rw[hx];exact ha.1) (by rw[hx];exact ha.2),hx]
 have hsrc:num (aF x) 4 4=num A 4 4:=by
  have e:x.src=num A 4 4:=by rw[hx,hr3]
  rw[cg (g':=bU x) (fun j h1 h2=>dU (by omega)),rK (by rw[e];exact b4.1) (by rw[e];omega),e]
 have hlf:aF x 1=A 1:=by rw[dU (by omega),xg,hx,hr3]
 have hF:iu g n sl=bN (bN (eJ A n sl.ad) n 24 4 sl.ad) n 36 2 sl.po:=by unfold iu;rw[wj]
 obtain ⟨R,hRe⟩:∃R,R=eJ A n sl.ad:=⟨_,rfl⟩
 rw[←hRe]at B1 B2 C1 C2 R1 R2 R3 Kb hF
 have hR':∀j,R j=if j<16 then aF x j else A j:=fun j=>by rw[hRe];exact hR j
 obtain ⟨V,hV⟩:∃V,V=bN R n 24 4 sl.ad:=⟨_,rfl⟩
 have V1:ax V n=0:=by rw[hV];exact iV (by omega) R1
 have V2:∀j,(j<24∨28≤j)→(j<18∨20≤j)→V j=R j:=fun j h h'=>by rw[hV];exact k_ h (by rw[CN R2];exact h') (by omega)
 have V0:V 0=3:=by rw[V2 0 (by omega) (by omega),R2]
 have V3:az V:=by rw[hV];exact nJ R3 _ _ _ _
 have V4:cK V n=cK R n:=by rw[hV];exact mX R3 (by omega) (by omega) (by omega) R1
 have V5:num V 24 4=sl.ad:=by rw[hV];exact Dj (by omega) (.inr ⟨rfl,ha.2⟩) ha.1
 rw[←hV]at hF
 have F2:∀j,(j<36∨38≤j)→(j<18∨20≤j)→iu g n sl j=V j:=fun j h h'=>by rw[hF];exact k_ h (by rw[CN V0];exact h') (by omega)
 have q:∀a m:Nat,(a+m≤18∨20≤a)→(a+m≤36∨38≤a)→num (iu g n sl) a m=num V a m:=fun a m h h'=>cg (fun j h1 h2=>F2 j (by omega) (by omega))
 have q2:∀a m:Nat,(a+m≤18∨20≤a)→(a+m≤24∨28≤a)→num V a m=num R a m:=fun a m h h'=>cg (fun j h1 h2=>V2 j (by omega) (by omega))
 refine⟨by rw[hF];exact nJ V3 _ _ _ _,by rw[hF];exact iV (by omega) V1,by rw[hF,mX V3 (by omega) (by omega) (by omega) V1,V4,Kb,wj,aw],by rw[F2 0 (by omega) (by omega),V0],?_,?_,?_,?_,?_,?_⟩
 ·rw[F2 1 (by omega) (by omega),V2 1 (by omega) (by omega),hR',if_pos (by omega),hlf,a1]
 ·rw[q 4 4 (by omega) (by omega),q2 4 4 (by omega) (by omega),cg (g':=aF x) (fun j h1 h2=>by rw[hR',if_pos (by omega)]),hsrc,On]
 ·rw[q 8 4 (by omega) (by omega),q2 8 4 (by omega) (by omega),cg (g':=aF x) (fun j h1 h2=>by rw[hR',if_pos (by omega)]),hdst]
 ·rw[q 24 4 (by omega) (by omega),V5]
 ·rw[hF];exact Dj (by omega) (.inl ⟨rfl,hb.2⟩) hb.1
 rw[q 28 4 (by omega) (by omega),q2 28 4 (by omega) (by omega),cg (g':=A) (fun j h1 h2=>by rw[hR',if_neg (by omega)]),a28]
theorem Sv {p:Pl}{x:Pk}{s:Int}(h:iT p x=some s):eP (p.s s.toNat).st=true:=by
 unfold iT at h
 cases h1:iy x with
 |none=>rw[h1]at h;cases h
 |some c=>
  rw[h1]at h
  change (jr (vF x.kind) p.r x.kind (fx p x.src x.fp) c).bind _=some s at h
  cases h2:jr (vF x.kind) p.r x.kind (fx p x.src x.fp) c with
  |none=>rw[h2]at h;cases h
  |some s'=>
   rw[h2]at h
   change (if eP (p.s s'.toNat).st=true then some s' else none)=some s at h
   split at h
   ·injection h with h;subst h;assumption
   cases h
structure Si (t:To):Prop where
 d:t.d≠0
 s:t.s = -1
 c:t.c=false
 n:t.n=0
structure Sg (p:Pl) (g:Nat→Int) (n:Nat) (t:To):Prop where
 d:t.d=0
 q:ax g n=0
 ln:t.n=n
 B:az t.f
 F:ax t.f n=0
 w:cK t.f n=cK g n
 lf:(aj t.f n).life=(aj g n).life-1
 kd:(aj t.f n).kind=(aj g n).kind
 goes:(t.s = -1∧t.c=false∧(aj t.f n).src=p.a∧(aj t.f n).fp=p.p∧(aj t.f n).dst=(aj g n).dst∧(aj t.f n).tp=(aj g n).tp)∨∃k:Nat,k<64∧t.s=k∧(aj t.f n).dst=(p.s k).ad∧(aj t.f n).src=(aj g n).src∧((aj g n).kind≠3→(aj t.f n).tp=(p.s k).po∧(aj t.f n).fp=(aj g n).fp)∧(t.c=true→eP (p.s k).st=true)∧(t.c=false→(p.s k).st=2)
theorem RJ {e:Int}{nr:Nat→Option Int}(h:e≠0):Si (c_ e nr):=⟨h,rfl,rfl,rfl⟩
theorem Sk {p:Pl}{nr:Nat→Option Int}{g:Nat→Int}{n:Nat}{x:Pk}(hp:Pt p)(hg:az g)(hq:ax g n=0)(pe:Pe (aj g n) x)(hk:x.kind=1∨x.kind=2)(hl:1<x.life)(hgo:az x.go):Si (inT p nr g n x)∨Sg p g n (inT p nr g n x):=by
 rcases GQ (nr:=nr) hp hg hq pe hk hl hgo with h |⟨k,c,F,go',BP,hs,h,hc,hB,hF,hw,hgo',hpe⟩
 ·left;rw[h];exact RJ (by decide)
 right
 rw[h]
 refine⟨rfl,hq,rfl,hB,hF,hw,?_,?_,.inr ⟨k,BP,rfl,hpe.dst,?_,fun _=>⟨hpe.tp,?_⟩,fun e=>?_,fun e=>?_⟩⟩
 ·rw[pe.life];exact hpe.life
 ·rw[pe.kind];exact hpe.kind
 ·rw[pe.src];exact hpe.src
 ·rw[pe.fp];exact hpe.fp
 ·have e:c=true:=e
  rw[hc]at e
  cases hb:iT p x with
  |none=>rw[hb]at e;cases e
  |some s=>
   have h1:=Sv hb
   unfold jJ at hs
   rw[hb]at hs
   have h2:s=(k:Int):=hs
   rw[h2]at h1
   exact h1
 have e:c=false:=e
 rw[hc]at e
 cases hb:iT p x with
 |some s=>rw[hb]at e;cases e
 |none=>
  unfold jJ at hs
  rw[hb]at hs
  have h2:eC p (iQ (fx p x.src x.fp)).toNat=(k:Int):=hs
  rcases RZ p (fx p x.src x.fp) with h3 |⟨i,h4,h5,h6⟩
  ·omega
  have:i=k:=by omega
  subst this
  exact h5
theorem Sc {p:Pl}{nr:Nat→Option Int}{g:Nat→Int}{n s:Nat}{x:Pk}(hp:Pt p)(hnr:mB nr)(hg:az g)(hq:ax g n=0)(pe:Pe (aj g n) x)(hk:x.kind=1∨x.kind=2)(hl:1<x.life)(hgo:az x.go)(hlb:0≤x.label∧x.label≤65535)(hs:s<64):Sg p g n (outT p nr g n x s):=by
 obtain ⟨F,uc,go',lb,h,hB,hF,hw,hgo',SN,_,_,hpe⟩:=EB (nr:=nr) hp hnr hg hq pe hk hl hgo hlb hs
 rw[h]
 refine⟨rfl,hq,rfl,hB,hF,hw,?_,?_,.inl ⟨rfl,rfl,hpe.src,hpe.fp,?_,?_⟩⟩
 ·rw[pe.life];exact hpe.life
 ·rw[pe.kind];exact hpe.kind
 ·rw[pe.dst];exact hpe.dst
 rw[pe.tp];exact hpe.tp
theorem Sd {p:Pl}{nr:Nat→Option Int}{g:Nat→Int}{n:Nat}(hp:Pt p)(hg:az g)(hq:ax g n=0)(h3:g 0=3)(hl:1<g 1):Si (iZ p nr g n (aj g n))∨Sg p g n (iZ p nr g n (aj g n)):=by
 unfold iZ
 split
 ·exact .inl (RJ (by decide))
 split
 ·exact .inl (RJ (by decide))
 rename_i hb hs
 right
 unfold i6 at hs ⊢
 rcases RZ p (fx p (num (aj g n).gd 8 4) (num (aj g n).gd 18 2)) with h |⟨k,hk,hst,h⟩
 ·exact absurd h hs
 rw[h]
 have hsp:=hp.1 k hk
 have hn:=((gW hg hq).2.2.2.2.2.2.2.2 h3).1
 obtain ⟨o1,o2,o3,o4,o5,o6,o7,_⟩:=Sm (sl:=p.s k) hg hq h3 hl hsp.1 hsp.2.1 hn
 have e:=F8 o2 o4
 have eg:=F8 hq h3
 rw[Int.toNat_natCast]
 refine⟨rfl,hq,rfl,o1,o2,o3,?_,?_,.inr ⟨k,hk,rfl,?_,?_,fun hne=>absurd (by rw[eg];exact h3) hne,fun e=>(by cases e),fun _=>hst⟩⟩
 ·show (aj (iu g n (p.s k)) n).life=_
  rw[e,eg];exact o5
 ·show (aj (iu g n (p.s k)) n).kind=_
  rw[e,eg];exact o4.trans h3.symm
 ·show (aj (iu g n (p.s k)) n).dst=_
  rw[e];exact o7
 show (aj (iu g n (p.s k)) n).src=_
 rw[e,eg];exact o6
theorem Sf {p:Pl}{nr:Nat→Option Int}{g:Nat→Int}{n:Nat}(hp:Pt p)(hnr:mB nr)(hg:az g):Si (df p true nr g n)∨Sg p g n (df p true nr g n):=by
 by_cases hq:ax g n=0
 case neg=>
  left
  have e:df p true nr g n=c_ (ax g n) nr:=by unfold df;dsimp only;rw[if_neg (by decide),if_pos hq]
  rw[e];exact RJ hq
 obtain ⟨b1,b2,b3,b4,b5,b6,b7⟩:=qM hg hq
 obtain ⟨l1,l2,l3,l4,l5,_⟩:=gW hg hq
 have pe:Pe (aj g n) (aj g n):=⟨rfl,rfl,rfl,rfl,rfl,rfl,rfl,rfl,rfl,rfl,rfl,rfl,fun _ _=>rfl,rfl,fun _ _=>rfl⟩
 by_cases h0:(aj g n).piece=0
 case neg=>
  left
  have e:df p true nr g n=c_ 6 nr:=by unfold df;dsimp only;rw[if_neg (by decide),if_neg (by simp[hq]),if_pos h0]
  rw[e];exact RJ (by decide)
 by_cases hl:(aj g n).life≤1
 case pos=>
  left
  have e:df p true nr g n=c_ 7 nr:=by unfold df;dsimp only;rw[if_neg (by decide),if_neg (by simp[hq]),if_neg (by simp[h0]),if_pos hl]
  rw[e];exact RJ (by decide)
 by_cases h3:(aj g n).dst=p.a∧(aj g n).kind=3
 case pos=>
  have e:df p true nr g n=iZ p nr g n (aj g n):=by unfold df;dsimp only;rw[if_neg (by decide),if_neg (by simp[hq]),if_neg (by simp[h0]),if_neg hl,if_pos h3]
  rw[e]
  exact Sd hp hg hq (by rw[←l3];exact h3.2) (by rw[←l4];omega)
 by_cases hd:(aj g n).dst=p.a∧(aj g n).tp=p.p
 case pos=>
  have hk:(aj g n).kind≠3:=fun h=>h3 ⟨hd.1,h⟩
  rw[vG hq pe h0 (by omega) hk hd]
  exact Sk hp hg hq pe (by rw[l3]at hk ⊢;omega) (by omega) b6
 by_cases hk:(aj g n).kind=3
 case pos=>
  left
  have e:df p true nr g n=c_ 8 nr:=by unfold df;dsimp only;rw[if_neg (by decide),if_neg (by simp[hq]),if_neg (by simp[h0]),if_neg hl,if_neg h3,if_neg hd,if_pos hk]
  rw[e];exact RJ (by decide)
 cases hf:fD p (aj g n).src (aj g n).fp with
 |none=>
  left
  have e:df p true nr g n=c_ 8 nr:=by unfold df;dsimp only;rw[if_neg (by decide),if_neg (by simp[hq]),if_neg (by simp[h0]),if_neg hl,if_neg h3,if_neg hd,if_neg hk,hf]
  rw[e];exact RJ (by decide)
 |some s=>
  right
  rw[AU hq pe h0 (by omega) hk hd hf]
  exact Sc hp hnr hg hq pe (by rw[l3]at hk ⊢;omega) (by omega) b6 (by omega) (wy hf)
end Go.Proofs.YtalnfkijiehjhaaGreat
namespace Go.Proofs.YtalnfkijiehjhaaGreat.planeTrue
open List renaming setIfInBounds_toArray→zA,set_cons_zero→zB,set_cons_succ→zC
attribute [local irreducible] FA FL iL
theorem HS.SQ {S:List Nat}{W w:World}{L:List Th}{a b c:Th}(h:HS S W w L)(hl:L.drop (L.length-3) =[a,b,c]):HS S W w [a,b,c]:=by
 rw[←hl]
 exact HS.sub h (List.drop_sublist _ _)
theorem c5 {w:World}{b:Nat}{x0 x1 x2 x3 x4:Value}(h:Ce w b [x0,x1,x2,x3,x4]):w.cell? ⟨b,0,none⟩=some x0∧w.cell? ⟨b,1,none⟩=some x1∧w.cell? ⟨b,2,none⟩=some x2∧w.cell? ⟨b,3,none⟩=some x3∧w.cell? ⟨b,4,none⟩=some x4:=⟨h.2.1 0 _ rfl,h.2.1 1 _ rfl,h.2.1 2 _ rfl,h.2.1 3 _ rfl,h.2.1 4 _ rfl⟩
theorem Sr {S:List Nat}{W w:World}{L:List Th}(hS:HS S W w L)(g:Nat→Int)(n:Nat)(hg:az g)(hn:n≤1000000)(A:Option Addr)(c:Nat)(hc:n≤c)(h:By w A n g)(p:Pk)(hp:p=aj g n)(E:Int)(hE:E=ax g n) :
 Calls Tryz.prog 19 #[.slice A n c] w fun e w'=>∃AO cO AD cD,e =.returned (.tuple #[.agg #[p.kind,p.life,p.piece,p.src,p.dst,p.fp,p.tp,p.flags,p.label,p.bare,p.code,.slice AO p.no cO,.slice AD p.nd cD],E])∧HS S W w' (fS 0 (.slice AO p.no cO) (.slice AD p.nd cD) p.no p.nd p.go p.gd::L):=by
 subst hp hE
 refine(gS A n c g w h hg hc hn).mono ?_
 rintro e w' ⟨O,D,rfl,hO,hD,hb⟩
 obtain ⟨AO,cO,rfl,_,_⟩:=hO.aD
 obtain ⟨AD,cD,rfl,_,_⟩:=hD.aD
 exact⟨AO,cO,AD,cD,rfl,hS.newP hb hO hD⟩
set_option maxHeartbeats 8000000 in
theorem walk (W:World)(A1:Option Addr)(n1 c1:Nat)(g1:Nat→Int)(hn1:n1≤c1)(hc1:c1≤maxLen)(hr1:Is W A1 n1 g1)(hg1:wJ g1)(hl1:∀ad,A1=some ad→0<n1→ad.block<W.heap.size)(tB:c1*8≤140737488351232)(A2:Option Addr)(n2 c2:Nat)(g2:Nat→Int)(hn2:n2≤c2)(hc2:c2≤maxLen)(hr2:Is W A2 n2 g2)(hg2:wJ g2)(hl2:∀ad,A2=some ad→0<n2→ad.block<W.heap.size)(tq:c2*8≤140737488351232)(A3:Option Addr)(n3 c3:Nat)(g3:Nat→Int)(GY:n3≤c3)(hc3:c3≤maxLen)(hr3:Is W A3 n3 g3)(hg3:wJ g3)(hl3:∀ad,A3=some ad→0<n3→ad.block<W.heap.size)(Q9:c3*8≤140737488351232) :
 Calls Tryz.prog 5 #[.slice A1 n1 c1,.slice A2 n2 c2,.slice A3 n3 c3] W fun e w'=>e =.returned (.bool true)∧Below W.heap.size W w':=by
 obtain ⟨p,hp⟩:∃p,p=fP g1 (min n1 60):=⟨_,rfl⟩
 have Ry:=hid (show jG p 60 from by rw[hp];exact(rS g1 _).mono (by omega))
 have Rz:=hid (show p.a=10∧p.p=80 from by rw[hp];exact ug g1 _)
 have OP:=hid (show Pt p from by rw[hp];exact Gz g1 _ (by omega))
 have mU:=hid (show Pw p from by rw[hp];exact xv g1 _)
 have MK:=hid (fun (w:World) (hb:Below W.heap.size W w)=>(show Calls Tryz.prog 9 #[.slice A1 n1 c1,.int .i64 60] w fun x w'=>x =.returned (.agg (FA 330 (pc p)))∧Below w.heap.size w w' from by rw[hp];exact MZ W A1 n1 c1 g1 hr1 hl1 hn1 hc1 60 (by decide) w hb))
 clear hp hr1 hl1 hg1 tB hn1 hc1
 have S0:Hid (HS [] W W []):=hid HS.start
 have HR2:=hid (show ∀(w:World),Below W.heap.size W w→Is w A2 n2 g2 from fun w h=>hr2.below h (Nat.le_refl _))
 have HG2:=hid hg2
 unfold maxLen at hc2
 have Rk:(n2:Int)≤9223372036854775807:=by have:=hn2;omega
 clear hr2 hg2 hl2 tq hn2 hc2
 have HR3:=hid (show ∀(w:World),Below W.heap.size W w→Is w A3 n3 g3 from fun w h=>hr3.below h (Nat.le_refl _))
 have Re:=hid hg3
 unfold maxLen at hc3
 have Rj:(n3:Int)≤9223372036854775807:=by have:=GY;omega
 clear hr3 hg3 hl3 Q9 GY hc3
 have OT:=hid (show mB (fun _=>none) from fun j v h=>by cases h)
 go_enter Tryz.func5,Tryz.ntmps5
 go_wp2_with fail
 refine(Mv _).mono ?_
 rintro e w1 ⟨rfl,hb⟩
 have S1:=hid (S0.out.below hb)
 clear hb S0
 go_simp
 go_wp2_with fail
 refine(MK.out _ S1.out.bl).mono ?_
 rintro e w2 ⟨rfl,hb⟩
 have S2:=hid (S1.out.below hb)
 clear hb S1 MK
 go_simp
 go_upto_region 4 with (first | ((with_reducible refine ay ?_);refine aS rfl (t9 rfl (LD _) (by omega) S2.out ?_);intro P w_ hZ _;have SA:=hid hZ;clear hZ) | ((with_reducible refine ay ?_);refine aS rfl (lk (A:=[]) 0 330 (pc p) (pc p) rfl rfl rfl SA.out (by omega) (fun j hj=>nY _ _ _ j hj) lp (t5 _) ?_);intro w_ hZ;have SX:=hid hZ;clear hZ))
 have S3:=hid (SX.out)
 clear SX SA S2
 go_wp2_with fail
 refine(plane_new S3.out).mono ?_
 rintro e QY ⟨pb,rfl,hz⟩
 have S4:=hid (hz)
 clear hz S3
 go_simp
 go_upto_region 7 with (fail)
 go_wp2_with ((with_reducible refine ay ?_);refine aS rfl (vQ 1 rfl 0 330 (pc p) rfl rfl S4.out (by omega) (fun j hj=>by rw[Nat.zero_add]) Tryz.underlying34 rfl lp ?_))
 refine(Aa (A:=[]) (B:=[aP P 330 (pc p)]) (nr:=fun _=>none) S4.out p mU.out).mono ?_
 rintro e QW ⟨rfl,sb,wb,hne,hz⟩
 have S5:=hid (hz)
 clear hz S4
 have OQ:=hid hne
 clear hne
 go_simp
 go_wp2_with fail
 go_loopg [9] 20 (fun gh i wx=>∃(k:Nat) (nr:Nat→Option Int),gh=20-k∧k≤20∧i =.int .i64 (k:Int)∧mB nr∧HS [] W wx [kg sb wb p,aP pb 130 (dD sb (nr)),aP P 330 (pc p)])
 case atStart=>exact⟨0,fun _=>none,by omega,by omega,rfl,OT.out,S5.out⟩
 clear S5
 obtain ⟨k,nr,hgh,hk,rfl,hnr,hS⟩:=hrel
 have U0:=hid hS
 have IW:=hid hnr
 clear hS hnr
 go_upto_region 9 with (fail)
 obtain ⟨bb,hbb⟩:∃bb:Bool,bb=(decide (k<n2)&&decide (k<n3)&&decide (k<20)):=⟨_,rfl⟩
 have eE:=hid hbb
 clear hbb
 go_cut [40] from 27 to 40 (fun x wx=>x =.bool bb∧wr=wx)
 case first=>
  by_cases h1:(k:Int)<n2
  ·by_cases h2:(k:Int)<n3
   ·by_cases h3:(k:Int)<20
    ·go_wp2_with fail
     go_meet
     exact⟨by rw[eE.out];simp;omega,rfl⟩
    go_wp2_with fail
    go_meet
    exact⟨by rw[eE.out];simp;omega,rfl⟩
   go_wp2_with fail
   go_meet
   exact⟨by rw[eE.out];simp;omega,rfl⟩
  go_wp2_with fail
  go_meet
  exact⟨by rw[eE.out];simp;omega,rfl⟩
 obtain ⟨rfl,rfl⟩:=hcut
 cases bb
 ·clear eE
  go_wp2_with fail
  go_ret
  exact⟨rfl,U0.out.bl⟩
 have hkn2:k<n2∧k<n3∧k<20:=by have:=eE.out;simp at this;exact⟨this.1.1,this.1.2,this.2⟩
 obtain ⟨hl1,hl2,hl3⟩:=hkn2
 clear eE
 have i1:(k:Int)<n2:=by omega
 have i2:(k:Int)<n3:=by omega
 have i3:(k:Int)<20:=by omega
 have z1:(0:Int)≤k:=by omega
 obtain ⟨bb2,off2,rfl⟩:=Sl.addr (HR2.out _ U0.out.bl) (by omega)
 have xY:=hid (fun (w:World) (h:Below W.heap.size W w)=>Sl.at_ (show Sl w (some ⟨bb2,off2,none⟩) n2 (fun j=>.int .i64 (g2 j)) from HR2.out w h) (j:=k) (by omega))
 have xp:=HG2.out k
 obtain ⟨kv,hkv⟩:∃v,v=g2 k:=⟨_,rfl⟩
 rw[←hkv]at xY xp
 clear hkv
 obtain ⟨bb3,CW,rfl⟩:=Sl.addr (HR3.out _ U0.out.bl) (by omega)
 have xK:=hid (fun (w:World) (h:Below W.heap.size W w)=>Sl.at_ (show Sl w (some ⟨bb3,CW,none⟩) n3 (fun j=>.int .i64 (g3 j)) from HR3.out w h) (j:=k) (by omega))
 have xl:=Re.out k
 obtain ⟨mv,hmv⟩:∃v,v=g3 k:=⟨_,rfl⟩
 rw[←hmv]at xK xl
 clear hmv
 go_upto_region 11 with (fail)
 refine wp_region_held_drew (S:=fun (w':World)=>HS [] W w' [kg sb wb p,aP pb 130 (dD sb (nr)),aP P 330 (pc p)]) (by kernel_rfl) ?_ (fun hHeld=>?_)
 ·exact U0.out.drew
 refine tk 0 (v:=.agg (FA 330 (pc p))) rfl (by kernel_rfl) (by kernel_rfl) (by kernel_rfl) (fun _ _ _ h=>h) rfl (fun w hSw=>jR rfl rfl ((hSw.fb 2 rfl).load 0 330 (pc p) (by omega) (fun j hj=>by rw[Nat.zero_add]) Tryz.underlying34 rfl lp)) hHeld ?_;(try simp only[Act.put,List.setIfInBounds_toArray,List.set_cons_zero,List.set_cons_succ])
 refine ae 1 hHeld ?_
 refine ae 2 hHeld ?_
 refine ae 3 hHeld ?_
 refine ae 4 hHeld ?_ (hy:=by intro w hSw;(try dsimp only at hSw);have xc:=xY.out _ hSw.bl;go_simp;(try with_reducible rfl))
 refine ae 5 hHeld ?_
 refine ae 6 hHeld ?_
 refine ae 7 hHeld ?_
 refine ae 8 hHeld ?_ (hy:=by intro w hSw;(try dsimp only at hSw);have xc:=xK.out _ hSw.bl;go_simp;(try with_reducible rfl))
 refine only 9 rfl (by kernel_rfl) rfl (fun K hK=>?_)
 go_simp
 refine(g5 hHeld p OP.out kv mv xp xl).mono ?_
 rintro e jH ⟨AB,nb,cb,gb,rfl,hcb,hnb,hgb,hz⟩
 try go_wp2_with fail
 refine hK.out _ _ hz.tail (fun h2=>?_)
 clear hK hHeld
 try simp only[Act.put,List.setIfInBounds_toArray,List.set_cons_zero,List.set_cons_succ]
 refine ae 10 h2 ?_
 have U1:=hid hz
 have I_:=hid hgb
 clear h2 hz hgb U0
 refine wpAnyH_done (by kernel_rfl) ?_ _
 have TR:=Sf (p:=p) (n:=nb) OP.out IW.out I_.out
 have IY:=hid (rp (p:=p) (n:=nb) IW.out I_.out)
 obtain ⟨tt,ht⟩:∃t,df p true nr gb nb=t:=⟨_,rfl⟩
 have HT:=hid ht
 rw[ht]at TR
 replace IY:Hid (mB tt.nr):=hid (by rw[←ht];exact IY.out)
 clear ht
 replace TR:=hid TR
 go_wp2_with fail
 refine(Mx (A:=[dx (.slice AB nb cb) nb gb,kg sb wb p]) (B:=[aP P 330 (pc p)]) U1.out (U1.out.st 1 rfl) OQ.out OP.out IW.out gb nb cb AB I_.out (by omega) (U1.out.gP 0 rfl) hcb _ HT.out).mono ?_
 rintro e qo ⟨X,c,rfl,hz,hcc⟩
 have SE:=hid (hz)
 clear hz U1 HT
 go_simp
 go_upto_region 13 with (first | ((with_reducible refine ay ?_);refine aS rfl (bZ rfl (px _) (by simp) SE.out ?_);intro O w_ hZ _;have SY:=hid hZ;clear hZ) | ((with_reducible refine ay ?_);refine aS rfl (aT (A:=[]) [tt.d,tt.s,tt.c,.slice X tt.n c] rfl rfl (rfl) SY.out rfl dY rfl ?_);intro w_ hZ;have SX:=hid hZ;clear hZ))
 have Sb:=hid (SX.out)
 clear SX SY SE
 obtain ⟨o0,o1,o2,o3⟩:=(Sb.out.ce 0 rfl).c4
 rcases TR.out with TD |TG
 ·obtain ⟨d0,d1,d2,d3⟩:=TD
  have e0:(tt.d != 0)=true:=by simpa using d0
  rw[d1]at o1
  rw[d2]at o2
  obtain ⟨nn,hnn⟩:∃m,tt.n=m:=⟨_,rfl⟩
  rw[hnn]at o3 d3
  subst d3
  clear d0 d1 d2
  go_wp2_with fail
  go_roundg (20-(k+1))
  case rel=>exact⟨k+1,tt.nr,by omega,by omega,by go_num,IY.out,HS.SQ Sb.out rfl⟩
  omega
 have RV:=hid TG
 have e0:(tt.d != 0)=false:=by have:=TG.d;simp[this]
 clear TG
 go_upto_region 16 with (fail)
 obtain ⟨u,hu⟩:∃x,x=aj gb nb:=⟨_,rfl⟩
 have Hu:=hid hu
 clear hu
 go_wp2_with fail
 refine(Sr Sb.out gb nb I_.out (by omega) AB cb hcb (Sb.out.gP 2 rfl) u Hu.out 0 RV.out.q.symm).mono ?_
 rintro e wu ⟨RH,RF,RI,RG,rfl,hz⟩
 have Sz:=hid (hz)
 clear hz Sb
 go_simp
 go_upto_region 17 with (first | ((with_reducible refine ay ?_);refine aS rfl (bZ rfl (qn _) (by simp) Sz.out ?_);intro B1 w_ hZ _;have SY:=hid hZ;clear hZ) | ((with_reducible refine ay ?_);refine aS rfl (aT (A:=[]) [u.kind,u.life,u.piece,u.src,u.dst,u.fp,u.tp,u.flags,u.label,u.bare,u.code,.slice RH u.no RF,.slice RI u.nd RG] rfl rfl (rfl) SY.out rfl lq rfl ?_);intro w_ hZ;have SX:=hid hZ;clear hZ))
 have Sj:=hid (SX.out)
 clear SX SY Sz
 obtain ⟨p0,p1,p2,p3⟩:=(Sj.out.ce 2 rfl).c4
 have RS:=hid RV.out.ln
 obtain ⟨v,hv⟩:∃x,x=aj tt.f tt.n:=⟨_,rfl⟩
 have Hv:=hid hv
 clear hv
 go_wp2_with fail
 refine(Sr Sj.out tt.f tt.n RV.out.B (by rw[RS.out];omega) X c hcc (Sj.out.gP 3 rfl) v Hv.out 0 (by rw[RS.out];exact RV.out.F.symm)).mono ?_
 rintro e wv ⟨RO,RL,RQ,RN,rfl,hz⟩
 have Sy:=hid (hz)
 clear hz Sj
 go_simp
 go_upto_region 18 with (first | ((with_reducible refine ay ?_);refine aS rfl (bZ rfl (qn _) (by simp) Sy.out ?_);intro B2 w_ hZ _;have SY:=hid hZ;clear hZ) | ((with_reducible refine ay ?_);refine aS rfl (aT (A:=[]) [v.kind,v.life,v.piece,v.src,v.dst,v.fp,v.tp,v.flags,v.label,v.bare,v.code,.slice RO v.no RL,.slice RQ v.nd RN] rfl rfl (rfl) SY.out rfl lq rfl ?_);intro w_ hZ;have SX:=hid hZ;clear hZ))
 have RX:=hid (SX.out)
 clear SX SY Sy
 clear o0 o1 o2 o3 p0 p1 p2 p3
 obtain ⟨ww,hwb⟩:∃b,cK gb nb=b:=⟨_,rfl⟩
 have Sx:=hid (fun (w:World) (h:By w X tt.n tt.f)=>(show Calls Tryz.prog 22 #[.slice X tt.n c] w fun e w'=>e =.returned (.bool ww)∧Below w.heap.size w w' from by have h1:=Jw X tt.n c tt.f w h RV.out.B hcc (by rw[RS.out];omega);rw[RS.out,RV.out.w,hwb]at h1;rw[RS.out];exact h1))
 have Sw:=hid (fun (w:World) (h:By w AB nb gb)=>(show Calls Tryz.prog 22 #[.slice AB nb cb] w fun e w'=>e =.returned (.bool ww)∧Below w.heap.size w w' from by have h1:=Jw AB nb cb gb w h I_.out hcb (by omega);rw[hwb]at h1;exact h1))
 clear hwb
 have SJ:=hid (show IntKind.i64.wrap (u.life-1)=v.life from by have h1:=(gW I_.out RV.out.q).2.2.2.1;have h2:=I_.out 1;have h3:=RV.out.lf;rw[←RS.out,←Hv.out,RS.out,←Hu.out]at h3;rw[←Hu.out]at h1;rw[h3];exact IntWalk.i64_in _ (by omega))
 have SK:=hid (show (v.kind != u.kind)=false from by have h3:=RV.out.kd;rw[←RS.out,←Hv.out,RS.out,←Hu.out]at h3;simp[h3])
 have OT:=hid (show ((tt.n:Int) != (nb:Int))=false from by rw[RS.out];simp)
 have GO:=RV.out.goes
 rw[←RS.out,←Hv.out,RS.out,←Hu.out]at GO
 replace GO:=hid GO
 clear Hu Hv RS TR I_
 rcases GO.out with ⟨s1,s2,s3,s4,s5,s6⟩ |⟨sl,s0,s1,s2,s3,s4,s5,s6⟩
 ·have Ss:=hid s1
  have HS2:=hid s2
  have k4:(v.src != p.a)=false:=by simp[s3]
  have k5:(v.fp != p.p)=false:=by simp[s4]
  have k6:(v.dst != u.dst)=false:=by simp[s5]
  have k7:(v.tp != u.tp)=false:=by simp[s6]
  clear s1 s2 s3 s4 s5 s6 GO
  obtain ⟨o0,o1,o2,o3⟩:=(RX.out.ce 4 rfl).c4
  have kn:=OT.out
  go_wp2_with fail
  refine(Sx.out _ (RX.out.gP 5 rfl)).mono ?_
  rintro e Sn ⟨rfl,hb⟩
  clear o0 o1 o2 o3
  have RY:=hid (RX.out.below hb)
  clear hb RX
  go_simp
  go_wp2_with fail
  refine(Sw.out _ (RY.out.gP 6 rfl)).mono ?_
  rintro e Q0 ⟨rfl,hb⟩
  have RR:=hid (RY.out.below hb)
  clear hb RY
  go_simp
  obtain ⟨z0,z1,z2,z3,z4,z5,z6,z7,z8,z9,j_,j9,z12⟩:=(RR.out.ce 2 rfl).c13
  obtain ⟨y0,y1,y2,y3,y4,y5,y6,y7,y8,y9,au,ao,al⟩:=(RR.out.ce 0 rfl).c13
  obtain ⟨o0,o1,o2,o3⟩:=(RR.out.ce 4 rfl).c4
  rw[Ss.out]at o1
  rw[HS2.out]at o2
  have kl:=SJ.out
  have kk:=SK.out
  have pq:=(jO (RR.out.fb 9 rfl)).c1
  have pr:=(jO (RR.out.fb 9 rfl)).c2
  go_wp2_with fail
  go_roundg (20-(k+1))
  case rel=>exact⟨k+1,tt.nr,by omega,by omega,by go_num,IY.out,HS.SQ RR.out rfl⟩
  omega
 have Ss:=hid s1
 have k4:(v.dst != (p.s sl).ad)=false:=by simp[s2]
 have k5:(v.src != u.src)=false:=by simp[s3]
 have S4:=hid s4
 have S5:=hid s5
 have S6:=hid s6
 clear s1 s2 s3 s4 s5 s6 GO
 have i0:(0:Int)≤sl:=by omega
 have i64:(sl:Int)<64:=by omega
 have DR:=hid (fun (w:World)=>(show Calls Tryz.prog 23 #[.agg #[(p.s sl).st,(p.s sl).ad,(p.s sl).po,(p.s sl).we,(p.s sl).si]] w fun e w'=>e =.returned (.bool (eP (p.s sl).st))∧Below w.heap.size w w' from wY (p.s sl) w))
 obtain ⟨o0,o1,o2,o3⟩:=(RX.out.ce 4 rfl).c4
 have kn:=OT.out
 go_wp2_with fail
 refine(Sx.out _ (RX.out.gP 5 rfl)).mono ?_
 rintro e Sn ⟨rfl,hb⟩
 clear o0 o1 o2 o3
 have RY:=hid (RX.out.below hb)
 clear hb RX
 go_simp
 go_wp2_with fail
 refine(Sw.out _ (RY.out.gP 6 rfl)).mono ?_
 rintro e Q0 ⟨rfl,hb⟩
 have RR:=hid (RY.out.below hb)
 clear hb RY
 go_simp
 obtain ⟨z0,z1,z2,z3,z4,z5,z6,z7,z8,z9,j_,j9,z12⟩:=(RR.out.ce 2 rfl).c13
 obtain ⟨y0,y1,y2,y3,y4,y5,y6,y7,y8,y9,au,ao,al⟩:=(RR.out.ce 0 rfl).c13
 obtain ⟨o0,o1,o2,o3⟩:=(RR.out.ce 4 rfl).c4
 rw[Ss.out]at o1
 have kl:=SJ.out
 have kk:=SK.out
 obtain ⟨q0,q1,q2,q3,q4⟩:=(jO (RR.out.fb 9 rfl)).s5 sl s0
 go_upto_region 24 with (first | ((with_reducible refine ay ?_);refine aS rfl (bZ rfl (LG _) (by simp) RR.out ?_);intro Z w_ hZ _;have SY:=hid hZ;clear hZ) | ((with_reducible refine ay ?_);refine aS rfl (aT (A:=[]) [(p.s sl).st,(p.s sl).ad,(p.s sl).po,(p.s sl).we,(p.s sl).si] rfl rfl (rfl) SY.out rfl L8 rfl ?_);intro w_ hZ;have SX:=hid hZ;clear hZ))
 clear q0 q1 q2 q3 q4 y0 y1 y2 y3 y4 y5 y6 y7 y8 y9 au ao al z0 z1 z2 z3 z4 z5 z6 z7 z8 z9 j_ j9 z12 o0 o1 o2 o3 kl kk
 have RU:=hid (SX.out)
 clear SX SY RR
 obtain ⟨z0,z1,z2,z3,z4,z5,z6,z7,z8,z9,j_,j9,z12⟩:=(RU.out.ce 3 rfl).c13
 obtain ⟨y0,y1,y2,y3,y4,y5,y6,y7,y8,y9,au,ao,al⟩:=(RU.out.ce 1 rfl).c13
 obtain ⟨o0,o1,o2,o3⟩:=(RU.out.ce 5 rfl).c4
 obtain ⟨r0,r1,r2,r3,r4⟩:=c5 (RU.out.ce 0 rfl)
 have SP:Hid (u.kind=3∨(u.kind≠3∧(v.tp != (p.s sl).po)=false∧(v.fp != u.fp)=false)):=hid (by by_cases h:u.kind=3;exact .inl h;exact .inr ⟨h,by simp[(S4.out h).1],by simp[(S4.out h).2]⟩)
 rcases SP.out with h3 |⟨h3,h4,h5⟩
 ·have k3:(u.kind != 3)=false:=by simp[h3]
  clear h3
  cases ec:tt.c
  ·rw[ec]at o2
   have k8:((p.s sl).st != 2)=false:=by simp[S6.out ec]
   clear ec
   go_wp2_with fail
   go_roundg (20-(k+1))
   case rel=>exact⟨k+1,tt.nr,by omega,by omega,by go_num,IY.out,HS.SQ RU.out rfl⟩
   omega
  rw[ec]at o2
  have TK:=hid (fun w=>DR.out w)
  rw[S5.out ec]at TK
  have Sq:=hid ec
  clear ec
  go_wp2_with fail
  refine(TK.out _).mono ?_
  rintro e QZ ⟨rfl,hb⟩
  clear y0 y1 y2 y3 y4 y5 y6 y7 y8 y9 au ao al z0 z1 z2 z3 z4 z5 z6 z7 z8 z9 j_ j9 z12 o0 o1 o2 o3
  have R_:=hid (RU.out.below hb)
  clear hb RU
  obtain ⟨o0,o1,o2,o3⟩:=(R_.out.ce 5 rfl).c4
  rw[Sq.out]at o2
  go_simp
  go_wp2_with fail
  go_roundg (20-(k+1))
  case rel=>exact⟨k+1,tt.nr,by omega,by omega,by go_num,IY.out,HS.SQ R_.out rfl⟩
  omega
 have k3:(u.kind != 3)=true:=by simp[h3]
 clear h3
 cases ec:tt.c
 ·rw[ec]at o2
  have k8:((p.s sl).st != 2)=false:=by simp[S6.out ec]
  clear ec
  go_wp2_with fail
  go_roundg (20-(k+1))
  case rel=>exact⟨k+1,tt.nr,by omega,by omega,by go_num,IY.out,HS.SQ RU.out rfl⟩
  omega
 rw[ec]at o2
 have TK:=hid (fun w=>DR.out w)
 rw[S5.out ec]at TK
 have Sq:=hid ec
 clear ec
 go_wp2_with fail
 refine(TK.out _).mono ?_
 rintro e QZ ⟨rfl,hb⟩
 clear y0 y1 y2 y3 y4 y5 y6 y7 y8 y9 au ao al z0 z1 z2 z3 z4 z5 z6 z7 z8 z9 j_ j9 z12 o0 o1 o2 o3
 have R_:=hid (RU.out.below hb)
 clear hb RU
 obtain ⟨o0,o1,o2,o3⟩:=(R_.out.ce 5 rfl).c4
 rw[Sq.out]at o2
 go_simp
 go_wp2_with fail
 go_roundg (20-(k+1))
 case rel=>exact⟨k+1,tt.nr,by omega,by omega,by go_num,IY.out,HS.SQ R_.out rfl⟩
 omega
theorem lifted (os:Os)(started:os.Started)(H:Type)(enc:TypeId×Value→H) :
 ReturnsInHanded {} Tryz.checked os 5 .any (Rows.planeTrueSpec.pre6 enc Tryz.prog Tryz.f5 [] false) (Rows.planeTrueSpec.post enc Tryz.prog Tryz.f5 false true false false):=
 L6 (s:=Rows.planeTrueSpec) started (by kernel_rfl) Tryz.func5
  (ChangeSpec.witness6 (s:=Rows.planeTrueSpec) (enc:=enc) (C:=Tryz.checked) false ⟨#[],#[.slice none 0 0,.slice none 0 0,.slice none 0 0],[]⟩ 8 (by kernel_rfl) (by kernel_rfl) (by kernel_rfl) (by kernel_rfl))
  rfl (by rw[Tryz.params5];decide +kernel) rfl Tryz.underlying4
  (fun ds h=>by
   rw[Tryz.params5]at h
   match ds,h with
   | [_,_,_],_=>rfl)
  (fun W base args ds ps hval hA hsz=>by
   rw[Tryz.params5]at hA hval hsz
   obtain ⟨v0,Rp,d0,ds0,p0,q0,hargs,rfl,rfl,h0,r0⟩:=trodAll_cons hA
   obtain ⟨v1,vs1,d1,ds1,p1,q1,rfl,rfl,rfl,h1,r1⟩:=trodAll_cons r0
   obtain ⟨v2,vs2,d2,Ru,p2,q2,rfl,rfl,rfl,h2,r2⟩:=trodAll_cons r1
   obtain ⟨rfl,rfl,rfl⟩:=trodAll_nil r2
   obtain rfl:args =#[v0,v1,v2]:=by cases args;simp_all
   obtain ⟨A0,n0,c0,g0,rfl,hn0,hc0,hs0,hw0,hl0,hd0⟩:=open_row Tryz.underlying22 Tryz.underlying3 (by kernel_rfl) (hval 0 22 v0 rfl rfl) h0
   have Q_:c0*8≤140737488351232:=by
    rcases hd0 with ⟨_,h0⟩ |⟨xs,ys,h1,h2⟩
    ·omega
    have:=sized_slice hsz (j:=0) (t:=22) (e:=3) rfl (by rw[h1];rfl) Tryz.underlying22
    rw[h2,show Tryz.prog.bytesOf 3=8 from by kernel_rfl]at this
    simpa [reachBytes]using this
   obtain ⟨A1,n1,c1,g1,rfl,hn1,hc1,hs1,hw1,hl1,hd1⟩:=open_row Tryz.underlying22 Tryz.underlying3 (by kernel_rfl) (hval 1 22 v1 rfl rfl) h1
   have tB:c1*8≤140737488351232:=by
    rcases hd1 with ⟨_,h0⟩ |⟨xs,ys,h1,h2⟩
    ·omega
    have:=sized_slice hsz (j:=1) (t:=22) (e:=3) rfl (by rw[h1];rfl) Tryz.underlying22
    rw[h2,show Tryz.prog.bytesOf 3=8 from by kernel_rfl]at this
    simpa [reachBytes]using this
   obtain ⟨A2,n2,c2,g2,rfl,hn2,hc2,hs2,hw2,hl2,hd2⟩:=open_row Tryz.underlying22 Tryz.underlying3 (by kernel_rfl) (hval 2 22 v2 rfl rfl) h2
   have tq:c2*8≤140737488351232:=by
    rcases hd2 with ⟨_,h0⟩ |⟨xs,ys,h1,h2⟩
    ·omega
    have:=sized_slice hsz (j:=2) (t:=22) (e:=3) rfl (by rw[h1];rfl) Tryz.underlying22
    rw[h2,show Tryz.prog.bytesOf 3=8 from by kernel_rfl]at this
    simpa [reachBytes]using this
   exact walk W A0 n0 c0 g0 hn0 hc0 hs0 (fun j=>bounds_i64 (hw0 j)) hl0 Q_ A1 n1 c1 g1 hn1 hc1 hs1 (fun j=>bounds_i64 (hw1 j)) hl1 tB A2 n2 c2 g2 hn2 hc2 hs2 (fun j=>bounds_i64 (hw2 j)) hl2 tq)
theorem proved:Rows.PlaneTrueSaid:=
 OpenClaim.holds_of_wide 5 Tryz.f5 rfl rfl rfl rfl rfl rfl rfl ⟨rfl,rfl,rfl,rfl,rfl⟩ rfl rfl rfl rfl rfl (by kernel_rfl) Tryz.func5 (by kernel_rfl)
  (of_decide_eq_true (by kernel_rfl)) (by unfold Func.isWrapper;first | (rw[if_pos (by decide +kernel)];kernel_rfl) | (rw[if_neg (by decide +kernel)];exact⟨rfl,rfl⟩))
  (fun os started H enc _=>lifted os started H enc)
end Go.Proofs.YtalnfkijiehjhaaGreat.planeTrue
