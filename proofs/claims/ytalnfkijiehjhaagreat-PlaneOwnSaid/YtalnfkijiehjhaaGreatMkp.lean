/- A number of a round, at stage 3's statements. The packet that Make makes. Make: what all its texts share. Make: one byte more. -/
import Derived.Test.YtalnfkijiehjhaaGreatGa
import Derived.Test.YtalnfkijiehjhaaGreatWrf
import Derived.BigQuiet
import Derived.Deep.RegionHeld3
import Derived.Deep.Cut
import Derived.Test.YtalnfkijiehjhaaGreatGwb
import Derived.Test.YtalnfkijiehjhaaGreatGwd
namespace Go.Proofs.YtalnfkijiehjhaaGreat
set_option linter.unusedVariables false
set_option linter.unusedSimpArgs false
open Go.RowKit Go.ChangeShapes Go.WideShapes Go.ChangeAt
theorem qi (a n:Int)(w:World)(hb:0<n)(hb':n≤4611686018427387904) :
 Calls Tryz.prog 81 #[a,n] w fun e w'=>e =.returned (.int .i64 (wi a n))∧w=w':=by
 have ht:=sF a n hb
 have hn:=hid (tmod_neg a n hb)
 have hp:=hid (qO a n hb)
 obtain ⟨h1,h2⟩:=ht
 go_enter Tryz.func81,Tryz.ntmps81
 exact qZ5
section
variable {P:Program}{Q:Exit→Act→World→Prop}{md:Region.Mode}{S:World→Prop}
theorem Fw (i j k:Nat){L r1 r2 r3:List Oper}{o1 o2 o3:Oper}{fuel:Nat}{listed:Array Bool}{a:Act}{w:World}(h1:L.drop i=o1::r1)(h2:L.drop j=o2::r2)(h3:L.drop k=o3::r3)(hr:Region.ready md L.toArray listed =[i,j,k])
 (w1:Region.wanted o1 (yielded L.toArray a.tmps)=true) (w2:Region.wanted o2 (yielded L.toArray a.tmps)=true) (w3:Region.wanted o3 (yielded L.toArray a.tmps)=true)
 (k1:∀K':Act→World→Prop,Shut (∀a w,S w→(S w→wpAnyH P md L.toArray Q S fuel (listed.setIfInBounds i true) a w)→K' a w)→Oper.wp P o1 a w K' Q)
 (k2:∀K':Act→World→Prop,Shut (∀a w,S w→(S w→wpAnyH P md L.toArray Q S fuel (listed.setIfInBounds j true) a w)→K' a w)→Oper.wp P o2 a w K' Q)
 (k3:∀K':Act→World→Prop,Shut (∀a w,S w→(S w→wpAnyH P md L.toArray Q S fuel (listed.setIfInBounds k true) a w)→K' a w)→Oper.wp P o3 a w K' Q):wpAnyH P md L.toArray Q S (fuel+1) listed a w:=
 wpAnyH_ready hr (by simp) (AllReadyH.cons (jy h1) (fun K hK=>by rw[if_pos w1];exact k1 K hK) (AllReadyH.cons (jy h2) (fun K hK=>by rw[if_pos w2];exact k2 K hK) (AllReadyH.cons (jy h3) (fun K hK=>by rw[if_pos w3];exact k3 K hK) AllReadyH.nil)))
end
def nv (g:Nat→Int)(n:Nat)(i:Nat):Int:=if i<n then wi (g i) 1099511627776 else 0
theorem Ez (g:Nat→Int)(n i:Nat):0≤nv g n i∧nv g n i<1099511627776:=by unfold nv;split;exact jE _ _ (by decide);exact⟨by decide,by decide⟩
theorem n_ {p:Pk}(hk:isK p.kind=true)(h:bC p=true)(h5:¬(p.kind=1∧40<p.no))(h3:¬(p.kind=3∧p.nd<24∨1500<aU p)):aG p=0:=by unfold aG;rw[if_neg (by rw[hk];decide),if_neg (by rw[h];decide),if_neg h5,if_neg h3]
def dc (v:Int):Int:=if v%7=0 then v/7%3 else 2+v%254
def cA (v:Int):Int:=if v%11=0 then v/11%256 else 0
def ib (kind:Int)(v:Nat→Int)(g2:Nat→Int)(n2:Nat):Pk:=
 if 1+wi kind 3=3 then { kind:=3,life:=dc (v 0),piece:=cA (v 0),src:=v 1%4294967296,dst:=v 2%4294967296,code:=v 3%256,nd:=max 24 (min n2 200),gd:=fun j=>if j<min n2 200 then g2 j else v 4/2^(j%8)%256 }
 else if 1+wi kind 3=2 then { kind:=2,life:=dc (v 0),piece:=cA (v 0),src:=v 1%4294967296,dst:=v 2%4294967296,fp:=v 3%65536,tp:=v 4%65536,label:=v 5%65536,bare:=v 6%4==0,nd:=min n2 200,gd:=g2 }
 else { kind:=1,life:=dc (v 0),piece:=cA (v 0),src:=v 1%4294967296,dst:=v 2%4294967296,fp:=v 3%65536,tp:=v 4%65536,flags:=v 5%16,no:=(v 6%41).toNat,go:=fun i=>v 7/2^(i%24)%256,nd:=min n2 200,gd:=g2 }
theorem tM (v:Int):0≤dc v∧dc v≤255:=by unfold dc;split <;> omega
theorem rR (v:Int):0≤cA v∧cA v≤255:=by unfold cA;split <;> omega
theorem Dr (kind:Int)(v g2:Nat→Int)(n2:Nat)(hg:aC g2):aG (ib kind v g2 n2)=0∧Clean (ib kind v g2 n2)∧aC (ib kind v g2 n2).go∧aC (ib kind v g2 n2).gd∧(ib kind v g2 n2).no≤40∧(ib kind v g2 n2).nd≤200:=by
 have l:=tM (v 0)
 have q:=rR (v 0)
 unfold ib
 split
 ·refine⟨n_ rfl ?_ (fun e=>absurd (show (3:Int)=1 from e.1) (by decide)) ?_,⟨fun _=>⟨rfl,rfl⟩,fun _=>⟨rfl,rfl⟩,fun _=>⟨rfl,rfl⟩,fun h=>absurd rfl h⟩,fun _=>⟨(by decide:(0:Int)≤0),(by decide:(0:Int)≤255)⟩,?_,(show (0:Nat)≤40 from by decide),?_⟩
  ·unfold bC cW;simp;omega
  ·rintro (e |e)
   ·have:=e.2;dsimp only at this;omega
   unfold aU at e;dsimp only at e;rw[if_pos rfl]at e;omega
  ·intro j;dsimp only;split;exact hg j;omega
  dsimp only;omega
 split
 ·refine⟨n_ rfl ?_ (fun e=>absurd (show (2:Int)=1 from e.1) (by decide)) ?_,⟨fun h=>absurd (show (2:Int)=3 from h) (by decide),fun _=>⟨rfl,rfl⟩,fun h=>absurd rfl h,fun _=>rfl⟩,fun _=>⟨(by decide:(0:Int)≤0),(by decide:(0:Int)≤255)⟩,hg,(show (0:Nat)≤40 from by decide),?_⟩
  ·unfold bC cW;simp;omega
  ·rintro (e |e)
   ·cases e.1
   unfold aU at e;dsimp only at e;rw[if_neg (by decide),if_pos rfl]at e;omega
  dsimp only;omega
 refine⟨n_ rfl ?_ (fun e=>by have:=e.2;dsimp only at this;omega) ?_,⟨fun h=>absurd (show (1:Int)=3 from h) (by decide),fun h=>absurd rfl h,fun _=>⟨rfl,rfl⟩,fun _=>rfl⟩,fun j=>by dsimp only;omega,hg,?_,?_⟩
 ·unfold bC cW;simp;omega
 ·rintro (e |e)
  ·cases e.1
  unfold aU at e;dsimp only at e;rw[if_neg (by decide),if_neg (by decide)]at e;omega
 ·dsimp only;omega
 dsimp only;omega
theorem Bu {f:Nat→Int}{k:Nat}(hk:k<8)(x:Int):((List.range 8).map fun j=>Value.int .i64 (f j)).set k (.int .i64 x)=(List.range 8).map fun j=>Value.int .i64 (set1 f k x j):=by
 apply List.ext_getElem
 ·simp
 intro i h1 h2
 simp only[List.getElem_set,List.getElem_map,List.getElem_range,set1]
 by_cases e:k=i
 ·rw[if_pos e,if_pos e.symm]
 rw[if_neg e,if_neg (Ne.symm e)]
def rL (g:Nat→Int)(n k:Nat):Nat→Int:=fun j=>if j<k then nv g n j else 0
theorem Dn (g:Nat→Int)(n k:Nat):set1 (rL g n k) k (nv g n k)=rL g n (k+1):=by
 funext j
 unfold set1 rL
 by_cases e:j=k
 ·rw[if_pos e,if_pos (by omega),e]
 rw[if_neg e]
 by_cases h:j<k
 ·rw[if_pos h,if_pos (by omega)]
 rw[if_neg h,if_neg (by omega)]
theorem F8 (g:Nat→Int)(n k:Nat)(h:k=8∨n≤k)(j:Nat)(hj:j<8):rL g n k j=nv g n j:=by
 unfold rL
 split
 ·rfl
 unfold nv;rw[if_neg (by omega)]
theorem tJ (g:Nat→Int)(n k:Nat)(h:k=8∨n≤k):((List.range 8).map fun j=>Value.int .i64 (rL g n k j))=(List.range 8).map fun j=>Value.int .i64 (nv g n j):=by
 refine List.map_congr_left fun j hj=>?_
 rw[F8 g n k h j (by simpa using hj)]
theorem D6 (A:Option Addr)(n c k:Nat)(hk:k≤n)(hn:n≤c)(z:Int)(hz:z=k)(W:World):(Instr.slice 23 (.slice A n c) none (some (.int .i64 z)) none).run Tryz.prog W =.ok (.slice A k c) W:=by
 subst hz
 rw[run_slice_h W 23 A n c jU .i64 (k:Int) (by omega) (by omega),jF W]
 have e:Option.map (fun x:Addr=>x.add 0) A=A:=by cases A <;> simp[Addr.add]
 simp[Result.andThen,sliced,e]
theorem Nh (k:Int):1+wi k 3=1∨1+wi k 3=2∨1+wi k 3=3:=by have:=jE k 3 (by decide);omega
theorem dD (a n:Int)(h:0≤a):a.tmod n=a%n:=Int.tmod_eq_emod_of_nonneg h
theorem tB (a n:Int)(h:0≤a):a.tdiv n=a/n:=Int.tdiv_eq_ediv_of_nonneg h
theorem HU (w:World)(x:Int):By (w.alloc (.cells #[.int .u8 x] 5)) (some ⟨w.heap.size,0,none⟩) 1 (fun _=>x):=by
 intro _
 refine⟨w.heap.size,0,rfl,by simp,fun j hj=>?_⟩
 have h:=Ce.made (w:=w) (l:=[.int .u8 x]) (T:=5) rfl
 obtain rfl:j=0:=by omega
 exact h.2.1 0 _ rfl
theorem qt {a b c:World}{r:Option Nat}(h:a.grownBy b r)(hb:Below a.heap.size b c):a.grownBy c r:=
 ⟨hb.os.trans h.os,hb.tape.trans h.tape,hb.output.trans h.output,Nat.le_trans h.size hb.size,fun k hk hne=>(hb.block k hk).trans (h.block k hk hne)⟩
end Go.Proofs.YtalnfkijiehjhaaGreat
