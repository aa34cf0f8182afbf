/- Options as plain lists of numbers. One option of package opts. package opts: all options, one behind the other. Numbers of four bytes, stamps, how far one is ahead. The first stamp among options. -/
import Derived.Test.YtalnfkijiehjhaaGreatGa
import Derived.Test.YtalnfkijiehjhaaGreatGs
import Derived.ScopeJumps
import Derived.WalkMore
namespace Go.Proofs.YtalnfkijiehjhaaGreat
set_option linter.unusedVariables false
open Go.RowKit Go.ChangeShapes Go.WideShapes Go.ChangeAt
def eu (g:Nat→Int)(n a:Nat):Option (Int×Int×Int):=
 if g a<2 then some (g a,(a:Int),1) else if n≤a+1 then none else if g (a+1)<2 then none else if (n:Int)-a<g (a+1) then none else some (g a,(a:Int),g (a+1))
def wk (g:Nat→Int)(n:Nat):Nat→Nat→Option (List (Int×Int×Int))
 |0,a=>if n≤a then some [] else none
 |f+1,a=>if n≤a then some [] else match eu g n a with
  |none=>none
  |some o=>if o.1=0 then some [o] else (wk g n f (a+o.2.2.toNat)).map (o :: ·)
theorem kO {g:Nat→Int}{n a:Nat}{o:Int×Int×Int}(h:eu g n a=some o)(ha:a<n):o.1=g a∧o.2.1=a∧1≤o.2.2∧a+o.2.2≤n∧a+o.2.2.toNat≤n∧1≤o.2.2.toNat:=by
 unfold eu at h
 split at h
 ·injection h with h;subst h;refine⟨rfl,rfl,?_⟩;simp;omega
 split at h
 ·cases h
 split at h
 ·cases h
 split at h
 ·cases h
 injection h with h;subst h;refine⟨rfl,rfl,?_⟩;simp;omega
theorem Fq (g:Nat→Int)(n:Nat):∀(f f' a:Nat),n-a≤f→n-a≤f'→wk g n f a=wk g n f' a:=by
 intro f
 induction f with
 |zero=>
  intro f' a h h'
  have:n≤a:=by omega
  cases f' <;> simp[wk,this]
 |succ f ih=>
  intro f' a h h'
  cases f' with
  |zero=>have:n≤a:=by omega
         simp[wk,this]
  |succ f'=>
   by_cases hn:n≤a
   ·simp[wk,hn]
   simp only[wk,if_neg hn]
   cases ho:eu g n a with
   |none=>rfl
   |some o=>
    have:=kO ho (by omega)
    simp only
    rw[ih f' (a+o.2.2.toNat) (by omega) (by omega)]
def walk (g:Nat→Int)(n a:Nat):Option (List (Int×Int×Int)):=wk g n (n-a) a
theorem qN (g:Nat→Int){n a:Nat}(h:n≤a):walk g n a=some []:=by
 unfold walk
 rw[show n-a=0 from by omega]
 simp[wk,h]
theorem oF (g:Nat→Int){n a:Nat}(h:a<n):walk g n a=match eu g n a with
 |none=>none
 |some o=>if o.1=0 then some [o] else (walk g n (a+o.2.2.toNat)).map (o :: ·):=by
 unfold walk
 obtain ⟨k,hk⟩:∃k,n-a=k+1:=⟨n-a-1,by omega⟩
 rw[hk]
 simp only[wk,if_neg (show ¬n≤a by omega)]
 cases ho:eu g n a with
 |none=>rfl
 |some o=>
  have:=kO ho h
  simp only
  rw[Fq g n k (n-(a+o.2.2.toNat)) _ (by omega) (by omega)]
theorem uC {g:Nat→Int}{n a:Nat}(h:a<n)(ho:eu g n a=none):walk g n a=none:=by rw[oF g h,ho]
theorem tw {g:Nat→Int}{n a:Nat}{o:Int×Int×Int}(h:a<n)(ho:eu g n a=some o)(hk:o.1=0):walk g n a=some [o]:=by rw[oF g h,ho];simp[hk]
theorem tr {g:Nat→Int}{n a:Nat}{o:Int×Int×Int}(h:a<n)(ho:eu g n a=some o)(hk:o.1≠0):walk g n a=(walk g n (a+o.2.2.toNat)).map (o :: ·):=by rw[oF g h,ho];simp[hk]
def mK (g:Nat→Int)(n:Nat)(l:List (Int×Int×Int))(a:Nat):Prop:=walk g n 0=(walk g n a).map (l ++ ·)∧l.length≤a∧a≤n
theorem zy (g:Nat→Int)(n:Nat):mK g n [] 0:=⟨by cases walk g n 0 <;> simp,by simp,by simp⟩
theorem rD {g:Nat→Int}{n a:Nat}{l:List (Int×Int×Int)}{o:Int×Int×Int}(h:mK g n l a)(ha:a<n)(ho:eu g n a=some o)(hk:o.1≠0):mK g n (l ++ [o]) (a+o.2.2.toNat):=by
 have:=kO ho ha
 refine⟨?_,by have:=h.2.1;simp;omega,by omega⟩
 rw[h.1,tr ha ho hk,Option.map_map]
 congr 1
 funext x
 simp
theorem rE {g:Nat→Int}{n a:Nat}{l:List (Int×Int×Int)}{o:Int×Int×Int}(h:mK g n l a)(ha:a<n)(ho:eu g n a=some o)(hk:o.1=0):walk g n 0=some (l ++ [o]):=by
 rw[h.1,tw ha ho hk];rfl
theorem tE {g:Nat→Int}{n a:Nat}{l:List (Int×Int×Int)}(h:mK g n l a)(ha:a<n)(ho:eu g n a=none):walk g n 0=none:=by
 rw[h.1,uC ha ho];rfl
theorem tD {g:Nat→Int}{n a:Nat}{l:List (Int×Int×Int)}(h:mK g n l a)(ha:n≤a):walk g n 0=some l:=by
 rw[h.1,qN g ha];simp
def oc (o:Int×Int×Int)(j:Nat):Int:=if j=0 then o.1 else if j=1 then o.2.1 else o.2.2
def lc (l:List (Int×Int×Int))(j:Nat):Int:=oc (l.getD (j/3) (0,0,0)) (j%3)
theorem Gf (l:List (Int×Int×Int))(o:Int×Int×Int)(j:Nat)(hj:j<(l.length+1)*3):two (l.length*3) (fun j=>Value.int .i64 (lc l j)) (fun j=>Value.int .i64 (oc o j)) j =.int .i64 (lc (l ++ [o]) j):=by
 unfold two lc
 by_cases h:j<l.length*3
 ·rw[if_pos h]
  have h1:j/3<l.length:=by omega
  simp only[List.getD_eq_getElem?_getD,List.getElem?_append_left h1]
 rw[if_neg h]
 have h1:j/3=l.length:=by omega
 have h2:j-l.length*3=j%3:=by omega
 rw[h2]
 simp only[List.getD_eq_getElem?_getD]
 rw[h1]
 simp
theorem Kx (l:List (Int×Int×Int))(i:Nat)(hi:i<l.length):lc l (i*3)=l[i].1∧lc l (i*3+1)=l[i].2.1∧lc l (i*3+2)=l[i].2.2:=by
 unfold lc oc
 have e0:i*3/3=i:=by omega
 have e1:(i*3+1)/3=i:=by omega
 have e2:(i*3+2)/3=i:=by omega
 have f0:i*3%3=0:=by omega
 have f1:(i*3+1)%3=1:=by omega
 have f2:(i*3+2)%3=2:=by omega
 simp[e0,e1,e2,f0,f1,f2,hi]
def ux (g:Nat→Int)(n:Nat):Nat→List (Int×Int×Int)→Prop
 |a,[]=>n≤a
 |a,o::l=>eu g n a=some o∧a<n∧(o.1=0∧l =[]∨o.1≠0∧ux g n (a+o.2.2.toNat) l)
theorem uI (g:Nat→Int)(n:Nat):∀(f a:Nat) (l:List (Int×Int×Int)),n-a≤f→walk g n a=some l→ux g n a l:=by
 intro f
 induction f with
 |zero=>
  intro a l h hw
  rw[qN g (show n≤a by omega)]at hw
  injection hw with hw
  subst hw
  show n≤a
  omega
 |succ f ih=>
  intro a l h hw
  by_cases hn:n≤a
  ·rw[qN g hn]at hw
   injection hw with hw
   subst hw
   exact hn
  have ha:a<n:=by omega
  cases ho:eu g n a with
  |none=>rw[uC ha ho]at hw;cases hw
  |some o=>
   have hi:=kO ho ha
   by_cases hk:o.1=0
   ·rw[tw ha ho hk]at hw
    injection hw with hw
    subst hw
    exact⟨ho,ha,.inl ⟨hk,rfl⟩⟩
   rw[tr ha ho hk]at hw
   cases hr:walk g n (a+o.2.2.toNat) with
   |none=>rw[hr]at hw;cases hw
   |some r=>
    rw[hr]at hw
    injection hw with hw
    subst hw
    exact⟨ho,ha,.inr ⟨hk,ih _ _ (by omega) hr⟩⟩
def qp (o:Int×Int×Int):Bool:=o.1==8&&o.2.2==10
def fst (l:List (Int×Int×Int)):Option (Int×Int×Int):=l.find? qp
def gR (g:Nat→Int)(a:Nat):Int:=g a*16777216+g (a+1)*65536+g (a+2)*256+g (a+3)
def rB (g:Nat→Int)(l:Option (List (Int×Int×Int))):Int×Int×Int×Bool:=match l with
 |none=>(0,0,0,false)
 |some l=>match fst l with
  |none=>(0,0,0,false)
  |some o=>(o.2.1+2,gR g (o.2.1.toNat+2),gR g (o.2.1.toNat+6),true)
def stamp (g:Nat→Int)(n:Nat):Int×Int×Int×Bool:=rB g (walk g n 0)
theorem xj {g:Nat→Int}(hg:aC g)(a:Nat):0≤gR g a∧gR g a<4294967296:=by
 unfold gR
 have:=hg a;have:=hg (a+1);have:=hg (a+2);have:=hg (a+3)
 omega
theorem zo {g:Nat→Int}{n:Nat}:∀(l:List (Int×Int×Int)) (a:Nat),ux g n a l→∀o∈l,eu g n o.2.1.toNat=some o∧o.2.1.toNat<n∧0≤o.2.1∧o.2.1+o.2.2≤n:=by
 intro l
 induction l with
 |nil=>intro a h o ho;cases ho
 |cons o l ih=>
  intro a ⟨h1,ha,h⟩ x hx
  have hi:=kO h1 ha
  rcases List.mem_cons.1 hx with rfl |hx
  ·rw[hi.2.1,Int.toNat_natCast]
   exact⟨h1,ha,by omega,by omega⟩
  rcases h with ⟨_,rfl⟩ |⟨_,h⟩
  ·cases hx
  exact ih _ h x hx
theorem rX {g:Nat→Int}{n:Nat}{l:List (Int×Int×Int)}{o:Int×Int×Int}(h:walk g n 0=some l)(hf:fst l=some o):0≤o.2.1∧o.2.1.toNat+10≤n∧o.2.1=o.2.1.toNat:=by
 have hm:=List.mem_of_find?_eq_some hf
 have hs:=List.find?_some hf
 simp[qp]at hs
 have:=zo l 0 (uI g n n 0 l (by omega) h) o hm
 omega
set_option linter.unusedSimpArgs false
def oV (o:Int×Int×Int):Value:=.agg #[o.1,o.2.1,o.2.2]
theorem Aq (x:Int)(b off a n c:Nat)(w:World)(hx:x=0∨x=1)(hb:b<w.heap.size)(h0:w.cell? ⟨b,off+a,none⟩=some (.int .u8 x))(ha:a<n)(hn:n≤140737488355328) :
 Calls Tryz.prog 165 #[.slice (some ⟨b,off,none⟩) n c,(a:Int)] w fun e w'=>e =.returned (.tuple #[.agg #[x,a,.int .i64 1],true])∧Below w.heap.size w w':=by
 rcases hx with rfl |rfl
 all_goals
  have h1:∀o,(w.alloc o).cell? ⟨b,off+a,none⟩=some _:=fun o=>(World.cell?_alloc_lt w o _ hb).trans h0
  go_enter Tryz.func165,Tryz.ntmps165
  go_wp2
  refine bodyPost_ret (v:=.tuple #[.agg #[_,a,.int .i64 1],true]) (by simp[results,Tryz.results165,go_sem]) rfl ⟨rfl,?_⟩
  exact(Below.refl _ _).alloc (Nat.le_refl _) _
theorem qX3{P:Prop}(h:P:=by
 go_enter Tryz.func165,Tryz.ntmps165
 go_wp2
 refine bodyPost_ret (v:=.tuple #[.agg #[(),(),()],false]) (by simp[results,Tryz.results165,go_sem]) rfl ⟨rfl,?_⟩
 exact(Below.refl _ _).alloc (Nat.le_refl _) _
 ):P:=h
theorem Dm (x:Int)(b off a n c:Nat)(w:World)(hx:2≤x∧x≤255)(hb:b<w.heap.size)(h0:w.cell? ⟨b,off+a,none⟩=some (.int .u8 x))(ha:a<n)(hn:n≤140737488355328)(hs:n≤a+1) :
 Calls Tryz.prog 165 #[.slice (some ⟨b,off,none⟩) n c,(a:Int)] w fun e w'=>e =.returned (.tuple #[.agg #[(),(),()],false])∧Below w.heap.size w w':=by
 obtain ⟨hx1,hx2⟩:=hx
 have t0:(x==0)=false:=by simp;omega
 have t1:(x==1)=false:=by simp;omega
 have h1:∀o,(w.alloc o).cell? ⟨b,off+a,none⟩=some _:=fun o=>(World.cell?_alloc_lt w o _ hb).trans h0
 obtain rfl:n=a+1:=by omega
 exact qX3
theorem Dl (x y:Int)(b off a n c:Nat)(w:World)(hx:2≤x∧x≤255)(hy:0≤y∧y≤255)(hb:b<w.heap.size)(h0:w.cell? ⟨b,off+a,none⟩=some (.int .u8 x))(h2:w.cell? ⟨b,off+(a+1),none⟩=some (.int .u8 y))(ha:a+1<n)(hn:n≤140737488355328) :
 Calls Tryz.prog 165 #[.slice (some ⟨b,off,none⟩) n c,(a:Int)] w fun e w'=>e =.returned (if y<2∨(n:Int)-a<y then .tuple #[.agg #[(),(),()],false] else .tuple #[.agg #[x,a,y],true])∧Below w.heap.size w w':=by
 obtain ⟨hx1,hx2⟩:=hx
 obtain ⟨hy1,hy2⟩:=hy
 have t0:(x==0)=false:=by simp;omega
 have t1:(x==1)=false:=by simp;omega
 have t2:((a:Int)+1==n)=false:=by simp;omega
 have e1:((a:Int)+1).toNat=a+1:=by omega
 have h1:∀o,(w.alloc o).cell? ⟨b,off+a,none⟩=some _:=fun o=>(World.cell?_alloc_lt w o _ hb).trans h0
 have h3:∀o,(w.alloc o).cell? ⟨b,off+(a+1),none⟩=some _:=fun o=>(World.cell?_alloc_lt w o _ hb).trans h2
 by_cases c1:y<2
 ·have d1:decide (y<2)=true:=by simpa using c1
  rw[if_pos (.inl c1)]
  exact qX3
 have d1:decide (y<2)=false:=by simpa using c1
 by_cases c2:(n:Int)-a<y
 ·have d2:decide ((n:Int)-a<y)=true:=by simpa using c2
  rw[if_pos (.inr c2)]
  exact qX3
 have d2:decide ((n:Int)-a<y)=false:=by simpa using c2
 rw[if_neg (by omega)]
 go_enter Tryz.func165,Tryz.ntmps165
 go_wp2
 refine bodyPost_ret (v:=.tuple #[.agg #[x,a,y],true]) (by simp[results,Tryz.results165,go_sem]) rfl ⟨rfl,?_⟩
 exact(Below.refl _ _).alloc (Nat.le_refl _) _
theorem F5 {g:Nat→Int}{A:Option Addr}{n:Nat}(c a:Nat){w:World}(h:By w A n g)(hg:aC g)(ha:a<n)(hn:n≤140737488355328) :
 Calls Tryz.prog 165 #[.slice A n c,(a:Int)] w fun e w'=>e =.returned (.tuple #[oV ((eu g n a).getD (0,0,0)),(eu g n a).isSome])∧Below w.heap.size w w':=by
 obtain ⟨b,off,rfl,hb,hc⟩:=h (by omega)
 have h0:=hc a ha
 have g0:=hg a
 by_cases hx:g a<2
 ·have e:eu g n a=some (g a,(a:Int),1):=by unfold eu;rw[if_pos hx]
  rw[e]
  exact Aq (g a) b off a n c w (by omega) hb h0 ha hn
 by_cases hs:n≤a+1
 ·have e:eu g n a=none:=by unfold eu;rw[if_neg hx,if_pos hs]
  rw[e]
  exact Dm _ b off a n c w (by omega) hb h0 ha hn hs
 have h1:=hc (a+1) (by omega)
 have g1:=hg (a+1)
 refine(Dl (g a) (g (a+1)) b off a n c w (by omega) g1 hb h0 h1 (by omega) hn).mono fun e w' ⟨he,hw⟩=>⟨?_,hw⟩
 rw[he]
 unfold eu
 rw[if_neg hx,if_neg hs]
 by_cases c1:g (a+1)<2
 ·rw[if_pos (.inl c1),if_pos c1];rfl
 rw[if_neg c1]
 by_cases c2:(n:Int)-a<g (a+1)
 ·rw[if_pos (.inr c2),if_pos c2];rfl
 rw[if_neg (by omega),if_neg c2];rfl
def nj (E:TypeId)(w:World)(B:Nat)(v:Value)(l:List (Int×Int×Int)):Prop:=Ow w B E 3 v l.length (fun j=>.int .i64 (lc l j))
theorem nj.Ed {E:TypeId}{w:World}{B:Nat}{v:Value}{l:List (Int×Int×Int)}(h:nj E w B v l){k:Nat}(hk:w.heap.size≤k):v.ownBlock≠some k:=by
 intro e
 have:=(World.ownsRow.lt h k e).2
 omega
theorem nj.Ee {E:TypeId}{w:World}{B:Nat}{v:Value}{l:List (Int×Int×Int)}(h:nj E w B v l){k:Nat}(hk:k<B):v.ownBlock≠some k:=by
 intro e
 have:=(World.ownsRow.lt h k e).1
 omega
abbrev Hz:TypeId:=117
theorem Im (E:TypeId)(hE:E=187∨E=Hz):(Tryz.prog.info? E).map (fun i=>(i.zero,i.size,i.bytes))=some (some (.agg #[(),(),()]),3,24):=by
 rcases hE with rfl |rfl <;> kernel_rfl
section
variable {w:World}{ops:Array Oper}{rest:List Oper}{o:Oper}{a:Act}{Q:Exit→Act→World→Prop}
theorem lH (hgd:o.guard=none)(s x:Operand)(T E:TypeId)(ho:o.op =.call { callee:=.builtin .append,args:=#[s,x],argTypes:=#[T,T] })
 (hT:Tryz.prog.underlying T=some (.slice E)) (hE:E=187∨E=Hz)
 (base:Nat) (v:Value) (l:List (Int×Int×Int)) (m:Nat) (hm:m=l.length) (hs:a.eval s=v) (hown:nj E w base v l)
 (g c:Nat) (p:Int×Int×Int) (hx:a.eval x =.slice (some ⟨g,0,none⟩) 1 c) (hr:Ce w g [p.1,p.2.1,p.2.2]) (hsz:l.length≤1000000) (hbase:base≤w.heap.size)
 (h:∀A' c' w',nj E w' base (.slice A' (m+1) c') (l ++ [p])→Below base w w'→w.grownBy w' v.ownBlock→wpList Tryz.prog ops Q rest (a.put o.dst (.slice A' (m+1) c')) w'):wpList Tryz.prog ops Q (o::rest) a w:=by
 subst hm
 obtain ⟨i0,hi,hz0,hz1,hz2⟩:=info_parts (Im E hE)
 refine yZ w hgd s x T ho base E i0 (.agg #[(),(),()]) 3 24 hT hi hz0 hz1 hz2 rfl (by decide) v l.length _ hs hown (some ⟨g,0,none⟩) 1 c (fun j=>.int .i64 (oc p j)) hx ?_ (fun _ _=>rfl) (by simp only[maxLen];omega) (by omega) hbase ?_
 ·refine Sl.mk hr.1 fun j hj=>?_
  rw[Nat.zero_add]
  rcases (by omega:j=0∨j=1∨j=2) with rfl |rfl |rfl
  ·exact hr.2.1 0 _ rfl
  ·exact hr.2.1 1 _ rfl
  exact hr.2.1 2 _ rfl
 intro A' c' w' h1 h2 h3 h4 h5 h6
 have e:l.length+1=(l ++ [p]).length:=by simp
 refine h A' c' w' ?_ h4 h5
 unfold nj
 rw[←e]
 exact h1.fQ fun j hj=>Gf l p j (by simpa using hj)
end
def wl (g:Nat→Int)(n:Nat):List (Int×Int×Int):=(walk g n 0).getD []
def we (g:Nat→Int)(n:Nat):Int:=if (walk g n 0).isSome then 0 else 5
def ni (E:TypeId)(g:Nat→Int)(n:Nat)(w:World)(e:Ending)(w':World):Prop:=
 ∃(A':Option Addr) (c':Nat),e =.returned (.tuple #[.slice A' (wl g n).length c',(we g n)])∧nj E w' w.heap.size (.slice A' (wl g n).length c') (wl g n)∧Below w.heap.size w w'
theorem kp {E:TypeId}{g:Nat→Int}{n:Nat}{w w':World}(h:walk g n 0=none)(hb:Below w.heap.size w w'):ni E g n w (.returned (.tuple #[.slice none 0 0,.int .i64 5])) w':=by
 refine⟨none,0,?_,?_,hb⟩
 ·unfold wl we;rw[h];rfl
 have:wl g n =[]:=by unfold wl;rw[h];rfl
 rw[this];exact Ow.none_
theorem ko {E:TypeId}{g:Nat→Int}{n:Nat}{w w':World}{l:List (Int×Int×Int)}{A':Option Addr}{c' m:Nat}(h:walk g n 0=some l)(hm:m=l.length)(ho:nj E w' w.heap.size (.slice A' m c') l)(hb:Below w.heap.size w w') :
 ni E g n w (.returned (.tuple #[.slice A' m c',()])) w':=by
 subst hm
 have e:wl g n=l:=by unfold wl;rw[h];rfl
 refine⟨A',c',?_,?_,hb⟩
 ·rw[e];unfold we;rw[h];rfl
 rw[e];exact ho
def JB (w:World)(A:Option Addr)(n c:Nat)(g:Nat→Int)(a':Act)(w':World):Prop:=
 ∃(p:Nat) (l:List (Int×Int×Int)) (L:Option Addr) (d m:Nat) (u6 u7 u8 u9 wV rs uD zj zi zh u16 zg ze zd u20 u21 u22 u23 u24 u25 u26 u27 u28 u29 u30 u31 u32:Value),m=l.length∧mK g n l p∧Below w.heap.size w w'∧nj 187 w' w.heap.size (.slice L m d) l∧
  a' ={ tmps:=#[.slice A n c,undef,.slice none 0 0,.int .i64 0,.slice L m d,.int .i64 (p:Int),u6,u7,u8,u9,wV,rs,uD,zj,zi,zh,u16,zg,ze,zd,u20,u21,u22,u23,u24,u25,u26,u27,u28,u29,u30,u31,u32],defers:=[] }
set_option maxHeartbeats 1000000 in
theorem Cs (A:Option Addr)(n c:Nat)(g:Nat→Int)(w:World)(h:By w A n g)(hg:aC g)(hn:n≤1000000) :
 Calls Tryz.prog 126 #[.slice A n c] w (ni 187 g n w):=by
 go_enter Tryz.func126,Tryz.ntmps126
 go_wp2
 refine oe 0 (JB w A n c g) (fun a' _=>n-(intOf (a'.tmps.getD 5 undef)).toNat) rfl ?_ ?_
 ·intro Q' hQ
  have HQ:=hid hQ
  clear hQ
  go_wp2
  go_step3
  simp only[Exit.then]
  refine(by assumption:∀a w,_→_) _ _ ?_
  exact HQ.out _ _ ⟨0,[],none,0,0,undef,undef,undef,undef,undef,undef,undef,undef,undef,undef,undef,undef,undef,undef,undef,undef,undef,undef,undef,undef,undef,undef,undef,undef,undef,undef,undef,rfl,zy g n,Below.refl _ _,Ow.none_,rfl⟩
 rintro a' w1 ⟨p,l,L,d,m,u6,u7,u8,u9,wV,rs,uD,zj,zi,zh,u16,zg,ze,zd,u20,u21,u22,u23,u24,u25,u26,u27,u28,u29,u30,u31,u32,hm,hs,hb,ho,rfl⟩
 have hs':=hs
 obtain ⟨_,hlp,hpn⟩:=hs'
 rw[←hm]at hlp
 have HM:=hid hm
 clear hm
 have HS:=hid hs
 clear hs
 have HB:=hid hb
 have HO:=hid ho
 have h1:=h.below hb (Nat.le_refl _)
 have H1:=hid h1
 clear h h1 ho hb
 by_cases hlt:p<n
 ·have t0:((p:Int)==n)=false:=by simp;omega
  have HC:=F5 c p H1.out hg hlt (by omega)
  cases hon:eu g n p with
  |none=>
   have hbad:=hid (tE HS.out hlt hon)
   rw[hon]at HC
   simp only[Option.getD_none,Option.isSome_none,oV]at HC
   replace HC:=hid HC
   clear hon hg
   go_wp2_with fail
   refine HC.out.mono ?_
   rintro e w2 ⟨rfl,hb2⟩
   have HB2:=hid (HB.out.trans (hb2.mono HB.out.size))
   clear hb2
   go_wp2
   simp only[Exit.jump]
   go_ret2
   refine kp hbad.out (HB2.out.alloc HB2.out.size _)
  |some o=>
   obtain ⟨ok,oa,ol⟩:=o
   have vj:=kO hon hlt
   simp only at vj
   obtain ⟨rfl,rfl,o1,o2,o3,o4⟩:=vj
   rw[hon]at HC
   simp only[Option.getD_some,Option.isSome_some,oV]at HC
   replace HC:=hid HC
   have hlast:=hid (fun hk=>rE HS.out hlt hon hk)
   have hmore:=hid (fun hk=>rD HS.out hlt hon hk)
   clear hon HS
   simp only at hlast hmore
   go_wp2_with fail
   refine HC.out.mono ?_
   rintro e w2 ⟨rfl,hb2⟩
   have HB2:=hid (HB.out.trans (hb2.mono HB.out.size))
   have bQ:=hid (Ow.keep HO.out hb2 (Nat.le_refl _))
   clear hb2 HB HO HC
   have C:=(Ce.made (w:=w2) (l:=[(g p),(p:Int),ol]) (T:=187) (g:=w2.heap.size) rfl).alloc (.cells #[(g p),(p:Int),ol] 187)
   have HB3:=hid ((HB2.out.alloc HB2.out.size (.cells #[(g p),(p:Int),ol] 187)).alloc (by simp;have:=HB2.out.size;omega) (.cells #[(g p),(p:Int),ol] 187))
   have hne:=nj.Ed bQ.out (Nat.le_refl w2.heap.size)
   have hz:=HB2.out.size
   have hne':=hid hne
   clear hne
   have hC:=hid C
   clear C
   have e3:(p:Int)+ol=((p+ol.toNat:Nat):Int):=by omega
   have E3:=hid e3
   clear e3
   by_cases hk:g p=0
   ·have hL:=hid (hlast.out (by omega))
    have t1:(g p != 0)=false:=by simp[hk]
    clear hlast hmore hk
    go_wp2_with (at_builtin;refine lH rfl (.tmp 21) (.tmp 23) 184 187 rfl Tryz.underlying184 (.inl rfl) w.heap.size _ l m HM.out rfl (Ow.alloc (Ow.alloc bQ.out _) _) (w2.heap.size+1) 1 (g p,(p:Int),ol) rfl (Ce.made (w:=w2.alloc (.cells #[(g p),(p:Int),ol] 187)) (l:=[(g p),(p:Int),ol]) (by simp)) (by have:=HM.out;omega) (by simp;omega) ?_;intro A' c' w3 hown hbel hgr;have mh:=hid (HB3.out.trans hbel);have C3:=hC.out.grown hgr hne'.out;have c0:=C3.2.1 0 _ rfl;have c1:=C3.2.1 1 _ rfl;have c2:=C3.2.1 2 _ rfl;have sk:=hid hown;clear C3 hC hgr hne' hown hbel HB3 bQ HB2 H1)
    simp only[Exit.jump]
    go_ret2
    exact ko hL.out (by rw[HM.out];simp) sk.out mh.out
   have hL:=hid (hmore.out (by omega))
   have t1:(g p != 0)=true:=by simp[hk]
   clear hlast hmore hk
   go_wp2_with (at_builtin;refine lH rfl (.tmp 21) (.tmp 23) 184 187 rfl Tryz.underlying184 (.inl rfl) w.heap.size _ l m HM.out rfl (Ow.alloc (Ow.alloc bQ.out _) _) (w2.heap.size+1) 1 (g p,(p:Int),ol) rfl (Ce.made (w:=w2.alloc (.cells #[(g p),(p:Int),ol] 187)) (l:=[(g p),(p:Int),ol]) (by simp)) (by have:=HM.out;omega) (by simp;omega) ?_;intro A' c' w3 hown hbel hgr;have mh:=hid (HB3.out.trans hbel);have C3:=hC.out.grown hgr hne'.out;have c0:=C3.2.1 0 _ rfl;have c1:=C3.2.1 1 _ rfl;have c2:=C3.2.1 2 _ rfl;have sk:=hid hown;clear C3 hC hgr hne' hown hbel HB3 bQ HB2 H1)
   go_step3
   rw[E3.out]
   refine⟨rfl,⟨p+ol.toNat,l ++ [(g p,(p:Int),ol)],A',c',m+1,_,_,_,_,_,_,_,_,_,_,_,_,_,_,_,_,_,_,_,_,_,_,_,_,_,_,_,(by rw[HM.out];simp),hL.out,mh.out,sk.out,rfl⟩,?_⟩
   simp[intOf]
   omega
 have e1:p=n:=by omega
 have hend:=hid (tD HS.out (show n≤p by omega))
 have t0:((p:Int)==n)=true:=by simp;omega
 go_wp2
 simp only[Exit.jump]
 go_ret2
 exact ko hend.out HM.out HO.out HB.out
theorem ym (i:Nat)(y x:Int)(hi:i≤32)(hy:0≤y)(hy2:y*2^i<4294967296)(hx:0≤x)(hx2:x<2^i):bits .or .u32 (y*2^i) x=y*2^i+x:=by
 obtain ⟨a,rfl⟩:=Int.eq_ofNat_of_zero_le hy
 obtain ⟨b,rfl⟩:=Int.eq_ofNat_of_zero_le hx
 have hp:(2:Nat)^i≤2^32:=Nat.pow_le_pow_right (by omega) hi
 have hq:(((2^i:Nat)):Int)=2^i:=by simp
 rw[←hq]at hy2 hx2 ⊢
 have e:((a:Int)*((2^i:Nat):Int))=((a*2^i:Nat):Int):=by simp
 rw[e]at hy2 ⊢
 have hor:a*2^i ||| b=a*2^i+b:=by rw[Nat.mul_comm a,←Nat.two_pow_add_eq_or_of_lt (by omega)]
 have hs:a*2^i+b<2^32:=by rw[←hor];exact Nat.or_lt_two_pow (by omega) (by omega)
 show IntKind.u32.wrap ((BitVec.ofInt 32 ((a*2^i:Nat):Int) ||| BitVec.ofInt 32 (b:Int)).toNat:Int)=_
 exact qYX
theorem Hy (a b:Int)(ha:0≤a∧a≤255)(hb:0≤b∧b≤255):bits .or .u32 (a*16777216) (b*65536)=a*16777216+b*65536:=
 ym 24 a (b*65536) (by omega) (by omega) (by omega) (by omega) (by omega)
theorem Hw (a b c:Int)(ha:0≤a∧a≤255)(hb:0≤b∧b≤255)(hc:0≤c∧c≤255):bits .or .u32 (a*16777216+b*65536) (c*256)=a*16777216+b*65536+c*256:=by
 have:=ym 16 (a*256+b) (c*256) (by omega) (by omega) (by omega) (by omega) (by omega)
 have e:(a*256+b)*2^16=a*16777216+b*65536:=by omega
 rwa [e]at this
theorem Hv (a b c d:Int)(ha:0≤a∧a≤255)(hb:0≤b∧b≤255)(hc:0≤c∧c≤255)(hd:0≤d∧d≤255):bits .or .u32 (a*16777216+b*65536+c*256) d=a*16777216+b*65536+c*256+d:=by
 have:=ym 8 (a*65536+b*256+c) d (by omega) (by omega) (by omega) (by omega) (by omega)
 have e:(a*65536+b*256+c)*2^8=a*16777216+b*65536+c*256:=by omega
 rwa [e]at this
theorem Ax (x0 x1 x2 x3:Int)(b off n c:Nat)(w:World)(h0:0≤x0∧x0≤255)(h1:0≤x1∧x1≤255)(h2:0≤x2∧x2≤255)(h3:0≤x3∧x3≤255)(hn:4≤n)
 (c0:w.cell? ⟨b,off,none⟩=some (.int .u8 x0)) (c1:w.cell? ⟨b,off+1,none⟩=some (.int .u8 x1)) (c2:w.cell? ⟨b,off+2,none⟩=some (.int .u8 x2)) (c3:w.cell? ⟨b,off+3,none⟩=some (.int .u8 x3)) :
 Calls Tryz.prog 129 #[.slice (some ⟨b,off,none⟩) n c] w fun e w'=>e =.returned (.int .u32 (x0*16777216+x1*65536+x2*256+x3))∧∃k,w'=w.drewN k:=by
 have q1:=Hy x0 x1 h0 h1
 have q2:=Hw x0 x1 x2 h0 h1 h2
 have q3:=Hv x0 x1 x2 x3 h0 h1 h2 h3
 obtain ⟨Ou,Ot⟩:=h0
 obtain ⟨h1a,h1b⟩:=h1
 obtain ⟨IY,IW⟩:=h2
 obtain ⟨Oo,On⟩:=h3
 have i0:(0:Int)<n:=by omega
 have i1:(1:Int)<n:=by omega
 have i2:(2:Int)<n:=by omega
 have i3:(3:Int)<n:=by omega
 go_enter Tryz.func129,Tryz.ntmps129
 go_wp2
 go_quiet (fail)
 go_wp2
 go_ret
 exact⟨rfl,_,rfl⟩
theorem FM (x0 x1 x2 x3:Int)(b off n c:Nat)(w:World)(h0:0≤x0∧x0≤255)(h1:0≤x1∧x1≤255)(h2:0≤x2∧x2≤255)(h3:0≤x3∧x3≤255)(hn:4≤n)
 (c0:w.cell? ⟨b,off,none⟩=some (.int .u8 x0)) (c1:w.cell? ⟨b,off+1,none⟩=some (.int .u8 x1)) (c2:w.cell? ⟨b,off+2,none⟩=some (.int .u8 x2)) (c3:w.cell? ⟨b,off+3,none⟩=some (.int .u8 x3)) :
 Calls Tryz.prog 58 #[.slice (some ⟨b,off,none⟩) n c] w fun e w'=>e =.returned (.int .u32 (x0*16777216+x1*65536+x2*256+x3))∧∃k,w'=w.drewN k:=by
 have q1:=Hy x0 x1 h0 h1
 have q2:=Hw x0 x1 x2 h0 h1 h2
 have q3:=Hv x0 x1 x2 x3 h0 h1 h2 h3
 obtain ⟨Ou,Ot⟩:=h0
 obtain ⟨h1a,h1b⟩:=h1
 obtain ⟨IY,IW⟩:=h2
 obtain ⟨Oo,On⟩:=h3
 have i0:(0:Int)<n:=by omega
 have i1:(1:Int)<n:=by omega
 have i2:(2:Int)<n:=by omega
 have i3:(3:Int)<n:=by omega
 go_enter Tryz.func58,Tryz.ntmps58
 go_wp2
 go_quiet (fail)
 go_wp2
 go_ret
 exact⟨rfl,_,rfl⟩
theorem wI (A:Option Addr)(n c:Nat)(g:Nat→Int)(w:World)(h:By w A n g)(hg:aC g)(hn:4≤n) :
 Calls Tryz.prog 129 #[.slice A n c] w fun e w'=>e =.returned (.int .u32 (gR g 0))∧∃k,w'=w.drewN k:=by
 obtain ⟨b,off,rfl,_,hc⟩:=h (by omega)
 exact Ax _ _ _ _ b off n c w (hg 0) (hg 1) (hg 2) (hg 3) hn (hc 0 (by omega)) (hc 1 (by omega)) (hc 2 (by omega)) (hc 3 (by omega))
theorem zQ (A:Option Addr)(n c:Nat)(g:Nat→Int)(w:World)(h:By w A n g)(hg:aC g)(hn:4≤n) :
 Calls Tryz.prog 58 #[.slice A n c] w fun e w'=>e =.returned (.int .u32 (gR g 0))∧∃k,w'=w.drewN k:=by
 obtain ⟨b,off,rfl,_,hc⟩:=h (by omega)
 exact FM _ _ _ _ b off n c w (hg 0) (hg 1) (hg 2) (hg 3) hn (hc 0 (by omega)) (hc 1 (by omega)) (hc 2 (by omega)) (hc 3 (by omega))
def BM (z:Int):List Int:=[z/16777216,z/65536%256,z/256%256,z%256]
def b4 (z:Int)(j:Nat):Int:=(BM z).getD j 0
def Lf (v e:Int):List Int:=[1,1,8,10]++BM v++BM e
def mO (v e:Int)(j:Nat):Int:=(Lf v e).getD j 0
theorem Ow.lit {w:World}{B g:Nat}{e:TypeId}{k:IntKind}(l:List Int)(hg:w.heap.size=g)(hB:B≤g)(hm:l.length≤maxLen) :
 Ow (w.alloc (.cells (l.map (Value.int k)).toArray e)) B e 1 (.slice (some ⟨g,0,none⟩) l.length l.length) l.length (fun j=>.int k (l.getD j 0)):=by
 subst hg
 have:=World.ownsRow_lit (size:=1) (e:=e) (base:=B) w (l.map (Value.int k)).toArray l.length hB hm (by simp)
 unfold Ow
 rw[show (List.range (l.length*1)).map (fun j=>Value.int k (l.getD j 0))=l.map (Value.int k) from by
  apply List.ext_getElem
  ·simp
  intro i h1 h2;simp at h1 h2;simp[h1,List.getD,h2]]
 exact this
theorem Ce.qP {w:World}{b:Nat}{x y z a d c:Value}(h:Ce w b [x,y,z]):Ce (((w.setCell ⟨b,0,none⟩ a).setCell ⟨b,1,none⟩ d).setCell ⟨b,2,none⟩ c) b [a,d,c]:=
 ((h.set 0 a (by simp)).set 1 d (by simp)).set 2 c (by simp)
theorem zp {g:Nat→Int}{n:Nat}:∀(l:List (Int×Int×Int)) (a:Nat),ux g n a l→l.length≤n-a:=by
 intro l
 induction l with
 |nil=>intro a h;simp
 |cons o l ih=>
  intro a ⟨h1,ha,h⟩
  have hi:=kO h1 ha
  rcases h with ⟨_,rfl⟩ |⟨_,h⟩
  ·simp;omega
  have:=ih _ h
  simp
  omega
theorem y_ (g:Nat→Int)(n:Nat):(wl g n).length≤n:=by
 unfold wl
 cases hw:walk g n 0 with
 |none=>simp
 |some l=>exact zp l 0 (uI g n n 0 l (by omega) hw)
theorem DD (o:Int×Int×Int)(w:World) :
 Calls Tryz.prog 128 #[oV o] w fun e w'=>e =.returned (.bool (qp o))∧Below w.heap.size w w':=by
 obtain ⟨k,a,l⟩:=o
 unfold oV
 have hk:qp (k,a,l)=(k==8&&l==10):=rfl
 rw[hk]
 clear hk
 simp only
 cases h1:(k==8)
 ·go_enter Tryz.func128,Tryz.ntmps128
  go_wp2
  go_ret
  exact⟨rfl,(Below.refl _ _).alloc (Nat.le_refl _) _⟩
 cases h2:(l==10)
 all_goals
  go_enter Tryz.func128,Tryz.ntmps128
  go_wp2
  go_ret
  exact⟨rfl,(Below.refl _ _).alloc (Nat.le_refl _) _⟩
def qC (w:World)(A:Option Addr)(l:List (Int×Int×Int)):Prop:=Sl w A (l.length*3) (fun j=>.int .i64 (lc l j))
theorem vt {l:List (Int×Int×Int)}{k:Nat}(hk:k<l.length):fst (l.drop k)=if qp l[k] then some l[k] else fst (l.drop (k+1)):=by
 unfold fst
 rw[List.drop_eq_getElem_cons hk,List.find?_cons]
 cases qp l[k] <;> simp
theorem qC.cells {w:World}{b off:Nat}{l:List (Int×Int×Int)}(h:qC w (some ⟨b,off,none⟩) l){k:Nat}(hk:k<l.length) :
 w.cell? ⟨b,off+k*3,none⟩=some (.int .i64 l[k].1)∧w.cell? ⟨b,off+k*3+1,none⟩=some (.int .i64 l[k].2.1)∧w.cell? ⟨b,off+k*3+2,none⟩=some (.int .i64 l[k].2.2):=by
 obtain ⟨e0,e1,e2⟩:=Kx l k hk
 have h0:=Sl.at_ h (j:=k*3) (by omega)
 have h1:=Sl.at_ h (j:=k*3+1) (by omega)
 have h2:=Sl.at_ h (j:=k*3+2) (by omega)
 simp only[e0,e1,e2,←Nat.add_assoc]at h0 h1 h2
 exact⟨h0,h1,h2⟩
def Gz (w:World)(l:List (Int×Int×Int))(i:Value)(wr:World):Prop:=
 ∃k:Nat,k≤l.length∧i =.int .i64 (k:Int)∧fst (l.drop k)=fst l∧Below w.heap.size w wr∧Ce wr w.heap.size [(),(),()]
set_option maxHeartbeats 2000000 in
theorem tT {A:Option Addr}{c m:Nat}{l:List (Int×Int×Int)}{w:World}(h:qC w A l)(hm:m=l.length)(hl:l.length≤1000000) :
 Calls Tryz.prog 127 #[.slice A m c,.func (Fn.func 128) #[] #[]] w fun e w'=>e =.returned (.tuple #[oV ((fst l).getD (0,0,0)),(fst l).isSome])∧Below w.heap.size w w':=by
 have HM:=hid hm
 rw[←hm]at hl
 clear hm
 go_enter Tryz.func127,Tryz.ntmps127
 go_wp2
 go_loopw [11] (fun i wr=>Gz w l i wr) (fun i _=>m-(intOf i).toNat)
 case atStart=>exact⟨0,Nat.zero_le _,rfl,rfl,(Below.refl _ _).alloc (Nat.le_refl _) _,Ce.made (l:=[(),(),()]) rfl⟩
 obtain ⟨k,hk,rfl,hf,hb,hC⟩:=hrel
 rw[←HM.out]at hk
 by_cases hlt:k<m
 ·have hkl:k<l.length:=by rw[←HM.out];exact hlt
  obtain ⟨b,off,rfl,hbw,_⟩:=h (by omega)
  obtain ⟨q0,q1,q2⟩:=qC.cells h hkl
  have hd:=vt hkl
  have c0:=(hb.cell (p:=⟨b,off+k*3,none⟩) hbw).trans q0
  have c1:=(hb.cell (p:=⟨b,off+k*3+1,none⟩) hbw).trans q1
  have c2:=(hb.cell (p:=⟨b,off+k*3+2,none⟩) hbw).trans q2
  obtain ⟨x,y,z,hx⟩:∃x y z:Int,l[k]=(x,y,z):=⟨_,_,_,rfl⟩
  rw[hx]at c0 c1 c2 hd
  simp only at c0 c1 c2
  have HF:=hid hf
  have HB:=hid hb
  have HC:=hid hC
  have hbr:b<wr.heap.size:=Nat.lt_of_lt_of_le hbw hb.size
  have hD:=hid hd
  have i1:(k:Int)<m:=by omega
  have IS:=DD (x,y,z)
  unfold oV at IS
  simp only at IS
  obtain ⟨sv,hsv⟩:∃sv,sv=qp (x,y,z):=⟨_,rfl⟩
  rw[←hsv]at IS
  have Mh:=hid hsv
  replace IS:=hid IS
  clear q0 q1 q2 hf hb hC hd h hx hsv
  go_wp2_with fail
  refine(IS.out _).mono ?_
  rintro e w2 ⟨rfl,hb2⟩
  have C7:=(Ce.made (w:=wr) (l:=[x,y,z]) (T:=187) (g:=wr.heap.size) rfl).below hb2
  have C4:=(HC.out.alloc (.cells #[x,y,z] 187)).below hb2
  have HB2:=hid ((HB.out.alloc HB.out.size (.cells #[x,y,z] 187)).trans (hb2.mono (by simp;have:=HB.out.size;omega)))
  have H4:=hid C4
  have d0:=C7.2.1 0 _ rfl
  have d1:=C7.2.1 1 _ rfl
  have d2:=C7.2.1 2 _ rfl
  clear hb2 C7 c0 c1 c2 IS HC HB
  have M3:=C4.1
  cases sv
  ·clear C4
   have HN:=hid (hD.out)
   go_wp2
   go_roundw
   case rel=>exact⟨k+1,by rw[←HM.out];omega,by go_num,by rw[←HF.out,hD.out,←Mh.out];rfl,HB2.out,H4.out⟩
   simp[intOf];omega
  have f4:=C4.2.2
  have e0:=C4.2.1 0 _ rfl
  have e1:=C4.2.1 1 _ rfl
  have e2:=C4.2.1 2 _ rfl
  clear C4
  go_wp2
  refine cV (fun W=>Ce W w.heap.size [x,y,z]∧Below w.heap.size w W) ⟨Ce.qP H4.out,((HB2.out.setCell (Nat.le_refl _) _).setCell (Nat.le_refl _) _).setCell (Nat.le_refl _) _⟩ ?_
  rintro W ⟨hc,hB⟩
  have g0:=hc.2.1 0 _ rfl
  have g1:=hc.2.1 1 _ rfl
  have g2:=hc.2.1 2 _ rfl
  exact bodyPost_ret (v:=.tuple #[.agg #[x,y,z],true]) (by simp[results,Tryz.results127,go_sem,g0,g1,g2]) rfl ⟨by rw[←HF.out,hD.out,←Mh.out];rfl,hB⟩
 have i1:¬(k:Int)<m:=by omega
 have hnone:fst l=none:=by rw[←hf,List.drop_of_length_le (by rw[←HM.out];omega)];rfl
 have HN:=hid hnone
 have HB:=hid hb
 have HC:=hid hC
 have M3:=hC.1
 have f4:=hC.2.2
 have e0:=hC.2.1 0 _ rfl
 have e1:=hC.2.1 1 _ rfl
 have e2:=hC.2.1 2 _ rfl
 clear hb hC hf hnone
 go_wp2
 refine cV (fun W=>Ce W w.heap.size [(),(),()]∧Below w.heap.size w W) ⟨Ce.alloc (Ce.qP HC.out) _,(((HB.out.setCell (Nat.le_refl _) _).setCell (Nat.le_refl _) _).setCell (Nat.le_refl _) _).alloc (by simpa using HB.out.size) _⟩ ?_
 rintro W ⟨hc,hB⟩
 have g0:=hc.2.1 0 _ rfl
 have g1:=hc.2.1 1 _ rfl
 have g2:=hc.2.1 2 _ rfl
 exact bodyPost_ret (v:=.tuple #[.agg #[(),(),()],false]) (by simp[results,Tryz.results127,go_sem,g0,g1,g2]) rfl ⟨by rw[HN.out];rfl,hB⟩
theorem rM (A:Option Addr)(n c:Nat)(g:Nat→Int)(i:Nat)(w:World)(h:By w A n (fun j=>g (i+j)))(hg:aC g)(hn:4≤n) :
 Calls Tryz.prog 129 #[.slice A n c] w fun e w'=>e =.returned (.int .u32 (gR g i))∧∃k,w'=w.drewN k:=
 wI A n c (fun j=>g (i+j)) w h (fun j=>hg _) hn
theorem uQ (A:Option Addr)(n c:Nat)(g:Nat→Int)(i:Nat)(w:World)(h:By w A n (fun j=>g (i+j)))(hg:aC g)(hn:4≤n) :
 Calls Tryz.prog 58 #[.slice A n c] w fun e w'=>e =.returned (.int .u32 (gR g i))∧∃k,w'=w.drewN k:=
 zQ A n c (fun j=>g (i+j)) w h (fun j=>hg _) hn
def L4 (s:Int×Int×Int×Bool):Value:=.tuple #[s.1,.int .u32 s.2.1,.int .u32 s.2.2.1,s.2.2.2]
set_option maxHeartbeats 2000000 in
theorem oM (A:Option Addr)(n c:Nat)(g:Nat→Int)(w:World)(h:By w A n g)(hg:aC g)(hn:n≤1000000)(hc:n≤c) :
 Calls Tryz.prog 97 #[.slice A n c] w fun e w'=>e =.returned (L4 (stamp g n))∧Below w.heap.size w w':=by
 have W:=Cs A n c g w h hg hn
 have hlen:=y_ g n
 unfold ni wl we at W
 cases hw:walk g n 0 with
 |none=>
  rw[hw]at W
  simp only[Option.getD_none,Option.isSome_none,List.length_nil,Bool.false_eq_true,if_false]at W
  have HS:Hid (stamp g n=(0,0,0,false)):=hid (by unfold stamp;rw[hw];rfl)
  replace W:=hid W
  clear hw hlen
  go_enter Tryz.func97,Tryz.ntmps97
  go_wp2_with fail
  refine W.out.mono ?_
  rintro e w1 ⟨A1,c1,rfl,ho,hb⟩
  have HB:=hid hb
  clear ho hb
  go_wp2
  refine bodyPost_ret (v:=.tuple #[(),.int .u32 0,.int .u32 0,false]) (by simp[results,Tryz.results97,go_sem]) rfl ⟨by rw[HS.out];rfl,HB.out⟩
 |some l=>
  rw[hw]at W
  simp only[Option.getD_some,Option.isSome_some,if_true]at W
  have hll:l.length≤n:=by have e:wl g n=l:=by unfold wl;rw[hw];rfl
                          rw[e]at hlen;exact hlen
  cases hf:fst l with
  |none=>
   have HS:Hid (stamp g n=(0,0,0,false)):=hid (by unfold stamp rB;rw[hw];simp only;rw[hf])
   replace W:=hid W
   have HF:=hid hf
   have HL:=hid hll
   clear hw hlen hf hll
   go_enter Tryz.func97,Tryz.ntmps97
   go_wp2_with fail
   refine W.out.mono ?_
   rintro e w1 ⟨A1,c1,rfl,ho,hb⟩
   have HB:=hid hb
   have F:=tT (c:=c1) (Ow.sl ho:qC w1 A1 l) rfl (by have:=HL.out;omega)
   rw[HF.out]at F
   simp only[Option.getD_none,Option.isSome_none,oV]at F
   replace F:=hid F
   clear ho hb
   go_wp2_with fail
   refine F.out.mono ?_
   rintro e w2 ⟨rfl,hb2⟩
   have HB2:=hid (HB.out.trans (hb2.mono HB.out.size))
   clear hb2
   go_wp2
   refine bodyPost_ret (v:=.tuple #[(),.int .u32 0,.int .u32 0,false]) (by simp[results,Tryz.results97,go_sem]) rfl ⟨by rw[HS.out];rfl,HB2.out.alloc HB2.out.size _⟩
  |some o=>
   obtain ⟨o1,o2,o3⟩:=rX hw hf
   obtain ⟨p,hp⟩:∃p,p=o.2.1.toNat:=⟨_,rfl⟩
   rw[←hp]at o2 o3
   obtain ⟨ok,oa,ol⟩:=o
   simp only at o3 o1 hp
   subst o3
   have HS:Hid (stamp g n=((p:Int)+2,gR g (p+2),gR g (p+6),true)):=hid (by unfold stamp rB;rw[hw];simp only;rw[hf];simp)
   replace W:=hid W
   have HF:=hid hf
   have HL:=hid hll
   have HY:=hid h
   have HG:=hid hg
   clear hw hlen hf hll h hg hp
   go_enter Tryz.func97,Tryz.ntmps97
   go_wp2_with fail
   refine W.out.mono ?_
   rintro e w1 ⟨A1,c1,rfl,ho,hb⟩
   have HB:=hid hb
   have F:=tT (c:=c1) (Ow.sl ho:qC w1 A1 l) rfl (by have:=HL.out;omega)
   rw[HF.out]at F
   simp only[Option.getD_some,Option.isSome_some,oV]at F
   replace F:=hid F
   clear ho hb
   go_wp2_with fail
   refine F.out.mono ?_
   rintro e w2 ⟨rfl,hb2⟩
   have HB2:=hid ((HB.out.trans (hb2.mono HB.out.size)).alloc (by have:=HB.out.size;have:=hb2.size;omega) (.cells #[ok,(p:Int),ol] 187))
   clear hb2
   go_wp2_with fail
   generalize w2.alloc (.cells #[ok,(p:Int),ol] 187)=w3 at *
   have hy:=HY.out.below HB2.out (Nat.le_refl _)
   obtain ⟨A2,r2,s2⟩:=iK A n c (p+2) (p+6) (by omega) (by omega) hc ((p:Int)+2) ((p:Int)+6) (by omega) (by omega)
   obtain ⟨A3,r3,s3⟩:=iK A n c (p+6) (p+10) (by omega) (by omega) hc ((p:Int)+6) ((p:Int)+10) (by omega) (by omega)
   rw[show p+6-(p+2)=4 from by omega]at r2 s2
   rw[show p+10-(p+6)=4 from by omega]at r3 s3
   have S2:=hid (s2 w3 g hy)
   have S3:=hid (s3 w3 g hy)
   have b1:(0:Int)≤p:=by omega
   have b2:(p:Int)+10≤n:=by omega
   have i4:IntKind.i64.wrap ((p:Int)+2+4)=(p:Int)+6:=by rw[IntKind.wrap_i64];omega
   have i8:IntKind.i64.wrap ((p:Int)+2+8)=(p:Int)+10:=by rw[IntKind.wrap_i64];omega
   have j4:IntKind.i64.wrap ((p:Int)+6)=(p:Int)+6:=by rw[IntKind.wrap_i64];omega
   have j8:IntKind.i64.wrap ((p:Int)+10)=(p:Int)+10:=by rw[IntKind.wrap_i64];omega
   clear hy s2 s3 HY HF F W HL o1 o2 hn
   go_quiet ((go_at_call 129;first |exact Ld (rM _ _ _ _ _ _ (by first |exact S2.out.drewN _ |exact S3.out.drewN _) HG.out (by omega)) |exact Lb (rM _ _ _ _ _ _ (by first |exact S2.out.drewN _ |exact S3.out.drewN _) HG.out (by omega))))
   go_wp2
   refine bodyPost_ret (v:=.tuple #[.int .i64 ((p:Int)+2),.int .u32 (gR g (p+2)),.int .u32 (gR g (p+6)),true]) (by simp[results,Tryz.results97,go_sem]) rfl ⟨by rw[HS.out];rfl,below_drewN HB2.out _⟩
end Go.Proofs.YtalnfkijiehjhaaGreat
