/- Sums of pairs of bytes, as plain numbers. What package sum's functions answer. What the document's sums, said a second time, answer. -/
import Derived.Test.YtalnfkijiehjhaaGreatGa
import Derived.ScopeJumps
import Derived.WalkMore
namespace Go.Proofs.YtalnfkijiehjhaaGreat
set_option linter.unusedVariables false
def plus (a b:Int):Int:=if a+b>65535 then a+b-65535 else a+b
def norm (s:Int):Int:=if s=0 then 0 else (s-1)%65535+1
def tot (g:Nat→Int):Nat→Int
 |0=>0
 |n+1=>tot g n+g n*(if n%2=0 then 256 else 1)
def turn (s a b:Int):Int:=65535-plus (65535-s) (plus (65535-a) b)
theorem lv (a b:Int)(ha:0≤a)(ha':a≤65535)(hb:0≤b)(hb':b≤65535):0≤plus a b∧plus a b≤65535:=by unfold plus;split <;> omega
theorem jo (s:Int):0≤norm s∧norm s≤65535:=by unfold norm;split <;> omega
theorem Ay (s:Int):norm s=0↔s=0:=by unfold norm;split <;> omega
theorem my (s b:Int)(hs:0≤s)(hb:0≤b)(hb':b≤65535):plus (norm s) b=norm (s+b):=by
 unfold plus norm
 split <;> split <;> (try split) <;> omega
theorem sD (s a b:Int)(hs:0≤s)(hs':s≤65535)(ha:0≤a)(ha':a≤65535)(hb:0≤b)(hb':b≤65535):0≤turn s a b∧turn s a b≤65535:=by
 have h1:=lv (65535-a) b (by omega) (by omega) hb hb'
 have h2:=lv (65535-s) (plus (65535-a) b) (by omega) (by omega) h1.1 h1.2
 unfold turn
 omega
theorem xT (s a b:Int)(hs:0≤s)(hs':s≤65535)(ha:0≤a)(ha':a≤65535)(hb:0≤b)(hb':b≤65535) :
 65535-plus (plus (65535-s) (65535-a)) b=turn s a b:=by
 unfold turn plus
 split <;> split <;> (try split) <;> (try split) <;> omega
theorem fA (g:Nat→Int)(h:∀j,0≤g j∧g j≤255)(n:Nat):0≤tot g n:=by
 induction n with
 |zero=>exact Int.le_refl _
 |succ n ih=>have:=h n;unfold tot;split <;> omega
theorem iG (g:Nat→Int)(p:Nat):tot g (2*p+2)=tot g (2*p)+(g (2*p)*256+g (2*p+1)):=by
 rw[show 2*p+2=(2*p+1)+1 from rfl,tot,tot,if_pos (by omega),if_neg (by omega)]
 omega
theorem nE (g:Nat→Int)(p:Nat):tot g (2*p+1)=tot g (2*p)+g (2*p)*256:=by
 rw[tot,if_pos (by omega)]
theorem tA (g:Nat→Int)(k m:Nat):tot g (2*k+m)=tot g (2*k)+tot (fun j=>g (2*k+j)) m:=by
 induction m with
 |zero=>simp[tot]
 |succ m ih=>
  rw[←Nat.add_assoc,tot,ih,tot]
  have:(2*k+m)%2=m%2:=by omega
  rw[this]
  omega
theorem gM (g g':Nat→Int)(n:Nat)(h:∀j,j<n→g j=g' j):tot g n=tot g' n:=by
 induction n with
 |zero=>rfl
 |succ n ih=>rw[tot,tot,ih (fun j hj=>h j (by omega)),h n (by omega)]
theorem Cu (g:Nat→Int)(h:∀j,0≤g j∧g j≤255)(n:Nat):tot g n=0↔∀j,j<n→g j=0:=by
 induction n with
 |zero=>exact⟨fun _ j hj=>absurd hj (by omega),fun _=>rfl⟩
 |succ n ih=>
  have h1:=fA g h n
  have h2:=h n
  rw[tot]
  constructor
  ·intro he j hj
   have hn:g n=0∧tot g n=0:=by split at he <;> omega
   by_cases e:j=n
   ·subst e;exact hn.1
   exact ih.1 hn.2 j (by omega)
  intro hz
  rw[ih.2 (fun j hj=>hz j (by omega)),hz n (by omega)]
  simp
def set1 (g:Nat→Int)(i:Nat)(v:Int):Nat→Int:=fun j=>if j=i then v else g j
theorem Cv (g:Nat→Int)(i:Nat)(v:Int)(n:Nat)(hi:i<n):tot (set1 g i v) n=tot g n+(v-g i)*(if i%2=0 then 256 else 1):=by
 induction n with
 |zero=>omega
 |succ n ih=>
  by_cases e:i=n
  ·subst e
   rw[tot,tot,gM (set1 g i v) g i (fun j hj=>by unfold set1;rw[if_neg (by omega)])]
   simp only[set1,if_true]
   split <;> omega
  rw[tot,tot,ih (by omega)]
  simp only[set1,if_neg (show ¬n=i by omega)]
  omega
theorem uF (x a b:Int):turn x a b%65535=(x+(a-b))%65535:=by
 unfold turn plus
 split <;> split <;> omega
open Go.RowKit
theorem qYL{P:Prop}(h:P:=by
 go_wp2
 ·go_ret
  refine⟨?_,rfl⟩
  unfold plus
  rw[if_pos (by omega)]
  rfl
 go_ret
 refine⟨?_,rfl⟩
 unfold plus
 rw[if_neg (by omega)]
 rfl
 ):P:=h
theorem nM (a b:Int)(w:World)(ha:0≤a)(ha':a≤65535)(hb:0≤b)(hb':b≤65535) :
 Calls Tryz.prog 176 #[a,b] w fun e w'=>e =.returned (.int .i64 (plus a b))∧w=w':=by
 go_enter Tryz.func176,Tryz.ntmps176
 exact qYL
theorem qXS{P:Prop}(h:P:=by
 obtain ⟨x,rfl⟩:=Int.eq_ofNat_of_zero_le ha
 obtain ⟨y,rfl⟩:=Int.eq_ofNat_of_zero_le hb
 have e:((x:Int)*256)=((x*256:Nat):Int):=by omega
 have hor:x*256 ||| y=x*256+y:=by
  rw[Nat.mul_comm,show (256:Nat)=2^8 from rfl,Nat.two_pow_add_eq_or_of_lt (by omega)]
 rw[e]
 show IntKind.i64.wrap ((BitVec.ofInt 64 ((x*256:Nat):Int) ||| BitVec.ofInt 64 ((y:Nat):Int)).toNat:Int)=_
 exact qJP
 ):P:=h
theorem Dj (a b:Int)(ha:0≤a)(ha':a≤255)(hb:0≤b)(hb':b≤255):bits .or .i64 (a*256) b=a*256+b:=by
 exact qXS
theorem u3 (a b:Int)(w:World)(ha:0≤a)(ha':a≤255)(hb:0≤b)(hb':b≤255) :
 Calls Tryz.prog 177 #[.int .u8 a,.int .u8 b] w fun e w'=>e =.returned (.int .i64 (a*256+b))∧w=w':=by
 have h:=Dj a b ha ha' hb hb'
 go_enter Tryz.func177,Tryz.ntmps177
 go_wp2
 go_ret
 exact⟨rfl,rfl⟩
theorem Ct (s a b:Int)(w:World)(hs:0≤s)(hs':s≤65535)(ha:0≤a)(ha':a≤65535)(hb:0≤b)(hb':b≤65535) :
 Calls Tryz.prog 178 #[s,a,b] w fun e w'=>e =.returned (.int .i64 (turn s a b))∧w=w':=by
 have h1:=lv (65535-a) b (by omega) (by omega) hb hb'
 have h2:=lv (65535-s) (plus (65535-a) b) (by omega) (by omega) h1.1 h1.2
 obtain ⟨h1a,h1b⟩:=h1
 obtain ⟨IY,IW⟩:=h2
 go_enter Tryz.func178,Tryz.ntmps178
 go_wp2_with fail
 refine(nM _ _ _ (by omega) (by omega) hb hb').mono ?_
 rintro e w' ⟨rfl,rfl⟩
 go_wp2_with fail
 refine(nM _ _ _ (by omega) (by omega) h1a h1b).mono ?_
 rintro e w' ⟨rfl,rfl⟩
 go_wp2
 go_ret
 exact⟨rfl,rfl⟩
def K8 (w:World)(A:Option Addr)(n c:Nat)(g:Nat→Int)(a':Act)(w':World):Prop:=
 (∃k,w'=w.drewN k)∧∃(p:Nat) (u5 u6 u7 u8 u9 wV rs uD zj zi zh u16 zg ze zd u20 u21 u22 u23 u24 u25 u26 u27 u28 u29 u30 u31 u32 u33 u34 u35:Value),a' ={ tmps:=#[.slice A n c,undef,.int .i64 0,.int .i64 (norm (tot g (2*p))),.int .i64 ((2*p:Nat):Int),u5,u6,u7,u8,u9,wV,rs,uD,zj,zi,zh,u16,zg,ze,zd,u20,u21,u22,u23,u24,u25,u26,u27,u28,u29,u30,u31,u32,u33,u34,u35],defers:=[] }∧2*p≤n
theorem xH (A:Option Addr)(n c:Nat)(g:Nat→Int)(w:World)(h:By w A n g)(hg:aC g)(hn:n≤140737488355328) :
 Calls Tryz.prog 147 #[.slice A n c] w fun e w'=>e =.returned (.int .i64 (norm (tot g n)))∧∃k,w'=w.drewN k:=by
 go_enter Tryz.func147,Tryz.ntmps147
 go_wp2
 refine oe 0 (K8 w A n c g) (fun a' _=>n-(intOf (a'.tmps.getD 4 undef)).toNat) rfl ?_ ?_
 ·intro Q' hQ
  have HQ:=hid hQ
  clear hQ
  go_wp2
  go_step3
  simp only[Exit.then]
  refine(by assumption:∀a w,_→_) _ _ ?_
  exact HQ.out _ _ ⟨⟨0,rfl⟩,0,undef,undef,undef,undef,undef,undef,undef,undef,undef,undef,undef,undef,undef,undef,undef,undef,undef,undef,undef,undef,undef,undef,undef,undef,undef,undef,undef,undef,undef,undef,undef,rfl,by omega⟩
 rintro a' w' ⟨⟨k,rfl⟩,p,u5,u6,u7,u8,u9,wV,rs,uD,zj,zi,zh,u16,zg,ze,zd,u20,u21,u22,u23,u24,u25,u26,u27,u28,u29,u30,u31,u32,u33,u34,u35,rfl,hp⟩
 have hb0:=hg (2*p)
 have hb1:=hg (2*p+1)
 have hnm:=jo (tot g (2*p))
 obtain ⟨DU,DT⟩:=hb0
 obtain ⟨IG,IE⟩:=hb1
 obtain ⟨hna,hnb⟩:=hnm
 by_cases h1:2*p+1<n
 ·obtain ⟨b,off,rfl,hlt,hc⟩:=h (by omega)
  have hc0:w.cell? ⟨b,off+(2*(p:Int)).toNat,none⟩=some (.int .u8 (g (2*p))):=by
   rw[show (2*(p:Int)).toNat=2*p from by omega];exact hc _ (by omega)
  have hc1:w.cell? ⟨b,off+(2*(p:Int)+1).toNat,none⟩=some (.int .u8 (g (2*p+1))):=by
   rw[show (2*(p:Int)+1).toNat=2*p+1 from by omega];exact hc _ (by omega)
  clear hc h
  have ht:decide (2*(p:Int)+1<n)=true:=by simp;omega
  have e1:((2*p:Nat):Int)=2*(p:Int):=by omega
  rw[e1]
  clear e1
  have i0:0≤2*(p:Int):=by omega
  have i1:2*(p:Int)<n:=by omega
  have i2:0≤2*(p:Int)+1:=by omega
  have i3:2*(p:Int)+1<n:=by omega
  have i4:IntKind.i64.wrap (2*(p:Int)+1)=2*(p:Int)+1:=IntWalk.i64_in _ (by omega)
  go_wp2
  go_quiet ((first | (go_at_call 177;exact Lc (u3 _ _ _ DU DT IG IE)) | (go_at_call 176;exact Lc (nM _ _ _ hna hnb (by omega) (by omega)))))
  clear i4
  go_wp2
  go_step3
  have e2:plus (norm (tot g (2*p))) (g (2*p)*256+g (2*p+1))=norm (tot g (2*(p+1))):=by
   rw[my _ _ (fA g hg _) (by omega) (by omega),Nat.mul_add,iG]
  have e3:2*(p:Int)+2=((2*(p+1):Nat):Int):=by omega
  rw[e2,e3]
  refine⟨rfl,⟨⟨_,rfl⟩,p+1,_,_,_,_,_,_,_,_,_,_,_,_,_,_,_,_,_,_,_,_,_,_,_,_,_,_,_,_,_,_,_,rfl,by omega⟩,?_⟩
  simp[intOf]
  omega
 have ht:decide (2*(p:Int)+1<n)=false:=by simp;omega
 have e1:((2*p:Nat):Int)=2*(p:Int):=by omega
 by_cases h2:2*p<n
 ·have ht2:decide (2*(p:Int)<n)=true:=by simp;omega
  have i1:2*(p:Int)<n:=by omega
  have i0:0≤2*(p:Int):=by omega
  obtain ⟨b,off,rfl,hlt,hc⟩:=h (by omega)
  have hc0:w.cell? ⟨b,off+2*p,none⟩=some (.int .u8 (g (2*p))):=hc _ (by omega)
  clear hc h
  rw[e1]
  clear e1
  have hfin:norm (tot g n)=plus (norm (tot g (2*p))) (g (2*p)*256):=by
   rw[show n=2*p+1 from by omega,my _ _ (fA g hg _) (by omega) (by omega),nE]
  have HF:=hid hfin
  clear hfin
  go_wp2_with fail
  refine(u3 _ _ _ DU DT (by omega) (by omega)).mono ?_
  rintro e w' ⟨rfl,rfl⟩
  go_wp2_with fail
  refine(nM _ _ _ hna hnb (by omega) (by omega)).mono ?_
  rintro e w' ⟨rfl,rfl⟩
  go_wp2
  simp only[Exit.jump]
  go_ret
  exact⟨bp HF.out.symm,_,rfl⟩
 have ht2:decide (2*(p:Int)<n)=false:=by simp;omega
 rw[e1]
 clear e1
 have hfin:norm (tot g n)=norm (tot g (2*p)):=by rw[show n=2*p from by omega]
 have HF:=hid hfin
 clear hfin
 go_wp2
 simp only[Exit.jump]
 go_ret
 exact⟨bp HF.out.symm,_,rfl⟩
theorem va (A:Option Addr)(n c:Nat)(g:Nat→Int)(w:World)(h:By w A n g)(hg:aC g)(hn:n≤140737488355328) :
 Calls Tryz.prog 152 #[.slice A n c] w fun e w'=>e =.returned (.int .i64 (65535-norm (tot g n)))∧∃k,w'=w.drewN k:=by
 have hb:=jo (tot g n)
 obtain ⟨h1,h2⟩:=hb
 go_enter Tryz.func152,Tryz.ntmps152
 go_wp2_with fail
 refine(xH _ _ _ _ _ h hg hn).mono ?_
 rintro e w' ⟨rfl,k,rfl⟩
 go_wp2
 go_ret
 exact⟨rfl,k,rfl⟩
theorem zZ (A:Option Addr)(n c:Nat)(g:Nat→Int)(w:World)(h:By w A n g)(hg:aC g)(hn:n≤140737488355328) :
 Calls Tryz.prog 118 #[.slice A n c] w fun e w'=>e =.returned (.bool (norm (tot g n)==65535))∧∃k,w'=w.drewN k:=by
 go_enter Tryz.func118,Tryz.ntmps118
 go_wp2_with fail
 refine(xH _ _ _ _ _ h hg hn).mono ?_
 rintro e w' ⟨rfl,k,rfl⟩
 go_wp2
 all_goals go_ret
 all_goals exact⟨rfl,k,rfl⟩
theorem mq (a b:Int)(w:World)(ha:0≤a)(ha':a≤65535)(hb:0≤b)(hb':b≤65535) :
 Calls Tryz.prog 116 #[a,b] w fun e w'=>e =.returned (.int .i64 (plus a b))∧w=w':=by
 go_enter Tryz.func116,Tryz.ntmps116
 exact qYL
theorem dU (s a b:Int)(w:World)(hs:0≤s)(hs':s≤65535)(ha:0≤a)(ha':a≤65535)(hb:0≤b)(hb':b≤65535) :
 Calls Tryz.prog 79 #[s,a,b] w fun e w'=>e =.returned (.int .i64 (turn s a b))∧w=w':=by
 have h1:=lv (65535-s) (65535-a) (by omega) (by omega) (by omega) (by omega)
 have h2:=lv (plus (65535-s) (65535-a)) b h1.1 h1.2 hb hb'
 have ht:=hid (xT s a b hs hs' ha ha' hb hb')
 obtain ⟨h1a,h1b⟩:=h1
 obtain ⟨IY,IW⟩:=h2
 go_enter Tryz.func79,Tryz.ntmps79
 go_wp2_with fail
 refine(mq _ _ _ (by omega) (by omega) (by omega) (by omega)).mono ?_
 rintro e w' ⟨rfl,rfl⟩
 go_wp2_with fail
 refine(mq _ _ _ h1a h1b hb hb').mono ?_
 rintro e w' ⟨rfl,rfl⟩
 go_wp2
 go_ret
 exact⟨bp ht.out,rfl⟩
theorem qZ8{P:Prop}(h:P:=by
 go_wp2_with fail
 refine(mq _ _ _ hna hnb (by omega) (by omega)).mono ?_
 rintro e w' ⟨rfl,rfl⟩
 go_wp2
 go_round
 case rel=>exact⟨p+1,by omega,by go_num,by rw[HF.out]⟩
 simp[intOf];omega
 ):P:=h
theorem uV (A:Option Addr)(n c:Nat)(g:Nat→Int)(w:World)(h:By w A n g)(hg:aC g)(hn:n≤140737488355328) :
 Calls Tryz.prog 108 #[.slice A n c] w fun e w'=>e =.returned (.int .i64 (norm (tot g n)))∧w=w':=by
 go_enter Tryz.func108,Tryz.ntmps108
 go_wp2
 go_loop [3,4,5] (fun t i _=>∃p:Nat,2*p≤n+1∧i =.int .i64 (2*(p:Int))∧t =.int .i64 (norm (tot g (min (2*p) n)))) (fun _ i _=>n+1-(intOf i).toNat)
 case atStart=>exact⟨0,by omega,rfl,by simp[tot,norm]⟩
 obtain ⟨p,hp2,rfl,rfl⟩:=hrel
 have hnm:=jo (tot g (min (2*p) n))
 obtain ⟨hna,hnb⟩:=hnm
 have hb0:=hg (2*p)
 have hb1:=hg (2*p+1)
 obtain ⟨DU,DT⟩:=hb0
 obtain ⟨IG,IE⟩:=hb1
 by_cases h0:2*p<n
 ·obtain ⟨b,off,rfl,hlt,hc⟩:=h (by omega)
  have hc0:w.cell? ⟨b,off+2*p,none⟩=some (.int .u8 (g (2*p))):=hc _ (by omega)
  have i1:2*(p:Int)<n:=by omega
  by_cases h1:2*p+1<n
  ·have hc1:w.cell? ⟨b,off+(2*p+1),none⟩=some (.int .u8 (g (2*p+1))):=hc _ (by omega)
   have i3:2*(p:Int)+1<n:=by omega
   have hfin:norm (tot g (min (2*(p+1)) n))=plus (norm (tot g (min (2*p) n))) (g (2*p)*256+g (2*p+1)):=by
    rw[Nat.min_eq_left (by omega),Nat.min_eq_left (by omega),my _ _ (fA g hg _) (by omega) (by omega),Nat.mul_add,iG]
   have HF:=hid hfin
   clear hfin hc h
   exact qZ8
  have hfin:norm (tot g (min (2*(p+1)) n))=plus (norm (tot g (min (2*p) n))) (g (2*p)*256):=by
   rw[Nat.min_eq_right (by omega),Nat.min_eq_left (by omega),show n=2*p+1 from by omega,my _ _ (fA g hg _) (by omega) (by omega),nE]
  have HF:=hid hfin
  clear hfin hc h
  have i3:¬2*(p:Int)+1<n:=by omega
  exact qZ8
 have hfin:norm (tot g n)=norm (tot g (min (2*p) n)):=by rw[Nat.min_eq_right (by omega)]
 have HF:=hid hfin
 clear hfin h
 have i1:¬2*(p:Int)<n:=by omega
 go_wp2
 go_ret
 exact⟨bp HF.out.symm,rfl⟩
theorem lr (A:Option Addr)(n c:Nat)(g:Nat→Int)(w:World)(h:By w A n g)(hg:aC g)(hn:n≤140737488355328) :
 Calls Tryz.prog 63 #[.slice A n c] w fun e w'=>e =.returned (.int .i64 (65535-norm (tot g n)))∧w=w':=by
 have hb:=jo (tot g n)
 obtain ⟨h1,h2⟩:=hb
 go_enter Tryz.func63,Tryz.ntmps63
 go_wp2_with fail
 refine(uV _ _ _ _ _ h hg hn).mono ?_
 rintro e w' ⟨rfl,rfl⟩
 go_wp2
 go_ret
 exact⟨rfl,rfl⟩
theorem nI (A:Option Addr)(n c:Nat)(g:Nat→Int)(w:World)(h:By w A n g)(hg:aC g)(hn:n≤140737488355328) :
 Calls Tryz.prog 56 #[.slice A n c] w fun e w'=>e =.returned (.bool (norm (tot g n)==65535))∧w=w':=by
 go_enter Tryz.func56,Tryz.ntmps56
 go_wp2_with fail
 refine(uV _ _ _ _ _ h hg hn).mono ?_
 rintro e w' ⟨rfl,rfl⟩
 go_wp2
 all_goals go_ret
 all_goals exact⟨rfl,rfl⟩
end Go.Proofs.YtalnfkijiehjhaaGreat
