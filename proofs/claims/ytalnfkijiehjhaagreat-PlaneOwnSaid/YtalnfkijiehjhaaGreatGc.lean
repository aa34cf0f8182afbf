/- Check, Takes and the small ones. The package's Check. The reference's Check. Operations of which it is known what they yield. -/
import Derived.Test.YtalnfkijiehjhaaGreatGa
import Derived.Test.YtalnfkijiehjhaaGreatGp
import Derived.BigQuiet
import Derived.Deep.RegionHeld3
import Derived.Deep.Cut
namespace Go.Proofs.YtalnfkijiehjhaaGreat
set_option linter.unusedVariables false
set_option linter.unusedSimpArgs false
open Go.RowKit Go.ChangeShapes Go.WideShapes Go.ChangeAt
def d_ (n lo hi:Int):Bool:=decide (lo≤n)&&decide (n≤hi)
theorem dm (n lo hi:Int)(w:World):Calls Tryz.prog 65 #[n,lo,hi] w fun e w'=>e =.returned (.bool (!(d_ n lo hi)))∧w=w':=by
 unfold d_
 cases h1:decide (lo≤n) <;> cases h2:decide (n≤hi)
 all_goals
  have g1:decide (n<lo) =!decide (lo≤n):=by by_cases h:lo≤n <;> simp[h] <;> omega
  have g2:decide (hi<n) =!decide (n≤hi):=by by_cases h:n≤hi <;> simp[h] <;> omega
  rw[h1]at g1
  rw[h2]at g2
  go_enter Tryz.func65,Tryz.ntmps65
  go_wp2
  go_ret
  exact⟨rfl,rfl⟩
def ku (a p:Int):Bool:=d_ a 0 4294967295&&d_ p 0 65535
def dO (s:Int):Bool:=s==1 || s==2 || s==3
theorem zq (s:Sp)(w:World):Calls Tryz.prog 124 #[ik s] w fun e w'=>e =.returned (.bool (dO s.st))∧Below w.heap.size w w':=by
 unfold dO ik
 obtain ⟨st,ad,po,we,si⟩:=s
 simp only
 cases h1:(st==1) <;> cases h2:(st==2) <;> cases h3:(st==3)
 all_goals
  go_enter Tryz.func124,Tryz.ntmps124
  go_wp2
  go_ret
  exact⟨rfl,(Below.refl _ _).alloc (Nat.le_refl _) _⟩
theorem nF (s:Sp)(w:World):Calls Tryz.prog 23 #[ik s] w fun e w'=>e =.returned (.bool (dO s.st))∧Below w.heap.size w w':=by
 unfold dO ik
 obtain ⟨st,ad,po,we,si⟩:=s
 simp only
 cases h1:(st==1) <;> cases h2:(st==2) <;> cases h3:(st==3)
 all_goals
  go_enter Tryz.func23,Tryz.ntmps23
  go_wp2
  go_ret
  exact⟨rfl,(Below.refl _ _).alloc (Nat.le_refl _) _⟩
def its (e:En):En:=if e.k=1 then ⟨e.k,e.s,e.a,e.p,e.w,fL⟩ else if e.k=6 then ⟨e.k,0,0,0,0,e.y⟩ else ⟨e.k,e.s,0,0,0,fL⟩
def LH (x y:Ky):Bool:=x.a==y.a&&x.b==y.b
def Ja (x y:En):Bool:=x.k==y.k&&(x.s==y.s&&(x.a==y.a&&(x.p==y.p&&(x.w==y.w&&LH x.y y.y))))
section
variable {P:Program}{ops:Array Oper}{rest:List Oper}{Q:Exit→Act→World→Prop}{o:Oper}{a:Act}{w:World}{v:Value}
theorem dZ (hw:Region.wanted o (yielded ops a.tmps)=true)(he:(execOp a.eval o).run P w =.ok (.value v) w)(h:wpList P ops Q rest (a.put o.dst v) w):wpList P ops Q (o::rest) a w:=by
 simp only[wpList]
 rw[if_pos hw]
 left
 unfold Oper.wp
 rw[he]
 exact h
end
def pu (e:En):Int:=
 if (decide (e.k<1) || decide (6<e.k))=true then 2
 else if (!(d_ e.s 0 63) || (e.k==6&&e.s != 0))=true then 11
 else if (e.k==1 &&!(ku e.a e.p&&d_ e.w 1 8))=true then 14
 else if Ja e (its e)=true then 0 else 14
theorem Bt (e:En):pu e=bif (decide (e.k<1) || decide (6<e.k)) then 2 else bif (!(d_ e.s 0 63) || (e.k==6&&e.s != 0)) then 11 else bif (e.k==1 &&!(ku e.a e.p&&d_ e.w 1 8)) then 14 else (if Ja e (its e)=true then 0 else 14):=by
 unfold pu
 cases (decide (e.k<1) || decide (6<e.k)) <;> cases (!(d_ e.s 0 63) || (e.k==6&&e.s != 0)) <;> cases (e.k==1 &&!(ku e.a e.p&&d_ e.w 1 8)) <;> rfl
theorem Gj (k:Int):(decide (k<1) || decide (6<k)) =!(d_ k 1 6):=by
 unfold d_
 by_cases h1:1≤k <;> by_cases h2:k≤6 <;> simp[h1,h2] <;> omega
theorem EU (e:En):pu e=bif !(d_ e.k 1 6) then 2 else bif !(d_ e.s 0 63) || (e.k==6&&e.s != 0) then 11 else
 bif e.k==1 &&!(d_ e.a 0 4294967295&&d_ e.p 0 65535&&d_ e.w 1 8) then 14 else
 bif (!(e.k==1)&&(e.a != 0 || e.p != 0 || e.w != 0)) || (!(e.k==6) &&!(e.y.a==0&&e.y.b==0)) then 14 else 0:=by
 obtain ⟨k,s,a,p,m,y1,y2⟩:=e
 rw[Bt]
 simp only[Gj,ku]
 cases i0:d_ k 1 6
 ·rfl
 cases i1:(!(d_ s 0 63) || (k==6&&s != 0))
 ·simp only[cond_false,cond_true,Bool.not_true]
  cases i2:(k==1 &&!(d_ a 0 4294967295&&d_ p 0 65535&&d_ m 1 8))
  ·simp only[cond_false]
   unfold its Ja LH fL
   simp only
   by_cases b1:k=1
   ·subst b1
    simp
    by_cases h1:y1=0 <;> by_cases h2:y2=0 <;> simp[h1,h2]
   rw[if_neg b1]
   by_cases b6:k=6
   ·subst b6
    have hs:s=0:=by simp at i1;exact i1.2
    subst hs
    simp[bne]
    by_cases ha:a=0 <;> by_cases hp:p=0 <;> by_cases hm:m=0 <;> simp[ha,hp,hm]
   rw[if_neg b6]
   simp[b1,b6,bne]
   by_cases ha:a=0 <;> by_cases hp:p=0 <;> by_cases hm:m=0 <;> by_cases h1:y1=0 <;> by_cases h2:y2=0 <;> simp[ha,hp,hm,h1,h2]
  rfl
 rfl
theorem qQP{P:Prop}(h:P:=by
 clear HC
 go_enter Tryz.func67,Tryz.ntmps67
 go_wp2_with fail
 go_quiet (fail)
 go_wp2_with (go_at_call 65;refine(dm _ _ _ _).mono ?_;rintro x w' ⟨rfl,rfl⟩)
 go_ret
 exact⟨by rw[HR.out];rfl,below_drewN ((Below.refl _ _).alloc (Nat.le_refl _) _) _⟩
 ):P:=h
set_option maxRecDepth 100000 in
set_option maxHeartbeats 4000000 in
theorem yh (e:En)(w:World):Calls Tryz.prog 67 #[qu e] w fun x w'=>x =.returned (.int .i64 (pu e))∧Below w.heap.size w w':=by
 obtain ⟨k,s,a,p,m,y1,y2⟩:=e
 have HC:=hid (EU ⟨k,s,a,p,m,⟨y1,y2⟩⟩)
 simp only at HC
 unfold qu
 generalize pu ⟨k,s,a,p,m,⟨y1,y2⟩⟩=r at *
 simp only
 cases i0:d_ k 1 6
 ·have HR:Hid (r=2):=hid (by rw[HC.out];simp only[i0];rfl)
  exact qQP
 cases i1:d_ s 0 63
 ·have HR:Hid (r=11):=hid (by rw[HC.out];simp only[i0,i1];rfl)
  exact qQP
 cases b1:(k==1)
 ·cases b6:(k==6)
  ·cases a0:(a != 0)
   ·cases p0:(p != 0)
    ·cases m0:(m != 0)
     ·cases c1:(y1==0)
      ·have HR:Hid (r=14):=hid (by rw[HC.out];simp only[i0,i1,b1,b6,a0,p0,m0,c1];rfl)
       exact qQP
      cases c2:(y2==0)
      ·have HR:Hid (r=14):=hid (by rw[HC.out];simp only[i0,i1,b1,b6,a0,p0,m0,c1,c2];rfl)
       exact qQP
      have HR:Hid (r=0):=hid (by rw[HC.out];simp only[i0,i1,b1,b6,a0,p0,m0,c1,c2];rfl)
      exact qQP
     have HR:Hid (r=14):=hid (by rw[HC.out];simp only[i0,i1,b1,b6,a0,p0,m0];rfl)
     exact qQP
    have HR:Hid (r=14):=hid (by rw[HC.out];simp only[i0,i1,b1,b6,a0,p0];rfl)
    exact qQP
   have HR:Hid (r=14):=hid (by rw[HC.out];simp only[i0,i1,b1,b6,a0];rfl)
   exact qQP
  cases s0:(s != 0)
  ·cases a0:(a != 0)
   ·cases p0:(p != 0)
    ·cases m0:(m != 0)
     ·have HR:Hid (r=0):=hid (by rw[HC.out];simp only[i0,i1,b1,b6,s0,a0,p0,m0];rfl)
      exact qQP
     have HR:Hid (r=14):=hid (by rw[HC.out];simp only[i0,i1,b1,b6,s0,a0,p0,m0];rfl)
     exact qQP
    have HR:Hid (r=14):=hid (by rw[HC.out];simp only[i0,i1,b1,b6,s0,a0,p0];rfl)
    exact qQP
   have HR:Hid (r=14):=hid (by rw[HC.out];simp only[i0,i1,b1,b6,s0,a0];rfl)
   exact qQP
  have HR:Hid (r=11):=hid (by rw[HC.out];simp only[i0,i1,b1,b6,s0];rfl)
  exact qQP
 have b6:(k==6)=false:=by have:=eq_of_beq b1;subst this;rfl
 cases ia:d_ a 0 4294967295
 ·have HR:Hid (r=14):=hid (by rw[HC.out];simp only[i0,i1,b1,b6,ia];rfl)
  exact qQP
 cases ip:d_ p 0 65535
 ·have HR:Hid (r=14):=hid (by rw[HC.out];simp only[i0,i1,b1,b6,ia,ip];rfl)
  exact qQP
 cases im:d_ m 1 8
 ·have HR:Hid (r=14):=hid (by rw[HC.out];simp only[i0,i1,b1,b6,ia,ip,im];rfl)
  exact qQP
 cases c1:(y1==0)
 ·have HR:Hid (r=14):=hid (by rw[HC.out];simp only[i0,i1,b1,b6,ia,ip,im,c1];rfl)
  exact qQP
 cases c2:(y2==0)
 ·have HR:Hid (r=14):=hid (by rw[HC.out];simp only[i0,i1,b1,b6,ia,ip,im,c1,c2];rfl)
  exact qQP
 have HR:Hid (r=0):=hid (by rw[HC.out];simp only[i0,i1,b1,b6,ia,ip,im,c1,c2];rfl)
 exact qQP
section
variable {P:Program}{ops:Array Oper}{rest:List Oper}{Q:Exit→Act→World→Prop}{o:Oper}{a:Act}{w:World}{v:Value}
theorem cu {T:TypeId}{x:Operand}{A:Addr}(hw:Region.wanted o (yielded ops a.tmps)=true)(ho:o.op =.load T x)(hx:a.eval x =.pointer (some A))(hl:(Instr.loadAt T (.pointer (some A))).run P w =.ok v w)
 (h:wpList P ops Q rest (a.put o.dst v) w):wpList P ops Q (o::rest) a w:=
 dZ hw (by unfold execOp;simp only[ho,hx,Sem.run_bind,hl,Result.andThen_ok,Sem.run_pure]) h
theorem nC {T:TypeId}{x i:Operand}{u k:Value}(hw:Region.wanted o (yielded ops a.tmps)=true)(ho:o.op =.index T x i)(hx:a.eval x=u)(hi:a.eval i=k)(hl:(Instr.index T u k).run P w =.ok v w)
 (h:wpList P ops Q rest (a.put o.dst v) w):wpList P ops Q (o::rest) a w:=
 dZ hw (by unfold execOp;simp only[ho,hx,hi,Sem.run_bind,hl,Result.andThen_ok,Sem.run_pure]) h
theorem qYW{P:Prop}(h:P:=by
 unfold Oper.wp
 have he:(execOp a.eval o).run P w =.ok .skip w':=by
  unfold execOp
  simp only[ho,hx,hy,Sem.run_bind,hl,Result.andThen_ok,Sem.run_pure]
 rw[he]
 exact h
 ):P:=h
theorem cE {T:TypeId}{x y:Operand}{A:Addr}{w':World}(hw:Region.wanted o (yielded ops a.tmps)=true)(ho:o.op =.store T x y)(hx:a.eval x =.pointer (some A))(hy:a.eval y=v)(hl:(Instr.storeAt T (.pointer (some A)) v).run P w =.ok () w')
 (h:wpList P ops Q rest (a.put o.dst undef) w'):wpList P ops Q (o::rest) a w:=by
 simp only[wpList]
 rw[if_pos hw]
 left
 exact qYW
end
section
variable {P:Program}{Q:Exit→Act→World→Prop}{o:Oper}{a:Act}{w:World}{v:Value}{K:Act→World→Prop}
theorem iV {f:Operand→Value}{T:TypeId}{x:Operand}{A:Addr}(ho:o.op =.load T x)(hx:f x =.pointer (some A))(hl:(Instr.loadAt T (.pointer (some A))).run P w =.ok v w):(execOp f o).run P w =.ok (.value v) w:=by
 unfold execOp;simp only[ho,hx,Sem.run_bind,hl,Result.andThen_ok,Sem.run_pure]
theorem An (he:(execOp a.eval o).run P w =.ok (.value v) w)(h:K (a.put o.dst v) w):o.wp P a w K Q:=by
 unfold Oper.wp;rw[he];exact h
theorem eZ {T:TypeId}{x y:Operand}{A:Addr}{w':World}(ho:o.op =.store T x y)(hx:a.eval x =.pointer (some A))(hy:a.eval y=v)(hl:(Instr.storeAt T (.pointer (some A)) v).run P w =.ok () w')(h:K (a.put o.dst undef) w'):o.wp P a w K Q:=by
 exact qYW
end
section
variable {w:World}{b:Nat}{p:Pl}
theorem au.lp (h:au w b p)(i:Nat)(hi:i<64):(Instr.loadAt 26 (.pointer (some ⟨b,3+i*5,none⟩))).run Tryz.prog w =.ok (ik (p.s i)) w:=by
 refine run_loadAt_mid w b (3+i*5) 26 [(p.s i).st,(p.s i).ad,(p.s i).po,(p.s i).we,(p.s i).si] _ (fun j v hj=>?_) Tryz.underlying26 rfl (by kernel_rfl)
 have hl:j<5:=(List.getElem?_eq_some_iff.1 hj).1
 rw[h.cs i j hi hl,←hj]
 rcases j with _ | _ | _ | _ | _ |j
 ·rfl
 ·rfl
 ·rfl
 ·rfl
 ·rfl
 omega
theorem au.Kw (h:au w b p):(Instr.loadAt 32 (.pointer (some ⟨b,323,none⟩))).run Tryz.prog w =.ok (fE p.r) w:=by
 refine run_loadAt_mid w b 323 32 [p.r.e,.int .u64 p.r.p.a,.int .u64 p.r.p.b,.int .u64 p.r.c.a,.int .u64 p.r.c.b,.int .u64 p.r.n.a,.int .u64 p.r.n.b] _ (fun j v hj=>?_) Tryz.underlying32 rfl (by kernel_rfl)
 have hl:j<7:=(List.getElem?_eq_some_iff.1 hj).1
 rw[h.cr j hl,←hj]
 exact qYJ
theorem au.mT (h:au w b p)(i:Nat)(hi:i<64)(s:Sp):(Instr.storeAt 26 (.pointer (some ⟨b,3+i*5,none⟩)) (ik s)).run Tryz.prog w =.ok () (w.setCells b (3+i*5) [s.st,s.ad,s.po,s.we,s.si]):=by
 refine run_storeAt_mid w b (3+i*5) 26 #[s.st,s.ad,s.po,s.we,s.si] (fun j hj=>?_) (by kernel_rfl) (all_oneCell_toArray (fun v hv=>by simp at hv;rcases hv with rfl |rfl |rfl |rfl |rfl <;> rfl))
 have hl:j<5:=hj
 rw[h.cs i j hi hl]
 exact⟨rfl,h.2.2 _⟩
theorem au.GV (h:au w b p)(r:Rg):(Instr.storeAt 32 (.pointer (some ⟨b,323,none⟩)) (fE r)).run Tryz.prog w =.ok () (w.setCells b 323 [r.e,.int .u64 r.p.a,.int .u64 r.p.b,.int .u64 r.c.a,.int .u64 r.c.b,.int .u64 r.n.a,.int .u64 r.n.b]):=by
 refine run_storeAt_mid w b 323 32 #[r.e,.int .u64 r.p.a,.int .u64 r.p.b,.int .u64 r.c.a,.int .u64 r.c.b,.int .u64 r.n.a,.int .u64 r.n.b] (fun j hj=>?_) (by kernel_rfl) (all_oneCell_toArray (fun v hv=>by simp at hv;rcases hv with rfl |rfl |rfl |rfl |rfl |rfl |rfl <;> rfl))
 have hl:j<7:=hj
 rw[h.cr j hl]
 exact⟨rfl,h.2.2 _⟩
end
def vK (p:Pl)(a q:Int)(i:Nat):Bool:=(p.s i).st != 0&&(p.s i).ad==a&&(p.s i).po==q
def uu (p:Pl)(a q:Int):Bool:=(p.a==a&&p.p==q) || (List.range 64).any (vK p a q)
theorem Gv {f:Nat→Bool}(k:Nat)(hk:k<64)(h:f k=true):(List.range 64).any f=true:=List.any_eq_true.2 ⟨k,by simpa using hk,h⟩
theorem Jw {f:Nat→Bool}(h:∀j,j<64→f j=false):(List.range 64).any f=false:=by
 rw[List.any_eq_false]
 intro j hj
 rw[h j (by simpa using hj)]
 simp
def lI (p:Pl)(a q:Int)(i:Nat):Bool:=dO (p.s i).st&&(p.s i).ad==a&&(p.s i).po==q
def fu (p:Pl)(a q:Int):Option Nat:=(List.range 64).find? (lI p a q)
theorem vu {f:Nat→Bool}(k:Nat)(hk:k<64)(hno:∀j,j<k→f j=false)(h:f k=true):(List.range 64).find? f=some k:=by
 rw[List.find?_range_eq_some]
 exact⟨h,by simpa using hk,fun j hj=>by rw[hno j hj];rfl⟩
theorem xy {f:Nat→Bool}(h:∀j,j<64→f j=false):(List.range 64).find? f=none:=by
 rw[List.find?_eq_none]
 intro j hj
 rw[h j (by simpa using hj)]
 simp
end Go.Proofs.YtalnfkijiehjhaaGreat
