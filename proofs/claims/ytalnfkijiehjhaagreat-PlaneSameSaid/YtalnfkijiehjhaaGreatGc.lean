/- Check, Takes and the small ones. The package's Check. The reference's Check. Operations of which it is known what they yield. -/
import Derived.Test.YtalnfkijiehjhaaGreatGa
import Derived.Test.YtalnfkijiehjhaaGreatGp
import Derived.BigQuiet
import Derived.Deep.RegionHeld3
import Derived.Deep.Cut
namespace Go.Proofs.YtalnfkijiehjhaaGreat
set_option linter.unusedVariables false
set_option linter.unusedSimpArgs false
open Go.RowKit Go.ChangeShapes Go.WideShapes Go.ChangeAt
def dX (n lo hi:Int):Bool:=decide (lo≤n)&&decide (n≤hi)
theorem cY (n lo hi:Int)(w:World):Calls Tryz.prog 65 #[n,lo,hi] w fun e w'=>e =.returned (.bool (!(dX n lo hi)))∧w=w':=by
 unfold dX
 cases h1:decide (lo≤n) <;> cases h2:decide (n≤hi)
 all_goals
  have g1:decide (n<lo) =!decide (lo≤n):=by by_cases h:lo≤n <;> simp[h] <;> omega
  have g2:decide (hi<n) =!decide (n≤hi):=by by_cases h:n≤hi <;> simp[h] <;> omega
  rw[h1]at g1
  rw[h2]at g2
  go_enter Tryz.func65,Tryz.ntmps65
  go_wp2
  go_ret
  exact⟨rfl,rfl⟩
def jY (a p:Int):Bool:=dX a 0 4294967295&&dX p 0 65535
def eP (s:Int):Bool:=s==1 || s==2 || s==3
theorem yt (s:Sp)(w:World):Calls Tryz.prog 124 #[gV s] w fun e w'=>e =.returned (.bool (eP s.st))∧Below w.heap.size w w':=by
 unfold eP gV
 obtain ⟨st,ad,po,we,si⟩:=s
 simp only
 cases h1:(st==1) <;> cases h2:(st==2) <;> cases h3:(st==3)
 all_goals
  go_enter Tryz.func124,Tryz.ntmps124
  go_wp2
  go_ret
  exact⟨rfl,(Below.refl _ _).alloc (Nat.le_refl _) _⟩
def its (e:En):En:=if e.k=1 then ⟨e.k,e.s,e.a,e.p,e.w,fv⟩ else if e.k=6 then ⟨e.k,0,0,0,0,e.y⟩ else ⟨e.k,e.s,0,0,0,fv⟩
def KR (x y:Ky):Bool:=x.a==y.a&&x.b==y.b
def Hv (x y:En):Bool:=x.k==y.k&&(x.s==y.s&&(x.a==y.a&&(x.p==y.p&&(x.w==y.w&&KR x.y y.y))))
section
variable {P:Program}{ops:Array Oper}{rest:List Oper}{Q:Exit→Act→World→Prop}{o:Oper}{a:Act}{w:World}{v:Value}
theorem dV (hw:Region.wanted o (yielded ops a.tmps)=true)(he:(execOp a.eval o).run P w =.ok (.value v) w)(h:wpList P ops Q rest (a.put o.dst v) w):wpList P ops Q (o::rest) a w:=by
 simp only[wpList]
 rw[if_pos hw]
 left
 unfold Oper.wp
 rw[he]
 exact h
end
def oF (e:En):Int:=
 if (decide (e.k<1) || decide (6<e.k))=true then 2
 else if (!(dX e.s 0 63) || (e.k==6&&e.s != 0))=true then 11
 else if (e.k==1 &&!(jY e.a e.p&&dX e.w 1 8))=true then 14
 else if Hv e (its e)=true then 0 else 14
theorem zY (e:En):oF e=bif (decide (e.k<1) || decide (6<e.k)) then 2 else bif (!(dX e.s 0 63) || (e.k==6&&e.s != 0)) then 11 else bif (e.k==1 &&!(jY e.a e.p&&dX e.w 1 8)) then 14 else (if Hv e (its e)=true then 0 else 14):=by
 unfold oF
 cases (decide (e.k<1) || decide (6<e.k)) <;> cases (!(dX e.s 0 63) || (e.k==6&&e.s != 0)) <;> cases (e.k==1 &&!(jY e.a e.p&&dX e.w 1 8)) <;> rfl
theorem EW (k:Int):(decide (k<1) || decide (6<k)) =!(dX k 1 6):=by
 unfold dX
 by_cases h1:1≤k <;> by_cases h2:k≤6 <;> simp[h1,h2] <;> omega
theorem DI (e:En):oF e=bif !(dX e.k 1 6) then 2 else bif !(dX e.s 0 63) || (e.k==6&&e.s != 0) then 11 else
 bif e.k==1 &&!(dX e.a 0 4294967295&&dX e.p 0 65535&&dX e.w 1 8) then 14 else
 bif (!(e.k==1)&&(e.a != 0 || e.p != 0 || e.w != 0)) || (!(e.k==6) &&!(e.y.a==0&&e.y.b==0)) then 14 else 0:=by
 obtain ⟨k,s,a,p,m,y1,y2⟩:=e
 rw[zY]
 simp only[EW,jY]
 cases i0:dX k 1 6
 ·rfl
 cases i1:(!(dX s 0 63) || (k==6&&s != 0))
 ·simp only[cond_false,cond_true,Bool.not_true]
  cases i2:(k==1 &&!(dX a 0 4294967295&&dX p 0 65535&&dX m 1 8))
  ·simp only[cond_false]
   unfold its Hv KR fv
   simp only
   by_cases b1:k=1
   ·subst b1
    simp
    by_cases h1:y1=0 <;> by_cases h2:y2=0 <;> simp[h1,h2]
   ·rw[if_neg b1]
    by_cases b6:k=6
    ·subst b6
     have hs:s=0:=by simp at i1;exact i1.2
     subst hs
     simp[bne]
     by_cases ha:a=0 <;> by_cases hp:p=0 <;> by_cases hm:m=0 <;> simp[ha,hp,hm]
    ·rw[if_neg b6]
     simp[b1,b6,bne]
     by_cases ha:a=0 <;> by_cases hp:p=0 <;> by_cases hm:m=0 <;> by_cases h1:y1=0 <;> by_cases h2:y2=0 <;> simp[ha,hp,hm,h1,h2]
  ·rfl
 ·rfl
set_option maxRecDepth 100000 in
set_option maxHeartbeats 4000000 in
theorem xf (e:En)(w:World):Calls Tryz.prog 67 #[pJ e] w fun x w'=>x =.returned (.int .i64 (oF e))∧Below w.heap.size w w':=by
 obtain ⟨k,s,a,p,m,y1,y2⟩:=e
 have HC:=hid (DI ⟨k,s,a,p,m,⟨y1,y2⟩⟩)
 simp only at HC
 unfold pJ
 generalize oF ⟨k,s,a,p,m,⟨y1,y2⟩⟩=r at *
 simp only
 cases i0:dX k 1 6
 ·have HR:Hid (r=2):=hid (by rw[HC.out];simp only[i0];rfl)
  clear HC
  go_enter Tryz.func67,Tryz.ntmps67
  go_wp2_with fail
  go_quiet (fail)
  go_wp2_with (go_at_call 65;refine(cY _ _ _ _).mono ?_;rintro x w' ⟨rfl,rfl⟩)
  go_ret
  exact⟨by rw[HR.out];rfl,below_drewN ((Below.refl _ _).alloc (Nat.le_refl _) _) _⟩
 ·cases i1:dX s 0 63
  ·have HR:Hid (r=11):=hid (by rw[HC.out];simp only[i0,i1];rfl)
   clear HC
   go_enter Tryz.func67,Tryz.ntmps67
   go_wp2_with fail
   go_quiet (fail)
   go_wp2_with (go_at_call 65;refine(cY _ _ _ _).mono ?_;rintro x w' ⟨rfl,rfl⟩)
   go_ret
   exact⟨by rw[HR.out];rfl,below_drewN ((Below.refl _ _).alloc (Nat.le_refl _) _) _⟩
  ·cases b1:(k==1)
   ·cases b6:(k==6)
    ·cases a0:(a != 0)
     ·cases p0:(p != 0)
      ·cases m0:(m != 0)
       ·cases c1:(y1==0)
        ·have HR:Hid (r=14):=hid (by rw[HC.out];simp only[i0,i1,b1,b6,a0,p0,m0,c1];rfl)
         clear HC
         go_enter Tryz.func67,Tryz.ntmps67
         go_wp2_with fail
         go_quiet (fail)
         go_wp2_with (go_at_call 65;refine(cY _ _ _ _).mono ?_;rintro x w' ⟨rfl,rfl⟩)
         go_ret
         exact⟨by rw[HR.out];rfl,below_drewN ((Below.refl _ _).alloc (Nat.le_refl _) _) _⟩
        ·cases c2:(y2==0)
         ·have HR:Hid (r=14):=hid (by rw[HC.out];simp only[i0,i1,b1,b6,a0,p0,m0,c1,c2];rfl)
          clear HC
          go_enter Tryz.func67,Tryz.ntmps67
          go_wp2_with fail
          go_quiet (fail)
          go_wp2_with (go_at_call 65;refine(cY _ _ _ _).mono ?_;rintro x w' ⟨rfl,rfl⟩)
          go_ret
          exact⟨by rw[HR.out];rfl,below_drewN ((Below.refl _ _).alloc (Nat.le_refl _) _) _⟩
         ·have HR:Hid (r=0):=hid (by rw[HC.out];simp only[i0,i1,b1,b6,a0,p0,m0,c1,c2];rfl)
          clear HC
          go_enter Tryz.func67,Tryz.ntmps67
          go_wp2_with fail
          go_quiet (fail)
          go_wp2_with (go_at_call 65;refine(cY _ _ _ _).mono ?_;rintro x w' ⟨rfl,rfl⟩)
          go_ret
          exact⟨by rw[HR.out];rfl,below_drewN ((Below.refl _ _).alloc (Nat.le_refl _) _) _⟩
       ·have HR:Hid (r=14):=hid (by rw[HC.out];simp only[i0,i1,b1,b6,a0,p0,m0];rfl)
        clear HC
        go_enter Tryz.func67,Tryz.ntmps67
        go_wp2_with fail
        go_quiet (fail)
        go_wp2_with (go_at_call 65;refine(cY _ _ _ _).mono ?_;rintro x w' ⟨rfl,rfl⟩)
        go_ret
        exact⟨by rw[HR.out];rfl,below_drewN ((Below.refl _ _).alloc (Nat.le_refl _) _) _⟩
      ·have HR:Hid (r=14):=hid (by rw[HC.out];simp only[i0,i1,b1,b6,a0,p0];rfl)
       clear HC
       go_enter Tryz.func67,Tryz.ntmps67
       go_wp2_with fail
       go_quiet (fail)
       go_wp2_with (go_at_call 65;refine(cY _ _ _ _).mono ?_;rintro x w' ⟨rfl,rfl⟩)
       go_ret
       exact⟨by rw[HR.out];rfl,below_drewN ((Below.refl _ _).alloc (Nat.le_refl _) _) _⟩
     ·have HR:Hid (r=14):=hid (by rw[HC.out];simp only[i0,i1,b1,b6,a0];rfl)
      clear HC
      go_enter Tryz.func67,Tryz.ntmps67
      go_wp2_with fail
      go_quiet (fail)
      go_wp2_with (go_at_call 65;refine(cY _ _ _ _).mono ?_;rintro x w' ⟨rfl,rfl⟩)
      go_ret
      exact⟨by rw[HR.out];rfl,below_drewN ((Below.refl _ _).alloc (Nat.le_refl _) _) _⟩
    ·cases s0:(s != 0)
     ·cases a0:(a != 0)
      ·cases p0:(p != 0)
       ·cases m0:(m != 0)
        ·have HR:Hid (r=0):=hid (by rw[HC.out];simp only[i0,i1,b1,b6,s0,a0,p0,m0];rfl)
         clear HC
         go_enter Tryz.func67,Tryz.ntmps67
         go_wp2_with fail
         go_quiet (fail)
         go_wp2_with (go_at_call 65;refine(cY _ _ _ _).mono ?_;rintro x w' ⟨rfl,rfl⟩)
         go_ret
         exact⟨by rw[HR.out];rfl,below_drewN ((Below.refl _ _).alloc (Nat.le_refl _) _) _⟩
        ·have HR:Hid (r=14):=hid (by rw[HC.out];simp only[i0,i1,b1,b6,s0,a0,p0,m0];rfl)
         clear HC
         go_enter Tryz.func67,Tryz.ntmps67
         go_wp2_with fail
         go_quiet (fail)
         go_wp2_with (go_at_call 65;refine(cY _ _ _ _).mono ?_;rintro x w' ⟨rfl,rfl⟩)
         go_ret
         exact⟨by rw[HR.out];rfl,below_drewN ((Below.refl _ _).alloc (Nat.le_refl _) _) _⟩
       ·have HR:Hid (r=14):=hid (by rw[HC.out];simp only[i0,i1,b1,b6,s0,a0,p0];rfl)
        clear HC
        go_enter Tryz.func67,Tryz.ntmps67
        go_wp2_with fail
        go_quiet (fail)
        go_wp2_with (go_at_call 65;refine(cY _ _ _ _).mono ?_;rintro x w' ⟨rfl,rfl⟩)
        go_ret
        exact⟨by rw[HR.out];rfl,below_drewN ((Below.refl _ _).alloc (Nat.le_refl _) _) _⟩
      ·have HR:Hid (r=14):=hid (by rw[HC.out];simp only[i0,i1,b1,b6,s0,a0];rfl)
       clear HC
       go_enter Tryz.func67,Tryz.ntmps67
       go_wp2_with fail
       go_quiet (fail)
       go_wp2_with (go_at_call 65;refine(cY _ _ _ _).mono ?_;rintro x w' ⟨rfl,rfl⟩)
       go_ret
       exact⟨by rw[HR.out];rfl,below_drewN ((Below.refl _ _).alloc (Nat.le_refl _) _) _⟩
     ·have HR:Hid (r=11):=hid (by rw[HC.out];simp only[i0,i1,b1,b6,s0];rfl)
      clear HC
      go_enter Tryz.func67,Tryz.ntmps67
      go_wp2_with fail
      go_quiet (fail)
      go_wp2_with (go_at_call 65;refine(cY _ _ _ _).mono ?_;rintro x w' ⟨rfl,rfl⟩)
      go_ret
      exact⟨by rw[HR.out];rfl,below_drewN ((Below.refl _ _).alloc (Nat.le_refl _) _) _⟩
   ·have b6:(k==6)=false:=by have:=eq_of_beq b1;subst this;rfl
    cases ia:dX a 0 4294967295
    ·have HR:Hid (r=14):=hid (by rw[HC.out];simp only[i0,i1,b1,b6,ia];rfl)
     clear HC
     go_enter Tryz.func67,Tryz.ntmps67
     go_wp2_with fail
     go_quiet (fail)
     go_wp2_with (go_at_call 65;refine(cY _ _ _ _).mono ?_;rintro x w' ⟨rfl,rfl⟩)
     go_ret
     exact⟨by rw[HR.out];rfl,below_drewN ((Below.refl _ _).alloc (Nat.le_refl _) _) _⟩
    ·cases ip:dX p 0 65535
     ·have HR:Hid (r=14):=hid (by rw[HC.out];simp only[i0,i1,b1,b6,ia,ip];rfl)
      clear HC
      go_enter Tryz.func67,Tryz.ntmps67
      go_wp2_with fail
      go_quiet (fail)
      go_wp2_with (go_at_call 65;refine(cY _ _ _ _).mono ?_;rintro x w' ⟨rfl,rfl⟩)
      go_ret
      exact⟨by rw[HR.out];rfl,below_drewN ((Below.refl _ _).alloc (Nat.le_refl _) _) _⟩
     ·cases im:dX m 1 8
      ·have HR:Hid (r=14):=hid (by rw[HC.out];simp only[i0,i1,b1,b6,ia,ip,im];rfl)
       clear HC
       go_enter Tryz.func67,Tryz.ntmps67
       go_wp2_with fail
       go_quiet (fail)
       go_wp2_with (go_at_call 65;refine(cY _ _ _ _).mono ?_;rintro x w' ⟨rfl,rfl⟩)
       go_ret
       exact⟨by rw[HR.out];rfl,below_drewN ((Below.refl _ _).alloc (Nat.le_refl _) _) _⟩
      ·cases c1:(y1==0)
       ·have HR:Hid (r=14):=hid (by rw[HC.out];simp only[i0,i1,b1,b6,ia,ip,im,c1];rfl)
        clear HC
        go_enter Tryz.func67,Tryz.ntmps67
        go_wp2_with fail
        go_quiet (fail)
        go_wp2_with (go_at_call 65;refine(cY _ _ _ _).mono ?_;rintro x w' ⟨rfl,rfl⟩)
        go_ret
        exact⟨by rw[HR.out];rfl,below_drewN ((Below.refl _ _).alloc (Nat.le_refl _) _) _⟩
       ·cases c2:(y2==0)
        ·have HR:Hid (r=14):=hid (by rw[HC.out];simp only[i0,i1,b1,b6,ia,ip,im,c1,c2];rfl)
         clear HC
         go_enter Tryz.func67,Tryz.ntmps67
         go_wp2_with fail
         go_quiet (fail)
         go_wp2_with (go_at_call 65;refine(cY _ _ _ _).mono ?_;rintro x w' ⟨rfl,rfl⟩)
         go_ret
         exact⟨by rw[HR.out];rfl,below_drewN ((Below.refl _ _).alloc (Nat.le_refl _) _) _⟩
        ·have HR:Hid (r=0):=hid (by rw[HC.out];simp only[i0,i1,b1,b6,ia,ip,im,c1,c2];rfl)
         clear HC
         go_enter Tryz.func67,Tryz.ntmps67
         go_wp2_with fail
         go_quiet (fail)
         go_wp2_with (go_at_call 65;refine(cY _ _ _ _).mono ?_;rintro x w' ⟨rfl,rfl⟩)
         go_ret
         exact⟨by rw[HR.out];rfl,below_drewN ((Below.refl _ _).alloc (Nat.le_refl _) _) _⟩
section
variable {P:Program}{ops:Array Oper}{rest:List Oper}{Q:Exit→Act→World→Prop}{o:Oper}{a:Act}{w:World}{v:Value}
theorem bY {T:TypeId}{x:Operand}{A:Addr}(hw:Region.wanted o (yielded ops a.tmps)=true)(ho:o.op =.load T x)(hx:a.eval x =.pointer (some A))(hl:(Instr.loadAt T (.pointer (some A))).run P w =.ok v w)
 (h:wpList P ops Q rest (a.put o.dst v) w):wpList P ops Q (o::rest) a w:=
 dV hw (by unfold execOp;simp only[ho,hx,Sem.run_bind,hl,Result.andThen_ok,Sem.run_pure]) h
theorem mZ {T:TypeId}{x i:Operand}{u k:Value}(hw:Region.wanted o (yielded ops a.tmps)=true)(ho:o.op =.index T x i)(hx:a.eval x=u)(hi:a.eval i=k)(hl:(Instr.index T u k).run P w =.ok v w)
 (h:wpList P ops Q rest (a.put o.dst v) w):wpList P ops Q (o::rest) a w:=
 dV hw (by unfold execOp;simp only[ho,hx,hi,Sem.run_bind,hl,Result.andThen_ok,Sem.run_pure]) h
theorem cx {T:TypeId}{x y:Operand}{A:Addr}{w':World}(hw:Region.wanted o (yielded ops a.tmps)=true)(ho:o.op =.store T x y)(hx:a.eval x =.pointer (some A))(hy:a.eval y=v)(hl:(Instr.storeAt T (.pointer (some A)) v).run P w =.ok () w')
 (h:wpList P ops Q rest (a.put o.dst undef) w'):wpList P ops Q (o::rest) a w:=by
 simp only[wpList]
 rw[if_pos hw]
 left
 unfold Oper.wp
 have he:(execOp a.eval o).run P w =.ok .skip w':=by
  unfold execOp
  simp only[ho,hx,hy,Sem.run_bind,hl,Result.andThen_ok,Sem.run_pure]
 rw[he]
 exact h
end
section
variable {P:Program}{Q:Exit→Act→World→Prop}{o:Oper}{a:Act}{w:World}{v:Value}{K:Act→World→Prop}
theorem jR {f:Operand→Value}{T:TypeId}{x:Operand}{A:Addr}(ho:o.op =.load T x)(hx:f x =.pointer (some A))(hl:(Instr.loadAt T (.pointer (some A))).run P w =.ok v w):(execOp f o).run P w =.ok (.value v) w:=by
 unfold execOp;simp only[ho,hx,Sem.run_bind,hl,Result.andThen_ok,Sem.run_pure]
theorem yX (he:(execOp a.eval o).run P w =.ok (.value v) w)(h:K (a.put o.dst v) w):o.wp P a w K Q:=by
 unfold Oper.wp;rw[he];exact h
theorem fI {T:TypeId}{x y:Operand}{A:Addr}{w':World}(ho:o.op =.store T x y)(hx:a.eval x =.pointer (some A))(hy:a.eval y=v)(hl:(Instr.storeAt T (.pointer (some A)) v).run P w =.ok () w')(h:K (a.put o.dst undef) w'):o.wp P a w K Q:=by
 unfold Oper.wp
 have he:(execOp a.eval o).run P w =.ok .skip w':=by
  unfold execOp
  simp only[ho,hx,hy,Sem.run_bind,hl,Result.andThen_ok,Sem.run_pure]
 rw[he]
 exact h
end
section
variable {w:World}{b:Nat}{p:Pl}
theorem ak.kV (h:ak w b p)(i:Nat)(hi:i<64):(Instr.loadAt 26 (.pointer (some ⟨b,3+i*5,none⟩))).run Tryz.prog w =.ok (gV (p.s i)) w:=by
 refine run_loadAt_mid w b (3+i*5) 26 [(p.s i).st,(p.s i).ad,(p.s i).po,(p.s i).we,(p.s i).si] _ (fun j v hj=>?_) Tryz.underlying26 rfl (by kernel_rfl)
 have hl:j<5:=(List.getElem?_eq_some_iff.1 hj).1
 rw[h.cs i j hi hl,←hj]
 rcases j with _ | _ | _ | _ | _ |j
 ·rfl
 ·rfl
 ·rfl
 ·rfl
 ·rfl
 ·omega
theorem ak.JJ (h:ak w b p):(Instr.loadAt 32 (.pointer (some ⟨b,323,none⟩))).run Tryz.prog w =.ok (gF p.r) w:=by
 refine run_loadAt_mid w b 323 32 [p.r.e,.int .u64 p.r.p.a,.int .u64 p.r.p.b,.int .u64 p.r.c.a,.int .u64 p.r.c.b,.int .u64 p.r.n.a,.int .u64 p.r.n.b] _ (fun j v hj=>?_) Tryz.underlying32 rfl (by kernel_rfl)
 have hl:j<7:=(List.getElem?_eq_some_iff.1 hj).1
 rw[h.cr j hl,←hj]
 rcases j with _ | _ | _ | _ | _ | _ | _ |j
 ·rfl
 ·rfl
 ·rfl
 ·rfl
 ·rfl
 ·rfl
 ·rfl
 ·omega
theorem ak.mD (h:ak w b p)(i:Nat)(hi:i<64)(s:Sp):(Instr.storeAt 26 (.pointer (some ⟨b,3+i*5,none⟩)) (gV s)).run Tryz.prog w =.ok () (w.setCells b (3+i*5) [s.st,s.ad,s.po,s.we,s.si]):=by
 refine run_storeAt_mid w b (3+i*5) 26 #[s.st,s.ad,s.po,s.we,s.si] (fun j hj=>?_) (by kernel_rfl) (all_oneCell_toArray (fun v hv=>by simp at hv;rcases hv with rfl |rfl |rfl |rfl |rfl <;> rfl))
 have hl:j<5:=hj
 rw[h.cs i j hi hl]
 exact⟨rfl,h.2.2 _⟩
theorem ak.FO (h:ak w b p)(r:Rg):(Instr.storeAt 32 (.pointer (some ⟨b,323,none⟩)) (gF r)).run Tryz.prog w =.ok () (w.setCells b 323 [r.e,.int .u64 r.p.a,.int .u64 r.p.b,.int .u64 r.c.a,.int .u64 r.c.b,.int .u64 r.n.a,.int .u64 r.n.b]):=by
 refine run_storeAt_mid w b 323 32 #[r.e,.int .u64 r.p.a,.int .u64 r.p.b,.int .u64 r.c.a,.int .u64 r.c.b,.int .u64 r.n.a,.int .u64 r.n.b] (fun j hj=>?_) (by kernel_rfl) (all_oneCell_toArray (fun v hv=>by simp at hv;rcases hv with rfl |rfl |rfl |rfl |rfl |rfl |rfl <;> rfl))
 have hl:j<7:=hj
 rw[h.cr j hl]
 exact⟨rfl,h.2.2 _⟩
end
def uM (p:Pl)(a q:Int)(i:Nat):Bool:=(p.s i).st != 0&&(p.s i).ad==a&&(p.s i).po==q
def tf (p:Pl)(a q:Int):Bool:=(p.a==a&&p.p==q) || (List.range 64).any (uM p a q)
theorem Ff {f:Nat→Bool}(k:Nat)(hk:k<64)(h:f k=true):(List.range 64).any f=true:=List.any_eq_true.2 ⟨k,by simpa using hk,h⟩
theorem Ii {f:Nat→Bool}(h:∀j,j<64→f j=false):(List.range 64).any f=false:=by
 rw[List.any_eq_false]
 intro j hj
 rw[h j (by simpa using hj)]
 simp
def jI (p:Pl)(a q:Int)(i:Nat):Bool:=eP (p.s i).st&&(p.s i).ad==a&&(p.s i).po==q
def fD (p:Pl)(a q:Int):Option Nat:=(List.range 64).find? (jI p a q)
theorem uz {f:Nat→Bool}(k:Nat)(hk:k<64)(hno:∀j,j<k→f j=false)(h:f k=true):(List.range 64).find? f=some k:=by
 rw[List.find?_range_eq_some]
 exact⟨h,by simpa using hk,fun j hj=>by rw[hno j hj];rfl⟩
theorem wv {f:Nat→Bool}(h:∀j,j<64→f j=false):(List.range 64).find? f=none:=by
 rw[List.find?_eq_none]
 intro j hj
 rw[h j (by simpa using hj)]
 simp
end Go.Proofs.YtalnfkijiehjhaaGreat
