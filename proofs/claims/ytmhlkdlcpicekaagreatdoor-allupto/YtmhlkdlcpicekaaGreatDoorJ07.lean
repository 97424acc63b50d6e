/- Joined. -/
import Derived.Test.YtmhlkdlcpicekaaGreatDoorJ03
set_option linter.unusedSimpArgs false
set_option linter.unusedVariables false
set_option maxRecDepth 100000
set_option maxHeartbeats 20000000
namespace Go.Proofs.YtmhlkdlcpicekaaGreatDoor
open Go.RowKit
def Rt(s:ByteArray)(E:Nat):Option Nat->ByteArray
 |some p=>s.extract p E
 |none=>⟨#[]⟩
def Ae(E:Nat)(p:Option Nat)(n:Nat):Option Nat:=p.bind fun p=>if p+n<=E then some (p+n)else none
def Bv(s:ByteArray)(E:Nat)(p:Option Nat)(n:Nat):ByteArray:=match Ae E p n with
 |some q=>s.extract (q-n) q
 |none=>⟨#[]⟩
def Ah(s:ByteArray)(E:Nat)(p:Option Nat)(n:Nat):Nat:=Aa (Bv s E p n) 0 (Bv s E p n).size
structure FR (w:World) (b:Nat) (s:ByteArray) (E:Nat) (p:Option Nat):Prop where
 rest:w.cell? ⟨b,0,none⟩=some (.string (Rt s E p))
 short:w.cell? ⟨b,1,none⟩=some (.bool p.isNone)
 fr0:w.frozen? ⟨b,0,none⟩=false
 fr1:w.frozen? ⟨b,1,none⟩=false
 le:∀q,p=some q->q<=E
 size:E<=s.size
theorem FR.keep{S:Nat->Prop}{w w':World}{b:Nat}{s:ByteArray}{E:Nat}{p:Option Nat}(h:FR w b s E p)(ht:Touch S w w')(hs:¬S b):FR w' b s E p:=
 have hl:=World.block_lt_of_cell? w _ h.rest
 ⟨ht.at h.rest hs,ht.at h.short hs,(ht.frozen (p:=⟨b,0,none⟩) hl hs).trans h.fr0,(ht.frozen (p:=⟨b,1,none⟩) hl hs).trans h.fr1,h.le,h.size⟩
theorem extract_extract(s:ByteArray)(a b c d:Nat)(hb:b<=s.size)(h:a+d<=b):(s.extract a b).extract c d=s.extract (a+c) (a+d):=by
 apply ByteArray.ext;simp only[ByteArray.data_extract,Array.extract_extract];congr 1;omega
theorem dU(s:ByteArray)(a b c d:Nat)(hb:b<=s.size)(h:b<=a+d):(s.extract a b).extract c d=s.extract (a+c) b:=by
 apply ByteArray.ext;simp only[ByteArray.data_extract,Array.extract_extract];congr 1;omega
theorem Bf(w:World)(b o:Nat)(v:Value):Touch (fun k=>k=b) w (w.setCell ⟨b,o,none⟩ v):=(Touch.refl (fun k=>k=b) w).setCell (p:=⟨b,o,none⟩) rfl v
theorem Iw(w:World)(b:Nat)(s:ByteArray)(E:Nat)(p:Option Nat)(n:Nat)(N:Int)(hN:N=(n:Int))(hn:n<=4611686018427387904)(hs:s.size<=140737488355328)(h:FR w b s E p): Calls Tryz.prog 137 #[.pointer (some ⟨b,0,none⟩),.int .i64 N] w fun e w'=>e=.returned (.string (Bv s E p n))/\FR w' b s E (Ae E p n)/\Touch (fun k=>k=b) w w':=by
 subst hN;have h1:=h.rest;have h2:=h.short;have f1:=h.fr0;have f2:=h.fr1;have hE:=h.size;cases p with
 |some q=>
  have hq:=h.le q rfl;have hz:(s.extract q E).size=E-q:=by rw[ByteArray.size_extract];omega
  by_cases hf:q+n<=E
  .have e1:Ae E (some q) n=some (q+n):=by simp[Ae,hf]
   have e2:Bv s E (some q) n=s.extract q (q+n):=by simp[Bv,e1]
   rw[e1,e2];simp only[Rt]at h1;have c1:¬((E-q:Nat):Int)<(n:Int):=by omega
   have c2:(n:Int)<=((E-q:Nat):Int):=by omega
   go_enter Tryz.func137,Tryz.ntmps137;go_wp2;go_ret;refine⟨by rw[extract_extract s q E 0 n hE hf];rfl,⟨?_,?_,?_,?_,?_,hE⟩,Bf w b 0 _⟩;.rw[World.cell?_setCell_same' _ _ _ (by rw[h1];rfl),dU s q E n (E-q) hE (by omega)];rfl
   .rw[Aq (by omega),h2];rfl
   .rw[World.frozen?_setCell];exact f1
   .rw[World.frozen?_setCell];exact f2
   rintro _ ⟨⟩;exact hf
  have e1:Ae E (some q) n=none:=by simp[Ae,hf]
  have e2:Bv s E (some q) n=⟨#[]⟩:=by simp[Bv,e1]
  rw[e1,e2];simp only[Rt]at h1;have c1:((E-q:Nat):Int)<(n:Int):=by omega
  go_enter Tryz.func137,Tryz.ntmps137;go_wp2;go_ret;refine⟨rfl,⟨?_,?_,?_,?_,?_,hE⟩,(Bf w b 0 _).trans (Bf _ b 1 _)⟩;.rw[Aq (by omega),World.cell?_setCell_same' _ _ _ (by rw[h1];rfl)];rfl
  .rw[World.cell?_setCell_same' _ _ _ (by rw[Aq (by omega),h2];rfl)];rfl
  .rw[World.frozen?_setCell,World.frozen?_setCell];exact f1
  .rw[World.frozen?_setCell,World.frozen?_setCell];exact f2
  rintro _ ⟨⟩
 |none=>
  have e1:Ae E none n=none:=rfl;have e2:Bv s E none n=⟨#[]⟩:=rfl;rw[e1,e2];simp only[Rt]at h1;by_cases hf:n=0
  .subst hf;go_enter Tryz.func137,Tryz.ntmps137;go_wp2;go_ret;refine⟨rfl,⟨?_,?_,?_,?_,?_,hE⟩,Bf w b 0 _⟩;.rw[World.cell?_setCell_same' _ _ _ (by rw[h1];rfl)];rfl
   .rw[Aq (by omega),h2]
   .rw[World.frozen?_setCell];exact f1
   .rw[World.frozen?_setCell];exact f2
   rintro _ ⟨⟩
  have c1:(0:Int)<(n:Int):=by omega
  go_enter Tryz.func137,Tryz.ntmps137;go_wp2;go_ret;refine⟨rfl,⟨?_,?_,?_,?_,?_,hE⟩,(Bf w b 0 _).trans (Bf _ b 1 _)⟩;.rw[Aq (by omega),World.cell?_setCell_same' _ _ _ (by rw[h1];rfl)];rfl
  .rw[World.cell?_setCell_same' _ _ _ (by rw[Aq (by omega),h2];rfl)];rfl
  .rw[World.frozen?_setCell,World.frozen?_setCell];exact f1
  .rw[World.frozen?_setCell,World.frozen?_setCell];exact f2
  rintro _ ⟨⟩
theorem nD(s:ByteArray):∀(k a:Nat),Hr s a (k+1)=Hr s a k+byteAt s (a+k)*256^k
 |0,a=>by simp[Hr]
 |k+1,a=>by
  rw[Hr,nD s k (a+1),Hr,show a+1+k=a+(k+1) by omega,Nat.pow_succ];generalize byteAt s (a+(k+1))=z;rw[Nat.mul_add];have:256*(z*256^k)=z*(256^k*256):=by rw[Nat.mul_comm 256,Nat.mul_assoc]
  omega
theorem Qgt(x y k:Nat)(hx:x<256^k):x|||(y*256^k)=x+y*256^k:=by
 have e:256^k=2^(8*k):=by rw[Nat.pow_mul]
 rw[e]at hx ⊢;have:=Nat.two_pow_add_eq_or_of_lt hx y;rw[Nat.or_comm,Nat.mul_comm y,<-this,Nat.add_comm]
theorem Qgm(F:ByteArray)(k x:Nat)(h:k<F.size)(k8:k<=7)(hx:x=Hr F 0 k):bits BinOp.or IntKind.u64 (x:Int) (IntKind.u64.wrap (IntKind.u64.wrap (F[k].toNat:Int)*2^(8*k)))=(Hr F 0 (k+1):Nat):=by
 have hb:=F[k].toNat_lt;have e:byteAt F (0+k)=F[k].toNat:=by rw[Nat.zero_add];unfold byteAt;rw[dif_pos h]
 have hl:=gV F k 0;rw[<-hx]at hl;have hw:∀n:Int,0<=n->n<2^64->IntKind.u64.wrap n=n:=by intro n h0 h1;simp[IntKind.wrap,IntKind.bits,IntKind.signed];omega
 have hp:256^k<=256^7:=Nat.pow_le_pow_right (by omega) k8;have hm:F[k].toNat*256^k<=255*256^7:=Nat.mul_le_mul (by omega) hp;have e2:(2:Int)^(8*k)=((256^k:Nat):Int):=by rw[Int.pow_mul,Int.natCast_pow];rfl
 rw[hw (F[k].toNat:Int) (by omega) (by omega),e2,show(F[k].toNat:Int)*((256^k:Nat):Int)=((F[k].toNat*256^k:Nat):Int) by rw[Int.natCast_mul],hw _ (by omega) (by omega)];have hh:=bits_nat .u64 64 (by decide) hw x (F[k].toNat*256^k) (by omega) (by omega);rw[hh.2,Qgt _ _ _ hl,nD,e,<-hx]
theorem Qbp(F:ByteArray)(a n:Nat):Aa F a n=if 9223372036854775807<Hr F a n then 9223372036854775807 else Hr F a n:=by
 unfold Aa;split<;>omega
theorem Ee(w:World)(b:Nat)(s:ByteArray)(E:Nat)(p:Option Nat)(n:Nat)(N:Int)(hN:N=(n:Int))(hn:n<=8)(hs:s.size<=140737488355328)(h:FR w b s E p): Calls Tryz.prog 138 #[.pointer (some ⟨b,0,none⟩),.int .i64 N] w fun e w'=>e=.returned (.int .i64 (Ah s E p n:Nat))/\FR w' b s E (Ae E p n)/\Touch (fun k=>k=b) w w':=by
 subst hN;have hF:(Bv s E p n).size<=n:=by
  unfold Bv;split;.rw[ByteArray.size_extract];omega
  exact Nat.zero_le _
 have HV:Hid (Ah s E p n=Aa (Bv s E p n) 0 (Bv s E p n).size):=rfl;obtain⟨V,eV⟩:∃V,V=Ah s E p n:=⟨_,rfl⟩;obtain⟨F,eF⟩:∃F,F=Bv s E p n:=⟨_,rfl⟩;rw[<-eF]at hF;rw[<-eV];rw[<-eV,<-eF]at HV;have HC:Hid (∀(e:Ending) (w':World),(e=.returned (.string (Bv s E p n))/\FR w' b s E (Ae E p n)/\Touch (fun k=>k=b) w w')->(e=.returned (.string F)/\Hid (FR w' b s E (Ae E p n)/\Touch (fun k=>k=b) w w'))):=by
 --',(e=.returned (.string (Bv s E p n))/\FR w' b s E (Ae E p n)/\Touch (fun k=>k=b) w w')->(e=.returned (.string F)/\Hid (FR w' b s E (Ae E p n)/\Touch (fun k=>k=b) w w'))):=by
  rintro e w' ⟨h1,h2⟩;exact⟨by rw[h1,eF],h2⟩
 clear eF eV;go_enter Tryz.func138,Tryz.ntmps138;go_wp2_with fail;refine((Iw w b s E p n _ rfl (by omega) hs h).mono HC.out).mono ?_;rintro e w1 ⟨rfl,F1⟩;clear HC h;go_wp2;go_loop [6,7,13] (fun t i j=>∃k x:Nat,k<=F.size/\j=.int .i64 (k:Int)/\t=.int .u64 (x:Int)/\Hid (x=Hr F 0 k)) (fun _ _ j=>F.size-(intOf j).toNat)
 case atStart=>exact⟨0,0,by omega,rfl,rfl,rfl⟩
 case round=>
  obtain⟨k,x,hk,rfl,rfl,HX⟩:=hrel;by_cases hlt:k<F.size
  .have k8:k<=7:=by omega
   have e8:(0:Int)<=8*(k:Int):=by omega
   have e9:8*(k:Int)<64:=by omega
   have HS:Hid (bits BinOp.or IntKind.u64 (x:Int) (IntKind.u64.wrap (IntKind.u64.wrap (F[k].toNat:Int)*2^(8*k)))=(Hr F 0 (k+1):Nat)):=Qgm F k x hlt k8 HX.out;go_wp2;exact⟨⟨k+1,_,by omega,by go_num,by rw[HS.out],rfl⟩,by simp[intOf];omega⟩
  obtain rfl:k=F.size:=by omega
  have HM:=Qbp F 0 F.size;rw[<-HX.out,<-HV.out]at HM;have HE:Hid (V=if 9223372036854775807<x then 9223372036854775807 else x):=HM;clear HM;go_wp2
  .go_ret;exact⟨Uh (by rw[HE.out,if_pos (by omega)];rfl),F1.out⟩
  go_ret;exact⟨Uh (by rw[HE.out,if_neg (by omega)]),F1.out⟩
theorem Gy(s:ByteArray)(E q n:Nat)(hE:E<=s.size)(h:q+n<=E):Ah s E (some q) n=Aa s q n:=by
 have e1:Ae E (some q) n=some (q+n):=by simp[Ae,h]
 have e2:Bv s E (some q) n=s.extract q (q+n):=by simp[Bv,e1]
 have hz:(s.extract q (q+n)).size=n:=by rw[ByteArray.size_extract];omega
 unfold Ah;rw[e2,hz];have hb:∀i,i<n->byteAt (s.extract q (q+n)) i=byteAt s (q+i):=by
  intro i hi;unfold byteAt;rw[dif_pos (by omega),dif_pos (by omega)];congr 1;exact ByteArray.getElem_extract _
 have hl:∀m a,a+m<=n->Hr (s.extract q (q+n)) a m=Hr s (q+a) m:=by
  intro m
  induction m with
  |zero=>intro a _;rfl
  |succ m ih=>intro a ha;rw[Hr,Hr,hb a (by omega),ih (a+1) (by omega)];rfl
 unfold Aa;rw[hl n 0 (by omega)];rfl
theorem xB(s:ByteArray)(E:Nat)(p:Option Nat)(n:Nat)(h:Ae E p n=none):Ah s E p n=0:=by
 unfold Ah Bv;rw[h];rfl
theorem Px(w:World)(b:Nat)(s:ByteArray)(E q n:Nat)(h:FR w b s E (some q))(hf:q+n<=E)(hs:s.size<=140737488355328): Calls Tryz.prog 137 #[.pointer (some ⟨b,0,none⟩),.int .i64 (n:Int)] w fun e w'=>e=.returned (.string (s.extract q (q+n)))/\FR w' b s E (some (q+n))/\Touch (fun k=>k=b) w w':=by
 have e1:Ae E (some q) n=some (q+n):=by simp[Ae,hf]
 have e2:Bv s E (some q) n=s.extract q (q+n):=by simp[Bv,e1]
 have hz:=h.size;have:=Iw w b s E (some q) n _ rfl (by omega) hs h;rw[e1,e2]at this;exact this
theorem Fe(w:World)(b:Nat)(s:ByteArray)(E q n:Nat)(h:FR w b s E (some q))(hf:q+n<=E)(hn:n<=8)(hs:s.size<=140737488355328): Calls Tryz.prog 138 #[.pointer (some ⟨b,0,none⟩),.int .i64 (n:Int)] w fun e w'=>e=.returned (.int .i64 (Aa s q n:Nat))/\FR w' b s E (some (q+n))/\Touch (fun k=>k=b) w w':=by
 have e1:Ae E (some q) n=some (q+n):=by simp[Ae,hf]
 have:=Ee w b s E (some q) n _ rfl hn hs h;rw[e1,Gy s E q n h.size hf]at this;exact this
theorem Tq(s:ByteArray)(a n:Nat):Aa s a n<=9223372036854775807:=by unfold Aa;omega
theorem Bj(s:ByteArray)(a n:Nat):Aa s a n<256^n:=by have:=gV s n a;unfold Aa;omega
def Eg(s:ByteArray)(i:Nat)(x y:UInt8):Bool:=decide ((s.extract i (i+4)).toList=[80,75,x,y])
def endOk(s:ByteArray)(b:Nat):Bool:=Eg s (s.size-b-22) 5 6&&decide (Aa s (s.size-b-22+20) 2=b)
def Dv(s:ByteArray):Nat->Nat->Option Nat
 |0,_=>none
 |f+1,b=>if b+22<=s.size then(if endOk s b then some (s.size-b-22)else Dv s f (b+1))else none
theorem Zd(s:ByteArray)(f b:Nat)(h:b+22<=s.size)(h':endOk s b=false):Dv s (f+1) b=Dv s f (b+1):=by simp[Dv,h,h']
theorem qZ(s:ByteArray)(f b:Nat)(h:b+22<=s.size)(h':endOk s b=true):Dv s (f+1) b=some (s.size-b-22):=by simp[Dv,h,h']
theorem eQ(s:ByteArray)(f b:Nat)(h:¬b+22<=s.size):Dv s f b=none:=by cases f<;>simp[Dv,h]
theorem Touch.Hf{S:Nat->Prop}{w a c:World}{b:Nat}(h:Touch S w a)(t:Touch (fun k=>k=b) a c)(hb:w.heap.size<=b):Touch S w c :=⟨t.os.trans h.os,t.tape.trans h.tape,t.output.trans h.output,Nat.le_trans h.size t.size,fun k hk hs=>(t.block k (Nat.lt_of_lt_of_le hk h.size) (by show¬k=b;omega)).trans (h.block k hk hs)⟩
theorem FR.new(w:World)(s:ByteArray)(q:Nat)(hq:q<=s.size)(x:ByteArray)(hx:x=s.extract q s.size):FR (w.alloc (.cells #[.string x,.bool false] 175)) w.heap.size s s.size (some q):=by
 subst hx;have hb:=heap_alloc_new w (.cells #[.string (s.extract q s.size),.bool false] 175);refine⟨?_,?_,?_,?_,?_,Nat.le_refl _⟩;.rw[Ac hb 0];rfl
 .rw[Ac hb 1];rfl
 .simp[go_sem]
 .simp[go_sem]
 rintro _ ⟨⟩;exact hq
theorem Qbc(w:World)(s:ByteArray)(hs:s.size<=140737488355328): Calls Tryz.prog 84 #[.string s] w fun e w'=>e=.returned (.tuple #[.int .i64 ((Dv s 101 0).getD 0:Nat),.bool (Dv s 101 0).isSome])/\Touch (fun _=>False) w w':=by
 go_enter Tryz.func84,Tryz.ntmps84;go_wp2;go_loopw [8] (fun i wr=>∃b:Nat,b<=101/\i=.int .i64 (b:Int)/\Hid (Dv s 101 0=Dv s (101-b) b)/\Touch (fun _=>False) w wr) (fun i _=>101-(intOf i).toNat)
 case atStart=>exact⟨0,by omega,rfl,rfl,Touch.refl _ _⟩
 case round=>
  obtain⟨b,hb,rfl,HE,ht⟩:=hrel;by_cases hlt:b<101
  .by_cases h22:b+22<=s.size
   .have c1:¬(s.size:Int)-(b:Int)-22<0:=(by omega);have f0:=FR.new wr s (s.size-b-22) (by omega) _ rfl;have hsz:=ht.size;go_wp2_with fail;refine(Px _ _ s s.size (s.size-b-22) 4 f0 (by omega) hs).mono ?_;rintro e w1 ⟨rfl,f1,t1⟩;have T1:=(ht.alloc _).Hf t1 hsz;clear t1 f0;go_wp2_with fail;refine(Px _ _ s s.size (s.size-b-22+4) 16 f1 (by omega) hs).mono ?_;rintro e w2 ⟨rfl,f2,t2⟩;have T2:=T1.Hf t2 hsz;clear t2 T1 f1 ht;have HO:Hid (endOk s b=(Eg s (s.size-b-22) 5 6&&decide (Aa s (s.size-b-22+20) 2=b))):=rfl;go_wp2_with fail
    .refine(Fe _ _ s s.size (s.size-b-22+4+16) 2 f2 (by omega) (by omega) hs).mono ?_;rintro e w3 ⟨rfl,f3,t3⟩;have T3:=T2.Hf t3 hsz;clear t3 T2 f2;have hmk:(s.extract (s.size-b-22) (s.size-b-22+4)).toList=[80,75,5,6]:=(by assumption);have nl:=Bj s (s.size-b-22+4+16) 2;obtain⟨v,hv⟩:∃v,v=Aa s (s.size-b-22+4+16) 2:=⟨_,rfl⟩;have HV:Hid (v=Aa s (s.size-b-22+20) 2):=(by unfold Hid;rw[hv]);rw[<-hv];rw[<-hv]at nl;clear hv;by_cases hvb:v=b
     .have HR:Hid (Dv s 101 0=some (s.size-b-22)):=by
       unfold Hid;rw[HE.out,show 101-b=(101-b-1)+1 by omega,qZ s _ b h22];rw[HO.out,<-HV.out,decide_eq_true hvb,Bool.and_true];exact decide_eq_true hmk
      have q1:((v:Int)==(b:Int))=true:=(by simp;omega);clear hmk;go_wp2;go_ret2;exact⟨by rw[HR.out];simp;omega,T3⟩
     have HR:Hid (Dv s 101 0=Dv s (101-(b+1)) (b+1)):=by
      unfold Hid;rw[HE.out,show 101-b=(101-(b+1))+1 by omega,Zd s _ b h22];rw[HO.out,<-HV.out,decide_eq_false hvb,Bool.and_false]
     have q1:((v:Int)==(b:Int))=false:=(by simp;omega);go_wp2;exact⟨⟨b+1,by omega,by go_num,HR.out,T3⟩,by simp[intOf];omega⟩
    have hmk:¬(s.extract (s.size-b-22) (s.size-b-22+4)).toList=[80,75,5,6]:=(by assumption);have HR:Hid (Dv s 101 0=Dv s (101-(b+1)) (b+1)):=by
     unfold Hid;rw[HE.out,show 101-b=(101-(b+1))+1 by omega,Zd s _ b h22];rw[HO.out,show Eg s (s.size-b-22) 5 6=false from decide_eq_false hmk];rfl
    exact⟨⟨b+1,by omega,by go_num,HR.out,T2⟩,by simp[intOf];omega⟩
   have HR:Hid (Dv s 101 0=none):=by unfold Hid;rw[HE.out,eQ s _ b h22]
   have c1:(s.size:Int)-(b:Int)-22<0:=by omega
   go_wp2;go_ret2;exact⟨by rw[HR.out];rfl,ht⟩
  have HR:Hid (Dv s 101 0=none):=by unfold Hid;rw[HE.out,show 101-b=0 by omega];rfl
  go_wp2;go_ret2;exact⟨by rw[HR.out];rfl,ht⟩
def Qm(d1 d2 c1 c2:Nat):Bool:=decide (d1=0)&&decide (d2=0)&&decide (c2=c1)
theorem aA(w:World)(b:Nat)(s:ByteArray)(E q d c z:Nat)(hd:d<=8)(hc:c<=8)(hz:z<=8)(h:FR w b s E (some q))(hf:q+d+d+c+c+z+z<=E)(hs:s.size<=140737488355328): Calls Tryz.prog 139 #[.pointer (some ⟨b,0,none⟩),.int .i64 (d:Int),.int .i64 (c:Int),.int .i64 (z:Int)] w fun e w'=>
   e=.returned (.agg #[.int .i64 (Aa s (q+d+d+c) c:Nat),.int .i64 (Aa s (q+d+d+c+c) z:Nat),.int .i64 (Aa s (q+d+d+c+c+z) z:Nat),.int .i64 0,.bool (Qm (Aa s q d) (Aa s (q+d) d) (Aa s (q+d+d) c) (Aa s (q+d+d+c) c))])/\FR w' b s E (some (q+d+d+c+c+z+z))/\Touch (fun k=>k=b) w w':=by
 have hb:=World.block_lt_of_cell? w _ h.rest;go_enter Tryz.func139,Tryz.ntmps139;have h0:FR (w.alloc (Obj.cells #[.int .i64 0,.int .i64 0,.int .i64 0,.int .i64 0,.bool false] 170)) b s E (some q):=h.keep ((Touch.refl (fun _=>False) w).alloc _) (fun e=>e);go_wp2_with fail;refine(Fe _ _ s E (q) d h0 (by omega) (by omega) hs).mono ?_;rintro e w1 ⟨rfl,f1,t1⟩;have T1:=t1;clear t1 h0;go_wp2_with fail;refine(Fe _ _ s E (q+d) d f1 (by omega) (by omega) hs).mono ?_;rintro e w2 ⟨rfl,f2,t2⟩;have T2:=T1.trans t2;clear t2 T1 f1;go_wp2_with fail;refine(Fe _ _ s E (q+d+d) c f2 (by omega) (by omega) hs).mono ?_;rintro e w3 ⟨rfl,f3,t3⟩;have T3:=T2.trans t3;clear t3 T2 f2;go_wp2_with fail;refine(Fe _ _ s E (q+d+d+c) c f3 (by omega) (by omega) hs).mono ?_;rintro e w4 ⟨rfl,f4,t4⟩;have T4:=T3.trans t4;clear t4 T3 f3;go_wp2_with fail;refine(Fe _ _ s E (q+d+d+c+c) z f4 (by omega) (by omega) hs).mono ?_;rintro e w5 ⟨rfl,f5,t5⟩;have T5:=T4.trans t5;clear t5 T4 f4;go_wp2_with fail;refine(Fe _ _ s E (q+d+d+c+c+z) z f5 (by omega) (by omega) hs).mono ?_;rintro e w6 ⟨rfl,f6,t6⟩;have T6:=T5.trans t6;clear t6 T5 f5;have hne:¬w.heap.size=b:=by omega
 have nb:=heap_alloc_new w (Obj.cells #[.int .i64 0,.int .i64 0,.int .i64 0,.int .i64 0,.bool false] 170);have nb6:w6.heap[w.heap.size]?=some (Obj.cells #[.int .i64 0,.int .i64 0,.int .i64 0,.int .i64 0,.bool false] 170):=(T6.block w.heap.size (by simp) hne).trans nb;obtain⟨n1,e1⟩:∃n,n=Aa s q d:=⟨_,rfl⟩;obtain⟨n2,e2⟩:∃n,n=Aa s (q+d) d:=⟨_,rfl⟩;obtain⟨n3,e3⟩:∃n,n=Aa s (q+d+d) c:=⟨_,rfl⟩;obtain⟨n4,e4⟩:∃n,n=Aa s (q+d+d+c) c:=⟨_,rfl⟩;obtain⟨n5,e5⟩:∃n,n=Aa s (q+d+d+c+c) z:=⟨_,rfl⟩;obtain⟨n6,e6⟩:∃n,n=Aa s (q+d+d+c+c+z) z:=⟨_,rfl⟩;rw[<-e1,<-e2,<-e3,<-e4,<-e5,<-e6];have HN:Hid (n1=Aa s q d/\n2=Aa s (q+d) d/\n3=Aa s (q+d+d) c/\n4=Aa s (q+d+d+c) c/\n5=Aa s (q+d+d+c+c) z/\n6=Aa s (q+d+d+c+c+z) z):=⟨e1,e2,e3,e4,e5,e6⟩;clear e1 e2 e3 e4 e5 e6 nb;have g0:w6.cell? ⟨w.heap.size,0,none⟩=some (.int .i64 0):=by rw[Ac nb6 0];rfl
 have g1:w6.cell? ⟨w.heap.size,1,none⟩=some (.int .i64 0):=by rw[Ac nb6 1];rfl
 have g2:w6.cell? ⟨w.heap.size,2,none⟩=some (.int .i64 0):=by rw[Ac nb6 2];rfl
 have g3:w6.cell? ⟨w.heap.size,3,none⟩=some (.int .i64 0):=by rw[Ac nb6 3];rfl
 have g4:w6.cell? ⟨w.heap.size,4,none⟩=some (.bool false):=by rw[Ac nb6 4];rfl
 have fz:∀o,w6.frozen? ⟨w.heap.size,o,none⟩=false:=fun o=>by rw[T6.frozen (p:=⟨w.heap.size,o,none⟩) (by simp) hne];simp[go_sem]
 have TB:Touch (fun k=>k=b) w w6:=((Touch.refl (fun k=>k=b) w).alloc _).trans T6;have hsz:w.heap.size<=w6.heap.size:=TB.size;clear T6 nb6 h hne;have FIN:Hid (∀x:Bool,FR (((((w6.setCell ⟨w.heap.size,0,none⟩ (.int .i64 n4)).setCell ⟨w.heap.size,1,none⟩ (.int .i64 n5)).setCell ⟨w.heap.size,2,none⟩ (.int .i64 n6)).setCell ⟨w.heap.size,3,none⟩ (.int .i64 0)).setCell ⟨w.heap.size,4,none⟩ (.bool x)) b s E (some (q+d+d+c+c+z+z))/\Touch (fun k=>k=b) w (((((w6.setCell ⟨w.heap.size,0,none⟩ (.int .i64 n4)).setCell ⟨w.heap.size,1,none⟩ (.int .i64 n5)).setCell ⟨w.heap.size,2,none⟩ (.int .i64 n6)).setCell ⟨w.heap.size,3,none⟩ (.int .i64 0)).setCell ⟨w.heap.size,4,none⟩ (.bool x))):=by
  intro x;have ne:∀o v,∀W:World,FR W b s E (some (q+d+d+c+c+z+z))->FR (W.setCell ⟨w.heap.size,o,none⟩ v) b s E (some (q+d+d+c+c+z+z)):=fun o v W hW=>hW.keep (S:=fun k=>k=w.heap.size) (Bf W w.heap.size o v) (by show¬b=w.heap.size;omega);exact⟨ne _ _ _ (ne _ _ _ (ne _ _ _ (ne _ _ _ (ne _ _ _ f6)))),((((TB.Ag (Nat.le_refl _) _).Ag (Nat.le_refl _) _).Ag (Nat.le_refl _) _).Ag (Nat.le_refl _) _).Ag (Nat.le_refl _) _⟩
 by_cases z1:n1=0
 .have b1:((n1:Int)==0)=true:=by simp;exact z1
  by_cases z2:n2=0
  .have b2:((n2:Int)==0)=true:=by simp;exact z2
   by_cases z3:n4=n3
   .have b3:((n4:Int)==(n3:Int))=true:=(by simp;omega);have HO:Hid (Qm n1 n2 n3 n4=true):=(by unfold Hid Qm;simp[z1,z2,z3]);clear z1 z2 z3;go_wp2;refine bodyPost_ret (v:=.agg #[.int .i64 n4,.int .i64 n5,.int .i64 n6,.int .i64 0,.bool true]) (by simp[results,Tryz.results139,go_sem,Ad,g0,g1,g2,g3,g4]) rfl ⟨?_,FIN.out _⟩;obtain⟨e1,e2,e3,e4,e5,e6⟩:=HN.out;rw[<-e1,<-e2,<-e3,<-e4,<-e5,<-e6,HO.out]
   have b3:((n4:Int)==(n3:Int))=false:=by simp;omega
   have HO:Hid (Qm n1 n2 n3 n4=false):=by unfold Hid Qm;simp[z1,z2,z3]
   clear z1 z2 z3;go_wp2;refine bodyPost_ret (v:=.agg #[.int .i64 n4,.int .i64 n5,.int .i64 n6,.int .i64 0,.bool false]) (by simp[results,Tryz.results139,go_sem,Ad,g0,g1,g2,g3,g4]) rfl ⟨?_,FIN.out _⟩;obtain⟨e1,e2,e3,e4,e5,e6⟩:=HN.out;rw[<-e1,<-e2,<-e3,<-e4,<-e5,<-e6,HO.out]
  have b2:((n2:Int)==0)=false:=by simp;exact z2
  have HO:Hid (Qm n1 n2 n3 n4=false):=by unfold Hid Qm;simp[z1,z2]
  clear z1 z2;go_wp2;refine bodyPost_ret (v:=.agg #[.int .i64 n4,.int .i64 n5,.int .i64 n6,.int .i64 0,.bool false]) (by simp[results,Tryz.results139,go_sem,Ad,g0,g1,g2,g3,g4]) rfl ⟨?_,FIN.out _⟩;obtain⟨e1,e2,e3,e4,e5,e6⟩:=HN.out;rw[<-e1,<-e2,<-e3,<-e4,<-e5,<-e6,HO.out]
 have b1:((n1:Int)==0)=false:=by simp;exact z1
 have HO:Hid (Qm n1 n2 n3 n4=false):=by unfold Hid Qm;simp[z1]
 clear z1;go_wp2;refine bodyPost_ret (v:=.agg #[.int .i64 n4,.int .i64 n5,.int .i64 n6,.int .i64 0,.bool false]) (by simp[results,Tryz.results139,go_sem,Ad,g0,g1,g2,g3,g4]) rfl ⟨?_,FIN.out _⟩;obtain⟨e1,e2,e3,e4,e5,e6⟩:=HN.out;rw[<-e1,<-e2,<-e3,<-e4,<-e5,<-e6,HO.out]
theorem Cb{w:World}{b:Nat}{cs:Array Value}{t:TypeId}(h:w.heap[b]?=some (Obj.cells cs t))(o:Nat):w.frozen? ⟨b,o,none⟩=false:=by
 unfold World.frozen?;rw[h];simp[go_sem]
def Ie(s:ByteArray)(p:Nat):Bool:=Qm (Aa s (p+4) 2) (Aa s (p+6) 2) (Aa s (p+8) 2) (Aa s (p+10) 2)
theorem Qbt(w:World)(s:ByteArray)(p:Nat)(hp:p+22<=s.size)(hs:s.size<=140737488355328): Calls Tryz.prog 85 #[.string s,.int .i64 (p:Int)] w fun e w'=>
   e=.returned (.agg #[.int .i64 (Aa s (p+10) 2:Nat),.int .i64 (Aa s (p+12) 4:Nat),.int .i64 (Aa s (p+16) 4:Nat),.int .i64 (p:Int),.bool (Ie s p)])/\Touch (fun _=>False) w w':=by
 have c1:(p:Int)+4<=(s.size:Int):=by omega
 have W1:Touch (fun _=>False) w (w.alloc (Obj.cells #[.int .i64 0,.int .i64 0,.int .i64 0,.int .i64 0,.bool false] 170)):=(Touch.refl _ w).alloc _;have f0:=FR.new (w.alloc (Obj.cells #[.int .i64 0,.int .i64 0,.int .i64 0,.int .i64 0,.bool false] 170)) s (p+4) (by omega) _ rfl;rw[World.size_alloc]at f0;go_enter Tryz.func85,Tryz.ntmps85;go_wp2_with fail;refine(aA _ _ s s.size (p+4) 2 2 4 (by omega) (by omega) (by omega) f0 (by omega) hs).mono ?_;rintro e w1 ⟨rfl,f1,t1⟩;have T1:Touch (fun _=>False) w w1:=(W1.alloc _).Hf t1 (by simp);have nb:w1.heap[w.heap.size]?=some (Obj.cells #[.int .i64 0,.int .i64 0,.int .i64 0,.int .i64 0,.bool false] 170):=by
  rw[t1.block w.heap.size (by simp;omega) (by simp)];exact(Below.heap_alloc _ _ _ (by simp)).trans (heap_alloc_new w _)
 have g0:w1.cell? ⟨w.heap.size,0,none⟩=some (.int .i64 0):=by rw[Ac nb 0];rfl
 have g1:w1.cell? ⟨w.heap.size,1,none⟩=some (.int .i64 0):=by rw[Ac nb 1];rfl
 have g2:w1.cell? ⟨w.heap.size,2,none⟩=some (.int .i64 0):=by rw[Ac nb 2];rfl
 have g3:w1.cell? ⟨w.heap.size,3,none⟩=some (.int .i64 0):=by rw[Ac nb 3];rfl
 have g4:w1.cell? ⟨w.heap.size,4,none⟩=some (.bool false):=by rw[Ac nb 4];rfl
 have fz:∀o,w1.frozen? ⟨w.heap.size,o,none⟩=false:=fun o=>by rw[t1.frozen (p:=⟨w.heap.size,o,none⟩) (by simp;omega) (by simp)];simp[go_sem]
 have hsz:w.heap.size+1<w1.heap.size:=World.block_lt_of_cell? w1 _ f1.rest;have hs0:w.heap.size<w1.heap.size:=by omega
 clear hsz;obtain⟨n1,e1⟩:∃n,n=Aa s (p+4+2+2+2) 2:=⟨_,rfl⟩;obtain⟨n2,e2⟩:∃n,n=Aa s (p+4+2+2+2+2) 4:=⟨_,rfl⟩;obtain⟨n3,e3⟩:∃n,n=Aa s (p+4+2+2+2+2+4) 4:=⟨_,rfl⟩;obtain⟨x,e4⟩:∃x,x=Qm (Aa s (p+4) 2) (Aa s (p+4+2) 2) (Aa s (p+4+2+2) 2) (Aa s (p+4+2+2+2) 2):=⟨_,rfl⟩;have HN:Hid (n1=Aa s (p+10) 2/\n2=Aa s (p+12) 4/\n3=Aa s (p+16) 4/\x=Ie s p):=⟨e1,e2,e3,e4⟩;rw[<-e4,<-e1,<-e2,<-e3];clear e1 e2 e3 e4 nb t1 f0 f1 W1;go_wp2;refine bodyPost_ret (v:=.agg #[.int .i64 n1,.int .i64 n2,.int .i64 n3,.int .i64 p,.bool x]) (by simp[results,Tryz.results85,go_sem,Ad,size_setCell,hs0,g0,g1,g2,g3,g4]) rfl ⟨?_,?_⟩;.obtain⟨e1,e2,e3,e4⟩:=HN.out;rw[<-e1,<-e2,<-e3,<-e4]
 exact(((((T1.Ag (Nat.le_refl _) _).Ag (Nat.le_refl _) _).Ag (Nat.le_refl _) _).Ag (Nat.le_refl _) _).Ag (Nat.le_refl _) _).alloc _
theorem lH(w:World)(n1 n2 n3 n4:Nat)(x:Bool): Calls Tryz.prog 86 #[.agg #[.int .i64 (n1:Int),.int .i64 (n2:Int),.int .i64 (n3:Int),.int .i64 (n4:Int),.bool x]] w fun e w'=>
   e=.returned (.bool (decide (n1=65535)||decide (n2=4294967295)||decide (n3=4294967295)))/\Touch (fun _=>False) w w':=by
 have T1:Touch (fun _=>False) w (w.alloc (Obj.cells #[.int .i64 (n1:Int),.int .i64 (n2:Int),.int .i64 (n3:Int),.int .i64 (n4:Int),.bool x] 170)):=(Touch.refl _ w).alloc _;by_cases h1:n1=65535
 .have b1:((n1:Int)==65535)=true:=by simp;omega
  have HE:Hid ((decide (n1=65535)||decide (n2=4294967295)||decide (n3=4294967295))=true):=by unfold Hid;rw[decide_eq_true h1];rfl
  clear h1;go_enter Tryz.func86,Tryz.ntmps86;go_wp2;go_ret;exact⟨by rw[HE.out];rfl,T1⟩
 have b1:((n1:Int)==65535)=false:=by simp;omega
 by_cases h2:n2=4294967295
 .have b2:((n2:Int)==4294967295)=true:=by simp;omega
  have HE:Hid ((decide (n1=65535)||decide (n2=4294967295)||decide (n3=4294967295))=true):=by unfold Hid;rw[decide_eq_true h2,Bool.or_true];rfl
  clear h1 h2;go_enter Tryz.func86,Tryz.ntmps86;go_wp2;go_ret;exact⟨by rw[HE.out];rfl,T1⟩
 have b2:((n2:Int)==4294967295)=false:=by simp;omega
 have HE:Hid ((decide (n1=65535)||decide (n2=4294967295)||decide (n3=4294967295))=((n3:Int)==4294967295)):=by
  unfold Hid;rw[decide_eq_false h1,decide_eq_false h2];by_cases h3:n3=4294967295<;>simp[h3]<;>omega
 clear h1 h2;go_enter Tryz.func86,Tryz.ntmps86;go_wp2;go_ret;exact⟨by rw[HE.out];rfl,T1⟩
structure Dir where
 count:Nat
 size:Nat
 place:Nat
 stop:Nat
def Vj(s:ByteArray)(p:Nat):Bool:=decide (Aa s (p+10) 2=65535)||decide (Aa s (p+12) 4=4294967295)||decide (Aa s (p+16) 4=4294967295)
def Ip(s:ByteArray)(p:Nat):Bool:=decide (76<=p)&&(Eg s (p-76) 6 6&&decide (Aa s (p-76+4) 8=44)&&Eg s (p-76+56) 6 7&&decide (Aa s (p-76+64) 8=p-76))
def Ji(s:ByteArray)(p:Nat):Bool:=Qm (Aa s (p-76+16) 4) (Aa s (p-76+20) 4) (Aa s (p-76+24) 8) (Aa s (p-76+32) 8)&&decide (Aa s (p-76+60) 4=0)&&decide (Aa s (p-76+72) 4=1)
def Ey(s:ByteArray):Except Nat Dir:=match Dv s 101 0 with
 |none=>.error 3
 |some p=>
  if Vj s p then
   if Ip s p then
    if Ie s p&&Ji s p then .ok ⟨Aa s (p-76+32) 8,Aa s (p-76+40) 8,Aa s (p-76+48) 8,p-76⟩else .error 4
   else .error 3
  else if Ie s p then .ok ⟨Aa s (p+10) 2,Aa s (p+12) 4,Aa s (p+16) 4,p⟩else .error 4
structure Eo where
 name:ByteArray
 method:Nat
 sum:Nat
 packed:Nat
 size:Nat
 ahead:Nat
 maker:Nat
 flags:Nat
 disk:Nat
 outer:Nat
 three:ByteArray
def Bg(s:ByteArray)(stop:Nat):Nat->Nat->Option (Nat×Nat)->Option (Option (Nat×Nat))
 |0,p,found=>if p<stop then none else some found
 |f+1,p,found=>if p<stop then
   (if p+4+Aa s (p+2) 2<=stop/\p+4<=stop then Bg s stop f (p+4+Aa s (p+2) 2) (if Aa s p 2=1/\found=none then some (p+4,p+4+Aa s (p+2) 2)else found)else none)
  else some found
def meant(s:ByteArray)(stop:Nat)(c v:Nat):Option (Nat×Nat):=
 if v=4294967295 then(if c+8<=stop/\Aa s c 8<=1099511627776 then some (Aa s c 8,c+8)else none)else some (v,c)
def Mc(s:ByteArray)(c stop z k a:Nat):Option (Nat×Nat×Nat):=
 (meant s stop c z).bind fun z=>(meant s stop z.2 k).bind fun k=>(meant s stop k.2 a).bind fun a=>some (z.1,k.1,a.1)
def Ig(s:ByteArray)(E at_:Nat):Option (Eo×Nat):=
 let n:=Aa s (at_+28) 2
 let x:=Aa s (at_+30) 2
 let c:=Aa s (at_+32) 2
 if at_+46<=E/\at_+46+n+x+c<=E/\Eg s at_ 1 2=true then
  (Bg s (at_+46+n+x) (x+1) (at_+46+n) none).bind fun found=>
   (Mc s (found.getD (0,0)).1 (found.getD (0,0)).2 (Aa s (at_+24) 4) (Aa s (at_+20) 4) (Aa s (at_+42) 4)).bind fun m=>
    some (⟨s.extract (at_+46) (at_+46+n),Aa s (at_+10) 2,Aa s (at_+16) 4,m.2.1,m.1,m.2.2,Aa s (at_+4) 2,Aa s (at_+8) 2,Aa s (at_+34) 2,Aa s (at_+38) 4,s.extract (at_+16) (at_+28)⟩,at_+46+n+x+c)
 else none
def Az:List UInt8->List UInt8->List (List UInt8)
 | [],part=>[part]
 |c::l,part=>if c=47 then part::Az l []else Az l (part++[c])
def Aj(s:ByteArray):Bool:=decide (s.toList.getLast?=some 47)
def Ak(s:ByteArray):List UInt8:=if Aj s then s.toList.dropLast else s.toList
def Ik(c:UInt8):Bool:=decide (32<=c)&&decide (c<=126)&&decide (c≠92)&&decide (c≠58)&&decide (c≠34)
def Jb(p:List UInt8):Bool:=decide (p≠[])&&decide (p≠[46])&&decide (p≠[46,46])
def Ci(s:ByteArray):Bool:=decide (s.size<=60)&&s.toList.all Ik&&(Az (Ak s) []).all Jb
def aU(f:Nat):Bool:=decide (f&&&63473≠0)
def aT(e:Eo):Bool:=decide (e.maker/256=3)&&decide (e.outer/268435456=10)
def Aw(e:Eo):Nat:=
 if e.disk≠0 then 4
 else if aU e.flags||(decide (e.method≠0)&&decide (e.method≠8))||aT e then 6
 else if Ci e.name=false then 7
 else if(Aj e.name&&(decide (e.size≠0)||decide (e.packed≠0)))||(decide (e.method=0)&&decide (e.size≠e.packed))then 11
 else 0
def Ce(s:ByteArray)(E:Nat):Nat->Nat->List Eo->Except Nat (List Eo)
 |0,p,l=>if p=E then .ok l else .error 5
 |f+1,p,l=>match Ig s E p with
  |none=>.error 5
  |some (e,q)=>if Aw e=0 then Ce s E f q (l++[e])else .error (Aw e)
def Fg(a b:List UInt8):Bool:=(a++[47]).isPrefixOf b
def Dj(a b:ByteArray):Bool:=decide (Ak a=Ak b)||(Fg (Ak a) (Ak b)&&!Aj a)||(Fg (Ak b) (Ak a)&&!Aj b)
def Bl{α:Type}(r:α->α->Bool):List α->Bool
 | []=>false
 |a::l=>l.any (r a)||Bl r l
def Fh(e:Eo):Bool:=decide (e.flags/8%2=1)
def Gj(s:ByteArray)(P:Nat)(e:Eo):Option (Nat×Nat):=
 let a:=e.ahead
 let n:=Aa s (a+26) 2
 let x:=Aa s (a+28) 2
 let b:=a+30+n+x
 let t:=b+e.packed+(if Fh e then 16 else 0)
 if a+30<=P/\t<=P/\Eg s a 3 4=true/\Aa s (a+6) 2=e.flags/\Aa s (a+8) 2=e.method/\s.extract (a+30) (a+30+n)=e.name
   /\ (s.extract (a+14) (a+26)=e.three\/(Fh e=true/\s.extract (a+14) (a+26)=⟨#[0,0,0,0,0,0,0,0,0,0,0,0]⟩))
   /\ (Fh e=true->Eg s (b+e.packed) 7 8=true/\Aa s (b+e.packed+4) 4=e.sum/\Aa s (b+e.packed+8) 4=e.packed%4294967296/\Aa s (b+e.packed+12) 4=e.size%4294967296)then
  some (b,t)
 else none
structure Ai where
 Af:Eo
 place:Nat
 stop:Nat
def spansOf(s:ByteArray)(P:Nat):List Eo->Option (List Ai)
 | []=>some []
 |e::l=>(Gj s P e).bind fun p=>(spansOf s P l).bind fun r=>some (⟨e,p.1,p.2⟩::r)
def Ot(a b:Ai):Bool:=decide (a.Af.ahead<b.stop)&&decide (b.Af.ahead<a.stop)
def Qi(l:List Eo):Nat:=(l.map fun e=>e.name.size).sum
def Jp(l:List Eo):Nat:=(l.map fun e=>e.size).sum
def listOf(s:ByteArray)(qe qn qb:Int):Except Nat (List Ai):=match Ey s with
 |.error e=>.error e
 |.ok d=>
  if qe<(d.count:Int)then .error 13
  else if¬(d.place<=d.stop/\d.size=d.stop-d.place)then .error 5
  else match Ce s d.stop d.count d.place []with
   |.error e=>.error e
   |.ok l=>
    if qn<(Qi l:Int)then .error 13
    else if Bl (fun a b=>Dj a.name b.name) l then .error 8
    else match spansOf s d.place l with
     |none=>.error 9
     |some r=>
      if Bl Ot r then .error 10
      else if qb<(Jp l:Int)then .error 13
      else .ok r
end Go.Proofs.YtmhlkdlcpicekaaGreatDoor
