/- Joined. -/
import Derived.Test.YtmhlkdlcpicekaaGreatDoorJ11
import Derived.Test.YtmhlkdlcpicekaaGreatDoorJ10
set_option linter.unusedSimpArgs false
set_option linter.unusedVariables false
set_option maxRecDepth 100000
set_option maxHeartbeats 20000000
namespace Go.Proofs.YtmhlkdlcpicekaaGreatDoor
open Go.RowKit
def Ny(w:World)(b:Nat):Nat:=match w.cell? ⟨b,0,none⟩with
 |some (.string x)=>x.size
 |_=>0
theorem aV{w:World}{b:Nat}{s:ByteArray}{E q:Nat}(h:FR w b s E (some q)):Ny w b=E-q:=by
 unfold Ny;rw[h.rest];simp only[Rt,ByteArray.size_extract];have:=h.size;omega
theorem qR{w:World}{b:Nat}{s:ByteArray}{E:Nat}(h:FR w b s E none):Ny w b=0:=by
 unfold Ny;rw[h.rest];rfl
def Df(s:ByteArray)(f:Option (Nat×Nat)):ByteArray:=s.extract (f.getD (0,0)).1 (f.getD (0,0)).2
theorem Tm(s:ByteArray)(p E:Nat)(hE:E<=s.size)(h:p<E):¬(s.extract p E).toList=[]:=by
 intro e;have:(s.extract p E).size=0:=by rw[Lib.size_eq,<-ByteArray.toList_eq,e];rfl
 rw[ByteArray.size_extract]at this;omega
theorem extract_empty(s:ByteArray)(p E:Nat)(h:E<=p):(s.extract p E).toList=[]:=by
 have:(s.extract p E).size=0:=by rw[ByteArray.size_extract];omega
 rw[Lib.size_eq,<-ByteArray.toList_eq]at this;exact List.eq_nil_of_length_eq_zero this
theorem bD(E p k:Nat)(h:¬p+k<=E):Ae E (some p) k=none:=by simp[Ae,h]
theorem gI(w:World)(s:ByteArray)(p0 E f0:Nat)(hp:p0<=E)(hE:E<=s.size)(hs:s.size<=140737488355328)(hf:E-p0<=f0): Calls Tryz.prog 208 #[.string (s.extract p0 E)] w fun r w'=>∃x:ByteArray,r=.returned (.tuple #[.string x,.bool (Bg s E f0 p0 none).isSome])/\(∀f,Bg s E f0 p0 none=some f->x=Df s f)/\Touch (fun _=>False) w w':=by
 have fr0:=FR.Qce w s p0 E hp hE _ rfl;have T0:Touch (fun _=>False) w (w.alloc (.cells #[.string (s.extract p0 E),.bool false] 175)):=(Touch.refl _ w).alloc _;obtain⟨R,hR⟩:∃R,R=Bg s E f0 p0 none:=⟨_,rfl⟩;have FIN:Hid (∀(x:ByteArray) (b:Bool) (W:World),b=R.isSome->(∀f,R=some f->x=Df s f)->Touch (fun _=>False) w W->∃x':ByteArray,Ending.returned (.tuple #[.string x,.bool b])=Ending.returned (.tuple #[.string x',.bool (Bg s E f0 p0 none).isSome])/\(∀f,Bg s E f0 p0 none=some f->x'=Df s f)/\Touch (fun _=>False) w W):=by
  intro x b W h1 h2 h3;rw[<-hR];exact⟨x,by rw[h1],h2,h3⟩
 have HR:Hid (R=Bg s E f0 p0 none):=hR;have he:Df s none=⟨#[]⟩:=by unfold Df;apply ByteArray.ext;simp
 clear hR;go_enter Tryz.func208,Tryz.ntmps208;go_wp2;go_loopw [5,6] (fun x fd wr=>(∃(p f:Nat) (fo:Option (Nat×Nat)),x=.string (Df s fo)/\fd=.bool fo.isSome/\FR wr w.heap.size s E (some p)/\E-p<=f/\Hid (R=Bg s E f p fo)/\Touch (fun _=>False) w wr) \/ (∃(y:ByteArray) (c:Bool),x=.string y/\fd=.bool c/\FR wr w.heap.size s E none/\Hid (R=none)/\Touch (fun _=>False) w wr)) (fun x fd wr=>Ny wr w.heap.size)
 case atStart=>exact .inl ⟨p0,f0,none,by rw[he],rfl,fr0,hf,HR,T0⟩
 case round=>
  rcases hrel with⟨p,f,fo,rfl,rfl,hF,hf1,HK,ht⟩|⟨y,c,rfl,rfl,hF,HK,ht⟩
  .have r1:=hF.rest;have s1:=hF.short;have HLp:Hid (Ny wr w.heap.size=E-p):=aV hF;simp only[Rt]at r1;simp only[Option.isNone_some]at s1;by_cases hlt:p<E
   .have ne:(s.extract p E).toList.isEmpty=false:=(by simpa using Tm s p E hE hlt);obtain⟨f',rfl⟩:∃f',f=f'+1:=⟨f-1,by omega⟩;by_cases hfit:p+4+Aa s (p+2) 2<=E/\p+4<=E
    .have HN:Hid (R=Bg s E f' (p+4+Aa s (p+2) 2) (if Aa s p 2=1/\fo=none then some (p+4,p+4+Aa s (p+2) 2)else fo)):=by
      unfold Hid;rw[HK.out,Bg,if_pos hlt,if_pos hfit]
     have hw:Df s (some (p+4,p+4+Aa s (p+2) 2))=s.extract (p+4) (p+4+Aa s (p+2) 2):=rfl;have n2:=Bj s (p+2) 2;go_wp2_with fail;refine(Fe _ _ s E p 2 hF (by omega) (by omega) hs).mono ?_;rintro e w1 ⟨rfl,f1,t1⟩;have T1:=ht.Hf t1 (Nat.le_refl _);clear t1 hF r1 s1 ne;go_wp2_with fail;refine(Fe _ _ s E (p+2) 2 f1 (by omega) (by omega) hs).mono ?_;rintro e w2 ⟨rfl,f2,t2⟩;have T2:=T1.Hf t2 (Nat.le_refl _);clear t2 f1 T1;have HV:Hid (∃k m,k=Aa s p 2/\m=Aa s (p+2) 2):=⟨_,_,rfl,rfl⟩;obtain⟨kd,hkd⟩:∃k,k=Aa s p 2:=⟨_,rfl⟩;obtain⟨m,hm⟩:∃k,k=Aa s (p+2) 2:=⟨_,rfl⟩;rw[<-hkd,<-hm]at HN;rw[<-hm]at hw n2 hfit;rw[<-hkd,<-hm];clear hkd hm HV HK;go_wp2_with fail;refine(Px _ _ s E (p+2+2) m f2 (by omega) hs).mono ?_;rintro e w3 ⟨rfl,f3,t3⟩;have T3:=T2.Hf t3 (Nat.le_refl _);clear t3 f2 T2;have f3':FR w3 w.heap.size s E (some (p+4+m)):=f3;have hlen:Ny w3 w.heap.size<E-p:=(by rw[aV f3'];omega);have HL:Hid (Ny wr w.heap.size=E-p):=HLp;clear f3;by_cases hk1:(kd:Int)=1
     .have hk1':((kd:Int)==1)=true:=(by simpa using hk1);cases fo with
      |none=>
       rw[if_pos ⟨by omega,rfl⟩]at HN;go_wp2;exact⟨.inl ⟨p+4+m,f',some (p+4,p+4+m),by rw[hw],rfl,f3',by omega,HN,T3⟩,by rw[HL.out];exact hlen⟩
      |some z=>
       rw[if_neg (by simp)]at HN;go_wp2;exact⟨.inl ⟨p+4+m,f',some z,rfl,rfl,f3',by omega,HN,T3⟩,by rw[HL.out];exact hlen⟩
     have hk1':((kd:Int)==1)=false:=(by simpa using hk1);rw[if_neg (by omega)]at HN;go_wp2;exact⟨.inl ⟨p+4+m,f',fo,rfl,rfl,f3',by omega,HN,T3⟩,by rw[HL.out];exact hlen⟩
    have HN:Hid (R=none):=(by unfold Hid;rw[HK.out,Bg,if_pos hlt,if_neg hfit]);have HL:Hid (Ny wr w.heap.size=E-p):=HLp;go_wp2_with fail;refine(Ee _ _ s E (some p) 2 2 rfl (by omega) hs hF).mono ?_;rintro e w1 ⟨rfl,f1,t1⟩;have T1:=ht.Hf t1 (Nat.le_refl _);clear t1 hF r1 s1 ne;go_wp2_with fail;refine(Ee _ _ s E _ 2 2 rfl (by omega) hs f1).mono ?_;rintro e w2 ⟨rfl,f2,t2⟩;rw[Bc]at f2;have T2:=T1.Hf t2 (Nat.le_refl _);clear t2 f1 T1;have n2:=Ju s E (Ae E (some p) 2) 2 hE;have hnone:Ae E (some p) (2+2+Ah s E (Ae E (some p) 2) 2)=none:=by
     by_cases h4:p+4<=E
     .have e1:Ae E (some p) 2=some (p+2):=(by simp[Ae];omega);rw[e1,Gy s E (p+2) 2 hE (by omega)];exact bD E p _ (by omega)
     exact bD E p _ (by omega)
    have HNone:Hid (Ae E (some p) (2+2+Ah s E (Ae E (some p) 2) 2)=none):=hnone;clear hnone;go_wp2_with fail;refine(Iw _ _ s E _ _ _ rfl (by omega) hs f2).mono ?_;rintro e w3 ⟨rfl,f3,t3⟩;rw[Bc,HNone.out]at f3;have T3:=T2.Hf t3 (Nat.le_refl _);clear t3 f2 T2;have hlen:Ny w3 w.heap.size<E-p:=(by rw[qR f3];omega);generalize Bv s E _ _=fb;generalize Ah s E (some p) 2=kd;clear HNone n2 HK;by_cases hk1:(kd:Int)=1
    .have hk1':((kd:Int)==1)=true:=(by simpa using hk1);cases fo with
     |none=>
      go_wp2;exact⟨.inr ⟨fb,true,rfl,rfl,f3,HN,T3⟩,by rw[HL.out];exact hlen⟩
     |some z=>
      go_wp2;exact⟨.inr ⟨_,true,rfl,rfl,f3,HN,T3⟩,by rw[HL.out];exact hlen⟩
    have hk1':((kd:Int)==1)=false:=(by simpa using hk1);go_wp2;exact⟨.inr ⟨_,_,rfl,rfl,f3,HN,T3⟩,by rw[HL.out];exact hlen⟩
   have em:(s.extract p E).toList.isEmpty=true:=by simpa using extract_empty s p E (by omega)
   have HN:Hid (R=some fo):=by
    unfold Hid;rw[HK.out];cases f<;>rw[Bg,if_neg hlt]
   go_wp2;go_quiet (fail);go_wp2;go_ret2;exact FIN.out _ _ _ (by rw[HN.out];rfl) (fun f' h=>by rw[HN.out]at h;cases h;rfl) (ht.drewN _)
  have r1:=hF.rest;have s1:=hF.short;simp only[Rt]at r1;simp only[Option.isNone_none]at s1;go_wp2;go_quiet (fail);go_wp2;go_ret2;exact FIN.out _ _ _ (by rw[HK.out];rfl) (fun f' h=>by rw[HK.out]at h;cases h) (ht.drewN _)
theorem Xj(w:World)(x:ByteArray)(f0:Nat)(hs:x.size<=140737488355328)(hf:x.size<=f0): Calls Tryz.prog 225 #[.string x] w fun r w'=>∃y:ByteArray,r=.returned (.tuple #[.string y,.bool (Bg x x.size f0 0 none).isSome])/\(∀f,Bg x x.size f0 0 none=some f->y=Df x f)/\Touch (fun _=>False) w w':=by
 obtain⟨R,hR⟩:∃R,R=Bg x x.size f0 0 none:=⟨_,rfl⟩;have HR:Hid (R=Bg x x.size f0 0 none):=hR;have he:Df x none=⟨#[]⟩:=by unfold Df;apply ByteArray.ext;simp
 rw[<-hR];clear hR;go_enter Tryz.func225,Tryz.ntmps225;go_wp2;go_loopw [4,5,6] (fun i fd o wr=>∃(p f:Nat) (fo:Option (Nat×Nat)),p<=x.size/\i=.int .i64 (p:Int)/\fd=.bool fo.isSome/\o=.string (Df x fo)/\x.size-p<=f/\Hid (R=Bg x x.size f p fo)/\Touch (fun _=>False) w wr) (fun i fd o wr=>x.size-(intOf i).toNat)
 case atStart=>exact⟨0,f0,none,Nat.zero_le _,rfl,rfl,by rw[he],hf,HR,Touch.refl _ _⟩
 case round=>
  obtain⟨p,f,fo,hp,rfl,rfl,rfl,hf1,HK,ht⟩:=hrel;by_cases hlt:p<x.size
  .have hlt':(p:Int)<(x.size:Int):=by omega
   obtain⟨f',rfl⟩:∃f',f=f'+1:=⟨f-1,by omega⟩;have FBAD:Hid (R=none->∀wr',Touch (fun _=>False) w wr'->∃y:ByteArray,Ending.returned (.tuple #[.string ⟨#[]⟩,.bool false])=Ending.returned (.tuple #[.string y,.bool R.isSome])/\(∀f,R=some f->y=Df x f)/\Touch (fun _=>False) w wr'):=by
    intro hr wr' t;rw[hr];exact⟨_,rfl,fun f e=>(by cases e),t⟩
   by_cases h4:p+4<=x.size
   .have n2:=Bj x (p+2) 2;have HN:Hid (∀W,Calls Tryz.prog 224 #[.string x,.int .i64 ((p:Int)+2),.int .i64 2] W fun e w'=>e=.returned (.int .i64 (Aa x (p+2) 2:Nat))/\W=w'):=fun W=>Au W x (p+2) 2 _ _ (by simp) rfl hs (by omega) (by omega) (by omega);have HM:Hid (∀W,Calls Tryz.prog 224 #[.string x,.int .i64 (p:Int),.int .i64 2] W fun e w'=>e=.returned (.int .i64 (Aa x p 2:Nat))/\W=w'):=fun W=>Au W x p 2 _ _ rfl rfl hs (by omega) (by omega) (by omega);have HX:Hid (R=if p+4+Aa x (p+2) 2<=x.size/\p+4<=x.size then Bg x x.size f' (p+4+Aa x (p+2) 2) (if Aa x p 2=1/\fo=none then some (p+4,p+4+Aa x (p+2) 2)else fo)else none):=by
     unfold Hid;rw[HK.out,Bg,if_pos hlt]
    have hw:Df x (some (p+4,p+4+Aa x (p+2) 2))=x.extract (p+4) (p+4+Aa x (p+2) 2):=rfl;have HW:Hid (Df x (some (p+4,p+4+Aa x (p+2) 2))=x.extract (p+4) (p+4+Aa x (p+2) 2)):=hw;clear HK hw;revert n2 HN HX HW;generalize Aa x (p+2) 2=n;intro n2 HN HX HW;revert HM HX;generalize Aa x p 2=kd;intro HM HX;go_wp2_with fail;refine(HN.out _).mono ?_;rintro e w1 ⟨rfl,rfl⟩;have hn0:¬(n:Int)<0:=(by omega);by_cases hfit:p+4+n<=x.size
    .have hfi:¬(x.size:Int)<(p:Int)+4+(n:Int):=(by omega);have hr:=HX.out;rw[if_pos ⟨hfit,h4⟩]at hr;have HX2:Hid (R=Bg x x.size f' (p+4+n) (if kd=1/\fo=none then some (p+4,p+4+n)else fo)):=hr;clear HX hr FBAD;have j1:(p:Int)+4<=(p:Int)+4+(n:Int):=(by omega);have j2:(p:Int)+4+(n:Int)<=(x.size:Int):=(by omega);have j3:((p:Int)+4).toNat=p+4:=(by omega);have j4:((p:Int)+4+(n:Int)).toNat=p+4+n:=(by omega);go_wp2_with fail;refine(HM.out _).mono ?_;rintro e w2 ⟨rfl,rfl⟩;by_cases hk:kd=1
     .have hki:(kd:Int)=1:=(by omega);cases fo with
      |none=>
       have hr:=HX2.out;rw[if_pos ⟨hk,rfl⟩]at hr;have HX3:Hid (R=Bg x x.size f' (p+4+n) (some (p+4,p+4+n))):=hr;clear HX2 hr;go_wp2;exact⟨⟨p+4+n,f',some (p+4,p+4+n),hfit,by go_num,rfl,by rw[HW.out],by omega,HX3,ht⟩,by simp[intOf];omega⟩
      |some z=>
       have hr:=HX2.out;rw[if_neg (by simp)]at hr;have HX3:Hid (R=Bg x x.size f' (p+4+n) (some z)):=hr;clear HX2 hr;go_wp2;exact⟨⟨p+4+n,f',some z,hfit,by go_num,rfl,rfl,by omega,HX3,ht⟩,by simp[intOf];omega⟩
     have hki:¬(kd:Int)=1:=(by omega);have hr:=HX2.out;rw[if_neg (fun h=>hk h.1)]at hr;have HX3:Hid (R=Bg x x.size f' (p+4+n) fo):=hr;clear HX2 hr;go_wp2;exact⟨⟨p+4+n,f',fo,hfit,by go_num,rfl,rfl,by omega,HX3,ht⟩,by simp[intOf];omega⟩
    have hfi:(x.size:Int)<(p:Int)+4+(n:Int):=(by omega);have hr:=HX.out;rw[if_neg (fun h=>hfit h.1)]at hr;have FIN:Hid (∀wr',Touch (fun _=>False) w wr'->∃y:ByteArray,Ending.returned (.tuple #[.string ⟨#[]⟩,.bool false])=Ending.returned (.tuple #[.string y,.bool R.isSome])/\(∀f,R=some f->y=Df x f)/\Touch (fun _=>False) w wr'):=FBAD.out hr;clear HX hr FBAD;go_wp2;go_ret2;exact FIN.out _ ht
   have HN:Hid (∀W,Calls Tryz.prog 224 #[.string x,.int .i64 ((p:Int)+2),.int .i64 2] W fun e w'=>e=.returned (.int .i64 (-1))/\W=w'):=fun W=>mO W x ((p:Int)+2) 2 hs (.inr (by omega)) (by omega) (by omega);have hr:R=none:=by
    rw[HK.out,Bg,if_pos hlt,if_neg (fun h=>h4 h.2)]
   have FIN:Hid (∀wr',Touch (fun _=>False) w wr'->∃y:ByteArray,Ending.returned (.tuple #[.string ⟨#[]⟩,.bool false])=Ending.returned (.tuple #[.string y,.bool R.isSome])/\(∀f,R=some f->y=Df x f)/\Touch (fun _=>False) w wr'):=FBAD.out hr;clear HK FBAD hr;go_wp2_with fail;refine(HN.out _).mono ?_;rintro e w1 ⟨rfl,rfl⟩;go_wp2;go_ret2;exact FIN.out _ ht
  have hr:R=some fo:=by
   rw[HK.out];cases f with
   |zero=>rw[Bg,if_neg hlt]
   |succ f=>rw[Bg,if_neg hlt]
  have hlt':¬(p:Int)<(x.size:Int):=by omega
  have FIN:Hid (∃y:ByteArray,Ending.returned (.tuple #[.string (Df x fo),.bool true])=Ending.returned (.tuple #[.string y,.bool R.isSome])/\(∀f,R=some f->y=Df x f)/\Touch (fun _=>False) w wr):=by
   unfold Hid;rw[hr];exact⟨_,rfl,fun f e=>(by cases e;rfl),ht⟩
  clear HK hr;go_wp2;go_ret2;exact FIN.out
theorem jS(s:ByteArray)(c E i:Nat)(h:c+i<E)(hE:E<=s.size):byteAt (s.extract c E) i=byteAt s (c+i):=by
 have h1:i<(s.extract c E).size:=by rw[ByteArray.size_extract];omega
 have h2:c+i<s.size:=by omega
 unfold byteAt;rw[dif_pos h1,dif_pos h2];congr 1;simp[ByteArray.getElem_extract]
theorem Yr(s:ByteArray)(c E:Nat)(hE:E<=s.size):∀(n a:Nat),c+a+n<=E->Hr (s.extract c E) a n=Hr s (c+a) n
 |0,_,_=>rfl
 |n+1,a,h=>by
  unfold Hr;rw[jS s c E a (by omega) hE,Yr s c E hE n (a+1) (by omega),Nat.add_assoc]
theorem Fz(s:ByteArray)(c E a n:Nat)(hE:E<=s.size)(h:c+a+n<=E):Aa (s.extract c E) a n=Aa s (c+a) n:=by
 unfold Aa;rw[Yr s c E hE n a h]
def shP(c:Nat)(z:Nat×Nat):Nat×Nat:=(c+z.1,c+z.2)
theorem Zq(s:ByteArray)(c E:Nat)(hc:c<=E)(hE:E<=s.size):∀(f p:Nat) (fo:Option (Nat×Nat)),Bg s E f (c+p) (fo.map (shP c))=(Bg (s.extract c E) (E-c) f p fo).map (·.map (shP c))
 |0,p,fo=>by
  unfold Bg;by_cases h:c+p<E;.rw[if_pos h,if_pos (by omega)];rfl
  rw[if_neg h,if_neg (by omega)];rfl
 |f+1,p,fo=>by
  unfold Bg;by_cases h:c+p<E
  .rw[if_pos h,if_pos (show p<E-c by omega)];by_cases h4:c+p+4<=E
   .rw[Fz s c E (p+2) 2 hE (by omega),Fz s c E p 2 hE (by omega),show c+(p+2)=c+p+2 by omega];by_cases hf:c+p+4+Aa s (c+p+2) 2<=E
    .rw[if_pos ⟨hf,h4⟩,if_pos (show p+4+Aa s (c+p+2) 2<=E-c/\p+4<=E-c from⟨by omega,by omega⟩)];have ih:=Zq s c E hc hE f (p+4+Aa s (c+p+2) 2) (if Aa s (c+p) 2=1/\fo=none then some (p+4,p+4+Aa s (c+p+2) 2)else fo);rw[<-ih,show c+(p+4+Aa s (c+p+2) 2)=c+p+4+Aa s (c+p+2) 2 by omega];congr 1;cases fo with
     |none=>
      by_cases hk:Aa s (c+p) 2=1
      .simp only[hk,Option.map_none,and_self,if_true,Option.map_some,shP];congr 2<;>omega
      simp[hk]
     |some z=>simp
    rw[if_neg (fun e=>hf e.1),if_neg (show¬(p+4+Aa s (c+p+2) 2<=E-c/\p+4<=E-c) from fun e=>hf (by omega))];rfl
   rw[if_neg (fun e=>h4 e.2),if_neg (show¬(p+4+Aa (s.extract c E) (p+2) 2<=E-c/\p+4<=E-c) from fun e=>h4 (by omega))];rfl
  rw[if_neg h,if_neg (by omega)];rfl
theorem fQ(s:ByteArray)(c E:Nat)(hE:E<=s.size)(z:Nat×Nat)(hz:c+z.2<=E):Df (s.extract c E) (some z)=s.extract (c+z.1) (c+z.2):=by
 show(s.extract c E).extract z.1 z.2=_;rw[ByteArray.extract_extract];congr 1;omega
theorem Zy(s t:ByteArray):∀(m a b:Nat),Hr s a m=Hr t b m↔∀i,i<m->byteAt s (a+i)=byteAt t (b+i)
 |0,a,b=>by simp[Hr]
 |m+1,a,b=>by
  rw[Hr,Hr];have h1:=bT s a;have h2:=bT t b;have ih:=Zy s t m (a+1) (b+1);constructor
  .intro h i hi;have e1:byteAt s a=byteAt t b:=by omega
   have e2:Hr s (a+1) m=Hr t (b+1) m:=by omega
   cases i with
   |zero=>exact e1
   |succ i=>
    have:=ih.1 e2 i (by omega);rw[show a+1+i=a+(i+1) by omega,show b+1+i=b+(i+1) by omega]at this;exact this
  intro h;have e1:byteAt s a=byteAt t b:=h 0 (by omega);have e2:Hr s (a+1) m=Hr t (b+1) m:=ih.2 (fun i hi=>by
   have:=h (i+1) (by omega);rw[show a+1+i=a+(i+1) by omega,show b+1+i=b+(i+1) by omega];exact this)
  rw[e1,e2]
theorem vW(s:ByteArray)(a:Nat):Aa s a 4=Hr s a 4:=by
 have:=gV s 4 a;unfold Aa;omega
theorem vY(s t:ByteArray)(a m:Nat)(ha:a+m<=s.size)(ht:t.size=m):s.extract a (a+m)=t↔∀i,i<m->byteAt s (a+i)=byteAt t i:=by
 have hz:(s.extract a (a+m)).size=m:=by rw[ByteArray.size_extract];omega
 have hb:∀i,i<m->byteAt (s.extract a (a+m)) i=byteAt s (a+i):=by
  intro i hi;unfold byteAt;rw[dif_pos (by omega),dif_pos (by omega)];congr 1;exact ByteArray.getElem_extract _
 constructor
 .intro h i hi;rw[<-hb i hi,h]
 intro h;apply ByteArray.ext;apply Array.ext
 .show(s.extract a (a+m)).size=t.size;rw[hz,ht]
 intro i h1 h2;have hi:i<m:=by have:i<(s.extract a (a+m)).size:=h1;omega
 have:=(hb i hi).trans (h i hi);unfold byteAt at this;rw[dif_pos (by omega),dif_pos (by omega)]at this;exact UInt8.toNat_inj.1 this
theorem twelve(s t:ByteArray)(a:Nat)(ha:a+12<=s.size)(ht:t.size=12):s.extract a (a+12)=t↔Aa s a 4=Aa t 0 4/\Aa s (a+4) 4=Aa t 4 4/\Aa s (a+8) 4=Aa t 8 4:=by
 rw[vY s t a 12 ha ht];simp only[vW];rw[Zy,Zy,Zy];constructor
 .intro h;refine⟨fun i hi=>?_,fun i hi=>?_,fun i hi=>?_⟩;.have:=h i (by omega);rw[Nat.zero_add];exact this
  .have:=h (4+i) (by omega);rw[show a+4+i=a+(4+i) by omega];exact this
  have:=h (8+i) (by omega);rw[show a+8+i=a+(8+i) by omega];exact this
 rintro⟨h1,h2,h3⟩ i hi;by_cases h4:i<4;.have:=h1 i h4;rw[Nat.zero_add]at this;exact this
 by_cases h8:i<8;.have:=h2 (i-4) (by omega);rw[show a+4+(i-4)=a+i by omega,show 4+(i-4)=i by omega]at this;exact this
 have:=h3 (i-8) (by omega);rw[show a+8+(i-8)=a+i by omega,show 8+(i-8)=i by omega]at this;exact this
theorem lQ(s:ByteArray)(a:Nat)(ha:a+12<=s.size):s.extract a (a+12)=⟨#[0,0,0,0,0,0,0,0,0,0,0,0]⟩↔Aa s a 4=0/\Aa s (a+4) 4=0/\Aa s (a+8) 4=0:=by
 rw[twelve s _ a ha rfl];have e:∀i,i=0\/i=4\/i=8->Aa (⟨#[0,0,0,0,0,0,0,0,0,0,0,0]⟩:ByteArray) i 4=0:=by
  rintro i (rfl|rfl|rfl)<;>decide
 rw[e 0 (by omega),e 4 (by omega),e 8 (by omega)]
end Go.Proofs.YtmhlkdlcpicekaaGreatDoor
