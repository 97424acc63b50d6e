/- Joined. -/
import Derived.Test.YtmhlkdlcpicekaaGreatDoorJ05
set_option linter.unusedSimpArgs false
set_option linter.unusedVariables false
set_option maxRecDepth 100000
set_option maxHeartbeats 20000000
namespace Go.Proofs.YtmhlkdlcpicekaaGreatDoor
open Go.RowKit
theorem zM(w:World)(base:Nat)(v:Value)(l:List Nat)(x t:Nat)(hown:w.ownsRow base 3 1 v l.length (ints l))(hl:l.length+t<=1000)(hb:base<=w.heap.size): Calls Tryz.prog 219 #[v,.int .i64 (x:Int),.int .i64 (t:Int)] w fun e w'=>∃v',e=.returned v'/\w'.ownsRow base 3 1 v' (l++List.replicate t x).length (ints (l++List.replicate t x))/\Touch (fun k=>base<=k) w w':=by
 obtain⟨i0,hi,hz0,hz1,hz2⟩:=info_parts Tryz.Qw;go_enter Tryz.func219,Tryz.ntmps219;go_wp2;go_loopw [0,7] (fun v i wr=>∃k:Nat,k<=t/\i=.int .i64 (k:Int)/\wr.ownsRow base 3 1 v (l++List.replicate k x).length (ints (l++List.replicate k x))/\Touch (fun k=>base<=k) w wr) (fun _ i _=>t-(intOf i).toNat)
 case atStart=>exact⟨0,by omega,rfl,by simpa using hown,Touch.refl _ _⟩
 case round=>
  obtain⟨k,hk,rfl,ho,ht⟩:=hrel;have hlen:(l++List.replicate k x).length=l.length+k:=by simp
  have hsz:=ht.size;by_cases hlt:k<t
  .have c3:(l++List.replicate k x).length+1<=maxLen:=by unfold maxLen;omega
   have c4:((l++List.replicate k x).length+1)*8<=140737488355328:=by omega
   go_wp2_with (at_builtin;refine wpList_append_own _ rfl _ _ 26 rfl base 3 i0 (.int .i64 0) 1 8 Tryz.underlying26 hi hz0 hz1 hz2 rfl (by decide) _ _ _ rfl (ho.alloc _) ⟨_,0,none⟩ 1 1 [.int .i64 (x:Int)] rfl rfl (cell_one_new _ _ _) (by simp[Value.oneCell']) c3 c4 (by simp;omega) ?_;intro v' w1 hown' hgrow _);go_roundw
   case rel=>
    refine⟨k+1,by omega,by go_num,?_,?_⟩;.rw[<-wL,jE,List.length_append];exact hown'
    refine(ht.alloc _).grown hgrow ?_;intro j hj;exact(ho.lt j hj).1
   case measure=>simp[intOf];omega
  obtain rfl:k=t:=by omega
  go_wp2;go_ret;exact⟨_,rfl,ho,ht⟩
theorem Ho(w:World)(base:Nat)(v:Value)(l:List Nat)(x t:Nat)(X T:Int)(hX:X=(x:Int))(hT:T=(t:Int))(hown:w.ownsRow base 3 1 v l.length (ints l))(hl:l.length+t<=1000)(ht:0<t)(hb:base<=w.heap.size): Calls Tryz.prog 219 #[v,.int .i64 X,.int .i64 T] w fun e w'=>∃(l':List Nat) (g cap:Nat),e=.returned (.slice (some ⟨g,0,none⟩) l'.length cap)/\Hid (l'=l++List.replicate t x)/\base<=g/\w'.ownsRow base 3 1 (.slice (some ⟨g,0,none⟩) l'.length cap) l'.length (ints l')/\Touch (fun k=>base<=k) w w':=by
 subst hX hT;refine(zM w base v l x t hown hl hb).mono ?_;rintro e w' ⟨v',rfl,ho,ht'⟩;obtain⟨g,cap,rfl,hg⟩:=Fp ho (by simp;omega);exact⟨_,g,cap,rfl,rfl,hg,ho,ht'⟩
def Tn(each:Nat):Nat->Nat
 |0=>0
 |n+1=>Tn each n+2^(n/each-1)
theorem Qs(w:World)(n P:Nat)(N:Int)(hN:N=(n:Int))(HP:Hid (P=2^n))(hn:n<=60):Calls Tryz.prog 217 #[.int .i64 N] w fun e w'=>e=.returned (.int .i64 (P:Int))/\w=w':=by
 subst hN;exact Qu w n P HP hn
theorem Qiq:∀n:Fin 31,Tn 4 n.val=(if n.val<2*4 then n.val else(4+n.val%4)*2^(n.val/4-1)):=by decide +kernel
theorem Qhq(w:World)(n A B:Nat)(hn:n<=30)(HA:Hid (A=3+Tn 4 n))(HB:Hid (B=n/4-1)): Calls Tryz.prog 251 #[.int .i64 (n:Int),.int .i64 4,.int .i64 3] w fun e w'=>e=.returned (.tuple #[.int .i64 (A:Int),.int .i64 (B:Int)])/\w=w':=by
 go_enter Tryz.func251,Tryz.ntmps251;go_wp2;go_loop [8,9] (fun t i=>∃k x:Nat,k<=n/\i=.int .i64 (k:Int)/\t=.int .i64 (x:Int)/\x<=3+65536*k/\Hid (x=3+Tn 4 k)) (fun _ i=>n-(intOf i).toNat)
 case atStart=>exact⟨0,3,by omega,rfl,rfl,by omega,rfl⟩
 case round=>
  obtain⟨k,x,hk,rfl,rfl,hx,HX⟩:=hrel;by_cases hlt:k<n
  .obtain⟨q,hq⟩:∃q,q=k/4-1:=⟨_,rfl⟩;obtain⟨P,hP⟩:∃P,P=2^q:=⟨_,rfl⟩;have HP:Hid (P=2^q):=hP;have P2:P<=65536:=by rw[hP];exact Nat.le_trans (Nat.pow_le_pow_right (by omega) (show q<=16 by omega)) (by decide)
   have HS:Hid (Tn 4 (k+1)=Tn 4 k+P):=by unfold Hid;rw[hP,hq];rfl
   have HQ:Hid (q=k/4-1):=hq;clear hP hq;by_cases h1:k<4
   .have e0:(k:Int)/4=0:=(by omega);have q0:q=0:=(by rw[HQ.out];omega);subst q0;go_wp2_with (go_at_call 217;refine(Qs _ 0 P 0 rfl HP (by omega)).mono ?_;rintro e w2 ⟨rfl,rfl⟩);go_round
    case rel=>exact⟨k+1,x+P,by omega,by go_num,by go_num,by omega,by unfold Hid;rw[HX.out,HS.out];omega⟩
    case measure=>simp[intOf];omega
   have e1:(k:Int)/4-1=(q:Int):=by have:=HQ.out;omega
   have q16:q<=16:=by have:=HQ.out;omega
   go_wp2_with (go_at_call 217;refine(Qu _ q P HP (by omega)).mono ?_;rintro e w2 ⟨rfl,rfl⟩);go_round
   case rel=>exact⟨k+1,x+P,by omega,by go_num,by go_num,by omega,by unfold Hid;rw[HX.out,HS.out];omega⟩
   case measure=>simp[intOf];omega
  obtain rfl:k=n:=by omega
  obtain rfl:x=A:=by rw[HX.out,HA.out]
  by_cases h1:k<4
  .have e0:(k:Int)/4=0:=by omega
   have b0:B=0:=by rw[HB.out];omega
   subst b0;go_wp2;go_ret2;exact⟨rfl,rfl⟩
  have e1:(k:Int)/4-1=(B:Int):=by have:=HB.out;omega
  go_wp2;go_ret2;exact⟨rfl,rfl⟩
theorem Qik:∀n:Fin 31,Tn 2 n.val=(if n.val<2*2 then n.val else(2+n.val%2)*2^(n.val/2-1)):=by decide +kernel
theorem Qgs(w:World)(n A B:Nat)(hn:n<=30)(HA:Hid (A=1+Tn 2 n))(HB:Hid (B=n/2-1)): Calls Tryz.prog 251 #[.int .i64 (n:Int),.int .i64 2,.int .i64 1] w fun e w'=>e=.returned (.tuple #[.int .i64 (A:Int),.int .i64 (B:Int)])/\w=w':=by
 go_enter Tryz.func251,Tryz.ntmps251;go_wp2;go_loop [8,9] (fun t i=>∃k x:Nat,k<=n/\i=.int .i64 (k:Int)/\t=.int .i64 (x:Int)/\x<=1+65536*k/\Hid (x=1+Tn 2 k)) (fun _ i=>n-(intOf i).toNat)
 case atStart=>exact⟨0,1,by omega,rfl,rfl,by omega,rfl⟩
 case round=>
  obtain⟨k,x,hk,rfl,rfl,hx,HX⟩:=hrel;by_cases hlt:k<n
  .obtain⟨q,hq⟩:∃q,q=k/2-1:=⟨_,rfl⟩;obtain⟨P,hP⟩:∃P,P=2^q:=⟨_,rfl⟩;have HP:Hid (P=2^q):=hP;have P2:P<=65536:=by rw[hP];exact Nat.le_trans (Nat.pow_le_pow_right (by omega) (show q<=16 by omega)) (by decide)
   have HS:Hid (Tn 2 (k+1)=Tn 2 k+P):=by unfold Hid;rw[hP,hq];rfl
   have HQ:Hid (q=k/2-1):=hq;clear hP hq;by_cases h1:k<2
   .have e0:(k:Int)/2=0:=(by omega);have q0:q=0:=(by rw[HQ.out];omega);subst q0;go_wp2_with (go_at_call 217;refine(Qs _ 0 P 0 rfl HP (by omega)).mono ?_;rintro e w2 ⟨rfl,rfl⟩);go_round
    case rel=>exact⟨k+1,x+P,by omega,by go_num,by go_num,by omega,by unfold Hid;rw[HX.out,HS.out];omega⟩
    case measure=>simp[intOf];omega
   have e1:(k:Int)/2-1=(q:Int):=by have:=HQ.out;omega
   have q16:q<=16:=by have:=HQ.out;omega
   go_wp2_with (go_at_call 217;refine(Qu _ q P HP (by omega)).mono ?_;rintro e w2 ⟨rfl,rfl⟩);go_round
   case rel=>exact⟨k+1,x+P,by omega,by go_num,by go_num,by omega,by unfold Hid;rw[HX.out,HS.out];omega⟩
   case measure=>simp[intOf];omega
  obtain rfl:k=n:=by omega
  obtain rfl:x=A:=by rw[HX.out,HA.out]
  by_cases h1:k<2
  .have e0:(k:Int)/2=0:=by omega
   have b0:B=0:=by rw[HB.out];omega
   subst b0;go_wp2;go_ret2;exact⟨rfl,rfl⟩
  have e1:(k:Int)/2-1=(B:Int):=by have:=HB.out;omega
  go_wp2;go_ret2;exact⟨rfl,rfl⟩
theorem Qbn{w:World}{base base':Nat}{e:TypeId}{size n:Nat}{v:Value}{xs:List Value}(h:w.ownsRow base e size v n xs)(hb:base'<=base):w.ownsRow base' e size v n xs:=by
 refine⟨h.1,?_⟩;rcases h.2 with hn|⟨g,cap,cur,hv,hg,rest⟩;.exact .inl hn
 exact .inr ⟨g,cap,cur,hv,Nat.le_trans hb hg,rest⟩
theorem Qg8(w:World): Calls Tryz.prog 150 #[] w fun e w'=>∃(l d:List Nat) (g1 k1 g2 k2:Nat),e=.returned (.tuple #[.slice (some ⟨g1,0,none⟩) l.length k1,.slice (some ⟨g2,0,none⟩) d.length k2])/\Hid (l=Cm)/\Hid (d=Gu) /\w'.ownsRow w.heap.size 3 1 (.slice (some ⟨g1,0,none⟩) l.length k1) l.length (ints l)/\w'.ownsRow w.heap.size 3 1 (.slice (some ⟨g2,0,none⟩) d.length k2) d.length (ints d)/\Touch (fun _=>False) w w':=by
 go_enter Tryz.func150,Tryz.ntmps150;go_wp2_with fail;refine(Ho w w.heap.size _ [] 8 144 _ _ rfl rfl (World.ownsRow_nil _ _ _ _) (by decide) (by decide) (Nat.le_refl _)).mono ?_;rintro e w1 ⟨l1,g1,k1,rfl,e1,hg1,ho1,ht1⟩;have n1:l1.length<=144:=by rw[e1.out,List.length_append,List.length_replicate];simp
 go_wp2_with fail;refine(Ho w1 w.heap.size _ l1 9 112 _ _ rfl rfl ho1 (by omega) (by decide) ht1.size).mono ?_;rintro e w2 ⟨l2,g2,k2,rfl,e2,hg2,ho2,ht2⟩;have n2:l2.length<=256:=by rw[e2.out,List.length_append,List.length_replicate];omega
 go_wp2_with fail;refine(Ho w2 w.heap.size _ l2 7 24 _ _ rfl rfl ho2 (by omega) (by decide) (Nat.le_trans ht1.size ht2.size)).mono ?_;rintro e w3 ⟨l3,g3,k3,rfl,e3,hg3,ho3,ht3⟩;have n3:l3.length<=280:=by rw[e3.out,List.length_append,List.length_replicate];omega
 go_wp2_with fail;refine(Ho w3 w.heap.size _ l3 8 8 _ _ rfl rfl ho3 (by omega) (by decide) (Nat.le_trans (Nat.le_trans ht1.size ht2.size) ht3.size)).mono ?_;rintro e w4 ⟨l4,g4,k4,rfl,e4,hg4,ho4,ht4⟩;have sz4:w.heap.size<=w4.heap.size:=Nat.le_trans (Nat.le_trans (Nat.le_trans ht1.size ht2.size) ht3.size) ht4.size;have T4:Touch (fun _=>False) w w4:=(((ht1.trans ht2).trans ht3).trans ht4).fresh;have E4:Hid (l4=Cm):=by unfold Hid;rw[e4.out,e3.out,e2.out,e1.out];rfl
 go_wp2_with fail;refine(Ho w4 w4.heap.size _ [] 5 32 _ _ rfl rfl (World.ownsRow_nil _ _ _ _) (by decide) (by decide) (Nat.le_refl _)).mono ?_;rintro e w5 ⟨l5,g5,k5,rfl,e5,hg5,ho5,ht5⟩;have E5:Hid (l5=Gu):=by unfold Hid;rw[e5.out];rfl
 have lt4:=(ho4.lt g4 rfl).2;have ho4':=ht5.owns ho4 (by intro k hk;cases hk;show¬w4.heap.size<=g4;omega);have T5:Touch (fun _=>False) w w5:=T4.trans ht5.fresh;clear e1 e2 e3 e4 e5 ho1 ho2 ho3 ht1 ht2 ht3 ht4;go_wp2;go_ret2;exact⟨l4,l5,g4,k4,g5,k5,rfl,E4,E5,ho4',Qbn ho5 sz4,T5⟩
end Go.Proofs.YtmhlkdlcpicekaaGreatDoor
