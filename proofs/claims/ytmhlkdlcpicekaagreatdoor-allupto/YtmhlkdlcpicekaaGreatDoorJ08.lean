/- Joined. -/
import Derived.Test.YtmhlkdlcpicekaaGreatDoorJ06
import Derived.Test.YtmhlkdlcpicekaaGreatDoorJ07
set_option linter.unusedSimpArgs false
set_option linter.unusedVariables false
set_option maxRecDepth 100000
set_option maxHeartbeats 20000000
namespace Go.Proofs.YtmhlkdlcpicekaaGreatDoor
open Go.RowKit
theorem Zl(w:World)(s:ByteArray)(A:Nat)(x y:UInt8)(X Y:Int)(hX:X=(x.toNat:Int))(hY:Y=(y.toNat:Int))(hs:s.size<=140737488355328)(hA:A+4<=s.size): Calls Tryz.prog 223 #[.string s,.int .i64 (A:Int),.int .u8 X,.int .u8 Y] w fun e w'=>e=.returned (.bool (Eg s A x y))/\Touch (fun _=>False) w w':=by
 subst hX hY;have HE:Hid (Eg s A x y=((s.extract A (A+4)).toList==((⟨#[80,75]⟩:ByteArray)++(⟨#[x,y]⟩:ByteArray)).toList)):=by
  have e:((⟨#[80,75]⟩:ByteArray)++(⟨#[x,y]⟩:ByteArray)).toList=[80,75,x,y]:=by rw[ByteArray.toList_eq];simp
  unfold Hid Eg;rw[e,Bool.eq_iff_iff];simp
 have d0:(0:Int)<=(A:Int):=by omega
 have d2:(A:Int)<=(s.size:Int)-4:=by omega
 go_enter Tryz.func223,Tryz.ntmps223;go_wp2;have hcv:(convert 114 9 (.slice (some ⟨w.heap.size,0,none⟩) 2 2)).run Tryz.prog (w.alloc (.cells #[.int .u8 (x.toNat:Int),.int .u8 (y.toNat:Int)] 5)).drew=.ok (.string ⟨#[x,y]⟩) (w.alloc (.cells #[.int .u8 (x.toNat:Int),.int .u8 (y.toNat:Int)] 5)).drew:=Qjb w.drew x y;have g7:((A:Int)+4).toNat=A+4:=by omega
 have g1:IntKind.i64.wrap ((s.size:Int)-4)=(s.size:Int)-4:=by simp[IntKind.wrap,IntKind.bits,IntKind.signed];omega
 have g2:IntKind.i64.wrap ((A:Int)+4)=(A:Int)+4:=by simp[IntKind.wrap,IntKind.bits,IntKind.signed];omega
 have g3:decide ((A:Int)<=(s.size:Int)-4)=true:=by simp;omega
 have g4:decide ((0:Int)<=(A:Int))=true:=by simp
 have g5:(A:Int)+4<=(s.size:Int):=by omega
 have g6:(A:Int)<=(A:Int)+4:=by omega
 go_region;all_goals
  go_wp2;go_ret;exact⟨by rw[HE.out];rfl,((Touch.refl _ w).alloc _).drew⟩
def cO(s:ByteArray)(A:Int)(n:Nat):Int:=if 0<=A/\A+n<=s.size then(Aa s A.toNat n:Nat)else -1
theorem mG(s:ByteArray)(a n:Nat)(h:a+n<=s.size):cO s (a:Int) n=(Aa s a n:Nat):=by
 unfold cO;rw[if_pos ⟨by omega,by omega⟩];rfl
theorem iO(s:ByteArray)(A:Int)(n:Nat)(h:A<0\/(s.size:Int)<A+n):cO s A n=-1:=by
 unfold cO;rw[if_neg (by omega)]
theorem bK(w:World)(s:ByteArray)(A N:Int)(n:Nat)(hN:N=(n:Int))(hs:s.size<=140737488355328)(hA:-4611686018427387904<=A/\A<=4611686018427387904)(hn:1<=n/\n<=8): Calls Tryz.prog 224 #[.string s,.int .i64 A,.int .i64 N] w fun e w'=>e=.returned (.int .i64 (cO s A n))/\w=w':=by
 subst hN;by_cases h:0<=A/\A+n<=s.size
 .obtain⟨a,rfl⟩:∃a:Nat,A=(a:Int):=⟨A.toNat,by omega⟩;rw[mG s a n (by omega)];exact Au w s a n _ _ rfl rfl hs (by omega) hn.2 hn.1
 rw[iO s A n (by omega)];exact mO w s A n hs (by omega) hA (by omega)
def Nw(s:ByteArray)(A:Int)(x y:UInt8):Bool:=decide (0<=A)&&decide (A+4<=s.size)&&Eg s A.toNat x y
theorem Uu(s:ByteArray)(A:Int)(a:Nat)(x y:UInt8)(hA:A=(a:Int))(h:a+4<=s.size):Nw s A x y=Eg s a x y:=by
 subst hA;unfold Nw;rw[decide_eq_true (by omega),decide_eq_true (by omega)];rfl
theorem Wj(s:ByteArray)(A:Int)(x y:UInt8)(h:A<0\/(s.size:Int)<A+4):Nw s A x y=false:=by
 unfold Nw;by_cases h0:0<=A;.rw[decide_eq_false (p:=A+4<=s.size) (by omega)];simp
 rw[decide_eq_false h0];rfl
theorem gU(w:World)(s:ByteArray)(A:Int)(x y:UInt8)(X Y:Int)(hX:X=(x.toNat:Int))(hY:Y=(y.toNat:Int))(hs:s.size<=140737488355328)(hA:-4611686018427387904<=A/\A<=4611686018427387904): Calls Tryz.prog 223 #[.string s,.int .i64 A,.int .u8 X,.int .u8 Y] w fun e w'=>e=.returned (.bool (Nw s A x y))/\Touch (fun _=>False) w w':=by
 by_cases h:0<=A/\A+4<=s.size
 .obtain⟨a,rfl⟩:∃a:Nat,A=(a:Int):=⟨A.toNat,by omega⟩;rw[Uu s _ a x y rfl (by omega)];exact Zl w s a x y X Y hX hY hs (by omega)
 rw[Wj s A x y (by omega)];refine(Qbs w s A x y X Y hX hY hs hA (by omega)).mono ?_;rintro e w' ⟨h1,h2⟩;have e0:Yh s A x y=false:=by
  unfold Yh;by_cases h0:0<=A;.rw[decide_eq_false (p:=A<=(s.size:Int)-4) (by omega)];simp
  rw[decide_eq_false h0];rfl
 exact⟨by rw[h1,e0],h2⟩
end Go.Proofs.YtmhlkdlcpicekaaGreatDoor
