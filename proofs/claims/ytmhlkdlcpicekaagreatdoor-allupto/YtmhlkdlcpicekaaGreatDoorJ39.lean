/- Joined. -/
import Derived.Test.YtmhlkdlcpicekaaGreatDoorJ20
import Derived.Test.YtmhlkdlcpicekaaGreatDoorJ26
set_option linter.unusedSimpArgs false
set_option linter.unusedVariables false
set_option maxRecDepth 100000
set_option maxHeartbeats 20000000
namespace Go.Proofs.YtmhlkdlcpicekaaGreatDoor
open Go.RowKit Go.Shelf Go.Lib
theorem Kz{w:World}{base n cap:Nat}{e:TypeId}{a:Option Addr}{xs:List Value}(h:w.ownsRow base e 1 (.slice a n cap) n xs)(hn:0<n):∃g,a=some ⟨g,0,none⟩/\∀i,i<n->w.cell? ⟨g,i,none⟩=xs[i]?:=by
 obtain⟨h1,⟨h2,h3⟩|⟨g,cap',cur,e,hb,hg,h3,h4,h5,h6⟩⟩:=h;.omega
 cases e;refine⟨g,rfl,fun i hi=>?_⟩;rw[Ac hg i,<-h6,List.getElem?_take_of_lt (by omega)];simp
theorem Qag(w:World)(a:Option Addr)(g cap:Nat)(a':Option Addr)(g' cap':Nat)(L:List Ai)(ha:0<L.length->a=some ⟨g,0,none⟩)(h1:0<L.length->Nh w g L)(h2:Refs w a' g' (L.map Sl))(hok:∀x∈L,Na x.Af)(hn:L.length<=22796): Calls Tryz.prog 100 #[.slice a L.length cap,.slice a' L.length cap'] w fun r w'=>r=.returned (.bool true)/\Touch (fun _=>False) w w':=by
 obtain⟨n,hN⟩:∃n,n=L.length:=⟨_,rfl⟩;rw[<-hN];have HN:Hid (n=L.length):=hN;have HA:Hid (0<L.length->a=some ⟨g,0,none⟩):=ha;have HE:Hid (0<L.length->Nh w g L):=h1;have HD:Hid (Refs w a' g' (L.map Sl)):=h2;have HOK:Hid (∀x∈L,Na x.Af):=hok;have hn':n<=22796:=by omega
 clear ha h1 h2 hok hn hN;go_enter Tryz.func100,Tryz.ntmps100;go_wp2;go_loopw [5] (fun i wr=>∃k:Nat,k<=n/\i=.int .i64 (k:Int)/\Touch (fun _=>False) w wr) (fun i wr=>n-(intOf i).toNat)
 case atStart=>exact⟨0,Nat.zero_le _,rfl,Touch.refl _ _⟩
 case round=>
  obtain⟨k,hk,rfl,T⟩:=hrel;by_cases hlt:k<n
  .have hlt':k<L.length:=by have:=HN.out;omega
   obtain rfl:=HA.out (by omega);obtain rfl:=HD.out.ptr (by rw[List.length_map];omega);have ccl:=((HE.out (by omega)).keep T (fun e=>e)).cells k hlt';have dcl:=((HD.out.at_ (by rw[List.length_map];omega)).keep T (fun e=>e)).cells k (by rw[List.length_map];omega);rw[List.getElem_map]at dcl;have c0:wr.cell? ⟨g,k*6,none⟩=some (.string L[k].Af.name):=ccl 0 (by omega);have c1:wr.cell? ⟨g,k*6+1,none⟩=some (.int .i64 (L[k].Af.method:Int)):=ccl 1 (by omega);have c2:wr.cell? ⟨g,k*6+2,none⟩=some (.int .u32 (L[k].Af.sum:Int)):=ccl 2 (by omega);have c3:wr.cell? ⟨g,k*6+3,none⟩=some (.int .i64 (L[k].Af.packed:Int)):=ccl 3 (by omega);have c4:wr.cell? ⟨g,k*6+4,none⟩=some (.int .i64 (L[k].Af.size:Int)):=ccl 4 (by omega);have c5:wr.cell? ⟨g,k*6+5,none⟩=some (.int .i64 (L[k].place:Int)):=ccl 5 (by omega);have d0:wr.cell? ⟨g',k*13,none⟩=some (.string L[k].Af.name):=dcl 0 (by omega);have d1:wr.cell? ⟨g',k*13+1,none⟩=some (.int .i64 (L[k].Af.method:Int)):=dcl 1 (by omega);have d2:wr.cell? ⟨g',k*13+2,none⟩=some (.int .i64 (L[k].Af.sum:Int)):=dcl 2 (by omega);have d3:wr.cell? ⟨g',k*13+3,none⟩=some (.int .i64 (L[k].Af.packed:Int)):=dcl 3 (by omega);have d4:wr.cell? ⟨g',k*13+4,none⟩=some (.int .i64 (L[k].Af.size:Int)):=dcl 4 (by omega);have d5:wr.cell? ⟨g',k*13+5,none⟩=some (.int .i64 (L[k].place:Int)):=dcl 5 (by omega);have d6:wr.cell? ⟨g',k*13+6,none⟩=some (.int .i64 (L[k].Af.flags:Int)):=dcl 6 (by omega);have d7:wr.cell? ⟨g',k*13+7,none⟩=some (.int .i64 (L[k].Af.ahead:Int)):=dcl 7 (by omega);have d8:wr.cell? ⟨g',k*13+8,none⟩=some (.int .i64 ((Am L[k].Af).1:Int)):=dcl 8 (by omega);have d9:wr.cell? ⟨g',k*13+9,none⟩=some (.int .i64 ((Am L[k].Af).2.1:Int)):=dcl 9 (by omega);have d10:wr.cell? ⟨g',k*13+10,none⟩=some (.int .i64 ((Am L[k].Af).2.2:Int)):=dcl 10 (by omega);have d11:wr.cell? ⟨g',k*13+11,none⟩=some (.int .i64 (L[k].Af.ahead:Int)):=dcl 11 (by omega);have d12:wr.cell? ⟨g',k*13+12,none⟩=some (.int .i64 (L[k].stop:Int)):=dcl 12 (by omega);have os:=(HOK.out L[k] (List.getElem_mem hlt')).sum;clear ccl dcl;revert c0 c1 c2 c3 c4 c5 d0 d1 d2 d3 d4 d5 d6 d7 d8 d9 d10 d11 d12 os;generalize L[k]=x;obtain⟨xf1,hx1⟩:∃f,f=(Am x.Af).1:=⟨_,rfl⟩;obtain⟨xf2,hx2⟩:∃f,f=(Am x.Af).2.1:=⟨_,rfl⟩;obtain⟨xf3,hx3⟩:∃f,f=(Am x.Af).2.2:=⟨_,rfl⟩;rw[<-hx1,<-hx2,<-hx3];clear hx1 hx2 hx3;intro c0 c1 c2 c3 c4 c5 d0 d1 d2 d3 d4 d5 d6 d7 d8 d9 d10 d11 d12 os;have i1:(k:Int)<(n:Int):=by omega
   have glt:g<wr.heap.size:=by
    have h:=((HE.out (by have:=HN.out;omega)).keep T (fun e=>e)).lt;exact h
   have glt':g'<wr.heap.size:=by
    have h:=((HD.out.at_ (by rw[List.length_map];have:=HN.out;omega)).keep T (fun e=>e)).lt;exact h
   go_wp2;exact⟨⟨k+1,by omega,by go_num,(T.alloc _).alloc _⟩,by simp[intOf];omega⟩
  obtain rfl:k=n:=by omega
  go_wp2;go_ret;exact⟨rfl,T⟩
theorem gW(w:World)(a:Option Addr)(g cap:Nat)(a':Option Addr)(g' cap':Nat)(L:List Gn)(h1:0<L.length->a=some ⟨g,0,none⟩/\Dc w g L/\g<w.heap.size)(h2:0<L.length->a'=some ⟨g',0,none⟩/\Dc w g' L/\g'<w.heap.size)(hn:L.length<=100000000): Calls Tryz.prog 103 #[.slice a L.length cap,.slice a' L.length cap'] w fun r w'=>r=.returned (.bool true)/\Touch (fun _=>False) w w':=by
 obtain⟨n,hN⟩:∃n,n=L.length:=⟨_,rfl⟩;rw[<-hN];have HN:Hid (n=L.length):=hN;have H1:Hid (0<L.length->a=some ⟨g,0,none⟩/\Dc w g L/\g<w.heap.size):=h1;have H2:Hid (0<L.length->a'=some ⟨g',0,none⟩/\Dc w g' L/\g'<w.heap.size):=h2;have hn':n<=100000000:=by omega
 clear h1 h2 hn hN;go_enter Tryz.func103,Tryz.ntmps103;go_wp2;go_loopw [5] (fun i wr=>∃k:Nat,k<=n/\i=.int .i64 (k:Int)/\Touch (fun _=>False) w wr) (fun i wr=>n-(intOf i).toNat)
 case atStart=>exact⟨0,Nat.zero_le _,rfl,Touch.refl _ _⟩
 case round=>
  obtain⟨k,hk,rfl,T⟩:=hrel;by_cases hlt:k<n
  .have hlt':k<L.length:=by have:=HN.out;omega
   obtain⟨rfl,q1,q2⟩:=H1.out (by omega);obtain⟨rfl,q3,q4⟩:=H2.out (by omega);obtain⟨x1,x2⟩:=q1 k hlt';obtain⟨y1,y2⟩:=q3 k hlt';have c0:=T.at x1 (fun e=>e);have c1:=T.at x2 (fun e=>e);have d0:=T.at y1 (fun e=>e);have d1:=T.at y2 (fun e=>e);clear x1 x2 y1 y2 q1 q3;revert c0 c1 d0 d1;generalize L[k]=x;obtain⟨xn,xd⟩:=x;simp only;obtain⟨D,hD⟩:∃D:ByteArray,D=⟨xd.toArray⟩:=⟨_,rfl⟩;rw[<-hD];clear hD;intro c0 c1 d0 d1;have i1:(k:Int)<(n:Int):=by omega
   have b1:(xn.toList==xn.toList)=true:=by simp
   have b2:(D.toList==D.toList)=true:=by simp
   go_wp2;go_quiet (fail);go_wp2;exact⟨⟨k+1,by omega,by go_num,T.drewN _⟩,by simp[intOf];omega⟩
  obtain rfl:k=n:=by omega
  go_wp2;go_ret;exact⟨rfl,T⟩
end Go.Proofs.YtmhlkdlcpicekaaGreatDoor
