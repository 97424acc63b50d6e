/- Joined. -/
import Derived.Test.YtmhlkdlcpicekaaGreatDoorJ25
set_option linter.unusedSimpArgs false
set_option linter.unusedVariables false
set_option maxRecDepth 100000
set_option maxHeartbeats 20000000
namespace Go.Proofs.YtmhlkdlcpicekaaGreatDoor
open Go.RowKit
structure Ref (w:World) (b:Nat) (s:ByteArray) (p:Nat) (out:List UInt8) (M:Int):Prop where
 rb:RB w b s p
 gv:∃ao cap,w.cell? ⟨b,2,none⟩=some (.slice ao out.length cap)/\w.ownsRow (b+1) 5 1 (.slice ao out.length cap) out.length (Dy out)
 ms:w.cell? ⟨b,3,none⟩=some (.int .i64 M)
 few:out.length<=258*p
theorem RB.lt{w:World}{b:Nat}{s:ByteArray}{p:Nat}(h:RB w b s p):b<w.heap.size:=World.block_lt_of_cell? w _ h.c0
theorem Ref.lt{w:World}{b:Nat}{s:ByteArray}{p:Nat}{out:List UInt8}{M:Int}(h:Ref w b s p out M):b<w.heap.size:=h.rb.lt
theorem IT.Qp{b:Nat}{x y:World}(h:BT b x y):IT b x y:=h.t.mono (fun _ _ e=>Or.inl e)
theorem Ref.read{w w':World}{b:Nat}{s:ByteArray}{p q:Nat}{out:List UInt8}{M:Int}(h:Ref w b s p out M)(hr:RB w' b s q)(hn:BT b w w')(hq:p<=q):Ref w' b s q out M:=by
 obtain⟨ao,cap,h2,ho⟩:=h.gv;refine⟨hr,⟨ao,cap,(hn.keep 2 (by omega) (by omega)).trans h2,hn.t.owns ho (fun k hk (e:k=b)=>?_)⟩,(hn.keep 3 (by omega) (by omega)).trans h.ms,by have:=h.few;omega⟩;have:=(ho.lt k hk).1;omega
theorem Ref.given{w x w1:World}{b:Nat}{s:ByteArray}{p:Nat}{out new:List UInt8}{M:Int}{ao:Option Addr}{cap:Nat}{v':Value}(h:Ref w b s p out M)(h2:w.cell? ⟨b,2,none⟩=some (.slice ao out.length cap))(ho:w.ownsRow (b+1) 5 1 (.slice ao out.length cap) out.length (Dy out))(hx:Touch (fun _=>False) w x)(hg:x.grownBy w1 (Value.slice ao out.length cap).ownBlock)(ho':w1.ownsRow (b+1) 5 1 v' (out.length+new.length) (Dy out++Dy new))(hfew:out.length+new.length<=258*p): (w1.cell? ⟨b,2,none⟩=some (.slice ao out.length cap)/\w1.frozen? ⟨b,2,none⟩=false)/\Ref (w1.setCell ⟨b,2,none⟩ v') b s p (out++new) M/\IT b w (w1.setCell ⟨b,2,none⟩ v'):=by
 have hlt:=h.lt;have t1:Touch (fun k=>k=b\/(b<k/\Typed w k 5)) w w1:=(hx.mono (fun _ _ e=>e.elim)).grown hg (fun k hk=>Or.inr ⟨by have:=(ho.lt k hk).1;omega,Typed.owned ho hk⟩);have hne:∀k,(Value.slice ao out.length cap).ownBlock=some k->k≠b:=fun k hk=>by have:=(ho.lt k hk).1;omega
 have hbb:w1.heap[b]?=w.heap[b]?:=(hg.block b (Nat.lt_of_lt_of_le hlt hx.size) (fun e=>hne b e.symm rfl)).trans (hx.block b hlt (fun e=>e));have hc:∀o,w1.cell? ⟨b,o,none⟩=w.cell? ⟨b,o,none⟩:=fun o=>World.cell?_of_block hbb;have hfz:∀o,w1.frozen? ⟨b,o,none⟩=w.frozen? ⟨b,o,none⟩:=fun o=>World.frozen?_of_block hbb;have it:IT b w (w1.setCell ⟨b,2,none⟩ v'):=Touch.setCell t1 (p:=⟨b,2,none⟩) (Or.inl rfl) v';refine⟨⟨(hc 2).trans h2,(hfz 2).trans (h.rb.fr 2)⟩,⟨?_,?_,?_,?_⟩,it⟩
 .have r:=h.rb;refine⟨?_,?_,?_,?_⟩;.rw[Aq (by omega),hc];exact r.c0
  .rw[Aq (by omega),hc];exact r.c1
  .rw[Aq (by omega),hc];exact r.c4
  intro o;rw[World.frozen?_setCell,hfz];exact r.fr o
 .have hsl:∃ao' cap',v'=.slice ao' (out++new).length cap':=by
   rw[List.length_append];rcases ho'.2 with⟨e,h0⟩|⟨g,cap',cur,e,_⟩;.exact⟨none,0,by rw[e,h0]⟩
   exact⟨_,_,e⟩
  obtain⟨ao',cap',rfl⟩:=hsl;refine⟨ao',cap',?_,?_⟩;.simp[Ad,hc,h2]
  rw[List.length_append]at *;rw[Xc];exact ownsRow_setCell_below ho' (by show b<b+1;omega) _
 .rw[Aq (by omega),hc];exact h.ms
 rw[List.length_append];exact hfew
theorem dD(b:Nat)(w:World)(s:ByteArray)(p:Nat)(out:List UInt8)(M c:Int)(h:Ref w b s p out M)(hp:p<=8*s.size)(hfull:M<=(out.length:Int)): Calls Tryz.prog 218 #[.pointer (some ⟨b,0,none⟩),.int .u8 c] w fun e w'=>e=.returned (.tuple #[])/\w'.cell? ⟨b,4,none⟩=some (.int .i64 2)/\IT b w w':=by
 obtain⟨ao,cap,h2,ho⟩:=h.gv;have h3:=h.ms;have h4:=h.rb.c4;rw[if_pos hp]at h4;have h4':w.cell? ⟨b,4,none⟩=some (.int .i64 0):=h4;clear h4;have f4:=h.rb.fr 4;go_enter Tryz.func218,Tryz.ntmps218;go_wp2;go_quiet (fail);go_wp2_with (go_at_call 153;refine(Ru (w.drewN nq) b 2 h4' f4).mono ?_;rintro e w' ⟨rfl,rfl⟩);go_end0;refine⟨rfl,?_,?_⟩;.simp[Ad,Cc,h4']
 exact IT.Qp (((BT.refl b w).drewN _).set 4 (Or.inr rfl) _)
theorem Qg7(b:Nat)(w:World)(s:ByteArray)(p:Nat)(out:List UInt8)(M:Int)(c:UInt8)(h:Ref w b s p out M)(hp:p<=8*s.size)(hs:s.size<=2147483648)(hroom:(out.length:Int)<M)(hfew:out.length+1<=258*p): Calls Tryz.prog 218 #[.pointer (some ⟨b,0,none⟩),.int .u8 (c.toNat:Int)] w fun e w'=>e=.returned (.tuple #[])/\Ref w' b s p (out++[c]) M/\IT b w w':=by
 obtain⟨ao,cap,h2,ho⟩:=h.gv;have h3:=h.ms;have h4:=h.rb.c4;rw[if_pos hp]at h4;have h4':w.cell? ⟨b,4,none⟩=some (.int .i64 0):=h4;clear h4;have hlt:=h.lt;obtain⟨i0,hi,hz0,hz1,hz2⟩:=info_parts Tryz.infoByte;have c3:out.length+1<=maxLen:=by unfold maxLen;omega
 have c4:(out.length+1)*1<=140737488355328:=by omega
 have hod:∀k,(w.drewN k).ownsRow (b+1) 5 1 (.slice ao out.length cap) out.length (Dy out):=fun _=>ho;have hbd:∀k o,b+1<=((w.drewN k).alloc o).heap.size:=by intro k o;rw[World.size_alloc,jL];omega
 have nle:¬M<=(out.length:Int):=by omega
 go_enter Tryz.func218,Tryz.ntmps218;go_wp2;go_quiet (fail);go_wp2_with (at_builtin;refine wpList_append_own _ rfl _ _ 114 rfl (b+1) 5 i0 (.int .u8 0) 1 1 Tryz.underlying114 hi hz0 hz1 hz2 rfl (by decide) _ _ _ rfl ((hod nq).alloc _) ⟨_,0,none⟩ 1 1 [.int .u8 (c.toNat:Int)] rfl rfl (cell_one_new _ _ _) (by simp[Value.oneCell']) c3 c4 (hbd nq _) ?_;intro v' w1 hown' hgrow _;obtain⟨⟨q5,q6⟩,_⟩:=h.given (new:=[c]) h2 ho (((Touch.refl _ w).drewN nq).alloc _) hgrow hown' hfew;obtain⟨g',cap',hv',_⟩:=Fp hown' (by omega);rw[hv']at hown' ⊢);go_end0;have hin:=h.given (new:=[c]) h2 ho (((Touch.refl _ w).drewN nq).alloc _) hgrow hown' hfew;exact⟨rfl,hin.2.1,hin.2.2⟩
def Dh(L:List Nat):Nat->List (Nat×Nat×Nat)
 |0=>[]
 |n+1=>Dh L n++(List.range (cnt L n)).map (fun r=>(nth L n r,n,Bd L n+r))
def Dt(L:List Nat)(n i:Nat):List (Nat×Nat×Nat):=Dh L n++(List.range ((L.take i).count n)).map (fun r=>(nth L n r,n,Bd L n+r))
theorem dJ(L:List Nat)(n:Nat):(Dh L n).length=placeOf L n:=by
 induction n with
 |zero=>rfl
 |succ n ih=>simp[Dh,placeOf,ih]
theorem Oi(L:List Nat)(n i:Nat):(Dt L n i).length=placeOf L n+(L.take i).count n:=by simp[Dt,dJ]
theorem Lu(L:List Nat)(n:Nat):Dt L n 0=Dh L n:=by simp[Dt]
theorem fK(L:List Nat)(n:Nat)(h:1<=n):Dt L n L.length=Dh L (n+1):=by
 simp only[Dt,Dh,List.take_length];unfold cnt;rw[if_neg (by omega)]
theorem jK(L:List Nat)(n i:Nat)(h:i<L.length)(hn:L[i]≠n):Dt L n (i+1)=Dt L n i:=by
 have:(L.take (i+1)).count n=(L.take i).count n:=by
  rw[List.take_succ_eq_append_getElem h,List.count_append,List.count_singleton];simp[hn]
 simp only[Dt,this]
theorem count_eq(L:List Nat)(n i:Nat)(h:i<L.length)(hn:L[i]=n):(L.take (i+1)).count n=(L.take i).count n+1:=by
 rw[List.take_succ_eq_append_getElem h,List.count_append,hn];simp
theorem Qeq(L:List Nat)(n i:Nat)(h:i<L.length)(hn:L[i]≠n):(L.take (i+1)).count n=(L.take i).count n:=by
 rw[List.take_succ_eq_append_getElem h,List.count_append,List.count_singleton];simp[hn]
theorem Ym(L:List Nat)(n i:Nat)(h:i<L.length)(hn:L[i]=n):Dt L n (i+1)=Dt L n i++[(i,n,Bd L n+(L.take i).count n)]:=by
 simp only[Dt,count_eq L n i h hn,List.range_succ,List.map_append,List.map_cons,List.map_nil,List.append_assoc];rw[qA L n i h hn]
theorem fE(L:List Nat)(n a m y:Nat):(a,m,y)∈Dh L n↔m<n/\∃r,r<cnt L m/\a=nth L m r/\y=Bd L m+r:=by
 induction n with
 |zero=>simp[Dh]
 |succ n ih=>
  simp only[Dh,List.mem_append,ih,List.mem_map,List.mem_range,Prod.mk.injEq];constructor
  .rintro(⟨h1,h2⟩|⟨r,h1,rfl,rfl,rfl⟩);.exact⟨by omega,h2⟩
   exact⟨by omega,r,h1,rfl,rfl⟩
  rintro⟨h1,r,h2,rfl,rfl⟩;by_cases e:m=n;.subst e;exact Or.inr ⟨r,h2,rfl,rfl,rfl⟩
  exact Or.inl ⟨by omega,r,h2,rfl,rfl⟩
theorem Uo(L:List Nat)(n:Nat):Du L n=((2^n:Nat):Int)-((Bd L n+cnt L n:Nat):Int):=by
 induction n with
 |zero=>simp[Du,Bd,cnt]
 |succ n ih=>
  simp only[Du,Bd,ih,Nat.pow_succ];generalize 2^n=x;omega
theorem xM(L:List Nat)(n:Nat)(h:Du L n<0):∀k,Du L (n+k)<0
 |0=>h
 |k+1=>by
  have:=xM L n h k;rw[show n+(k+1)=(n+k)+1 by omega];simp only[Du];omega
theorem Qay(L:List Nat)(m n:Nat)(h:m<n)(hn:n<16):cnt L m+cnt L n<=placeOf L 16:=by
 have h1:=Jt L (show m+1<=n by omega);have h2:=Jt L (show n+1<=16 by omega);simp only[placeOf]at h1 h2 ⊢;omega
theorem Qah(L:List Nat)(m:Nat)(h:m<16):cnt L m<=placeOf L 16:=by
 have h2:=Jt L (show m+1<=16 by omega);simp only[placeOf]at h2 ⊢;omega
theorem iV(L:List Nat)(n:Nat)(h:placeOf L n=0):Bd L n=0:=by
 induction n with
 |zero=>rfl
 |succ n ih=>
  simp only[placeOf]at h;simp only[Bd,ih (by omega)];omega
def Nj(L:List Nat)(few:Bool):Bool:=Du L 15==0||(few&&(placeOf L 16==0||(placeOf L 16==1&&cnt L 1==1)))
def Rz(L:List Nat)(n i x u:Nat):Prop:=
 (Dt L n i).length=0/\x=0/\u=0\/1<=(Dt L n i).length/\1<=u/\u<=n/\u<=15/\1<=cnt L u/\x<2^u/\(x+1)*2^(n-u)=Bd L n+(L.take i).count n
theorem Rz.start(L:List Nat):Rz L 1 0 0 0:=by
 left;rw[Oi];simp[placeOf,cnt]
theorem Rz.ne{L:List Nat}{n i x u:Nat}(hc:Rz L n i x u)(h:i<L.length)(hn:L[i]≠n):Rz L n (i+1) x u:=by
 unfold Rz at *;rw[jK L n i h hn,Qeq L n i h hn];exact hc
theorem Rz.empty{L:List Nat}{n i x u:Nat}(hc:Rz L n i x u)(h0:(Dt L n i).length=0):x=0/\u=0/\Bd L n+(L.take i).count n=0:=by
 rcases hc with⟨_,h1,h2⟩|⟨h1,_⟩
 .rw[Oi]at h0;exact⟨h1,h2,by rw[iV L n (by omega)];omega⟩
 omega
theorem Rz.more{L:List Nat}{n i x u:Nat}(hc:Rz L n i x u)(h0:(Dt L n i).length≠0):1<=u/\u<=n/\u<=15/\x<2^u/\(x+1)*2^(n-u)=Bd L n+(L.take i).count n:=by
 rcases hc with⟨h1,_⟩|⟨_,h1,h2,h3,_,h5,h6⟩;.omega
 exact⟨h1,h2,h3,h5,h6⟩
theorem Qak{L:List Nat}{n i:Nat}(h:i<L.length)(hn:L[i]=n)(h1:1<=n):(L.take i).count n+1<=cnt L n:=by
 have h2:=count_eq L n i h hn;have h3:(L.take (i+1)).count n<=L.count n:=(List.take_sublist _ _).count_le n;unfold cnt;rw[if_neg (by omega)];omega
theorem Rz.eq{L:List Nat}{n i:Nat}(h:i<L.length)(hn:L[i]=n)(h1:1<=n)(h15:n<=15)(hlt:Bd L n+(L.take i).count n<2^n):Rz L n (i+1) (Bd L n+(L.take i).count n) n:=by
 right;have:=Qak h hn h1;refine⟨by rw[Ym L n i h hn];simp,h1,Nat.le_refl _,h15,by omega,hlt,by rw[count_eq L n i h hn];simp;omega⟩
theorem Rz.step{L:List Nat}{n x u:Nat}(h1:1<=n)(hc:Rz L n L.length x u):Rz L (n+1) 0 x u:=by
 have hl:(Dt L (n+1) 0).length=(Dt L n L.length).length:=by rw[Lu,fK L n h1]
 rcases hc with⟨a,b,c⟩|⟨a,b,c,c15,d,e,f⟩;.left;exact⟨by omega,b,c⟩
 right;refine⟨by omega,b,by omega,c15,d,e,?_⟩;have:(L.take L.length).count n=cnt L n:=by rw[List.take_length];unfold cnt;rw[if_neg (by omega)]
 rw[this]at f;rw[show n+1-u=(n-u)+1 by omega,Nat.pow_succ,<-Nat.mul_assoc,f];simp only[Bd,List.take_zero,List.count_nil];omega
theorem Qhm{L:List Nat}{n i:Nat}(h:i<L.length)(hn:L[i]=n)(h1:1<=n)(h15:n<=15)(hge:2^n<=Bd L n+(L.take i).count n)(few:Bool):Nj L few=false:=by
 have hp:=Qak h hn h1;have hf:Du L n<0:=by rw[Uo];omega
 have h2:=xM L n hf (15-n);rw[show n+(15-n)=15 by omega]at h2;have h3:=Qah L n (by omega);have h4:¬(placeOf L 16=1/\cnt L 1=1):=by
  rintro⟨h5,h6⟩;by_cases e:n=1
  .subst e;have:Bd L 1=0:=by simp[Bd,cnt]
   rw[this]at hge;omega
  have:=Qay L 1 n (by omega) (by omega);omega
 unfold Nj;have e1:(Du L 15==0)=false:=by simp;omega
 have e2:(placeOf L 16==0)=false:=by simp;omega
 have e3:(placeOf L 16==1&&cnt L 1==1)=false:=by
  rw[Bool.and_eq_false_iff];simp only[beq_eq_false_iff_ne];by_cases h5:placeOf L 16=1;.exact Or.inr (fun h6=>h4 ⟨h5,h6⟩)
  exact Or.inl h5
 rw[e1,e2,e3];simp
theorem ok_none{L:List Nat}(h:placeOf L 16=0)(few:Bool):Nj L few=few:=by
 have h0:=iV L 16 h;have e1:(Du L 15==0)=false:=by
  simp only[beq_eq_false_iff_ne];rw[Uo];have:Bd L 15+cnt L 15=0:=by simp only[Bd]at h0 ⊢;omega
  rw[this];decide
 unfold Nj;rw[e1,h];simp
theorem Qhi{L:List Nat}{x u:Nat}(hc:Rz L 16 0 x u)(h:(Dt L 16 0).length≠0)(few:Bool):Nj L few=(x+1==2^u||(few&&(placeOf L 16==1&&u==1))):=by
 rcases hc with⟨h1,_⟩|⟨_,h1,h2,h3,h4,h5,h6⟩;.omega
 rw[Oi]at h;simp only[List.take_zero,List.count_nil]at h h6;have e0:(placeOf L 16==0)=false:=by simp;omega
 have e1:(Du L 15==0)=(x+1==2^u):=by
  rw[Bool.eq_iff_iff,beq_iff_eq,beq_iff_eq,Uo];have hp:(2:Nat)^u*2^(16-u)=2^16:=by rw[<-Nat.pow_add];congr 1;omega
  have hq:0<(2:Nat)^(16-u):=Nat.two_pow_pos _;have hr:Bd L 16=2*(Bd L 15+cnt L 15):=rfl;constructor
  .intro e;have:(x+1)*2^(16-u)=2^u*2^(16-u):=by rw[h6,hp,hr];omega
   exact Nat.eq_of_mul_eq_mul_right hq this
  intro e;rw[e,hp,hr]at h6;omega
 have e2:(placeOf L 16==1&&cnt L 1==1)=(placeOf L 16==1&&u==1):=by
  rw[Bool.eq_iff_iff];simp only[Bool.and_eq_true,beq_iff_eq];constructor
  .rintro⟨a,b⟩;refine⟨a,?_⟩;by_cases e:u=1;.exact e
   have:=Qay L 1 u (by omega) (by omega);omega
  rintro⟨a,b⟩;subst b;have:=Qah L 1 (by omega);exact⟨a,by omega⟩
 unfold Nj;rw[e0,e1,e2];simp
theorem Qho(L D:List Nat):(Du L 15==0&&(placeOf D 16==0||(placeOf D 16==1&&cnt D 1==1)||Du D 15==0))=(Nj L false&&Nj D true):=by
 unfold Nj;simp[Bool.or_comm,Bool.or_assoc,Bool.or_left_comm]
def flat3:List (Nat×Nat×Nat)->List Value
 | []=>[]
 |(a,b,c)::l=>.int .i64 (a:Int)::.int .i64 (b:Int)::.int .i64 (c:Int)::flat3 l
theorem Qcn(l k:List (Nat×Nat×Nat)):flat3 (l++k)=flat3 l++flat3 k:=by
 induction l with
 |nil=>rfl
 |cons x l ih=>obtain⟨a,b,c⟩:=x;simp[flat3,ih]
theorem xO:∀(l:List (Nat×Nat×Nat)) (j a b c:Nat),l[j]?=some (a,b,c)->(flat3 l)[j*3]?=some (.int .i64 (a:Int))/\(flat3 l)[j*3+1]?=some (.int .i64 (b:Int))/\(flat3 l)[j*3+2]?=some (.int .i64 (c:Int))
 |(x,y,z)::l,0,a,b,c,h=>by simp at h;obtain⟨rfl,rfl,rfl⟩:=h;simp[flat3]
 |(x,y,z)::l,j+1,a,b,c,h=>by
  simp at h;have:=xO l j a b c h;rw[show(j+1)*3=j*3+1+1+1 by omega];simpa [flat3]using this
theorem Wu(w:World)(x y z:Value)(t:TypeId):∀j u,[x,y,z][j]?=some u->(w.alloc (.cells #[x,y,z] t)).cell? ((⟨w.heap.size,0,none⟩:Addr).add j)=some u:=by
 intro j u h;have hc:(w.alloc (.cells #[x,y,z] t)).heap[w.heap.size]?=some (.cells #[x,y,z] t (0,0)):=heap_alloc_new w _
 match j,h with
 |0,h=>simp at h;subst h;simp[Addr.add,cell_of_row _ _ _ _ _ _ hc]
 |1,h=>simp at h;subst h;simp[Addr.add,cell_of_row _ _ _ _ _ _ hc]
 |2,h=>simp at h;subst h;simp[Addr.add,cell_of_row _ _ _ _ _ _ hc]
theorem Jq{w:World}{base:Nat}{e:TypeId}{size n:Nat}{v:Value}{xs:List Value}(h:w.ownsRow base e size v n xs):∃ao cap,v=.slice ao n cap:=by
 rcases h.2 with⟨e,h0⟩|⟨g,cap',cur,e,_⟩;.exact⟨none,0,by rw[e,h0]⟩
 exact⟨_,_,e⟩
theorem Tryz.Qeg:(Tryz.prog.info? 325).map (fun i=>(i.zero,i.size,i.bytes))=some (some (.agg #[.int .i64 0,.int .i64 0,.int .i64 0]),3,24):=by kernel_rfl
theorem Qg2(w:World)(lb lo N cap:Nat)(L:List Nat)(few:Bool)(hlen:L.length=N)(hn:N<=400)(hcells:∀j (h:j<L.length),w.cell? ⟨lb,lo+j,none⟩=some (.int .i64 (L[j]:Nat))): Calls Tryz.prog 220 #[.slice (some ⟨lb,lo,none⟩) N cap,.bool few] w fun e w'=>∃v,e=.returned (.tuple #[v,.bool (Nj L few)])/\(Nj L few=true->w'.ownsRow w.heap.size 325 3 v (Dh L 16).length (flat3 (Dh L 16)))/\Touch (fun _=>False) w w':=by
 obtain⟨i0,hi,hz0,hz1,hz2⟩:=info_parts Tryz.Qeg;go_enter Tryz.func220,Tryz.ntmps220;go_wp2;go_loopw [6,7,8,9] (fun v nx ws i wr=>∃n x u:Nat,1<=n/\n<=16/\i=.int .i64 (n:Int)/\nx=.int .i64 (x:Int)/\ws=.int .i64 (u:Int)/\Hid (Rz L n 0 x u)/\wr.ownsRow w.heap.size 325 3 v (Dt L n 0).length (flat3 (Dt L n 0))/\Touch (fun _=>False) w wr) (fun _ _ _ i _=>16-(intOf i).toNat)
 case atStart=>exact⟨1,0,0,by omega,by omega,rfl,rfl,rfl,Rz.start L,by simpa [Dt,Dh,cnt,flat3]using World.ownsRow_nil _ _ _ _,Touch.refl _ _⟩
 case round=>
  obtain⟨n,x,u,hn1,hn16,rfl,rfl,rfl,HC,ho,ht⟩:=hrel;by_cases hlt:n<16
  .have d15:(n:Int)<=15:=by omega
   go_wp2;go_loopw [6,7,8,10] (fun v nx ws i wr=>∃k x u:Nat,k<=N/\i=.int .i64 (k:Int)/\nx=.int .i64 (x:Int)/\ws=.int .i64 (u:Int)/\Hid (Rz L n k x u)/\wr.ownsRow w.heap.size 325 3 v (Dt L n k).length (flat3 (Dt L n k))/\Touch (fun _=>False) w wr) (fun _ _ _ i _=>N-(intOf i).toNat)
   case atStart=>exact⟨0,x,u,by omega,rfl,rfl,rfl,HC,ho,ht⟩
   case round=>
    clear HC ho ht;obtain⟨k,x,u,hk,rfl,rfl,rfl,HC,ho,ht⟩:=hrel;by_cases hkl:k<N
    .have hk':k<L.length:=(by omega);have hcell:wr.cell? ⟨lb,lo+k,none⟩=some (.int .i64 (L[k]:Nat)):=ht.at (hcells k hk') (fun h=>h);by_cases he:L[k]=n
     .obtain⟨ao,kc,rfl⟩:=Jq ho;obtain⟨m,hm⟩:∃m,m=(Dt L n k).length:=⟨_,rfl⟩;obtain⟨y,hy⟩:∃y,y=Bd L n+(L.take k).count n:=⟨_,rfl⟩;obtain⟨Q,hQ⟩:∃Q,Q=2^n:=⟨_,rfl⟩;have Q1:1<=Q:=(by rw[hQ];exact Nat.one_le_two_pow);have Q2:Q<=32768:=(by rw[hQ];exact Nat.le_trans (Nat.pow_le_pow_right (by omega) (show n<=15 by omega)) (by decide));have HQ:Hid (Q=2^n):=hQ;have HY:Hid (y=Bd L n+(L.take k).count n):=hy;have HM:Hid (m=(Dt L n k).length):=hm;have mb:m<=6400+k:=by
       rw[hm,Oi];have a1:=Nu L (by omega) n (by omega);have a2:(L.take k).count n<=k:=Nat.le_trans List.count_le_length (List.length_take_le _ _);omega
      have hEnd:y<Q->(Dt L n (k+1)).length=m+1/\Hid (Rz L n (k+1) y n)/\flat3 (Dt L n (k+1))=flat3 (Dt L n k)++[.int .i64 (k:Int),.int .i64 (n:Int),.int .i64 (y:Int)]:=by
       intro h;refine⟨by rw[Ym L n k hk' he];simp[hm],?_,by rw[Ym L n k hk' he,Qcn,hy];rfl⟩;unfold Hid;rw[hy];exact Rz.eq hk' he hn1 (by omega) (by omega)
      have hOver:Q<=y->Nj L few=false:=fun h=>Qhm hk' he hn1 (by omega) (by omega) few;rw[<-hm]at ho ⊢;rw[he]at hcell;have c3:m+1<=maxLen:=(by unfold maxLen;omega);have c4:(m+1)*24<=140737488355328:=(by omega);have hsz:=ht.size;clear hm hy hQ;by_cases h0:m=0
      .obtain⟨rfl,rfl,hy0⟩:=HC.out.empty (by rw[<-HM.out];exact h0);have y0:y=0:=(by rw[HY.out];exact hy0);subst y0;clear hy0;subst h0;go_wp2_with (first|(go_at_call 217;refine(Qs _ n Q _ (by omega) HQ (by omega)).mono ?_;rintro e w2 ⟨rfl,rfl⟩)|(at_builtin;refine wpList_append_own _ rfl _ _ 303 rfl w.heap.size 325 i0 (.agg #[.int .i64 0,.int .i64 0,.int .i64 0]) 3 24 Tryz.underlying303 hi hz0 hz1 hz2 rfl (by decide) _ _ _ rfl (ho.alloc _) ⟨_,0,none⟩ 1 1 [.int .i64 (k:Int),.int .i64 (n:Int),.int .i64 0] rfl rfl (Wu _ _ _ _ _) (by simp[Value.oneCell']) c3 c4 (by simp;omega) ?_;intro v' w1 hown' hgrow _));go_roundw
       case rel=>
        obtain⟨e1,e2,e3⟩:=hEnd (by omega);exact⟨k+1,0,n,by omega,by go_num,rfl,rfl,e2,by rw[e1,e3];exact hown',(ht.alloc _).Fa hgrow (fun j hj=>(ho.lt j hj).1)⟩
       case measure=>simp[intOf];omega
      obtain⟨u1,u2,u3,xu,xy⟩:=HC.out.more (by rw[<-HM.out];exact h0);obtain⟨P,hP⟩:∃P,P=2^(n-u):=⟨_,rfl⟩;have HP:Hid (P=2^(n-u)):=hP;have hz:((x:Int)+1)*(P:Int)=(y:Int):=(by rw[HY.out,<-xy,hP];push_cast;rfl);have xb:x<32768:=Nat.lt_of_lt_of_le xu (Nat.le_trans (Nat.pow_le_pow_right (by omega) u3) (by decide));have yb:y<=32768:=by
       rw[HY.out,<-xy];have:(x+1)*2^(n-u)<=2^u*2^(n-u):=Nat.mul_le_mul_right _ xu;rw[<-Nat.pow_add,show u+(n-u)=n by omega,<-HQ.out]at this;omega
      clear xu xy hP;have m0:(0:Int)<(m:Int):=(by omega);by_cases hyq:y<Q
      .go_wp2_with (first|(go_at_call 217;refine(Qs _ (n-u) P _ (by omega) HP (by omega)).mono ?_;rintro e w2 ⟨rfl,rfl⟩)|(go_at_call 217;refine(Qs _ n Q _ (by omega) HQ (by omega)).mono ?_;rintro e w2 ⟨rfl,rfl⟩)|(at_builtin;refine wpList_append_own _ rfl _ _ 303 rfl w.heap.size 325 i0 (.agg #[.int .i64 0,.int .i64 0,.int .i64 0]) 3 24 Tryz.underlying303 hi hz0 hz1 hz2 rfl (by decide) _ _ _ rfl (ho.alloc _) ⟨_,0,none⟩ 1 1 [.int .i64 (k:Int),.int .i64 (n:Int),.int .i64 (y:Int)] rfl rfl (Wu _ _ _ _ _) (by simp[Value.oneCell']) c3 c4 (by simp;omega) ?_;intro v' w1 hown' hgrow _));go_roundw
       case rel=>
        obtain⟨e1,e2,e3⟩:=hEnd hyq;exact⟨k+1,y,n,by omega,by go_num,rfl,rfl,e2,by rw[e1,e3];exact hown',(ht.alloc _).Fa hgrow (fun j hj=>(ho.lt j hj).1)⟩
       case measure=>simp[intOf];omega
      have hO:=hOver (by omega);go_wp2_with (first|(go_at_call 217;refine(Qs _ (n-u) P _ (by omega) HP (by omega)).mono ?_;rintro e w2 ⟨rfl,rfl⟩)|(go_at_call 217;refine(Qs _ n Q _ (by omega) HQ (by omega)).mono ?_;rintro e w2 ⟨rfl,rfl⟩));go_ret2;exact⟨_,by rw[hO];rfl,(by rw[hO];intro h;cases h),ht⟩
     have he':((L[k]:Int)==(n:Int))=false:=(by simp;omega);obtain⟨ao,kc,rfl⟩:=Jq ho;go_wp2;go_roundw
     case rel=>exact⟨k+1,x,u,by omega,by go_num,rfl,rfl,HC.out.ne hk' he,by rw[jK L n k hk' he];exact ho,ht⟩
     case measure=>simp[intOf];omega
    obtain rfl:k=N:=by omega
    go_wp2;go_roundw
    case rel=>
     rw[<-hlen]at HC ho;exact⟨n+1,x,u,by omega,by omega,by go_num,rfl,rfl,HC.out.step hn1,by rw[Lu,<-fK L n hn1];exact ho,ht⟩
    case measure=>simp[intOf];omega
  obtain rfl:n=16:=by omega
  obtain⟨ao,kc,rfl⟩:=Jq ho;have hl:=Oi L 16 0;simp only[List.take_zero,List.count_nil,Nat.add_zero]at hl;obtain⟨m,hm⟩:∃m,m=(Dt L 16 0).length:=⟨_,rfl⟩;have HM:Hid (m=(Dt L 16 0).length):=hm;have HL:Hid (m=placeOf L 16):=hm.trans hl;rw[<-hm]at ho ⊢;clear hl hm;by_cases h0:m=0
  .have HO:Hid (Nj L few=few):=ok_none (by rw[<-HL.out];exact h0) few;subst h0;go_wp2;go_ret2;refine⟨_,by rw[HO.out];rfl,fun _=>?_,ht⟩;have e:Dh L 16=[]:=by
    have:=HM.out;rw[Lu]at this;exact List.eq_nil_of_length_eq_zero this.symm
   rw[e];exact World.ownsRow_nil _ _ _ _
  obtain⟨u1,u2,u3,xu,xy⟩:=HC.out.more (by rw[<-HM.out];exact h0);have HO:Hid (Nj L few=(x+1==2^u||(few&&(placeOf L 16==1&&u==1)))):=Qhi HC.out (by rw[<-HM.out];exact h0) few;obtain⟨P,hP⟩:∃P,P=2^u:=⟨_,rfl⟩;have HP:Hid (P=2^u):=hP;have P1:1<=P:=by rw[hP];exact Nat.one_le_two_pow
  have P2:P<=32768:=by rw[hP];exact Nat.le_trans (Nat.pow_le_pow_right (by omega) u3) (by decide)
  have xb:x<P:=by rw[hP];exact xu
  have m0:((m:Int)==0)=false:=by simp;omega
  have oE:w.heap.size<=wr.heap.size->wr.ownsRow w.heap.size 325 3 (.slice ao m kc) (Dh L 16).length (flat3 (Dh L 16)):=by
   intro _;have:=ho;rw[HM.out,Lu]at this;rw[HM.out,Lu];exact this
  clear xu xy hP;have HF:Hid (Nj L few=(decide ((x:Int)=(P:Int)-1)||(few&&(decide (m=1)&&decide (u=1))))):=by
   unfold Hid;rw[HO.out,<-HP.out,<-HL.out];congr 1;rw[Bool.eq_iff_iff];simp;omega
  clear HO;by_cases hf:x+1=P
  .have e1:(x:Int)=(P:Int)-1:=by omega
   have HG:Hid (Nj L few=true):=by unfold Hid;rw[HF.out];simp[e1]
   go_wp2_with (go_at_call 217;refine(Qu _ u P HP (by omega)).mono ?_;rintro e w2 ⟨rfl,rfl⟩);go_ret2;exact⟨_,by rw[HG.out];rfl,fun _=>oE ht.size,ht⟩
  have e1:¬(x:Int)=(P:Int)-1:=by omega
  have HG:Hid (Nj L few=(few&&(decide (m=1)&&decide (u=1)))):=by unfold Hid;rw[HF.out];simp[e1]
  cases few with
  |false=>
   go_wp2_with (go_at_call 217;refine(Qu _ u P HP (by omega)).mono ?_;rintro e w2 ⟨rfl,rfl⟩);go_ret2;exact⟨_,by rw[HG.out];simp[e1],fun _=>oE ht.size,ht⟩
  |true=>
   by_cases h1:m=1
   .subst h1;by_cases hu:u=1
    .subst hu;go_wp2_with (go_at_call 217;refine(Qs _ 1 P _ rfl HP (by omega)).mono ?_;rintro e w2 ⟨rfl,rfl⟩);go_ret2;exact⟨_,by rw[HG.out];simp[e1],fun _=>oE ht.size,ht⟩
    have e3:((u:Int)==1)=false:=(by simp;omega);go_wp2_with (go_at_call 217;refine(Qu _ u P HP (by omega)).mono ?_;rintro e w2 ⟨rfl,rfl⟩);go_ret2;exact⟨_,by rw[HG.out];simp[hu,e1],fun _=>oE ht.size,ht⟩
   have e2:((m:Int)==1)=false:=by simp;omega
   go_wp2_with (go_at_call 217;refine(Qu _ u P HP (by omega)).mono ?_;rintro e w2 ⟨rfl,rfl⟩);go_ret2;exact⟨_,by rw[HG.out];simp[h1,e1],fun _=>oE ht.size,ht⟩
def tJ(b:Nat)(s:ByteArray)(w:World)(r:Option (Nat×Nat))(e:Ending)(w':World):Prop:=
 BT b w w'/\match r with
 |none=>e=.returned (.int .i64 (-1))/\w'.cell? ⟨b,4,none⟩=some (.int .i64 1)
 |some (k,q)=>e=.returned (.int .i64 (k:Int))/\RB w' b s q
theorem Qan(w:World)(b:Nat)(k e:Int)(h4:w.cell? ⟨b,4,none⟩=some (.int .i64 e))(he:e≠0): Calls Tryz.prog 153 #[.pointer (some ⟨b,0,none⟩),.int .i64 k] w fun e w'=>e=.returned (.tuple #[])/\w=w':=by
 have he':(e==0)=false:=by simp;omega
 go_enter Tryz.func153,Tryz.ntmps153;go_wp2;go_end0;exact⟨rfl,rfl⟩
theorem BT.owns{b:Nat}{w w':World}(h:BT b w w'){base:Nat}{e:TypeId}{size:Nat}{v:Value}{n:Nat}{xs:List Value}(ho:w.ownsRow base e size v n xs)(hs:∀k,v.ownBlock=some k->k≠b):w'.ownsRow base e size v n xs:=
 h.t.owns ho (fun k hk e=>hs k hk e)
theorem RB.zero{w:World}{b:Nat}{s:ByteArray}{p:Nat}(h:RB w b s p)(hp:p<=8*s.size):w.cell? ⟨b,4,none⟩=some (.int .i64 0):=by
 have:=h.c4;rw[if_pos hp]at this;exact this
theorem RB.one{w:World}{b:Nat}{s:ByteArray}{p:Nat}(h:RB w b s p)(hp:8*s.size<p):w.cell? ⟨b,4,none⟩=some (.int .i64 1):=by
 have:=h.c4;rw[if_neg (by omega)]at this;exact this
theorem Qhk(w:World)(b base:Nat)(s:ByteArray)(p:Nat)(L:List Nat)(v:Value)(hL:L.length<=400)(hs:s.size<=2147483648)(h:RB w b s p)(ho:w.ownsRow base 325 3 v (Dh L 16).length (flat3 (Dh L 16)))(hne:∀k,v.ownBlock=some k->k≠b): Calls Tryz.prog 221 #[.pointer (some ⟨b,0,none⟩),v] w (tJ b s w (dec L s p)):=by
 obtain⟨ao,kc,rfl⟩:=Jq ho;obtain⟨m,hm⟩:∃m,m=(Dh L 16).length:=⟨_,rfl⟩;have HM:Hid (m=(Dh L 16).length):=hm;have mb:m<=6400:=by rw[hm,dJ];exact Nu L hL 16 (by omega)
 rw[<-hm]at ho hne ⊢;clear hm;go_enter Tryz.func221,Tryz.ntmps221;go_wp2;go_loopw [5,6] (fun x i wr=>∃k y:Nat,k<=15/\i=.int .i64 (k:Int)/\x=.int .i64 (y:Int)/\y<65536/\RB wr b s (p+k)/\BT b w wr/\Hid (y<2^k)/\Hid (dec L s p=Sz L s p (15-k) k y)) (fun _ i _=>15-(intOf i).toNat)
 case atStart=>exact⟨0,0,by omega,rfl,rfl,by omega,h,BT.refl _ _,(by unfold Hid;decide),rfl⟩
 case round=>
  obtain⟨k,y,hk,rfl,rfl,hyb,hrb,hbt,HP,HK⟩:=hrel;by_cases hlt:k<15
  .have d15:(k:Int)<15:=by omega
   obtain⟨t,ht⟩:∃t,t=Ea s (p+k):=⟨_,rfl⟩;have tb:=Sm s (p+k);rw[<-ht]at tb;have HT:Hid (Ea s (p+k)=t):=ht.symm;have HD:Hid (Sz L s p (15-k) k y=if 8*s.size<p+k+1 then none else if Bd L (k+1)<=2*y+t/\2*y+t<Bd L (k+1)+cnt L (k+1)then some (nth L (k+1) (2*y+t-Bd L (k+1)),p+k+1)else Sz L s p (15-(k+1)) (k+1) (2*y+t)):=by
    obtain⟨f,hf⟩:∃f,15-k=f+1:=⟨14-k,by omega⟩;rw[show 15-(k+1)=f by omega,hf,ht];rfl
   have HP2:Hid (2*y+t<2^(k+1)):=by unfold Hid;exact tC HP.out tb
   clear ht;by_cases hend:8*s.size<p+k+1
   .have HE:Hid (dec L s p=none):=(by unfold Hid;rw[HK.out,HD.out,if_pos hend]);go_wp2_with (go_at_call 147;refine(sF _ b s (p+k) t HT.out hs hrb).mono ?_;rintro e w1 ⟨rfl,r1,t1⟩;have h4:=r1.one (by omega));go_ret;refine⟨hbt.trans t1,?_⟩;rw[HE.out];exact⟨rfl,h4⟩
   have hp8:p+k+1<=8*s.size:=by omega
   obtain⟨z,hz⟩:∃z,z=2*y+t:=⟨_,rfl⟩;have hzi:2*(y:Int)+(t:Int)=(z:Int):=by omega
   have zb:z<65536:=by
    have:=HP2.out;have h2:2^(k+1)<=2^16:=Nat.pow_le_pow_right (by omega) (by omega);omega
   rw[<-hz]at HD HP2;clear hz;go_wp2_with (go_at_call 147;refine(sF _ b s (p+k) t HT.out hs hrb).mono ?_;rintro e w1 ⟨rfl,r1,t1⟩;have h4:=r1.zero hp8;have o1:=(hbt.trans t1).owns ho hne);go_loop [7] (fun i=>∃j:Nat,j<=m/\i=.int .i64 (j:Int)/\Hid (∀j' a n y',j'<j->(Dh L 16)[j']?=some (a,n,y')->¬(n=k+1/\y'=z))) (fun i=>m-(intOf i).toNat)
   case atStart=>exact⟨0,by omega,rfl,by unfold Hid;intro j' a n y' hj;omega⟩
   case round=>
    obtain⟨j,hj,rfl,HJ⟩:=hrel;by_cases hjm:j<m
    .obtain⟨g,kc',e0,hg⟩:=Fp o1 (by omega);cases e0;have hj':j<(Dh L 16).length:=(by rw[<-HM.out];exact hjm);obtain⟨⟨a,n,y'⟩,hat⟩:∃x,(Dh L 16)[j]?=some x:=⟨_,List.getElem?_eq_getElem hj'⟩;obtain⟨f0,f1,f2⟩:=xO _ _ _ _ _ hat
     have q0:w1.cell? ⟨g,j*3,none⟩=some (.int .i64 (a:Int)):=(o1.cellAt _ (by omega)).trans f0;have q1:w1.cell? ⟨g,j*3+1,none⟩=some (.int .i64 (n:Int)):=(o1.cellAt _ (by omega)).trans f1;have q2:w1.cell? ⟨g,j*3+2,none⟩=some (.int .i64 (y':Int)):=(o1.cellAt _ (by omega)).trans f2;have HAT:Hid ((Dh L 16)[j]?=some (a,n,y')):=hat
     clear f0 f1 f2 hat hj';by_cases hn:n=k+1
     .have hn':((n:Int)==(k:Int)+1)=true:=(by simp;omega);by_cases hy:y'=z
      .have hy':((y':Int)==(z:Int))=true:=(by simp;omega);have HE:Hid (dec L s p=some (a,p+k+1)):=by
        obtain⟨hm1,r,hr,ha,hyy⟩:=(fE L 16 a n y').1 (List.mem_of_getElem? HAT.out);subst hn;unfold Hid;rw[HK.out,HD.out,if_neg hend,if_pos ⟨by omega,by omega⟩,ha];congr 3;omega
       go_wp2;go_ret;refine⟨hbt.trans t1,?_⟩;rw[HE.out];exact⟨rfl,r1⟩
      have hy':((y':Int)==(z:Int))=false:=(by simp;omega);go_wp2;go_round
      case rel=>exact⟨j+1,by omega,by go_num,by
       unfold Hid;intro j' a' n' y'' hj2 h2;by_cases ej:j'=j;.subst ej;rw[HAT.out]at h2;cases h2;omega
       exact HJ.out j' a' n' y'' (by omega) h2⟩
      case measure=>simp[intOf];omega
     have hn':((n:Int)==(k:Int)+1)=false:=(by simp;omega);go_wp2;go_round
     case rel=>exact⟨j+1,by omega,by go_num,by
       unfold Hid;intro j' a' n' y'' hj2 h2;by_cases ej:j'=j;.subst ej;rw[HAT.out]at h2;cases h2;omega
       exact HJ.out j' a' n' y'' (by omega) h2⟩
     case measure=>simp[intOf];omega
    obtain rfl:j=m:=by omega
    have HE:Hid (dec L s p=Sz L s p (15-(k+1)) (k+1) z):=by
     unfold Hid;rw[HK.out,HD.out,if_neg hend,if_neg];rintro⟨h1,h2⟩;have hmem:=(fE L 16 (nth L (k+1) (z-Bd L (k+1))) (k+1) z).2 ⟨by omega,z-Bd L (k+1),by omega,rfl,by omega⟩;obtain⟨j',hj2,e2⟩:=List.mem_iff_getElem.1 hmem;refine HJ.out j' _ _ _ (by rw[HM.out];exact hj2) (by rw[List.getElem?_eq_getElem hj2,e2]) ⟨rfl,rfl⟩
    go_wp2;go_roundw
    case rel=>exact⟨k+1,z,by omega,by go_num,rfl,zb,r1,hbt.trans t1,HP2,HE⟩
    case measure=>simp[intOf];omega
  obtain rfl:k=15:=by omega
  have HE:Hid (dec L s p=none):=by unfold Hid;rw[HK.out];rfl
  by_cases hp15:p+15<=8*s.size
  .have h4:=hrb.zero hp15;go_wp2_with (go_at_call 153;refine(Ru _ b 1 h4 (hrb.fr 4)).mono ?_;rintro e w1 ⟨rfl,rfl⟩);go_ret;refine⟨hbt.set 4 (Or.inr rfl) _,?_⟩;rw[HE.out];exact⟨rfl,by simp[Ad,h4]⟩
  have h4:=hrb.one (by omega);go_wp2_with (go_at_call 153;refine(Qan _ b 1 1 h4 (by decide)).mono ?_;rintro e w1 ⟨rfl,rfl⟩);go_ret;refine⟨hbt,?_⟩;rw[HE.out];exact⟨rfl,h4⟩
end Go.Proofs.YtmhlkdlcpicekaaGreatDoor
