/- Joined. -/
import Derived.Test.YtmhlkdlcpicekaaGreatDoorJ17
import Derived.Test.YtmhlkdlcpicekaaGreatDoorJ18
import Derived.Deep.AppendLies
import Derived.ArgAppend
set_option linter.unusedSimpArgs false
set_option linter.unusedVariables false
set_option maxRecDepth 100000
set_option maxHeartbeats 20000000
namespace Go.Proofs.YtmhlkdlcpicekaaGreatDoor
open Go.RowKit Go.Shelf Go.Lib
theorem Tryz.aH:(Tryz.prog.info? 248).map (fun i=>(i.zero,i.size,i.bytes))=some (some (.agg #[.string ⟨#[]⟩,.int .i64 0,.int .i64 0,.int .i64 0,.int .i64 0,.int .i64 0,.int .i64 0,.int .i64 0,.int .i64 0,.int .i64 0,.int .i64 0,.int .i64 0,.int .i64 0]),13,112):=by kernel_rfl
structure CB (w:World) (b:Nat) (l:List Value):Prop where
 cells:∀i,i<l.length->w.cell? ⟨b,i,none⟩=l[i]?
 lt:b<w.heap.size
theorem CB.keep{S:Nat->Prop}{w w':World}{b:Nat}{l:List Value}(h:CB w b l)(ht:Touch S w w')(hs:¬S b):CB w' b l:=
 ⟨fun i hi=>(ht.cell (p:=⟨b,i,none⟩) h.lt hs).trans (h.cells i hi),Nat.lt_of_lt_of_le h.lt ht.size⟩
theorem CB.drewN{w:World}{b:Nat}{l:List Value}(h:CB w b l)(n:Nat):CB (w.drewN n) b l:=h.keep ((Touch.refl (fun _=>False) w).drewN n) (fun e=>e)
theorem CB.new(w:World)(l:List Value)(t:TypeId):CB (w.alloc (Obj.cells l.toArray t)) w.heap.size l:=by
 have hb:=heap_alloc_new w (Obj.cells l.toArray t);refine⟨fun i hi=>?_,by simp⟩;rw[Ac hb i];simp
theorem CB.three{w:World}{b:Nat}{x y z:Value}(h0:w.cell? ⟨b,0,none⟩=some x)(h1:w.cell? ⟨b,1,none⟩=some y)(h2:w.cell? ⟨b,2,none⟩=some z)(hl:b<w.heap.size):CB w b [x,y,z]:=by
 refine⟨fun i hi=>?_,hl⟩;have:i<3:=hi;rcases i with _|_|_|i;.exact h0
 .exact h1
 .exact h2
 omega
theorem Refs.owned{w:World}{base:Nat}{v:Value}{l:List Eo}(h:w.ownsRow base 248 13 v l.length (lC l)):∃a cap g,v=.slice a l.length cap/\base<=g/\Refs w a g (l.map Qh):=by
 obtain⟨q1,⟨q2,q3⟩|⟨g',cap',cur,rfl,hrest⟩⟩:=id h
 .refine⟨none,0,base,by rw[q2,q3],Nat.le_refl _,⟨fun h=>?_,fun h=>?_⟩⟩;.rw[List.length_map]at h;omega
  rw[List.length_map]at h;omega
 obtain⟨z1,z2⟩:=Vh.owned h;exact⟨some ⟨g',0,none⟩,cap',g',rfl,z1,⟨fun _=>rfl,fun _=>z2⟩⟩
def Tv(s:ByteArray)(P:Nat)(qn qb:Int)(l:List Eo):Except Nat (List Ai):=
 if qn<(Qi l:Int)then .error 13
 else if Bl (fun a b=>Dj a.name b.name) l then .error 8
 else match spansOf s P l with
  |none=>.error 9
  |some r=>
   if Bl Ot r then .error 10
   else if qb<(Jp l:Int)then .error 13
   else .ok r
theorem vK(s:ByteArray)(qe qn qb:Int)(d:Dir)(l:List Eo)(h0:Ey s=.ok d)(h1:¬qe<(d.count:Int))(h2:d.place<=d.stop/\d.size=d.stop-d.place)(h3:Ce s d.stop d.count d.place []=.ok l):listOf s qe qn qb=Tv s d.place qn qb l:=by
 unfold listOf;rw[h0];simp only;rw[if_neg h1,if_neg (fun h=>h h2),h3];rfl
theorem tY(s:ByteArray)(qe qn qb:Int)(d:Dir)(k:Nat)(h0:Ey s=.ok d)(h1:¬qe<(d.count:Int))(h2:d.place<=d.stop/\d.size=d.stop-d.place)(h3:Ce s d.stop d.count d.place []=.error k):listOf s qe qn qb=.error k:=by
 unfold listOf;rw[h0];simp only;rw[if_neg h1,if_neg (fun h=>h h2),h3]
theorem Jw(base:Nat)(R:Except Nat (List Ai))(k:Nat)(h:R=.error k)(w':World):Em base R (.returned (.tuple #[.slice none 0 0,.int .i64 (k:Int)])) w':=by
 rw[h];rfl
theorem Qhs(w:World)(s:ByteArray)(qe qn qb:Int)(hs:s.size<=2147483648)(hno:∀d,Ey s=.ok d->¬qe<(d.count:Int)->¬(d.place<=d.stop/\d.size=d.stop-d.place)): Calls Tryz.prog 99 #[.string s,.agg #[.int .i64 qe,.int .i64 qn,.int .i64 qb]] w fun r w'=>Touch (fun _=>False) w w'/\Em w.heap.size (listOf s qe qn qb) r w':=by
 have T0:Touch (fun _=>False) w (w.alloc (Obj.cells #[.int .i64 qe,.int .i64 qn,.int .i64 qb] 63)):=(Touch.refl _ w).alloc _;have bq0:=heap_alloc_new w (Obj.cells #[.int .i64 qe,.int .i64 qn,.int .i64 qb] 63);have HD:Hid (∀W,Calls Tryz.prog 154 #[.string s] W fun e w'=>e=.returned (zH (Ey s))/\Touch (fun _=>False) W w'):=fun W=>Qab W s (by omega);obtain⟨R,hR⟩:∃R,R=listOf s qe qn qb:=⟨_,rfl⟩;rw[<-hR];unfold listOf at hR;cases hd:Ey s with
 |error k=>
  rw[hd]at HD hR;have FIN:Hid (∀w',Em w.heap.size R (.returned (.tuple #[.slice none 0 0,.int .i64 (k:Int)])) w'):=Jw _ _ k hR;have hk:=Xg s k hd;have hk':¬(k:Int)=0:=by omega
  clear hno hR hd;go_enter Tryz.func99,Tryz.ntmps99;go_wp2_with fail;refine(HD.out _).mono ?_;rintro e w1 ⟨he,t1⟩;obtain rfl:=(show e=.returned (.tuple #[.agg #[.int .i64 0,.int .i64 0,.int .i64 0,.int .i64 0],.int .i64 (k:Int)]) from he);have T1:=T0.trans t1;have bq1:=(t1.block _ (by simp) (fun e=>e)).trans bq0;have q0:w1.cell? ⟨w.heap.size,0,none⟩=some (.int .i64 qe):=by rw[Ac bq1 0];rfl
  have q1:w1.cell? ⟨w.heap.size,1,none⟩=some (.int .i64 qn):=by rw[Ac bq1 1];rfl
  have q2:w1.cell? ⟨w.heap.size,2,none⟩=some (.int .i64 qb):=by rw[Ac bq1 2];rfl
  have lq1:w.heap.size<w1.heap.size:=(Array.getElem?_eq_some_iff.1 bq1).1;clear he t1 HD bq0 bq1 T0;go_wp2;go_ret2;exact⟨T1.alloc _,FIN.out _⟩
 |ok d=>
  rw[hd]at HD hR;have hno':=hno d hd;have d1:=Og s d hd;obtain⟨cn,sz,pl,st⟩:=d;simp only at hR hno' d1;clear hno hd;by_cases hq:qe<(cn:Int)
  .rw[if_pos hq]at hR;have FIN:Hid (∀w',Em w.heap.size R (.returned (.tuple #[.slice none 0 0,.int .i64 13])) w'):=Jw _ _ 13 hR;clear hR hno';go_enter Tryz.func99,Tryz.ntmps99;go_wp2_with fail;refine(HD.out _).mono ?_;rintro e w1 ⟨he,t1⟩;obtain rfl:=(show e=.returned (.tuple #[.agg #[.int .i64 (cn:Int),.int .i64 (sz:Int),.int .i64 (pl:Int),.int .i64 (st:Int)],.int .i64 0]) from he);have T1:=T0.trans t1;have bq1:=(t1.block _ (by simp) (fun e=>e)).trans bq0;have q0:w1.cell? ⟨w.heap.size,0,none⟩=some (.int .i64 qe):=by rw[Ac bq1 0];rfl
   have q1:w1.cell? ⟨w.heap.size,1,none⟩=some (.int .i64 qn):=by rw[Ac bq1 1];rfl
   have q2:w1.cell? ⟨w.heap.size,2,none⟩=some (.int .i64 qb):=by rw[Ac bq1 2];rfl
   have lq1:w.heap.size<w1.heap.size:=(Array.getElem?_eq_some_iff.1 bq1).1;clear he t1 HD bq0 bq1 T0;go_wp2;go_ret2;exact⟨T1.alloc _,FIN.out _⟩
  have hl:=hno' hq;rw[if_neg hq,if_pos hl]at hR;have FIN:Hid (∀w',Em w.heap.size R (.returned (.tuple #[.slice none 0 0,.int .i64 5])) w'):=Jw _ _ 5 hR;clear hR hno';by_cases hp:pl<=st
  .have g1:¬(st:Int)<(pl:Int):=by omega
   have g2:((sz:Int) != (st:Int)-(pl:Int))=true:=by
    have:¬sz=st-pl:=fun h=>hl ⟨hp,h⟩;simp;omega
   have g3:¬(sz:Int)=(st:Int)-(pl:Int):=by simpa using g2
   clear hl;go_enter Tryz.func99,Tryz.ntmps99;go_wp2_with fail;refine(HD.out _).mono ?_;rintro e w1 ⟨he,t1⟩;obtain rfl:=(show e=.returned (.tuple #[.agg #[.int .i64 (cn:Int),.int .i64 (sz:Int),.int .i64 (pl:Int),.int .i64 (st:Int)],.int .i64 0]) from he);have T1:=T0.trans t1;have bq1:=(t1.block _ (by simp) (fun e=>e)).trans bq0;have q0:w1.cell? ⟨w.heap.size,0,none⟩=some (.int .i64 qe):=by rw[Ac bq1 0];rfl
   have q1:w1.cell? ⟨w.heap.size,1,none⟩=some (.int .i64 qn):=by rw[Ac bq1 1];rfl
   have q2:w1.cell? ⟨w.heap.size,2,none⟩=some (.int .i64 qb):=by rw[Ac bq1 2];rfl
   have lq1:w.heap.size<w1.heap.size:=(Array.getElem?_eq_some_iff.1 bq1).1;clear he t1 HD bq0 bq1 T0;go_wp2;go_ret2;exact⟨T1.alloc _,FIN.out _⟩
  have g1:(st:Int)<(pl:Int):=by omega
  clear hl;go_enter Tryz.func99,Tryz.ntmps99;go_wp2_with fail;refine(HD.out _).mono ?_;rintro e w1 ⟨he,t1⟩;obtain rfl:=(show e=.returned (.tuple #[.agg #[.int .i64 (cn:Int),.int .i64 (sz:Int),.int .i64 (pl:Int),.int .i64 (st:Int)],.int .i64 0]) from he);have T1:=T0.trans t1;have bq1:=(t1.block _ (by simp) (fun e=>e)).trans bq0;have q0:w1.cell? ⟨w.heap.size,0,none⟩=some (.int .i64 qe):=by rw[Ac bq1 0];rfl
  have q1:w1.cell? ⟨w.heap.size,1,none⟩=some (.int .i64 qn):=by rw[Ac bq1 1];rfl
  have q2:w1.cell? ⟨w.heap.size,2,none⟩=some (.int .i64 qb):=by rw[Ac bq1 2];rfl
  have lq1:w.heap.size<w1.heap.size:=(Array.getElem?_eq_some_iff.1 bq1).1;clear he t1 HD bq0 bq1 T0;go_wp2;go_ret2;exact⟨T1.alloc _,FIN.out _⟩
def Dk(n:Nat):ByteArray:=⟨([109,105,110,101]++List.replicate n (33:UInt8):List UInt8).toArray⟩
theorem zG(n:Nat):(Dk n).size=n+4:=by
 show([109,105,110,101]++List.replicate n 33:List UInt8).toArray.size=_;simp
theorem zX(n:Nat):Dk n++(⟨#[33]⟩:ByteArray)=Dk (n+1):=by
 apply ByteArray.ext;rw[ByteArray.data_append];apply Array.toList_inj.1;rw[Array.toList_append];show([109,105,110,101]++List.replicate n 33:List UInt8)++[33]=[109,105,110,101]++List.replicate (n+1) 33;rw[List.replicate_succ',List.append_assoc]
theorem Qei(w:World)(wb m:Nat)(h7:w.cell? ⟨wb,7,none⟩=some (.int .i64 (m:Int)))(hf:w.frozen? ⟨wb,7,none⟩=false)(hm:m<=1073741824): Calls Tryz.prog 160 #[.pointer (some ⟨wb,0,none⟩)] w fun r w'=>r=.returned (.string (Dk (m+1)))/\w'=w.setCell ⟨wb,7,none⟩ (.int .i64 ((m:Int)+1)):=by
 have c7:(w.setCell ⟨wb,7,none⟩ (.int .i64 ((m:Int)+1))).cell? ⟨wb,7,none⟩=some (.int .i64 ((m:Int)+1)):=by
  rw[Ad,if_pos ⟨rfl,rfl⟩,h7];rfl
 have HS:Hid (∀k,Dk k++(⟨#[33]⟩:ByteArray)=Dk (k+1)):=zX;have H0:Hid (Dk 0=⟨#[109,105,110,101]⟩):=rfl;go_enter Tryz.func160,Tryz.ntmps160;go_wp2;obtain⟨W,hW⟩:∃W,W=w.setCell ⟨wb,7,none⟩ (.int .i64 ((m:Int)+1)):=⟨_,rfl⟩;rw[<-hW]at c7;have HW:Hid (W=w.setCell ⟨wb,7,none⟩ (.int .i64 ((m:Int)+1))):=hW;rw[<-hW];clear hW;go_loop [3,4] (fun s i=>∃k:Nat,k<=m+1/\i=.int .i64 (k:Int)/\s=.string (Dk k)) (fun s i=>m+1-(intOf i).toNat)
 case atStart=>exact⟨0,Nat.zero_le _,rfl,by rw[H0.out]⟩
 case round=>
  obtain⟨k,hk,rfl,rfl⟩:=hrel;have hz:=zG k;have hz2:(⟨#[33]⟩:ByteArray).size=1:=rfl;by_cases hlt:k<m+1
  .have i1:(k:Int)<(m:Int)+1:=by omega
   have e:=HS.out k;have HE:Hid (Dk k++(⟨#[33]⟩:ByteArray)=Dk (k+1)):=e;clear e;generalize Dk k=M at hz HE ⊢;go_wp2;exact⟨⟨k+1,by omega,by go_num,by rw[HE.out]⟩,by simp[intOf];omega⟩
  obtain rfl:k=m+1:=by omega
  have i1:¬((m+1:Nat):Int)<(m:Int)+1:=by omega
  go_wp2;go_ret;exact⟨rfl,HW.out⟩
theorem Ve{P:Program}(w:World)(base:Nat)(t ty e:TypeId)(i:TypeInfo)(z:Value)(size bytes:Nat)(ht:P.underlying t=some (.slice e))(hi:P.info? e=some i)(hz:i.zero=some z)(hsize:i.size=size)(hby:i.bytes=bytes)(hzs:z.cells.size=size)(hsz:0<size)(v:Value)(n:Nat)(xs:List Value)(hown:w.ownsRow base e size v n xs)(a:Addr)(m c:Nat)(news:List Value)(hl:news.length=m*size)(hnews:∀j u,news[j]?=some u->w.cell? (a.add j)=some u)(h1:∀u∈news,u.oneCell'=true)(hm:0<m)(h63:n+m<=maxLen)(hbytes:(n+m)*bytes<=140737488355328)(hbase:base<=w.heap.size): ∃g cap w',(Builtin.append_ #[t,t] ty #[v,.slice (some a) m c]).run P w=.ok (.slice (some ⟨g,0,none⟩) (n+m) cap) w'/\w'.ownsRow base e size (.slice (some ⟨g,0,none⟩) (n+m) cap) (n+m) (xs++news) /\((v.ownBlock=some g/\w.grownBy w' (some g))\/(w.heap.size<=g/\w.grownBy w' none)):=by
 obtain⟨v',w',hr,h2,h3,h4,h5⟩:=run_append_own_at (P:=P) w base t ty e i z size bytes ht hi hz hsize hby hzs hsz v n xs hown a m c news hl hnews h1 h63 hbytes hbase;rcases id hown.2 with⟨rfl,rfl⟩|⟨g,cap,cur,rfl,hbg,hg,hnc,hcm,hcs,htake⟩
 .obtain⟨g',cap',rfl,hb',hl'⟩:=h2.form (by omega);refine⟨g',cap',w',hr,h2,.inr ⟨?_,h3⟩⟩;rcases h5 with h5|h5;.cases h5
  have:g'=w.heap.size:=by simpa [Value.ownBlock]using h5
  omega
 by_cases hroom:n+m<=cap
 .subst hsize;have hfit:n*i.size+news.length<=cur.size:=by rw[hl,hcs,<-Nat.add_mul];exact Nat.mul_le_mul_right _ hroom
  have hr2:=run_append_room (P:=P) w t ty e i ht hi g n cap cur hg a m c news hl hnews h1 hroom hfit;rw[hr]at hr2;injection hr2 with e1 e2;subst e1;exact⟨g,cap,w',hr,h2,.inl ⟨rfl,h3⟩⟩
 have hx:∀j u,xs[j]?=some u->w.cell? ((⟨g,0,none⟩:Addr).add j)=some u:=by
  intro j u hj;have hc:w.cell? ⟨g,0+j,none⟩=cur[j]?:=by unfold World.cell?;rw[hg];simp
  rw[Addr.add_lit,hc];have hlt:j<n*size:=by
   have:=(List.getElem?_eq_some_iff.1 hj).1;rw[hown.1]at this;exact this
  rw[<-htake,List.getElem?_take_of_lt hlt]at hj;simpa using hj
 obtain⟨v2,w2,hr2,r1,r2⟩:=run_append_arg_grows (P:=P) w t ty e i z size bytes ht hi hz hsize hby hzs hsz ⟨g,0,none⟩ n cap xs hown.1 hx a m c news hl hnews (by omega) h63 hbytes;obtain⟨g',cap',rfl,hb',hl'⟩:=r1.form (by omega);exact⟨g',cap',w2,hr2,⟨r1.1,r1.2.imp id (fun⟨g,cap,cur,q1,q2,q3⟩=>⟨g,cap,cur,q1,by omega,q3⟩)⟩,.inr ⟨hb',r2⟩⟩
theorem Bi{P:Program}{w:World}{ops:Array Oper}{rest:List Oper}{o:Oper}{a:Act}{Q:Exit->Act->World->Prop}(hgd:o.guard=none)(s x:Operand)(t:TypeId)(ho:o.op=.call { callee:=.builtin .append,args:=#[s,x],argTypes:=#[t,t] })(base:Nat)(e:TypeId)(i:TypeInfo)(z:Value)(size bytes:Nat)(ht:P.underlying t=some (.slice e))(hi:P.info? e=some i)(hz:i.zero=some z)(hsize:i.size=size)(hby:i.bytes=bytes)(hzs:z.cells.size=size)(hsz:0<size)(v:Value)(n:Nat)(xs:List Value)(hs:a.eval s=v)(hown:w.ownsRow base e size v n xs)(ad:Addr)(m c:Nat)(news:List Value)(hx:a.eval x=.slice (some ad) m c)(hl:news.length=m*size)(hnews:∀j u,news[j]?=some u->w.cell? (ad.add j)=some u)(h1:∀u∈news,u.oneCell'=true)(hm:0<m)(h63:n+m<=maxLen)(hbytes:(n+m)*bytes<=140737488355328)(hbase:base<=w.heap.size)(h:∀g cap w',w'.ownsRow base e size (.slice (some ⟨g,0,none⟩) (n+m) cap) (n+m) (xs++news)->((v.ownBlock=some g/\w.grownBy w' (some g))\/(w.heap.size<=g/\w.grownBy w' none))->wpList P ops Q rest (a.put o.dst (.slice (some ⟨g,0,none⟩) (n+m) cap)) w'):wpList P ops Q (o::rest) a w :=wpList_plain hgd fun _ hK=>by
  obtain⟨g,cap,w',hr,h2,h3⟩:=Ve (P:=P) w base t o.type e i z size bytes ht hi hz hsize hby hzs hsz v n xs hown ad m c news hl hnews h1 hm h63 hbytes hbase;unfold Oper.wp;simp[execOp,ho,resolve,invoke,builtin,hs,hx,hr,Result.andThen];exact hK _ _ (h g cap w' h2 h3)
end Go.Proofs.YtmhlkdlcpicekaaGreatDoor
