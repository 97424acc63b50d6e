/- Joined. -/
import Derived.Test.YtmhlkdlcpicekaaGreatDoorJ47
import Derived.Test.YtmhlkdlcpicekaaGreatDoorJ44
set_option linter.unusedSimpArgs false
set_option linter.unusedVariables false
set_option maxRecDepth 100000
set_option maxHeartbeats 20000000
namespace Go.Proofs.YtmhlkdlcpicekaaGreatDoor
open Go.RowKit Go.Shelf Go.Lib
@[reducible] def Sml(d:Nat)(s:Nc):Prop:=s.1.length<=d/\∀x∈s.1,x.2.length<=2000000/\x.1.size<=1048576
theorem Sml.more{d:Nat}{s:Nc}(h:Sml d s):Sml (d+1) s:=⟨by have:=h.1;omega,h.2⟩
structure Pl (base wb c d:Nat) (w:World) (own:Nat->Nat) (PS:List (Nat×Nat)) (sx:Nat->Nc):Prop where
 inv:∃m FL EL NL,Inv base w wb m own FL EL NL PS sx sx/\m<=c/\FL.length<=9*c/\EL.length<=9*c/\NL.length<=9*c
 shw:∀i,Sml d (sx i)
theorem Pl.same{base wb c d:Nat}{w w':World}{own:Nat->Nat}{PS:List (Nat×Nat)}{sx:Nat->Nc}(h:Pl base wb c d w own PS sx)(t:Touch (fun _=>False) w w'):Pl base wb c d w' own PS sx:=by
 obtain⟨⟨m,FL,EL,NL,h1,h2⟩,h3⟩:=h;exact⟨⟨m,FL,EL,NL,h1.same t,h2⟩,h3⟩
theorem Pl.more{base wb c d:Nat}{w:World}{own:Nat->Nat}{PS:List (Nat×Nat)}{sx:Nat->Nc}(h:Pl base wb c d w own PS sx):Pl base wb (c+1) (d+1) w own PS sx:=by
 obtain⟨⟨m,FL,EL,NL,h1,h2,h4,h5,h6⟩,h3⟩:=h;exact⟨⟨m,FL,EL,NL,h1,by omega,by omega,by omega,by omega⟩,fun i=>(h3 i).more⟩
theorem qU{d:Nat}{s:Nat->Nc}(h:∀i,Sml d (s i))(i:Nat)(v:Nc)(hv:Sml (d+1) v):∀j,Sml (d+1) (Ql s i v j):=fun j=>by
 by_cases e:j=i;.subst e;rw[Oa];exact hv
 rw[Le _ _ _ _ e];exact(h j).more
theorem Qhf{d:Nat}{s:Nc}(h:Sml d s)(T S:ByteArray)(qe qn qb:Int)(hS:S.size<=1048576)(hT:T.size<=1048576):Sml (d+1) (Ha s.1 s.2.1 s.2.2 T (Gm S qe qn qb)).2:=by
 obtain⟨l,c,np⟩:=s;have hm:∀c':Bo×Bool,Sml (d+1) (l,c'):=fun c'=>(show Sml d (l,c') from h).more;unfold Ha;split;.exact hm _
 split;.exact hm _
 split;.exact hm _
 split;.exact hm _
 rename_i o ho;have hsm:=fB hS ho;split
 .refine⟨?_,fun x hx=>?_⟩
  .show(Oh l (T,o)).length<=d+1;rw[jJ];have:=h.1;simp only at this;omega
  rcases(Qj l (T,o) x).1 hx with rfl|hx;.exact⟨hsm.2.1,hT⟩
  exact h.2 x hx
 exact hm _
theorem Qap(d:Nat)(c:Bo)(np:Bool):Sml d ([],c,np):=⟨Nat.zero_le _,fun x hx=>by cases hx⟩
theorem Pl.Gp{base wb c d:Nat}{w:World}{own:Nat->Nat}{PS:List (Nat×Nat)}{sx:Nat->Nc}(h:Pl base wb c d w own PS sx):base<=wb/\wb<w.heap.size:=by
 obtain⟨⟨m,FL,EL,NL,h1,h2⟩,h3⟩:=h;exact h1.Gp
theorem Pl.kept{base wb c d:Nat}{w:World}{own:Nat->Nat}{PS:List (Nat×Nat)}{sx:Nat->Nc}(h:Pl base wb c d w own PS sx)(hc:c<=100000000): Calls Tryz.prog 23 #[.pointer (some ⟨wb,0,none⟩)] w fun r w'=>r=.returned (.bool true)/\Touch (fun _=>False) w w':=by
 obtain⟨⟨m,FL,EL,NL,h1,h2,h3,h4,h5⟩,h6⟩:=h;exact Qh0 base w wb m own FL EL NL PS sx sx h1 (by omega) (by omega) (by omega)
theorem Pl.all{base wb c d:Nat}{w:World}{own:Nat->Nat}{PS:List (Nat×Nat)}{sx:Nat->Nc}(h:Pl base wb c d w own PS sx):∃a cap,w.cell? ⟨wb,0,none⟩=some (.slice a PS.length cap):=by
 obtain⟨⟨m,FL,EL,NL,h1,h2⟩,h3⟩:=h;obtain⟨vA,vF,vE,vNm,vM,vNu,vO,hb⟩:=h1.box;obtain⟨a,cap,rfl⟩:=Ei hb.rA;exact⟨a,cap,by rw[Ac hb.hp];rfl⟩
theorem Pl.made{base wb c d:Nat}{w:World}{own:Nat->Nat}{PS:List (Nat×Nat)}{sx:Nat->Nc}(h:Pl base wb c d w own PS sx)(hl:PS.length<=1000): Calls Tryz.prog 21 #[.pointer (some ⟨wb,0,none⟩)] w fun r w'=>r=.returned (.bool true)/\(∃own' PS' sx',PS'.length=PS.length+1/\Pl base wb (c+1) (d+1) w' own' PS' sx')/\Touch (fun q=>base<=q) w w':=by
 obtain⟨⟨m,FL,EL,NL,h1,h2,h3,h4,h5⟩,h6⟩:=h;refine(Qir base w wb m own FL EL NL PS sx h1 hl).mono ?_;rintro r w' ⟨rfl,⟨own',p,k1⟩,t⟩;exact⟨rfl,⟨own',PS++[p],_,by simp,⟨m,FL,EL,NL,k1,by omega,by omega,by omega,by omega⟩,qU h6 _ _ (Qap _ _ _)⟩,t⟩
theorem Pl.stores{base wb c d:Nat}{w:World}{own:Nat->Nat}{PS:List (Nat×Nat)}{sx:Nat->Nc}(h:Pl base wb c d w own PS sx)(K W N:Int)(S T:ByteArray)(qe qn qb:Int)(F:Bool)(hK:K=6\/K=7\/K=8\/K=9\/K=10)(hP0:0<PS.length)(hl:PS.length<=1000)(hW:I64 W)(hN:I64 N)(hn:I64 qn)(hb:I64 qb)(hS:S.size<=1048576)(hT:T.size<=1048576)(ho:Ord w)(h0:1<base)(hc:c<=50000000)(hd:d<=2000000): Calls Tryz.prog 22 #[.pointer (some ⟨wb,0,none⟩),.agg #[.int .i64 K,.int .i64 W,.int .i64 N,.string S,.string T,.int .i64 qe,.int .i64 qn,.int .i64 qb,.bool F]] w fun r w'=>r=.returned (.bool true)/\(∃own' sx',Pl base wb (c+1) (d+1) w' own' PS sx')/\Touch (fun q=>base<=q) w w':=by
 obtain⟨⟨m,FL,EL,NL,h1,h2,h3,h4,h5⟩,h6⟩:=h;have hi:=lS W PS.length hP0;obtain⟨i,hie⟩:∃i,Nr W PS.length=i:=⟨_,rfl⟩;rw[hie]at hi;refine Qa7 base w wb m own FL EL NL PS sx h1 W N S T qe qn qb F hP0 hl hW K hK i hie hi (fun w'=>(∃own' sx',Pl base wb (c+1) (d+1) w' own' PS sx')/\Touch (fun q=>base<=q) w w') ?_;have hsi:=h6 i;intro V t;have hV:=h1.same t;have oV:Ord V:=ho.keep t (fun e=>e);have tt:∀V',Touch (fun q=>base<=q) V V'->Touch (fun q=>base<=q) w V':=fun V' t'=>(t.mono (fun _ _ e=>e.elim)).trans t';rcases hK with rfl|rfl|rfl|rfl|rfl
 .refine(Qiu base V wb m own FL EL NL PS sx hV i hi W N S T qe qn qb F hn hb hS hT (by have:=hsi.1;omega) oV h0).mono ?_;rintro r w' ⟨rfl,⟨own',k⟩,t'⟩;exact⟨rfl,⟨own',_,⟨m,FL,EL,NL,k,by omega,by omega,by omega,by omega⟩,qU h6 _ _ (Qhf hsi T S qe qn qb hS hT)⟩,tt _ t'⟩
 .refine(Qiv base V wb m own FL EL NL PS sx hV i hi W N S T qe qn qb F hN.2).mono ?_;rintro r w' ⟨rfl,k,t'⟩;exact⟨rfl,⟨own,_,⟨m,FL,EL,NL,k,by omega,by omega,by omega,by omega⟩,qU h6 _ _ hsi.more⟩,tt _ t'⟩
 .refine(Qgk base V wb m own FL EL NL PS sx hV i hi W N S T qe qn qb F).mono ?_;rintro r w' ⟨rfl,k,t'⟩;exact⟨rfl,⟨own,_,⟨m,FL,EL,NL,k,by omega,by omega,by omega,by omega⟩,qU h6 _ _ hsi.more⟩,tt _ t'⟩
 .refine(Qao base V wb m own FL EL NL PS sx hV i hi W N S T qe qn qb F (by have:=hsi.1;omega) (by omega) (by omega)).mono ?_;rintro r w' ⟨rfl,⟨own',NL',e1,_,k⟩,t'⟩;exact⟨rfl,⟨own',sx,⟨m+1,FL,EL,NL',k,by omega,by omega,by omega,by omega⟩,fun j=>(h6 j).more⟩,tt _ (t'.mono (fun q _ e=>e.1))⟩
 refine(wG base V wb m own FL EL NL PS sx hV i hi W N S T qe qn qb F hT (by have:=hsi.1;omega) (fun x hx=>(hsi.2 x hx).1) (by omega) (by omega)).mono ?_;rintro r w' ⟨rfl,⟨own',FL',e1,_,k⟩,t'⟩;exact⟨rfl,⟨own',sx,⟨m+1,FL',EL,NL,k,by omega,by omega,by omega,by omega⟩,fun j=>(h6 j).more⟩,tt _ (t'.mono (fun q _ e=>e.1))⟩
theorem Pl.ask{base wb c d:Nat}{w:World}{own:Nat->Nat}{PS:List (Nat×Nat)}{sx:Nat->Nc}(h:Pl base wb c d w own PS sx)(K:Int)(i:Nat)(N:Int)(S T:ByteArray)(qe qn qb:Int)(F:Bool)(hK:K=9\/K=10)(hi:i<PS.length)(hl:PS.length<=1000)(hT:T.size<=1048576)(hc:c<=50000000)(hd:d<=2000000): Calls Tryz.prog 22 #[.pointer (some ⟨wb,0,none⟩),.agg #[.int .i64 K,.int .i64 (i:Int),.int .i64 N,.string S,.string T,.int .i64 qe,.int .i64 qn,.int .i64 qb,.bool F]] w fun r w'=>r=.returned (.bool true)/\(∃own',(∀q,6<=own q->own' q=own q)/\Pl base wb (c+1) d w' own' PS sx)/\Touch (fun q=>base<=q/\¬(6<=own q/\own q%2=1)) w w':=by
 obtain⟨⟨m,FL,EL,NL,h1,h2,h3,h4,h5⟩,h6⟩:=h;have hie:Nr (i:Int) PS.length=i:=by
  unfold Nr;rw[if_neg (by omega)];rw[Int.emod_eq_of_lt (by omega) (by omega)];omega
 refine Qa7 base w wb m own FL EL NL PS sx h1 i N S T qe qn qb F (by omega) hl ⟨by omega,by omega⟩ K (by omega) i hie hi (fun w'=>(∃own',(∀q,6<=own q->own' q=own q)/\Pl base wb (c+1) d w' own' PS sx)/\Touch (fun q=>base<=q/\¬(6<=own q/\own q%2=1)) w w') ?_;have hsi:=h6 i;intro V t;have hV:=h1.same t;have tt:∀V',Touch (fun q=>base<=q/\¬(6<=own q/\own q%2=1)) V V'->Touch (fun q=>base<=q/\¬(6<=own q/\own q%2=1)) w V':=fun V' t'=>(t.mono (fun _ _ e=>e.elim)).trans t';rcases hK with rfl|rfl
 .refine(Qao base V wb m own FL EL NL PS sx hV i hi i N S T qe qn qb F (by have:=hsi.1;omega) (by omega) (by omega)).mono ?_;rintro r w' ⟨rfl,⟨own',NL',e1,e2,k⟩,t'⟩;exact⟨rfl,⟨own',e2,⟨m+1,FL,EL,NL',k,by omega,by omega,by omega,by omega⟩,h6⟩,tt _ t'⟩
 refine(wG base V wb m own FL EL NL PS sx hV i hi i N S T qe qn qb F hT (by have:=hsi.1;omega) (fun x hx=>(hsi.2 x hx).1) (by omega) (by omega)).mono ?_;rintro r w' ⟨rfl,⟨own',FL',e1,e2,k⟩,t'⟩;exact⟨rfl,⟨own',e2,⟨m+1,FL',EL,NL,k,by omega,by omega,by omega,by omega⟩,h6⟩,tt _ t'⟩
theorem Pl.shown{base wb c d:Nat}{w:World}{own:Nat->Nat}{PS:List (Nat×Nat)}{sx:Nat->Nc}(h:Pl base wb c d w own PS sx)(i:Nat)(hi:i<PS.length): ∃g cap a acap,w.cell? ⟨wb,0,none⟩=some (.slice (some ⟨g,0,none⟩) PS.length cap)/\w.cell? ⟨g,i*2+1,none⟩=some (.pointer (some ⟨PS[i].2,0,none⟩))/\w.cell? ⟨PS[i].2,0,none⟩=some (.slice a (sx i).1.length acap)/\∀j (hj:j<(sx i).1.length),∃b,a=some ⟨b,0,none⟩/\b<w.heap.size/\own b=7+2*i/\w.cell? ⟨b,j*2,none⟩=some (.string (sx i).1[j].1):=by
 obtain⟨⟨m,FL,EL,NL,h1,h2,h3,h4,h5⟩,h6⟩:=h;obtain⟨vA,vF,vE,vNm,vM,vNu,vO,hb⟩:=h1.box;obtain⟨a,cap,hvA⟩:=Ei hb.rA;subst hvA;obtain⟨g,ha,hcl⟩:∃g,a=some ⟨g,0,none⟩/\∀j u,(Qc PS)[j]?=some u->w.cell? ⟨g,j,none⟩=some u:=by
  obtain⟨h1,⟨h2,h3⟩|⟨g,cap',cur,e,hbb,hg,h3,h4,h5,h6⟩⟩:=hb.rA;.omega
  cases e;refine⟨g,rfl,fun j u hu=>?_⟩;have hlt:=(List.getElem?_eq_some_iff.1 hu).1;rw[h1]at hlt;rw[<-h6,List.getElem?_take_of_lt hlt]at hu;rw[Ac hg j];simpa using hu
 subst ha;have hR:=h1.yA i hi;obtain⟨vS,fa,L,r1,r2,r3,r4,r5,r6⟩:=hR.box;have hL:L.length=(sx i).1.length:=by rw[<-r4,List.length_map]
 obtain⟨a,acap,rfl,hcap,hcl2⟩:=Vq r5;refine⟨g,cap,a,acap,by rw[Ac hb.hp];rfl,hcl _ _ (bW PS i hi).2,by rw[Ac r1,hL];rfl,fun j hj=>?_⟩;obtain⟨b,e1,e2,e3⟩:=hcl2 (by omega);refine⟨b,e1,e2,r3 b (by rw[e1];rfl),?_⟩;have hj':j<L.length:=by omega
 rw[(e3 j hj').1];have e9:(sx i).1[j]=L[j].1:=by
  have:(sx i).1[j]?=(L.map (·.1))[j]?:=by rw[r4]
  rw[List.getElem?_eq_getElem hj,List.getElem?_eq_getElem (by rw[List.length_map];exact hj'),List.getElem_map]at this;exact Option.some.inj this
 rw[e9]
def Xy:ByteArray:=⟨#[80,75,5,6,0,0,0,0,0,0,0,0,0,0,0,0,0,0,0,0,0,0]⟩
theorem lG:Ey Xy=.ok ⟨0,0,0,0⟩:=by
 have h1:Dv Xy 101 0=some 0:=by decide +kernel
 have h2:Vj Xy 0=false:=by decide +kernel
 have h3:Ie Xy 0=true:=by decide +kernel
 have h4:Aa Xy (0+10) 2=0:=by decide +kernel
 have h5:Aa Xy (0+12) 4=0:=by decide +kernel
 have h6:Aa Xy (0+16) 4=0:=by decide +kernel
 unfold Ey;rw[h1];simp only;rw[h2,h3,h4,h5,h6];rfl
theorem jX:listOf Xy 0 0 0=.ok []:=by
 unfold listOf;rw[lG];rfl
theorem oU(w:World): Calls Tryz.prog 20 #[.string Xy,.agg #[.int .i64 0,.int .i64 0,.int .i64 0]] w fun e w'=>∃a cap,e=.returned (.tuple #[.slice a 0 cap,.int .i64 0])/\Touch (fun _=>False) w w':=by
 refine(rX w Xy 0 0 0 ⟨by omega,by omega⟩ ⟨by omega,by omega⟩ (by decide)).mono ?_;rintro r w' ⟨t,hp⟩;rw[jX]at hp;obtain⟨g,cap,e,_⟩:=hp;exact⟨_,cap,e,t⟩
structure OpB (w:World) (sb at_:Nat) (K W N:Int) (S T:ByteArray) (qe qn qb:Int) (F:Bool):Prop where
 c0:w.cell? ⟨sb,at_,none⟩=some (.int .i64 K)
 c1:w.cell? ⟨sb,at_+1,none⟩=some (.int .i64 W)
 c2:w.cell? ⟨sb,at_+2,none⟩=some (.int .i64 N)
 c3:w.cell? ⟨sb,at_+3,none⟩=some (.string S)
 c4:w.cell? ⟨sb,at_+4,none⟩=some (.string T)
 c5:w.cell? ⟨sb,at_+5,none⟩=some (.int .i64 qe)
 c6:w.cell? ⟨sb,at_+6,none⟩=some (.int .i64 qn)
 c7:w.cell? ⟨sb,at_+7,none⟩=some (.int .i64 qb)
 c8:w.cell? ⟨sb,at_+8,none⟩=some (.bool F)
 lt:sb<w.heap.size
 hS:S.size<=1048576
 hT:T.size<=1048576
 hW:I64 W
 hN:I64 N
 hn:I64 qn
 hb:I64 qb
theorem OpB.keep{St:Nat->Prop}{w w':World}{sb a:Nat}{K W N:Int}{S T:ByteArray}{qe qn qb:Int}{F:Bool}(h:OpB w sb a K W N S T qe qn qb F)(t:Touch St w w')(hs:¬St sb):OpB w' sb a K W N S T qe qn qb F:=
 ⟨t.at h.c0 hs,t.at h.c1 hs,t.at h.c2 hs,t.at h.c3 hs,t.at h.c4 hs,t.at h.c5 hs,t.at h.c6 hs,t.at h.c7 hs,t.at h.c8 hs,Nat.lt_of_lt_of_le h.lt t.size,h.hS,h.hT,h.hW,h.hN,h.hn,h.hb⟩
def rG(lo:Int)(B:Nat):Prop:=∀(wb c d:Nat) (V:World) (own:Nat->Nat) (PS:List (Nat×Nat)) (sx:Nat->Nc) (K W N:Int) (S T:ByteArray) (qe qn qb:Int) (F:Bool),lo<=K->K<=10->Pl B wb c d V own PS sx->0<PS.length->PS.length<=10->I64 W->I64 N->I64 qn->I64 qb->S.size<=1048576->T.size<=1048576->Ord V->c<=2000000->d<=2000000 ->
 Calls Tryz.prog 22 #[.pointer (some ⟨wb,0,none⟩),.agg #[.int .i64 K,.int .i64 W,.int .i64 N,.string S,.string T,.int .i64 qe,.int .i64 qn,.int .i64 qb,.bool F]] V fun r w'=>r=.returned (.bool true)/\(∃own' PS' sx',0<PS'.length/\PS'.length<=PS.length+1/\Pl B wb (c+1) (d+1) w' own' PS' sx')/\Touch (fun q=>B<=q) V w'
theorem Pl.new(w:World):∃own,Pl w.heap.size w.heap.size 0 0 (w.alloc (Obj.cells #[.slice none 0 0,.slice none 0 0,.slice none 0 0,.slice none 0 0,.slice none 0 0,.slice none 0 0,.slice none 0 0,.int .i64 0] 56)) own [] (fun _=>([],none,false)):=by
 have hb:=heap_alloc_new w (Obj.cells #[.slice none 0 0,.slice none 0 0,.slice none 0 0,.slice none 0 0,.slice none 0 0,.slice none 0 0,.slice none 0 0,.int .i64 0] 56);refine⟨fun q=>if q=w.heap.size then 1 else 0,⟨0,[],[],[],⟨fun q hq=>?_,if_pos rfl,⟨.slice none 0 0,.slice none 0 0,.slice none 0 0,.slice none 0 0,.slice none 0 0,.slice none 0 0,.slice none 0 0,hb,aY.nil _ _ _,aY.nil _ _ _,aY.nil _ _ _,World.ownsRow_nil _ _ _ _,fun q hq=>by cases hq⟩,fun i hi=>absurd hi (Nat.not_lt_zero _),fun i hi=>absurd hi (Nat.not_lt_zero _)⟩,by omega,by simp,by simp,by simp⟩,fun i=>Qap _ _ _⟩;by_cases e:q=w.heap.size;.simp[e]
 simp[e]at hq
theorem xJ(lo:Int)(w:World)(ao:Option Addr)(len cap:Nat)(hlo:I64 lo)(ho:Ord w)(h0:1<w.heap.size)(hlen:len<=1048576)(hstep:rG lo w.heap.size)(hop:∀i,i<len->∃sb so K W N S T qe qn qb F,ao=some ⟨sb,so,none⟩/\OpB w sb (so+i*9) K W N S T qe qn qb F): Calls Tryz.prog 6 #[.slice ao len cap,.int .i64 lo,.int .i64 10] w fun e w'=>e=.returned (.bool true)/\Below w.heap.size w w':=by
 have HOP:Hid (∀i,i<len->∃sb so K W N S T qe qn qb F,ao=some ⟨sb,so,none⟩/\OpB w sb (so+i*9) K W N S T qe qn qb F):=hop;have HSTEP:Hid (rG lo w.heap.size):=hstep;obtain⟨own0,hP0⟩:=Pl.new w;have HP0:Hid (Pl w.heap.size w.heap.size 0 0 (w.alloc (Obj.cells #[.slice none 0 0,.slice none 0 0,.slice none 0 0,.slice none 0 0,.slice none 0 0,.slice none 0 0,.slice none 0 0,.int .i64 0] 56)) own0 [] (fun _=>([],none,false))):=hP0;have T0:=(Touch.refl (fun _=>False) w).alloc (Obj.cells #[.slice none 0 0,.slice none 0 0,.slice none 0 0,.slice none 0 0,.slice none 0 0,.slice none 0 0,.slice none 0 0,.int .i64 0] 56);have o1:=ho.keep T0 (fun e=>e);have z1:1<(w.alloc (Obj.cells #[.slice none 0 0,.slice none 0 0,.slice none 0 0,.slice none 0 0,.slice none 0 0,.slice none 0 0,.slice none 0 0,.int .i64 0] 56)).heap.size:=Nat.lt_of_lt_of_le h0 T0.size;have HO:Hid (Ord w/\1<w.heap.size):=⟨ho,h0⟩;have HI:Hid (∀W,Ord W->1<W.heap.size->Calls Tryz.prog 19 #[.string ⟨#[75,4,0]⟩,.int .i64 1] W fun e w'=>e=.returned (.tuple #[.string ⟨#[97]⟩,.int .i64 3,.int .i64 0])/\Touch (fun _=>False) W w'):=fun W h1 h2=>(Qcc W _ 1 [97] 18 ⟨#[97]⟩ 3 Qhz rfl rfl (by omega) (by decide) h1 h2).mono fun _ _ h=>⟨h.1,Touch.Lt h.2 _⟩;clear hop ho hstep hP0 h0;obtain⟨B,hB⟩:∃B,B=w.heap.size:=⟨_,rfl⟩;have HB:Hid (B=w.heap.size):=hB;go_enter Tryz.func6,Tryz.ntmps6;go_wp2_with fail;refine(HI.out _ o1 z1).mono ?_;rintro e w2 ⟨rfl,t2⟩;have HP2:Hid (Pl w.heap.size w.heap.size 0 0 w2 own0 [] (fun _=>([],none,false))/\Touch (fun _=>False) w w2):=⟨HP0.out.same t2,T0.trans t2⟩;clear T0 t2 HP0 HI o1 z1;go_wp2_with fail;refine(oU _).mono ?_;rintro e w3 ⟨a3,cap3,rfl,t3⟩;have HP3:Hid (Pl w.heap.size w.heap.size 0 0 w3 own0 [] (fun _=>([],none,false))/\Touch (fun _=>False) w w3):=⟨HP2.out.1.same t3,HP2.out.2.trans t3⟩;clear t3 HP2;go_wp2_with fail;refine(HP3.out.1.made (by simp)).mono ?_;rintro e w4 ⟨rfl,⟨own4,PS4,sx4,hl4,hP4⟩,t4⟩;have HP4:Hid (Pl w.heap.size w.heap.size 1 1 w4 own4 PS4 sx4/\PS4.length=1/\Touch (fun q=>w.heap.size<=q) w w4/\Ord w4):=by
  have t:=(HP3.out.2.mono (fun _ _ e=>e.elim)).trans t4;exact⟨hP4,by simpa using hl4,t,HO.out.1.keep t (by have:=HO.out.2;omega)⟩
 clear t4 HP3 hP4 hl4;go_wp2_with fail;refine(Pl.stores HP4.out.1 6 0 0 _ _ 0 0 0 false (.inl rfl) (by have:=HP4.out.2.1;omega) (by have:=HP4.out.2.1;omega) ⟨by omega,by omega⟩ ⟨by omega,by omega⟩ ⟨by omega,by omega⟩ ⟨by omega,by omega⟩ (by decide) (by decide) HP4.out.2.2.2 HO.out.2 (by omega) (by omega)).mono ?_;rintro e w5 ⟨rfl,⟨own5,sx5,hP5⟩,t5⟩;have HP5:Hid (Pl B B 2 2 w5 own5 PS4 sx5/\PS4.length=1/\Touch (fun q=>B<=q) w w5):=by
  rw[hB];exact⟨hP5,HP4.out.2.1,HP4.out.2.2.1.trans t5⟩
 clear t5 hP5 HP4;rw[<-hB]at HSTEP HO ⊢;clear hB;go_wp2;go_loopw [15] (fun iv wr=>∃(k:Nat) (own:Nat->Nat) (PS:List (Nat×Nat)) (sx:Nat->Nc),k<=len/\iv=.int .i64 (k:Int)/\0<PS.length/\PS.length<=10/\Pl B B (k+2) (k+2) wr own PS sx/\Touch (fun q=>B<=q) w wr) (fun iv _=>len-(intOf iv).toNat)
 case atStart=>exact⟨0,own5,PS4,sx5,Nat.zero_le _,rfl,by have:=HP5.out.2.1;omega,by have:=HP5.out.2.1;omega,HP5.out.1,HP5.out.2.2⟩
 case round=>
  clear HP5;obtain⟨k,own,PS,sx,hk,rfl,hl0,hlp,hP,T⟩:=hrel;obtain⟨a0,cap0,c0⟩:=hP.all;have hbw:=hP.Gp;by_cases hgo:k<len/\PS.length<10
  .obtain⟨hlt,hl10⟩:=hgo;obtain⟨sb,so,K,W,N,S,T',qe,qn,qb,F,rfl,op⟩:=HOP.out k hlt;have hsb:¬B<=sb:=by have:=op.lt;have:=HB.out;omega
   obtain⟨p0,p1,p2,p3,p4,p5,p6,p7,p8,plt,pS,pT,pW,pN,pn,pb⟩:=op.keep T hsb;have i1:(k:Int)<(len:Int):=by omega
   have i2:(PS.length:Int)<10:=by omega
   have HPT:Hid (Pl B B (k+2) (k+2) wr own PS sx/\Touch (fun q=>B<=q) w wr):=⟨hP,T⟩;have hordr:Ord wr:=HO.out.1.keep T (by have:=HO.out.2;omega);by_cases hKr:lo<=K/\K<=10
   .have HST:Hid (Calls Tryz.prog 22 #[.pointer (some ⟨B,0,none⟩),.agg #[.int .i64 K,.int .i64 W,.int .i64 N,.string S,.string T',.int .i64 qe,.int .i64 qn,.int .i64 qb,.bool F]] wr fun r w'=>r=.returned (.bool true)/\(∃own' PS' sx',0<PS'.length/\PS'.length<=PS.length+1/\Pl B B (k+2+1) (k+2+1) w' own' PS' sx')/\Touch (fun q=>B<=q) wr w'):=HSTEP.out B (k+2) (k+2) wr own PS sx K W N S T' qe qn qb F hKr.1 hKr.2 hP hl0 hlp pW pN pn pb pS pT hordr (by omega) (by omega);have g1:lo<=K:=hKr.1;have g2:K<=10:=hKr.2;clear hP T hordr op pW pN pn pb pS pT hKr;go_wp2_with fail;refine HST.out.mono ?_;rintro e w6 ⟨rfl,⟨own6,PS6,sx6,l1,l2,hP6⟩,t6⟩;have HP6:Hid (Pl B B (k+1+2) (k+1+2) w6 own6 PS6 sx6/\Touch (fun q=>B<=q) w w6):=⟨by rw[show k+1+2=k+2+1 by omega];exact hP6,HPT.out.2.trans t6⟩;clear hP6 t6 HST HPT;go_wp2_with fail;refine(HP6.out.1.kept (by omega)).mono ?_;rintro e w7 ⟨rfl,t7⟩;have HP7:Hid (Pl B B (k+1+2) (k+1+2) w7 own6 PS6 sx6/\Touch (fun q=>B<=q) w w7):=⟨HP6.out.1.same t7,HP6.out.2.trans (t7.mono (fun _ _ e=>e.elim))⟩;clear t7 HP6;go_wp2;go_roundw
    case rel=>exact⟨k+1,own6,PS6,sx6,by omega,by go_num,l1,by omega,HP7.out.1,HP7.out.2⟩
    case measure=>simp[intOf];omega
   have HPM:Hid (Pl B B (k+1+2) (k+1+2) wr own PS sx/\Touch (fun q=>B<=q) w wr):=⟨by rw[show k+1+2=k+2+1 by omega];exact hP.more,T⟩;clear hP T hordr op HPT pW pN pn pb pS pT;by_cases hK1:lo<=K
   .have hK2:¬K<=10:=fun e=>hKr ⟨hK1,e⟩;clear hKr;go_wp2;go_roundw
    case rel=>exact⟨k+1,own,PS,sx,by omega,by go_num,hl0,hlp,HPM.out.1,HPM.out.2⟩
    case measure=>simp[intOf];omega
   clear hKr;go_wp2;go_roundw
   case rel=>exact⟨k+1,own,PS,sx,by omega,by go_num,hl0,hlp,HPM.out.1,HPM.out.2⟩
   case measure=>simp[intOf];omega
  have hx:((k:Int)<(len:Int)/\¬(PS.length:Int)<10)\/¬(k:Int)<(len:Int):=by omega
  clear hgo;rcases hx with⟨i1,i2⟩|i1;all_goals
   clear HOP HSTEP HO;have HP0:Hid (Pl B B (k+2) (k+2) wr own PS sx):=hP;have HT0:Hid (Touch (fun q=>B<=q) w wr):=T;obtain⟨wm,hwm⟩:∃wm,wm=wr:=⟨_,rfl⟩;subst hwm;obtain⟨n,hn⟩:∃n,n=PS.length:=⟨_,rfl⟩;have HN:Hid (n=PS.length):=hn;have hn10:n<=10:=by omega
   clear hP T hn hlp hl0;go_wp2;go_loopw [19] (fun iv wr'=>∃(i c:Nat) (own':Nat->Nat),i<=n/\iv=.int .i64 (i:Int)/\c<=1100000+i*1100000/\Pl B B c (k+2) wr' own' PS sx/\Touch (fun q=>B<=q) w wr') (fun iv _=>n-(intOf iv).toNat)
   case atStart=>exact⟨0,k+2,own,Nat.zero_le _,rfl,by omega,HP0.out,HT0.out⟩
   case round=>
    clear HP0 HT0 c0;obtain⟨i,c,own1,hi,rfl,hc,hP,T⟩:=hrel;obtain⟨wo,hwo⟩:∃wo,wo=wr:=⟨_,rfl⟩;subst hwo;have hc5:c<=12100000:=(by omega);by_cases hin:i<n
    .have hiP:i<PS.length:=(by have:=HN.out;omega);obtain⟨g,cap,a,acap,s1,s2,s3,s4⟩:=hP.shown i hiP;have hsm:=hP.shw i;have hbw:=hP.Gp;rw[<-HN.out]at s1;obtain⟨y,hy⟩:∃y,y=PS[i].2:=⟨_,rfl⟩;rw[<-hy]at s2 s3;obtain⟨l,hl⟩:∃l,l=(sx i).1:=⟨_,rfl⟩;obtain⟨L,hL⟩:∃L,L=l.length:=⟨_,rfl⟩;have HS4:Hid (∀j (hj:j<l.length),∃b,a=some ⟨b,0,none⟩/\b<wo.heap.size/\own1 b=7+2*i/\wo.cell? ⟨b,j*2,none⟩=some (.string l[j].1)):=(by subst hl;exact s4);have HSM:Hid (L<=k+2/\∀j (hj:j<l.length),l[j].1.size<=1048576):=(by subst hL;subst hl;exact⟨hsm.1,fun j hj=>(hsm.2 _ (List.getElem_mem hj)).2⟩);have hLk:L<=k+2:=HSM.out.1;have HLL:Hid (L=l.length):=hL;rw[<-hl,<-hL]at s3;have HP:Hid (Pl B B c (k+2) wo own1 PS sx):=hP;have HT:Hid (Touch (fun q=>B<=q) w wo):=T;have hylt:y<wo.heap.size:=World.block_lt_of_cell? wo _ s3;have hglt:g<wo.heap.size:=World.block_lt_of_cell? wo _ s2;have i1:(i:Int)<(n:Int):=(by omega);have i3:IntKind.i64.wrap (i:Int)=(i:Int):=IntWalk.i64_in _ ⟨by omega,by omega⟩;clear s4 hsm hP T hy hl hL;go_wp2_with fail;refine(Pl.ask HP.out 9 i 0 _ _ 0 0 0 false (.inl rfl) hiP (by have:=HN.out;omega) (by decide) (by omega) (by omega)).mono ?_;rintro e w1 ⟨rfl,⟨own2,o2,hP2⟩,t2⟩;have HP2:Hid ((∀q,6<=own1 q->own2 q=own1 q)/\Pl B B (c+1) (k+2) w1 own2 PS sx/\Touch (fun q=>B<=q/\¬(6<=own1 q/\own1 q%2=1)) wo w1):=⟨o2,hP2,t2⟩;clear o2 hP2 t2 s1 s2 s3;go_wp2;go_loopw [22] (fun iv wr'=>∃(j:Nat) (own':Nat->Nat),j<=L/\iv=.int .i64 (j:Int)/\(∀q,6<=own1 q->own' q=own1 q)/\Pl B B (c+1+j) (k+2) wr' own' PS sx/\Touch (fun q=>B<=q/\¬(6<=own1 q/\own1 q%2=1)) wo wr') (fun iv _=>L-(intOf iv).toNat)
     case atStart=>exact⟨0,own2,Nat.zero_le _,rfl,HP2.out.1,HP2.out.2.1,HP2.out.2.2⟩
     case round=>
      clear HP2 HP;obtain⟨j,own3,hj,rfl,ho3,hP3,t3⟩:=hrel;have HP3:Hid ((∀q,6<=own1 q->own3 q=own1 q)/\Pl B B (c+1+j) (k+2) wr own3 PS sx/\Touch (fun q=>B<=q/\¬(6<=own1 q/\own1 q%2=1)) wo wr):=⟨ho3,hP3,t3⟩;clear ho3 hP3;by_cases hjl:j<L
      .have hjl':j<l.length:=(by have:=HLL.out;omega);obtain⟨b,rfl,hbl,hob,hbc⟩:=HS4.out j hjl';have nc:=t3.at hbc (fun e=>e.2 ⟨by show 6<=own1 b;omega,by show own1 b%2=1;omega⟩);have hnm:=HSM.out.2 j hjl';revert nc hnm;generalize l[j].1=nm;intro nc hnm;have hb3:b<wr.heap.size:=World.block_lt_of_cell? wr _ nc;have j1:(j:Int)<(L:Int):=(by omega);have j3:IntKind.i64.wrap (j:Int)=(j:Int):=IntWalk.i64_in _ ⟨by omega,by omega⟩;clear t3 hbc hob hbl;go_wp2_with fail;refine(Pl.ask HP3.out.2.1 10 i 0 _ nm 0 0 0 false (.inr rfl) hiP (by have:=HN.out;omega) hnm (by omega) (by omega)).mono ?_;rintro e w4 ⟨rfl,⟨own4,o4,hP4⟩,t4⟩;have HP4:Hid ((∀q,6<=own1 q->own4 q=own1 q)/\Pl B B (c+1+(j+1)) (k+2) w4 own4 PS sx/\Touch (fun q=>B<=q/\¬(6<=own1 q/\own1 q%2=1)) wo w4):=⟨fun q hq=>by have e1:=HP3.out.1 q hq;rw[o4 q (by omega)];exact e1,hP4,HP3.out.2.2.trans (t4.mono (fun q _ e=>⟨e.1,fun e2=>e.2 (by rw[HP3.out.1 q e2.1];exact e2)⟩))⟩;clear o4 hP4 t4 nc HP3;go_wp2;exact⟨⟨j+1,own4,by omega,by go_num,HP4.out⟩,by simp[intOf];omega⟩
      obtain rfl:j=L:=by omega
      have j1:¬(j:Int)<(j:Int):=(by omega);clear t3;go_wp2;go_roundw
      case rel=>exact⟨i+1,c+1+j,own3,by omega,by go_num,by omega,HP3.out.2.1,HT.out.trans (HP3.out.2.2.mono (fun q _ e=>e.1))⟩
      case measure=>simp[intOf];omega
    obtain rfl:i=n:=by omega
    obtain⟨a,cap,s1⟩:=hP.all;rw[<-HN.out]at s1;have hbw:=hP.Gp;have HK:Hid (Calls Tryz.prog 23 #[.pointer (some ⟨B,0,none⟩)] wo fun r w'=>r=.returned (.bool true)/\Touch (fun _=>False) wo w'):=hP.kept (by omega);have HBL:Hid (∀W,Touch (fun _=>False) wo W->Below w.heap.size w W):=fun W t=>(T.trans (t.mono (fun _ _ h=>h.elim))).toBelow (Nat.le_refl _) (fun k hk h=>by have:=HB.out;omega);have i1:¬(i:Int)<(i:Int):=(by omega);clear hP T;go_wp2_with fail;refine HK.out.mono ?_;rintro e w4 ⟨rfl,t4⟩;go_wp2;go_ret;exact⟨rfl,HBL.out _ t4⟩
theorem Xr(B:Nat)(h0:1<B):rG 5 B:=by
 intro wb c d V own PS sx K W N S T qe qn qb F hK1 hK2 hP hl0 hl hW hN hn hb hS hT ho hc hd;by_cases h5:K=5
 .subst h5;have T0:=(Touch.refl (fun _=>False) V).alloc (Obj.cells #[.int .i64 5,.int .i64 W,.int .i64 N,.string S,.string T,.int .i64 qe,.int .i64 qn,.int .i64 qb,.bool F] 65);have HA:Hid (Calls Tryz.prog 21 #[.pointer (some ⟨wb,0,none⟩)] (V.alloc (Obj.cells #[.int .i64 5,.int .i64 W,.int .i64 N,.string S,.string T,.int .i64 qe,.int .i64 qn,.int .i64 qb,.bool F] 65)) fun r w'=>r=.returned (.bool true)/\(∃own' PS' sx',PS'.length=PS.length+1/\Pl B wb (c+1) (d+1) w' own' PS' sx')/\Touch (fun q=>B<=q) V w'):=by
   refine((hP.same T0).made (by omega)).mono ?_;rintro r w' ⟨e,h1,t⟩;exact⟨e,h1,(T0.mono (fun _ _ h=>h.elim)).trans t⟩
  clear T0 hP;go_enter Tryz.func22,Tryz.ntmps22;go_wp2_with (go_at_call 21;refine HA.out.mono ?_;rintro e w1 ⟨rfl,⟨own',PS',sx',h1,h2⟩,t1⟩);go_ret;exact⟨rfl,⟨own',PS',sx',by omega,by omega,h2⟩,t1⟩
 refine(hP.stores K W N S T qe qn qb F (by omega) hl0 (by omega) hW hN hn hb hS hT ho h0 (by omega) hd).mono ?_;rintro r w' ⟨e,⟨own',sx',h1⟩,t⟩;exact⟨e,⟨own',PS,sx',hl0,by omega,h1⟩,t⟩
theorem uB(w:World)(ao:Option Addr)(len cap:Nat)(ho:Ord w)(h0:1<w.heap.size)(hlen:len<=1048576)(hop:∀i,i<len->∃sb so K W N S T qe qn qb F,ao=some ⟨sb,so,none⟩/\OpB w sb (so+i*9) K W N S T qe qn qb F): Calls Tryz.prog 3 #[.slice ao len cap] w fun e w'=>e=.returned (.bool true)/\Below w.heap.size w w':=by
 go_enter Tryz.func3,Tryz.ntmps3;go_wp2_with fail;refine(xJ 5 w ao len cap ⟨by omega,by omega⟩ ho h0 hlen (Xr _ h0) hop).mono ?_;rintro e w1 ⟨rfl,b1⟩;go_wp2;go_ret;exact⟨rfl,b1⟩
end Go.Proofs.YtmhlkdlcpicekaaGreatDoor
