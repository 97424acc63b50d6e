/- Joined. -/
import Derived.Test.YtmhlkdlcpicekaaGreatDoorJ43
set_option linter.unusedSimpArgs false
set_option linter.unusedVariables false
set_option maxRecDepth 100000
set_option maxHeartbeats 20000000
namespace Go.Proofs.YtmhlkdlcpicekaaGreatDoor
open Go.RowKit Go.Shelf Go.Lib
theorem Tryz.Qdu:(Tryz.prog.info? 71).map (fun i=>(i.zero,i.size,i.bytes))=some (some (.agg #[.pointer none,.pointer none]),2,16):=by kernel_rfl
theorem Ns{P:Program}{ops:Array Oper}{o:Oper}{a:Act}{w:World}{K:Act->World->Prop}{Q:Exit->Act->World->Prop}{E:Prop}(hg:o.guard=none)(s x:Operand)(t:TypeId)(hop:o.op=Op.call { callee:=Callee.builtin Builtin.append,args:=#[s,x],argTypes:=#[t,t] })(base:Nat)(e:TypeId)(i:TypeInfo)(z:Value)(size bytes:Nat)(h1:P.underlying t=some (.slice e))(h2:P.info? e=some i)(h3:i.zero=some z)(h4:i.size=size)(h5:i.bytes=bytes)(h6:z.cells.size=size)(h7:0<size)(v:Value)(n:Nat)(xs:List Value)(hv:a.eval s=v)(hown:w.ownsRow base e size v n xs)(ad:Addr)(m c:Nat)(news:List Value)(hx:a.eval x=.slice (some ad) m c)(hl:news.length=m*size)(hnews:∀j u,news[j]?=some u->w.cell? (ad.add j)=some u)(hone:∀u∈news,u.oneCell'=true)(hm:0<m)(b1:n+m<=maxLen)(b2:(n+m)*bytes<=140737488355328)(b3:base<=w.heap.size)(hK:∀g cap w',w'.ownsRow base e size (.slice (some ⟨g,0,none⟩) (n+m) cap) (n+m) (xs++news)->Grew w w' v g->K (a.put o.dst (.slice (some ⟨g,0,none⟩) (n+m) cap)) w'): if Region.wanted o (yielded ops a.tmps)=true then Oper.wp P o a w K Q else E:=by
 have hw:Region.wanted o (yielded ops a.tmps)=true:=by simp[Region.wanted,hg]
 rw[if_pos hw];obtain⟨g,cap,w',hrun,r1,r2⟩:=Ve (P:=P) w base t o.type e i z size bytes h1 h2 h3 h4 h5 h6 h7 v n xs hown ad m c news hl hnews hone hm b1 b2 b3;unfold Oper.wp;simp[execOp,hop,resolve,invoke,builtin,hv,hx,hrun,Result.andThen];exact hK g cap w' r1 r2
theorem Inv.push{base:Nat}{w W w4:World}{wb m:Nat}{own:Nat->Nat}{FL EL NL:List (Value×Nat)}{PS:List (Nat×Nat)}{sx:Nat->Nc}{vA vF vE vNm vM vNu vO:Value}{g cap x y:Nat}(h:Inv base w wb m own FL EL NL PS sx sx)(hb:oL w wb m own FL EL NL PS vA vF vE vNm vM vNu vO)(hx:Xo w x (fun q=>q=x) [] none false)(hy:Jc w y (fun q=>q=y) [] none false)(ox:own x=0)(oy:own y=0)(hxy:x≠y)(bx:base<=x)(b_y:base<=y)(hW:Touch (fun _=>False) w W)(ho:w4.ownsRow 0 71 2 (.slice (some ⟨g,0,none⟩) (PS.length+1) cap) (PS.length+1) (Qc PS++[.pointer (some ⟨x,0,none⟩),.pointer (some ⟨y,0,none⟩)]))(hg:Grew W w4 vA g): ∃own',Inv base (w4.setCell ⟨wb,0,none⟩ (.slice (some ⟨g,0,none⟩) (PS.length+1) cap)) wb m own' FL EL NL (PS++[(x,y)]) (Ql sx PS.length ([],none,false)) (Ql sx PS.length ([],none,false))/\Touch (fun q=>base<=q) w (w4.setCell ⟨wb,0,none⟩ (.slice (some ⟨g,0,none⟩) (PS.length+1) cap)):=by
 have hbl:=h.Gp;have hme:=h.me;have t4:=hg.touch hW;have tt:Touch (fun q=>q=wb\/vA.ownBlock=some q) w (w4.setCell ⟨wb,0,none⟩ (.slice (some ⟨g,0,none⟩) (PS.length+1) cap)):=(t4.mono (fun _ _ e=>.inr e)).setCell (p:=⟨wb,0,none⟩) (.inl rfl) _;have hwA:vA.ownBlock≠some wb:=fun e=>by have:=hb.oA wb e;omega
 have hp4:w4.heap[wb]?=_:=(t4.block wb hbl.2 hwA).trans hb.hp;have hlx:=hx.low x rfl;have hly:=hy.low y rfl;have hWs:=hW.size;have hs5:=tt.size;have gcase:own g=2\/(own g=0/\w.heap.size<=g):=by
  rcases hg with⟨e,_⟩|⟨e,_⟩;.exact .inl (hb.oA g e)
  exact .inr ⟨h.free g (by omega),by omega⟩
 have hgx:g≠x/\g≠y:=by
  refine⟨fun e=>?_,fun e=>?_⟩<;>subst e<;>rcases gcase with e|e<;>omega
 have hglt:g<(w4.setCell ⟨wb,0,none⟩ (.slice (some ⟨g,0,none⟩) (PS.length+1) cap)).heap.size:=by
  rw[size_setCell];exact(ho.lt g rfl).2
 obtain⟨own',ho'⟩:∃own':Nat->Nat,own'=fun q=>if q=x then 6+2*PS.length else if q=y then 7+2*PS.length else if q=g then 2 else own q:=⟨_,rfl⟩
 have px:own' x=6+2*PS.length:=by rw[ho'];simp
 have py:own' y=7+2*PS.length:=by rw[ho'];simp[show¬y=x from fun e=>hxy e.symm]
 have pg:own' g=2:=by rw[ho'];simp[hgx.1,hgx.2]
 have pe:∀q,q≠x->q≠y->q≠g->own' q=own q:=fun q a b c=>by rw[ho'];simp[a,b,c]
 have hold:∀q,own q≠0->own' q=own q:=fun q hq=>by
  by_cases e:q=g
  .subst e;rcases gcase with e|e;.rw[pg,e]
   omega
  exact pe q (fun e=>by subst e;omega) (fun e=>by subst e;omega) e
 have hS:∀q,(q=wb\/vA.ownBlock=some q)->own q=1\/own q=2:=fun q e=>by
  rcases e with rfl|e;.exact .inl hme
  exact .inr (hb.oA q e)
 have hlow:∀q,own' q≠0->q<(w4.setCell ⟨wb,0,none⟩ (.slice (some ⟨g,0,none⟩) (PS.length+1) cap)).heap.size/\own' q<6+2*(PS++[(x,y)]).length/\base<=q:=fun q hq=>by
  rw[List.length_append,List.length_singleton];by_cases e1:q=x;.subst e1;exact⟨by omega,by omega,bx⟩
  by_cases e2:q=y;.subst e2;exact⟨by omega,by omega,b_y⟩
  by_cases e3:q=g
  .subst e3;refine⟨hglt,by omega,?_⟩;rcases gcase with e|e;.exact(h.low q (by omega)).2.2
   omega
  have e4:=pe q e1 e2 e3;have e5:=h.low q (by omega);exact⟨by omega,by omega,e5.2.2⟩
 refine⟨own',⟨hlow,by rw[hold wb (by omega)];exact hme,⟨.slice (some ⟨g,0,none⟩) (PS.length+1) cap,vF,vE,vNm,vM,vNu,vO,⟨(Dz hp4 0 _).trans rfl,?_,?_,?_,?_,fun q hq=>(by cases hq;exact pg)⟩⟩,fun j hj=>?_,fun j hj=>?_⟩,tt.mono (fun q _ e=>(h.low q (by have:=hS q e;omega)).2.2)⟩;.exact(hb.gF.keep tt (fun q e1 e2=>by have:=hS q e2;omega)).wide (fun q e=>by rw[hold q (by omega)];exact e)
 .exact(hb.gE.keep tt (fun q e1 e2=>by have:=hS q e2;omega)).wide (fun q e=>by rw[hold q (by omega)];exact e)
 .exact(hb.gN.keep tt (fun q e1 e2=>by have:=hS q e2;omega)).wide (fun q e=>by rw[hold q (by omega)];exact e)
 .rw[List.length_append,List.length_singleton,zU];refine(Bf w4 wb 0 _).owns ho (fun q hq e=>?_);cases hq;have e':g=wb:=e;rw[e']at gcase;rcases gcase with e|e<;>omega
 .by_cases e:j=PS.length
  .subst e;rw[Oa];have e9:(PS++[(x,y)])[PS.length]=(x,y):=by simp
   rw[e9];refine(hx.keep tt (fun q e1 e2=>?_)).wide (fun q e1=>by rw[e1];exact px) (fun q hq=>(hlow q (by omega)).1);subst e1;have:=hS q e2;omega
  have hj':j<PS.length:=by rw[List.length_append,List.length_singleton]at hj;omega
  rw[Le _ _ _ _ e,List.getElem_append_left hj'];exact((h.stx j hj').keep tt (fun q e1 e2=>by have:=hS q e2;omega)).wide (fun q e1=>by rw[hold q (by omega)];exact e1) (fun q hq=>(hlow q (by omega)).1)
 by_cases e:j=PS.length
 .subst e;rw[Oa];have e9:(PS++[(x,y)])[PS.length]=(x,y):=by simp
  rw[e9];refine(hy.keep tt (fun q e1 e2=>?_)).wide (fun q e1=>by rw[e1];exact py) (fun q hq=>(hlow q (by omega)).1);subst e1;have:=hS q e2;omega
 have hj':j<PS.length:=by rw[List.length_append,List.length_singleton]at hj;omega
 rw[Le _ _ _ _ e,List.getElem_append_left hj'];exact((h.yA j hj').keep tt (fun q e1 e2=>by have:=hS q e2;omega)).wide (fun q e1=>by rw[hold q (by omega)];exact e1) (fun q hq=>(hlow q (by omega)).1)
theorem Qir(base:Nat)(w:World)(wb m:Nat)(own:Nat->Nat)(FL EL NL:List (Value×Nat))(PS:List (Nat×Nat))(sx:Nat->Nc)(h:Inv base w wb m own FL EL NL PS sx sx)(hl:PS.length<=1000): Calls Tryz.prog 21 #[.pointer (some ⟨wb,0,none⟩)] w fun r w'=>r=.returned (.bool true)/\(∃own' p,Inv base w' wb m own' FL EL NL (PS++[p]) (Ql sx PS.length ([],none,false)) (Ql sx PS.length ([],none,false)))/\Touch (fun q=>base<=q) w w':=by
 obtain⟨iS,hiS,hzS0,hzS1,hzS2⟩:=info_parts Tryz.Qdu;obtain⟨vA,vF,vE,vNm,vM,vNu,vO,hb⟩:=h.box;have hbl:=h.Gp;have HI:Hid (Inv base w wb m own FL EL NL PS sx sx):=h;have HB:Hid (oL w wb m own FL EL NL PS vA vF vE vNm vM vNu vO):=hb;have HC:Hid (∀V,Touch (fun _=>False) w V->V.cell? ⟨wb,0,none⟩=some vA/\V.frozen? ⟨wb,0,none⟩=false):=fun V t=>⟨t.at (by rw[Ac hb.hp];rfl) (fun e=>e),(t.frozen (p:=⟨wb,0,none⟩) hbl.2 (fun e=>e)).trans (Ew hb.hp 0)⟩;obtain⟨n,hn⟩:∃n,n=PS.length:=⟨_,rfl⟩;have HN:Hid (n=PS.length):=hn;have hn1:n<=1000:=by omega
 have HRA:Hid (∀V,Touch (fun _=>False) w V->V.ownsRow 0 71 2 vA n (Qc PS)):=fun V t=>by rw[hn];exact t.owns hb.rA (fun _ _ e=>e)
 have HWA:Hid (vA.ownBlock≠some wb):=fun e=>by have:=hb.oA wb e;have:=h.me;omega
 have b1:n+1<=maxLen:=by unfold maxLen;omega
 have b2:(n+1)*16<=140737488355328:=by omega
 clear h hb hn hl;go_enter Tryz.func21,Tryz.ntmps21;go_wp2_with fail;refine(zB _).mono ?_;rintro e w1 ⟨rfl,hSB,t1⟩;have hX:=Xo.new hSB;have HX:Hid (Xo w1 w.heap.size (fun q=>q=w.heap.size) [] none false):=hX;have HT1:Hid (Touch (fun _=>False) w w1):=t1;have hs1:w.heap.size<w1.heap.size:=hSB.lt;obtain⟨cA,fA⟩:=HC.out w1 t1;clear hSB hX t1;have HD:Hid (∀V,Touch (fun _=>False) w1 V->V.cell? ⟨wb,0,none⟩=some vA/\V.frozen? ⟨wb,0,none⟩=false):=fun V t=>HC.out V (HT1.out.trans t);have HRV:Hid (∀V,Touch (fun _=>False) w1 V->V.ownsRow 0 71 2 vA n (Qc PS)):=fun V t=>HRA.out V (HT1.out.trans t);have HZ:Hid (∀V V' g,Touch (fun _=>False) w1 V->Grew V V' vA g->V'.cell? ⟨wb,0,none⟩=some vA/\V'.frozen? ⟨wb,0,none⟩=false):=fun V V' g t hg=>by
  have t5:=Grew.touch (w:=w1) hg t;obtain⟨k1,k2⟩:=HD.out w1 (Touch.refl _ _);exact⟨t5.at k1 HWA.out,(t5.frozen (p:=⟨wb,0,none⟩) (by show wb<w1.heap.size;omega) HWA.out).trans k2⟩
 have HFIN:Hid (∀V2 V W4 (y g cp:Nat),y=w1.heap.size->Jc V2 y (fun q=>q=y) [] none false->Touch (fun _=>False) w1 V2->Touch (fun _=>False) V2 V->W4.ownsRow 0 71 2 (.slice (some ⟨g,0,none⟩) (n+1) cp) (n+1) (Qc PS++[.pointer (some ⟨w.heap.size,0,none⟩),.pointer (some ⟨y,0,none⟩)])->Grew V W4 vA g->(∃own' p,Inv base (W4.setCell ⟨wb,0,none⟩ (.slice (some ⟨g,0,none⟩) (n+1) cp)) wb m own' FL EL NL (PS++[p]) (Ql sx PS.length ([],none,false)) (Ql sx PS.length ([],none,false)))/\Touch (fun q=>base<=q) w (W4.setCell ⟨wb,0,none⟩ (.slice (some ⟨g,0,none⟩) (n+1) cp))):=fun V2 V W4 y g cp hy hR t2 tV ho hg=>by
  have T2:=HT1.out.trans t2;have h2:=HI.out.same T2;have hb2:=HB.out.keep T2 (fun _ _ _ e=>e) HI.out.me;rw[HN.out]at ho ⊢;obtain⟨own',k1,k2⟩:=h2.push hb2 (HX.out.same t2) hR (HI.out.free _ (Nat.le_refl _)) (HI.out.free _ (by omega)) (by omega) (by omega) (by omega) tV ho hg;exact⟨⟨own',_,k1⟩,(T2.mono (fun _ _ e=>e.elim)).trans k2⟩
 clear HC HRA HB HI HT1 HX;go_upto_region 4 with fail;go_region_law (first|(go_simp;go_at_call 52;refine(Qio _).mono ?_;rintro e w2 ⟨rfl,hR2,t2⟩;have cA2:=(HD.out w2 (((Touch.refl (fun _=>False) w1).drew).trans t2)).1;have cA3:=fun o=>(HD.out (w2.alloc o) ((((Touch.refl (fun _=>False) w1).drew).trans t2).alloc o)).1;go_wp2_with fail)|(refine Ns rfl (.tmp 11) (.tmp 15) 51 rfl 0 71 iS (.agg #[.pointer none,.pointer none]) 2 16 Tryz.underlying51 hiS hzS0 hzS1 hzS2 rfl (by decide) vA n (Qc PS) (by simp[Act.eval,Act.put]) (HRV.out _ ((((Touch.refl (fun _=>False) w1).drew).trans t2).alloc _)) ⟨w2.heap.size,0,none⟩ 1 1 [.pointer (some ⟨w.heap.size,0,none⟩),.pointer (some ⟨w1.heap.size,0,none⟩)] (by simp[Act.eval,Act.put]) rfl (Ia w2 _ _) (by simp[Value.oneCell']) (by decide) b1 b2 (Nat.zero_le _) ?_;intro g5 cap5 w5 ho5 hg5;obtain⟨y5,yf⟩:=HZ.out _ w5 g5 ((((Touch.refl (fun _=>False) w1).drew).trans t2).alloc _) hg5));all_goals
  have hfin:=HFIN.out w2 _ w5 w1.heap.size g5 cap5 rfl hR2 (((Touch.refl (fun _=>False) w1).drew).trans t2) ((Touch.refl _ w2).alloc _) ho5 hg5;obtain⟨W6,hW6⟩:∃W,W=w5.setCell ⟨wb,0,none⟩ (.slice (some ⟨g5,0,none⟩) (n+1) cap5):=⟨_,rfl⟩;rw[<-hW6]at hfin ⊢;have HF:Hid ((∃own' p,Inv base W6 wb m own' FL EL NL (PS++[p]) (Ql sx PS.length ([],none,false)) (Ql sx PS.length ([],none,false)))/\Touch (fun q=>base<=q) w W6):=hfin;clear hfin hW6 HFIN HZ HRV HD hR2 t2 ho5 hg5 y5 yf cA2 cA3 cA fA;go_wp2;go_ret;exact⟨rfl,HF.out⟩
theorem Qh0(base:Nat)(w:World)(wb m:Nat)(own:Nat->Nat)(FL EL NL:List (Value×Nat))(PS:List (Nat×Nat))(sx sy:Nat->Nc)(h:Inv base w wb m own FL EL NL PS sx sy)(hfl:FL.length<=2000000000)(hel:EL.length<=2000000000)(hnl:NL.length<=2000000000): Calls Tryz.prog 23 #[.pointer (some ⟨wb,0,none⟩)] w fun r w'=>r=.returned (.bool true)/\Touch (fun _=>False) w w':=by
 obtain⟨vA,vF,vE,vNm,vM,vNu,vO,hB⟩:=h.box;have hF:=hB.gF.kept;have hE:=hB.gE.kept;have hNn:=hB.gN.kept;have rF:=hB.gF.rL;have rM:=hB.gF.rM;have rE:=hB.gE.rL;have rN:=hB.gE.rM;have rP:=hB.gN.rL;have rQ:=hB.gN.rM;have hp:=hB.hp;obtain⟨aF,cF,rfl⟩:=Tz rF;obtain⟨aM,cM,rfl⟩:=Tz rM;obtain⟨aE,cE,rfl⟩:=Tz rE;obtain⟨aN,cN,rfl⟩:=Tz rN;obtain⟨aP,cP,rfl⟩:=Tz rP;obtain⟨aQ,cQ,rfl⟩:=Tz rQ;obtain⟨nF,hnF⟩:∃n,n=FL.length:=⟨_,rfl⟩;obtain⟨nE,hnE⟩:∃n,n=EL.length:=⟨_,rfl⟩;obtain⟨nP,hnP⟩:∃n,n=NL.length:=⟨_,rfl⟩;have HNF:Hid (nF=FL.length):=hnF;have HNE:Hid (nE=EL.length):=hnE;have HNP:Hid (nP=NL.length):=hnP;have HC:Hid (∀wr,Touch (fun _=>False) w wr->wr.cell? ⟨wb,1,none⟩=some (.slice aF nF cF)/\wr.cell? ⟨wb,2,none⟩=some (.slice aE nE cE)/\wr.cell? ⟨wb,3,none⟩=some (.slice aP nP cP)/\wr.cell? ⟨wb,4,none⟩=some (.slice aM nF cM)/\wr.cell? ⟨wb,5,none⟩=some (.slice aN nE cN)/\wr.cell? ⟨wb,6,none⟩=some (.slice aQ nP cQ)):=fun wr t=>by
  rw[hnF,hnE,hnP];refine⟨t.at ?_ (fun e=>e),t.at ?_ (fun e=>e),t.at ?_ (fun e=>e),t.at ?_ (fun e=>e),t.at ?_ (fun e=>e),t.at ?_ (fun e=>e)⟩<;>rw[Ac hp]<;>rfl
 have HF:Hid (∀wr,Touch (fun _=>False) w wr->∀i (h:i<FL.length),Io wr 41 (gG FL[i].2) FL[i].1):=fun wr t i h=>(hF _ (List.getElem_mem h)).same t;have HE:Hid (∀wr,Touch (fun _=>False) w wr->∀i (h:i<EL.length),Io wr 134 (Zx EL[i].2) EL[i].1):=fun wr t i h=>(hE _ (List.getElem_mem h)).same t;have HP:Hid (∀wr,Touch (fun _=>False) w wr->∀i (h:i<NL.length),Io wr 9 (oK NL[i].2) NL[i].1):=fun wr t i h=>(hNn _ (List.getElem_mem h)).same t;have HRF:Hid (0<nF->∃gF gM,aF=some ⟨gF,0,none⟩/\aM=some ⟨gM,0,none⟩/\∀wr,Touch (fun _=>False) w wr->∀i (h:i<FL.length),wr.cell? ⟨gF,i,none⟩=some FL[i].1/\wr.cell? ⟨gM,i,none⟩=some (.string (Dk FL[i].2))):=fun h0=>by
  obtain⟨gF,e1,k1⟩:=Kz rF (by omega);obtain⟨gM,e2,k2⟩:=Kz rM (by omega);refine⟨gF,gM,e1,e2,fun wr t i h=>⟨?_,?_⟩⟩;.exact t.at ((k1 i h).trans (by rw[List.getElem?_map,List.getElem?_eq_getElem h];rfl)) (fun e=>e)
  exact t.at ((k2 i h).trans (by rw[List.getElem?_map,List.getElem?_eq_getElem h];rfl)) (fun e=>e)
 have HRP:Hid (0<nP->∃gF gM,aP=some ⟨gF,0,none⟩/\aQ=some ⟨gM,0,none⟩/\∀wr,Touch (fun _=>False) w wr->∀i (h:i<NL.length),wr.cell? ⟨gF,i,none⟩=some NL[i].1/\wr.cell? ⟨gM,i,none⟩=some (.string (Dk NL[i].2))):=fun h0=>by
  obtain⟨gF,e1,k1⟩:=Kz rP (by omega);obtain⟨gM,e2,k2⟩:=Kz rQ (by omega);refine⟨gF,gM,e1,e2,fun wr t i h=>⟨?_,?_⟩⟩;.exact t.at ((k1 i h).trans (by rw[List.getElem?_map,List.getElem?_eq_getElem h];rfl)) (fun e=>e)
  exact t.at ((k2 i h).trans (by rw[List.getElem?_map,List.getElem?_eq_getElem h];rfl)) (fun e=>e)
 have HRE:Hid (0<nE->∃gE gN,aE=some ⟨gE,0,none⟩/\aN=some ⟨gN,0,none⟩/\∀wr,Touch (fun _=>False) w wr->∀i (h:i<EL.length),wr.cell? ⟨gE,i,none⟩=some EL[i].1/\wr.cell? ⟨gN,i,none⟩=some (.int .i64 (-(EL[i].2:Int)))):=fun h0=>by
  obtain⟨gF,e1,k1⟩:=Kz rE (by omega);obtain⟨gM,e2,k2⟩:=Kz rN (by omega);refine⟨gF,gM,e1,e2,fun wr t i h=>⟨?_,?_⟩⟩;.exact t.at ((k1 i h).trans (by rw[List.getElem?_map,List.getElem?_eq_getElem h];rfl)) (fun e=>e)
  exact t.at ((k2 i h).trans (by rw[List.getElem?_map,List.getElem?_eq_getElem h];rfl)) (fun e=>e)
 have bF:nF<=2000000000:=by omega
 have bE:nE<=2000000000:=by omega
 have bP:nP<=2000000000:=by omega
 clear hB hF hE hNn h rF rM rE rN rP rQ hp hfl hel hnl hnF hnE hnP;go_enter Tryz.func23,Tryz.ntmps23;go_wp2;go_loopw [3] (fun i wr=>∃k:Nat,k<=nF/\i=.int .i64 (k:Int)/\Touch (fun _=>False) w wr) (fun i wr=>nF-(intOf i).toNat)
 case atStart=>exact⟨0,Nat.zero_le _,rfl,Touch.refl _ _⟩
 case round=>
  obtain⟨k,hk,rfl,T⟩:=hrel;obtain⟨c1,c2,c3,c4,c5,c6⟩:=HC.out _ T;by_cases hlt:k<nF
  .have hlt':k<FL.length:=by have:=HNF.out;omega
   obtain⟨gF,gM,rfl,rfl,hcell⟩:=HRF.out (by omega);have HCL:Hid (∀wr,Touch (fun _=>False) w wr->wr.cell? ⟨gF,k,none⟩=some FL[k].1/\wr.cell? ⟨gM,k,none⟩=some (.string (Dk FL[k].2))):=fun wr t=>hcell wr t k hlt';have HLK:Hid (∀wr,Touch (fun _=>False) w wr->Io wr 41 (gG FL[k].2) FL[k].1):=fun wr t=>HF.out wr t k hlt';clear hcell;obtain⟨x1,x2⟩:=HCL.out _ T;have hL:=HLK.out _ T;revert HCL HLK x1 x2 hL;generalize FL[k]=x;intro HCL HLK x1 x2 hL;obtain⟨xv,xm⟩:=x;simp only at HCL HLK x1 x2 hL;obtain⟨xa,xn,xc,rfl,hxn,_⟩:=hL;have i1:(k:Int)<(nF:Int):=by omega
   obtain⟨M,hM⟩:∃M,M=Dk xm:=⟨_,rfl⟩;have HXC:Hid (0<xn->∃g,xa=some ⟨g,0,none⟩/\∀wr,Touch (fun _=>False) w wr->∀j,j<xn->wr.cell? ⟨g,j*2,none⟩=some (.string M)/\wr.cell? ⟨g,j*2+1,none⟩=some (.string M)):=fun h0=>by
    rw[hM];obtain⟨a0,n0,cp0,e0,_,⟨e1,e2⟩|⟨g,e1,_,_⟩⟩:=HLK.out _ T;.cases e0;omega
    cases e0;refine⟨g,e1,fun wr t j hj=>?_⟩;obtain⟨a3,n3,cp3,e3,_,⟨e4,e5⟩|⟨g3,e4,_,hc⟩⟩:=HLK.out wr t;.cases e3;omega
    cases e3;rw[e1]at e4;cases e4;exact⟨hc j hj 0 (by show 0<2;omega),hc j hj 1 (by show 1<2;omega)⟩
   rw[<-hM]at HCL x2;clear hM HLK;go_wp2;go_loopw [4] (fun i wr=>∃j:Nat,j<=xn/\i=.int .i64 (j:Int)/\Touch (fun _=>False) w wr) (fun i wr=>xn-(intOf i).toNat)
   case atStart=>exact⟨0,Nat.zero_le _,rfl,T⟩
   case round=>
    clear T c1 c2 c3 c4 c5 c6 x1 x2;obtain⟨j,hj,rfl,T⟩:=hrel;obtain⟨c1,c2,c3,c4,c5,c6⟩:=HC.out _ T;obtain⟨x1,x2⟩:=HCL.out _ T;by_cases hjl:j<xn
    .obtain⟨g,rfl,hc⟩:=HXC.out (by omega);obtain⟨y1,y2⟩:=hc _ T j hjl;have i2:(j:Int)<(xn:Int):=(by omega);have b1:(M.toList==M.toList)=true:=(by simp);clear hc HXC;go_wp2;go_quiet (fail);go_wp2;exact⟨⟨j+1,by omega,by go_num,T.drewN _⟩,by simp[intOf];omega⟩
    obtain rfl:xn=j:=by omega
    clear HXC;go_wp2;exact⟨⟨k+1,by omega,by go_num,T⟩,by simp[intOf];omega⟩
  obtain rfl:nF=k:=by omega
  go_wp2;go_loopw [5] (fun i wr=>∃k:Nat,k<=nE/\i=.int .i64 (k:Int)/\Touch (fun _=>False) w wr) (fun i wr=>nE-(intOf i).toNat)
  case atStart=>exact⟨0,Nat.zero_le _,rfl,T⟩
  case round=>
   clear T c1 c2 c3 c4 c5 c6;obtain⟨k,hk,rfl,T⟩:=hrel;obtain⟨c1,c2,c3,c4,c5,c6⟩:=HC.out _ T;by_cases hlt:k<nE
   .have hlt':k<EL.length:=(by have:=HNE.out;omega);obtain⟨gF,gM,rfl,rfl,hcell⟩:=HRE.out (by omega);have HCL:Hid (∀wr,Touch (fun _=>False) w wr->wr.cell? ⟨gF,k,none⟩=some EL[k].1/\wr.cell? ⟨gM,k,none⟩=some (.int .i64 (-(EL[k].2:Int)))):=fun wr t=>hcell wr t k hlt';have HLK:Hid (∀wr,Touch (fun _=>False) w wr->Io wr 134 (Zx EL[k].2) EL[k].1):=fun wr t=>HE.out wr t k hlt';clear hcell;obtain⟨x1,x2⟩:=HCL.out _ T;have hL:=HLK.out _ T;revert HCL HLK x1 x2 hL;generalize EL[k]=x;intro HCL HLK x1 x2 hL;obtain⟨xv,xm⟩:=x;simp only at HCL HLK x1 x2 hL;obtain⟨xa,xn,xc,rfl,hxn,_⟩:=hL;have i1:(k:Int)<(nE:Int):=(by omega);have HXC:Hid (0<xn->∃g,xa=some ⟨g,0,none⟩/\∀wr,Touch (fun _=>False) w wr->∀j,j<xn->wr.cell? ⟨g,j*6,none⟩=some (.string ⟨#[]⟩)/\wr.cell? ⟨g,j*6+5,none⟩=some (.int .i64 (-(xm:Int)))):=fun h0=>by
     obtain⟨a0,n0,cp0,e0,_,⟨e1,e2⟩|⟨g,e1,_,_⟩⟩:=HLK.out _ T;.cases e0;omega
     cases e0;refine⟨g,e1,fun wr t j hj=>?_⟩;obtain⟨a3,n3,cp3,e3,_,⟨e4,e5⟩|⟨g3,e4,_,hc⟩⟩:=HLK.out wr t;.cases e3;omega
     cases e3;rw[e1]at e4;cases e4;exact⟨hc j hj 0 (by show 0<6;omega),hc j hj 5 (by show 5<6;omega)⟩
    clear HLK;obtain⟨N,hN⟩:∃N:Int,N=-(xm:Int):=⟨_,rfl⟩;rw[<-hN]at HCL x2 HXC;clear hN;go_wp2;go_loopw [6] (fun i wr=>∃j:Nat,j<=xn/\i=.int .i64 (j:Int)/\Touch (fun _=>False) w wr) (fun i wr=>xn-(intOf i).toNat)
    case atStart=>exact⟨0,Nat.zero_le _,rfl,T⟩
    case round=>
     clear T c1 c2 c3 c4 c5 c6 x1 x2;obtain⟨j,hj,rfl,T⟩:=hrel;obtain⟨c1,c2,c3,c4,c5,c6⟩:=HC.out _ T;obtain⟨x1,x2⟩:=HCL.out _ T;by_cases hjl:j<xn
     .obtain⟨g,rfl,hc⟩:=HXC.out (by omega);obtain⟨y1,y2⟩:=hc _ T j hjl;have i2:(j:Int)<(xn:Int):=(by omega);clear hc HXC;go_wp2;go_quiet (fail);go_wp2;exact⟨⟨j+1,by omega,by go_num,T.drewN _⟩,by simp[intOf];omega⟩
     obtain rfl:xn=j:=by omega
     clear HXC;go_wp2;exact⟨⟨k+1,by omega,by go_num,T⟩,by simp[intOf];omega⟩
   obtain rfl:nE=k:=by omega
   go_wp2;go_loopw [7] (fun i wr=>∃k:Nat,k<=nP/\i=.int .i64 (k:Int)/\Touch (fun _=>False) w wr) (fun i wr=>nP-(intOf i).toNat)
   case atStart=>exact⟨0,Nat.zero_le _,rfl,T⟩
   case round=>
    clear T c1 c2 c3 c4 c5 c6;obtain⟨k,hk,rfl,T⟩:=hrel;obtain⟨c1,c2,c3,c4,c5,c6⟩:=HC.out _ T;by_cases hlt:k<nP
    .have hlt':k<NL.length:=(by have:=HNP.out;omega);obtain⟨gF,gM,rfl,rfl,hcell⟩:=HRP.out (by omega);have HCL:Hid (∀wr,Touch (fun _=>False) w wr->wr.cell? ⟨gF,k,none⟩=some NL[k].1/\wr.cell? ⟨gM,k,none⟩=some (.string (Dk NL[k].2))):=fun wr t=>hcell wr t k hlt';have HLK:Hid (∀wr,Touch (fun _=>False) w wr->Io wr 9 (oK NL[k].2) NL[k].1):=fun wr t=>HP.out wr t k hlt';clear hcell;obtain⟨x1,x2⟩:=HCL.out _ T;have hL:=HLK.out _ T;revert HCL HLK x1 x2 hL;generalize NL[k]=x;intro HCL HLK x1 x2 hL;obtain⟨xv,xm⟩:=x;simp only at HCL HLK x1 x2 hL;obtain⟨xa,xn,xc,rfl,hxn,_⟩:=hL;have i1:(k:Int)<(nP:Int):=(by omega);obtain⟨M,hM⟩:∃M,M=Dk xm:=⟨_,rfl⟩;have HXC:Hid (0<xn->∃g,xa=some ⟨g,0,none⟩/\∀wr,Touch (fun _=>False) w wr->∀j,j<xn->wr.cell? ⟨g,j,none⟩=some (.string M)):=fun h0=>by
      rw[hM];obtain⟨a0,n0,cp0,e0,_,⟨e1,e2⟩|⟨g,e1,_,_⟩⟩:=HLK.out _ T;.cases e0;omega
      cases e0;refine⟨g,e1,fun wr t j hj=>?_⟩;obtain⟨a3,n3,cp3,e3,_,⟨e4,e5⟩|⟨g3,e4,_,hc⟩⟩:=HLK.out wr t;.cases e3;omega
      cases e3;rw[e1]at e4;cases e4
      (have h8:=hc j hj 0 (by show 0<1;omega);rw[Wl,Nat.mul_one,Nat.add_zero]at h8;exact h8)
     rw[<-hM]at HCL x2;clear hM HLK;go_wp2;go_loopw [8] (fun i wr=>∃j:Nat,j<=xn/\i=.int .i64 (j:Int)/\Touch (fun _=>False) w wr) (fun i wr=>xn-(intOf i).toNat)
     case atStart=>exact⟨0,Nat.zero_le _,rfl,T⟩
     case round=>
      clear T c1 c2 c3 c4 c5 c6 x1 x2;obtain⟨j,hj,rfl,T⟩:=hrel;obtain⟨c1,c2,c3,c4,c5,c6⟩:=HC.out _ T;obtain⟨x1,x2⟩:=HCL.out _ T;by_cases hjl:j<xn
      .obtain⟨g,rfl,hc⟩:=HXC.out (by omega);have y1:=hc _ T j hjl;have i2:(j:Int)<(xn:Int):=(by omega);have b1:(M.toList==M.toList)=true:=(by simp);clear hc HXC;go_wp2;go_quiet (fail);go_wp2;exact⟨⟨j+1,by omega,by go_num,T.drewN _⟩,by simp[intOf];omega⟩
      obtain rfl:xn=j:=by omega
      clear HXC;go_wp2;exact⟨⟨k+1,by omega,by go_num,T⟩,by simp[intOf];omega⟩
    obtain rfl:nP=k:=by omega
    go_wp2;go_ret;exact⟨rfl,T⟩
end Go.Proofs.YtmhlkdlcpicekaaGreatDoor
