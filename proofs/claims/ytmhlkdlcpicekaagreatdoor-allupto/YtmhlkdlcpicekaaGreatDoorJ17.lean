/- Joined. -/
import Derived.Test.YtmhlkdlcpicekaaGreatDoorJ16
import Derived.Deep.DeepCutAuto
set_option linter.unusedSimpArgs false
set_option linter.unusedVariables false
set_option maxRecDepth 100000
set_option maxHeartbeats 20000000
namespace Go.Proofs.YtmhlkdlcpicekaaGreatDoor
open Go.RowKit Go.Shelf Go.Lib
theorem Tryz.xW:(Tryz.prog.info? 179).map (fun i=>(i.zero,i.size,i.bytes))=some (some (.agg #[.string ⟨#[]⟩,.int .i64 0,.int .u32 0,.int .i64 0,.int .i64 0,.int .i64 0,.int .i64 0,.int .i64 0,.int .i64 0,.int .i64 0,.string ⟨#[]⟩,.int .i64 0,.int .i64 0]),13,120):=by kernel_rfl
theorem Ia(w:World)(xs:List Value)(t:TypeId):∀(j:Nat) (x:Value),xs[j]?=some x->(w.alloc (.cells xs.toArray t)).cell? ((⟨w.heap.size,0,none⟩:Addr).add j)=some x:=by
 intro j x h;have hb:=heap_alloc_new w (.cells xs.toArray t);have e0:((⟨w.heap.size,0,none⟩:Addr).add j)=⟨w.heap.size,j,none⟩:=by
  cases j with
  |zero=>rfl
  |succ j=>simp[Addr.add]
 rw[e0,Ac hb j];simpa using h
def sH(l:List Eo):List Value:=l.flatMap fun e=>Jj e 0 0
theorem Qb3(l:List Eo)(e:Eo):sH (l++[e])=sH l++Jj e 0 0:=by simp[sH]
theorem Qeb(l:List Eo):∀i (h:i<l.length) j,j<13->(sH l)[i*13+j]?=(Jj l[i] 0 0)[j]?:=by
 induction l with
 |nil=>intro i h;simp at h
 |cons a l ih=>
  intro i h j hj;have e:sH (a::l)=Jj a 0 0++sH l:=rfl;have hl:(Jj a 0 0).length=13:=rfl;cases i with
  |zero=>rw[e,List.getElem?_append_left (by omega)];simp
  |succ i=>
   have:=ih i (by simpa using h) j hj;rw[e,List.getElem?_append_right (by omega),hl,show(i+1)*13+j-13=i*13+j by omega,this];rfl
theorem Iq.owned{w:World}{base g cap:Nat}{l:List Eo}(h:w.ownsRow base 179 13 (.slice (some ⟨g,0,none⟩) l.length cap) l.length (sH l)):base<=g/\Iq w g (l.map Ua)/\∀i,w.frozen? ⟨g,i,none⟩=false:=by
 obtain⟨h1,⟨h2,_⟩|⟨g',cap',cur,e,hb,hg,h3,h4,h5,h6⟩⟩:=h;.cases h2
 cases e;refine⟨hb,⟨fun i hi j hj=>?_,(Array.getElem?_eq_some_iff.1 hg).1⟩,fun i=>Cb hg i⟩;have hi':i<l.length:=by simpa using hi
 have hlt:i*13+j<l.length*13:=by omega
 have:=Qeb l i hi' j hj;rw[Ac hg (i*13+j)];simp only[List.getElem_map,Ua];rw[<-this,<-h6,List.getElem?_take_of_lt hlt];simp
def Ib(s:ByteArray)(E rb p:Nat)(r:Ending)(w':World):Prop:=match Ig s E p with
 |none=>∃(e:Eo) (a b:Nat),r=.returned (.tuple #[.agg #[.string e.name,.int .i64 (e.method:Int),.int .u32 (e.sum:Int),.int .i64 (e.packed:Int),.int .i64 (e.size:Int),.int .i64 (a:Int),.int .i64 (e.maker:Int),.int .i64 (e.flags:Int),.int .i64 (e.disk:Int),.int .i64 (e.outer:Int),.string e.three,.int .i64 (e.ahead:Int),.int .i64 (b:Int)],.bool false])
 |some (e,q)=>r=.returned (.tuple #[.agg #[.string e.name,.int .i64 (e.method:Int),.int .u32 (e.sum:Int),.int .i64 (e.packed:Int),.int .i64 (e.size:Int),.int .i64 0,.int .i64 (e.maker:Int),.int .i64 (e.flags:Int),.int .i64 (e.disk:Int),.int .i64 (e.outer:Int),.string e.three,.int .i64 (e.ahead:Int),.int .i64 0],.bool true])/\FR w' rb s E (some q)
theorem zO(w:World)(s:ByteArray)(d:Dir)(h1:d.place<=d.stop)(h2:d.stop<=s.size)(hc:d.count<=9223372036854775807)(hs:s.size<=2147483648)(hT:∀W rb p,FR W rb s d.stop (some p)->Calls Tryz.prog 88 #[.pointer (some ⟨rb,0,none⟩)] W fun r w'=>Touch (fun k=>k=rb) W w'/\Ib s d.stop rb p r w'): Calls Tryz.prog 44 #[.agg #[.int .i64 (d.count:Int),.int .i64 (d.size:Int),.int .i64 (d.place:Int),.int .i64 (d.stop:Int)],.string s] w fun r w'=>Touch (fun _=>False) w w'/\Lm w.heap.size (Ce s d.stop d.count d.place []) r w':=by
 obtain⟨i0,hi,hz0,hz1,hz2⟩:=info_parts Tryz.xW;have HT:Hid (∀W rb p,FR W rb s d.stop (some p)->Calls Tryz.prog 88 #[.pointer (some ⟨rb,0,none⟩)] W fun r w'=>Touch (fun k=>k=rb) W w'/\Ib s d.stop rb p r w'):=hT;have W1:=(Touch.refl (fun _=>False) w).alloc (Obj.cells #[.int .i64 (d.count:Int),.int .i64 (d.size:Int),.int .i64 (d.place:Int),.int .i64 (d.stop:Int)] 120);have b1:(d.place:Int)<=(d.stop:Int):=by omega
 have b2:(d.stop:Int)<=(s.size:Int):=by omega
 obtain⟨R,hR⟩:∃R,R=Ce s d.stop d.count d.place []:=⟨_,rfl⟩;have HR:Hid (R=Ce s d.stop (d.count-0) d.place []):=hR;rw[<-hR];clear hT hR;go_enter Tryz.func44,Tryz.ntmps44;go_wp2;have T0:=W1.alloc (Obj.cells #[.string (s.extract d.place d.stop),.bool false] 175);have F0:=FR.Qce (w.alloc (Obj.cells #[.int .i64 (d.count:Int),.int .i64 (d.size:Int),.int .i64 (d.place:Int),.int .i64 (d.stop:Int)] 120)) s d.place d.stop h1 h2 _ rfl;rw[World.size_alloc]at F0;have hS0:w.heap.size+2<=((w.alloc (Obj.cells #[.int .i64 (d.count:Int),.int .i64 (d.size:Int),.int .i64 (d.place:Int),.int .i64 (d.stop:Int)] 120)).alloc (Obj.cells #[.string (s.extract d.place d.stop),.bool false] 175)).heap.size:=by simp
 go_loopw [7,20] (fun v i wr=>∃(k p:Nat) (acc:List Eo),k<=d.count/\acc.length=k/\i=.int .i64 (k:Int)/\wr.ownsRow (w.heap.size+2) 179 13 v acc.length (sH acc)/\FR wr (w.heap.size+1) s d.stop (some p)/\k*46+d.place<=p/\Hid (R=Ce s d.stop (d.count-k) p acc)/\Touch (fun _=>False) w wr/\w.heap.size+2<=wr.heap.size) (fun v i wr=>d.count-(intOf i).toNat)
 case atStart=>exact⟨0,d.place,[],Nat.zero_le _,rfl,rfl,World.ownsRow_nil _ _ _ _,F0,by omega,HR,T0,hS0⟩
 case round=>
  obtain⟨k,p,acc,hk,hacc,rfl,hro,hF,hp46,HK,ht,hsz⟩:=hrel;have hpE:=hF.le p rfl;by_cases hlt:k<d.count
  .have hlt':(k:Int)<(d.count:Int):=by omega
   have HX:Hid (R=match Ig s d.stop p with
     |none=>.error 5
     |some (e,q)=>if Aw e=0 then Ce s d.stop (d.count-(k+1)) q (acc++[e])else .error (Aw e)):=by
    unfold Hid;rw[HK.out,show d.count-k=(d.count-(k+1))+1 by omega];rfl
   clear HK;go_wp2_with fail;refine(HT.out _ _ p hF).mono ?_;rintro e w1 ⟨t1,h1'⟩;unfold Ib at h1';have T1:Touch (fun _=>False) w w1:=ht.Hf t1 (by omega);have hsz1:=t1.size;have hro1:=t1.owns hro (fun q hq e=>by have h3:=(hro.lt q hq).1;have h4:q=w.heap.size+1:=e;omega);clear t1 hF hro;cases hea:Ig s d.stop p with
   |none=>
    rw[hea]at h1' HX;obtain⟨e0,a0,b0,rfl⟩:=(show∃(e:Eo) (a b:Nat),_=_ from h1');have FIN:Hid (∀w',Lm w.heap.size R (.returned (.tuple #[.slice none 0 0,.int .i64 5])) w'):=by
     intro w';rw[HX.out];rfl
    clear HX h1' hea;go_wp2;go_ret2;exact⟨T1.alloc _,FIN.out _⟩
   |some eq=>
    obtain⟨e,q⟩:=eq;rw[hea]at h1' HX;obtain⟨rfl,fr1⟩:=(show _=_/\FR w1 (w.heap.size+1) s d.stop (some q) from h1');obtain⟨p1,p2,hok⟩:=Vz s _ _ _ _ hea;have HX':Hid (R=if Aw e=0 then Ce s d.stop (d.count-(k+1)) q (acc++[e])else .error (Aw e)):=HX;have bx:=heap_alloc_new w1 (Obj.cells #[.string e.name,.int .i64 (e.method:Int),.int .u32 (e.sum:Int),.int .i64 (e.packed:Int),.int .i64 (e.size:Int),.int .i64 0,.int .i64 (e.maker:Int),.int .i64 (e.flags:Int),.int .i64 (e.disk:Int),.int .i64 (e.outer:Int),.string e.three,.int .i64 (e.ahead:Int),.int .i64 0] 179);have HLA:Hid (Gg (w1.alloc (Obj.cells #[.string e.name,.int .i64 (e.method:Int),.int .u32 (e.sum:Int),.int .i64 (e.packed:Int),.int .i64 (e.size:Int),.int .i64 0,.int .i64 (e.maker:Int),.int .i64 (e.flags:Int),.int .i64 (e.disk:Int),.int .i64 (e.outer:Int),.string e.three,.int .i64 (e.ahead:Int),.int .i64 0] 179)) w1.heap.size 0 e 0 0):=by
     intro i hi;rw[Nat.zero_add,Ac bx i];simp[Jj]
    have hfr1:=fr1.keep ((Touch.refl (fun _=>False) w1).alloc (Obj.cells #[.string e.name,.int .i64 (e.method:Int),.int .u32 (e.sum:Int),.int .i64 (e.packed:Int),.int .i64 (e.size:Int),.int .i64 0,.int .i64 (e.maker:Int),.int .i64 (e.flags:Int),.int .i64 (e.disk:Int),.int .i64 (e.outer:Int),.string e.three,.int .i64 (e.ahead:Int),.int .i64 0] 179)) (fun e=>e);clear HX h1' hea;go_wp2_with fail;refine(Qhu _ _ 0 e 0 0 HLA.out hok).mono ?_;rintro e' w2 ⟨rfl,t2⟩;have T2:=(T1.alloc _).trans t2;have bx2:=(t2.block _ (by simp) (fun e=>e)).trans bx;have hro2:=t2.owns (hro1.alloc _) (fun _ _ h=>h);have fr2:=hfr1.keep t2 (fun e=>e);have hsz2:=t2.size;rw[World.size_alloc]at hsz2;have lt2:w1.heap.size<w2.heap.size:=(by omega);clear t2 bx HLA hfr1 fr1 hro1;by_cases hfa:Aw e=0
    .have hr:=HX'.out;rw[if_pos hfa]at hr;have HN:Hid (R=Ce s d.stop (d.count-(k+1)) q (acc++[e])):=hr;rw[hfa];clear hr HX';have c0:w2.cell? ⟨w1.heap.size,0,none⟩=some (.string e.name):=(by rw[Ac bx2 0];rfl);have c1:w2.cell? ⟨w1.heap.size,1,none⟩=some (.int .i64 (e.method:Int)):=(by rw[Ac bx2 1];rfl);have c2:w2.cell? ⟨w1.heap.size,2,none⟩=some (.int .u32 (e.sum:Int)):=(by rw[Ac bx2 2];rfl);have c3:w2.cell? ⟨w1.heap.size,3,none⟩=some (.int .i64 (e.packed:Int)):=(by rw[Ac bx2 3];rfl);have c4:w2.cell? ⟨w1.heap.size,4,none⟩=some (.int .i64 (e.size:Int)):=(by rw[Ac bx2 4];rfl);have c5:w2.cell? ⟨w1.heap.size,5,none⟩=some (.int .i64 0):=(by rw[Ac bx2 5];rfl);have c6:w2.cell? ⟨w1.heap.size,6,none⟩=some (.int .i64 (e.maker:Int)):=(by rw[Ac bx2 6];rfl);have c7:w2.cell? ⟨w1.heap.size,7,none⟩=some (.int .i64 (e.flags:Int)):=(by rw[Ac bx2 7];rfl);have c8:w2.cell? ⟨w1.heap.size,8,none⟩=some (.int .i64 (e.disk:Int)):=(by rw[Ac bx2 8];rfl);have c9:w2.cell? ⟨w1.heap.size,9,none⟩=some (.int .i64 (e.outer:Int)):=(by rw[Ac bx2 9];rfl);have c10:w2.cell? ⟨w1.heap.size,10,none⟩=some (.string e.three):=(by rw[Ac bx2 10];rfl);have c11:w2.cell? ⟨w1.heap.size,11,none⟩=some (.int .i64 (e.ahead:Int)):=(by rw[Ac bx2 11];rfl);have c12:w2.cell? ⟨w1.heap.size,12,none⟩=some (.int .i64 0):=(by rw[Ac bx2 12];rfl);have HQ:Hid (∀(j:Nat) (y:Value),(Jj e 0 0)[j]?=some y->(w2.alloc (Obj.cells #[.string e.name,.int .i64 (e.method:Int),.int .u32 (e.sum:Int),.int .i64 (e.packed:Int),.int .i64 (e.size:Int),.int .i64 0,.int .i64 (e.maker:Int),.int .i64 (e.flags:Int),.int .i64 (e.disk:Int),.int .i64 (e.outer:Int),.string e.three,.int .i64 (e.ahead:Int),.int .i64 0] 179)).cell? ((⟨w2.heap.size,0,none⟩:Addr).add j)=some y):=Ia w2 (Jj e 0 0) _;have b3:acc.length+1<=maxLen:=(by unfold maxLen;omega);have b4:(acc.length+1)*120<=140737488355328:=(by omega);clear bx2;go_wp2_with (at_builtin;refine wpList_append_own _ rfl _ _ 123 rfl (w.heap.size+2) 179 i0 (.agg #[.string ⟨#[]⟩,.int .i64 0,.int .u32 0,.int .i64 0,.int .i64 0,.int .i64 0,.int .i64 0,.int .i64 0,.int .i64 0,.int .i64 0,.string ⟨#[]⟩,.int .i64 0,.int .i64 0]) 13 120 Tryz.underlying123 hi hz0 hz1 hz2 rfl (by decide) _ _ _ rfl (hro2.alloc _) ⟨w2.heap.size,0,none⟩ 1 1 (Jj e 0 0) rfl rfl HQ.out (by simp[Jj,Value.oneCell']) b3 b4 (by simp;omega) ?_;intro v' w3 hown' hgrow hnil);have hrowB:∀q,u7.ownBlock=some q->w.heap.size+2<=q:=fun q hq=>(hro2.lt q hq).1;have TB:Touch (fun q=>u7.ownBlock=some q) w2 w3:=((Touch.refl (fun q=>u7.ownBlock=some q) w2).alloc _).grown hgrow (fun q hq=>hq);have hsz3:=TB.size;refine⟨⟨k+1,q,acc++[e],by omega,by simp;omega,by go_num,?_,?_,by omega,HN,?_,by omega⟩,by simp[intOf];omega⟩;.rw[Qb3,List.length_append];exact hown'
     .refine fr2.keep TB (fun e=>?_);have:=hrowB _ e;omega
     exact(T2.alloc _).Fa hgrow (fun q hq=>by have:=hrowB q hq;omega)
    have hfa':¬(Aw e:Int)=0:=(by omega);have hr:=HX'.out;rw[if_neg hfa]at hr;have FIN:Hid (∀w',Lm w.heap.size R (.returned (.tuple #[.slice none 0 0,.int .i64 (Aw e:Int)])) w'):=by
     intro w';rw[hr];rfl
    clear hr HX' bx2;generalize Aw e=fe at hfa hfa' FIN ⊢;go_wp2;go_ret2;exact⟨T2,FIN.out _⟩
  obtain rfl:k=d.count:=by omega
  have hr:=HK.out;rw[Nat.sub_self]at hr;have hr':R=if p=d.stop then .ok acc else .error 5:=hr
  have r1:=hF.rest;simp only[Rt]at r1;by_cases hpe:p=d.stop
  .rw[if_pos hpe]at hr';have em:(s.extract p d.stop).toList.isEmpty=true:=by simpa using extract_empty s p d.stop (by omega)
   have FIN:Hid (Lm w.heap.size R (.returned (.tuple #[u7,.int .i64 0])) wr):=by
    unfold Hid;rw[hr'];have hll:(acc.map Ua).length=acc.length:=List.length_map ..;obtain⟨q1,⟨q2,q3⟩|⟨g',cap',cur,rfl,hrest⟩⟩:=id hro;.exact⟨none,0,w.heap.size,by rw[q2,hll,q3],by rw[hll];omega,Nat.le_refl _,by rw[hll];omega⟩
    obtain⟨z1,z2,z3⟩:=Iq.owned hro;exact⟨some ⟨g',0,none⟩,cap',g',by rw[hll],fun _=>rfl,by omega,fun _=>⟨z2,z3⟩⟩
   clear hr hr' HK hro hF;go_wp2;go_ret2;exact⟨ht,FIN.out⟩
  rw[if_neg hpe]at hr';have ne:(s.extract p d.stop).toList.isEmpty=false:=by simpa using Tm s p d.stop h2 (by omega)
  have FIN:Hid (∀w',Lm w.heap.size R (.returned (.tuple #[.slice none 0 0,.int .i64 5])) w'):=by
   intro w';rw[hr'];rfl
  clear hr hr' HK hro hF;go_wp2;go_ret2;exact⟨ht,FIN.out _⟩
structure LB (w:World) (lb:Nat) (e:Eo):Prop where
 lst:Gg w lb 0 e 0 0
 frozen:∀i,w.frozen? ⟨lb,i,none⟩=false
 lt:lb<w.heap.size
theorem LB.keep{S:Nat->Prop}{w w':World}{lb:Nat}{e:Eo}(h:LB w lb e)(ht:Touch S w w')(hs:¬S lb):LB w' lb e:=
 ⟨h.lst.keep ht hs,fun i=>(ht.frozen (p:=⟨lb,i,none⟩) h.lt hs).trans (h.frozen i),Nat.lt_of_lt_of_le h.lt ht.size⟩
theorem LB.set{w:World}{lb:Nat}{e:Eo}(h:LB w lb e)(k:Nat)(v:Value)(e':Eo)(hk:k<13)(hl:Jj e' 0 0=(Jj e 0 0).set k v):LB (w.setCell ⟨lb,k,none⟩ v) lb e':=by
 refine⟨fun i hi=>?_,fun i=>by rw[World.frozen?_setCell];exact h.frozen i,by simpa using h.lt⟩;have h1:=h.lst i hi;have h2:=h.lst k hk;rw[Nat.zero_add]at h1 h2 ⊢;have hlen:(Jj e 0 0).length=13:=rfl;rw[Ad,hl,List.getElem?_set];by_cases hik:i=k
 .subst hik;have hex:(w.cell? ⟨lb,i,none⟩).isSome=true:=by
   rw[h2,List.getElem?_eq_getElem (by omega)];rfl
  have hex':=Option.isSome_iff_exists.1 hex;simp[hlen,hi,hex']
 have hik':¬k=i:=fun e=>hik e.symm;simp[hik,hik',h1]
def fM:Eo:=⟨⟨#[]⟩,0,0,0,0,0,0,0,0,0,⟨#[]⟩⟩
theorem LB.new(w:World):LB (w.alloc (Obj.cells #[.string ⟨#[]⟩,.int .i64 0,.int .u32 0,.int .i64 0,.int .i64 0,.int .i64 0,.int .i64 0,.int .i64 0,.int .i64 0,.int .i64 0,.string ⟨#[]⟩,.int .i64 0,.int .i64 0] 179)) w.heap.size fM:=by
 have hb:=heap_alloc_new w (Obj.cells #[.string ⟨#[]⟩,.int .i64 0,.int .u32 0,.int .i64 0,.int .i64 0,.int .i64 0,.int .i64 0,.int .i64 0,.int .i64 0,.int .i64 0,.string ⟨#[]⟩,.int .i64 0,.int .i64 0] 179);refine⟨fun i hi=>?_,fun i=>Cb hb i,by simp⟩;rw[Nat.zero_add,Ac hb i];simp[Jj,fM]
theorem Hm{w:World}{b:Nat}{v0 v1 v2 v3 v4 v5 v6 v7 v8 v9 v10 v11 v12:Value}{G:Prop}(h:∀i,i<13->w.cell? ⟨b,i,none⟩=[v0,v1,v2,v3,v4,v5,v6,v7,v8,v9,v10,v11,v12][i]?)(k:w.cell? ⟨b,0,none⟩=some v0->w.cell? ⟨b,1,none⟩=some v1->w.cell? ⟨b,2,none⟩=some v2->w.cell? ⟨b,3,none⟩=some v3->w.cell? ⟨b,4,none⟩=some v4->w.cell? ⟨b,5,none⟩=some v5->w.cell? ⟨b,6,none⟩=some v6->w.cell? ⟨b,7,none⟩=some v7->w.cell? ⟨b,8,none⟩=some v8->w.cell? ⟨b,9,none⟩=some v9->w.cell? ⟨b,10,none⟩=some v10->w.cell? ⟨b,11,none⟩=some v11->w.cell? ⟨b,12,none⟩=some v12->G):G :=k (h 0 (by omega)) (h 1 (by omega)) (h 2 (by omega)) (h 3 (by omega)) (h 4 (by omega)) (h 5 (by omega)) (h 6 (by omega)) (h 7 (by omega)) (h 8 (by omega)) (h 9 (by omega)) (h 10 (by omega)) (h 11 (by omega)) (h 12 (by omega))
theorem gZ{P:Nat->Prop}{G:Prop}(h:∀i,P i)(k:P 0->P 1->P 2->P 3->P 4->P 5->P 6->P 7->P 8->P 9->P 10->P 11->P 12->G):G:=
 k (h 0) (h 1) (h 2) (h 3) (h 4) (h 5) (h 6) (h 7) (h 8) (h 9) (h 10) (h 11) (h 12)
def Qfi(s:ByteArray)(E:Nat)(p:Option Nat):Bool:=(Ae E p (46+Ah s E (Ae E p 28) 2+Ah s E (Ae E p 30) 2+Ah s E (Ae E p 32) 2)).isSome&&decide ((Bv s E p 4).toList=[80,75,1,2])
theorem Vu(E p k:Nat)(h:p+k<=E):Ae E (some p) k=some (p+k):=by simp[Ae,h]
theorem lU(E p k:Nat)(h:¬p+k<=E):Ae E (some p) k=none:=by simp[Ae,h]
theorem Zg(s:ByteArray)(E p k m:Nat)(h:p+k+m<=E):Bv s E (Ae E (some p) k) m=s.extract (p+k) (p+k+m):=by
 unfold Bv;rw[Bc,Vu E p (k+m) (by omega)];simp only;congr 1<;>omega
theorem Hw(s:ByteArray)(E p k m:Nat)(hE:E<=s.size)(h:p+k+m<=E):Ah s E (Ae E (some p) k) m=Aa s (p+k) m:=by
 rw[Vu E p k (by omega)];exact Gy s E _ m hE h
theorem kG(s:ByteArray)(E p m:Nat)(h:p+m<=E):Bv s E (some p) m=s.extract p (p+m):=by
 have:=Zg s E p 0 m (by omega);rw[Vu E p 0 (by omega)]at this;exact this
@[reducible] def Zt(s:ByteArray)(E p:Nat):Prop:=p+46<=E/\p+46+Aa s (p+28) 2+Aa s (p+30) 2+Aa s (p+32) 2<=E/\Eg s p 1 2=true
theorem Qal(s:ByteArray)(E p:Nat)(hE:E<=s.size):Qfi s E (some p)=true↔Zt s E p:=by
 unfold Qfi Zt;by_cases h46:p+46<=E
 .rw[Hw s E p 28 2 hE (by omega),Hw s E p 30 2 hE (by omega),Hw s E p 32 2 hE (by omega),kG s E p 4 (by omega)];have e:(decide ((s.extract p (p+4)).toList=[80,75,1,2]))=Eg s p 1 2:=rfl;rw[e];by_cases hf:p+46+Aa s (p+28) 2+Aa s (p+30) 2+Aa s (p+32) 2<=E
  .rw[Vu E p _ (by omega)];simp[h46,hf]
  rw[lU E p _ (by omega)];simp[hf]
 rw[lU E p _ (by omega)];simp[h46]
theorem Yp(s:ByteArray)(E p:Nat)(h:¬Zt s E p):Ig s E p=none:=by
 unfold Ig;simp only;rw[if_neg (show¬(_/\_/\_) from h)]
theorem Qcw(s:ByteArray)(E p:Nat)(h:Zt s E p)(cur:Nat->Nat)(h0:cur 0=Aa s (p+24) 4)(h1:cur 1=Aa s (p+20) 4)(h2:cur 2=Aa s (p+42) 4): Ig s E p=((Bg s (p+46+Aa s (p+28) 2+Aa s (p+30) 2) (Aa s (p+30) 2+1) (p+46+Aa s (p+28) 2) none).bind fun fo=>mF s (fo.getD (0,0)).2 3 0 (fo.getD (0,0)).1 cur).map fun d=>
   (⟨s.extract (p+46) (p+46+Aa s (p+28) 2),Aa s (p+10) 2,Aa s (p+16) 4,d 1,d 0,d 2,Aa s (p+4) 2,Aa s (p+8) 2,Aa s (p+34) 2,Aa s (p+38) 4,s.extract (p+16) (p+28)⟩,p+46+Aa s (p+28) 2+Aa s (p+30) 2+Aa s (p+32) 2):=by
 unfold Ig;simp only;rw[if_pos (show _/\_/\_ from h)];cases Bg s (p+46+Aa s (p+28) 2+Aa s (p+30) 2) (Aa s (p+30) 2+1) (p+46+Aa s (p+28) 2) none with
 |none=>rfl
 |some fo=>
  simp only[Option.bind_some];rw[Qht s (fo.getD (0,0)).1 (fo.getD (0,0)).2 _ _ _ cur h0 h1 h2];cases mF s (fo.getD (0,0)).2 3 0 (fo.getD (0,0)).1 cur with
  |none=>rfl
  |some d=>rfl
theorem zV(s:ByteArray)(E p:Nat)(hE:E<=s.size)(h:Zt s E p): Ah s E (Ae E (some p) 4) 2=Aa s (p+4) 2/\Ah s E (Ae E (some p) 8) 2=Aa s (p+8) 2/\Ah s E (Ae E (some p) 10) 2=Aa s (p+10) 2 /\ Bv s E (Ae E (some p) 16) 12=s.extract (p+16) (p+28)/\Ah s E (Ae E (some p) 28) 2=Aa s (p+28) 2/\Ah s E (Ae E (some p) 30) 2=Aa s (p+30) 2 /\ Ah s E (Ae E (some p) 32) 2=Aa s (p+32) 2/\Ah s E (Ae E (some p) 34) 2=Aa s (p+34) 2/\Ah s E (Ae E (some p) 38) 4=Aa s (p+38) 4 /\ Ah s E (Ae E (some p) 42) 4=Aa s (p+42) 4/\Bv s E (Ae E (some p) 46) (Aa s (p+28) 2)=s.extract (p+46) (p+46+Aa s (p+28) 2) /\ Bv s E (Ae E (some p) (46+Aa s (p+28) 2)) (Aa s (p+30) 2)=s.extract (p+46+Aa s (p+28) 2) (p+46+Aa s (p+28) 2+Aa s (p+30) 2) /\ Ae E (some p) (46+Aa s (p+28) 2+Aa s (p+30) 2+Aa s (p+32) 2)=some (p+46+Aa s (p+28) 2+Aa s (p+30) 2+Aa s (p+32) 2) /\ (Bv s E (some p) 4).toList=[80,75,1,2]:=by
 obtain⟨a,b,c⟩:=h;refine⟨Hw s E p 4 2 hE (by omega),Hw s E p 8 2 hE (by omega),Hw s E p 10 2 hE (by omega),Zg s E p 16 12 (by omega),Hw s E p 28 2 hE (by omega),Hw s E p 30 2 hE (by omega),Hw s E p 32 2 hE (by omega),Hw s E p 34 2 hE (by omega),Hw s E p 38 4 hE (by omega),Hw s E p 42 4 hE (by omega),Zg s E p 46 _ (by omega),?_,?_,?_⟩;.rw[Zg s E p (46+Aa s (p+28) 2) _ (by omega)];congr 1<;>omega
 .rw[Vu E p _ (by omega)];congr 1;omega
 rw[kG s E p 4 (by omega)];unfold Eg at c;simpa using c
theorem yR(s:ByteArray)(E rb p:Nat)(hE:E<=s.size)(h:Qfi s E (some p)=false)(w':World):Ib s E rb p (.returned (.tuple #[.agg #[.string ⟨#[]⟩,.int .i64 0,.int .u32 0,.int .i64 0,.int .i64 0,.int .i64 0,.int .i64 0,.int .i64 0,.int .i64 0,.int .i64 0,.string ⟨#[]⟩,.int .i64 0,.int .i64 0],.bool false])) w':=by
 unfold Ib;rw[Yp s E p (fun hf=>by rw[(Qal s E p hE).2 hf]at h;cases h)];exact⟨fM,0,0,rfl⟩
theorem dW(s:ByteArray)(E a:Nat)(x y:UInt8)(hE:E<=s.size):Nw (s.extract 0 E) (a:Int) x y=(decide (a+4<=E)&&Eg s a x y):=by
 have hz:(s.extract 0 E).size=E:=by rw[ByteArray.size_extract];omega
 by_cases h:a+4<=E
 .rw[Uu _ _ a x y rfl (by omega),decide_eq_true h,Bool.true_and];unfold Eg;rw[extract_extract s 0 E a (a+4) hE (by omega)];simp only[Nat.zero_add]
 rw[Wj _ _ x y (by omega),decide_eq_false h];rfl
def rN(y:ByteArray)(v i:Nat):Int:=if v=4294967295 then cO y (i:Int) 8 else(v:Int)
def rI(v i:Nat):Nat:=if v=4294967295 then i+8 else i
def Ws(z k a:Int):Bool:=decide (z<0)||decide (k<0)||decide (a<0)||decide (1099511627776<z)||decide (1099511627776<k)||decide (1099511627776<a)
theorem Qg(z k a:Int):Ws z k a=false↔(0<=z/\z<=1099511627776)/\(0<=k/\k<=1099511627776)/\(0<=a/\a<=1099511627776):=by
 unfold Ws;simp only[Bool.or_eq_false_iff,decide_eq_false_iff_not];omega
theorem cZ(s:ByteArray)(c e v i:Nat)(he:e<=s.size)(hc:c<=e)(hv:v<4294967296): meant s e (c+i) v=if 0<=rN (s.extract c e) v i/\rN (s.extract c e) v i<=1099511627776 then some ((rN (s.extract c e) v i).toNat,c+rI v i)else none:=by
 have hz:(s.extract c e).size=e-c:=by rw[ByteArray.size_extract];omega
 unfold meant rN rI;by_cases h:v=4294967295
 .rw[if_pos h,if_pos h,if_pos h];by_cases h8:c+i+8<=e
  .rw[mG _ i 8 (by omega),Fz s c e i 8 he (by omega)];by_cases hb:Aa s (c+i) 8<=1099511627776;.rw[if_pos ⟨h8,hb⟩,if_pos ⟨by omega,by omega⟩];rfl
   rw[if_neg (by omega),if_neg (by omega)]
  rw[iO _ _ 8 (by omega),if_neg (by omega),if_neg (by omega)]
 rw[if_neg h,if_neg h,if_neg h,if_pos ⟨by omega,by omega⟩];rfl
theorem oQ(s:ByteArray)(c e z k a:Nat)(he:e<=s.size)(hc:c<=e)(hz:z<4294967296)(hk:k<4294967296)(ha:a<4294967296): Mc s c e z k a=if Ws (rN (s.extract c e) z 0) (rN (s.extract c e) k (rI z 0)) (rN (s.extract c e) a (rI k (rI z 0)))then none else some ((rN (s.extract c e) z 0).toNat,(rN (s.extract c e) k (rI z 0)).toNat,(rN (s.extract c e) a (rI k (rI z 0))).toNat):=by
 unfold Mc;have h1:=cZ s c e z 0 he hc hz;rw[Nat.add_zero]at h1;rw[h1];by_cases g1:0<=rN (s.extract c e) z 0/\rN (s.extract c e) z 0<=1099511627776
 .rw[if_pos g1,Option.bind_some];simp only;rw[cZ s c e k (rI z 0) he hc hk];by_cases g2:0<=rN (s.extract c e) k (rI z 0)/\rN (s.extract c e) k (rI z 0)<=1099511627776
  .rw[if_pos g2,Option.bind_some];simp only;rw[cZ s c e a (rI k (rI z 0)) he hc ha];by_cases g3:0<=rN (s.extract c e) a (rI k (rI z 0))/\rN (s.extract c e) a (rI k (rI z 0))<=1099511627776;.rw[if_pos g3,Option.bind_some,(Qg _ _ _).2 ⟨g1,g2,g3⟩];rfl
   rw[if_neg g3,if_pos];.rfl
   cases hb:Ws (rN (s.extract c e) z 0) (rN (s.extract c e) k (rI z 0)) (rN (s.extract c e) a (rI k (rI z 0)))with
   |true=>rfl
   |false=>exact absurd ((Qg _ _ _).1 hb).2.2 g3
  rw[if_neg g2,if_pos];.rfl
  cases hb:Ws (rN (s.extract c e) z 0) (rN (s.extract c e) k (rI z 0)) (rN (s.extract c e) a (rI k (rI z 0)))with
  |true=>rfl
  |false=>exact absurd ((Qg _ _ _).1 hb).2.1 g2
 rw[if_neg g1,if_pos];.rfl
 cases hb:Ws (rN (s.extract c e) z 0) (rN (s.extract c e) k (rI z 0)) (rN (s.extract c e) a (rI k (rI z 0)))with
 |true=>rfl
 |false=>exact absurd ((Qg _ _ _).1 hb).1 g1
theorem nI(s:ByteArray)(E p:Nat)(hE:E<=s.size)(h:Zt s E p): (Bg (s.extract (p+46+Aa s (p+28) 2) (p+46+Aa s (p+28) 2+Aa s (p+30) 2)) (s.extract (p+46+Aa s (p+28) 2) (p+46+Aa s (p+28) 2+Aa s (p+30) 2)).size (Aa s (p+30) 2+1) 0 none=none->Ig s E p=none) /\ ∀f,Bg (s.extract (p+46+Aa s (p+28) 2) (p+46+Aa s (p+28) 2+Aa s (p+30) 2)) (s.extract (p+46+Aa s (p+28) 2) (p+46+Aa s (p+28) 2+Aa s (p+30) 2)).size (Aa s (p+30) 2+1) 0 none=some f ->∀y,y=Df (s.extract (p+46+Aa s (p+28) 2) (p+46+Aa s (p+28) 2+Aa s (p+30) 2)) f ->Ig s E p=if Ws (rN y (Aa s (p+24) 4) 0) (rN y (Aa s (p+20) 4) (rI (Aa s (p+24) 4) 0)) (rN y (Aa s (p+42) 4) (rI (Aa s (p+20) 4) (rI (Aa s (p+24) 4) 0)))then none else some (⟨s.extract (p+46) (p+46+Aa s (p+28) 2),Aa s (p+10) 2,Aa s (p+16) 4,(rN y (Aa s (p+20) 4) (rI (Aa s (p+24) 4) 0)).toNat,(rN y (Aa s (p+24) 4) 0).toNat,(rN y (Aa s (p+42) 4) (rI (Aa s (p+20) 4) (rI (Aa s (p+24) 4) 0))).toNat,Aa s (p+4) 2,Aa s (p+8) 2,Aa s (p+34) 2,Aa s (p+38) 4,s.extract (p+16) (p+28)⟩,p+46+Aa s (p+28) 2+Aa s (p+30) 2+Aa s (p+32) 2):=by
 obtain⟨c,hc⟩:∃c,c=p+46+Aa s (p+28) 2:=⟨_,rfl⟩;obtain⟨k,hk⟩:∃k,k=Aa s (p+30) 2:=⟨_,rfl⟩;have hz:(s.extract c (c+k)).size=k:=by rw[ByteArray.size_extract];have:=h.2.1;omega
 have hsh:Bg s (c+k) (k+1) c none=(Bg (s.extract c (c+k)) k (k+1) 0 none).map (·.map (shP c)):=by
  have:=Zq s c (c+k) (by omega) (by have:=h.2.1;omega) (k+1) 0 none;rw[Nat.add_sub_cancel_left]at this;exact this
 rw[<-hc,<-hk,hz];have he:Ig s E p=(Bg s (c+k) (k+1) c none).bind fun found=>(Mc s (found.getD (0,0)).1 (found.getD (0,0)).2 (Aa s (p+24) 4) (Aa s (p+20) 4) (Aa s (p+42) 4)).bind fun m=>some (⟨s.extract (p+46) c,Aa s (p+10) 2,Aa s (p+16) 4,m.2.1,m.1,m.2.2,Aa s (p+4) 2,Aa s (p+8) 2,Aa s (p+34) 2,Aa s (p+38) 4,s.extract (p+16) (p+28)⟩,c+k+Aa s (p+32) 2):=by
  unfold Ig;simp only;rw[if_pos (show _/\_/\_ from h),<-hc,<-hk]
 rw[he,hsh];constructor;.intro hn;rw[hn];rfl
 intro f hf y hy;have hle:=dA s (c+k) (k+1) c none (f.map (shP c)) (by rw[hsh,hf];rfl) ⟨Nat.le_refl _,Nat.zero_le _⟩;have hy2:y=s.extract ((f.map (shP c)).getD (0,0)).1 ((f.map (shP c)).getD (0,0)).2:=by
  rw[hy];cases f with
  |none=>
   unfold Df;apply ByteArray.ext;simp
  |some z=>
   have:c+z.2<=c+k:=hle.2;exact fQ s c (c+k) (by have:=h.2.1;omega) z this
 rw[hf];simp only[Option.map_some,Option.bind_some];have l24:=Bj s (p+24) 4;have l20:=Bj s (p+20) 4;have l42:=Bj s (p+42) 4;rw[oQ s _ _ _ _ _ (by have:=h.2.1;have:=hle.2;omega) hle.1 (by omega) (by omega) (by omega),<-hy2];split;.rfl
 rfl
def Gl:List UInt8->List UInt8->Bool
 | [],part=>Jb part
 |c::l,part=>if c=47 then Jb part&&Gl l []else Ik c&&Gl l (part++[c])
theorem bM:∀(t part:List UInt8),Gl t part=(t.all Ik&&(Az t part).all Jb)
 | [],part=>by simp[Gl,Az]
 |c::l,part=>by
  unfold Gl Az;by_cases h:c=47
  .rw[if_pos h,if_pos h,bM l [],h];have:Ik 47=true:=by decide
   simp only[List.all_cons,this,Bool.true_and];cases Jb part<;>simp
  rw[if_neg h,if_neg h,bM l (part++[c])];simp only[List.all_cons,Bool.and_assoc]
theorem nV(s:ByteArray)(h:s.size<=60):Ci s=Gl (Ak s) []:=by
 rw[bM];unfold Ci;rw[decide_eq_true h,Bool.true_and];congr 1;unfold Ak;split
 .rename_i hf;unfold Aj at hf;simp only[decide_eq_true_eq]at hf;obtain⟨l,hl⟩:∃l,s.toList=l++[47]:=List.getLast?_eq_some_iff.1 hf;rw[hl];simp;intro _;decide
 rfl
theorem drop_cons(T:ByteArray)(k:Nat)(h:k<T.size):T.toList.drop k=T[k]::T.toList.drop (k+1):=by
 have hl:T.toList.length=T.size:=by rw[ByteArray.toList_eq];simp
 rw[List.drop_eq_getElem_cons (by omega)];congr 1;simp only[ByteArray.toList_eq,Array.getElem_toList];rfl
theorem uV(T P:ByteArray)(k:Nat)(h:k<T.size):(P++T.extract k (k+1)).toList=P.toList++[T[k]]:=by
 have e:(T.extract k (k+1)).toList=[T[k]]:=by
  rw[ByteArray.toList_eq,ByteArray.data_extract,Array.toList_extract,List.extract_eq_take_drop];have:=drop_cons T k h;rw[ByteArray.toList_eq]at this;rw[this,show k+1-k=1 by omega];rfl
 rw[ByteArray.toList_eq,ByteArray.data_append,Array.toList_append,<-ByteArray.toList_eq,<-ByteArray.toList_eq,e]
theorem Po(P:ByteArray):Jb P.toList=(!P.toList.isEmpty&&(!(P.toList==[46])&&!(P.toList==[46,46]))):=by
 unfold Jb;rw[Bool.eq_iff_iff];simp[and_assoc]
theorem aO(c:UInt8):Ik c=(!decide ((c.toNat:Int)<32)&&(!decide ((126:Int)<(c.toNat:Int))&&(!((c.toNat:Int)==92)&&(!((c.toNat:Int)==58)&&!((c.toNat:Int)==34))))):=by
 have e:∀n:Nat,n<256->(((c.toNat:Int)==(n:Int))=decide (c=UInt8.ofNat n)):=by
  intro n hn;rw[Bool.eq_iff_iff];simp only[beq_iff_eq,decide_eq_true_eq];constructor;.intro h;apply UInt8.toNat_inj.1;rw[UInt8.toNat_ofNat'];omega
  intro h;rw[h,UInt8.toNat_ofNat'];omega
 have e1:((c.toNat:Int)==92)=decide (c=92):=e 92 (by omega);have e2:((c.toNat:Int)==58)=decide (c=58):=e 58 (by omega);have e3:((c.toNat:Int)==34)=decide (c=34):=e 34 (by omega);have a1:(!decide ((c.toNat:Int)<32))=decide (32<=c):=by
  rw[Bool.eq_iff_iff];simp[UInt8.le_iff_toNat_le];omega
 have a2:(!decide ((126:Int)<(c.toNat:Int)))=decide (c<=126):=by
  rw[Bool.eq_iff_iff];simp[UInt8.le_iff_toNat_le];omega
 unfold Ik;rw[a1,a2];rw[e1,e2,e3];simp[Bool.and_assoc]
theorem Ud:(⟨#[]⟩:ByteArray).toList=[]:=by rw[ByteArray.toList_eq]
theorem mW(w:World)(s:ByteArray)(hs:s.size<=140737488355328): Calls Tryz.prog 161 #[.string s] w fun e w'=>e=.returned (.bool (Ci s))/\Touch (fun _=>False) w w':=by
 by_cases h0:s.size=0
 .have HE:Hid (Ci s=false):=by
   unfold Hid;rw[nV s (by omega)];have e:s.toList=[]:=by rw[ByteArray.toList_eq];exact List.eq_nil_of_length_eq_zero (by simpa using h0)
   have:Ak s=[]:=by unfold Ak Aj;rw[e];rfl
   rw[this];rfl
  have h1:(s.size:Int)<1:=by omega
  clear h0;go_enter Tryz.func161,Tryz.ntmps161;go_wp2;go_ret;exact⟨by rw[HE.out];rfl,Touch.refl _ _⟩
 have g1:¬(s.size:Int)<1:=by omega
 by_cases h60:s.size<=60
 case neg=>
  have HE:Hid (Ci s=false):=by unfold Hid Ci;rw[decide_eq_false h60];rfl
  have h1:(60:Int)<(s.size:Int):=by omega
  go_enter Tryz.func161,Tryz.ntmps161;go_wp2;go_ret;exact⟨by rw[HE.out];rfl,Touch.refl _ _⟩
 have g2:¬(60:Int)<(s.size:Int):=by omega
 have HF:Hid (Aj s=(((s[s.size-1]'(by omega)).toNat:Int)==47)):=fD s (by omega);have k1:(0:Int)<=(s.size:Int)-1:=by omega
 have k2:(s.size:Int)-1<(s.size:Int):=by omega
 have k3:((s.size:Int)-1).toNat=s.size-1:=by omega
 have k4:s.size-1<s.size:=by omega
 have k5:(s.size:Int)-1<=(s.size:Int):=by omega
 obtain⟨R,hR⟩:∃R,R=Ci s:=⟨_,rfl⟩;rw[<-hR];have hR2:R=Gl (Gh s).toList []:=by rw[hR,nV s h60,Qd]
 have hbz:=Qk s;clear hR;go_enter Tryz.func161,Tryz.ntmps161;cases hf:Aj s with
 |true=>
  have hb:((s[s.size-1]'(by omega)).toNat:Int)=47:=by have:=HF.out;rw[hf]at this;simpa using this.symm
  have e:Gh s=s.extract 0 (s.size-1):=by unfold Gh;rw[if_pos hf]
  rw[e]at hR2 hbz;have HR0:Hid (R=if 0<=(s.extract 0 (s.size-1)).size then Gl ((s.extract 0 (s.size-1)).toList.drop 0) (⟨#[]⟩:ByteArray).toList else true):=by unfold Hid;rw[if_pos (Nat.zero_le _),Ud];exact hR2
  clear hR2 e HF;go_wp2;generalize s.extract 0 (s.size-1)=T at HR0 hbz ⊢;go_loopw [4,5] (fun v i wr=>∃(k:Nat) (P:ByteArray),k<=T.size+1/\P.size<=k/\v=.string P/\i=.int .i64 (k:Int)/\Hid (R=if k<=T.size then Gl (T.toList.drop k) P.toList else true)/\Touch (fun _=>False) w wr) (fun v i wr=>T.size+1-(intOf i).toNat)
  case atStart=>exact⟨0,⟨#[]⟩,by omega,Nat.le_refl _,rfl,rfl,HR0,Touch.refl _ _⟩
  case round=>
   obtain⟨k,P,hk,hP,rfl,rfl,HK,ht⟩:=hrel;by_cases hle:k<=T.size
   .have hle':(k:Int)<=(T.size:Int):=(by omega);have hr:=HK.out;rw[if_pos hle]at hr;by_cases heq:k=T.size
    .have heq':((k:Int)==(T.size:Int))=true:=(by simp;omega);have HX:Hid (R=(!P.toList.isEmpty&&(!(P.toList==[46])&&!(P.toList==[46,46])))):=by
      unfold Hid;rw[hr,List.drop_of_length_le (by rw[ByteArray.toList_eq];simp;omega),Gl,Po]
     clear HK hr;cases c1:P.toList.isEmpty with
     |true=>
      have HE:Hid (R=false):=(by unfold Hid;rw[HX.out];simp[c1]);clear HX;go_wp2;go_ret;exact⟨by rw[HE.out];rfl,ht⟩
     |false=>
      cases c2:(P.toList==[46])with
      |true=>
       have HE:Hid (R=false):=(by unfold Hid;rw[HX.out];simp[c1,c2]);clear HX;go_wp2;go_ret;exact⟨by rw[HE.out];rfl,ht⟩
      |false=>
       cases c3:(P.toList==[46,46])with
       |true=>
        have HE:Hid (R=false):=(by unfold Hid;rw[HX.out];simp[c1,c2,c3]);clear HX;go_wp2;go_ret;exact⟨by rw[HE.out];rfl,ht⟩
       |false=>
        have HN:Hid (R=if k+1<=T.size then Gl (T.toList.drop (k+1)) (⟨#[]⟩:ByteArray).toList else true):=by
         unfold Hid;rw[HX.out,c1,c2,c3,if_neg (by omega)];rfl
        clear HX;go_wp2;exact⟨⟨k+1,⟨#[]⟩,by omega,Nat.zero_le _,rfl,by go_num,HN,ht⟩,by simp[intOf];omega⟩
    have hlt:k<T.size:=(by omega);have heq':((k:Int)==(T.size:Int))=false:=(by simp;omega);have hlt':(k:Int)<(T.size:Int):=(by omega);have hk1:(k:Int)+1<=(T.size:Int):=(by omega);have hk2:(k:Int)<=(k:Int)+1:=(by omega);rw[drop_cons T k hlt,Gl]at hr;have hpo:=uV T P k hlt;have HPO:Hid ((P++T.extract k (k+1)).toList=P.toList++[T[k]]):=hpo;clear hpo HK;by_cases h47:((T[k]'hlt).toNat:Int)=47
    .have h47b:(((T[k]'hlt).toNat:Int)==47)=true:=(by simpa using h47);have h47u:T[k]'hlt=47:=(by apply UInt8.toNat_inj.1;simpa using(by omega:(T[k]'hlt).toNat=47));rw[if_pos h47u]at hr;have HX:Hid (R=((!P.toList.isEmpty&&(!(P.toList==[46])&&!(P.toList==[46,46])))&&Gl (T.toList.drop (k+1)) [])):=by
      unfold Hid;rw[hr,Po]
     clear hr h47u;cases c1:P.toList.isEmpty with
     |true=>
      have HE:Hid (R=false):=(by unfold Hid;rw[HX.out];simp[c1]);clear HX;go_wp2;go_ret;exact⟨by rw[HE.out];rfl,ht⟩
     |false=>
      cases c2:(P.toList==[46])with
      |true=>
       have HE:Hid (R=false):=(by unfold Hid;rw[HX.out];simp[c1,c2]);clear HX;go_wp2;go_ret;exact⟨by rw[HE.out];rfl,ht⟩
      |false=>
       cases c3:(P.toList==[46,46])with
       |true=>
        have HE:Hid (R=false):=(by unfold Hid;rw[HX.out];simp[c1,c2,c3]);clear HX;go_wp2;go_ret;exact⟨by rw[HE.out];rfl,ht⟩
       |false=>
        have HN:Hid (R=if k+1<=T.size then Gl (T.toList.drop (k+1)) (⟨#[]⟩:ByteArray).toList else true):=by
         unfold Hid;rw[HX.out,c1,c2,c3,if_pos (by omega),Ud];rfl
        clear HX;go_wp2;exact⟨⟨k+1,⟨#[]⟩,by omega,Nat.zero_le _,rfl,by go_num,HN,ht⟩,by simp[intOf];omega⟩
    have h47b:(((T[k]'hlt).toNat:Int)==47)=false:=(by simpa using h47);have h47u:¬T[k]'hlt=47:=fun e=>h47 (by rw[e];rfl);rw[if_neg h47u]at hr;have HX:Hid (R=((!decide (((T[k]'hlt).toNat:Int)<32)&&(!decide ((126:Int)<((T[k]'hlt).toNat:Int))&&(!(((T[k]'hlt).toNat:Int)==92)&&(!(((T[k]'hlt).toNat:Int)==58)&&!(((T[k]'hlt).toNat:Int)==34)))))&&Gl (T.toList.drop (k+1)) (P.toList++[T[k]'hlt]))):=by
     unfold Hid;rw[hr,aO]
    clear hr h47u;by_cases q1:((T[k]'hlt).toNat:Int)<32
    .have q1':=decide_eq_true q1;have HE:Hid (R=false):=(by unfold Hid;rw[HX.out];simp[q1]);clear HX;go_wp2;go_ret;exact⟨by rw[HE.out];rfl,ht⟩
    by_cases q2:(126:Int)<((T[k]'hlt).toNat:Int)
    .skip;have HE:Hid (R=false):=(by unfold Hid;rw[HX.out];simp[q2]);clear HX;go_wp2;go_ret;exact⟨by rw[HE.out];rfl,ht⟩
    cases q3:(((T[k]'hlt).toNat:Int)==92)with
    |true=>
     have HE:Hid (R=false):=(by unfold Hid;rw[HX.out];simp[q3]);clear HX;go_wp2;go_ret;exact⟨by rw[HE.out];rfl,ht⟩
    |false=>
     cases q4:(((T[k]'hlt).toNat:Int)==58)with
     |true=>
      have HE:Hid (R=false):=(by unfold Hid;rw[HX.out];simp[q4]);clear HX;go_wp2;go_ret;exact⟨by rw[HE.out];rfl,ht⟩
     |false=>
      cases q5:(((T[k]'hlt).toNat:Int)==34)with
      |true=>
       have HE:Hid (R=false):=(by unfold Hid;rw[HX.out];simp[q5]);clear HX;go_wp2;go_ret;exact⟨by rw[HE.out];rfl,ht⟩
      |false=>
       have HN:Hid (R=if k+1<=T.size then Gl (T.toList.drop (k+1)) (P++T.extract k (k+1)).toList else true):=by
        unfold Hid;rw[HX.out,if_pos (by omega),HPO.out,q3,q4,q5,decide_eq_false q1,decide_eq_false q2];rfl
       have hsz:(P++T.extract k (k+1)).size<=k+1:=(by rw[ByteArray.size_append,ByteArray.size_extract];omega);clear HX;go_wp2;exact⟨⟨k+1,P++T.extract k (k+1),by omega,hsz,rfl,by go_num,HN,ht⟩,by simp[intOf];omega⟩
   have hle':¬(k:Int)<=(T.size:Int):=by omega
   have HE:Hid (R=true):=by unfold Hid;rw[HK.out,if_neg hle]
   clear HK;go_wp2;go_ret;exact⟨by rw[HE.out];rfl,ht⟩
 |false=>
  have hb:¬((s[s.size-1]'(by omega)).toNat:Int)=47:=by have:=HF.out;rw[hf]at this;simpa using this.symm
  have e:Gh s=s:=by unfold Gh;rw[if_neg (by rw[hf];simp)]
  rw[e]at hR2 hbz;have HR0:Hid (R=if 0<=s.size then Gl (s.toList.drop 0) (⟨#[]⟩:ByteArray).toList else true):=by unfold Hid;rw[if_pos (Nat.zero_le _),Ud];exact hR2
  clear hR2 e HF;go_wp2;go_loopw [4,5] (fun v i wr=>∃(k:Nat) (P:ByteArray),k<=s.size+1/\P.size<=k/\v=.string P/\i=.int .i64 (k:Int)/\Hid (R=if k<=s.size then Gl (s.toList.drop k) P.toList else true)/\Touch (fun _=>False) w wr) (fun v i wr=>s.size+1-(intOf i).toNat)
  case atStart=>exact⟨0,⟨#[]⟩,by omega,Nat.le_refl _,rfl,rfl,HR0,Touch.refl _ _⟩
  case round=>
   obtain⟨k,P,hk,hP,rfl,rfl,HK,ht⟩:=hrel;by_cases hle:k<=s.size
   .have hle':(k:Int)<=(s.size:Int):=(by omega);have hr:=HK.out;rw[if_pos hle]at hr;by_cases heq:k=s.size
    .have heq':((k:Int)==(s.size:Int))=true:=(by simp;omega);have HX:Hid (R=(!P.toList.isEmpty&&(!(P.toList==[46])&&!(P.toList==[46,46])))):=by
      unfold Hid;rw[hr,List.drop_of_length_le (by rw[ByteArray.toList_eq];simp;omega),Gl,Po]
     clear HK hr;cases c1:P.toList.isEmpty with
     |true=>
      have HE:Hid (R=false):=(by unfold Hid;rw[HX.out];simp[c1]);clear HX;go_wp2;go_ret;exact⟨by rw[HE.out];rfl,ht⟩
     |false=>
      cases c2:(P.toList==[46])with
      |true=>
       have HE:Hid (R=false):=(by unfold Hid;rw[HX.out];simp[c1,c2]);clear HX;go_wp2;go_ret;exact⟨by rw[HE.out];rfl,ht⟩
      |false=>
       cases c3:(P.toList==[46,46])with
       |true=>
        have HE:Hid (R=false):=(by unfold Hid;rw[HX.out];simp[c1,c2,c3]);clear HX;go_wp2;go_ret;exact⟨by rw[HE.out];rfl,ht⟩
       |false=>
        have HN:Hid (R=if k+1<=s.size then Gl (s.toList.drop (k+1)) (⟨#[]⟩:ByteArray).toList else true):=by
         unfold Hid;rw[HX.out,c1,c2,c3,if_neg (by omega)];rfl
        clear HX;go_wp2;exact⟨⟨k+1,⟨#[]⟩,by omega,Nat.zero_le _,rfl,by go_num,HN,ht⟩,by simp[intOf];omega⟩
    have hlt:k<s.size:=(by omega);have heq':((k:Int)==(s.size:Int))=false:=(by simp;omega);have hlt':(k:Int)<(s.size:Int):=(by omega);have hk1:(k:Int)+1<=(s.size:Int):=(by omega);have hk2:(k:Int)<=(k:Int)+1:=(by omega);rw[drop_cons s k hlt,Gl]at hr;have hpo:=uV s P k hlt;have HPO:Hid ((P++s.extract k (k+1)).toList=P.toList++[s[k]]):=hpo;clear hpo HK;by_cases h47:((s[k]'hlt).toNat:Int)=47
    .have h47b:(((s[k]'hlt).toNat:Int)==47)=true:=(by simpa using h47);have h47u:s[k]'hlt=47:=(by apply UInt8.toNat_inj.1;simpa using(by omega:(s[k]'hlt).toNat=47));rw[if_pos h47u]at hr;have HX:Hid (R=((!P.toList.isEmpty&&(!(P.toList==[46])&&!(P.toList==[46,46])))&&Gl (s.toList.drop (k+1)) [])):=by
      unfold Hid;rw[hr,Po]
     clear hr h47u;cases c1:P.toList.isEmpty with
     |true=>
      have HE:Hid (R=false):=(by unfold Hid;rw[HX.out];simp[c1]);clear HX;go_wp2;go_ret;exact⟨by rw[HE.out];rfl,ht⟩
     |false=>
      cases c2:(P.toList==[46])with
      |true=>
       have HE:Hid (R=false):=(by unfold Hid;rw[HX.out];simp[c1,c2]);clear HX;go_wp2;go_ret;exact⟨by rw[HE.out];rfl,ht⟩
      |false=>
       cases c3:(P.toList==[46,46])with
       |true=>
        have HE:Hid (R=false):=(by unfold Hid;rw[HX.out];simp[c1,c2,c3]);clear HX;go_wp2;go_ret;exact⟨by rw[HE.out];rfl,ht⟩
       |false=>
        have HN:Hid (R=if k+1<=s.size then Gl (s.toList.drop (k+1)) (⟨#[]⟩:ByteArray).toList else true):=by
         unfold Hid;rw[HX.out,c1,c2,c3,if_pos (by omega),Ud];rfl
        clear HX;go_wp2;exact⟨⟨k+1,⟨#[]⟩,by omega,Nat.zero_le _,rfl,by go_num,HN,ht⟩,by simp[intOf];omega⟩
    have h47b:(((s[k]'hlt).toNat:Int)==47)=false:=(by simpa using h47);have h47u:¬s[k]'hlt=47:=fun e=>h47 (by rw[e];rfl);rw[if_neg h47u]at hr;have HX:Hid (R=((!decide (((s[k]'hlt).toNat:Int)<32)&&(!decide ((126:Int)<((s[k]'hlt).toNat:Int))&&(!(((s[k]'hlt).toNat:Int)==92)&&(!(((s[k]'hlt).toNat:Int)==58)&&!(((s[k]'hlt).toNat:Int)==34)))))&&Gl (s.toList.drop (k+1)) (P.toList++[s[k]'hlt]))):=by
     unfold Hid;rw[hr,aO]
    clear hr h47u;by_cases q1:((s[k]'hlt).toNat:Int)<32
    .have q1':=decide_eq_true q1;have HE:Hid (R=false):=(by unfold Hid;rw[HX.out];simp[q1]);clear HX;go_wp2;go_ret;exact⟨by rw[HE.out];rfl,ht⟩
    by_cases q2:(126:Int)<((s[k]'hlt).toNat:Int)
    .skip;have HE:Hid (R=false):=(by unfold Hid;rw[HX.out];simp[q2]);clear HX;go_wp2;go_ret;exact⟨by rw[HE.out];rfl,ht⟩
    cases q3:(((s[k]'hlt).toNat:Int)==92)with
    |true=>
     have HE:Hid (R=false):=(by unfold Hid;rw[HX.out];simp[q3]);clear HX;go_wp2;go_ret;exact⟨by rw[HE.out];rfl,ht⟩
    |false=>
     cases q4:(((s[k]'hlt).toNat:Int)==58)with
     |true=>
      have HE:Hid (R=false):=(by unfold Hid;rw[HX.out];simp[q4]);clear HX;go_wp2;go_ret;exact⟨by rw[HE.out];rfl,ht⟩
     |false=>
      cases q5:(((s[k]'hlt).toNat:Int)==34)with
      |true=>
       have HE:Hid (R=false):=(by unfold Hid;rw[HX.out];simp[q5]);clear HX;go_wp2;go_ret;exact⟨by rw[HE.out];rfl,ht⟩
      |false=>
       have HN:Hid (R=if k+1<=s.size then Gl (s.toList.drop (k+1)) (P++s.extract k (k+1)).toList else true):=by
        unfold Hid;rw[HX.out,if_pos (by omega),HPO.out,q3,q4,q5,decide_eq_false q1,decide_eq_false q2];rfl
       have hsz:(P++s.extract k (k+1)).size<=k+1:=(by rw[ByteArray.size_append,ByteArray.size_extract];omega);clear HX;go_wp2;exact⟨⟨k+1,P++s.extract k (k+1),by omega,hsz,rfl,by go_num,HN,ht⟩,by simp[intOf];omega⟩
   have hle':¬(k:Int)<=(s.size:Int):=by omega
   have HE:Hid (R=true):=by unfold Hid;rw[HK.out,if_neg hle]
   clear HK;go_wp2;go_ret;exact⟨by rw[HE.out];rfl,ht⟩
def lW(f k:Nat):Bool:=(f/2^k%2==1)&&(k != 1&&k != 2&&k != 3&&k != 11)
def Jd(f:Nat):Nat->Nat->Bool
 |0,_=>false
 |n+1,k=>lW f k||Jd f n (k+1)
theorem fG(f:Nat):∀n k,Jd f n k=true↔∃j,k<=j/\j<k+n/\lW f j=true
 |0,k=>by simp[Jd];intro j h1 h2;omega
 |n+1,k=>by
  rw[Jd,Bool.or_eq_true,fG f n (k+1)];constructor
  .rintro(h|⟨j,h1,h2,h3⟩);.exact⟨k,Nat.le_refl _,by omega,h⟩
   exact⟨j,by omega,by omega,h3⟩
  rintro⟨j,h1,h2,h3⟩;by_cases e:j=k;.rw[e]at h3;exact .inl h3
  exact .inr ⟨j,by omega,by omega,h3⟩
theorem Qew(j:Nat)(h:j<16):Nat.testBit 63473 j=(j != 1&&j != 2&&j != 3&&j != 11):=by
 rcases(by omega:j=0\/j=1\/j=2\/j=3\/j=4\/j=5\/j=6\/j=7\/j=8\/j=9\/j=10\/j=11\/j=12\/j=13\/j=14\/j=15)with rfl|rfl|rfl|rfl|rfl|rfl|rfl|rfl|rfl|rfl|rfl|rfl|rfl|rfl|rfl|rfl<;>decide
theorem Qhg(f:Nat):aU f=Jd f 16 0:=by
 have hbit:∀j,j<16->(lW f j=true↔(f&&&63473).testBit j=true):=by
  intro j hj;rw[Nat.testBit_and,Qew j hj,Nat.testBit_eq_decide_div_mod_eq];unfold lW;simp
 rw[Bool.eq_iff_iff,fG];unfold aU;rw[decide_eq_true_eq];constructor
 .intro h;obtain⟨j,hj⟩:=Nat.exists_testBit_of_ne_zero h;have h16:j<16:=by
   apply Classical.byContradiction;intro hn;rw[Nat.testBit_and,Nat.testBit_lt_two_pow (x:=63473) (i:=j) (Nat.lt_of_lt_of_le (by decide:63473<2^16) (Nat.pow_le_pow_right (by omega) (by omega)))]at hj;simp at hj
  exact⟨j,Nat.zero_le _,by omega,(hbit j h16).2 hj⟩
 rintro⟨j,_,hj,h⟩ e;have:=(hbit j (by omega)).1 h;rw[e]at this;simp at this
theorem Qb4(f k P:Nat)(hk:k<16)(hP:P=2^k):lW f k=((f/P%2==1)&&(P != 2&&P != 4&&P != 8&&P != 2048)):=by
 unfold lW;rw[<-hP];congr 1;rw[hP];rcases(by omega:k=0\/k=1\/k=2\/k=3\/k=4\/k=5\/k=6\/k=7\/k=8\/k=9\/k=10\/k=11\/k=12\/k=13\/k=14\/k=15)with rfl|rfl|rfl|rfl|rfl|rfl|rfl|rfl|rfl|rfl|rfl|rfl|rfl|rfl|rfl|rfl<;>decide
theorem Qfp(k:Nat)(h:k<16):2*2^k<=65536:=by
 have:=Nat.pow_le_pow_right (n:=2) (by omega) (show k+1<=16 by omega);rw[Nat.pow_succ]at this;omega
theorem Qit(w:World)(f:Nat)(hf:f<65536): Calls Tryz.prog 226 #[.int .i64 (f:Int)] w fun e w'=>e=.returned (.bool (aU f))/\Touch (fun _=>False) w w':=by
 obtain⟨R,hR⟩:∃R,R=aU f:=⟨_,rfl⟩;have HR:Hid (R=Jd f (16-0) 0):=by unfold Hid;rw[hR,Qhg]
 rw[<-hR];clear hR;go_enter Tryz.func226,Tryz.ntmps226;go_wp2;go_loopw [3,4] (fun v i wr=>∃(k P:Nat),k<=16/\Hid (P=2^k)/\1<=P/\P<=65536/\v=.int .i64 (P:Int)/\i=.int .i64 (k:Int)/\Hid (R=Jd f (16-k) k)/\Touch (fun _=>False) w wr) (fun v i wr=>16-(intOf i).toNat)
 case atStart=>exact⟨0,1,by omega,rfl,by omega,by omega,rfl,rfl,HR,Touch.refl _ _⟩
 case round=>
  obtain⟨k,P,hk,HP,hp1,hp2,rfl,rfl,HK,ht⟩:=hrel;by_cases hlt:k<16
  .have hlt':(k:Int)<16:=by omega
   have e0:¬(P:Int)=0:=by omega
   obtain⟨B,hB⟩:∃B,B=f/P%2:=⟨_,rfl⟩;have eb:(wrap64 ((f:Int)/(P:Int))).tmod 2=(B:Int):=by
    have q1:((f:Int)/(P:Int))=((f/P:Nat):Int):=rfl;have q2:f/P<=f:=Nat.div_le_self _ _;rw[q1];generalize f/P=D at q2 hB;have q3:wrap64 (D:Int)=(D:Int):=(by unfold wrap64;omega);rw[q3,Int.tmod_eq_emod_of_nonneg (by omega),hB];rfl
   have HX:Hid (R=(((B==1)&&(P != 2&&P != 4&&P != 8&&P != 2048))||Jd f (16-(k+1)) (k+1))):=by
    unfold Hid;rw[HK.out,show 16-k=(16-(k+1))+1 by omega,Jd,Qb4 f k P hlt HP.out,<-hB]
   have HN:Hid (2*P=2^(k+1)):=by unfold Hid;rw[HP.out,Nat.pow_succ,Nat.mul_comm]
   have hp3:2*P<=65536:=by rw[HP.out];exact Qfp k hlt
   have NEXT:Hid ((((B==1)&&(P != 2&&P != 4&&P != 8&&P != 2048))=false)->R=Jd f (16-(k+1)) (k+1)):=by
    intro h;rw[HX.out,h,Bool.false_or]
   clear HK hB;by_cases hb:B=1
   .have hbi:(B:Int)=1:=(by omega);by_cases h2:P=2
    .have ch2:((P:Int) != 2)=false:=(by simp;omega);have HR2:Hid (R=Jd f (16-(k+1)) (k+1)):=NEXT.out (by simp[h2]);clear HX NEXT h2;go_wp2;exact⟨⟨k+1,2*P,by omega,HN,by omega,by omega,by go_num,by go_num,HR2,ht⟩,by simp[intOf];omega⟩
    have b2:((P:Int) != 2)=true:=(by simp;omega);by_cases h4:P=4
    .have ch4:((P:Int) != 4)=false:=(by simp;omega);have HR2:Hid (R=Jd f (16-(k+1)) (k+1)):=NEXT.out (by simp[h4]);clear HX NEXT h4;go_wp2;exact⟨⟨k+1,2*P,by omega,HN,by omega,by omega,by go_num,by go_num,HR2,ht⟩,by simp[intOf];omega⟩
    have b4:((P:Int) != 4)=true:=(by simp;omega);by_cases h8:P=8
    .have ch8:((P:Int) != 8)=false:=(by simp;omega);have HR2:Hid (R=Jd f (16-(k+1)) (k+1)):=NEXT.out (by simp[h8]);clear HX NEXT h8;go_wp2;exact⟨⟨k+1,2*P,by omega,HN,by omega,by omega,by go_num,by go_num,HR2,ht⟩,by simp[intOf];omega⟩
    have b8:((P:Int) != 8)=true:=(by simp;omega);by_cases hz:P=2048
    .have chz:((P:Int) != 2048)=false:=(by simp;omega);have HR2:Hid (R=Jd f (16-(k+1)) (k+1)):=NEXT.out (by simp[hz]);clear HX NEXT hz;go_wp2;exact⟨⟨k+1,2*P,by omega,HN,by omega,by omega,by go_num,by go_num,HR2,ht⟩,by simp[intOf];omega⟩
    have i2:¬(P:Int)=2:=(by omega);have i4:¬(P:Int)=4:=(by omega);have i8:¬(P:Int)=8:=(by omega);have iz:¬(P:Int)=2048:=(by omega);have HE:Hid (R=true):=(by unfold Hid;rw[HX.out];simp[hb,h2,h4,h8,hz]);clear HX NEXT;go_wp2;go_ret;exact⟨by rw[HE.out];rfl,ht⟩
   have hbi:¬(B:Int)=1:=by omega
   have HR2:Hid (R=Jd f (16-(k+1)) (k+1)):=NEXT.out (by simp[hb]);clear HX NEXT;go_wp2;exact⟨⟨k+1,2*P,by omega,HN,by omega,by omega,by go_num,by go_num,HR2,ht⟩,by simp[intOf];omega⟩
  obtain rfl:k=16:=by omega
  have HE:Hid (R=false):=by unfold Hid;rw[HK.out];rfl
  clear HK;go_wp2;go_ret;exact⟨by rw[HE.out];rfl,ht⟩
def xZ(r:Ending)(k:Nat):Prop:=∃(nm:ByteArray) (x1 x2 x3 x4 x5 x6 x7 x8 x9 x10 x11 x12:Int),r=.returned (.tuple #[.agg #[.string nm,.int .i64 x1,.int .i64 x2,.int .i64 x3,.int .i64 x4,.int .i64 x5,.int .i64 x6,.int .i64 x7,.int .i64 x8,.int .i64 x9,.int .i64 x10,.int .i64 x11,.int .i64 x12],.int .i64 0,.int .i64 (k:Int)])
def Am(e:Eo):Nat×Nat×Nat:=(Aa e.three 0 4,Aa e.three 4 4,Aa e.three 8 4)
def Oe(R:Option (Eo×Nat))(r:Ending):Prop:=match R with
 |none=>xZ r 5
 |some (e,q)=>if Aw e=0 then r=.returned (.tuple #[.agg (zQ e (Am e) 0 0 0).toArray,.int .i64 (q:Int),.int .i64 0])else xZ r (Aw e)
theorem Tf{R:Option (Eo×Nat)}(h:R=none)(nm:ByteArray)(x1 x2 x3 x4 x5 x6 x7 x8 x9 x10 x11 x12:Int):Oe R (.returned (.tuple #[.agg #[.string nm,.int .i64 x1,.int .i64 x2,.int .i64 x3,.int .i64 x4,.int .i64 x5,.int .i64 x6,.int .i64 x7,.int .i64 x8,.int .i64 x9,.int .i64 x10,.int .i64 x11,.int .i64 x12],.int .i64 0,.int .i64 5])):=by
 subst h;exact⟨nm,x1,x2,x3,x4,x5,x6,x7,x8,x9,x10,x11,x12,rfl⟩
theorem Ur{R:Option (Eo×Nat)}{e:Eo}{q k:Nat}(h:R=some (e,q))(hk:Aw e=k)(h0:k≠0)(nm:ByteArray)(x1 x2 x3 x4 x5 x6 x7 x8 x9 x10 x11 x12:Int):Oe R (.returned (.tuple #[.agg #[.string nm,.int .i64 x1,.int .i64 x2,.int .i64 x3,.int .i64 x4,.int .i64 x5,.int .i64 x6,.int .i64 x7,.int .i64 x8,.int .i64 x9,.int .i64 x10,.int .i64 x11,.int .i64 x12],.int .i64 0,.int .i64 (k:Int)])):=by
 subst h;show(if Aw e=0 then _ else xZ _ (Aw e));rw[hk,if_neg h0];exact⟨nm,x1,x2,x3,x4,x5,x6,x7,x8,x9,x10,x11,x12,rfl⟩
theorem XB.other{w:World}{b c:Nat}{l:List Value}(h:XB w b l)(k:Nat)(v:Value)(hne:b≠c):XB (w.setCell ⟨c,k,none⟩ v) b l:=
 h.keep (Bf w c k v) hne
theorem Zv(s:ByteArray)(h:Ci s=true):0<s.size:=by
 by_cases h0:s.size=0
 .exfalso;have e:s.toList=[]:=by rw[ByteArray.toList_eq];exact List.eq_nil_of_length_eq_zero (by simpa using h0)
  unfold Ci Ak Aj at h;rw[e]at h;simp[Az,Jb]at h
 omega
theorem Qhc{R:Option (Eo×Nat)}{e:Eo}{q:Nat}{n16 n20 n24:Nat}{Q:Int}(h:R=some (e,q))(hk:Aw e=0)(hf:Am e=(n16,n20,n24))(hq:Q=(q:Int)): Oe R (.returned (.tuple #[.agg #[.string e.name,.int .i64 (e.method:Int),.int .i64 (e.sum:Int),.int .i64 (e.packed:Int),.int .i64 (e.size:Int),.int .i64 0,.int .i64 (e.flags:Int),.int .i64 (e.ahead:Int),.int .i64 (n16:Int),.int .i64 (n20:Int),.int .i64 (n24:Int),.int .i64 0,.int .i64 0],.int .i64 Q,.int .i64 0])):=by
 subst h hq;show(if Aw e=0 then _ else xZ _ (Aw e));rw[if_pos hk,hf];rfl
theorem vC(s:ByteArray)(E p:Nat)(e:Eo)(q:Nat)(hE:E<=s.size)(h:Ig s E p=some (e,q)):e.three.size=12:=by
 unfold Ig at h;simp only at h;split at h
 .rename_i hc;cases hw:Bg s (p+46+Aa s (p+28) 2+Aa s (p+30) 2) (Aa s (p+30) 2+1) (p+46+Aa s (p+28) 2) none with
  |none=>rw[hw]at h;cases h
  |some found=>
   rw[hw]at h;simp only[Option.bind_some]at h;cases hm:Mc s (found.getD (0,0)).1 (found.getD (0,0)).2 (Aa s (p+24) 4) (Aa s (p+20) 4) (Aa s (p+42) 4)with
   |none=>rw[hm]at h;cases h
   |some m=>
    rw[hm]at h;simp only[Option.bind_some,Option.some.injEq,Prod.mk.injEq]at h;obtain⟨rfl,rfl⟩:=h;show(s.extract (p+16) (p+28)).size=12;rw[ByteArray.size_extract];omega
 cases h
theorem dX(s:ByteArray)(E:Nat)(hE:E<=s.size):∀(f p:Nat) (acc l:List Eo),Ce s E f p acc=.ok l->(∀e∈acc,Na e/\Aw e=0/\e.three.size=12)->∀e∈l,Na e/\Aw e=0/\e.three.size=12
 |0,p,acc,l,h,ha=>by
  unfold Ce at h;split at h;.cases h;exact ha
  cases h
 |f+1,p,acc,l,h,ha=>by
  unfold Ce at h;split at h;.cases h
  rename_i e q he;split at h
  .rename_i hf;refine dX s E hE f q _ l h ?_;intro x hx;rw[List.mem_append]at hx;rcases hx with hx|hx;.exact ha x hx
   simp at hx;rw[hx];exact⟨(Vz s E p e q he).2.2,hf,vC s E p e q hE he⟩
  cases h
def Sj(s:ByteArray)(e:Eo):Nat:=e.ahead+30+Aa s (e.ahead+26) 2+Aa s (e.ahead+28) 2
def Qd7(s:ByteArray)(e:Eo):Nat:=Sj s e+e.packed+(if Fh e then 16 else 0)
@[reducible] def Hd1(s:ByteArray)(P:Nat)(e:Eo):Prop:=e.ahead+30<=P/\Qd7 s e<=P/\Eg s e.ahead 3 4=true/\Aa s (e.ahead+6) 2=e.flags/\Aa s (e.ahead+8) 2=e.method/\s.extract (e.ahead+30) (e.ahead+30+Aa s (e.ahead+26) 2)=e.name
@[reducible] def Hd2(s:ByteArray)(e:Eo):Prop:=(Aa s (e.ahead+14) 4=(Am e).1/\Aa s (e.ahead+18) 4=(Am e).2.1/\Aa s (e.ahead+22) 4=(Am e).2.2)\/(Fh e=true/\Aa s (e.ahead+14) 4=0/\Aa s (e.ahead+18) 4=0/\Aa s (e.ahead+22) 4=0)
@[reducible] def Hd3(s:ByteArray)(e:Eo):Prop:=Fh e=true->Eg s (Sj s e+e.packed) 7 8=true/\Aa s (Sj s e+e.packed+4) 4=e.sum/\Aa s (Sj s e+e.packed+8) 4=e.packed%4294967296/\Aa s (Sj s e+e.packed+12) 4=e.size%4294967296
theorem yP(s:ByteArray)(P:Nat)(e:Eo)(hP:P<=s.size)(h3:e.three.size=12):(¬(Hd1 s P e/\Hd2 s e/\Hd3 s e)->Gj s P e=none)/\(Hd1 s P e/\Hd2 s e/\Hd3 s e->Gj s P e=some (Sj s e,Qd7 s e)):=by
 have key:(Hd1 s P e/\Hd2 s e/\Hd3 s e)↔(e.ahead+30<=P/\Sj s e+e.packed+(if Fh e then 16 else 0)<=P/\Eg s e.ahead 3 4=true/\Aa s (e.ahead+6) 2=e.flags/\Aa s (e.ahead+8) 2=e.method/\s.extract (e.ahead+30) (e.ahead+30+Aa s (e.ahead+26) 2)=e.name /\ (s.extract (e.ahead+14) (e.ahead+26)=e.three\/(Fh e=true/\s.extract (e.ahead+14) (e.ahead+26)=⟨#[0,0,0,0,0,0,0,0,0,0,0,0]⟩)) /\ (Fh e=true->Eg s (Sj s e+e.packed) 7 8=true/\Aa s (Sj s e+e.packed+4) 4=e.sum/\Aa s (Sj s e+e.packed+8) 4=e.packed%4294967296/\Aa s (Sj s e+e.packed+12) 4=e.size%4294967296)):=by
  have t1:e.ahead+30<=P->(s.extract (e.ahead+14) (e.ahead+26)=e.three↔Aa s (e.ahead+14) 4=(Am e).1/\Aa s (e.ahead+18) 4=(Am e).2.1/\Aa s (e.ahead+22) 4=(Am e).2.2):=fun h=>twelve s e.three (e.ahead+14) (by omega) h3;have t2:e.ahead+30<=P->(s.extract (e.ahead+14) (e.ahead+26)=⟨#[0,0,0,0,0,0,0,0,0,0,0,0]⟩↔Aa s (e.ahead+14) 4=0/\Aa s (e.ahead+18) 4=0/\Aa s (e.ahead+22) 4=0):=fun h=>lQ s (e.ahead+14) (by omega);constructor
  .rintro⟨⟨a1,a2,a3,a4,a5,a6⟩,b,c⟩;exact⟨a1,a2,a3,a4,a5,a6,b.imp (t1 a1).2 (fun h=>⟨h.1,(t2 a1).2 h.2⟩),c⟩
  rintro⟨a1,a2,a3,a4,a5,a6,b,c⟩;exact⟨⟨a1,a2,a3,a4,a5,a6⟩,b.imp (t1 a1).1 (fun h=>⟨h.1,(t2 a1).1 h.2⟩),c⟩
 constructor
 .intro h;rw[key]at h;exact if_neg h
 intro h;rw[key]at h;exact if_pos h
structure RE where
 Af:Eo
 place:Nat
 from_:Nat
 to_:Nat
def Vo(x:RE):List Value:=zQ x.Af (Am x.Af) x.place x.from_ x.to_
def Qh(e:Eo):RE:=⟨e,0,0,0⟩
def Sl(x:Ai):RE:=⟨x.Af,x.place,x.Af.ahead,x.stop⟩
structure Vh (w:World) (g:Nat) (L:List RE):Prop where
 cells:∀i (h:i<L.length) j,j<13->w.cell? ⟨g,i*13+j,none⟩=(Vo L[i])[j]?
 frozen:∀i,w.frozen? ⟨g,i,none⟩=false
 lt:g<w.heap.size
theorem Vh.keep{S:Nat->Prop}{w w':World}{g:Nat}{L:List RE}(h:Vh w g L)(ht:Touch S w w')(hs:¬S g):Vh w' g L:=
 ⟨fun i hi j hj=>(ht.cell (p:=⟨g,i*13+j,none⟩) h.lt hs).trans (h.cells i hi j hj),fun i=>(ht.frozen (p:=⟨g,i,none⟩) h.lt hs).trans (h.frozen i),Nat.lt_of_lt_of_le h.lt ht.size⟩
def lC(l:List Eo):List Value:=l.flatMap fun e=>Vo (Qh e)
theorem mZ(l:List Eo)(e:Eo):lC (l++[e])=lC l++Vo (Qh e):=by simp[lC]
theorem Qfy(l:List Eo):∀i (h:i<l.length) j,j<13->(lC l)[i*13+j]?=(Vo (Qh l[i]))[j]?:=by
 induction l with
 |nil=>intro i h;simp at h
 |cons a l ih=>
  intro i h j hj;have e:lC (a::l)=Vo (Qh a)++lC l:=rfl;have hl:(Vo (Qh a)).length=13:=rfl;cases i with
  |zero=>rw[e,List.getElem?_append_left (by omega)];simp
  |succ i=>
   have:=ih i (by simpa using h) j hj;rw[e,List.getElem?_append_right (by omega),hl,show(i+1)*13+j-13=i*13+j by omega,this];rfl
theorem Vh.owned{w:World}{base g cap:Nat}{l:List Eo}(h:w.ownsRow base 248 13 (.slice (some ⟨g,0,none⟩) l.length cap) l.length (lC l)):base<=g/\Vh w g (l.map Qh):=by
 obtain⟨h1,⟨h2,_⟩|⟨g',cap',cur,e,hb,hg,h3,h4,h5,h6⟩⟩:=h;.cases h2
 cases e;refine⟨hb,⟨fun i hi j hj=>?_,fun i=>Cb hg i,(Array.getElem?_eq_some_iff.1 hg).1⟩⟩;have hi':i<l.length:=by simpa using hi
 have hlt:i*13+j<l.length*13:=by omega
 have:=Qfy l i hi' j hj;rw[Ac hg (i*13+j)];simp only[List.getElem_map];rw[<-this,<-h6,List.getElem?_take_of_lt hlt];simp
structure Refs (w:World) (a:Option Addr) (g:Nat) (L:List RE):Prop where
 ptr:0<L.length->a=some ⟨g,0,none⟩
 at_:0<L.length->Vh w g L
theorem Refs.keep{S:Nat->Prop}{w w':World}{a:Option Addr}{g:Nat}{L:List RE}(h:Refs w a g L)(ht:Touch S w w')(hs:¬S g):Refs w' a g L:=
 ⟨h.ptr,fun h0=>(h.at_ h0).keep ht hs⟩
theorem Refs.drewN{w:World}{a:Option Addr}{g:Nat}{L:List RE}(h:Refs w a g L)(n:Nat):Refs (w.drewN n) a g L:=h.keep ((Touch.refl (fun _=>False) w).drewN n) (fun e=>e)
theorem XB.drewN{w:World}{b:Nat}{l:List Value}(h:XB w b l)(n:Nat):XB (w.drewN n) b l:=h.keep ((Touch.refl (fun _=>False) w).drewN n) (fun e=>e)
def Em(base:Nat)(R:Except Nat (List Ai))(r:Ending)(w':World):Prop:=match R with
 |.error k=>r=.returned (.tuple #[.slice none 0 0,.int .i64 (k:Int)])
 |.ok L=>∃a cap g,r=.returned (.tuple #[.slice a (L.map Sl).length cap,.int .i64 0])/\base<=g/\Refs w' a g (L.map Sl)
def Kv{α:Type}(r:α->α->Bool)(l:List α)(i:Nat):Prop:=∀a b (ha:a<l.length) (hb:b<l.length),a<b->b<i->r l[a] l[b]=false
theorem Kv.all{α:Type}{r:α->α->Bool}{l:List α}(h:Kv r l l.length):Bl r l=false:=by
 rw[Gz,List.pairwise_iff_getElem];exact fun i j hi hj hij=>h i j hi hj hij hj
theorem Kv.step{α:Type}{r:α->α->Bool}{l:List α}{i:Nat}(h:Kv r l i)(hi:i<l.length)(hk:∀k (hk:k<i),r (l[k]'(by omega)) l[i]=false):Kv r l (i+1):=by
 intro a b ha hb hab hbi;by_cases e:b=i;.subst e;exact hk a hab
 exact h a b ha hb hab (by omega)
theorem Yy{α:Type}{r:α->α->Bool}{l:List α}(k i:Nat)(hk:k<l.length)(hi:i<l.length)(hki:k<i)(h:r l[k] l[i]=true):Bl r l=true:=by
 cases hh:Bl r l with
 |true=>rfl
 |false=>
  rw[Gz,List.pairwise_iff_getElem]at hh;rw[hh k i hk hi hki]at h;cases h
def qC(l:List Eo)(sz:Eo->Nat)(i:Nat):Nat:=((l.take i).map sz).sum
theorem bJ(l:List Eo)(sz:Eo->Nat)(i:Nat)(h:i<l.length):qC l sz (i+1)=qC l sz i+sz l[i]:=by
 unfold qC;rw[List.take_succ_eq_append_getElem h,List.map_append,List.sum_append];simp
theorem wE(l:List Eo)(sz:Eo->Nat):qC l sz l.length=(l.map sz).sum:=by
 unfold qC;rw[List.take_length]
theorem qE(l:List Eo)(sz:Eo->Nat)(B:Nat)(h:∀e∈l,sz e<=B):∀i,i<=l.length->qC l sz i<=i*B
 |0,_=>by simp[qC]
 |i+1,hi=>by
  have ih:=qE l sz B h i (by omega);rw[bJ l sz i (by omega),Nat.add_mul];have:=h l[i] (List.getElem_mem _);omega
def Qa(f:Eo->RE)(l:List Eo)(k:Nat):List RE:=(l.take k).map f++(l.drop k).map Qh
theorem Nv(f:Eo->RE)(l:List Eo)(k:Nat):(Qa f l k).length=l.length:=by
 unfold Qa;rw[List.length_append,List.length_map,List.length_map,List.length_take,List.length_drop];omega
theorem xR(f:Eo->RE)(l:List Eo):Qa f l 0=l.map Qh:=by simp[Qa]
theorem Qcy(f:Eo->RE)(l:List Eo):Qa f l l.length=l.map f:=by simp[Qa]
theorem Xi(f:Eo->RE)(l:List Eo)(k i:Nat)(hi:i<l.length):(Qa f l k)[i]'(by rw[Nv];exact hi)=if i<k then f l[i]else Qh l[i]:=by
 unfold Qa;by_cases h:i<k
 .rw[List.getElem_append_left (by rw[List.length_map,List.length_take];omega),if_pos h];simp
 rw[List.getElem_append_right (by rw[List.length_map,List.length_take];omega),if_neg h];simp only[List.getElem_map,List.getElem_drop,List.length_map,List.length_take];congr 1;congr 1;omega
theorem Vh.put{w w':World}{g:Nat}{f:Eo->RE}{l:List Eo}{k:Nat}(h:Vh w g (Qa f l k))(hk:k<l.length)(hent:∀j,j<13->w'.cell? ⟨g,k*13+j,none⟩=(Vo (f l[k]))[j]?)(ho:∀i j,i≠k->j<13->w'.cell? ⟨g,i*13+j,none⟩=w.cell? ⟨g,i*13+j,none⟩)(hz:∀i,w'.frozen? ⟨g,i,none⟩=false)(hl:g<w'.heap.size):Vh w' g (Qa f l (k+1)):=by
 refine⟨fun i hi j hj=>?_,hz,hl⟩;have hi':i<l.length:=by rw[Nv]at hi;exact hi
 rw[Xi f l (k+1) i hi'];by_cases e:i=k
 .subst e;rw[if_pos (by omega)];exact hent j hj
 rw[ho i j e hj,h.cells i (by rw[Nv];exact hi') j hj,Xi f l k i hi'];by_cases h2:i<k;.rw[if_pos h2,if_pos (by omega)]
 rw[if_neg h2,if_neg (by omega)]
theorem Vb(s:ByteArray)(P:Nat):∀(l:List Eo) (e:Eo),e∈l->Gj s P e=none->spansOf s P l=none
 | [],e,h,_=>by cases h
 |a::l,e,h,hn=>by
  unfold spansOf;rw[List.mem_cons]at h;rcases h with rfl|h;.rw[hn];rfl
  cases Gj s P a with
  |none=>rfl
  |some p=>rw[Option.bind_some,Vb s P l e h hn];rfl
def Vl(s:ByteArray)(P:Nat)(e:Eo):Ai:=match Gj s P e with
 |some p=>⟨e,p.1,p.2⟩
 |none=>⟨e,0,0⟩
theorem dY(s:ByteArray)(P:Nat):∀(l:List Eo),(∀e∈l,Gj s P e≠none)->spansOf s P l=some (l.map (Vl s P))
 | [],_=>rfl
 |a::l,h=>by
  unfold spansOf;have ih:=dY s P l (fun e he=>h e (List.mem_cons_of_mem _ he));cases ha:Gj s P a with
  |none=>exact absurd ha (h a (List.mem_cons_self ..))
  |some p=>rw[Option.bind_some,ih];simp[Vl,ha]
def Qaz:Option (Nat×Nat)->Value
 |none=>.tuple #[.int .i64 0,.int .i64 0,.bool false]
 |some (b,t)=>.tuple #[.int .i64 (b:Int),.int .i64 (t:Int),.bool true]
theorem Vh.Qjc{wr W:World}{g m sb gK P:Nat}{s:ByteArray}{l:List Eo}(hR:Vh wr g (Qa (fun e=>Sl (Vl s P e)) l m))(hm:m<l.length)(h:Gj s P l[m]=some (sb,gK))(T:Touch (fun _=>False) wr W): Refs (((W.setCell ⟨g,m*13+5,none⟩ (.int .i64 (sb:Int))).setCell ⟨g,m*13+11,none⟩ (.int .i64 (l[m].ahead:Int))).setCell ⟨g,m*13+12,none⟩ (.int .i64 (gK:Int))) (some ⟨g,0,none⟩) g (Qa (fun e=>Sl (Vl s P e)) l (m+1)):=by
 have hK:=hR.keep T (fun e=>e);refine⟨fun _=>rfl,fun _=>hK.put hm ?_ ?_ ?_ ?_⟩
 .intro j hj;have hc:W.cell? ⟨g,m*13+j,none⟩=(Vo (Qh l[m]))[j]?:=by
   have:=hK.cells m (by rw[Nv];exact hm) j hj;rw[Xi _ l m m hm,if_neg (Nat.lt_irrefl _)]at this;exact this
  have he:Sl (Vl s P l[m])=⟨l[m],sb,l[m].ahead,gK⟩:=by unfold Vl;rw[h];rfl
  show _=(Vo (Sl (Vl s P l[m])))[j]?;rw[he,Ad,Ad,Ad,hc];rcases(by omega:j=0\/j=1\/j=2\/j=3\/j=4\/j=5\/j=6\/j=7\/j=8\/j=9\/j=10\/j=11\/j=12)with rfl|rfl|rfl|rfl|rfl|rfl|rfl|rfl|rfl|rfl|rfl|rfl|rfl<;>simp[Vo,zQ,Qh]
 .intro i j hi hj;rw[Aq (by omega),Aq (by omega),Aq (by omega)]
 .intro i;rw[World.frozen?_setCell,World.frozen?_setCell,World.frozen?_setCell];exact hK.frozen i
 simpa using hK.lt
end Go.Proofs.YtmhlkdlcpicekaaGreatDoor
