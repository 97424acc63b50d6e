/- Joined. -/
import Derived.Test.YtmhlkdlcpicekaaGreatDoorJ27
set_option linter.unusedSimpArgs false
set_option linter.unusedVariables false
set_option maxRecDepth 100000
set_option maxHeartbeats 20000000
namespace Go.Proofs.YtmhlkdlcpicekaaGreatDoor
open Go.RowKit Go.Maps Go.MuLone
def sG(l:List Fold)(folder:ByteArray):Option (List Gn):=(l.find? fun x=>Ir x==folder.data.toList).map (·.2)
theorem sS{l:List Fold}{folder:ByteArray}(h:sG l folder=none):folder.data.toList∉l.map Ir:=by
 unfold sG at h;rw[Option.map_eq_none_iff,List.find?_eq_none]at h;intro hm;obtain⟨x,hx,e⟩:=List.mem_map.1 hm;exact h x hx (by simp[e])
theorem Ze{l:List Fold}{folder:ByteArray}{o:List Gn}(h:sG l folder=some o):∃x∈l,Ir x=folder.data.toList/\x.2=o:=by
 unfold sG at h;rw[Option.map_eq_some_iff]at h;obtain⟨x,hx,e⟩:=h;have h1:=List.find?_some hx;exact⟨x,List.mem_of_find?_eq_some hx,by simpa using h1,e⟩
theorem Qet(w:World)(S:Nat)(sh be:Option Nat)(c:Bo)(np:Bool)(folder:ByteArray)(h:SB w S 0 sh be c np)(HLK:Hid (∀W,Touch (fun k=>k=S) w W->(Instr.lookup 84 (.map sh) (.string folder) true).run Tryz.prog W=.ok (.tuple #[Qn,.bool false]) W)): Calls Tryz.prog 16 #[.pointer (some ⟨S,0,none⟩),.string folder] w fun r w'=>r=.returned (.tuple #[.slice none 0 0,.int .i64 16])/\SB w' S 0 sh be c np/\Touch (fun k=>k=S) w w':=by
 have h1:=h.lock 1;obtain⟨c0,c2,c3,c4,c5,c6,c7⟩:=h.cs;have f0:=h.fr 0;obtain⟨d0,d2,d3,d4,d5,d6,d7⟩:=h1.cs;have t1:=Ba w S 0 (.int .i32 1);have hlk:=HLK.out _ t1;go_enter_defers Tryz.func16,Tryz.ntmps16;go_wp2_with (go_at_call 33;refine(lock_free muLib ⟨S,0,none⟩ _ c0 f0).mono ?_;rintro e w' ⟨rfl,rfl⟩);refine leaves_cons (f:=34) (args:=#[.pointer (some ⟨S,0,none⟩)]) (by simp) (by simp[go_sem]) ?_;refine(unlock_deferred muLib ⟨S,0,none⟩ .returning _ d0 (h1.fr 0)).mono ?_;rintro e u' w'' ⟨rfl,rfl,rfl⟩;refine⟨_,?_,rfl,h1.lock 0,t1.trans (Ba _ _ _ _)⟩;first|exact results_two rfl _ _ _|(simp[results,Tryz.results16,go_sem])
theorem Qc2(w:World)(S:Nat)(sh be:Option Nat)(c:Bo)(np:Bool)(folder:ByteArray)(v:Value)(fl:List Gn)(h:SB w S 0 sh be c np)(hfl:fl.length<=1000000000000)(HLK:Hid (∀W,Touch (fun k=>k=S) w W->(Instr.lookup 84 (.map sh) (.string folder) true).run Tryz.prog W=.ok (.tuple #[v,.bool true]) W/\W.ownsRow 0 41 2 v fl.length (Ar fl))): Calls Tryz.prog 16 #[.pointer (some ⟨S,0,none⟩),.string folder] w fun r w'=>∃v',r=.returned (.tuple #[v',.int .i64 0])/\w'.ownsRow w.heap.size 41 2 v' fl.length (Ar fl)/\SB w' S 0 sh be c np/\Touch (fun k=>k=S) w w':=by
 have h1:=h.lock 1;obtain⟨c0,c2,c3,c4,c5,c6,c7⟩:=h.cs;have f0:=h.fr 0;have hlt:=h.lt;obtain⟨d0,d2,d3,d4,d5,d6,d7⟩:=h1.cs;have t1:=Ba w S 0 (.int .i32 1);have hs1:(w.setCell ⟨S,0,none⟩ (.int .i32 1)).heap.size=w.heap.size:=by simp
 obtain⟨hlk,hrow⟩:=HLK.out _ t1;have HCL:Hid (Calls Tryz.prog 40 #[v] (w.setCell ⟨S,0,none⟩ (.int .i32 1)) fun r w'=>∃v',r=.returned v'/\w'.ownsRow w.heap.size 41 2 v' fl.length (Ar fl)/\Touch (fun _=>False) (w.setCell ⟨S,0,none⟩ (.int .i32 1)) w'):=by
  have:=sN _ v fl hrow hfl;rw[hs1]at this;exact this
 obtain⟨W1,hW1⟩:∃W1,W1=w.setCell ⟨S,0,none⟩ (.int .i32 1):=⟨_,rfl⟩;have HW1:Hid (W1=w.setCell ⟨S,0,none⟩ (.int .i32 1)):=hW1;rw[<-hW1]at h1 hlk hrow HCL t1 d0 d2 d3 d4 d5 d6 d7;clear hW1 hrow hs1 HLK;go_enter_defers Tryz.func16,Tryz.ntmps16;go_wp2_with fail;refine(lock_free muLib ⟨S,0,none⟩ _ c0 f0).mono ?_;rintro e w' ⟨rfl,rfl⟩;rw[<-HW1.out];clear c0 c2 c3 c4 c5 c6 c7 f0;go_wp2_with (go_at_call 40;refine HCL.out.mono ?_;rintro e w2 ⟨v2,rfl,o2,t2⟩);have h2:=h1.keep t2 (fun e=>e);refine leaves_cons (f:=34) (args:=#[.pointer (some ⟨S,0,none⟩)]) (by simp) (by simp[go_sem]) ?_;refine(unlock_deferred muLib ⟨S,0,none⟩ .returning _ h2.cs.1 (h2.fr 0)).mono ?_;rintro e u' w'' ⟨rfl,rfl,rfl⟩;refine⟨.tuple #[v2,.int .i64 0],?_,v2,rfl,?_,h2.lock 0,(t1.trans (t2.wide (fun k e=>e.elim))).trans (Ba _ _ _ _)⟩;.simp[results,Tryz.results16,go_sem]
 exact(Ba _ _ _ _).owns o2 (fun q hq e=>by
  have:=(o2.lt q hq).1;omega)
theorem Qcp(w:World)(S:Nat)(G:Nat->Prop)(l:List Fold)(c:Bo)(np:Bool)(h:Xo w S G l c np)(folder:ByteArray)(hfs:folder.size<=140737488355328)(hll:∀x∈l,x.2.length<=1000000000000): Calls Tryz.prog 16 #[.pointer (some ⟨S,0,none⟩),.string folder] w fun r w'=>(match sG l folder with
   |none=>r=.returned (.tuple #[.slice none 0 0,.int .i64 16])
   |some o=>∃v,r=.returned (.tuple #[v,.int .i64 0])/\w'.ownsRow w.heap.size 41 2 v o.length (Ar o))/\Xo w' S G l c np/\Touch G w w':=by
 obtain⟨sh,be,hS,hG,hin⟩:=h.box;have hfin:∀w',SB w' S 0 sh be c np->Touch (fun k=>k=S) w w'->Xo w' S G l c np/\Touch G w w':=fun w' h3 t=>⟨⟨fun q hq=>Nat.lt_of_lt_of_le (h.low q hq) t.size,h.fP,sh,be,h3,hG,hin.box hS t (fun e=>e)⟩,t.wide (fun k e=>by rw[e];exact hG)⟩;cases hat:sG l folder with
 |none=>
  have hni:=sS hat
  refine(Qet w S sh be c np folder hS (fun W t=>?_)).mono ?_
  .rcases hin.box hS t (np':=np) (fun e=>e)with⟨rfl,rfl,rfl⟩|⟨m,b,ns,fs,nb,fb,rfl,rfl,hne,gm,gb,hm,hns,hsh,hbb,h00⟩;.exact Maps.look_nil true Yl Tryz.underlying84 (Pv _) (Go.WideMaps.keyOf_string_mk Tryz.underlying9 (show folder.size<=maxLen by unfold maxLen;omega))
   have hk:=hm.look Tryz.underlying84 (Pv _) folder (by unfold maxLen;omega);have hf:fs folder.data.toList=none:=by
    cases hx:fs folder.data.toList with
    |none=>rfl
    |some v=>exact absurd ((hsh.keys _).1 (by rw[hx];rfl)) hni
   rw[hf]at hk;exact hk
  rintro r w' ⟨rfl,h3,t⟩;exact⟨rfl,hfin w' h3 t⟩
 |some o=>
  obtain⟨x,hx,hk,rfl⟩:=Ze hat
  rcases id hin with⟨rfl,rfl,rfl⟩|⟨m,b,ns,fs,nb,fb,rfl,rfl,hne,gm,gb,hm,hns,hsh,hbb,h00⟩;.cases hx
  obtain⟨v,e1,e2,e3⟩:=hsh.rows x hx;refine(Qc2 w S (some m) (some b) c np folder v x.2 hS (hll x hx) (fun W t=>?_)).mono ?_
  .have hkk:=(hm.keep t (hm.Gf hS.hp)).look Tryz.underlying84 (Pv _) folder (by unfold maxLen;omega);rw[<-hk,e1]at hkk;refine⟨hkk,t.owns e2 (fun q hq e=>?_)⟩;subst e;exact absurd ((Typed.owned e2 hq).ne ⟨_,_,hS.hp⟩) (by decide)
  rintro r w' ⟨v',rfl,o',h3,t⟩;exact⟨⟨v',rfl,o'⟩,hfin w' h3 t⟩
def Za(l:List Fold):List Value:=l.map fun x=>.string x.1
theorem Qbu(l:List Fold):(l.map Ir).map encStr=Za l:=by
 unfold Za;rw[List.map_map];refine List.map_congr_left fun x _=>?_;show encStr x.1.data.toList=.string x.1;simp[encStr]
theorem Qcs(w:World)(S:Nat)(sh be:Option Nat)(c:Bo)(np:Bool)(n:Nat)(X:List Value)(h:SB w S 0 sh be c np)(HK:Hid (∀W,Touch (fun k=>k=S) w W->Calls Tryz.prog 38 #[.func (.func 80) #[] #[.pointer (some ⟨W.heap.size,0,none⟩)]] (W.alloc (.cells #[.map sh] 84)) fun e w'=>∃v,e=.returned v/\w'.ownsRow W.heap.size 9 1 v n X/\Touch (fun _=>False) W w')): Calls Tryz.prog 15 #[.pointer (some ⟨S,0,none⟩)] w fun r w'=>∃v',r=.returned v'/\w'.ownsRow w.heap.size 9 1 v' n X/\SB w' S 0 sh be c np/\Touch (fun k=>k=S) w w':=by
 have h1:=h.lock 1;obtain⟨c0,c2,c3,c4,c5,c6,c7⟩:=h.cs;have f0:=h.fr 0;have hlt:=h.lt;obtain⟨d0,d2,d3,d4,d5,d6,d7⟩:=h1.cs;have t1:=Ba w S 0 (.int .i32 1);have hs1:(w.setCell ⟨S,0,none⟩ (.int .i32 1)).heap.size=w.heap.size:=by simp
 have HS:=HK.out _ t1;obtain⟨W1,hW1⟩:∃W1,W1=w.setCell ⟨S,0,none⟩ (.int .i32 1):=⟨_,rfl⟩;have HW1:Hid (W1=w.setCell ⟨S,0,none⟩ (.int .i32 1)):=hW1;rw[<-hW1]at h1 HS t1 d0 d2 d3 d4 d5 d6 d7 hs1;have HS1:Hid (Calls Tryz.prog 38 #[.func (.func 80) #[] #[.pointer (some ⟨W1.heap.size,0,none⟩)]] (W1.alloc (.cells #[.map sh] 84)) fun e w'=>∃v,e=.returned v/\w'.ownsRow W1.heap.size 9 1 v n X/\Touch (fun _=>False) W1 w'):=HS;have HSZ:Hid (W1.heap.size=w.heap.size):=hs1;clear hW1 hs1 HK HS;go_enter_defers Tryz.func15,Tryz.ntmps15;go_wp2_with fail;refine(lock_free muLib ⟨S,0,none⟩ _ c0 f0).mono ?_;rintro e w' ⟨rfl,rfl⟩;rw[<-HW1.out];clear c0 c2 c3 c4 c5 c6 c7 f0;go_wp2_with fail;refine(Qih sh W1).mono ?_;rintro e w' ⟨rfl,rfl⟩;go_wp2_with fail;refine HS1.out.mono ?_;rintro e w2 ⟨v2,rfl,o2,t2⟩;go_wp2_with fail;have h2:=h1.keep t2 (fun e=>e);refine leaves_cons (f:=34) (args:=#[.pointer (some ⟨S,0,none⟩)]) (by simp) (by simp[go_sem]) ?_;refine(unlock_deferred muLib ⟨S,0,none⟩ .returning _ h2.cs.1 (h2.fr 0)).mono ?_;rintro e u' w'' ⟨rfl,rfl,rfl⟩;rw[HSZ.out]at o2;refine⟨_,results_tmp rfl _ _ _,v2,rfl,?_,h2.lock 0,(t1.trans (t2.wide (fun k e=>e.elim))).trans (Ba _ _ _ _)⟩;exact(Ba _ _ _ _).owns o2 (fun q hq e=>by
  have:=(o2.lt q hq).1;omega)
theorem tZ(w:World)(S:Nat)(G:Nat->Prop)(l:List Fold)(c:Bo)(np:Bool)(h:Xo w S G l c np)(hl:l.length<=1000000000): Calls Tryz.prog 15 #[.pointer (some ⟨S,0,none⟩)] w fun r w'=>∃v,r=.returned v/\w'.ownsRow w.heap.size 9 1 v l.length (Za l)/\Xo w' S G l c np/\Touch G w w':=by
 obtain⟨sh,be,hS,hG,hin⟩:=h.box;refine(Qcs w S sh be c np l.length (Za l) hS (fun W t=>?_)).mono ?_
 .rcases hin.box hS t (np':=np) (fun e=>e)with⟨rfl,rfl,rfl⟩|⟨m,b,ns,fs,nb,fb,rfl,rfl,hne,gm,gb,hm,hns,hsh,hbb,h00⟩
  .refine(rH W).mono ?_;rintro e w' ⟨rfl,t'⟩;exact⟨_,rfl,World.ownsRow_nil _ _ _ _,t'⟩
  obtain⟨D,ho,hh,hv⟩:=hm;have hsz:=ho.size_le;have hnd:(l.map Ir).Nodup:=h.fP.imp fun {a b} hab e=>by rw[e]at hab;exact List.lt_irrefl _ hab
  have hC:Collected D (fun _=>false) (l.map Ir):=⟨hnd,fun x=>by rw[hh x,hsh.keys x];simp⟩;have hpk:=hC.perm ho Yl Tryz.underlying9 (fun _=>rfl);refine(Qdi m ns D Qb1 W ho (by unfold maxLen;omega) (by omega)).mono ?_;rintro e w' ⟨v,ss,rfl,hp,hrow,t'⟩;have hps:=hp.trans hpk.symm;have e1:ss.mergeSort leB=l.map Ir:=by
   rw[mergeSort_of_perm hps];refine List.mergeSort_of_pairwise (h.fP.imp fun {a b} hab=>?_);exact decide_eq_true (List.le_of_lt hab)
  have e2:ss.length=l.length:=by rw[hps.length_eq,List.length_map]
  rw[e1,Qbu,e2]at hrow;exact⟨v,rfl,Je hrow (by simp),t'⟩
 rintro r w' ⟨v,rfl,ho,h3,t⟩;exact⟨v,rfl,ho,⟨fun q hq=>Nat.lt_of_lt_of_le (h.low q hq) t.size,h.fP,sh,be,h3,hG,hin.box hS t (fun e=>e)⟩,t.wide (fun k e=>by rw[e];exact hG)⟩
theorem Qby(w W:World)(S g cap:Nat)(a:Option Addr)(G:Nat->Prop)(l:List Fold)(c:Bo)(sh be:Option Nat)(folder:ByteArray)(o:List Gn)(h:SB w S 0 sh be c false)(hin:Inner w G l false sh be)(t:Touch (fun k=>k=S) w W)(hW:SB W S 1 sh be c false)(hok:Pj o)(hl:l.length<=1000000000)(hfo:folder.size<=maxLen)(hF:0<o.length->a=some ⟨g,0,none⟩/\Dc W g o): Calls Tryz.prog 36 #[.pointer (some ⟨S,0,none⟩),.string folder,.slice a o.length cap] W fun r w'=>∃m b ns fs,m≠b/\m≠S/\b≠S/\ns<=l.length/\(G m\/W.heap.size<=m)/\(G b\/W.heap.size<=b)/\aJ w' G fs l/\Lc S m b ns fs c false folder o W.heap.size r w'/\Touch (fun k=>k=S\/k=m\/k=b) W w':=by
 have hi:=hin.box h t (np':=false) (fun e=>e);rcases hi with⟨rfl,rfl,rfl⟩|⟨m,b,ns,fs,nb,fb,rfl,rfl,hne,gm,gb,hm,hns,hsh,hb,h0⟩
 .refine(Qbv W S g cap a c false folder o hok hW hfo hF).mono ?_;rintro r w' ⟨hp,t6⟩;have hlt:=hW.lt;exact⟨W.heap.size,W.heap.size+1,0,fun _=>none,by omega,by omega,by omega,Nat.zero_le _,.inr (Nat.le_refl _),.inr (by omega),⟨fun key=>(by simp),fun x hx=>(by cases hx)⟩,hp,t6⟩
 refine(Qco W S m b ns nb g cap a fs fb c false folder o hok hW hm hb (h0 rfl) hne (by unfold maxLen;omega) hfo hF).mono ?_;rintro r w' ⟨hp,t6⟩;refine⟨m,b,ns,fs,hne,hm.Gf hW.hp,hb.Gf hW.hp,hns,.inl gm,.inl gb,hsh.Qa6 t6 (fun q _ e cs z hc=>?_),hp,t6⟩;rcases e with rfl|rfl|rfl;.rw[hW.hp]at hc;cases hc
 .exact hm.Gf hc rfl
 exact hb.Gf hc rfl
def Ha(l:List Fold)(c:Bo)(np:Bool)(folder:ByteArray)(U:Sum Nat (List Gn)):Nat×List Fold×Bo×Bool:=
 if np then(14,l,c,true)else if Dq folder=false then(15,l,c,false)else if yX l folder then(8,l,c,false)else match U with
  |.inl k=>(k,l,c,false)
  |.inr o=>match takeC c (Eh o+1)with
   |some d=>(0,Oh l (folder,o),d,false)
   |none=>(14,l,if Jg c then none else some (0,false),!Jg c)
def ExtP(S:Nat)(G:Nat->Prop)(l:List Fold)(c:Bo)(folder:ByteArray)(o:List Gn)(W:World)(k:Int)(sh' be':Option Nat)(c':Bo)(np':Bool)(w6:World):Prop:=
 ∃m b ns fs,sh'=some m/\be'=some b/\m≠b/\m≠S/\b≠S/\ns<=l.length/\(G m\/W.heap.size<=m)/\(G b\/W.heap.size<=b)/\aJ w6 G fs l/\Touch (fun k=>k=S\/k=m\/k=b) W w6 /\
  match takeC c (Eh o+1)with
  |some d=>k=0/\c'=d/\np'=false/\(∃v,Ap w6 m (ns+1) (Jf fs folder.data.toList (some v))/\w6.ownsRow W.heap.size 41 2 v o.length (Ar o))/\Ap w6 b 0 (fun _=>none)
  |none=>k=14/\c'=(if Jg c then none else some (0,false))/\np'=(!Jg c)/\Ap w6 m ns fs/\∃n' f',Ap w6 b n' f'/\(Jg c=true->∀key,f' key=none)
theorem sW(w:World)(S:Nat)(G:Nat->Prop)(l:List Fold)(c:Bo)(np:Bool)(h:Xo w S G l c np)(folder A:ByteArray)(qe qn qb:Int)(hn:-9223372036854775808<=qn/\qn<=9223372036854775807)(hb:-9223372036854775808<=qb/\qb<=9223372036854775807)(hA:A.size<=2147483648)(hfs:folder.size<=140737488355328)(hl:l.length<=1000000000)(ho:Ord w)(h0:1<w.heap.size): Calls Tryz.prog 14 #[.pointer (some ⟨S,0,none⟩),.string folder,.string A,.agg #[.int .i64 qe,.int .i64 qn,.int .i64 qb]] w fun r w'=>∃G',r=.returned (.int .i64 ((Ha l c np folder (Gm A qe qn qb)).1:Int))/\Xo w' S G' (Ha l c np folder (Gm A qe qn qb)).2.1 (Ha l c np folder (Gm A qe qn qb)).2.2.1 (Ha l c np folder (Gm A qe qn qb)).2.2.2/\Touch G w w'/\(∀q,G q->G' q)/\∀q,G' q->G q\/w.heap.size<=q:=by
 obtain⟨sh,be,hS,hG,hin⟩:=h.box;have hOS:1≠S:=fun e=>by
  have h1:=ho 2 (by omega);rw[e,hS.cs.2.1]at h1;cases h1
 have hlow:∀w',Touch (fun k=>k=S) w w'->∀q,G q->q<w'.heap.size:=fun w' t q hq=>Nat.lt_of_lt_of_le (h.low q hq) t.size;cases np with
 |true=>
  refine(uQ w S sh be c folder A _ _ _ hS).mono ?_;rintro r w' ⟨rfl,h3,t⟩;exact⟨G,rfl,⟨hlow w' t,h.fP,sh,be,h3,hG,hin.box hS t (fun e=>e)⟩,t.wide (fun k e=>by rw[e];exact hG),fun q e=>e,fun q e=>.inl e⟩
 |false=>
  cases hfn:Dq folder with
  |false=>
   have e:Ha l c false folder (Gm A qe qn qb)=(15,l,c,false):=by unfold Ha;rw[if_neg (by simp),if_pos hfn]
   rw[e];refine(xI w S sh be c folder A _ _ _ hS hfs hfn).mono ?_;rintro r w' ⟨rfl,h3,t⟩;exact⟨G,rfl,⟨hlow w' t,h.fP,sh,be,h3,hG,hin.box hS t (fun e=>e)⟩,t.wide (fun k e=>by rw[e];exact hG),fun q e=>e,fun q e=>.inl e⟩
  |true=>
   cases hii:yX l folder with
   |true=>
    have e:Ha l c false folder (Gm A qe qn qb)=(8,l,c,false):=(by unfold Ha;rw[if_neg (by simp),if_neg (by simp[hfn]),if_pos hii]);rw[e];rcases id hin with⟨rfl,rfl,rfl⟩|⟨m,b,ns,fs,nb,fb,rfl,rfl,hne,gm,gb,hm,hns,hsh,hbb,h00⟩;.cases hii
    refine(kZ w S m ns fs (some b) c folder A _ _ _ hS hm hfs hfn ((hsh.keys _).2 ((Zk l folder).1 hii))).mono ?_;rintro r w' ⟨rfl,h3,t⟩;exact⟨G,rfl,⟨hlow w' t,h.fP,_,_,h3,hG,hin.box hS t (fun e=>e)⟩,t.wide (fun k e=>by rw[e];exact hG),fun q e=>e,fun q e=>.inl e⟩
   |false=>
    have hni:folder.data.toList∉l.map Ir:=fun e=>by rw[(Zk l folder).2 e]at hii;cases hii
    have HLK:∀W,Touch (fun k=>k=S) w W->(Instr.lookup 84 (.map sh) (.string folder) true).run Tryz.prog W=.ok (.tuple #[Qn,.bool false]) W:=fun W t=>by
     rcases hin.box hS t (np':=false) (fun e=>e)with⟨rfl,rfl,rfl⟩|⟨m,b,ns,fs,nb,fb,rfl,rfl,hne,gm,gb,hm,hns,hsh,hbb,h00⟩;.exact Maps.look_nil true Yl Tryz.underlying84 (Pv _) (Go.WideMaps.keyOf_string_mk Tryz.underlying9 (show folder.size<=maxLen by unfold maxLen;omega))
     have hk:=hm.look Tryz.underlying84 (Pv _) folder (by unfold maxLen;omega);have hf:fs folder.data.toList=none:=by
      cases hx:fs folder.data.toList with
      |none=>rfl
      |some v=>exact absurd ((hsh.keys _).1 (by rw[hx];rfl)) hni
     rw[hf]at hk;exact hk
    have HUU:∀W,Touch (fun k=>k=S) w W->Calls Tryz.prog 11 #[.string A,.agg #[.int .i64 qe,.int .i64 qn,.int .i64 qb]] W fun r w'=>Touch (fun _=>False) W w'/\Qar W.heap.size (Gm A qe qn qb) r w':=fun W t=>Qdc W A qe qn qb hn hb hA (ho.keep t hOS) (Nat.lt_of_lt_of_le h0 t.size);cases hU:Gm A qe qn qb with
    |inl k=>
     have hkp:=mM hA hU;have e:Ha l c false folder (.inl k)=(k,l,c,false):=(by unfold Ha;rw[if_neg (by simp),if_neg (by simp[hfn]),if_neg (by simp[hii])]);rw[e];refine(xN w S sh be c folder A _ _ _ (k:Int) hS hfs hfn (by omega) HLK (fun W t=>(HUU W t).mono ?_)).mono ?_
     .rintro r w' ⟨t',hp⟩;rw[hU]at hp;exact⟨t',hp⟩
     rintro r w' ⟨rfl,h3,t⟩;exact⟨G,rfl,⟨hlow w' t,h.fP,sh,be,h3,hG,hin.box hS t (fun e=>e)⟩,t.wide (fun k e=>by rw[e];exact hG),fun q e=>e,fun q e=>.inl e⟩
    |inr o=>
     have hok:=(tN hA hU).1;refine(xX w S sh be c folder A _ _ _ o (ExtP S G l c folder o) hS hfs hfn HLK (fun W t=>(HUU W t).mono ?_) (fun W a g cap t hW hF=>(Qby w W S g cap a G l c sh be folder o hS hin t hW hok hl (by unfold maxLen;omega) hF).mono ?_)).mono ?_
     .rintro r w' ⟨t',hp⟩;rw[hU]at hp;obtain⟨v,hr,a,cap,hv,hown,hat⟩:=hp;rw[hv]at hr;refine⟨t',a,cap,?_⟩;by_cases hd:0<o.length
      .obtain⟨g,_,q2,q3,q4⟩:=hat hd;exact⟨g,hr,fun _=>⟨q3,q4⟩⟩
      exact⟨0,hr,fun e=>absurd e hd⟩
     .rintro r w' ⟨m,b,ns,fs,h1,h2,h3,h4,h5,h6,h7,hp,t6⟩;unfold Lc at hp;cases htk:takeC c (Eh o+1)with
      |some d=>
       rw[htk]at hp;obtain⟨rfl,p1,p2,p3⟩:=hp;refine⟨0,some m,some b,d,false,rfl,p1,m,b,ns,fs,rfl,rfl,h1,h2,h3,h4,h5,h6,h7,t6,?_⟩;rw[htk];exact⟨rfl,rfl,rfl,p2,p3⟩
      |none=>
       rw[htk]at hp;obtain⟨rfl,p1,p2,p3⟩:=hp;refine⟨14,some m,some b,_,_,rfl,p1,m,b,ns,fs,rfl,rfl,h1,h2,h3,h4,h5,h6,h7,t6,?_⟩;rw[htk];exact⟨rfl,rfl,(by cases Jg c<;>rfl),p2,p3⟩
     rintro r w' ⟨W,k,sh',be',c',np',w6,tW,rfl,⟨m,b,ns,fs,rfl,rfl,h1,h2,h3,h4,h5,h6,h7,t6,hp⟩,hw',hS'⟩;have t7:Touch (fun k=>k=S) w6 w':=(by rw[hw'];exact Ba _ _ _ _);have hTG:Touch G w w':=by
      have q1:Touch (fun k=>G k\/w.heap.size<=k) w W:=tW.wide (fun k e=>by rw[e];exact .inl hG);have q2:Touch (fun k=>G k\/w.heap.size<=k) W w6:=t6.wide (fun k e=>by
       have:=tW.size;rcases e with rfl|rfl|rfl;.exact .inl hG
       .rcases h5 with h5|h5;.exact .inl h5
        exact .inr (by omega)
       rcases h6 with h6|h6;.exact .inl h6
       exact .inr (by omega))
      have q3:Touch (fun k=>G k\/w.heap.size<=k) w6 w':=t7.wide (fun k e=>by rw[e];exact .inl hG);exact((q1.trans q2).trans q3).mono (fun k hk e=>e.elim (fun e=>e) (fun e=>by omega))
     have hWs:=tW.size;have h6s:=t6.size;have h7s:=t7.size;have hsz:=hTG.size;have hgl:∀q,G q->q<w'.heap.size:=fun q hq=>Nat.lt_of_lt_of_le (h.low q hq) hsz;have hsh':=h7.Qa6 t7 (fun q _ e cs z hc=>by
      subst e;have ty2:=(show Typed w6 q 41 from⟨cs,z,hc⟩).set ⟨q,0,none⟩ (.int .i32 0);rw[<-hw']at ty2;exact absurd (ty2.ne ⟨_,_,hS'.hp⟩) (by decide))
     have hmG:G m\/(w.heap.size<=m):=h5.imp (fun e=>e) (fun e=>by omega);have hbG:G b\/(w.heap.size<=b):=h6.imp (fun e=>e) (fun e=>by omega);cases htk:takeC c (Eh o+1)with
     |some d=>
      rw[htk]at hp;obtain⟨rfl,rfl,rfl,⟨v,p1,p2⟩,p3⟩:=hp;have e:Ha l c false folder (.inr o)=(0,Oh l (folder,o),c',false):=(by unfold Ha;rw[if_neg (by simp),if_neg (by simp[hfn]),if_neg (by simp[hii])];simp only[htk]);rw[e];have p1':=p1.keep t7 h2;have p3':=p3.keep t7 h3;have p2':=t7.owns p2 (fun q hq e=>by
       have b1:=(p2.lt q hq).1;have b2:=hS.lt;omega)
      refine⟨fun q=>G q\/(w.heap.size<=q/\q<w'.heap.size),rfl,⟨fun q hq=>hq.elim (hgl q) (fun e=>e.2),wU l _ h.fP hni,some m,some b,hS',.inl hG,.inr ⟨m,b,ns+1,_,0,fun _=>none,rfl,rfl,h1,hmG.imp (fun e=>e) (fun e=>⟨e,p1'.lt⟩),hbG.imp (fun e=>e) (fun e=>⟨e,p3'.lt⟩),p1',by rw[jJ];omega,⟨fun key=>?_,fun x hx=>?_⟩,p3',fun _ _=>rfl⟩⟩,hTG,fun q e=>.inl e,fun q e=>e.imp (fun e=>e) (fun e=>e.1)⟩
      .rw[mD];unfold Jf;by_cases ek:key=folder.data.toList;.rw[if_pos ek];exact⟨fun _=>.inl ek,fun _=>rfl⟩
       rw[if_neg ek,hsh'.keys key];exact⟨fun e=>.inr e,fun e=>e.elim (fun e=>absurd e ek) (fun e=>e)⟩
      rcases(Qj l (folder,o) x).1 hx with rfl|hx
      .refine⟨v,by unfold Jf;rw[if_pos (show Ir (folder,o)=folder.data.toList from rfl)],Je p2' (Nat.zero_le _),fun q hq=>.inr ⟨?_,(p2'.lt q hq).2⟩⟩;have b1:=(p2'.lt q hq).1;omega
      obtain⟨u,a1,a2,a3⟩:=hsh'.rows x hx;refine⟨u,?_,a2,fun q hq=>.inl (a3 q hq)⟩;unfold Jf;rw[if_neg (fun e=>hni (by rw[<-e];exact List.mem_map.2 ⟨x,hx,rfl⟩))];exact a1
     |none=>
      rw[htk]at hp;obtain⟨rfl,rfl,rfl,p1,n',f',p2,p3⟩:=hp;have e:Ha l c false folder (.inr o)=(14,l,if Jg c then none else some (0,false),!Jg c):=(by unfold Ha;rw[if_neg (by simp),if_neg (by simp[hfn]),if_neg (by simp[hii])];simp only[htk]);rw[e];have p1':=p1.keep t7 h2;have p2':=p2.keep t7 h3;refine⟨fun q=>G q\/(w.heap.size<=q/\q<w'.heap.size),rfl,⟨fun q hq=>hq.elim (hgl q) (fun e=>e.2),h.fP,some m,some b,hS',.inl hG,.inr ⟨m,b,ns,fs,n',f',rfl,rfl,h1,hmG.imp (fun e=>e) (fun e=>⟨e,p1'.lt⟩),hbG.imp (fun e=>e) (fun e=>⟨e,p2'.lt⟩),p1',h4,⟨hsh'.keys,fun x hx=>by obtain⟨u,a1,a2,a3⟩:=hsh'.rows x hx;exact⟨u,a1,a2,fun q hq=>.inl (a3 q hq)⟩⟩,p2',fun e=>p3 (by simpa using e)⟩⟩,hTG,fun q e=>.inl e,fun q e=>e.imp (fun e=>e) (fun e=>e.1)⟩
structure SX (w7:World) (S:Nat) (G:Nat->Prop) (W:World) (l:List Fold) (c:Bo) (np:Bool):Prop where
 sto:Xo W S G l c np
 own:∀q,G q->q=S\/w7.heap.size<=q
 tch:Touch (fun q=>q=S) w7 W
def letB(i:Nat):ByteArray:=(⟨#[97,98,99,100,101,102,103,104,105]⟩:ByteArray).extract i (i+1)
def ShI(o:List Gn)(k:Nat)(l:List Fold):Prop:=∀x∈l,x.2=o/\∃j,j<k/\j<9/\x.1=letB j
def gK(o:List Gn)(k:Nat):Nat:=1+((o.take k).map fun x=>1+(x.2.length+15)/16).sum
theorem wH(o:List Gn)(k:Nat)(h:k<o.length):gK o (k+1)=gK o k+1+(o[k].2.length+15)/16:=by
 unfold gK;rw[List.take_succ_eq_append_getElem h,List.map_append,List.sum_append];simp;omega
theorem Qaf(o:List Gn)(h:Pj o):Eh o+1=gK o o.length:=by
 unfold gK Eh;rw[List.take_length,Nat.add_comm];congr 2;refine List.map_congr_left fun x hx=>?_;unfold Nb chunks;rw[Yb];split
 .rename_i hf;rw[h.fol x hx hf];rfl
 rfl
theorem yT(o:List Gn)(B:Nat)(hB:∀x∈o,x.2.length<=B):∀k,gK o k<=1+k*(B+2)
 |0=>by simp[gK]
 |k+1=>by
  have ih:=yT o B hB k;by_cases hk:k<o.length
  .rw[wH o k hk];have:=hB _ (List.getElem_mem hk);have e:(k+1)*(B+2)=k*(B+2)+(B+2):=by rw[Nat.add_mul,Nat.one_mul]
   omega
  have e:gK o (k+1)=gK o k:=by unfold gK;rw[List.take_of_length_le (by omega),List.take_of_length_le (by omega)]
  have e2:(k+1)*(B+2)=k*(B+2)+(B+2):=by rw[Nat.add_mul,Nat.one_mul]
  rw[e];omega
end Go.Proofs.YtmhlkdlcpicekaaGreatDoor
