/- Joined. -/
import Derived.Test.YtmhlkdlcpicekaaGreatDoorJ24
import Derived.Test.YtmhlkdlcpicekaaGreatDoorJ26
import Derived.Test.YtmhlkdlcpicekaaGreatDoorShelfI
import Derived.Lib.SliceRun
set_option linter.unusedSimpArgs false
set_option linter.unusedVariables false
set_option maxRecDepth 100000
set_option maxHeartbeats 20000000
namespace Go.Proofs.YtmhlkdlcpicekaaGreatDoor
open Go.RowKit
def Gm(s:ByteArray)(qe qn qb:Int):Sum Nat (List Gn):=match listOf s qe qn qb with
 |.error k=>.inl k
 |.ok L=>Gx s L []
theorem Rj(s:ByteArray):∀(L:List Ai) (acc fs:List Gn),Dp s L acc=.inr fs->∀f∈fs,f∈acc\/∃x∈L,Ff s x=.inr f.2
 | [],acc,fs,h=>by cases h;exact fun f hf=>.inl hf
 |x::L,acc,fs,h=>by
  unfold Dp at h;split at h
  .intro f hf;rcases Rj s L acc fs h f hf with h|⟨y,hy,e⟩;.exact .inl h
   exact .inr ⟨y,List.mem_cons_of_mem _ hy,e⟩
  split at h;.cases h
  rename_i d hd;intro f hf;rcases Rj s L _ fs h f hf with h1|⟨y,hy,e⟩
  .rcases List.mem_append.1 h1 with h1|h1;.exact .inl h1
   rw[List.mem_singleton]at h1;subst h1;exact .inr ⟨x,List.mem_cons_self ..,hd⟩
  exact .inr ⟨y,List.mem_cons_of_mem _ hy,e⟩
theorem Qck{o:List Gn}(h:Srt o):(o.map fun x=>x.1.data.toList).Nodup:=by
 unfold List.Nodup;rw[List.pairwise_map];refine h.imp fun {a b} hab e=>?_;rw[e]at hab;have:=Js b.1.data.toList b.1.data.toList;omega
theorem eU(nm:List UInt8):∀(f i:Nat) (acc:List (List UInt8)),(Jy nm f i acc).length<=acc.length+f
 |0,_,acc=>by simp[Jy]
 |f+1,i,acc=>by
  have e:Jy nm (f+1) i acc=Jy nm f (i+1) (if nm[i]?=some 47/\acc.contains (nm.take (i+1))=false then acc++[nm.take (i+1)]else acc):=rfl;rw[e];have h:=eU nm f (i+1) (if nm[i]?=some 47/\acc.contains (nm.take (i+1))=false then acc++[nm.take (i+1)]else acc);refine Nat.le_trans h ?_;split<;>simp<;>omega
theorem aX:∀(L:List Ai) (acc:List (List UInt8)),(∀x∈L,x.Af.name.size<=60)->(Ep L acc).length<=acc.length+60*L.length
 | [],acc,_=>by simp[Ep]
 |x::L,acc,h=>by
  have h1:=eU x.Af.name.data.toList x.Af.name.size 0 acc;have h2:=aX L (Jy x.Af.name.data.toList x.Af.name.size 0 acc) (fun y hy=>h y (List.mem_cons_of_mem _ hy));have h3:=h x (List.mem_cons_self ..);have e:Ep (x::L) acc=Ep L (Jy x.Af.name.data.toList x.Af.name.size 0 acc):=rfl;rw[e,List.length_cons];omega
theorem kH(s:ByteArray)(qe qn qb:Int)(L:List Ai)(hR:listOf s qe qn qb=.ok L)(hs:s.size<=2147483648)(fs:List Gn)(hfg:Dp s L []=.inr fs): ∃o,Gx s L []=.inr o/\Pj o/\o.length<=61*L.length/\∀d:List Gn,d.Perm (fs++(Ep L []).map Ez)->d.Pairwise (fun a b=>En a.1.data.toList b.1.data.toList<=0)->d=o:=by
 have hok:=Td s qe qn qb L hR hs;obtain⟨heach,hcl⟩:=Iz s qe qn qb L hR;have hn:∀x∈L,Ci x.Af.name=true:=fun x hx=>Eb _ (heach x hx).2;have h0:Nq L [] [] []:=⟨List.Perm.refl _,List.Pairwise.nil,fun f hf=>(by cases hf),fun f hf=>(by cases hf)⟩;have h1:=Wp s (kQ hn hcl) hcl L [] [] [] [] rfl h0 (fun f hf=>by cases hf);rw[hfg]at h1;obtain⟨o,ho,hin⟩:=(show∃o,Gx s L []=.inr o/\Nq L fs (Ep L []) o from h1);have e1:=hin.perm.length_eq;have e2:=(Oq s L [] fs hfg).1;have e3:=aX L [] (fun x hx=>(hok.2.2 x hx).2);rw[List.length_append,List.length_map]at e1;simp only[List.length_nil]at e2 e3;have hL:=hok.1;refine⟨o,ho,⟨hin.fP,Qck hin.fP,fun x hx=>nN s L fs hfg hok.2.2 x (hin.perm.mem_iff.1 hx),fun x hx hf=>?_,fun x hx=>?_,by omega⟩,by omega,fun d h1 h2=>Ue o d (h1.trans hin.perm.symm) hin.fP h2⟩
 .rcases List.mem_append.1 (hin.perm.mem_iff.1 hx)with h|h;.rw[(hin.Qdo x h).2]at hf;cases hf
  obtain⟨p,_,rfl⟩:=List.mem_map.1 h;rfl
 rcases List.mem_append.1 (hin.perm.mem_iff.1 hx)with h|h
 .rcases Rj s L [] fs hfg x h with h2|⟨y,hy,hd⟩;.cases h2
  have h3:=(iZ s y x.2 (hok.2.1 y hy) (heach y hy).2 hd).1;have h4:=(hok.2.1 y hy).size;omega
 obtain⟨p,_,rfl⟩:=List.mem_map.1 h;exact Nat.zero_le _
theorem mM{s:ByteArray}{qe qn qb:Int}{k:Nat}(hs:s.size<=2147483648)(h:Gm s qe qn qb=.inl k):0<k:=by
 unfold Gm at h;cases hR:listOf s qe qn qb with
 |error k'=>rw[hR]at h;cases h;exact iY s qe qn qb _ hR
 |ok L=>
  rw[hR]at h;simp only at h;cases hfg:Dp s L []with
  |inl k'=>
   obtain⟨heach,hcl⟩:=Iz s qe qn qb L hR;have h1:=Su s L (fun x hx=>Eb _ (heach x hx).2) hcl;rw[hfg]at h1;have h2:Gx s L []=.inl k':=h1;rw[h2]at h;cases h;exact Qy s L [] _ hfg
  |inr fs=>
   obtain⟨o,ho,_⟩:=kH s qe qn qb L hR hs fs hfg;rw[ho]at h;cases h
theorem tN{s:ByteArray}{qe qn qb:Int}{o:List Gn}(hs:s.size<=2147483648)(h:Gm s qe qn qb=.inr o):Pj o/\∃L,listOf s qe qn qb=.ok L/\o.length<=61*L.length:=by
 unfold Gm at h;cases hR:listOf s qe qn qb with
 |error k'=>rw[hR]at h;cases h
 |ok L=>
  rw[hR]at h;simp only at h;cases hfg:Dp s L []with
  |inl k'=>
   obtain⟨heach,hcl⟩:=Iz s qe qn qb L hR;have h1:=Su s L (fun x hx=>Eb _ (heach x hx).2) hcl;rw[hfg]at h1;have h2:Gx s L []=.inl k':=h1;rw[h2]at h;cases h
  |inr fs=>
   obtain⟨o',ho,hok,hl,_⟩:=kH s qe qn qb L hR hs fs hfg;rw[ho]at h;cases h;exact⟨hok,L,rfl,hl⟩
def Qar(base:Nat)(U:Sum Nat (List Gn))(r:Ending)(w':World):Prop:=match U with
 |.inl k=>r=.returned (.tuple #[.slice none 0 0,.int .i64 (k:Int)])
 |.inr o=>∃v,r=.returned (.tuple #[v,.int .i64 0])/\Yn base w' v o
theorem Qdc(w:World)(s:ByteArray)(qe qn qb:Int)(hn:-9223372036854775808<=qn/\qn<=9223372036854775807)(hb:-9223372036854775808<=qb/\qb<=9223372036854775807)(hs:s.size<=2147483648)(ho:Ord w)(h0:1<w.heap.size): Calls Tryz.prog 11 #[.string s,.agg #[.int .i64 qe,.int .i64 qn,.int .i64 qb]] w fun r w'=>Touch (fun _=>False) w w'/\Qar w.heap.size (Gm s qe qn qb) r w':=by
 refine(Zi w s qe qn qb hn hb hs ho h0).mono ?_;rintro r w' ⟨t,hp⟩;refine⟨t,?_⟩;unfold Gm;cases hR:listOf s qe qn qb with
 |error k=>rw[hR]at hp;exact hp
 |ok L=>
  rw[hR]at hp;unfold Hz at hp;simp only at hp ⊢;cases hfg:Dp s L []with
  |inl k=>
   obtain⟨heach,hcl⟩:=Iz s qe qn qb L hR;have h1:=Su s L (fun x hx=>Eb _ (heach x hx).2) hcl;rw[hfg]at h1 hp;have h2:Gx s L []=.inl k:=h1;rw[h2];exact hp
  |inr fs=>
   obtain⟨o,ho',_,_,hu⟩:=kH s qe qn qb L hR hs fs hfg;rw[hfg]at hp;obtain⟨v,d,e,hperm,hsort,hv⟩:=hp;obtain rfl:=hu d hperm hsort;rw[ho'];exact⟨v,e,hv⟩
open Go.Maps
abbrev Fold:=ByteArray×List Gn
def Ir(x:Fold):List UInt8:=x.1.data.toList
structure aJ (w:World) (G:Nat->Prop) (fs:List UInt8->Option Value) (l:List Fold):Prop where
 keys:∀key,(fs key).isSome=true↔key∈l.map Ir
 rows:∀x∈l,∃v,fs (Ir x)=some v/\w.ownsRow 0 41 2 v x.2.length (Ar x.2)/\∀q,v.ownBlock=some q->G q
def Inner(w:World)(G:Nat->Prop)(l:List Fold)(np:Bool)(sh be:Option Nat):Prop:=
 (sh=none/\be=none/\l=[])\/∃m b ns fs nb fb,sh=some m/\be=some b/\m≠b/\G m/\G b/\Ap w m ns fs/\ns<=l.length/\aJ w G fs l/\Ap w b nb fb/\(np=false->∀key,fb key=none)
structure Xo (w:World) (S:Nat) (G:Nat->Prop) (l:List Fold) (c:Bo) (np:Bool):Prop where
 low:∀q,G q->q<w.heap.size
 fP:(l.map Ir).Pairwise (·<·)
 box:∃sh be,SB w S 0 sh be c np/\G S/\Inner w G l np sh be
theorem aJ.keep{F G:Nat->Prop}{w w':World}{fs:List UInt8->Option Value}{l:List Fold}(h:aJ w G fs l)(t:Touch F w w')(hf:∀q,F q->∃t,Typed w q t/\t≠41):aJ w' G fs l :=⟨h.keys,fun x hx=>by
  obtain⟨v,a1,a2,a3⟩:=h.rows x hx;refine⟨v,a1,t.owns a2 (fun q hq e=>?_),a3⟩;obtain⟨ty,b1,b2⟩:=hf q e;exact b2 (b1.ne (Typed.owned a2 hq))⟩
theorem aJ.Qa6{F G:Nat->Prop}{w w':World}{fs:List UInt8->Option Value}{l:List Fold}(h:aJ w G fs l)(t:Touch F w w')(hf:∀q,G q->F q->∀cs z,w.heap[q]?=some (.cells cs 41 z)->False):aJ w' G fs l :=⟨h.keys,fun x hx=>by
  obtain⟨v,a1,a2,a3⟩:=h.rows x hx;refine⟨v,a1,t.owns a2 (fun q hq e=>?_),a3⟩;obtain⟨cs,z,hb⟩:=Typed.owned a2 hq;exact hf q (a3 q hq) e cs z hb⟩
theorem Inner.keep{F G:Nat->Prop}{w w':World}{l:List Fold}{np:Bool}{sh be:Option Nat}(h:Inner w G l np sh be)(t:Touch F w w')(hf:∀q,G q->¬F q):Inner w' G l np sh be:=by
 rcases h with h2|⟨m,b,ns,fs,nb,fb,e1,e2,hne,gm,gb,hm,hns,hsh,hb,h0⟩;.exact .inl h2
 exact .inr ⟨m,b,ns,fs,nb,fb,e1,e2,hne,gm,gb,hm.keep t (hf m gm),hns,hsh.Qa6 t (fun q h1 h2=>absurd h2 (hf q h1)),hb.keep t (hf b gb),h0⟩
theorem Inner.box{G:Nat->Prop}{w w':World}{S:Nat}{lk:Int}{l:List Fold}{c:Bo}{np np':Bool}{sh be:Option Nat}(h:Inner w G l np sh be)(hS:SB w S lk sh be c np)(t:Touch (fun k=>k=S) w w')(hn:np'=false->np=false):Inner w' G l np' sh be:=by
 rcases h with h2|⟨m,b,ns,fs,nb,fb,e1,e2,hne,gm,gb,hm,hns,hsh,hb,h0⟩;.exact .inl h2
 exact .inr ⟨m,b,ns,fs,nb,fb,e1,e2,hne,gm,gb,hm.keep t (hm.Gf hS.hp),hns,hsh.keep t (fun q e=>by subst e;exact⟨_,⟨_,_,hS.hp⟩,by decide⟩),hb.keep t (hb.Gf hS.hp),fun e=>h0 (hn e)⟩
theorem Xo.keep{F G:Nat->Prop}{w w':World}{S:Nat}{l:List Fold}{c:Bo}{np:Bool}(h:Xo w S G l c np)(t:Touch F w w')(hf:∀q,G q->¬F q):Xo w' S G l c np:=by
 obtain⟨sh,be,hS,hG,h2⟩:=h.box;exact⟨fun q hq=>Nat.lt_of_lt_of_le (h.low q hq) t.size,h.fP,sh,be,hS.keep t (hf S hG),hG,h2.keep t hf⟩
theorem Xo.same{G:Nat->Prop}{w w':World}{S:Nat}{l:List Fold}{c:Bo}{np:Bool}(h:Xo w S G l c np)(t:Touch (fun _=>False) w w'):Xo w' S G l c np:=h.keep t (fun _ _ e=>e)
theorem Xo.new{w w':World}(h:SB w' w.heap.size 0 none none none false):Xo w' w.heap.size (fun q=>q=w.heap.size) [] none false :=⟨fun q e=>by rw[e];exact h.lt,List.Pairwise.nil,none,none,h,rfl,.inl ⟨rfl,rfl,rfl⟩⟩
theorem Qgp(w:World)(S:Nat)(G:Nat->Prop)(l:List Fold)(c:Bo)(np:Bool)(h:Xo w S G l c np)(n:Int)(f:Bool)(hn:n<=9223372036854775807): Calls Tryz.prog 13 #[.pointer (some ⟨S,0,none⟩),.int .i64 n,.bool f] w fun r w'=>r=.returned (.int .i64 (if n<0 then 15 else 0))/\Xo w' S G l (if n<0 then c else some (n.toNat,f)) np/\Touch G w w':=by
 obtain⟨sh,be,hS,hG,h2⟩:=h.box;refine(cut_c w S sh be c np hS n f hn).mono ?_;rintro r w' ⟨rfl,h3,t⟩;exact⟨rfl,⟨fun q hq=>Nat.lt_of_lt_of_le (h.low q hq) t.size,h.fP,sh,be,h3,hG,h2.box hS t (fun e=>e)⟩,t.wide (fun k e=>by rw[e];exact hG)⟩
theorem Qe7(w:World)(S:Nat)(G:Nat->Prop)(l:List Fold)(c:Bo)(np:Bool)(h:Xo w S G l c np): Calls Tryz.prog 18 #[.pointer (some ⟨S,0,none⟩)] w fun r w'=>r=.returned (.tuple #[])/\Xo w' S G l none false/\Touch G w w':=by
 obtain⟨sh,be,hS,hG,h2⟩:=h.box;rcases h2 with⟨rfl,rfl,rfl⟩|⟨m,b,ns,fs,nb,fb,rfl,rfl,hne,gm,gb,hm,hns,hsh,hb,h0⟩
 .refine(Qci w S none c np hS).mono ?_;rintro r w' ⟨rfl,h3,t⟩;exact⟨rfl,⟨fun q hq=>Nat.lt_of_lt_of_le (h.low q hq) t.size,h.fP,none,none,h3,hG,.inl ⟨rfl,rfl,rfl⟩⟩,t.wide (fun k e=>by rw[e];exact hG)⟩
 refine(Qcl w S b nb fb (some m) c np hS hb).mono ?_;rintro r w' ⟨rfl,h3,h4,t⟩;refine⟨rfl,⟨fun q hq=>Nat.lt_of_lt_of_le (h.low q hq) t.size,h.fP,some m,some b,h3,hG,.inr ⟨m,b,ns,fs,0,fun _=>none,rfl,rfl,hne,gm,gb,hm.keep t (fun e=>e.elim (hm.Gf hS.hp) hne),hns,hsh.Qa6 t (fun q _ e cs z hc=>?_),h4,fun _ _=>rfl⟩⟩,t.wide (fun k e=>by rcases e with rfl|rfl;exact hG;exact gb)⟩;rcases e with rfl|rfl;.rw[hS.hp]at hc;cases hc
 exact hb.Gf hc rfl
def yX(l:List Fold)(folder:ByteArray):Bool:=(l.map Ir).contains folder.data.toList
theorem Zk(l:List Fold)(folder:ByteArray):yX l folder=true↔folder.data.toList∈l.map Ir:=by unfold yX;simp
def Oh:List Fold->Fold->List Fold
 | [],x=>[x]
 |y::l,x=>if Ir y<Ir x then y::Oh l x else x::y::l
theorem Qj:∀(l:List Fold) (x y:Fold),y∈Oh l x↔y=x\/y∈l
 | [],x,y=>by simp[Oh]
 |z::l,x,y=>by
  unfold Oh;split
  .rw[List.mem_cons,Qj l x y,List.mem_cons];constructor
   .rintro(h|h|h);.exact .inr (.inl h)
    .exact .inl h
    exact .inr (.inr h)
   rintro(h|h|h);.exact .inr (.inl h)
   .exact .inl h
   exact .inr (.inr h)
  rw[List.mem_cons]
theorem mD(l:List Fold)(x:Fold)(k:List UInt8):k∈(Oh l x).map Ir↔k=Ir x\/k∈l.map Ir:=by
 simp only[List.mem_map];constructor
 .rintro⟨y,hy,rfl⟩;rcases(Qj l x y).1 hy with rfl|h;.exact .inl rfl
  exact .inr ⟨y,h,rfl⟩
 rintro(rfl|⟨y,hy,rfl⟩);.exact⟨x,(Qj l x x).2 (.inl rfl),rfl⟩
 exact⟨y,(Qj l x y).2 (.inr hy),rfl⟩
theorem jJ:∀(l:List Fold) (x:Fold),(Oh l x).length=l.length+1
 | [],x=>rfl
 |y::l,x=>by
  unfold Oh;split;.rw[List.length_cons,jJ l x,List.length_cons]
  rfl
theorem Qf3{a b:List UInt8}(h:¬a<b)(hn:a≠b):b<a:=by
 rcases Classical.em (b<a)with h1|h1;.exact h1
 exact absurd (List.le_antisymm (List.not_lt.1 h1) (List.not_lt.1 h)) hn
theorem wU:∀(l:List Fold) (x:Fold),(l.map Ir).Pairwise (·<·)->Ir x∉l.map Ir->((Oh l x).map Ir).Pairwise (·<·)
 | [],x,_,_=>by simp[Oh]
 |y::l,x,h,hn=>by
  rw[List.map_cons,List.pairwise_cons]at h;rw[List.map_cons,List.mem_cons,not_or]at hn;unfold Oh;split
  .rename_i hlt;rw[List.map_cons,List.pairwise_cons];refine⟨fun k hk=>?_,wU l x h.2 hn.2⟩;rcases(mD l x k).1 hk with rfl|hk;.exact hlt
   exact h.1 k hk
  rename_i hlt;have hxy:Ir x<Ir y:=Qf3 hlt (fun e=>hn.1 e.symm);rw[List.map_cons,List.map_cons,List.pairwise_cons,List.pairwise_cons];refine⟨fun k hk=>?_,h⟩;rcases List.mem_cons.1 hk with rfl|hk;.exact hxy
  exact List.lt_trans hxy (h.1 k hk)
theorem sN(w:World)(v:Value)(fl:List Gn)(h:w.ownsRow 0 41 2 v fl.length (Ar fl))(hn:fl.length<=1000000000000): Calls Tryz.prog 40 #[v] w fun r w'=>∃v',r=.returned v'/\w'.ownsRow w.heap.size 41 2 v' fl.length (Ar fl)/\Touch (fun _=>False) w w':=by
 obtain⟨i0,hi,hz0,hz1,hz2⟩:=info_parts Tryz.Vp;have hc:=Kw fl;have hh:=h;have heq:∀(W:World) (a:Option Addr) (k c:Nat),Sem.run Tryz.prog (binOp BinOp.eql 30 (.slice a k c) (.slice none 0 0)) W=.ok (.bool a.isNone) W:=fun W a k c=>Lib.run_eql_slice_nil W 30 41 a k c 0 0 Tryz.underlying30;obtain⟨N,hN⟩:∃N,N=fl.length:=⟨_,rfl⟩;obtain⟨X,hX⟩:∃X,X=Ar fl:=⟨_,rfl⟩;rw[<-hX]at h hc hh ⊢;rw[<-hN]at h hn hh ⊢;clear hN hX;rcases hh.2 with⟨rfl,h0⟩|⟨g,cap,cur,rfl,hb,hg,h3,h4,h5,h6⟩
 .have hx:X=[]:=List.eq_nil_of_length_eq_zero (by rw[h.1,h0]);subst hx h0;go_enter Tryz.func40,Tryz.ntmps40;go_wp2;go_ret;exact⟨_,rfl,World.ownsRow_nil _ _ _ _,Touch.refl _ _⟩
 have b1:0+N<=maxLen:=by unfold maxLen;omega
 have b2:(0+N)*32<=140737488355328:=by omega
 clear hh hn h5 h6;have HR:Hid (∀o,(w.alloc o).ownsRow 0 41 2 (.slice (some ⟨g,0,none⟩) N cap) N X):=fun o=>h.alloc o;have H0:Hid ((w.alloc (.cells #[] 41)).ownsRow w.heap.size 41 2 (.slice (some ⟨w.heap.size,0,none⟩) 0 0) 0 []) :=⟨rfl,.inr ⟨w.heap.size,0,#[],rfl,Nat.le_refl _,heap_alloc_new w _,Nat.le_refl _,Nat.zero_le _,rfl,rfl⟩⟩;go_enter Tryz.func40,Tryz.ntmps40;go_wp2_with (at_builtin;refine Gi rfl _ _ 30 rfl w.heap.size 0 41 i0 (.agg #[.string ⟨#[]⟩,.string ⟨#[]⟩]) 2 32 Tryz.underlying30 hi hz0 hz1 hz2 rfl (by decide) (.slice (some ⟨w.heap.size,0,none⟩) 0 0) 0 [] rfl H0.out (.slice (some ⟨g,0,none⟩) N cap) N X rfl (HR.out _) hc b1 b2 (by simp) ?_;intro v3 w3 ho3 hg3);go_ret;refine⟨_,rfl,?_,?_⟩;.rw[Nat.zero_add,List.nil_append]at ho3;exact ho3
 exact((Touch.refl _ w).alloc _).Fa hg3 (fun k hk=>by cases hk;exact Nat.le_refl _)
open Go.Sort Go.Shelf
theorem Qes(m:Nat):AnyZ.SortsIn Tryz.prog Tryz.sortedM_ren Fence.wide m:=
 ⟨fun blk off cap ss W hH hblk hsz=>callsIn_wide.2 (AnyM.slices_Sort_string Tryz.sortM blk off cap ss W hH hblk hsz),fun p cap W=>callsIn_wide.2 (AnyM.slices_Sort_string_none Tryz.sortM p cap W)⟩
theorem keys_in(mb:Option Nat)(W:World):CallsIn Fence.wide 5 Tryz.prog 39 #[.map mb] W fun e w'=>e=.returned (.func (.func 80) #[] #[.pointer (some ⟨W.heap.size,0,none⟩)])/\w'=W.alloc (.cells #[.map mb] 84):=
 AnyZ.keys_in Tryz.keysM Fence.wide 5 trivial rfl mb W
theorem Qih(mb:Option Nat)(W:World):Calls Tryz.prog 39 #[.map mb] W fun e w'=>e=.returned (.func (.func 80) #[] #[.pointer (some ⟨W.heap.size,0,none⟩)])/\w'=W.alloc (.cells #[.map mb] 84):=
 (callsIn_wide (n:=5)).1 (keys_in mb W)
theorem Qdi(b nn:Nat)(D:DataW Value)(R:Value->Option (DataW Value×List MemPlace))(w:World)(hown:w.ownsMap Tryz.prog 9 R b nn D)(hmax:Maps.size D<=maxLen)(hbytes:Maps.size D*16<=140737488355328): Calls Tryz.prog 38 #[.func (.func 80) #[] #[.pointer (some ⟨w.heap.size,0,none⟩)]] (w.alloc (.cells #[.map (some b)] 84)) fun e w'=>∃(v:Value) (ss:List (List UInt8)),e=.returned v/\ss.Perm (strKeys D) /\w'.ownsRow (w.alloc (.cells #[.map (some b)] 84)).heap.size 9 1 v ss.length ((ss.mergeSort leB).map encStr)/\Touch (fun _=>False) w w':=by
 have hbl:=hown.lt;have hseq:SeqGives Fence.wide 2 Tryz.prog 80 #[.pointer (some ⟨w.heap.size,0,none⟩)] encStr (fun ss=>ss.Perm (strKeys D)) (Maps.size D) (w.alloc (.cells #[.map (some b)] 84)) :=AnyZ.keys_gives (ρ:=Tryz.keysM_ren) { Tryz.keysM with } Fence.wide _ trivial rfl (by omega) w.heap.size b nn D _ (by simp) (by simp) (by
   obtain⟨es,clock,hb,Ft,hs,hD⟩:=hown;exact⟨es,clock,(Below.heap_alloc _ _ b hbl).trans hb,Ft,hs,hD⟩)
 refine((callsIn_wide (n:=5)).1 (AnyZ.sorted_in Tryz.sortedM Fence.wide 5 trivial trivial trivial trivial rfl (by omega) (Qes _) (enters_of Tryz.func79 (by kernel_rfl) rfl) 80 #[.pointer (some ⟨w.heap.size,0,none⟩)] trivial (enters_of Tryz.func80 (by kernel_rfl) rfl) _ _ hmax hbytes _ hseq)).mono ?_;rintro e w' ⟨v,ss,rfl,hp,hrow,hnil,hb⟩;exact⟨v,ss,rfl,hp,hrow,((Touch.refl _ w).alloc _).trans (Touch.Lt hb _)⟩
theorem rH(w:World): Calls Tryz.prog 38 #[.func (.func 80) #[] #[.pointer (some ⟨w.heap.size,0,none⟩)]] (w.alloc (.cells #[.map none] 84)) fun e w'=>e=.returned (.slice none 0 0)/\Touch (fun _=>False) w w':=by
 have hseq:SeqGives Fence.wide 2 Tryz.prog 80 #[.pointer (some ⟨w.heap.size,0,none⟩)] encStr (fun ss:List (List UInt8)=>ss=[]) 0 (w.alloc (.cells #[.map none] 84)) :=AnyZ.keys_gives_nil (ρ:=Tryz.keysM_ren) { Tryz.keysM with } Fence.wide _ trivial rfl w.heap.size _ (by simp) (by simp);refine((callsIn_wide (n:=5)).1 (AnyZ.sorted_in Tryz.sortedM Fence.wide 5 trivial trivial trivial trivial rfl (by omega) (Qes _) (enters_of Tryz.func79 (by kernel_rfl) rfl) 80 #[.pointer (some ⟨w.heap.size,0,none⟩)] trivial (enters_of Tryz.func80 (by kernel_rfl) rfl) _ 0 (Nat.zero_le _) (by omega) _ hseq)).mono ?_;rintro e w' ⟨v,ss,rfl,hp,hrow,hnil,hb⟩;exact⟨by rw[hnil.2 hp],((Touch.refl _ w).alloc _).trans (Touch.Lt hb _)⟩
end Go.Proofs.YtmhlkdlcpicekaaGreatDoor
