/- Joined. -/
import Derived.Test.YtmhlkdlcpicekaaGreatDoorProg
import Derived.Test.YtmhlkdlcpicekaaGreatDoorJ01
import Derived.Conc.MuLone
import Derived.KernelRfl
import Derived.Maps.OwnSet
import Derived.Maps.OwnOps
import Derived.Maps.Views
import Derived.Deep.AppendSrc
set_option linter.unusedSimpArgs false
set_option linter.unusedVariables false
set_option maxRecDepth 100000
set_option maxHeartbeats 20000000
namespace Go.Proofs.YtmhlkdlcpicekaaGreatDoor
abbrev muLink:Go.Conc.Locks.MuLink:={ lock:=33,unlock:=34,ilock:=69,iunlock:=70,lockSlow:=120,unlockSlow:=123,disable:=116,enable:=118,acquire:=119,relMerge:=121,cas32:=117,add32:=122,tMutex:=83,tIMutex:=81,tPMutex:=154,tPIMutex:=208,tPI32:=210,tUP:=212,tNoCopy:=79,tU32:=75 }
theorem muLib:Go.Conc.Locks.MuLib Tryz.prog muLink :=⟨Tryz.func33,Tryz.func34,Tryz.func69,Tryz.func70,Tryz.func116,Tryz.func118,Tryz.func119,Tryz.func121,Tryz.func117,Tryz.func122,Tryz.underlying81,Tryz.runUnderlying81,Tryz.sizeOf81,Tryz.isAgg81,Tryz.zeroValue81,Tryz.underlying83,Tryz.runUnderlying83,Tryz.sizeOf83,Tryz.isAgg83,Tryz.zeroValue83,Tryz.underlying154,Tryz.runUnderlying154,Tryz.sizeOf154,Tryz.isAgg154,Tryz.zeroValue154,Tryz.underlying208,Tryz.runUnderlying208,Tryz.sizeOf208,Tryz.isAgg208,Tryz.zeroValue208,Tryz.underlying210,Tryz.runUnderlying210,Tryz.sizeOf210,Tryz.isAgg210,Tryz.zeroValue210,Tryz.underlying212,Tryz.runUnderlying212,Tryz.sizeOf212,Tryz.isAgg212,Tryz.zeroValue212,Tryz.underlying79,Tryz.runUnderlying79,Tryz.sizeOf79,Tryz.isAgg79,Tryz.zeroValue79,Tryz.underlying21,Tryz.runUnderlying21,Tryz.sizeOf21,Tryz.isAgg21,Tryz.zeroValue21,(by kernel_rfl)⟩
open Go.RowKit Go.MuLone
abbrev Bo:=Option (Nat×Bool)
def Ol(c:Bo):Nat:=match c with|none=>0|some x=>x.1
def Jg(c:Bo):Bool:=match c with|none=>false|some x=>x.2
structure SB (w:World) (S:Nat) (lk:Int) (sh be:Option Nat) (c:Bo) (np:Bool):Prop where
 hp:w.heap[S]?=some (.cells #[.int .i32 lk,.int .u32 0,.map sh,.map be,.bool c.isSome,.int .i64 (Ol c:Int),.bool (Jg c),.bool np] 90 (0,0))
 hc:(Ol c:Int)<=9223372036854775807
theorem SB.cs{w:World}{S:Nat}{lk:Int}{sh be:Option Nat}{c:Bo}{np:Bool}(h:SB w S lk sh be c np):w.cell? ⟨S,0,none⟩=some (.int .i32 lk)/\w.cell? ⟨S,2,none⟩=some (.map sh)/\w.cell? ⟨S,3,none⟩=some (.map be)/\w.cell? ⟨S,4,none⟩=some (.bool c.isSome)/\w.cell? ⟨S,5,none⟩=some (.int .i64 (Ol c:Int))/\w.cell? ⟨S,6,none⟩=some (.bool (Jg c))/\w.cell? ⟨S,7,none⟩=some (.bool np):=by
 refine⟨?_,?_,?_,?_,?_,?_,?_⟩<;>rw[Ac h.hp]<;>rfl
theorem SB.fr{w:World}{S:Nat}{lk:Int}{sh be:Option Nat}{c:Bo}{np:Bool}(h:SB w S lk sh be c np)(j:Nat):w.frozen? ⟨S,j,none⟩=false:=Ew h.hp j
theorem SB.lt{w:World}{S:Nat}{lk:Int}{sh be:Option Nat}{c:Bo}{np:Bool}(h:SB w S lk sh be c np):S<w.heap.size:=(Array.getElem?_eq_some_iff.1 h.hp).1
theorem SB.keep{F:Nat->Prop}{w w':World}{S:Nat}{lk:Int}{sh be:Option Nat}{c:Bo}{np:Bool}(h:SB w S lk sh be c np)(t:Touch F w w')(hs:¬F S):SB w' S lk sh be c np:=⟨(t.block S h.lt hs).trans h.hp,h.hc⟩
theorem SB.lock{w:World}{S:Nat}{lk:Int}{sh be:Option Nat}{c:Bo}{np:Bool}(h:SB w S lk sh be c np)(k:Int):SB (w.setCell ⟨S,0,none⟩ (.int .i32 k)) S k sh be c np:=⟨(Dz h.hp 0 _).trans rfl,h.hc⟩
theorem SB.shown{w:World}{S:Nat}{lk:Int}{sh be:Option Nat}{c:Bo}{np:Bool}(h:SB w S lk sh be c np)(m:Option Nat):SB (w.setCell ⟨S,2,none⟩ (.map m)) S lk m be c np:=⟨(Dz h.hp 2 _).trans rfl,h.hc⟩
theorem SB.beside{w:World}{S:Nat}{lk:Int}{sh be:Option Nat}{c:Bo}{np:Bool}(h:SB w S lk sh be c np)(m:Option Nat):SB (w.setCell ⟨S,3,none⟩ (.map m)) S lk sh m c np:=⟨(Dz h.hp 3 _).trans rfl,h.hc⟩
theorem SB.power{w:World}{S:Nat}{lk:Int}{sh be:Option Nat}{c:Bo}{np:Bool}(h:SB w S lk sh be c np)(b:Bool):SB (w.setCell ⟨S,7,none⟩ (.bool b)) S lk sh be c b:=⟨(Dz h.hp 7 _).trans rfl,h.hc⟩
theorem SB.left{w:World}{S:Nat}{lk:Int}{sh be:Option Nat}{n:Nat}{f np:Bool}(h:SB w S lk sh be (some (n+1,f)) np)(X:Int)(hX:X=(n:Int)):SB (w.setCell ⟨S,5,none⟩ (.int .i64 X)) S lk sh be (some (n,f)) np:=by
 subst hX;refine⟨(Dz h.hp 5 _).trans rfl,?_⟩;have:=h.hc;simp only[Ol]at this ⊢;omega
theorem SB.cut{w:World}{S:Nat}{lk:Int}{sh be:Option Nat}{c:Bo}{np:Bool}(h:SB w S lk sh be c np)(d:Bo)(hd:(Ol d:Int)<=9223372036854775807)(X:Int)(hX:X=(Ol d:Int)):SB (((w.setCell ⟨S,4,none⟩ (.bool d.isSome)).setCell ⟨S,5,none⟩ (.int .i64 X)).setCell ⟨S,6,none⟩ (.bool (Jg d))) S lk sh be d np:=by
 subst hX;exact⟨((Dz ((Dz ((Dz h.hp 4 _).trans rfl) 5 _).trans rfl) 6 _).trans rfl),hd⟩
theorem Ba(w:World)(B j:Nat)(u:Value):Touch (fun k=>k=B) w (w.setCell ⟨B,j,none⟩ u):=(Touch.refl (fun k=>k=B) w).setCell (p:=⟨B,j,none⟩) (show B=B from rfl) u
theorem zB(w:World):Calls Tryz.prog 8 #[] w fun e w'=>e=.returned (.pointer (some ⟨w.heap.size,0,none⟩))/\SB w' w.heap.size 0 none none none false/\Touch (fun _=>False) w w':=by
 go_enter Tryz.func8,Tryz.ntmps8;go_wp2;go_ret;exact⟨rfl,⟨heap_alloc_new w _,by simp[Ol]⟩,(Touch.refl _ _).alloc _⟩
def Vk(c:Bo):Bool:=match c with|some (0,_)=>false|_=>true
def Ri(c:Bo):Bo:=match c with|some (n+1,f)=>some (n,f)|c=>c
theorem Zw(w:World)(S:Nat)(lk:Int)(sh be:Option Nat)(c:Bo)(np:Bool)(h:SB w S lk sh be c np): Calls Tryz.prog 129 #[.pointer (some ⟨S,4,none⟩)] w fun r w'=>r=.returned (.bool (Vk c))/\SB w' S lk sh be (Ri c) np/\Touch (fun k=>k=S) w w':=by
 obtain⟨c0,c2,c3,c4,c5,c6,c7⟩:=h.cs;have f5:=h.fr 5;have hlt:=h.lt;rcases c with _|⟨_|n,f⟩
 .simp only[Option.isSome_none]at c4;go_enter Tryz.func129,Tryz.ntmps129;go_wp2;go_ret;exact⟨rfl,h,Touch.refl _ _⟩
 .simp only[Option.isSome_some,Ol]at c4 c5;go_enter Tryz.func129,Tryz.ntmps129;go_wp2;go_ret;exact⟨rfl,h,Touch.refl _ _⟩
 have hb:=h.hc;simp only[Option.isSome_some,Ol]at c4 c5 hb;have z:(((n+1:Nat):Int)==0)=false:=by simp;omega
 have z':¬((n+1:Nat):Int)=0:=by omega
 have z2:IntKind.i64.wrap (((n+1:Nat):Int)-1)=(n:Int):=by simp[IntKind.wrap,IntKind.bits,IntKind.signed];omega
 have z3:((n+1:Nat):Int)-1=(n:Int):=by omega
 have z4:wrap64 (n:Int)=(n:Int):=by unfold wrap64;omega
 clear hb;go_enter Tryz.func129,Tryz.ntmps129;go_wp2;go_ret;exact⟨rfl,h.left _ (by first|omega|exact z4),Ba _ _ _ _⟩
theorem cut_c(w:World)(S:Nat)(sh be:Option Nat)(c:Bo)(np:Bool)(h:SB w S 0 sh be c np)(n:Int)(f:Bool)(hn:n<=9223372036854775807): Calls Tryz.prog 13 #[.pointer (some ⟨S,0,none⟩),.int .i64 n,.bool f] w fun r w'=>r=.returned (.int .i64 (if n<0 then 15 else 0))/\SB w' S 0 sh be (if n<0 then c else some (n.toNat,f)) np/\Touch (fun k=>k=S) w w':=by
 have h1:=h.lock 1;obtain⟨c0,c2,c3,c4,c5,c6,c7⟩:=h.cs;have f0:=h.fr 0;have f4:=h1.fr 4;have f5:=h1.fr 5;have f6:=h1.fr 6;obtain⟨d0,d2,d3,d4,d5,d6,d7⟩:=h1.cs;have t1:=Ba w S 0 (.int .i32 1);by_cases hneg:n<0
 .rw[if_pos hneg,if_pos hneg];go_enter_defers Tryz.func13,Tryz.ntmps13;go_wp2_with (go_at_call 33;refine(lock_free muLib ⟨S,0,none⟩ _ c0 f0).mono ?_;rintro e w' ⟨rfl,rfl⟩);refine leaves_cons (f:=34) (args:=#[.pointer (some ⟨S,0,none⟩)]) (by simp) (by simp[go_sem]) ?_;refine(unlock_deferred muLib ⟨S,0,none⟩ .returning _ d0 (h1.fr 0)).mono ?_;rintro e u' w'' ⟨rfl,rfl,rfl⟩;exact⟨_,results_tmp rfl _ _ _,rfl,h1.lock 0,t1.trans (Ba _ _ _ _)⟩
 rw[if_neg hneg,if_neg hneg];have h2:=h1.cut (some (n.toNat,f)) (by simp only[Ol];omega) n (by simp only[Ol];omega);go_enter_defers Tryz.func13,Tryz.ntmps13;go_wp2_with (go_at_call 33;refine(lock_free muLib ⟨S,0,none⟩ _ c0 f0).mono ?_;rintro e w' ⟨rfl,rfl⟩);refine leaves_cons (f:=34) (args:=#[.pointer (some ⟨S,0,none⟩)]) (by simp) (by simp[go_sem]) ?_;refine(unlock_deferred muLib ⟨S,0,none⟩ .returning _ h2.cs.1 (h2.fr 0)).mono ?_;rintro e u' w'' ⟨rfl,rfl,rfl⟩;exact⟨_,results_tmp rfl _ _ _,rfl,h2.lock 0,t1.trans ((((Ba _ _ _ _).trans (Ba _ _ _ _)).trans (Ba _ _ _ _)).trans (Ba _ _ _ _))⟩
open Go.Maps
open Go.ChangeMaps Go.MapKept
def Qb1(v:Value):Option (DataW Value×List MemPlace):=some (.held v,[])
abbrev Qn:Value:=.slice none 0 0
def Jf(f:List UInt8->Option Value)(k:List UInt8)(v:Option Value):List UInt8->Option Value:=fun x=>if x=k then v else f x
def Ap(w:World)(B n:Nat)(f:List UInt8->Option Value):Prop:=
 ∃D:DataW Value,w.ownsMap Tryz.prog 9 Qb1 B n D/\(∀key,Maps.has D (.string key)=(f key).isSome)/\∀key,D.atKey (.string key) (.held Qn)=.held ((f key).getD Qn)
theorem Yl:Keyed Tryz.prog 9:=string_keyed Tryz.underlying9
theorem Ap.look{w:World}{B n:Nat}{f:List UInt8->Option Value}(h:Ap w B n f){t e:TypeId}(ht:Tryz.prog.underlying t=some (.map 9 e))(hz:(zeroValue e).run Tryz.prog w=.ok Qn w)(s:ByteArray)(hs:s.size<=maxLen): (Instr.lookup t (.map (some B)) (.string s) true).run Tryz.prog w=.ok (.tuple #[(f s.data.toList).getD Qn,.bool (f s.data.toList).isSome]) w:=by
 obtain⟨D,ho,hh,hv⟩:=h;obtain⟨v,ps,hrun,hr⟩:=ho.look_ok Yl ht hz (zd:=.held Qn) (zp:=[]) rfl (Go.WideMaps.keyOf_string_mk Tryz.underlying9 hs);rw[hv]at hr;cases hr;rw[hh]at hrun;exact hrun
theorem Ap.get{w:World}{B n:Nat}{f:List UInt8->Option Value}(h:Ap w B n f){t e:TypeId}(ht:Tryz.prog.underlying t=some (.map 9 e))(hz:(zeroValue e).run Tryz.prog w=.ok Qn w)(s:ByteArray)(hs:s.size<=maxLen): (Instr.lookup t (.map (some B)) (.string s) false).run Tryz.prog w=.ok ((f s.data.toList).getD Qn) w:=by
 obtain⟨D,ho,hh,hv⟩:=h;obtain⟨v,ps,hrun,hr⟩:=ho.lookup Yl ht hz (zd:=.held Qn) (zp:=[]) rfl (Go.WideMaps.keyOf_string_mk Tryz.underlying9 hs);rw[hv]at hr;cases hr;exact hrun
theorem Ap.put{w:World}{B n:Nat}{f:List UInt8->Option Value}(h:Ap w B n f){t e:TypeId}(ht:Tryz.prog.underlying t=some (.map 9 e))(s:ByteArray)(hs:s.size<=maxLen)(hn:n<maxLen)(v:Value): ∃w',(Instr.mapUpdate t (.map (some B)) (.string s) v).run Tryz.prog w=.ok () w'/\Ap w' B (n+1) (Jf f s.data.toList (some v))/\w.grownBy w' (some B):=by
 obtain⟨D,ho,hh,hv⟩:=h;have hkey:=Go.WideMaps.keyOf_string_mk Tryz.underlying9 hs;obtain⟨w',hrun,ho',hg⟩:=ho.update Yl ht hn hkey (d:=.held v) (ps:=[]) rfl;refine⟨w',hrun,⟨_,ho',fun key=>?_,fun key=>?_⟩,hg⟩
 .unfold Jf;by_cases e:key=s.data.toList;.rw[e,has_put_same ho.isMap (Yl.key hkey),if_pos rfl];rfl
  rw[has_put_other (by intro h;cases h;exact e rfl),if_neg e,hh]
 unfold Jf;by_cases e:key=s.data.toList;.rw[e,if_pos rfl];exact atKey_put_same ho.isMap (Yl.key hkey) _ _
 rw[if_neg e,atKey_put_other (by intro h;cases h;exact e rfl)];exact hv key
theorem Xu{H:Type}{P:Program}{k:TypeId}{R:Value->Option (DataW H×List MemPlace)}{w:World}{b n:Nat}{D:DataW H}(h:w.ownsMap P k R b n D):w.ownsMap P k R b (Maps.size D) D:=by
 obtain⟨es,clock,hb,F,hs,rfl⟩:=h;exact⟨es,clock,hb,F,by simp[Maps.size,length_sorted],rfl⟩
theorem Ap.Qhv{w:World}{B n:Nat}{f:List UInt8->Option Value}(h:Ap w B n f){t e:TypeId}(ht:Tryz.prog.underlying t=some (.map 9 e))(s:ByteArray)(hs:s.size<=maxLen)(hn:n<maxLen)(v:Value)(ho:(f s.data.toList).isSome=true): ∃w',(Instr.mapUpdate t (.map (some B)) (.string s) v).run Tryz.prog w=.ok () w'/\Ap w' B n (Jf f s.data.toList (some v))/\w.grownBy w' (some B):=by
 obtain⟨D,ho1,hh,hv⟩:=h;have hkey:=Go.WideMaps.keyOf_string_mk Tryz.underlying9 hs;obtain⟨w',hrun,ho',hg⟩:=ho1.update Yl ht hn hkey (d:=.held v) (ps:=[]) rfl;have hsz:Maps.size (D.put (.string s.data.toList) (.held v))<=n:=by
  rw[size_put (ho1.tidy Yl),hh,ho,if_pos rfl];exact ho1.size_le
 refine⟨w',hrun,⟨_,(Xu ho').mono hsz,fun key=>?_,fun key=>?_⟩,hg⟩
 .unfold Jf;by_cases e:key=s.data.toList;.rw[e,has_put_same ho1.isMap (Yl.key hkey),if_pos rfl];rfl
  rw[has_put_other (by intro h;cases h;exact e rfl),if_neg e,hh]
 unfold Jf;by_cases e:key=s.data.toList;.rw[e,if_pos rfl];exact atKey_put_same ho1.isMap (Yl.key hkey) _ _
 rw[if_neg e,atKey_put_other (by intro h;cases h;exact e rfl)];exact hv key
theorem Ap.del{w:World}{B n:Nat}{f:List UInt8->Option Value}(h:Ap w B n f){t e:TypeId}(ht:Tryz.prog.underlying t=some (.map 9 e))(s:ByteArray)(hs:s.size<=maxLen)(ty:TypeId): ∃w',(Builtin.delete_ #[t,9] ty #[.map (some B),.string s]).run Tryz.prog w=.ok (.tuple #[]) w'/\Ap w' B n (Jf f s.data.toList none)/\w.grownBy w' (some B):=by
 obtain⟨D,ho,hh,hv⟩:=h;have hkey:=Go.WideMaps.keyOf_string_mk Tryz.underlying9 hs;obtain⟨w',hrun,ho',hg⟩:=ho.drop Yl ht hkey ty;refine⟨w',hrun,⟨_,ho',fun key=>?_,fun key=>?_⟩,hg.grown⟩
 .unfold Jf;by_cases e:key=s.data.toList;.rw[e,if_pos rfl];exact has_false_of_atKey (fun z=>atKey_del_same z)
  rw[if_neg e,<-hh key];cases hx:Maps.has D (.string key)with
  |false=>exact has_false_of_atKey (fun z=>by rw[atKey_del_other (by intro h;cases h;exact e rfl)];exact atKey_of_not_has hx z)
  |true=>rw[has_del_other (by intro h;cases h;exact e rfl),hx]
 unfold Jf;by_cases e:key=s.data.toList;.rw[e,if_pos rfl];exact atKey_del_same _
 rw[if_neg e,atKey_del_other (by intro h;cases h;exact e rfl)];exact hv key
theorem Ap.made(w:World):Ap (w.alloc (.map #[] 0)) w.heap.size 0 (fun _=>none):=⟨_,World.ownsMap_made w _ _ _,fun _=>rfl,fun _=>rfl⟩
theorem Ap.lt{w:World}{B n:Nat}{f:List UInt8->Option Value}(h:Ap w B n f):B<w.heap.size:=by obtain⟨D,ho,_⟩:=h;exact ho.lt
theorem Ap.keep{w w':World}{S:Nat->Prop}{B n:Nat}{f:List UInt8->Option Value}(h:Ap w B n f)(ht:Touch S w w')(hs:¬S B):Ap w' B n f:=by
 obtain⟨D,ho,hU⟩:=h;refine⟨D,?_,hU⟩;have hl:=ho.lt;obtain⟨es,clock,h1,h2⟩:=ho;exact⟨es,clock,(ht.block B hl hs).trans h1,h2⟩
theorem Ap.mono{w:World}{B n m:Nat}{f:List UInt8->Option Value}(h:Ap w B n f)(hm:n<=m):Ap w B m f:=by
 obtain⟨D,ho,hU⟩:=h;exact⟨D,ho.mono hm,hU⟩
theorem Ap.congr{w:World}{B n:Nat}{f g:List UInt8->Option Value}(h:Ap w B n f)(e:∀k,f k=g k):Ap w B n g:=by
 have:f=g:=funext e;rw[<-this];exact h
theorem Ap.clear{w:World}{B n:Nat}{f:List UInt8->Option Value}(h:Ap w B n f){t e:TypeId}(ht:Tryz.prog.underlying t=some (.map 9 e))(ty:TypeId): ∃w',(Builtin.clear_ #[t] ty #[.map (some B)]).run Tryz.prog w=.ok (.tuple #[]) w'/\Ap w' B 0 (fun _=>none)/\w.grownBy w' (some B):=by
 obtain⟨D,⟨es,clock,hb,F,hs,rfl⟩,_⟩:=h;refine⟨setBlock w B (.map #[] clock),?_,⟨.map [],⟨#[],clock,heap_setBlock_same hb _,⟨by simp,stamped_empty _,by simp⟩,Nat.le_refl _,rfl⟩,fun _=>rfl,fun _=>rfl⟩,⟨rfl,rfl,rfl,by simp[setBlock],fun i _ hi=>heap_setBlock_other hb _ (fun e=>hi (by rw[e]))⟩⟩;simp[Builtin.clear_,run_underlying ht,MapKept.run_getObj_map hb,MapKept.run_setObj_map _ hb,Result.andThen];rfl
theorem Ap.Gf{w:World}{B n g:Nat}{f:List UInt8->Option Value}{cs:Array Value}{t:TypeId}{z:Nat×Nat}(h:Ap w B n f)(hr:w.heap[g]?=some (.cells cs t z)):B≠g:=by
 obtain⟨D,⟨es,clock,hb,_⟩,_⟩:=h;rintro rfl;rw[hb]at hr;cases hr
theorem Touch.turned{w w':World}{B:Nat}(h:w.grownBy w' (some B)):Touch (fun k=>k=B) w w':=(Touch.refl (fun k=>k=B) w).grown h (fun k hk=>by cases hk;rfl)
theorem Touch.wide{F G:Nat->Prop}{w w':World}(h:Touch F w w')(hi:∀k,F k->G k):Touch G w w':=h.mono (fun k _ e=>hi k e)
theorem Qci(w:World)(S:Nat)(sh:Option Nat)(c:Bo)(np:Bool)(h:SB w S 0 sh none c np): Calls Tryz.prog 18 #[.pointer (some ⟨S,0,none⟩)] w fun r w'=>r=.returned (.tuple #[])/\SB w' S 0 sh none none false/\Touch (fun k=>k=S) w w':=by
 have h1:=h.lock 1;obtain⟨c0,c2,c3,c4,c5,c6,c7⟩:=h.cs;have f0:=h.fr 0;have f4:=h1.fr 4;have f5:=h1.fr 5;have f6:=h1.fr 6;have f7:=h1.fr 7;obtain⟨d0,d2,d3,d4,d5,d6,d7⟩:=h1.cs;have t1:=Ba w S 0 (.int .i32 1);have h2:=(h1.cut none (by simp[Ol]) 0 rfl).power false;have hcl:∀(ty:TypeId) (W:World),(Builtin.clear_ #[86] ty #[.map none]).run Tryz.prog W=.ok (.tuple #[]) W:=fun ty W=>by simp[Builtin.clear_,run_underlying Tryz.underlying86,Result.andThen]
 go_enter_defers Tryz.func18,Tryz.ntmps18;go_wp2_with (go_at_call 33;refine(lock_free muLib ⟨S,0,none⟩ _ c0 f0).mono ?_;rintro e w' ⟨rfl,rfl⟩);refine leaves_cons (f:=34) (args:=#[.pointer (some ⟨S,0,none⟩)]) (by simp) (by simp[go_sem]) ?_;refine(unlock_deferred muLib ⟨S,0,none⟩ .returning _ h2.cs.1 (h2.fr 0)).mono ?_;rintro e u' w'' ⟨rfl,rfl,rfl⟩;exact⟨_,results_none rfl _ _ _,rfl,h2.lock 0,t1.trans (((((Ba _ _ _ _).trans (Ba _ _ _ _)).trans (Ba _ _ _ _)).trans (Ba _ _ _ _)).trans (Ba _ _ _ _))⟩
theorem Qcl(w:World)(S b n:Nat)(f:List UInt8->Option Value)(sh:Option Nat)(c:Bo)(np:Bool)(h:SB w S 0 sh (some b) c np)(hb:Ap w b n f): Calls Tryz.prog 18 #[.pointer (some ⟨S,0,none⟩)] w fun r w'=>r=.returned (.tuple #[])/\SB w' S 0 sh (some b) none false/\Ap w' b 0 (fun _=>none)/\Touch (fun k=>k=S\/k=b) w w':=by
 have h1:=h.lock 1;obtain⟨c0,c2,c3,c4,c5,c6,c7⟩:=h.cs;have f0:=h.fr 0;obtain⟨d0,d2,d3,d4,d5,d6,d7⟩:=h1.cs;have hne:=hb.Gf h.hp;have t1:=Ba w S 0 (.int .i32 1);have hb1:=hb.keep t1 hne;obtain⟨w2,hcl,hr2,hg2⟩:=hb1.clear Tryz.underlying86 0;have t2:=Touch.turned hg2;have h2:=h1.keep t2 (fun e=>hne e.symm);have f4:=h2.fr 4;have f5:=h2.fr 5;have f6:=h2.fr 6;have f7:=h2.fr 7;obtain⟨e0,e2,e3,e4,e5,e6,e7⟩:=h2.cs;have h3:=(h2.cut none (by simp[Ol]) 0 rfl).power false;go_enter_defers Tryz.func18,Tryz.ntmps18;go_wp2_with (go_at_call 33;refine(lock_free muLib ⟨S,0,none⟩ _ c0 f0).mono ?_;rintro e w' ⟨rfl,rfl⟩);refine leaves_cons (f:=34) (args:=#[.pointer (some ⟨S,0,none⟩)]) (by simp) (by simp[go_sem]) ?_;refine(unlock_deferred muLib ⟨S,0,none⟩ .returning _ h3.cs.1 (h3.fr 0)).mono ?_;rintro e u' w'' ⟨rfl,rfl,rfl⟩;have t3:=((((Ba w2 S 4 (.bool (none:Bo).isSome)).trans (Ba _ S 5 (.int .i64 0))).trans (Ba _ S 6 (.bool (Jg none)))).trans (Ba _ S 7 (.bool false))).trans (Ba _ S 0 (.int .i32 0));exact⟨_,results_none rfl _ _ _,rfl,h3.lock 0,hr2.keep t3 hne,((t1.wide (fun k e=>Or.inl e)).trans (t2.wide (fun k e=>Or.inr e))).trans (t3.wide (fun k e=>Or.inl e))⟩
end Go.Proofs.YtmhlkdlcpicekaaGreatDoor
