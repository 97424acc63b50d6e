/- Joined. -/
import Derived.Test.YtmhlkdlcpicekaaGreatDoorJ40
import Derived.Test.YtmhlkdlcpicekaaGreatDoorJ38
import Derived.Maps.OwnIn
set_option linter.unusedSimpArgs false
set_option linter.unusedVariables false
set_option maxRecDepth 100000
set_option maxHeartbeats 20000000
namespace Go.Proofs.YtmhlkdlcpicekaaGreatDoor
open Go.RowKit
def Qi1(x n:Nat):List UInt8:=(List.range n).map fun i=>UInt8.ofNat (x/256^i%256)
def Stands(s:ByteArray)(a:Nat)(l:List UInt8):Prop:=∃p q,s.data.toList=p++(l++q)/\p.length=a
structure Made where
 name:List UInt8
 method:Nat
 data:List UInt8
 text:List UInt8
 sum:Nat
def Qig(m:Made):List UInt8:=Qi1 m.sum 4++(Qi1 m.data.length 4++Qi1 m.text.length 4)
structure Fits (f:Nat) (m:Made):Prop where
 flag:f=0\/f=8
 nm:m.name.length<=60
 mth:m.method=0\/m.method=8
 dat:m.data.length<65536
 txt:m.text.length<65536
 sm:m.sum<4294967296
def Pg(f:Nat)(m:Made)(at_:Nat):Eo:=⟨⟨m.name.toArray⟩,m.method,m.sum,m.data.length,m.text.length,at_,20,f,0,0,⟨(Qig m).toArray⟩⟩
structure Gives (m:Made):Prop where
 how:(m.method=0/\m.data=m.text)\/(m.method=8/\∃q,Ed ⟨m.data.toArray⟩ (m.text.length:Int)=.inr (m.text,q)/\(q+7)/8=m.data.length)
 sum:sumOf ⟨m.text.toArray⟩=m.sum
def Qjh(n:Nat):List UInt8:=
 (if n/4=1\/n/4=2 then [120,47]else if n/4=3 then [120,47,121,47]else if n/4=4 then [33,47]else [])++([[97],[98,46,116,120,116],[99,32,99],[90]].getD (n%4) []++(if n/4=2\/n/4=5 then [122]else []))
def Qjf(n:Nat):List UInt8:=[[120,47],[120,47,121,47],[33,47],[101,109,112,116,121,47]].getD n []
def Zz:List (List UInt8):=(List.range 24).map Qjh++(List.range 4).map Qjf
def Zh(s:List UInt8):Bool:=decide (s.getLast?=some 47)
def zZ(s:List UInt8):List UInt8:=if Zh s then s.dropLast else s
def nameLL(s:List UInt8):Bool:=decide (s.length<=60)&&s.all Ik&&(Az (zZ s) []).all Jb
def Qh8(B:List UInt8)(n x:Nat):List UInt8:=
 if n%8=0 then B++[UInt8.ofNat x]else B.set (B.length-1) (UInt8.ofNat ((B.getD (B.length-1) 0).toNat+x*2^(n%8)))
def Qjg(st:List UInt8×Nat)(x:Nat):List UInt8×Nat:=(Qh8 st.1 st.2 x,st.2+1)
def bytesOf(bs:List Nat):List UInt8:=(bs.foldl Qjg ([],0)).1
structure BW (w:World) (b:Nat) (B:List UInt8) (n:Nat):Prop where
 gv:∃ao cap,w.cell? ⟨b,0,none⟩=some (.slice ao B.length cap)/\w.ownsRow (b+1) 5 1 (.slice ao B.length cap) B.length (Dy B)
 cn:w.cell? ⟨b,1,none⟩=some (.int .i64 (n:Int))
 fr:∀o,w.frozen? ⟨b,o,none⟩=false
structure BWs (w:World) (b:Nat) (bs:List Nat):Prop where
 bw:BW w b (bytesOf bs) bs.length
 le:∀x∈bs,x<=1
def Nr(c:Int)(n:Nat):Nat:=((if c<0 then -(c+1)else c)%(n:Int)).toNat
theorem lS(c:Int)(n:Nat)(h:0<n):Nr c n<n:=by
 unfold Nr;have h1:=Int.emod_lt_of_pos (if c<0 then -(c+1)else c) (show(0:Int)<(n:Int) by omega);have h2:=Int.emod_nonneg (if c<0 then -(c+1)else c) (show(n:Int)≠0 by omega);omega
def At(s:ByteArray)(p:Nat)(xs:List Nat):Prop:=∀i,i<xs.length->p+i<8*s.size->Ea s (p+i)=xs.getD i 0
def Comes3(s:ByteArray)(most len out:Nat)(X ok:Sum Nat (List UInt8×Nat)):Prop:=
 (len<=8*s.size->out<=most->X=ok)/\(8*s.size<len->out<=most->X=.inl 1)/\(len<=8*s.size->most<out->X=.inl 2)
structure rV (w:World) (sb at_:Nat) (K N F:Int) (S:ByteArray):Prop where
 c0:w.cell? ⟨sb,at_,none⟩=some (.int .i64 K)
 c1:w.cell? ⟨sb,at_+1,none⟩=some (.int .i64 N)
 c2:w.cell? ⟨sb,at_+2,none⟩=some (.int .i64 F)
 c3:w.cell? ⟨sb,at_+3,none⟩=some (.string S)
 lt:sb<w.heap.size
 hK:-9223372036854775808<=K/\K<=9223372036854775807
 hN:-9223372036854775808<=N/\N<=9223372036854775807
 hF:-9223372036854775808<=F/\F<=9223372036854775807
 hS:S.size<=9223372036854775807
structure jM (m:Made):Prop where
 nm:m.name∈Zz
 mth:m.method=0\/m.method=8
 dat:m.data.length<=2000
 txt:m.text.length<=3600
 gv:Gives m
 fol:Zh m.name=true->m.data=[]/\m.text=[]
 m0:m.method=0->m.data=m.text
structure AllOk (l:List Made):Prop where
 each:∀m∈l,jM m
 nd:(l.map (·.name)).Nodup
open Go.Shelf
theorem lM{w:World}{base n cap:Nat}{a:Option Addr}{l:List Gn}(h:w.ownsRow base 41 2 (.slice a n cap) l.length (Ar l)):n=l.length/\(0<l.length->∃g,a=some ⟨g,0,none⟩/\Dc w g l/\g<w.heap.size/\base<=g/\l.length<=cap):=by
 obtain⟨h1,⟨h2,h3⟩|⟨g,cap',cur,e,hb,hg,h3,h4,h5,h6⟩⟩:=h
 .cases h2;exact⟨h3.symm,fun h=>by omega⟩
 cases e;refine⟨rfl,fun _=>⟨g,rfl,fun i hi=>?_,(Array.getElem?_eq_some_iff.1 hg).1,hb,h3⟩⟩;obtain⟨e1,e2⟩:=Xb l i hi;rw[<-h6,List.getElem?_take_of_lt (by omega)]at e1 e2;rw[cell_of_row w g _ cur _ _ hg,cell_of_row w g _ cur _ _ hg];exact⟨by simpa using e1,by simpa using e2⟩
end Go.Proofs.YtmhlkdlcpicekaaGreatDoor
