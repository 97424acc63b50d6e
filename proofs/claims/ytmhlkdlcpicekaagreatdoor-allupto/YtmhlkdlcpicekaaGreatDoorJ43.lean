/- Joined. -/
import Derived.Test.YtmhlkdlcpicekaaGreatDoorJ42
set_option linter.unusedSimpArgs false
set_option linter.unusedVariables false
set_option maxHeartbeats 20000000
namespace Go.Proofs.YtmhlkdlcpicekaaGreatDoor
open Go.RowKit Go.Shelf Go.Lib
theorem aB(nm:List UInt8):∀(f i:Nat) (out:List Gn),(Fb nm f i out).length<=out.length+f
 |0,_,out=>by simp[Fb]
 |f+1,i,out=>by
  have h:=aB nm f (i+1) (if nm[i]?=some 47 then Hy out (Ez (nm.take (i+1)))else out);unfold Fb;split at h
  .rename_i hc;rw[if_pos hc];have:=Sv (Ez (nm.take (i+1))) out;omega
  rename_i hc;rw[if_neg hc];omega
theorem bG(s:ByteArray):∀(L:List Ai) (out o:List Gn),(∀x∈L,x.Af.name.size<=60)->Gx s L out=.inr o->o.length<=out.length+61*L.length
 | [],out,o,_,h=>by cases h;simp
 |x::L,out,o,hn,h=>by
  have h1:=aB x.Af.name.data.toList x.Af.name.size 0 out;have h2:=hn x (List.mem_cons_self ..);have hn':∀y∈L,y.Af.name.size<=60:=fun y hy=>hn y (List.mem_cons_of_mem _ hy);unfold Gx at h;split at h
  .have:=bG s L _ o hn' h;simp only[List.length_cons];omega
  cases hd:Ff s x with
  |inl k=>rw[hd]at h;cases h
  |inr d=>
   rw[hd]at h;have h3:=bG s L _ o hn' h;have h4:=Sv (x.Af.name,d) (Fb x.Af.name.data.toList x.Af.name.size 0 out);simp only[List.length_cons];omega
@[reducible] def In64(q:Int):Prop:=-9223372036854775808<=q/\q<=9223372036854775807
theorem Qdl{w:World}{base:Nat}{v:Value}{o:List Gn}(h:Fj w base v o):∃a cap g,v=.slice a o.length cap/\(0<o.length->a=some ⟨g,0,none⟩/\Dc w g o/\g<w.heap.size):=by
 obtain⟨q1,⟨q2,q3⟩|⟨g,cap,cur,rfl,hrest⟩⟩:=id h;.exact⟨none,0,0,by rw[q2,q3],fun h=>by omega⟩
 obtain⟨a1,a2,a3,a4⟩:=Fj.files h;exact⟨_,cap,g,rfl,fun _=>⟨rfl,a1,a2⟩⟩
end Go.Proofs.YtmhlkdlcpicekaaGreatDoor
