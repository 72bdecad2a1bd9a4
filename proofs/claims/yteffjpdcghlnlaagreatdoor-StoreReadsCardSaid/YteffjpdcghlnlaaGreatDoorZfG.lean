import Derived.Maps.OwnSet
import Derived.Maps.Ext
import Derived.Lib.SlKeysI
import Derived.Shelf.SlIterI.Nil
import Derived.Shelf.SortM.Plain
import Derived.Shelf.SortM.SortNone
import Derived.Shelf.SlMaps.Clone
import Derived.Test.YteffjpdcghlnlaaGreatDoorZfE
set_option linter.unusedVariables false
set_option linter.unusedSimpArgs false
set_option maxHeartbeats 8000000
set_option maxRecDepth 20000
namespace Go.Proofs.YteffjpdcghlnlaaGreatDoor.Oct
open Go.ChangeShapes Go.WideShapes Go.ChangeAt Go.RowKit
theorem setCells_row{b:Nat}:∀ (vs:List Value) (o:Nat) (cur:Array Value) (w:World),row w b=some cur->w.setCells b o vs=w.setRow b (spl cur o vs)
 |[],o,cur,w,h=>by simp only[World.setCells,spl];rw[yF h]
 |v::r,o,cur,w,h=>by
  simp only[World.setCells,spl];rw[zL h,setCells_row r (o+1) _ _ (zE h _),setRow_setRow]
theorem spl_size:∀ (vs:List Value) (o:Nat) (c:Array Value),(spl c o vs).size=c.size
 |[],_,_=>rfl
 |v::r,o,c=>by simp only[spl];rw[spl_size r];simp
structure ElAt{α:Type}(k:Nat)(E:Mk->World->α->List Value->Prop)(T:Mk)(w:World)(t:Nat)(A:Option Addr)(c:Nat)(l:List α):Prop where
 le:l.length<=c
 big:c<=maxLen
 at_:0<c->∃ g o cur,A=some ⟨g,o,none⟩/\row w g=some cur/\o+c*k<=cur.size/\T g=t/\∀ i (h:i<l.length),∃ vs,E T w l[i] vs/\∀ j,j<k->cur[o+i*k+j]? =vs[j]?
section
variable {α:Type} {k:Nat} {E:Mk->World->α->List Value->Prop} (hE:ElOk k E) {T T' T2:Mk} {H:Nat->Prop} {w w':World} {t:Nat} {A:Option Addr} {c:Nat} {l:List α}
theorem ElAt.nil(T:Mk)(w:World)(t:Nat):ElAt k E T w t none 0 ([]:List α):=⟨Nat.le_refl _,Nat.zero_le _,fun h=>absurd h (by omega)⟩
include hE
theorem ElAt.fr(h:ElAt k E T w t A c l)(hf:Fr T T' H w w')(ht:¬ H t)(h0:¬ H 0):ElAt k E T' w' t A c l:=
 ⟨h.le,h.big,fun hc=>by
  obtain ⟨g,o,cur,e,hr,hs,hT,hel⟩:=h.at_ hc;refine ⟨g,o,cur,e,hf.rowAt hr (by rw[hT];exact ht),hs,by rw[hf.tag g (zK hr)];exact hT,fun i hi=>?_⟩
  obtain ⟨vs,h1,h2⟩:=hel i hi
  exact ⟨vs,hE.fr h1 hf h0,h2⟩⟩
omit hE in
theorem Fr.painted{T:Mk}{t:Nat}(h:Fr T T H w w')(n:Nat)(hn:w.heap.size<=n):Fr T (Oct.paint T n t) H w w':=⟨h.os,h.tape,h.output,h.size,h.keep,fun k hk=>zH (by omega)⟩
theorem run_appAt{P:Program}{ty u:TypeId}{tt:TypeId}{z:Value}{bytes:Nat}(ht:P.underlying tt=some (.slice u))(hi:(P.info? u).map (fun i=>(i.zero,i.size,i.bytes))=some (some z,k,bytes))(hz:z.cells.size=k)(hk:0<k)(hb:bytes<=1000)
  (h:ElAt k E T w t A c l) {p:Nat} {x:α} {vs:List Value} (hp:row w p=some vs.toArray) (hx:E T w x vs) (hl:l.length<=1000000000) (h0:0≠t):
  ∃ A' c' w',(Builtin.append_ #[tt,tt] ty #[.slice A l.length c,.slice (some ⟨p,0,none⟩) 1 1]).run P w=.ok (.slice A' (l.length+1) c') w'/\ElAt k E (paint T w.heap.size t) w' t A' c' (l++[x])/\Fr T (paint T w.heap.size t) (fun c=>c=t) w w':=by
 cases hq:P.info? u with
 |none=>rw[hq] at hi;cases hi
 |some i=>
  rw[hq] at hi;have e0:(i.zero,i.size,i.bytes)=(some z,k,bytes):=Option.some.inj hi;simp only[Prod.mk.injEq] at e0;obtain ⟨z0,z1,z2⟩:=e0;have hvl:=hE.len hx;have hS:Src P i.size tt (.slice (some ⟨p,0,none⟩) 1 1) 1 vs w:=Src.ofSlice w ht ⟨p,0,none⟩ 1 1 vs (by rw[hvl,z1];omega) (fun j y hy=>by rw[yK,Nat.zero_add,zC hp,List.getElem?_toArray];exact hy) (hE.one hx)
  by_cases hroom:l.length+1<=c
  ·obtain ⟨g,o,cur,rfl,hr,hsz,hT,hel⟩:=h.at_ (by omega)
   have hm:(l.length+1)*k<=c*k:=Nat.mul_le_mul_right k hroom;rw[Nat.add_mul,Nat.one_mul] at hm
   have hrun:=run_append_room_src (P:=P) w tt tt ty u i ht hq g o l.length c (.slice (some ⟨p,0,none⟩) 1 1) 1 vs hS hroom
    (fun j hj=>by rw[zC hr,z1];simp only[Option.isSome_iff_exists];exact ⟨_,Array.getElem?_eq_getElem (by omega)⟩) (fun j hj=>zJ hr _)
   rw[z1,setCells_row vs _ cur w hr] at hrun;have hF:Fr T T (fun c=>c=t) w (w.setRow g (spl cur (o+l.length*k) vs)):=Fr.row hT _
   have hF2:=hF.painted (t:=t) w.heap.size (Nat.le_refl _);refine ⟨_,_,_,hrun,⟨by rw[List.length_append];exact hroom,h.big,fun _=>⟨g,o,_,rfl,zE hr _,by rw[spl_size];exact hsz,by rw[zH (zK hr)];exact hT,fun i hi=>?_⟩⟩,hF2⟩
   by_cases hlt:i<l.length
   ·obtain ⟨ws,h4,h5⟩:=hel i hlt
    refine ⟨ws,by rw[List.getElem_append_left hlt];exact hE.fr h4 hF2 (fun e=>h0 e),fun j hj=>?_⟩
    have hm2:(i+1)*k<=l.length*k:=Nat.mul_le_mul_right k hlt;rw[Nat.add_mul,Nat.one_mul] at hm2;rw[yU _ _ _ _ (by omega),if_neg (by omega)]
    exact h5 j hj
   ·have hi':i=l.length:=by simp at hi;omega
    subst hi';refine ⟨vs,by rw[List.getElem_append_right (Nat.le_refl _)];simpa using hE.fr hx hF2 (fun e=>h0 e),fun j hj=>?_⟩
    rw[yU _ _ _ _ (by omega),if_pos ⟨by omega,by omega⟩,show o+l.length*k+j-(o+l.length*k)=j by omega]
  ·have hlc:c=l.length:=by have:=h.le;omega
   obtain ⟨olds,ho1,ho2,ho3⟩:∃ olds:List Value,olds.length=l.length*k/\(Builtin.firstCells i.size l.length (.slice A l.length c)).run P w.drew=.ok olds.toArray w.drew/\∀ i (h:i<l.length),∃ vs,E T w l[i] vs/\∀ j,j<k->olds[i*k+j]? =vs[j]? :=by
    by_cases hc0:0<c
    ·obtain ⟨g,o,cur,rfl,hr,hsz,hT,hel⟩:=h.at_ hc0
     have hlen:((cur.toList.drop o).take (l.length*k)).length=l.length*k:=by
      have hq:cur.toList.length=cur.size:=Array.length_toList ..;have hsz':o+l.length*k<=cur.size:=by rw[<-hlc];exact hsz
      rw[List.length_take,List.length_drop];omega
     refine ⟨(cur.toList.drop o).take (l.length*k),hlen,?_,fun i hi=>?_⟩
     ·refine run_firstCells_some (P:=P) w.drew i.size l.length ⟨g,o,none⟩ l.length c _ (by rw[hlen,z1]) (fun j y hy=>?_)
      rw[List.getElem?_take] at hy
      split at hy
      ·rw[yK]
       show w.cell? ⟨g,o+j,none⟩=_;rw[zC hr,<-hy,List.getElem?_drop,Array.getElem?_toList]
      ·cases hy
     ·obtain ⟨ws,h4,h5⟩:=hel i hi
      refine ⟨ws,h4,fun j hj=>?_⟩
      have hm2:(i+1)*k<=l.length*k:=Nat.mul_le_mul_right k hi;rw[Nat.add_mul,Nat.one_mul] at hm2;rw[List.getElem?_take,if_pos (by omega),List.getElem?_drop,Array.getElem?_toList,<-h5 j hj]
      congr 1;omega
    ·have hl0:l.length=0:=by omega
     refine ⟨[],by simp[hl0],?_,fun i hi=>by omega⟩
     rw[hl0]
     cases A with
     |none=>exact run_firstCells_none w.drew i.size 0 0 c
     |some a=>exact run_firstCells_some w.drew i.size 0 a 0 c [] (by simp) (fun j y hy=>by simp at hy)
   have hcm:=h.big;have hrun:=run_append_grow_src (P:=P) w tt tt ty u i z ht hq z0 A l.length c olds ho2 (.slice (some ⟨p,0,none⟩) 1 1) 1 vs hS (by omega) (by omega) (growslice_fits (by omega) (by rw[z2];have:=Nat.mul_le_mul (show l.length+1<=1000000001 by omega) hb;omega))
   have hge:=grownCap_ge w (l.length+1) c u;have hgm:=grownCap_le_maxLen w (l.length+1) c u (by unfold maxLen;omega)
   obtain ⟨cap,hcap⟩:∃ cap,cap=grownCap w (l.length+1) c u:=⟨_,rfl⟩;rw[<-hcap] at hrun hge hgm;have hb2:Below w.heap.size w (w.drew.alloc (.cells ((olds++vs).toArray++Builtin.zeroCells z.cells (cap-(l.length+1))) u)):=(Below.refl w.heap.size w).drew.alloc (Nat.le_refl _) _;have hF2:Fr T (paint T w.heap.size t) (fun c=>c=t) w (w.drew.alloc (.cells ((olds++vs).toArray++Builtin.zeroCells z.cells (cap-(l.length+1))) u)):=Fr.new hb2 t
   refine ⟨_,_,_,hrun,⟨by rw[List.length_append];exact hge,hgm,fun _=>⟨w.heap.size,0,_,rfl,zA w.drew _ _ _ rfl,?_,zP (Nat.le_refl _),fun i hi=>?_⟩⟩,hF2⟩
   ·rw[Array.size_append,size_zeroCells,hz,List.size_toArray,List.length_append,ho1,hvl]
    have:cap*k=(l.length+1)*k+(cap-(l.length+1))*k:=by rw[<-Nat.add_mul];congr 1;omega
    rw[Nat.add_mul,Nat.one_mul] at this;omega
   ·by_cases hlt:i<l.length
    ·obtain ⟨ws,h4,h5⟩:=ho3 i hlt
     refine ⟨ws,by rw[List.getElem_append_left hlt];exact hE.fr h4 hF2 (fun e=>h0 e),fun j hj=>?_⟩
     have hm2:(i+1)*k<=l.length*k:=Nat.mul_le_mul_right k hlt;rw[Nat.add_mul,Nat.one_mul] at hm2;rw[Nat.zero_add,Array.getElem?_append_left (by rw[List.size_toArray,List.length_append];omega),List.getElem?_toArray,List.getElem?_append_left (by omega)]
     exact h5 j hj
    ·have hi':i=l.length:=by simp at hi;omega
     subst hi';refine ⟨vs,by rw[List.getElem_append_right (Nat.le_refl _)];simpa using hE.fr hx hF2 (fun e=>h0 e),fun j hj=>?_⟩
     rw[Nat.zero_add,Array.getElem?_append_left (by rw[List.size_toArray,List.length_append];omega),List.getElem?_toArray,List.getElem?_append_right (by omega),ho1,Nat.add_sub_cancel_left]
end
theorem ElAt.empty{α:Type}{k:Nat}{E:Mk->World->α->List Value->Prop}(T:Mk)(w:World)(t:Nat)(A:Option Addr):ElAt k E T w t A 0 ([]:List α):=⟨Nat.le_refl _,Nat.zero_le _,fun h=>absurd h (by omega)⟩
theorem wpl_appAt{α:Type}{k:Nat}{E:Mk->World->α->List Value->Prop}(hE:ElOk k E){T:Mk}{w:World}{tg c:Nat}{A:Option Addr}{l:List α}{P:Program}{ops:Array Oper}{rest:List Oper}{o:Oper}{a:Act}{Q:Exit->Act->World->Prop}(hgd:o.guard=none)(s y:Operand){t u:TypeId}{z:Value}{bytes:Nat}
  (ho:o.op=.call { callee:=.builtin .append,args:=#[s,y],argTypes:=#[t,t] }) (ht:P.underlying t=some (.slice u)) (hi:(P.info? u).map (fun i=>(i.zero,i.size,i.bytes))=some (some z,k,bytes)) (hz:z.cells.size=k) (hk:0<k) (hb:bytes<=1000)
  (hA:ElAt k E T w tg A c l) {p:Nat} {x:α} {vs:List Value} (hp:row w p=some vs.toArray) (hx:E T w x vs) (hl:l.length<=1000000000) (h0:0≠tg)
  (hv:a.eval s=.slice A l.length c) (hy:a.eval y=.slice (some ⟨p,0,none⟩) 1 1)
  (h:∀ A' c' w',ElAt k E (paint T w.heap.size tg) w' tg A' c' (l++[x])->Fr T (paint T w.heap.size tg) (fun c=>c=tg) w w'->wpList P ops Q rest (a.put o.dst (.slice A' (l.length+1) c')) w'):wpList P ops Q (o::rest) a w:=by
 refine wpList_plain hgd fun K hK=>?_
 obtain ⟨A',c',w',a1,a2,a3⟩:=run_appAt hE (ty:=o.type) ht hi hz hk hb hA hp hx hl h0;unfold Oper.wp execOp;simp only[ho,resolve,invoke,builtin,Sem.run_bind,Sem.run_pure,Result.andThen_ok,List.map_toArray,List.map_cons,List.map_nil,hv,hy,a1];exact hK _ _ (h A' c' w' a2 a3)
section
variable {α:Type} {k:Nat} {E:Mk->World->α->List Value->Prop} (hE:ElOk k E) {T T' T2:Mk} {H:Nat->Prop} {w w':World} {t:Nat} {A:Option Addr} {c:Nat} {l:List α}
include hE
theorem run_appSrc{P:Program}{ty u:TypeId}{tt:TypeId}{z:Value}{bytes:Nat}(ht:P.underlying tt=some (.slice u))(hi:(P.info? u).map (fun i=>(i.zero,i.size,i.bytes))=some (some z,k,bytes))(hz:z.cells.size=k)(hk:0<k)(hb:bytes<=1000)
  (h:ElAt k E T w t A c l) {V:Value} {xs:List α} {vs:List Value} (hSS:∀ i,P.info? u=some i->Src P i.size tt V xs.length vs w) (hvl:vs.length=xs.length*k) (hx:∀ i (h:i<xs.length),∃ ws,E T w xs[i] ws/\∀ j,j<k->vs[i*k+j]? =ws[j]?) (hm0:0<xs.length) (hone:∀ v∈vs,v.oneCell'=true) (hl:l.length+xs.length<=1000000000) (h0:0≠t):
  ∃ A' c' w',(Builtin.append_ #[tt,tt] ty #[.slice A l.length c,V]).run P w=.ok (.slice A' (l.length+xs.length) c') w'/\ElAt k E (paint T w.heap.size t) w' t A' c' (l++xs)/\Fr T (paint T w.heap.size t) (fun c=>c=t) w w':=by
 cases hq:P.info? u with
 |none=>rw[hq] at hi;cases hi
 |some i=>
  rw[hq] at hi;have e0:(i.zero,i.size,i.bytes)=(some z,k,bytes):=Option.some.inj hi;simp only[Prod.mk.injEq] at e0;obtain ⟨z0,z1,z2⟩:=e0;have hS:=hSS i hq
  by_cases hroom:l.length+xs.length<=c
  ·obtain ⟨g,o,cur,rfl,hr,hsz,hT,hel⟩:=h.at_ (by omega)
   have hm:(l.length+xs.length)*k<=c*k:=Nat.mul_le_mul_right k hroom;rw[Nat.add_mul] at hm
   have hrun:=run_append_room_src (P:=P) w tt tt ty u i ht hq g o l.length c V xs.length vs hS hroom
    (fun j hj=>by rw[zC hr,z1];simp only[Option.isSome_iff_exists];exact ⟨_,Array.getElem?_eq_getElem (by omega)⟩) (fun j hj=>zJ hr _)
   rw[z1,setCells_row vs _ cur w hr] at hrun;have hF:Fr T T (fun c=>c=t) w (w.setRow g (spl cur (o+l.length*k) vs)):=Fr.row hT _
   have hF2:=hF.painted (t:=t) w.heap.size (Nat.le_refl _);refine ⟨_,_,_,hrun,⟨by rw[List.length_append];exact hroom,h.big,fun _=>⟨g,o,_,rfl,zE hr _,by rw[spl_size];exact hsz,by rw[zH (zK hr)];exact hT,fun i hi=>?_⟩⟩,hF2⟩
   by_cases hlt:i<l.length
   ·obtain ⟨ws,h4,h5⟩:=hel i hlt
    refine ⟨ws,by rw[List.getElem_append_left hlt];exact hE.fr h4 hF2 (fun e=>h0 e),fun j hj=>?_⟩
    have hm2:(i+1)*k<=l.length*k:=Nat.mul_le_mul_right k hlt;rw[Nat.add_mul,Nat.one_mul] at hm2;rw[yU _ _ _ _ (by omega),if_neg (by omega)]
    exact h5 j hj
   ·have hi':i<l.length+xs.length:=by simpa using hi
    obtain ⟨ws,h4,h5⟩:=hx (i-l.length) (by omega)
    have hm2:(i+1)*k<=(l.length+xs.length)*k:=Nat.mul_le_mul_right k hi';have hm3:l.length*k+(i-l.length)*k=i*k:=by rw[<-Nat.add_mul];congr 1;omega
    rw[Nat.add_mul,Nat.add_mul,Nat.one_mul] at hm2;refine ⟨ws,by rw[List.getElem_append_right (by omega)];exact hE.fr h4 hF2 (fun e=>h0 e),fun j hj=>?_⟩
    rw[yU _ _ _ _ (by omega),if_pos ⟨by omega,by omega⟩,show o+i*k+j-(o+l.length*k)=(i-l.length)*k+j by omega]
    exact h5 j hj
  ·have hle:=h.le
   obtain ⟨olds,ho1,ho2,ho3⟩:∃ olds:List Value,olds.length=l.length*k/\(Builtin.firstCells i.size l.length (.slice A l.length c)).run P w.drew=.ok olds.toArray w.drew/\∀ i (h:i<l.length),∃ vs,E T w l[i] vs/\∀ j,j<k->olds[i*k+j]? =vs[j]? :=by
    by_cases hc0:0<c
    ·obtain ⟨g,o,cur,rfl,hr,hsz,hT,hel⟩:=h.at_ hc0
     have hlen:((cur.toList.drop o).take (l.length*k)).length=l.length*k:=by
      have hq:cur.toList.length=cur.size:=Array.length_toList ..;have hsz':o+l.length*k<=cur.size:=by have:=Nat.mul_le_mul_right k hle;omega
      rw[List.length_take,List.length_drop];omega
     refine ⟨(cur.toList.drop o).take (l.length*k),hlen,?_,fun i hi=>?_⟩
     ·refine run_firstCells_some (P:=P) w.drew i.size l.length ⟨g,o,none⟩ l.length c _ (by rw[hlen,z1]) (fun j y hy=>?_)
      rw[List.getElem?_take] at hy
      split at hy
      ·rw[yK]
       show w.cell? ⟨g,o+j,none⟩=_;rw[zC hr,<-hy,List.getElem?_drop,Array.getElem?_toList]
      ·cases hy
     ·obtain ⟨ws,h4,h5⟩:=hel i hi
      refine ⟨ws,h4,fun j hj=>?_⟩
      have hm2:(i+1)*k<=l.length*k:=Nat.mul_le_mul_right k hi;rw[Nat.add_mul,Nat.one_mul] at hm2;rw[List.getElem?_take,if_pos (by omega),List.getElem?_drop,Array.getElem?_toList,<-h5 j hj]
      congr 1;omega
    ·have hl0:l.length=0:=by omega
     refine ⟨[],by simp[hl0],?_,fun i hi=>by omega⟩
     rw[hl0]
     cases A with
     |none=>exact run_firstCells_none w.drew i.size 0 0 c
     |some a=>exact run_firstCells_some w.drew i.size 0 a 0 c [] (by simp) (fun j y hy=>by simp at hy)
   have hcm:=h.big;have hrun:=run_append_grow_src (P:=P) w tt tt ty u i z ht hq z0 A l.length c olds ho2 V xs.length vs hS (by omega) (by omega) (growslice_fits (by omega) (by rw[z2];have:=Nat.mul_le_mul (show l.length+xs.length<=1000000001 by omega) hb;omega))
   have hge:=grownCap_ge w (l.length+xs.length) c u;have hgm:=grownCap_le_maxLen w (l.length+xs.length) c u (by unfold maxLen;omega)
   obtain ⟨cap,hcap⟩:∃ cap,cap=grownCap w (l.length+xs.length) c u:=⟨_,rfl⟩;rw[<-hcap] at hrun hge hgm;have hb2:Below w.heap.size w (w.drew.alloc (.cells ((olds++vs).toArray++Builtin.zeroCells z.cells (cap-(l.length+xs.length))) u)):=(Below.refl w.heap.size w).drew.alloc (Nat.le_refl _) _;have hF2:Fr T (paint T w.heap.size t) (fun c=>c=t) w (w.drew.alloc (.cells ((olds++vs).toArray++Builtin.zeroCells z.cells (cap-(l.length+xs.length))) u)):=Fr.new hb2 t
   refine ⟨_,_,_,hrun,⟨by rw[List.length_append];exact hge,hgm,fun _=>⟨w.heap.size,0,_,rfl,zA w.drew _ _ _ rfl,?_,zP (Nat.le_refl _),fun i hi=>?_⟩⟩,hF2⟩
   ·rw[Array.size_append,size_zeroCells,hz,List.size_toArray,List.length_append,ho1,hvl]
    have:cap*k=(l.length+xs.length)*k+(cap-(l.length+xs.length))*k:=by rw[<-Nat.add_mul];congr 1;omega
    rw[Nat.add_mul] at this;omega
   ·by_cases hlt:i<l.length
    ·obtain ⟨ws,h4,h5⟩:=ho3 i hlt
     refine ⟨ws,by rw[List.getElem_append_left hlt];exact hE.fr h4 hF2 (fun e=>h0 e),fun j hj=>?_⟩
     have hm2:(i+1)*k<=l.length*k:=Nat.mul_le_mul_right k hlt;rw[Nat.add_mul,Nat.one_mul] at hm2;rw[Nat.zero_add,Array.getElem?_append_left (by rw[List.size_toArray,List.length_append];omega),List.getElem?_toArray,List.getElem?_append_left (by omega)]
     exact h5 j hj
    ·have hi':i<l.length+xs.length:=by simpa using hi
     obtain ⟨ws,h4,h5⟩:=hx (i-l.length) (by omega)
     have hm3:l.length*k+(i-l.length)*k=i*k:=by rw[<-Nat.add_mul];congr 1;omega
     have hm2:(i+1)*k<=(l.length+xs.length)*k:=Nat.mul_le_mul_right k hi';rw[Nat.add_mul,Nat.add_mul,Nat.one_mul] at hm2;refine ⟨ws,by rw[List.getElem_append_right (by omega)];exact hE.fr h4 hF2 (fun e=>h0 e),fun j hj=>?_⟩
     rw[Nat.zero_add,Array.getElem?_append_left (by rw[List.size_toArray,List.length_append];omega),List.getElem?_toArray,List.getElem?_append_right (by omega),ho1,show i*k+j-l.length*k=(i-l.length)*k+j by omega]
     exact h5 j hj
theorem ElAt.src{P:Program}{u:TypeId}{tt:TypeId}(ht:P.underlying tt=some (.slice u))(hz:(P.info? u).map (·.size)=some k)(h:ElAt k E T w t A c l)(h0:0<l.length):
  ∃ vs:List Value,vs.length=l.length*k/\(∀ i (h:i<l.length),∃ ws,E T w l[i] ws/\∀ j,j<k->vs[i*k+j]? =ws[j]?)/\(∀ v∈vs,v.oneCell'=true)/\∀ i,P.info? u=some i->Src P i.size tt (.slice A l.length c) l.length vs w:=by
 obtain ⟨g,o,cur,rfl,hr,hsz,hT,hel⟩:=h.at_ (by have:=h.le;omega)
 have hle:=Nat.mul_le_mul_right k h.le
 have hlen:((cur.toList.drop o).take (l.length*k)).length=l.length*k:=by
  have hq:cur.toList.length=cur.size:=Array.length_toList ..;rw[List.length_take,List.length_drop];omega
 have hget:∀ i (h:i<l.length),∃ ws,E T w l[i] ws/\∀ j,j<k->((cur.toList.drop o).take (l.length*k))[i*k+j]? =ws[j]? :=fun i hi=>by
  obtain ⟨ws,h4,h5⟩:=hel i hi;refine ⟨ws,h4,fun j hj=>?_⟩
  have hm2:(i+1)*k<=l.length*k:=Nat.mul_le_mul_right k hi;rw[Nat.add_mul,Nat.one_mul] at hm2;rw[List.getElem?_take,if_pos (by omega),List.getElem?_drop,Array.getElem?_toList,<-h5 j hj]
  congr 1;omega
 have hone:∀ v∈(cur.toList.drop o).take (l.length*k),v.oneCell'=true:=fun v hv=>by
  obtain ⟨x,hx,rfl⟩:=List.getElem_of_mem hv
  have hk:0<k:=by
   rcases Nat.eq_zero_or_pos k with e|e
   ·subst e;rw[hlen] at hx;omega
   ·exact e
  rw[hlen] at hx;have hi:x / k<l.length:=Nat.div_lt_of_lt_mul (by rw[Nat.mul_comm];exact hx)
  obtain ⟨ws,h4,h5⟩:=hget (x / k) hi;have h6:=h5 (x % k) (Nat.mod_lt _ hk);rw[show x / k*k+x % k=x by rw[Nat.mul_comm];exact Nat.div_add_mod x k,List.getElem?_eq_getElem (by rw[hlen];exact hx)] at h6
  exact hE.one h4 _ (List.mem_of_getElem? h6.symm)
 refine ⟨(cur.toList.drop o).take (l.length*k),hlen,hget,hone,fun i hq=>?_⟩
 have hs:i.size=k:=by rw[hq] at hz;exact Option.some.inj hz
 exact Src.ofSlice w ht ⟨g,o,none⟩ l.length c _ (by rw[hlen,hs]) (fun j y hy=>by
  rw[List.getElem?_take] at hy
  split at hy
  ·rw[yK]
   show w.cell? ⟨g,o+j,none⟩=_;rw[zC hr,<-hy,List.getElem?_drop,Array.getElem?_toList]
  ·cases hy) hone
end
theorem wpl_appSrc{α:Type}{k:Nat}{E:Mk->World->α->List Value->Prop}(hE:ElOk k E){T:Mk}{w:World}{tg c:Nat}{A:Option Addr}{l:List α}{P:Program}{ops:Array Oper}{rest:List Oper}{o:Oper}{a:Act}{Q:Exit->Act->World->Prop}(hgd:o.guard=none)(s y:Operand){t u:TypeId}{z:Value}{bytes:Nat}
  (ho:o.op=.call { callee:=.builtin .append,args:=#[s,y],argTypes:=#[t,t] }) (ht:P.underlying t=some (.slice u)) (hi:(P.info? u).map (fun i=>(i.zero,i.size,i.bytes))=some (some z,k,bytes)) (hz:z.cells.size=k) (hk:0<k) (hb:bytes<=1000)
  (hA:ElAt k E T w tg A c l) {V:Value} {xs:List α} {vs:List Value} (hSS:∀ i,P.info? u=some i->Src P i.size t V xs.length vs w) (hvl:vs.length=xs.length*k) (hx:∀ i (h:i<xs.length),∃ ws,E T w xs[i] ws/\∀ j,j<k->vs[i*k+j]? =ws[j]?) (hm0:0<xs.length) (hone:∀ v∈vs,v.oneCell'=true) (hl:l.length+xs.length<=1000000000) (h0:0≠tg)
  (hv:a.eval s=.slice A l.length c) (hy:a.eval y=V)
  (h:∀ A' c' w',ElAt k E (paint T w.heap.size tg) w' tg A' c' (l++xs)->Fr T (paint T w.heap.size tg) (fun c=>c=tg) w w'->wpList P ops Q rest (a.put o.dst (.slice A' (l.length+xs.length) c')) w'):wpList P ops Q (o::rest) a w:=by
 refine wpList_plain hgd fun K hK=>?_
 obtain ⟨A',c',w',a1,a2,a3⟩:=run_appSrc hE (ty:=o.type) ht hi hz hk hb hA hSS hvl hx hm0 hone hl h0;unfold Oper.wp execOp;simp only[ho,resolve,invoke,builtin,Sem.run_bind,Sem.run_pure,Result.andThen_ok,List.map_toArray,List.map_cons,List.map_nil,hv,hy,a1];exact hK _ _ (h A' c' w' a2 a3)
def blk(A:Option Addr)(c:Nat):List Nat:=if 0<c then A.toList.map (·.block) else []
section
variable {α:Type} {k:Nat} {E:Mk->World->α->List Value->Prop} (hE:ElOk k E) {T T' T2:Mk} {H:Nat->Prop} {w w':World} {t:Nat} {A:Option Addr} {c:Nat} {l:List α}
include hE
end
open Go.Maps
abbrev seV(s:Se)(D:Value):Value:=.agg #[.int .i64 s.id,.int .i64 s.q,.int .i64 s.c,.int .i64 s.n,.int .i64 s.m,D]
def seEl(T:Mk)(w:World)(s:Se)(vs:List Value):Prop:=∃ A c,vs=[.int .i64 s.id,.int .i64 s.q,.int .i64 s.c,.int .i64 s.n,.int .i64 s.m,.slice A s.T c]/\RdS T w 0 A s.T c s.f
theorem yL:ElOk 6 seEl where
 len:=fun {T w x vs} h=>by obtain ⟨A,c,rfl,-⟩:=h;rfl
 one:=fun {T w x vs} h v hv=>by
  obtain ⟨A,c,rfl,-⟩:=h;simp only[List.mem_cons,List.not_mem_nil,or_false] at hv;rcases hv with rfl|rfl|rfl|rfl|rfl|rfl<;>rfl
 fr:=fun h hf ht=>by
  obtain ⟨A,c,rfl,h1⟩:=h;exact ⟨A,c,rfl,h1.fr hf ht⟩
 re:=fun h ht=>by
  obtain ⟨A,c,rfl,h1⟩:=h;exact ⟨A,c,rfl,h1.re ht⟩
def RV:Value->Option (DataW Value×List MemPlace):=fun v=>some (.held v,[])
theorem seat_u:Tryz.prog.underlying 79=some (.map 3 121):=Tryz.underlying79
theorem seat_K:Keyed Tryz.prog 3:=int_keyed Tryz.underlying3
theorem id_wf{x:Int}(h:i64B x):(Lit.int .i64 x).wf=true:=by
 simp only[Lit.wf,IntKind.min,IntKind.max,IntKind.signed,IntKind.bits,Bool.and_eq_true,decide_eq_true_eq,if_true];omega
theorem id_key{x:Int}(h:i64B x):keyOf Tryz.prog 3 (.int .i64 x)=some (.int .i64 x):=keyOf_int_mk Tryz.underlying3 (id_wf h)
theorem lit_ne{x y:Int}(h:x≠y):Lit.int .i64 x≠Lit.int .i64 y:=fun e=>h (by cases e;rfl)
structure MpAt(T:Mk)(w:World)(M:Nat)(l:List Se):Prop where
 ex:∃ D:DataW Value,w.ownsMap Tryz.prog 3 RV M (Go.Maps.size D) D/\(∀ id,Go.Maps.has D (.int .i64 id)=ssH l id)/\(∀ id s,ssG l id=some s->∃ vs,seEl T w s vs/\∀ z,D.atKey (.int .i64 id) z=.held (.agg vs.toArray))/\Go.Maps.size D=l.length
theorem ownsMap_tight{P:Program}{k:TypeId}{R:Value->Option (DataW Value×List MemPlace)}{w:World}{b n:Nat}{D:DataW Value}(h:w.ownsMap P k R b n D):w.ownsMap P k R b (Go.Maps.size D) D:=by
 obtain ⟨es,clock,hb,F,hs,rfl⟩:=h;exact ⟨es,clock,hb,F,by simp[size,length_sorted],rfl⟩
theorem ownsMap_fr{P:Program}{k:TypeId}{R:Value->Option (DataW Value×List MemPlace)}{w w':World}{T T':Mk}{H:Nat->Prop}{b n:Nat}{D:DataW Value}(h:w.ownsMap P k R b n D)(hf:Fr T T' H w w')(ht:¬ H (T b)):w'.ownsMap P k R b n D:=by
 have hl:=h.lt;obtain ⟨es,clock,hb,r⟩:=h;exact ⟨es,clock,(hf.keep b hl ht).trans hb,r⟩
section
variable {T T' T2:Mk} {H:Nat->Prop} {w w':World} {M t:Nat} {l:List Se} {mv:Option Nat}
theorem MpAt.lt(h:MpAt T w M l):M<w.heap.size:=by obtain ⟨D,hD,-⟩:=h.ex;exact hD.lt
theorem MpAt.fr(h:MpAt T w M l)(hf:Fr T T' H w w')(ht:¬ H (T M))(h0:¬ H 0):MpAt T' w' M l:=by
 obtain ⟨D,h1,h2,h3,h4⟩:=h.ex;exact ⟨D,ownsMap_fr h1 hf ht,h2,fun id s hs=>by obtain ⟨vs,a,b⟩:=h3 id s hs;exact ⟨vs,yL.fr a hf h0,b⟩,h4⟩
theorem MpAt.re(h:MpAt T w M l)(ht:∀ j,T j=0->T2 j=0):MpAt T2 w M l:=by
 obtain ⟨D,h1,h2,h3,h4⟩:=h.ex;exact ⟨D,h1,h2,fun id s hs=>by obtain ⟨vs,a,b⟩:=h3 id s hs;exact ⟨vs,yL.re a ht,b⟩,h4⟩
def MpV(T:Mk)(w:World)(t:Nat)(mv:Option Nat)(l:List Se):Prop:=(mv=none/\l=[])\/∃ M,mv=some M/\T M=t/\MpAt T w M l
theorem MpV.fr(h:MpV T w t mv l)(hf:Fr T T' H w w')(ht:¬ H t)(h0:¬ H 0):MpV T' w' t mv l:=by
 rcases h with h|⟨M,rfl,hT,hM⟩
 ·exact .inl h
 ·exact .inr ⟨M,rfl,by rw[hf.tag M hM.lt];exact hT,hM.fr hf (by rw[hT];exact ht) h0⟩
abbrev nilS15:Value:=.slice none 0 0
theorem MpV.look(h:MpV T w t mv l){id:Int}(hi:i64B id)(hz:(zeroValue 121).run Tryz.prog w=.ok (seV (.new 0) nilS15) w):
  ∃ s A c,(Instr.lookup 79 (.map mv) (.int .i64 id) true).run Tryz.prog w=.ok (.tuple #[seV s (.slice A s.T c),.bool (ssH l id)]) w/\
   (Instr.lookup 79 (.map mv) (.int .i64 id) false).run Tryz.prog w=.ok (seV s (.slice A s.T c)) w/\RdS T w 0 A s.T c s.f/\(ssG l id=some s\/(ssH l id=false/\ssG l id=none/\s=.new 0/\A=none/\c=0)):=by
 have hkey:=id_key hi
 have none_ (hg:ssG l id=none) (r1:(Instr.lookup 79 (.map mv) (.int .i64 id) true).run Tryz.prog w=.ok (.tuple #[seV (.new 0) nilS15,.bool false]) w) (r2:(Instr.lookup 79 (.map mv) (.int .i64 id) false).run Tryz.prog w=.ok (seV (.new 0) nilS15) w):∃ s A c,(Instr.lookup 79 (.map mv) (.int .i64 id) true).run Tryz.prog w=.ok (.tuple #[seV s (.slice A s.T c),.bool (ssH l id)]) w/\
   (Instr.lookup 79 (.map mv) (.int .i64 id) false).run Tryz.prog w=.ok (seV s (.slice A s.T c)) w/\RdS T w 0 A s.T c s.f/\(ssG l id=some s\/(ssH l id=false/\ssG l id=none/\s=.new 0/\A=none/\c=0)):=by
  have hh:ssH l id=false:=by rw[ssH_G,hg];rfl
  exact ⟨.new 0,none,0,by rw[hh];exact r1,r2,RdS.nil _ _ _ _,.inr ⟨hh,hg,rfl,rfl,rfl⟩⟩
 rcases h with ⟨rfl,rfl⟩|⟨M,rfl,-,hM⟩
 ·exact none_ rfl (look_nil true seat_K seat_u hz hkey) (look_nil false seat_K seat_u hz hkey)
 ·obtain ⟨D,h1,h2,h3,h4⟩:=hM.ex
  obtain ⟨v,ps,hr,hv⟩:=h1.look_ok seat_K seat_u hz (zd:=.held (seV (.new 0) nilS15)) (zp:=[]) rfl hkey;obtain ⟨v',ps',hr',hv'⟩:=h1.lookup seat_K seat_u hz (zd:=.held (seV (.new 0) nilS15)) (zp:=[]) rfl hkey;have ev:DataW.held v=D.atKey (.int .i64 id) (.held (seV (.new 0) nilS15)):=congrArg Prod.fst (Option.some.inj hv);have ev':DataW.held v'=D.atKey (.int .i64 id) (.held (seV (.new 0) nilS15)):=congrArg Prod.fst (Option.some.inj hv');have hh:=h2 id
  cases hg:ssG l id with
  |none=>
   rw[ssH_G,hg] at hh;rw[atKey_of_not_has hh] at ev ev';cases ev;cases ev';rw[hh] at hr;have hn:=none_ hg hr hr';rw[hg] at hn;exact hn
  |some s=>
   obtain ⟨vs,hs,hat⟩:=h3 id s hg;obtain ⟨A,c,rfl,hrd⟩:=hs;rw[hat] at ev ev';cases ev;cases ev';exact ⟨s,A,c,by rw[<-hh];exact hr,hr',hrd,.inl rfl⟩
theorem MpV.len(h:MpV T w t mv l)(ty:TypeId):(Builtin.len_ #[79] ty #[.map mv]).run Tryz.prog w=.ok (.int .i64 (l.length:Int)) w:=by
 rcases h with ⟨rfl,rfl⟩|⟨M,rfl,-,hM⟩
 ·exact len_nil seat_u ty
 ·obtain ⟨D,h1,h2,h3,h4⟩:=hM.ex
  rw[<-h4];exact h1.len seat_u ty
theorem MpV.drop(h:MpV T w t mv l){id:Int}(hi:i64B id)(hup:l.Pairwise fun a b=>a.id<b.id)(hH:H t)(h0:¬ H 0)(ty:TypeId):
  ∃ w',(Builtin.delete_ #[79,3] ty #[.map mv,.int .i64 id]).run Tryz.prog w=.ok (.tuple #[]) w'/\MpV T w' t mv (ssX l id)/\Fr T T H w w'/\w'.heap.size=w.heap.size:=by
 have hkey:=id_key hi;rcases h with ⟨rfl,rfl⟩|⟨M,rfl,hT,hM⟩
 ·exact ⟨w,drop_nil seat_K seat_u hkey ty,.inl ⟨rfl,rfl⟩,Fr.refl _ _ _,rfl⟩
 ·have hlt:=hM.lt
  obtain ⟨D,h1,h2,h3,h4⟩:=hM.ex;obtain ⟨w',r,h1',ht⟩:=h1.drop seat_K seat_u hkey ty;have hg:=ht.grown;have hF:Fr T T H w w':=⟨hg.os,hg.tape,hg.output,hg.size,fun k hk hn=>hg.block k hk (fun e=>by cases e;exact hn (by rw[hT];exact hH)),fun _ _=>rfl⟩
  refine ⟨w',r,.inr ⟨M,rfl,hT,D.del (.int .i64 id),ownsMap_tight h1',fun j=>?_,fun j s hs=>?_,?_⟩,hF,?_⟩
  ·rw[ssH_X]
   by_cases e:j=id
   ·subst e;rw[has_del_same];simp
   ·rw[has_del_other (lit_ne e),h2 j];simp[e]
  ·obtain ⟨hm,hj⟩:=ssG_some hs
   obtain ⟨hm1,hm2⟩:=List.mem_filter.1 hm;have e:j≠id:=by rw[<-hj];simpa using hm2
   have hs':ssG l j=some s:=by rw[<-hj];exact ssG_mem hup hm1
   obtain ⟨vs,a,b⟩:=h3 j s hs';exact ⟨vs,yL.fr a hF h0,fun z=>by rw[atKey_del_other (lit_ne e)];exact b z⟩
  ·have e:=size_del (k:=.int .i64 id) (h1.tidy seat_K)
   rw[h2 id,h4] at e
   have e2:(ssX l id).length+(if ssH l id then 1 else 0)=l.length:=by
    clear e h4 h3 h2 h1 h1' r hM
    induction l with
    |nil=>rfl
    |cons a r ih=>
     obtain ⟨p1,p2⟩:=List.pairwise_cons.1 hup;have ih:=ih p2;unfold ssX ssH at ih ⊢;rw[List.filter_cons,List.any_cons]
     by_cases e:a.id=id
     ·have hn:(r.any fun s=>s.id==id)=false:=by
       rw[<-Bool.not_eq_true,List.any_eq_true];rintro ⟨s,hs,hi⟩;have:=p1 s hs;have:s.id=id:=by simpa using hi
       omega
      rw[hn] at ih;simp[e] at ih ⊢;omega
     ·simp[e] at ih ⊢
      omega
   omega
  ·obtain ⟨es,ck,es',ck',_,rfl⟩:=ht;simp[Go.ChangeMaps.setBlock]
theorem MpAt.put(h:MpAt T w M l){x:Se}{A:Option Addr}{c:Nat}(hi:i64B x.id)(hx:RdS T w 0 A x.T c x.f)(hT:H (T M))(h0:¬ H 0)(hn:l.length<1000){l':List Se}(hH:∀ j,ssH l' j=(ssH l j||x.id==j))(hG:∀ j s,ssG l' j=some s->(j=x.id/\s=x)\/(j≠x.id/\ssG l j=some s))(hl:l'.length=if ssH l x.id then l.length else l.length+1):
  ∃ w',(Instr.mapUpdate 79 (.map (some M)) (.int .i64 x.id) (seV x (.slice A x.T c))).run Tryz.prog w=.ok () w'/\MpAt T w' M l'/\Fr T T H w w'/\w'.heap.size=w.heap.size:=by
 have hkey:=id_key hi;have hlt:=h.lt;obtain ⟨D,h1,h2,h3,h4⟩:=h.ex;obtain ⟨w',r,h1',ht⟩:=h1.store seat_K seat_u (by unfold maxLen;omega) hkey (d:=.held (seV x (.slice A x.T c))) (ps:=[]) rfl
 have hg:=ht.grown;have hF:Fr T T H w w':=⟨hg.os,hg.tape,hg.output,hg.size,fun k hk hn=>hg.block k hk (fun e=>by cases e;exact hn hT),fun _ _=>rfl⟩
 have hk:WideAt.IsKeyLit (Lit.int .i64 x.id):=trivial;refine ⟨w',r,⟨D.put (.int .i64 x.id) (.held (seV x (.slice A x.T c))),ownsMap_tight h1',fun j=>?_,fun j s hs=>?_,?_⟩,hF,?_⟩
 ·rw[hH]
  by_cases e:j=x.id
  ·subst e;rw[has_put_same h1.isMap hk];simp
  ·rw[has_put_other (lit_ne e),h2 j]
   have:(x.id==j)=false:=by simp;exact fun e'=>e e'.symm
   rw[this,Bool.or_false]
 ·rcases hG j s hs with ⟨rfl,rfl⟩|⟨e,hs'⟩
  ·exact ⟨_,yL.fr ⟨A,c,rfl,hx⟩ hF h0,fun z=>atKey_put_same h1.isMap hk _ z⟩
  ·obtain ⟨vs,a,b⟩:=h3 j s hs'
   exact ⟨vs,yL.fr a hF h0,fun z=>by rw[atKey_put_other (lit_ne e)];exact b z⟩
 ·rw[size_put (h1.tidy seat_K),h2 x.id,h4,hl]
 ·obtain ⟨es,ck,es',ck',_,rfl⟩:=ht;simp[Go.ChangeMaps.setBlock]
theorem MpAt.made(T:Mk)(w:World):MpAt T (w.alloc (.map #[] 0)) w.heap.size []:=
 ⟨.map [],World.ownsMap_made _ _ _ _,fun id=>rfl,fun id s hs=>(by cases hs),rfl⟩
end
theorem MpAt.keys{T:Mk}{w:World}{M:Nat}{l:List Se}(h:MpAt T w M l)(hup:l.Pairwise fun a b=>a.id<b.id):
  ∃ D:DataW Value,w.ownsMap Tryz.prog 3 RV M (Go.Maps.size D) D/\Go.Maps.size D=l.length/\∀ ss:List Int,ss.Perm (intKeys D)->ss.length=l.length/\ss.mergeSort leI=l.map Se.id:=by
 obtain ⟨D,h1,h2,h3,h4⟩:=h.ex;refine ⟨D,h1,h4,?_⟩;obtain ⟨es,hD,hpw,_⟩:=h1.entries seat_K;obtain ⟨es',hD',hko⟩:=h1.keysOf;obtain rfl:es=es':=by rw[hD] at hD';simpa using hD'
 have h1':(l.map Se.id).Pairwise (·<·):=List.pairwise_map.2 hup
 have hp:(l.map Se.id).Perm (intKeys D):=by
  rw[hD];refine perm_intKeys hpw (fun p hp=>by obtain ⟨v,hv⟩:=hko p hp;obtain ⟨x,_,hx,_⟩:=Maps.keyOf_i64 Tryz.underlying3 hv;exact ⟨x,hx⟩) (h1'.imp fun h=>by omega) fun x=>?_
  rw[<-hD,h2 x];unfold ssH;rw[List.mem_map,List.any_eq_true];simp
 intro ss hss;refine ⟨by rw[hss.length_eq,<-hp.length_eq,List.length_map],?_⟩
 rw[mergeSort_of_perm_i (hss.trans hp.symm)];exact List.mergeSort_of_pairwise (h1'.imp fun h=>by simp[leI];omega)
end Go.Proofs.YteffjpdcghlnlaaGreatDoor.Oct
namespace Go.Proofs
open Go.Shelf
def Tryz.keysL_ren:Go.Shelf.Ren:=⟨fun|7=>151|10=>193|n=>n,fun|23=>79|26=>3|3=>121|28=>227|0=>0|27=>226|33=>206|4=>4|n=>n,fun|n=>n⟩
theorem Tryz.keysL:Go.Proofs.SlLaysZI.n7 Tryz.prog Tryz.keysL_ren:={
 mixed:=by kernel_rfl,
 f7:=⟨Tryz.f151.name,by decide,Tryz.func151.trans (congrArg some (by kernel_rfl))⟩,
 f10:=⟨Tryz.f193.name,by decide,Tryz.func193.trans (congrArg some (by kernel_rfl))⟩,
 t0:=Tryz.underlying0,
 a0:=Tryz.isAgg0,
 z0:=Tryz.sizeOf0,
 v0:=Tryz.zeroValue0,
 t4:=Tryz.underlying4,
 a4:=Tryz.isAgg4,
 z4:=Tryz.sizeOf4,
 v4:=Tryz.zeroValue4,
 t23:=Tryz.underlying79,
 a23:=Tryz.isAgg79,
 z23:=Tryz.sizeOf79,
 v23:=Tryz.zeroValue79,
 t26:=Tryz.underlying3,
 a26:=Tryz.isAgg3,
 z26:=Tryz.sizeOf3,
 v26:=Tryz.zeroValue3,
 t27:=Tryz.underlying226,
 a27:=Tryz.isAgg226,
 z27:=Tryz.sizeOf226,
 v27:=Tryz.zeroValue226,
 t28:=Tryz.underlying227,
 a28:=Tryz.isAgg227,
 z28:=Tryz.sizeOf227,
 v28:=Tryz.zeroValue227,
 t33:=Tryz.underlying206,
 a33:=Tryz.isAgg206,
 z33:=Tryz.sizeOf206,
 v33:=Tryz.zeroValue206 }
def Tryz.sortedL_ren:Go.Shelf.Ren:=⟨fun|6=>150|8=>191|9=>192|11=>233|13=>235|12=>234|23=>267|24=>268|14=>258|15=>259|16=>260|17=>261|18=>262|19=>263|20=>264|21=>265|22=>266|25=>280|26=>281|27=>282|28=>283|29=>284|30=>285|31=>299|n=>n,fun|26=>3|28=>227|24=>224|0=>0|3=>3|37=>245|48=>135|50=>253|4=>4|40=>318|39=>317|45=>323|5=>5|9=>9|51=>335|55=>239|57=>351|58=>352|33=>206|n=>n,fun|n=>n⟩
theorem Tryz.sortedL:Go.Proofs.SlLaysZI.n6 Tryz.prog Tryz.sortedL_ren:={
 mixed:=by kernel_rfl,
 f6:=⟨Tryz.f150.name,by decide,Tryz.func150.trans (congrArg some (by kernel_rfl))⟩,
 f8:=⟨Tryz.f191.name,by decide,Tryz.func191.trans (congrArg some (by kernel_rfl))⟩,
 f11:=⟨Tryz.f233.name,by decide,Tryz.func233.trans (congrArg some (by kernel_rfl))⟩,
 t0:=Tryz.underlying0,
 a0:=Tryz.isAgg0,
 z0:=Tryz.sizeOf0,
 v0:=Tryz.zeroValue0,
 t24:=Tryz.underlying224,
 a24:=Tryz.isAgg224,
 z24:=Tryz.sizeOf224,
 v24:=Tryz.zeroValue224,
 t26:=Tryz.underlying3,
 a26:=Tryz.isAgg3,
 z26:=Tryz.sizeOf3,
 v26:=Tryz.zeroValue3,
 t28:=Tryz.underlying227,
 a28:=Tryz.isAgg227,
 z28:=Tryz.sizeOf227,
 v28:=Tryz.zeroValue227,
 i26:=by kernel_rfl }
def Tryz.sortL_ren:Go.Shelf.Ren:=⟨fun|5=>192|8=>235|7=>234|19=>267|20=>268|10=>258|11=>259|12=>260|13=>261|14=>262|15=>263|16=>264|17=>265|18=>266|30=>280|31=>281|32=>282|33=>283|34=>284|35=>285|40=>299|n=>n,fun|23=>224|25=>3|3=>3|32=>245|22=>224|0=>0|44=>135|46=>253|4=>4|36=>318|35=>317|41=>323|5=>5|9=>9|53=>335|57=>239|63=>351|64=>352|n=>n,fun|n=>n⟩
theorem Tryz.sortL:Go.Proofs.SlLaysM.n5 Tryz.prog Tryz.sortL_ren:={
 mixed:=by kernel_rfl,
 f5:=⟨Tryz.f192.name,by decide,Tryz.func192.trans (congrArg some (by kernel_rfl))⟩,
 f7:=⟨Tryz.f234.name,by decide,Tryz.func234.trans (congrArg some (by kernel_rfl))⟩,
 f8:=Tryz.func235.trans (congrArg some (by kernel_rfl)),
 f10:=⟨Tryz.f258.name,by decide,Tryz.func258.trans (congrArg some (by kernel_rfl))⟩,
 f11:=⟨Tryz.f259.name,by decide,Tryz.func259.trans (congrArg some (by kernel_rfl))⟩,
 f12:=⟨Tryz.f260.name,by decide,Tryz.func260.trans (congrArg some (by kernel_rfl))⟩,
 f13:=⟨Tryz.f261.name,by decide,Tryz.func261.trans (congrArg some (by kernel_rfl))⟩,
 f14:=⟨Tryz.f262.name,by decide,Tryz.func262.trans (congrArg some (by kernel_rfl))⟩,
 f15:=⟨Tryz.f263.name,by decide,Tryz.func263.trans (congrArg some (by kernel_rfl))⟩,
 f16:=⟨Tryz.f264.name,by decide,Tryz.func264.trans (congrArg some (by kernel_rfl))⟩,
 f17:=⟨Tryz.f265.name,by decide,Tryz.func265.trans (congrArg some (by kernel_rfl))⟩,
 f18:=⟨Tryz.f266.name,by decide,Tryz.func266.trans (congrArg some (by kernel_rfl))⟩,
 f19:=Tryz.func267.trans (congrArg some (by kernel_rfl)),
 f20:=Tryz.func268.trans (congrArg some (by kernel_rfl)),
 f30:=⟨Tryz.f280.name,by decide,Tryz.func280.trans (congrArg some (by kernel_rfl))⟩,
 f31:=Tryz.func281.trans (congrArg some (by kernel_rfl)),
 f32:=Tryz.func282.trans (congrArg some (by kernel_rfl)),
 f33:=⟨Tryz.f283.name,by decide,Tryz.func283.trans (congrArg some (by kernel_rfl))⟩,
 f34:=⟨Tryz.f284.name,by decide,Tryz.func284.trans (congrArg some (by kernel_rfl))⟩,
 f35:=⟨Tryz.f285.name,by decide,Tryz.func285.trans (congrArg some (by kernel_rfl))⟩,
 f40:=⟨Tryz.f299.name,by decide,Tryz.func299.trans (congrArg some (by kernel_rfl))⟩,
 t0:=Tryz.underlying0,
 a0:=Tryz.isAgg0,
 z0:=Tryz.sizeOf0,
 v0:=Tryz.zeroValue0,
 t3:=Tryz.underlying3,
 a3:=Tryz.isAgg3,
 z3:=Tryz.sizeOf3,
 v3:=Tryz.zeroValue3,
 t4:=Tryz.underlying4,
 a4:=Tryz.isAgg4,
 z4:=Tryz.sizeOf4,
 v4:=Tryz.zeroValue4,
 t5:=Tryz.underlying5,
 a5:=Tryz.isAgg5,
 z5:=Tryz.sizeOf5,
 v5:=Tryz.zeroValue5,
 t9:=Tryz.underlying9,
 a9:=Tryz.isAgg9,
 z9:=Tryz.sizeOf9,
 v9:=Tryz.zeroValue9,
 t22:=Tryz.underlying224,
 a22:=Tryz.isAgg224,
 z22:=Tryz.sizeOf224,
 v22:=Tryz.zeroValue224,
 t23:=Tryz.underlying224,
 a23:=Tryz.isAgg224,
 z23:=Tryz.sizeOf224,
 v23:=Tryz.zeroValue224,
 t25:=Tryz.underlying3,
 a25:=Tryz.isAgg3,
 z25:=Tryz.sizeOf3,
 v25:=Tryz.zeroValue3,
 t32:=Tryz.underlying245,
 a32:=Tryz.isAgg245,
 z32:=Tryz.sizeOf245,
 v32:=Tryz.zeroValue245,
 t35:=Tryz.underlying317,
 a35:=Tryz.isAgg317,
 z35:=Tryz.sizeOf317,
 v35:=Tryz.zeroValue317,
 t36:=Tryz.underlying318,
 a36:=Tryz.isAgg318,
 z36:=Tryz.sizeOf318,
 v36:=Tryz.zeroValue318,
 t41:=Tryz.underlying323,
 a41:=Tryz.isAgg323,
 z41:=Tryz.sizeOf323,
 v41:=Tryz.zeroValue323,
 t44:=Tryz.underlying135,
 a44:=Tryz.isAgg135,
 z44:=Tryz.sizeOf135,
 v44:=Tryz.zeroValue135,
 t46:=Tryz.underlying253,
 a46:=Tryz.isAgg253,
 z46:=Tryz.sizeOf253,
 v46:=Tryz.zeroValue253,
 t53:=Tryz.underlying335,
 a53:=Tryz.isAgg335,
 z53:=Tryz.sizeOf335,
 v53:=Tryz.zeroValue335,
 t57:=Tryz.underlying239,
 a57:=Tryz.isAgg239,
 z57:=Tryz.sizeOf239,
 v57:=Tryz.zeroValue239,
 t63:=Tryz.underlying351,
 a63:=Tryz.isAgg351,
 z63:=Tryz.sizeOf351,
 v63:=Tryz.zeroValue351,
 t64:=Tryz.underlying352,
 a64:=Tryz.isAgg352,
 z64:=Tryz.sizeOf352,
 v64:=Tryz.zeroValue352 }
end Go.Proofs
namespace Go.Proofs.YteffjpdcghlnlaaGreatDoor.Oct
open Go.RowKit Go.Maps Go.Sort Go.Shelf
theorem sorts_in(m:Nat):AnyZI.SortsIn Tryz.prog Tryz.sortedL_ren Fence.wide m:=
 ⟨fun blk off cap ss W hH hblk hsz=>callsIn_wide.2 (AnyM.slices_Sort_int Tryz.sortL blk off cap ss W hH hblk hsz),
  fun p cap W=>callsIn_wide.2 (AnyM.slices_Sort_int_none Tryz.sortL p cap W)⟩
theorem keysI_any(mb:Option Nat)(W:World):Calls Tryz.prog 151 #[.map mb] W fun e w'=>e=.returned (.func (.func 193) #[] #[.pointer (some ⟨W.heap.size,0,none⟩)])/\w'=W.alloc (.cells #[.map mb] 79):=
 (callsIn_wide (n:=5)).1 (AnyZI.keys_in Tryz.keysL Fence.wide 5 trivial rfl mb W)
theorem sortedI_any(b Bm:Nat)(D:DataW Value)(W:World)(hB:Bm<W.heap.size)(hm:W.cell? ⟨Bm,0,none⟩=some (.map (some b)))(hown:W.ownsMap Tryz.prog 3 RV b (Go.Maps.size D) D)(hmax:Go.Maps.size D<=1000):
  Calls Tryz.prog 150 #[.func (.func 193) #[] #[.pointer (some ⟨Bm,0,none⟩)]] W fun e w'=>∃ (v:Value) (ss:List Int),e=.returned v/\ss.Perm (intKeys D)/\
   w'.ownsRow W.heap.size 3 1 v ss.length ((ss.mergeSort leI).map encZ)/\(v=.slice none 0 0↔ss=[])/\Below W.heap.size W w':=by
 refine (callsIn_wide (n:=5)).1 ?_
 have hseq:SeqGives Fence.wide 2 Tryz.prog 193 #[.pointer (some ⟨Bm,0,none⟩)] encZ (fun ss=>ss.Perm (intKeys D)) (Go.Maps.size D) W:=
  AnyZI.keys_gives (ρ:=Tryz.keysL_ren) { Tryz.keysL with } Fence.wide _ trivial rfl (by omega) Bm b (Go.Maps.size D) D _ hB hm hown
 exact AnyZI.sorted_in Tryz.sortedL Fence.wide 5 trivial trivial trivial trivial rfl (by omega) (sorts_in _) (enters_of Tryz.func192 (by kernel_rfl) rfl) 193 #[.pointer (some ⟨Bm,0,none⟩)] trivial (enters_of Tryz.func193 (by kernel_rfl) rfl) _ _ (by unfold maxLen;omega) (by omega) _ hseq
theorem sortedN_any(Bm:Nat)(W:World)(hB:Bm<W.heap.size)(hm:W.cell? ⟨Bm,0,none⟩=some (.map none)):
  Calls Tryz.prog 150 #[.func (.func 193) #[] #[.pointer (some ⟨Bm,0,none⟩)]] W fun e w'=>e=.returned (.slice none 0 0)/\Below W.heap.size W w':=by
 refine (callsIn_wide (n:=5)).1 ?_
 have hseq:SeqGives Fence.wide 2 Tryz.prog 193 #[.pointer (some ⟨Bm,0,none⟩)] encZ (fun ss:List Int=>ss=[]) 0 W:=
  AnyZI.keys_gives_nil (ρ:=Tryz.keysL_ren) { Tryz.keysL with } Fence.wide _ trivial rfl Bm _ hB hm
 refine (AnyZI.sorted_in Tryz.sortedL Fence.wide 5 trivial trivial trivial trivial rfl (by omega) (sorts_in _) (enters_of Tryz.func192 (by kernel_rfl) rfl) 193 #[.pointer (some ⟨Bm,0,none⟩)] trivial (enters_of Tryz.func193 (by kernel_rfl) rfl) _ 0 (Nat.zero_le _) (by omega) _ hseq).mono ?_
 rintro e w' ⟨v,ss,rfl,rfl,hrow,hnil,hb⟩;obtain rfl:v=.slice none 0 0:=hnil.2 rfl;exact ⟨rfl,hb⟩
open Go.ChangeShapes Go.WideShapes Go.ChangeAt
theorem ld_rowS{P:Program}(t:Nat)(d:TypeDesc)(hu:P.underlying t=some d)(hd:d.isRow=true)(m:Nat)(hi:(P.info? t).map (·.size)=some m)(w:World)(b o:Nat):
  (ldA t (.pointer (some ⟨b,o,none⟩))).run P w=ldR P t m w b o (row w b):=by
 unfold ldR
 split
 ·rename_i c hr
  split
  ·rename_i hc
   obtain ⟨t',ht⟩:=row_is hr;have hx:=run_loadAt_mid (P:=P) w b o t (c.extract o (o+m)).toList _ (World.rangeAt_of_block ht o m) hu hd (by rw[hi];simp;omega)
   rw[Array.toArray_toList] at hx;exact hx
  ·rfl
 ·rfl
theorem se_i:(Tryz.prog.info? 121).map (·.size)=some 6:=by kernel_rfl
@[go_sem ↓] theorem se_l(p:Value):Instr.loadAt 121 p=ldA 121 p:=rfl
@[go_sem ↓] theorem se_s(p v:Value):Instr.storeAt 121 p v=stA 121 p v:=rfl
@[go_sem] theorem se_ld(w:World)(b o:Nat):(ldA 121 (.pointer (some ⟨b,o,none⟩))).run Tryz.prog w=ldR Tryz.prog 121 6 w b o (row w b):=ld_rowS _ _ Tryz.underlying121 rfl 6 se_i w b o
@[go_sem] theorem se_st(w:World)(b o:Nat)(c:Array Value):(stA 121 (.pointer (some ⟨b,o,none⟩)) (.agg c)).run Tryz.prog w=stR Tryz.prog 121 6 w b o (.agg c) (row w b):=yR _ 6 se_i w b o c
@[go_sem] theorem se_ldx(P:Program)(t:Nat)(w:World)(b:Nat)(x0 x1 x2 x3 x4 x5:Value):ldR P t 6 w b 0 (some #[x0,x1,x2,x3,x4,x5])=.ok (.agg #[x0,x1,x2,x3,x4,x5]) w:=xJ P t 6 w b _ rfl
theorem ones6(x0 x1 x2 x3 x4:Int)(A:Option Addr)(n c:Nat):Ones #[.int .i64 x0,.int .i64 x1,.int .i64 x2,.int .i64 x3,.int .i64 x4,.slice A n c]:=by
 unfold Ones;have a (x:Int):(Value.int .i64 x).oneCell'=true:=rfl;have b:(Value.slice A n c).oneCell'=true:=rfl;simp[a,b]
@[go_sem] theorem se_stx(P:Program)(t:Nat)(w:World)(b:Nat)(x0 x1 x2 x3 x4:Int)(A:Option Addr)(n c:Nat)(y0 y1 y2 y3 y4 y5:Value):
  stR P t 6 w b 0 (.agg #[.int .i64 x0,.int .i64 x1,.int .i64 x2,.int .i64 x3,.int .i64 x4,.slice A n c]) (some #[y0,y1,y2,y3,y4,y5])=.ok () (w.setRow b #[.int .i64 x0,.int .i64 x1,.int .i64 x2,.int .i64 x3,.int .i64 x4,.slice A n c]):=
 stR_whole P t 6 w b _ _ rfl rfl (ones6 _ _ _ _ _ _ _ _)
theorem rp_i:(Tryz.prog.info? 33).map (·.size)=some 4:=by kernel_rfl
@[go_sem ↓] theorem rp_l(p:Value):Instr.loadAt 33 p=ldA 33 p:=rfl
@[go_sem ↓] theorem rp_s(p v:Value):Instr.storeAt 33 p v=stA 33 p v:=rfl
@[go_sem] theorem rp_ld(w:World)(b o:Nat):(ldA 33 (.pointer (some ⟨b,o,none⟩))).run Tryz.prog w=ldR Tryz.prog 33 4 w b o (row w b):=ld_rowS _ _ Tryz.underlying33 rfl 4 rp_i w b o
@[go_sem] theorem rp_st(w:World)(b o:Nat)(c:Array Value):(stA 33 (.pointer (some ⟨b,o,none⟩)) (.agg c)).run Tryz.prog w=stR Tryz.prog 33 4 w b o (.agg c) (row w b):=yR _ 4 rp_i w b o c
@[go_sem] theorem rp_ldx(P:Program)(t:Nat)(w:World)(b:Nat)(x0 x1 x2 x3:Value):ldR P t 4 w b 0 (some #[x0,x1,x2,x3])=.ok (.agg #[x0,x1,x2,x3]) w:=xJ P t 4 w b _ rfl
@[go_sem] theorem rp_ld2(P:Program)(t:Nat)(w:World)(b:Nat)(x0 x1 x2 x3 x4 x5:Value):ldR P t 4 w b 2 (some #[x0,x1,x2,x3,x4,x5])=.ok (.agg #[x2,x3,x4,x5]) w:=by unfold ldR;simp
theorem ones4(x0 x1 x2:Int)(A:Option Addr)(n c:Nat):Ones #[.int .i64 x0,.int .i64 x1,.int .i64 x2,.slice A n c]:=by
 unfold Ones;have a (x:Int):(Value.int .i64 x).oneCell'=true:=rfl;have b:(Value.slice A n c).oneCell'=true:=rfl;simp[a,b]
@[go_sem] theorem rp_stx(P:Program)(t:Nat)(w:World)(b:Nat)(x0 x1 x2:Int)(A:Option Addr)(n c:Nat)(y0 y1 y2 y3:Value):
  stR P t 4 w b 0 (.agg #[.int .i64 x0,.int .i64 x1,.int .i64 x2,.slice A n c]) (some #[y0,y1,y2,y3])=.ok () (w.setRow b #[.int .i64 x0,.int .i64 x1,.int .i64 x2,.slice A n c]):=
 stR_whole P t 4 w b _ _ rfl rfl (ones4 _ _ _ _ _ _)
@[go_sem] theorem setRow_sizeS(w:World)(b:Nat)(c:Array Value):(w.setRow b c).heap.size=w.heap.size:=by simp
theorem sclone_any(n c:Nat)(A:Option Addr)(b:Bf)(w:World)(hs:Sl w w.heap.size A n c b)(hn:n<=140737488355328):
  Calls Tryz.prog 176 #[.slice A n c] w fun e w'=>∃ v,e=.returned v/\Own w' w.heap.size 5 v n b/\Below w.heap.size w w':=by
 have HS:=Lib.hid hs;go_enter Tryz.func176,Tryz.ntmps176
 cases A with
 |none=>
  have h0:=hs.nil_zero rfl;subst h0;clear hs;have qT:=fun (w:World) (n c:Nat)=>Lib.run_eql_slice_nil (P:=Tryz.prog) w 22 5 none n c 0 0 zZ
  go_wp2_with fail;go_ret;exact ⟨_,rfl,Own.nil _ _ _ _,Below.refl _ _⟩
 |some a=>
  clear hs;have qT:=fun (w:World) (n c:Nat)=>Lib.run_eql_slice_nil (P:=Tryz.prog) w 22 5 (some a) n c 0 0 zZ
  have O1:=Lib.hid (show Own (w.alloc (.cells #[] 5)) w.heap.size 5 (.slice (some ⟨w.heap.size,0,none⟩) 0 0) 0 b from Own.empty w w.heap.size 5 _ (Nat.le_refl _))
  have B1:=(Below.refl w.heap.size w).alloc (Nat.le_refl _) (.cells #[] 5);have S1:=HS.out.below B1;have hb:w.heap.size<=(w.alloc (.cells #[] 5)).heap.size:=by simp
  go_wp2_with (at_builtin;refine yO rfl (.tmp 5) (.tmp 6) rfl zZ yJ O1.out S1 (by omega) hb rfl rfl ?_;intro v4 w4 ho4 hg4 ht4)
  go_ret;exact ⟨_,rfl,by rw[Nat.zero_add,yH] at ho4;exact ho4,O1.out.after hg4 B1 hb (Nat.le_refl _)⟩
theorem yV{P:Program}{fn:Func}{p:Tmp}{ty:TypeId}(h:fn.results=#[.cell p ty])(tmps:Array Value)(w:World)(b:Nat)(c:Array Value)(d:TypeDesc)
  (hp:tmps.getD p undef=.pointer (some ⟨b,0,none⟩)) (hr:row w b=some c) (hu:P.underlying ty=some d) (hd:d.isRow=true) (hi:(P.info? ty).map (·.size)=some c.size):
  (results fn tmps).run P w=.ok (.agg c) w:=by
 have hp2:tmps[p]?.getD undef=.pointer (some ⟨b,0,none⟩):=by simpa using hp
 simp only[results,h];simp[hp2,asAddr,load_row hr hu hd hi]
theorem cells6{w:World}{B:Nat}{a b c d e f:Value}(h:row w B=some #[a,b,c,d,e,f]):w.cell? ⟨B,0,none⟩=some a/\w.cell? ⟨B,1,none⟩=some b/\w.cell? ⟨B,2,none⟩=some c/\w.cell? ⟨B,3,none⟩=some d/\w.cell? ⟨B,4,none⟩=some e/\w.cell? ⟨B,5,none⟩=some f:=by
 simp only[zC h];exact ⟨rfl,rfl,rfl,rfl,rfl,rfl⟩
theorem seat_z(w:World):(zeroValue 121).run Tryz.prog w=.ok (seV (.new 0) (.slice none 0 0)) w:=Tryz.zeroValue121 w
theorem cseat_any(s:Se)(A:Option Addr)(c:Nat)(w:World)(hs:Sl w w.heap.size A s.T c s.f)(hn:s.T<=140737488355328):
  Calls Tryz.prog 134 #[seV s (.slice A s.T c)] w fun e w'=>∃ A' c',e=.returned (seV s (.slice A' s.T c'))/\Own w' w.heap.size 5 (.slice A' s.T c') s.T s.f/\Below w.heap.size w w':=by
 obtain ⟨w1,hw1⟩:∃ w1,w1=(w.alloc (.cells #[.int .i64 s.id,.int .i64 s.q,.int .i64 s.c,.int .i64 s.n,.int .i64 s.m,.slice A s.T c] 121)).alloc (.cells #[.int .i64 0,.int .i64 0,.int .i64 0,.int .i64 0,.int .i64 0,.slice none 0 0] 121):=⟨_,rfl⟩;have bw:Below w.heap.size w w1:=by rw[hw1];exact ((Below.refl _ _).alloc (by simp) _).alloc (by simp) _
 have hz:w1.heap.size=w.heap.size+2:=by rw[hw1];simp
 have B1:=Lib.hid bw;have R1:=Lib.hid (show row w1 w.heap.size=some #[.int .i64 s.id,.int .i64 s.q,.int .i64 s.c,.int .i64 s.n,.int .i64 s.m,.slice A s.T c] by rw[hw1];exact zN (zA _ _ _ _ rfl) _)
 have R2:=Lib.hid (show row w1 (w.heap.size+1)=some #[.int .i64 0,.int .i64 0,.int .i64 0,.int .i64 0,.int .i64 0,.slice none 0 0] by rw[hw1];exact zA _ _ _ _ (by simp))
 have H1:=Lib.hid (sclone_any s.T c A s.f w1 ((hs.below bw).more bw.size) hn);clear hs bw;go_enter Tryz.func134,Tryz.ntmps134;go_upto_region 1 with fail
 rw[<-hw1];clear hw1;obtain ⟨a0,a1,a2,a3,a4,a5⟩:=cells6 R1.out;go_wp2_with fail;refine H1.out.mono ?_;rintro e w2 ⟨v,rfl,ho,hb⟩;obtain ⟨A',c',rfl,-⟩:=ho.sl;have R1':=zD hb R1.out;have R2':=zD hb R2.out;have B2:=Lib.hid (onto B1.out B1.out.size hb);have O2:=Lib.hid ho;clear a0 a1 a2 a3 a4 a5 ho;obtain ⟨w3,hw3⟩:∃ w3,w3=w2.setCell ⟨w.heap.size,5,none⟩ (.slice A' s.T c'):=⟨_,rfl⟩;have e2:w3=w2.setRow w.heap.size #[.int .i64 s.id,.int .i64 s.q,.int .i64 s.c,.int .i64 s.n,.int .i64 s.m,.slice A' s.T c']:=hw3.trans (zL R1' 5 _);have R3:row w3 w.heap.size=some #[.int .i64 s.id,.int .i64 s.q,.int .i64 s.c,.int .i64 s.n,.int .i64 s.m,.slice A' s.T c']:=by rw[e2];exact zE R1' _
 have R4:row w3 (w.heap.size+1)=some #[.int .i64 0,.int .i64 0,.int .i64 0,.int .i64 0,.int .i64 0,.slice none 0 0]:=by rw[e2,zF _ _ _ _ (by omega)];exact R2'
 have B3:=Lib.hid (show Below w.heap.size w w3 by rw[e2];exact zG B2.out (Nat.le_refl _) _)
 have O3:=Lib.hid (show Own w3 w1.heap.size 5 (.slice A' s.T c') s.T s.f by rw[e2];exact O2.out.setRow _ (fun e=>by have:=(World.ownsRow.lt O2.out _ e).1;omega) _)
 obtain ⟨a0,a1,a2,a3,a4,a5⟩:=cells6 R1';have f5:=zJ R1' 5;have g3:=hw3.symm;clear e2 R2' hw3;go_wp2_with fail
 exact bodyPost_ret (v:=seV s (.slice A' s.T c')) (yV Tryz.results134 _ _ (w.heap.size+1) _ _ rfl (zE R4 _) Tryz.underlying121 rfl (by kernel_rfl)) rfl
  ⟨A',c',rfl,(O3.out.setRow _ (fun e=>by have:=(World.ownsRow.lt O3.out _ e).1;omega) _).base (by omega),zG B3.out (by omega) _⟩
theorem Own.rdS{w':World}{D n c:Nat}{A:Option Addr}{f:Bf}{u:TypeId}(h:Own w' D u (.slice A n c) n f)(T:Mk)(t:Nat):RdS (paint T D t) w' t A n c f:=
 ⟨by obtain ⟨A1,c1,e,hs,-,-⟩:=h.sl;cases e;exact hs,fun hn a ha=>zP (World.ownsRow.lt h _ (by rw[ha];rfl)).1⟩
variable {so:Nat} {sR:Array Value}
def mtC(R:Array Value)(mv:Option Nat)(g:Int):Array Value:=R++#[.map mv,.int .i64 g]
theorem mtC_nil(mv:Option Nat)(g:Int):mtC #[] mv g=#[.map mv,.int .i64 g]:=by simp[mtC]
theorem mtC_size{R:Array Value}{mv:Option Nat}{g:Int}:(mtC R mv g).size=R.size+2:=by simp[mtC]
theorem mtC_0{R:Array Value}{mv:Option Nat}{g:Int}{o:Nat}(h:R.size=o):(mtC R mv g)[o]? =some (.map mv):=by subst h;simp[mtC]
theorem mtC_1{R:Array Value}{mv:Option Nat}{g:Int}{o:Nat}(h:R.size=o):(mtC R mv g)[o+1]? =some (.int .i64 g):=by subst h;unfold mtC;rw[Array.getElem?_append_right (by omega),Nat.add_sub_cancel_left];rfl
theorem mtC_else{R:Array Value}{mv:Option Nat}{g:Int}{j:Nat}(h:j<R.size):(mtC R mv g)[j]? =R[j]? :=by unfold mtC;rw[Array.getElem?_append_left h]
theorem mtC_ext{R:Array Value}{mv:Option Nat}{g:Int}{c:Array Value}(hs:c.size=R.size+2)(h:∀ j,j<R.size->c[j]? =R[j]?)(h0:c[R.size]? =some (.map mv))(h1:c[R.size+1]? =some (.int .i64 g)):c=mtC R mv g:=by
 apply Array.ext_getElem?;intro j;rcases Nat.lt_trichotomy j R.size with hj|rfl|hj
 ·rw[h j hj,mtC_else hj]
 ·rw[h0,mtC_0 rfl]
 ·by_cases e:j=R.size+1
  ·subst e;rw[h1,mtC_1 rfl]
  ·rw[Array.getElem?_eq_none (by omega),Array.getElem?_eq_none (by rw[mtC_size];omega)]
theorem mtC_s0{R:Array Value}{mv m2:Option Nat}{g:Int}{o:Nat}(h:R.size=o):(mtC R mv g).setIfInBounds o (.map m2)=mtC R m2 g:=by
 subst h;refine mtC_ext (by rw[Array.size_setIfInBounds,mtC_size]) (fun j hj=>by rw[Array.getElem?_setIfInBounds,if_neg (by omega),mtC_else hj]) (by rw[Array.getElem?_setIfInBounds,if_pos rfl,if_pos (by rw[mtC_size];omega)]) (by rw[Array.getElem?_setIfInBounds,if_neg (by omega),mtC_1 rfl])
theorem mtC_s1{R:Array Value}{mv:Option Nat}{g g2:Int}{o:Nat}(h:R.size=o):(mtC R mv g).setIfInBounds (o+1) (.int .i64 g2)=mtC R mv g2:=by
 subst h;refine mtC_ext (by rw[Array.size_setIfInBounds,mtC_size]) (fun j hj=>by rw[Array.getElem?_setIfInBounds,if_neg (by omega),mtC_else hj]) (by rw[Array.getElem?_setIfInBounds,if_neg (by omega),mtC_0 rfl]) (by rw[Array.getElem?_setIfInBounds,if_pos rfl,if_pos (by rw[mtC_size];omega)])
structure PtAt(T:Mk)(w:World)(t B:Nat)(so:Nat)(sR:Array Value)(mv:Option Nat)(l:List Se)(g:Int):Prop where
 row:Oct.row w B=some (mtC sR mv g)
 tg:T B=t
 mp:MpV T w (t+1) mv l
 sz:sR.size=so
def H2(t:Nat):Nat->Prop:=fun c=>c=t\/c=t+1
theorem PtAt.fr{T T':Mk}{H:Nat->Prop}{w w':World}{t B:Nat}{mv:Option Nat}{l:List Se}{g:Int}(h:PtAt T w t B so sR mv l g)(hf:Fr T T' H w w')(h1:¬ H t)(h2:¬ H (t+1))(h0:¬ H 0):PtAt T' w' t B so sR mv l g:=
 ⟨hf.rowAt h.row (by rw[h.tg];exact h1),by rw[hf.tag B (zK h.row)];exact h.tg,h.mp.fr hf h2 h0,h.sz⟩
theorem cells2T{w:World}{B:Nat}{mv:Option Nat}{g:Int}(h:row w B=some (mtC sR mv g))(hs:sR.size=so):w.cell? ⟨B,so,none⟩=some (.map mv)/\w.cell? ⟨B,so+1,none⟩=some (.int .i64 g):=by
 simp only[zC h];exact ⟨mtC_0 hs,mtC_1 hs⟩
theorem pnext_any(B:Nat)(mv:Option Nat)(g:Int)(w:World)(hr:row w B=some (mtC sR mv g))(hz:sR.size=so)(h0:0<=g)(h1:g<1099511627776):
  Calls Tryz.prog 79 #[.pointer (some ⟨B,so,none⟩)] w fun e w'=>e=.returned (.int .i64 (g+1))/\w'=w:=by
 obtain ⟨a0,a1⟩:=cells2T hr hz;have hw:IntKind.i64.wrap (g+1)=g+1:=IntWalk.i64_in _ (by omega)
 clear hr;go_enter Tryz.func79,Tryz.ntmps79;go_wp2_with fail;go_ret;exact ⟨rfl,rfl⟩
theorem keep_any(T:Mk)(t B:Nat)(mv:Option Nat)(l l':List Se)(g:Int)(x:Se)(A:Option Addr)(c:Nat)(w:World)(hP:PtAt T w t B so sR mv l g)(ht:0<t)(hi:i64B x.id){tx:Nat}(hs:RdS T w tx A x.T c x.f)(htx:¬ H2 t tx)(hn:x.T<=140737488355328)(hl9:l.length<1000)
  (hH:∀ j,ssH l' j=(ssH l j||x.id==j)) (hG:∀ j s,ssG l' j=some s->(j=x.id/\s=x)\/(j≠x.id/\ssG l j=some s)) (hl:l'.length=if ssH l x.id then l.length else l.length+1):
  Calls Tryz.prog 80 #[.pointer (some ⟨B,so,none⟩),seV x (.slice A x.T c)] w fun e w'=>e=.returned (.tuple #[])/\∃ T' mv',Fr T T' (H2 t) w w'/\PtAt T' w' t B so sR mv' l' g:=by
 have hBl:=zK hP.row;obtain ⟨w1,hw1⟩:∃ w1,w1=w.alloc (.cells #[.int .i64 x.id,.int .i64 x.q,.int .i64 x.c,.int .i64 x.n,.int .i64 x.m,.slice A x.T c] 121):=⟨_,rfl⟩;have bw:Below w.heap.size w w1:=by rw[hw1];exact (Below.refl _ _).alloc (by simp) _
 have hz:w1.heap.size=w.heap.size+1:=by rw[hw1];simp
 have hB0:w.heap.size≠B:=by omega
 have F1:=Lib.hid (show Fr T (paint T w.heap.size 0) (H2 t) w w1 from Fr.new bw 0)
 have P1:=Lib.hid (hP.fr (Fr.new (H:=fun _=>False) bw 0) (fun h=>h) (fun h=>h) (fun h=>h))
 have S1:=Lib.hid (hs.fr (Fr.new (H:=fun _=>False) bw 0) (fun h=>h))
 have R1:=Lib.hid (show row w1 w.heap.size=some #[.int .i64 x.id,.int .i64 x.q,.int .i64 x.c,.int .i64 x.n,.int .i64 x.m,.slice A x.T c] by rw[hw1];exact zA _ _ _ _ rfl)
 obtain ⟨T1,hT1⟩:∃ T1,T1=paint T w.heap.size 0:=⟨_,rfl⟩;rw[<-hT1] at F1 P1 S1;clear hP bw hs hT1;go_enter Tryz.func80,Tryz.ntmps80;go_upto_region 1 with fail
 rw[<-hw1];clear hw1;have q:=fun w=>run_eql_map_nil_sl (P:=Tryz.prog) w 79 _ _ mv seat_u
 obtain ⟨a0,a1⟩:=cells2T P1.out.row P1.out.sz;rcases P1.out.mp with ⟨rfl,rfl⟩|⟨M,rfl,hTM,hM⟩
 ·have hmm:=@run_makeMap Tryz.prog
  have f0:=zJ P1.out.row so;obtain ⟨w2,hw2⟩:∃ w2,w2=(w1.setRow B (mtC sR (some (w.heap.size+1)) g)).alloc (.map #[] 0):=⟨_,rfl⟩;have ez:(w1.setRow B (mtC sR (some (w.heap.size+1)) g)).heap.size=w.heap.size+1:=by rw[setRow_sizeS];exact hz
  have b2:Below w1.heap.size (w1.setRow B (mtC sR (some (w.heap.size+1)) g)) w2:=by rw[hw2];exact (Below.refl _ _).alloc (by rw[ez,hz];omega) _
  have fA:Fr T1 T1 (fun c=>c=t) w1 (w1.setRow B (mtC sR (some (w.heap.size+1)) g)):=Fr.row P1.out.tg _
  have fB:Fr T1 (paint T1 w1.heap.size (t+1)) (fun c=>c=t) (w1.setRow B (mtC sR (some (w.heap.size+1)) g)) w2:=by
   have:=Fr.new (T:=T1) (H:=fun c=>c=t) (w:=w1.setRow B (mtC sR (some (w.heap.size+1)) g)) (w':=w2) (by rw[setRow_sizeS];exact b2) (t+1)
   rw[setRow_sizeS] at this;exact this
  have hrB:row (w1.setRow B (mtC sR (some (w.heap.size+1)) g)) B=some (mtC sR (some (w.heap.size+1)) g):=zE P1.out.row _
  have hM2:MpAt (paint T1 w1.heap.size (t+1)) w2 (w.heap.size+1) []:=by
   have h:=MpAt.made (paint T1 w1.heap.size (t+1)) (w1.setRow B (mtC sR (some (w.heap.size+1)) g));rw[<-hw2,ez] at h;exact h
  have P2:=Lib.hid (show PtAt (paint T1 w1.heap.size (t+1)) w2 t B so sR (some (w.heap.size+1)) [] g from
   ⟨by rw[hw2];exact zN hrB _,by rw[zH (zK P1.out.row)];exact P1.out.tg,.inr ⟨_,rfl,zP (by omega),hM2⟩,P1.out.sz⟩)
  have F2:=Lib.hid ((F1.out.trans (fA.mono fun c hc=>(.inl hc:H2 t c))).trans (fB.mono fun c hc=>(.inl hc:H2 t c)))
  have R2:=Lib.hid (show row w2 w.heap.size=some #[.int .i64 x.id,.int .i64 x.q,.int .i64 x.c,.int .i64 x.n,.int .i64 x.m,.slice A x.T c] by rw[hw2];exact zN ((zF _ _ _ _ hB0).trans R1.out) _)
  have S2:=Lib.hid ((S1.out.fr (fA.mono fun c hc=>(.inl hc:H2 t c)) htx).fr (fB.mono fun c hc=>(.inl hc:H2 t c)) htx)
  go_upto_region 3 with fail
  rw[zL P1.out.row,mtC_s0 P1.out.sz,<-hw2];obtain ⟨T2,hT2⟩:∃ T2,T2=paint T1 w1.heap.size (t+1):=⟨_,rfl⟩;rw[<-hT2] at F2 P2 S2;obtain ⟨M,hMM⟩:∃ M,M=w.heap.size+1:=⟨_,rfl⟩;rw[<-hMM] at P2;obtain ⟨l0,hl0⟩:∃ l0:List Se,l0=[]:=⟨_,rfl⟩;rw[<-hl0] at P2 hl9 hH hG hl;clear P1 F1 R1 S1 hw2 ez b2 fA fB hrB hM2 f0 hmm a0 a1 q hT2 hMM hl0;refine yE [([0,1,2,3,4,5,6],7,false),([],8,true)] [] (by kernel_rfl) (by kernel_rfl) (fun _ _ _ _ _ h=>h) fun Z=>?_
  have F3:=Lib.hid (F2.out.trans (Fr.calm (H:=H2 t) Z.below fun _ _=>rfl))
  have P3:=Lib.hid (P2.out.fr (Fr.calm (H:=fun _=>False) Z.below fun _ _=>rfl) (fun h=>h) (fun h=>h) (fun h=>h))
  have R3:=Lib.hid (zD Z.below R2.out);have S3:=Lib.hid (S2.out.fr (Fr.calm (H:=fun _=>False) Z.below fun _ _=>rfl) (fun h=>h))
  obtain ⟨w3,hw3⟩:∃ w3,w3=Z.val:=⟨_,rfl⟩;rw[<-hw3] at F3 P3 R3 S3 ⊢;clear hw3 Z R2 S2 F2 P2;have H3:=Lib.hid (cseat_any x A c w3 S3.out.sl hn);have cB:=fun y:After w3=>cells2T (After.row P3.out.row y) P3.out.sz
  have cR:=fun y:After w3=>After.row R3.out y
  have cC:=fun y:After w3=>cells6 (After.row R3.out y)
  simp only[wpFs,pk,List.getElem?_cons_zero,List.getElem?_cons_succ]
  repeat (go_big_quiet_step (fail))
  refine wpQuiet_nil ?_;clear cB cR cC;go_wp2_with fail;refine H3.out.mono ?_;rintro e w4 ⟨A',c',rfl,ho,hb⟩;have F4:=Lib.hid (F3.out.trans (Fr.new (H:=H2 t) hb 0));have P4:=Lib.hid (P3.out.fr (Fr.new (H:=fun _=>False) hb 0) (fun h=>h) (fun h=>h) (fun h=>h))
  have D4:=Lib.hid (ho.rdS T2 0);go_wp2_with fail;refine ⟨.inr hb,?_⟩;clear ho hb H3 S3 R3 P3 F3;obtain ⟨T4,hT4⟩:∃ T4,T4=paint T2 w3.heap.size 0:=⟨_,rfl⟩;rw[<-hT4] at F4 P4 D4;clear hT4
  obtain ⟨hT,hM⟩:T4 M=t+1/\MpAt T4 w4 M l0:=by
   rcases P4.out.mp with ⟨h,-⟩|⟨M',e,h1,h2⟩
   ·cases h
   ·cases e;exact ⟨h1,h2⟩
  obtain ⟨w5,hr,hM5,hF5,hz5⟩:=hM.put (H:=fun c=>c=t+1) hi D4.out hT (by omega) hl9 hH hG hl
  have P5:=Lib.hid (show PtAt T4 w5 t B so sR (some M) l' g from ⟨hF5.rowAt P4.out.row (by rw[P4.out.tg];omega),P4.out.tg,.inr ⟨M,rfl,hT,hM5⟩,P4.out.sz⟩)
  have F5:=Lib.hid (F4.out.trans (hF5.mono fun c hc=>(.inr hc:H2 t c)))
  clear hM hM5 hF5 hT P4 F4 D4;show wpQuiet _ _ _ _ _ _;refine wpQuiet_nil ?_;go_wp2_with fail;refine ⟨.inl trivial,?_⟩;show wpQuiet _ _ _ _ _ _;refine wpQuiet_nil ?_;go_wp2_with fail;exact bodyPost_end (v:=.tuple #[]) (by simp[results,Tryz.results80,go_sem]) rfl ⟨rfl,_,_,F5.out,P5.out⟩
 ·obtain ⟨T2,hT2⟩:∃ T2,T2=T1:=⟨_,rfl⟩
  obtain ⟨l0,hl0⟩:∃ l0:List Se,l0=l:=⟨_,rfl⟩;go_upto_region 3 with fail
  have P2:=P1;have F2:=F1;have R2:=R1;have S2:=S1;rw[<-hT2] at F2 P2 S2;rw[<-hl0] at P2 hl9 hH hG hl;clear P1 F1 R1 S1 a0 a1 q hT2 hTM hM hl0;refine yE [([0,1,2,3,4,5,6],7,false),([],8,true)] [] (by kernel_rfl) (by kernel_rfl) (fun _ _ _ _ _ h=>h) fun Z=>?_
  have F3:=Lib.hid (F2.out.trans (Fr.calm (H:=H2 t) Z.below fun _ _=>rfl))
  have P3:=Lib.hid (P2.out.fr (Fr.calm (H:=fun _=>False) Z.below fun _ _=>rfl) (fun h=>h) (fun h=>h) (fun h=>h))
  have R3:=Lib.hid (zD Z.below R2.out);have S3:=Lib.hid (S2.out.fr (Fr.calm (H:=fun _=>False) Z.below fun _ _=>rfl) (fun h=>h))
  obtain ⟨w3,hw3⟩:∃ w3,w3=Z.val:=⟨_,rfl⟩;rw[<-hw3] at F3 P3 R3 S3 ⊢;clear hw3 Z R2 S2 F2 P2;have H3:=Lib.hid (cseat_any x A c w3 S3.out.sl hn);have cB:=fun y:After w3=>cells2T (After.row P3.out.row y) P3.out.sz
  have cR:=fun y:After w3=>After.row R3.out y
  have cC:=fun y:After w3=>cells6 (After.row R3.out y)
  simp only[wpFs,pk,List.getElem?_cons_zero,List.getElem?_cons_succ]
  repeat (go_big_quiet_step (fail))
  refine wpQuiet_nil ?_;clear cB cR cC;go_wp2_with fail;refine H3.out.mono ?_;rintro e w4 ⟨A',c',rfl,ho,hb⟩;have F4:=Lib.hid (F3.out.trans (Fr.new (H:=H2 t) hb 0));have P4:=Lib.hid (P3.out.fr (Fr.new (H:=fun _=>False) hb 0) (fun h=>h) (fun h=>h) (fun h=>h))
  have D4:=Lib.hid (ho.rdS T2 0);go_wp2_with fail;refine ⟨.inr hb,?_⟩;clear ho hb H3 S3 R3 P3 F3;obtain ⟨T4,hT4⟩:∃ T4,T4=paint T2 w3.heap.size 0:=⟨_,rfl⟩;rw[<-hT4] at F4 P4 D4;clear hT4
  obtain ⟨hT,hM⟩:T4 M=t+1/\MpAt T4 w4 M l0:=by
   rcases P4.out.mp with ⟨h,-⟩|⟨M',e,h1,h2⟩
   ·cases h
   ·cases e;exact ⟨h1,h2⟩
  obtain ⟨w5,hr,hM5,hF5,hz5⟩:=hM.put (H:=fun c=>c=t+1) hi D4.out hT (by omega) hl9 hH hG hl
  have P5:=Lib.hid (show PtAt T4 w5 t B so sR (some M) l' g from ⟨hF5.rowAt P4.out.row (by rw[P4.out.tg];omega),P4.out.tg,.inr ⟨M,rfl,hT,hM5⟩,P4.out.sz⟩)
  have F5:=Lib.hid (F4.out.trans (hF5.mono fun c hc=>(.inr hc:H2 t c)))
  clear hM hM5 hF5 hT P4 F4 D4;show wpQuiet _ _ _ _ _ _;refine wpQuiet_nil ?_;go_wp2_with fail;refine ⟨.inl trivial,?_⟩;show wpQuiet _ _ _ _ _ _;refine wpQuiet_nil ?_;go_wp2_with fail;exact bodyPost_end (v:=.tuple #[]) (by simp[results,Tryz.results80,go_sem]) rfl ⟨rfl,_,_,F5.out,P5.out⟩
variable {so:Nat} {sR:Array Value}
theorem se_b1(x:Int)(w:World):(Instr.build 121 #[(0,.int .i64 x)]).run Tryz.prog w=.ok (seV (.new x) (.slice none 0 0)) w:=by kernel_rfl
theorem snew_any(T:Mk)(t:Nat)(w:World):Calls Tryz.prog 30 #[] w fun e w'=>∃ B,e=.returned (.pointer (some ⟨B,0,none⟩))/\PtAt (paint T w.heap.size t) w' t B 0 #[] none [] 0/\Below w.heap.size w w':=by
 go_enter Tryz.func30,Tryz.ntmps30;go_wp2_with fail;go_ret;exact ⟨_,rfl,⟨by rw[mtC_nil];exact zA _ _ _ _ rfl,zP (Nat.le_refl _),.inl ⟨rfl,rfl⟩,rfl⟩,(Below.refl _ _).alloc (Nat.le_refl _) _⟩
theorem popen_any(T:Mk)(t B:Nat)(mv:Option Nat)(l:List Se)(g:Int)(w:World)(hP:PtAt T w t B so sR mv l g)(ht:0<t)(hK:SsOk l g):
  Calls Tryz.prog 40 #[.pointer (some ⟨B,so,none⟩)] w fun e w'=>e=.returned (.tuple #[.int .i64 (opN l g),.int .i64 (opE l g)])/\∃ T' mv',Fr T T' (H2 t) w w'/\PtAt T' w' t B so sR mv' (opSe l g) (opG l g):=by
 have hg0:=hK.g0;have hg1:=hK.g1;have hn8:=hK.n;have HP:=Lib.hid hP;have H1:=Lib.hid (pnext_any B mv g w hP.row hP.sz hg0 hg1);have qL:=fun ty=>hP.mp.len ty
 obtain ⟨a0,a1⟩:=cells2T hP.row hP.sz;have hnot:ssH l (g+1)=false:=hK.not (.inr (by omega))
 have H2':=Lib.hid (keep_any T t B mv l (l++[Se.new (g+1)]) g (Se.new (g+1)) none 0 w hP ht (by unfold i64B;simp only[Se.new];omega) (tx:=t+2) (RdS.nil _ _ _ _) (by unfold H2;omega) (Nat.zero_le _) (by omega) (fun j=>ssH_app _ _ _) (fun j s=>ssG_app hnot) (by rw[show (Se.new (g+1)).id=g+1 from rfl,hnot];simp))
 have bd1:=fun w=>se_b1 (g+1) w
 have HN:=Lib.hid (show opN l g=if opF l g then 0 else g+1 from rfl)
 have HE:=Lib.hid (show opE l g=if opF l g then 134 else 0 from rfl)
 have HL:=Lib.hid (show opSe l g=if opF l g then l else l++[Se.new (g+1)] from rfl)
 have HG:=Lib.hid (show opG l g=if opF l g then g else g+1 from rfl)
 have HF:=Lib.hid (show opF l g=(decide (l.length=8)||decide (g+1=1099511627776)) from rfl)
 clear hP hK hnot;go_enter Tryz.func40,Tryz.ntmps40;go_wp2_with fail;refine H1.out.mono ?_;rintro e w' ⟨rfl,rfl⟩
 by_cases h8:l.length=8
 ·have d8:((l.length:Int)==8)=true:=beq_iff_eq.2 (by omega)
  go_wp2_with fail;have hF:opF l g=true:=by rw[HF.out,h8];rfl
  rw[HN.out,HE.out,HL.out,HG.out,hF];exact bodyPost_ret (v:=.tuple #[.int .i64 0,.int .i64 134]) (by simp[results,Tryz.results40,go_sem]) rfl ⟨rfl,T,mv,Fr.refl _ _ _,HP.out⟩
 ·have d8:((l.length:Int)==8)=false:=beq_eq_false_iff_ne.2 (by omega)
  by_cases h9:g+1=1099511627776
  ·have d9:(g+1==1099511627776)=true:=beq_iff_eq.2 h9
   go_wp2_with fail;have hF:opF l g=true:=by rw[HF.out,decide_eq_true h9,Bool.or_true]
   rw[HN.out,HE.out,HL.out,HG.out,hF];exact bodyPost_ret (v:=.tuple #[.int .i64 0,.int .i64 134]) (by simp[results,Tryz.results40,go_sem]) rfl ⟨rfl,T,mv,Fr.refl _ _ _,HP.out⟩
  ·have d9:(g+1==1099511627776)=false:=beq_eq_false_iff_ne.2 h9
   have hF:opF l g=false:=by rw[HF.out,decide_eq_false h9,decide_eq_false h8];rfl
   clear h9;go_wp2_with fail;refine H2'.out.mono ?_;rintro e w2 ⟨rfl,T2,mv2,hF2,hP2⟩;obtain ⟨b0,b1⟩:=cells2T hP2.row hP2.sz;have f1:=zJ hP2.row (so+1);have HF2:=Lib.hid hF2;have HP2:=Lib.hid hP2;clear hF2 hP2 a0 a1;go_wp2_with fail;rw[HN.out,HE.out,HL.out,HG.out,hF,zL HP2.out.row,mtC_s1 HP2.out.sz];have hF3:=Fr.row (T:=T2) (H:=fun c=>c=t) (w:=w2) (B:=B) HP2.out.tg (mtC sR mv2 (g+1))
   exact bodyPost_ret (v:=.tuple #[.int .i64 (g+1),.int .i64 0]) (by simp[results,Tryz.results40,go_sem]) rfl ⟨rfl,T2,mv2,HF2.out.trans (hF3.mono fun c hc=>(.inl hc:H2 t c)),⟨zE HP2.out.row _,HP2.out.tg,HP2.out.mp.fr hF3 (by omega) (by omega),HP2.out.sz⟩⟩
theorem pexp_any(T:Mk)(t B:Nat)(mv:Option Nat)(l:List Se)(g id:Int)(w:World)(hP:PtAt T w t B so sR mv l g)(ht:0<t)(hK:SsOk l g)(hi:i64B id):
  Calls Tryz.prog 41 #[.pointer (some ⟨B,so,none⟩),.int .i64 id] w fun e w'=>e=.returned (.int .i64 (exE l id))/\∃ T' mv',Fr T T' (H2 t) w w'/\PtAt T' w' t B so sR mv' (ssX l id) g:=by
 obtain ⟨s,A,c,q1,q2,hs,hg⟩:=hP.mp.look hi (seat_z w);obtain ⟨a0,a1⟩:=cells2T hP.row hP.sz;have HP:=Lib.hid hP;obtain ⟨w1,hw1⟩:∃ w1,w1=w.alloc (.cells #[.int .i64 s.id,.int .i64 s.q,.int .i64 s.c,.int .i64 s.n,.int .i64 s.m,.slice A s.T c] 121):=⟨_,rfl⟩;have bw:Below w.heap.size w w1:=by rw[hw1];exact (Below.refl _ _).alloc (by simp) _
 have P1:=Lib.hid (hP.fr (Fr.new (H:=fun _=>False) bw 0) (fun h=>h) (fun h=>h) (fun h=>h))
 have F1:=Lib.hid (show Fr T (paint T w.heap.size 0) (H2 t) w w1 from Fr.new bw 0)
 have HX:=Lib.hid (show exE l id=if ssH l id then 0 else 150 from rfl)
 have HU:=Lib.hid hK.up;have HXn:=Lib.hid (ssX_none (l:=l) (id:=id));obtain ⟨b,hb⟩:∃ b,b=ssH l id:=⟨_,rfl⟩;rw[<-hb] at q1 HX HXn;clear hP hK hs hg bw q2 hb;go_enter Tryz.func41,Tryz.ntmps41;go_upto_region 2 with fail
 rw[<-hw1];clear hw1 q1 a0 a1;obtain ⟨a0,a1⟩:=cells2T P1.out.row P1.out.sz
 cases b with
 |false=>
  have EX:=Lib.hid (show exE l id=150 from HX.out)
  have EL:=Lib.hid (HXn.out rfl);clear HX HXn;go_wp2_with fail;go_ret;rw[EX.out,EL.out];exact ⟨rfl,_,mv,F1.out,P1.out⟩
 |true=>
  obtain ⟨w2,hr,hM2,hF2,hz2⟩:=P1.out.mp.drop (H:=fun c=>c=t+1) hi HU.out rfl (by omega) 0
  have EX:=Lib.hid (show exE l id=0 from HX.out)
  have P2:=Lib.hid (show PtAt (paint T w.heap.size 0) w2 t B so sR mv (ssX l id) g from ⟨hF2.rowAt P1.out.row (by rw[P1.out.tg];omega),P1.out.tg,hM2,P1.out.sz⟩)
  have F2:=Lib.hid (F1.out.trans (hF2.mono fun c hc=>(.inr hc:H2 t c)))
  clear HX HXn hM2 hF2;go_wp2_with fail;go_ret;rw[EX.out];exact ⟨rfl,_,mv,F2.out,P2.out⟩
theorem se_f2(x0 x1 x2 x3 x4:Int)(V:Value)(w:World):(Instr.field 121 (.agg #[.int .i64 x0,.int .i64 x1,.int .i64 x2,.int .i64 x3,.int .i64 x4,V]) 2).run Tryz.prog w=.ok (.agg #[.int .i64 x2,.int .i64 x3,.int .i64 x4,V]) w:=by kernel_rfl
theorem rp_b0(w:World):(Instr.build 33 #[]).run Tryz.prog w=.ok (repV 0 0 0 (.slice none 0 0)) w:=by kernel_rfl
theorem pask_any(T:Mk)(t B:Nat)(mv:Option Nat)(l:List Se)(g id q:Int)(w:World)(hP:PtAt T w t B so sR mv l g)(hK:SsOk l g)(hi:i64B id):
  Calls Tryz.prog 81 #[.pointer (some ⟨B,so,none⟩),.int .i64 id,.int .i64 q] w fun e w'=>∃ A c,e=.returned (.tuple #[repV (akS l id q).c (akS l id q).n (akS l id q).m (.slice A (akS l id q).T c),.bool (akB l id q),.int .i64 (akE l id q)])/\
   Own w' w.heap.size 5 (.slice A (akS l id q).T c) (akS l id q).T (akS l id q).f/\Below w.heap.size w w':=by
 have bw0:Below w.heap.size w (w.alloc (.cells #[.int .i64 0,.int .i64 0,.int .i64 0,.slice none 0 0] 33)):=(Below.refl _ _).alloc (by simp) _
 have P0:=hP.fr (Fr.new (H:=fun _=>False) bw0 0) (fun h=>h) (fun h=>h) (fun h=>h)
 obtain ⟨s,A,c,q1,q2,hs,hg⟩:=P0.mp.look hi (seat_z _);obtain ⟨a0,a1⟩:=cells2T P0.row P0.sz;obtain ⟨w1,hw1⟩:∃ w1,w1=(w.alloc (.cells #[.int .i64 0,.int .i64 0,.int .i64 0,.slice none 0 0] 33)).alloc (.cells #[.int .i64 s.id,.int .i64 s.q,.int .i64 s.c,.int .i64 s.n,.int .i64 s.m,.slice A s.T c] 121):=⟨_,rfl⟩;have bw:Below w.heap.size w w1:=by rw[hw1];exact bw0.alloc (by simp) _
 have R1:=Lib.hid (show row w1 w.heap.size=some #[.int .i64 0,.int .i64 0,.int .i64 0,.slice none 0 0] by rw[hw1];exact zN (zA _ _ _ _ rfl) _)
 have R2:=Lib.hid (show row w1 (w.heap.size+1)=some #[.int .i64 s.id,.int .i64 s.q,.int .i64 s.c,.int .i64 s.n,.int .i64 s.m,.slice A s.T c] by rw[hw1];exact zA _ _ _ _ (by simp))
 have B1:=Lib.hid bw;have hz:w1.heap.size=w.heap.size+2:=by rw[hw1];simp
 have S1:=Lib.hid (show Sl w1 w1.heap.size A s.T c s.f by
  have h:=hs.fr (Fr.new (H:=fun _=>False) (show Below _ _ w1 by rw[hw1];exact (Below.refl _ _).alloc (Nat.le_refl _) _) 0) (fun h=>h)
  exact h.sl)
 have hn:s.T<=140737488355328:=by
  rcases hg with h|⟨-,-,rfl,-,-⟩
  ·exact hK.t s (ssG_some h).1
  ·exact Nat.zero_le _
 have HG:=Lib.hid hg;have H1:=Lib.hid (cseat_any s A c w1 S1.out hn);obtain ⟨b,hb⟩:∃ b,b=ssH l id:=⟨_,rfl⟩;rw[<-hb] at q1;have HB:=Lib.hid hb;clear hP hK hs hg bw q2 hb P0 bw0 S1;go_enter Tryz.func81,Tryz.ntmps81;go_upto_region 2 with fail
 rw[<-hw1];clear hw1 q1 a0 a1;have bd0:=rp_b0;have O0:=fun w'=>Own.nil w' w.heap.size 5 (fun _=>0#8)
 obtain ⟨a0,a1,a2,a3,a4,a5⟩:=cells6 R2.out;have R1':=R1.out
 cases b with
 |false=>
  have hG:ssG l id=none:=by
   rcases HG.out with h|⟨-,h,-⟩
   ·have:=HB.out;rw[ssH_G,h] at this;cases this
   ·exact h
  have E1:=Lib.hid (show akE l id q=150 by unfold akE;rw[hG])
  have E2:=Lib.hid (show akB l id q=false by unfold akB;rw[hG])
  have E3:=Lib.hid (show akS l id q=.new 0 by unfold akS;rw[hG])
  clear hG HG HB;go_wp2_with fail;rw[E1.out,E2.out,E3.out];exact bodyPost_ret (v:=.tuple #[repV 0 0 0 (.slice none 0 0),.bool false,.int .i64 150]) (xF Tryz.results81 _ _ w.heap.size _ _ rfl (zE R1.out _) Tryz.underlying33 rfl (by kernel_rfl)) rfl ⟨none,0,rfl,O0 _,zG B1.out (Nat.le_refl _) _⟩
 |true=>
  have hG:ssG l id=some s:=by
   rcases HG.out with h|⟨h,-⟩
   ·exact h
   ·rw[<-HB.out] at h;cases h
  by_cases h1:q<s.q
  ·have d1:decide (q<s.q)=true:=decide_eq_true h1
   have E1:=Lib.hid (show akE l id q=151 by unfold akE;rw[hG];exact if_pos (.inl h1))
   have E2:=Lib.hid (show akB l id q=false by unfold akB;rw[hG];exact decide_eq_false (fun h=>h.1 (.inl h1)))
   have E3:=Lib.hid (show akS l id q=.new 0 by unfold akS;rw[hG];exact if_neg (fun h=>h.1 (.inl h1)))
   clear hG HG HB h1;go_wp2_with fail;rw[E1.out,E2.out,E3.out];exact bodyPost_ret (v:=.tuple #[repV 0 0 0 (.slice none 0 0),.bool false,.int .i64 151]) (xF Tryz.results81 _ _ w.heap.size _ _ rfl (zE R1.out _) Tryz.underlying33 rfl (by kernel_rfl)) rfl ⟨none,0,rfl,O0 _,zG B1.out (Nat.le_refl _) _⟩
  ·have d1:decide (q<s.q)=false:=decide_eq_false h1
   by_cases h2:q<1
   ·have d2:decide (q<1)=true:=decide_eq_true h2
    have E1:=Lib.hid (show akE l id q=151 by unfold akE;rw[hG];exact if_pos (.inr h2))
    have E2:=Lib.hid (show akB l id q=false by unfold akB;rw[hG];exact decide_eq_false (fun h=>h.1 (.inr h2)))
    have E3:=Lib.hid (show akS l id q=.new 0 by unfold akS;rw[hG];exact if_neg (fun h=>h.1 (.inr h2)))
    clear hG HG HB h1 h2;go_wp2_with fail;rw[E1.out,E2.out,E3.out];exact bodyPost_ret (v:=.tuple #[repV 0 0 0 (.slice none 0 0),.bool false,.int .i64 151]) (xF Tryz.results81 _ _ w.heap.size _ _ rfl (zE R1.out _) Tryz.underlying33 rfl (by kernel_rfl)) rfl ⟨none,0,rfl,O0 _,zG B1.out (Nat.le_refl _) _⟩
   ·have d2:decide (q<1)=false:=decide_eq_false h2
    have hno:¬ (q<s.q\/q<1):=fun h=>h.elim h1 h2
    have E1:=Lib.hid (show akE l id q=0 by unfold akE;rw[hG];exact if_neg hno)
    by_cases h3:q=s.q
    ·have d3:decide (s.q<q)=false:=decide_eq_false (by omega)
     have E2:=Lib.hid (show akB l id q=true by unfold akB;rw[hG];exact decide_eq_true ⟨hno,h3⟩)
     have E3:=Lib.hid (show akS l id q=s by unfold akS;rw[hG];exact if_pos ⟨hno,h3⟩)
     clear hG HG HB h1 h2 hno h3;have r2:=R2.out;go_wp2_with fail;refine H1.out.mono ?_;rintro e w2 ⟨A',c',rfl,ho,hb⟩;have R1x:=zD hb R1.out;have O2:=Lib.hid ho;have B2:=Lib.hid (onto B1.out (by omega) hb)
     have qf:=fun w=>se_f2 s.id s.q s.c s.n s.m (.slice A' s.T c') w
     clear ho hb R1' r2 a0 a1 a2 a3 a4 a5 H1;go_wp2_with fail;rw[E1.out,E2.out,E3.out]
     exact bodyPost_ret (v:=.tuple #[repV s.c s.n s.m (.slice A' s.T c'),.bool true,.int .i64 0]) (xF Tryz.results81 _ _ w.heap.size _ _ rfl (zE R1x _) Tryz.underlying33 rfl (by kernel_rfl)) rfl
      ⟨A',c',rfl,(O2.out.setRow _ (fun e=>by have:=(World.ownsRow.lt O2.out _ e).1;omega) _).base (by omega),zG B2.out (Nat.le_refl _) _⟩
    ·have d3:decide (s.q<q)=true:=decide_eq_true (by omega)
     have E2:=Lib.hid (show akB l id q=false by unfold akB;rw[hG];exact decide_eq_false (fun h=>h3 h.2))
     have E3:=Lib.hid (show akS l id q=.new 0 by unfold akS;rw[hG];exact if_neg (fun h=>h3 h.2))
     clear hG HG HB h1 h2 hno h3;go_wp2_with fail;rw[E1.out,E2.out,E3.out];exact bodyPost_ret (v:=.tuple #[repV 0 0 0 (.slice none 0 0),.bool false,.int .i64 0]) (xF Tryz.results81 _ _ w.heap.size _ _ rfl (zE R1.out _) Tryz.underlying33 rfl (by kernel_rfl)) rfl ⟨none,0,rfl,O0 _,zG B1.out (Nat.le_refl _) _⟩
variable {so:Nat} {sR:Array Value}
theorem se_b3(x q c n m:Int)(V:Value)(w:World):(Instr.build 121 #[(0,.int .i64 x),(1,.int .i64 q),(2,.agg #[.int .i64 c,.int .i64 n,.int .i64 m,V])]).run Tryz.prog w=.ok (.agg #[.int .i64 x,.int .i64 q,.int .i64 c,.int .i64 n,.int .i64 m,V]) w:=by kernel_rfl
theorem pdone_any(T:Mk)(t B:Nat)(mv:Option Nat)(l:List Se)(g:Int)(x:Se)(A:Option Addr)(c:Nat)(w:World)(hP:PtAt T w t B so sR mv l g)(ht:0<t)(hK:SsOk l g)(hi:i64B x.id){tx:Nat}(hs:RdS T w tx A x.T c x.f)(htx:¬ H2 t tx)(hn:x.T<=140737488355328):
  Calls Tryz.prog 84 #[.pointer (some ⟨B,so,none⟩),.int .i64 x.id,.int .i64 x.q,repV x.c x.n x.m (.slice A x.T c)] w fun e w'=>e=.returned (.int .i64 (dnE l x.id x.q))/\∃ T' mv',Fr T T' (H2 t) w w'/\PtAt T' w' t B so sR mv' (dnL l x) g:=by
 have bw0:Below w.heap.size w (w.alloc (.cells #[.int .i64 x.c,.int .i64 x.n,.int .i64 x.m,.slice A x.T c] 33)):=(Below.refl _ _).alloc (by simp) _
 have P0:=hP.fr (Fr.new (H:=fun _=>False) bw0 0) (fun h=>h) (fun h=>h) (fun h=>h)
 obtain ⟨s,A0,c0,q1,q2,hs0,hg⟩:=P0.mp.look hi (seat_z _);obtain ⟨a0,a1⟩:=cells2T P0.row P0.sz;obtain ⟨w1,hw1⟩:∃ w1,w1=(w.alloc (.cells #[.int .i64 x.c,.int .i64 x.n,.int .i64 x.m,.slice A x.T c] 33)).alloc (.cells #[.int .i64 s.id,.int .i64 s.q,.int .i64 s.c,.int .i64 s.n,.int .i64 s.m,.slice A0 s.T c0] 121):=⟨_,rfl⟩;have bw:Below w.heap.size w w1:=by rw[hw1];exact bw0.alloc (by simp) _
 have R1:=Lib.hid (show row w1 w.heap.size=some #[.int .i64 x.c,.int .i64 x.n,.int .i64 x.m,.slice A x.T c] by rw[hw1];exact zN (zA _ _ _ _ rfl) _)
 have R2:=Lib.hid (show row w1 (w.heap.size+1)=some #[.int .i64 s.id,.int .i64 s.q,.int .i64 s.c,.int .i64 s.n,.int .i64 s.m,.slice A0 s.T c0] by rw[hw1];exact zA _ _ _ _ (by simp))
 have F1:=Lib.hid (show Fr T (paint T w.heap.size 0) (H2 t) w w1 from Fr.new bw 0)
 have P1:=Lib.hid (hP.fr (Fr.new (H:=fun _=>False) bw 0) (fun h=>h) (fun h=>h) (fun h=>h))
 have S1:=Lib.hid (hs.fr (Fr.new (H:=fun _=>False) bw 0) (fun h=>h))
 obtain ⟨T1,hT1⟩:∃ T1,T1=paint T w.heap.size 0:=⟨_,rfl⟩;rw[<-hT1] at F1 P1 S1
 have H1 (hh:ssH l x.id=true):=keep_any T1 t B mv l (ssD l x) g x A c w1 P1.out ht hi S1.out htx hn (by have:=hK.n;omega) (fun j=>by
  rw[ssH_D l x hh]
  by_cases e:x.id=j
  ·subst e;rw[hh];rfl
  ·rw[show (x.id==j)=false by simpa using e,Bool.or_false]) (fun j s=>ssG_D) (by rw[hh,ssD_len];rfl)
 have H1:=Lib.hid H1;have bd3:=fun w=>se_b3 x.id x.q x.c x.n x.m (.slice A x.T c) w
 have HG:=Lib.hid hg;obtain ⟨b,hb⟩:∃ b,b=ssH l x.id:=⟨_,rfl⟩;rw[<-hb] at q1;have HB:=Lib.hid hb;clear hP hs hg bw q2 hb P0 bw0 S1 hs0 hT1 hK;go_enter Tryz.func84,Tryz.ntmps84;go_upto_region 2 with fail
 rw[<-hw1];clear hw1 q1 a0 a1;obtain ⟨a0,a1,a2,a3,a4,a5⟩:=cells6 R2.out;have r1:=R1.out
 cases b with
 |false=>
  have hG:ssG l x.id=none:=by
   rcases HG.out with h|⟨-,h,-⟩
   ·have:=HB.out;rw[ssH_G,h] at this;cases this
   ·exact h
  have hE:dnE l x.id x.q=150:=by unfold dnE;rw[hG]
  have E1:=Lib.hid hE;have E2:=Lib.hid (show dnL l x=l by unfold dnL;rw[hE];exact if_neg (by omega))
  clear hG HG HB hE;go_wp2_with fail;go_ret;rw[E1.out,E2.out];exact ⟨rfl,_,_,F1.out,P1.out⟩
 |true=>
  have hG:ssG l x.id=some s:=by
   rcases HG.out with h|⟨h,-⟩
   ·exact h
   ·rw[<-HB.out] at h;cases h
  by_cases h1:x.q<=s.q
  ·have d1:decide (x.q<=s.q)=true:=decide_eq_true h1
   have hE:dnE l x.id x.q=151:=by unfold dnE;rw[hG];exact if_pos h1
   have E1:=Lib.hid hE;have E2:=Lib.hid (show dnL l x=l by unfold dnL;rw[hE];exact if_neg (by omega))
   clear hG HG HB hE h1;go_wp2_with fail;go_ret;rw[E1.out,E2.out];exact ⟨rfl,_,_,F1.out,P1.out⟩
  ·have d1:decide (x.q<=s.q)=false:=decide_eq_false h1
   have hE:dnE l x.id x.q=0:=by unfold dnE;rw[hG];exact if_neg h1
   have E1:=Lib.hid hE;have E2:=Lib.hid (show dnL l x=ssD l x by unfold dnL;rw[hE];exact if_pos rfl)
   have H1':=Lib.hid (H1.out HB.out.symm);clear hG HG HB hE h1 H1;go_wp2_with fail;refine H1'.out.mono ?_;rintro e w2 ⟨rfl,T2,mv2,hF2,hP2⟩;have F2:=Lib.hid (F1.out.trans hF2);have P2:=Lib.hid hP2;clear hF2 hP2;go_wp2_with fail;go_ret;rw[E1.out,E2.out];exact ⟨rfl,_,_,F2.out,P2.out⟩
variable {so:Nat} {sR:Array Value}
theorem keysF_any(mb:Option Nat)(W:World):Calls Tryz.prog 151 #[.map mb] W fun e w'=>e=.returned (.func (.func 193) #[] #[.pointer (some ⟨W.heap.size,0,none⟩)])/\w'=W.alloc (.cells #[.map mb] 79):=keysI_any mb W
def ssK(l:List Se):Nat->Value:=fun i=> .int .i64 ((l.map Se.id).getD i 0)
theorem skeys_any(T:Mk)(t:Nat)(mv:Option Nat)(l:List Se)(w:World)(h:MpV T w t mv l)(hup:l.Pairwise fun a b=>a.id<b.id)(hn:l.length<=8):
  Calls Tryz.prog 150 #[.func (.func 193) #[] #[.pointer (some ⟨w.heap.size,0,none⟩)]] (w.alloc (.cells #[.map mv] 79)) fun e w'=>∃ A c,e=.returned (.slice A l.length c)/\
   SlG w' w'.heap.size A l.length c (ssK l)/\(∀ a,A=some a->w.heap.size<=a.block)/\Below w.heap.size w w':=by
 have b1:Below w.heap.size w (w.alloc (.cells #[.map mv] 79)):=(Below.refl _ _).alloc (Nat.le_refl _) _;have hz:w.heap.size<(w.alloc (.cells #[.map mv] 79)).heap.size:=by simp
 have hc:(w.alloc (.cells #[.map mv] 79)).cell? ⟨w.heap.size,0,none⟩=some (.map mv):=by rw[zC (zA _ _ _ _ rfl)];rfl
 rcases h with ⟨rfl,rfl⟩|⟨M,rfl,-,hM⟩
 ·refine (sortedN_any _ _ hz hc).mono ?_
  rintro e w' ⟨rfl,hb⟩;exact ⟨none,0,rfl,⟨Nat.le_refl _,fun h=>absurd h (by simp)⟩,fun a ha=>by (cases ha),onto b1 (Nat.le_of_lt hz) hb⟩
 ·obtain ⟨D,h1,h2,h3⟩:=hM.keys hup
  have hown:(w.alloc (.cells #[.map (some M)] 79)).ownsMap Tryz.prog 3 RV M (Go.Maps.size D) D:=h1.alloc _;refine (sortedI_any M _ D _ hz hc hown (by omega)).mono ?_
  rintro e w' ⟨v,ss,rfl,hp,hrow,hnil,hb⟩;obtain ⟨e1,e2⟩:=h3 ss hp;rw[e2,e1] at hrow;obtain ⟨A,c,rfl,hs,-,hA⟩:=ownsRow_slG hrow;refine ⟨A,c,rfl,hs.congr fun i hi=>?_,fun a ha=>?_,onto b1 (Nat.le_of_lt hz) hb⟩
  ·unfold nth ssK
   rw[List.getD_eq_getElem?_getD,List.getD_eq_getElem?_getD,List.getElem?_map,List.getElem?_map,List.getElem?_eq_getElem hi];rfl
  ·rcases hA with h|⟨g,h,hg⟩
   ·rw[h] at ha;cases ha
   ·rw[h] at ha;cases ha;exact Nat.le_trans (Nat.le_of_lt hz) hg
theorem ssl_u:Tryz.prog.underlying 105=some (.slice 121):=Tryz.underlying105
theorem se_info:(Tryz.prog.info? 121).map (fun i=>(i.zero,i.size,i.bytes))=some (some (seV (.new 0) (.slice none 0 0)),6,64):=by kernel_rfl
theorem pseats_any(T:Mk)(t ts B:Nat)(mv:Option Nat)(l:List Se)(g:Int)(w:World)(hP:PtAt T w t B so sR mv l g)(ht:0<t)(hts:0<ts)(h1:ts≠t)(h2:ts≠t+1)(hK:SsOk l g):
  Calls Tryz.prog 97 #[.pointer (some ⟨B,so,none⟩)] w fun e w'=>∃ A c T',e=.returned (.tuple #[.slice A l.length c,.int .i64 (g+1)])/\ElAt 6 seEl T' w' ts A c l/\Fr T T' (fun x=>x=ts) w w':=by
 have HK:=Lib.hid hK;have HP:=Lib.hid hP;have hn8:=hK.n;obtain ⟨a0,a1⟩:=cells2T hP.row hP.sz;have H1:=Lib.hid (keysF_any mv w);have H2':=Lib.hid (skeys_any T (t+1) mv l w hP.mp hK.up hn8);clear hP hK;go_enter Tryz.func97,Tryz.ntmps97;go_wp2_with fail;refine H1.out.mono ?_;rintro e w' ⟨rfl,rfl⟩;go_wp2_with fail;refine H2'.out.mono ?_;rintro e w4 ⟨AK,cK,rfl,hk,hka,hb4⟩;have P4:=Lib.hid (HP.out.fr (Fr.new (H:=fun _=>False) hb4 0) (fun h=>h) (fun h=>h) (fun h=>h))
 have F4:=Lib.hid (Fr.new (T:=T) (H:=fun x=>x=ts) hb4 0)
 have K4:=Lib.hid hk;have K5:=Lib.hid (show ∀ a,AK=some a->paint T w.heap.size 0 a.block=0 from fun a ha=>zP (hka a ha))
 obtain ⟨T4,hT4⟩:∃ T4,T4=paint T w.heap.size 0:=⟨_,rfl⟩;rw[<-hT4] at P4 F4 K5;clear hk hka hb4 hT4 H1 H2' a0 a1;go_wp2_with fail;go_loopw [4,14] (fun lv iv wr=>∃ (j:Nat) (T1:Mk) (A:Option Addr) (c:Nat),j<=l.length/\iv=.int .i64 (j:Int)/\lv=.slice A j c/\Fr T4 T1 (fun x=>x=ts) w4 wr/\ElAt 6 seEl T1 wr ts A c (l.take j)) (fun _ iv _=>l.length-(intOf iv).toNat)
 case atStart=>exact ⟨0,T4,none,0,by omega,rfl,rfl,Fr.refl _ _ _,ElAt.nil _ _ _⟩
 case round=>
  obtain ⟨j,T1,A,c,hj,rfl,rfl,hf,hel⟩:=hrel;obtain ⟨wo,rfl⟩:∃ wo:World,wo=wr:=⟨_,rfl⟩;have HF:=Lib.hid hf;have HE:=Lib.hid hel;have P5:=Lib.hid (P4.out.fr hf (fun e=>h1 e.symm) (fun e=>h2 e.symm) (by omega))
  clear hf hel
  by_cases hlt:j<l.length
  ·have hd:decide ((j:Int)<(l.length:Int))=true:=by simp;omega
   obtain ⟨gk,ok,hA,hgk,hck⟩:=K4.out.at_ (by omega)
   subst hA;have ck:wo.cell? ⟨gk,ok+j,none⟩=some (ssK l j):=by rw[HF.out.cellAt hgk (by rw[K5.out _ rfl];omega)];exact hck j hlt
   have ek:ssK l j=.int .i64 (l[j]).id:=by unfold ssK;rw[List.getD_eq_getElem?_getD,List.getElem?_map,List.getElem?_eq_getElem hlt];rfl
   rw[ek] at ck;have hmem:l[j]∈l:=List.getElem_mem hlt;have hbd:=HK.out.bd _ hmem;have hg1:=HK.out.g1;obtain ⟨s,As,cs,q1,q2,hs,hg⟩:=P5.out.mp.look (id:=(l[j]).id) (by unfold i64B;omega) (seat_z _)
   have hs':s=l[j]:=by
    have e:=ssG_mem HK.out.up hmem;rcases hg with h|⟨-,h,-⟩
    ·rw[e] at h;exact (Option.some.inj h).symm
    ·rw[e] at h;cases h
   have HS:=Lib.hid hs';have hsT:s.T<=140737488355328:=by rw[hs'];exact HK.out.t _ hmem
   have H6:=Lib.hid (cseat_any s As cs wo hs.sl hsT);obtain ⟨a0,a1⟩:=cells2T P5.out.row P5.out.sz;have hcap:=K4.out.le;clear q1 hg hs hck ek hmem hbd hg1 hs';go_wp2_with fail;refine H6.out.mono ?_;rintro e w6 ⟨A',c',rfl,ho,hb⟩;have bx:Below wo.heap.size wo (w6.alloc (.cells #[.int .i64 s.id,.int .i64 s.q,.int .i64 s.c,.int .i64 s.n,.int .i64 s.m,.slice A' s.T c'] 121)):=hb.alloc hb.size _;have D6:=ho.rdS T1 0;have b7:=(Below.refl w6.heap.size w6).alloc (Nat.le_refl _) (.cells #[.int .i64 s.id,.int .i64 s.q,.int .i64 s.c,.int .i64 s.n,.int .i64 s.m,.slice A' s.T c'] 121);obtain ⟨w7,hw7⟩:∃ w7,w7=w6.alloc (.cells #[.int .i64 s.id,.int .i64 s.q,.int .i64 s.c,.int .i64 s.n,.int .i64 s.m,.slice A' s.T c'] 121):=⟨_,rfl⟩;have r7:row w7 w6.heap.size=some #[.int .i64 s.id,.int .i64 s.q,.int .i64 s.c,.int .i64 s.n,.int .i64 s.m,.slice A' s.T c']:=by rw[hw7];exact zA _ _ _ _ rfl
   rw[<-hw7] at bx b7;have F7:=Lib.hid (Fr.new (T:=T1) (H:=fun x=>x=ts) bx 0)
   have E7:=Lib.hid (HE.out.fr yL (Fr.new (T:=T1) (H:=fun _=>False) bx 0) (fun h=>h) (fun h=>h))
   have D7:=Lib.hid (D6.fr (Fr.calm (T':=paint T1 wo.heap.size 0) (H:=fun _=>False) b7 fun _ _=>rfl) (fun h=>h))
   have R7:=Lib.hid r7;clear ho hb bx D6 b7 r7 q2 ck a0 a1 H6 hsT;obtain ⟨T7,hT7⟩:∃ T7,T7=paint T1 wo.heap.size 0:=⟨_,rfl⟩;rw[<-hT7] at F7 E7 D7;clear hT7;have hla:(l.take j).length=j:=by rw[List.length_take];omega
   go_wp2_with (at_builtin;simp only[<-hw7];refine wpl_appAt yL rfl (.tmp 18) (.tmp 26) rfl ssl_u se_info rfl (by decide) (by decide) E7.out R7.out ⟨A',c',rfl,D7.out⟩ (by omega) (by omega) (by simp[Act.eval,hla]) (by simp[Act.eval]) ?_;intro A8 c8 w8 p8 f8)
   have el:l.take j++[s]=l.take (j+1):=by rw[HS.out,<-List.take_append_getElem hlt]
   rw[el] at p8;refine ⟨⟨j+1,_,A8,c8,by omega,by rw[Int.natCast_succ],rfl,HF.out.trans (F7.out.trans f8),p8⟩,?_⟩
   simp only[intOf];omega
  ·obtain rfl:j=l.length:=by omega
   have hd:decide ((l.length:Int)<(l.length:Int))=false:=by simp
   have hg0:=HK.out.g0;have hg1:=HK.out.g1;have H9:=Lib.hid (pnext_any B mv g wo P5.out.row P5.out.sz hg0 hg1);have E9:=HE.out;rw[List.take_length] at E9;have HE9:=Lib.hid E9;clear HE E9 K4 K5;go_wp2_with fail;refine H9.out.mono ?_;rintro e w9 ⟨rfl,rfl⟩;go_wp2_with fail;exact bodyPost_ret (v:=.tuple #[.slice A l.length c,.int .i64 (g+1)]) (by simp[results,Tryz.results97,go_sem]) rfl ⟨A,c,T1,rfl,HE9.out,F4.out.trans HF.out⟩
end Go.Proofs.YteffjpdcghlnlaaGreatDoor.Oct
namespace Go.Proofs.YteffjpdcghlnlaaGreatDoor.Oct
open Go.RowKit
def dv:Nat->Nf->Nat
 |0,_=>0
 |n+1,f=>dv n f+f n*65536^n
def dg(x:Nat):Nf:=fun i=>x / 65536^i % 65536
theorem dg_lt(x i:Nat):dg x i<65536:=Nat.mod_lt _ (by omega)
theorem dv_congr{f g:Nf}:∀ n,(∀ i,i<n->f i=g i)->dv n f=dv n g:=by
 intro n
 induction n with
 |zero=>intro _;rfl
 |succ n ih=>intro h;simp only[dv];rw[ih fun i hi=>h i (by omega),h n (by omega)]
theorem dv_zero:∀ n,dv n (fun _=>0)=0:=by
 intro n
 induction n with
 |zero=>rfl
 |succ n ih=>simp only[dv];rw[ih];omega
theorem dv_lt{f:Nf}:∀ n,(∀ i,i<n->f i<65536)->dv n f<65536^n:=by
 intro n
 induction n with
 |zero=>intro _;simp[dv]
 |succ n ih=>
  intro h;simp only[dv];have h1:=ih fun i hi=>h i (by omega)
  have h2:=Nat.mul_le_mul_right (65536^n) (show f n<=65535 by have:=h n (by omega);omega)
  rw[Nat.pow_succ];generalize 65536^n=p at h1 h2 ⊢;generalize f n*p=q at h2 ⊢;omega
theorem dv_dg(x:Nat):∀ n,dv n (dg x)=x % 65536^n:=by
 intro n
 induction n with
 |zero=>simp[dv,Nat.mod_one]
 |succ n ih=>
  simp only[dv];rw[ih,Nat.mod_pow_succ];unfold dg;rw[Nat.mul_comm]
theorem dg_dv{f:Nf}:∀ n,(∀ i,i<n->f i<65536)->∀ i,i<n->dg (dv n f) i=f i:=by
 intro n
 induction n with
 |zero=>intro _ i hi;omega
 |succ n ih=>
  intro h i hi;simp only[dv]
  by_cases hin:i<n
  ·rw[<-ih (fun j hj=>h j (by omega)) i hin]
   unfold dg;rw[show 65536^n=65536^i*(65536*65536^(n-i-1)) by rw[<-Nat.pow_succ',<-Nat.pow_add];congr 1;omega]
   rw[show f n*(65536^i*(65536*65536^(n-i-1)))=65536^i*(65536*(f n*65536^(n-i-1))) by
    rw[Nat.mul_left_comm,Nat.mul_left_comm (f n) 65536]]
   rw[Nat.add_mul_div_left _ _ (Nat.pow_pos (by omega)),Nat.add_mul_mod_self_left]
  ·obtain rfl:i=n:=by omega
   unfold dg;rw[Nat.add_mul_div_right _ _ (Nat.pow_pos (by omega)),Nat.div_eq_of_lt (dv_lt i fun j hj=>h j (by omega)),Nat.zero_add,Nat.mod_eq_of_lt (h i (by omega))]
theorem dv_upd(f:Nf)(m v:Nat):∀ n,m<n->dv n (updA f m v)+f m*65536^m=dv n f+v*65536^m:=by
 intro n
 induction n with
 |zero=>intro h;omega
 |succ n ih=>
  intro h;simp only[dv]
  by_cases hmn:m<n
  ·have h1:=ih hmn
   have h2:updA f m v n=f n:=by unfold updA;rw[if_neg (by omega)]
   rw[h2];omega
  ·obtain rfl:m=n:=by omega
   have h1:dv m (updA f m v)=dv m f:=dv_congr m fun i hi=>by unfold updA;rw[if_neg (by omega)]
   have h2:updA f m v m=v:=by unfold updA;rw[if_pos rfl]
   rw[h1,h2];omega
theorem dv_step(O a b:Nf)(i k r X:Nat)(hm:i+k<12)(h:dv 12 O+r*65536^(i+k)=X+a i*65536^i*dv k b):
  dv 12 (updA O (i+k) ((r+O (i+k)+a i*b k) % 65536))+(r+O (i+k)+a i*b k) / 65536*65536^(i+(k+1))=X+a i*65536^i*dv (k+1) b:=by
 have h1:=dv_upd O (i+k) ((r+O (i+k)+a i*b k) % 65536) 12 hm;have h2:=Nat.div_add_mod (r+O (i+k)+a i*b k) 65536;generalize hs:r+O (i+k)+a i*b k=s at h1 h2 ⊢;have h3:s*65536^(i+k)=r*65536^(i+k)+O (i+k)*65536^(i+k)+a i*b k*65536^(i+k):=by rw[<-hs,Nat.add_mul,Nat.add_mul]
 have h4:s*65536^(i+k)=s / 65536*65536^(i+(k+1))+s % 65536*65536^(i+k):=by
  conv=>lhs;rw[<-h2]
  rw[Nat.add_mul,show i+(k+1)=i+k+1 from rfl,Nat.pow_succ,Nat.mul_comm 65536 (s / 65536),Nat.mul_assoc,Nat.mul_comm 65536]
 have h5:a i*65536^i*dv (k+1) b=a i*65536^i*dv k b+a i*b k*65536^(i+k):=by
  simp only[dv];rw[Nat.mul_add,Nat.pow_add,Nat.mul_mul_mul_comm]
 rw[h5];omega
theorem rest_lt(r o x y:Nat)(hr:r<65536)(ho:o<65536)(hx:x<65536)(hy:y<65536):r+o+x*y<4294967296:=by
 have:=Nat.mul_le_mul (show x<=65535 by omega) (show y<=65535 by omega)
 omega
theorem dg_cmp(X Y i:Nat)(h:X / 65536^(i+1)=Y / 65536^(i+1)):
  (dg X i=dg Y i->X / 65536^i=Y / 65536^i)/\(dg X i≠dg Y i->decide (dg Y i<dg X i)=decide (Y<X)):=by
 rw[Nat.pow_succ,<-Nat.div_div_eq_div_mul,<-Nat.div_div_eq_div_mul] at h;unfold dg;have hx:=Nat.div_add_mod (X / 65536^i) 65536;have hy:=Nat.div_add_mod (Y / 65536^i) 65536;refine ⟨fun e=>by omega,fun e=>?_⟩
 rw[decide_eq_decide];constructor
 ·intro hlt
  by_cases hXY:Y<X
  ·exact hXY
  ·have:=Nat.div_le_div_right (c:=65536^i) (show X<=Y by omega)
   omega
 ·intro hlt
  have:=Nat.div_le_div_right (c:=65536^i) (show Y<=X by omega)
  omega
def pw(th:Bool)(x:Nat):Nat:=if th then x*x*x else x*x
def plc(th:Bool):Nat:=if th then 6 else 4
def ovr(x n:Nat)(th:Bool):Bool:=decide (n*65536^plc th<pw th x)
def rtg(n:Nat)(th:Bool):Nat->Nat->Nat
 |0,r=>r
 |k+1,r=>if ovr (r+2^k) n th then rtg n th k r else rtg n th k (r+2^k)
def prl:Nat->List Nat
 |0=>[]
 |j+1=>if (prl j).all (fun p=>(j+2) % p !=0) then prl j++[j+2] else prl j
open Go.ChangeShapes Go.WideShapes Go.ChangeAt
structure TmInv(a b:Nf)(i k r:Nat)(O:Nf):Prop where
 lt:∀ j,j<12->O j<65536
 rl:r<65536
 zero:∀ j,i+4<=j->j<12->O j=0
 sum:dv 12 O+r*65536^(i+k)=dv i a*dv 4 b+a i*65536^i*dv k b
theorem TmInv.step{a b:Nf}{i k r:Nat}{O:Nf}(h:TmInv a b i k r O)(ha:∀ j,j<8->a j<65536)(hb:∀ j,j<4->b j<65536)(hi:i<8)(hk:k<4):
  TmInv a b i (k+1) ((r+O (i+k)+a i*b k) / 65536) (updA O (i+k) ((r+O (i+k)+a i*b k) % 65536)):=by
 have hl:=rest_lt r (O (i+k)) (a i) (b k) h.rl (h.lt _ (by omega)) (ha i hi) (hb k hk)
 refine ⟨fun j hj=>?_,by omega,fun j h1 h2=>?_,dv_step O a b i k r _ (by omega) h.sum⟩
 ·unfold updA;split
  ·exact Nat.mod_lt _ (by omega)
  ·exact h.lt j hj
 ·unfold updA;rw[if_neg (by omega)];exact h.zero j h1 h2
theorem TmInv.next{a b:Nf}{i r:Nat}{O:Nf}(h:TmInv a b i 4 r O)(hi:i<8):TmInv a b (i+1) 0 0 (updA O (i+4) r):=by
 refine ⟨fun j hj=>?_,by omega,fun j h1 h2=>?_,?_⟩
 ·unfold updA;split
  ·exact h.rl
  ·exact h.lt j hj
 ·unfold updA;rw[if_neg (by omega)];exact h.zero j (by omega) h2
 ·have h1:=dv_upd O (i+4) r 12 (by omega)
  rw[h.zero (i+4) (by omega) (by omega)] at h1
  have h2:=h.sum;rw[show dv (i+1) a=dv i a+a i*65536^i from rfl,show dv 0 b=0 from rfl,Nat.add_mul,Nat.mul_zero,Nat.zero_mul]
  generalize dv 12 O=v at h1 h2 ⊢;generalize dv 12 (updA O (i+4) r)=v' at h1 ⊢;omega
theorem times_any(a b:Nf)(ha:∀ j,j<8->a j<65536)(hb:∀ j,j<4->b j<65536)(w:World):
  Calls Tryz.prog 242 #[.agg (qa 8 a),.agg (qa 4 b)] w fun e w'=>e=.returned (.agg (qa 12 (dg (dv 8 a*dv 4 b))))/\Below w.heap.size w w':=by
 have HA:=Lib.hid ha;have HB:=Lib.hid hb;clear ha hb;go_enter Tryz.func242,Tryz.ntmps242;go_wp2_with fail;go_loopw [6,7,8] (fun iv _ _ wr=>∃ i m:Nat,∃ O:Nf,i<=8/\iv=.int .i64 i/\TmInv a b i 0 0 O/\wr=((((w.alloc (.cells (qa 8 a) 308)).alloc (.cells (qa 4 b) 305)).alloc (.cells (qa 12 fun _=>0) 306)).alloc (.cells (qa 12 O) 306)).drewN m) (fun iv _ _ _=>8-(intOf iv).toNat)
 case atStart=>exact ⟨0,0,fun _=>0,by omega,rfl,⟨fun _ _=>by omega,by omega,fun _ _ _=>rfl,by rw[dv_zero];simp[dv]⟩,rfl⟩
 case round=>
  obtain ⟨i,m,O,hi,rfl,hI,rfl⟩:=hrel;have HI:=Lib.hid hI;clear hI
  by_cases hlt:i<8
  ·have hd:decide ((i:Int)<8)=true:=by simp;omega
   go_wp2_with fail;go_loopw [7,8] (fun rv kv wr=>∃ k r m:Nat,∃ O:Nf,k<=4/\kv=.int .i64 k/\rv=.int .u64 r/\TmInv a b i k r O/\wr=((((w.alloc (.cells (qa 8 a) 308)).alloc (.cells (qa 4 b) 305)).alloc (.cells (qa 12 fun _=>0) 306)).alloc (.cells (qa 12 O) 306)).drewN m) (fun _ kv _=>4-(intOf kv).toNat)
   case atStart=>exact ⟨0,0,m,O,by omega,rfl,rfl,HI.out,rfl⟩
   case round=>
    clear HI;obtain ⟨k,r,m,O,hk,rfl,rfl,hI,rfl⟩:=hrel;have HI:=Lib.hid hI
    by_cases hlk:k<4
    ·have hdk:decide ((k:Int)<4)=true:=by simp;omega
     have hb12:i+k<12:=by omega
     have hl:=rest_lt r (O (i+k)) (a i) (b k) hI.rl (hI.lt _ (by omega)) (HA.out i hlt) (HB.out k hlk)
     have hr:=hI.rl;have ho:=hI.lt (i+k) hb12;have HN:=Lib.hid (hI.step HA.out HB.out hlt hlk);obtain ⟨P,hP⟩:∃ P,P=a i*b k:=⟨_,rfl⟩;have hP2:((a i:Nat):Int)*((b k:Nat):Int)=(P:Int):=by rw[hP,Int.natCast_mul]
     obtain ⟨s,hs⟩:∃ s,s=r+O (i+k)+P:=⟨_,rfl⟩;obtain ⟨x,hx⟩:∃ x,x=s % 65536:=⟨_,rfl⟩;obtain ⟨y,hy⟩:∃ y,y=s / 65536:=⟨_,rfl⟩;rw[<-hP,<-hs,<-hx,<-hy] at HN;rw[<-hP,<-hs] at hl;have hs2:(r:Int)+((O (i+k):Nat):Int)+(P:Int)=(s:Int):=by omega
     have hx2:(s:Int) % 65536=(x:Int):=by omega
     have hy2:(s:Int) / 65536=(y:Int):=by omega
     have hPb:P<4294967296:=by omega
     clear hx hy hs hP hI HI;go_wp2_with fail;go_quiet (fail);go_wp2_with fail;go_roundw
     case rel=>exact ⟨k+1,y,_,_,by omega,by go_num,rfl,HN.out,rfl⟩
     case measure=>simp[intOf];omega
    ·obtain rfl:k=4:=by omega
     have HN:=Lib.hid (hI.next hlt);have hb4:i+4<12:=by omega
     clear hI HI;go_wp2_with fail;go_roundw
     case rel=>exact ⟨i+1,_,_,by omega,by go_num,HN.out,rfl⟩
     case measure=>simp[intOf];omega
  ·obtain rfl:i=8:=by omega
   have HV:=Lib.hid (show qa 12 O=qa 12 (dg (dv 8 a*dv 4 b)) from qa_ext fun j hj=>by
    rw[<-dg_dv 12 HI.out.lt j hj];have h2:=HI.out.sum;rw[show dv 0 b=0 from rfl,Nat.mul_zero,Nat.zero_mul,Nat.add_zero,Nat.add_zero] at h2
    rw[h2])
   rw[HV.out];go_wp2_with fail;refine bodyPost_ret (v:=.agg (qa 12 (dg (dv 8 a*dv 4 b)))) (zW rfl _ _ (w.heap.size+1+1) _ _ _ rfl (by simp[go_sem]) q12_u (by rw[qa_size];exact q12_i)) rfl ⟨rfl,?_⟩
   exact zQ (((((Below.refl _ _).alloc (by simp) _).alloc (by simp) _).alloc (by simp;omega) _).alloc (by simp;omega) _) _
theorem dg_hi(x n i:Nat)(h:x<65536^n)(hi:n<=i):dg x i=0:=by
 unfold dg;rw[Nat.div_eq_of_lt (Nat.lt_of_lt_of_le h (Nat.pow_le_pow_right (by omega) hi))]
def up4(f:Nf):Nf:=updA (updA (updA (updA (fun _=>0) 0 (f 0)) 1 (f 1)) 2 (f 2)) 3 (f 3)
def up8(f:Nf):Nf:=updA (updA (updA (updA (updA (updA (updA (updA (fun _=>0) 0 (f 0)) 1 (f 1)) 2 (f 2)) 3 (f 3)) 4 (f 4)) 5 (f 5)) 6 (f 6)) 7 (f 7)
theorem up4_8(x:Nat)(h:x<65536^4)(i:Nat)(hi:i<8):up4 (dg x) i=dg x i:=by
 match i,hi with
 |0,_=>rfl
 |1,_=>rfl
 |2,_=>rfl
 |3,_=>rfl
 |4,_=>exact (dg_hi x 4 4 h (by omega)).symm
 |5,_=>exact (dg_hi x 4 5 h (by omega)).symm
 |6,_=>exact (dg_hi x 4 6 h (by omega)).symm
 |7,_=>exact (dg_hi x 4 7 h (by omega)).symm
theorem up8_8(f:Nf)(i:Nat)(hi:i<8):up8 f i=f i:=by
 match i,hi with
 |0,_=>rfl
 |1,_=>rfl
 |2,_=>rfl
 |3,_=>rfl
 |4,_=>rfl
 |5,_=>rfl
 |6,_=>rfl
 |7,_=>rfl
theorem times_dg(x y:Nat)(f g:Nf)(hf:∀ i,i<8->f i=dg x i)(hg:∀ i,i<4->g i=dg y i)(hx:x<65536^8)(hy:y<65536^4)(w:World):
  Calls Tryz.prog 242 #[.agg (qa 8 f),.agg (qa 4 g)] w fun e w'=>e=.returned (.agg (qa 12 (dg (x*y))))/\Below w.heap.size w w':=by
 have e1:dv 8 f=x:=by rw[dv_congr 8 hf,dv_dg,Nat.mod_eq_of_lt hx]
 have e2:dv 4 g=y:=by rw[dv_congr 4 hg,dv_dg,Nat.mod_eq_of_lt hy]
 have h:=times_any f g (fun j hj=>by rw[hf j hj];exact dg_lt _ _) (fun j hj=>by rw[hg j hj];exact dg_lt _ _) w
 rw[e1,e2] at h;exact h
theorem plc_dg(n p:Nat)(hn:n<65536)(hp:p<12):qa 12 (updA (fun _=>0) p n)=qa 12 (dg (n*65536^p)):=qa_ext fun i hi=>by
 unfold updA dg
 by_cases h:i=p
 ·subst h
  rw[if_pos rfl,Nat.mul_div_cancel _ (Nat.pow_pos (by omega)),Nat.mod_eq_of_lt hn]
 ·rw[if_neg h]
  by_cases h2:i<p
  ·rw[show 65536^p=65536^i*(65536*65536^(p-i-1)) by rw[<-Nat.pow_succ',<-Nat.pow_add];congr 1;omega,
    Nat.mul_left_comm,Nat.mul_div_cancel_left _ (Nat.pow_pos (by omega)),Nat.mul_left_comm,Nat.mul_mod_right]
  ·rw[Nat.div_eq_of_lt,Nat.zero_mod]
   rw[show 65536^i=65536*65536^(i-p-1)*65536^p by rw[<-Nat.pow_succ',<-Nat.pow_add];congr 1;omega]
   refine Nat.mul_lt_mul_of_pos_right ?_ (Nat.pow_pos (by omega))
   exact Nat.lt_of_lt_of_le hn (Nat.le_mul_of_pos_right _ (Nat.pow_pos (by omega)))
theorem sq_lt(x:Nat)(h:x<65536^4):x*x<65536^8:=by
 rw[show 65536^8=65536^4*65536^4 from rfl]
 exact Nat.mul_lt_mul'' h h
theorem cb_lt(x:Nat)(h:x<65536^4):x*x*x<65536^12:=by
 rw[show 65536^12=65536^8*65536^4 from rfl]
 exact Nat.mul_lt_mul'' (sq_lt x h) h
theorem ovr_f(x n:Nat):ovr x n false=decide (n*18446744073709551616<x*x):=by simp[ovr,plc,pw]
theorem ovr_t(x n:Nat):ovr x n true=decide (n*79228162514264337593543950336<x*x*x):=by simp[ovr,plc,pw]
theorem dN0(w:World):w=w.drewN 0:=rfl
theorem cmp_start(X Y:Nat)(hX:X<65536^12)(hY:Y<65536^12):X / 65536^12=Y / 65536^12:=by rw[Nat.div_eq_of_lt hX,Nat.div_eq_of_lt hY]
theorem above_any(x n:Nat)(th:Bool)(hx:x<18446744073709551616)(hn:n<65536)(w:World):
  Calls Tryz.prog 209 #[.int .u64 x,.int .u64 n,.bool th] w fun e w'=>e=.returned (.bool (ovr x n th))/\Below w.heap.size w w':=by
 have hx4:x<65536^4:=hx;have HX4:=Lib.hid hx4;have e0:(x:Int) % 65536=((dg x 0:Nat):Int):=by unfold dg;rw[Nat.pow_zero,Nat.div_one];omega
 have e1:(x:Int) / 65536 % 65536=((dg x 1:Nat):Int):=by unfold dg;rw[show 65536^1=65536 from rfl];omega
 have e2:(x:Int) / 4294967296 % 65536=((dg x 2:Nat):Int):=by unfold dg;rw[show 65536^2=4294967296 from rfl];omega
 have e3:(x:Int) / 281474976710656=((dg x 3:Nat):Int):=by unfold dg;rw[show 65536^3=281474976710656 from rfl];omega
 have hq4:qa 4 (updA (updA (updA (updA (fun _=>0) 0 (dg x 0)) 1 (dg x 1)) 2 (dg x 2)) 3 (dg x 3))=qa 4 (dg x):=qa_ext fun i hi=>up4_8 x hx4 i (by omega)
 clear hx4;go_enter Tryz.func209,Tryz.ntmps209;go_wp2_with fail;refine (times_dg x x (up4 (dg x)) (dg x) (fun i hi=>up4_8 x HX4.out i hi) (fun _ _=>rfl) (Nat.lt_of_lt_of_le HX4.out (by decide)) HX4.out _).mono ?_
 rintro e w1 ⟨rfl,hb1⟩;have r4:=zD hb1 (b:=w.heap.size) (c:=qa 4 (dg x)) (by simp[go_sem])
 have B1:=Lib.hid (onto ((Below.refl w.heap.size w).alloc (by simp) (.cells (qa 4 (dg x)) 305)) (by simp) hb1)
 have s1:w.heap.size+1<=w1.heap.size:=by have:=hb1.size;simpa using this
 clear hb1 hq4 e0 e1 e2 e3;have q8:row (w1.alloc (.cells (qa 12 (dg (x*x))) 306)) w1.heap.size=some (qa 12 (dg (x*x))):=zA _ _ _ _ rfl;have q4:=zN r4 (.cells (qa 12 (dg (x*x))) 306);have B2:=Lib.hid (B1.out.alloc (by omega) (.cells (qa 12 (dg (x*x))) 306))
 have Q8:=Lib.hid q8;have Q4:=Lib.hid q4;clear q8 q4 r4;cases th
 ·have hpl:qa 12 (updA (fun _=>0) 4 n)=qa 12 (dg (n*18446744073709551616)):=plc_dg n 4 hn (by omega)
  go_wp2_with fail;have hs2:=Lib.hid (show (w1.alloc (.cells (qa 12 (dg (x*x))) 306)).heap.size=w1.heap.size+1 by simp)
  obtain ⟨p,hp⟩:∃ p,p=w1.heap.size:=⟨_,rfl⟩;rw[<-hp] at Q8 hs2 ⊢;obtain ⟨w2,hw2⟩:∃ w2,w2=w1.alloc (.cells (qa 12 (dg (x*x))) 306):=⟨_,rfl⟩;rw[<-hw2] at Q8 Q4 B2 hs2 ⊢;clear hw2 hp;have r8:=zN Q8.out (.cells (qa 12 (dg (n*18446744073709551616))) 306);have r7:row (w2.alloc (.cells (qa 12 (dg (n*18446744073709551616))) 306)) (p+1)=some (qa 12 (dg (n*18446744073709551616))):=zA _ _ _ _ hs2.out.symm;have B5:=Lib.hid (B2.out.alloc (by exact B2.out.size) (.cells (qa 12 (dg (n*18446744073709551616))) 306))
  obtain ⟨w5,hw5⟩:∃ w5,w5=w2.alloc (.cells (qa 12 (dg (n*18446744073709551616))) 306):=⟨_,rfl⟩;rw[<-hw5] at r8 r7 B5 ⊢;clear hw5;have R8:=Lib.hid r8;have R7:=Lib.hid r7;have hY:n*18446744073709551616<65536^12:=Nat.lt_of_lt_of_le (Nat.mul_lt_mul_of_pos_right hn (by decide)) (by decide)
  obtain ⟨X,hX⟩:∃ X,X=x*x:=⟨_,rfl⟩;obtain ⟨Y,hYY⟩:∃ Y,Y=n*18446744073709551616:=⟨_,rfl⟩;rw[<-hX] at R8;rw[<-hYY] at R7 hY;have HXY:=Lib.hid (show decide (Y<X)=ovr x n false by rw[hX,hYY,ovr_f])
  have HS:=Lib.hid (cmp_start X Y (by rw[hX];exact (Nat.lt_of_lt_of_le (sq_lt x HX4.out) (by decide))) hY)
  clear hX hYY r7 r8 hs2 Q8 Q4 B2;go_loopw [11] (fun iv wr=>∃ k m:Nat,k<=12/\iv=.int .i64 ((k:Int)-1)/\X / 65536^k=Y / 65536^k/\wr=w5.drewN m) (fun iv _=>(intOf iv+1).toNat)
  case atStart=>exact ⟨12,0,by omega,rfl,HS.out,dN0 _⟩
  case round=>
   clear HS;obtain ⟨k,m,hk,rfl,hE,rfl⟩:=hrel;have HE:=Lib.hid hE;clear hE;rcases k with _|i
   ·have hd:decide ((0:Int)<=((0:Nat):Int)-1)=false:=by decide
    have HF:=Lib.hid (show decide (Y<X)=false by
     have:=HE.out;rw[Nat.pow_zero,Nat.div_one,Nat.div_one] at this
     rw[decide_eq_false_iff_not];omega)
    go_wp2_with fail;go_ret;refine ⟨?_,zQ B5.out _⟩;rw[<-HXY.out,HF.out];rfl
   ·rw[show ((i+1:Nat):Int)-1=(i:Int) by omega]
    have hd:decide ((0:Int)<=(i:Int))=true:=by simp
    have hi:i<12:=by omega
    have HC:=Lib.hid (dg_cmp X Y i HE.out);have r7:w5.cell? ⟨p+1,i,none⟩=some (.int .u64 ((dg Y i:Nat):Int)):=by rw[zC R7.out,qa_get _ _ _ hi]
    have r8:w5.cell? ⟨p,i,none⟩=some (.int .u64 ((dg X i:Nat):Int)):=by rw[zC R8.out,qa_get _ _ _ hi]
    by_cases hne:dg X i=dg Y i
    ·have HN:=Lib.hid (HC.out.1 hne)
     have hne2:((dg X i:Nat):Int)=((dg Y i:Nat):Int):=by rw[hne]
     clear hne;go_wp2_with fail;go_quiet (fail);go_wp2_with fail;go_roundw
     case rel=>exact ⟨i,m+nq,by omega,rfl,HN.out,rfl⟩
     case measure=>simp[intOf]
    ·have HN:=Lib.hid (HC.out.2 hne)
     have hne2:¬ ((dg X i:Nat):Int)=((dg Y i:Nat):Int):=by omega
     clear hne;go_wp2_with fail;go_quiet (fail);go_wp2_with fail;go_quiet (fail);go_wp2_with fail;go_ret;refine ⟨?_,zQ (zQ (zQ B5.out _) _) _⟩;rw[<-HXY.out,<-HN.out];rfl
 ·have hpl:qa 12 (updA (fun _=>0) 6 n)=qa 12 (dg (n*79228162514264337593543950336)):=plc_dg n 6 hn (by omega)
  have q4:=Q4.out;have hs3:w.heap.size<w1.heap.size:=by omega
  go_wp2_with fail;refine (times_dg (x*x) x (up8 (dg (x*x))) (dg x) (fun i hi=>up8_8 _ i hi) (fun _ _=>rfl) (sq_lt x HX4.out) HX4.out _).mono ?_
  rintro e w3 ⟨rfl,hb3⟩;have r3:=zD hb3 Q8.out;have B3:=Lib.hid (onto B2.out (by simp;omega) hb3)
  have hlt3:=zK r3;clear hb3 Q8 q4 Q4 hs3;obtain ⟨p,hp⟩:∃ p,p=w1.heap.size:=⟨_,rfl⟩;rw[<-hp] at r3 hlt3 s1 ⊢;clear hp B1 B2;go_wp2_with fail;have r8:=zN (zE r3 (qa 12 (dg (x*x*x)))) (.cells (qa 12 (dg (n*79228162514264337593543950336))) 306);have r7:row ((w3.setRow p (qa 12 (dg (x*x*x)))).alloc (.cells (qa 12 (dg (n*79228162514264337593543950336))) 306)) w3.heap.size=some (qa 12 (dg (n*79228162514264337593543950336))):=zA _ _ _ _ (by simp)
  have B5:=Lib.hid ((zG B3.out (by omega:w.heap.size<=p) (qa 12 (dg (x*x*x)))).alloc (by simp;omega) (.cells (qa 12 (dg (n*79228162514264337593543950336))) 306))
  obtain ⟨q,hqq⟩:∃ q,q=w3.heap.size:=⟨_,rfl⟩;rw[<-hqq] at r7 ⊢;obtain ⟨w5,hw5⟩:∃ w5,w5=(w3.setRow p (qa 12 (dg (x*x*x)))).alloc (.cells (qa 12 (dg (n*79228162514264337593543950336))) 306):=⟨_,rfl⟩;rw[<-hw5] at r8 r7 B5 ⊢;clear hw5 hqq hlt3;have R8:=Lib.hid r8;have R7:=Lib.hid r7;have hY:n*79228162514264337593543950336<65536^12:=Nat.lt_of_lt_of_le (Nat.mul_lt_mul_of_pos_right hn (by decide)) (by decide)
  obtain ⟨X,hX⟩:∃ X,X=x*x*x:=⟨_,rfl⟩;obtain ⟨Y,hYY⟩:∃ Y,Y=n*79228162514264337593543950336:=⟨_,rfl⟩;rw[<-hX] at R8;rw[<-hYY] at R7 hY;have HXY:=Lib.hid (show decide (Y<X)=ovr x n true by rw[hX,hYY,ovr_t])
  have HS:=Lib.hid (cmp_start X Y (by rw[hX];exact cb_lt x HX4.out) hY)
  clear hX hYY r7 r8 r3 B3;go_loopw [11] (fun iv wr=>∃ k m:Nat,k<=12/\iv=.int .i64 ((k:Int)-1)/\X / 65536^k=Y / 65536^k/\wr=w5.drewN m) (fun iv _=>(intOf iv+1).toNat)
  case atStart=>exact ⟨12,0,by omega,rfl,HS.out,dN0 _⟩
  case round=>
   clear HS;obtain ⟨k,m,hk,rfl,hE,rfl⟩:=hrel;have HE:=Lib.hid hE;clear hE;rcases k with _|i
   ·have hd:decide ((0:Int)<=((0:Nat):Int)-1)=false:=by decide
    have HF:=Lib.hid (show decide (Y<X)=false by
     have:=HE.out;rw[Nat.pow_zero,Nat.div_one,Nat.div_one] at this
     rw[decide_eq_false_iff_not];omega)
    go_wp2_with fail;go_ret;refine ⟨?_,zQ B5.out _⟩;rw[<-HXY.out,HF.out];rfl
   ·rw[show ((i+1:Nat):Int)-1=(i:Int) by omega]
    have hd:decide ((0:Int)<=(i:Int))=true:=by simp
    have hi:i<12:=by omega
    have HC:=Lib.hid (dg_cmp X Y i HE.out);have r7:w5.cell? ⟨q,i,none⟩=some (.int .u64 ((dg Y i:Nat):Int)):=by rw[zC R7.out,qa_get _ _ _ hi]
    have r8:w5.cell? ⟨p,i,none⟩=some (.int .u64 ((dg X i:Nat):Int)):=by rw[zC R8.out,qa_get _ _ _ hi]
    by_cases hne:dg X i=dg Y i
    ·have HN:=Lib.hid (HC.out.1 hne)
     have hne2:((dg X i:Nat):Int)=((dg Y i:Nat):Int):=by rw[hne]
     clear hne;go_wp2_with fail;go_quiet (fail);go_wp2_with fail;go_roundw
     case rel=>exact ⟨i,m+nq,by omega,rfl,HN.out,rfl⟩
     case measure=>simp[intOf]
    ·have HN:=Lib.hid (HC.out.2 hne)
     have hne2:¬ ((dg X i:Nat):Int)=((dg Y i:Nat):Int):=by omega
     clear hne;go_wp2_with fail;go_quiet (fail);go_wp2_with fail;go_quiet (fail);go_wp2_with fail;go_ret;refine ⟨?_,zQ (zQ (zQ B5.out _) _) _⟩;rw[<-HXY.out,<-HN.out];rfl
theorem M_of32(r:Nat):(r:Int) % 4294967296=M (BitVec.ofNat 32 r):=by unfold M;rw[BitVec.toNat_ofNat];omega
theorem rtg_step(n:Nat)(th:Bool)(k r P x:Nat)(hP:P=2^k)(hx:x=r+P):rtg n th (k+1) r=if ovr x n th then rtg n th k r else rtg n th k x:=by
 subst hP;subst hx;rfl
theorem root_any(n:Nat)(th:Bool)(hn:n<65536)(w:World):
  Calls Tryz.prog 173 #[.int .u64 n,.bool th] w fun e w'=>e=.returned (.int .u32 (M (BitVec.ofNat 32 (rtg n th 37 0))))/\Below w.heap.size w w':=by
 go_enter Tryz.func173,Tryz.ntmps173;go_wp2_with fail;go_loopw [5,6,7] (fun rv iv _ wr=>∃ k r:Nat,k<=37/\iv=.int .i64 ((k:Int)-1)/\rv=.int .u64 r/\rtg n th k r=rtg n th 37 0/\r+2^k<=137438953472/\Below w.heap.size w wr) (fun _ iv _ _=>(intOf iv+1).toNat)
 case atStart=>exact ⟨37,0,by omega,rfl,rfl,rfl,by decide,Below.refl _ _⟩
 case round=>
  obtain ⟨k,r,hk,rfl,rfl,hR,hb,hB⟩:=hrel;have HR:=Lib.hid hR;have HB:=Lib.hid hB;clear hR hB;obtain ⟨wo,rfl⟩:∃ wo:World,wo=wr:=⟨_,rfl⟩;rcases k with _|i
  ·have hd:decide ((0:Int)<=((0:Nat):Int)-1)=false:=by decide
   have hm:=M_of32 r;have HV:=Lib.hid (show r=rtg n th 37 0 from HR.out)
   clear hb;go_wp2_with fail;go_ret;exact ⟨by rw[<-HV.out];rfl,HB.out⟩
  ·rw[show ((i+1:Nat):Int)-1=(i:Int) by omega]
   have hd:decide ((0:Int)<=(i:Int))=true:=by simp
   obtain ⟨P,hP⟩:∃ P,P=2^i:=⟨_,rfl⟩;have hb2:r+P+P<=137438953472:=by rw[Nat.pow_succ,<-hP] at hb;omega
   have hP2:(2:Int)^i=(P:Int):=by rw[hP,Int.natCast_pow];rfl
   obtain ⟨x,hx⟩:∃ x,x=r+P:=⟨_,rfl⟩;have hx2:(r:Int)+(P:Int)=(x:Int):=by omega
   have hxb:x+P<=137438953472:=by omega
   have HS:=Lib.hid (rtg_step n th i r P x hP hx);have HP:=Lib.hid hP;have HX:=Lib.hid hx;clear hP hx hb;cases ho:ovr x n th
   all_goals
    go_wp2_with fail;refine (above_any x n th (by omega) hn _).mono ?_
    rintro e w1 ⟨rfl,hb1⟩;have B1:=Lib.hid (onto HB.out HB.out.size hb1);clear hb1;have HO:=Lib.hid ho;go_wp2_with fail;go_roundw
    case rel=>exact ⟨i,_,by omega,rfl,rfl,by rw[<-HR.out,HS.out,HO.out];rfl,by rw[<-HP.out];omega,B1.out⟩
    case measure=>simp[intOf]
theorem u64s_u:Tryz.prog.underlying 250=some (.slice 253):=by kernel_rfl
theorem u64_info:(Tryz.prog.info? 253).map (fun i=>(i.zero,i.size,i.bytes))=some (some (.int .u64 0),1,8):=by kernel_rfl
theorem u32s_u:Tryz.prog.underlying 134=some (.slice 135):=by kernel_rfl
theorem u32_info:(Tryz.prog.info? 135).map (fun i=>(i.zero,i.size,i.bytes))=some (some (.int .u32 0),1,4):=by kernel_rfl
def vN(l:List Nat):List Value:=l.map fun p:Nat=> .int .u64 (p:Int)
theorem nth_vN(l:List Nat)(i:Nat)(h:i<l.length):nth (vN l) i=.int .u64 ((l.getD i 0:Nat):Int):=by
 unfold nth vN;simp[h]
theorem prl_two:∀ j,∀ p∈prl j,2<=p:=by
 intro j
 induction j with
 |zero=>intro p hp;simp[prl] at hp
 |succ j ih=>
  intro p hp;simp only[prl] at hp
  split at hp
  ·rcases List.mem_append.1 hp with h|h
   ·exact ih p h
   ·have:p=j+2:=by simpa using h
    omega
  ·exact ih p hp
def prm(l:List Nat)(n i:Nat):Bool:=(l.take i).all fun p=>n % p !=0
theorem prm_step(l:List Nat)(n i:Nat)(h:i<l.length):prm l n (i+1)=(prm l n i&&n % l.getD i 0 !=0):=by
 unfold prm;rw[List.take_succ_eq_append_getElem h,List.all_append];simp[h]
theorem prm_all(l:List Nat)(n:Nat):prm l n l.length=l.all fun p=>n % p !=0:=by unfold prm;rw[List.take_length]
theorem prl_y(j:Nat)(h:prm (prl j) (j+2) (prl j).length=true):prl (j+1)=prl j++[j+2]:=by
 rw[prm_all] at h;simp only[prl];rw[if_pos h]
theorem prl_n(j:Nat)(h:prm (prl j) (j+2) (prl j).length=false):prl (j+1)=prl j:=by
 rw[prm_all] at h;simp only[prl];rw[if_neg (by rw[h];simp)]
theorem vN_app(l:List Nat)(n:Nat):vN (l++[n])=vN l++[.int .u64 (n:Int)]:=by unfold vN;simp
theorem bne_mod(N p:Nat):((N:Int) % (p:Int) !=0)=(N % p !=0):=by
 rw[<-Int.natCast_emod,Bool.eq_iff_iff];simp;omega
theorem primes_any(many J:Nat)(hJ:J<=400)(hm:many<=100)(hiff:∀ j,j<=J->((prl j).length<many↔j<J))(hl:(prl J).length=many)(h0:0<many)(w:World):
  Calls Tryz.prog 172 #[.int .i64 many] w fun e w'=>∃ g c cur,e=.returned (.slice (some ⟨g,0,none⟩) many c)/\w.heap.size<=g/\row w' g=some cur/\(∀ i,i<many->cur[i]? =some (.int .u64 (((prl J).getD i 0:Nat):Int)))/\Below w.heap.size w w':=by
 have HIF:=Lib.hid hiff;have HL:=Lib.hid hl;clear hiff hl;go_enter Tryz.func172,Tryz.ntmps172;go_wp2_with fail;go_loopw [3,4,5,6] (fun lv nv _ _ wr=>∃ j:Nat,j<=J/\nv=.int .u64 ((j+2:Nat):Int)/\wr.ownsRow w.heap.size 253 1 lv (prl j).length (vN (prl j))/\Below w.heap.size w wr) (fun _ nv _ _ _=>500-(intOf nv).toNat)
 case atStart=>exact ⟨0,by omega,rfl,(World.ownsRow_nil w w.heap.size 253 1:w.ownsRow w.heap.size 253 1 (.slice none 0 0) 0 []),Below.refl _ _⟩
 case round=>
  obtain ⟨j,hj,rfl,hO,hB⟩:=hrel;obtain ⟨wo,rfl⟩:∃ wo:World,wo=wr:=⟨_,rfl⟩;obtain ⟨A,c,hlv,hsl,-,hA⟩:=ownsRow_slG hO;subst hlv;have HO:=Lib.hid hO;have HB:=Lib.hid hB;have HSL:=Lib.hid hsl;obtain ⟨q,hq⟩:∃ q,q=(prl j).length:=⟨_,rfl⟩;obtain ⟨N,hN⟩:∃ N,N=j+2:=⟨_,rfl⟩;rw[<-hN];rw[<-hq] at HO HSL ⊢;have HQ:=Lib.hid hq;have HN:=Lib.hid hN;have hNb:N<=402:=by omega
  have hq2:q<many↔j<J:=by rw[hq];exact HIF.out j hj
  clear hO hB hsl hA hq hN
  by_cases hlt:q<many
  ·have hd:decide ((q:Int)<(many:Int))=true:=by simp;omega
   have hjJ:j<J:=hq2.1 hlt;clear hq2;go_wp2_with fail;go_loopw [5,6] (fun pv iv wq=>∃ i:Nat,i<=q/\iv=.int .i64 i/\pv=.bool (prm (prl j) N i)/\wq=wo) (fun _ iv _=>q-(intOf iv).toNat)
   case atStart=>exact ⟨0,by omega,rfl,rfl,rfl⟩
   case round=>
    obtain ⟨i,hi,rfl,rfl,rfl⟩:=hrel
    by_cases hli:i<q
    ·have hdi:decide ((i:Int)<(q:Int))=true:=by simp;omega
     obtain ⟨g,o,hA,hg,hcell⟩:=HSL.out.at_ (by omega)
     subst hA;have hc:=hcell i hli;have hi2:i<(prl j).length:=by rw[<-HQ.out];exact hli
     rw[nth_vN _ _ hi2] at hc;have hst:=prm_step (prl j) N i hi2;have hp2:2<=(prl j).getD i 0:=prl_two j _ (by rw[List.getD_eq_getElem?_getD,List.getElem?_eq_getElem hi2];exact List.getElem_mem hi2)
     obtain ⟨p,hp⟩:∃ p,p=(prl j).getD i 0:=⟨_,rfl⟩;rw[<-hp] at hc hst hp2;have HST:=Lib.hid hst;clear hcell hst hp hi2 hg;cases hpr:prm (prl j) N i
     ·have HPR:=Lib.hid hpr
      clear hpr;go_wp2_with fail;go_roundw
      case rel=>exact ⟨i+1,by omega,by go_num,by rw[HST.out,HPR.out];rfl,trivial⟩
      case measure=>simp[intOf];omega
     ·have HPR:=Lib.hid hpr
      clear hpr;go_wp2_with fail;go_roundw
      case rel=>exact ⟨i+1,by omega,by go_num,by rw[HST.out,HPR.out,Bool.true_and,bne_mod],trivial⟩
      case measure=>simp[intOf];omega
    ·obtain rfl:i=q:=by omega
     cases hpr:prm (prl j) N i
     ·have HV:=Lib.hid (prl_n j (by rw[<-HQ.out,<-HN.out];exact hpr))
      have HPR:=Lib.hid hpr;clear hpr;go_wp2_with fail;go_roundw
      case rel=>exact ⟨j+1,by omega,by congr 1;have:=HN.out;omega,by rw[HV.out,<-HQ.out];exact HO.out,HB.out⟩
      case measure=>simp[intOf];omega
     ·have HV:=Lib.hid (prl_y j (by rw[<-HQ.out,<-HN.out];exact hpr))
      have HPR:=Lib.hid hpr;clear hpr;go_wp2_with (at_builtin;refine wpl_appOne rfl (.tmp 30) (.tmp 32) rfl u64s_u u64_info rfl (by decide) HO.out rfl (by omega) HB.out.size rfl rfl ?_;intro v' w2 ho hg)
      have B2:=Lib.hid (ownsRow_after (HO.out.alloc (.cells #[.int .u64 (N:Int)] 253)) hg (HB.out.alloc HB.out.size _) (by have:=HB.out.size;simp;omega) (Nat.le_refl _))
      have HO2:=Lib.hid ho;clear ho hg;go_wp2_with fail;go_roundw
      case rel=>exact ⟨j+1,by omega,by congr 1;have:=HN.out;omega,by rw[HV.out,List.length_append,<-HQ.out,<-HN.out,vN_app];exact HO2.out,B2.out⟩
      case measure=>simp[intOf];omega
  ·have hd:decide ((q:Int)<(many:Int))=false:=by simp;omega
   obtain rfl:j=J:=by omega
   obtain rfl:q=many:=by rw[HQ.out];exact HL.out
   obtain ⟨g,c',cur,hv,hg,-,hr,hcu⟩:=ownsRow_row HO.out h0;obtain ⟨rfl,rfl⟩:A=some ⟨g,0,none⟩/\c=c':=by injection hv with e1 e2 e3;exact ⟨e1,e3⟩
   have HC:=Lib.hid hcu;clear hcu hr hv;go_wp2_with fail;go_ret;obtain ⟨g',c'',cur',hv,hg,-,hr,hcu⟩:=ownsRow_row HO.out h0;obtain rfl:g=g':=by injection hv with e1 e2 e3;injection e1 with e1;injection e1
   exact ⟨g,c,cur',rfl,hg,hr,fun i hi=>by rw[hcu i hi,nth_vN _ _ (by rw[HL.out];exact hi)],HB.out⟩
theorem prl_310:∀ j,j<=310->((prl j).length<64↔j<310):=by decide+kernel
theorem prl_18:∀ j,j<=18->((prl j).length<8↔j<18):=by decide+kernel
theorem prl_64:(prl 310).length=64:=by decide+kernel
theorem prl_8:(prl 18).length=8:=by decide+kernel
theorem prl_small:∀ i,i<64->(prl 310).getD i 0<65536:=by decide+kernel
theorem prl_small8:∀ i,i<8->(prl 18).getD i 0<65536:=by decide+kernel
theorem thirds_ok:∀ i,i<64->BitVec.ofNat 32 (rtg ((prl 310).getD i 0) true 37 0)=kF i:=by decide+kernel
theorem seconds_ok:∀ i,i<8->BitVec.ofNat 32 (rtg ((prl 18).getD i 0) false 37 0)=iF i:=by decide+kernel
def vK(i:Nat):List Value:=(List.range i).map fun t=> .int .u32 (M (kF t))
theorem vK_app(i:Nat):vK (i+1)=vK i++[.int .u32 (M (kF i))]:=by unfold vK;rw[List.range_succ,List.map_append];rfl
theorem nth_vK(n i:Nat)(h:i<n):nth (vK n) i=.int .u32 (M (kF i)):=by unfold nth vK;simp[h]
def kV:Nat->Value:=fun i=> .int .u32 (M (kF i))
theorem thirds_any(w:World):
  Calls Tryz.prog 126 #[] w fun e w'=>∃ g c cur,e=.returned (.slice (some ⟨g,0,none⟩) 64 c)/\w.heap.size<=g/\64<=c/\row w' g=some cur/\(∀ i,i<64->cur[i]? =some (kV i))/\Below w.heap.size w w':=by
 go_enter Tryz.func126,Tryz.ntmps126;go_wp2_with fail;refine (primes_any 64 310 (by omega) (by omega) prl_310 prl_64 (by omega) _).mono ?_
 rintro e w1 ⟨g,c,cur,rfl,hg,hr,hcu,hb1⟩;have HR:=Lib.hid hr;have HCU:=Lib.hid hcu;have HB1:=Lib.hid hb1;clear hr hcu hb1 hg;go_wp2_with fail;go_loopw [1,3] (fun kv iv wr=>∃ i:Nat,i<=64/\iv=.int .i64 i/\wr.ownsRow w1.heap.size 135 1 kv i (vK i)/\Below w1.heap.size w1 wr) (fun _ iv _=>64-(intOf iv).toNat)
 case atStart=>exact ⟨0,by omega,rfl,World.ownsRow_nil w1 w1.heap.size 135 1,Below.refl _ _⟩
 case round=>
  obtain ⟨i,hi,rfl,hO,hB⟩:=hrel;obtain ⟨wo,rfl⟩:∃ wo:World,wo=wr:=⟨_,rfl⟩;have HO:=Lib.hid hO;have HB:=Lib.hid hB
  by_cases hlt:i<64
  ·have hd:decide ((i:Int)<64)=true:=by simp;omega
   have hc:wo.cell? ⟨g,i,none⟩=some (.int .u64 (((prl 310).getD i 0:Nat):Int)):=by rw[zC (zD hB HR.out),HCU.out i hlt]
   obtain ⟨p,hp⟩:∃ p,p=(prl 310).getD i 0:=⟨_,rfl⟩;have hps:=prl_small i hlt;have hk:=thirds_ok i hlt;rw[<-hp] at hc hps hk;have HK:=Lib.hid hk;clear hO hB hk hp;go_wp2_with fail;refine (root_any p true hps _).mono ?_;rintro e w2 ⟨rfl,hb2⟩;have HB2:=Lib.hid (onto HB.out HB.out.size hb2);have HO2:=Lib.hid (ownsRow_below HO.out hb2 (Nat.le_refl _));rw[show M (BitVec.ofNat 32 (rtg p true 37 0))=M (kF i) by rw[HK.out]]
   clear hb2 hc;go_wp2_with (at_builtin;refine wpl_appOne rfl (.tmp 9) (.tmp 15) rfl u32s_u u32_info rfl (by decide) HO2.out rfl (by omega) HB2.out.size rfl rfl ?_;intro v' w3 ho hg3)
   have B3:=Lib.hid (ownsRow_after (HO2.out.alloc (.cells #[.int .u32 (M (kF i))] 135)) hg3 (HB2.out.alloc HB2.out.size _) (by have:=HB2.out.size;simp;omega) (Nat.le_refl _))
   have HO3:=Lib.hid ho;clear ho hg3;go_wp2_with fail;go_roundw
   case rel=>exact ⟨i+1,by omega,by go_num,by rw[vK_app];exact HO3.out,B3.out⟩
   case measure=>simp[intOf];omega
  ·obtain rfl:i=64:=by omega
   obtain ⟨g',c',cur',hkv,hg',hc',hr',hcu'⟩:=ownsRow_row HO.out (by omega)
   subst hkv;have HG:=Lib.hid hg';have HR':=Lib.hid hr';have HCU':=Lib.hid hcu';clear hO hB hr' hcu' hg';go_wp2_with fail;go_ret;exact ⟨g',c',cur',rfl,by have:=HB1.out.size;have:=HG.out;omega,hc',HR'.out,fun i hi=>by rw[HCU'.out i hi];exact congrArg some (nth_vK 64 i hi),onto HB1.out HB1.out.size HB.out⟩
structure SeInv(w:World)(g:Nat)(cur:Array Value)(i:Nat)(wr:World):Prop where
 below:Below w.heap.size w wr
 r0:row wr w.heap.size=some (wa 8 fun _=>0#32)
 r1:row wr (w.heap.size+1)=some (wa 8 (uptoA i iF fun _=>0#32))
 rl:row wr g=some cur
theorem SeInv.call{w:World}{g i:Nat}{cur:Array Value}{wr w':World}(h:SeInv w g cur i wr)(hb:Below wr.heap.size wr w'):SeInv w g cur i w':=
 ⟨onto h.below (by have:=zK h.r1;omega) hb,zD hb h.r0,zD hb h.r1,zD hb h.rl⟩
theorem SeInv.set{w:World}{g i:Nat}{cur:Array Value}{wr:World}(h:SeInv w g cur i wr)(hg:w.heap.size+2<=g):SeInv w g cur (i+1) (wr.setCell ⟨w.heap.size+1,i,none⟩ (.int .u32 (M (iF i)))):=
 ⟨h.below.setCell (by simp) _,by rw[zX _ _ _ _ (by simp)];exact h.r0,by rw[row_setCellW h.r1,uptoA_step],by rw[zX _ _ _ _ (by simp;omega)];exact h.rl⟩
theorem seconds_any(w:World):
  Calls Tryz.prog 127 #[] w fun e w'=>e=.returned (.agg (wa 8 iF))/\Below w.heap.size w w':=by
 have B0:=Lib.hid (((Below.refl w.heap.size w).alloc (by simp) (.cells (wa 8 fun _=>0#32) 136)).alloc (by simp) (.cells (wa 8 fun _=>0#32) 136))
 have q0:row ((w.alloc (.cells (wa 8 fun _=>0#32) 136)).alloc (.cells (wa 8 fun _=>0#32) 136)) w.heap.size=some (wa 8 fun _=>0#32):=by simp[go_sem]
 have q1:row ((w.alloc (.cells (wa 8 fun _=>0#32) 136)).alloc (.cells (wa 8 fun _=>0#32) 136)) (w.heap.size+1)=some (wa 8 fun _=>0#32):=by simp[go_sem]
 go_enter Tryz.func127,Tryz.ntmps127;go_wp2_with fail;refine (primes_any 8 18 (by omega) (by omega) prl_18 prl_8 (by omega) _).mono ?_
 rintro e w1 ⟨g,c,cur,rfl,hg,hr,hcu,hb1⟩;have r0:=zD hb1 q0;have r1:=zD hb1 q1;have B1:=onto B0.out (by simp;omega) hb1
 have hg2:w.heap.size+2<=g:=by simpa using hg
 have HI:=Lib.hid (show SeInv w g cur 0 w1 from ⟨B1,r0,by rw[uptoA_zero];exact r1,hr⟩)
 have HCU:=Lib.hid hcu;clear r0 r1 B1 hg hr hcu hb1 q0 q1 B0;go_wp2_with fail;go_loopw [3] (fun iv wr=>∃ i:Nat,i<=8/\iv=.int .i64 i/\SeInv w g cur i wr) (fun iv _=>8-(intOf iv).toNat)
 case atStart=>exact ⟨0,by omega,rfl,HI.out⟩
 case round=>
  clear HI;obtain ⟨i,hi,rfl,hI⟩:=hrel;obtain ⟨wo,rfl⟩:∃ wo:World,wo=wr:=⟨_,rfl⟩;have HI:=Lib.hid hI
  by_cases hlt:i<8
  ·have hd:decide ((i:Int)<8)=true:=by simp;omega
   have hc:wo.cell? ⟨g,i,none⟩=some (.int .u64 (((prl 18).getD i 0:Nat):Int)):=by rw[zC hI.rl,HCU.out i hlt]
   obtain ⟨p,hp⟩:∃ p,p=(prl 18).getD i 0:=⟨_,rfl⟩;have hps:=prl_small8 i hlt;have hk:=seconds_ok i hlt;rw[<-hp] at hc hps hk;have HK:=Lib.hid hk;clear hI hk hp;go_wp2_with fail;refine (root_any p false hps _).mono ?_;rintro e w2 ⟨rfl,hb2⟩;have I2:=HI.out.call hb2;have HI2:=Lib.hid I2;have hcl:=zC I2.r1 i;rw[wa_get _ _ _ hlt] at hcl;have hfz:=zJ I2.r1 i;rw[show M (BitVec.ofNat 32 (rtg p false 37 0))=M (iF i) by rw[HK.out]]
   clear hb2 hc I2 HI;go_wp2_with fail;go_roundw
   case rel=>exact ⟨i+1,by omega,by go_num,HI2.out.set hg2⟩
   case measure=>simp[intOf];omega
  ·obtain rfl:i=8:=by omega
   have r0:=hI.r0;have r1:=hI.r1;rw[show wa 8 (uptoA 8 iF fun _=>0#32)=wa 8 iF from wa_ext fun i hi=>by unfold uptoA;rw[if_pos hi]] at r1
   clear hI;go_wp2_with fail;refine bodyPost_ret (v:=.agg (wa 8 iF)) (zW rfl _ _ w.heap.size _ _ _ rfl (zE r0 _) s8_u (by rw[wa_size];exact s8_i)) rfl ⟨rfl,?_⟩
   exact zG HI.out.below (by omega) _
@[irreducible] def tbA(v:Value)(H:Wf):Array Value:=#[v]++wa 8 H
@[go_sem] theorem yW(v:Value)(H:Wf):(tbA v H).size=9:=by unfold tbA;rw[Array.size_append,wa_size];rfl
@[go_sem] theorem tb_ne(v:Value)(H:Wf):(tbA v H=#[])=False:=eq_false fun e=>by have:=congrArg Array.size e;rw[yW] at this;simp at this
theorem tb_ones{A:Option Addr}{n c:Nat}(H:Wf):Ones (tbA (.slice A n c) H):=by
 unfold Ones tbA;rw[Array.all_append,wa_one];simp[Value.oneCell']
@[go_sem] theorem ldR_tb(P:Program)(t:Nat)(w:World)(b:Nat)(v:Value)(H:Wf):ldR P t 9 w b 0 (some (tbA v H))=.ok (.agg (tbA v H)) w:=by
 unfold ldR;simp only[yW];rw[if_pos (by omega)]
 congr 2;rw[show 0+9=(tbA v H).size by rw[yW],Array.extract_size]
@[go_sem] theorem stR_tb(P:Program)(t:Nat)(w:World)(b:Nat)(A:Option Addr)(n c:Nat)(H:Wf)(v:Value)(H':Wf):stR P t 9 w b 0 (.agg (tbA (.slice A n c) H)) (some (tbA v H'))=.ok () (w.setRow b (tbA (.slice A n c) H)):=by
 have e:0+9<=(tbA v H').size/\(Value.agg (tbA (.slice A n c) H)).cells.size=9/\Ones (Value.agg (tbA (.slice A n c) H)).cells:=⟨by rw[yW];omega,yW _ _,tb_ones H⟩
 unfold stR;simp only[if_pos e];congr 2;apply Array.ext_getElem?;intro k;rw[yU _ _ _ _ (by simp[yW,Value.cells])]
 simp only[Value.cells,Array.length_toList,yW,Nat.zero_le,Nat.zero_add,true_and,Nat.sub_zero,Array.getElem?_toList]
 by_cases hk:k<9
 ·rw[if_pos hk]
 ·rw[if_neg hk,Array.getElem?_eq_none (by rw[yW];omega),Array.getElem?_eq_none (by rw[yW];omega)]
theorem tab_i:(Tryz.prog.info? 138).map (·.size)=some 9:=by kernel_rfl
@[go_sem ↓] theorem tab_l(p:Value):Instr.loadAt 138 p=ldA 138 p:=rfl
@[go_sem ↓] theorem tab_s(p v:Value):Instr.storeAt 138 p v=stA 138 p v:=rfl
theorem tab_u:∃ d,Tryz.prog.underlying 138=some d/\d.isRow=true:=by
 have h:(Tryz.prog.underlying 138).map TypeDesc.isRow=some true:=by kernel_rfl
 cases hq:Tryz.prog.underlying 138 with
 |none=>rw[hq] at h;cases h
 |some d=>rw[hq] at h;exact ⟨d,rfl,Option.some.inj h⟩
@[go_sem] theorem tab_st(w:World)(b o:Nat)(c:Array Value):(stA 138 (.pointer (some ⟨b,o,none⟩)) (.agg c)).run Tryz.prog w=stR Tryz.prog 138 9 w b o (.agg c) (row w b):=yR _ 9 tab_i w b o c
theorem tab_z:(Tryz.prog.info? 138).map (·.zero)=some (some (.agg (tbA (.slice none 0 0) fun _=>0#32))):=by unfold tbA wa;kernel_rfl
@[go_sem ↓] theorem tab_zero(w:World):(zeroValue 138).run Tryz.prog w=.ok (.agg (tbA (.slice none 0 0) fun _=>0#32)) w:=yG _ _ tab_z w
theorem tab_lit(A:Option Addr)(n c:Nat)(H:Wf):Array.foldl (fun cs x=>cs.setIfInBounds (1+x.2) x.1) ((tbA (.slice none 0 0) fun _=>0#32).setIfInBounds 0 (.slice A n c)) (wa 8 H).zipIdx 0 8=tbA (.slice A n c) H:=by
 unfold tbA wa;kernel_rfl
end Go.Proofs.YteffjpdcghlnlaaGreatDoor.Oct
namespace Go.Proofs.YteffjpdcghlnlaaGreatDoor.Oct
open Go.ChangeShapes Go.WideShapes Go.ChangeAt Go.RowKit
theorem sum_sl_at(B o:Nat)(w:World):(Instr.sliceAt 66 (.pointer (some ⟨B,o,none⟩)) none none none).run Tryz.prog w=.ok (.slice (some ⟨B,o,none⟩) 32 32) w:=by
 rw[run_sliceAt_array_all w 66 ⟨B,o,none⟩ (by kernel_rfl),sum_elem,u8_size,sum_len,Result.andThen_ok]
 rfl
theorem ones_1(v:Value)(h:v.oneCell'=true):Ones #[v]:=by simp[Ones,h]
@[irreducible] def srcC(R:Array Value)(k v:Bf)(c:Int):Array Value:=flt [ba 32 k,ba 32 v,#[.int .i64 c],R]
section
variable (R:Array Value) (k v:Bf) (c:Int)
@[go_sem] theorem src_size:(srcC R k v c).size=65+R.size:=by unfold srcC;rw[flt_size];simp[szs,zI];omega
theorem src_ones(hR:Ones R):Ones (srcC R k v c):=by
 unfold srcC;refine flt_ones _ fun x hx=>?_
 simp only[List.mem_cons,List.not_mem_nil,or_false] at hx;rcases hx with rfl|rfl|rfl|rfl
 ·exact ones_ba _ _
 ·exact ones_ba _ _
 ·exact ones_1 _ rfl
 ·exact hR
@[go_sem] theorem src_ldk(P:Program)(t:Nat)(w:World)(b:Nat):ldR P t 32 w b 0 (some (srcC R k v c))=.ok (.agg (ba 32 k)) w:=by
 unfold srcC;exact ldR_flt P t 32 w b [] _ _ rfl (by rw[zI])
@[go_sem] theorem src_ldv(P:Program)(t:Nat)(w:World)(b:Nat):ldR P t 32 w b 32 (some (srcC R k v c))=.ok (.agg (ba 32 v)) w:=by
 unfold srcC;exact ldR_flt P t 32 w b [ba 32 k] _ _ (by simp[szs,zI]) (by rw[zI])
@[go_sem] theorem src_lda(P:Program)(t:Nat)(w:World)(b:Nat):ldR P t 65 w b 0 (some (srcC #[] k v c))=.ok (.agg (srcC #[] k v c)) w:=xJ P t 65 w b _ (src_size #[] k v c).symm
@[go_sem] theorem src_stk(P:Program)(t:Nat)(w:World)(b:Nat)(g:Bf):stR P t 32 w b 0 (.agg (ba 32 g)) (some (srcC R k v c))=.ok () (w.setRow b (srcC R g v c)):=by
 unfold srcC;exact stR_flt P t 32 w b [] _ _ _ rfl (by rw[zI]) (by rw[zI,zI]) (ones_ba _ _)
@[go_sem] theorem src_stv(P:Program)(t:Nat)(w:World)(b:Nat)(g:Bf):stR P t 32 w b 32 (.agg (ba 32 g)) (some (srcC R k v c))=.ok () (w.setRow b (srcC R k g c)):=by
 unfold srcC;exact stR_flt P t 32 w b [ba 32 k] _ _ _ (by simp[szs,zI]) (by rw[zI]) (by rw[zI,zI]) (ones_ba _ _)
variable {R k v c}
variable {w:World} {B:Nat} (h:row w B=some (srcC R k v c))
include h
theorem src_cell:w.cell? ⟨B,64,none⟩=some (.int .i64 c):=by
 rw[zC h];unfold srcC;exact flt_get [ba 32 k,ba 32 v] [R] _ (o:=64) (j:=0) (by simp[szs,zI]) (by simp)
theorem src_cellk(i:Nat)(hi:i<32):w.cell? ⟨B,i,none⟩=some (.int .u8 (I (k i))):=by
 rw[zC h];unfold srcC;have e:=flt_get [] [ba 32 v,#[.int .i64 c],R] (ba 32 k) (o:=0) (j:=i) rfl (by rw[zI];exact hi)
 rw[Nat.zero_add] at e;exact e.trans (yA 32 k i hi)
theorem src_cellv(i:Nat)(hi:i<32):w.cell? ⟨B,32+i,none⟩=some (.int .u8 (I (v i))):=by
 rw[zC h];unfold srcC;exact (flt_get [ba 32 k] [#[.int .i64 c],R] (ba 32 v) (o:=32) (j:=i) (by simp[szs,zI]) (by rw[zI];exact hi)).trans (yA 32 v i hi)
theorem src_set(c':Int):w.setCell ⟨B,64,none⟩ (.int .i64 c')=w.setRow B (srcC R k v c'):=by
 rw[zL h];unfold srcC;exact congrArg (w.setRow B) (flt_set [ba 32 k,ba 32 v] [R] _ (o:=64) (j:=0) _ (by simp[szs,zI]) (by simp))
omit h in
theorem src_setv(i:Nat)(hi:i<32)(x:BitVec 8):(srcC R k v c).setIfInBounds (32+i) (.int .u8 (I x))=srcC R k (upd v i x) c:=by
 unfold srcC;rw[<-ba_set];exact flt_set [ba 32 k] [#[.int .i64 c],R] (ba 32 v) (o:=32) (j:=i) _ (by simp[szs,zI]) (by rw[zI];exact hi)
theorem src_slk(D:Nat)(hD:B<D):Sl w D (some ⟨B,0,none⟩) 32 32 k:=⟨Nat.le_refl _,fun _=>⟨B,0,rfl,hD,fun i hi=>by rw[Nat.zero_add];exact src_cellk h i hi⟩⟩
theorem src_slv(D:Nat)(hD:B<D):Sl w D (some ⟨B,32,none⟩) 32 32 v:=⟨Nat.le_refl _,fun _=>⟨B,32,rfl,hD,fun i hi=>src_cellv h i hi⟩⟩
end
theorem src_i:(Tryz.prog.info? 68).map (·.size)=some 65:=by kernel_rfl
@[go_sem ↓] theorem src_l(p:Value):Instr.loadAt 68 p=ldA 68 p:=rfl
@[go_sem ↓] theorem src_s(p v:Value):Instr.storeAt 68 p v=stA 68 p v:=rfl
theorem src_z:(Tryz.prog.info? 68).map (·.zero)=some (some (.agg (srcC #[] (fun _=>0#8) (fun _=>0#8) 0))):=by unfold srcC flt ba;kernel_rfl
@[go_sem ↓] theorem src_bd(yI:Array (Nat×Value)):Instr.build 68 yI=bdA 68 yI:=rfl
@[go_sem] theorem src_b0(w:World):(bdA 68 #[]).run Tryz.prog w=.ok (.agg (srcC #[] (fun _=>0#8) (fun _=>0#8) 0)) w:=
 run_lit _ _ _ _ [(0,32),(32,32),(64,1)] src_z (by kernel_rfl) rfl w
@[go_sem] theorem src_b3(k v:Bf)(c:Int)(w:World):(bdA 68 #[(0,.agg (ba 32 k)),(1,.agg (ba 32 v)),(2,.int .i64 c)]).run Tryz.prog w=.ok (.agg (srcC #[] k v c)) w:=by
 refine run_lit _ _ _ _ [(0,32),(32,32),(64,1)] src_z (by kernel_rfl) ?_ w
 unfold srcC
 exact (xH (pre:=[]) (o:=0) (m:=32) rfl rfl (by rw[zI]) (by rw[zI];exact zI _ _)).trans
  ((xH (pre:=[ba 32 k]) (o:=32) (m:=32) rfl (by simp[szs,zI]) (by rw[zI]) (by rw[zI];exact zI _ _)).trans
  (xH (pre:=[ba 32 k,ba 32 v]) (o:=64) (m:=1) rfl (by simp[szs,zI]) rfl rfl))
@[irreducible] def rscC(t:Value)(k v:Bf)(c:Int):Array Value:=flt [tbA t iF,ba 32 k,ba 32 v,#[.int .i64 c]]
section
variable (t:Value) (k v:Bf) (c:Int)
variable {t k v c}
variable {w:World} {B:Nat} (h:row w B=some (rscC t k v c))
include h
theorem rsc_cell:w.cell? ⟨B,73,none⟩=some (.int .i64 c):=by
 rw[zC h];unfold rscC;exact flt_get [tbA t iF,ba 32 k,ba 32 v] [] _ (o:=73) (j:=0) (by simp[szs,zI,yW]) (by simp)
theorem rsc_cellk(i:Nat)(hi:i<32):w.cell? ⟨B,9+i,none⟩=some (.int .u8 (I (k i))):=by
 rw[zC h];unfold rscC;exact (flt_get [tbA t iF] [ba 32 v,#[.int .i64 c]] (ba 32 k) (o:=9) (j:=i) (by simp[szs,yW]) (by rw[zI];exact hi)).trans (yA 32 k i hi)
theorem rsc_cellv(i:Nat)(hi:i<32):w.cell? ⟨B,41+i,none⟩=some (.int .u8 (I (v i))):=by
 rw[zC h];unfold rscC;exact (flt_get [tbA t iF,ba 32 k] [#[.int .i64 c]] (ba 32 v) (o:=41) (j:=i) (by simp[szs,zI,yW]) (by rw[zI];exact hi)).trans (yA 32 v i hi)
theorem rsc_slk(D:Nat)(hD:B<D):Sl w D (some ⟨B,9,none⟩) 32 32 k:=⟨Nat.le_refl _,fun _=>⟨B,9,rfl,hD,fun i hi=>rsc_cellk h i hi⟩⟩
theorem rsc_slv(D:Nat)(hD:B<D):Sl w D (some ⟨B,41,none⟩) 32 32 v:=⟨Nat.le_refl _,fun _=>⟨B,41,rfl,hD,fun i hi=>rsc_cellv h i hi⟩⟩
end
@[go_sem ↓] theorem rsc_l(p:Value):Instr.loadAt 141 p=ldA 141 p:=rfl
@[go_sem ↓] theorem rsc_s(p v:Value):Instr.storeAt 141 p v=stA 141 p v:=rfl
theorem rsc_z:(Tryz.prog.info? 141).map (·.zero)=some (some (.agg (flt [tbA (.slice none 0 0) fun _=>0#32,ba 32 fun _=>0#8,ba 32 fun _=>0#8,#[.int .i64 0]]))):=by unfold flt tbA wa ba;kernel_rfl
@[go_sem ↓] theorem rsc_bd(yI:Array (Nat×Value)):Instr.build 141 yI=bdA 141 yI:=rfl
theorem keyBlock_any(k:Bf)(n c:Nat)(A:Option Addr)(w:World)(ht:Tab w)(hs:Sl w w.heap.size A n c k)(hn:n<=140737488355328):
  Calls Tryz.prog 270 #[.slice A n c] w fun e w'=>e=.returned (.agg (ba 64 (keyF k n)))/\Below w.heap.size w w':=by
 have B0:=Lib.hid ((Below.refl w.heap.size w).alloc (by simp) (.cells (ba 64 fun _=>0#8) 328))
 have q0:row (w.alloc (.cells (ba 64 fun _=>0#8) 328)) w.heap.size=some (ba 64 fun _=>0#8):=by simp[go_sem]
 have HT:=Lib.hid ht;have HS:=Lib.hid hs;clear ht hs;go_enter Tryz.func270,Tryz.ntmps270
 by_cases h64:64<n
 ·have hd:decide ((64:Int)<(n:Int))=true:=by simp;omega
  go_wp2_with fail;refine (hash_any k n c A _ (HT.out.below B0.out HT.out.pos) ((HS.out.below B0.out).more (by simp)) hn).mono ?_
  rintro e w1 ⟨rfl,hb1⟩;have hs1:w.heap.size+1<=w1.heap.size:=by simpa using hb1.size
  have B1:=Lib.hid ((onto B0.out (by simp) hb1).alloc (by omega) (.cells (ba 32 (shaF kF iF k n)) 66))
  have q1:=zN (zD hb1 q0) (.cells (ba 32 (shaF kF iF k n)) 66);have r1:row (w1.alloc (.cells (ba 32 (shaF kF iF k n)) 66)) w1.heap.size=some (ba 32 (shaF kF iF k n)):=zA _ _ _ _ rfl;have hz:(w1.alloc (.cells (ba 32 (shaF kF iF k n)) 66)).heap.size=w1.heap.size+1:=by simp
  have a1:=sum_sl_all w1.heap.size;clear hb1 q0 B0 HT HS;have HS1:=Lib.hid ((Sl.of_row r1 _ (Nat.lt_succ_self _)).below ((Below.refl _ (w1.alloc (.cells (ba 32 (shaF kF iF k n)) 66))).alloc (by simp) (.cells (ba 64 fun _=>0#8) 328)))
  have HE:=Lib.hid (show ba 64 (putF (fun _=>0#8) 0 32 (shaF kF iF k n))=ba 64 (keyF k n) from xA fun i hi=>by
   unfold putF keyF;rw[if_pos h64]
   by_cases h:i<32
   ·rw[if_pos h,if_pos (by omega),Nat.sub_zero]
   ·rw[if_neg h,if_neg (by omega)])
  have a2:=m64_sl_all (w1.heap.size+1);have q2:=zN q1 (.cells (ba 64 (putF (fun _=>0#8) 0 32 (shaF kF iF k n))) 328)
  go_wp2_with (refine wpl_copy rfl (.tmp 11) (.tmp 12) 22 22 5 rfl zZ u8_i (zA _ _ _ _ (by simp)) HS1.out (show 32=min 32 64 by omega) rfl rfl ?_)
  refine bodyPost_ret (v:=.agg (ba 64 (putF (fun _=>0#8) 0 32 (shaF kF iF k n)))) (zW rfl _ _ w.heap.size _ _ _ rfl (zE q2 _) m64_u (by rw[zI];exact m64_i)) rfl ⟨by rw[HE.out],?_⟩
  exact zG (B1.out.alloc B1.out.size _) (by omega) _
 ·have hd:decide ((64:Int)<(n:Int))=false:=by simp;omega
  have HS1:=Lib.hid ((HS.out.below B0.out).below ((Below.refl _ (w.alloc (.cells (ba 64 fun _=>0#8) 328))).alloc (by simp) (.cells (ba 64 fun _=>0#8) 328)))
  have HE:=Lib.hid (show ba 64 (putF (fun _=>0#8) 0 n k)=ba 64 (keyF k n) from xA fun i hi=>by
   unfold putF keyF;rw[if_neg h64]
   by_cases h:i<n
   ·rw[if_pos h,if_pos (by omega),Nat.sub_zero]
   ·rw[if_neg h,if_neg (by omega)])
  have a2:=m64_sl_all (w.heap.size+1);have q2:=zN q0 (.cells (ba 64 (putF (fun _=>0#8) 0 n k)) 328)
  clear q0;go_wp2_with (refine wpl_copy rfl (.tmp 11) (.tmp 12) 22 22 5 rfl zZ u8_i (zA _ _ _ _ (by simp)) HS1.out (show n=min n 64 by omega) rfl rfl ?_)
  refine bodyPost_ret (v:=.agg (ba 64 (putF (fun _=>0#8) 0 n k))) (zW rfl _ _ w.heap.size _ _ _ rfl (zN (zA _ _ _ _ rfl) _) m64_u (by rw[zI];exact m64_i)) rfl ⟨by rw[HE.out],?_⟩
  exact ((Below.refl w.heap.size w).alloc (by simp) _).alloc (by simp) _
theorem masked_any(f:Bf)(v:BitVec 8)(w:World):
  Calls Tryz.prog 272 #[.agg (ba 64 f),.int .u8 (I v)] w fun e w'=>e=.returned (.agg (ba 64 (mskF f v)))/\Below w.heap.size w w':=by
 have B0:=Lib.hid (((Below.refl w.heap.size w).alloc (by simp) (.cells (ba 64 f) 328)).alloc (by simp) (.cells (ba 64 fun _=>0#8) 328))
 go_enter Tryz.func272,Tryz.ntmps272;go_wp2_with fail;go_loopw [5,6] (fun _ iv wr=>∃ k:Nat,k<=64/\iv=.int .i64 k/\wr=(w.alloc (.cells (ba 64 (upto k (mskF f v) f)) 328)).alloc (.cells (ba 64 fun _=>0#8) 328)) (fun _ iv _=>64-(intOf iv).toNat)
 case atStart=>exact ⟨0,by omega,rfl,by rw[yP]⟩
 case round=>
  obtain ⟨k,hk,rfl,rfl⟩:=hrel
  by_cases hlk:k<64
  ·have hd:decide ((k:Int)<64)=true:=by simp;omega
   have HST:=Lib.hid (show upd (upto k (mskF f v) f) k (f k^^^v)=upto (k+1) (mskF f v) f by rw[<-yX];rfl)
   go_wp2_with fail;go_roundw
   case rel=>exact ⟨k+1,by omega,by go_num,by rw[HST.out]⟩
   case measure=>simp[intOf];omega
  ·obtain rfl:k=64:=by omega
   rw[xI];go_wp2_with fail;refine bodyPost_ret (v:=.agg (ba 64 (mskF f v))) (zW rfl _ _ (w.heap.size+1) _ _ _ rfl (zA _ _ _ _ (by simp)) m64_u (by rw[zI];exact m64_i)) rfl ⟨rfl,?_⟩
   exact ((Below.refl w.heap.size w).alloc (by simp) _).alloc (by simp) _
theorem masked36(f:Bf)(w:World):Calls Tryz.prog 272 #[.agg (ba 64 f),.int .u8 54] w fun e w'=>e=.returned (.agg (ba 64 (mskF f 54#8)))/\Below w.heap.size w w':=by
 have h:=masked_any f 54#8 w;rw[show I 54#8=54 by decide] at h
 exact h
theorem masked5c(f:Bf)(w:World):Calls Tryz.prog 272 #[.agg (ba 64 f),.int .u8 92] w fun e w'=>e=.returned (.agg (ba 64 (mskF f 92#8)))/\Below w.heap.size w w':=by
 have h:=masked_any f 92#8 w;rw[show I 92#8=92 by decide] at h
 exact h
theorem hashBehind_any(f b:Bf)(n c:Nat)(A:Option Addr)(w:World)(ht:Tab w)(hs:Sl w w.heap.size A n c b)(hn:n<=140737488355000):
  Calls Tryz.prog 271 #[.agg (ba 64 f),.slice A n c] w fun e w'=>e=.returned (.agg (ba 32 (shaF kF iF (catF 64 f b) (64+n))))/\Below w.heap.size w w':=by
 have HT:=Lib.hid ht;have HS:=Lib.hid hs;have a1:=m64_sl_all w.heap.size;clear ht hs;go_enter Tryz.func271,Tryz.ntmps271;go_wp2_with fail;obtain ⟨w3,hw3⟩:∃ w3,w3=((w.alloc (.cells (ba 64 f) 328)).alloc (.cells (ba 32 fun _=>0#8) 66)).alloc (.cells #[.slice (some ⟨w.heap.size,0,none⟩) 64 64,.slice A n c] 22):=⟨_,rfl⟩
 have B3:Below w.heap.size w w3:=by rw[hw3];exact (((Below.refl w.heap.size w).alloc (by simp) _).alloc (by simp) _).alloc (by simp;omega) _
 have rC:row w3 (w.heap.size+1+1)=some #[.slice (some ⟨w.heap.size,0,none⟩) 64 64,.slice A n c]:=by rw[hw3];exact zA _ _ _ _ (by simp)
 have r0:row w3 (w.heap.size+1)=some (ba 32 fun _=>0#8):=by rw[hw3];exact zN (zA _ _ _ _ (by simp)) _
 have rF:row w3 w.heap.size=some (ba 64 f):=by rw[hw3];exact zN (zN (zA _ _ _ _ rfl) _) _
 have hz:w3.heap.size=w.heap.size+1+1+1:=by rw[hw3];simp
 rw[<-hw3];clear hw3 a1;refine (concat2_any _ _ w3 rC (Sl.of_row rF w3.heap.size (by omega)) ((HS.out.below B3).more (by omega)) (by omega)).mono ?_
 rintro e w4 ⟨v,rfl,ho,hb4⟩;obtain ⟨A',c',hv,hsl,-,-⟩:=ho.sl;subst hv;have HSL:=Lib.hid hsl;have HT4:=Lib.hid ((HT.out.below B3 HT.out.pos).below hb4 (by omega))
 have B4:=Lib.hid (onto B3 (by omega) hb4)
 have r4:=zD hb4 r0;have hs4:w.heap.size+3<=w4.heap.size:=by have:=hb4.size;omega
 clear ho hsl hb4 r0 rC rF hz B3 HT HS;go_wp2_with fail;refine (hash_any (catF 64 f b) (64+n) c' A' w4 HT4.out HSL.out (by omega)).mono ?_
 rintro e w5 ⟨rfl,hb5⟩;have r5:=zD hb5 r4;have B5:=Lib.hid (onto B4.out (by omega) hb5)
 clear hb5 r4;go_wp2_with fail;refine bodyPost_ret (v:=.agg (ba 32 (shaF kF iF (catF 64 f b) (64+n)))) (zW rfl _ _ (w.heap.size+1) _ _ _ rfl (zE r5 _) sum_u (by rw[zI];exact sum_i)) rfl ⟨rfl,?_⟩
 exact zG B5.out (by omega) _
theorem msum_any(k b:Bf)(n m c c':Nat)(A A':Option Addr)(w:World)(ht:Tab w)(hs:Sl w w.heap.size A n c k)(hs':Sl w w.heap.size A' m c' b)(hn:n<=140737488355328)(hm:m<=140737488355000):
  Calls Tryz.prog 243 #[.slice A n c,.slice A' m c'] w fun e w'=>e=.returned (.agg (ba 32 (macF k n b m)))/\Below w.heap.size w w':=by
 have B0:=Lib.hid ((Below.refl w.heap.size w).alloc (by simp) (.cells (ba 32 fun _=>0#8) 66))
 have q0:row (w.alloc (.cells (ba 32 fun _=>0#8) 66)) w.heap.size=some (ba 32 fun _=>0#8):=zA _ _ _ _ rfl
 have HT:=Lib.hid ht;have HS:=Lib.hid hs;have HS':=Lib.hid hs';have hz:(w.alloc (.cells (ba 32 fun _=>0#8) 66)).heap.size=w.heap.size+1:=by simp
 clear ht hs hs';go_enter Tryz.func243,Tryz.ntmps243;go_wp2_with fail;refine (keyBlock_any k n c A _ (HT.out.below B0.out HT.out.pos) ((HS.out.below B0.out).more (by omega)) hn).mono ?_
 rintro e w1 ⟨rfl,hb1⟩;have hs1:w.heap.size+1<=w1.heap.size:=by have:=hb1.size;omega
 obtain ⟨w2,hw2⟩:∃ w2,w2=w1.alloc (.cells (ba 64 (keyF k n)) 328):=⟨_,rfl⟩;have B2:Below w.heap.size w w2:=by rw[hw2];exact (onto B0.out (by omega) hb1).alloc (by omega) _
 have rK:row w2 w1.heap.size=some (ba 64 (keyF k n)):=by rw[hw2];exact zA _ _ _ _ rfl
 have r2:row w2 w.heap.size=some (ba 32 fun _=>0#8):=by rw[hw2];exact zN (zD hb1 q0) _
 have hz2:w2.heap.size=w1.heap.size+1:=by rw[hw2];simp
 clear B0 hb1 q0 hz;go_wp2_with fail;rw[<-hw2];clear hw2;refine (masked36 (keyF k n) w2).mono ?_;rintro e w3 ⟨rfl,hb3⟩;have B3:=Lib.hid (onto B2 (by omega) hb3)
 have K3:=Lib.hid (zD hb3 rK);have R3:=Lib.hid (zD hb3 r2);have hs3:w1.heap.size+1<=w3.heap.size:=by have:=hb3.size;omega
 clear hb3 rK r2 B2 hz2;go_wp2_with fail;refine (hashBehind_any (mskF (keyF k n) 54#8) b m c' A' w3 (HT.out.below B3.out HT.out.pos) ((HS'.out.below B3.out).more (by omega)) hm).mono ?_
 rintro e w4 ⟨rfl,hb4⟩;obtain ⟨S,hS⟩:∃ S,S=innF k n b m:=⟨_,rfl⟩;rw[show shaF kF iF (catF 64 (mskF (keyF k n) 54#8) b) (64+m)=S by rw[hS];rfl]
 have hs4:w3.heap.size<=w4.heap.size:=hb4.size;obtain ⟨w6,hw6⟩:∃ w6,w6=w4.alloc (.cells (ba 32 S) 66):=⟨_,rfl⟩;have B6:=Lib.hid (show Below w.heap.size w w6 by rw[hw6];exact (onto B3.out (by omega) hb4).alloc (by omega) _)
 have K6:=Lib.hid (show row w6 w1.heap.size=some (ba 64 (keyF k n)) by rw[hw6];exact zN (zD hb4 K3.out) _)
 have R6:=Lib.hid (show row w6 w.heap.size=some (ba 32 fun _=>0#8) by rw[hw6];exact zN (zD hb4 R3.out) _)
 have rS:row w6 w4.heap.size=some (ba 32 S):=by rw[hw6];exact zA _ _ _ _ rfl
 have hz6:w6.heap.size=w4.heap.size+1:=by rw[hw6];simp
 have HI:=Lib.hid (Sl.of_row rS w6.heap.size (by omega))
 have HT6:=Lib.hid (HT.out.below B6.out HT.out.pos);have HD:=Lib.hid (show shaF kF iF (catF 64 (mskF (keyF k n) 92#8) S) (64+32)=macF k n b m by rw[hS];rfl)
 have HM:=Lib.hid (show ∀ x:After w6,Calls Tryz.prog 272 #[.agg (ba 64 (keyF k n)),.int .u8 92] x.val fun e w'=>e=.returned (.agg (ba 64 (mskF (keyF k n) 92#8)))/\Below x.val.heap.size x.val w' from fun x=>masked5c _ _)
 have HH:=Lib.hid (show ∀ x:After w6,Calls Tryz.prog 271 #[.agg (ba 64 (mskF (keyF k n) 92#8)),.slice (some ⟨w4.heap.size,0,none⟩) 32 32] x.val fun e w'=>e=.returned (.agg (ba 32 (macF k n b m)))/\Below x.val.heap.size x.val w' from fun x=>by
  rw[<-HD.out]
  exact hashBehind_any _ S 32 32 _ x.val (HT6.out.after x) (After.sl HI.out x) (by omega))
 have Q:=After.row K6.out;have a1:=sum_sl_all w4.heap.size;clear hb4 K3 R3 B3 rS hS HS HS' HT;go_wp2_with fail;rw[<-hw6];clear hw6;refine seen_tail 0 4 (by kernel_rfl) (by kernel_rfl) (fun _ _ _ _ _ h=>h) ?_
 simp only[List.take_succ_cons,List.take_zero,List.drop_succ_cons,List.drop_zero]
 repeat (first|go_big_quiet_step ((go_at_call 272;refine After.call _ (HM.out _)))|go_big_quiet_step ((go_at_call 271;refine After.call _ (HH.out _))))
 refine wpQuiet_nil ?_;rintro _ ⟨x,rfl⟩;have r9:=After.row R6.out x;have B9:=Lib.hid (onto B6.out (by omega) x.below)
 clear Q a1;go_wp2_with fail;refine bodyPost_ret (v:=.agg (ba 32 (macF k n b m))) (zW rfl _ _ w.heap.size _ _ _ rfl (zE r9 _) sum_u (by rw[zI];exact sum_i)) rfl ⟨rfl,?_⟩
 exact zG B9.out (by omega) _
variable {R:Array Value}
theorem tab_put{B:Nat}{c:Array Value}{w w':World}(ht:Tab w)(hB:0<B)(h:Put B c w w'):Tab w':=ht.below (h.low (D:=1) hB ht.pos) (by omega)
theorem dsum_any(k v f:Bf)(c:Int)(B L:Nat)(pv:Value)(w:World)(ht:Tab w)(hr:row w B=some (srcC R k v c))
  (hcat:∀ x:World,Below w.heap.size w x->Calls Tryz.prog 218 #[pv] x fun e w'=>∃ u,e=.returned u/\Own w' x.heap.size 5 u L f/\Below x.heap.size x w') (hL:L<=140737488355000):
  Calls Tryz.prog 211 #[.pointer (some ⟨B,0,none⟩),pv] w fun e w'=>e=.returned (.agg (ba 32 (macF k 32 f L)))/\Below w.heap.size w w':=by
 have HT:=Lib.hid ht;have HR:=Lib.hid hr;have HC:=Lib.hid hcat;have a1:=sum_sl_at B 0;have hz0:(w.alloc (.cells (ba 32 fun _=>0#8) 66)).heap.size=w.heap.size+1:=by simp
 clear ht hr hcat;go_enter Tryz.func211,Tryz.ntmps211;go_wp2_with fail;refine yE [([0,1,2,3,4],5,false),([],6,false),([],7,true)] [] (by kernel_rfl) (by kernel_rfl) (fun _ _ _ _ _ h=>h) fun X=>?_
 have hx:Below w.heap.size w X.val:=((Below.refl w.heap.size w).alloc (Nat.le_refl _) _).trans (X.below.mono (by rw[hz0];omega))
 have hs1:w.heap.size+1<=X.val.heap.size:=by have:=X.below.size;omega
 have r1:row X.val w.heap.size=some (ba 32 fun _=>0#8):=zD X.below (zA _ _ _ _ rfl)
 have B1:=Lib.hid hx;have C1:=Lib.hid (HC.out X.val hx);clear hx HC;obtain ⟨w1,hw1⟩:∃ w1,w1=X.val:=⟨_,rfl⟩;rw[<-hw1] at hs1 r1 B1 C1 ⊢;clear hw1 X hz0;simp only[wpFs,pk,List.getElem?_cons_zero,List.getElem?_cons_succ]
 repeat (go_big_quiet_step (fail))
 refine wpQuiet_nil ?_;clear a1;go_wp2_with fail;refine C1.out.mono ?_;rintro e w2 ⟨u,rfl,ho,hb2⟩;go_wp2_with fail;refine ⟨.inr hb2,?_⟩;obtain ⟨A2,c2,hv,hsl,-,-⟩:=ho.sl;subst hv;have S2:=Lib.hid hsl;have B2:=Lib.hid (onto B1.out (by omega) hb2)
 have r2:=zD hb2 r1;have hs2:w1.heap.size<=w2.heap.size:=hb2.size;clear ho hsl hb2 r1 C1 B1;show wpQuiet _ _ _ _ _ _;refine wpQuiet_nil ?_;go_wp2_with fail;refine (msum_any k f 32 L 32 c2 _ A2 w2 (HT.out.below B2.out HT.out.pos) (src_slk (zD B2.out HR.out) _ (by have:=zK HR.out;omega)) S2.out (by omega) hL).mono ?_
 rintro e w3 ⟨rfl,hb3⟩;go_wp2_with fail;refine ⟨.inr hb3,?_⟩;have r3:=zD hb3 r2;have B3:=Lib.hid (onto B2.out (by omega) hb3)
 clear hb3 r2 B2 S2;show wpQuiet _ _ _ _ _ _;refine wpQuiet_nil ?_;go_wp2_with fail;refine ⟨.inl trivial,?_⟩;show wpQuiet _ _ _ _ _ _;refine wpQuiet_nil ?_;go_wp2_with fail;refine bodyPost_ret (v:=.agg (ba 32 (macF k 32 f L))) (zW rfl _ _ w.heap.size _ _ _ rfl (zE r3 _) sum_u (by rw[zI];exact sum_i)) rfl ⟨rfl,?_⟩
 exact zG B3.out (Nat.le_refl _) _
theorem concat1_any(h cap:Nat){A0:Option Addr}{n0 c0:Nat}{b0:Bf}(w:World)(hr:row w h=some #[.slice A0 n0 c0])(h0:Sl w w.heap.size A0 n0 c0 b0)(hT:n0<=140737488355328):
  Calls Tryz.prog 218 #[.slice (some ⟨h,0,none⟩) 1 cap] w fun e w'=>∃ v,e=.returned v/\Own w' w.heap.size 5 v n0 b0/\Below w.heap.size w w':=by
 refine (concat_any 1 h cap (fun i=>A0) (fun i=>n0) (fun i=>c0) (fun i=>b0) w (fun i hi=>?_) (zK hr) (fun i hi=>h0) (by omega) (by simp[lenL];omega)).mono ?_
 ·rw[zC hr]
  obtain rfl:i=0:=by omega
  rfl
 ·rintro e w' ⟨v,rfl,ho,hb⟩
  refine ⟨v,rfl,?_,hb⟩;have e1:lenL (fun i=>n0) 1=n0:=by simp[lenL]
  rw[e1] at ho;refine ho.congr fun i hi=>?_
  simp[catsF,lenL,yH]
theorem dstep_any(s:St)(c:Int)(B:Nat)(w:World)(ht:Tab w)(hr:row w B=some (srcC R s.1 s.2 c))(hB:0<B):
  Calls Tryz.prog 212 #[.pointer (some ⟨B,0,none⟩)] w fun e w'=>e=.returned (.tuple #[])/\Put B (srcC R s.1 (macF s.1 32 s.2 32) c) w w':=by
 have HT:=Lib.hid ht;have HR:=Lib.hid hr;have a1:=sum_sl_at B 32;clear ht hr;go_enter Tryz.func212,Tryz.ntmps212;go_wp2_with fail;obtain ⟨w1,hw1⟩:∃ w1,w1=w.alloc (.cells #[.slice (some ⟨B,32,none⟩) 32 32] 22):=⟨_,rfl⟩;have B1:Below w.heap.size w w1:=by rw[hw1];exact (Below.refl _ _).alloc (Nat.le_refl _) _
 have rC:row w1 w.heap.size=some #[.slice (some ⟨B,32,none⟩) 32 32]:=by rw[hw1];exact zA _ _ _ _ rfl
 rw[<-hw1];clear hw1 a1;have hsz:=B1.size;have R1:=Lib.hid (zD B1 HR.out);have hBz:=zK HR.out;refine (dsum_any s.1 s.2 s.2 c B 32 _ w1 (HT.out.below B1 HT.out.pos) R1.out (fun x hx=>concat1_any _ _ x (zD hx rC) (src_slv (zD hx R1.out) _ (zK (zD hx R1.out))) (by omega)) (by omega)).mono ?_
 rintro e w2 ⟨rfl,hb2⟩;have r2:=zD hb2 R1.out;have B2:=Lib.hid (onto B1 hsz hb2);clear hb2 rC B1 hsz;go_wp2_with fail;go_end0;exact ⟨rfl,Put.of B2.out hBz _⟩
theorem dmix_any(s:St)(c:Int)(B:Nat)(r:BitVec 8)(b:Bf)(n cc:Nat)(A:Option Addr)(w:World)(ht:Tab w)(hr:row w B=some (srcC R s.1 s.2 c))(hB:0<B)(hs:Sl w w.heap.size A n cc b)(hn:n<=140737488354000):
  Calls Tryz.prog 175 #[.pointer (some ⟨B,0,none⟩),.int .u8 (I r),.slice A n cc] w fun e w'=>e=.returned (.tuple #[])/\Put B (srcC R (mixS s r b n).1 (mixS s r b n).2 c) w w':=by
 have HT:=Lib.hid ht;have HR:=Lib.hid hr;have HS:=Lib.hid hs;have a1:=sum_sl_at B 32;clear ht hr hs;go_enter Tryz.func175,Tryz.ntmps175;go_wp2_with fail;obtain ⟨w1,hw1⟩:∃ w1,w1=(w.alloc (.cells #[.int .u8 (I r)] 5)).alloc (.cells #[.slice (some ⟨B,32,none⟩) 32 32,.slice (some ⟨w.heap.size,0,none⟩) 1 1,.slice A n cc] 22):=⟨_,rfl⟩;have B1:Below w.heap.size w w1:=by rw[hw1];exact ((Below.refl _ _).alloc (Nat.le_refl _) _).alloc (by simp) _
 have rC:row w1 (w.heap.size+1)=some #[.slice (some ⟨B,32,none⟩) 32 32,.slice (some ⟨w.heap.size,0,none⟩) 1 1,.slice A n cc]:=by rw[hw1];exact zA _ _ _ _ (by simp)
 have s1:Sl w1 w1.heap.size (some ⟨w.heap.size,0,none⟩) 1 1 (fun _=>r):=by
  rw[hw1];exact ((Sl.one w 5 r (w.heap.size+1) (by omega)).below ((Below.refl _ _).alloc (by simp) _)).more (by simp)
 rw[<-hw1];clear hw1 a1;have hsz:=B1.size;have R1:=Lib.hid (zD B1 HR.out);have hBz:=zK HR.out;have S1:=(HS.out.below B1).more hsz;refine (dsum_any s.1 s.2 (mixT s r b) c B (32+1+n) _ w1 (HT.out.below B1 HT.out.pos) R1.out (fun x hx=>concat3_any _ _ x (zD hx rC) (src_slv (zD hx R1.out) _ (zK (zD hx R1.out))) ((s1.below hx).more hx.size) ((S1.below hx).more hx.size) (by omega)) (by omega)).mono ?_
 rintro e w2 ⟨rfl,hb2⟩;have r2:=zD hb2 R1.out;have B2:=Lib.hid (onto B1 hsz hb2);obtain ⟨K,hK⟩:∃ K,K=macF s.1 32 (mixT s r b) (32+1+n):=⟨_,rfl⟩;rw[<-hK];have HK:=Lib.hid hK;clear hb2 rC B1 hsz s1 S1 hK;go_wp2_with fail;obtain ⟨w3,hw3⟩:∃ w3,w3=w2.setRow B (srcC R K s.2 c):=⟨_,rfl⟩;have P3:=Lib.hid (show Put B (srcC R K s.2 c) w w3 by rw[hw3];exact Put.of B2.out hBz _)
 rw[<-hw3];clear hw3 r2 B2;refine (dstep_any (K,s.2) c B w3 (tab_put HT.out hB P3.out) (P3.out.row HR.out) hB).mono ?_;rintro e w4 ⟨rfl,hp4⟩;have P4:=Lib.hid (P3.out.then HR.out hp4);clear hp4;go_wp2_with fail;go_end0;refine ⟨rfl,?_⟩;have e:mixS s r b n=(K,macF K 32 s.2 32):=by unfold mixS;rw[HK.out]
 rw[e];exact P4.out
theorem dupd_any(s:St)(c:Int)(B:Nat)(b:Bf)(n cc:Nat)(A:Option Addr)(w:World)(ht:Tab w)(hr:row w B=some (srcC R s.1 s.2 c))(hB:0<B)(hs:Sl w w.heap.size A n cc b)(hn:n<=140737488354000)(ho:Off B n A):
  Calls Tryz.prog 130 #[.pointer (some ⟨B,0,none⟩),.slice A n cc] w fun e w'=>e=.returned (.tuple #[])/\Put B (srcC R (updS s b n).1 (updS s b n).2 c) w w':=by
 have HT:=Lib.hid ht;have HR:=Lib.hid hr;have HS:=Lib.hid hs;have HO:=Lib.hid ho;clear ht hr hs ho;have H0:=Lib.hid (dmix_any s c B 0#8 b n cc A w HT.out HR.out hB HS.out hn);go_enter Tryz.func130,Tryz.ntmps130;go_wp2_with fail;refine H0.out.mono ?_;rintro e w1 ⟨rfl,hp1⟩;have P1:=Lib.hid hp1;clear H0 hp1
 by_cases h0:n=0
 ·subst h0
  have hd:decide ((0:Int)<((0:Nat):Int))=false:=by decide
  go_wp2_with fail;go_end0;refine ⟨rfl,?_⟩;unfold updS;rw[if_pos rfl];exact P1.out
 ·have hd:decide ((0:Int)<(n:Int))=true:=by simp;omega
  have H1:=Lib.hid (dmix_any (mixS s 0#8 b n) c B 1#8 b n cc A w1 (tab_put HT.out hB P1.out) (P1.out.row HR.out) hB ((P1.out.sl HS.out (Nat.le_refl _) HO.out).more P1.out.size) hn);go_wp2_with fail;refine H1.out.mono ?_;rintro e w2 ⟨rfl,hp2⟩;have P2:=Lib.hid (P1.out.then HR.out hp2);clear hp2 H1;go_wp2_with fail;go_end0;refine ⟨rfl,?_⟩;unfold updS;rw[if_neg h0];exact P2.out
theorem dreseed_any(s:St)(c:Int)(B:Nat)(b:Bf)(n cc:Nat)(A:Option Addr)(w:World)(ht:Tab w)(hr:row w B=some (srcC R s.1 s.2 c))(hB:0<B)(hs:Sl w w.heap.size A n cc b)(hn:n<=140737488354000)(ho:Off B n A):
  Calls Tryz.prog 72 #[.pointer (some ⟨B,0,none⟩),.slice A n cc] w fun e w'=>e=.returned (.tuple #[])/\Put B (srcC R (updS s b n).1 (updS s b n).2 1) w w':=by
 have HR:=Lib.hid hr;have H0:=Lib.hid (dupd_any s c B b n cc A w ht hr hB hs hn ho);clear ht hr hs ho;go_enter Tryz.func72,Tryz.ntmps72;go_wp2_with fail;refine H0.out.mono ?_;rintro e w1 ⟨rfl,hp1⟩;have P1:=Lib.hid hp1;have r1:=hp1.row HR.out;have hc:=src_cell r1;have hf:=zJ r1 64;clear H0 hp1;go_wp2_with fail;go_end0;refine ⟨rfl,?_⟩;rw[src_set r1];exact P1.out.then HR.out (Put.of (Below.refl _ _) (zK r1) _)
variable {R:Array Value}
theorem res_cct{P:Program}{fn:Func}{p q u:Tmp}{ty ty':TypeId}(h:fn.results=#[.cell p ty,.cell q ty',.tmp u])(tmps:Array Value)(w:World)(b b':Nat)(c c':Array Value)(d d':TypeDesc)
  (hp:tmps.getD p undef=.pointer (some ⟨b,0,none⟩)) (hr:row w b=some c) (hu:P.underlying ty=some d) (hd:d.isRow=true) (hi:(P.info? ty).map (·.size)=some c.size)
  (hp':tmps.getD q undef=.pointer (some ⟨b',0,none⟩)) (hr':row w b'=some c') (hu':P.underlying ty'=some d') (hd':d'.isRow=true) (hi':(P.info? ty').map (·.size)=some c'.size):
  (results fn tmps).run P w=.ok (.tuple #[.agg c,.agg c',tmps.getD u undef]) w:=by
 have key:∀ (b:Nat) (c:Array Value) (ty:TypeId) (d:TypeDesc),row w b=some c->P.underlying ty=some d->d.isRow=true->(P.info? ty).map (·.size)=some c.size->(loadVar ty ⟨b,0,none⟩).run P w=.ok (.agg c) w:=by
  intro b c ty d hr hu hd hi;obtain ⟨t',ht⟩:=row_is hr;have hg:w.rangeAt b 0 (c.extract 0 (0+c.size)).toList:=World.rangeAt_of_block ht 0 c.size;have hx:=run_loadVar_mid (P:=P) w b 0 ty _ d hg hu hd (by rw[hi];simp)
  rw[Array.toArray_toList,Nat.zero_add,Array.extract_size] at hx;exact hx
 have hp2:tmps[p]?.getD undef=.pointer (some ⟨b,0,none⟩):=by simpa using hp
 have hp3:tmps[q]?.getD undef=.pointer (some ⟨b',0,none⟩):=by simpa using hp'
 simp only[results,h];simp[Sem.run_bind,hp2,hp3,asAddr,key b c ty d hr hu hd hi,key b' c' ty' d' hr' hu' hd' hi']
structure BsInv(w:World)(B:Nat)(s:St)(c:Int)(n j:Nat)(wr:World):Prop where
 p:Put B (srcC R s.1 (vsF s j) c) w wr
 r:row wr w.heap.size=some (ba n (upto (32*j) (drF s) fun _=>0#8))
theorem dbytes_any(s:St)(c:Int)(B n:Nat)(w:World)(ht:Tab w)(hr:row w B=some (srcC R s.1 s.2 c))(hB:0<B)(hn:n<=256):
  Calls Tryz.prog 213 #[.pointer (some ⟨B,0,none⟩),.int .i64 n] w fun e w'=>e=.returned (.slice (some ⟨w.heap.size,0,none⟩) n n)/\row w' w.heap.size=some (ba n (drF s))/\Put B (srcC R s.1 (vsF s (nV n)) c) w w':=by
 have HT:=Lib.hid ht;have HR:=Lib.hid hr;have hBz:=zK hr;have hmk:=mk_sl n (by omega)
 have a1:=sum_sl_at B 32;clear ht hr;go_enter Tryz.func213,Tryz.ntmps213;have E0:=Lib.hid (show BsInv w B s c n 0 (w.alloc (.cells (ba n fun _=>0#8) 5)) from ⟨(Put.nil HR.out).calm ((Below.refl _ _).alloc (Nat.le_refl _) _),by rw[Nat.mul_zero,yP];exact zA _ _ _ _ rfl⟩)
 go_wp2_with fail;clear hmk;go_loopw [6] (fun iv wr=>∃ j:Nat,32*j<n+32/\iv=.int .i64 ((min (32*j) n:Nat):Int)/\BsInv w B s c n j wr) (fun iv _=>n-(intOf iv).toNat)
 case atStart=>exact ⟨0,by omega,by rw[Nat.mul_zero,Nat.zero_min];rfl,E0.out⟩
 case round=>
  clear E0;obtain ⟨j,hj,rfl,hE⟩:=hrel;obtain ⟨wo,rfl⟩:∃ wo:World,wo=wr:=⟨_,rfl⟩;have HE:=Lib.hid hE;clear hE;obtain ⟨F,hF⟩:∃ F,F=min (32*j) n:=⟨_,rfl⟩;rw[<-hF];have hsz:w.heap.size<wo.heap.size:=zK HE.out.r;have HF:=Lib.hid hF
  by_cases hlt:F<n
  ·have hd:decide ((F:Int)<(n:Int))=true:=by simp;omega
   have HFj:=Lib.hid (show F=32*j by omega)
   clear hF;have H1:=Lib.hid (dstep_any (s.1,vsF s j) c B wo (tab_put HT.out hB HE.out.p) (HE.out.p.row HR.out) hB);go_wp2_with fail;refine H1.out.mono ?_;rintro e w6 ⟨rfl,hp6⟩;have P6:=Lib.hid (show Put B (srcC R s.1 (vsF s (j+1)) c) w w6 from HE.out.p.then HR.out hp6)
   have r6:=hp6.other (by omega) HE.out.r
   have hz6:=hp6.size;have hfr:=xE zZ u8_i (some (⟨w.heap.size,0,none⟩:Addr)) n n F (by omega)
   rw[show cutA (some (⟨w.heap.size,0,none⟩:Addr)) n F=some ⟨w.heap.size,F,none⟩ by unfold cutA;rw[if_neg (by omega)];simp only[Option.map_some];rw[yK,Nat.zero_add]] at hfr
   clear hp6 H1 HE;go_wp2_with fail;refine zY [([0,1,2,3,4,5,6,7],8,false)] [9,10] (fun _=>True) (by kernel_rfl) (by kernel_rfl) (fun _ _ _ _ _ h=>h) trivial ?_
   have b7:=zQ (Below.refl w6.heap.size w6) 1;have hz7:(w6.drewN 1).heap.size=w6.heap.size:=rfl;obtain ⟨w7,hw7⟩:∃ w7,w7=w6.drewN 1:=⟨_,rfl⟩;rw[<-hw7] at b7 hz7 ⊢;clear hw7;have r7:=zD b7 r6;have P7:=Lib.hid (P6.out.calm b7);have HI:=Lib.hid (src_slv (P7.out.row HR.out) w7.heap.size (by omega))
   clear b7 r6 P6;obtain ⟨C,hC⟩:∃ C,C=min 32 (n-F):=⟨_,rfl⟩;have HC:=Lib.hid hC
   have hV:ba n (putF (upto (32*j) (drF s) fun _=>0#8) F C (vsF s (j+1)))=ba n (upto (32*(j+1)) (drF s) fun _=>0#8):=xA fun i hi=>by
    have h1:=HFj.out;unfold putF upto
    by_cases h2:i<32*j
    ·rw[if_neg (by omega),if_pos h2,if_pos (by omega)]
    ·by_cases h3:i<32*(j+1)
     ·rw[if_pos (by omega),if_pos h3]
      unfold drF;rw[show i / 32=j by omega,show i % 32=i-F by omega]
     ·rw[if_neg (by omega),if_neg h2,if_neg h3]
   have HV:=Lib.hid hV;have HF2:=Lib.hid (show ((F:Int)+(C:Int))=((min (32*(j+1)) n:Nat):Int) by have:=HFj.out;omega)
   have hw8:IntKind.i64.wrap ((F:Int)+(C:Int))=(F:Int)+(C:Int):=IntWalk.i64_in _ (by omega)
   simp only[wpFl,pk,List.getElem?_cons_zero,List.getElem?_cons_succ];clear hV hC
   repeat (go_big_quiet_step (fail))
   refine wpQuiet_nil ?_;go_wp2_with (refine wpl_copyAt rfl (.tmp 17) (.tmp 21) 22 22 5 rfl zZ u8_i r7 (show F+(n-F)<=n by omega) HI.out HC.out rfl rfl ?_)
   rw[HV.out];have E8:=Lib.hid (show BsInv w B s c n (j+1) (w7.setRow w.heap.size (ba n (upto (32*(j+1)) (drF s) fun _=>0#8))) from ⟨zG P7.out (Nat.le_refl _) _,zE r7 _⟩)
   obtain ⟨w8,hw8'⟩:∃ w8,w8=w7.setRow w.heap.size (ba n (upto (32*(j+1)) (drF s) fun _=>0#8)):=⟨_,rfl⟩
   rw[<-hw8'] at E8 ⊢;clear hw8' r7;refine ⟨fun _=>True,trivial,?_⟩
   show wpQuiet _ _ _ _ _ _
   repeat (go_big_quiet_step (fail))
   refine wpQuiet_nil ?_;rw[HF2.out];go_wp2_with fail;go_roundw
   case rel=>exact ⟨j+1,by have:=HFj.out;omega,rfl,E8.out⟩
   case measure=>
    have:=HFj.out;simp only[intOf];omega
  ·have hd:decide ((F:Int)<(n:Int))=false:=by simp;omega
   have HX:=Lib.hid (show ba n (upto (32*j) (drF s) fun _=>0#8)=ba n (drF s) from xA fun i hi=>by unfold upto;rw[if_pos (by omega)])
   have HJ:=Lib.hid (show j=nV n by unfold nV;omega)
   clear hF;go_wp2_with fail;go_ret;refine ⟨rfl,?_,?_⟩
   ·rw[HE.out.r,HX.out]
   ·rw[<-HJ.out];exact HE.out.p
theorem ddraw_any(s:St)(B n m cc:Nat)(A:Option Addr)(b:Bf)(c:Int)(w:World)(ht:Tab w)(hr:row w B=some (srcC R s.1 s.2 c))(hB:0<B)(hs:Sl w w.heap.size A m cc b)(hm:m<=140737488354000)(ho:Off B m A)(hn:n<=256)(hc:c<=1048576)(hc0:-9223372036854775808<=c):
  Calls Tryz.prog 178 #[.pointer (some ⟨B,0,none⟩),.int .i64 n,.slice A m cc] w fun e w'=>∃ g,e=.returned (.tuple #[.slice (some ⟨g,0,none⟩) n n,.int .i64 0])/\w.heap.size<=g/\row w' g=some (ba n (drwF s b m))/\Put B (srcC R (drwS s n b m).1 (drwS s n b m).2 (c+1)) w w':=by
 have HT:=Lib.hid ht;have HR:=Lib.hid hr;have HS:=Lib.hid hs;have HO:=Lib.hid ho;have hcl:=src_cell hr;have hBz:=zK hr;have hd:decide ((n:Int)<0)=false:=by simp
 have hd2:decide (256<(n:Int))=false:=by simp;omega
 have hd3:decide (1048576<c)=false:=by simp;omega
 clear hr ht hs ho;obtain ⟨t,ht⟩:∃ t:St,t=if m=0 then s else updS s b m:=⟨_,rfl⟩
 have HTT:=Lib.hid ht;clear ht;go_enter Tryz.func178,Tryz.ntmps178
 by_cases h0:m=0
 case' pos=>
  have hd4:decide ((0:Int)<(m:Int))=false:=by simp;omega
  have P0:=Lib.hid (show Put B (srcC R t.1 t.2 c) w w by rw[HTT.out,if_pos h0];exact Put.nil HR.out)
  have HD:=Lib.hid h0;go_wp2_with fail;obtain ⟨w1,hw1⟩:∃ w1,w1=w:=⟨_,rfl⟩;have P1:=Lib.hid (show Put B (srcC R t.1 t.2 c) w w1 by rw[hw1];exact P0.out)
  rw[<-hw1];clear P0 hw1
 case' neg=>
  have hd4:decide ((0:Int)<(m:Int))=true:=by simp;omega
  have HD:=Lib.hid h0;have H0:=Lib.hid (dupd_any s c B b m cc A w HT.out HR.out hB HS.out hm HO.out);go_wp2_with fail;refine H0.out.mono ?_;rintro e w1 ⟨rfl,hp1⟩;have P1:=Lib.hid (show Put B (srcC R t.1 t.2 c) w w1 by rw[HTT.out,if_neg h0];exact hp1)
  clear H0 hp1;go_wp2_with fail
 all_goals
  clear HD hd4 h0;have r1:=P1.out.row HR.out;have T1:=tab_put HT.out hB P1.out;have hz1:=P1.out.size;refine (dbytes_any t c B n w1 T1 r1 hB hn).mono ?_;rintro e w2 ⟨rfl,hg2,hp2⟩;have P2:=Lib.hid (P1.out.then HR.out hp2);have G2:=Lib.hid hg2;have hz2:=hp2.size;have hg2':=zK hg2;clear r1 T1 hp2 hg2 P1 hd hd2 hd3 hcl;have H3:=Lib.hid (dupd_any (t.1,vsF t (nV n)) c B b m cc A w2 (tab_put HT.out hB P2.out) (P2.out.row HR.out) hB ((P2.out.sl HS.out (Nat.le_refl _) HO.out).more P2.out.size) hm HO.out);go_wp2_with fail;refine H3.out.mono ?_;rintro e w3 ⟨rfl,hp3⟩;have P3:=Lib.hid (P2.out.then HR.out hp3);have G3:=Lib.hid (hp3.other (by omega) G2.out)
  have hz3:=hp3.size;have r3:=P3.out.row HR.out;have hcl:=src_cell r3;have hfz:=zJ r3 64;have hwr:IntKind.i64.wrap (c+1)=c+1:=IntWalk.i64_in _ (by omega)
  clear hp3 H3 P2 G2;go_wp2_with fail;rw[src_set r3];have P4:=Lib.hid (P3.out.then HR.out (Put.of (Below.refl _ _) (zK r3) (srcC R (updS (t.1,vsF t (nV n)) b m).1 (updS (t.1,vsF t (nV n)) b m).2 (c+1))));have G4:=Lib.hid (show row (w3.setRow B (srcC R (updS (t.1,vsF t (nV n)) b m).1 (updS (t.1,vsF t (nV n)) b m).2 (c+1))) w1.heap.size=some (ba n (drF t)) by rw[zF _ _ _ _ (by omega)];exact G3.out)
  refine bodyPost_ret (v:=.tuple #[.slice (some ⟨w1.heap.size,0,none⟩) n n,.int .i64 0]) (by simp[results,Tryz.results178,go_sem]) rfl ⟨w1.heap.size,rfl,hz1,?_,?_⟩
  ·rw[G4.out]
   unfold drwF;rw[<-HTT.out]
  ·unfold drwS
   rw[<-HTT.out];exact P4.out
variable {R:Array Value}
theorem dstate_any(s:St)(c:Int)(B:Nat)(w:World)(hr:row w B=some (srcC R s.1 s.2 c)):
  Calls Tryz.prog 74 #[.pointer (some ⟨B,0,none⟩)] w fun e w'=>e=.returned (.tuple #[.agg (ba 32 s.1),.agg (ba 32 s.2),.int .i64 c])/\Below w.heap.size w w':=by
 have HR:=Lib.hid hr;have hBz:=zK hr;clear hr;go_enter Tryz.func74,Tryz.ntmps74;go_wp2_with fail;have b1:Below w.heap.size w (((w.alloc (.cells (ba 32 fun _=>0#8) 66)).alloc (.cells (ba 32 fun _=>0#8) 66)).drewN 1):=zQ (((Below.refl w.heap.size w).alloc (Nat.le_refl _) _).alloc (by simp) _) 1
 have r1:=zD b1 HR.out;refine zY [([0,1,2,3,4,5,6,7,8,9,10,11],12,false),([],13,false)] [14] (fun x=>row x B=some (srcC R s.1 s.2 c)) (by kernel_rfl) (by kernel_rfl) (fun _ _ _ _ _ h=>h) r1 ?_
 have rk:row (((w.alloc (.cells (ba 32 fun _=>0#8) 66)).alloc (.cells (ba 32 fun _=>0#8) 66)).drewN 1) w.heap.size=some (ba 32 fun _=>0#8):=by rw[zS];exact zN (zA _ _ _ _ rfl) _
 have rv:row (((w.alloc (.cells (ba 32 fun _=>0#8) 66)).alloc (.cells (ba 32 fun _=>0#8) 66)).drewN 1) (w.heap.size+1)=some (ba 32 fun _=>0#8):=by rw[zS];exact zA _ _ _ _ (by simp)
 have B1:=Lib.hid b1;obtain ⟨w1,hw1⟩:∃ w1,w1=(((w.alloc (.cells (ba 32 fun _=>0#8) 66)).alloc (.cells (ba 32 fun _=>0#8) 66)).drewN 1):=⟨_,rfl⟩
 rw[<-hw1] at B1 r1 rk rv ⊢;clear hw1 b1;have hne:Nonempty (In (fun x=>row x B=some (srcC R s.1 s.2 c))):=⟨⟨w1,r1⟩⟩
 have Q0:∀ x:In (fun x=>row x B=some (srcC R s.1 s.2 c)),row x.val B=some (srcC R s.1 s.2 c):=fun x=>x.ok
 have Q1:∀ x:In (fun x=>row x B=some (srcC R s.1 s.2 c)),x.val.cell? ⟨B,64,none⟩=some (.int .i64 c):=fun x=>src_cell x.ok
 simp only[wpFl,pk,List.getElem?_cons_zero,List.getElem?_cons_succ];refine zV ?_
 repeat (go_big_quiet_step (fail))
 refine wpQuiet_nil ?_;clear Q0 Q1 hne;go_wp2_with fail;have rv2:row (w1.setRow w.heap.size (ba 32 s.1)) (w.heap.size+1)=some (ba 32 fun _=>0#8):=by rw[zF _ _ _ _ (by omega)];exact rv
 have rk2:=zE rk (ba 32 s.1);have r2:row (w1.setRow w.heap.size (ba 32 s.1)) B=some (srcC R s.1 s.2 c):=by rw[zF _ _ _ _ (by omega)];exact r1
 have B2:=Lib.hid (zG B1.out (Nat.le_refl _) (ba 32 s.1));refine ⟨fun x=>row x B=some (srcC R s.1 s.2 c),r2,by first|exact ⟨r2,fun _ h=>h⟩|exact .inr ⟨r2,fun _ h=>h⟩,?_⟩
 obtain ⟨w2,hw2⟩:∃ w2,w2=w1.setRow w.heap.size (ba 32 s.1):=⟨_,rfl⟩;rw[<-hw2] at rv2 rk2 B2 r2 ⊢;clear hw2 rv rk r1 B1;show wpQuiet _ _ _ _ _ _;refine wpQuiet_nil ?_;go_wp2_with fail;have rk3:row (w2.setRow (w.heap.size+1) (ba 32 s.2)) w.heap.size=some (ba 32 s.1):=by rw[zF _ _ _ _ (by omega)];exact rk2
 have rv3:=zE rv2 (ba 32 s.2);have r3:row (w2.setRow (w.heap.size+1) (ba 32 s.2)) B=some (srcC R s.1 s.2 c):=by rw[zF _ _ _ _ (by omega)];exact r2
 refine ⟨fun x=>row x B=some (srcC R s.1 s.2 c),r3,by first|exact ⟨r3,fun _ h=>h⟩|exact .inr ⟨r3,fun _ h=>h⟩,?_⟩
 show wpQuiet _ _ _ _ _ _;refine zV ?_;have hne:Nonempty (In (fun x=>row x B=some (srcC R s.1 s.2 c))):=⟨⟨_,r3⟩⟩
 repeat (go_big_quiet_step (fail))
 refine wpQuiet_nil ?_;go_wp2_with fail;refine bodyPost_ret (v:=.tuple #[.agg (ba 32 s.1),.agg (ba 32 s.2),.int .i64 c]) (res_cct Tryz.results74 _ _ w.heap.size (w.heap.size+1) _ _ _ _ rfl rk3 sum_u rfl (by rw[zI];exact sum_i) rfl rv3 sum_u rfl (by rw[zI];exact sum_i)) rfl ⟨rfl,?_⟩
 exact zG B2.out (by omega) _
theorem dof_any(k v:Bf)(c:Int)(w:World):
  Calls Tryz.prog 73 #[.agg (ba 32 k),.agg (ba 32 v),.int .i64 c] w fun e w'=>∃ g,e=.returned (.pointer (some ⟨g,0,none⟩))/\w.heap.size<=g/\row w' g=some (srcC #[] k v c)/\Below w.heap.size w w':=by
 go_enter Tryz.func73,Tryz.ntmps73;go_wp2_with fail;go_ret;refine ⟨_,rfl,?_,zA _ _ _ _ (by simp),(((Below.refl _ _).alloc (Nat.le_refl _) _).alloc (by simp) _).alloc (by simp;omega) _⟩
 omega
theorem dnew_any(b:Bf)(n cc:Nat)(A:Option Addr)(w:World)(ht:Tab w)(hs:Sl w w.heap.size A n cc b)(hn:n<=140737488354000):
  Calls Tryz.prog 28 #[.slice A n cc] w fun e w'=>∃ g,e=.returned (.pointer (some ⟨g,0,none⟩))/\w.heap.size<=g/\row w' g=some (srcC #[] (updS newS b n).1 (updS newS b n).2 1)/\Below w.heap.size w w':=by
 have HT:=Lib.hid ht;have HS:=Lib.hid hs;clear ht hs;go_enter Tryz.func28,Tryz.ntmps28;go_wp2_with fail;go_loopw [4,7] (fun _ iv wr=>∃ k:Nat,k<=32/\iv=.int .i64 k/\wr=w.alloc (.cells (srcC #[] (fun _=>0#8) (upto k (fun _=>1#8) fun _=>0#8) 0) 68)) (fun _ iv _=>32-(intOf iv).toNat)
 case atStart=>exact ⟨0,by omega,rfl,by rw[yP]⟩
 case round=>
  obtain ⟨k,hk,rfl,rfl⟩:=hrel;have r0:row (w.alloc (.cells (srcC #[] (fun _=>0#8) (upto k (fun _=>1#8) fun _=>0#8) 0) 68)) w.heap.size=some _:=zA _ _ _ _ rfl
  by_cases hlk:k<32
  ·have hd:decide ((k:Int)<32)=true:=by simp;omega
   have hc:=src_cellv r0 k hlk;have hf:=zJ r0 (32+k);have hst:=src_setv (R:=#[]) (k:=fun _=>0#8) (v:=upto k (fun _=>1#8) fun _=>0#8) (c:=0) k hlk 1#8
   rw[show upd (upto k (fun _=>1#8) fun _=>0#8) k 1#8=upto (k+1) (fun _=>1#8) fun _=>0#8 from yX k (fun _=>1#8) fun _=>0#8,show I 1#8=1 from rfl] at hst
   have HST:=Lib.hid hst;clear hst r0;go_wp2_with fail;go_roundw
   case rel=>exact ⟨k+1,by omega,by go_num,by rw[HST.out]⟩
   case measure=>simp[intOf];omega
  ·obtain rfl:k=32:=by omega
   have HV:=Lib.hid (show srcC #[] (fun _=>0#8) (upto 32 (fun _=>1#8) fun _=>0#8) 0=srcC #[] newS.1 newS.2 0 by unfold srcC newS;rw[xI])
   rw[HV.out] at r0 ⊢;have B1:=Lib.hid ((Below.refl w.heap.size w).alloc (Nat.le_refl _) (.cells (srcC #[] newS.1 newS.2 0) 68));obtain ⟨w1,hw1⟩:∃ w1,w1=w.alloc (.cells (srcC #[] newS.1 newS.2 0) 68):=⟨_,rfl⟩;rw[<-hw1] at r0 B1 ⊢;clear hw1;have R0:=Lib.hid r0;have hsz:=zK r0;have hpos:=HT.out.pos;have H1:=Lib.hid (dreseed_any newS 0 w.heap.size b n cc A w1 (HT.out.below B1.out HT.out.pos) r0 hpos ((HS.out.below B1.out).more (by omega)) hn (HS.out.off (Nat.le_refl _)))
   clear r0;go_wp2_with fail;refine H1.out.mono ?_;rintro e w2 ⟨rfl,hp2⟩;have R2:=Lib.hid (hp2.row R0.out);have B2:=Lib.hid (B1.out.trans (hp2.low (Nat.le_refl _) (by omega)))
   clear hp2 H1;go_wp2_with fail;go_ret;exact ⟨_,rfl,Nat.le_refl _,R2.out,B2.out⟩
end Go.Proofs.YteffjpdcghlnlaaGreatDoor.Oct
