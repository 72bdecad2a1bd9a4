import Derived.Laws.StructEq
import Derived.Deep.AppendSrc
import Derived.Test.YteffjpdcghlnlaaGreatDoorZfC
import Derived.Test.YteffjpdcghlnlaaGreatDoorZfD
set_option linter.unusedVariables false
set_option linter.unusedSimpArgs false
set_option maxHeartbeats 4000000
set_option maxRecDepth 20000
namespace Go.Proofs.YteffjpdcghlnlaaGreatDoor.Oct
structure Ve where
 m:Bf
 u:Int
 g:Bool
structure Rg where
 off:Bool
 l:List Ve
abbrev Ks:=List Rg
def ve0:Ve:=⟨fun _=>0#8,0,false⟩
def rg0:Rg:=⟨false,[]⟩
def rgAt(K:Ks)(id:Int):Rg:=K.getD (id-1).toNat rg0
def veAt(r:Rg)(v:Int):Ve:=r.l.getD (v-1).toNat ve0
def hasK(K:Ks)(id:Int):Bool:=decide (1<=id)&&decide (id<=(K.length:Int))
def hasV(K:Ks)(id v:Int):Bool:=hasK K id&&(decide (1<=v)&&decide (v<=((rgAt K id).l.length:Int)))
def putR(K:Ks)(id:Int)(r:Rg):Ks:=K.set (id-1).toNat r
def putV(r:Rg)(v:Int)(x:Ve):Rg:=⟨r.off,r.l.set (v-1).toNat x⟩
def okV(v:Ve):Prop:=(0<=v.u/\v.u<=16)/\(v.g=true->∀ i,i<32->v.m i=0#8)
def okR(r:Rg):Prop:=(1<=r.l.length/\r.l.length<=4)/\∀ v∈r.l,okV v
def okK(K:Ks):Prop:=K.length<=8/\∀ r∈K,okR r
def crE(K:Ks):Int:=if 8<=K.length then 134 else 0
def crN(K:Ks):Int:=if 8<=K.length then 0 else (K.length:Int)+1
def crK(K:Ks)(m:Bf):Ks:=if 8<=K.length then K else K++[⟨false,[⟨m,0,false⟩]⟩]
def rtE(K:Ks)(id:Int):Int:=if hasK K id=true then (if 4<=(rgAt K id).l.length then 134 else 0) else 130
def rtN(K:Ks)(id:Int):Int:=if rtE K id=0 then ((rgAt K id).l.length:Int)+1 else 0
def rtK(K:Ks)(id:Int)(m:Bf):Ks:=if rtE K id=0 then putR K id ⟨(rgAt K id).off,(rgAt K id).l++[⟨m,0,false⟩]⟩ else K
def swE(K:Ks)(id:Int):Int:=if hasK K id=true then 0 else 130
def swK(K:Ks)(id:Int)(on:Bool):Ks:=if hasK K id=true then putR K id ⟨!on,(rgAt K id).l⟩ else K
def dsE(K:Ks)(id v:Int):Int:=if hasV K id v=true then (if (veAt (rgAt K id) v).g=true then 132 else 0) else 130
def dsK(K:Ks)(id v:Int):Ks:=if dsE K id v=0 then putR K id (putV (rgAt K id) v ⟨fun _=>0#8,(veAt (rgAt K id) v).u,true⟩) else K
def lastV(r:Rg):Ve:=veAt r (r.l.length:Int)
def usE(K:Ks)(id:Int):Int:=
 if hasK K id=true then (if (rgAt K id).off=true then 131 else if (lastV (rgAt K id)).g=true then 132 else if 16<=(lastV (rgAt K id)).u then 133 else 0) else 130
def usV(K:Ks)(id:Int):Int:=if usE K id=0 then ((rgAt K id).l.length:Int) else 0
def usC(K:Ks)(id:Int):Int:=if usE K id=0 then (lastV (rgAt K id)).u else 0
def usM(K:Ks)(id:Int):Bf:=if usE K id=0 then (lastV (rgAt K id)).m else fun _=>0#8
def usK(K:Ks)(id:Int):Ks:=
 if usE K id=0 then putR K id (putV (rgAt K id) ((rgAt K id).l.length:Int) ⟨(lastV (rgAt K id)).m,(lastV (rgAt K id)).u+1,(lastV (rgAt K id)).g⟩) else K
def mtE(K:Ks)(id v:Int):Int:=if hasV K id v=true then (if (rgAt K id).off=true then 131 else if (veAt (rgAt K id) v).g=true then 132 else 0) else 130
def mtM(K:Ks)(id v:Int):Bf:=if mtE K id v=0 then (veAt (rgAt K id) v).m else fun _=>0#8
section
variable {K:Ks} {id v:Int}
theorem hasK_iff:hasK K id=true↔1<=id/\id<=(K.length:Int):=by unfold hasK;simp only[Bool.and_eq_true,decide_eq_true_eq]
theorem hasV_iff:hasV K id v=true↔(1<=id/\id<=(K.length:Int))/\1<=v/\v<=((rgAt K id).l.length:Int):=by
 unfold hasV;rw[Bool.and_eq_true,hasK_iff];simp only[Bool.and_eq_true,decide_eq_true_eq]
theorem rgAt_get(i:Nat)(h:i<K.length)(hi:(id-1).toNat=i):rgAt K id=K[i]:=by unfold rgAt;rw[hi];simp[h]
theorem veAt_get{r:Rg}(i:Nat)(h:i<r.l.length)(hi:(v-1).toNat=i):veAt r v=r.l[i]:=by unfold veAt;rw[hi];simp[h]
theorem rgAt_mem(h:hasK K id=true):rgAt K id∈K:=by
 obtain ⟨h1,h2⟩:=hasK_iff.1 h;rw[rgAt_get (id-1).toNat (by omega) rfl]
 exact List.getElem_mem _
theorem veAt_mem{r:Rg}(h1:1<=v)(h2:v<=(r.l.length:Int)):veAt r v∈r.l:=by
 rw[veAt_get (v-1).toNat (by omega) rfl]
 exact List.getElem_mem _
theorem putR_len(r:Rg):(putR K id r).length=K.length:=by unfold putR;rw[List.length_set]
theorem putV_len{r:Rg}(x:Ve):(putV r v x).l.length=r.l.length:=by unfold putV;rw[List.length_set]
theorem putR_ok{r:Rg}(h:okK K)(hr:okR r):okK (putR K id r):=by
 refine ⟨by rw[putR_len];exact h.1,fun y hy=>?_⟩
 unfold putR at hy;rcases List.mem_or_eq_of_mem_set hy with h1|h1
 ·exact h.2 y h1
 ·rw[h1];exact hr
theorem putV_ok{r:Rg}{x:Ve}(h:okR r)(hx:okV x):okR (putV r v x):=by
 refine ⟨by rw[putV_len];exact h.1,fun y hy=>?_⟩
 unfold putV at hy;rcases List.mem_or_eq_of_mem_set hy with h1|h1
 ·exact h.2 y h1
 ·rw[h1];exact hx
theorem okK.ring(h:okK K)(hk:hasK K id=true):okR (rgAt K id):=h.2 _ (rgAt_mem hk)
theorem okR.last{r:Rg}(h:okR r):okV (lastV r):=h.2 _ (veAt_mem (by have:=h.1.1;omega) (Int.le_refl _))
theorem ok_nil:okK []:=⟨Nat.zero_le _,fun r hr=>by cases hr⟩
theorem ok_new(m:Bf):okV ⟨m,0,false⟩:=⟨⟨Int.le_refl 0,show (0:Int)<=16 by decide⟩,fun e=>by cases e⟩
theorem crK_ok(h:okK K)(m:Bf):okK (crK K m):=by
 unfold crK
 split
 ·exact h
 ·refine ⟨by rw[List.length_append];simp;omega,fun r hr=>?_⟩
  rcases List.mem_append.1 hr with h1|h1
  ·exact h.2 r h1
  ·rw[List.mem_singleton] at h1
   subst h1;exact ⟨⟨by simp,by simp⟩,fun v hv=>by rw[List.mem_singleton] at hv;subst hv;exact ok_new m⟩
theorem rtE_zero(h:rtE K id=0):hasK K id=true/\(rgAt K id).l.length<4:=by
 unfold rtE at h
 by_cases h1:hasK K id=true
 ·rw[if_pos h1] at h
  by_cases h2:4<=(rgAt K id).l.length
  ·rw[if_pos h2] at h;omega
  ·exact ⟨h1,by omega⟩
 ·rw[if_neg h1] at h;omega
theorem rtK_ok(h:okK K)(m:Bf):okK (rtK K id m):=by
 unfold rtK
 split
 ·rename_i he
  obtain ⟨h1,h2⟩:=rtE_zero he;have hr:=h.ring h1;refine putR_ok h ⟨⟨by simp,by simp;omega⟩,fun v hv=>?_⟩
  rcases List.mem_append.1 hv with h3|h3
  ·exact hr.2 v h3
  ·rw[List.mem_singleton] at h3;subst h3;exact ok_new m
 ·exact h
theorem swK_ok(h:okK K)(on:Bool):okK (swK K id on):=by
 unfold swK
 split
 ·rename_i h1
  have hr:=h.ring h1;exact putR_ok h ⟨hr.1,hr.2⟩
 ·exact h
theorem dsE_zero(h:dsE K id v=0):hasV K id v=true/\(veAt (rgAt K id) v).g=false:=by
 unfold dsE at h
 by_cases h1:hasV K id v=true
 ·rw[if_pos h1] at h
  cases hg:(veAt (rgAt K id) v).g
  ·exact ⟨h1,rfl⟩
  ·rw[hg,if_pos rfl] at h;omega
 ·rw[if_neg h1] at h;omega
theorem dsK_ok(h:okK K):okK (dsK K id v):=by
 unfold dsK
 split
 ·rename_i he
  obtain ⟨h1,_⟩:=dsE_zero he;obtain ⟨h2,h3,h4⟩:=hasV_iff.1 h1;have hr:=h.ring (hasK_iff.2 h2);exact putR_ok h (putV_ok hr ⟨(hr.2 _ (veAt_mem h3 h4)).1,fun _ _ _=>rfl⟩)
 ·exact h
theorem usE_zero(h:usE K id=0):hasK K id=true/\(rgAt K id).off=false/\(lastV (rgAt K id)).g=false/\(lastV (rgAt K id)).u<16:=by
 unfold usE at h
 by_cases h1:hasK K id=true
 ·rw[if_pos h1] at h
  cases h2:(rgAt K id).off
  ·cases h3:(lastV (rgAt K id)).g
   ·by_cases h4:16<=(lastV (rgAt K id)).u
    ·rw[h2,h3,if_neg (by decide),if_neg (by decide),if_pos h4] at h;omega
    ·exact ⟨h1,rfl,rfl,by omega⟩
   ·rw[h2,h3,if_neg (by decide),if_pos rfl] at h;omega
  ·rw[h2,if_pos rfl] at h;omega
 ·rw[if_neg h1] at h;omega
theorem usK_ok(h:okK K):okK (usK K id):=by
 unfold usK
 split
 ·rename_i he
  obtain ⟨h1,_,h3,h4⟩:=usE_zero he;have hr:=h.ring h1;have hl:=hr.last;exact putR_ok h (putV_ok hr ⟨⟨by have:=hl.1.1;show 0<=(lastV (rgAt K id)).u+1;omega,by show (lastV (rgAt K id)).u+1<=16;omega⟩,fun e=>by rw[h3] at e;cases e⟩)
 ·exact h
end
open Go.RowKit
@[irreducible] def veC(v:Ve):List Value:=(ba 32 v.m).toList++[.int .i64 v.u,.bool v.g]
section
variable (v:Ve)
theorem veC_len:(veC v).length=34:=by unfold veC;simp[zI]
theorem veC_m(i:Nat)(h:i<32):(veC v)[i]? =some (.int .u8 (I (v.m i))):=by
 unfold veC;rw[List.getElem?_append_left (by rw[Array.length_toList,zI];exact h),Array.getElem?_toList,yA _ _ _ h]
theorem veC_u:(veC v)[32]? =some (.int .i64 v.u):=by
 unfold veC;rw[List.getElem?_append_right (by rw[Array.length_toList,zI];omega),Array.length_toList,zI];rfl
theorem veC_g:(veC v)[33]? =some (.bool v.g):=by
 unfold veC;rw[List.getElem?_append_right (by rw[Array.length_toList,zI];omega),Array.length_toList,zI];rfl
theorem veC_one:∀ x∈veC v,x.oneCell'=true:=by
 intro x hx;obtain ⟨i,hi,e⟩:=List.mem_iff_getElem.1 hx;rw[veC_len] at hi;have e2:(veC v)[i]? =some x:=by rw[List.getElem?_eq_getElem (by rw[veC_len];exact hi),e]
 by_cases h1:i<32
 ·rw[veC_m v i h1] at e2;cases e2;rfl
 ·by_cases h2:i=32
  ·subst h2;rw[veC_u] at e2;cases e2;rfl
  ·obtain rfl:i=33:=by omega
   rw[veC_g] at e2;cases e2;rfl
end
theorem veC_setU(v:Ve)(u:Int):(veC v).set 32 (.int .i64 u)=veC ⟨v.m,u,v.g⟩:=by
 unfold veC;rw[List.set_append_right _ _ (by rw[Array.length_toList,zI];omega),Array.length_toList,zI];rfl
theorem veC_setG(v:Ve)(g:Bool):(veC v).set 33 (.bool g)=veC ⟨v.m,v.u,g⟩:=by
 unfold veC;rw[List.set_append_right _ _ (by rw[Array.length_toList,zI];omega),Array.length_toList,zI];rfl
def vsC(l:List Ve):List Value:=l.flatMap veC
theorem vsC_len(l:List Ve):(vsC l).length=l.length*34:=by
 unfold vsC
 induction l with
 |nil=>rfl
 |cons x l ih=>rw[List.flatMap_cons,List.length_append,veC_len,ih,List.length_cons];omega
theorem vsC_app(l m:List Ve):vsC (l++m)=vsC l++vsC m:=by unfold vsC;rw[List.flatMap_append]
theorem vsC_one1(x:Ve):vsC [x]=veC x:=by unfold vsC;simp
theorem vsC_get(l:List Ve):∀ (i j:Nat) (h:i<l.length),j<34->(vsC l)[i*34+j]? =(veC l[i])[j]? :=by
 induction l with
 |nil=>intro i j h;exact absurd h (by simp)
 |cons x l ih=>
  intro i j h hj;have e:vsC (x::l)=veC x++vsC l:=by unfold vsC;rw[List.flatMap_cons]
  rw[e]
  cases i with
  |zero=>rw[List.getElem?_append_left (by rw[veC_len];omega)];simp
  |succ i=>
   rw[List.getElem?_append_right (by rw[veC_len];omega),veC_len,show (i+1)*34+j-34=i*34+j by omega,ih i j (by simpa using h) hj]
   rfl
theorem vsC_one(l:List Ve):∀ x∈vsC l,x.oneCell'=true:=by
 intro x hx;unfold vsC at hx;obtain ⟨v,_,h⟩:=List.mem_flatMap.1 hx;exact veC_one v x h
structure VsAt(T:Mk)(w:World)(t:Nat)(e:TypeId)(v:Value)(l:List Ve):Prop where
 own:w.ownsRow 0 e 34 v l.length (vsC l)
 tg:∀ g,v.ownBlock=some g->T g=t
section
variable {T T' T2:Mk} {H:Nat->Prop} {w w':World} {t:Nat} {e:TypeId} {v:Value} {l:List Ve}
theorem ownsRow_fr{n k:Nat}{xs:List Value}(h:w.ownsRow 0 e k v n xs)(tg:∀ g,v.ownBlock=some g->T g=t)(hf:Fr T T' H w w')(ht:¬ H t):w'.ownsRow 0 e k v n xs:=by
 refine ⟨h.1,?_⟩;rcases h.2 with hn|⟨g,cap,cur,rfl,hb,hg,rest⟩
 ·exact .inl hn
 ·exact .inr ⟨g,cap,cur,rfl,hb,by rw[hf.keep g (Array.getElem?_eq_some_iff.1 hg).1 (by rw[tg g rfl];exact ht)];exact hg,rest⟩
theorem tg_fr{n k:Nat}{xs:List Value}(h:w.ownsRow 0 e k v n xs)(tg:∀ g,v.ownBlock=some g->T g=t)(hf:Fr T T' H w w'):∀ g,v.ownBlock=some g->T' g=t:=
 fun g hg=>by rw[hf.tag g (World.ownsRow.lt h g hg).2];exact tg g hg
theorem VsAt.fr(h:VsAt T w t e v l)(hf:Fr T T' H w w')(ht:¬ H t):VsAt T' w' t e v l:=⟨ownsRow_fr h.own h.tg hf ht,tg_fr h.own h.tg hf⟩
theorem VsAt.nil:VsAt T w t e (.slice none 0 0) []:=⟨World.ownsRow_nil _ _ _ _,fun g hg=>by cases hg⟩
theorem VsAt.form(h:VsAt T w t e v l):∃ A c,v=.slice A l.length c/\l.length<=c/\c<=maxLen/\(0<l.length->∃ g cur,A=some ⟨g,0,none⟩/\T g=t/\Oct.row w g=some cur/\w.heap[g]? =some (.cells cur e (0,0))/\cur.size=c*34/\∀ i j (hi:i<l.length),j<34->cur[i*34+j]? =(veC l[i])[j]?):=by
 rcases h.own.2 with ⟨rfl,h0⟩|⟨g,cap,cur,rfl,hb,hg,hc,hm,hcs,htk⟩
 ·obtain rfl:=List.length_eq_zero_iff.1 h0
  exact ⟨none,0,rfl,Nat.le_refl _,Nat.zero_le _,fun hn=>absurd hn (by omega)⟩
 ·refine ⟨some ⟨g,0,none⟩,cap,rfl,hc,hm,fun hn=>⟨g,cur,rfl,h.tg g rfl,row_of hg,hg,hcs,fun i j hi hj=>?_⟩⟩
  rw[<-vsC_get l i j hi hj,<-htk,List.getElem?_take,if_pos (by omega),Array.getElem?_toList]
theorem VsAt.app{m:List Ve}{v':Value}(h:VsAt T w t e v l)(h1:w'.ownsRow 0 e 34 v' (l.length+m.length) (vsC l++vsC m))(h2:w.grownBy w' v.ownBlock)(h3:v'.ownBlock=v.ownBlock\/v'.ownBlock=some w.heap.size):
  VsAt (paint T w.heap.size t) w' t e v' (l++m):=by
 refine ⟨by rw[List.length_append,vsC_app];exact h1,fun g hg=>?_⟩
 rcases h3 with e'|e'
 ·rw[e'] at hg
  rw[zH (World.ownsRow.lt h.own g hg).2];exact h.tg g hg
 ·rw[e'] at hg
  cases hg;exact zP (Nat.le_refl _)
end
structure VRd(w:World)(v:Value)(l:List Ve):Prop where
 at_:∃ A c,v=.slice A l.length c/\l.length<=c/\c<=maxLen/\(A=none->c=0)/\(0<l.length->∃ g o,A=some ⟨g,o,none⟩/\g<w.heap.size/\∀ i j (hi:i<l.length),j<34->w.cell? ⟨g,o+i*34+j,none⟩=(veC l[i])[j]?)
structure RRd(w:World)(v:Value)(K:Ks):Prop where
 at_:∃ A c,v=.slice A K.length c/\K.length<=c/\c<=maxLen/\(0<K.length->∃ g o,A=some ⟨g,o,none⟩/\g<w.heap.size/\∀ i (hi:i<K.length),w.cell? ⟨g,o+i*2,none⟩=some (.bool K[i].off)/\∃ vi,w.cell? ⟨g,o+i*2+1,none⟩=some vi/\VRd w vi K[i].l)
theorem VRd.below{w w':World}{v:Value}{l:List Ve}(h:VRd w v l)(hb:Below w.heap.size w w'):VRd w' v l:=by
 obtain ⟨A,c,e,h1,h2,h4,h3⟩:=h.at_;refine ⟨A,c,e,h1,h2,h4,fun hn=>?_⟩
 obtain ⟨g,o,e2,hg,hc⟩:=h3 hn;refine ⟨g,o,e2,Nat.lt_of_lt_of_le hg hb.size,fun i j hi hj=>?_⟩
 rw[World.cell?_of_block (w:=w) (hb.block g hg)];exact hc i j hi hj
theorem RRd.below{w w':World}{v:Value}{K:Ks}(h:RRd w v K)(hb:Below w.heap.size w w'):RRd w' v K:=by
 obtain ⟨A,c,e,h1,h2,h3⟩:=h.at_;refine ⟨A,c,e,h1,h2,fun hn=>?_⟩
 obtain ⟨g,o,e2,hg,hc⟩:=h3 hn;refine ⟨g,o,e2,Nat.lt_of_lt_of_le hg hb.size,fun i hi=>?_⟩
 obtain ⟨h4,vi,h5,h6⟩:=hc i hi;exact ⟨by rw[World.cell?_of_block (w:=w) (hb.block g hg)];exact h4,vi,by rw[World.cell?_of_block (w:=w) (hb.block g hg)];exact h5,h6.below hb⟩
structure RsAt(T:Mk)(w:World)(t:Nat)(eR eV:TypeId)(v:Value)(K:Ks):Prop where
 own:∃ xs,w.ownsRow 0 eR 2 v K.length xs/\∀ i (h:i<K.length),xs[i*2]? =some (.bool K[i].off)/\∃ vi,xs[i*2+1]? =some vi/\VsAt T w (t+1+i) eV vi K[i].l
 tg:∀ g,v.ownBlock=some g->T g=t
section
variable {T T':Mk} {H:Nat->Prop} {w w':World} {t:Nat} {eR eV:TypeId} {v:Value} {K:Ks}
theorem RsAt.nil:RsAt T w t eR eV (.slice none 0 0) []:=⟨⟨[],World.ownsRow_nil _ _ _ _,fun i hi=>absurd hi (by simp)⟩,fun g hg=>by cases hg⟩
theorem RsAt.fr(h:RsAt T w t eR eV v K)(hf:Fr T T' H w w')(hn:∀ c,t<=c->c<=t+K.length->¬ H c):RsAt T' w' t eR eV v K:=by
 obtain ⟨xs,h1,h2⟩:=h.own;refine ⟨⟨xs,ownsRow_fr h1 h.tg hf (hn t (Nat.le_refl _) (by omega)),fun i hi=>?_⟩,tg_fr h1 h.tg hf⟩
 obtain ⟨h3,vi,h4,h5⟩:=h2 i hi;exact ⟨h3,vi,h4,h5.fr hf (hn _ (by omega) (by omega))⟩
theorem VsAt.rd{e:TypeId}{l:List Ve}(h:VsAt T w t e v l):VRd w v l:=by
 obtain ⟨A,c,e1,h1,h2,h3⟩:=h.form;refine ⟨A,c,e1,h1,h2,fun hA=>?_,fun hn=>?_⟩
 ·rcases h.own.2 with ⟨e2,h0⟩|⟨g,cap,cur,e2,_⟩
  ·rw[e1] at e2;simp only[Value.slice.injEq] at e2;exact e2.2.2
  ·rw[e1,hA] at e2;simp at e2
 ·obtain ⟨g,cur,e2,_,hr,hh,hs,hc⟩:=h3 hn
  refine ⟨g,0,e2,zK hr,fun i j hi hj=>?_⟩
  rw[Nat.zero_add,zC hr];exact hc i j hi hj
theorem RsAt.form(h:RsAt T w t eR eV v K):∃ A c,v=.slice A K.length c/\K.length<=c/\c<=maxLen/\(0<K.length->∃ g cur,A=some ⟨g,0,none⟩/\T g=t/\Oct.row w g=some cur/\w.heap[g]? =some (.cells cur eR (0,0))/\cur.size=c*2/\
  ∀ i (hi:i<K.length),cur[i*2]? =some (.bool K[i].off)/\∃ vi,cur[i*2+1]? =some vi/\VsAt T w (t+1+i) eV vi K[i].l):=by
 obtain ⟨xs,h1,h2⟩:=h.own;rcases h1.2 with ⟨rfl,h0⟩|⟨g,cap,cur,rfl,hb,hg,hc,hm,hcs,htk⟩
 ·obtain rfl:=List.length_eq_zero_iff.1 h0
  exact ⟨none,0,rfl,Nat.le_refl _,Nat.zero_le _,fun hn=>absurd hn (by omega)⟩
 ·refine ⟨some ⟨g,0,none⟩,cap,rfl,hc,hm,fun hn=>⟨g,cur,rfl,h.tg g rfl,row_of hg,hg,hcs,fun i hi=>?_⟩⟩
  obtain ⟨h3,vi,h4,h5⟩:=h2 i hi;have e:∀ j,j<K.length*2->cur[j]? =xs[j]? :=fun j hj=>by rw[<-htk,List.getElem?_take,if_pos hj,Array.getElem?_toList]
  exact ⟨by rw[e _ (by omega)];exact h3,vi,by rw[e _ (by omega)];exact h4,h5⟩
theorem RsAt.rd(h:RsAt T w t eR eV v K):RRd w v K:=by
 obtain ⟨A,c,e1,h1,h2,h3⟩:=h.form;refine ⟨A,c,e1,h1,h2,fun hn=>?_⟩
 obtain ⟨g,cur,e2,_,hr,_,_,hc⟩:=h3 hn;refine ⟨g,0,e2,zK hr,fun i hi=>?_⟩
 obtain ⟨h4,vi,h5,h6⟩:=hc i hi;exact ⟨by rw[Nat.zero_add,zC hr];exact h4,vi,by rw[Nat.zero_add,zC hr];exact h5,h6.rd⟩
theorem RsAt.app{r:Rg}{vi:Value}{v':Value}{xs:List Value}(h:RsAt T w t eR eV v K)(hxs:w.ownsRow 0 eR 2 v K.length xs)
  (hel:∀ i (h:i<K.length),xs[i*2]? =some (.bool K[i].off)/\∃ vi,xs[i*2+1]? =some vi/\VsAt T w (t+1+i) eV vi K[i].l)
  (h1:w'.ownsRow 0 eR 2 v' (K.length+1) (xs++[.bool r.off,vi])) (h2:w.grownBy w' v.ownBlock) (h3:v'.ownBlock=v.ownBlock\/v'.ownBlock=some w.heap.size)
  (hv:VsAt T w (t+1+K.length) eV vi r.l):RsAt (paint T w.heap.size t) w' t eR eV v' (K++[r]):=by
 have hf:Fr T (paint T w.heap.size t) (fun c=>c=t) w w':=Fr.grown h2 (fun g hg=>h.tg g hg) t
 have hl:=hxs.1;refine ⟨⟨_,by rw[List.length_append];exact h1,fun i hi=>?_⟩,fun g hg=>?_⟩
 ·by_cases hlt:i<K.length
  ·obtain ⟨h4,wi,h5,h6⟩:=hel i hlt
   rw[List.getElem_append_left hlt];exact ⟨by rw[List.getElem?_append_left (by omega)];exact h4,wi,by rw[List.getElem?_append_left (by omega)];exact h5,h6.fr hf (by omega)⟩
  ·obtain rfl:i=K.length:=by simp at hi;omega
   rw[List.getElem_append_right (Nat.le_refl _)];refine ⟨by rw[List.getElem?_append_right (by omega),hl,Nat.sub_self];simp,vi,by rw[List.getElem?_append_right (by omega),hl,Nat.add_sub_cancel_left];rfl,?_⟩
   simpa using hv.fr hf (by omega)
 ·rcases h3 with e|e
  ·rw[e] at hg
   rw[zH (World.ownsRow.lt hxs g hg).2];exact h.tg g hg
  ·rw[e] at hg
   cases hg;exact zP (Nat.le_refl _)
end
structure KAt(T:Mk)(w:World)(t:Nat)(eR eV:TypeId)(B:Nat)(K:Ks):Prop where
 tg:T B=t
 row:∃ v,Oct.row w B=some #[v]/\RsAt T w (t+1) eR eV v K
 ok:okK K
def Hk(t:Nat):Nat->Prop:=fun c=>t<=c/\c<=t+9
theorem KAt.fr{T T':Mk}{H:Nat->Prop}{w w':World}{t B:Nat}{eR eV:TypeId}{K:Ks}(h:KAt T w t eR eV B K)(hf:Fr T T' H w w')(hn:∀ c,Hk t c->¬ H c):KAt T' w' t eR eV B K:=by
 obtain ⟨v,hr,h2⟩:=h.row;have hl:=h.ok.1;exact ⟨by rw[hf.tag B (zK hr)];exact h.tg,⟨v,hf.rowAt hr (by rw[h.tg];exact hn t ⟨by omega,by omega⟩),h2.fr hf fun c h3 h4=>hn c ⟨by omega,by omega⟩⟩,h.ok⟩
theorem spl_sizeK:∀ (vs:List Value) (o:Nat) (c:Array Value),(spl c o vs).size=c.size
 |[],_,_=>rfl
 |v::r,o,c=>by simp only[spl];rw[spl_sizeK r];simp
section
variable {T T' T2:Mk} {H:Nat->Prop} {w w':World} {t:Nat} {e:TypeId} {v:Value} {l:List Ve}
end
@[irreducible] def flt(fs:List (Array Value)):Array Value:=(fs.flatMap Array.toList).toArray
def szs:List (Array Value)->Nat
 |[]=>0
 |c::r=>c.size+szs r
theorem szs_cons(c:Array Value)(r:List (Array Value)):szs (c::r)=c.size+szs r:=rfl
theorem szs_app(a b:List (Array Value)):szs (a++b)=szs a+szs b:=by
 induction a with
 |nil=>simp[szs]
 |cons c r ih=>simp only[List.cons_append,szs,ih];omega
theorem flat_len(fs:List (Array Value)):(fs.flatMap Array.toList).length=szs fs:=by
 induction fs with
 |nil=>rfl
 |cons c r ih=>simp only[List.flatMap_cons,List.length_append,szs,ih,Array.length_toList]
theorem flt_size(fs:List (Array Value)):(flt fs).size=szs fs:=by unfold flt;rw[List.size_toArray,flat_len]
theorem flt_at(pre post:List (Array Value))(c:Array Value)(k:Nat):(flt (pre++c::post))[k]? =if k<szs pre then (flt pre)[k]? else if k<szs pre+c.size then c[k-szs pre]? else (flt post)[k-szs pre-c.size]? :=by
 unfold flt;simp only[List.getElem?_toArray,List.flatMap_append,List.flatMap_cons]
 by_cases h:k<szs pre
 ·rw[if_pos h,List.getElem?_append_left (by rw[flat_len];exact h)]
 ·rw[if_neg h,List.getElem?_append_right (by rw[flat_len];omega),flat_len]
  by_cases h2:k<szs pre+c.size
  ·rw[if_pos h2,List.getElem?_append_left (by rw[Array.length_toList];omega),Array.getElem?_toList]
  ·rw[if_neg h2,List.getElem?_append_right (by rw[Array.length_toList];omega),Array.length_toList]
theorem flt_get(pre post:List (Array Value))(c:Array Value){o j:Nat}(ho:o=szs pre)(h:j<c.size):(flt (pre++c::post))[o+j]? =c[j]? :=by
 subst ho;rw[flt_at,if_neg (by omega),if_pos (by omega),Nat.add_sub_cancel_left]
theorem flt_ext(pre post:List (Array Value))(c:Array Value):(flt (pre++c::post)).extract (szs pre) (szs pre+c.size)=c:=by
 apply Array.ext_getElem?;intro j;rw[Array.getElem?_extract,flt_size,szs_app,szs_cons]
 by_cases h:j<c.size
 ·rw[if_pos (by omega),flt_get pre post c rfl h]
 ·rw[if_neg (by omega),Array.getElem?_eq_none (by omega)]
theorem flt_set(pre post:List (Array Value))(c:Array Value){o j:Nat}(v:Value)(ho:o=szs pre)(h:j<c.size):(flt (pre++c::post)).setIfInBounds (o+j) v=flt (pre++c.setIfInBounds j v::post):=by
 subst ho;apply Array.ext_getElem?;intro k;rw[Array.getElem?_setIfInBounds,flt_at,flt_at,flt_size,szs_app,szs_cons,Array.size_setIfInBounds]
 by_cases hk:szs pre+j=k
 ·subst hk
  rw[if_pos rfl,if_pos (by omega),if_neg (by omega),if_pos (by omega),Nat.add_sub_cancel_left,Array.getElem?_setIfInBounds,if_pos rfl,if_pos h]
 ·rw[if_neg hk]
  split
  ·rfl
  ·split
   ·rw[Array.getElem?_setIfInBounds,if_neg (by omega)]
   ·rfl
theorem flt_spl(pre post:List (Array Value))(c c':Array Value){o:Nat}(ho:o=szs pre)(h:c'.size=c.size):spl (flt (pre++c::post)) o c'.toList=flt (pre++c'::post):=by
 subst ho;apply Array.ext_getElem?;intro k;rw[yU _ _ _ _ (by rw[flt_size,szs_app,szs_cons,Array.length_toList];omega),flt_at,flt_at,Array.length_toList,h]
 by_cases h1:k<szs pre
 ·rw[if_neg (by omega),if_pos h1,if_pos h1]
 ·rw[if_neg h1,if_neg h1]
  by_cases h2:k<szs pre+c.size
  ·rw[if_pos ⟨by omega,h2⟩,if_pos h2,Array.getElem?_toList]
  ·rw[if_neg (by omega),if_neg h2,if_neg h2]
theorem flt_ones(fs:List (Array Value))(h:∀ c∈fs,Ones c):Ones (flt fs):=by
 unfold Ones flt;rw[Array.all_eq_true_iff_forall_mem];intro v hv;obtain ⟨c,hc,hm⟩:=List.mem_flatMap.1 (by simpa using hv:v∈fs.flatMap Array.toList)
 exact (Array.all_eq_true_iff_forall_mem.1 (h c hc)) v (by simpa using hm)
theorem ldR_flt(P:Program)(t m:Nat)(w:World)(b:Nat){o:Nat}(pre post:List (Array Value))(c:Array Value)(ho:o=szs pre)(hm:m=c.size):ldR P t m w b o (some (flt (pre++c::post)))=.ok (.agg c) w:=by
 subst ho hm;unfold ldR;have e:szs pre+c.size<=(flt (pre++c::post)).size:=by rw[flt_size,szs_app,szs_cons];omega
 simp only[if_pos e];rw[flt_ext]
theorem xJ(P:Program)(t m:Nat)(w:World)(b:Nat)(c:Array Value)(hm:m=c.size):ldR P t m w b 0 (some c)=.ok (.agg c) w:=by
 subst hm;unfold ldR;simp only[Nat.zero_add];rw[if_pos (Nat.le_refl _),Array.extract_size]
theorem stR_flt(P:Program)(t m:Nat)(w:World)(b:Nat){o:Nat}(pre post:List (Array Value))(c c':Array Value)(ho:o=szs pre)(hm:m=c.size)(hc:c'.size=c.size)(h1:Ones c'):
  stR P t m w b o (.agg c') (some (flt (pre++c::post)))=.ok () (w.setRow b (flt (pre++c'::post))):=by
 have e:o+m<=(flt (pre++c::post)).size/\(Value.agg c').cells.size=m/\Ones (Value.agg c').cells:=⟨by rw[flt_size,szs_app,szs_cons];omega,by rw[hm,<-hc];rfl,h1⟩
 unfold stR;simp only[if_pos e];exact congrArg (fun c=>Result.ok () (w.setRow b c)) (flt_spl pre post c c' ho hc)
theorem stR_whole(P:Program)(t m:Nat)(w:World)(b:Nat)(c c':Array Value)(hm:m=c.size)(hc:c'.size=c.size)(h1:Ones c'):stR P t m w b 0 (.agg c') (some c)=.ok () (w.setRow b c'):=by
 have e:0+m<=c.size/\(Value.agg c').cells.size=m/\Ones (Value.agg c').cells:=⟨by omega,by rw[hm,<-hc];rfl,h1⟩
 unfold stR;simp only[if_pos e];refine congrArg (fun c=>Result.ok () (w.setRow b c)) ?_
 apply Array.ext_getElem?;intro k;show (spl c 0 c'.toList)[k]? =_;rw[yU _ _ _ _ (by rw[Array.length_toList];omega),Array.length_toList,Nat.zero_add]
 by_cases hk:k<c'.size
 ·rw[if_pos ⟨Nat.zero_le _,hk⟩,Array.getElem?_toList,Nat.sub_zero]
 ·rw[if_neg (by omega),Array.getElem?_eq_none (by omega),Array.getElem?_eq_none (by omega)]
theorem fold_spl(v:Array Value)(o:Nat)(cells:Array Value):v.zipIdx.foldl (fun cs (c,j)=>cs.setIfInBounds (o+j) c) cells=spl cells o v.toList:=by
 have key:∀ (vs:List Value) (i:Nat) (cs:Array Value),(vs.zipIdx i).foldl (fun cs (c,j)=>cs.setIfInBounds (o+j) c) cs=spl cs (o+i) vs:=by
  intro vs
  induction vs with
  |nil=>intro i cs;rfl
  |cons x r ih=>intro i cs;simp only[List.zipIdx_cons,List.foldl_cons,ih (i+1),spl];rfl
 have h:=key v.toList 0 cells;rw[Nat.add_zero] at h;rw[<-h,<-Array.foldl_toList,Array.toList_zipIdx]
theorem xH{place:Nat->Option (Nat×Nat)}{pre post:List (Array Value)}{c:Array Value}{i o m:Nat}{v:Value}{rest:List (Nat×Value)}(hp:place i=some (o,m))(ho:o=szs pre)(hm:m=c.size)(hv:v.cells.size=c.size):
  Instr.fill place (flt (pre++c::post)) ((i,v)::rest)=Instr.fill place (flt (pre++v.cells::post)) rest:=by
 have hs:(flt (pre++c::post)).size=szs pre+(c.size+szs post):=by rw[flt_size,szs_app];rfl
 rw[Instr.fill];simp only[hp];rw[if_neg (by simp only[ne_eq,Bool.or_eq_true,decide_eq_true_eq];omega),fold_spl,flt_spl pre post c v.cells ho hv]
theorem run_lit{P:Program}(t:TypeId)(yI:Array (Nat×Value))(z cells:Array Value)(places:List (Nat×Nat))
  (hz:(P.info? t).map (·.zero)=some (some (.agg z))) (hp:(P.underlying t).bind (fun d=>match d with| .struct fs=>fs.toList.mapM (fun f=>(P.info? f.type).map fun i=>(f.offset,i.size))|_=>none)=some places)
  (hf:Instr.fill (places.toArray[·]?) z yI.toList=some cells) (w:World):(Instr.build t yI).run P w=.ok (.agg cells) w:=by
 refine run_build w t yI cells ?_;unfold Program.built
 cases hq:P.info? t with
 |none=>rw[hq] at hz;cases hz
 |some it=>
  cases hu:P.underlying t with
  |none=>rw[hu] at hp;cases hp
  |some d=>
   rw[hu] at hp;rw[hq] at hz;have hz':it.zero=some (.agg z):=Option.some.inj hz;cases d<;>first|(simp at hp;done)|skip
   rename_i fs
   have hp':fs.toList.mapM (fun f=>(P.info? f.type).map fun i=>(f.offset,i.size))=some places:=hp
   simp only[hz',hp'];exact hf
def bdA(t:TypeId)(yI:Array (Nat×Value)):Sem Value:=Instr.build t yI
open Go.ChangeShapes Go.WideShapes Go.ChangeAt
theorem ld_ruleK{P:Program}(t:TypeId)(d:TypeDesc)(hu:P.underlying t=some d)(hd:d.isRow=true)(m:Nat)(hi:(P.info? t).map (·.size)=some m)(w:World)(b o:Nat):
  (ldA t (.pointer (some ⟨b,o,none⟩))).run P w=ldR P t m w b o (row w b):=by
 unfold ldR
 split
 ·rename_i c hr
  split
  ·rename_i hc
   obtain ⟨t',ht⟩:=row_is hr;have hx:=run_loadAt_mid (P:=P) w b o t (c.extract o (o+m)).toList _ (World.rangeAt_of_block ht o m) hu hd (by rw[hi];simp;omega)
   rw[Array.toArray_toList] at hx;exact hx
  ·rfl
 ·rfl
theorem kk_u:Tryz.prog.underlying 61=some (.array 32 5):=by kernel_rfl
theorem kk_i:(Tryz.prog.info? 61).map (·.size)=some 32:=by kernel_rfl
@[go_sem ↓] theorem kk_l(p:Value):Instr.loadAt 61 p=ldA 61 p:=rfl
@[go_sem ↓] theorem kk_s(p v:Value):Instr.storeAt 61 p v=stA 61 p v:=rfl
@[go_sem] theorem kk_ld(w:World)(b o:Nat):(ldA 61 (.pointer (some ⟨b,o,none⟩))).run Tryz.prog w=ldR Tryz.prog 61 32 w b o (row w b):=xG _ _ _ kk_u 32 kk_i w b o
@[go_sem] theorem kk_st(w:World)(b o:Nat)(c:Array Value):(stA 61 (.pointer (some ⟨b,o,none⟩)) (.agg c)).run Tryz.prog w=stR Tryz.prog 61 32 w b o (.agg c) (row w b):=yR _ 32 kk_i w b o c
theorem kk_z:(Tryz.prog.info? 61).map (·.zero)=some (some (.agg (ba 32 fun _=>0#8))):=by unfold ba;kernel_rfl
@[go_sem ↓] theorem kk_zero(w:World):(zeroValue 61).run Tryz.prog w=.ok (.agg (ba 32 fun _=>0#8)) w:=yG _ _ kk_z w
@[go_sem] theorem kk_eq(d:Nat)(f g:Nat->BitVec 8)(w:World):(Op.equalIn (d+2) 61 (.agg (ba 32 f)) (.agg (ba 32 g))).run Tryz.prog w=.ok (eqB 32 f g) w:=eq_bytes _ 32 d _ .u8 kk_u u8_u u8_i f g w
@[irreducible] def veA(v:Ve):Array Value:=(veC v).toArray
@[go_sem] theorem veA_size(v:Ve):(veA v).size=34:=by unfold veA;rw[List.size_toArray,veC_len]
theorem veA_flt(v:Ve):veA v=flt [ba 32 v.m,#[.int .i64 v.u],#[.bool v.g]]:=by
 unfold veA veC flt;congr 1
theorem veA_list(v:Ve):(veA v).toList=veC v:=by unfold veA;rfl
theorem veA_ones(v:Ve):Ones (veA v):=by
 show (veA v).all _=true;rw[<-Array.all_toList,veA_list,List.all_eq_true];exact veC_one v
@[go_sem] theorem veA_ldm(P:Program)(T:Nat)(v:Ve)(w:World)(B:Nat):ldR P T 32 w B 0 (some (veA v))=.ok (.agg (ba 32 v.m)) w:=by
 rw[veA_flt];exact ldR_flt P T 32 w B [] _ _ rfl (by rw[zI])
@[go_sem] theorem veA_ldw(P:Program)(T:Nat)(v:Ve)(w:World)(B:Nat):ldR P T 34 w B 0 (some (veA v))=.ok (.agg (veA v)) w:=xJ P T 34 w B _ (veA_size v).symm
@[go_sem] theorem veA_stw(P:Program)(T:Nat)(v x:Ve)(w:World)(B:Nat):stR P T 34 w B 0 (.agg (veA x)) (some (veA v))=.ok () (w.setRow B (veA x)):=stR_whole P T 34 w B _ _ (veA_size v).symm (by rw[veA_size,veA_size]) (veA_ones x)
@[go_sem] theorem veA_g32(v:Ve):(veA v)[32]? =some (.int .i64 v.u):=by rw[<-Array.getElem?_toList,veA_list,veC_u]
@[go_sem] theorem veA_g33(v:Ve):(veA v)[33]? =some (.bool v.g):=by rw[<-Array.getElem?_toList,veA_list,veC_g]
@[go_sem] theorem veA_e32(v:Ve)(h:32<(veA v).size):(veA v)[32]=.int .i64 v.u:=by have:=veA_g32 v;rw[Array.getElem?_eq_getElem h] at this;exact Option.some.inj this
@[go_sem] theorem veA_e33(v:Ve)(h:33<(veA v).size):(veA v)[33]=.bool v.g:=by have:=veA_g33 v;rw[Array.getElem?_eq_getElem h] at this;exact Option.some.inj this
theorem ver_i:(Tryz.prog.info? 63).map (·.size)=some 34:=by kernel_rfl
@[go_sem ↓] theorem ver_l(p:Value):Instr.loadAt 63 p=ldA 63 p:=rfl
@[go_sem ↓] theorem ver_s(p v:Value):Instr.storeAt 63 p v=stA 63 p v:=rfl
@[go_sem] theorem ver_ld(w:World)(b o:Nat):(ldA 63 (.pointer (some ⟨b,o,none⟩))).run Tryz.prog w=ldR Tryz.prog 63 34 w b o (row w b):=ld_ruleK _ _ Tryz.underlying63 rfl 34 ver_i w b o
@[go_sem] theorem ver_st(w:World)(b o:Nat)(c:Array Value):(stA 63 (.pointer (some ⟨b,o,none⟩)) (.agg c)).run Tryz.prog w=stR Tryz.prog 63 34 w b o (.agg c) (row w b):=yR _ 34 ver_i w b o c
theorem ver_z:(Tryz.prog.info? 63).map (·.zero)=some (some (.agg (veA ve0))):=by unfold veA veC ba;kernel_rfl
@[go_sem ↓] theorem ver_zero(w:World):(zeroValue 63).run Tryz.prog w=.ok (.agg (veA ve0)) w:=by
 have h:=ver_z
 cases hq:Tryz.prog.info? 63 with
 |none=>rw[hq] at h;cases h
 |some i=>
  rw[hq] at h;have h':i.zero=some (.agg (veA ve0)):=Option.some.inj h;simp[zeroValue,typeInfo,hq,h']
@[go_sem ↓] theorem ver_bd(yI:Array (Nat×Value)):Instr.build 63 yI=bdA 63 yI:=rfl
@[go_sem] theorem ver_b1(m:Bf)(w:World):(bdA 63 #[(0,.agg (ba 32 m))]).run Tryz.prog w=.ok (.agg (veA ⟨m,0,false⟩)) w:=by
 refine run_lit _ _ _ _ [(0,32),(32,1),(33,1)] ver_z (by kernel_rfl) ?_ w
 rw[veA_flt,veA_flt];exact xH (pre:=[]) (o:=0) (m:=32) rfl rfl (by rw[zI]) (by rw[zI];exact zI _ _)
def veB(a b:Ve):Bool:=eqB 32 a.m b.m&&((a.u==b.u)&&(a.g==b.g))
theorem vers_u:Tryz.prog.underlying 57=some (.slice 63):=by kernel_rfl
theorem ver_info:(Tryz.prog.info? 63).map (fun i=>(i.zero,i.size,i.bytes))=some (some (.agg (veA ve0)),34,48):=by unfold veA veC ba;kernel_rfl
def bsK(t:TypeId)(n:Nat)(yI:Array (Nat×Value)):Sem Value:=Instr.buildSlice t n yI
@[go_sem ↓] theorem vers_bs(n:Nat)(yI:Array (Nat×Value)):Instr.buildSlice 57 n yI=bsK 57 n yI:=rfl
theorem bsK_of(t:TypeId)(n:Nat)(yI:Array (Nat×Value))(w:World)(v:Value)(w':World)(h:(Instr.buildSlice t n yI).run Tryz.prog w=.ok v w'):(bsK t n yI).run Tryz.prog w=.ok v w':=h
@[go_sem] theorem vers_b0(w:World):(bsK 57 0 #[]).run Tryz.prog w=.ok (.slice (some ⟨w.heap.size,0,none⟩) 0 0) (w.alloc (.cells #[] 63)):=bsK_of _ _ _ _ _ _ (by kernel_rfl)
@[go_sem] theorem vers_b1(v:Ve)(w:World):(bsK 57 1 #[(0,.agg (veA v))]).run Tryz.prog w=.ok (.slice (some ⟨w.heap.size,0,none⟩) 1 1) (w.alloc (.cells (veA v) 63)):=
 bsK_of _ _ _ _ _ _ (by unfold veA veC ba;kernel_rfl)
@[irreducible] def rgA(b:Bool)(v:Value):Array Value:=#[.bool b,v]
@[go_sem] theorem rgA_size(b:Bool)(v:Value):(rgA b v).size=2:=by unfold rgA;rfl
@[go_sem] theorem rgA_e0(b:Bool)(v:Value)(h:0<(rgA b v).size):(rgA b v)[0]=.bool b:=by unfold rgA;rfl
theorem rin_i:(Tryz.prog.info? 59).map (·.size)=some 2:=by kernel_rfl
theorem rins_u:Tryz.prog.underlying 55=some (.slice 59):=by kernel_rfl
theorem rin_z:(Tryz.prog.info? 59).map (·.zero)=some (some (.agg (rgA false (.slice none 0 0)))):=by unfold rgA;kernel_rfl
theorem rin_info:(Tryz.prog.info? 59).map (fun i=>(i.zero,i.size,i.bytes))=some (some (.agg (rgA false (.slice none 0 0))),2,32):=by unfold rgA;kernel_rfl
@[go_sem ↓] theorem rin_zero(w:World):(zeroValue 59).run Tryz.prog w=.ok (.agg (rgA false (.slice none 0 0))) w:=by
 have h:=rin_z
 cases hq:Tryz.prog.info? 59 with
 |none=>rw[hq] at h;cases h
 |some i=>
  rw[hq] at h;have h':i.zero=some (.agg (rgA false (.slice none 0 0))):=Option.some.inj h;simp[zeroValue,typeInfo,hq,h']
@[go_sem ↓] theorem rin_l(p:Value):Instr.loadAt 59 p=ldA 59 p:=rfl
@[go_sem ↓] theorem rin_s(p v:Value):Instr.storeAt 59 p v=stA 59 p v:=rfl
@[go_sem] theorem rin_ld(w:World)(b o:Nat):(ldA 59 (.pointer (some ⟨b,o,none⟩))).run Tryz.prog w=ldR Tryz.prog 59 2 w b o (row w b):=ld_ruleK _ _ Tryz.underlying59 rfl 2 rin_i w b o
@[go_sem] theorem rin_st(w:World)(b o:Nat)(c:Array Value):(stA 59 (.pointer (some ⟨b,o,none⟩)) (.agg c)).run Tryz.prog w=stR Tryz.prog 59 2 w b o (.agg c) (row w b):=yR _ 2 rin_i w b o c
theorem rgA_ones(b:Bool)(A:Option Addr)(n c:Nat):Ones (rgA b (.slice A n c)):=by unfold rgA;simp[Ones,Value.oneCell']
@[go_sem] theorem rgA_ldw(P:Program)(T:Nat)(b:Bool)(v:Value)(w:World)(B:Nat):ldR P T 2 w B 0 (some (rgA b v))=.ok (.agg (rgA b v)) w:=xJ P T 2 w B _ (rgA_size b v).symm
@[go_sem] theorem rgA_stw(P:Program)(T:Nat)(b b':Bool)(v:Value)(A:Option Addr)(n c:Nat)(w:World)(B:Nat):stR P T 2 w B 0 (.agg (rgA b' (.slice A n c))) (some (rgA b v))=.ok () (w.setRow B (rgA b' (.slice A n c))):=
 stR_whole P T 2 w B _ _ (rgA_size b v).symm (by rw[rgA_size,rgA_size]) (rgA_ones _ _ _ _)
theorem rgA_c0{w:World}{B:Nat}{b:Bool}{v:Value}(h:row w B=some (rgA b v)):w.cell? ⟨B,0,none⟩=some (.bool b):=by rw[zC h];unfold rgA;rfl
theorem rgA_c1{w:World}{B:Nat}{b:Bool}{v:Value}(h:row w B=some (rgA b v)):w.cell? ⟨B,1,none⟩=some v:=by rw[zC h];unfold rgA;rfl
@[go_sem ↓] theorem rin_bd(yI:Array (Nat×Value)):Instr.build 59 yI=bdA 59 yI:=rfl
@[go_sem] theorem rin_b2(b:Bool)(A:Option Addr)(n c:Nat)(w:World):(bdA 59 #[(0,.bool b),(1,.slice A n c)]).run Tryz.prog w=.ok (.agg (rgA b (.slice A n c))) w:=by unfold bdA rgA;kernel_rfl
@[go_sem ↓] theorem rins_bs(n:Nat)(yI:Array (Nat×Value)):Instr.buildSlice 55 n yI=bsK 55 n yI:=rfl
@[go_sem] theorem rins_b1(b:Bool)(A:Option Addr)(n c:Nat)(w:World):(bsK 55 1 #[(0,.agg (rgA b (.slice A n c)))]).run Tryz.prog w=.ok (.slice (some ⟨w.heap.size,0,none⟩) 1 1) (w.alloc (.cells (rgA b (.slice A n c)) 59)):=
 bsK_of _ _ _ _ _ _ (by unfold rgA;kernel_rfl)
theorem rin_cells(w:World)(g o:Nat)(b:Bool)(v:Value)(h0:w.cell? ⟨g,o,none⟩=some (.bool b))(h1:w.cell? ⟨g,o+1,none⟩=some v):
  ldR Tryz.prog 59 2 w g o (row w g)=.ok (.agg (rgA b v)) w:=by
 rw[<-rin_ld]
 have h:=run_loadAt_mid (P:=Tryz.prog) w g o 59 [.bool b,v] _ (fun j x hx=>by
  match j,hx with
  |0,hx=>rw[Nat.add_zero,h0];exact hx
  |1,hx=>rw[h1];exact hx
  |j+2,hx=>cases hx) Tryz.underlying59 rfl (by rw[rin_i];rfl)
 unfold rgA;exact h
theorem ver_cells(w:World)(g o:Nat)(v:Ve)(hc:∀ j,j<34->w.cell? ⟨g,o+j,none⟩=(veC v)[j]?):
  ldR Tryz.prog 63 34 w g o (row w g)=.ok (.agg (veA v)) w:=by
 rw[<-ver_ld]
 have h:=run_loadAt_mid (P:=Tryz.prog) w g o 63 (veC v) _ (fun j x hx=>by
  by_cases hj:j<34
  ·rw[hc j hj];exact hx
  ·rw[List.getElem?_eq_none (by rw[veC_len];omega)] at hx;cases hx) Tryz.underlying63 rfl (by rw[ver_i,veC_len])
 unfold veA;exact h
theorem ld_rowK{P:Program}{w:World}{b:Nat}{c:Array Value}{ty:TypeId}{d:TypeDesc}(hr:row w b=some c)(hu:P.underlying ty=some d)(hd:d.isRow=true)(hi:(P.info? ty).map (·.size)=some c.size):
  (loadVar ty ⟨b,0,none⟩).run P w=.ok (.agg c) w:=by
 obtain ⟨t',ht⟩:=row_is hr;have hg:w.rangeAt b 0 (c.extract 0 (0+c.size)).toList:=World.rangeAt_of_block ht 0 c.size;have hx:=run_loadVar_mid (P:=P) w b 0 ty _ d hg hu hd (by rw[hi];simp)
 rw[Array.toArray_toList,Nat.zero_add,Array.extract_size] at hx;exact hx
theorem res_ctK{P:Program}{fn:Func}{p u:Tmp}{ty:TypeId}(h:fn.results=#[.cell p ty,.tmp u])(tmps:Array Value)(w:World)(b:Nat)(c:Array Value)(d:TypeDesc)
  (hp:tmps.getD p undef=.pointer (some ⟨b,0,none⟩)) (hr:row w b=some c) (hu:P.underlying ty=some d) (hd:d.isRow=true) (hi:(P.info? ty).map (·.size)=some c.size):
  (results fn tmps).run P w=.ok (.tuple #[.agg c,tmps.getD u undef]) w:=by
 have hp2:tmps[p]?.getD undef=.pointer (some ⟨b,0,none⟩):=by simpa using hp
 simp only[results,h];simp[hp2,asAddr,ld_rowK hr hu hd hi]
section
variable {P:Program} {Q:Exit->Act->World->Prop}
end
structure Fk(T T':Mk)(t:Nat)(w w':World):Prop where
 fr:Fr T T' (Hk t) w w'
 mks:∀ k,T' k=T k\/Hk t (T' k)
theorem Fk.trans{T T' T2:Mk}{t:Nat}{w w' w2:World}(h:Fk T T' t w w')(k:Fk T' T2 t w' w2):Fk T T2 t w w2:=⟨h.fr.trans k.fr,fun i=>by
 rcases k.mks i with e|e
 ·rw[e];exact h.mks i
 ·exact .inr e⟩
theorem Fr.same{T:Mk}{H:Nat->Prop}{w w':World}(h:Below w.heap.size w w'):Fr T T H w w':=Fr.calm h fun _ _=>rfl
theorem wpl_appK{P:Program}{w:World}{ops:Array Oper}{rest:List Oper}{o:Oper}{a:Act}{Q:Exit->Act->World->Prop}(hgd:o.guard=none)(s y:Operand){t u:TypeId}{z:Value}{k bytes:Nat}(ho:o.op=.call { callee:=.builtin .append,args:=#[s,y],argTypes:=#[t,t] })
  (ht:P.underlying t=some (.slice u)) (hi:(P.info? u).map (fun i=>(i.zero,i.size,i.bytes))=some (some z,k,bytes)) (hz:z.cells.size=k) (hk:0<k) (hb:bytes<=64)
  {v:Value} {n:Nat} {xs:List Value} (hown:w.ownsRow 0 u k v n xs) {p:Nat} {vs:List Value} (hr:row w p=some vs.toArray) (hl:vs.length=k) (h1:∀ x∈vs,x.oneCell'=true) (hn:n<=1000000000000)
  (hv:a.eval s=v) (hy:a.eval y=.slice (some ⟨p,0,none⟩) 1 1)
  (h:∀ v' w',w'.ownsRow 0 u k v' (n+1) (xs++vs)->w.grownBy w' v.ownBlock->(v'.ownBlock=v.ownBlock\/v'.ownBlock=some w.heap.size)->wpList P ops Q rest (a.put o.dst v') w'):wpList P ops Q (o::rest) a w:=by
 refine wpList_plain hgd fun K hK=>?_
 cases hq:P.info? u with
 |none=>rw[hq] at hi;cases hi
 |some i=>
  rw[hq] at hi;have h0:(i.zero,i.size,i.bytes)=(some z,k,bytes):=Option.some.inj hi;simp only[Prod.mk.injEq] at h0;obtain ⟨z0,z1,z2⟩:=h0
  obtain ⟨v',w',a1,a2,a3,_,a5⟩:=run_append_own_at (P:=P) w 0 t o.type u i z k bytes ht hq z0 z1 z2 hz hk v n xs hown ⟨p,0,none⟩ 1 1 vs (by omega)
   (fun j x hx=>by rw[yK,Nat.zero_add,zC hr,List.getElem?_toArray];exact hx) h1 (by unfold maxLen;omega) (by have:=Nat.mul_le_mul (show n+1<=1000000000001 by omega) hb;omega) (Nat.zero_le _)
  unfold Oper.wp execOp;simp only[ho,resolve,invoke,builtin,Sem.run_bind,Sem.run_pure,Result.andThen_ok,List.map_toArray,List.map_cons,List.map_nil,hv,hy,a1];exact hK _ _ (h v' w' a2 a3 a5)
section
variable {a b:Nat} {x y:Array Value} {w:World}
end
theorem ex_rinK(ρ:Operand->Value){o:Oper}(t:Operand)(ho:o.op=.buildSlice 55 1 #[(0,t)])(b:Bool)(A:Option Addr)(n c:Nat)(hx:ρ t=.agg (rgA b (.slice A n c)))(w:World):(execOp ρ o).run Tryz.prog w=.ok (.value (.slice (some ⟨w.heap.size,0,none⟩) 1 1)) (w.alloc (.cells (rgA b (.slice A n c)) 59)):=by
 unfold execOp;simp only[ho,Sem.run_bind,List.map_toArray,List.map_cons,List.map_nil,hx];rw[rins_bs,rins_b1];rfl
theorem run_appRd{P:Program}{w:World}{tt ty u:TypeId}{z:Value}{bytes p:Nat}(ht:P.underlying tt=some (.slice u))(hi:(P.info? u).map (fun i=>(i.zero,i.size,i.bytes))=some (some z,34,bytes))(hz:z.cells.size=34)(hb:bytes<=64)
  (hown:w.ownsRow 0 u 34 (.slice (some ⟨p,0,none⟩) 0 0) 0 []) {s:Value} {l:List Ve} (hs:VRd w s l) (hl:l.length<=1000000):
  ∃ v' w',(Builtin.append_ #[tt,tt] ty #[.slice (some ⟨p,0,none⟩) 0 0,s]).run P w=.ok v' w'/\w'.ownsRow 0 u 34 v' l.length (vsC l)/\w.grownBy w' (some p)/\(v'.ownBlock=some p\/v'.ownBlock=some w.heap.size):=by
 cases hq:P.info? u with
 |none=>rw[hq] at hi;cases hi
 |some i=>
  rw[hq] at hi;have h0:(i.zero,i.size,i.bytes)=(some z,34,bytes):=Option.some.inj hi;simp only[Prod.mk.injEq] at h0;obtain ⟨z0,z1,z2⟩:=h0;obtain ⟨A,c,rfl,hle,hm,hnil,hat⟩:=hs.at_
  cases A with
  |none=>
   have hc0:=hnil rfl;have hl0:l=[]:=List.length_eq_zero_iff.1 (by omega)
   subst hl0;subst hc0;have hr:=run_append_room_src (P:=P) w tt tt ty u i ht hq p 0 0 0 (.slice none 0 0) 0 [] (Src.ofNil (P:=P) w (e':=u) ht 0) (by omega) (fun j hj=>by cases hj) (fun j hj=>by cases hj)
   exact ⟨_,_,hr,hown,⟨rfl,rfl,rfl,Nat.le_refl _,fun k hk hne=>rfl⟩,.inl rfl⟩
  |some a=>
   obtain ⟨v',w',a1,a2,a3,_,a5⟩:=run_append_own_at (P:=P) w 0 tt ty u i z 34 bytes ht hq z0 z1 z2 hz (by omega) _ 0 [] hown a l.length c (vsC l) (vsC_len l)
    (fun j x hx=>by
     have hj:j<l.length*34:=by rw[<-vsC_len];exact (List.getElem?_eq_some_iff.1 hx).1
     obtain ⟨g,o,e,hg,hc⟩:=hat (by omega)
     cases e;rw[yK];have h1:=hc (j / 34) (j % 34) (by omega) (by omega)
     rw[show o+j=o+j / 34*34+j % 34 by omega,h1,<-vsC_get l (j / 34) (j % 34) (by omega) (by omega),show j / 34*34+j % 34=j by omega]
     exact hx) (vsC_one l) (by unfold maxLen;omega) (by have:=Nat.mul_le_mul (show 0+l.length<=1000000 by omega) hb;omega) (Nat.zero_le _)
   rw[Nat.zero_add] at a2;exact ⟨v',w',a1,a2,a3,a5⟩
theorem wpl_appRd{P:Program}{w:World}{ops:Array Oper}{rest:List Oper}{o:Oper}{a:Act}{Q:Exit->Act->World->Prop}(hgd:o.guard=none)(x y:Operand){tt u:TypeId}{z:Value}{bytes p:Nat}(ho:o.op=.call { callee:=.builtin .append,args:=#[x,y],argTypes:=#[tt,tt] })
  (ht:P.underlying tt=some (.slice u)) (hi:(P.info? u).map (fun i=>(i.zero,i.size,i.bytes))=some (some z,34,bytes)) (hz:z.cells.size=34) (hb:bytes<=64)
  (hown:w.ownsRow 0 u 34 (.slice (some ⟨p,0,none⟩) 0 0) 0 []) {s:Value} {l:List Ve} (hs:VRd w s l) (hl:l.length<=1000000) (hv:a.eval x=.slice (some ⟨p,0,none⟩) 0 0) (hy:a.eval y=s)
  (h:∀ v' w',w'.ownsRow 0 u 34 v' l.length (vsC l)->w.grownBy w' (some p)->(v'.ownBlock=some p\/v'.ownBlock=some w.heap.size)->wpList P ops Q rest (a.put o.dst v') w'):wpList P ops Q (o::rest) a w:=by
 refine wpList_plain hgd fun K hK=>?_
 obtain ⟨v',w',a1,a2,a3,a5⟩:=run_appRd (ty:=o.type) ht hi hz hb hown hs hl;unfold Oper.wp execOp;simp only[ho,resolve,invoke,builtin,Sem.run_bind,Sem.run_pure,Result.andThen_ok,List.map_toArray,List.map_cons,List.map_nil,hv,hy,a1];exact hK _ _ (h v' w' a2 a3 a5)
theorem ex_ver0(ρ:Operand->Value){o:Oper}(ho:o.op=.buildSlice 57 0 #[])(w:World):(execOp ρ o).run Tryz.prog w=.ok (.value (.slice (some ⟨w.heap.size,0,none⟩) 0 0)) (w.alloc (.cells #[] 63)):=by
 unfold execOp;simp only[ho,Sem.run_bind,List.map_toArray,List.map_nil];rw[vers_bs,vers_b0];rfl
theorem own_lit0{w:World}{p:Nat}{e:TypeId}(h:w.heap[p]? =some (.cells #[] e))(k:Nat):w.ownsRow 0 e k (.slice (some ⟨p,0,none⟩) 0 0) 0 []:=
 ⟨by simp,.inr ⟨p,0,#[],rfl,Nat.zero_le _,h,Nat.le_refl _,Nat.zero_le _,by simp,by simp⟩⟩
theorem rcopy_any(T:Mk)(t:Nat)(K:Ks)(v:Value)(w:World)(h:RRd w v K)(hK:K.length<=1000)(hV:∀ r∈K,r.l.length<=1000)(hfr:∀ k,k<w.heap.size->T k≠t):
  Calls Tryz.prog 120 #[v] w fun e w'=>∃ v' T',e=.returned v'/\RsAt T' w' t 59 63 v' K/\(∀ k,k<w.heap.size->T' k=T k)/\(∀ k,T' k=T k\/(t<=T' k/\T' k<=t+K.length))/\Below w.heap.size w w':=by
 obtain ⟨A,c,rfl,hle,hmx,hat⟩:=h.at_;have HAT:=Lib.hid hat;have HV:=Lib.hid hV;have HFR:=Lib.hid hfr;obtain ⟨n,hn⟩:∃ n,n=K.length:=⟨_,rfl⟩;have HN:=Lib.hid hn;rw[<-hn] at hle hK ⊢;clear h hat hV hn hfr;go_enter Tryz.func120,Tryz.ntmps120;go_wp2_with fail;go_loopw [3,4] (fun ov iv wr=>∃ (j:Nat) (T':Mk),j<=n/\iv=.int .i64 j/\RsAt T' wr t 59 63 ov (K.take j)/\(∀ k,k<w.heap.size->T' k=T k)/\(∀ k,T' k=T k\/(t<=T' k/\T' k<=t+K.length))/\Below w.heap.size w wr) (fun _ iv _=>n-(intOf iv).toNat)
 case atStart=>exact ⟨0,T,by omega,rfl,RsAt.nil,fun _ _=>rfl,fun _=> .inl rfl,Below.refl _ _⟩
 case round=>
  obtain ⟨j,T1,hj,rfl,hrs,htg,hmk,hb⟩:=hrel;have HMK:=Lib.hid hmk;clear hmk;obtain ⟨w1,rfl⟩:∃ w1:World,w1=wr:=⟨_,rfl⟩;have HRS:=Lib.hid hrs;have HTG:=Lib.hid htg;have HB:=Lib.hid hb
  by_cases hlt:j<n
  ·have hjK:j<K.length:=by have:=HN.out;omega
   have hlen:(K.take j).length=j:=by rw[List.length_take];omega
   obtain ⟨g,o,rfl,hg,hc⟩:=HAT.out (by omega)
   obtain ⟨h0,vi,h1,h2⟩:=hc j hjK;obtain ⟨A2,c2,rfl,hle2,-,-,-⟩:=h2.at_;obtain ⟨r,hr⟩:∃ r,r=K[j]:=⟨_,rfl⟩;rw[<-hr] at h0 h1 h2 hle2;obtain ⟨Ao,co,rfl,hleo,hmo,-⟩:=hrs.form;rw[hlen] at HRS ⊢;have HL:=Lib.hid hlen;have HR:=Lib.hid hr;have H0:=Lib.hid h0;have H1:=Lib.hid h1;have H2:=Lib.hid h2;have hr1:=HV.out r (by rw[hr];exact List.getElem_mem _)
   obtain ⟨L,hL⟩:∃ L,L=r.l.length:=⟨_,rfl⟩;rw[<-hL] at H1 hr1 hle2;have HLL:=Lib.hid hL;clear hc hrs htg hb hlen hr h0 h1 h2 hL
   have zO:∀ k,(Value.slice Ao j co).ownBlock=some k->w.heap.size<=k/\k<w1.heap.size/\T1 k=t:=fun k hk=>by
    obtain ⟨ys,hys,-⟩:=HRS.out.own;rw[HL.out] at hys;refine ⟨?_,(World.ownsRow.lt hys k hk).2,HRS.out.tg k hk⟩;rcases Nat.lt_or_ge k w.heap.size with h|h
    ·exact absurd ((HTG.out k h).symm.trans (HRS.out.tg k hk)) (HFR.out k h)
    ·exact h
   have ZO:=Lib.hid zO;have zw:=HB.out.size;clear zO;go_wp2_with fail;refine flow_many [.inl [0,1,2,3,4,5,7,8,9,10,11],pS 6,pU 6,pE 12,.inl [13],pS 14,pU 14,pE 15,.inl [16]] (fun y=>Below w.heap.size w y) (Value.slice Ao j co).ownBlock.toList (by kernel_rfl) (by kernel_rfl) (fun _ _ _ _ _ h=>h) (fun _ _ _ _ _ h=>h) (fun y z h=>h.alloc h.size z) (zQ HB.out 1) (fun k hk=>(ZO.out k (by simpa using hk)).2.1) ?_
   have hne:Nonempty (In (fun y=>Below w.heap.size w y)):=⟨⟨w1,HB.out⟩⟩
   have B2:=Lib.hid (zQ (Below.refl w1.heap.size w1) 1);have z2:(w1.drewN 1).heap.size=w1.heap.size:=rfl;obtain ⟨w2,hw2⟩:∃ w2,w2=w1.drewN 1:=⟨_,rfl⟩;rw[<-hw2] at B2 z2 ⊢;clear hw2;have q1:∀ y:In (fun y=>Below w.heap.size w y),y.val.cell? ⟨g,o+j*2,none⟩=some (.bool r.off):=fun y=>(y.ok.cell (p:=⟨g,o+j*2,none⟩) hg).trans H0.out
   have q2:∀ y:In (fun y=>Below w.heap.size w y),y.val.cell? ⟨g,o+j*2+1,none⟩=some (.slice A2 L c2):=fun y=>(y.ok.cell (p:=⟨g,o+j*2+1,none⟩) hg).trans H1.out
   refine wpM_q ?_;simp only[pk,List.getElem?_cons_zero,List.getElem?_cons_succ]
   repeat (go_big_quiet_step (fail))
   refine wpQuiet_nil ?_;clear q1 q2;refine wpM_s (fun p=> .slice (some ⟨p,0,none⟩) 0 0) (.cells #[] 63) _ rfl rfl (fun w=>ex_ver0 _ rfl w) ?_
   refine wpM_u _ _ _ 17 (.head _) rfl rfl (fun y hy p hp1 hp2 hp3 hp4=>?_)
   refine wpM_e _ rfl (fun y2 hy2=>?_)
   have B3:=Lib.hid (onto (onto B2.out B2.out.size y.below) (by have:=B2.out.size;have:=y.below.size;omega) y2.below)
   have own3:y2.val.ownsRow 0 63 34 (.slice (some ⟨p,0,none⟩) 0 0) 0 []:=own_lit0 (by rw[y2.below.block p hp2];exact hp4) 34
   have C3:=Lib.hid hy2;have hp5:p<y2.val.heap.size:=by have:=y2.below.size;omega
   obtain ⟨w3,hw3⟩:∃ w3,w3=y2.val:=⟨_,rfl⟩;rw[<-hw3] at B3 own3 C3 hp5 ⊢;clear hw3 hy2 hy hp3 hp4 hp2 B2 y2 y
   have hs3:VRd w3 (.slice A2 L c2) r.l:=by
    have:=H2.out.below C3.out;rw[<-HLL.out] at this;exact this
   go_wp2_with (refine wpl_appRd rfl (.tmp 17) (.tmp 22) rfl vers_u ver_info (veA_size _) (by decide) own3 hs3 (by rw[<-HLL.out];omega) rfl rfl ?_;intro v4 w4 ho4 hg4 ht4)
   have B4:=Lib.hid (B3.out.grown hg4 B3.out.size (fun k e=>by cases e;exact hp1))
   have C4:=Lib.hid (C3.out.grown hg4 C3.out.size (fun k e=>by cases e;omega))
   have htg4:∀ k,v4.ownBlock=some k->w1.heap.size<=k:=fun k hk=>by
    rcases ht4 with e|e<;>rw[e] at hk<;>cases hk
    ·exact hp1
    ·have:=B3.out.size;omega
   have V4:=Lib.hid (show VsAt (paint T1 w1.heap.size (t+1+j)) w4 (t+1+j) 63 v4 r.l from ⟨ho4,fun k hk=>zP (htg4 k hk)⟩)
   refine same_class (C:=fun y=>Below w.heap.size w y) (Value.slice Ao j co).ownBlock.toList (⟨hg4.size,fun k hk hn=>hg4.block k hk (fun e=>hn (by cases e;simp))⟩) (fun k hk=>⟨.inl (by simp;right;simpa using hk),by have h1:=(ZO.out k (by simpa using hk)).2.1;have h2:=B4.out.size;omega⟩) C4.out (fun y z h=>h.alloc h.size z) ?_
   clear ho4 hg4 ht4 htg4 own3 hs3 C3 B3;obtain ⟨A5,c5,hv5,-⟩:=V4.out.form;subst hv5;rw[<-HLL.out] at V4 ⊢;refine wpM_q ?_;simp only[pk,List.getElem?_cons_zero,List.getElem?_cons_succ]
   repeat (go_big_quiet_step (fail))
   refine wpQuiet_nil ?_;clear hne;refine wpM_s (fun p'=> .slice (some ⟨p',0,none⟩) 1 1) (.cells (rgA r.off (.slice A5 L c5)) 59) _ rfl rfl (fun w=>ex_rinK _ (.tmp 24) rfl _ _ _ _ rfl w) ?_
   refine wpM_u _ _ _ 25 (.head _) rfl rfl (fun y hy p2 hp21 hp22 hp23 hp24=>?_)
   refine wpM_e _ rfl (fun y2 hy2=>?_)
   have b46:=onto y.below y.below.size y2.below;have B6:=Lib.hid (onto B4.out B4.out.size b46);have V6:=Lib.hid (V4.out.fr (Fr.same (H:=fun _=>False) b46) (fun e=>e))
   have R6:=Lib.hid (zD y2.below (row_of hp24));have C6:=Lib.hid hy2;obtain ⟨w6,hw6⟩:∃ w6,w6=y2.val:=⟨_,rfl⟩;rw[<-hw6] at B6 V6 R6 C6 ⊢;clear hw6 hy2 hy hp23 hp24 hp22 b46 B4 V4 C4 y2 y;have hrs6:=HRS.out.fr (Fr.new (T:=T1) (H:=fun _=>False) B6.out (t+1+j)) (fun _ _ _ e=>e)
   have HRS6:=Lib.hid hrs6;obtain ⟨xs,hxs,hel⟩:=hrs6.own;have HEL:=Lib.hid hel;have HXS:=Lib.hid hxs;rw[HL.out] at hxs;have hrow6:row w6 p2=some ([.bool r.off,.slice A5 L c5]:List Value).toArray:=by rw[R6.out];unfold rgA;rfl
   clear hel hrs6;go_wp2_with (refine wpl_appK rfl (.tmp 11) (.tmp 25) rfl rins_u rin_info (rgA_size _ _) (by decide) (by decide) hxs hrow6 rfl (fun v hv=>by simp at hv;rcases hv with rfl|rfl<;>rfl) (by omega) rfl rfl ?_;intro v7 w7 ho7 hg7 ht7)
   have ho7':=ho7;rw[<-HL.out] at ho7';have hvs6:VsAt (paint T1 w1.heap.size (t+1+j)) w6 (t+1+(K.take j).length) 63 (.slice A5 L c5) r.l:=by rw[HL.out];exact V6.out
   have V7:=HRS6.out.app (r:=r) HXS.out HEL.out ho7' hg7 ht7 hvs6;rw[show K.take j++[r]=K.take (j+1) by rw[HR.out,List.take_append_getElem]] at V7
   have B7:=Lib.hid (C6.out.grown hg7 C6.out.size (fun k e=>(ZO.out k e).1))
   have HV7:=Lib.hid V7
   have HT7:=Lib.hid (show ∀ k,k<w.heap.size->paint (paint T1 w1.heap.size (t+1+j)) w6.heap.size t k=T k from fun k hk=>by
    rw[zH (by have:=B6.out.size;omega),zH (by omega)];exact HTG.out k hk)
   have hs7:=hg7.size
   have HM7:=Lib.hid (show ∀ k,paint (paint T1 w1.heap.size (t+1+j)) w6.heap.size t k=T k\/(t<=paint (paint T1 w1.heap.size (t+1+j)) w6.heap.size t k/\paint (paint T1 w1.heap.size (t+1+j)) w6.heap.size t k<=t+K.length) from fun k=>by
    by_cases hk:k<w6.heap.size
    ·rw[zH hk]
     by_cases hk1:k<w1.heap.size
     ·rw[zH hk1];exact HMK.out k
     ·rw[zP (by omega)];exact .inr ⟨by omega,by omega⟩
    ·rw[zP (by omega)];exact .inr ⟨by omega,by omega⟩)
   refine same_class (C:=fun y=>Below w.heap.size w y) [] ((Frm.app hg7).more (fun k hk=>by simp;right;simpa using hk)) hot_none B7.out (fun y z h=>h.alloc h.size z) ?_
   clear ho7 ho7' hg7 ht7 hvs6 R6 C6 hrow6 HXS HEL HRS6 hxs V7 V6;have hne:Nonempty (In (fun y=>Below w.heap.size w y)):=⟨⟨w1,HB.out⟩⟩
   refine wpM_q ?_;simp only[pk,List.getElem?_cons_zero,List.getElem?_cons_succ]
   repeat (go_big_quiet_step (fail))
   refine wpQuiet_nil ?_;clear hne;refine wpM_nil (fun y=>?_)
   have HV8:=Lib.hid (HV7.out.fr (Fr.same (H:=fun _=>False) y.below) (fun _ _ _ e=>e))
   have HB8:=Lib.hid (onto B7.out B7.out.size y.below);go_wp2_with fail;go_roundw
   case rel=>exact ⟨j+1,_,by omega,by go_num,HV8.out,HT7.out,HM7.out,HB8.out⟩
   case measure=>simp[intOf];omega
  ·obtain rfl:j=n:=by omega
   have HRS':=HRS.out;rw[List.take_of_length_le (by rw[<-HN.out];exact Nat.le_refl _)] at HRS'
   have HQ:=Lib.hid HRS';clear HRS' HRS hrs;go_wp2_with fail;go_ret;exact ⟨_,T1,rfl,HQ.out,HTG.out,by have:=HMK.out;rw[<-HN.out] at this;exact this,HB.out⟩
theorem eqB_reflK(n:Nat)(f:Bf):eqB n f f=true:=(eqB_iff n f f).2 fun _ _=>rfl
theorem eqf_stepK{P:Program}{d:Nat}{xs ys:Array Value}{f:Field}{fs:List Field}{a b:Value}{r:Bool}{w:World}(hn:f.name≠"_")(ha:(Go.part f.type xs f.offset).run P w=.ok a w)(hb:(Go.part f.type ys f.offset).run P w=.ok b w)(he:(Op.equalIn d f.type a b).run P w=.ok r w):
  (Op.eqFields d xs ys (f::fs)).run P w=if r then (Op.eqFields d xs ys fs).run P w else .ok false w:=by
 rw[Op.eqFields,if_pos hn];simp only[Sem.run_bind,ha,hb,he,Result.andThen_ok];cases r<;>simp
theorem eq_intK(a x:Int)(w:World):(Op.equalIn 9999 3 (.int .i64 a) (.int .i64 x)).run Tryz.prog w=.ok (a==x) w:=by
 rw[show (9999:Nat)=9998+1 from rfl,run_equalIn_int w 9998 3 .i64 .i64 a x Tryz.underlying3]
theorem part_m(v:Ve)(w:World):(Go.part 61 (veA v) 0).run Tryz.prog w=.ok (.agg (ba 32 v.m)) w:=by unfold veA veC ba;kernel_rfl
theorem part_u(v:Ve)(w:World):(Go.part 3 (veA v) 32).run Tryz.prog w=.ok (.int .i64 v.u) w:=by unfold veA veC ba;kernel_rfl
theorem part_g(v:Ve)(w:World):(Go.part 4 (veA v) 33).run Tryz.prog w=.ok (.bool v.g) w:=by unfold veA veC ba;kernel_rfl
theorem eq_boolK(a x:Bool)(w:World):(Op.equalIn 9999 4 (.bool a) (.bool x)).run Tryz.prog w=.ok (a==x) w:=by cases a<;>cases x<;>kernel_rfl
theorem ne_ver(a b:Ve)(w:World):(binOp .neq 63 (.agg (veA a)) (.agg (veA b))).run Tryz.prog w=.ok (.bool (!veB a b)) w:=by
 have hS:Tryz.prog.underlying 63=some (.struct (Tryz.prog.fieldsOf 63)):=by kernel_rfl
 have hp:Tryz.prog.stoodInHeld 63=false:=by kernel_rfl
 rw[run_neq_struct,show (10000:Nat)=9999+1 from rfl,run_equalIn_agg w 9999 63 _ _ hS hp]
 simp only[Program.fieldsOf,Tryz.underlying63];rw[eqf_stepK (by decide) (part_m a w) (part_m b w) (kk_eq 9997 a.m b.m w),eqf_stepK (by decide) (part_u a w) (part_u b w) (eq_intK _ _ w),eqf_stepK (by decide) (part_g a w) (part_g b w) (eq_boolK _ _ w),Op.eqFields]
 unfold veB;generalize eqB 32 a.m b.m=b1;generalize (a.u==b.u)=b2;generalize (a.g==b.g)=b3;cases b1<;>cases b2<;>cases b3<;>rfl
theorem veB_refl(a:Ve):veB a a=true:=by unfold veB;rw[eqB_reflK];simp
theorem rsame_any(K:Ks)(v v':Value)(w:World)(h:RRd w v K)(h':RRd w v' K)(hK:K.length<=1000)(hV:∀ r∈K,r.l.length<=1000):
  Calls Tryz.prog 50 #[v,v'] w fun e w'=>e=.returned (.bool true)/\Below w.heap.size w w':=by
 obtain ⟨A,c,rfl,hle,hmx,hat⟩:=h.at_;obtain ⟨A',c',rfl,hle',hmx',hat'⟩:=h'.at_;have HAT:=Lib.hid hat;have HAT':=Lib.hid hat';have HV:=Lib.hid hV;obtain ⟨n,hn⟩:∃ n,n=K.length:=⟨_,rfl⟩;have HN:=Lib.hid hn;rw[<-hn] at hle hle' hK ⊢;clear h h' hat hat' hV hn;go_enter Tryz.func50,Tryz.ntmps50;go_wp2_with fail;go_loopw [5] (fun iv wr=>∃ i:Nat,i<=n/\iv=.int .i64 i/\Below w.heap.size w wr) (fun iv _=>n-(intOf iv).toNat)
 case atStart=>exact ⟨0,by omega,rfl,Below.refl _ _⟩
 case round=>
  obtain ⟨i,hi,rfl,hb⟩:=hrel;obtain ⟨w1,rfl⟩:∃ w1:World,w1=wr:=⟨_,rfl⟩;have HB:=Lib.hid hb
  by_cases hlt:i<n
  ·have hiK:i<K.length:=by have:=HN.out;omega
   obtain ⟨g,o,rfl,hg,hc⟩:=HAT.out (by omega)
   obtain ⟨g',o',rfl,hg',hc'⟩:=HAT'.out (by omega)
   obtain ⟨h0,vi,h1,h2⟩:=hc i hiK;obtain ⟨h0',vi',h1',h2'⟩:=hc' i hiK;obtain ⟨A2,c2,rfl,hle2,-,-,hat2⟩:=h2.at_;obtain ⟨A2',c2',rfl,hle2',-,-,hat2'⟩:=h2'.at_;obtain ⟨r,hr⟩:∃ r,r=K[i]:=⟨_,rfl⟩;have hr1:=HV.out K[i] (List.getElem_mem _);rw[<-hr] at h0 h1 h2 hle2 h0' h1' h2' hle2' hat2 hat2' hr1;obtain ⟨L,hL⟩:∃ L,L=r.l.length:=⟨_,rfl⟩;rw[<-hL] at h1 h1' hle2 hle2' hr1;have HL:=Lib.hid hL;have H0:=Lib.hid h0;have H1:=Lib.hid h1;have H0':=Lib.hid h0';have H1':=Lib.hid h1';have HAT2:=Lib.hid hat2;have HAT2':=Lib.hid hat2';clear hc hc' hb hr h0 h1 h2 h0' h1' h2' hat2 hat2' hL;have q0:∀ y:After w1,y.val.cell? ⟨g,o+i*2,none⟩=some (.bool r.off):=fun y=>((onto HB.out HB.out.size y.below).cell (p:=⟨g,o+i*2,none⟩) hg).trans H0.out
   have q1:∀ y:After w1,y.val.cell? ⟨g,o+i*2+1,none⟩=some (.slice A2 L c2):=fun y=>((onto HB.out HB.out.size y.below).cell (p:=⟨g,o+i*2+1,none⟩) hg).trans H1.out
   have q0':∀ y:After w1,y.val.cell? ⟨g',o'+i*2,none⟩=some (.bool r.off):=fun y=>((onto HB.out HB.out.size y.below).cell (p:=⟨g',o'+i*2,none⟩) hg').trans H0'.out
   have q1':∀ y:After w1,y.val.cell? ⟨g',o'+i*2+1,none⟩=some (.slice A2' L c2'):=fun y=>((onto HB.out HB.out.size y.below).cell (p:=⟨g',o'+i*2+1,none⟩) hg').trans H1'.out
   go_wp2_with fail;refine xD (by kernel_rfl) (by kernel_rfl) ?_
   repeat (go_big_quiet_step (fail))
   refine wpQuiet_nil ?_;rintro _ ⟨x,rfl⟩;clear q0 q1 q0' q1';have B2:=Lib.hid (onto HB.out HB.out.size x.below);obtain ⟨w2,hw2⟩:∃ w2,w2=x.val:=⟨_,rfl⟩;rw[<-hw2] at B2 ⊢;clear hw2 x;go_wp2_with fail;go_loopw [6] (fun kv wr=>∃ k:Nat,k<=L/\kv=.int .i64 k/\Below w.heap.size w wr) (fun kv _=>L-(intOf kv).toNat)
   case atStart=>exact ⟨0,by omega,rfl,B2.out⟩
   case round=>
    clear B2 HB;obtain ⟨k,hk,rfl,hb⟩:=hrel;obtain ⟨w3,rfl⟩:∃ w3:World,w3=wr:=⟨_,rfl⟩;have HB:=Lib.hid hb;have y1:=(HB.out.cell (p:=⟨g,o+i*2+1,none⟩) hg).trans H1.out;clear hb
    by_cases hlk:k<L
    ·have hkl:k<r.l.length:=by have:=HL.out;omega
     obtain ⟨g2,o2,rfl,hg2,hc2⟩:=HAT2.out (by omega)
     obtain ⟨g2',o2',rfl,hg2',hc2'⟩:=HAT2'.out (by omega)
     obtain ⟨x,hx⟩:∃ x,x=r.l[k]:=⟨_,rfl⟩;have q1:∀ y:After w3,y.val.cell? ⟨g,o+i*2+1,none⟩=some (.slice (some ⟨g2,o2,none⟩) L c2):=fun y=>((onto HB.out HB.out.size y.below).cell (p:=⟨g,o+i*2+1,none⟩) hg).trans H1.out
     have q1':∀ y:After w3,y.val.cell? ⟨g',o'+i*2+1,none⟩=some (.slice (some ⟨g2',o2',none⟩) L c2'):=fun y=>((onto HB.out HB.out.size y.below).cell (p:=⟨g',o'+i*2+1,none⟩) hg').trans H1'.out
     have q2:∀ y:After w3,ldR Tryz.prog 63 34 y.val g2 (o2+k*34) (row y.val g2)=.ok (.agg (veA x)) y.val:=fun y=>ver_cells y.val g2 (o2+k*34) x fun j hj=>by
      rw[hx,<-hc2 k j hkl hj];exact (onto HB.out HB.out.size y.below).cell (p:=⟨g2,o2+k*34+j,none⟩) hg2
     have q2':∀ y:After w3,ldR Tryz.prog 63 34 y.val g2' (o2'+k*34) (row y.val g2')=.ok (.agg (veA x)) y.val:=fun y=>ver_cells y.val g2' (o2'+k*34) x fun j hj=>by
      rw[hx,<-hc2' k j hkl hj];exact (onto HB.out HB.out.size y.below).cell (p:=⟨g2',o2'+k*34+j,none⟩) hg2'
     have hq:=ne_ver x x;rw[veB_refl] at hq;clear hc2 hc2' hx;go_wp2_with fail;refine xD (by kernel_rfl) (by kernel_rfl) ?_
     repeat (go_big_quiet_step (fail))
     refine wpQuiet_nil ?_;rintro _ ⟨z,rfl⟩;have B4:=Lib.hid (onto HB.out HB.out.size z.below);clear q1 q1' q2 q2' hq y1;go_wp2_with fail;go_roundw
     case rel=>exact ⟨k+1,by omega,by go_num,B4.out⟩
     case measure=>simp[intOf];omega
    ·obtain rfl:k=L:=by omega
     go_wp2_with fail;go_roundw
     case rel=>exact ⟨i+1,by omega,by go_num,HB.out⟩
     case measure=>simp[intOf];omega
  ·obtain rfl:i=n:=by omega
   go_wp2_with fail;go_ret;exact ⟨rfl,HB.out⟩
def vB(v:Ve):Bool:=decide (0<=v.u)&&decide (v.u<=16)&&!(v.g&&!eqB 32 v.m (fun _=>0#8))
def rB(r:Rg):Bool:=decide (1<=r.l.length)&&decide (r.l.length<=4)&&r.l.all vB
def ofB(K:Ks):Bool:=decide (K.length<=8)&&K.all rB
def ofE(K:Ks):Int:=if ofB K=true then 0 else 1
theorem vB_iff{v:Ve}:vB v=true↔okV v:=by
 unfold vB okV;simp only[Bool.and_eq_true,decide_eq_true_eq,Bool.not_eq_true',Bool.and_eq_false_iff,Bool.not_eq_false',eqB_iff];constructor
 ·rintro ⟨h1,h2⟩
  refine ⟨h1,fun hg i hi=>?_⟩
  rcases h2 with h2|h2
  ·rw[h2] at hg;cases hg
  ·exact h2 i hi
 ·rintro ⟨h1,h2⟩
  refine ⟨h1,?_⟩;cases hg:v.g
  ·exact .inl rfl
  ·exact .inr (h2 hg)
theorem rB_iff{r:Rg}:rB r=true↔okR r:=by
 unfold rB okR;simp only[Bool.and_eq_true,decide_eq_true_eq,List.all_eq_true,vB_iff]
theorem ofB_iff{K:Ks}:ofB K=true↔okK K:=by
 unfold ofB okK;simp only[Bool.and_eq_true,decide_eq_true_eq,List.all_eq_true,rB_iff]
theorem ofB_no_ring{K:Ks}(i:Nat)(hi:i<K.length)(h:rB K[i]=false):ofB K=false:=by
 cases hq:ofB K
 ·rfl
 ·have:=(ofB_iff.1 hq).2 _ (List.getElem_mem hi)
  rw[rB_iff.2 this] at h;cases h
theorem rB_no_ver{r:Rg}(k:Nat)(hk:k<r.l.length)(h:vB r.l[k]=false):rB r=false:=by
 cases hq:rB r
 ·rfl
 ·have:=(rB_iff.1 hq).2 _ (List.getElem_mem hk)
  rw[vB_iff.2 this] at h;cases h
end Go.Proofs.YteffjpdcghlnlaaGreatDoor.Oct
namespace Go.Proofs.YteffjpdcghlnlaaGreatDoor.Oct
@[irreducible] def nonC(c:Nat):Bf:=catF 4 (fun _=>0#8) (beN 8 c)
def hdL(i v:Nat):Nat:=encL i+encL v
def hdF(i v:Nat):Bf:=catF (encL i) (encF i) (encF v)
def blL(i v L:Nat):Nat:=hdL i v+12+L
@[irreducible] def blF(i v:Nat)(n b:Bf):Bf:=catF (hdL i v+12) (catF (hdL i v) (hdF i v) n) b
theorem hdL_le(i v:Nat):2<=hdL i v/\hdL i v<=18:=by have:=encL_le i;have:=encL_le v;have:=encL_pos i;have:=encL_pos v;unfold hdL;omega
def rdR(f:Bf):Bf:=offF f (tkL f)
def rdO(f:Bf):Nat:=tkL f+tkL (rdR f)
def rdB(n:Nat)(f:Bf):Bool:=decide (tkE n f=0/\1<=tkV f/\tkE (n-tkL f) (rdR f)=0/\1<=tkV (rdR f)/\28<=n-tkL f-tkL (rdR f)/\n-tkL f-tkL (rdR f)<=92)
@[irreducible] def rdE(n:Nat)(f:Bf):Int:=if rdB n f=true then 0 else 140
@[irreducible] def rdI(n:Nat)(f:Bf):Int:=if rdB n f=true then (tkV f:Nat) else 0
@[irreducible] def rdV(n:Nat)(f:Bf):Int:=if rdB n f=true then (tkV (rdR f):Nat) else 0
@[irreducible] def rdN(n:Nat)(f:Bf):Bf:=if rdB n f=true then offF f (rdO f) else fun _=>0#8
@[irreducible] def rdL(n:Nat)(f:Bf):Nat:=if rdB n f=true then n-tkL f-tkL (rdR f)-12 else 0
@[irreducible] def rdF(f:Bf):Bf:=offF f (rdO f+12)
section
variable {n:Nat} {f:Bf}
theorem rdB_iff:rdB n f=true↔tkE n f=0/\1<=tkV f/\tkE (n-tkL f) (rdR f)=0/\1<=tkV (rdR f)/\28<=n-tkL f-tkL (rdR f)/\n-tkL f-tkL (rdR f)<=92:=by unfold rdB;rw[decide_eq_true_eq]
theorem rdE_ok(h:rdB n f=true):rdE n f=0:=by unfold rdE;rw[if_pos h]
theorem rdE_no(h:rdB n f=false):rdE n f=140:=by unfold rdE;rw[if_neg (by rw[h];decide)]
theorem rdI_ok(h:rdB n f=true):rdI n f=(tkV f:Nat):=by unfold rdI;rw[if_pos h]
theorem rdI_no(h:rdB n f=false):rdI n f=0:=by unfold rdI;rw[if_neg (by rw[h];decide)]
theorem rdV_ok(h:rdB n f=true):rdV n f=(tkV (rdR f):Nat):=by unfold rdV;rw[if_pos h]
theorem rdV_no(h:rdB n f=false):rdV n f=0:=by unfold rdV;rw[if_neg (by rw[h];decide)]
theorem rdN_ok(h:rdB n f=true):rdN n f=offF f (rdO f):=by unfold rdN;rw[if_pos h]
theorem rdN_no(h:rdB n f=false):rdN n f=fun _=>0#8:=by unfold rdN;rw[if_neg (by rw[h];decide)]
theorem rdL_ok(h:rdB n f=true):rdL n f=n-tkL f-tkL (rdR f)-12:=by unfold rdL;rw[if_pos h]
theorem rdL_no(h:rdB n f=false):rdL n f=0:=by unfold rdL;rw[if_neg (by rw[h];decide)]
theorem rdL_le:rdL n f<=80:=by
 cases h:rdB n f
 ·rw[rdL_no h];omega
 ·rw[rdL_ok h];have:=rdB_iff.1 h;omega
theorem rdE_cases:rdE n f=0/\rdB n f=true\/rdE n f=140/\rdB n f=false:=by
 cases h:rdB n f
 ·exact .inr ⟨rdE_no h,rfl⟩
 ·exact .inl ⟨rdE_ok h,rfl⟩
end
section
variable {i v L:Nat} {n b:Bf}
theorem bl_head(k:Nat)(h:k<hdL i v):blF i v n b k=hdF i v k:=by unfold blF catF;rw[if_pos (by omega),if_pos h]
theorem bl_non(k:Nat)(h:k<12):blF i v n b (hdL i v+k)=n k:=by unfold blF catF;rw[if_pos (by omega),if_neg (by omega),Nat.add_sub_cancel_left]
theorem bl_text(k:Nat):blF i v n b (hdL i v+12+k)=b k:=by unfold blF catF;rw[if_neg (by omega),Nat.add_sub_cancel_left]
theorem bl_one(hi:i<9223372036854775808):tkE (blL i v L) (blF i v n b)=0/\tkV (blF i v n b)=i/\tkL (blF i v n b)=encL i:=
 tk_enc i hi (blL i v L) (blF i v n b) (by unfold blL hdL;omega) fun k hk=>by
  rw[bl_head k (by unfold hdL;omega)];unfold hdF catF;rw[if_pos hk]
theorem bl_two(hi:i<9223372036854775808)(hv:v<9223372036854775808):tkE (blL i v L-encL i) (rdR (blF i v n b))=0/\tkV (rdR (blF i v n b))=v/\tkL (rdR (blF i v n b))=encL v:=by
 refine tk_enc v hv _ _ (by unfold blL hdL;omega) fun k hk=>?_
 unfold rdR;rw[(bl_one (L:=0) hi).2.2];show blF i v n b (encL i+k)=_;rw[bl_head _ (by unfold hdL;omega)]
 unfold hdF catF;rw[if_neg (by omega),Nat.add_sub_cancel_left]
theorem bl_off(hi:i<9223372036854775808)(hv:v<9223372036854775808):rdO (blF i v n b)=hdL i v:=by
 unfold rdO;rw[(bl_one (L:=0) hi).2.2,(bl_two (L:=0) hi hv).2.2];rfl
theorem bl_B(hi:i<9223372036854775808)(hv:v<9223372036854775808)(h1:1<=i)(h2:1<=v):rdB (blL i v L) (blF i v n b)=decide (16<=L/\L<=80):=by
 obtain ⟨a1,a2,a3⟩:=bl_one (v:=v) (L:=L) (n:=n) (b:=b) hi;obtain ⟨c1,c2,c3⟩:=bl_two (L:=L) (n:=n) (b:=b) hi hv;unfold rdB;rw[a1,a2,a3,c1,c2,c3];congr 1;unfold blL hdL;apply propext;constructor
 ·intro h;omega
 ·intro h;omega
theorem bl_ok(hi:i<9223372036854775808)(hv:v<9223372036854775808)(h1:1<=i)(h2:1<=v)(h3:16<=L)(h4:L<=80):
  rdB (blL i v L) (blF i v n b)=true/\rdI (blL i v L) (blF i v n b)=i/\rdV (blL i v L) (blF i v n b)=v/\rdL (blL i v L) (blF i v n b)=L/\(∀ k,k<12->rdN (blL i v L) (blF i v n b) k=n k)/\rdF (blF i v n b)=b:=by
 have hB:rdB (blL i v L) (blF i v n b)=true:=by rw[bl_B hi hv h1 h2];simp;omega
 have ho:=bl_off (n:=n) (b:=b) hi hv;refine ⟨hB,?_,?_,?_,fun k hk=>?_,?_⟩
 ·rw[rdI_ok hB,(bl_one (L:=0) hi).2.1]
 ·rw[rdV_ok hB,(bl_two (L:=0) hi hv).2.1]
 ·rw[rdL_ok hB,(bl_one (L:=0) hi).2.2,(bl_two (L:=0) hi hv).2.2];unfold blL hdL;omega
 ·rw[rdN_ok hB,ho];exact bl_non k hk
 ·unfold rdF;rw[ho];funext k;exact bl_text k
end
@[irreducible] def ecE(K:Ks)(id:Int)(L S:Nat):Int:=if 64<L\/32<S then 2 else usE K id
@[irreducible] def enV(K:Ks)(id:Int)(L S:Nat):Int:=if ecE K id L S=0 then usV K id else 0
@[irreducible] def enK(K:Ks)(id:Int)(L S:Nat):Ks:=if 64<L\/32<S then K else usK K id
@[irreducible] def enL(K:Ks)(id:Int)(L S:Nat):Nat:=if ecE K id L S=0 then blL id.toNat (usV K id).toNat (L+16) else 0
@[irreducible] def enF(K:Ks)(id:Int)(t:Bf)(L:Nat)(s:Bf)(S:Nat):Bf:=
 blF id.toNat (usV K id).toNat (nonC (usC K id).toNat) (sealF (usM K id) (nonC (usC K id).toNat) s S t L)
@[irreducible] def dcE(K:Ks)(n:Nat)(f:Bf)(s:Bf)(S:Nat):Int:=
 if 32<S then 2 else if rdB n f=false then 140 else if mtE K (rdI n f) (rdV n f)=0 then opC (mtM K (rdI n f) (rdV n f)) (rdN n f) s S (rdF f) (rdL n f) else mtE K (rdI n f) (rdV n f)
@[irreducible] def dcI(K:Ks)(n:Nat)(f:Bf)(s:Bf)(S:Nat):Int:=if dcE K n f s S=0 then rdI n f else 0
@[irreducible] def dcL(K:Ks)(n:Nat)(f:Bf)(s:Bf)(S:Nat):Nat:=if dcE K n f s S=0 then rdL n f-16 else 0
@[irreducible] def dcF(K:Ks)(n:Nat)(f:Bf):Bf:=xorS (mtM K (rdI n f) (rdV n f)) (rdN n f) 2 (rdF f)
@[irreducible] def rwE(K:Ks)(n:Nat)(f:Bf)(s:Bf)(S:Nat):Int:=if dcE K n f s S=0 then ecE K (dcI K n f s S) (dcL K n f s S) S else dcE K n f s S
@[irreducible] def rwV(K:Ks)(n:Nat)(f:Bf)(s:Bf)(S:Nat):Int:=if dcE K n f s S=0 then enV K (dcI K n f s S) (dcL K n f s S) S else 0
@[irreducible] def rwK(K:Ks)(n:Nat)(f:Bf)(s:Bf)(S:Nat):Ks:=if dcE K n f s S=0 then enK K (dcI K n f s S) (dcL K n f s S) S else K
@[irreducible] def rwL(K:Ks)(n:Nat)(f:Bf)(s:Bf)(S:Nat):Nat:=if dcE K n f s S=0 then enL K (dcI K n f s S) (dcL K n f s S) S else 0
@[irreducible] def rwF(K:Ks)(n:Nat)(f:Bf)(s:Bf)(S:Nat):Bf:=enF K (dcI K n f s S) (dcF K n f) (dcL K n f s S) s S
theorem us_nat{K:Ks}{id:Int}(h:usE K id=0)(ok:okK K):∃ i V C:Nat,id=i/\usV K id=V/\usC K id=C/\1<=i/\i<=8/\1<=V/\V<=4/\C<16:=by
 obtain ⟨h1,h2,h3,h4⟩:=usE_zero h;have hr:=ok.ring h1;have hl:=hr.last;have h8:=ok.1;obtain ⟨a1,a2⟩:=hasK_iff.1 h1;have hc:=hl.1.1;refine ⟨id.toNat,(rgAt K id).l.length,(lastV (rgAt K id)).u.toNat,by omega,?_,?_,by omega,by omega,hr.1.1,hr.1.2,by omega⟩
 ·unfold usV;rw[if_pos h]
 ·unfold usC;rw[if_pos h];omega
section
variable {K:Ks} {id:Int} {L S:Nat}
theorem en_long(h:64<L\/32<S):ecE K id L S=2/\enV K id L S=0/\enK K id L S=K/\enL K id L S=0:=by
 have e:ecE K id L S=2:=by unfold ecE;rw[if_pos h]
 exact ⟨e,by unfold enV;rw[e,if_neg (by decide)],by unfold enK;rw[if_pos h],by unfold enL;rw[e,if_neg (by decide)]⟩
theorem en_no(h:¬ (64<L\/32<S))(hu:usE K id≠0):ecE K id L S=usE K id/\enV K id L S=0/\enK K id L S=usK K id/\enL K id L S=0:=by
 have e:ecE K id L S=usE K id:=by unfold ecE;rw[if_neg h]
 exact ⟨e,by unfold enV;rw[e,if_neg hu],by unfold enK;rw[if_neg h],by unfold enL;rw[e,if_neg hu]⟩
theorem en_ok(h:¬ (64<L\/32<S))(hu:usE K id=0):ecE K id L S=0/\enV K id L S=usV K id/\enK K id L S=usK K id/\enL K id L S=blL id.toNat (usV K id).toNat (L+16):=by
 have e:ecE K id L S=0:=by unfold ecE;rw[if_neg h,hu]
 exact ⟨e,by unfold enV;rw[if_pos e],by unfold enK;rw[if_neg h],by unfold enL;rw[if_pos e]⟩
theorem enK_ok(ok:okK K):okK (enK K id L S):=by
 unfold enK
 split
 ·exact ok
 ·exact usK_ok ok
end
open Go.RowKit
theorem sh_byte(x s:Nat):(x:Int) / 2^(8*s) % 256=I (BitVec.ofNat 8 (x / 256^s)):=by
 rw[<-I_of8,show (256:Nat)=2^8 from rfl,<-Nat.pow_mul,Int.natCast_ediv,Int.natCast_pow];rfl
theorem ld_rowV{P:Program}{w:World}{b:Nat}{c:Array Value}{ty:TypeId}{d:TypeDesc}(hr:row w b=some c)(hu:P.underlying ty=some d)(hd:d.isRow=true)(hi:(P.info? ty).map (·.size)=some c.size):
  (loadVar ty ⟨b,0,none⟩).run P w=.ok (.agg c) w:=by
 obtain ⟨t',ht⟩:=row_is hr;have hg:w.rangeAt b 0 (c.extract 0 (0+c.size)).toList:=World.rangeAt_of_block ht 0 c.size;have hx:=run_loadVar_mid (P:=P) w b 0 ty _ d hg hu hd (by rw[hi];simp)
 rw[Array.toArray_toList,Nat.zero_add,Array.extract_size] at hx;exact hx
open Go.ChangeShapes Go.WideShapes Go.ChangeAt
theorem e8_u:Tryz.prog.underlying 288=some (.array 8 5):=by kernel_rfl
theorem e8_i:(Tryz.prog.info? 288).map (·.size)=some 8:=by kernel_rfl
@[go_sem ↓] theorem e8_l(p:Value):Instr.loadAt 288 p=ldA 288 p:=rfl
@[go_sem ↓] theorem e8_s(p v:Value):Instr.storeAt 288 p v=stA 288 p v:=rfl
@[go_sem] theorem e8_ld(w:World)(b o:Nat):(ldA 288 (.pointer (some ⟨b,o,none⟩))).run Tryz.prog w=ldR Tryz.prog 288 8 w b o (row w b):=xG _ _ _ e8_u 8 e8_i w b o
@[go_sem] theorem e8_st(w:World)(b o:Nat)(c:Array Value):(stA 288 (.pointer (some ⟨b,o,none⟩)) (.agg c)).run Tryz.prog w=stR Tryz.prog 288 8 w b o (.agg c) (row w b):=yR _ 8 e8_i w b o c
theorem e8_z:(Tryz.prog.info? 288).map (·.zero)=some (some (.agg (ba 8 fun _=>0#8))):=by unfold ba;kernel_rfl
@[go_sem ↓] theorem e8_zero(w:World):(zeroValue 288).run Tryz.prog w=.ok (.agg (ba 8 fun _=>0#8)) w:=yG _ _ e8_z w
theorem pbe_any(x:Nat)(hx:x<18446744073709551616)(w:World):
  Calls Tryz.prog 217 #[.int .u64 x] w fun e w'=>e=.returned (.agg (ba 8 (beN 8 x)))/\Below w.heap.size w w':=by
 obtain ⟨w2,hw2⟩:∃ w2,w2=(w.alloc (.cells (ba 8 fun _=>0#8) 288)).alloc (.cells (ba 8 fun _=>0#8) 288):=⟨_,rfl⟩
 have q0:row w2 w.heap.size=some (ba 8 fun _=>0#8):=by rw[hw2];simp[go_sem]
 have q1:row w2 (w.heap.size+1)=some (ba 8 fun _=>0#8):=by rw[hw2];simp[go_sem]
 have B0:=Lib.hid (show Below w.heap.size w w2 by rw[hw2];exact ((Below.refl w.heap.size w).alloc (by simp) _).alloc (by simp) _)
 have HW2:=Lib.hid hw2;obtain ⟨D,hD⟩:∃ D,D=w.heap.size+1:=⟨_,rfl⟩;rw[<-hD] at q1;have HD:=Lib.hid hD;have HQ0:=Lib.hid q0;have HQ1:=Lib.hid q1;clear hw2 hD q0 q1;go_enter Tryz.func217,Tryz.ntmps217;go_wp2;rw[<-HW2.out,<-HD.out];go_loopw [5] (fun iv wr=>∃ j:Nat,j<=8/\iv=.int .i64 j/\wr=w2.setRow D (ba 8 (wrF (fun _=>0#8) 0 8 x j))) (fun iv _=>8-(intOf iv).toNat)
 case atStart=>exact ⟨0,by omega,rfl,by rw[wrF_zero,yF HQ1.out]⟩
 case round=>
  obtain ⟨j,hj,rfl,rfl⟩:=hrel;have hrow:=zE HQ1.out (ba 8 (wrF (fun _=>0#8) 0 8 x j))
  by_cases hlt:j<8
  ·have hd:decide ((j:Int)<8)=true:=by simp;omega
   have hix:(7:Int)-(j:Int)=((7-j:Nat):Int):=by omega
   have hsh:=sh_byte x j;have HST:=Lib.hid (wrF_step (fun _=>0#8) 0 8 x j hlt)
   have hi8:7-j<8:=by omega
   have hcl:(w2.setRow D (ba 8 (wrF (fun _=>0#8) 0 8 x j))).cell? ⟨D,7-j,none⟩=some (.int .u8 (I (wrF (fun _=>0#8) 0 8 x j (7-j)))):=by rw[zC hrow,yA _ _ _ (by omega)]
   have hfz:(w2.setRow D (ba 8 (wrF (fun _=>0#8) 0 8 x j))).frozen? ⟨D,7-j,none⟩=false:=zJ hrow _
   have HW:=Lib.hid (show ((w2.setRow D (ba 8 (wrF (fun _=>0#8) 0 8 x j))).setCell ⟨D,7-j,none⟩ (.int .u8 (I (BitVec.ofNat 8 (x / 256^j)))))=w2.setRow D (ba 8 (wrF (fun _=>0#8) 0 8 x (j+1))) by
    rw[zL hrow,ba_set,setRow_setRow,<-wrF_step (fun _=>0#8) 0 8 x j hlt,Nat.zero_add,show 8-(j+1)=7-j by omega])
   generalize w2.setRow D (ba 8 (wrF (fun _=>0#8) 0 8 x j))=wr at hcl hfz HW ⊢
   clear hrow HST;go_wp2;rw[HW.out];go_roundw
   case rel=>exact ⟨j+1,by omega,rfl,rfl⟩
   case measure=>simp[intOf];omega
  ·obtain rfl:j=8:=by omega
   have hd:decide (((8:Nat):Int)<8)=false:=by decide
   rw[wrF_all,show ba 8 (putF (fun _=>0#8) 0 8 (beN 8 x))=ba 8 (beN 8 x) from xA fun i hi=>by unfold putF;rw[if_pos (by omega),Nat.sub_zero]]
   have r1:=zE HQ1.out (ba 8 (beN 8 x));have r0:row (w2.setRow D (ba 8 (beN 8 x))) w.heap.size=some (ba 8 fun _=>0#8):=by rw[zF _ _ _ _ (by have:=HD.out;omega)];exact HQ0.out
   have B1:=Lib.hid (zG B0.out (by have:=HD.out;omega:w.heap.size<=D) (ba 8 (beN 8 x)))
   clear hrow;generalize w2.setRow D (ba 8 (beN 8 x))=w3 at r0 r1 B1 ⊢;go_wp2;exact bodyPost_ret (v:=.agg (ba 8 (beN 8 x))) (zW rfl _ _ w.heap.size _ _ _ rfl (zE r0 _) e8_u (by rw[zI];exact e8_i)) rfl ⟨rfl,zG B1.out (Nat.le_refl _) _⟩
theorem non_len:Tryz.prog.arrayLen 217=12:=by kernel_rfl
theorem non_elem:Tryz.prog.elem 217=5:=by kernel_rfl
theorem non_sl_4(B:Nat)(w:World):(Instr.sliceAt 217 (.pointer (some ⟨B,0,none⟩)) (some (.int .i64 4)) none none).run Tryz.prog w=.ok (.slice (some ⟨B,4,none⟩) 8 8) w:=by
 rw[run_sliceAt_array_l w 217 ⟨B,0,none⟩ (by kernel_rfl) .i64 _ (by omega) (by rw[non_len];omega),non_elem,u8_size,non_len,Result.andThen_ok]
 rfl
theorem non_sl_a(B:Nat)(w:World):(Instr.sliceAt 217 (.pointer (some ⟨B,0,none⟩)) none none none).run Tryz.prog w=.ok (.slice (some ⟨B,0,none⟩) 12 12) w:=by
 rw[run_sliceAt_array_all w 217 ⟨B,0,none⟩ (by kernel_rfl),non_elem,u8_size,non_len,Result.andThen_ok]
 rfl
theorem e8_len:Tryz.prog.arrayLen 288=8:=by kernel_rfl
theorem e8_elem:Tryz.prog.elem 288=5:=by kernel_rfl
theorem e8_sl_a(B:Nat)(w:World):(Instr.sliceAt 288 (.pointer (some ⟨B,0,none⟩)) none none none).run Tryz.prog w=.ok (.slice (some ⟨B,0,none⟩) 8 8) w:=by
 rw[run_sliceAt_array_all w 288 ⟨B,0,none⟩ (by kernel_rfl),e8_elem,u8_size,e8_len,Result.andThen_ok]
 rfl
theorem pnc_any(x:Nat)(hx:x<9223372036854775808)(w:World):
  Calls Tryz.prog 185 #[.int .i64 x] w fun e w'=>e=.returned (.agg (ba 12 (nonC x)))/\Below w.heap.size w w':=by
 obtain ⟨w2,hw2⟩:∃ w2,w2=(w.alloc (.cells (ba 12 fun _=>0#8) 217)).alloc (.cells (ba 12 fun _=>0#8) 217):=⟨_,rfl⟩
 have q0:row w2 w.heap.size=some (ba 12 fun _=>0#8):=by rw[hw2];simp[go_sem]
 have q1:row w2 (w.heap.size+1)=some (ba 12 fun _=>0#8):=by rw[hw2];simp[go_sem]
 have B0:=Lib.hid (show Below w.heap.size w w2 by rw[hw2];exact ((Below.refl w.heap.size w).alloc (by simp) _).alloc (by simp) _)
 have HW2:=Lib.hid hw2;obtain ⟨D,hD⟩:∃ D,D=w.heap.size+1:=⟨_,rfl⟩;rw[<-hD] at q1;have HD:=Lib.hid hD;have HQ0:=Lib.hid q0;have HQ1:=Lib.hid q1;have hcv:IntKind.u64.wrap (x:Int)=x:=by rw[IntKind.wrap_u64];omega
 clear hw2 hD q0 q1;go_enter Tryz.func185,Tryz.ntmps185;go_wp2_with fail;rw[<-HW2.out,<-HD.out];clear HW2;refine (pbe_any x (by omega) w2).mono ?_
 rintro e w3 ⟨rfl,hb3⟩;obtain ⟨F,hF⟩:∃ F,F=beN 8 x:=⟨_,rfl⟩;rw[<-hF];have HF:=Lib.hid hF;have b4:=hb3.alloc hb3.size (.cells (ba 8 F) 288);have r0:=zD b4 HQ0.out;have r1:=zD b4 HQ1.out;have r2:row (w3.alloc (.cells (ba 8 F) 288)) w3.heap.size=some (ba 8 F):=zA _ _ _ _ rfl;have B4:=Lib.hid (onto B0.out B0.out.size b4);have hz:D≠w3.heap.size:=by have:=hb3.size;have:=zK HQ1.out;omega
 obtain ⟨G,hG⟩:∃ G,G=w3.heap.size:=⟨_,rfl⟩;rw[<-hG] at r2 hz;have HG:=Lib.hid hG;have HZ:=Lib.hid hz;clear hb3 b4 hF hG hz HQ0 HQ1 B0;go_wp2_with fail;rw[<-HG.out];clear HG;generalize w3.alloc (.cells (ba 8 F) 288)=w4 at r0 r1 r2 B4 ⊢;have sA:=non_sl_4 D;have sB:=e8_sl_a G;refine yE [([0,1],2,true)] [] (by kernel_rfl) (by kernel_rfl) (fun _ _ _ _ _ h=>h) fun X=>?_
 have B5:=Lib.hid (onto B4.out B4.out.size X.below);have t0:=After.row r0 X;have t1:=After.row r1 X;have t2:=After.row r2 X;clear r0 r1 r2 B4;generalize X.val=w5 at B5 t0 t1 t2 ⊢;clear X;simp only[wpFs,pk,List.getElem?_cons_zero,List.getElem?_cons_succ]
 repeat (go_big_quiet_step (fail))
 refine wpQuiet_nil ?_;clear sA sB;have HS:=Sl.of_row t2 w5.heap.size (zK t2);go_wp2_with (refine wpl_copyAt rfl (.tmp 8) (.tmp 9) 22 22 5 rfl zZ u8_i t1 (show 4+8<=12 by omega) HS (show 8=min 8 8 by rfl) rfl rfl ?_)
 rw[show ba 12 (putF (fun _=>0#8) 4 8 F)=ba 12 (nonC x) from xA fun i hi=>by
  rw[HF.out];unfold putF nonC catF
  by_cases h:i<4
  ·rw[if_neg (by omega),if_pos h]
  ·rw[if_pos (by omega),if_neg h]]
 have r1:=zE t1 (ba 12 (nonC x));have r0:row (w5.setRow D (ba 12 (nonC x))) w.heap.size=some (ba 12 fun _=>0#8):=by rw[zF _ _ _ _ (by have:=HD.out;omega)];exact t0
 have B6:=Lib.hid (zG B5.out (by have:=HD.out;omega:w.heap.size<=D) (ba 12 (nonC x)))
 clear HS t0 t1 t2 B5;generalize w5.setRow D (ba 12 (nonC x))=w6 at r0 r1 B6 ⊢;show wpQuiet _ _ _ _ _ _;refine wpQuiet_nil ?_;go_wp2;exact bodyPost_ret (v:=.agg (ba 12 (nonC x))) (zW rfl _ _ w.heap.size _ _ _ rfl (zE r0 _) non_u (by rw[zI];exact non_i)) rfl ⟨rfl,zG B6.out (Nat.le_refl _) _⟩
end Go.Proofs.YteffjpdcghlnlaaGreatDoor.Oct
namespace Go.Proofs.YteffjpdcghlnlaaGreatDoor.Oct
structure Sx where
 d:St
 n:Int
 K:Ks
 l:List Se
 g:Int
structure Cm where
 k:Int
 s:Int
 q:Int
 i:Int
 n:Int
 T:Nat
 f:Bf
 U:Nat
 h:Bf
structure Rp where
 c:Int
 n:Int
 m:Int
 T:Nat
 f:Bf
def rpE(e:Int):Rp:=⟨e,0,0,0,fun _=>0#8⟩
def rpO(e:Int)(r:Rp):Rp:=if e=0 then r else rpE e
def drM(d:St):Bf:=drwF d (fun _=>0#8) 0
def drD(d:St):St:=drwS d 32 (fun _=>0#8) 0
def exR(x:Sx)(c:Cm):Rp:=
 if c.k=3 then rpO (crE x.K) ⟨0,crN x.K,1,0,fun _=>0#8⟩
 else if c.k=4 then rpO (rtE x.K c.i) ⟨0,c.i,rtN x.K c.i,0,fun _=>0#8⟩
 else if c.k=5 then rpE (swE x.K c.i)
 else if c.k=6 then rpE (dsE x.K c.i c.n)
 else if c.k=7 then rpO (ecE x.K c.i c.T c.U) ⟨0,c.i,enV x.K c.i c.T c.U,enL x.K c.i c.T c.U,enF x.K c.i c.f c.T c.h c.U⟩
 else if c.k=8 then rpO (dcE x.K c.T c.f c.h c.U) ⟨0,0,0,dcL x.K c.T c.f c.h c.U,dcF x.K c.T c.f⟩
 else if c.k=9 then rpO (rwE x.K c.T c.f c.h c.U) ⟨0,0,rwV x.K c.T c.f c.h c.U,rwL x.K c.T c.f c.h c.U,rwF x.K c.T c.f c.h c.U⟩
 else rpE 0
def exK(x:Sx)(c:Cm):Ks:=
 if c.k=3 then crK x.K (drM x.d)
 else if c.k=4 then rtK x.K c.i (drM x.d)
 else if c.k=5 then swK x.K c.i (decide (c.n=1))
 else if c.k=6 then dsK x.K c.i c.n
 else if c.k=7 then enK x.K c.i c.T c.U
 else if c.k=9 then rwK x.K c.T c.f c.h c.U
 else x.K
def exD(x:Sx)(c:Cm):St:=if c.k=3\/c.k=4 then drD x.d else if c.k=10 then updS x.d c.f c.T else x.d
def exC(x:Sx)(c:Cm):Int:=if c.k=3\/c.k=4 then x.n+1 else if c.k=10 then 1 else x.n
def exS(x:Sx)(c:Cm):Se:=⟨c.s,c.q,(exR x c).c,(exR x c).n,(exR x c).m,(exR x c).T,(exR x c).f⟩
def seR(s:Se):Rp:=⟨s.c,s.n,s.m,s.T,s.f⟩
def apR(x:Sx)(c:Cm):Rp:=
 if chkE c.k c.s c.q c.i c.n c.T c.U≠0 then rpE 1
 else if c.k=1 then ⟨opE x.l x.g,opN x.l x.g,0,0,fun _=>0#8⟩
 else if c.k=2 then rpE (exE x.l c.i)
 else if akE x.l c.s c.q≠0 then rpE (akE x.l c.s c.q)
 else if akB x.l c.s c.q=true then seR (akS x.l c.s c.q)
 else exR x c
def apX(x:Sx)(c:Cm):Sx:=
 if chkE c.k c.s c.q c.i c.n c.T c.U≠0 then x
 else if c.k=1 then ⟨x.d,x.n,x.K,opSe x.l x.g,opG x.l x.g⟩
 else if c.k=2 then ⟨x.d,x.n,x.K,ssX x.l c.i,x.g⟩
 else if akE x.l c.s c.q≠0 then x
 else if akB x.l c.s c.q=true then x
 else ⟨exD x c,exC x c,exK x c,dnL x.l (exS x c),x.g⟩
theorem ssG_hit{l:List Se}{x:Se}(h:ssH l x.id=true):ssG (ssD l x) x.id=some x:=by
 have h1:ssH (ssD l x) x.id=true:=by rw[ssH_D l x h];exact h
 rw[ssH_G] at h1;obtain ⟨s,hs⟩:=Option.isSome_iff_exists.1 h1;rcases ssG_D hs with ⟨-,e⟩|⟨e,-⟩
 ·rw[hs,e]
 ·exact absurd rfl e
theorem ak_new{l:List Se}{id q:Int}(h0:akE l id q=0)(h1:akB l id q=false):∃ s,ssG l id=some s/\s.q<q/\1<=q/\ssH l id=true:=by
 unfold akE at h0;unfold akB at h1
 cases e:ssG l id with
 |none=>rw[e] at h0;simp at h0
 |some s=>
  rw[e] at h0 h1;have h0:(if q<s.q\/q<1 then (151:Int) else 0)=0:=h0
  have h2:¬ (q<s.q\/q<1):=fun hh=>by rw[if_pos hh] at h0;omega
  have h3:=of_decide_eq_false h1;exact ⟨s,rfl,by omega,by omega,by rw[ssH_G,e];rfl⟩
theorem dn_new{l:List Se}{x:Se}(h0:akE l x.id x.q=0)(h1:akB l x.id x.q=false):dnE l x.id x.q=0/\dnL l x=ssD l x:=by
 obtain ⟨s,hs,hq,-,-⟩:=ak_new h0 h1
 have e:dnE l x.id x.q=0:=by
  unfold dnE;rw[hs];exact if_neg (by omega)
 exact ⟨e,by unfold dnL;rw[if_pos e]⟩
theorem ak_again{l:List Se}{x:Se}(h:ssH l x.id=true)(hq:1<=x.q):akE (ssD l x) x.id x.q=0/\akB (ssD l x) x.id x.q=true/\akS (ssD l x) x.id x.q=x:=by
 have e:=ssG_hit h;have hn:¬ (x.q<x.q\/x.q<1):=by omega
 unfold akE akB akS;rw[e];exact ⟨if_neg hn,decide_eq_true ⟨hn,rfl⟩,if_pos ⟨hn,rfl⟩⟩
theorem ap_again(x:Sx)(c:Cm)(h1:c.k≠1)(h2:c.k≠2):apR (apX x c) c=apR x c/\apX (apX x c) c=apX x c:=by
 by_cases hc:chkE c.k c.s c.q c.i c.n c.T c.U≠0
 ·unfold apX apR
  simp only[if_pos hc,and_self]
 by_cases ha:akE x.l c.s c.q≠0
 ·have e:apX x c=x:=by unfold apX;rw[if_neg hc,if_neg h1,if_neg h2,if_pos ha]
  rw[e];exact ⟨rfl,e⟩
 cases hb:akB x.l c.s c.q with
 |true=>
  have e:apX x c=x:=by unfold apX;rw[if_neg hc,if_neg h1,if_neg h2,if_neg ha,if_pos hb]
  rw[e];exact ⟨rfl,e⟩
 |false=>
  have ha':akE x.l c.s c.q=0:=by simpa using ha
  obtain ⟨s,-,-,hq,hh⟩:=ak_new ha' hb;have hd:=(dn_new (x:=exS x c) ha' hb).2
  have e:apX x c=⟨exD x c,exC x c,exK x c,ssD x.l (exS x c),x.g⟩:=by
   unfold apX;rw[if_neg hc,if_neg h1,if_neg h2,if_neg ha,if_neg (by rw[hb];decide),hd]
  have er:apR x c=exR x c:=by unfold apR;rw[if_neg hc,if_neg h1,if_neg h2,if_neg ha,if_neg (by rw[hb];decide)]
  obtain ⟨a1,a2,a3⟩:=ak_again (x:=exS x c) hh hq;have a1':akE (ssD x.l (exS x c)) c.s c.q=0:=a1;have a2':akB (ssD x.l (exS x c)) c.s c.q=true:=a2;have a3':akS (ssD x.l (exS x c)) c.s c.q=exS x c:=a3;rw[e,er];refine ⟨?_,?_⟩
  ·unfold apR
   rw[if_neg hc,if_neg h1,if_neg h2,if_neg (by rw[a1'];decide),if_pos a2',a3']
   rfl
  ·unfold apX
   rw[if_neg hc,if_neg h1,if_neg h2,if_neg (by rw[a1'];decide),if_pos a2']
structure SxOk(x:Sx):Prop where
 K:okK x.K
 T:SsOk x.l x.g
 c:1<=x.n
theorem enT_le{K:Ks}{id:Int}{L S:Nat}:enL K id L S<=110:=by
 unfold enL
 by_cases h:ecE K id L S=0
 ·rw[if_pos h]
  have hL:L<=64:=by
   unfold ecE at h
   by_cases hh:64<L\/32<S
   ·rw[if_pos hh] at h;omega
   ·omega
  have:=hdL_le id.toNat (usV K id).toNat;unfold blL;omega
 ·rw[if_neg h];omega
theorem dcT_le{K:Ks}{n:Nat}{f s:Bf}{S:Nat}:dcL K n f s S<=64:=by
 unfold dcL
 by_cases h:dcE K n f s S=0
 ·rw[if_pos h]
  have:=@rdL_le n f;omega
 ·rw[if_neg h];omega
theorem rwT_le{K:Ks}{n:Nat}{f s:Bf}{S:Nat}:rwL K n f s S<=110:=by
 unfold rwL
 by_cases h:dcE K n f s S=0
 ·rw[if_pos h];exact enT_le
 ·rw[if_neg h];omega
theorem rwX_ok{K:Ks}{n:Nat}{f s:Bf}{S:Nat}(h:okK K):okK (rwK K n f s S):=by
 unfold rwK
 by_cases e:dcE K n f s S=0
 ·rw[if_pos e];exact enK_ok h
 ·rw[if_neg e];exact h
theorem rpO_T{e:Int}{r:Rp}{n:Nat}(h:r.T<=n):(rpO e r).T<=n:=by
 unfold rpO
 by_cases he:e=0
 ·rw[if_pos he];exact h
 ·rw[if_neg he];exact Nat.zero_le _
theorem exR_T(x:Sx)(c:Cm):(exR x c).T<=110:=by
 unfold exR
 repeat' split
 all_goals first
  |exact rpO_T (Nat.zero_le _)
  |exact rpO_T enT_le
  |exact rpO_T (Nat.le_trans dcT_le (by omega))
  |exact rpO_T rwT_le
  |exact Nat.zero_le _
theorem exK_ok{x:Sx}{c:Cm}(h:okK x.K):okK (exK x c):=by
 unfold exK
 repeat' split
 all_goals first
  |exact crK_ok h _
  |exact rtK_ok h _
  |exact swK_ok h _
  |exact dsK_ok h
  |exact enK_ok h
  |exact rwX_ok h
  |exact h
theorem exC_ok{x:Sx}{c:Cm}(h:1<=x.n):1<=exC x c/\exC x c<=x.n+1:=by
 unfold exC
 repeat' split
 all_goals omega
theorem apX_ok{x:Sx}{c:Cm}(h:SxOk x):SxOk (apX x c):=by
 unfold apX
 repeat' split
 ·exact h
 ·exact ⟨h.K,h.T.opn,h.c⟩
 ·exact ⟨h.K,h.T.drop _,h.c⟩
 ·exact h
 ·exact h
 ·exact ⟨exK_ok h.K,h.T.dn _ (Nat.le_trans (exR_T x c) (by omega)),(exC_ok h.c).1⟩
theorem apX_n{x:Sx}{c:Cm}(h:1<=x.n):(apX x c).n<=x.n+1:=by
 unfold apX
 repeat' split
 all_goals first
  |exact (exC_ok h).2
  |exact Int.le_add_one (Int.le_refl _)
def cdB(e:Int):Prop:=e=0\/e=2\/e=3\/e=40\/(130<=e/\e<=134)\/e=140
theorem crE_cd{K:Ks}:cdB (crE K):=by
 unfold crE
 repeat' split
 all_goals (unfold cdB;omega)
theorem rtE_cd{K:Ks}{id:Int}:cdB (rtE K id):=by
 unfold rtE
 repeat' split
 all_goals (unfold cdB;omega)
theorem swE_cd{K:Ks}{id:Int}:cdB (swE K id):=by
 unfold swE
 repeat' split
 all_goals (unfold cdB;omega)
theorem dsE_cd{K:Ks}{id v:Int}:cdB (dsE K id v):=by
 unfold dsE
 repeat' split
 all_goals (unfold cdB;omega)
theorem usE_cd{K:Ks}{id:Int}:cdB (usE K id):=by
 unfold usE
 repeat' split
 all_goals (unfold cdB;omega)
theorem mtE_cd{K:Ks}{id v:Int}:cdB (mtE K id v):=by
 unfold mtE
 repeat' split
 all_goals (unfold cdB;omega)
theorem opC_cd{k n s:Bf}{ns:Nat}{b:Bf}{L:Nat}:cdB (opC k n s ns b L):=by
 unfold opC
 repeat' split
 all_goals (unfold cdB;omega)
theorem ecE_cd{K:Ks}{id:Int}{L S:Nat}:cdB (ecE K id L S):=by
 unfold ecE
 split
 ·unfold cdB;omega
 ·exact usE_cd
theorem dcE_cd{K:Ks}{n:Nat}{f s:Bf}{S:Nat}:cdB (dcE K n f s S):=by
 unfold dcE
 repeat' split
 ·unfold cdB;omega
 ·unfold cdB;omega
 ·exact opC_cd
 ·exact mtE_cd
theorem rwE_cd{K:Ks}{n:Nat}{f s:Bf}{S:Nat}:cdB (rwE K n f s S):=by
 unfold rwE
 split
 ·exact ecE_cd
 ·exact dcE_cd
theorem rpO_c{e:Int}{r:Rp}(h:cdB e)(hr:cdB r.c):cdB (rpO e r).c:=by
 unfold rpO
 split
 ·exact hr
 ·exact h
theorem exR_cd(x:Sx)(c:Cm):cdB (exR x c).c:=by
 unfold exR
 repeat' split
 ·exact rpO_c crE_cd (.inl rfl)
 ·exact rpO_c rtE_cd (.inl rfl)
 ·exact swE_cd
 ·exact dsE_cd
 ·exact rpO_c ecE_cd (.inl rfl)
 ·exact rpO_c dcE_cd (.inl rfl)
 ·exact rpO_c rwE_cd (.inl rfl)
 ·exact .inl rfl
def nmB(r:Rp):Prop:=0<=r.n/\r.n<=9/\0<=r.m/\r.m<=9
theorem nmB_mk{e n m:Int}{T:Nat}{f:Bf}(h:0<=n/\n<=9/\0<=m/\m<=9):nmB ⟨e,n,m,T,f⟩:=h
theorem rpE_nm(e:Int):nmB (rpE e):=nmB_mk (by omega)
theorem rpO_nm{e:Int}{r:Rp}(h:e=0->nmB r):nmB (rpO e r):=by
 unfold rpO
 split
 ·rename_i he;exact h he
 ·exact rpE_nm _
theorem has_bd{K:Ks}{id:Int}(ok:okK K)(h:hasK K id=true):1<=id/\id<=8:=by
 have:=hasK_iff.1 h;have:=ok.1;omega
theorem rtE_has{K:Ks}{id:Int}(h:rtE K id=0):hasK K id=true/\(rgAt K id).l.length<4:=by
 unfold rtE at h
 by_cases h1:hasK K id=true
 ·rw[if_pos h1] at h
  by_cases h2:4<=(rgAt K id).l.length
  ·rw[if_pos h2] at h;omega
  ·exact ⟨h1,by omega⟩
 ·rw[if_neg h1] at h;omega
theorem ecE_us{K:Ks}{id:Int}{L S:Nat}(h:ecE K id L S=0):usE K id=0:=by
 unfold ecE at h
 split at h
 ·omega
 ·exact h
theorem enV_bd{K:Ks}{id:Int}{L S:Nat}(ok:okK K):0<=enV K id L S/\enV K id L S<=9:=by
 unfold enV
 split
 ·rename_i h
  obtain ⟨i,V,C,-,e,-,-,-,-,h1,-⟩:=us_nat (ecE_us h) ok;rw[e];omega
 ·omega
theorem exR_nm{x:Sx}(c:Cm)(ok:okK x.K):nmB (exR x c):=by
 unfold exR
 repeat' split
 ·refine rpO_nm fun _=>?_
  refine nmB_mk ?_;unfold crN;have:=ok.1
  split<;>omega
 ·refine rpO_nm fun h=>?_
  obtain ⟨h1,h2⟩:=rtE_has h;have:=has_bd ok h1;show 0<=c.i/\c.i<=9/\0<=rtN x.K c.i/\rtN x.K c.i<=9;unfold rtN;rw[if_pos h];omega
 ·exact rpE_nm _
 ·exact rpE_nm _
 ·refine rpO_nm fun h=>?_
  have:=has_bd ok (usE_zero (ecE_us h)).1;have:=@enV_bd x.K c.i c.T c.U ok;exact nmB_mk (by omega)
 ·exact rpO_nm fun _=>nmB_mk (by omega)
 ·refine rpO_nm fun _=>?_
  show 0<=(0:Int)/\(0:Int)<=9/\0<=rwV x.K c.T c.f c.h c.U/\rwV x.K c.T c.f c.h c.U<=9;unfold rwV
  split
  ·have:=@enV_bd x.K (dcI x.K c.T c.f c.h c.U) (dcL x.K c.T c.f c.h c.U) c.U ok
   omega
  ·omega
 ·exact rpE_nm _
theorem chk_q{k s q i n:Int}{T U:Nat}(h:chkE k s q i n T U=0):q<=1099511627776:=by
 have h':chkB k s q i n T U=true:=by unfold chkE at h;cases hb:chkB k s q i n T U with
  |true=>rfl
  |false=>rw[hb] at h;simp at h
 have hk:kiB k=true:=by unfold chkB at h';cases hb:kiB k with
  |true=>rfl
  |false=>rw[hb] at h';simp at h'
 have hcase:k=1\/k=2\/k=3\/k=4\/k=5\/k=6\/k=7\/k=8\/k=9\/k=10:=by unfold kiB at hk;simp at hk;omega
 clear h hk;rcases hcase with rfl|rfl|rfl|rfl|rfl|rfl|rfl|rfl|rfl|rfl
 all_goals
  simp[chkB,kiB,fitB,inB,sh,shN] at h';omega
structure SdOk(s:Se):Prop where
 c:cdB s.c
 nm:nmB (seR s)
 T:s.T<=110
 q0:0<=s.q
 q1:s.q<=1099511627776
 z:s.q=0->s.c=0/\s.n=0/\s.m=0/\s.T=0
theorem SdOk.new(id:Int):SdOk (Se.new id):=⟨.inl rfl,nmB_mk (by show 0<=(0:Int)/\(0:Int)<=9/\0<=(0:Int)/\(0:Int)<=9;omega),Nat.zero_le _,Int.le_refl 0,by show (0:Int)<=_;omega,fun _=>⟨rfl,rfl,rfl,rfl⟩⟩
theorem apX_sd{x:Sx}{c:Cm}(h:SxOk x)(hs:∀ s∈x.l,SdOk s):∀ s∈(apX x c).l,SdOk s:=by
 unfold apX
 by_cases hc:chkE c.k c.s c.q c.i c.n c.T c.U≠0
 ·rw[if_pos hc];exact hs
 rw[if_neg hc];have hc0:chkE c.k c.s c.q c.i c.n c.T c.U=0:=by omega
 by_cases h1:c.k=1
 ·rw[if_pos h1]
  show ∀ s∈opSe x.l x.g,SdOk s;unfold opSe
  split
  ·exact hs
  ·intro s hm
   rcases List.mem_append.1 hm with hm|hm
   ·exact hs s hm
   ·rw[List.mem_singleton] at hm
    subst hm;exact SdOk.new _
 rw[if_neg h1]
 by_cases h2:c.k=2
 ·rw[if_pos h2]
  exact fun s hm=>hs s (List.mem_filter.1 hm).1
 rw[if_neg h2]
 by_cases ha:akE x.l c.s c.q≠0
 ·rw[if_pos ha];exact hs
 rw[if_neg ha]
 cases hb:akB x.l c.s c.q with
 |true=>rw[if_pos rfl];exact hs
 |false=>
  rw[if_neg (by decide)]
  obtain ⟨-,-,-,hq,-⟩:=ak_new (by omega) hb
  show ∀ s∈dnL x.l (exS x c),SdOk s;unfold dnL
  split
  ·intro s hm
   rcases ssD_mem hm with rfl|⟨hm,-⟩
   ·refine ⟨exR_cd x c,exR_nm c h.K,exR_T x c,?_,chk_q hc0,fun hz=>?_⟩
    ·show 0<=c.q;omega
    ·have hz:c.q=0:=hz
     omega
   ·exact hs s hm
  ·exact hs
def eN(v:Nat):By:=bl (encL v) (encF v)
def eT(n:Nat)(f:Bf):By:=eN n++bl n f
def eB(b:Bool):By:=eN (if b=true then 1 else 0)
def eVe(v:Ve):By:=eT 32 v.m++(eN v.u.toNat++eB v.g)
def eRg(r:Rg):By:=eB r.off++(eN r.l.length++r.l.flatMap eVe)
def eRp(r:Rp):By:=eN r.c.toNat++(eN r.n.toNat++(eN r.m.toNat++eT r.T r.f))
def eSe(s:Se):By:=eN s.id.toNat++(eN s.q.toNat++eRp (seR s))
def eSx(x:Sx):By:=eT 32 x.d.1++(eT 32 x.d.2++(eN x.n.toNat++(eN x.K.length++(x.K.flatMap eRg++(eN (x.g+1).toNat++(eN x.l.length++x.l.flatMap eSe))))))
abbrev u63(n:Nat):Prop:=n<9223372036854775808
abbrev i63(x:Int):Prop:=0<=x/\x<9223372036854775808
theorem eN_head(a:Nat)(r:By)(ha:u63 a):tkV (lf (eN a++r))=a:=by
 have hl:(eN a).length=encL a:=xL _ _;refine (tk_enc a ha (eN a++r).length (lf (eN a++r)) (by rw[List.length_append,hl];omega) fun i hi=>?_).2.1
 rw[lf_app,hl];unfold catF;rw[if_pos hi];exact lf_bl _ _ _ hi
theorem xK{a b:Nat}{r r':By}(ha:u63 a)(hb:u63 b)(h:eN a++r=eN b++r'):a=b/\r=r':=by
 have h1:=eN_head a r ha;rw[h,eN_head b r' hb] at h1;subst h1;exact ⟨rfl,List.append_cancel_left h⟩
theorem eI_app{a b:Int}{r r':By}(ha:i63 a)(hb:i63 b)(h:eN a.toNat++r=eN b.toNat++r'):a=b/\r=r':=by
 obtain ⟨e,hr⟩:=xK (by omega) (by omega) h
 exact ⟨by omega,hr⟩
theorem eB_app{a b:Bool}{r r':By}(h:eB a++r=eB b++r'):a=b/\r=r':=by
 unfold eB at h;obtain ⟨e,hr⟩:=xK (by split<;>omega) (by split<;>omega) h
 exact ⟨by cases a<;>cases b<;>simp_all,hr⟩
theorem bl_app{n:Nat}{f g:Bf}{r r':By}(h:bl n f++r=bl n g++r'):(∀ i,i<n->f i=g i)/\r=r':=by
 obtain ⟨h1,h2⟩:=List.append_inj h (by rw[xL,xL])
 exact ⟨fun i hi=>by rw[<-lf_bl n f i hi,h1,lf_bl n g i hi],h2⟩
theorem eT_app{n m:Nat}{f g:Bf}{r r':By}(hn:u63 n)(hm:u63 m)(h:eT n f++r=eT m g++r'):n=m/\(∀ i,i<n->f i=g i)/\r=r':=by
 unfold eT at h;rw[List.append_assoc,List.append_assoc] at h;obtain ⟨rfl,h⟩:=xK hn hm h;obtain ⟨h1,h2⟩:=bl_app h;exact ⟨rfl,h1,h2⟩
def all2{α:Type}(R:α->α->Prop):List α->List α->Prop
 |[],[]=>True
 |a::l,b::m=>R a b/\all2 R l m
 |_,_=>False
theorem all2_len{α:Type}{R:α->α->Prop}:∀ {l m:List α},all2 R l m->l.length=m.length
 |[],[],_=>rfl
 |a::l,b::m,h=>by rw[List.length_cons,List.length_cons,all2_len h.2]
 |[],b::m,h=>h.elim
 |a::l,[],h=>h.elim
theorem all2_get{α:Type}{R:α->α->Prop}:∀ {l m:List α},all2 R l m->∀ i (h:i<l.length) (h':i<m.length),R l[i] m[i]
 |a::l,b::m,h,0,_,_=>h.1
 |a::l,b::m,h,i+1,h1,h2=>all2_get h.2 i (by simpa using h1) (by simpa using h2)
 |[],_,_,i,h1,_=>absurd h1 (by simp)
 |a::l,[],h,_,_,_=>h.elim
theorem fm_app{α:Type}{e:α->By}{R:α->α->Prop}{P:α->Prop}(he:∀ a b r r',P a->P b->e a++r=e b++r'->R a b/\r=r'):
  ∀ (l m:List α) (r r':By),l.length=m.length->(∀ a∈l,P a)->(∀ b∈m,P b)->l.flatMap e++r=m.flatMap e++r'->all2 R l m/\r=r'
 |[],[],r,r',_,_,_,h=>⟨trivial,by simpa using h⟩
 |a::l,b::m,r,r',hl,h1,h2,h=>by
  rw[List.flatMap_cons,List.flatMap_cons,List.append_assoc,List.append_assoc] at h;obtain ⟨hr,h⟩:=he a b _ _ (h1 a (List.mem_cons_self ..)) (h2 b (List.mem_cons_self ..)) h;obtain ⟨h3,h4⟩:=fm_app he l m r r' (by simpa using hl) (fun x hx=>h1 x (List.mem_cons_of_mem _ hx)) (fun x hx=>h2 x (List.mem_cons_of_mem _ hx)) h
  exact ⟨⟨hr,h3⟩,h4⟩
 |[],b::m,_,_,hl,_,_,_=>by simp at hl
 |a::l,[],_,_,hl,_,_,_=>by simp at hl
def veS(a b:Ve):Prop:=(∀ i,i<32->a.m i=b.m i)/\a.u=b.u/\a.g=b.g
def rgS(a b:Rg):Prop:=a.off=b.off/\all2 veS a.l b.l
def rpS(a b:Rp):Prop:=a.c=b.c/\a.n=b.n/\a.m=b.m/\a.T=b.T/\∀ i,i<a.T->a.f i=b.f i
def seS(a b:Se):Prop:=a.id=b.id/\a.q=b.q/\rpS (seR a) (seR b)
structure SxS(a b:Sx):Prop where
 k:∀ i,i<32->a.d.1 i=b.d.1 i
 v:∀ i,i<32->a.d.2 i=b.d.2 i
 n:a.n=b.n
 K:all2 rgS a.K b.K
 l:all2 seS a.l b.l
 g:a.g=b.g
def rpW(r:Rp):Prop:=i63 r.c/\i63 r.n/\i63 r.m/\u63 r.T
def seW(s:Se):Prop:=i63 s.id/\i63 s.q/\rpW (seR s)
theorem eRp_app(a b:Rp)(r r':By)(ha:rpW a)(hb:rpW b)(h:eRp a++r=eRp b++r'):rpS a b/\r=r':=by
 unfold eRp at h;simp only[List.append_assoc] at h;obtain ⟨a1,a2,a3,a4⟩:=ha;obtain ⟨b1,b2,b3,b4⟩:=hb;obtain ⟨e1,h⟩:=eI_app a1 b1 h;obtain ⟨e2,h⟩:=eI_app a2 b2 h;obtain ⟨e3,h⟩:=eI_app a3 b3 h;obtain ⟨e4,e5,h⟩:=eT_app a4 b4 h;exact ⟨⟨e1,e2,e3,e4,e5⟩,h⟩
theorem eSe_app(a b:Se)(r r':By)(ha:seW a)(hb:seW b)(h:eSe a++r=eSe b++r'):seS a b/\r=r':=by
 unfold eSe at h;simp only[List.append_assoc] at h;obtain ⟨e1,h⟩:=eI_app ha.1 hb.1 h;obtain ⟨e2,h⟩:=eI_app ha.2.1 hb.2.1 h;obtain ⟨e3,h⟩:=eRp_app _ _ _ _ ha.2.2 hb.2.2 h;exact ⟨⟨e1,e2,e3⟩,h⟩
theorem bl_cat(a b:Nat)(F G:Bf):bl (a+b) (catF a F G)=bl a F++bl b G:=by
 refine lf_inj (by simp) fun i hi=>?_
 rw[xL] at hi;rw[lf_bl _ _ _ hi,lf_app,xL];unfold catF
 by_cases h:i<a
 ·rw[if_pos h,if_pos h,lf_bl _ _ _ h]
 ·rw[if_neg h,if_neg h,lf_bl _ _ _ (by omega)]
theorem bl_zero(F:Bf):bl 0 F=[]:=rfl
theorem bl_congr{n:Nat}{F G:Bf}(h:∀ i,i<n->F i=G i):bl n F=bl n G:=lf_inj (by simp) fun i hi=>by rw[xL] at hi;rw[lf_bl _ _ _ hi,lf_bl _ _ _ hi,h i hi]
theorem lf_drop(l:By)(k i:Nat):lf (l.drop k) i=offF (lf l) k i:=by
 unfold lf offF;simp only[List.getD_eq_getElem?_getD,List.getElem?_drop]
theorem eT_bl(n:Nat)(f:Bf):eT n f=bl (txL n) (txF n f):=by unfold eT eN txL txF;rw[bl_cat]
theorem cu_bl(L:Nat->Nat)(F:Nat->Bf)(j:Nat):bl (cuL L (j+1)) (cuF L F (j+1))=bl (cuL L j) (cuF L F j)++bl (L j) (F j):=bl_cat _ _ _ _
theorem eRp_bl(r:Rp):eRp r=bl (repL r.c r.n r.m r.T) (repF r.c r.n r.m r.T r.f):=by
 unfold repL repF;rw[bl_cat,<-eT_bl];show _=bl (cuL _ (2+1)) (cuF _ _ (2+1))++_;rw[cu_bl,show (2:Nat)=1+1 from rfl,cu_bl,show (1:Nat)=0+1 from rfl,cu_bl]
 show _=(((bl 0 _++_)++_)++_)++_;rw[bl_zero,List.nil_append,List.append_assoc,List.append_assoc];rfl
theorem front{l:By}{k:Nat}{F:Bf}(hk:k<=l.length)(h:∀ i,i<k->F i=lf l i):l=bl k F++l.drop k:=by
 have e:bl k F=l.take k:=lf_inj (by rw[xL,List.length_take];omega) fun i hi=>by
  rw[xL] at hi;rw[lf_bl _ _ _ hi,lf_take _ _ _ hi,h i hi]
 rw[e,List.take_append_drop]
theorem eN_len(v:Nat):(eN v).length=encL v:=xL _ _
theorem eT_len(n:Nat)(f:Bf):(eT n f).length=txL n:=by rw[eT_bl,xL]
theorem num_ok{l:By}(h:tkE l.length (lf l)=0):l=eN (tkV (lf l))++l.drop (tkL (lf l))/\u63 (tkV (lf l))/\tkL (lf l)<=l.length:=by
 obtain ⟨e1,e2⟩:=enc_tk h;have hl:=tkL_le h;refine ⟨?_,(tk_ok h).2.2.2.2,hl⟩;unfold eN;rw[e1];exact front hl e2
theorem num_no{l:By}(h:tkE l.length (lf l)≠0)(v:Nat)(hv:u63 v)(r:By):l≠eN v++r:=fun e=>by
 refine h ?_;rw[e]
 exact (tk_enc v hv _ (lf (eN v++r)) (by rw[List.length_append,eN_len];omega) fun i hi=>by
  rw[lf_app,eN_len];unfold catF;rw[if_pos hi]
  exact lf_bl _ _ _ hi).1
theorem txt_ok{l:By}{m:Int}(h:ttE l.length m (lf l)=0):l=eT (tkV (lf l)) (offF (lf l) (tkL (lf l)))++l.drop (tkL (lf l)+tkV (lf l))/\(tkV (lf l):Int)<=m/\tkL (lf l)+tkV (lf l)<=l.length:=by
 obtain ⟨e1,e2⟩:=once_tx h;obtain ⟨-,h2,h3⟩:=tt_le h;refine ⟨?_,h2,h3⟩;rw[eT_bl,e1];exact front h3 e2
theorem txt_no{l:By}{m:Int}(h:ttE l.length m (lf l)≠0)(T:Nat)(t:Bf)(hT:T<=4096)(hm:(T:Int)<=m)(r:By):l≠eT T t++r:=fun e=>by
 refine h ?_;have hl:l.length=txL T+r.length:=by rw[e,List.length_append,eT_len]
 have hf:∀ i,i<encL T->lf l i=encF T i:=fun i hi=>by
  rw[e,lf_app,eT_len];unfold catF;rw[if_pos (by unfold txL;omega),eT_bl,lf_bl _ _ _ (by unfold txL;omega)]
  unfold txF catF;rw[if_pos hi]
 obtain ⟨h1,h2,h3⟩:=tk_enc T (by omega) l.length (lf l) (by rw[hl];unfold txL;omega) hf
 unfold ttE;rw[if_neg (fun h=>h h1),h2,h3,if_neg (by omega),if_neg (by rw[hl];unfold txL;omega)]
def rpG(r:Rp):Prop:=i63 r.c/\i63 r.n/\i63 r.m/\r.T<=4096
def rpT(f:Bf):Rp:=⟨(puX f 0:Nat),(puX f 1:Nat),(puX f 2:Nat),trT f,trF f⟩
theorem repN_b{r:Rp}(h:rpG r):∀ j,-9223372036854775808<=repN r.c r.n r.m j/\repN r.c r.n r.m j<9223372036854775808:=fun j=>by
 obtain ⟨⟨a,b⟩,⟨c,d⟩,⟨e,f⟩,-⟩:=h;unfold repN
 repeat' split
 all_goals omega
theorem repE_g{r:Rp}(h:rpG r):repE r.c r.n r.m r.T=0:=by
 obtain ⟨⟨a,b⟩,⟨c,d⟩,⟨e,f⟩,g⟩:=h;refine fi_zero fun j hj=>?_
 unfold th2
 split
 ·refine fi_zero fun i hi=>?_
  unfold neE repN;rw[if_neg]
  repeat' split
  all_goals omega
 ·unfold txE
  rw[if_neg (by omega)]
theorem rep_ok{l:By}(h:trE l.length (lf l)=0):l=eRp (rpT (lf l))++l.drop (trO (lf l) 2)/\rpG (rpT (lf l))/\trO (lf l) 2<=l.length:=by
 obtain ⟨e1,e2,e3⟩:=once_rep h;have q0:puE l.length (lf l) 3=0:=fi_each h 0 (by omega)
 have q1:ttE (l.length-trO (lf l) 1) 4096 (offF (lf l) (trO (lf l) 1))=0:=fi_each h 1 (by omega)
 have hp:∀ j,j<3->puX (lf l) j<9223372036854775808:=fun j hj=>(tk_ok (fi_each q0 j hj)).2.2.2.2
 have hT:=(tt_le q1).2.1;have a:=hp 0 (by omega)
 have b:=hp 1 (by omega)
 have c:=hp 2 (by omega)
 refine ⟨?_,⟨⟨by show (0:Int)<=(puX (lf l) 0:Nat);omega,by show ((puX (lf l) 0:Nat):Int)<_;omega⟩,⟨by show (0:Int)<=(puX (lf l) 1:Nat);omega,by show ((puX (lf l) 1:Nat):Int)<_;omega⟩,⟨by show (0:Int)<=(puX (lf l) 2:Nat);omega,by show ((puX (lf l) 2:Nat):Int)<_;omega⟩,?_⟩,e3⟩
 ·rw[eRp_bl]
  show l=bl (repL (puX (lf l) 0:Nat) (puX (lf l) 1:Nat) (puX (lf l) 2:Nat) (trT (lf l))) (repF (puX (lf l) 0:Nat) (puX (lf l) 1:Nat) (puX (lf l) 2:Nat) (trT (lf l)) (trF (lf l)))++_;rw[e1];exact front e3 e2
 ·show trT (lf l)<=4096
  unfold trT;omega
theorem rep_no{l:By}(h:trE l.length (lf l)≠0)(r:Rp)(hr:rpG r)(s:By):l≠eRp r++s:=fun e=>by
 refine h ?_;have hl:l.length=repL r.c r.n r.m r.T+s.length:=by rw[e,List.length_append,eRp_bl,xL]
 exact (back_rep (M:=l.length) (d:=r.f) (repE_g hr) (repN_b hr) (by omega) fun j hj=>by
  rw[e,lf_app,eRp_bl,xL];unfold catF
  rw[if_pos hj,lf_bl _ _ _ hj]).1
theorem rpG.w{r:Rp}(h:rpG r):rpW r:=⟨h.1,h.2.1,h.2.2.1,by have:=h.2.2.2;show r.T<_;omega⟩
theorem cut_front{l e r:By}{P:Nat}(h:l.take P=e++r):l=e++(r++l.drop P):=by rw[<-List.append_assoc,<-h,List.take_append_drop]
theorem cut_none{l e r:By}{P:Nat}(hP:e.length<=P)(h:l=e++r):l.take P=e++r.take (P-e.length):=by
 rw[h,List.take_append];rw[List.take_of_length_le hP]
def st0(f:Bf)(n:Nat):Sx:=⟨updS newS f n,1,[],[],0⟩
theorem st0_ok(f:Bf)(n:Nat):SxOk (st0 f n):=⟨ok_nil,SsOk.nil,Int.le_refl 1⟩
theorem st0_sd(f:Bf)(n:Nat):∀ s∈(st0 f n).l,SdOk s:=fun s hs=>by cases hs
def cmO:Cm:=⟨1,0,0,0,0,0,fun _=>0#8,0,fun _=>0#8⟩
def cmC(s q:Int):Cm:=⟨3,s,q,0,0,0,fun _=>0#8,0,fun _=>0#8⟩
theorem chk_O:chkE 1 0 0 0 0 0 0=0:=by decide
theorem chk_C{s q:Int}(h1:1<=s)(h2:s<=1099511627776)(h3:1<=q)(h4:q<=1099511627776):chkE 3 s q 0 0 0 0=0:=by
 unfold chkE;rw[if_pos (by simp[chkB,kiB,fitB,inB,sh,shN];omega)]
theorem ap_O(x:Sx):apR x cmO=⟨opE x.l x.g,opN x.l x.g,0,0,fun _=>0#8⟩/\apX x cmO=⟨x.d,x.n,x.K,opSe x.l x.g,opG x.l x.g⟩:=by
 constructor
 ·show (if chkE 1 0 0 0 0 0 0≠0 then _ else _)=_
  rw[if_neg (by rw[chk_O];decide)]
  exact if_pos rfl
 ·show (if chkE 1 0 0 0 0 0 0≠0 then _ else _)=_
  rw[if_neg (by rw[chk_O];decide)]
  exact if_pos rfl
theorem ap_do{x:Sx}{c:Cm}{s:Se}(hc:chkE c.k c.s c.q c.i c.n c.T c.U=0)(h1:c.k≠1)(h2:c.k≠2)(h:ssG x.l c.s=some s)(hq:s.q<c.q)(hq1:1<=c.q):apR x c=exR x c/\apX x c=⟨exD x c,exC x c,exK x c,ssD x.l (exS x c),x.g⟩:=by
 have e:akE x.l c.s c.q=0:=by unfold akE;rw[h];exact if_neg (by omega)
 have eb:akB x.l c.s c.q=false:=by unfold akB;rw[h];exact decide_eq_false (by omega)
 have hd:=(dn_new (x:=exS x c) e eb).2;have hc:¬ chkE c.k c.s c.q c.i c.n c.T c.U≠0:=by omega
 have ha:¬ akE x.l c.s c.q≠0:=by omega
 have hb:¬ akB x.l c.s c.q=true:=by rw[eb];decide
 constructor
 ·unfold apR
  rw[if_neg hc,if_neg h1,if_neg h2,if_neg ha,if_neg hb]
 ·unfold apX
  rw[if_neg hc,if_neg h1,if_neg h2,if_neg ha,if_neg hb,hd]
theorem one_G(s:Se):ssG [s] s.id=some s:=by unfold ssG;simp
theorem one_D(a b:Se)(h:a.id=b.id):ssD [a] b=[b]:=by unfold ssD;simp[h]
theorem open_1{g:Int}(h0:0<=g)(h1:g<1000):opSe [] g=[Se.new (g+1)]/\opG [] g=g+1/\opN [] g=g+1/\opE [] g=0:=by
 have hF:opF [] g=false:=by unfold opF;rw[show decide (g+1=1099511627776)=false from decide_eq_false (by omega)];rfl
 unfold opSe opG opN opE;rw[hF];exact ⟨rfl,rfl,rfl,rfl⟩
def NoF{α:Type}(e:α->By)(G:α->Prop)(l:By):Prop:=∀ a r,G a->l≠e a++r
def Unq{α:Type}(e:α->By)(G:α->Prop)(R:α->α->Prop):Prop:=∀ a b r r',G a->G b->e a++r=e b++r'->R a b/\r=r'
theorem NoF.less{α:Type}{e:α->By}{G G':α->Prop}{l:By}(h:NoF e G l)(hg:∀ a,G' a->G a):NoF e G' l:=fun a r ha=>h a r (hg a ha)
def eL{α:Type}(e:α->By)(L:List α):By:=eN L.length++L.flatMap e
def LG{α:Type}(m:Nat)(G:α->Prop)(L:List α):Prop:=L.length<=m/\∀ a∈L,G a
def veG(v:Ve):Prop:=i63 v.u
def rgG(r:Rg):Prop:=LG 4 veG r.l
theorem eVe_unq:Unq eVe veG veS:=fun a b r r' ha hb h=>by
 unfold eVe at h;simp only[List.append_assoc] at h;obtain ⟨-,e1,h⟩:=eT_app (by omega) (by omega) h
 obtain ⟨e2,h⟩:=eI_app ha hb h;obtain ⟨e3,h⟩:=eB_app h;exact ⟨⟨e1,e2,e3⟩,h⟩
theorem eL_unq{α:Type}{e:α->By}{G:α->Prop}{R:α->α->Prop}(hu:Unq e G R){m:Nat}(hm:u63 m):Unq (eL e) (LG m G) (all2 R):=fun a b r r' ha hb h=>by
 unfold eL at h;simp only[List.append_assoc] at h;obtain ⟨e1,h⟩:=xK (by have:=ha.1;omega) (by have:=hb.1;omega) h
 exact fm_app (P:=G) (R:=R) hu _ _ _ _ e1 ha.2 hb.2 h
theorem eRg_eq(r:Rg):eRg r=eB r.off++eL eVe r.l:=rfl
theorem eRg_unq:Unq eRg rgG rgS:=fun a b r r' ha hb h=>by
 rw[eRg_eq,eRg_eq,List.append_assoc,List.append_assoc] at h;obtain ⟨e1,h⟩:=eB_app h;obtain ⟨e2,h⟩:=eL_unq eVe_unq (m:=4) (by omega) _ _ _ _ ha hb h
 exact ⟨⟨e1,e2⟩,h⟩
theorem fm_drop{α:Type}{e:α->By}{G:α->Prop}{R:α->α->Prop}(hu:Unq e G R):∀ (L M:List α) (x r:By),L.length<M.length->(∀ a∈L,G a)->(∀ a∈M,G a)->L.flatMap e++x=M.flatMap e++r->∃ a r',G a/\x=e a++r'
 |[],b::M,x,r,_,_,h2,h=>by
  rw[List.flatMap_nil,List.nil_append,List.flatMap_cons,List.append_assoc] at h;exact ⟨b,_,h2 b (List.mem_cons_self ..),h⟩
 |a::L,b::M,x,r,hl,h1,h2,h=>by
  rw[List.flatMap_cons,List.flatMap_cons,List.append_assoc,List.append_assoc] at h;have h3:=(hu a b _ _ (h1 a (List.mem_cons_self ..)) (h2 b (List.mem_cons_self ..)) h).2;exact fm_drop hu L M x r (by simpa using hl) (fun c hc=>h1 c (List.mem_cons_of_mem _ hc)) (fun c hc=>h2 c (List.mem_cons_of_mem _ hc)) h3
 |_,[],_,_,hl,_,_,_=>absurd hl (by simp)
theorem noL{α:Type}{e:α->By}{G:α->Prop}{R:α->α->Prop}(hu:Unq e G R){k m:Nat}{L:List α}{l lj:By}(hm:u63 m)(hL:∀ a∈L,G a)(hk:u63 k)(hj:L.length<k)(h:l=eN k++(L.flatMap e++lj))(hn:NoF e G lj):
  NoF (eL e) (LG m G) l:=fun M r hM he=>by
 rw[h] at he;unfold eL at he;rw[List.append_assoc] at he;obtain ⟨e1,h2⟩:=xK hk (by have:=hM.1;omega) he
 obtain ⟨a,r',ha,hx⟩:=fm_drop hu L M lj r (by omega) hL hM.2 h2
 exact hn a r' ha hx
theorem noL_count{α:Type}{e:α->By}{G:α->Prop}{m:Nat}{l:By}(hm:u63 m)(hn:NoF eN u63 l):NoF (eL e) (LG m G) l:=fun M r hM he=>by
 refine hn M.length (M.flatMap e++r) (by have:=hM.1;omega) ?_
 rw[he];unfold eL;rw[List.append_assoc]
theorem noL_many{α:Type}{e:α->By}{G:α->Prop}{k m:Nat}{l r:By}(hm:u63 m)(hk:u63 k)(h:l=eN k++r)(hlt:m<k):NoF (eL e) (LG m G) l:=fun M s hM he=>by
 rw[h] at he;unfold eL at he;rw[List.append_assoc] at he;obtain ⟨e1,-⟩:=xK hk (by have:=hM.1;omega) he
 have:=hM.1;omega
theorem no_1{α β γ:Type}{e:γ->By}{e1:α->By}{e2:β->By}{G:γ->Prop}{G1:α->Prop}{p:γ->α}{q:γ->β}(he:∀ c,e c=e1 (p c)++e2 (q c))(hg:∀ c,G c->G1 (p c)){l:By}(h:NoF e1 G1 l):NoF e G l:=fun c r hc h2=>by
 refine h (p c) (e2 (q c)++r) (hg c hc) ?_;rw[h2,he,List.append_assoc]
theorem no_2{α β γ:Type}{e:γ->By}{e1:α->By}{e2:β->By}{G:γ->Prop}{G1:α->Prop}{G2:β->Prop}{R:α->α->Prop}{p:γ->α}{q:γ->β}(he:∀ c,e c=e1 (p c)++e2 (q c))(hg:∀ c,G c->G1 (p c)/\G2 (q c))(hu:Unq e1 G1 R){l l1:By}{a:α}(ha:G1 a)(hl:l=e1 a++l1)(h:NoF e2 G2 l1):
  NoF e G l:=fun c r hc h2=>by
 rw[hl,he,List.append_assoc] at h2;exact h (q c) r (hg c hc).2 (hu a (p c) _ _ ha (hg c hc).1 h2).2
theorem eN_unq:Unq eN u63 Eq:=fun a b r r' ha hb h=>xK ha hb h
theorem eB_unq:Unq eB (fun _=>True) Eq:=fun a b r r' _ _ h=>eB_app h
theorem eW_unq:Unq (eT 32) (fun _=>True) (fun f g=>∀ i,i<32->f i=g i):=fun a b r r' _ _ h=>(eT_app (by omega) (by omega) h).2
theorem noB_num{l:By}(h:NoF eN u63 l):NoF eB (fun _=>True) l:=fun b r _ he=>h _ r (by cases b<;>decide) he
theorem noB_many{l r:By}{n:Nat}(hn:u63 n)(h:l=eN n++r)(h1:1<n):NoF eB (fun _=>True) l:=fun b s _ he=>by
 rw[h] at he;unfold eB at he;obtain ⟨e1,-⟩:=xK hn (by cases b<;>decide) he
 cases b<;>simp at e1<;>omega
theorem eB_of{n:Nat}(h:n<=1):eN n=eB (decide ((n:Int)=1)):=by
 rcases (by omega:n=0\/n=1) with rfl|rfl<;>rfl
def eSr(s:St×Nat):By:=eT 32 s.1.1++(eT 32 s.1.2++eN s.2)
def srG(s:St×Nat):Prop:=1<=s.2/\u63 s.2
def srS(a b:St×Nat):Prop:=(∀ i,i<32->a.1.1 i=b.1.1 i)/\(∀ i,i<32->a.1.2 i=b.1.2 i)/\a.2=b.2
theorem eSr_unq:Unq eSr srG srS:=fun a b r r' ha hb h=>by
 unfold eSr at h;simp only[List.append_assoc] at h;obtain ⟨-,e1,h⟩:=eT_app (by omega) (by omega) h
 obtain ⟨-,e2,h⟩:=eT_app (by omega) (by omega) h
 obtain ⟨e3,h⟩:=xK ha.2 hb.2 h;exact ⟨⟨e1,e2,e3⟩,h⟩
theorem okK.lg{K:Ks}(h:okK K):LG 8 rgG K:=⟨h.1,fun r hr=>⟨(h.2 r hr).1.2,fun v hv=>by
 have:=((h.2 r hr).2 v hv).1
 exact ⟨this.1,by omega⟩⟩⟩
end Go.Proofs.YteffjpdcghlnlaaGreatDoor.Oct
