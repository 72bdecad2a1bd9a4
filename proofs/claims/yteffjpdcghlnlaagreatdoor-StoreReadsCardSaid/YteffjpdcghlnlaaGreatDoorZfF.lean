import Derived.Test.YteffjpdcghlnlaaGreatDoorZfE
set_option linter.unusedVariables false
set_option linter.unusedSimpArgs false
set_option maxHeartbeats 4000000
set_option maxRecDepth 20000
namespace Go.Proofs.YteffjpdcghlnlaaGreatDoor.Oct
open Go.RowKit
structure KyC(c:Array Value)(o:Nat)(r:Rg):Prop where
 off:c[o]? =some (.bool r.off)
 cnt:c[o+137]? =some (.int .i64 (r.l.length:Int))
 few:r.l.length<=4
 ver:∀ v (h:v<r.l.length) j,j<34->c[o+1+v*34+j]? =(veC r.l[v])[j]?
theorem KyC.eq{c c':Array Value}{o o':Nat}{r:Rg}(h:KyC c o r)(e:∀ j,j<138->c'[o'+j]? =c[o+j]?):KyC c' o' r:=by
 have hf:=h.few;refine ⟨?_,?_,hf,fun v hv j hj=>?_⟩
 ·have:=e 0 (by omega);rw[Nat.add_zero,Nat.add_zero] at this;rw[this];exact h.off
 ·rw[e 137 (by omega)];exact h.cnt
 ·have:=e (1+v*34+j) (by omega)
  rw[show o'+1+v*34+j=o'+(1+v*34+j) by omega,this,show o+(1+v*34+j)=o+1+v*34+j by omega]
  exact h.ver v hv j hj
theorem KyC.setOff{c:Array Value}{o:Nat}{r:Rg}(h:KyC c o r)(b:Bool)(hs:o<c.size):KyC (c.setIfInBounds o (.bool b)) o ⟨b,r.l⟩:=by
 have hf:=h.few;refine ⟨?_,?_,hf,fun v hv j hj=>?_⟩
 ·rw[Array.getElem?_setIfInBounds,if_pos rfl,if_pos hs]
 ·rw[Array.getElem?_setIfInBounds,if_neg (by omega)];exact h.cnt
 ·rw[Array.getElem?_setIfInBounds,if_neg (by omega)];exact h.ver v hv j hj
theorem KyC.put{c c':Array Value}{o v:Nat}{r:Rg}{y:Ve}(h:KyC c o r)(hv:v<r.l.length)(e1:∀ j,j<138->(j<1+v*34\/35+v*34<=j)->c'[o+j]? =c[o+j]?)(e2:∀ j,j<34->c'[o+1+v*34+j]? =(veC y)[j]?):
  KyC c' o ⟨r.off,r.l.set v y⟩:=by
 have hf:=h.few;refine ⟨?_,?_,by rw[List.length_set];exact hf,fun k hk j hj=>?_⟩
 ·have:=e1 0 (by omega) (.inl (by omega));rw[Nat.add_zero] at this;rw[this];exact h.off
 ·rw[e1 137 (by omega) (.inr (by omega)),List.length_set];exact h.cnt
 ·rw[List.length_set] at hk
  by_cases hkv:k=v
  ·subst hkv
   rw[e2 j hj,List.getElem_set_self]
  ·rw[List.getElem_set_ne (fun e=>hkv e.symm)]
   have:=e1 (1+k*34+j) (by omega) (by
    rcases Nat.lt_or_ge k v with h1|h1
    ·exact .inl (by have:=Nat.mul_le_mul_right 34 (show k+1<=v by omega);omega)
    ·exact .inr (by have:=Nat.mul_le_mul_right 34 (show v+1<=k by omega);omega))
   rw[show o+1+k*34+j=o+(1+k*34+j) by omega,this,show o+(1+k*34+j)=o+1+k*34+j by omega]
   exact h.ver k hk j hj
theorem KyC.more{c c':Array Value}{o:Nat}{r:Rg}{y:Ve}(h:KyC c o r)(hv:r.l.length<4)(e1:∀ j,j<138->(j<1+r.l.length*34\/(35+r.l.length*34<=j/\j<137))->c'[o+j]? =c[o+j]?)(e2:∀ j,j<34->c'[o+1+r.l.length*34+j]? =(veC y)[j]?)
  (e3:c'[o+137]? =some (.int .i64 ((r.l.length:Int)+1))):KyC c' o ⟨r.off,r.l++[y]⟩:=by
 refine ⟨?_,?_,by rw[List.length_append];exact hv,fun k hk j hj=>?_⟩
 ·have:=e1 0 (by omega) (.inl (by omega));rw[Nat.add_zero] at this;rw[this];exact h.off
 ·rw[e3,List.length_append];rfl
 ·rw[List.length_append,List.length_singleton] at hk
  by_cases hkv:k=r.l.length
  ·subst hkv
   rw[e2 j hj];simp
  ·have hlt:k<r.l.length:=by omega
   rw[List.getElem_append_left hlt];have:=e1 (1+k*34+j) (by omega) (.inl (by have:=Nat.mul_le_mul_right 34 (show k+1<=r.l.length by omega);omega))
   rw[show o+1+k*34+j=o+(1+k*34+j) by omega,this,show o+(1+k*34+j)=o+1+k*34+j by omega]
   exact h.ver k hlt j hj
theorem KyC.setOne{c:Array Value}{o v j:Nat}{r:Rg}{u:Value}{y:Ve}(h:KyC c o r)(hv:v<r.l.length)(hj:j<34)(hy:(veC r.l[v]).set j u=veC y)(hs:o+138<=c.size):
  KyC (c.setIfInBounds (o+1+v*34+j) u) o ⟨r.off,r.l.set v y⟩:=by
 have hf:=h.few;refine h.put hv (fun k hk hn=>?_) (fun k hk=>?_)
 ·rw[Array.getElem?_setIfInBounds,if_neg (by omega)]
 ·rw[Array.getElem?_setIfInBounds,<-hy]
  by_cases hkj:k=j
  ·subst hkj
   rw[if_pos rfl,if_pos (by have:=Nat.mul_le_mul_right 34 (show v+1<=4 by omega);omega),List.getElem?_set_self (by rw[veC_len];exact hk)]
  ·rw[if_neg (by omega),List.getElem?_set_ne (fun e=>hkj e.symm)]
   exact h.ver v hv k hk
theorem KyC.setMat{c:Array Value}{o v:Nat}{r:Rg}{f:Bf}(h:KyC c o r)(hv:v<r.l.length)(hs:o+138<=c.size):
  KyC (spl c (o+1+v*34) (ba 32 f).toList) o ⟨r.off,r.l.set v ⟨f,r.l[v].u,r.l[v].g⟩⟩:=by
 have hf:=h.few;have hl:(ba 32 f).toList.length=32:=by rw[Array.length_toList,zI]
 have hm:=Nat.mul_le_mul_right 34 (show v+1<=4 by omega)
 refine h.put hv (fun k hk hn=>?_) (fun k hk=>?_)
 ·rw[yU _ _ _ _ (by rw[hl];omega),hl,if_neg (by omega)]
 ·rw[yU _ _ _ _ (by rw[hl];omega),hl]
  by_cases h1:k<32
  ·rw[if_pos (by omega),Array.getElem?_toList,show o+1+v*34+k-(o+1+v*34)=k by omega,yA _ _ _ h1,veC_m _ _ h1]
  ·rw[if_neg (by omega),h.ver v hv k hk]
   by_cases h2:k=32
   ·subst h2;rw[veC_u,veC_u]
   ·obtain rfl:k=33:=by omega
    rw[veC_g,veC_g]
theorem KyC.add{c:Array Value}{o:Nat}{r:Rg}{y:Ve}(h:KyC c o r)(hv:r.l.length<4)(hs:o+138<=c.size):
  KyC ((spl c (o+1+r.l.length*34) (veC y)).setIfInBounds (o+137) (.int .i64 ((r.l.length:Int)+1))) o ⟨r.off,r.l++[y]⟩:=by
 have hl:(veC y).length=34:=veC_len y;have hm:=Nat.mul_le_mul_right 34 (show r.l.length+1<=4 by omega)
 refine h.more hv (fun k hk hn=>?_) (fun k hk=>?_) ?_
 ·rw[Array.getElem?_setIfInBounds,if_neg (by omega),yU _ _ _ _ (by rw[hl];omega),hl,if_neg (by omega)]
 ·rw[Array.getElem?_setIfInBounds,if_neg (by omega),yU _ _ _ _ (by rw[hl];omega),hl,if_pos (by omega),show o+1+r.l.length*34+k-(o+1+r.l.length*34)=k by omega]
 ·rw[Array.getElem?_setIfInBounds,if_pos rfl,spl_sizeK,if_pos (by omega)]
def rgI(K:Ks)(i:Nat):Rg:=K.getD i rg0
structure KsC(o:Nat)(R:Array Value)(c:Array Value)(K:Ks):Prop where
 size:c.size=R.size
 fit:o+1105<=R.size
 oth:∀ j,(j<o\/o+1105<=j)->c[j]? =R[j]?
 ones:Ones c
 cnt:c[o+1104]? =some (.int .i64 (K.length:Int))
 key:∀ i,i<8->KyC c (o+i*138) (rgI K i)
theorem rgI_lt{K:Ks}{i:Nat}(h:i<K.length):rgI K i=K[i]:=by unfold rgI;simp[h]
theorem rgI_ge{K:Ks}{i:Nat}(h:K.length<=i):rgI K i=rg0:=by unfold rgI;simp[h]
theorem rgI_set{K:Ks}{i j:Nat}{r:Rg}(h:i<K.length):rgI (K.set i r) j=if j=i then r else rgI K j:=by
 by_cases hj:j=i
 ·subst hj;rw[if_pos rfl,rgI_lt (by rw[List.length_set];exact h),List.getElem_set_self]
 ·rw[if_neg hj]
  unfold rgI;simp only[List.getD_eq_getElem?_getD];rw[List.getElem?_set_ne (fun e=>hj e.symm)]
theorem rgI_app{K:Ks}{j:Nat}{r:Rg}:rgI (K++[r]) j=if j=K.length then r else rgI K j:=by
 unfold rgI;simp only[List.getD_eq_getElem?_getD]
 by_cases h1:j<K.length
 ·rw[List.getElem?_append_left h1,if_neg (by omega)]
 ·by_cases h2:j=K.length
  ·subst h2;simp
  ·rw[if_neg h2,List.getElem?_eq_none (by rw[List.length_append,List.length_singleton];omega),List.getElem?_eq_none (by omega)]
theorem KsC.upd{o:Nat}{R c c':Array Value}{K:Ks}{i:Nat}{r:Rg}(h:KsC o R c K)(hi:i<K.length)(hi8:i<8)(hs:c'.size=c.size)(ho:Ones c')(e:∀ j,(j<o+i*138\/o+i*138+138<=j)->c'[j]? =c[j]?)(hk:KyC c' (o+i*138) r):KsC o R c' (K.set i r):=by
 refine ⟨by rw[hs];exact h.size,h.fit,fun j hj=>by rw[e j (by omega)];exact h.oth j hj,ho,by rw[e (o+1104) (.inr (by omega)),List.length_set];exact h.cnt,fun j hj=>?_⟩
 rw[rgI_set hi]
 by_cases hji:j=i
 ·subst hji;rw[if_pos rfl];exact hk
 ·rw[if_neg hji]
  exact (h.key j hj).eq fun k hk=>e _ (by omega)
theorem KsC.app{o:Nat}{R c c':Array Value}{K:Ks}{r:Rg}(h:KsC o R c K)(hi8:K.length<8)(hs:c'.size=c.size)(ho:Ones c')(e:∀ j,(j<o+K.length*138\/o+K.length*138+138<=j)->j≠o+1104->c'[j]? =c[j]?)(hn:c'[o+1104]? =some (.int .i64 ((K.length:Int)+1)))(hk:KyC c' (o+K.length*138) r):KsC o R c' (K++[r]):=by
 refine ⟨by rw[hs];exact h.size,h.fit,fun j hj=>by rw[e j (by omega) (by omega)];exact h.oth j hj,ho,by rw[hn,List.length_append];rfl,fun j hj=>?_⟩
 rw[rgI_app]
 by_cases hji:j=K.length
 ·subst hji;rw[if_pos rfl];exact hk
 ·rw[if_neg hji]
  exact (h.key j hj).eq fun k hk=>e _ (by omega) (by omega)
def ksX(o:Nat)(c:Array Value):Array Value:=c.extract o (o+1105)
theorem KsC.fitc{o:Nat}{R c:Array Value}{K:Ks}(h:KsC o R c K):o+1105<=c.size:=by rw[h.size];exact h.fit
theorem ksX_size{o:Nat}{c:Array Value}(h:o+1105<=c.size):(ksX o c).size=1105:=by unfold ksX;rw[Array.size_extract];omega
theorem ksX_get{o:Nat}{c:Array Value}(h:o+1105<=c.size){j:Nat}(hj:j<1105):(ksX o c)[j]? =c[o+j]? :=by unfold ksX;rw[Array.getElem?_extract,if_pos (by omega)]
theorem ksX_ones{o:Nat}{c:Array Value}(h:Ones c):Ones (ksX o c):=by
 unfold Ones ksX at*;rw[Array.all_eq_true] at*;intro j hj;rw[Array.size_extract] at hj;rw[Array.getElem_extract];exact h _ (by omega)
theorem KsC.move{o o':Nat}{R R' c c':Array Value}{K:Ks}(h:KsC o R c K)(hs:c'.size=R'.size)(hf:o'+1105<=R'.size)(ho:Ones c')(hR:∀ j,(j<o'\/o'+1105<=j)->c'[j]? =R'[j]?)(e:∀ j,j<1105->c'[o'+j]? =c[o+j]?):KsC o' R' c' K:=by
 refine ⟨hs,hf,hR,ho,by rw[e 1104 (by omega)];exact h.cnt,fun i hi=>(h.key i hi).eq fun j hj=>?_⟩
 rw[show o'+i*138+j=o'+(i*138+j) by omega,e _ (by omega),show o+(i*138+j)=o+i*138+j by omega]
theorem KsC.cut{o:Nat}{R R' c:Array Value}{K:Ks}(h:KsC o R c K)(hR:R'.size=1105):KsC 0 R' (ksX o c) K:=
 h.move (by rw[ksX_size h.fitc,hR]) (by omega) (ksX_ones h.ones) (fun j hj=>by rw[Array.getElem?_eq_none (by rw[ksX_size h.fitc];omega),Array.getElem?_eq_none (by omega)]) fun j hj=>by rw[Nat.zero_add];exact ksX_get h.fitc hj
theorem ones_set{c:Array Value}{j:Nat}{v:Value}(h:Ones c)(hv:v.oneCell'=true):Ones (c.setIfInBounds j v):=by
 unfold Ones at*;rw[Array.all_eq_true] at*;intro i hi;rw[Array.size_setIfInBounds] at hi;rw[Array.getElem_setIfInBounds]
 split
 ·exact hv
 ·exact h i hi
theorem ones_spl:∀ (vs:List Value) (o:Nat) (c:Array Value),Ones c->(∀ v∈vs,v.oneCell'=true)->Ones (spl c o vs)
 |[],_,_,h,_=>h
 |v::r,o,c,h,hv=>by
  simp only[spl];exact ones_spl r (o+1) _ (ones_set h (hv v (List.mem_cons_self ..))) fun x hx=>hv x (List.mem_cons_of_mem _ hx)
open Go.ChangeShapes Go.WideShapes Go.ChangeAt
theorem stR_spl{P:Program}{t m:Nat}{w:World}{b o:Nat}{c x:Array Value}(h:o+m<=c.size)(hx:x.size=m)(h1:Ones x):stR P t m w b o (.agg x) (some c)=.ok () (w.setRow b (spl c o x.toList)):=by
 have e:o+m<=c.size/\(Value.agg x).cells.size=m/\Ones (Value.agg x).cells:=⟨h,hx,h1⟩;unfold stR;simp only[if_pos e];rfl
theorem ldR_eq{P:Program}{t m:Nat}{w:World}{b o:Nat}{c x:Array Value}(h:o+m<=c.size)(hx:x.size=m)(e:∀ j,j<m->c[o+j]? =x[j]?):ldR P t m w b o (some c)=.ok (.agg x) w:=by
 unfold ldR;simp only[if_pos h];congr 2;apply Array.ext_getElem?;intro j;rw[Array.getElem?_extract]
 by_cases hj:j<m
 ·rw[if_pos (by omega),e j hj]
 ·rw[if_neg (by omega),Array.getElem?_eq_none (by omega)]
theorem KyC.ldM{P:Program}{t:Nat}{w:World}{b:Nat}{c:Array Value}{o v:Nat}{r:Rg}(h:KyC c o r)(hv:v<r.l.length)(hs:o+138<=c.size):ldR P t 32 w b (o+1+v*34) (some c)=.ok (.agg (ba 32 r.l[v].m)) w:=by
 have hf:=h.few;have hm:=Nat.mul_le_mul_right 34 (show v+1<=4 by omega)
 refine ldR_eq (by omega) (zI _ _) fun j hj=>?_
 rw[h.ver v hv j (by omega),veC_m _ _ hj,yA _ _ _ hj]
theorem KyC.ldU{c:Array Value}{o v:Nat}{r:Rg}(h:KyC c o r)(hv:v<r.l.length):c[o+1+v*34+32]? =some (.int .i64 r.l[v].u):=by rw[h.ver v hv 32 (by omega),veC_u]
theorem KyC.ldG{c:Array Value}{o v:Nat}{r:Rg}(h:KyC c o r)(hv:v<r.l.length):c[o+1+v*34+33]? =some (.bool r.l[v].g):=by rw[h.ver v hv 33 (by omega),veC_g]
theorem kr_i:(Tryz.prog.info? 73).map (·.size)=some 138:=by kernel_rfl
@[go_sem ↓] theorem kr_l(p:Value):Instr.loadAt 73 p=ldA 73 p:=rfl
@[go_sem ↓] theorem kr_s(p v:Value):Instr.storeAt 73 p v=stA 73 p v:=rfl
@[go_sem] theorem kr_ld(w:World)(b o:Nat):(ldA 73 (.pointer (some ⟨b,o,none⟩))).run Tryz.prog w=ldR Tryz.prog 73 138 w b o (row w b):=ld_ruleK _ _ Tryz.underlying73 rfl 138 kr_i w b o
@[go_sem] theorem kr_st(w:World)(b o:Nat)(c:Array Value):(stA 73 (.pointer (some ⟨b,o,none⟩)) (.agg c)).run Tryz.prog w=stR Tryz.prog 73 138 w b o (.agg c) (row w b):=yR _ 138 kr_i w b o c
theorem kys_i:(Tryz.prog.info? 76).map (·.size)=some 1105:=by kernel_rfl
@[go_sem ↓] theorem kys_l(p:Value):Instr.loadAt 76 p=ldA 76 p:=rfl
@[go_sem ↓] theorem kys_s(p v:Value):Instr.storeAt 76 p v=stA 76 p v:=rfl
@[go_sem] theorem kys_ld(w:World)(b o:Nat):(ldA 76 (.pointer (some ⟨b,o,none⟩))).run Tryz.prog w=ldR Tryz.prog 76 1105 w b o (row w b):=ld_ruleK _ _ Tryz.underlying76 rfl 1105 kys_i w b o
def veL0:List Value:=List.replicate 32 (.int .u8 0)++[.int .i64 0,.bool false]
def kyL0:List Value:=.bool false::(veL0++(veL0++(veL0++(veL0++[.int .i64 0]))))
def ksL0:List Value:=kyL0++(kyL0++(kyL0++(kyL0++(kyL0++(kyL0++(kyL0++(kyL0++[.int .i64 0])))))))
@[irreducible] def kyZ:Array Value:=kyL0.toArray
@[irreducible] def ksZ:Array Value:=ksL0.toArray
theorem kr_z:(Tryz.prog.info? 73).map (·.zero)=some (some (.agg kyZ)):=by unfold kyZ;kernel_rfl
theorem kys_z:(Tryz.prog.info? 76).map (·.zero)=some (some (.agg ksZ)):=by unfold ksZ;kernel_rfl
theorem kyZ_size:kyZ.size=138:=by unfold kyZ;kernel_rfl
theorem ksZ_size:ksZ.size=1105:=by unfold ksZ;kernel_rfl
theorem ksZ_ones:Ones ksZ:=by unfold ksZ Ones;rw[<-Array.all_toList];kernel_rfl
theorem ksZ_cnt:ksZ[1104]? =some (.int .i64 0):=by unfold ksZ;kernel_rfl
theorem ksZ_key:∀ i,i<8->ksZ[i*138]? =some (.bool false)/\ksZ[i*138+137]? =some (.int .i64 0):=by
 intro i hi;rcases (by omega:i=0\/i=1\/i=2\/i=3\/i=4\/i=5\/i=6\/i=7) with rfl|rfl|rfl|rfl|rfl|rfl|rfl|rfl<;>(unfold ksZ;exact ⟨by kernel_rfl,by kernel_rfl⟩)
theorem ksZ_ok:KsC 0 ksZ ksZ []:=⟨rfl,by rw[ksZ_size];omega,fun _ _=>rfl,ksZ_ones,ksZ_cnt,fun i hi=>by
 rw[rgI_ge (Nat.zero_le _),Nat.zero_add]
 exact ⟨(ksZ_key i hi).1,(ksZ_key i hi).2,Nat.zero_le _,fun v h=>absurd h (by show ¬ v<0;omega)⟩⟩
@[go_sem ↓] theorem kys_bd(yI:Array (Nat×Value)):Instr.build 76 yI=bdA 76 yI:=rfl
@[go_sem ↓] theorem kr_bd(yI:Array (Nat×Value)):Instr.build 73 yI=bdA 73 yI:=rfl
@[go_sem] theorem kys_b0(w:World):(bdA 76 #[]).run Tryz.prog w=.ok (.agg ksZ) w:=run_lit _ _ _ _ [(0,1104),(1104,1)] kys_z (by kernel_rfl) rfl w
@[go_sem ↓] theorem kr_zero(w:World):(zeroValue 73).run Tryz.prog w=.ok (.agg kyZ) w:=yG _ _ kr_z w
def addC(c:Array Value)(o:Nat)(r:Rg)(m:Bf):Array Value:=(spl c (o+1+r.l.length*34) (veC ⟨m,0,false⟩)).setIfInBounds (o+137) (.int .i64 ((r.l.length:Int)+1))
theorem padd_any(B o:Nat)(c:Array Value)(r:Rg)(m:Bf)(w:World)(hr:row w B=some c)(hk:KyC c o r)(hv:r.l.length<4)(hs:o+138<=c.size):
  Calls Tryz.prog 177 #[.pointer (some ⟨B,o,none⟩),.agg (ba 32 m)] w fun e w'=>e=.returned (.int .i64 ((r.l.length:Int)+1))/\Put B (addC c o r m) w w':=by
 obtain ⟨n,hn⟩:∃ n,n=r.l.length:=⟨_,rfl⟩;have hcnt:=hk.cnt;unfold addC;rw[<-hn] at hv hcnt ⊢;obtain ⟨w1,hw1⟩:∃ w1,w1=w.alloc (.cells (ba 32 m) 61):=⟨_,rfl⟩;have b1:Below w.heap.size w w1:=by rw[hw1];exact (Below.refl w.heap.size w).alloc (by simp) _
 have r1:row w1 w.heap.size=some (ba 32 m):=by rw[hw1];exact zA _ _ _ _ rfl
 have r2:row w1 B=some c:=zD b1 hr;have hlt:=zK hr;have hm:=Nat.mul_le_mul_right 34 (show n+1<=4 by omega)
 have hcl:(veC ⟨m,0,false⟩).length=34:=veC_len _;have k1:∀ x:After w1,x.val.cell? ⟨B,o+137,none⟩=some (.int .i64 (n:Int)):=fun x=>by rw[After.cell r2];exact hcnt
 have q1:=After.row r1;obtain ⟨Z,hZ⟩:∃ Z,Z=w.heap.size:=⟨_,rfl⟩;have B1:=Lib.hid b1;have HW1:=Lib.hid hw1;have HZ:=Lib.hid hZ;have HC:=Lib.hid hcnt;have HR:=Lib.hid hr;have HL:=Lib.hid hlt;have R2:=Lib.hid r2;rw[<-hZ] at q1;clear hn hk hw1 b1 hr hcnt hZ r1 hlt r2;go_enter Tryz.func177,Tryz.ntmps177;go_wp2_with fail;rw[<-HW1.out,<-HZ.out];refine seen_tail 0 10 (by kernel_rfl) (by kernel_rfl) (fun _ _ _ _ _ h=>h) ?_
 simp only[List.take_succ_cons,List.take_zero,List.drop_succ_cons,List.drop_zero]
 repeat (go_big_quiet_step (fail))
 refine wpQuiet_nil ?_;rintro _ ⟨x,rfl⟩;obtain ⟨wx,hwx⟩:∃ wx,wx=x.val:=⟨_,rfl⟩;have bx:=x.below;rw[<-hwx] at bx ⊢;have rx:=zD bx R2.out;have HPW:=Lib.hid (B1.out.trans (bx.mono B1.out.size));clear hwx bx k1 q1;obtain ⟨c2,hc2⟩:∃ c2,c2=spl c (o+1+n*34) (veC ⟨m,0,false⟩):=⟨_,rfl⟩;have HC2:=Lib.hid hc2
 have hst:stR Tryz.prog 63 34 wx B (o+1+n*34) (.agg (veA ⟨m,0,false⟩)) (some c)=.ok () (wx.setRow B c2):=by
  rw[hc2,<-veA_list];exact stR_spl (by omega) (veA_size _) (veA_ones _)
 obtain ⟨w2,hw2⟩:∃ w2,w2=wx.setRow B c2:=⟨_,rfl⟩;have HW2:=Lib.hid hw2;have r3:row w2 B=some c2:=by rw[hw2];exact zE rx _
 rw[<-hw2] at hst
 have k2:w2.cell? ⟨B,o+137,none⟩=some (.int .i64 (n:Int)):=by
  rw[zC r3,hc2,yU _ _ _ _ (by rw[hcl];omega),hcl,if_neg (by omega)];exact HC.out
 have f2:w2.frozen? ⟨B,o+137,none⟩=false:=zJ r3 _
 have k3:(w2.setCell ⟨B,o+137,none⟩ (.int .i64 ((n:Int)+1))).cell? ⟨B,o+137,none⟩=some (.int .i64 ((n:Int)+1)):=by
  rw[zL r3,zC (zE r3 _),Array.getElem?_setIfInBounds,if_pos rfl,if_pos (by rw[hc2,spl_sizeK];omega)]
 have HE:=Lib.hid (show Put B (c2.setIfInBounds (o+137) (.int .i64 ((n:Int)+1))) w (w2.setCell ⟨B,o+137,none⟩ (.int .i64 ((n:Int)+1))) by
  rw[zL r3,HW2.out,setRow_setRow];exact Put.of HPW.out HL.out _)
 clear hw2 hc2 hcl r3;go_wp2_with fail;go_ret;rw[<-HC2.out];exact ⟨rfl,HE.out⟩
def rfE(off g:Bool):Int:=if off=true then 131 else if g=true then 132 else 0
theorem prefuse_any(B o q:Nat)(off g:Bool)(w:World)(h1:w.cell? ⟨B,o,none⟩=some (.bool off))(h2:w.cell? ⟨B,q+33,none⟩=some (.bool g)):
  Calls Tryz.prog 216 #[.pointer (some ⟨B,o,none⟩),.pointer (some ⟨B,q,none⟩)] w fun e w'=>e=.returned (.int .i64 (rfE off g))/\w=w':=by
 unfold rfE;cases off<;>cases g<;>
 ·go_enter Tryz.func216,Tryz.ntmps216
  go_wp2_with fail;go_ret;exact ⟨rfl,rfl⟩
variable {ko:Nat} {kR:Array Value}
def EntrK(g:FuncId):Prop:=∀ (xs:Array Value) (w:World),(callFunc g xs).run Tryz.prog w=.ok (.enter g xs) w
theorem entrK{f:FuncId}{fn:Func}(hf:Tryz.prog.funcs[f]? =some fn)(hn:(fn.name=="runtime.NumGoroutine")=false)(hb:fn.body.isSome=true):EntrK f:=fun xs w=>by
 have h1:fn.name≠"runtime.NumGoroutine":=by simpa using hn
 obtain ⟨c,hc⟩:=Option.isSome_iff_exists.1 hb;simp[callFunc,hf,h1,hc]
theorem KsC.cell(B:Nat){c:Array Value}{K:Ks}{w:World}(h:KsC ko kR c K)(hr:row w B=some c):w.cell? ⟨B,ko+1104,none⟩=some (.int .i64 (K.length:Int)):=by rw[zC hr];exact h.cnt
theorem pat_no(B:Nat)(K:Ks)(id:Int)(f:Value)(w:World)(hc:w.cell? ⟨B,ko+1104,none⟩=some (.int .i64 (K.length:Int)))(hk:hasK K id=false):
  Calls Tryz.prog 179 #[.pointer (some ⟨B,ko,none⟩),.int .i64 id,f] w fun e w'=>e=.returned (.int .i64 130)/\w=w':=by
 by_cases h1:id<1
 ·have hd:decide (id<1)=true:=by simpa using h1
  go_enter Tryz.func179,Tryz.ntmps179;go_wp2_with fail;go_ret;exact ⟨rfl,rfl⟩
 ·have hd:decide (id<1)=false:=by simpa using h1
  have h2:decide ((K.length:Int)<id)=true:=by
   cases hh:decide ((K.length:Int)<id)
   ·have:hasK K id=true:=hasK_iff.2 ⟨by omega,by simpa using hh⟩
    rw[hk] at this;cases this
   ·rfl
  go_enter Tryz.func179,Tryz.ntmps179;go_wp2_with fail;go_ret;exact ⟨rfl,rfl⟩
def Num(P:Int->World->Prop)(e:Ending)(w':World):Prop:=∃ E:Int,e=.returned (.int .i64 E)/\P E w'
theorem pat_yes(B:Nat)(K:Ks)(i:Nat)(F:FuncId)(caps:Array Value)(w:World)(P:Int->World->Prop)(hc:w.cell? ⟨B,ko+1104,none⟩=some (.int .i64 (K.length:Int)))(hi:i<K.length)(h8:i<8)(hen:EntrK F)
  (hF:Calls Tryz.prog F (#[.pointer (some ⟨B,ko+i*138,none⟩)]++caps) w (Num P)):
  Calls Tryz.prog 179 #[.pointer (some ⟨B,ko,none⟩),.int .i64 ((i:Int)+1),.func (.func F) #[] caps] w (Num P):=by
 have hd:decide ((i:Int)+1<1)=false:=by simp;omega
 have hd2:decide ((K.length:Int)<(i:Int)+1)=false:=by simp;omega
 have e1:(i:Int)+1-1=(i:Int):=by omega
 unfold EntrK at hen;have HF:=Lib.hid hF;clear hF;go_enter Tryz.func179,Tryz.ntmps179;go_wp2_with fail;refine HF.out.mono ?_;rintro e w1 ⟨E,rfl,hP⟩;go_wp2_with fail;exact bodyPost_ret (v:=.int .i64 E) (by simp[results,Tryz.results179,go_sem]) rfl ⟨E,rfl,hP⟩
theorem pvv_no(B o V D n:Nat)(ver:Int)(f:Value)(w:World)(hc:w.cell? ⟨B,o+137,none⟩=some (.int .i64 (n:Int)))(hv:w.cell? ⟨V,0,none⟩=some (.int .i64 ver))(hk:¬ (1<=ver/\ver<=(n:Int)))(hB:B<w.heap.size)(hV:V<w.heap.size):
  Calls Tryz.prog 214 #[.pointer (some ⟨B,o,none⟩),.pointer (some ⟨V,0,none⟩),.pointer (some ⟨D,0,none⟩)] w fun e w'=>e=.returned (.int .i64 130)/\Below w.heap.size w w':=by
 have k1:∀ x:After w,x.val.cell? ⟨B,o+137,none⟩=some (.int .i64 (n:Int)):=fun x=>by rw[World.cell?_of_block (w:=w) (x.below.block B hB)];exact hc
 have k2:∀ x:After w,x.val.cell? ⟨V,0,none⟩=some (.int .i64 ver):=fun x=>by rw[World.cell?_of_block (w:=w) (x.below.block V hV)];exact hv
 by_cases h1:ver<1
 ·have hd:decide (ver<1)=true:=by simpa using h1
  go_enter Tryz.func214,Tryz.ntmps214;go_wp2_with fail;refine xD (by kernel_rfl) (by kernel_rfl) ?_
  repeat (go_big_quiet_step (fail))
  refine wpQuiet_nil ?_;rintro _ ⟨x,rfl⟩;have bx:=Lib.hid x.below;go_wp2_with fail;go_ret;exact ⟨rfl,bx.out⟩
 ·have hd:decide (ver<1)=false:=by simpa using h1
  have hd2:decide ((n:Int)<ver)=true:=by simp;omega
  go_enter Tryz.func214,Tryz.ntmps214;go_wp2_with fail;refine xD (by kernel_rfl) (by kernel_rfl) ?_
  repeat (go_big_quiet_step (fail))
  refine wpQuiet_nil ?_;rintro _ ⟨x,rfl⟩;have bx:=Lib.hid x.below;go_wp2_with fail;go_ret;exact ⟨rfl,bx.out⟩
theorem pvv_yes(B o V D n v:Nat)(G:FuncId)(caps:Array Value)(w:World)(P:Int->World->Prop)(hc:w.cell? ⟨B,o+137,none⟩=some (.int .i64 (n:Int)))(hv:w.cell? ⟨V,0,none⟩=some (.int .i64 ((v:Int)+1)))(hf:w.cell? ⟨D,0,none⟩=some (.func (.func G) #[] caps))
  (hk:v<n) (h4:v<4) (hB:B<w.heap.size) (hV:V<w.heap.size) (hD:D<w.heap.size) (hen:EntrK G)
  (hG:∀ w1,Below w.heap.size w w1->Calls Tryz.prog G (#[.pointer (some ⟨B,o,none⟩),.pointer (some ⟨B,o+1+v*34,none⟩)]++caps) w1 (Num P)):
  Calls Tryz.prog 214 #[.pointer (some ⟨B,o,none⟩),.pointer (some ⟨V,0,none⟩),.pointer (some ⟨D,0,none⟩)] w (Num P):=by
 have k1:∀ x:After w,x.val.cell? ⟨B,o+137,none⟩=some (.int .i64 (n:Int)):=fun x=>by rw[World.cell?_of_block (w:=w) (x.below.block B hB)];exact hc
 have k2:∀ x:After w,x.val.cell? ⟨V,0,none⟩=some (.int .i64 ((v:Int)+1)):=fun x=>by rw[World.cell?_of_block (w:=w) (x.below.block V hV)];exact hv
 have k3:∀ x:After w,x.val.cell? ⟨D,0,none⟩=some (.func (.func G) #[] caps):=fun x=>by rw[World.cell?_of_block (w:=w) (x.below.block D hD)];exact hf
 have K1:=Lib.hid k1;have K2:=Lib.hid k2;have K3:=Lib.hid k3;have hd:decide ((v:Int)+1<1)=false:=by simp;omega
 have hd2:decide ((n:Int)<(v:Int)+1)=false:=by simp;omega
 have e1:(v:Int)+1-1=(v:Int):=by omega
 unfold EntrK at hen;have HG:=Lib.hid hG;clear hG hc hv hf;go_enter Tryz.func214,Tryz.ntmps214;go_wp2_with fail;refine xD (by kernel_rfl) (by kernel_rfl) ?_
 repeat (go_big_quiet_step (fail))
 refine wpQuiet_nil ?_;rintro _ ⟨x,rfl⟩;obtain ⟨wx,hwx⟩:∃ wx,wx=x.val:=⟨_,rfl⟩;have bx:=x.below;rw[<-hwx] at bx ⊢;have k1':∀ y:After wx,y.val.cell? ⟨B,o+137,none⟩=some (.int .i64 (n:Int)):=fun y=>K1.out ⟨y.val,onto bx bx.size y.below⟩
 have k2':∀ y:After wx,y.val.cell? ⟨V,0,none⟩=some (.int .i64 ((v:Int)+1)):=fun y=>K2.out ⟨y.val,onto bx bx.size y.below⟩
 have k3':∀ y:After wx,y.val.cell? ⟨D,0,none⟩=some (.func (.func G) #[] caps):=fun y=>K3.out ⟨y.val,onto bx bx.size y.below⟩
 have BX:=Lib.hid bx;clear k1 k2 k3 hwx bx;go_wp2_with fail;refine seen_tail 0 8 (by kernel_rfl) (by kernel_rfl) (fun _ _ _ _ _ h=>h) ?_
 simp only[List.take_succ_cons,List.take_zero,List.drop_succ_cons,List.drop_zero]
 repeat (go_big_quiet_step (fail))
 refine wpQuiet_nil ?_;rintro _ ⟨z,rfl⟩;have HZ:=Lib.hid (onto BX.out BX.out.size z.below);clear k1' k2' k3';go_wp2_with fail;refine (HG.out _ HZ.out).mono ?_;rintro e w1 ⟨E,rfl,hP⟩;go_wp2_with fail;exact bodyPost_ret (v:=.int .i64 E) (by simp[results,Tryz.results214,go_sem]) rfl ⟨E,rfl,hP⟩
variable {ko:Nat} {kR:Array Value}
theorem ent_vv:EntrK 214:=entrK Tryz.func214 (by kernel_rfl) (by kernel_rfl)
theorem pav_yes(B:Nat)(c:Array Value)(K:Ks)(i v:Nat)(G:FuncId)(caps:Array Value)(w:World)(P:Int->World->Prop)(hr:row w B=some c)(hk:KsC ko kR c K)(hi:i<K.length)(h8:i<8)(hv:v<K[i].l.length)(hen:EntrK G)
  (hG:∀ w1,Below w.heap.size w w1->Calls Tryz.prog G (#[.pointer (some ⟨B,ko+i*138,none⟩),.pointer (some ⟨B,ko+i*138+1+v*34,none⟩)]++caps) w1 (Num P)):
  Calls Tryz.prog 182 #[.pointer (some ⟨B,ko,none⟩),.int .i64 ((i:Int)+1),.int .i64 ((v:Int)+1),.func (.func G) #[] caps] w (Num P):=by
 have hky:=hk.key i h8;rw[rgI_lt hi] at hky;have hf:=hky.few;obtain ⟨w1,hw1⟩:∃ w1,w1=w.alloc (.cells #[.int .i64 ((v:Int)+1)] 3):=⟨_,rfl⟩;obtain ⟨w2,hw2⟩:∃ w2,w2=w1.alloc (.cells #[.func (.func G) #[] caps] 261):=⟨_,rfl⟩;have b1:Below w.heap.size w w1:=by rw[hw1];exact (Below.refl w.heap.size w).alloc (by simp) _
 have b2:Below w1.heap.size w1 w2:=by rw[hw2];exact (Below.refl _ _).alloc (by simp) _
 have rv:row w1 w.heap.size=some #[.int .i64 ((v:Int)+1)]:=by rw[hw1];exact zA _ _ _ _ rfl
 have rf:row w2 w1.heap.size=some #[.func (.func G) #[] caps]:=by rw[hw2];exact zA _ _ _ _ rfl
 have rb:=zD b2 (zD b1 hr);have rv2:=zD b2 rv;have hs:w1.heap.size=w.heap.size+1:=by rw[hw1];simp
 have hcall:=pvv_yes B (ko+i*138) w.heap.size w1.heap.size K[i].l.length v G caps w2 P (by rw[zC rb];exact hky.cnt) (by rw[zC rv2];rfl) (by rw[zC rf];rfl) hv (by omega) (zK rb) (zK rv2) (zK rf) hen
  (fun w3 h3=>hG w3 (onto (onto b1 b1.size b2) (Nat.le_trans b1.size b2.size) h3))
 rw[hs] at hcall;have HC:=Lib.hid (pat_yes B K i _ #[.pointer (some ⟨w.heap.size,0,none⟩),.pointer (some ⟨w.heap.size+1,0,none⟩)] w2 P (hk.cell B rb) hi h8 ent_vv hcall);have HW1:=Lib.hid hw1;have HW2:=Lib.hid hw2;clear hcall hG hky rv rf rb rv2 b1 b2 hw1 hw2;go_enter Tryz.func182,Tryz.ntmps182;go_wp2_with fail;rw[<-HW1.out,<-HW2.out];refine HC.out.mono ?_;rintro e w3 ⟨E,rfl,hP⟩;go_wp2_with fail;exact bodyPost_ret (v:=.int .i64 E) (by simp[results,Tryz.results182,go_sem]) rfl ⟨E,rfl,hP⟩
theorem pav_no(B:Nat)(c:Array Value)(K:Ks)(id ver:Int)(G:FuncId)(caps:Array Value)(w:World)(hr:row w B=some c)(hk:KsC ko kR c K)(h8:K.length<=8)(hno:hasV K id ver=false):
  Calls Tryz.prog 182 #[.pointer (some ⟨B,ko,none⟩),.int .i64 id,.int .i64 ver,.func (.func G) #[] caps] w fun e w'=>e=.returned (.int .i64 130)/\Below w.heap.size w w':=by
 obtain ⟨w1,hw1⟩:∃ w1,w1=w.alloc (.cells #[.int .i64 ver] 3):=⟨_,rfl⟩;obtain ⟨w2,hw2⟩:∃ w2,w2=w1.alloc (.cells #[.func (.func G) #[] caps] 261):=⟨_,rfl⟩;have b1:Below w.heap.size w w1:=by rw[hw1];exact (Below.refl w.heap.size w).alloc (by simp) _
 have b2:Below w1.heap.size w1 w2:=by rw[hw2];exact (Below.refl _ _).alloc (by simp) _
 have rv:row w1 w.heap.size=some #[.int .i64 ver]:=by rw[hw1];exact zA _ _ _ _ rfl
 have rb:=zD b2 (zD b1 hr);have rv2:=zD b2 rv;have b3:=onto b1 b1.size b2
 have hcal:Calls Tryz.prog 179 #[.pointer (some ⟨B,ko,none⟩),.int .i64 id,.func (.func 214) #[] #[.pointer (some ⟨w.heap.size,0,none⟩),.pointer (some ⟨w.heap.size+1,0,none⟩)]] w2 (Num fun E w'=>E=130/\Below w.heap.size w w'):=by
  cases hok:hasK K id
  ·exact (pat_no B K id _ w2 (hk.cell B rb) hok).mono fun e w' h=>⟨130,h.1,rfl,h.2 ▸ b3⟩
  ·obtain ⟨h1,h2⟩:=hasK_iff.1 hok
   obtain ⟨i,hi⟩:∃ i:Nat,id=(i:Int)+1:=⟨(id-1).toNat,by omega⟩
   subst hi;have hlt:i<K.length:=by omega
   have hky:=hk.key i (by omega)
   rw[rgI_lt hlt] at hky;have hrg:rgAt K ((i:Int)+1)=K[i]:=rgAt_get i hlt (by omega)
   refine pat_yes B K i _ #[.pointer (some ⟨w.heap.size,0,none⟩),.pointer (some ⟨w.heap.size+1,0,none⟩)] w2 _ (hk.cell B rb) hlt (by omega) ent_vv ?_
   refine (pvv_no B (ko+i*138) w.heap.size (w.heap.size+1) K[i].l.length ver (.bool true) w2 (by rw[zC rb];exact hky.cnt) (by rw[zC rv2];rfl) (fun e=>?_) (zK rb) (zK rv2)).mono fun e w' h=>⟨130,h.1,rfl,onto b3 (Nat.le_trans b1.size b2.size) h.2⟩
   rw[hasV_iff.2 ⟨⟨h1,h2⟩,by rw[hrg];exact e⟩] at hno
   cases hno
 have HC:=Lib.hid hcal;have HW1:=Lib.hid hw1;have HW2:=Lib.hid hw2;clear hcal rv rb rv2 b1 b2 b3 hw1 hw2;go_enter Tryz.func182,Tryz.ntmps182;go_wp2_with fail;rw[<-HW1.out,<-HW2.out];refine HC.out.mono ?_;rintro e w3 ⟨E,rfl,rfl,hP⟩;go_wp2_with fail;go_ret;exact ⟨rfl,hP⟩
theorem psw1_any(B o O:Nat)(on x:Bool)(w:World)(h1:w.cell? ⟨B,o,none⟩=some (.bool x))(h2:w.cell? ⟨O,0,none⟩=some (.bool on))(hf:w.frozen? ⟨B,o,none⟩=false):
  Calls Tryz.prog 181 #[.pointer (some ⟨B,o,none⟩),.pointer (some ⟨O,0,none⟩)] w fun e w'=>e=.returned (.int .i64 0)/\w'=w.setCell ⟨B,o,none⟩ (.bool (!on)):=by
 go_enter Tryz.func181,Tryz.ntmps181;go_wp2_with fail;go_ret;exact ⟨rfl,rfl⟩
def endC(c:Array Value)(q:Nat):Array Value:=spl (c.setIfInBounds (q+33) (.bool true)) q (ba 32 fun _=>0#8).toList
theorem pds1_any(B o q:Nat)(g:Bool)(c:Array Value)(w:World)(hr:row w B=some c)(h1:c[q+33]? =some (.bool g))(hs:q+34<=c.size):
  Calls Tryz.prog 183 #[.pointer (some ⟨B,o,none⟩),.pointer (some ⟨B,q,none⟩)] w fun e w'=>e=.returned (.int .i64 (if g=true then 132 else 0))/\w'=(if g=true then w else w.setRow B (endC c q)):=by
 have k1:w.cell? ⟨B,q+33,none⟩=some (.bool g):=by rw[zC hr];exact h1
 have hf:w.frozen? ⟨B,q+33,none⟩=false:=zJ hr _;cases g
 ·obtain ⟨w1,hw1⟩:∃ w1,w1=w.setCell ⟨B,q+33,none⟩ (.bool true):=⟨_,rfl⟩
  have e1:w1=w.setRow B (c.setIfInBounds (q+33) (.bool true)):=by rw[hw1,zL hr]
  have r1:row w1 B=some (c.setIfInBounds (q+33) (.bool true)):=by rw[e1];exact zE hr _
  have hst:stR Tryz.prog 61 32 w1 B q (.agg (ba 32 fun _=>0#8)) (some (c.setIfInBounds (q+33) (.bool true)))=.ok () (w1.setRow B (endC c q)):=
   stR_spl (by rw[Array.size_setIfInBounds];omega) (zI _ _) (ones_ba _ _)
  have HW:=Lib.hid (show w1.setRow B (endC c q)=w.setRow B (endC c q) by rw[e1,setRow_setRow])
  have HW1:=Lib.hid hw1;rw[hw1] at r1 hst HW;clear hw1 e1 hr h1;simp only[Bool.false_eq_true,if_false];go_enter Tryz.func183,Tryz.ntmps183;go_wp2_with fail;go_ret;exact ⟨rfl,HW.out⟩
 ·simp only[if_true]
  go_enter Tryz.func183,Tryz.ntmps183;go_wp2_with fail;go_ret;exact ⟨rfl,rfl⟩
theorem pmt1_any(B o v M:Nat)(r:Rg)(c:Array Value)(f:Bf)(w:World)(hr:row w B=some c)(hk:KyC c o r)(hv:v<r.l.length)(hs:o+138<=c.size)(hM:row w M=some (ba 32 f)):
  Calls Tryz.prog 253 #[.pointer (some ⟨B,o,none⟩),.pointer (some ⟨B,o+1+v*34,none⟩),.pointer (some ⟨M,0,none⟩)] w fun e w'=>e=.returned (.int .i64 (rfE r.off r.l[v].g))/\w'=(if rfE r.off r.l[v].g=0 then w.setRow M (ba 32 r.l[v].m) else w):=by
 have HF:=Lib.hid (prefuse_any B o (o+1+v*34) r.off r.l[v].g w (by rw[zC hr];exact hk.off) (by rw[zC hr];exact hk.ldG hv))
 have hld:=hk.ldM (P:=Tryz.prog) (t:=61) (w:=w) (b:=B) hv hs;obtain ⟨E,hE⟩:∃ E,E=rfE r.off r.l[v].g:=⟨_,rfl⟩;obtain ⟨y,hy⟩:∃ y,y=r.l[v].m:=⟨_,rfl⟩;rw[<-hE] at HF ⊢;rw[<-hy] at hld ⊢;clear hk hE hy hv
 by_cases h0:E=0
 ·subst h0
  rw[if_pos rfl];go_enter Tryz.func253,Tryz.ntmps253;go_wp2_with fail;refine HF.out.mono ?_;rintro e w1 ⟨rfl,rfl⟩;go_wp2_with fail;go_ret;exact ⟨rfl,rfl⟩
 ·rw[if_neg h0]
  have d1:(E !=0)=true:=by simpa using h0
  have d2:(E==0)=false:=by simpa using h0
  go_enter Tryz.func253,Tryz.ntmps253;go_wp2_with fail;refine HF.out.mono ?_;rintro e w1 ⟨rfl,rfl⟩;go_wp2_with fail;go_ret;exact ⟨rfl,rfl⟩
variable {ko:Nat} {kR:Array Value}
structure RwB(a:Nat)(c:Array Value) where
 val:World
 r1:row val a=some c
theorem prt1_any(B o M V:Nat)(r:Rg)(c:Array Value)(m:Bf)(x:Int)(w:World)(hr:row w B=some c)(hk:KyC c o r)(hs:o+138<=c.size)(hM:row w M=some (ba 32 m))(hV:row w V=some #[.int .i64 x])(hVB:V≠B):
  Calls Tryz.prog 180 #[.pointer (some ⟨B,o,none⟩),.pointer (some ⟨M,0,none⟩),.pointer (some ⟨V,0,none⟩)] w fun e w'=>
   (4<=r.l.length/\e=.returned (.int .i64 134)/\w'=w)\/(r.l.length<4/\e=.returned (.int .i64 0)/\∃ w1,Put B (addC c o r m) w w1/\w'=w1.setCell ⟨V,0,none⟩ (.int .i64 ((r.l.length:Int)+1))):=by
 have hf:=hk.few;have hcnt:w.cell? ⟨B,o+137,none⟩=some (.int .i64 (r.l.length:Int)):=by rw[zC hr];exact hk.cnt
 by_cases h4:4<=r.l.length
 ·have hd:decide ((r.l.length:Int)=4)=true:=by simp;omega
  have hd2:((r.l.length:Int)==4)=true:=by simp;omega
  go_enter Tryz.func180,Tryz.ntmps180;go_wp2_with fail;go_ret;exact .inl ⟨h4,rfl,rfl⟩
 ·have hd:decide ((r.l.length:Int)=4)=false:=by simp;omega
  have hd2:((r.l.length:Int)==4)=false:=by simp;omega
  have HA:=Lib.hid (padd_any B o c r m w hr hk (by omega) hs)
  go_enter Tryz.func180,Tryz.ntmps180;go_wp2_with fail;refine HA.out.mono ?_;rintro e w1 ⟨rfl,hp⟩;have rV:=hp.other hVB hV;have kV:w1.cell? ⟨V,0,none⟩=some (.int .i64 x):=by rw[zC rV];rfl
  have fV:w1.frozen? ⟨V,0,none⟩=false:=zJ rV _;go_wp2_with fail;go_ret;exact .inr ⟨by omega,rfl,w1,hp,rfl⟩
def u1E(off:Bool)(y:Ve):Int:=if rfE off y.g=0 then (if 16<=y.u then 133 else 0) else rfE off y.g
theorem u1E_no{off:Bool}{y:Ve}(h:rfE off y.g≠0):u1E off y=rfE off y.g:=by unfold u1E;rw[if_neg h]
theorem u1E_16{off:Bool}{y:Ve}(h:0=rfE off y.g)(h2:16<=y.u):u1E off y=133:=by unfold u1E;rw[if_pos h.symm,if_pos h2]
theorem u1E_ok{off:Bool}{y:Ve}(h:0=rfE off y.g)(h2:¬ 16<=y.u):u1E off y=0:=by unfold u1E;rw[if_pos h.symm,if_neg h2]
structure U1(B V N M q:Nat)(v:Nat)(y:Ve)(w w':World):Prop where
 at_:∃ w1,Below w.heap.size w w1/\w'=(((w1.setCell ⟨V,0,none⟩ (.int .i64 ((v:Int)+1))).setCell ⟨N,0,none⟩ (.int .i64 y.u)).setRow M (ba 32 y.m)).setCell ⟨B,q+32,none⟩ (.int .i64 (y.u+1))
def u1P(B V N M q v:Nat)(off:Bool)(y:Ve)(w:World)(e:Ending)(w':World):Prop:=e=.returned (.int .i64 (u1E off y))/\(u1E off y≠0->Below w.heap.size w w')/\(u1E off y=0->U1 B V N M q v y w w')
theorem pus1_any(B o V N M v:Nat)(r:Rg)(c:Array Value)(a b:Int)(f:Bf)(w:World)(hr:row w B=some c)(hk:KyC c o r)(hs:o+138<=c.size)(hv:r.l.length=v+1)
  (hV:row w V=some #[.int .i64 a]) (hN:row w N=some #[.int .i64 b]) (hM:row w M=some (ba 32 f)) (hd:V≠B/\N≠B/\M≠B/\V≠N/\V≠M/\N≠M) (hu:0<=(r.l[v]'(by omega)).u/\(r.l[v]'(by omega)).u<=16):
  Calls Tryz.prog 215 #[.pointer (some ⟨B,o,none⟩),.pointer (some ⟨V,0,none⟩),.pointer (some ⟨N,0,none⟩),.pointer (some ⟨M,0,none⟩)] w (u1P B V N M (o+1+v*34) v r.off (r.l[v]'(by omega)) w):=by
 have hf:=hk.few;have hvl:v<r.l.length:=by omega
 obtain ⟨y,hy⟩:∃ y,y=r.l[v]'hvl:=⟨_,rfl⟩;have kc:c[o+137]? =some (.int .i64 ((v:Int)+1)):=by rw[hk.cnt,hv];rfl
 have ko:=hk.off;have kg:=hk.ldG hvl;have ku:=hk.ldU hvl;have hld:∀ x:World,ldR Tryz.prog 61 32 x B (o+1+v*34) (some c)=.ok (.agg (ba 32 y.m)) x:=fun x=>by rw[hy];exact hk.ldM hvl hs
 rw[<-hy] at kg ku hu ⊢;obtain ⟨off,hoff⟩:∃ z,z=r.off:=⟨_,rfl⟩;rw[<-hoff] at ko ⊢;have e1:(v:Int)+1-1=(v:Int):=by omega
 have hv4:v<4:=by omega
 clear hk hy hoff hvl hf hv;have c1:∀ x:After w,x.val.cell? ⟨B,o+137,none⟩=some (.int .i64 ((v:Int)+1)):=fun x=>by rw[After.cell hr];exact kc
 have HC:=Lib.hid c1;have KO:=Lib.hid ko;have KC:=Lib.hid kc;have KG:=Lib.hid kg;have KU:=Lib.hid ku;have HD:=Lib.hid hd;have HR:=Lib.hid hr;have HV:=Lib.hid hV;have HN:=Lib.hid hN;have HM:=Lib.hid hM;clear ko kg ku hd kc hr hV hN hM;go_enter Tryz.func215,Tryz.ntmps215;go_wp2_with fail;refine xD (by kernel_rfl) (by kernel_rfl) ?_
 repeat (go_big_quiet_step (fail))
 refine wpQuiet_nil ?_;rintro _ ⟨x,rfl⟩;obtain ⟨wx,hwx⟩:∃ wx,wx=x.val:=⟨_,rfl⟩;have BX:=Lib.hid x.below;rw[<-hwx] at BX ⊢;have hr:=zD BX.out HR.out;have hV:=zD BX.out HV.out;have hN:=zD BX.out HN.out;have hM:=zD BX.out HM.out;clear hwx c1;go_wp2_with fail;refine (prefuse_any B o (o+1+v*34) off y.g wx (by rw[zC hr];exact KO.out) (by rw[zC hr];exact KG.out)).mono ?_
 rintro e w1 ⟨rfl,rfl⟩;obtain ⟨E,hE⟩:∃ E,E=rfE off y.g:=⟨_,rfl⟩;rw[<-hE];have HE:=Lib.hid hE;clear hE
 by_cases h0:E=0
 ·subst h0
  have kU:wx.cell? ⟨B,o+1+v*34+32,none⟩=some (.int .i64 y.u):=by rw[zC hr];exact KU.out
  by_cases h16:16<=y.u
  ·have d1:(y.u==16)=true:=by simp;omega
   have d2:decide (y.u=16)=true:=by simp;omega
   go_wp2_with fail;go_ret;exact ⟨by rw[u1E_16 HE.out h16];rfl,fun _=>BX.out,fun e=>by rw[u1E_16 HE.out h16] at e;cases e⟩
  ·have d1:(y.u==16)=false:=by simp;omega
   have d2:decide (y.u=16)=false:=by simp;omega
   go_wp2_with fail;refine zY [([0,1,2,3,4,5,6,7,8,9,10,11],12,false),([],13,false),([],14,false)] [] (fun w'=>∃ x:RwB B c,w'=x.val) (by kernel_rfl) (by kernel_rfl) (fun _ _ _ _ _ h=>h) ⟨⟨wx.drewN 1,by rw[zS];exact hr⟩,rfl⟩ ?_
   have b1:Below wx.heap.size wx (wx.drewN 1):=zQ (Below.refl _ _) 1;obtain ⟨w2,hw2⟩:∃ w2,w2=wx.drewN 1:=⟨_,rfl⟩;rw[<-hw2] at b1 ⊢;have hr2:=zD b1 hr;have hV2:=zD b1 hV;have hN2:=zD b1 hN;have hM2:=zD b1 hM;have B2:=Lib.hid (onto BX.out BX.out.size b1);clear hw2 b1 hr hV hN hM kU;have hne:Nonempty (RwB B c):=⟨⟨w2,hr2⟩⟩;have c1:∀ z:RwB B c,z.val.cell? ⟨B,o+137,none⟩=some (.int .i64 ((v:Int)+1)):=fun z=>by rw[zC z.r1];exact KC.out
   have c2:∀ z:RwB B c,z.val.cell? ⟨B,o+1+v*34+32,none⟩=some (.int .i64 y.u):=fun z=>by rw[zC z.r1];exact KU.out
   have q1:∀ z:RwB B c,row z.val B=some c:=fun z=>z.r1
   simp only[wpFl,pk,List.getElem?_cons_zero,List.getElem?_cons_succ]
   repeat (go_big_quiet_step (fail))
   refine wpQuiet_nil ?_;clear c1 c2 q1;obtain ⟨n1,n2,n3,n4,n5,n6⟩:=HD.out;have kV:w2.cell? ⟨V,0,none⟩=some (.int .i64 a):=by rw[zC hV2];rfl
   have fV:w2.frozen? ⟨V,0,none⟩=false:=zJ hV2 _;go_wp2_with fail;obtain ⟨w3,hw3⟩:∃ w3,w3=w2.setCell ⟨V,0,none⟩ (.int .i64 ((v:Int)+1)):=⟨_,rfl⟩;rw[<-hw3];have hr3:row w3 B=some c:=by rw[hw3,zX _ _ _ _ (Ne.symm n1)];exact hr2
   have hN3:row w3 N=some #[.int .i64 b]:=by rw[hw3,zX _ _ _ _ (Ne.symm n4)];exact hN2
   have hM3:row w3 M=some (ba 32 f):=by rw[hw3,zX _ _ _ _ (Ne.symm n5)];exact hM2
   have HW3:=Lib.hid hw3;clear hw3 hr2 hN2 hM2 kV fV hV2;refine ⟨_,⟨⟨w3,hr3⟩,rfl⟩,.inr ⟨⟨⟨w3,hr3⟩,rfl⟩,fun _ h=>h⟩,?_⟩
   show wpQuiet _ _ _ _ _ _;refine wpQuiet_nil ?_;have kN:w3.cell? ⟨N,0,none⟩=some (.int .i64 b):=by rw[zC hN3];rfl
   have fN:w3.frozen? ⟨N,0,none⟩=false:=zJ hN3 _;go_wp2_with fail;obtain ⟨w4,hw4⟩:∃ w4,w4=w3.setCell ⟨N,0,none⟩ (.int .i64 y.u):=⟨_,rfl⟩;rw[<-hw4];have hr4:row w4 B=some c:=by rw[hw4,zX _ _ _ _ (Ne.symm n2)];exact hr3
   have hM4:row w4 M=some (ba 32 f):=by rw[hw4,zX _ _ _ _ (Ne.symm n6)];exact hM3
   have HW4:=Lib.hid hw4;clear hw4 hr3 hM3 kN fN hN3;refine ⟨_,⟨⟨w4,hr4⟩,rfl⟩,.inr ⟨⟨⟨w4,hr4⟩,rfl⟩,fun _ h=>h⟩,?_⟩
   show wpQuiet _ _ _ _ _ _;refine wpQuiet_nil ?_;go_wp2_with fail;obtain ⟨w5,hw5⟩:∃ w5,w5=w4.setRow M (ba 32 y.m):=⟨_,rfl⟩;rw[<-hw5];have hr5:row w5 B=some c:=by rw[hw5,zF _ _ _ _ (Ne.symm n3)];exact hr4
   have HW5:=Lib.hid hw5;clear hw5 hr4 hM4;refine ⟨_,⟨⟨w5,hr5⟩,rfl⟩,.inr ⟨⟨⟨w5,hr5⟩,rfl⟩,fun _ h=>h⟩,?_⟩
   show wpQuiet _ _ _ _ _ _;refine wpQuiet_nil ?_;have kU5:w5.cell? ⟨B,o+1+v*34+32,none⟩=some (.int .i64 y.u):=by rw[zC hr5];exact KU.out
   have fU5:w5.frozen? ⟨B,o+1+v*34+32,none⟩=false:=zJ hr5 _;go_wp2_with fail;go_ret;refine ⟨by rw[u1E_ok HE.out (by omega)];rfl,fun e=>absurd (u1E_ok HE.out (by omega)) e,fun _=>⟨_,B2.out,?_⟩⟩
   rw[HW5.out,HW4.out,HW3.out]
 ·have d1:(E !=0)=true:=by simpa using h0
  have d2:(E==0)=false:=by simpa using h0
  go_wp2_with fail;go_ret;have e9:u1E off y=E:=by rw[u1E_no (by rw[<-HE.out];exact h0),HE.out]
  exact ⟨by rw[e9];rfl,fun _=>BX.out,fun e=>absurd (e9.symm.trans e) h0⟩
variable {ko:Nat} {kR:Array Value}
structure KpAt(T:Mk)(w:World)(t B:Nat)(ko:Nat)(kR:Array Value)(K:Ks):Prop where
 tg:T B=t
 at_:∃ c,row w B=some c/\KsC ko kR c K
 ok:okK K
structure Nk(T T':Mk)(t:Nat)(w w':World):Prop where
 below:Below w.heap.size w w'
 tag:∀ k,k<w.heap.size->T' k=T k
 mks:∀ k,T' k=T k\/Hk t (T' k)
theorem Nk.of{T:Mk}{t:Nat}{w w':World}(h:Below w.heap.size w w'):Nk T (paint T w.heap.size t) t w w':=⟨h,fun k hk=>zH hk,fun k=>by
 by_cases hk:k<w.heap.size
 ·exact .inl (zH hk)
 ·exact .inr (by rw[zP (by omega)];exact ⟨Nat.le_refl _,by omega⟩)⟩
section
variable {T:Mk} {w w':World} {t B:Nat} {K K':Ks} {c c':Array Value}
theorem KpAt.put(h:KpAt T w t B ko kR K)(hr:row w B=some c)(hp:Put B c' w w')(hc:KsC ko kR c' K')(ok:okK K'):∃ T',KpAt T' w' t B ko kR K'/\Fk T T' t w w':=by
 have hb:Below w.heap.size (w.setRow B c') w':=hp;refine ⟨paint T w.heap.size t,⟨by rw[zH (zK hr)];exact h.tg,⟨c',hp.row hr,hc⟩,ok⟩,⟨hb.1,hb.2,hb.3,hp.size,fun k hk hn=>hp.block k hk (fun e=>hn (by rw[e,h.tg];exact ⟨Nat.le_refl _,by omega⟩)),fun k hk=>zH hk⟩,fun k=>?_⟩
 by_cases hk:k<w.heap.size
 ·exact .inl (zH hk)
 ·exact .inr (by rw[zP (by omega)];exact ⟨Nat.le_refl _,by omega⟩)
theorem KpAt.calm(h:KpAt T w t B ko kR K)(hb:Below w.heap.size w w'):∃ T',KpAt T' w' t B ko kR K/\Fk T T' t w w':=by
 obtain ⟨c,hr,hc⟩:=h.at_;exact h.put hr ((Put.nil hr).calm hb) hc h.ok
end
section
variable {c:Array Value} {o:Nat} {r:Rg} {m:Bf}
theorem addC_size:(addC c o r m).size=c.size:=by unfold addC;rw[Array.size_setIfInBounds,spl_sizeK]
theorem addC_ones(h:Ones c):Ones (addC c o r m):=ones_set (ones_spl _ _ _ h (veC_one _)) rfl
theorem addC_else(hv:r.l.length<4)(hs:o+138<=c.size){j:Nat}(hj:j<o\/o+138<=j):(addC c o r m)[j]? =c[j]? :=by
 have hl:(veC ⟨m,0,false⟩).length=34:=veC_len _;have hm:=Nat.mul_le_mul_right 34 (show r.l.length+1<=4 by omega)
 unfold addC;rw[Array.getElem?_setIfInBounds,if_neg (by omega),yU _ _ _ _ (by rw[hl];omega),hl,if_neg (by omega)]
theorem addC_key(h:KyC c o r)(hv:r.l.length<4)(hs:o+138<=c.size):KyC (addC c o r m) o ⟨r.off,r.l++[⟨m,0,false⟩]⟩:=h.add hv hs
theorem KsC.add{K:Ks}{i:Nat}(h:KsC ko kR c K)(hi:i<K.length)(h8:i<8)(hv:K[i].l.length<4):KsC ko kR (addC c (ko+i*138) K[i] m) (K.set i ⟨K[i].off,K[i].l++[⟨m,0,false⟩]⟩):=by
 have hk:=h.key i h8;rw[rgI_lt hi] at hk;have hs:ko+i*138+138<=c.size:=by have:=h.fitc;omega
 exact h.upd hi h8 addC_size (addC_ones h.ones) (fun j hj=>addC_else hv hs hj) (addC_key hk hv hs)
def newC(ko:Nat)(c:Array Value)(n:Nat)(m:Bf):Array Value:=(addC c (ko+n*138) rg0 m).setIfInBounds (ko+1104) (.int .i64 ((n:Int)+1))
theorem KsC.new{K:Ks}(h:KsC ko kR c K)(h8:K.length<8):KsC ko kR (newC ko c K.length m) (K++[⟨false,[⟨m,0,false⟩]⟩]):=by
 have hk:=h.key K.length h8;rw[rgI_ge (Nat.le_refl _)] at hk;have hs:ko+K.length*138+138<=c.size:=by have:=h.fitc;omega
 have hlt:rg0.l.length<4:=by decide
 unfold newC;refine h.app h8 (by rw[Array.size_setIfInBounds,addC_size]) (ones_set (addC_ones h.ones) rfl) (fun j hj hj2=>?_) ?_ ?_
 ·rw[Array.getElem?_setIfInBounds,if_neg (by omega),addC_else hlt hs hj]
 ·rw[Array.getElem?_setIfInBounds,if_pos rfl,if_pos (by rw[addC_size];have:=h.fitc;omega)]
 ·exact (addC_key (m:=m) hk hlt hs).eq fun j hj=>by rw[Array.getElem?_setIfInBounds,if_neg (by omega)]
theorem KsC.off{K:Ks}{i:Nat}(h:KsC ko kR c K)(hi:i<K.length)(h8:i<8)(b:Bool):KsC ko kR (c.setIfInBounds (ko+i*138) (.bool b)) (K.set i ⟨b,K[i].l⟩):=by
 have hk:=h.key i h8;rw[rgI_lt hi] at hk;have hz:=h.fitc;exact h.upd hi h8 (Array.size_setIfInBounds ..) (ones_set h.ones rfl) (fun j hj=>by rw[Array.getElem?_setIfInBounds,if_neg (by omega)]) (hk.setOff b (by omega))
theorem KsC.use{K:Ks}{i v:Nat}(h:KsC ko kR c K)(hi:i<K.length)(h8:i<8)(hv:v<K[i].l.length)(u:Int):KsC ko kR (c.setIfInBounds (ko+i*138+1+v*34+32) (.int .i64 u)) (K.set i ⟨K[i].off,K[i].l.set v ⟨K[i].l[v].m,u,K[i].l[v].g⟩⟩):=by
 have hk:=h.key i h8;rw[rgI_lt hi] at hk;have hz:=h.fitc;have hf:=hk.few;have hm:=Nat.mul_le_mul_right 34 (show v+1<=4 by omega)
 exact h.upd hi h8 (Array.size_setIfInBounds ..) (ones_set h.ones rfl) (fun j hj=>by rw[Array.getElem?_setIfInBounds,if_neg (by omega)]) (hk.setOne hv (by omega) (veC_setU _ _) (by omega))
theorem KsC.end_{K:Ks}{i v:Nat}(h:KsC ko kR c K)(hi:i<K.length)(h8:i<8)(hv:v<K[i].l.length):KsC ko kR (endC c (ko+i*138+1+v*34)) (K.set i ⟨K[i].off,K[i].l.set v ⟨fun _=>0#8,K[i].l[v].u,true⟩⟩):=by
 have hk:=h.key i h8;rw[rgI_lt hi] at hk;have hz:=h.fitc;have hf:=hk.few;have hm:=Nat.mul_le_mul_right 34 (show v+1<=4 by omega)
 have hl:(ba 32 fun _=>0#8).toList.length=32:=by rw[Array.length_toList,zI]
 have k1:=hk.setOne (u:=.bool true) (j:=33) hv (by omega) (veC_setG _ true) (by omega)
 have k2:=k1.setMat (v:=v) (f:=fun _=>0#8) (by rw[List.length_set];exact hv) (by rw[Array.size_setIfInBounds];omega)
 unfold endC;refine h.upd hi h8 (by rw[spl_sizeK,Array.size_setIfInBounds]) (ones_spl _ _ _ (ones_set h.ones rfl) (fun x hx=>?_)) (fun j hj=>?_) ?_
 ·have:=ones_ba 32 (fun _=>0#8)
  unfold Ones at this;rw[<-Array.all_toList,List.all_eq_true] at this;exact this x hx
 ·rw[yU _ _ _ _ (by rw[hl,Array.size_setIfInBounds];omega),hl,if_neg (by omega),Array.getElem?_setIfInBounds,if_neg (by omega)]
 ·simpa using k2
end
variable {ko:Nat} {kR:Array Value}
theorem pnew_any(T:Mk)(t:Nat)(w:World):
  Calls Tryz.prog 29 #[] w fun e w'=>∃ B T',e=.returned (.pointer (some ⟨B,0,none⟩))/\KpAt T' w' t B 0 ksZ []/\Nk T T' t w w':=by
 go_enter Tryz.func29,Tryz.ntmps29;go_wp2_with fail;go_ret;exact ⟨w.heap.size,paint T w.heap.size t,rfl,⟨zP (Nat.le_refl _),⟨ksZ,zA _ _ _ _ rfl,ksZ_ok⟩,ok_nil⟩,.of ((Below.refl _ _).alloc (Nat.le_refl _) _)⟩
theorem pcr_any(T:Mk)(t B:Nat)(K:Ks)(m:Bf)(w:World)(h:KpAt T w t B ko kR K):
  Calls Tryz.prog 135 #[.pointer (some ⟨B,ko,none⟩),.agg (ba 32 m)] w fun e w'=>e=.returned (.tuple #[.int .i64 (crN K),.int .i64 (crE K)])/\∃ T',KpAt T' w' t B ko kR (crK K m)/\Fk T T' t w w':=by
 obtain ⟨c,hr,hc⟩:=h.at_;have h8:=h.ok.1;have H:=Lib.hid h;have HC:=Lib.hid hc;obtain ⟨w1,hw1⟩:∃ w1,w1=w.alloc (.cells (ba 32 m) 61):=⟨_,rfl⟩;have b1:Below w.heap.size w w1:=by rw[hw1];exact (Below.refl w.heap.size w).alloc (by simp) _
 have rm:row w1 w.heap.size=some (ba 32 m):=by rw[hw1];exact zA _ _ _ _ rfl
 have rb:=zD b1 hr;have k1:w1.cell? ⟨B,ko+1104,none⟩=some (.int .i64 (K.length:Int)):=hc.cell B rb;have k0:(w.alloc (.cells (ba 32 m) 61)).cell? ⟨B,ko+1104,none⟩=some (.int .i64 (K.length:Int)):=by rw[<-hw1];exact k1
 have B1:=Lib.hid b1;have HW1:=Lib.hid hw1;obtain ⟨Z,hZ⟩:∃ Z,Z=w.heap.size:=⟨_,rfl⟩;rw[<-hZ] at rm;have HZ:=Lib.hid hZ
 by_cases hf:8<=K.length
 ·rw[show crN K=0 by unfold crN;rw[if_pos hf],show crE K=134 by unfold crE;rw[if_pos hf],show crK K m=K by unfold crK;rw[if_pos hf]]
  have d1:((K.length:Int)==8)=true:=by simp;omega
  have d2:decide ((K.length:Int)=8)=true:=by simp;omega
  clear hc h hw1 b1 hZ k1;go_enter Tryz.func135,Tryz.ntmps135;go_wp2_with fail;rw[<-HW1.out];exact bodyPost_ret (v:=.tuple #[.int .i64 0,.int .i64 134]) (by simp[results,Tryz.results135,go_sem]) rfl ⟨rfl,H.out.calm B1.out⟩
 ·have hE:crE K=0:=by unfold crE;rw[if_neg hf]
  have hN:crN K=(K.length:Int)+1:=by unfold crN;rw[if_neg hf]
  have hK:crK K m=K++[⟨false,[⟨m,0,false⟩]⟩]:=by unfold crK;rw[if_neg hf]
  have hok:okK (crK K m):=crK_ok h.ok m;rw[hE,hN];rw[hK] at hok ⊢;have d1:((K.length:Int)==8)=false:=by simp;omega
  have d2:decide ((K.length:Int)=8)=false:=by simp;omega
  have hkey:=hc.key K.length (by omega)
  rw[rgI_ge (Nat.le_refl _)] at hkey;have hs:ko+K.length*138+138<=c.size:=by have:=hc.fitc;omega
  have HKEY:=Lib.hid hkey;have HOK:=Lib.hid hok;have HS:=Lib.hid hs;have hl8:K.length<8:=by omega
  have c1:∀ x:After w1,x.val.cell? ⟨B,ko+1104,none⟩=some (.int .i64 (K.length:Int)):=fun x=>hc.cell B (zD x.below rb)
  have q1:=After.row rm;have RB:=Lib.hid rb;clear hc h hw1 b1 hZ k1 hE hN hK hok hkey hs rm rb hf;go_enter Tryz.func135,Tryz.ntmps135;go_wp2_with fail;rw[<-HW1.out,<-HZ.out];refine seen_tail 0 9 (by kernel_rfl) (by kernel_rfl) (fun _ _ _ _ _ h=>h) ?_
  simp only[List.take_succ_cons,List.take_zero,List.drop_succ_cons,List.drop_zero]
  repeat (go_big_quiet_step (fail))
  refine wpQuiet_nil ?_;rintro _ ⟨x,rfl⟩;obtain ⟨wx,hwx⟩:∃ wx,wx=x.val:=⟨_,rfl⟩;have bx:=x.below;rw[<-hwx] at bx ⊢;have rx:=zD bx RB.out;have BX:=Lib.hid (onto B1.out B1.out.size bx);clear hwx c1 q1 bx k0;go_wp2_with fail;refine (padd_any B (ko+K.length*138) c rg0 m wx rx HKEY.out (by decide) HS.out).mono ?_
  rintro e w2 ⟨rfl,hp⟩;have r2:=hp.row rx;have k2:w2.cell? ⟨B,ko+1104,none⟩=some (.int .i64 (K.length:Int)):=by rw[zC r2,addC_else (by decide) HS.out (.inr (by omega))];exact HC.out.cnt
  have f2:w2.frozen? ⟨B,ko+1104,none⟩=false:=zJ r2 _;have e3:w2.setCell ⟨B,ko+1104,none⟩ (.int .i64 ((K.length:Int)+1))=w2.setRow B (newC ko c K.length m):=zL r2 _ _
  have k3:(w2.setCell ⟨B,ko+1104,none⟩ (.int .i64 ((K.length:Int)+1))).cell? ⟨B,ko+1104,none⟩=some (.int .i64 ((K.length:Int)+1)):=by
   have:=(HC.out.new (m:=m) hl8).cnt;rw[e3,zC (zE r2 _),this,List.length_append];rfl
  have HP:=Lib.hid (show Put B (newC ko c K.length m) w (w2.setRow B (newC ko c K.length m)) from Put.behind BX.out (zK hr) (hp.then rx (Put.of (Below.refl _ _) (zK r2) _)))
  have E3:=Lib.hid e3;clear hp r2 rx e3;go_wp2_with fail;rw[E3.out];exact bodyPost_ret (v:=.tuple #[.int .i64 ((K.length:Int)+1),.int .i64 0]) (by simp[results,Tryz.results135,go_sem]) rfl ⟨rfl,H.out.put hr HP.out (HC.out.new hl8) HOK.out⟩
theorem ent_rt:EntrK 180:=entrK Tryz.func180 (by kernel_rfl) (by kernel_rfl)
theorem ent_sw:EntrK 181:=entrK Tryz.func181 (by kernel_rfl) (by kernel_rfl)
theorem key_num{K:Ks}{id:Int}(h:hasK K id=true):∃ (i:Nat) (hi:i<K.length),id=(i:Int)+1/\rgAt K id=K[i]/\∀ r,putR K id r=K.set i r:=by
 obtain ⟨h1,h2⟩:=hasK_iff.1 h;have e:(id-1).toNat<K.length:=by omega
 exact ⟨(id-1).toNat,e,by omega,rgAt_get _ e rfl,fun r=>rfl⟩
theorem prt_any(T:Mk)(t B:Nat)(K:Ks)(id:Int)(m:Bf)(w:World)(h:KpAt T w t B ko kR K):
  Calls Tryz.prog 137 #[.pointer (some ⟨B,ko,none⟩),.int .i64 id,.agg (ba 32 m)] w fun e w'=>e=.returned (.tuple #[.int .i64 (rtN K id),.int .i64 (rtE K id)])/\∃ T',KpAt T' w' t B ko kR (rtK K id m)/\Fk T T' t w w':=by
 obtain ⟨c,hr,hc⟩:=h.at_;have h8:=h.ok.1;obtain ⟨w1,hw1⟩:∃ w1,w1=w.alloc (.cells (ba 32 m) 61):=⟨_,rfl⟩;obtain ⟨w2,hw2⟩:∃ w2,w2=w1.alloc (.cells #[.int .i64 0] 3):=⟨_,rfl⟩;have b1:Below w.heap.size w w1:=by rw[hw1];exact (Below.refl w.heap.size w).alloc (by simp) _
 have b2:Below w1.heap.size w1 w2:=by rw[hw2];exact (Below.refl _ _).alloc (by simp) _
 have rm:row w2 w.heap.size=some (ba 32 m):=zD b2 (by rw[hw1];exact zA _ _ _ _ rfl)
 have hs1:w1.heap.size=w.heap.size+1:=by rw[hw1];simp
 have rv:row w2 (w.heap.size+1)=some #[.int .i64 0]:=by rw[hw2,<-hs1];exact zA _ _ _ _ rfl
 have rb:row w2 B=some c:=zD b2 (zD b1 hr);have b3:=onto b1 b1.size b2;have hlt:=zK hr;obtain ⟨V,hV⟩:∃ V,V=w.heap.size+1:=⟨_,rfl⟩;obtain ⟨M,hM⟩:∃ M,M=w.heap.size:=⟨_,rfl⟩;have hVs:w.heap.size<=V:=by omega
 have hVB:V≠B:=by omega
 rw[<-hV] at rv;rw[<-hM] at rm
 have hcall:Calls Tryz.prog 179 #[.pointer (some ⟨B,ko,none⟩),.int .i64 id,.func (.func 180) #[] #[.pointer (some ⟨M,0,none⟩),.pointer (some ⟨V,0,none⟩)]] w2
   (Num fun E w'=>E=rtE K id/\row w' V=some #[.int .i64 (rtN K id)]/\∃ T',KpAt T' w' t B ko kR (rtK K id m)/\Fk T T' t w w'):=by
  cases hok:hasK K id
  ·have hE:rtE K id=130:=by unfold rtE;rw[hok];rfl
   have hN:rtN K id=0:=by unfold rtN;rw[hE];rfl
   have hK:rtK K id m=K:=by unfold rtK;rw[hE];rfl
   rw[hE,hN,hK];exact (pat_no B K id _ w2 (hc.cell B rb) hok).mono fun e w' he=>⟨130,he.1,rfl,he.2 ▸ rv,he.2 ▸ h.calm b3⟩
  ·obtain ⟨i,hi,rfl,hrg,hput⟩:=key_num hok
   have hky:=hc.key i (by omega)
   rw[rgI_lt hi] at hky;have hs:ko+i*138+138<=c.size:=by have:=hc.fitc;omega
   refine pat_yes B K i _ #[.pointer (some ⟨M,0,none⟩),.pointer (some ⟨V,0,none⟩)] w2 _ (hc.cell B rb) hi (by omega) ent_rt ?_
   refine (prt1_any B (ko+i*138) M V K[i] c m 0 w2 rb hky hs rm rv hVB).mono fun e w' he=>?_
   rcases he with ⟨h4,rfl,rfl⟩|⟨h4,rfl,w3,hp,rfl⟩
   ·have hE:rtE K ((i:Int)+1)=134:=by unfold rtE;rw[if_pos hok,hrg,if_pos h4]
    have hN:rtN K ((i:Int)+1)=0:=by unfold rtN;rw[hE];rfl
    have hK:rtK K ((i:Int)+1) m=K:=by unfold rtK;rw[hE];rfl
    rw[hE,hN,hK];exact ⟨134,rfl,rfl,rv,h.calm b3⟩
   ·have hE:rtE K ((i:Int)+1)=0:=by unfold rtE;rw[if_pos hok,hrg,if_neg (by omega)]
    have hN:rtN K ((i:Int)+1)=(K[i].l.length:Int)+1:=by unfold rtN;rw[hE,hrg];rfl
    have hK:rtK K ((i:Int)+1) m=K.set i ⟨K[i].off,K[i].l++[⟨m,0,false⟩]⟩:=by unfold rtK;rw[if_pos hE,hput,hrg]
    have hok2:okK (rtK K ((i:Int)+1) m):=rtK_ok h.ok m;rw[hE,hN];rw[hK] at hok2 ⊢;have rv3:=hp.other hVB rv;have e3:w3.setCell ⟨V,0,none⟩ (.int .i64 ((K[i].l.length:Int)+1))=w3.setRow V #[.int .i64 ((K[i].l.length:Int)+1)]:=zL rv3 _ _;rw[e3];have hP:Put B (addC c (ko+i*138) K[i] m) w (w3.setRow V #[.int .i64 ((K[i].l.length:Int)+1)]):=zG (Put.behind b3 hlt hp) hVs _;exact ⟨0,rfl,rfl,zE rv3 _,h.put hr hP (hc.add hi (by omega) (by omega)) hok2⟩
 have HC:=Lib.hid hcall;have HW1:=Lib.hid hw1;have HW2:=Lib.hid hw2;have HV:=Lib.hid hV;have HM:=Lib.hid hM;clear hcall h hc rm rv rb b1 b2 b3 hw1 hw2 hV hM hlt hr hs1;go_enter Tryz.func137,Tryz.ntmps137;go_wp2_with fail;rw[<-HW1.out,<-HW2.out,<-HV.out,<-HM.out];refine HC.out.mono ?_;rintro e w3 ⟨E,rfl,rfl,rv,hT⟩;have kv:w3.cell? ⟨V,0,none⟩=some (.int .i64 (rtN K id)):=by rw[zC rv];rfl
 obtain ⟨x,hx⟩:∃ x,x=rtN K id:=⟨_,rfl⟩;obtain ⟨y,hy⟩:∃ x,x=rtE K id:=⟨_,rfl⟩;rw[<-hx] at kv;rw[<-hy];have HX:=Lib.hid hx;have HY:=Lib.hid hy;clear rv hx hy;have HT:=Lib.hid hT;clear hT;go_wp2_with fail;exact bodyPost_ret (v:=.tuple #[.int .i64 x,.int .i64 y]) (by simp[results,Tryz.results137,go_sem]) rfl ⟨by rw[HX.out,HY.out],HT.out⟩
theorem psw_any(T:Mk)(t B:Nat)(K:Ks)(id:Int)(on:Bool)(w:World)(h:KpAt T w t B ko kR K):
  Calls Tryz.prog 138 #[.pointer (some ⟨B,ko,none⟩),.int .i64 id,.bool on] w fun e w'=>e=.returned (.int .i64 (swE K id))/\∃ T',KpAt T' w' t B ko kR (swK K id on)/\Fk T T' t w w':=by
 obtain ⟨c,hr,hc⟩:=h.at_;have h8:=h.ok.1;obtain ⟨w1,hw1⟩:∃ w1,w1=w.alloc (.cells #[.bool on] 4):=⟨_,rfl⟩;have b1:Below w.heap.size w w1:=by rw[hw1];exact (Below.refl w.heap.size w).alloc (by simp) _
 have ro:row w1 w.heap.size=some #[.bool on]:=by rw[hw1];exact zA _ _ _ _ rfl
 have rb:row w1 B=some c:=zD b1 hr;have hlt:=zK hr;obtain ⟨M,hM⟩:∃ M,M=w.heap.size:=⟨_,rfl⟩;rw[<-hM] at ro
 have hcall:Calls Tryz.prog 179 #[.pointer (some ⟨B,ko,none⟩),.int .i64 id,.func (.func 181) #[] #[.pointer (some ⟨M,0,none⟩)]] w1
   (Num fun E w'=>E=swE K id/\∃ T',KpAt T' w' t B ko kR (swK K id on)/\Fk T T' t w w'):=by
  cases hok:hasK K id
  ·rw[show swE K id=130 by unfold swE;rw[hok];rfl,show swK K id on=K by unfold swK;rw[hok];rfl]
   exact (pat_no B K id _ w1 (hc.cell B rb) hok).mono fun e w' he=>⟨130,he.1,rfl,he.2 ▸ h.calm b1⟩
  ·obtain ⟨i,hi,rfl,hrg,hput⟩:=key_num hok
   have hky:=hc.key i (by omega)
   rw[rgI_lt hi] at hky;refine pat_yes B K i _ #[.pointer (some ⟨M,0,none⟩)] w1 _ (hc.cell B rb) hi (by omega) ent_sw ?_
   refine (psw1_any B (ko+i*138) M on K[i].off w1 (by rw[zC rb];exact hky.off) (by rw[zC ro];rfl) (zJ rb _)).mono fun e w' he=>?_
   obtain ⟨rfl,rfl⟩:=he;have hK:swK K ((i:Int)+1) on=K.set i ⟨!on,K[i].l⟩:=by unfold swK;rw[if_pos hok,hput,hrg]
   have hok2:okK (swK K ((i:Int)+1) on):=swK_ok h.ok on;rw[show swE K ((i:Int)+1)=0 by unfold swE;rw[hok];rfl]
   rw[hK] at hok2 ⊢;rw[zL rb];exact ⟨0,rfl,rfl,h.put hr (Put.of b1 hlt _) (hc.off hi (by omega) _) hok2⟩
 have HC:=Lib.hid hcall;have HW1:=Lib.hid hw1;have HM:=Lib.hid hM;clear hcall h hc ro rb b1 hw1 hM hlt hr;go_enter Tryz.func138,Tryz.ntmps138;go_wp2_with fail;rw[<-HW1.out,<-HM.out];refine HC.out.mono ?_;rintro e w3 ⟨E,rfl,rfl,hT⟩;have HT:=Lib.hid hT;clear hT;go_wp2_with fail;go_ret;exact ⟨rfl,HT.out⟩
variable {ko:Nat} {kR:Array Value}
theorem ent_ds:EntrK 183:=entrK Tryz.func183 (by kernel_rfl) (by kernel_rfl)
theorem ent_mt:EntrK 253:=entrK Tryz.func253 (by kernel_rfl) (by kernel_rfl)
theorem ent_us:EntrK 215:=entrK Tryz.func215 (by kernel_rfl) (by kernel_rfl)
theorem ver_numK{r:Rg}{v:Int}(h1:1<=v)(h2:v<=(r.l.length:Int)):∃ (k:Nat) (hk:k<r.l.length),v=(k:Int)+1/\veAt r v=r.l[k]/\∀ x,putV r v x=⟨r.off,r.l.set k x⟩:=by
 have e:(v-1).toNat<r.l.length:=by omega
 exact ⟨(v-1).toNat,e,by omega,veAt_get _ e rfl,fun x=>rfl⟩
theorem both_num{K:Ks}{id ver:Int}(h:hasV K id ver=true):∃ (i:Nat) (hi:i<K.length) (v:Nat) (hv:v<K[i].l.length),id=(i:Int)+1/\ver=(v:Int)+1/\rgAt K id=K[i]/\(∀ r,putR K id r=K.set i r)/\veAt K[i] ver=K[i].l[v]/\∀ x,putV K[i] ver x=⟨K[i].off,K[i].l.set v x⟩:=by
 obtain ⟨h1,h2,h3⟩:=hasV_iff.1 h;obtain ⟨i,hi,e,hrg,hput⟩:=key_num (hasK_iff.2 h1);rw[hrg] at h3;obtain ⟨v,hv,e2,hva,hpv⟩:=ver_numK h2 h3;exact ⟨i,hi,v,hv,e,e2,hrg,hput,hva,hpv⟩
theorem pds_any(T:Mk)(t B:Nat)(K:Ks)(id ver:Int)(w:World)(h:KpAt T w t B ko kR K):
  Calls Tryz.prog 139 #[.pointer (some ⟨B,ko,none⟩),.int .i64 id,.int .i64 ver] w fun e w'=>e=.returned (.int .i64 (dsE K id ver))/\∃ T',KpAt T' w' t B ko kR (dsK K id ver)/\Fk T T' t w w':=by
 obtain ⟨c,hr,hc⟩:=h.at_;have h8:=h.ok.1;have hlt:=zK hr
 have hcall:Calls Tryz.prog 182 #[.pointer (some ⟨B,ko,none⟩),.int .i64 id,.int .i64 ver,.func (.func 183) #[] #[]] w
   (Num fun E w'=>E=dsE K id ver/\∃ T',KpAt T' w' t B ko kR (dsK K id ver)/\Fk T T' t w w'):=by
  cases hok:hasV K id ver
  ·have hE:dsE K id ver=130:=by unfold dsE;rw[hok];rfl
   have hK:dsK K id ver=K:=by unfold dsK;rw[hE];rfl
   rw[hE,hK];exact (pav_no B c K id ver _ _ w hr hc h8 hok).mono fun e w' he=>⟨130,he.1,rfl,h.calm he.2⟩
  ·obtain ⟨i,hi,v,hv,rfl,rfl,hrg,hput,hva,hpv⟩:=both_num hok
   have hky:=hc.key i (by omega)
   rw[rgI_lt hi] at hky;have hs:ko+i*138+138<=c.size:=by have:=hc.fitc;omega
   have hf:=hky.few;have hm:=Nat.mul_le_mul_right 34 (show v+1<=4 by omega)
   refine pav_yes B c K i v _ #[] w _ hr hc hi (by omega) hv ent_ds fun w1 hb1=>?_
   refine (pds1_any B (ko+i*138) (ko+i*138+1+v*34) K[i].l[v].g c w1 (zD hb1 hr) (hky.ldG hv) (by omega)).mono fun e w' he=>?_
   obtain ⟨rfl,rfl⟩:=he;cases hg:K[i].l[v].g
   ·have hE:dsE K ((i:Int)+1) ((v:Int)+1)=0:=by unfold dsE;rw[if_pos hok,hrg,hva,hg];rfl
    have hK:dsK K ((i:Int)+1) ((v:Int)+1)=K.set i ⟨K[i].off,K[i].l.set v ⟨fun _=>0#8,K[i].l[v].u,true⟩⟩:=by unfold dsK;rw[if_pos hE,hput,hrg,hpv,hva]
    have hok2:okK (dsK K ((i:Int)+1) ((v:Int)+1)):=dsK_ok h.ok;rw[hE];rw[hK] at hok2 ⊢;exact ⟨0,rfl,rfl,h.put hr (Put.of hb1 hlt _) (hc.end_ hi (by omega) hv) hok2⟩
   ·have hE:dsE K ((i:Int)+1) ((v:Int)+1)=132:=by unfold dsE;rw[if_pos hok,hrg,hva,hg];rfl
    have hK:dsK K ((i:Int)+1) ((v:Int)+1)=K:=by unfold dsK;rw[hE];rfl
    rw[hE,hK];exact ⟨132,rfl,rfl,h.calm hb1⟩
 have HC:=Lib.hid hcall;clear hcall h hc hlt hr;go_enter Tryz.func139,Tryz.ntmps139;go_wp2_with fail;refine HC.out.mono ?_;rintro e w3 ⟨E,rfl,rfl,hT⟩;have HT:=Lib.hid hT;clear hT;go_wp2_with fail;go_ret;exact ⟨rfl,HT.out⟩
theorem pmt_any(T:Mk)(t B:Nat)(K:Ks)(id ver:Int)(w:World)(h:KpAt T w t B ko kR K):
  Calls Tryz.prog 222 #[.pointer (some ⟨B,ko,none⟩),.int .i64 id,.int .i64 ver] w fun e w'=>e=.returned (.tuple #[.agg (ba 32 (mtM K id ver)),.int .i64 (mtE K id ver)])/\Below w.heap.size w w':=by
 obtain ⟨c,hr,hc⟩:=h.at_;have h8:=h.ok.1;obtain ⟨w1,hw1⟩:∃ w1,w1=w.alloc (.cells (ba 32 fun _=>0#8) 61):=⟨_,rfl⟩
 obtain ⟨w2,hw2⟩:∃ w2,w2=w1.alloc (.cells (ba 32 fun _=>0#8) 61):=⟨_,rfl⟩
 have b1:Below w.heap.size w w1:=by rw[hw1];exact (Below.refl w.heap.size w).alloc (by simp) _
 have b2:Below w1.heap.size w1 w2:=by rw[hw2];exact (Below.refl _ _).alloc (by simp) _
 have rR:row w2 w.heap.size=some (ba 32 fun _=>0#8):=zD b2 (by rw[hw1];exact zA _ _ _ _ rfl)
 have hs1:w1.heap.size=w.heap.size+1:=by rw[hw1];simp
 have rM:row w2 (w.heap.size+1)=some (ba 32 fun _=>0#8):=by rw[hw2,<-hs1];exact zA _ _ _ _ rfl
 have rb:row w2 B=some c:=zD b2 (zD b1 hr);have b3:=onto b1 b1.size b2;have hlt:=zK hr;obtain ⟨M,hM⟩:∃ M,M=w.heap.size+1:=⟨_,rfl⟩;obtain ⟨R,hR⟩:∃ R,R=w.heap.size:=⟨_,rfl⟩;rw[<-hR] at rR;rw[<-hM] at rM;have hMR:R≠M:=by omega
 have hMs:w.heap.size<=M:=by omega
 have hRs:w.heap.size<=R:=by omega
 have hcall:Calls Tryz.prog 182 #[.pointer (some ⟨B,ko,none⟩),.int .i64 id,.int .i64 ver,.func (.func 253) #[] #[.pointer (some ⟨M,0,none⟩)]] w2
   (Num fun E w'=>E=mtE K id ver/\row w' R=some (ba 32 fun _=>0#8)/\row w' M=some (ba 32 (mtM K id ver))/\Below w.heap.size w w'):=by
  cases hok:hasV K id ver
  ·have hE:mtE K id ver=130:=by unfold mtE;rw[hok];rfl
   have hK:mtM K id ver=fun _=>0#8:=by unfold mtM;rw[hE];rfl
   rw[hE,hK];exact (pav_no B c K id ver _ _ w2 rb hc h8 hok).mono fun e w' he=>⟨130,he.1,rfl,zD he.2 rR,zD he.2 rM,onto b3 b3.size he.2⟩
  ·obtain ⟨i,hi,v,hv,rfl,rfl,hrg,hput,hva,hpv⟩:=both_num hok
   have hky:=hc.key i (by omega)
   rw[rgI_lt hi] at hky;have hs:ko+i*138+138<=c.size:=by have:=hc.fitc;omega
   refine pav_yes B c K i v _ #[.pointer (some ⟨M,0,none⟩)] w2 _ rb hc hi (by omega) hv ent_mt fun w3 hb3=>?_
   refine (pmt1_any B (ko+i*138) v M K[i] c _ w3 (zD hb3 rb) hky hv hs (zD hb3 rM)).mono fun e w' he=>?_
   obtain ⟨rfl,rfl⟩:=he;have hE:mtE K ((i:Int)+1) ((v:Int)+1)=rfE K[i].off K[i].l[v].g:=by unfold mtE rfE;rw[if_pos hok,hrg,hva]
   have b4:=onto b3 b3.size hb3
   by_cases h0:rfE K[i].off K[i].l[v].g=0
   ·have hK:mtM K ((i:Int)+1) ((v:Int)+1)=K[i].l[v].m:=by unfold mtM;rw[if_pos (hE.trans h0),hrg,hva]
    rw[hE,hK,if_pos h0];exact ⟨_,rfl,rfl,by rw[zF _ _ _ _ hMR];exact zD hb3 rR,zE (zD hb3 rM) _,zG b4 hMs _⟩
   ·have hK:mtM K ((i:Int)+1) ((v:Int)+1)=fun _=>0#8:=by unfold mtM;rw[if_neg (by rw[hE];exact h0)]
    rw[hE,hK,if_neg h0];exact ⟨_,rfl,rfl,zD hb3 rR,zD hb3 rM,b4⟩
 have HC:=Lib.hid hcall;have HW1:=Lib.hid hw1;have HW2:=Lib.hid hw2;have HM:=Lib.hid hM;have HR:=Lib.hid hR;clear hcall h hc rR rM rb b1 b2 b3 hw1 hw2 hM hR hlt hr hs1;go_enter Tryz.func222,Tryz.ntmps222;go_wp2_with fail;rw[<-HW1.out,<-HW2.out,<-HM.out,<-HR.out];refine HC.out.mono ?_;rintro e w3 ⟨E,rfl,rfl,rR,rM,hb⟩;obtain ⟨x,hx⟩:∃ x,x=mtM K id ver:=⟨_,rfl⟩;obtain ⟨y,hy⟩:∃ x,x=mtE K id ver:=⟨_,rfl⟩;rw[<-hx] at rM;rw[<-hy];have HX:=Lib.hid hx;have HY:=Lib.hid hy;have HB:=Lib.hid hb;clear hb hx hy;go_wp2_with fail;refine bodyPost_ret (v:=.tuple #[.agg (ba 32 x),.int .i64 y]) (res_ctK (u:=7) rfl _ _ R _ _ rfl (zE rR _) kk_u rfl (by rw[zI];exact kk_i)) rfl ⟨by rw[HX.out,HY.out],zG HB.out hRs _⟩
variable {ko:Nat} {kR:Array Value}
structure RwT(V:Nat)(a:Array Value)(N:Nat)(b:Array Value)(M:Nat)(c:Array Value) where
 val:World
 r1:row val V=some a
 r2:row val N=some b
 r3:row val M=some c
theorem res_iict{P:Program}{fn:Func}{p q r u:Tmp}{ti ty:TypeId}(h:fn.results=#[.cell p ti,.cell q ti,.cell r ty,.tmp u])(tmps:Array Value)(w:World)(b1 b2 b3:Nat)(x y:Int)(c:Array Value)(d:TypeDesc)
  (h1:tmps.getD p undef=.pointer (some ⟨b1,0,none⟩)) (h2:tmps.getD q undef=.pointer (some ⟨b2,0,none⟩)) (h3:tmps.getD r undef=.pointer (some ⟨b3,0,none⟩))
  (hx:(loadVar ti ⟨b1,0,none⟩).run P w=.ok (.int .i64 x) w) (hy:(loadVar ti ⟨b2,0,none⟩).run P w=.ok (.int .i64 y) w) (hr:row w b3=some c) (hu:P.underlying ty=some d) (hd:d.isRow=true) (hi:(P.info? ty).map (·.size)=some c.size):
  (results fn tmps).run P w=.ok (.tuple #[.int .i64 x,.int .i64 y,.agg c,tmps.getD u undef]) w:=by
 have e1:tmps[p]?.getD undef=.pointer (some ⟨b1,0,none⟩):=by simpa using h1
 have e2:tmps[q]?.getD undef=.pointer (some ⟨b2,0,none⟩):=by simpa using h2
 have e3:tmps[r]?.getD undef=.pointer (some ⟨b3,0,none⟩):=by simpa using h3
 simp only[results,h];simp[e1,e2,e3,asAddr,ld_rowK hr hu hd hi,hx,hy]
theorem usE_at{K:Ks}{i:Nat}{v:Nat}(hi:i<K.length)(hv:v<K[i].l.length)(hl:K[i].l.length=v+1)(hok:hasK K ((i:Int)+1)=true)(hrg:rgAt K ((i:Int)+1)=K[i]):lastV K[i]=K[i].l[v]/\usE K ((i:Int)+1)=u1E K[i].off K[i].l[v]:=by
 have e1:lastV K[i]=K[i].l[v]:=veAt_get v hv (by omega)
 refine ⟨e1,?_⟩;unfold usE u1E rfE;rw[if_pos hok,hrg,e1]
 by_cases h1:K[i].off=true
 ·rw[if_pos h1,if_pos h1];rfl
 ·rw[if_neg h1,if_neg h1]
  by_cases h2:K[i].l[v].g=true
  ·rw[if_pos h2,if_pos h2];rfl
  ·rw[if_neg h2,if_neg h2,if_pos rfl]
theorem pus_any(T:Mk)(t B:Nat)(K:Ks)(id:Int)(w:World)(h:KpAt T w t B ko kR K):
  Calls Tryz.prog 184 #[.pointer (some ⟨B,ko,none⟩),.int .i64 id] w fun e w'=>e=.returned (.tuple #[.int .i64 (usV K id),.int .i64 (usC K id),.agg (ba 32 (usM K id)),.int .i64 (usE K id)])/\∃ T',KpAt T' w' t B ko kR (usK K id)/\Fk T T' t w w':=by
 obtain ⟨c,hr,hc⟩:=h.at_;have h8:=h.ok.1;obtain ⟨w1,hw1⟩:∃ w1,w1=w.alloc (.cells #[.int .i64 0] 3):=⟨_,rfl⟩;obtain ⟨w2,hw2⟩:∃ w2,w2=w1.alloc (.cells #[.int .i64 0] 3):=⟨_,rfl⟩;obtain ⟨w3,hw3⟩:∃ w3,w3=w2.alloc (.cells (ba 32 fun _=>0#8) 61):=⟨_,rfl⟩
 have b1:Below w.heap.size w w1:=by rw[hw1];exact (Below.refl w.heap.size w).alloc (by simp) _
 have b2:Below w1.heap.size w1 w2:=by rw[hw2];exact (Below.refl _ _).alloc (by simp) _
 have b3:Below w2.heap.size w2 w3:=by rw[hw3];exact (Below.refl _ _).alloc (by simp) _
 have hs1:w1.heap.size=w.heap.size+1:=by rw[hw1];simp
 have hs2:w2.heap.size=w.heap.size+1+1:=by rw[hw2];simp[hs1]
 have rV:row w3 w.heap.size=some #[.int .i64 0]:=zD b3 (zD b2 (by rw[hw1];exact zA _ _ _ _ rfl))
 have rN:row w3 (w.heap.size+1)=some #[.int .i64 0]:=zD b3 (by rw[hw2,<-hs1];exact zA _ _ _ _ rfl)
 have rM:row w3 (w.heap.size+1+1)=some (ba 32 fun _=>0#8):=by rw[hw3,<-hs2];exact zA _ _ _ _ rfl
 have rb:row w3 B=some c:=zD b3 (zD b2 (zD b1 hr));have b4:Below w.heap.size w w3:=onto (onto b1 b1.size b2) (Nat.le_trans b1.size b2.size) b3;have hlt:=zK hr;obtain ⟨V,hV⟩:∃ V,V=w.heap.size:=⟨_,rfl⟩;obtain ⟨N,hN⟩:∃ N,N=w.heap.size+1:=⟨_,rfl⟩;obtain ⟨M,hM⟩:∃ M,M=w.heap.size+1+1:=⟨_,rfl⟩;rw[<-hV] at rV;rw[<-hN] at rN;rw[<-hM] at rM;have hd:V≠B/\N≠B/\M≠B/\V≠N/\V≠M/\N≠M:=by omega
 have hVs:w.heap.size<=V:=by omega
 have hNs:w.heap.size<=N:=by omega
 have hMs:w.heap.size<=M:=by omega
 have hcall:Calls Tryz.prog 179 #[.pointer (some ⟨B,ko,none⟩),.int .i64 id,.func (.func 215) #[] #[.pointer (some ⟨V,0,none⟩),.pointer (some ⟨N,0,none⟩),.pointer (some ⟨M,0,none⟩)]] w3
   (Num fun E w'=>E=usE K id/\row w' V=some #[.int .i64 (usV K id)]/\row w' N=some #[.int .i64 (usC K id)]/\row w' M=some (ba 32 (usM K id))/\∃ T',KpAt T' w' t B ko kR (usK K id)/\Fk T T' t w w'):=by
  have hno:usE K id≠0->usV K id=0/\usC K id=0/\(usM K id=fun _=>0#8)/\usK K id=K:=fun e=>⟨by unfold usV;rw[if_neg e],by unfold usC;rw[if_neg e],by unfold usM;rw[if_neg e],by unfold usK;rw[if_neg e]⟩
  cases hok:hasK K id
  ·have hE:usE K id=130:=by unfold usE;rw[hok];rfl
   obtain ⟨e1,e2,e3,e4⟩:=hno (by rw[hE];decide)
   rw[hE,e1,e2,e3,e4];exact (pat_no B K id _ w3 (hc.cell B rb) hok).mono fun e w' he=>⟨130,he.1,rfl,he.2 ▸ rV,he.2 ▸ rN,he.2 ▸ rM,he.2 ▸ h.calm b4⟩
  ·have hring:=h.ok.ring hok
   obtain ⟨i,hi,rfl,hrg,hput⟩:=key_num hok;rw[hrg] at hring;have hky:=hc.key i (by omega)
   rw[rgI_lt hi] at hky;have hs:ko+i*138+138<=c.size:=by have:=hc.fitc;omega
   obtain ⟨v,hl⟩:∃ v,K[i].l.length=v+1:=⟨K[i].l.length-1,by have:=hring.1.1;omega⟩
   have hv:v<K[i].l.length:=by omega
   obtain ⟨hla,hE⟩:=usE_at hi hv hl hok hrg;have hou:=(hring.2 _ (List.getElem_mem hv)).1;refine pat_yes B K i _ #[.pointer (some ⟨V,0,none⟩),.pointer (some ⟨N,0,none⟩),.pointer (some ⟨M,0,none⟩)] w3 _ (hc.cell B rb) hi (by omega) ent_us ?_
   refine (pus1_any B (ko+i*138) V N M v K[i] c 0 0 _ w3 rb hky hs hl rV rN rM hd hou).mono fun e w' he=>?_
   obtain ⟨rfl,hne,heq⟩:=he;refine ⟨_,rfl,hE.symm,?_⟩
   by_cases h0:usE K ((i:Int)+1)=0
   ·obtain ⟨w4,hb4,hw'⟩:=(heq (hE ▸ h0)).at_
    have e1:usV K ((i:Int)+1)=(v:Int)+1:=by unfold usV;rw[if_pos h0,hrg,hl];rfl
    have e2:usC K ((i:Int)+1)=K[i].l[v].u:=by unfold usC;rw[if_pos h0,hrg,hla]
    have e3:usM K ((i:Int)+1)=K[i].l[v].m:=by unfold usM;rw[if_pos h0,hrg,hla]
    have e4:usK K ((i:Int)+1)=K.set i ⟨K[i].off,K[i].l.set v ⟨K[i].l[v].m,K[i].l[v].u+1,K[i].l[v].g⟩⟩:=by
     unfold usK;rw[if_pos h0,hput,hrg,hla];unfold putV;rw[show ((K[i].l.length:Int)-1).toNat=v by omega]
    have hok2:okK (usK K ((i:Int)+1)):=usK_ok h.ok;rw[e1,e2,e3];rw[e4] at hok2 ⊢;have qV:=zD hb4 rV;have qN:=zD hb4 rN;have qM:=zD hb4 rM;have qB:=zD hb4 rb;have b5:=onto b4 b4.size hb4;obtain ⟨n1,n2,n3,n4,n5,n6⟩:=hd;have f1:w4.setCell ⟨V,0,none⟩ (.int .i64 ((v:Int)+1))=w4.setRow V #[.int .i64 ((v:Int)+1)]:=zL qV _ _;have qN2:row (w4.setRow V #[.int .i64 ((v:Int)+1)]) N=some #[.int .i64 0]:=by rw[zF _ _ _ _ (Ne.symm n4)];exact qN
    have f2:(w4.setRow V #[.int .i64 ((v:Int)+1)]).setCell ⟨N,0,none⟩ (.int .i64 K[i].l[v].u)=(w4.setRow V #[.int .i64 ((v:Int)+1)]).setRow N #[.int .i64 K[i].l[v].u]:=zL qN2 _ _;rw[f1,f2] at hw';obtain ⟨w5,hw5⟩:∃ w5,w5=((w4.setRow V #[.int .i64 ((v:Int)+1)]).setRow N #[.int .i64 K[i].l[v].u]).setRow M (ba 32 K[i].l[v].m):=⟨_,rfl⟩;rw[<-hw5] at hw';have b6:Below w.heap.size w w5:=by rw[hw5];exact zG (zG (zG b5 hVs _) hNs _) hMs _
    have pV:row w5 V=some #[.int .i64 ((v:Int)+1)]:=by rw[hw5,zF _ _ _ _ n5,zF _ _ _ _ n4];exact zE qV _
    have pN:row w5 N=some #[.int .i64 K[i].l[v].u]:=by rw[hw5,zF _ _ _ _ n6];exact zE qN2 _
    have pM:row w5 M=some (ba 32 K[i].l[v].m):=by rw[hw5];exact zE (by rw[zF _ _ _ _ (Ne.symm n6),zF _ _ _ _ (Ne.symm n5)];exact qM) _
    have pB:row w5 B=some c:=by rw[hw5,zF _ _ _ _ (Ne.symm n3),zF _ _ _ _ (Ne.symm n2),zF _ _ _ _ (Ne.symm n1)];exact qB
    rw[zL pB] at hw';have hP:=Put.of b6 hlt (c.setIfInBounds (ko+i*138+1+v*34+32) (.int .i64 (K[i].l[v].u+1)));rw[<-hw'] at hP;rw[hw'];refine ⟨by rw[zF _ _ _ _ n1];exact pV,by rw[zF _ _ _ _ n2];exact pN,by rw[zF _ _ _ _ n3];exact pM,?_⟩
    rw[<-hw'];exact h.put hr hP (hc.use hi (by omega) hv _) hok2
   ·obtain ⟨e1,e2,e3,e4⟩:=hno h0
    rw[e1,e2,e3,e4];have hb:=hne (by rw[<-hE];exact h0)
    exact ⟨zD hb rV,zD hb rN,zD hb rM,h.calm (onto b4 b4.size hb)⟩
 have HC:=Lib.hid hcall;have HW1:=Lib.hid hw1;have HW2:=Lib.hid hw2;have HW3:=Lib.hid hw3;have HV:=Lib.hid hV;have HN:=Lib.hid hN;have HM:=Lib.hid hM;have HD:=Lib.hid hd;have HZ:=Lib.hid (And.intro hVs (And.intro hNs hMs));clear hcall h hc rV rN rM rb b1 b2 b3 b4 hw1 hw2 hw3 hV hN hM hlt hr hs1 hs2 hd hVs hNs hMs;go_enter Tryz.func184,Tryz.ntmps184;go_wp2_with fail;rw[<-HW1.out,<-HW2.out,<-HW3.out,<-HM.out,<-HN.out,<-HV.out];refine HC.out.mono ?_;rintro e w4 ⟨E,rfl,rfl,rV,rN,rM,hT⟩;obtain ⟨n1,n2,n3,n4,n5,n6⟩:=HD.out;obtain ⟨z1,hz1⟩:∃ z,z=usV K id:=⟨_,rfl⟩;obtain ⟨z2,hz2⟩:∃ z,z=usC K id:=⟨_,rfl⟩;obtain ⟨z3,hz3⟩:∃ z,z=usM K id:=⟨_,rfl⟩;obtain ⟨z4,hz4⟩:∃ z,z=usE K id:=⟨_,rfl⟩;rw[<-hz1] at rV;rw[<-hz2] at rN;rw[<-hz3] at rM;rw[<-hz4];have H1:=Lib.hid hz1;have H2:=Lib.hid hz2;have H3:=Lib.hid hz3;have H4:=Lib.hid hz4;have HT:=Lib.hid hT;clear hz1 hz2 hz3 hz4 hT;go_wp2_with fail;refine zY [([0,1,2,3],4,false),([],5,false),([],6,false)] [7] (fun w'=>∃ x:RwT V #[.int .i64 z1] N #[.int .i64 z2] M (ba 32 z3),w'=x.val) (by kernel_rfl) (by kernel_rfl) (fun _ _ _ _ _ h=>h) ⟨⟨w4.drewN 1,by rw[zS];exact rV,by rw[zS];exact rN,by rw[zS];exact rM⟩,rfl⟩ ?_
 have b1:Below w4.heap.size w4 (w4.drewN 1):=zQ (Below.refl _ _) 1;obtain ⟨w5,hw5⟩:∃ w5,w5=w4.drewN 1:=⟨_,rfl⟩;rw[<-hw5] at b1 ⊢;have rV5:=zD b1 rV;have rN5:=zD b1 rN;have rM5:=zD b1 rM;have B5:=Lib.hid b1;clear hw5 b1 rV rN rM;have hne:Nonempty (RwT V #[.int .i64 z1] N #[.int .i64 z2] M (ba 32 z3)):=⟨⟨w5,rV5,rN5,rM5⟩⟩;have k1:∀ x:RwT V #[.int .i64 z1] N #[.int .i64 z2] M (ba 32 z3),x.val.cell? ⟨V,0,none⟩=some (.int .i64 z1):=fun x=>by rw[zC x.r1];rfl
 have k2:∀ x:RwT V #[.int .i64 z1] N #[.int .i64 z2] M (ba 32 z3),x.val.cell? ⟨N,0,none⟩=some (.int .i64 z2):=fun x=>by rw[zC x.r2];rfl
 have k3:∀ x:RwT V #[.int .i64 z1] N #[.int .i64 z2] M (ba 32 z3),row x.val M=some (ba 32 z3):=fun x=>x.r3
 simp only[wpFl,pk,List.getElem?_cons_zero,List.getElem?_cons_succ]
 repeat (go_big_quiet_step (fail))
 refine wpQuiet_nil ?_;have c1:w5.cell? ⟨V,0,none⟩=some (.int .i64 z1):=by rw[zC rV5];rfl
 have f1:w5.frozen? ⟨V,0,none⟩=false:=zJ rV5 _;have e1:w5.setCell ⟨V,0,none⟩ (.int .i64 z1)=w5:=by rw[zL rV5];exact yF rV5
 clear k1 k2 k3;go_wp2_with fail;clear c1 f1 e1;refine ⟨_,⟨⟨w5,rV5,rN5,rM5⟩,rfl⟩,.inr ⟨⟨⟨w5,rV5,rN5,rM5⟩,rfl⟩,fun _ h=>h⟩,?_⟩
 show wpQuiet _ _ _ _ _ _;refine wpQuiet_nil ?_;have c1:w5.cell? ⟨N,0,none⟩=some (.int .i64 z2):=by rw[zC rN5];rfl
 have f1:w5.frozen? ⟨N,0,none⟩=false:=zJ rN5 _;have e1:w5.setCell ⟨N,0,none⟩ (.int .i64 z2)=w5:=by rw[zL rN5];exact yF rN5
 go_wp2_with fail;clear c1 f1 e1;refine ⟨_,⟨⟨w5,rV5,rN5,rM5⟩,rfl⟩,.inr ⟨⟨⟨w5,rV5,rN5,rM5⟩,rfl⟩,fun _ h=>h⟩,?_⟩
 show wpQuiet _ _ _ _ _ _;refine wpQuiet_nil ?_;have e1:w5.setRow M (ba 32 z3)=w5:=yF rM5;go_wp2_with fail;clear e1;refine ⟨_,⟨⟨w5,rV5,rN5,rM5⟩,rfl⟩,.inr ⟨⟨⟨w5,rV5,rN5,rM5⟩,rfl⟩,fun _ h=>h⟩,?_⟩
 show wpQuiet _ _ _ _ _ _
 repeat (go_big_quiet_step (fail))
 refine wpQuiet_nil ?_;have c1:w5.cell? ⟨V,0,none⟩=some (.int .i64 z1):=by rw[zC rV5];rfl
 have c2:w5.cell? ⟨N,0,none⟩=some (.int .i64 z2):=by rw[zC rN5];rfl
 go_wp2_with fail;refine bodyPost_ret (v:=.tuple #[.int .i64 z1,.int .i64 z2,.agg (ba 32 z3),.int .i64 z4]) (res_iict (u:=7) rfl _ _ V N M z1 z2 _ _ rfl rfl rfl (by simp[loadVar,go_sem,c1]) (by simp[loadVar,go_sem,c2]) rM5 kk_u rfl (by rw[zI];exact kk_i)) rfl ⟨by rw[H1.out,H2.out,H3.out,H4.out],?_⟩
 obtain ⟨T',hk,hf⟩:=HT.out;obtain ⟨T2,hk2,hf2⟩:=hk.calm B5.out;exact ⟨T2,hk2,hf.trans hf2⟩
end Go.Proofs.YteffjpdcghlnlaaGreatDoor.Oct
namespace Go.Proofs.YteffjpdcghlnlaaGreatDoor.Oct
open Go.ChangeShapes Go.WideShapes Go.ChangeAt Go.RowKit
variable {ko:Nat} {kR:Array Value}
structure KpW(w:World)(B:Nat)(ko:Nat)(kR:Array Value)(K:Ks):Prop where
 at_:∃ c,row w B=some c/\KsC ko kR c K
 ok:okK K
structure Chg(B:Nat)(w w':World):Prop where
 os:w'.os=w.os
 tape:w'.tape=w.tape
 output:w'.output=w.output
 size:w.heap.size<=w'.heap.size
 keep:∀ k,k<w.heap.size->k≠B->w'.heap[k]? =w.heap[k]?
def oneM(B:Nat):Mk:=fun k=>if k=B then 1 else 0
section
variable {T T':Mk} {w w' w2:World} {t B D:Nat} {K:Ks}
theorem KpAt.kw(h:KpAt T w t B ko kR K):KpW w B ko kR K:=⟨h.at_,h.ok⟩
theorem KpW.mk'(h:KpW w B ko kR K)(hT:T B=t):KpAt T w t B ko kR K:=⟨hT,h.at_,h.ok⟩
theorem KpW.one(h:KpW w B ko kR K):KpAt (oneM B) w 1 B ko kR K:=⟨if_pos rfl,h.at_,h.ok⟩
theorem KpW.lt(h:KpW w B ko kR K):B<w.heap.size:=by obtain ⟨c,hr,_⟩:=h.at_;exact zK hr
theorem KpW.below(h:KpW w B ko kR K)(hb:Below w.heap.size w w'):KpW w' B ko kR K:=by obtain ⟨c,hr,hc⟩:=h.at_;exact ⟨⟨c,zD hb hr,hc⟩,h.ok⟩
theorem Fk.chg(h:Fk (oneM B) T' 1 w w'):Chg B w w':=⟨h.fr.os,h.fr.tape,h.fr.output,h.fr.size,fun k hk hB=>h.fr.keep k hk (by unfold oneM;rw[if_neg hB];intro e;exact absurd e.1 (by decide))⟩
theorem Chg.refl(B:Nat)(w:World):Chg B w w:=⟨rfl,rfl,rfl,Nat.le_refl _,fun _ _ _=>rfl⟩
theorem Chg.trans(h:Chg B w w')(k:Chg B w' w2):Chg B w w2:=⟨k.os.trans h.os,k.tape.trans h.tape,k.output.trans h.output,Nat.le_trans h.size k.size,fun i hi hB=>(k.keep i (Nat.lt_of_lt_of_le hi h.size) hB).trans (h.keep i hi hB)⟩
theorem Chg.of(h:Below w.heap.size w w'):Chg B w w':=⟨h.1,h.2,h.3,h.size,fun k hk _=>h.block k hk⟩
theorem Chg.more(h:Chg B w w')(k:Below w'.heap.size w' w2):Chg B w w2:=h.trans (Chg.of k)
theorem Chg.fr{H:Nat->Prop}(h:Chg B w w')(hB:H (T B))(t:Nat):Fr T (paint T w.heap.size t) H w w':=⟨h.os,h.tape,h.output,h.size,fun k hk hn=>h.keep k hk (fun e=>hn (e ▸ hB)),fun k hk=>zH hk⟩
theorem Chg.row(h:Chg B w w'){k:Nat}{c:Array Value}(hr:Oct.row w k=some c)(hk:k≠B):Oct.row w' k=some c:=by rw[yZ (h.keep k (zK hr) hk)];exact hr
theorem Chg.sl(h:Chg B w w'){A:Option Addr}{n m D:Nat}{b:Bf}(hs:Sl w D A n m b)(hD:D<=w.heap.size)(ho:Off B n A):Sl w' D A n m b:=
 ⟨hs.le,fun hn=>by
  obtain ⟨g,o,e,hg,hc⟩:=hs.at_ hn;refine ⟨g,o,e,hg,fun i hi=>?_⟩
  have hb:=h.keep g (by omega) (ho hn _ e)
  rw[show w'.cell? ⟨g,o+i,none⟩=w.cell? ⟨g,o+i,none⟩ by unfold World.cell?;rw[hb]]
  exact hc i hi⟩
theorem Chg.sl_up(h:Chg B w w'){A:Option Addr}{n m:Nat}{b:Bf}(hs:Sl w w.heap.size A n m b)(ho:Off B n A):Sl w' w'.heap.size A n m b:=(h.sl hs (Nat.le_refl _) ho).more h.size
theorem Off.nil:Off B 0 none:=fun h=>absurd h (by omega)
theorem Off.of_zero{A:Option Addr}:Off B 0 A:=fun h=>absurd h (by omega)
theorem Off.own{D n c:Nat}{A:Option Addr}{b:Bf}{u:TypeId}(h:Own w D u (.slice A n c) n b)(hB:B<D):Off B n A:=fun hn a ha e=>by
 obtain ⟨A',c',e',hs,_,h3⟩:=h.sl;simp only[Value.slice.injEq] at e';obtain ⟨rfl,_,rfl⟩:=e';rcases h3 with h0|⟨g,h0,hg⟩
 ·rw[h0] at ha;cases ha
 ·rw[h0] at ha;cases ha;simp only at e;omega
end
theorem wnew_any(w:World):Calls Tryz.prog 29 #[] w fun e w'=>∃ B,e=.returned (.pointer (some ⟨B,0,none⟩))/\KpW w' B 0 ksZ []/\w.heap.size<=B/\Below w.heap.size w w':=by
 refine (pnew_any (fun _=>0) 1 w).mono ?_
 rintro e w' ⟨B,T',rfl,hp,hn⟩;refine ⟨B,rfl,hp.kw,?_,hn.below⟩;rcases Nat.lt_or_ge B w.heap.size with h|h
 ·have h1:=hn.tag B h
  rw[hp.tg] at h1;omega
 ·exact h
theorem wcr_any(B:Nat)(K:Ks)(m:Bf)(w:World)(h:KpW w B ko kR K):
  Calls Tryz.prog 135 #[.pointer (some ⟨B,ko,none⟩),.agg (ba 32 m)] w fun e w'=>e=.returned (.tuple #[.int .i64 (crN K),.int .i64 (crE K)])/\KpW w' B ko kR (crK K m)/\Chg B w w':=by
 refine (pcr_any _ 1 B K m w h.one).mono ?_;rintro e w' ⟨rfl,T',hp,hf⟩;exact ⟨rfl,hp.kw,hf.chg⟩
theorem wrt_any(B:Nat)(K:Ks)(id:Int)(m:Bf)(w:World)(h:KpW w B ko kR K):
  Calls Tryz.prog 137 #[.pointer (some ⟨B,ko,none⟩),.int .i64 id,.agg (ba 32 m)] w fun e w'=>e=.returned (.tuple #[.int .i64 (rtN K id),.int .i64 (rtE K id)])/\KpW w' B ko kR (rtK K id m)/\Chg B w w':=by
 refine (prt_any _ 1 B K id m w h.one).mono ?_;rintro e w' ⟨rfl,T',hp,hf⟩;exact ⟨rfl,hp.kw,hf.chg⟩
theorem wus_any(B:Nat)(K:Ks)(id:Int)(w:World)(h:KpW w B ko kR K):
  Calls Tryz.prog 184 #[.pointer (some ⟨B,ko,none⟩),.int .i64 id] w fun e w'=>e=.returned (.tuple #[.int .i64 (usV K id),.int .i64 (usC K id),.agg (ba 32 (usM K id)),.int .i64 (usE K id)])/\KpW w' B ko kR (usK K id)/\Chg B w w':=by
 refine (pus_any _ 1 B K id w h.one).mono ?_;rintro e w' ⟨rfl,T',hp,hf⟩;exact ⟨rfl,hp.kw,hf.chg⟩
theorem wmt_any(B:Nat)(K:Ks)(id ver:Int)(w:World)(h:KpW w B ko kR K):
  Calls Tryz.prog 222 #[.pointer (some ⟨B,ko,none⟩),.int .i64 id,.int .i64 ver] w fun e w'=>e=.returned (.tuple #[.agg (ba 32 (mtM K id ver)),.int .i64 (mtE K id ver)])/\Below w.heap.size w w':=pmt_any _ 1 B K id ver w h.one
variable {ko:Nat} {kR:Array Value}
theorem wsw_any(B:Nat)(K:Ks)(id:Int)(on:Bool)(w:World)(h:KpW w B ko kR K):
  Calls Tryz.prog 138 #[.pointer (some ⟨B,ko,none⟩),.int .i64 id,.bool on] w fun e w'=>e=.returned (.int .i64 (swE K id))/\KpW w' B ko kR (swK K id on)/\Chg B w w':=by
 refine (psw_any _ 1 B K id on w h.one).mono ?_;rintro e w' ⟨rfl,T',hp,hf⟩;exact ⟨rfl,hp.kw,hf.chg⟩
theorem wds_any(B:Nat)(K:Ks)(id ver:Int)(w:World)(h:KpW w B ko kR K):
  Calls Tryz.prog 139 #[.pointer (some ⟨B,ko,none⟩),.int .i64 id,.int .i64 ver] w fun e w'=>e=.returned (.int .i64 (dsE K id ver))/\KpW w' B ko kR (dsK K id ver)/\Chg B w w':=by
 refine (pds_any _ 1 B K id ver w h.one).mono ?_;rintro e w' ⟨rfl,T',hp,hf⟩;exact ⟨rfl,hp.kw,hf.chg⟩
theorem pbl_any(i v:Nat)(n:Bf)(b:Bf)(L c:Nat)(A:Option Addr)(w:World)(hi:i<9223372036854775808)(hv:v<9223372036854775808)(hb:Sl w w.heap.size A L c b)(hL:L<=1099511627776):
  Calls Tryz.prog 186 #[.int .i64 i,.int .i64 v,.agg (ba 12 n),.slice A L c] w fun e w'=>∃ r,e=.returned r/\Own w' w.heap.size 5 r (blL i v L) (blF i v n b)/\Below w.heap.size w w':=by
 obtain ⟨w0,hw0⟩:∃ w0,w0=w.alloc (.cells (ba 12 n) 217):=⟨_,rfl⟩;have q0:row w0 w.heap.size=some (ba 12 n):=by rw[hw0];exact zA _ _ _ _ rfl
 have B0:=Lib.hid (show Below w.heap.size w w0 by rw[hw0];exact (Below.refl w.heap.size w).alloc (by simp) _)
 have HSB:=Lib.hid hb;have HW0:=Lib.hid hw0;obtain ⟨G,hG⟩:∃ G,G=w.heap.size:=⟨_,rfl⟩;have HG:=Lib.hid hG;rw[<-hG] at q0;clear hb hw0 hG;go_enter Tryz.func186,Tryz.ntmps186;go_wp2_with fail;rw[<-HW0.out,<-HG.out];refine (put_any i 0 0 none nF w0 (Sl.nothing _ _ _ _ _) (by omega) hi).mono ?_
 rintro e w1 ⟨v1,rfl,ho1,hb1⟩;rw[yH,Nat.zero_add] at ho1;obtain ⟨A1,c1,rfl,h1,-,-⟩:=ho1.sl;have q1:=zD hb1 q0;have B1:=Lib.hid (onto B0.out B0.out.size hb1);have S1:=Lib.hid h1;clear ho1 h1 hb1 q0 B0 HW0;go_wp2_with fail;have hle:=encL_le i;refine (put_any v (encL i) c1 A1 (encF i) w1 S1.out (by omega) hv).mono ?_
 rintro e w2 ⟨v2,rfl,ho2,hb2⟩;obtain ⟨A2,c2,rfl,h2,-,-⟩:=ho2.sl;have q2:=zD hb2 q1;have B2:=Lib.hid (onto B1.out B1.out.size hb2);have S2:=Lib.hid (show Sl w2 w2.heap.size A2 (hdL i v) c2 (hdF i v) from h2)
 rw[show encL i+encL v=hdL i v from rfl]
 obtain ⟨N,hN⟩:∃ N,N=hdL i v:=⟨_,rfl⟩;have hN18:N<=18:=by rw[hN];exact (hdL_le i v).2
 rw[<-hN] at S2 ⊢;have HN:=Lib.hid hN;clear ho2 h2 hb2 q1 B1 S1 hle hN;have sA:=non_sl_a G w2;go_wp2_with fail;obtain ⟨w3,hw3⟩:∃ w3,w3=w2.alloc (.cells #[.slice A2 N c2,.slice (some ⟨G,0,none⟩) 12 12,.slice A L c] 22):=⟨_,rfl⟩;have b3:Below w2.heap.size w2 w3:=by rw[hw3];exact (Below.refl _ _).alloc (Nat.le_refl _) _
 have r3:row w3 w2.heap.size=some #[.slice A2 N c2,.slice (some ⟨G,0,none⟩) 12 12,.slice A L c]:=by rw[hw3];exact zA _ _ _ _ rfl
 have q3:=zD b3 q2;have B3:=Lib.hid (onto B2.out B2.out.size b3);have T3:=(S2.out.below b3).more b3.size;have HB3:=(HSB.out.below B3.out).more B3.out.size;rw[<-hw3];clear hw3 q2 B2 S2 sA b3;refine (concat3_any w2.heap.size 3 w3 r3 T3 (Sl.of_row q3 w3.heap.size (zK q3)) HB3 (by omega)).mono ?_
 rintro e w4 ⟨r,rfl,ho,hb4⟩
 have O4:=Lib.hid (show Own w4 w.heap.size 5 r (blL i v L) (blF i v n b) by
  have:=ho.base B3.out.size;rw[HN.out] at this;unfold blF blL
  exact this)
 have B4:=Lib.hid (onto B3.out B3.out.size hb4);clear ho hb4 r3 q3 T3 HB3 B3;go_wp2;go_ret;exact ⟨_,rfl,O4.out,B4.out⟩
def tnB(n:Nat)(f:Bf):Bool:=decide (tkE n f=0/\1<=tkV f)
def tnP(n:Nat)(f:Bf)(w:World)(e:Ending)(w':World):Prop:=
 (tnB n f=false/\e=.returned (.tuple #[.int .i64 0,.slice none 0 0,.int .i64 140])/\Below w.heap.size w w')\/
 (tnB n f=true/\∃ A c,e=.returned (.tuple #[.int .i64 (tkV f:Nat),.slice A (n-tkL f) c,.int .i64 0])/\Sl w' w'.heap.size A (n-tkL f) c (offF f (tkL f))/\(∀ B,B<w.heap.size->Off B (n-tkL f) A)/\Below w.heap.size w w')
theorem tnB_iff{n:Nat}{f:Bf}:tnB n f=true↔tkE n f=0/\1<=tkV f:=by unfold tnB;rw[decide_eq_true_eq]
theorem tnB_no{n:Nat}{f:Bf}:tnB n f=false↔¬ (tkE n f=0/\1<=tkV f):=by unfold tnB;rw[decide_eq_false_iff_not]
theorem ptn_any(n c:Nat)(A:Option Addr)(f:Bf)(w:World)(hs:Sl w w.heap.size A n c f)(hn:n<=140737488355328):
  Calls Tryz.prog 252 #[.slice A n c] w (tnP n f w):=by
 have H0:=Lib.hid (take_num n c A f w hs hn);clear hs;go_enter Tryz.func252,Tryz.ntmps252;go_wp2_with fail;refine H0.out.mono ?_;rintro e w1 (⟨hz,rfl,hb⟩|⟨hz,v,rfl,ho,hb⟩)
 ·have HZ:=Lib.hid ((tnB_no (n:=n) (f:=f)).2 fun h=>hz h.1)
  have HB:=Lib.hid hb;obtain ⟨E,hE⟩:∃ E,E=tkE n f:=⟨_,rfl⟩;rw[<-hE] at hz ⊢;have hne:((E:Int) !=0)=true:=by simp;omega
  clear hb hE hz H0;go_wp2_with fail;exact bodyPost_ret (v:=.tuple #[.int .i64 0,.slice none 0 0,.int .i64 140]) (by simp[results,Tryz.results252,go_sem]) rfl (.inl ⟨HZ.out,rfl,HB.out⟩)
 ·obtain ⟨A1,c1,rfl,h1,-,-⟩:=ho.sl
  have S1:=Lib.hid h1;have HF:=Lib.hid (fun B (hB:B<w.heap.size)=>Off.own ho hB)
  have HB:=Lib.hid hb;have HZ:=Lib.hid hz;obtain ⟨V,hV⟩:∃ V,V=tkV f:=⟨_,rfl⟩;rw[<-hV];have HV:=Lib.hid hV;clear hb hV hz H0 ho h1
  by_cases h1:V<1
  ·have hd:decide ((V:Int)<1)=true:=by simp;omega
   have HN:=Lib.hid ((tnB_no (n:=n) (f:=f)).2 fun h=>by have:=HV.out;have:=h.2;omega)
   go_wp2_with fail;exact bodyPost_ret (v:=.tuple #[.int .i64 0,.slice none 0 0,.int .i64 140]) (by simp[results,Tryz.results252,go_sem]) rfl (.inl ⟨HN.out,rfl,HB.out⟩)
  ·have hd:decide ((V:Int)<1)=false:=by simp;omega
   have HN:=Lib.hid ((tnB_iff (n:=n) (f:=f)).2 ⟨HZ.out,by have:=HV.out;omega⟩)
   go_wp2_with fail;exact bodyPost_ret (v:=.tuple #[.int .i64 V,.slice A1 (n-tkL f) c1,.int .i64 0]) (by simp[results,Tryz.results252,go_sem]) rfl (.inr ⟨HN.out,A1,c1,by rw[HV.out],S1.out,HF.out,HB.out⟩)
theorem res_rd{P:Program}{fn:Func}{p q r u v:Tmp}{ty:TypeId}(h:fn.results=#[.tmp p,.tmp q,.cell r ty,.tmp u,.tmp v])(tmps:Array Value)(w:World)(b:Nat)(c:Array Value)(d:TypeDesc)
  (hp:tmps.getD r undef=.pointer (some ⟨b,0,none⟩)) (hr:row w b=some c) (hu:P.underlying ty=some d) (hd:d.isRow=true) (hi:(P.info? ty).map (·.size)=some c.size):
  (results fn tmps).run P w=.ok (.tuple #[tmps.getD p undef,tmps.getD q undef,.agg c,tmps.getD u undef,tmps.getD v undef]) w:=by
 have hp2:tmps[r]?.getD undef=.pointer (some ⟨b,0,none⟩):=by simpa using hp
 simp only[results,h];simp[hp2,asAddr,ld_rowV hr hu hd hi]
theorem Off.cutK{B n c k:Nat}{A:Option Addr}(h:Off B n A)(hk:k<n)(hnc:n<=c):Off B (n-k) (cutA A c k):=fun hn a ha=>by
 unfold cutA at ha;rw[if_neg (by omega)] at ha
 cases A with
 |none=>cases ha
 |some x=>
  have:=h (by omega) x rfl
  simp only[Option.map_some,Option.some.injEq] at ha;subst ha;cases x;simp only[Addr.add] at this ⊢
  split<;>exact this
theorem prd_any(n c:Nat)(A:Option Addr)(f:Bf)(w:World)(hs:Sl w w.heap.size A n c f)(hn:n<=140737488355328):
  Calls Tryz.prog 221 #[.slice A n c] w fun e w'=>∃ A' c',e=.returned (.tuple #[.int .i64 (rdI n f),.int .i64 (rdV n f),.agg (ba 12 (rdN n f)),.slice A' (rdL n f) c',.int .i64 (rdE n f)])/\Sl w' w'.heap.size A' (rdL n f) c' (rdF f)/\(∀ B,B<w.heap.size->Off B (rdL n f) A')/\Below w.heap.size w w':=by
 have hno:rdB n f=false->∀ (tm:Array Value),tm.getD 2 undef=.int .i64 0->tm.getD 3 undef=.int .i64 0->tm.getD 4 undef=.pointer (some ⟨w.heap.size,0,none⟩)->tm.getD 5 undef=.slice none 0 0->tm.getD 6 undef=.int .i64 140->∀ (w2:World),Below w.heap.size w w2->row w2 w.heap.size=some (ba 12 fun _=>0#8)->
   bodyPost Tryz.prog Tryz.f221 (fun e w'=>∃ A' c',e=.returned (.tuple #[.int .i64 (rdI n f),.int .i64 (rdV n f),.agg (ba 12 (rdN n f)),.slice A' (rdL n f) c',.int .i64 (rdE n f)])/\Sl w' w'.heap.size A' (rdL n f) c' (rdF f)/\(∀ B,B<w.heap.size->Off B (rdL n f) A')/\Below w.heap.size w w') .ret { tmps:=tm,defers:=[] } w2:=by
  intro hB tm e2 e3 e4 e5 e6 w2 hb q2;refine bodyPost_ret (v:=.tuple #[.int .i64 0,.int .i64 0,.agg (ba 12 fun _=>0#8),.slice none 0 0,.int .i64 140]) ?_ rfl ⟨none,0,?_,by rw[rdL_no hB];exact Sl.nothing _ _ _ _ _,fun B _=>by rw[rdL_no hB];exact Off.of_zero,hb⟩
  ·have hr:=res_rd (P:=Tryz.prog) (fn:=Tryz.f221) (p:=2) (q:=3) (r:=4) (u:=5) (v:=6) rfl tm w2 w.heap.size (ba 12 fun _=>0#8) _ e4 q2 non_u rfl (by rw[zI];exact non_i)
   rw[e2,e3,e5,e6] at hr;exact hr
  ·rw[rdI_no hB,rdV_no hB,rdN_no hB,rdL_no hB,rdE_no hB]
 have HNO:=Lib.hid hno;clear hno;obtain ⟨w0,hw0⟩:∃ w0,w0=w.alloc (.cells (ba 12 fun _=>0#8) 217):=⟨_,rfl⟩
 have q0:row w0 w.heap.size=some (ba 12 fun _=>0#8):=by rw[hw0];exact zA _ _ _ _ rfl
 have b0:Below w.heap.size w w0:=by rw[hw0];exact (Below.refl w.heap.size w).alloc (by simp) _
 have B0:=Lib.hid b0;have H0:=Lib.hid (ptn_any n c A f w0 ((hs.below b0).more b0.size) hn);have HW0:=Lib.hid hw0;clear hs hw0 b0;go_enter Tryz.func221,Tryz.ntmps221;go_wp2_with fail;rw[<-HW0.out];refine H0.out.mono ?_;rintro e w1 (⟨hz,rfl,hb⟩|⟨hz,A1,c1,rfl,h1,ho,hb⟩)
 ·have HZ:=Lib.hid (show rdB n f=false by
   rw[Bool.eq_false_iff];intro h;have:=rdB_iff.1 h;exact tnB_no.1 hz ⟨this.1,this.2.1⟩)
  have q1:=zD hb q0;have B1:=Lib.hid (onto B0.out B0.out.size hb);have HS1:=Lib.hid (yF q1);clear H0 hz hb q0 B0 HW0;go_wp2_with fail;exact HNO.out HZ.out _ rfl rfl rfl rfl rfl _ (zG B1.out (Nat.le_refl _) _) (zE q1 _)
 ·have HZ:=Lib.hid hz
  have q1:=zD hb q0;have B1:=Lib.hid (onto B0.out B0.out.size hb);obtain ⟨m,hm⟩:∃ m,m=n-tkL f:=⟨_,rfl⟩;obtain ⟨g,hg⟩:∃ g,g=offF f (tkL f):=⟨_,rfl⟩;have hmn:m<=140737488355328:=by omega
  rw[<-hm,<-hg] at h1;rw[<-hm];have H1:=Lib.hid (ptn_any m c1 A1 g w1 h1 hmn);have HM:=Lib.hid hm;have HG:=Lib.hid hg;have HL:=Lib.hid h1.le;obtain ⟨V,hV⟩:∃ V,V=tkV f:=⟨_,rfl⟩;rw[<-hV];have HV:=Lib.hid hV;clear H0 hz hb q0 B0 HW0 h1 ho hm hg hV;go_wp2_with fail;refine H1.out.mono ?_;rintro e w2 (⟨hz,rfl,hb⟩|⟨hz,A2,c2,rfl,h2,ho,hb⟩)
  ·have HZ2:=Lib.hid (show rdB n f=false by
    rw[Bool.eq_false_iff];intro h;have:=rdB_iff.1 h;refine tnB_no.1 hz ⟨?_,?_⟩
    ·rw[HM.out,HG.out];exact this.2.2.1
    ·rw[HG.out];exact this.2.2.2.1)
   have q2:=zD hb q1;have B2:=Lib.hid (onto B1.out B1.out.size hb);clear H1 hz hb q1 B1;go_wp2_with fail;exact HNO.out HZ2.out _ rfl rfl rfl rfl rfl _ (zG B2.out (Nat.le_refl _) _) (zE q2 _)
  ·have q2:=zD hb q1
   have B2:=Lib.hid (onto B1.out B1.out.size hb);obtain ⟨k,hk⟩:∃ k,k=m-tkL g:=⟨_,rfl⟩;obtain ⟨h,hh⟩:∃ h,h=offF g (tkL g):=⟨_,rfl⟩;rw[<-hk,<-hh] at h2;rw[<-hk] at ho ⊢;obtain ⟨U,hU⟩:∃ U,U=tkV g:=⟨_,rfl⟩;rw[<-hU];have HU:=Lib.hid hU;have HK:=Lib.hid hk;have HH:=Lib.hid hh;have S2:=Lib.hid h2;have hsz:=B1.out.size;have HO:=Lib.hid (show ∀ B,B<w.heap.size->Off B k A2 from fun B hB=>ho B (by omega))
   have HO2:=Lib.hid (ho w.heap.size (zK q1));have HZ2:=Lib.hid hz
   have HB:=Lib.hid (show rdB n f=decide (28<=k/\k<=92) by
    have h1:=tnB_iff.1 HZ.out;have h2:=tnB_iff.1 HZ2.out;rw[HM.out,HG.out] at h2;have e:k=n-tkL f-tkL (rdR f):=by rw[HK.out,HM.out,HG.out];rfl
    unfold rdB;congr 1;apply propext;rw[e]
    exact ⟨fun h=>h.2.2.2.2,fun h=>⟨h1.1,h1.2,h2.1,h2.2,h⟩⟩)
   have hkb:k<=140737488355328:=by omega
   clear H1 hz hb q1 B1 h2 ho hk hh hU hsz HL
   by_cases hlo:k<28
   ·have HZ3:=Lib.hid (show rdB n f=false by rw[HB.out];simp;omega)
    have hd:decide ((k:Int)-12<16)=true:=by simp;omega
    clear hlo;go_wp2_with fail;exact HNO.out HZ3.out _ rfl rfl rfl rfl rfl _ (zG B2.out (Nat.le_refl _) _) (zE q2 _)
   ·have hd:decide ((k:Int)-12<16)=false:=by simp;omega
    by_cases hhi:92<k
    ·have HZ3:=Lib.hid (show rdB n f=false by rw[HB.out];simp;omega)
     have hd2:decide ((80:Int)<(k:Int)-12)=true:=by simp;omega
     clear hlo hhi;go_wp2_with fail;exact HNO.out HZ3.out _ rfl rfl rfl rfl rfl _ (zG B2.out (Nat.le_refl _) _) (zE q2 _)
    ·have hd2:decide ((80:Int)<(k:Int)-12)=false:=by simp;omega
     have HZ3:=Lib.hid (show rdB n f=true by rw[HB.out];simp;omega)
     have h28:28<=k:=by omega
     clear hlo hhi;have sA:=non_sl_a w.heap.size w2;go_wp2_with (refine wpl_copy rfl (.tmp 40) (.tmp 41) 22 22 5 rfl zZ u8_i q2 S2.out (show 12=min k 12 by omega) rfl rfl ?_)
     have eN:ba 12 (putF (fun _=>0#8) 0 12 h)=ba 12 (rdN n f):=xA fun i hi=>by
      rw[rdN_ok HZ3.out,HH.out,HG.out,yY];unfold putF rdO rdR;rw[if_pos (by omega),Nat.sub_zero]
     have eF:offF h 12=rdF f:=by
      rw[HH.out,HG.out,yY,yY];unfold rdF rdO rdR;rfl
     have eL:k-12=rdL n f:=by rw[rdL_ok HZ3.out,HK.out,HM.out,HG.out];rfl
     have q3:=zE q2 (ba 12 (putF (fun _=>0#8) 0 12 h))
     have ch:Chg w.heap.size w2 (w2.setRow w.heap.size (ba 12 (putF (fun _=>0#8) 0 12 h))):=⟨rfl,rfl,rfl,by simp,fun i _ hB=>setRow_other w2 _ i _ hB⟩
     have S3:=ch.sl_up S2.out HO2.out;have B3:=Lib.hid (zG B2.out (Nat.le_refl w.heap.size) (ba 12 (putF (fun _=>0#8) 0 12 h)))
     rw[eN] at q3 S3 B3 ⊢;have T3:=Lib.hid (S3.from_ 12 (by omega))
     have HOC:=Lib.hid (show ∀ B,B<w.heap.size->Off B (k-12) (cutA A2 c2 12) from fun B hB=>(HO.out B hB).cutK (by omega) S2.out.le)
     rw[eF] at T3;have fr:=xE zZ u8_i A2 k c2 12 (by omega:12<=k)
     rw[show ((12:Nat):Int)=12 from rfl] at fr
     rw[eL] at T3 HOC fr;have HF:=Lib.hid fr;clear S2 S3 q2 B2 ch eN eF eL sA hkb hd hd2 h28 hmn fr;generalize w2.setRow w.heap.size (ba 12 (rdN n f))=w3 at q3 B3 T3 ⊢;obtain ⟨AC,hAC⟩:∃ a,a=cutA A2 c2 12:=⟨_,rfl⟩;obtain ⟨L,hL⟩:∃ a,a=rdL n f:=⟨_,rfl⟩;obtain ⟨N,hN⟩:∃ a,a=rdN n f:=⟨_,rfl⟩;rw[<-hAC,<-hL] at T3 HOC HF;rw[<-hN] at q3;have HL:=Lib.hid hL;have HN:=Lib.hid hN;clear hAC hL hN;have frr:=HF.out;simp only[Act.put,List.setIfInBounds_toArray,List.set_cons_succ,List.set_cons_zero];refine yE [([0,1,2,3,4,5,6],7,false)] [8,9] (by kernel_rfl) (by kernel_rfl) (fun _ _ _ _ _ h=>h) fun X=>?_
     have q4:=After.row q3 X;have B4:=Lib.hid (onto B3.out B3.out.size X.below);have T4:=Lib.hid ((T3.out.below X.below).more X.below.size);clear q3 B3 T3;generalize X.val=w4 at q4 B4 T4 ⊢;clear X;have k4:=After.row q4;simp only[wpFs,pk,List.getElem?_cons_zero,List.getElem?_cons_succ]
     repeat (go_big_quiet_step (fail))
     refine wpQuiet_nil ?_;clear k4;have e4:w4.setRow w.heap.size (ba 12 N)=w4:=yF q4;go_wp2_with fail;clear e4;refine ⟨.inr (Below.refl _ _),?_⟩;show wpQuiet _ _ _ _ _ _
     repeat (go_big_quiet_step (fail))
     refine wpQuiet_nil ?_;go_wp2;have e1:(V:Int)=rdI n f:=by rw[rdI_ok HZ3.out,HV.out]
     have e2:(U:Int)=rdV n f:=by rw[rdV_ok HZ3.out,HU.out,HG.out];rfl
     refine bodyPost_ret (v:=.tuple #[.int .i64 V,.int .i64 U,.agg (ba 12 N),.slice AC L (c2-12),.int .i64 0]) ?_ rfl ⟨AC,c2-12,?_,?_,?_,B4.out⟩
     ·exact res_rd (P:=Tryz.prog) (fn:=Tryz.f221) (p:=2) (q:=3) (r:=4) (u:=5) (v:=6) rfl _ w4 w.heap.size (ba 12 N) _ rfl q4 non_u rfl (by rw[zI];exact non_i)
     ·rw[e1,e2,HN.out,HL.out,rdE_ok HZ3.out]
     ·rw[<-HL.out];exact T4.out
     ·rw[<-HL.out];exact HOC.out
variable {ko:Nat} {kR:Array Value}
theorem pen_any(B:Nat)(K:Ks)(id:Int)(t:Bf)(L cL:Nat)(AL:Option Addr)(s:Bf)(S cS:Nat)(AS:Option Addr)(w:World)(hk:KpW w B ko kR K)(ht:Sl w w.heap.size AL L cL t)(hot:Off B L AL)(hs:Sl w w.heap.size AS S cS s)(hos:Off B S AS):
  Calls Tryz.prog 140 #[.pointer (some ⟨B,ko,none⟩),.int .i64 id,.slice AL L cL,.slice AS S cS] w fun e w'=>∃ v,e=.returned (.tuple #[v,.int .i64 (enV K id L S),.int .i64 (ecE K id L S)])/\Own w' w.heap.size 5 v (enL K id L S) (enF K id t L s S)/\KpW w' B ko kR (enK K id L S)/\Chg B w w':=by
 have HK:=Lib.hid hk;have HT:=Lib.hid ht;have HS:=Lib.hid hs;have HOT:=Lib.hid hot;have HOS:=Lib.hid hos;clear ht hs hot hos hk
 by_cases hlong:64<L\/32<S
 ·obtain ⟨e1,e2,e3,e4⟩:=en_long (K:=K) (id:=id) hlong
  have HE:=Lib.hid e1;have HV:=Lib.hid e2;have HKK:=Lib.hid e3;have HL:=Lib.hid e4
  have hfin:∀ (tm:Array Value),tm.getD 8 undef=.slice none 0 0->tm.getD 9 undef=.int .i64 0->tm.getD 10 undef=.int .i64 2->
    bodyPost Tryz.prog Tryz.f140 (fun e w'=>∃ v,e=.returned (.tuple #[v,.int .i64 (enV K id L S),.int .i64 (ecE K id L S)])/\Own w' w.heap.size 5 v (enL K id L S) (enF K id t L s S)/\KpW w' B ko kR (enK K id L S)/\Chg B w w') .ret { tmps:=tm,defers:=[] } w:=by
   intro tm e8 e9 e10;refine bodyPost_ret (v:=.tuple #[.slice none 0 0,.int .i64 0,.int .i64 2]) ?_ rfl ⟨_,by rw[HE.out,HV.out],by rw[HL.out];exact Own.nil _ _ _ _,by rw[HKK.out];exact HK.out,Chg.refl _ _⟩
   simp at e8 e9 e10;simp[results,Tryz.results140,go_sem,e8,e9,e10]
  have HFIN:=Lib.hid hfin;clear e1 e2 e3 e4 hfin
  by_cases hl:64<L
  ·have hd:decide ((64:Int)<(L:Int))=true:=by simp;omega
   clear hlong hl;go_enter Tryz.func140,Tryz.ntmps140;go_wp2_with fail;exact HFIN.out _ rfl rfl rfl
  ·have hd:decide ((64:Int)<(L:Int))=false:=by simp;omega
   have hd2:decide ((32:Int)<(S:Int))=true:=by simp;omega
   clear hlong hl;go_enter Tryz.func140,Tryz.ntmps140;go_wp2_with fail;exact HFIN.out _ rfl rfl rfl
 ·have hd:decide ((64:Int)<(L:Int))=false:=by simp;omega
  have hd2:decide ((32:Int)<(S:Int))=false:=by simp;omega
  have HNL:=Lib.hid hlong;clear hlong;go_enter Tryz.func140,Tryz.ntmps140;go_wp2_with fail;refine (wus_any B K id w HK.out).mono ?_;rintro e w1 ⟨rfl,hk1,hc1⟩;have hs1:=hc1.size;have HK1:=Lib.hid hk1;have HC1:=Lib.hid hc1;have T1:=Lib.hid (hc1.sl_up HT.out HOT.out);have U1:=Lib.hid (hc1.sl_up HS.out HOS.out);clear hk1 hc1
  by_cases hu:usE K id=0
  ·obtain ⟨i,V,C,rfl,hV,hC,hi1,hi8,hV1,hV4,hC16⟩:=us_nat hu HK.out.ok
   obtain ⟨m,hm⟩:∃ m,m=usM K (i:Int):=⟨_,rfl⟩;have HU:=Lib.hid hu;have HV:=Lib.hid hV;have HC:=Lib.hid hC;have HM:=Lib.hid hm;rw[hV,hC,hu,<-hm];have b2:=(Below.refl w1.heap.size w1).alloc (Nat.le_refl _) (.cells (ba 32 m) 61);have r2:row (w1.alloc (.cells (ba 32 m) 61)) w1.heap.size=some (ba 32 m):=zA _ _ _ _ rfl;have HB2:=Lib.hid b2;clear hu hV hC hm hs1 b2;go_wp2_with fail;generalize w1.alloc (.cells (ba 32 m) 61)=w2 at r2 HB2 ⊢;refine (pnc_any C (by omega) w2).mono ?_
   rintro e w3 ⟨rfl,hb3⟩;obtain ⟨N,hN⟩:∃ N,N=nonC C:=⟨_,rfl⟩;rw[<-hN];have HN:=Lib.hid hN;have b4:=hb3.alloc hb3.size (.cells (ba 12 N) 217);have q2:=zD b4 r2;have q3:row (w3.alloc (.cells (ba 12 N) 217)) w3.heap.size=some (ba 12 N):=zA _ _ _ _ rfl;have B4:=Lib.hid (onto HB2.out HB2.out.size b4);clear hN hb3 b4 r2 HB2;obtain ⟨G,hG⟩:∃ G,G=w3.heap.size:=⟨_,rfl⟩;obtain ⟨H,hH⟩:∃ H,H=w1.heap.size:=⟨_,rfl⟩;rw[<-hG] at q3;rw[<-hH] at q2;have HG:=Lib.hid hG;have HH:=Lib.hid hH;clear hG hH;go_wp2_with fail;rw[<-HG.out,<-HH.out];clear HG HH;generalize w3.alloc (.cells (ba 12 N) 217)=w4 at q2 q3 B4 ⊢;refine yE [([0,1,2,3,4,5,6,9],7,false),([],8,false)] [10,11,12] (by kernel_rfl) (by kernel_rfl) (fun _ _ _ _ _ h=>h) fun X=>?_
   have u2:=zD X.below q2;have u3:=zD X.below q3;have B5:=Lib.hid (onto B4.out B4.out.size X.below);have T5:=Lib.hid ((T1.out.below B5.out).more B5.out.size);have U5:=Lib.hid ((U1.out.below B5.out).more B5.out.size);clear q2 q3 B4 T1 U1;generalize X.val=w5 at u2 u3 B5 T5 U5 ⊢;clear X;have k2:=After.row u2;have k3:=After.row u3;simp only[wpFs,pk,List.getElem?_cons_zero,List.getElem?_cons_succ]
   repeat (go_big_quiet_step (fail))
   refine wpQuiet_nil ?_;clear k2 k3;have hL64:L<=64:=by have:=HNL.out;omega
   have hS32:S<=32:=by have:=HNL.out;omega
   go_wp2_with fail;refine (gseal_any m N s S cS AS t L cL AL w5 U5.out T5.out (by omega) (by omega)).mono ?_
   rintro e w6 ⟨v,rfl,ho,hb6⟩;obtain ⟨A6,c6,rfl,h6,-,-⟩:=ho.sl;have S6:=Lib.hid h6;have B6:=Lib.hid (onto B5.out B5.out.size hb6);have hb6':=Lib.hid hb6;clear ho h6 hb6 u2 u3 T5 U5 B5;go_wp2_with fail;refine ⟨.inr hb6'.out,?_⟩;clear hb6';show wpQuiet _ _ _ _ _ _;refine wpQuiet_nil ?_;go_wp2_with fail;refine (pbl_any i V N (sealF m N s S t L) (L+16) c6 A6 w6 (by omega) (by omega) S6.out (by omega)).mono ?_
   rintro e w7 ⟨v,rfl,ho,hb7⟩;have HO:=Lib.hid ho;have B7:=Lib.hid (onto B6.out B6.out.size hb7);have hb7':=Lib.hid hb7;have hz6:=Lib.hid B6.out.size;clear ho hb7 S6 B6;go_wp2_with fail;refine ⟨.inr hb7'.out,?_⟩;clear hb7';show wpQuiet _ _ _ _ _ _
   repeat (go_big_quiet_step (fail))
   refine wpQuiet_nil ?_;go_wp2;obtain ⟨e1,e2,e3,e4⟩:=en_ok (K:=K) (id:=(i:Int)) HNL.out HU.out;refine bodyPost_ret (v:=.tuple #[v,.int .i64 V,.int .i64 0]) (by simp[results,Tryz.results140,go_sem]) rfl ⟨v,by rw[e1,e2,HV.out],?_,?_,HC1.out.more B7.out⟩
   ·rw[e4,HV.out,Int.toNat_natCast,Int.toNat_natCast]
    refine (HO.out.base (by have:=hz6.out;have:=HC1.out.size;omega)).congr fun k _=>?_
    unfold enF;rw[HV.out,HC.out,<-HM.out,Int.toNat_natCast,Int.toNat_natCast,Int.toNat_natCast,<-HN.out]
   ·rw[e3]
    exact HK1.out.below B7.out
  ·obtain ⟨u,hu2⟩:∃ u,u=usE K id:=⟨_,rfl⟩
   rw[<-hu2] at hu ⊢;have hne:(u==0)=false:=by simpa using hu
   have HU:=Lib.hid hu2;have HN:=Lib.hid hu;have b2:=(Below.refl w1.heap.size w1).alloc (Nat.le_refl _) (.cells (ba 32 (usM K id)) 61);have HB2:=Lib.hid b2;clear hu hu2 b2 hs1;go_wp2_with fail;obtain ⟨e1,e2,e3,e4⟩:=en_no (K:=K) (id:=id) HNL.out (by rw[<-HU.out];exact HN.out)
   refine bodyPost_ret (v:=.tuple #[.slice none 0 0,.int .i64 0,.int .i64 u]) (by simp[results,Tryz.results140,go_sem]) rfl ⟨_,by rw[e1,e2,<-HU.out],by rw[e4];exact Own.nil _ _ _ _,?_,HC1.out.more HB2.out⟩
   rw[e3];exact HK1.out.below HB2.out
variable {ko:Nat} {kR:Array Value}
section
variable {K:Ks} {n:Nat} {f s:Bf} {S:Nat}
theorem dc_long(h:32<S):dcE K n f s S=2:=by unfold dcE;rw[if_pos h]
theorem dc_blob(h:¬ 32<S)(hr:rdB n f=false):dcE K n f s S=140:=by unfold dcE;rw[if_neg h,if_pos hr]
theorem dc_mat(h:¬ 32<S)(hr:rdB n f=true)(hm:mtE K (rdI n f) (rdV n f)≠0):dcE K n f s S=mtE K (rdI n f) (rdV n f):=by unfold dcE;rw[if_neg h,if_neg (by rw[hr];decide),if_neg hm]
theorem dc_op(h:¬ 32<S)(hr:rdB n f=true)(hm:mtE K (rdI n f) (rdV n f)=0):dcE K n f s S=opC (mtM K (rdI n f) (rdV n f)) (rdN n f) s S (rdF f) (rdL n f):=by unfold dcE;rw[if_neg h,if_neg (by rw[hr];decide),if_pos hm]
theorem dcI_no(h:dcE K n f s S≠0):dcI K n f s S=0:=by unfold dcI;rw[if_neg h]
theorem dcL_no(h:dcE K n f s S≠0):dcL K n f s S=0:=by unfold dcL;rw[if_neg h]
theorem dcI_ok(h:dcE K n f s S=0):dcI K n f s S=rdI n f:=by unfold dcI;rw[if_pos h]
theorem dcL_ok(h:dcE K n f s S=0):dcL K n f s S=rdL n f-16:=by unfold dcL;rw[if_pos h]
end
theorem pop_any(B:Nat)(K:Ks)(f:Bf)(n c:Nat)(A:Option Addr)(s:Bf)(S cS:Nat)(AS:Option Addr)(w:World)(hk:KpW w B ko kR K)(hf:Sl w w.heap.size A n c f)(hn:n<=140737488355328)(hs:Sl w w.heap.size AS S cS s):
  Calls Tryz.prog 188 #[.pointer (some ⟨B,ko,none⟩),.slice A n c,.slice AS S cS] w fun e w'=>∃ v,e=.returned (.tuple #[.int .i64 (dcI K n f s S),v,.int .i64 (dcE K n f s S)])/\Own w' w.heap.size 5 v (dcL K n f s S) (dcF K n f)/\Below w.heap.size w w':=by
 have hno:∀ E:Int,dcE K n f s S=E->E≠0->∀ (tm:Array Value),tm.getD 6 undef=.int .i64 0->tm.getD 7 undef=.slice none 0 0->tm.getD 8 undef=.int .i64 E->∀ (w2:World),Below w.heap.size w w2->
   bodyPost Tryz.prog Tryz.f188 (fun e w'=>∃ v,e=.returned (.tuple #[.int .i64 (dcI K n f s S),v,.int .i64 (dcE K n f s S)])/\Own w' w.heap.size 5 v (dcL K n f s S) (dcF K n f)/\Below w.heap.size w w') .ret { tmps:=tm,defers:=[] } w2:=by
  intro E hE h0 tm e6 e7 e8 w2 hb;have hne:dcE K n f s S≠0:=by rw[hE];exact h0
  refine bodyPost_ret (v:=.tuple #[.int .i64 0,.slice none 0 0,.int .i64 E]) ?_ rfl ⟨_,by rw[dcI_no hne,hE],by rw[dcL_no hne];exact Own.nil _ _ _ _,hb⟩
  simp at e6 e7 e8;simp[results,Tryz.results188,go_sem,e6,e7,e8]
 have HNO:=Lib.hid hno;have HK:=Lib.hid hk;have HS:=Lib.hid hs;have HF:=Lib.hid hf;clear hno hk hs hf
 by_cases hlong:32<S
 ·have hd:decide ((32:Int)<(S:Int))=true:=by simp;omega
  have HE:=Lib.hid (dc_long (K:=K) (n:=n) (f:=f) (s:=s) hlong);clear hlong;go_enter Tryz.func188,Tryz.ntmps188;go_wp2_with fail;exact HNO.out 2 HE.out (by decide) _ rfl rfl rfl _ (Below.refl _ _)
 ·have hd:decide ((32:Int)<(S:Int))=false:=by simp;omega
  have HNL:=Lib.hid hlong;clear hlong;go_enter Tryz.func188,Tryz.ntmps188;go_wp2_with fail;refine (prd_any n c A f w HF.out hn).mono ?_;rintro e w1 ⟨A1,c1,rfl,h1,-,hb1⟩;have b2:=hb1.alloc hb1.size (.cells (ba 12 (rdN n f)) 217);have r2:row (w1.alloc (.cells (ba 12 (rdN n f)) 217)) w1.heap.size=some (ba 12 (rdN n f)):=zA _ _ _ _ rfl;have b12:=(Below.refl w1.heap.size w1).alloc (Nat.le_refl _) (.cells (ba 12 (rdN n f)) 217);have S2:=Lib.hid ((h1.below b12).more b12.size);have B2:=Lib.hid b2;clear h1 hb1 b2 b12;rcases rdE_cases (n:=n) (f:=f) with ⟨hE,hB⟩|⟨hE,hB⟩
  ·rw[hE]
   have HB:=Lib.hid hB;clear hB hE;obtain ⟨i,hi⟩:∃ i,i=rdI n f:=⟨_,rfl⟩;obtain ⟨v,hv⟩:∃ i,i=rdV n f:=⟨_,rfl⟩;obtain ⟨L,hL⟩:∃ i,i=rdL n f:=⟨_,rfl⟩;obtain ⟨N,hN⟩:∃ i,i=rdN n f:=⟨_,rfl⟩;have hL80:L<=80:=by rw[hL];exact rdL_le
   rw[<-hL] at S2;rw[<-hi,<-hv,<-hL,<-hN];rw[<-hN] at r2 S2 B2;have HI:=Lib.hid hi;have HV:=Lib.hid hv;have HL:=Lib.hid hL;have HN:=Lib.hid hN;clear hi hv hL hN;obtain ⟨G,hG⟩:∃ G,G=w1.heap.size:=⟨_,rfl⟩;rw[<-hG] at r2;have HG:=Lib.hid hG;clear hG;go_wp2_with fail;rw[<-HG.out];clear HG;generalize w1.alloc (.cells (ba 12 N) 217)=w2 at r2 S2 B2 ⊢;refine (wmt_any B K i v w2 (HK.out.below B2.out)).mono ?_;rintro e w3 ⟨rfl,hb3⟩;obtain ⟨m,hm⟩:∃ m,m=mtM K i v:=⟨_,rfl⟩;rw[<-hm];have HM:=Lib.hid hm;have b4:=hb3.alloc hb3.size (.cells (ba 32 m) 61);have q2:=zD b4 r2;have q3:row (w3.alloc (.cells (ba 32 m) 61)) w3.heap.size=some (ba 32 m):=zA _ _ _ _ rfl;have S4:=Lib.hid ((S2.out.below b4).more b4.size);have B4:=Lib.hid (onto B2.out B2.out.size b4);clear hb3 b4 hm r2 S2 B2;obtain ⟨H,hH⟩:∃ G,G=w3.heap.size:=⟨_,rfl⟩;rw[<-hH] at q3;have HH:=Lib.hid hH;clear hH
   by_cases hme:mtE K i v=0
   ·have HME:=Lib.hid hme
    rw[hme];clear hme;go_wp2_with fail;rw[<-HH.out];clear HH;generalize w3.alloc (.cells (ba 32 m) 61)=w4 at q2 q3 S4 B4 ⊢;refine (gopen_any m N s S cS AS (rdF f) L c1 A1 w4 ((HS.out.below B4.out).more B4.out.size) S4.out (by have:=HNL.out;omega) (by omega)).mono ?_
    rintro e w5 ⟨v5,rfl,ho5,hb5⟩;have HD:=Lib.hid (show dcE K n f s S=opC m N s S (rdF f) L by rw[dc_op HNL.out HB.out (by rw[<-HI.out,<-HV.out];exact HME.out),HM.out,HI.out,HV.out,HN.out,HL.out])
    have B5:=Lib.hid (onto B4.out B4.out.size hb5);have HO:=Lib.hid (ho5.base B4.out.size);obtain ⟨E,hE⟩:∃ E,E=opC m N s S (rdF f) L:=⟨_,rfl⟩;have HE:=Lib.hid hE;rw[<-hE];clear hb5 ho5 hE q2 q3 S4 B4
    by_cases h0:E=0
    ·subst h0
     go_wp2_with fail;have e1:dcE K n f s S=0:=by rw[HD.out,<-HE.out]
     refine bodyPost_ret (v:=.tuple #[.int .i64 i,v5,.int .i64 0]) (by simp[results,Tryz.results188,go_sem]) rfl ⟨v5,by rw[e1,dcI_ok e1,HI.out],?_,B5.out⟩
     have ho:=HO.out;rw[show opL m N s S (rdF f) L=dcL K n f s S by unfold opL;rw[<-HE.out,if_pos rfl,dcL_ok e1,HL.out]] at ho
     refine ho.congr fun k _=>?_
     unfold dcF;rw[HM.out,HI.out,HV.out,HN.out]
    ·have hne:(E==0)=false:=by simpa using h0
     have HE0:=Lib.hid h0;clear h0;go_wp2_with fail;exact HNO.out E (by rw[HD.out,<-HE.out]) HE0.out _ rfl rfl rfl _ B5.out
   ·obtain ⟨E,hE⟩:∃ E,E=mtE K i v:=⟨_,rfl⟩
    rw[<-hE] at hme ⊢;have hne:(E==0)=false:=by simpa using hme
    have HE:=Lib.hid hE;have HE0:=Lib.hid hme;clear hme hE;go_wp2_with fail;exact HNO.out E (by rw[HE.out,dc_mat HNL.out HB.out (by rw[<-HI.out,<-HV.out,<-HE.out];exact HE0.out),HI.out,HV.out]) HE0.out _ rfl rfl rfl _ B4.out
  ·rw[hE]
   have HE:=Lib.hid (dc_blob (K:=K) (s:=s) HNL.out hB);clear hE hB;go_wp2_with fail;exact HNO.out 140 HE.out (by decide) _ rfl rfl rfl _ B2.out
theorem pdc_any(B:Nat)(K:Ks)(f:Bf)(n c:Nat)(A:Option Addr)(s:Bf)(S cS:Nat)(AS:Option Addr)(w:World)(hk:KpW w B ko kR K)(hf:Sl w w.heap.size A n c f)(hn:n<=140737488355328)(hs:Sl w w.heap.size AS S cS s):
  Calls Tryz.prog 141 #[.pointer (some ⟨B,ko,none⟩),.slice A n c,.slice AS S cS] w fun e w'=>∃ v,e=.returned (.tuple #[v,.int .i64 (dcE K n f s S)])/\Own w' w.heap.size 5 v (dcL K n f s S) (dcF K n f)/\Below w.heap.size w w':=by
 have H0:=Lib.hid (pop_any B K f n c A s S cS AS w hk hf hn hs);clear hk hf hs;go_enter Tryz.func141,Tryz.ntmps141;go_wp2_with fail;refine H0.out.mono ?_;rintro e w1 ⟨v,rfl,ho,hb⟩;have HO:=Lib.hid ho;have HB:=Lib.hid hb;clear ho hb H0;obtain ⟨E,hE⟩:∃ E,E=dcE K n f s S:=⟨_,rfl⟩;obtain ⟨I,hI⟩:∃ E,E=dcI K n f s S:=⟨_,rfl⟩;rw[<-hE,<-hI];clear hI;have HE:=Lib.hid hE;clear hE;go_wp2_with fail;exact bodyPost_ret (v:=.tuple #[v,.int .i64 E]) (by simp[results,Tryz.results141,go_sem]) rfl ⟨v,by rw[HE.out],HO.out,HB.out⟩
section
variable {K:Ks} {n:Nat} {f s:Bf} {S:Nat}
theorem rw_no(h:dcE K n f s S≠0):rwE K n f s S=dcE K n f s S/\rwV K n f s S=0/\rwK K n f s S=K/\rwL K n f s S=0:=by
 refine ⟨by unfold rwE;rw[if_neg h],by unfold rwV;rw[if_neg h],by unfold rwK;rw[if_neg h],by unfold rwL;rw[if_neg h]⟩
theorem rw_ok(h:dcE K n f s S=0):rwE K n f s S=ecE K (dcI K n f s S) (dcL K n f s S) S/\rwV K n f s S=enV K (dcI K n f s S) (dcL K n f s S) S/\rwK K n f s S=enK K (dcI K n f s S) (dcL K n f s S) S/\rwL K n f s S=enL K (dcI K n f s S) (dcL K n f s S) S:=by
 refine ⟨by unfold rwE;rw[if_pos h],by unfold rwV;rw[if_pos h],by unfold rwK;rw[if_pos h],by unfold rwL;rw[if_pos h]⟩
end
theorem prw_any(B:Nat)(K:Ks)(f:Bf)(n c:Nat)(A:Option Addr)(s:Bf)(S cS:Nat)(AS:Option Addr)(w:World)(hk:KpW w B ko kR K)(hf:Sl w w.heap.size A n c f)(hn:n<=140737488355328)(hs:Sl w w.heap.size AS S cS s)(hos:Off B S AS):
  Calls Tryz.prog 142 #[.pointer (some ⟨B,ko,none⟩),.slice A n c,.slice AS S cS] w fun e w'=>∃ v,e=.returned (.tuple #[v,.int .i64 (rwV K n f s S),.int .i64 (rwE K n f s S)])/\Own w' w.heap.size 5 v (rwL K n f s S) (rwF K n f s S)/\KpW w' B ko kR (rwK K n f s S)/\Chg B w w':=by
 have H0:=Lib.hid (pop_any B K f n c A s S cS AS w hk hf hn hs);have HK:=Lib.hid hk;have HS:=Lib.hid hs;have HOS:=Lib.hid hos;clear hk hf hs hos;go_enter Tryz.func142,Tryz.ntmps142;go_wp2_with fail;refine H0.out.mono ?_;rintro e w1 ⟨v,rfl,ho,hb⟩;obtain ⟨A1,c1,rfl,h1,-,-⟩:=ho.sl;have HOT:=Lib.hid (Off.own ho HK.out.lt);have T1:=Lib.hid h1;have HB:=Lib.hid hb;clear ho hb H0 h1;obtain ⟨E,hE⟩:∃ E,E=dcE K n f s S:=⟨_,rfl⟩;obtain ⟨I,hI⟩:∃ E,E=dcI K n f s S:=⟨_,rfl⟩;obtain ⟨L,hL⟩:∃ E,E=dcL K n f s S:=⟨_,rfl⟩;rw[<-hL] at T1 HOT;rw[<-hE,<-hI,<-hL];have HE:=Lib.hid hE;have HI:=Lib.hid hI;have HL:=Lib.hid hL;clear hE hI hL
 by_cases h0:E=0
 ·subst h0
  have e0:=HE.out;obtain ⟨e1,e2,e3,e4⟩:=rw_ok e0.symm;rw[<-HI.out,<-HL.out] at e1 e2 e3 e4;have E1:=Lib.hid e1;have E2:=Lib.hid e2;have E3:=Lib.hid e3;have E4:=Lib.hid e4;clear e0 e1 e2 e3 e4;go_wp2_with fail;refine (pen_any B K I (dcF K n f) L c1 A1 s S cS AS w1 (HK.out.below HB.out) T1.out HOT.out ((HS.out.below HB.out).more HB.out.size) HOS.out).mono ?_;rintro e w2 ⟨v,rfl,ho,hk2,hc2⟩;obtain ⟨V,hV⟩:∃ E,E=enV K I L S:=⟨_,rfl⟩;obtain ⟨E,hE⟩:∃ E,E=ecE K I L S:=⟨_,rfl⟩;rw[<-hV,<-hE];have HO:=Lib.hid (ho.base HB.out.size);have HK2:=Lib.hid hk2;have HC2:=Lib.hid ((Chg.of HB.out).trans hc2);have HVV:=Lib.hid hV;have HEE:=Lib.hid hE;clear ho hk2 hc2 hV hE;go_wp2_with fail;refine bodyPost_ret (v:=.tuple #[v,.int .i64 V,.int .i64 E]) (by simp[results,Tryz.results142,go_sem]) rfl ⟨v,by rw[E1.out,E2.out,HVV.out,HEE.out],?_,by rw[E3.out];exact HK2.out,HC2.out⟩
  rw[E4.out];refine HO.out.congr fun k _=>?_
  unfold rwF;rw[<-HI.out,<-HL.out]
 ·have hne:(E==0)=false:=by simpa using h0
  have HN:=Lib.hid h0;clear h0;go_wp2_with fail;obtain ⟨e1,e2,e3,e4⟩:=rw_no (K:=K) (n:=n) (f:=f) (s:=s) (S:=S) (by rw[<-HE.out];exact HN.out)
  exact bodyPost_ret (v:=.tuple #[.slice none 0 0,.int .i64 0,.int .i64 E]) (by simp[results,Tryz.results142,go_sem]) rfl ⟨_,by rw[e1,e2,<-HE.out],by rw[e4];exact Own.nil _ _ _ _,by rw[e3];exact HK.out.below HB.out,Chg.of HB.out⟩
section
variable {n n':Bf} (h:∀ k,k<12->n k=n' k)
include h
theorem ctrF_cong(c:Nat):ctrF n c=ctrF n' c:=by
 funext k;unfold ctrF
 by_cases hk:k<12
 ·rw[if_pos hk,if_pos hk,h k hk]
 ·rw[if_neg hk,if_neg hk]
theorem xorS_cong(k:Bf)(f:Nat)(b:Bf):xorS k n f b=xorS k n' f b:=by
 funext i;unfold xorS;rw[ctrF_cong h]
theorem tagF_cong(k s:Bf)(ns:Nat)(b:Bf)(nb:Nat):tagF k n s ns b nb=tagF k n' s ns b nb:=by
 unfold tagF;rw[ctrF_cong h]
theorem opC_cong(k s:Bf)(ns:Nat)(b:Bf)(L:Nat):opC k n s ns b L=opC k n' s ns b L:=by
 unfold opC;rw[tagF_cong h]
end
section
variable {K:Ks} {i v L S:Nat} {n b s:Bf} (hi:i<9223372036854775808) (hv:v<9223372036854775808) (h1:1<=i) (h2:1<=v) (h3:16<=L) (h4:L<=80) (hS:S<=32)
include hi hv h1 h2 h3 h4 hS
theorem dc_gen:dcE K (blL i v L) (blF i v n b) s S=if mtE K i v=0 then opC (mtM K i v) n s S b L else mtE K i v:=by
 obtain ⟨hB,e1,e2,e3,e4,e5⟩:=bl_ok (n:=n) (b:=b) hi hv h1 h2 h3 h4
 by_cases hm:mtE K i v=0
 ·rw[if_pos hm,dc_op (by omega) hB (by rw[e1,e2];exact hm),e1,e2,e3,e5,opC_cong e4]
 ·rw[if_neg hm,dc_mat (by omega) hB (by rw[e1,e2];exact hm),e1,e2]
omit hS in
theorem dcF_gen:dcF K (blL i v L) (blF i v n b)=xorS (mtM K i v) n 2 b:=by
 obtain ⟨hB,e1,e2,e3,e4,e5⟩:=bl_ok (n:=n) (b:=b) hi hv h1 h2 h3 h4;unfold dcF;rw[e1,e2,e5,xorS_cong e4]
omit hS in
theorem dcI_gen(h:dcE K (blL i v L) (blF i v n b) s S=0):dcI K (blL i v L) (blF i v n b) s S=i:=by
 obtain ⟨hB,e1,e2,e3,e4,e5⟩:=bl_ok (n:=n) (b:=b) hi hv h1 h2 h3 h4;rw[dcI_ok h,e1]
omit hS in
theorem dcL_gen(h:dcE K (blL i v L) (blF i v n b) s S=0):dcL K (blL i v L) (blF i v n b) s S=L-16:=by
 obtain ⟨hB,e1,e2,e3,e4,e5⟩:=bl_ok (n:=n) (b:=b) hi hv h1 h2 h3 h4;rw[dcL_ok h,e3]
end
theorem dc_back{K:Ks}{i v L S:Nat}{n t s m:Bf}(hi:i<9223372036854775808)(hv:v<9223372036854775808)(h1:1<=i)(h2:1<=v)(hL:L<=64)(hS:S<=32)(hE:mtE K i v=0)(hM:mtM K i v=m):
  dcE K (blL i v (L+16)) (blF i v n (sealF m n s S t L)) s S=0/\dcI K (blL i v (L+16)) (blF i v n (sealF m n s S t L)) s S=i/\dcL K (blL i v (L+16)) (blF i v n (sealF m n s S t L)) s S=L/\
   ∀ k,k<L->dcF K (blL i v (L+16)) (blF i v n (sealF m n s S t L)) k=t k:=by
 have e:dcE K (blL i v (L+16)) (blF i v n (sealF m n s S t L)) s S=0:=by
  rw[dc_gen hi hv h1 h2 (by omega) (by omega) hS,if_pos hE,hM,opC_back]
 refine ⟨e,dcI_gen hi hv h1 h2 (by omega) (by omega) e,by rw[dcL_gen hi hv h1 h2 (by omega) (by omega) e,Nat.add_sub_cancel],fun k hk=>?_⟩
 rw[dcF_gen hi hv h1 h2 (by omega) (by omega),hM]
 exact xor_back _ _ _ _ _ _ k hk
section
variable {l:List Ve} {m:Bf} {u:Int}
end
end Go.Proofs.YteffjpdcghlnlaaGreatDoor.Oct
