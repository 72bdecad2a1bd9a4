import Derived.Test.YteffjpdcghlnlaaGreatDoorZfI
set_option linter.unusedVariables false
set_option linter.unusedSimpArgs false
set_option maxHeartbeats 16000000
set_option maxRecDepth 20000
namespace Go.Proofs.YteffjpdcghlnlaaGreatDoor.Oct
open Go.ChangeShapes Go.WideShapes Go.ChangeAt Go.RowKit
theorem pisv_any(v:Ve)(w:World):Calls Tryz.prog 201 #[.agg (veA v)] w fun e w'=>e=.returned (.bool (vB v))/\Below w.heap.size w w':=by
 have hb:∀ z,Below w.heap.size w (w.alloc z):=fun z=>(Below.refl w.heap.size w).alloc (by simp) z
 have HB:=Lib.hid hb;have hV:vB v=(decide (0<=v.u)&&decide (v.u<=16)&&!(v.g&&!eqB 32 v.m (fun _=>0#8))):=rfl
 clear hb;cases hg:v.g<;>cases hz:eqB 32 v.m (fun _=>0#8)<;>cases hu1:decide (0<=v.u)<;>cases hu2:decide (v.u<=16)<;>rw[hg,hz,hu1,hu2] at hV<;>rw[hV]<;>clear hV<;>
 ·go_enter Tryz.func201,Tryz.ntmps201
  go_wp2_with fail;go_ret;exact ⟨rfl,HB.out _⟩
theorem palv1_any(v:Ve)(F:Nat)(w:World)(hF:row w F=some #[.func (.func 201) #[] #[]]):
  Calls Tryz.prog 241 #[.agg (veA v),.pointer (some ⟨F,0,none⟩)] w fun e w'=>e=.returned (.bool (!vB v))/\Below w.heap.size w w':=by
 obtain ⟨w1,hw1⟩:∃ w1,w1=w.alloc (.cells (veA v) 63):=⟨_,rfl⟩;have b1:Below w.heap.size w w1:=by rw[hw1];exact (Below.refl w.heap.size w).alloc (by simp) _
 have r1:row w1 w.heap.size=some (veA v):=by rw[hw1];exact zA _ _ _ _ rfl
 have rF:w1.cell? ⟨F,0,none⟩=some (.func (.func 201) #[] #[]):=by rw[zC (zD b1 hF)];rfl
 have HW1:=Lib.hid hw1;have B1:=Lib.hid b1;rw[hw1] at rF r1;clear hw1 b1 hF;go_enter Tryz.func241,Tryz.ntmps241;go_wp2_with fail;rw[<-HW1.out];refine (pisv_any v w1).mono ?_;rintro e w2 ⟨rfl,hb⟩;have HB:=Lib.hid (onto B1.out B1.out.size hb);obtain ⟨b,hbv⟩:∃ b,b=vB v:=⟨_,rfl⟩;rw[<-hbv];have HV:=Lib.hid hbv;clear hb hbv;go_wp2_with fail;go_ret;rw[HV.out];exact ⟨rfl,HB.out⟩
theorem all_no{l:List Ve}(k:Nat)(hk:k<l.length)(h:vB l[k]=false):l.all vB=false:=by
 cases hq:l.all vB
 ·rfl
 ·have:=List.all_eq_true.1 hq _ (List.getElem_mem hk)
  rw[h] at this;cases this
theorem all_yes{l:List Ve}(h:∀ j (hj:j<l.length),vB l[j]=true):l.all vB=true:=List.all_eq_true.2 fun v hv=>by
 obtain ⟨i,hi,rfl⟩:=List.mem_iff_getElem.1 hv;exact h i hi
theorem allR_no{l:Ks}(k:Nat)(hk:k<l.length)(h:rB l[k]=false):l.all rB=false:=by
 cases hq:l.all rB
 ·rfl
 ·have:=List.all_eq_true.1 hq _ (List.getElem_mem hk)
  rw[h] at this;cases this
theorem allR_yes{l:Ks}(h:∀ j (hj:j<l.length),rB l[j]=true):l.all rB=true:=List.all_eq_true.2 fun v hv=>by
 obtain ⟨i,hi,rfl⟩:=List.mem_iff_getElem.1 hv;exact h i hi
theorem pixv_any(l:List Ve)(s:Value)(F:Nat)(w:World)(hs:VRd w s l)(hl:l.length<=1000000)(hF:row w F=some #[.func (.func 201) #[] #[]]):
  Calls Tryz.prog 269 #[s,.func (.func 241) #[] #[.pointer (some ⟨F,0,none⟩)]] w fun e w'=>∃ r:Int,e=.returned (.int .i64 r)/\((l.all vB=true/\r=-1)\/(l.all vB=false/\0<=r))/\Below w.heap.size w w':=by
 obtain ⟨A,c,rfl,hle,hmx,hnil,hat⟩:=hs.at_;have HAT:=Lib.hid hat;have HF:=Lib.hid hF;obtain ⟨n,hn⟩:∃ n,n=l.length:=⟨_,rfl⟩;have HN:=Lib.hid hn;rw[<-hn] at hle hl ⊢;clear hs hat hnil hF hn;go_enter Tryz.func269,Tryz.ntmps269;go_wp2_with fail;go_loopw [8] (fun iv wr=>∃ i:Nat,i<=n/\iv=.int .i64 i/\Below w.heap.size w wr/\∀ j (hj:j<l.length),j<i->vB l[j]=true) (fun iv _=>n-(intOf iv).toNat)
 case atStart=>exact ⟨0,by omega,rfl,Below.refl _ _,fun j _ hj=>absurd hj (by omega)⟩
 case round=>
  obtain ⟨k,hk,rfl,hb,hall⟩:=hrel;obtain ⟨w1,rfl⟩:∃ w1:World,w1=wr:=⟨_,rfl⟩;have HB:=Lib.hid hb;have HALL:=Lib.hid hall;clear hb hall
  by_cases hlk:k<n
  ·have hkl:k<l.length:=by have:=HN.out;omega
   obtain ⟨g2,o2,rfl,hg2,hc2⟩:=HAT.out (by omega)
   obtain ⟨x,hx⟩:∃ x,x=l[k]:=⟨_,rfl⟩
   have q2:ldR Tryz.prog 63 34 w1 g2 (o2+k*34) (row w1 g2)=.ok (.agg (veA x)) w1:=ver_cells w1 g2 (o2+k*34) x fun j hj=>by
    rw[hx,<-hc2 k j hkl hj];exact HB.out.cell (p:=⟨g2,o2+k*34+j,none⟩) hg2
   have HX:=Lib.hid hx;have HC:=Lib.hid (palv1_any x F w1 (zD HB.out HF.out));obtain ⟨b,hbv⟩:∃ b,b=vB x:=⟨_,rfl⟩;rw[<-hbv] at HC;have HV:=Lib.hid hbv;clear hc2 hx hbv;go_wp2_with fail;refine HC.out.mono ?_;rintro e w2 ⟨rfl,hb2⟩;have B2:=Lib.hid (onto HB.out HB.out.size hb2);clear HC hb2 q2
   cases b with
   |true=>
    go_wp2_with fail;go_roundw
    case rel=>exact ⟨k+1,by omega,by go_num,B2.out,fun j hj hjk=>by
     by_cases hjk2:j<k
     ·exact HALL.out j hj hjk2
     ·obtain rfl:j=k:=by omega
      rw[<-HX.out];exact HV.out.symm⟩
    case measure=>simp[intOf];omega
   |false=>
    have HE:=Lib.hid (all_no k hkl (by rw[<-HX.out];exact HV.out.symm))
    go_wp2_with fail;go_ret;exact ⟨_,rfl,.inr ⟨HE.out,by omega⟩,B2.out⟩
  ·obtain rfl:k=n:=by omega
   have HE:=Lib.hid (all_yes (l:=l) fun j hj=>HALL.out j hj (by have:=HN.out;omega))
   have hd:decide ((k:Int)<(k:Int))=false:=by simp
   go_wp2_with fail;go_ret;exact ⟨_,rfl,.inl ⟨HE.out,rfl⟩,HB.out⟩
theorem pctv_any(l:List Ve)(s:Value)(F:Nat)(w:World)(hs:VRd w s l)(hl:l.length<=1000000)(hF:row w F=some #[.func (.func 201) #[] #[]]):
  Calls Tryz.prog 240 #[s,.func (.func 241) #[] #[.pointer (some ⟨F,0,none⟩)]] w fun e w'=>e=.returned (.bool (!(l.all vB)))/\Below w.heap.size w w':=by
 have H1:=Lib.hid (pixv_any l s F w hs hl hF);obtain ⟨A,c,rfl,-⟩:=hs.at_;obtain ⟨b,hb⟩:∃ b,b=l.all vB:=⟨_,rfl⟩;rw[<-hb] at H1 ⊢;clear hs hF hb;go_enter Tryz.func240,Tryz.ntmps240;go_wp2_with fail;refine H1.out.mono ?_;rintro e w1 ⟨r,rfl,h,hb1⟩;have B1:=Lib.hid hb1;clear H1 hb1;rcases h with ⟨rfl,rfl⟩|⟨rfl,h2⟩
 ·go_wp2_with fail
  go_ret;exact ⟨rfl,B1.out⟩
 ·have hd:decide (0<=r)=true:=by simp;omega
  clear h2;go_wp2_with fail;go_ret;exact ⟨rfl,B1.out⟩
theorem palv_any(l:List Ve)(s:Value)(w:World)(hs:VRd w s l)(hl:l.length<=1000000):
  Calls Tryz.prog 200 #[s,.func (.func 201) #[] #[]] w fun e w'=>e=.returned (.bool (l.all vB))/\Below w.heap.size w w':=by
 obtain ⟨w1,hw1⟩:∃ w1,w1=w.alloc (.cells #[.func (.func 201) #[] #[]] 276):=⟨_,rfl⟩;have b1:Below w.heap.size w w1:=by rw[hw1];exact (Below.refl w.heap.size w).alloc (by simp) _
 have r1:row w1 w.heap.size=some #[.func (.func 201) #[] #[]]:=by rw[hw1];exact zA _ _ _ _ rfl
 have H1:=Lib.hid (pctv_any l s w.heap.size w1 (hs.below b1) hl r1);obtain ⟨A,c,rfl,-⟩:=hs.at_;obtain ⟨b,hb⟩:∃ b,b=l.all vB:=⟨_,rfl⟩;rw[<-hb] at H1 ⊢;have HW1:=Lib.hid hw1;have B1:=Lib.hid b1;clear hs hb hw1 b1 r1;go_enter Tryz.func200,Tryz.ntmps200;go_wp2_with fail;rw[<-HW1.out];refine H1.out.mono ?_;rintro e w2 ⟨rfl,hb2⟩;have B2:=Lib.hid (onto B1.out B1.out.size hb2);clear hb2 H1;go_wp2_with fail;go_ret;exact ⟨by simp,B2.out⟩
theorem pisr_any(o:Bool)(l:List Ve)(A:Option Addr)(c:Nat)(w:World)(hs:VRd w (.slice A l.length c) l)(hl:l.length<=1000000):
  Calls Tryz.prog 159 #[.agg (rgA o (.slice A l.length c))] w fun e w'=>e=.returned (.bool (rB ⟨o,l⟩))/\Below w.heap.size w w':=by
 obtain ⟨w1,hw1⟩:∃ w1,w1=w.alloc (.cells (rgA o (.slice A l.length c)) 59):=⟨_,rfl⟩;have b1:Below w.heap.size w w1:=by rw[hw1];exact (Below.refl w.heap.size w).alloc (by simp) _
 have r1:row w1 w.heap.size=some (rgA o (.slice A l.length c)):=by rw[hw1];exact zA _ _ _ _ rfl
 have c1:w1.cell? ⟨w.heap.size,1,none⟩=some (.slice A l.length c):=rgA_c1 r1;have H1:=Lib.hid (palv_any l _ w1 (hs.below b1) hl);have hV:rB ⟨o,l⟩=(decide (1<=l.length)&&decide (l.length<=4)&&l.all vB):=rfl;obtain ⟨b,hb⟩:∃ b,b=l.all vB:=⟨_,rfl⟩;rw[hV];rw[<-hb] at H1 ⊢;obtain ⟨n,hn⟩:∃ n,n=l.length:=⟨_,rfl⟩;rw[<-hn] at H1 hw1 c1 hl ⊢;have HW1:=Lib.hid hw1;have B1:=Lib.hid b1;rw[hw1] at c1;clear hV hs hb hw1 b1 r1 hn
 by_cases h1:1<=n
 ·have d1:decide ((1:Int)<=(n:Int))=true:=by simp;omega
  have e1:decide (1<=n)=true:=by simpa using h1
  by_cases h4:n<=4
  ·have d4:decide ((n:Int)<=4)=true:=by simp;omega
   have e4:decide (n<=4)=true:=by simpa using h4
   rw[e1,e4];go_enter Tryz.func159,Tryz.ntmps159;go_wp2_with fail;rw[<-HW1.out];refine H1.out.mono ?_;rintro e w2 ⟨rfl,hb2⟩;have B2:=Lib.hid (onto B1.out B1.out.size hb2);clear hb2 H1;go_wp2_with fail;go_ret;exact ⟨by simp,B2.out⟩
  ·have d4:decide ((n:Int)<=4)=false:=by simp;omega
   have e4:decide (n<=4)=false:=by simpa using h4
   rw[e1,e4];go_enter Tryz.func159,Tryz.ntmps159;go_wp2_with fail;rw[<-HW1.out];go_ret;exact ⟨rfl,B1.out⟩
 ·have d1:decide ((1:Int)<=(n:Int))=false:=by simp;omega
  have e1:decide (1<=n)=false:=by simpa using h1
  rw[e1];go_enter Tryz.func159,Tryz.ntmps159;go_wp2_with fail;rw[<-HW1.out];go_ret;exact ⟨rfl,B1.out⟩
theorem run_copyK{P:Program}{w:World}{dT sT ty elem:TypeId}{g o dLen dCap:Nat}{a:Addr}{sLen sCap k:Nat}{cur:Array Value}{cs:List Value}
  (hu:P.underlying dT=some (.slice elem)) (hs:(P.info? elem).map (·.size)=some k) (hr:row w g=some cur) (hn:cs.length=Nat.min sLen dLen*k)
  (hsrc:∀ j v,cs[j]? =some v->w.cell? (a.add j)=some v) (hfit:o+cs.length<=cur.size) (h1:∀ v∈cs,v.oneCell'=true):
  (Builtin.copy_ #[dT,sT] ty #[.slice (some ⟨g,o,none⟩) dLen dCap,.slice (some a) sLen sCap]).run P w=.ok (goInt (Nat.min sLen dLen)) (w.setRow g (spl cur o cs)):=by
 have hl:=run_loadCells_list (P:=P) w a cs hsrc;have hst:=run_stores (P:=P) g o cs 0 cur w hr (by simpa using hfit) h1
 cases hq:P.info? elem with
 |none=>simp[hq] at hs
 |some i=>
  have hi:i.size=k:=by simpa[hq] using hs
  simp[Builtin.copy_,run_underlying hu,Builtin.lenOf,Builtin.firstCells,sizeOf,typeInfo,hq,hi,<-hn,hl,hst]
theorem wpl_copyK{P:Program}{w:World}{ops:Array Oper}{rest:List Oper}{o:Oper}{a:Act}{Q:Exit->Act->World->Prop}(hgd:o.guard=none)(d s:Operand){dT sT u:TypeId}
  (ho:o.op=.call { callee:=.builtin .copy,args:=#[d,s],argTypes:=#[dT,sT] }) (hu:P.underlying dT=some (.slice u)) (hz:(P.info? u).map (·.size)=some 34)
  {g:Nat} {cur:Array Value} (hr:row w g=some cur) (hsz:cur.size=138) {A:Option Addr} {c:Nat} {l:List Ve} (hs:VRd w (.slice A l.length c) l) (h1:1<=l.length) (h4:l.length<=4)
  (hd:a.eval d=.slice (some ⟨g,1,none⟩) 4 4) (hv:a.eval s=.slice A l.length c)
  (h:wpList P ops Q rest (a.put o.dst (.int .i64 (l.length:Int))) (w.setRow g (spl cur 1 (vsC l)))):wpList P ops Q (o::rest) a w:=by
 refine wpList_plain hgd fun K hK=>?_
 obtain ⟨A',c',e,hle,hm,hnil,hat⟩:=hs.at_;simp only[Value.slice.injEq] at e;obtain ⟨rfl,-,rfl⟩:=e;obtain ⟨g',o',rfl,hg',hc'⟩:=hat (by omega)
 have hmin:Nat.min l.length 4=l.length:=Nat.min_eq_left h4;have hlen:=vsC_len l
 have hrun:=run_copyK (P:=P) (w:=w) (dT:=dT) (sT:=sT) (ty:=o.type) (g:=g) (o:=1) (dLen:=4) (dCap:=4) (a:=⟨g',o',none⟩) (sLen:=l.length) (sCap:=c) (k:=34) (cur:=cur) (cs:=vsC l) hu hz hr (by rw[hmin,hlen])
  (fun j x hx=>by
   have hj:j<l.length*34:=by rw[<-hlen];exact (List.getElem?_eq_some_iff.1 hx).1
   rw[yK];have h1:=hc' (j / 34) (j % 34) (by omega) (by omega)
   rw[show o'+j=o'+j / 34*34+j % 34 by omega,h1,<-vsC_get l (j / 34) (j % 34) (by omega) (by omega),show j / 34*34+j % 34=j by omega]
   exact hx) (by rw[hlen,hsz];omega) (vsC_one l)
 rw[hmin] at hrun;unfold Oper.wp;simp only[execOp,ho,resolve,invoke,builtin,Sem.run_bind,Sem.run_pure,Result.andThen_ok,List.map_toArray,List.map_cons,List.map_nil,hd,hv,hrun];exact hK _ _ h
@[irreducible] def kyB(b:Bool):Array Value:=(Value.bool b::(veL0++(veL0++(veL0++(veL0++[.int .i64 0]))))).toArray
@[go_sem] theorem key_b1(b:Bool)(w:World):(bdA 73 #[(0,.bool b)]).run Tryz.prog w=.ok (.agg (kyB b)) w:=by unfold bdA kyB;kernel_rfl
theorem kyB_size(b:Bool):(kyB b).size=138:=by unfold kyB;cases b<;>kernel_rfl
theorem kyB_ones(b:Bool):Ones (kyB b):=by
 unfold kyB Ones;rw[<-Array.all_toList];cases b<;>kernel_rfl
theorem kyB_0(b:Bool):(kyB b)[0]? =some (.bool b):=by unfold kyB;cases b<;>kernel_rfl
def kyM(b:Bool)(l:List Ve):Array Value:=(spl (kyB b) 1 (vsC l)).setIfInBounds 137 (.int .i64 (l.length:Int))
theorem kyM_size(b:Bool)(l:List Ve):(kyM b l).size=138:=by unfold kyM;rw[Array.size_setIfInBounds,spl_sizeK,kyB_size]
theorem kyM_ones(b:Bool)(l:List Ve):Ones (kyM b l):=ones_set (ones_spl _ _ _ (kyB_ones b) (vsC_one l)) rfl
theorem kyM_key(b:Bool)(l:List Ve)(h4:l.length<=4):KyC (kyM b l) 0 ⟨b,l⟩:=by
 have hl:=vsC_len l;have hz:=kyB_size b;refine ⟨?_,?_,h4,fun v hv j hj=>?_⟩
 ·unfold kyM
  rw[Array.getElem?_setIfInBounds,if_neg (by omega),yU _ _ _ _ (by rw[hl,hz];omega),if_neg (by omega),kyB_0]
 ·unfold kyM
  rw[Nat.zero_add,Array.getElem?_setIfInBounds,if_pos rfl,if_pos (by rw[spl_sizeK,hz];omega)]
 ·have hm:v*34+34<=l.length*34:=by have:=Nat.mul_le_mul_right 34 (show v+1<=l.length by exact hv);omega
  unfold kyM;rw[Array.getElem?_setIfInBounds,if_neg (by omega),yU _ _ _ _ (by rw[hl,hz];omega),hl,if_pos (by omega),show 0+1+v*34+j-1=v*34+j by omega]
  exact vsC_get l v j hv hj
theorem res_cK{P:Program}{fn:Func}{p:Tmp}{ty:TypeId}(h:fn.results=#[.cell p ty])(tmps:Array Value)(w:World)(b:Nat)(c:Array Value)(d:TypeDesc)
  (hp:tmps.getD p undef=.pointer (some ⟨b,0,none⟩)) (hr:row w b=some c) (hu:P.underlying ty=some d) (hd:d.isRow=true) (hi:(P.info? ty).map (·.size)=some c.size):
  (results fn tmps).run P w=.ok (.agg c) w:=by
 have hp2:tmps[p]?.getD undef=.pointer (some ⟨b,0,none⟩):=by simpa using hp
 simp only[results,h];simp[hp2,asAddr,ld_rowK hr hu hd hi]
theorem pko_any(o:Bool)(l:List Ve)(A:Option Addr)(c:Nat)(w:World)(hs:VRd w (.slice A l.length c) l)(h1:1<=l.length)(h4:l.length<=4):
  Calls Tryz.prog 160 #[.agg (rgA o (.slice A l.length c))] w fun e w'=>e=.returned (.agg (kyM o l))/\Below w.heap.size w w':=by
 obtain ⟨w1,hw1⟩:∃ w1,w1=w.alloc (.cells (rgA o (.slice A l.length c)) 59):=⟨_,rfl⟩;obtain ⟨w2,hw2⟩:∃ w2,w2=w1.alloc (.cells kyZ 73):=⟨_,rfl⟩;obtain ⟨w3,hw3⟩:∃ w3,w3=w2.alloc (.cells (kyB o) 73):=⟨_,rfl⟩;have b1:Below w.heap.size w w1:=by rw[hw1];exact (Below.refl w.heap.size w).alloc (by simp) _
 have b2:Below w1.heap.size w1 w2:=by rw[hw2];exact (Below.refl _ _).alloc (by simp) _
 have b3:Below w2.heap.size w2 w3:=by rw[hw3];exact (Below.refl _ _).alloc (by simp) _
 have hs1:w1.heap.size=w.heap.size+1:=by rw[hw1];simp
 have hs2:w2.heap.size=w.heap.size+1+1:=by rw[hw2];simp[hs1]
 have r1:row w1 w.heap.size=some (rgA o (.slice A l.length c)):=by rw[hw1];exact zA _ _ _ _ rfl
 have r2:row w2 (w.heap.size+1)=some kyZ:=by rw[hw2,<-hs1];exact zA _ _ _ _ rfl
 have r3:row w3 (w.heap.size+1+1)=some (kyB o):=by rw[hw3,<-hs2];exact zA _ _ _ _ rfl
 have hst:∀ (x:World) (X:Nat),stR Tryz.prog 73 138 x X 0 (.agg (kyB o)) (some kyZ)=.ok () (x.setRow X (kyB o)):=fun x X=>stR_whole _ _ _ _ _ _ _ kyZ_size.symm (by rw[kyB_size,kyZ_size]) (kyB_ones o)
 have c1:w1.cell? ⟨w.heap.size,0,none⟩=some (.bool o):=rgA_c0 r1;have c2:=zD b2 r1;have c3:w2.cell? ⟨w.heap.size,0,none⟩=some (.bool o):=rgA_c0 c2;have HW:=Lib.hid (And.intro hw1 (And.intro hw2 hw3));rw[hw2,hw1] at c3;clear hw1 hw2 hw3;go_enter Tryz.func160,Tryz.ntmps160;go_wp2_with fail;obtain ⟨hw1,hw2,hw3⟩:=HW.out;rw[<-hw1,<-hw2,<-hw3];clear hw1 hw2 hw3 HW c1 c3 c2;obtain ⟨Z,hZ⟩:∃ Z,Z=w.heap.size:=⟨_,rfl⟩;have b123:=onto (onto b1 b1.size b2) (Nat.le_trans b1.size b2.size) b3;have q1:row w3 Z=some (rgA o (.slice A l.length c)):=by rw[hZ];exact zD b3 (zD b2 r1)
 have q2:row w3 (Z+1)=some kyZ:=by rw[hZ];exact zD b3 r2
 have q3:row w3 (Z+1+1)=some (kyB o):=by rw[hZ];exact r3
 have v3:=hs.below b123;have hZs:w.heap.size<=Z:=by omega
 rw[<-hZ];have B3:=Lib.hid b123;clear r1 r2 r3 b1 b2 b3 hs1 hs2 hs hZ b123;refine zY [([0,1,2,3],4,false),([5],6,false)] [] (fun w'=>∃ x:RwB Z (rgA o (.slice A l.length c)),w'=x.val) (by kernel_rfl) (by kernel_rfl) (fun _ _ _ _ _ h=>h) ⟨⟨w3.drewN 1,by rw[zS];exact q1⟩,rfl⟩ ?_
 have bd:Below w3.heap.size w3 (w3.drewN 1):=zQ (Below.refl _ _) 1;obtain ⟨w4,hw4⟩:∃ w4,w4=w3.drewN 1:=⟨_,rfl⟩;rw[<-hw4] at bd ⊢;have p1:=zD bd q1;have p2:=zD bd q2;have p3:=zD bd q3;have v4:=v3.below bd;have B4:=Lib.hid (onto B3.out B3.out.size bd);have hne:Nonempty (RwB Z (rgA o (.slice A l.length c))):=⟨⟨w4,p1⟩⟩;have k1:∀ z:RwB Z (rgA o (.slice A l.length c)),z.val.cell? ⟨Z,1,none⟩=some (.slice A l.length c):=fun z=>rgA_c1 z.r1
 have hsl:=vsa_sla (Z+1+1);clear hw4 bd q1 q2 q3 v3 B3;simp only[wpFl,pk,List.getElem?_cons_zero,List.getElem?_cons_succ]
 repeat (go_big_quiet_step (fail))
 refine wpQuiet_nil ?_;clear k1;go_wp2_with (refine wpl_copyK rfl (.tmp 8) (.tmp 10) rfl vers_u ver_i p3 (kyB_size o) v4 h1 h4 rfl rfl ?_);obtain ⟨w5,hw5⟩:∃ w5,w5=w4.setRow (Z+1+1) (spl (kyB o) 1 (vsC l)):=⟨_,rfl⟩;rw[<-hw5];have s1:row w5 Z=some (rgA o (.slice A l.length c)):=by rw[hw5,zF _ _ _ _ (by omega)];exact p1
 have s2:row w5 (Z+1)=some kyZ:=by rw[hw5,zF _ _ _ _ (by omega)];exact p2
 have s3:row w5 (Z+1+1)=some (spl (kyB o) 1 (vsC l)):=by rw[hw5];exact zE p3 _
 have B5:=Lib.hid (show Below w.heap.size w w5 by rw[hw5];exact zG B4.out (by omega) _)
 clear hw5 p1 p2 p3 v4 hsl B4
 first|refine ⟨_,⟨⟨w5,s1⟩,rfl⟩,⟨⟨⟨w5,s1⟩,rfl⟩,fun _ h=>h⟩,?_⟩|refine ⟨_,⟨⟨w5,s1⟩,rfl⟩,.inr ⟨⟨⟨w5,s1⟩,rfl⟩,fun _ h=>h⟩,?_⟩
 show wpQuiet _ _ _ _ _ _
 repeat (go_big_quiet_step (fail))
 refine wpQuiet_nil ?_;have hc0:∃ x,w5.cell? ⟨Z+1+1,137,none⟩=some x:=⟨_,by rw[zC s3];exact Array.getElem?_eq_getElem (by rw[spl_sizeK,kyB_size];omega)⟩
 obtain ⟨x0,hx0⟩:=hc0;have f5:w5.frozen? ⟨Z+1+1,137,none⟩=false:=zJ s3 _;go_wp2_with fail;obtain ⟨w6,hw6⟩:∃ w6,w6=w5.setCell ⟨Z+1+1,137,none⟩ (.int .i64 (l.length:Int)):=⟨_,rfl⟩;rw[<-hw6];have t1:row w6 Z=some (rgA o (.slice A l.length c)):=by rw[hw6,zX _ _ _ _ (by show Z≠Z+1+1;omega)];exact s1
 have t2:row w6 (Z+1)=some kyZ:=by rw[hw6,zX _ _ _ _ (by show Z+1≠Z+1+1;omega)];exact s2
 have t3:row w6 (Z+1+1)=some (kyM o l):=by rw[hw6,zL s3];exact zE s3 _
 have B6:=Lib.hid (show Below w.heap.size w w6 by rw[hw6,zL s3];exact zG B5.out (by omega) _)
 clear hw6 s1 s2 s3 B5 hx0 f5
 first|refine ⟨_,⟨⟨w6,t1⟩,rfl⟩,⟨⟨⟨w6,t1⟩,rfl⟩,fun _ h=>h⟩,?_⟩|refine ⟨_,⟨⟨w6,t1⟩,rfl⟩,.inr ⟨⟨⟨w6,t1⟩,rfl⟩,fun _ h=>h⟩,?_⟩
 show wpQuiet _ _ _ _ _ _;refine wpQuiet_nil ?_;have hld:ldR Tryz.prog 73 138 w6 (Z+1+1) 0 (some (kyM o l))=.ok (.agg (kyM o l)) w6:=xJ _ _ _ _ _ _ (kyM_size o l).symm;have hst6:stR Tryz.prog 73 138 w6 (Z+1) 0 (.agg (kyM o l)) (some kyZ)=.ok () (w6.setRow (Z+1) (kyM o l)):=stR_whole _ _ _ _ _ _ _ kyZ_size.symm (by rw[kyM_size,kyZ_size]) (kyM_ones o l)
 go_wp2_with fail;exact bodyPost_ret (v:=.agg (kyM o l)) (res_cK rfl _ _ (Z+1) _ _ rfl (zE t2 _) Tryz.underlying73 rfl (by rw[kyM_size];exact kr_i)) rfl ⟨rfl,zG B6.out (by omega) _⟩
theorem palr1_any(o:Bool)(l:List Ve)(A:Option Addr)(c F:Nat)(w:World)(hs:VRd w (.slice A l.length c) l)(hl:l.length<=1000000)(hF:row w F=some #[.func (.func 159) #[] #[]]):
  Calls Tryz.prog 199 #[.agg (rgA o (.slice A l.length c)),.pointer (some ⟨F,0,none⟩)] w fun e w'=>e=.returned (.bool (!rB ⟨o,l⟩))/\Below w.heap.size w w':=by
 obtain ⟨w1,hw1⟩:∃ w1,w1=w.alloc (.cells (rgA o (.slice A l.length c)) 59):=⟨_,rfl⟩;have b1:Below w.heap.size w w1:=by rw[hw1];exact (Below.refl w.heap.size w).alloc (by simp) _
 have r1:row w1 w.heap.size=some (rgA o (.slice A l.length c)):=by rw[hw1];exact zA _ _ _ _ rfl
 have rF:w1.cell? ⟨F,0,none⟩=some (.func (.func 159) #[] #[]):=by rw[zC (zD b1 hF)];rfl
 have H1:=Lib.hid (pisr_any o l A c w1 (hs.below b1) hl);obtain ⟨b,hb⟩:∃ b,b=rB ⟨o,l⟩:=⟨_,rfl⟩;rw[<-hb] at H1 ⊢;have HW1:=Lib.hid hw1;have B1:=Lib.hid b1;rw[hw1] at rF r1;clear hw1 b1 hF hs hb;go_enter Tryz.func199,Tryz.ntmps199;go_wp2_with fail;rw[<-HW1.out];refine H1.out.mono ?_;rintro e w2 ⟨rfl,hb⟩;have HB:=Lib.hid (onto B1.out B1.out.size hb);clear hb H1;go_wp2_with fail;go_ret;exact ⟨rfl,HB.out⟩
theorem palr2_any(r:Rg)(A:Option Addr)(c F:Nat)(w:World)(hs:VRd w (.slice A r.l.length c) r.l)(hl:r.l.length<=1000000)(hF:row w F=some #[.func (.func 159) #[] #[]]):
  Calls Tryz.prog 199 #[.agg (rgA r.off (.slice A r.l.length c)),.pointer (some ⟨F,0,none⟩)] w fun e w'=>e=.returned (.bool (!rB r))/\Below w.heap.size w w':=by
 obtain ⟨o,l⟩:=r;exact palr1_any o l A c F w hs hl hF
theorem pixr_any(K:Ks)(s:Value)(F:Nat)(w:World)(hs:RRd w s K)(hK:K.length<=1000000)(hV:∀ r∈K,r.l.length<=1000)(hF:row w F=some #[.func (.func 159) #[] #[]]):
  Calls Tryz.prog 239 #[s,.func (.func 199) #[] #[.pointer (some ⟨F,0,none⟩)]] w fun e w'=>∃ r:Int,e=.returned (.int .i64 r)/\((K.all rB=true/\r=-1)\/(K.all rB=false/\0<=r))/\Below w.heap.size w w':=by
 obtain ⟨A,c,rfl,hle,hmx,hat⟩:=hs.at_;have HAT:=Lib.hid hat;have HF:=Lib.hid hF;have HVV:=Lib.hid hV;obtain ⟨n,hn⟩:∃ n,n=K.length:=⟨_,rfl⟩;have HN:=Lib.hid hn;rw[<-hn] at hle hK ⊢;clear hs hat hF hn hV;go_enter Tryz.func239,Tryz.ntmps239;go_wp2_with fail;go_loopw [8] (fun iv wr=>∃ i:Nat,i<=n/\iv=.int .i64 i/\Below w.heap.size w wr/\∀ j (hj:j<K.length),j<i->rB K[j]=true) (fun iv _=>n-(intOf iv).toNat)
 case atStart=>exact ⟨0,by omega,rfl,Below.refl _ _,fun j _ hj=>absurd hj (by omega)⟩
 case round=>
  obtain ⟨k,hk,rfl,hb,hall⟩:=hrel;obtain ⟨w1,rfl⟩:∃ w1:World,w1=wr:=⟨_,rfl⟩;have HB:=Lib.hid hb;have HALL:=Lib.hid hall;clear hb hall
  by_cases hlk:k<n
  ·have hkl:k<K.length:=by have:=HN.out;omega
   obtain ⟨g,o,rfl,hg,hc⟩:=HAT.out (by omega)
   obtain ⟨h0,vi,h1,h2⟩:=hc k hkl;have hr1:=HVV.out _ (List.getElem_mem hkl);obtain ⟨r,hx⟩:∃ r,r=K[k]:=⟨_,rfl⟩;rw[<-hx] at h0 h2 hr1;obtain ⟨A2,c2,rfl,-⟩:=h2.at_
   have q2:ldR Tryz.prog 59 2 w1 g (o+k*2) (row w1 g)=.ok (.agg (rgA r.off (.slice A2 r.l.length c2))) w1:=
    rin_cells w1 g (o+k*2) _ _ ((HB.out.cell (p:=⟨g,o+k*2,none⟩) hg).trans h0) ((HB.out.cell (p:=⟨g,o+k*2+1,none⟩) hg).trans h1)
   have HX:=Lib.hid hx;have HC:=Lib.hid (palr2_any r A2 c2 F w1 (h2.below HB.out) (by omega) (zD HB.out HF.out))
   obtain ⟨b,hbv⟩:∃ b,b=rB r:=⟨_,rfl⟩;rw[<-hbv] at HC;have HV:=Lib.hid hbv;obtain ⟨L,hL⟩:∃ L,L=r.l.length:=⟨_,rfl⟩;rw[<-hL] at HC q2;clear hc hx hbv h0 h1 h2 hL;go_wp2_with fail;refine HC.out.mono ?_;rintro e w2 ⟨rfl,hb2⟩;have B2:=Lib.hid (onto HB.out HB.out.size hb2);clear HC hb2 q2
   cases b with
   |true=>
    go_wp2_with fail;go_roundw
    case rel=>exact ⟨k+1,by omega,by go_num,B2.out,fun j hj hjk=>by
     by_cases hjk2:j<k
     ·exact HALL.out j hj hjk2
     ·obtain rfl:j=k:=by omega
      rw[<-HX.out];exact HV.out.symm⟩
    case measure=>simp[intOf];omega
   |false=>
    have HE:=Lib.hid (allR_no k hkl (by rw[<-HX.out];exact HV.out.symm))
    go_wp2_with fail;go_ret;exact ⟨_,rfl,.inr ⟨HE.out,by omega⟩,B2.out⟩
  ·obtain rfl:k=n:=by omega
   have HE:=Lib.hid (allR_yes (l:=K) fun j hj=>HALL.out j hj (by have:=HN.out;omega))
   have hd:decide ((k:Int)<(k:Int))=false:=by simp
   go_wp2_with fail;go_ret;exact ⟨_,rfl,.inl ⟨HE.out,rfl⟩,HB.out⟩
theorem pctr_any(K:Ks)(s:Value)(F:Nat)(w:World)(hs:RRd w s K)(hK:K.length<=1000000)(hV:∀ r∈K,r.l.length<=1000)(hF:row w F=some #[.func (.func 159) #[] #[]]):
  Calls Tryz.prog 198 #[s,.func (.func 199) #[] #[.pointer (some ⟨F,0,none⟩)]] w fun e w'=>e=.returned (.bool (!(K.all rB)))/\Below w.heap.size w w':=by
 have H1:=Lib.hid (pixr_any K s F w hs hK hV hF);obtain ⟨A,c,rfl,-⟩:=hs.at_;obtain ⟨b,hb⟩:∃ b,b=K.all rB:=⟨_,rfl⟩;rw[<-hb] at H1 ⊢;clear hs hF hb hV;go_enter Tryz.func198,Tryz.ntmps198;go_wp2_with fail;refine H1.out.mono ?_;rintro e w1 ⟨r,rfl,h,hb1⟩;have B1:=Lib.hid hb1;clear H1 hb1;rcases h with ⟨rfl,rfl⟩|⟨rfl,h2⟩
 ·go_wp2_with fail
  go_ret;exact ⟨rfl,B1.out⟩
 ·have hd:decide (0<=r)=true:=by simp;omega
  clear h2;go_wp2_with fail;go_ret;exact ⟨rfl,B1.out⟩
theorem palr_any(K:Ks)(s:Value)(w:World)(hs:RRd w s K)(hK:K.length<=1000000)(hV:∀ r∈K,r.l.length<=1000):
  Calls Tryz.prog 158 #[s,.func (.func 159) #[] #[]] w fun e w'=>e=.returned (.bool (K.all rB))/\Below w.heap.size w w':=by
 obtain ⟨w1,hw1⟩:∃ w1,w1=w.alloc (.cells #[.func (.func 159) #[] #[]] 233):=⟨_,rfl⟩;have b1:Below w.heap.size w w1:=by rw[hw1];exact (Below.refl w.heap.size w).alloc (by simp) _
 have r1:row w1 w.heap.size=some #[.func (.func 159) #[] #[]]:=by rw[hw1];exact zA _ _ _ _ rfl
 have H1:=Lib.hid (pctr_any K s w.heap.size w1 (hs.below b1) hK hV r1);obtain ⟨A,c,rfl,-⟩:=hs.at_;obtain ⟨b,hb⟩:∃ b,b=K.all rB:=⟨_,rfl⟩;rw[<-hb] at H1 ⊢;have HW1:=Lib.hid hw1;have B1:=Lib.hid b1;clear hs hb hw1 b1 r1 hV;go_enter Tryz.func158,Tryz.ntmps158;go_wp2_with fail;rw[<-HW1.out];refine H1.out.mono ?_;rintro e w2 ⟨rfl,hb2⟩;have B2:=Lib.hid (onto B1.out B1.out.size hb2);clear hb2 H1;go_wp2_with fail;go_ret;exact ⟨by simp,B2.out⟩
theorem pnew0_any(w:World):Calls Tryz.prog 29 #[] w fun e w'=>e=.returned (.pointer (some ⟨w.heap.size,0,none⟩))/\row w' w.heap.size=some ksZ/\Below w.heap.size w w':=by
 go_enter Tryz.func29,Tryz.ntmps29;go_wp2_with fail;go_ret;exact ⟨rfl,zA _ _ _ _ rfl,(Below.refl _ _).alloc (Nat.le_refl _) _⟩
structure KoC(c:Array Value)(K:Ks):Prop where
 size:c.size=1105
 ones:Ones c
 key:∀ i,i<8->KyC c (i*138) (rgI K i)
theorem KoC.nil:KoC ksZ []:=⟨ksZ_size,ksZ_ones,fun i hi=>by have:=ksZ_ok.key i hi;rw[Nat.zero_add] at this;exact this⟩
theorem KoC.step{c x:Array Value}{K:Ks}{r:Rg}(h:KoC c K)(h8:K.length<8)(hx:x.size=138)(ho:Ones x)(hk:KyC x 0 r):KoC (spl c (K.length*138) x.toList) (K++[r]):=by
 have hl:x.toList.length=138:=by rw[Array.length_toList,hx]
 have hz:=h.size;refine ⟨by rw[spl_sizeK,hz],ones_spl _ _ _ h.ones (fun v hv=>?_),fun j hj=>?_⟩
 ·unfold Ones at ho
  rw[<-Array.all_toList,List.all_eq_true] at ho;exact ho v hv
 ·rw[rgI_app]
  by_cases hji:j=K.length
  ·subst hji
   rw[if_pos rfl];exact hk.eq fun i hi=>by rw[yU _ _ _ _ (by rw[hl,hz];omega),hl,if_pos (by omega),Array.getElem?_toList,show K.length*138+i-K.length*138=0+i by omega]
  ·rw[if_neg hji]
   exact (h.key j hj).eq fun i hi=>by rw[yU _ _ _ _ (by rw[hl,hz];omega),hl,if_neg (by omega)]
theorem KoC.done{c:Array Value}{K:Ks}(h:KoC c K):KsC 0 ksZ (c.setIfInBounds 1104 (.int .i64 (K.length:Int))) K:=
 ⟨by rw[Array.size_setIfInBounds,h.size,ksZ_size],by rw[ksZ_size];omega,fun j hj=>by rw[Array.getElem?_eq_none (by rw[Array.size_setIfInBounds,h.size];omega),Array.getElem?_eq_none (by rw[ksZ_size];omega)],ones_set h.ones rfl,by rw[Array.getElem?_setIfInBounds,if_pos (by omega),if_pos (by rw[h.size];omega)],fun i hi=>(h.key i hi).eq fun j hj=>by rw[Nat.zero_add,Array.getElem?_setIfInBounds,if_neg (by omega)]⟩
theorem take_stepK{K:Ks}{i:Nat}(hi:i<K.length):K.take i++[K[i]]=K.take (i+1):=by rw[List.take_append_getElem]
theorem pof_any(T:Mk)(t:Nat)(K:Ks)(v:Value)(w:World)(h:RRd w v K)(hK:K.length<=1000)(hV:∀ r∈K,r.l.length<=1000)(hfr:∀ k,k<w.heap.size->¬ Hk t (T k)):
  Calls Tryz.prog 106 #[v] w fun e w'=>∃ q T',e=.returned (.tuple #[.pointer q,.int .i64 (ofE K)])/\(ofE K≠0->q=none)/\(ofE K=0->∃ B,q=some ⟨B,0,none⟩/\KpAt T' w' t B 0 ksZ K)/\Nk T T' t w w':=by
 have hh:=h;obtain ⟨A,c,rfl,hle,hmx,hat⟩:=h.at_;have HAT:=Lib.hid hat;have HV:=Lib.hid hV;have HH:=Lib.hid hh;obtain ⟨n,hn⟩:∃ n,n=K.length:=⟨_,rfl⟩;have HN:=Lib.hid hn
 have hno:ofB K=false->∀ w2,Below w.heap.size w w2->∃ (q:Option Addr) (T':Mk),Ending.returned (.tuple #[.pointer none,.int .i64 1])=.returned (.tuple #[.pointer q,.int .i64 (ofE K)])/\(ofE K≠0->q=none)/\(ofE K=0->∃ B,q=some ⟨B,0,none⟩/\KpAt T' w2 t B 0 ksZ K)/\Nk T T' t w w2:=by
  intro hb w2 h2;have e:ofE K=1:=by unfold ofE;rw[hb];rfl
  rw[e];exact ⟨none,paint T w.heap.size t,rfl,fun _=>rfl,fun h=>absurd h (by decide),Nk.of h2⟩
 have HNO:=Lib.hid hno;rw[<-hn] at hle hK ⊢;have hB:ofB K=(decide (n<=8)&&K.all rB):=by rw[hn];rfl
 by_cases h8:8<n
 ·have hd:decide ((8:Int)<(n:Int))=true:=by simp;omega
  have hb0:ofB K=false:=by rw[hB,show decide (n<=8)=false by simp;omega];rfl
  clear h hh hat hV hn hno hB;go_enter Tryz.func106,Tryz.ntmps106;go_wp2_with fail;exact bodyPost_ret (v:=.tuple #[.pointer none,.int .i64 1]) (by simp[results,Tryz.results106,go_sem]) rfl (HNO.out hb0 _ (Below.refl _ _))
 have hd:decide ((8:Int)<(n:Int))=false:=by simp;omega
 have H1:=palr_any K _ w hh (by omega) hV
 obtain ⟨b,hbv⟩:∃ b,b=K.all rB:=⟨_,rfl⟩;rw[<-hbv] at H1 hB;rw[show decide (n<=8)=true by simp;omega,Bool.true_and] at hB
 rw[<-hn] at H1;have HB0:=Lib.hid hB;have HC1:=Lib.hid H1;clear h hh hat hV hn hno hB H1 hbv;go_enter Tryz.func106,Tryz.ntmps106;go_wp2_with fail;refine HC1.out.mono ?_;rintro e w1 ⟨rfl,hb1⟩;have B1:=Lib.hid hb1;clear hb1 HC1
 cases b with
 |false=>
  go_wp2_with fail;exact bodyPost_ret (v:=.tuple #[.pointer none,.int .i64 1]) (by simp[results,Tryz.results106,go_sem]) rfl (HNO.out HB0.out _ B1.out)
 |true=>
  have HOK:=Lib.hid (ofB_iff.1 HB0.out);have HE:=Lib.hid (show ofE K=0 by unfold ofE;rw[HB0.out];rfl)
  clear HNO;go_wp2_with fail;refine (pnew0_any w1).mono ?_;rintro e w2 ⟨rfl,r2,hb2⟩;obtain ⟨B,hBe⟩:∃ B,B=w1.heap.size:=⟨_,rfl⟩;have hBs:w.heap.size<=B:=by have:=B1.out.size;omega
  rw[<-hBe] at r2 ⊢;have B2:=Lib.hid (onto B1.out B1.out.size hb2);have R2:=Lib.hid r2;clear hb2 hBe r2;go_wp2_with fail;go_loopw [18] (fun iv wr=>∃ i:Nat,i<=n/\iv=.int .i64 i/\Below w.heap.size w wr/\∃ cb,row wr B=some cb/\KoC cb (K.take i)) (fun iv _=>n-(intOf iv).toNat)
  case atStart=>exact ⟨0,by omega,rfl,B2.out,ksZ,R2.out,KoC.nil⟩
  case round=>
   obtain ⟨i,hi,rfl,hb,cb,hrow,hko⟩:=hrel;obtain ⟨w3,rfl⟩:∃ w3:World,w3=wr:=⟨_,rfl⟩;have HB:=Lib.hid hb;have HROW:=Lib.hid hrow;have HKO:=Lib.hid hko;have h8':n<=8:=by omega
   clear hb hrow hko
   by_cases hlt:i<n
   ·have hiK:i<K.length:=by have:=HN.out;omega
    obtain ⟨g,o,rfl,hg,hc⟩:=HAT.out (by omega)
    obtain ⟨h0,vi,h1,h2⟩:=hc i hiK;have hok1:=(HOK.out.2 _ (List.getElem_mem hiK)).1;obtain ⟨r,hx⟩:∃ r,r=K[i]:=⟨_,rfl⟩;rw[<-hx] at h0 h2 hok1;obtain ⟨A2,c2,rfl,-⟩:=h2.at_
    have q2:ldR Tryz.prog 59 2 w3 g (o+i*2) (row w3 g)=.ok (.agg (rgA r.off (.slice A2 r.l.length c2))) w3:=
     rin_cells w3 g (o+i*2) _ _ ((HB.out.cell (p:=⟨g,o+i*2,none⟩) hg).trans h0) ((HB.out.cell (p:=⟨g,o+i*2+1,none⟩) hg).trans h1)
    have HX:=Lib.hid hx;obtain ⟨w4,hw4⟩:∃ w4,w4=w3.alloc (.cells (rgA r.off (.slice A2 r.l.length c2)) 59):=⟨_,rfl⟩;have b4:Below w3.heap.size w3 w4:=by rw[hw4];exact (Below.refl _ _).alloc (Nat.le_refl _) _
    have r4:row w4 w3.heap.size=some (rgA r.off (.slice A2 r.l.length c2)):=by rw[hw4];exact zA _ _ _ _ rfl
    have B4:=Lib.hid (onto HB.out HB.out.size b4);have rB4:=zD b4 HROW.out;have hv4:∀ x:After w4,VRd x.val (.slice A2 r.l.length c2) r.l:=fun x=>h2.below (onto B4.out B4.out.size x.below)
    have hko4:∀ x:After w4,Calls Tryz.prog 160 #[.agg (rgA r.off (.slice A2 r.l.length c2))] x.val fun e w'=>e=.returned (.agg (kyM r.off r.l))/\Below x.val.heap.size x.val w':=fun x=>pko_any r.off r.l A2 c2 x.val (hv4 x) hok1.1 hok1.2
    have HK4:=Lib.hid hko4;have HW4:=Lib.hid hw4;have RB4:=Lib.hid rB4;have q4:=After.row r4;obtain ⟨Z,hZ⟩:∃ Z,Z=w3.heap.size:=⟨_,rfl⟩;rw[<-hZ] at q4;have HZ:=Lib.hid hZ;have hsz:i*138+138<=cb.size:=by rw[HKO.out.size];omega
    have hst:∀ x:World,stR Tryz.prog 73 138 x B (i*138) (.agg (kyM r.off r.l)) (some cb)=.ok () (x.setRow B (spl cb (i*138) (kyM r.off r.l).toList)):=fun x=>stR_spl hsz (kyM_size _ _) (kyM_ones _ _)
    have HS4:=Lib.hid (show KoC (spl cb (i*138) (kyM r.off r.l).toList) (K.take (i+1)) by
     have hlen:(K.take i).length=i:=by rw[List.length_take];omega
     have:=HKO.out.step (r:=r) (by rw[hlen];omega) (kyM_size r.off r.l) (kyM_ones r.off r.l) (kyM_key r.off r.l hok1.2)
     rw[hlen,hx,take_stepK hiK] at this;rw[hx]
     exact this)
    obtain ⟨L,hL⟩:∃ L,L=r.l.length:=⟨_,rfl⟩;rw[<-hL] at q2 q4 HK4 HW4;obtain ⟨kx,hkx⟩:∃ kx,kx=kyM r.off r.l:=⟨_,rfl⟩;rw[<-hkx] at HK4 hst HS4;clear hc hx h0 h1 h2 hL hkx hw4 b4 r4 rB4 hv4 hko4 hok1 hZ hsz;have hi8:i<8:=by omega
    go_wp2_with fail;rw[<-HW4.out,<-HZ.out];refine seen_tail 0 7 (by kernel_rfl) (by kernel_rfl) (fun _ _ _ _ _ h=>h) ?_
    simp only[List.take_succ_cons,List.take_zero,List.drop_succ_cons,List.drop_zero]
    repeat (go_big_quiet_step ((go_at_call 160;refine After.call _ (HK4.out _))))
    refine wpQuiet_nil ?_;rintro _ ⟨x,rfl⟩;obtain ⟨w5,hw5⟩:∃ w5,w5=x.val:=⟨_,rfl⟩;have bx:=x.below;rw[<-hw5] at bx ⊢;have r5:=zD bx RB4.out;have B5:=Lib.hid (zG (onto B4.out B4.out.size bx) hBs (spl cb (i*138) kx.toList));have R5:=Lib.hid (zE r5 (spl cb (i*138) kx.toList));clear hw5 bx q4 q2;go_wp2_with fail;go_roundw
    case rel=>exact ⟨i+1,by omega,by go_num,B5.out,_,R5.out,HS4.out⟩
    case measure=>simp[intOf];omega
   ·obtain rfl:i=n:=by omega
    have hd2:decide ((i:Int)<(i:Int))=false:=by simp
    have hKo:=HKO.out;rw[List.take_of_length_le (by rw[<-HN.out];exact Nat.le_refl _)] at hKo
    have hKs:=hKo.done;rw[<-HN.out] at hKs;have f3:w3.frozen? ⟨B,1104,none⟩=false:=zJ HROW.out _;have k3:∃ x,w3.cell? ⟨B,1104,none⟩=some x:=⟨_,by rw[zC HROW.out];exact Array.getElem?_eq_getElem (by rw[hKo.size];omega)⟩
    obtain ⟨x3,hx3⟩:=k3
    have HF:=Lib.hid (show ∃ T',KpAt T' (w3.setCell ⟨B,1104,none⟩ (.int .i64 (i:Int))) t B 0 ksZ K/\Nk T T' t w (w3.setCell ⟨B,1104,none⟩ (.int .i64 (i:Int))) by
     rw[zL HROW.out]
     exact ⟨paint T w.heap.size t,⟨zP hBs,⟨_,zE HROW.out _,hKs⟩,HOK.out⟩,Nk.of (zG HB.out hBs _)⟩)
    clear hKo hKs;go_wp2_with fail;refine bodyPost_ret (v:=.tuple #[.pointer (some ⟨B,0,none⟩),.int .i64 0]) (by simp[results,Tryz.results106,go_sem]) rfl ?_
    obtain ⟨T',hk,hn⟩:=HF.out;exact ⟨_,T',by rw[HE.out],fun e=>absurd HE.out e,fun _=>⟨B,rfl,hk⟩,hn⟩
end Go.Proofs.YteffjpdcghlnlaaGreatDoor.Oct
namespace Go.Proofs.YteffjpdcghlnlaaGreatDoor.Oct
open Go.ChangeShapes Go.WideShapes Go.ChangeAt Go.RowKit Go.Maps
theorem rgNo_1{l:By}(h:NoF eB tt1 l):NoF eRg rgG l:=no_1 (e1:=eB) (G1:=tt1) (e2:=eL eVe) (p:=Rg.off) (q:=Rg.l) eRg_eq (fun _ _=>trivial) h
theorem rgNo_2{l l1:By}{b:Bool}(hl:l=eB b++l1)(h:NoF (eL eVe) (LG 4 veG) l1):NoF eRg rgG l:=
 no_2 (e1:=eB) (G1:=tt1) (G2:=LG 4 veG) (e2:=eL eVe) (p:=Rg.off) (q:=Rg.l) eRg_eq (fun _ h=>⟨trivial,h⟩) eB_unq (a:=b) trivial hl h
abbrev rvG(t:Nat):Mk->World->Rg->Value->Prop:=fun T w r v=>∃ vi,v=.agg (rgA r.off vi)/\VsAt T w t 63 vi r.l
theorem rdring_any(T:Mk)(t X C:Nat)(l:By)(w:World)(h:RdI X l w)(hX:T X≠t)(hX0:T X≠0)(ht:t≠0)(hf:∀ k,k<w.heap.size->T k≠t)(hC:row w C=some #[.pointer (some ⟨X,0,none⟩)]):
  Calls Tryz.prog 108 #[.pointer (some ⟨C,0,none⟩)] w (RdOutM X l eRg rgG (S0 t) (rvG t) T w):=by
 obtain ⟨w1,hw1⟩:∃ w1,w1=w.alloc (.cells (rgA false (.slice none 0 0)) 59):=⟨_,rfl⟩;have b1:Below w.heap.size w w1:=by rw[hw1];exact (Below.refl _ _).alloc (Nat.le_refl _) _
 have r1:row w1 w.heap.size=some (rgA false (.slice none 0 0)):=by rw[hw1];exact zA _ _ _ _ rfl
 have hXl:=h.lt;have hCl:=zK hC
 have hCX:C≠X:=fun e=>by
  obtain ⟨A,c,hr,-⟩:=h;rw[e] at hC;rw[hC] at hr;simp at hr
 have B1:=Lib.hid b1;have R1:=Lib.hid r1;have I1:=Lib.hid (h.below b1);have RC:=Lib.hid (zD b1 hC);have HI:=Lib.hid h;have HF:=Lib.hid hf;have HX:=Lib.hid (And.intro hX (And.intro hX0 ht));clear h b1 r1 hC hf hX hX0 ht;go_enter Tryz.func108,Tryz.ntmps108;go_upto_region 1 with fail
 rw[<-hw1];clear hw1;refine zY [([0,2,3,4],1,false),([],5,false),([6],7,true)] [] (fun y=>row y C=some #[.pointer (some ⟨X,0,none⟩)]) (by kernel_rfl) (by kernel_rfl) (fun _ _ _ _ _ h=>h) (by rw[zS];exact RC.out) ?_
 have b2:=zQ (Below.refl w1.heap.size w1) 1;have z1:w.heap.size<=w1.heap.size:=B1.out.size;have B2:=Lib.hid (onto B1.out B1.out.size b2);have I2:=Lib.hid (I1.out.below b2);have R2:=Lib.hid (zD b2 R1.out);have RC2:=Lib.hid (zD b2 RC.out);obtain ⟨w2,hw2⟩:∃ w2,w2=w1.drewN 1:=⟨_,rfl⟩;rw[<-hw2] at B2 I2 R2 RC2 ⊢;clear hw2 b2 B1 I1 R1 RC;have hz2:=zK R2.out;have H3:=Lib.hid (rdflag_any X l w2 I2.out);have hq:=fun y:In (fun y=>row y C=some #[.pointer (some ⟨X,0,none⟩)])=>(zC y.ok 0:y.val.cell? ⟨C,0,none⟩=_)
 have hne:Nonempty (In (fun y=>row y C=some #[.pointer (some ⟨X,0,none⟩)])):=⟨⟨w2,RC2.out⟩⟩
 simp only[wpFl,pk,List.getElem?_cons_zero,List.getElem?_cons_succ];refine zV ?_
 repeat (go_big_quiet_step (fail))
 refine wpQuiet_nil ?_;go_wp2_with fail;refine H3.out.mono ?_;rintro e w3 (⟨b,v,l1,-,hl,rfl,rfl,hr⟩|⟨hn,z,l1,hz,rfl,hr⟩)
 ·have HXX:=HX.out
  have rc3:=hr.row hCX RC2.out;have R3:=Lib.hid (hr.row (by omega) R2.out)
  have RC3:=Lib.hid rc3;have I3:=Lib.hid (hr.inv I2.out);have D3:=Lib.hid (Rdd.behind HI.out B2.out hr);have L1:=Lib.hid hl;have M3:=Lib.hid (show Mq T (paint T w.heap.size 0) (S0 t) X l1 w w3 from Mq.of D3.out 0 (.inl rfl))
  have H4:=Lib.hid (lsver_any (paint T w.heap.size 0) t X l1 w3 I3.out (by rw[zH hXl];exact HXX.1) (by rw[zH hXl];exact HXX.2.1) HXX.2.2 (fun k hk e=>by
   by_cases h:k<w.heap.size
   ·rw[zH h] at e;exact HF.out k h e
   ·rw[zP (by omega)] at e;exact HXX.2.2 e.symm))
  have hz3:=hr.size;clear hl hr H3 I2 R2 hq HXX;go_wp2_with fail;refine ⟨fun y=>row y C=some #[.pointer (some ⟨X,0,none⟩)],rc3,.inr ⟨rc3,fun _ h=>h⟩,?_⟩
  show wpQuiet _ _ _ _ _ _;refine wpQuiet_nil ?_;clear rc3;go_wp2_with fail;refine H4.out.mono ?_;rintro e w4 ⟨T4,l4,hM,⟨L,v,hg,hl,rfl,hv⟩|⟨hn,z,hz,rfl⟩⟩
  ·obtain ⟨A,c,hbv,-,-,-⟩:=hv.form
   subst hbv;have rc4:=hM.rd.row hCX RC3.out;have r4:=hM.rd.row (by omega) R3.out
   have R4:=Lib.hid r4;have V4:=Lib.hid hv;have R5:=Lib.hid (show T4 w.heap.size=0 by rw[hM.tag _ (by omega)];exact zP (Nat.le_refl _))
   have M4:=Lib.hid (M3.out.trans HI.out hM);have L4:=Lib.hid (And.intro hg hl);clear hv hM hg hl H4 R3 RC3;go_wp2_with fail;refine ⟨fun y=>row y C=some #[.pointer (some ⟨X,0,none⟩)],rc4,.inr ⟨rc4,fun _ h=>h⟩,?_⟩
   show wpQuiet _ _ _ _ _ _;refine zV ?_;have hne:Nonempty (In (fun y=>row y C=some #[.pointer (some ⟨X,0,none⟩)])):=⟨⟨w4,rc4⟩⟩
   repeat (go_big_quiet_step (fail))
   refine wpQuiet_nil ?_;clear rc4;go_wp2_with fail;have TG0:=R5.out;have V5:=V4.out.fr (Fr.row (T:=T4) (H:=fun c=>c=0) (w:=w4) (B:=w.heap.size) TG0 (rgA b (.slice A L.length c))) (fun e=>HX.out.2.2 e)
   refine ⟨fun _=>True,trivial,?_⟩
   show wpQuiet _ _ _ _ _ _;refine wpQuiet_nil ?_;go_wp2_with fail;refine bodyPost_ret (v:=.agg (rgA b (.slice A L.length c))) (yV Tryz.results108 _ _ w.heap.size _ _ rfl (zE R4.out _) Tryz.underlying59 rfl (by rw[rgA_size];exact rin_i)) rfl ⟨T4,l4,⟨Rdd.up M4.out.rd HI.out (Nat.le_refl _) _,M4.out.tag,M4.out.mks⟩,.inl ⟨⟨b,L⟩,_,L4.out.1,?_,rfl,_,rfl,V5⟩⟩
   rw[L1.out,L4.out.2,eRg_eq,List.append_assoc]
  ·have K:=Lib.hid (And.intro (rgNo_2 L1.out hn) (And.intro hz (M3.out.trans HI.out hM)))
   clear hn hz hM H4;go_wp2_with fail;exact ⟨rfl,_,l4,K.out.2.2,.inr ⟨K.out.1,z,K.out.2.1,rfl⟩⟩
 ·have K:=Lib.hid (And.intro (rgNo_1 hn) (And.intro hz (Rdd.behind HI.out B2.out hr)))
  clear hn hz hr H3;go_wp2_with fail;exact ⟨rfl,_,l1,Mq.of K.out.2.2 0 (.inl rfl),.inr ⟨K.out.1,z,K.out.2.1,rfl⟩⟩
abbrev Sr(t j:Nat):Nat->Prop:=fun c=>c=0\/(t<=c/\c<=t+j)
theorem RsAt.fresh{T T':Mk}{S:Nat->Prop}{X:Nat}{l:By}{w w':World}{t:Nat}{eR eV:TypeId}{v:Value}{K:Ks}(h:RsAt T' w' t eR eV v K)(hM:Mq T T' S X l w w')(hf:∀ k,k<w.heap.size->T k≠t){w2:World}(hg:w'.grownBy w2 v.ownBlock):Below w.heap.size w' w2:=
 ⟨hg.os,hg.tape,hg.output,hg.size,fun k hk=>hg.block k (Nat.lt_of_lt_of_le hk hM.rd.size) (fun e=>hf k hk (by rw[<-hM.tag k hk];exact h.tg k e.symm))⟩
theorem lsring_any(T:Mk)(t X C:Nat)(l:By)(w:World)(h:RdI X l w)(hX:¬ Hk t (T X))(hX0:T X≠0)(ht:1<=t)(hf:∀ k,k<w.heap.size->¬ Hk t (T k))(hC:row w C=some #[.pointer (some ⟨X,0,none⟩)]):
  Calls Tryz.prog 107 #[.pointer (some ⟨X,0,none⟩),.int .i64 8,.func (.func 108) #[] #[.pointer (some ⟨C,0,none⟩)]] w
   (RdOutM X l (eL eRg) (LG 8 rgG) (Sr t 8) (fun T' w' K v=>RsAt T' w' t 59 63 v K) T w):=by
 have hCX:C≠X:=fun e=>by
  obtain ⟨A,c,hr,-⟩:=h;rw[e] at hC;rw[hC] at hr;simp at hr
 have HI:=Lib.hid h;have H1:=Lib.hid (rdnum_any X l w h);have HF:=Lib.hid hf;have HX:=Lib.hid (And.intro hX (And.intro hX0 ht));have RC:=Lib.hid hC;clear h hf hX hX0 ht hC;go_enter Tryz.func107,Tryz.ntmps107;go_wp2_with fail;refine H1.out.mono ?_;rintro e w1 (⟨k,v,l1,hk,hl,rfl,rfl,hr⟩|⟨hn,z,l1,hz,rfl,hr⟩)
 ·by_cases h4:8<k
  ·have d1:decide ((8:Int)<(k:Int))=true:=decide_eq_true (by omega)
   have d2:decide (8<k)=true:=decide_eq_true h4;have K:=Lib.hid (And.intro (noL_many (e:=eRg) (G:=rgG) (m:=8) (by omega) hk hl h4) hr)
   clear hk hl hr H1 h4;go_wp2_with fail;exact ⟨rfl,_,l1,Mq.of K.out.2 0 (.inl rfl),.inr ⟨K.out.1,80,by decide,rfl⟩⟩
  ·have d1:decide ((8:Int)<(k:Int))=false:=decide_eq_false (by omega)
   have d2:decide (8<k)=false:=decide_eq_false h4;have hk4:k<=8:=by omega
   have L1:=Lib.hid (And.intro hk hl);have P:=Lib.hid (show Mq T (paint T w.heap.size 0) (Sr t 0) X l1 w w1 from Mq.of hr 0 (.inl rfl))
   clear hk hl hr H1 h4;go_wp2_with fail;go_loopw [8,16] (fun bv iv wr=>∃ (j:Nat) (T1:Mk) (lj:By) (L:Ks),j<=k/\iv=.int .i64 (j:Int)/\L.length=j/\(∀ a∈L,rgG a)/\l=eN k++(L.flatMap eRg++lj)/\Mq T T1 (Sr t j) X lj w wr/\RsAt T1 wr t 59 63 bv L) (fun _ iv _=>k-(intOf iv).toNat)
   case atStart=>
    exact ⟨0,_,l1,[],Nat.zero_le _,rfl,rfl,(fun a ha=>by cases ha),(by rw[List.flatMap_nil,List.nil_append];exact L1.out.2),P.out,RsAt.nil⟩
   case round=>
    obtain ⟨j,T1,lj,L,hj,rfl,hlen,hG,hl,hM,hV⟩:=hrel;obtain ⟨wo,rfl⟩:∃ wo:World,wo=wr:=⟨_,rfl⟩;obtain ⟨A,c,hbv,hlc,hcm,-⟩:=hV.form;subst hbv;rw[hlen] at hV ⊢
    by_cases hlt:j<k
    ·have hd:decide ((j:Int)<(k:Int))=true:=decide_eq_true (by omega)
     have hd2:decide (j<k)=true:=decide_eq_true hlt;obtain ⟨x1,x2,x3⟩:=HX.out;have hTX:T1 X=T X:=hM.tag X HI.out.lt;have hTX1:T1 X≠t+1+j:=by rw[hTX];exact fun e=>x1 (by unfold Hk;omega)
     have H3:=Lib.hid (rdring_any T1 (t+1+j) X C lj wo (hM.rd.inv HI.out) hTX1 (by rw[hTX];exact x2) (by omega) (fun i hi e=>by
      by_cases h:i<w.heap.size
      ·rw[hM.tag i h] at e
       exact HF.out i h (by unfold Hk;omega)
      ·rcases hM.mks i (by omega) with h2|h2
       ·omega
       ·omega) (hM.rd.row hCX RC.out))
     have MO:=Lib.hid hM;have VO:=Lib.hid hV;have GO:=Lib.hid (And.intro hG (And.intro hl hlen));have HTX:=Lib.hid hTX;clear hM hV hG hl hlen hlc x1 x2 x3 hTX hTX1;go_wp2_with fail;refine H3.out.mono ?_;rintro e w3 ⟨T3,l3,hM3,⟨r,v,hx,hl3,rfl,vi,rfl,hvi⟩|⟨hn,z,hz,rfl⟩⟩
     ·have HXX:=HX.out
      obtain ⟨Ai,ci,hbi,-,-,-⟩:=hvi.form;subst hbi;have v3:=VO.out.fr hM3.fr (fun c h1 h2 e=>HXX.1 (by rw[<-HTX.out,<-e];unfold Hk;have:=GO.out.2.2;omega))
      have M3:=Lib.hid (show Mq T T3 (Sr t (j+1)) X l3 w w3 from (MO.out.mono (fun c h=>by unfold Sr at h ⊢;omega)).trans HI.out (hM3.mono (fun c h=>by unfold S0 at h;unfold Sr;omega)))
      have b4:=(Below.refl w3.heap.size w3).alloc (Nat.le_refl _) (.cells (rgA r.off (.slice Ai r.l.length ci)) 59);obtain ⟨w4,hw4⟩:∃ w4,w4=w3.alloc (.cells (rgA r.off (.slice Ai r.l.length ci)) 59):=⟨_,rfl⟩;rw[<-hw4] at b4;have r4:row w4 w3.heap.size=some ([.bool r.off,.slice Ai r.l.length ci]:List Value).toArray:=by rw[hw4,zA _ _ _ _ rfl];unfold rgA;rfl
      have v4:=v3.fr (Fr.new (H:=fun _=>False) b4 0) (fun _ _ _ h=>h)
      have hvi4:=Lib.hid (hvi.fr (Fr.new (H:=fun _=>False) b4 0) (fun h=>h))
      have M4:=Lib.hid (M3.out.more HI.out (b4.mono M3.out.rd.size) 0 (.inl rfl));have V4:=Lib.hid v4;obtain ⟨xs,hxs,hel⟩:=v4.own;have HXS:=Lib.hid (And.intro hxs hel);have L3:=Lib.hid (And.intro hx hl3);have HXX:=Lib.hid HXX;subst hw4;clear hM3 hx hl3 v3 v4 b4 H3 VO MO M3 hel hvi;go_wp2_with (refine wpl_appK rfl (.tmp 18) (.tmp 21) rfl rins_u rin_info (rgA_size _ _) (by decide) (by decide) hxs r4 rfl (fun v hv=>by simp at hv;rcases hv with rfl|rfl<;>rfl) (by have:=GO.out.2.2;omega) rfl rfl ?_;intro v5 w5 ho5 hg5 ht5)
      obtain ⟨g1,g2,g3⟩:=GO.out;have V5:=V4.out.app (r:=r) HXS.out.1 HXS.out.2 ho5 hg5 ht5 (by rw[g3];exact hvi4.out)
      have M5:=M4.out.more HI.out (V4.out.fresh M4.out (fun i hi e=>HF.out i hi (by unfold Hk;omega)) hg5) t (.inr ⟨by omega,by omega⟩)
      refine ⟨⟨j+1,_,l3,L++[r],by omega,by rw[Int.natCast_succ],by rw[List.length_append,g3];rfl,fun a ha=>?_,?_,M5,V5⟩,?_⟩
      ·rcases List.mem_append.1 ha with h1|h1
       ·exact g1 a h1
       ·rw[List.mem_singleton.1 h1];exact L3.out.1
      ·rw[g2,L3.out.2,List.flatMap_append]
       simp only[List.flatMap_cons,List.flatMap_nil,List.append_nil,List.append_assoc]
      ·simp only[intOf]
       omega
     ·have g:=GO.out
      have K:=Lib.hid (And.intro (noL (e:=eRg) (G:=rgG) (R:=rgS) (m:=8) eRg_unq (by omega) g.1 L1.out.1 (by omega) g.2.1 hn) (And.intro hz (show Mq T T3 (Sr t 8) X l3 w w3 from (MO.out.mono (fun c h=>by unfold Sr at h ⊢;omega)).trans HI.out (hM3.mono (fun c h=>by unfold S0 at h;unfold Sr;omega)))))
      clear hn hz hM3 H3 g;go_wp2_with fail;exact ⟨rfl,_,l3,K.out.2.2,.inr ⟨K.out.1,z,K.out.2.1,rfl⟩⟩
    ·obtain rfl:j=k:=by omega
     have hd:decide ((j:Int)<(j:Int))=false:=decide_eq_false (by omega)
     have hd2:decide (j<j)=false:=decide_eq_false (by omega)
     have K:=Lib.hid (And.intro hM (And.intro hV (And.intro hG (And.intro hl hlen))));clear hM hV hG hl hlen hlc;go_wp2_with fail;go_ret;obtain ⟨m,vv,g1,g2,g3⟩:=K.out;exact ⟨_,lj,m.mono (fun c h=>by unfold Sr at h ⊢;omega),.inl ⟨L,_,⟨by omega,g1⟩,by rw[g2];unfold eL;rw[g3,List.append_assoc],rfl,vv⟩⟩
 ·have K:=Lib.hid (And.intro (noL_count (e:=eRg) (G:=rgG) (m:=8) (by omega) hn) (And.intro hz hr))
  clear hn hz hr H1;go_wp2_with fail;exact ⟨rfl,_,l1,Mq.of K.out.2.2 0 (.inl rfl),.inr ⟨K.out.1,z,K.out.2.1,rfl⟩⟩
theorem sl_off{D R m cu:Nat}{Au:Option Addr}{F:Bf}{c:Array Value}{w:World}(h:Sl w D Au m cu F)(hr:row w R=some c)(hc:∀ (i:Nat) (v:Int),c[i]? ≠some (.int .u8 v))(c':Array Value):Sl (w.setRow R c') D Au m cu F:=by
 refine ⟨h.le,fun hm=>?_⟩
 obtain ⟨g,o,e,hg,hx⟩:=h.at_ hm;refine ⟨g,o,e,hg,fun i hi=>?_⟩
 have hne:g≠R:=fun e=>by
  subst e;have h0:=hx 0 hm;rw[zC hr] at h0;exact hc _ _ h0
 rw[<-hx i hi];exact World.cell?_of_block (w:=w) (setRow_other w R g _ hne)
theorem rep_nob(a b d:Int)(x:Value)(hx:∀ v,x≠.int .u8 v):∀ (i:Nat) (v:Int),(#[.int .i64 a,.int .i64 b,.int .i64 d,x]:Array Value)[i]? ≠some (.int .u8 v)
 |0,v,h=>by cases h
 |1,v,h=>by cases h
 |2,v,h=>by cases h
 |3,v,h=>hx v (Option.some.inj h)
 |i+4,v,h=>by rw[Array.getElem?_eq_none (by show 4<=i+4;omega)] at h;cases h
theorem partr_any(X:Nat)(l:By)(w:World)(h:RdI X l w):
  Calls Tryz.prog 114 #[.pointer (some ⟨X,0,none⟩),.func (.func 115) #[] #[]] w (RdOut X l eRp rpG (rvR w.heap.size) w):=by
 obtain ⟨R,hR⟩:∃ R,R=w.heap.size:=⟨_,rfl⟩;obtain ⟨w0,hw0⟩:∃ w0,w0=w.alloc (.cells #[.int .i64 0,.int .i64 0,.int .i64 0,zR] 33):=⟨_,rfl⟩;have b0:Below w.heap.size w w0:=by rw[hw0];exact (Below.refl _ _).alloc (Nat.le_refl _) _
 have r0:row w0 R=some #[.int .i64 0,.int .i64 0,.int .i64 0,zR]:=by rw[hw0,hR];exact zA _ _ _ _ rfl
 have hXR:X<R:=by rw[hR];exact h.lt
 have HI:=Lib.hid h;have R0:=Lib.hid r0;have B0:=Lib.hid b0;obtain ⟨A,c,hr,hs,hl⟩:=h;have hX:=zK hr;have hle:=hs.le;obtain ⟨P,hP⟩:∃ P,P=min l.length 8192:=⟨_,rfl⟩;have hPl:P<=l.length:=by omega
 have hP8:P<=8192:=by omega
 have hT:(l.take P).length=P:=by rw[List.length_take];omega
 have hif:(if (8192:Int)<(l.length:Int) then (8192:Int) else (l.length:Int))=(P:Int):=by split<;>omega
 have hmn:min (l.length:Int) 8192=(P:Int):=by omega
 have q0:=fun w=>run_upto (P:=Tryz.prog) zZ u8_i A l.length c P (by omega) w
 have HS:=Lib.hid (show ∀ w1,Below w.heap.size w w1->Sl w1 w1.heap.size A P c (lf (l.take P)) from fun w1 hb=>((((hs.below (hb.mono (Nat.le_of_lt hX))).more (Nat.le_trans (Nat.le_of_lt hX) hb.size)).upto P hPl).congr fun i hi=>(lf_take _ _ _ hi).symm))
 have HR:=Lib.hid hr;have HP:=Lib.hid hP;have HT:=Lib.hid hT;obtain ⟨n,hn⟩:∃ n,n=l.length:=⟨_,rfl⟩;rw[<-hn] at hr hl hle hPl hif hmn q0;have HN:=Lib.hid hn;have r1:=zD b0 hr;have hz0:R<w0.heap.size:=zK r0;have HRR:=Lib.hid hR;clear hs hP hT hn b0 r0 hr;go_enter Tryz.func114,Tryz.ntmps114;go_upto_region 1 with fail
 rw[<-hw0,<-hR];clear hw0 hR;refine yE [] [0,1,2,3,4,5,6,7,8,9,10,11] (by kernel_rfl) (by kernel_rfl) (fun _ _ _ _ _ h=>h) fun Y=>?_
 have BY:=Lib.hid (onto B0.out B0.out.size Y.below);have R1:=Lib.hid (zD Y.below R0.out);have r1:=zD Y.below r1;have hz1:=Y.below.size;obtain ⟨w1,hw1⟩:∃ w1,w1=Y.val:=⟨_,rfl⟩;rw[<-hw1] at BY R1 r1 hz1 ⊢;clear hw1 Y;have a1:w1.cell? ⟨X,0,none⟩=some (.slice A n c):=zC r1 0;have H1:=Lib.hid (takerep_new P c A (lf (l.take P)) w1 (HS.out w1 BY.out) (by omega))
 simp only[wpFs,pk,List.getElem?_cons_zero,List.getElem?_cons_succ];have k1:=After.cell r1
 repeat (go_big_quiet_step (fail))
 refine wpQuiet_nil ?_;go_wp2_with fail;refine H1.out.mono ?_;rintro e w2 (⟨hz,rfl,hb⟩|⟨hz,Ar,cr,A1,c1,rfl,hu,ho,hb,hoff⟩)
 ·have hN:NoF eRp rpG l:=front_no HP.out (fun a ha=>by have:=eRp_le a ha;omega) fun a r ha=>rep_no (by rw[HT.out];exact hz) a ha r
  have HF:=Lib.hid hN;have B2:=Lib.hid (onto BY.out BY.out.size hb);obtain ⟨E,hE⟩:∃ E,E=trE P (lf (l.take P)):=⟨_,rfl⟩;rw[<-hE] at hz ⊢;have hzi:((E:Nat):Int)≠0:=by omega
  have hb3:=(Below.refl w2.heap.size w2).alloc (Nat.le_refl _) (.cells #[.int .i64 0,.int .i64 0,.int .i64 0,zR] 33);obtain ⟨w3,hw3⟩:∃ w3,w3=w2.alloc (.cells #[.int .i64 0,.int .i64 0,.int .i64 0,zR] 33):=⟨_,rfl⟩;rw[<-hw3] at hb3;have B3:=Lib.hid (onto B2.out B2.out.size hb3);clear hz hb H1 hE hN k1 a1 r1 q0 hb3;go_upto_region 3 with fail
  rw[<-hw3];clear hw3;go_wp2_with fail;refine (yM _ hzi _).mono ?_;rintro e w4 ⟨rfl,rfl⟩;go_wp2_with fail;exact ⟨rfl,.inr ⟨HF.out,_,l,hzi,rfl,Rdd.of HI.out B3.out⟩⟩
 ·obtain ⟨e1,e2,e3⟩:=rep_ok (l:=l.take P) (by rw[HT.out];exact hz)
  have hd:=front_drop e1
  have hel:(eRp (rpT (lf (l.take P)))).length=trO (lf (l.take P)) 2:=by
   have h1:=congrArg List.length e1;rw[List.length_append,List.length_drop] at h1;omega
  rw[hel] at hd;rw[HT.out] at e3;obtain ⟨r,hr⟩:∃ r,r=rpT (lf (l.take P)):=⟨_,rfl⟩;have ev:repV (puX (lf (l.take P)) 0:Nat) (puX (lf (l.take P)) 1:Nat) (puX (lf (l.take P)) 2:Nat) (.slice Ar (trT (lf (l.take P))) cr)=.agg #[.int .i64 r.c,.int .i64 r.n,.int .i64 r.m,.slice Ar r.T cr]:=by rw[hr];rfl
  have hu:Sl w2 w2.heap.size Ar r.T cr r.f:=by rw[hr];exact hu
  have HO:=Lib.hid (show ∀ k,k<w.heap.size->Off k r.T Ar by rw[hr];exact fun k hk=>hoff k (Nat.lt_of_lt_of_le hk BY.out.size))
  clear hoff;rw[ev];rw[<-hr] at hd e2;obtain ⟨C,hC⟩:∃ C:Array Value,C=#[.int .i64 r.c,.int .i64 r.n,.int .i64 r.m,.slice Ar r.T cr]:=⟨_,rfl⟩;have hb3:=(Below.refl w2.heap.size w2).alloc (Nat.le_refl _) (.cells C 33);obtain ⟨w3,hw3⟩:∃ w3,w3=w2.alloc (.cells C 33):=⟨_,rfl⟩;rw[<-hw3] at hb3;have q3:row w3 w2.heap.size=some C:=by rw[hw3];exact zA _ _ _ _ rfl
  have B3:=Lib.hid (onto BY.out BY.out.size (onto hb hb.size hb3));have r2:=zD hb3 (zD hb r1);have R3:=Lib.hid (zD hb3 (zD hb R1.out));have f2:=zJ r2 0;have a2:w3.cell? ⟨X,0,none⟩=some (.slice A n c):=zC r2 0;have RX:=Lib.hid r2;have Q3:=Lib.hid q3;have HU:=Lib.hid ((hu.below hb3).more hb3.size);have hz2:=hb.size;have hz3:=hb3.size;obtain ⟨L,hL⟩:∃ L,L=trO (lf (l.take P)) 2:=⟨_,rfl⟩;rw[<-hL] at hd e3 ⊢;have HD:=Lib.hid (And.intro e2 hd);have s1:IntKind.i64.wrap ((P:Int)-((P-L:Nat):Int))=(L:Int):=by rw[show (P:Int)-((P-L:Nat):Int)=(L:Int) by omega,IntKind.wrap_i64];omega
  have s2:(P:Int)-((P-L:Nat):Int)=(L:Int):=by omega
  have q1:=fun w=>xE (P:=Tryz.prog) zZ u8_i A n c L (by omega) w
  have hcw:=zL r2 0 (.slice (cutA A c L) (n-L) (c-L));rw[show #[Value.slice A n c].setIfInBounds 0 (.slice (cutA A c L) (n-L) (c-L))=#[.slice (cutA A c L) (n-L) (c-L)] from rfl] at hcw
  rw[hC] at hw3 q3;clear hz hb H1 ho hL e1 e2 hd k1 a1 r1 q0 hu hr ev hel hb3 q3;go_upto_region 3 with fail
  rw[<-hw3];clear hw3;go_wp2_with fail;refine (yQ _).mono ?_;rintro e w4 ⟨rfl,rfl⟩;go_upto_region 5 with fail
  have q5:row (w4.setRow X #[.slice (cutA A c L) (n-L) (c-L)]) w2.heap.size=some C:=by rw[zF _ _ _ _ (by omega)];exact Q3.out
  have p5:row (w4.setRow X #[.slice (cutA A c L) (n-L) (c-L)]) R=some #[.int .i64 0,.int .i64 0,.int .i64 0,zR]:=by rw[zF _ _ _ _ (by omega)];exact R3.out
  have PX:=Lib.hid (show Rdd X (l.drop L) w (w4.setRow X #[.slice (cutA A c L) (n-L) (c-L)]) from by
   have hn:=HN.out;refine ⟨cutA A c L,c-L,?_,?_,by rw[List.length_drop];omega⟩
   ·rw[List.length_drop,<-hn];exact Put.of B3.out hX _
   ·rw[List.length_drop,<-hn];exact rdd_cut HI.out B3.out RX.out hn (by omega) _)
  have UX:=Lib.hid (vt_set HU.out RX.out (.slice (cutA A c L) (n-L) (c-L)));have hz5:(w4.setRow X #[.slice (cutA A c L) (n-L) (c-L)]).heap.size=w4.heap.size:=by simp
  obtain ⟨w5,hw5⟩:∃ w5,w5=w4.setRow X #[.slice (cutA A c L) (n-L) (c-L)]:=⟨_,rfl⟩;rw[<-hw5] at q5 p5 PX UX hcw hz5 ⊢;rw[hC] at q5;have P5:=Lib.hid p5;have HRw:=Lib.hid (show w.heap.size<=R by rw[HRR.out];exact Nat.le_refl _)
  have HC:=Lib.hid hC;clear f2 a2 r2 RX HU hw5;go_wp2_with fail;refine bodyPost_ret (v:=rpV r Ar cr) (yV Tryz.results114 _ _ R _ _ rfl (zE P5.out _) Tryz.underlying33 rfl (by kernel_rfl)) rfl (.inl ⟨r,_,l.drop L,HD.out.1,HD.out.2,rfl,⟨Ar,cr,rfl,?_,HO.out⟩,Rdd.up PX.out HI.out HRw.out _⟩)
  have hz:(w5.setRow R #[.int .i64 r.c,.int .i64 r.n,.int .i64 r.m,.slice Ar r.T cr]).heap.size=w5.heap.size:=by simp
  rw[hz];exact sl_off UX.out P5.out (rep_nob _ _ _ _ (fun v h=>by cases h)) _
theorem musk_ok(v:Value)(w:World):Calls Tryz.prog 105 #[v,.int .i64 0] w fun e w'=>e=.returned v/\w'=w:=by
 go_enter Tryz.func105,Tryz.ntmps105;go_wp2_with fail;refine (yQ _).mono ?_;rintro e w' ⟨rfl,rfl⟩;go_wp2_with fail;go_ret;exact ⟨rfl,rfl⟩
theorem musk_bad(v:Value)(E:Int)(h:E≠0)(w:World):Calls Tryz.prog 105 #[v,.int .i64 E] w fun e w'=>e=.panicked (pnE E)/\w'=w:=by
 go_enter Tryz.func105,Tryz.ntmps105;go_wp2_with fail;refine (yM E h _).mono ?_;rintro e w' ⟨rfl,rfl⟩;go_wp2_with fail;exact ⟨rfl,rfl,rfl⟩
theorem mustt_ok(v:Value)(w:World):Calls Tryz.prog 116 #[v,.int .i64 0] w fun e w'=>e=.returned v/\w'=w:=by
 go_enter Tryz.func116,Tryz.ntmps116;go_wp2_with fail;refine (yQ _).mono ?_;rintro e w' ⟨rfl,rfl⟩;go_wp2_with fail;go_ret;exact ⟨rfl,rfl⟩
theorem mustt_bad(v:Value)(E:Int)(h:E≠0)(w:World):Calls Tryz.prog 116 #[v,.int .i64 E] w fun e w'=>e=.panicked (pnE E)/\w'=w:=by
 go_enter Tryz.func116,Tryz.ntmps116;go_wp2_with fail;refine (yM E h _).mono ?_;rintro e w' ⟨rfl,rfl⟩;go_wp2_with fail;exact ⟨rfl,rfl,rfl⟩
abbrev rvK(K:Ks)(v:Value)(w:World):Prop:=∃ B ck,v=.pointer (some ⟨B,0,none⟩)/\row w B=some ck/\KsC 0 ksZ ck K
def oneX(X:Nat):Mk:=fun k=>if k=X then 1 else 0
theorem oneX_x(X:Nat):oneX X X=1:=if_pos rfl
theorem oneX_le(X k:Nat):oneX X k<=1:=by unfold oneX;split<;>omega
theorem rdkeys_any(X:Nat)(l:By)(w:World)(h:RdI X l w):Calls Tryz.prog 56 #[.pointer (some ⟨X,0,none⟩)] w (RdOut X l (eL eRg) okK rvK w):=by
 obtain ⟨w1,hw1⟩:∃ w1,w1=w.alloc (.cells #[.pointer (some ⟨X,0,none⟩)] 176):=⟨_,rfl⟩;have b1:Below w.heap.size w w1:=by rw[hw1];exact (Below.refl _ _).alloc (Nat.le_refl _) _
 have r1:row w1 w.heap.size=some #[.pointer (some ⟨X,0,none⟩)]:=by rw[hw1];exact zA _ _ _ _ rfl
 have H1:=Lib.hid (lsring_any (oneX X) 2 X w.heap.size l w1 (h.below b1) (by rw[oneX_x];unfold Hk;omega) (by rw[oneX_x];omega) (by omega) (fun k _ hk=>by have:=oneX_le X k;unfold Hk at hk;omega) r1)
 have B1:=Lib.hid b1;have HI:=Lib.hid h;have I1:=Lib.hid (h.below b1);have k1:=zC r1 0;have k1:w1.cell? ⟨w.heap.size,0,none⟩=some (.pointer (some ⟨X,0,none⟩)):=k1;clear h b1 r1;go_enter Tryz.func56,Tryz.ntmps56;go_upto_region 1 with fail
 rw[<-hw1];clear hw1;go_wp2_with fail;refine H1.out.mono ?_;rintro e w2 ⟨T2,l2,hM,⟨K,v,hg,hl,rfl,hR⟩|⟨hn,z,hz,rfl⟩⟩
 ·have D2:=Lib.hid (Rdd.behind HI.out B1.out hM.rd)
  have I2:=Lib.hid (hM.rd.inv I1.out);have H2':=Lib.hid (pof_any (fun _=>0) 1 K v w2 hR.rd (by have:=hg.1;omega) (fun r hr=>by have:=(hg.2 r hr).1;omega) (fun k _ h=>by unfold Hk at h;omega))
  have HG:=Lib.hid (And.intro hg hl);clear hM hg hl hR H1 k1;go_wp2_with fail;refine H2'.out.mono ?_;rintro e w3 ⟨q,T3,rfl,-,hok,hnk⟩;have D3:=Lib.hid (Rdd.calm HI.out D2.out hnk.below);clear hnk H2' D2
  by_cases hK:okK K
  ·have e0:ofE K=0:=by unfold ofE;rw[if_pos (ofB_iff.2 hK)]
   obtain ⟨B,rfl,hkp⟩:=hok e0;obtain ⟨c,hr,hc⟩:=hkp.at_;rw[e0];have R:=Lib.hid (And.intro hr hc);have HK:=Lib.hid hK;clear hkp hr hc hok e0 hK;go_wp2_with fail;refine (musk_ok _ _).mono ?_;rintro e w4 ⟨rfl,rfl⟩;go_wp2_with fail;go_ret;exact .inl ⟨K,_,l2,HK.out,HG.out.2,rfl,⟨B,c,rfl,R.out.1,R.out.2⟩,D3.out⟩
  ·have e1:ofE K=1:=by unfold ofE;rw[if_neg (fun h=>hK (ofB_iff.1 h))]
   rw[e1];have KN:=Lib.hid (keys_no HG.out.1 hK HG.out.2);clear hok e1 hK;go_wp2_with fail;refine (musk_bad _ 1 (by omega) _).mono ?_
   rintro e w4 ⟨rfl,rfl⟩;go_wp2_with fail;exact ⟨rfl,.inr ⟨KN.out,1,l2,by omega,rfl,D3.out⟩⟩
 ·have K:=Lib.hid (And.intro (hn.less (G':=okK) fun M hM=>okK.lg hM) (And.intro hz (Rdd.behind HI.out B1.out hM.rd)))
  clear hn hz hM H1 k1;go_wp2_with fail;exact ⟨rfl,.inr ⟨K.out.1,z,l2,K.out.2.1,rfl,K.out.2.2⟩⟩
theorem seNo_1{l:By}(h:NoF eN u63 l):NoF eSe seG l:=no_1 (e1:=eN) (G1:=u63) (e2:=fun s:Se=>eN s.q.toNat++eRp (seR s)) (p:=fun s:Se=>s.id.toNat) (q:=fun s=>s) (fun _=>rfl) (fun c hc=>by have h1:=hc.1;show c.id.toNat<9223372036854775808;omega) h
theorem seNo_2{l l1:By}{n:Nat}(hn:u63 n)(hl:l=eN n++l1)(h:NoF eN u63 l1):NoF eSe seG l:=
 no_2 (e1:=eN) (G1:=u63) (G2:=seG) (e2:=fun s:Se=>eN s.q.toNat++eRp (seR s)) (p:=fun s:Se=>s.id.toNat) (q:=fun s=>s) (fun _=>rfl) (fun c hc=>⟨by have h1:=hc.1;show c.id.toNat<9223372036854775808;omega,hc⟩) eN_unq hn hl
  (no_1 (e1:=eN) (G1:=u63) (e2:=fun s:Se=>eRp (seR s)) (p:=fun s:Se=>s.q.toNat) (q:=fun s=>s) (fun _=>rfl) (fun c hc=>by have h1:=hc.2.1;show c.q.toNat<9223372036854775808;omega) h)
theorem seNo_3{l l1 l2:By}{n m:Nat}(hn:u63 n)(hl:l=eN n++l1)(hm:u63 m)(h1:l1=eN m++l2)(h:NoF eRp rpG l2):NoF eSe seG l:=
 no_2 (e1:=eN) (G1:=u63) (G2:=seG) (e2:=fun s:Se=>eN s.q.toNat++eRp (seR s)) (p:=fun s:Se=>s.id.toNat) (q:=fun s=>s) (fun _=>rfl) (fun c hc=>⟨by have h1:=hc.1;show c.id.toNat<9223372036854775808;omega,hc⟩) eN_unq hn hl
  (no_2 (e1:=eN) (G1:=u63) (G2:=rpG) (e2:=eRp) (p:=fun s:Se=>s.q.toNat) (q:=seR) (fun _=>rfl) (fun c hc=>⟨by have h1:=hc.2.1;show c.q.toNat<9223372036854775808;omega,hc.2.2⟩) eN_unq hm h1 h)
abbrev rvS(D:Nat)(s:Se)(v:Value)(w:World):Prop:=∃ A c,v=.agg #[.int .i64 s.id,.int .i64 s.q,.int .i64 s.c,.int .i64 s.n,.int .i64 s.m,.slice A s.T c]/\Sl w w.heap.size A s.T c s.f/\∀ k,k<D->Off k s.T A
theorem six_nob(a b d e f:Int)(A:Option Addr)(n c:Nat):∀ (i:Nat) (v:Int),(#[.int .i64 a,.int .i64 b,.int .i64 d,.int .i64 e,.int .i64 f,.slice A n c]:Array Value)[i]? ≠some (.int .u8 v)
 |0,v,h=>by cases h
 |1,v,h=>by cases h
 |2,v,h=>by cases h
 |3,v,h=>by cases h
 |4,v,h=>by cases h
 |5,v,h=>by cases h
 |i+6,v,h=>by rw[Array.getElem?_eq_none (by show 6<=i+6;omega)] at h;cases h
theorem rdseat_any(X C:Nat)(l:By)(w:World)(h:RdI X l w)(hC:row w C=some #[.pointer (some ⟨X,0,none⟩)]):
  Calls Tryz.prog 113 #[.pointer (some ⟨C,0,none⟩)] w (RdOut X l eSe seG (rvS w.heap.size) w):=by
 obtain ⟨w1,hw1⟩:∃ w1,w1=w.alloc (.cells #[.int .i64 0,.int .i64 0,.int .i64 0,.int .i64 0,.int .i64 0,.slice none 0 0] 121):=⟨_,rfl⟩;have b1:Below w.heap.size w w1:=by rw[hw1];exact (Below.refl _ _).alloc (Nat.le_refl _) _
 have r1:row w1 w.heap.size=some #[.int .i64 0,.int .i64 0,.int .i64 0,.int .i64 0,.int .i64 0,.slice none 0 0]:=by rw[hw1];exact zA _ _ _ _ rfl
 have hXl:=h.lt;have hCl:=zK hC
 have hCX:C≠X:=fun e=>by
  obtain ⟨A,c,hr,-⟩:=h;rw[e] at hC;rw[hC] at hr;simp at hr
 have B1:=Lib.hid b1;have R1:=Lib.hid r1;have I1:=Lib.hid (h.below b1);have RC:=Lib.hid (zD b1 hC);have HI:=Lib.hid h;clear h b1 r1 hC;go_enter Tryz.func113,Tryz.ntmps113;go_upto_region 1 with fail
 rw[<-hw1];clear hw1;refine zY [([0,2,4],1,false),([],3,false),([],5,false),([6],7,true)] [] (fun y=>row y C=some #[.pointer (some ⟨X,0,none⟩)]) (by kernel_rfl) (by kernel_rfl) (fun _ _ _ _ _ h=>h) (by rw[zS];exact RC.out) ?_
 have b2:=zQ (Below.refl w1.heap.size w1) 1;have z1:w.heap.size<=w1.heap.size:=B1.out.size;have B2:=Lib.hid (onto B1.out B1.out.size b2);have I2:=Lib.hid (I1.out.below b2);have R2:=Lib.hid (zD b2 R1.out);have RC2:=Lib.hid (zD b2 RC.out);obtain ⟨w2,hw2⟩:∃ w2,w2=w1.drewN 1:=⟨_,rfl⟩;rw[<-hw2] at B2 I2 R2 RC2 ⊢;clear hw2 b2 B1 I1 R1 RC;have hzz:=B2.out.size;have H3:=Lib.hid (rdnum_any X l w2 I2.out);have hq:=fun y:In (fun y=>row y C=some #[.pointer (some ⟨X,0,none⟩)])=>(zC y.ok 0:y.val.cell? ⟨C,0,none⟩=_)
 have hne:Nonempty (In (fun y=>row y C=some #[.pointer (some ⟨X,0,none⟩)])):=⟨⟨w2,RC2.out⟩⟩
 simp only[wpFl,pk,List.getElem?_cons_zero,List.getElem?_cons_succ];refine zV ?_
 repeat (go_big_quiet_step (fail))
 refine wpQuiet_nil ?_;clear hq;go_wp2_with fail;refine H3.out.mono ?_;rintro e w3 (⟨n,v,l1,hn,hl,rfl,rfl,hr⟩|⟨hn,z,l1,hz,rfl,hr⟩)
 ·have rc3:=hr.row hCX RC2.out
  have R3:=Lib.hid (hr.row (by omega) R2.out)
  have RC3:=Lib.hid rc3;have I3:=Lib.hid (hr.inv I2.out);have D3:=Lib.hid (Rdd.behind HI.out B2.out hr);have L1:=Lib.hid (And.intro hn hl);have H4:=Lib.hid (rdnum_any X l1 w3 I3.out);have hz3:=hr.size;clear hl hr hn H3 I2 R2;go_wp2_with fail;refine ⟨fun y=>row y C=some #[.pointer (some ⟨X,0,none⟩)],rc3,.inr ⟨rc3,fun _ h=>h⟩,?_⟩
  show wpQuiet _ _ _ _ _ _;refine wpQuiet_nil ?_;clear rc3;go_wp2_with fail;refine H4.out.mono ?_;rintro e w4 (⟨m,v,l2,hn,hl,rfl,rfl,hr⟩|⟨hn,z,l2,hz,rfl,hr⟩)
  ·have rc4:=hr.row hCX RC3.out
   have R4:=Lib.hid (hr.row (by omega) R3.out)
   have RC4:=Lib.hid rc4;have I4:=Lib.hid (hr.inv I3.out);have D4:=Lib.hid (Rdd.trans HI.out D3.out hr);have L2:=Lib.hid (And.intro hn hl);have H5:=Lib.hid (partr_any X l2 w4 I4.out);have hz4:=hr.size;clear hl hr hn H4 I3 R3 D3 RC3;go_wp2_with fail;refine ⟨fun y=>row y C=some #[.pointer (some ⟨X,0,none⟩)],rc4,.inr ⟨rc4,fun _ h=>h⟩,?_⟩
   show wpQuiet _ _ _ _ _ _;refine wpQuiet_nil ?_;clear rc4;go_wp2_with fail;refine H5.out.mono ?_;rintro e w5 (⟨r,v,l3,hg,hl,rfl,⟨A,c,rfl,hsl,hoff⟩,hr⟩|⟨hn,z,l3,hz,rfl,hr⟩)
   ·have rc5:=hr.row hCX RC4.out
    have r5:=hr.row (by omega) R4.out
    have R5:=Lib.hid r5;have D5:=Lib.hid (Rdd.trans HI.out D4.out hr);have L3:=Lib.hid (And.intro hg hl);have U5:=Lib.hid (And.intro hsl (show ∀ k,k<w.heap.size->Off k r.T A from fun k hk=>hoff k (by omega)))
    have bd:=se_b3;clear hl hr hg hsl hoff H5 I4 R4 D4 RC4;go_wp2_with fail;refine ⟨fun y=>row y C=some #[.pointer (some ⟨X,0,none⟩)],rc5,.inr ⟨rc5,fun _ h=>h⟩,?_⟩
    show wpQuiet _ _ _ _ _ _;refine zV ?_;have hne:Nonempty (In (fun y=>row y C=some #[.pointer (some ⟨X,0,none⟩)])):=⟨⟨w5,rc5⟩⟩
    repeat (go_big_quiet_step (fail))
    refine wpQuiet_nil ?_;clear rc5 bd;go_wp2_with fail;refine ⟨fun _=>True,trivial,?_⟩
    show wpQuiet _ _ _ _ _ _;refine wpQuiet_nil ?_;go_wp2_with fail;have hz5:(w5.setRow w.heap.size #[.int .i64 (n:Int),.int .i64 (m:Int),.int .i64 r.c,.int .i64 r.n,.int .i64 r.m,.slice A r.T c]).heap.size=w5.heap.size:=by simp
    have h1:=L1.out.1;have h2:=L2.out.1;refine bodyPost_ret (v:=.agg #[.int .i64 (n:Int),.int .i64 (m:Int),.int .i64 r.c,.int .i64 r.n,.int .i64 r.m,.slice A r.T c]) (yV Tryz.results113 _ _ w.heap.size _ _ rfl (zE R5.out _) Tryz.underlying121 rfl (by exact se_i)) rfl (.inl ⟨⟨(n:Int),(m:Int),r.c,r.n,r.m,r.T,r.f⟩,_,l3,⟨⟨by show (0:Int)<=(n:Int);omega,by show (n:Int)<9223372036854775808;omega⟩,⟨by show (0:Int)<=(m:Int);omega,by show (m:Int)<9223372036854775808;omega⟩,L3.out.1⟩,?_,rfl,⟨A,c,rfl,?_,U5.out.2⟩,Rdd.up D5.out HI.out (Nat.le_refl _) _⟩)
    ·rw[L1.out.2,L2.out.2,L3.out.2]
     unfold eSe;rw[Int.toNat_natCast,Int.toNat_natCast,List.append_assoc,List.append_assoc];rfl
    ·rw[hz5]
     exact sl_off U5.out.1 R5.out (six_nob _ _ _ _ _ _ _ _) _
   ·have K:=Lib.hid (And.intro (seNo_3 L1.out.1 L1.out.2 L2.out.1 L2.out.2 hn) (And.intro hz (Rdd.trans HI.out D4.out hr)))
    clear hn hz hr H5;go_wp2_with fail;exact ⟨rfl,.inr ⟨K.out.1,z,l3,K.out.2.1,rfl,K.out.2.2⟩⟩
  ·have K:=Lib.hid (And.intro (seNo_2 L1.out.1 L1.out.2 hn) (And.intro hz (Rdd.trans HI.out D3.out hr)))
   clear hn hz hr H4;go_wp2_with fail;exact ⟨rfl,.inr ⟨K.out.1,z,l2,K.out.2.1,rfl,K.out.2.2⟩⟩
 ·have K:=Lib.hid (And.intro (seNo_1 hn) (And.intro hz (Rdd.behind HI.out B2.out hr)))
  clear hn hz hr H3;go_wp2_with fail;exact ⟨rfl,.inr ⟨K.out.1,z,l1,K.out.2.1,rfl,K.out.2.2⟩⟩
theorem lsseat_any(T:Mk)(t X C:Nat)(l:By)(w:World)(h:RdI X l w)(hX:T X≠t)(hX0:T X≠0)(ht:t≠0)(hf:∀ k,k<w.heap.size->T k≠t)(hC:row w C=some #[.pointer (some ⟨X,0,none⟩)]):
  Calls Tryz.prog 112 #[.pointer (some ⟨X,0,none⟩),.int .i64 8,.func (.func 113) #[] #[.pointer (some ⟨C,0,none⟩)]] w
   (RdOutM X l (eL eSe) (LG 8 seG) (S0 t) (fun T' w' L v=>∃ A c,v=.slice A L.length c/\ElAt 6 seEl T' w' t A c L) T w):=by
 have hCX:C≠X:=fun e=>by
  obtain ⟨A,c,hr,-⟩:=h;rw[e] at hC;rw[hC] at hr;simp at hr
 have HI:=Lib.hid h;have H1:=Lib.hid (rdnum_any X l w h);have HF:=Lib.hid hf;have HX:=Lib.hid (And.intro hX (And.intro hX0 ht));have RC:=Lib.hid hC;clear h hf hX hX0 ht hC;go_enter Tryz.func112,Tryz.ntmps112;go_wp2_with fail;refine H1.out.mono ?_;rintro e w1 (⟨k,v,l1,hk,hl,rfl,rfl,hr⟩|⟨hn,z,l1,hz,rfl,hr⟩)
 ·by_cases h4:8<k
  ·have d1:decide ((8:Int)<(k:Int))=true:=decide_eq_true (by omega)
   have d2:decide (8<k)=true:=decide_eq_true h4;have K:=Lib.hid (And.intro (noL_many (e:=eSe) (G:=seG) (m:=8) (by omega) hk hl h4) hr)
   clear hk hl hr H1 h4;go_wp2_with fail;exact ⟨rfl,_,l1,Mq.of K.out.2 0 (.inl rfl),.inr ⟨K.out.1,80,by decide,rfl⟩⟩
  ·have d1:decide ((8:Int)<(k:Int))=false:=decide_eq_false (by omega)
   have d2:decide (8<k)=false:=decide_eq_false h4;have hk4:k<=8:=by omega
   have L1:=Lib.hid (And.intro hk hl);have P:=Lib.hid (show Mq T (paint T w.heap.size 0) (S0 t) X l1 w w1 from Mq.of hr 0 (.inl rfl))
   clear hk hl hr H1 h4;go_wp2_with fail;go_loopw [8,16] (fun bv iv wr=>∃ (j:Nat) (T1:Mk) (lj:By) (L:List Se) (A:Option Addr) (c:Nat),j<=k/\iv=.int .i64 (j:Int)/\bv=.slice A j c/\L.length=j/\(∀ a∈L,seG a)/\l=eN k++(L.flatMap eSe++lj)/\Mq T T1 (S0 t) X lj w wr/\ElAt 6 seEl T1 wr t A c L) (fun _ iv _=>k-(intOf iv).toNat)
   case atStart=>
    exact ⟨0,_,l1,[],none,0,Nat.zero_le _,rfl,rfl,rfl,(fun a ha=>by cases ha),(by rw[List.flatMap_nil,List.nil_append];exact L1.out.2),P.out,ElAt.nil _ _ _⟩
   case round=>
    obtain ⟨j,T1,lj,L,A,c,hj,rfl,rfl,hlen,hG,hl,hM,hV⟩:=hrel;obtain ⟨wo,rfl⟩:∃ wo:World,wo=wr:=⟨_,rfl⟩
    by_cases hlt:j<k
    ·have hd:decide ((j:Int)<(k:Int))=true:=decide_eq_true (by omega)
     have hd2:decide (j<k)=true:=decide_eq_true hlt;have H3:=Lib.hid (rdseat_any X C lj wo (hM.rd.inv HI.out) (hM.rd.row hCX RC.out));have MO:=Lib.hid hM;have VO:=Lib.hid hV;have GO:=Lib.hid (And.intro hG (And.intro hl hlen));clear hM hV hG hl hlen;go_wp2_with fail;refine H3.out.mono ?_;rintro e w3 (⟨s,v,l3,hx,hl3,rfl,⟨A',c',rfl,hsl,hoff⟩,hr3⟩|⟨hn,z,l3,hz,rfl,hr3⟩)
     ·have HXX:=HX.out
      have hTX:T1 X=T X:=MO.out.tag X HI.out.lt;have f3:=Rdd.fr (T:=T1) (T':=paint T1 wo.heap.size 0) hr3 (fun k hk=>zH hk)
      have v3:=VO.out.fr yL f3 (by rw[hTX];exact fun e=>HXX.1 e.symm) (by rw[hTX];exact fun e=>HXX.2.1 e.symm)
      have d3:RdS (paint T1 wo.heap.size 0) w3 0 A' s.T c' s.f:=⟨hsl,fun hn a ha=>by
       by_cases hk:a.block<wo.heap.size
       ·exact absurd rfl (hoff _ hk hn a ha)
       ·exact zP (by omega)⟩
      have M3:=Lib.hid (MO.out.trans HI.out (Mq.of hr3 0 (.inl rfl)));have b4:=(Below.refl w3.heap.size w3).alloc (Nat.le_refl _) (.cells #[.int .i64 s.id,.int .i64 s.q,.int .i64 s.c,.int .i64 s.n,.int .i64 s.m,.slice A' s.T c'] 121);obtain ⟨w4,hw4⟩:∃ w4,w4=w3.alloc (.cells #[.int .i64 s.id,.int .i64 s.q,.int .i64 s.c,.int .i64 s.n,.int .i64 s.m,.slice A' s.T c'] 121):=⟨_,rfl⟩;rw[<-hw4] at b4;have r4:row w4 w3.heap.size=some ([.int .i64 s.id,.int .i64 s.q,.int .i64 s.c,.int .i64 s.n,.int .i64 s.m,.slice A' s.T c']:List Value).toArray:=by rw[hw4,zA _ _ _ _ rfl]
      have E4:=v3.fr yL (Fr.new (H:=fun _=>False) b4 0) (fun h=>h) (fun h=>h)
      have D4:=d3.fr (Fr.new (H:=fun _=>False) b4 0) (fun h=>h)
      have M4:=Lib.hid (M3.out.more HI.out (b4.mono M3.out.rd.size) 0 (.inl rfl));have L3:=Lib.hid (And.intro hx hl3);have HXX:=Lib.hid HXX;have hlj:=GO.out.2.2;have E4':=Lib.hid E4;have D4':=Lib.hid D4;have R4':=Lib.hid r4;clear hr3 hx hl3 v3 d3 f3 b4 H3 VO MO M3 hsl hoff hTX E4 D4 r4;obtain rfl:=hlj;go_wp2_with (at_builtin;simp only[<-hw4];refine wpl_appAt yL rfl (.tmp 18) (.tmp 21) rfl ssl_u se_info rfl (by decide) (by decide) E4'.out R4'.out (x:=s) ⟨A',c',rfl,D4'.out⟩ (by omega) (fun e=>HXX.out.2.2 e.symm) (by simp[Act.eval]) (by simp[Act.eval]) ?_;intro A5 c5 w5 p5 f5)
      obtain ⟨g1,g2,-⟩:=GO.out;have M5:=M4.out.more HI.out (f5.below M4.out.rd.size (fun k hk e=>HF.out k hk (by rw[<-M4.out.tag k hk];exact e))) t (.inr rfl)
      refine ⟨⟨L.length+1,_,l3,L++[s],A5,c5,by omega,by rw[Int.natCast_succ],rfl,by rw[List.length_append];rfl,fun a ha=>?_,?_,M5,p5⟩,?_⟩
      ·rcases List.mem_append.1 ha with h1|h1
       ·exact g1 a h1
       ·rw[List.mem_singleton.1 h1];exact L3.out.1
      ·rw[g2,L3.out.2,List.flatMap_append]
       simp only[List.flatMap_cons,List.flatMap_nil,List.append_nil,List.append_assoc]
      ·simp only[intOf]
       omega
     ·have g:=GO.out
      have K:=Lib.hid (And.intro (noL (e:=eSe) (G:=seG) (R:=seS) (m:=8) eSe_unq (by omega) g.1 L1.out.1 (by omega) g.2.1 hn) (And.intro hz (MO.out.trans HI.out (Mq.of hr3 0 (.inl rfl)))))
      clear hn hz hr3 H3 g;go_wp2_with fail;exact ⟨rfl,_,l3,K.out.2.2,.inr ⟨K.out.1,z,K.out.2.1,rfl⟩⟩
    ·obtain rfl:j=k:=by omega
     have hd:decide ((j:Int)<(j:Int))=false:=decide_eq_false (by omega)
     have hd2:decide (j<j)=false:=decide_eq_false (by omega)
     have K:=Lib.hid (And.intro hM (And.intro hV (And.intro hG (And.intro hl hlen))));clear hM hV hG hl hlen;go_wp2_with fail;go_ret;obtain ⟨m,vv,g1,g2,g3⟩:=K.out;exact ⟨_,lj,m,.inl ⟨L,_,⟨by omega,g1⟩,by rw[g2];unfold eL;rw[g3,List.append_assoc],rfl,A,c,by rw[g3];rfl,vv⟩⟩
 ·have K:=Lib.hid (And.intro (noL_count (e:=eSe) (G:=seG) (m:=8) (by omega) hn) (And.intro hz hr))
  clear hn hz hr H1;go_wp2_with fail;exact ⟨rfl,_,l1,Mq.of K.out.2.2 0 (.inl rfl),.inr ⟨K.out.1,z,K.out.2.1,rfl⟩⟩
theorem ssNo_1{l:By}(h:NoF eN u63 l):NoF eSs ssG' l:=no_1 (e1:=eN) (G1:=u63) (e2:=eL eSe) (p:=fun p:Nat×List Se=>p.1) (q:=fun p=>p.2) (fun _=>rfl) (fun c hc=>hc.1) h
theorem ssNo_2{l l1:By}{n:Nat}(hn:u63 n)(hl:l=eN n++l1)(h:NoF (eL eSe) (LG 8 seG) l1):NoF eSs ssG' l:=
 no_2 (e1:=eN) (G1:=u63) (G2:=LG 8 seG) (e2:=eL eSe) (p:=fun p:Nat×List Se=>p.1) (q:=fun p=>p.2) (fun _=>rfl) (fun c hc=>hc.w) eN_unq hn hl h
theorem seG.b{s:Se}(h:seG s):i64B s.id/\i64B s.q/\i64B s.c/\i64B s.n/\i64B s.m/\s.T<=140737488351232:=by
 obtain ⟨⟨a1,a2⟩,⟨b1,b2⟩,⟨c1,c2⟩,⟨d1,d2⟩,⟨e1,e2⟩,f1⟩:=h;have c1:0<=s.c:=c1;have c2:s.c<9223372036854775808:=c2;have d1:0<=s.n:=d1;have d2:s.n<9223372036854775808:=d2;have e1:0<=s.m:=e1;have e2:s.m<9223372036854775808:=e2;have f1:s.T<=4096:=f1;exact ⟨⟨by omega,by omega⟩,⟨by omega,by omega⟩,⟨by omega,by omega⟩,⟨by omega,by omega⟩,⟨by omega,by omega⟩,by omega⟩
abbrev ST:Nat->Prop:=fun _=>True
theorem rdsess_any(T:Mk)(m X:Nat)(l:By)(w:World)(h:RdI X l w)(hX:T X=m)(hm:0<m)(hf:∀ k,k<w.heap.size->T k<=m):
  Calls Tryz.prog 57 #[.pointer (some ⟨X,0,none⟩)] w (RdOutM X l eSs ssG' ST (fun T' w' p v=>∃ B mv,v=.pointer (some ⟨B,0,none⟩)/\PtAt T' w' (m+2) B 0 #[] mv p.2 ((p.1:Int)-1)) T w):=by
 obtain ⟨C,hCe⟩:∃ C,C=w.heap.size:=⟨_,rfl⟩;obtain ⟨w1,hw1⟩:∃ w1,w1=w.alloc (.cells #[.pointer (some ⟨X,0,none⟩)] 176):=⟨_,rfl⟩;have b1:Below w.heap.size w w1:=by rw[hw1];exact (Below.refl _ _).alloc (Nat.le_refl _) _
 have r1:row w1 C=some #[.pointer (some ⟨X,0,none⟩)]:=by rw[hw1,hCe];exact zA _ _ _ _ rfl
 have hXl:=h.lt;have I1:=h.below b1;have H1:=Lib.hid (rdnum_any X l w1 I1);have hCX:C≠X:=by omega
 have I1:=Lib.hid I1;have B1:=Lib.hid b1;have HI:=Lib.hid h;have RC:=Lib.hid r1;have k1:w1.cell? ⟨C,0,none⟩=some (.pointer (some ⟨X,0,none⟩)):=zC r1 0;have HX:=Lib.hid (And.intro hX hm)
 have HF:=Lib.hid (show ∀ k,paint T w.heap.size 0 k<=m from fun k=>by
  unfold paint
  split
  ·rename_i h;exact hf k h
  ·omega)
 have hTX:paint T w.heap.size 0 X=m:=by rw[zH hXl];exact hX
 have HCe:=Lib.hid hCe;have M1:=Lib.hid (show Mq T (paint T w.heap.size 0) ST X l w w1 from Mq.of (Rdd.of h b1) 0 trivial)
 obtain ⟨T1,hT1⟩:∃ T1,T1=paint T w.heap.size 0:=⟨_,rfl⟩;rw[<-hT1] at HF hTX M1;clear h b1 r1 hX hm hf hT1;go_enter Tryz.func57,Tryz.ntmps57;go_upto_region 1 with fail
 rw[<-hw1,<-hCe];clear hw1 hCe;go_wp2_with fail;refine H1.out.mono ?_;rintro e w2 (⟨n,v,l1,hn,hl,rfl,rfl,hr⟩|⟨hn,z,l1,hz,rfl,hr⟩)
 ·have rc2:=hr.row hCX RC.out
  have k2:w2.cell? ⟨C,0,none⟩=some (.pointer (some ⟨X,0,none⟩)):=zC rc2 0;have I2:=Lib.hid (hr.inv I1.out);have M2:=Lib.hid (show Mq T (paint T1 w1.heap.size 0) ST X l1 w w2 from M1.out.trans HI.out (Mq.of hr 0 trivial))
  have L1:=Lib.hid (And.intro hn hl)
  have HF2:=Lib.hid (show ∀ k,paint T1 w1.heap.size 0 k<=m from fun k=>by
   unfold paint
   split
   ·exact HF.out k
   ·omega)
  have hTX2:paint T1 w1.heap.size 0 X=m:=by rw[zH I1.out.lt];exact hTX
  have H2':=Lib.hid (lsseat_any (paint T1 w1.heap.size 0) (m+1) X C l1 w2 I2.out (by rw[hTX2];omega) (by rw[hTX2];have:=HX.out.2;omega) (by omega) (fun k _ e=>by have:=HF2.out k;omega) rc2)
  clear hn hl hr H1 k1 rc2 RC;go_wp2_with fail;refine H2'.out.mono ?_;rintro e w3 ⟨T3,l3,hM,⟨L,v,hg,hl,rfl,A,c,rfl,hE⟩|⟨hn,z,hz,rfl⟩⟩
  ·have M3:=Lib.hid (M2.out.trans HI.out (hM.mono fun _ _=>trivial))
   have HG:=Lib.hid (And.intro hg hl)
   have hT3:∀ k,k<w.heap.size->¬ H2 (m+2) (T3 k):=fun k hk h=>by
    have h1:=M3.out.tag k hk;have h2:=M2.out.tag k hk;have h3:=HF2.out k;unfold H2 at h;omega
   have H3:=Lib.hid (pof15_any T3 (m+2) (m+1) A c L (n:Int) w3 hE (by omega) (by omega) (by omega) (by have:=hg.1;omega) (fun s hs=>(hg.2 s hs).b))
   have HT3:=Lib.hid hT3;clear hM hg hl hE H2' k2 I2 hT3 hTX hTX2;go_wp2_with fail;refine H3.out.mono ?_;rintro e w4 ⟨T4,hf,⟨hk,B,mv,rfl,hp⟩|⟨hk,rfl⟩⟩
   ·have M4:=Lib.hid (show Mq T T4 ST X l3 w w4 from ⟨Rdd.calm' HI.out M3.out.rd (hf.below M3.out.rd.size HT3.out),fun k hk=>by rw[hf.tag k (Nat.lt_of_lt_of_le hk M3.out.rd.size)];exact M3.out.tag k hk,fun _ _=>trivial⟩)
    have HP:=Lib.hid (And.intro hk hp);clear hf hk hp H3;go_wp2_with fail;refine (mustt_ok _ _).mono ?_;rintro e w5 ⟨rfl,rfl⟩;go_wp2_with fail;go_ret;exact ⟨T4,l3,M4.out,.inl ⟨(n,L),_,⟨L1.out.1,HP.out.1,HG.out.1.2⟩,by rw[L1.out.2,HG.out.2];unfold eSs;rw[List.append_assoc],rfl,B,mv,rfl,HP.out.2⟩⟩
   ·have M4:=Lib.hid (show Mq T T4 ST X l3 w w4 from ⟨Rdd.calm' HI.out M3.out.rd (hf.below M3.out.rd.size HT3.out),fun k hk=>by rw[hf.tag k (Nat.lt_of_lt_of_le hk M3.out.rd.size)];exact M3.out.tag k hk,fun _ _=>trivial⟩)
    have HP:=Lib.hid (sess_no (p:=(n,L)) (l:=l) (l1:=l3) ⟨L1.out.1,HG.out.1⟩ hk (by rw[L1.out.2,HG.out.2];unfold eSs;rw[List.append_assoc]))
    clear hf hk H3;go_wp2_with fail;refine (mustt_bad _ 1 (by omega) _).mono ?_
    rintro e w5 ⟨rfl,rfl⟩;go_wp2_with fail;exact ⟨rfl,T4,l3,M4.out,.inr ⟨HP.out,1,by omega,rfl⟩⟩
  ·have K:=Lib.hid (And.intro (ssNo_2 L1.out.1 L1.out.2 hn) (And.intro hz (M2.out.trans HI.out (hM.mono fun _ _=>trivial))))
   clear hn hz hM H2' k2;go_wp2_with fail;exact ⟨rfl,_,l3,K.out.2.2,.inr ⟨K.out.1,z,K.out.2.1,rfl⟩⟩
 ·have K:=Lib.hid (And.intro (ssNo_1 hn) (And.intro hz (M1.out.trans HI.out (Mq.of hr 0 trivial))))
  clear hn hz hr H1 k1;go_wp2_with fail;exact ⟨rfl,_,l1,K.out.2.2,.inr ⟨K.out.1,z,K.out.2.1,rfl⟩⟩
theorem srNo_1{l:By}(h:NoF (eT 32) tt1 l):NoF eSr srG l:=no_1 (e1:=eT 32) (G1:=tt1) (e2:=fun s:St×Nat=>eT 32 s.1.2++eN s.2) (p:=fun s:St×Nat=>s.1.1) (q:=fun s=>s) (fun _=>rfl) (fun _ _=>trivial) h
theorem srNo_2{l l1:By}{f:Bf}(hl:l=eT 32 f++l1)(h:NoF (eT 32) tt1 l1):NoF eSr srG l:=
 no_2 (e1:=eT 32) (G1:=tt1) (G2:=srG) (e2:=fun s:St×Nat=>eT 32 s.1.2++eN s.2) (p:=fun s:St×Nat=>s.1.1) (q:=fun s=>s) (fun _=>rfl) (fun _ h=>⟨trivial,h⟩) eW_unq (a:=f) trivial hl
  (no_1 (e1:=eT 32) (G1:=tt1) (e2:=fun s:St×Nat=>eN s.2) (p:=fun s:St×Nat=>s.1.2) (q:=fun s=>s) (fun _=>rfl) (fun _ _=>trivial) h)
theorem srNo_3{l l1 l2:By}{f g:Bf}(hl:l=eT 32 f++l1)(h1:l1=eT 32 g++l2)(h:NoF eN u63 l2):NoF eSr srG l:=
 no_2 (e1:=eT 32) (G1:=tt1) (G2:=srG) (e2:=fun s:St×Nat=>eT 32 s.1.2++eN s.2) (p:=fun s:St×Nat=>s.1.1) (q:=fun s=>s) (fun _=>rfl) (fun _ h=>⟨trivial,h⟩) eW_unq (a:=f) trivial hl
  (no_2 (e1:=eT 32) (G1:=tt1) (G2:=u63) (e2:=eN) (p:=fun s:St×Nat=>s.1.2) (q:=fun s=>s.2) (fun _=>rfl) (fun _ h=>⟨trivial,h.2⟩) eW_unq (a:=g) trivial h1 h)
theorem srNo_4{l l1 l2 l3:By}{f g:Bf}{n:Nat}(hl:l=eT 32 f++l1)(h1:l1=eT 32 g++l2)(hn:u63 n)(h2:l2=eN n++l3)(h0:n<1):NoF eSr srG l:=fun s r hs he=>by
 rw[hl,h1,h2] at he;unfold eSr at he;simp only[List.append_assoc] at he;obtain ⟨-,-,he⟩:=eT_app (by omega) (by omega) he
 obtain ⟨-,-,he⟩:=eT_app (by omega) (by omega) he
 obtain ⟨e,-⟩:=xK hn hs.2 he;have:=hs.1;omega
abbrev rvSr(s:St×Nat)(v:Value)(w:World):Prop:=∃ g,v=.pointer (some ⟨g,0,none⟩)/\row w g=some (srcC #[] s.1.1 s.1.2 (s.2:Int))
theorem rdsrc_any(X:Nat)(l:By)(w:World)(h:RdI X l w):Calls Tryz.prog 55 #[.pointer (some ⟨X,0,none⟩)] w (RdOut X l eSr srG rvSr w):=by
 have H1:=Lib.hid (rdwide_any X l w h);have HI:=Lib.hid h;clear h;go_enter Tryz.func55,Tryz.ntmps55;go_wp2_with fail;refine H1.out.mono ?_;rintro e w1 (⟨f,v,l1,-,hl,rfl,rfl,hr⟩|⟨hn,z,l1,hz,rfl,hr⟩)
 ·have I1:=Lib.hid (hr.inv HI.out)
  have D1:=Lib.hid hr;have L1:=Lib.hid hl;have H2':=Lib.hid (rdwide_any X l1 w1 I1.out);clear hl hr H1;go_wp2_with fail;refine H2'.out.mono ?_;rintro e w2 (⟨g,v,l2,-,hl,rfl,rfl,hr⟩|⟨hn,z,l2,hz,rfl,hr⟩)
  ·have I2:=Lib.hid (hr.inv I1.out)
   have D2:=Lib.hid (Rdd.trans HI.out D1.out hr);have L2:=Lib.hid hl;have H3:=Lib.hid (rdnum_any X l2 w2 I2.out);clear hl hr H2' I1 D1;go_wp2_with fail;refine H3.out.mono ?_;rintro e w3 (⟨n,v,l3,hn,hl,rfl,rfl,hr⟩|⟨hn,z,l3,hz,rfl,hr⟩)
   ·have D3:=Lib.hid (Rdd.trans HI.out D2.out hr)
    have L3:=Lib.hid (And.intro hn hl);clear hl hr hn H3 I2 D2;have b4:Below w3.heap.size w3 ((w3.alloc (.cells (ba 32 f) 60)).alloc (.cells (ba 32 g) 60)):=((Below.refl _ _).alloc (Nat.le_refl _) _).alloc (by simp) _
    have r4:row ((w3.alloc (.cells (ba 32 f) 60)).alloc (.cells (ba 32 g) 60)) w3.heap.size=some (ba 32 f):=zN (zA _ _ _ _ rfl) _;have s4:row ((w3.alloc (.cells (ba 32 f) 60)).alloc (.cells (ba 32 g) 60)) (w3.heap.size+1)=some (ba 32 g):=zA _ _ _ _ (by simp)
    obtain ⟨w4,hw4⟩:∃ w4,w4=(w3.alloc (.cells (ba 32 f) 60)).alloc (.cells (ba 32 g) 60):=⟨_,rfl⟩;rw[<-hw4] at b4 r4 s4;have D4:=Lib.hid (Rdd.calm HI.out D3.out b4);have H4:=Lib.hid (dof_any f g (n:Int) w4);clear b4 D3;go_upto_region 2 with fail
    rw[<-hw4];clear hw4
    by_cases h0:n<1
    ·have d1:decide ((n:Int)<1)=true:=decide_eq_true (by omega)
     have d2:decide (n<1)=true:=decide_eq_true h0;have K:=Lib.hid (srNo_4 L1.out L2.out L3.out.1 L3.out.2 h0);clear h0 H4;go_wp2_with fail;exact ⟨rfl,.inr ⟨K.out,80,l3,by decide,rfl,D4.out⟩⟩
    ·have d1:decide ((n:Int)<1)=false:=decide_eq_false (by omega)
     have d2:decide (n<1)=false:=decide_eq_false h0;have HN:=Lib.hid (show 1<=n by omega)
     clear h0;go_wp2_with fail;refine H4.out.mono ?_;rintro e w5 ⟨q,rfl,-,hq,hb⟩;have Q:=Lib.hid hq;have D5:=Lib.hid (Rdd.calm HI.out D4.out hb);clear hq hb H4 r4 s4;go_wp2_with fail;go_ret;exact .inl ⟨((f,g),n),_,l3,⟨HN.out,L3.out.1⟩,by rw[L1.out,L2.out,L3.out.2];unfold eSr;rw[List.append_assoc,List.append_assoc],rfl,⟨q,rfl,Q.out⟩,D5.out⟩
   ·have K:=Lib.hid (And.intro (srNo_3 L1.out L2.out hn) (And.intro hz (Rdd.trans HI.out D2.out hr)))
    clear hn hz hr H3;go_wp2_with fail;exact ⟨rfl,.inr ⟨K.out.1,z,l3,K.out.2.1,rfl,K.out.2.2⟩⟩
  ·have K:=Lib.hid (And.intro (srNo_2 L1.out hn) (And.intro hz (Rdd.trans HI.out D1.out hr)))
   clear hn hz hr H2';go_wp2_with fail;exact ⟨rfl,.inr ⟨K.out.1,z,l2,K.out.2.1,rfl,K.out.2.2⟩⟩
 ·have K:=Lib.hid (And.intro (srNo_1 hn) (And.intro hz hr))
  clear hn hz hr H1;go_wp2_with fail;exact ⟨rfl,.inr ⟨K.out.1,z,l1,K.out.2.1,rfl,K.out.2.2⟩⟩
theorem rdend_any(X:Nat)(l:By)(w:World)(h:RdI X l w):Calls Tryz.prog 58 #[.pointer (some ⟨X,0,none⟩)] w fun e w'=>w'=w/\((l=[]/\e=.returned (.tuple #[]))\/(l≠[]/\e=.panicked (pnE 80))):=by
 obtain ⟨A,c,hr,hs,hl⟩:=h;have a0:w.cell? ⟨X,0,none⟩=some (.slice A l.length c):=zC hr 0;obtain ⟨n,hn⟩:∃ n,n=l.length:=⟨_,rfl⟩;rw[<-hn] at a0;have HN:=Lib.hid hn;clear hr hs hl hn
 by_cases h0:0<n
 ·have d1:decide ((0:Int)<(n:Int))=true:=decide_eq_true (by omega)
  have d2:decide (0<n)=true:=decide_eq_true h0;have hne:=Lib.hid (show l≠[] from fun e=>by have:=HN.out;rw[e] at this;simp at this;omega)
  clear h0;go_enter Tryz.func58,Tryz.ntmps58;go_wp2_with fail;exact ⟨rfl,rfl,.inr ⟨hne.out,rfl⟩⟩
 ·have d1:decide ((0:Int)<(n:Int))=false:=decide_eq_false (by omega)
  have d2:decide (0<n)=false:=decide_eq_false h0;have hne:=Lib.hid (show l=[] from List.length_eq_zero_iff.1 (by have:=HN.out;omega))
  clear h0;go_enter Tryz.func58,Tryz.ntmps58;go_wp2_with fail;go_end0;exact ⟨rfl,.inl ⟨hne.out,rfl⟩⟩
end Go.Proofs.YteffjpdcghlnlaaGreatDoor.Oct
namespace Go.Proofs.YteffjpdcghlnlaaGreatDoor.Oct
def SRd(b:By)(s:St×Nat)(m:Nat)(K:Ks)(l:By):Prop:=srG s/\m<=8/\(∀ r∈K,rgG r)/\b=eSr s++(eN m++(K.flatMap eRg++l))
def SVd(b:By)(s:St×Nat)(m:Nat)(K:Ks)(o:Bool)(n:Nat)(L:List Ve)(l:By):Prop:=srG s/\m<=8/\(∀ r∈K,rgG r)/\K.length<m/\n<=4/\(∀ v∈L,veG v)/\b=eSr s++(eN m++(K.flatMap eRg++(eB o++(eN n++(L.flatMap eVe++l)))))
def SSd(b:By)(s:St×Nat)(K:Ks)(g m:Nat)(L:List Se)(l:By):Prop:=srG s/\okK K/\u63 g/\m<=8/\(∀ x∈L,seG x)/\b=eSr s++(eL eRg K++(eN g++(eN m++(L.flatMap eSe++l))))
section
variable {b l l1 l2 l3:By} {s:St×Nat} {m n g u v:Nat} {K:Ks} {o o1 o2 o3:Bool} {L:List Ve} {k:Bf}
theorem src_read{k1 k2:Bf}(h1:QdQ (eT 32) tt1 b false k1 l1 o1)(h2:QdQ (eT 32) tt1 l1 o1 k2 l2 o2)(h3:QdQ eN u63 l2 o2 n l3 o3):(o3=false/\srG ((k1,k2),n)/\b=eSr ((k1,k2),n)++l3)\/NoS b:=by
 rcases h1.2 with ⟨rfl,-,e1,-⟩|⟨-,hn⟩
 ·rcases h2.2 with ⟨rfl,-,e2,-⟩|⟨-,hn⟩
  ·rcases h3.2 with ⟨rfl,g3,e3,-⟩|⟨-,hn⟩
   ·by_cases hn1:1<=n
    ·exact .inl ⟨rfl,⟨hn1,g3⟩,by rw[e1,e2,e3];unfold eSr;simp only[List.append_assoc]⟩
    ·refine .inr (noS_1 fun s r hs he=>?_)
     rw[e1,e2,e3] at he;unfold eSr at he;simp only[List.append_assoc] at he;obtain ⟨-,-,he⟩:=eT_app (by omega) (by omega) he
     obtain ⟨-,-,he⟩:=eT_app (by omega) (by omega) he
     have:=(xK g3 hs.2 he).1;have:=hs.1;omega
   ·refine .inr (noS_1 fun s r hs he=>?_)
    rw[e1,e2] at he;unfold eSr at he;simp only[List.append_assoc] at he;obtain ⟨-,-,he⟩:=eT_app (by omega) (by omega) he
    obtain ⟨-,-,he⟩:=eT_app (by omega) (by omega) he
    exact hn _ _ hs.2 he
  ·refine .inr (noS_1 fun s r hs he=>?_)
   rw[e1] at he;unfold eSr at he;simp only[List.append_assoc] at he;obtain ⟨-,-,he⟩:=eT_app (by omega) (by omega) he
   exact hn _ _ trivial he
 ·refine .inr (noS_1 fun s r hs he=>?_)
  unfold eSr at he;simp only[List.append_assoc] at he;exact hn _ _ trivial he
theorem keys_head(hs:srG s)(hb:b=eSr s++l)(h:QdQ eN u63 l false m l1 o1):(o1=false/\SRd b s m [] l1)\/NoS b:=by
 rcases h.2 with ⟨rfl,g1,e1,-⟩|⟨-,hn⟩
 ·by_cases h8:m<=8
  ·exact .inl ⟨rfl,hs,h8,fun r hr=>(by cases hr),by rw[hb,e1];simp⟩
  ·exact .inr (noS_2 hs hb ((noL_many (by omega) g1 e1 (by omega)).less fun _=>okK.lg))
 ·exact .inr (noS_2 hs hb ((noL_count (by omega) hn).less fun _=>okK.lg))
theorem SRd.no(h:SRd b s m K l)(hlt:K.length<m)(hn:NoF eRg rgG l):NoS b:=by
 obtain ⟨hs,h8,hK,hb⟩:=h;exact noS_2 hs hb ((noL (m:=8) eRg_unq (by omega) hK (by omega) hlt rfl hn).less fun _=>okK.lg)
theorem ring_head(h:SRd b s m K l)(hlt:K.length<m)(h1:QdQ eN u63 l false v l1 o1)(h2:QdQ eN u63 l1 o1 n l2 o2):(o2=false/\SVd b s m K (decide ((v:Int)=1)) n [] l2)\/NoS b:=by
 rcases h1.2 with ⟨rfl,g1,e1,-⟩|⟨-,hn⟩
 ·by_cases hv:v<=1
  ·have e1':=e1
   rw[eB_of hv] at e1';rcases h2.2 with ⟨rfl,g2,e2,-⟩|⟨-,hn⟩
   ·by_cases h4:n<=4
    ·obtain ⟨hs,h8,hK,hb⟩:=h
     refine .inl ⟨rfl,hs,h8,hK,hlt,h4,fun r hr=>(by cases hr),?_⟩
     rw[hb,e1',e2];simp
    ·exact .inr (h.no hlt (rgNo_2 e1' (noL_many (by omega) g2 e2 (by omega))))
   ·exact .inr (h.no hlt (rgNo_2 e1' (noL_count (by omega) hn)))
  ·exact .inr (h.no hlt (rgNo_1 (noB_many g1 e1 (by omega))))
 ·exact .inr (h.no hlt (rgNo_1 (noB_num hn)))
theorem SVd.no(h:SVd b s m K o n L l)(hlt:L.length<n)(hn:NoF eVe veG l):NoS b:=by
 obtain ⟨hs,h8,hK,hKm,h4,hL,hb⟩:=h;exact SRd.no ⟨hs,h8,hK,hb⟩ hKm (rgNo_2 rfl (noL (m:=4) eVe_unq (by omega) hL (by omega) hlt rfl hn))
theorem ver_read(h:SVd b s m K o n L l)(hlt:L.length<n)(h1:QdQ (eT 32) tt1 l false k l1 o1)(h2:QdQ eN u63 l1 o1 u l2 o2)(h3:QdQ eN u63 l2 o2 v l3 o3):(o3=false/\SVd b s m K o n (L++[⟨k,u,decide ((v:Int)=1)⟩]) l3)\/NoS b:=by
 rcases h1.2 with ⟨rfl,-,e1,-⟩|⟨-,hn⟩
 ·rcases h2.2 with ⟨rfl,g2,e2,-⟩|⟨-,hn⟩
  ·rcases h3.2 with ⟨rfl,g3,e3,-⟩|⟨-,hn⟩
   ·by_cases hv:v<=1
    ·obtain ⟨hs,h8,hK,hKm,h4,hL,hb⟩:=h
     refine .inl ⟨rfl,hs,h8,hK,hKm,h4,fun x hx=>?_,?_⟩
     ·rcases List.mem_append.1 hx with hx|hx
      ·exact hL x hx
      ·rw[List.mem_singleton.1 hx]
       exact ⟨by show (0:Int)<=(u:Int);omega,by show (u:Int)<_;have:u<9223372036854775808:=g2;omega⟩
     ·rw[hb,e1,e2,e3,eB_of hv,List.flatMap_append]
      simp[eVe]
    ·refine .inr (h.no hlt fun x r hx he=>?_)
     rw[e1,e2] at he;unfold eVe at he;simp only[List.append_assoc] at he;obtain ⟨-,-,he⟩:=eT_app (by omega) (by omega) he
     have hu:u63 x.u.toNat:=by have:=hx;unfold veG i63 at this;show x.u.toNat<_;omega
     obtain ⟨-,he⟩:=xK g2 hu he;exact noB_many g3 e3 (by omega) _ _ trivial he
   ·refine .inr (h.no hlt fun x r hx he=>?_)
    rw[e1,e2] at he;unfold eVe at he;simp only[List.append_assoc] at he;obtain ⟨-,-,he⟩:=eT_app (by omega) (by omega) he
    have hu:u63 x.u.toNat:=by have:=hx;unfold veG i63 at this;show x.u.toNat<_;omega
    obtain ⟨-,he⟩:=xK g2 hu he;exact noB_num hn _ _ trivial he
  ·refine .inr (h.no hlt fun x r hx he=>?_)
   rw[e1] at he;unfold eVe at he;simp only[List.append_assoc] at he;obtain ⟨-,-,he⟩:=eT_app (by omega) (by omega) he
   exact hn _ _ (by have:=hx;unfold veG i63 at this;show x.u.toNat<_;omega) he
 ·refine .inr (h.no hlt fun x r hx he=>?_)
  unfold eVe at he;simp only[List.append_assoc] at he;exact hn _ _ trivial he
theorem SVd.done(h:SVd b s m K o n L l)(hn:L.length=n):SRd b s m (K++[⟨o,L⟩]) l:=by
 obtain ⟨hs,h8,hK,hKm,h4,hL,hb⟩:=h;refine ⟨hs,h8,fun r hr=>?_,?_⟩
 ·rcases List.mem_append.1 hr with hr|hr
  ·exact hK r hr
  ·rw[List.mem_singleton.1 hr]
   exact ⟨by show L.length<=4;omega,hL⟩
 ·rw[hb,List.flatMap_append,<-hn]
  simp[eRg]
theorem sess_head(h:SRd b s m K l)(hm:K.length=m)(h1:QdQ eN u63 l false g l1 o1)(h2:QdQ eN u63 l1 o1 n l2 o2):(o2=false/\SSd b s K g n [] l2)\/NoS b:=by
 obtain ⟨hs,h8,hK,hb⟩:=h;have hb':b=eSr s++(eL eRg K++l):=by rw[hb];unfold eL;rw[hm,List.append_assoc]
 by_cases hk:okK K
 ·rcases h1.2 with ⟨rfl,g1,e1,-⟩|⟨-,hn⟩
  ·rcases h2.2 with ⟨rfl,g2,e2,-⟩|⟨-,hn⟩
   ·by_cases h8':n<=8
    ·exact .inl ⟨rfl,hs,hk,g1,h8',fun r hr=>(by cases hr),by rw[hb',e1,e2];simp⟩
    ·refine .inr (noS_3 hs hb' hk rfl fun p r hp he=>?_)
     rw[e1] at he;unfold eSs at he;simp only[List.append_assoc] at he;obtain ⟨-,he⟩:=xK g1 hp.1 he;exact noL_many (m:=8) (G:=seG) (e:=eSe) (by omega) g2 e2 (by omega) _ _ hp.w.2 he
   ·refine .inr (noS_3 hs hb' hk rfl fun p r hp he=>?_)
    rw[e1] at he;unfold eSs at he;simp only[List.append_assoc] at he;obtain ⟨-,he⟩:=xK g1 hp.1 he;exact noL_count (m:=8) (G:=seG) (e:=eSe) (by omega) hn _ _ hp.w.2 he
  ·refine .inr (noS_3 hs hb' hk rfl fun p r hp he=>?_)
   unfold eSs at he;simp only[List.append_assoc] at he;exact hn _ _ hp.1 he
 ·exact .inr (noS_2 hs hb' (keys_no ⟨by omega,hK⟩ hk rfl))
theorem SSd.no{L:List Se}(h:SSd b s K g m L l)(hlt:L.length<m)(hn:NoF eSe seG l):NoS b:=by
 obtain ⟨hs,hk,hg,h8,hL,hb⟩:=h;refine noS_3 hs hb hk rfl fun p r hp he=>?_
 unfold eSs at he;simp only[List.append_assoc] at he;obtain ⟨-,he⟩:=xK hg hp.1 he;exact noL (m:=8) eSe_unq (by omega) hL (by omega) hlt rfl hn _ _ hp.w.2 he
theorem seat_read{L:List Se}{r:Rp}(h:SSd b s K g m L l)(hlt:L.length<m)(h1:QdQ eN u63 l false u l1 o1)(h2:QdQ eN u63 l1 o1 v l2 o2)(h3:QdQ eRp rpG l2 o2 r l3 o3):(o3=false/\SSd b s K g m (L++[⟨u,v,r.c,r.n,r.m,r.T,r.f⟩]) l3)\/NoS b:=by
 rcases h1.2 with ⟨rfl,g1,e1,-⟩|⟨-,hn⟩
 ·rcases h2.2 with ⟨rfl,g2,e2,-⟩|⟨-,hn⟩
  ·rcases h3.2 with ⟨rfl,g3,e3,-⟩|⟨-,hn⟩
   ·obtain ⟨hs,hk,hg,h8,hL,hb⟩:=h
    refine .inl ⟨rfl,hs,hk,hg,h8,fun x hx=>?_,?_⟩
    ·rcases List.mem_append.1 hx with hx|hx
     ·exact hL x hx
     ·rw[List.mem_singleton.1 hx]
      have a1:u<9223372036854775808:=g1;have a2:v<9223372036854775808:=g2;exact ⟨⟨by show (0:Int)<=(u:Int);omega,by show (u:Int)<_;omega⟩,⟨by show (0:Int)<=(v:Int);omega,by show (v:Int)<_;omega⟩,g3⟩
    ·rw[hb,e1,e2,e3,List.flatMap_append]
     simp[eSe,seR]
   ·refine .inr (h.no hlt fun x r hx he=>?_)
    rw[e1,e2] at he;unfold eSe at he;simp only[List.append_assoc] at he;obtain ⟨-,he⟩:=xK g1 (by have:=hx.1;unfold i63 at this;show x.id.toNat<_;omega) he
    obtain ⟨-,he⟩:=xK g2 (by have:=hx.2.1;unfold i63 at this;show x.q.toNat<_;omega) he
    exact hn _ _ hx.2.2 he
  ·refine .inr (h.no hlt fun x r hx he=>?_)
   rw[e1] at he;unfold eSe at he;simp only[List.append_assoc] at he;obtain ⟨-,he⟩:=xK g1 (by have:=hx.1;unfold i63 at this;show x.id.toNat<_;omega) he
   exact hn _ _ (by have:=hx.2.1;unfold i63 at this;show x.q.toNat<_;omega) he
 ·refine .inr (h.no hlt fun x r hx he=>?_)
  unfold eSe at he;simp only[List.append_assoc] at he;exact hn _ _ (by have:=hx.1;unfold i63 at this;show x.id.toNat<_;omega) he
theorem all_read{L:List Se}(h:SSd b s K g m L l)(hm:L.length=m):(¬ OfOk L g->NoS b)/\(∀ x:Sx,SxV x->x.d=s.1->x.n=(s.2:Int)->x.K=K->x.l=L->x.g+1=(g:Int)->eSx x≠b->NoS b):=by
 obtain ⟨hs,hk,hg,h8,hL,hb⟩:=h
 have e:eN g++(eN m++(L.flatMap eSe++l))=eSs (g,L)++l:=by
  unfold eSs eL;rw[hm];simp only[List.append_assoc]
 rw[e] at hb;refine ⟨fun hn=>noS_3 hs hb hk rfl (sess_no (p:=(g,L)) ⟨hg,by show L.length<=8;omega,hL⟩ hn rfl),fun x hx e1 e2 e3 e4 e5 hne=>?_⟩
 refine noS_4 hs hb hk rfl (p:=(g,L)) ⟨hg,by have:=hx.l;rw[e4,e5] at this;exact this,hL⟩ rfl fun hl=>hne ?_
 rw[eSx_eq x e2 e5,e1,e3,e4,hb,hl,List.append_nil]
end
end Go.Proofs.YteffjpdcghlnlaaGreatDoor.Oct
namespace Go.Proofs.YteffjpdcghlnlaaGreatDoor.Oct
open Go.ChangeShapes Go.WideShapes Go.ChangeAt Go.RowKit Go.Maps
theorem rsc_b4(t:Value)(k v:Bf)(n:Int)(w:World):(bdA 141 #[(0,.agg (tbA t iF)),(1,.agg (ba 32 k)),(2,.agg (ba 32 v)),(3,.int .i64 n)]).run Tryz.prog w=.ok (.agg (rscC t k v n)) w:=by
 refine run_lit _ _ _ _ [(0,9),(9,32),(41,32),(73,1)] rsc_z (by kernel_rfl) ?_ w
 unfold rscC
 exact (xH (pre:=[]) (o:=0) (m:=9) rfl rfl (by rw[yW]) (by rw[yW];exact yW _ _)).trans
  ((xH (pre:=[tbA t iF]) (o:=9) (m:=32) rfl (by simp[szs,yW]) (by rw[zI]) (by rw[zI];exact zI _ _)).trans
  ((xH (pre:=[tbA t iF,ba 32 k]) (o:=41) (m:=32) rfl (by simp[szs,zI,yW]) (by rw[zI]) (by rw[zI];exact zI _ _)).trans
  (xH (pre:=[tbA t iF,ba 32 _,ba 32 _]) (o:=73) (m:=1) rfl (by simp[szs,zI,yW]) rfl rfl)))
theorem rof7_any(T:Mk)(t:Nat)(d:St)(n:Int)(w:World)(ht:t≠0):
  Calls Tryz.prog 64 #[.agg (ba 32 d.1),.agg (ba 32 d.2),.int .i64 n] w fun e w'=>∃ g T',e=.returned (.pointer (some ⟨g,0,none⟩))/\DrAt T' w' t g d n/\∀ H,Fr T T' H w w':=by
 obtain ⟨w1,hw1⟩:∃ w1,w1=(w.alloc (.cells (ba 32 d.1) 66)).alloc (.cells (ba 32 d.2) 66):=⟨_,rfl⟩;have b1:Below w.heap.size w w1:=by rw[hw1];exact ((Below.refl _ _).alloc (Nat.le_refl _) _).alloc (by simp) _
 obtain ⟨D,hD⟩:∃ D,D=w.heap.size:=⟨_,rfl⟩;have r1:row w1 D=some (ba 32 d.1):=by rw[hw1,hD];exact zN (zA _ _ _ _ rfl) _
 have r2:row w1 (D+1)=some (ba 32 d.2):=by rw[hw1,hD];exact zA _ _ _ _ (by simp)
 have B1:=Lib.hid b1;have R1:=Lib.hid r1;have R2:=Lib.hid r2;have HD:=Lib.hid hD;clear b1 r1 r2 hD;go_enter Tryz.func64,Tryz.ntmps64;go_upto_region 1 with fail
 rw[<-hw1,<-HD.out];clear hw1;refine yE [([1,2,3],0,false),([4],5,true)] [6] (by kernel_rfl) (by kernel_rfl) (fun _ _ _ _ _ h=>h) fun X=>?_
 obtain ⟨w2,hw2⟩:∃ w2,w2=X.val:=⟨_,rfl⟩;have b2:=X.below;rw[<-hw2] at b2 ⊢;clear hw2 X;have B2:=Lib.hid (onto B1.out B1.out.size b2);have B2z:=Lib.hid (show w.heap.size<=w2.heap.size from B2.out.size)
 have k1:=After.row (zD b2 R1.out);have k2:=After.row (zD b2 R2.out);clear b2 B1 R1 R2;simp only[wpFs,pk,List.getElem?_cons_zero,List.getElem?_cons_succ]
 repeat (go_big_quiet_step (fail))
 refine wpQuiet_nil ?_;clear k1 k2;go_wp2_with fail;refine (make_new _).mono ?_;rintro e w3 ⟨AK,cK,rfl,hK,hb3,hAK⟩;have HB3:=Lib.hid hb3;have B3:=Lib.hid (onto B2.out B2.out.size hb3);have K3:=Lib.hid hK;have N3:=Lib.hid hAK;clear hK hb3 hAK B2;go_wp2_with fail;refine ⟨.inr HB3.out,?_⟩;show wpQuiet _ _ _ _ _ _;have bd:∀ y:After w3,(bdA 141 #[(0,.agg (tbA (.slice AK 64 cK) iF)),(1,.agg (ba 32 d.1)),(2,.agg (ba 32 d.2)),(3,.int .i64 n)]).run Tryz.prog y.val=.ok (.agg (rscC (.slice AK 64 cK) d.1 d.2 n)) y.val:=fun y=>rsc_b4 _ _ _ _ _
 repeat (go_big_quiet_step (fail))
 refine wpQuiet_nil ?_;clear bd;go_wp2_with fail;refine ⟨.inl trivial,?_⟩;show wpQuiet _ _ _ _ _ _
 repeat (go_big_quiet_step (fail))
 refine wpQuiet_nil ?_;go_wp2_with fail;go_ret;have b4:=(Below.refl w3.heap.size w3).alloc (Nat.le_refl _) (.cells (rscC (.slice AK 64 cK) d.1 d.2 n) 141);have B4:=onto B3.out B3.out.size b4;have hz:=B3.out.size;have hz3:=HB3.out.size;have hz2:=B2z.out;refine ⟨w3.heap.size,fun j=>if j=w3.heap.size then t else paint T w.heap.size 0 j,rfl,⟨if_pos rfl,AK,cK,zA _ _ _ _ rfl,K3.out.below b4,fun a e=>?_⟩,fun H=>Fr.calm B4 fun k hk=>?_⟩
 ·obtain ⟨b,o,e2,hb2,-⟩:=K3.out.at_ (by omega)
  have h3:=N3.out a e;rw[e] at e2;cases e2;show (if b=w3.heap.size then t else _)=0
  rw[if_neg (Nat.ne_of_lt hb2)];have h4:w2.heap.size<=b:=h3;exact zP (by omega)
 ·show (if k=w3.heap.size then t else _)=_
  rw[if_neg (by omega),zH hk]
theorem wpl_appSl{T:Mk}{t0:Nat}{w:World}{A:Option Addr}{c:Nat}{l:List Se}{ops:Array Oper}{rest:List Oper}{o:Oper}{a:Act}{Q:Exit->Act->World->Prop}(hgd:o.guard=none)(s y:Operand)
  (ho:o.op=.call { callee:=.builtin .append,args:=#[s,y],argTypes:=#[105,105] }) (h:ElAt 6 seEl T w t0 A c l) (hl:l.length<100000) (p tg:Nat) (htg:0≠tg)
  (hv:a.eval s=.slice (some ⟨p,0,none⟩) 0 0) (hy:a.eval y=.slice A l.length c)
  (hk:∀ A' c' w',ElAt 6 seEl (paint T w.heap.size tg) w' tg A' c' l->Fr T (paint T w.heap.size tg) (fun c=>c=tg) w w'->wpList Tryz.prog ops Q rest (a.put o.dst (.slice A' l.length c')) w'):wpList Tryz.prog ops Q (o::rest) a w:=by
 rcases Nat.eq_zero_or_pos l.length with e|e
 ·have hl0:l=[]:=List.eq_nil_of_length_eq_zero e
  subst hl0;refine wpl_appNo hgd s y ho ssl_u se_i (q:=p) (n:=0) (c:=0) (V:=A) (cV:=c) (Nat.le_refl _) hv hy ?_;exact hk _ _ w (ElAt.empty _ _ _ _) ((Fr.refl T _ w).painted _ (Nat.le_refl _))
 ·obtain ⟨vs,hvl,hx,hone,hSS⟩:=ElAt.src yL (P:=Tryz.prog) ssl_u se_i h e
  refine wpl_appSrc yL hgd s y ho ssl_u se_info rfl (by decide) (by decide) (ElAt.empty T w tg (some ⟨p,0,none⟩)) hSS hvl hx e hone (by rw[List.length_nil];omega) htg hv hy fun A' c' w' h1 h2=>?_
  rw[List.nil_append] at h1;rw[List.length_nil,Nat.zero_add];exact hk A' c' w' h1 h2
theorem rof15_el(T:Mk)(t tg:Nat)(A:Option Addr)(c:Nat)(l:List Se)(n:Int)(w:World)(hE:ElAt 6 seEl T w tg A c l)(ht:0<t)(hl:l.length<100000)(hb:SeB l):
  Calls Tryz.prog 63 #[.slice A l.length c,.int .i64 n] w fun e w'=>∃ T',Fr T T' (fun x=>x=t+1) w w'/\((OfOk l n/\∃ B A' c',e=.returned (.tuple #[.pointer (some ⟨B,0,none⟩),.int .i64 0])/\YtAt T' w' t B A' c' l (n-1))\/(¬ OfOk l n/\e=.returned (.tuple #[.pointer none,.int .i64 1]))):=by
 have H1:=Lib.hid hE.serd;have HE0:=Lib.hid hE;have hle:=hE.le;have HR:=Lib.hid (show ∀ s∈l,∀ j,-9223372036854775808<=repN s.c s.n s.m j/\repN s.c s.n s.m j<9223372036854775808 from fun s hs=>repN_bd (hb s hs).2.2.1 (hb s hs).2.2.2.1 (hb s hs).2.2.2.2.1)
 have B0:=Lib.hid (Below.refl w.heap.size w);obtain ⟨P,hP⟩:∃ P:Ending->World->Prop,P=fun e w'=>∃ T',Fr T T' (fun x=>x=t+1) w w'/\((OfOk l n/\∃ B A' c',e=.returned (.tuple #[.pointer (some ⟨B,0,none⟩),.int .i64 0])/\YtAt T' w' t B A' c' l (n-1))\/(¬ OfOk l n/\e=.returned (.tuple #[.pointer none,.int .i64 1]))):=⟨_,rfl⟩
 have HNO:=Lib.hid (show ¬ OfOk l n->∀ w2,Below w.heap.size w w2->P (.returned (.tuple #[.pointer none,.int .i64 1])) w2 from fun hk w2 hb2=>by rw[hP];exact ⟨paint T w.heap.size 0,Fr.new hb2 0,.inr ⟨hk,rfl⟩⟩)
 rw[<-hP];have HP:=Lib.hid hP;clear hE hb hP;go_enter Tryz.func63,Tryz.ntmps63;go_upto_region 1 with fail
 by_cases d1:n<1
 ·have e1:decide (n<1)=true:=decide_eq_true d1
  have HF:=Lib.hid (HNO.out (fun h=>by have:=h.n0;omega))
  clear d1;go_wp2_with fail;exact HF.out _ (Below.refl _ _)
 have e1:decide (n<1)=false:=decide_eq_false d1
 by_cases d2:1099511627776<n
 ·have e2:decide (1099511627776<n)=true:=decide_eq_true d2
  have HF:=Lib.hid (HNO.out (fun h=>by have:=h.n1;omega))
  clear d1 d2;go_wp2_with fail;exact HF.out _ (Below.refl _ _)
 have e2:decide (1099511627776<n)=false:=decide_eq_false d2
 by_cases d3:8<l.length
 ·have e3:decide (8<(l.length:Int))=true:=decide_eq_true (by omega)
  have HF:=Lib.hid (HNO.out (fun h=>by have:=h.len;omega))
  clear d1 d2 d3;go_wp2_with fail;exact HF.out _ (Below.refl _ _)
 have e3:decide (8<(l.length:Int))=false:=decide_eq_false (by omega)
 have HL:=Lib.hid (show 1<=n/\n<=1099511627776/\l.length<=8 from ⟨by omega,by omega,by omega⟩)
 clear d1 d2 d3;go_wp2_with fail;clear e1 e2 e3;go_loopw [6] (fun iv wr=>∃ i:Nat,i<=l.length/\iv=.int .i64 (i:Int)/\Below w.heap.size w wr/\∀ j (hj:j<l.length),j<i->lst l j<lst l (j+1)/\(l[j]).id<n/\noB l[j]=false) (fun iv _=>l.length-(intOf iv).toNat)
 case atStart=>exact ⟨0,by omega,rfl,Below.refl _ _,fun j _ hj=>absurd hj (by omega)⟩
 case round=>
  obtain ⟨i,hi,rfl,hb,hall⟩:=hrel;obtain ⟨wo,rfl⟩:∃ wo:World,wo=wr:=⟨_,rfl⟩;have Bo:=Lib.hid hb;have HALL:=Lib.hid hall;clear hb hall
  by_cases hlt:i<l.length
  ·have hd:decide ((i:Int)<(l.length:Int))=true:=by simp;omega
   have hw:IntKind.i64.wrap ((i:Int)+1)=(i:Int)+1:=IntWalk.i64_in _ (by omega)
   obtain ⟨g,o,V,k,rfl,f1⟩:=H1.out.seat hlt;have Bz:=Lib.hid (onto B0.out B0.out.size Bo.out);have hrx:=HR.out l[i] (List.getElem_mem hlt);obtain ⟨x,hx⟩:∃ x,x=l[i]:=⟨_,rfl⟩;rw[<-hx] at f1 hrx;have q0:=f1 wo Bz.out;have a2:=q0.2.2.1;have H5:=Lib.hid (rreply_any x.c x.n x.m x.T k V x.f wo q0.2.2.2.2 hrx);have HX:=Lib.hid hx;have F1:=Lib.hid f1;obtain ⟨E,hE⟩:∃ E,E=repE x.c x.n x.m x.T:=⟨_,rfl⟩;rw[<-hE] at H5;have HE:=Lib.hid hE;clear hx f1 q0 hE hrx;go_wp2_with fail;refine H5.out.mono ?_;intro e w2 hp
   obtain ⟨V5,rfl,hb2⟩:∃ V,e=.returned (.tuple #[V,.int .i64 ((E:Nat):Int)])/\Below wo.heap.size wo w2:=by
    rcases hp with ⟨-,rfl,hb⟩|⟨rfl,v,rfl,-,hb⟩
    ·exact ⟨_,rfl,hb⟩
    ·exact ⟨v,rfl,hb⟩
   have B2:=Lib.hid (onto Bo.out Bo.out.size hb2);have Bz2:=Lib.hid (onto Bz.out Bz.out.size hb2);clear hp hb2 a2 H5;have q0:=F1.out w2 Bz2.out;have a2:=q0.2.2.1;have H6:=samerep_any x.c x.n x.m 0 0 0 x.T 0 k 0 V none x.f (fun _=>0#8) w2 q0.2.2.2.2 (Sl.nothing _ _ _ _ _)
   rw[repS_zero] at H6;obtain ⟨b8,h8⟩:∃ b,b=zB x.c x.n x.m x.T:=⟨_,rfl⟩;rw[<-h8] at H6;have H6':=Lib.hid H6;have H8:=Lib.hid h8;have bd0:=rp_b0;clear q0 H6 h8;go_wp2_with fail;refine H6'.out.mono ?_;rintro e w3 ⟨rfl,hb3⟩;have B3:=Lib.hid (onto B2.out B2.out.size hb3);have Bz3:=Lib.hid (onto Bz2.out Bz2.out.size hb3);clear hb3 H6' a2 B2 Bo Bz Bz2;go_upto_region 8 with fail
   simp only[List.append_eq,List.cons_append,List.nil_append];refine yE [] [0,1,2,3,4,5,6,7,8,9,10,11,12,13,14,15,16,17,18,19,20,21,22,23,24,25,26,27,28,29,30,31,32,33,34,35,36,37,38,39,40,41,42,43,44,45,46,47,48,49,50,51,52,53,54,55,56,57,58,59,60,61,62,63,64] (by kernel_rfl) (by kernel_rfl) (fun _ _ _ _ _ h=>h) fun Z=>?_
   have B4:=Lib.hid (onto B3.out B3.out.size Z.below);have Bz4:=Lib.hid (onto Bz3.out Bz3.out.size Z.below);obtain ⟨w4,hw4⟩:∃ w4,w4=Z.val:=⟨_,rfl⟩;rw[<-hw4] at B4 Bz4 ⊢;clear hw4 Z B3 Bz3;have Ba:=fun y:After w4=>onto Bz4.out Bz4.out.size y.below
   have a0:=fun y:After w4=>(F1.out y.val (Ba y)).1
   have a1:=fun y:After w4=>(F1.out y.val (Ba y)).2.1
   simp only[wpFs,pk,List.getElem?_cons_zero,List.getElem?_cons_succ];obtain ⟨b1,h1⟩:∃ b,b=decide (x.id<1):=⟨_,rfl⟩;obtain ⟨b2,h2⟩:∃ b,b=decide (n<=x.id):=⟨_,rfl⟩;obtain ⟨b4,h4⟩:∃ b,b=decide (x.q<0):=⟨_,rfl⟩;obtain ⟨b5,h5⟩:∃ b,b=decide (1099511627776<x.q):=⟨_,rfl⟩;obtain ⟨b6,h6⟩:∃ b,b=((E:Int) !=0):=⟨_,rfl⟩;obtain ⟨b7,h7⟩:∃ b,b=(x.q==0):=⟨_,rfl⟩;have hno:noB x=(b4||(b5||(b6||(b7&&!b8)))):=by unfold noB;rw[h4,h5,h6,h7,H8.out,HE.out]
   have d1:=h1.symm;have d2:=h2.symm;have d4:=h4.symm;have d5:=h5.symm;have d6:=h6.symm;have d7:=h7.symm;have hid:lst l (i+1)=x.id:=by rw[lst_s l i hlt,HX.out]
   have hup:i=0\/∃ p,i=p+1:=by
    rcases i with _|p
    ·exact .inl rfl
    ·exact .inr ⟨p,rfl⟩
   rcases hup with hi0|⟨p,hp⟩
   ·have d0:decide (0<(i:Int))=false:=by simp;omega
    have d0':decide (0<i)=false:=by simp;omega
    have HBAD:=Lib.hid (show (b1||(b2||noB x))=true->¬ OfOk l n from fun hh hk=>by
     have u:=hk.up i hlt;have v:=hk.no _ (List.getElem_mem hlt);have z:=lst_mono hk.up (l.length-(i+1)) (i+1) (by omega)
     rw[show i+1+(l.length-(i+1))=l.length by omega,hid] at z
     have zz:=hk.last;rw[hid,hi0,lst_0] at u;rw[<-HX.out] at v;rw[v,h1,h2] at hh;simp at hh
     omega)
    have HGOOD:=Lib.hid (show (b1||(b2||noB x))=false->lst l i<lst l (i+1)/\(l[i]).id<n/\noB l[i]=false from fun hh=>by
     rw[<-HX.out,hid,hi0,lst_0];rw[h1,h2] at hh;simp at hh
     exact ⟨by omega,by omega,hh.2.2⟩)
    rw[hno] at HBAD HGOOD;clear h1 h2 h4 h5 h6 h7 hno hid hi0 Ba
    cases b1 with
    |true=>
     have HQ:=Lib.hid (HNO.out (HBAD.out (by simp)))
     clear HBAD HGOOD
     repeat (go_big_quiet_step (fail))
     refine wpQuiet_nil ?_;clear a0 a1;go_wp2_with fail;exact HQ.out _ B4.out
    |false=>
     cases b2 with
     |true=>
      have HQ:=Lib.hid (HNO.out (HBAD.out (by simp)))
      clear HBAD HGOOD
      repeat (go_big_quiet_step (fail))
      refine wpQuiet_nil ?_;clear a0 a1;go_wp2_with fail;exact HQ.out _ B4.out
     |false=>
      cases b4 with
      |true=>
       have HQ:=Lib.hid (HNO.out (HBAD.out (by simp)))
       clear HBAD HGOOD
       repeat (go_big_quiet_step (fail))
       refine wpQuiet_nil ?_;clear a0 a1;go_wp2_with fail;exact HQ.out _ B4.out
      |false=>
       cases b5 with
       |true=>
        have HQ:=Lib.hid (HNO.out (HBAD.out (by simp)))
        clear HBAD HGOOD
        repeat (go_big_quiet_step (fail))
        refine wpQuiet_nil ?_;clear a0 a1;go_wp2_with fail;exact HQ.out _ B4.out
       |false=>
        cases b6 with
        |true=>
         have HQ:=Lib.hid (HNO.out (HBAD.out (by simp)))
         clear HBAD HGOOD
         repeat (go_big_quiet_step (fail))
         refine wpQuiet_nil ?_;clear a0 a1;go_wp2_with fail;exact HQ.out _ B4.out
        |false=>
         cases b7 with
         |false=>
          have HQ:=Lib.hid (HGOOD.out (by simp))
          clear HBAD HGOOD
          repeat (go_big_quiet_step (fail))
          refine wpQuiet_nil ?_;clear a0 a1;go_wp2_with fail;refine ⟨⟨i+1,by omega,by rw[Int.natCast_succ],B4.out,fun j hj hj2=>?_⟩,?_⟩
          ·by_cases hji:j<i
           ·exact HALL.out j hj hji
           ·obtain rfl:j=i:=by omega
            exact HQ.out
          ·simp only[intOf]
           omega
         |true=>
          cases b8 with
          |true=>
           have HQ:=Lib.hid (HGOOD.out (by simp))
           clear HBAD HGOOD
           repeat (go_big_quiet_step (fail))
           refine wpQuiet_nil ?_;clear a0 a1;go_wp2_with fail;refine ⟨⟨i+1,by omega,by rw[Int.natCast_succ],B4.out,fun j hj hj2=>?_⟩,?_⟩
           ·by_cases hji:j<i
            ·exact HALL.out j hj hji
            ·obtain rfl:j=i:=by omega
             exact HQ.out
           ·simp only[intOf]
            omega
          |false=>
           have HQ:=Lib.hid (HNO.out (HBAD.out (by simp)))
           clear HBAD HGOOD
           repeat (go_big_quiet_step (fail))
           refine wpQuiet_nil ?_;clear a0 a1;go_wp2_with fail;exact HQ.out _ B4.out
   ·have d0:decide (0<(i:Int))=true:=by simp;omega
    have d0':decide (0<i)=true:=by simp;omega
    have hpl:p<l.length:=by omega
    have hw2:IntKind.i64.wrap ((i:Int)-1)=(p:Int):=by rw[IntKind.wrap_i64];omega
    obtain ⟨g',o',V',k',e,f2⟩:=H1.out.seat hpl;cases e;obtain ⟨y,hy⟩:∃ y,y=l[p]:=⟨_,rfl⟩;rw[<-hy] at f2;have a3:=fun y:After w4=>(f2 y.val (Ba y)).1
    obtain ⟨b3,h3⟩:∃ b,b=decide (x.id<=y.id):=⟨_,rfl⟩;have d3:=h3.symm;have hil:lst l i=y.id:=by rw[hp,lst_s l p hpl,hy]
    have HBAD:=Lib.hid (show (b1||(b2||(b3||noB x)))=true->¬ OfOk l n from fun hh hk=>by
     have u:=hk.up i hlt;have v:=hk.no _ (List.getElem_mem hlt);have z:=lst_mono hk.up (l.length-(i+1)) (i+1) (by omega)
     rw[show i+1+(l.length-(i+1))=l.length by omega,hid] at z
     have zz:=hk.last;have z0:=lst_mono hk.up i 0 (by omega)
     rw[Nat.zero_add,hil,lst_0] at z0;rw[hid,hil] at u;rw[<-HX.out] at v;rw[v,h1,h2,h3] at hh;simp at hh
     omega)
    have HGOOD:=Lib.hid (show (b1||(b2||(b3||noB x)))=false->lst l i<lst l (i+1)/\(l[i]).id<n/\noB l[i]=false from fun hh=>by
     rw[<-HX.out,hid,hil];rw[h1,h2,h3] at hh;simp at hh
     exact ⟨by omega,by omega,hh.2.2.2⟩)
    rw[hno] at HBAD HGOOD;clear h1 h2 h3 h4 h5 h6 h7 hno hid hil f2 hy hp Ba
    cases b1 with
    |true=>
     have HQ:=Lib.hid (HNO.out (HBAD.out (by simp)))
     clear HBAD HGOOD
     repeat (go_big_quiet_step (fail))
     refine wpQuiet_nil ?_;clear a0 a1;go_wp2_with fail;exact HQ.out _ B4.out
    |false=>
     cases b2 with
     |true=>
      have HQ:=Lib.hid (HNO.out (HBAD.out (by simp)))
      clear HBAD HGOOD
      repeat (go_big_quiet_step (fail))
      refine wpQuiet_nil ?_;clear a0 a1;go_wp2_with fail;exact HQ.out _ B4.out
     |false=>
      cases b3 with
      |true=>
       have HQ:=Lib.hid (HNO.out (HBAD.out (by simp)))
       clear HBAD HGOOD
       repeat (go_big_quiet_step (fail))
       refine wpQuiet_nil ?_;clear a0 a1;go_wp2_with fail;exact HQ.out _ B4.out
      |false=>
       cases b4 with
       |true=>
        have HQ:=Lib.hid (HNO.out (HBAD.out (by simp)))
        clear HBAD HGOOD
        repeat (go_big_quiet_step (fail))
        refine wpQuiet_nil ?_;clear a0 a1;go_wp2_with fail;exact HQ.out _ B4.out
       |false=>
        cases b5 with
        |true=>
         have HQ:=Lib.hid (HNO.out (HBAD.out (by simp)))
         clear HBAD HGOOD
         repeat (go_big_quiet_step (fail))
         refine wpQuiet_nil ?_;clear a0 a1;go_wp2_with fail;exact HQ.out _ B4.out
        |false=>
         cases b6 with
         |true=>
          have HQ:=Lib.hid (HNO.out (HBAD.out (by simp)))
          clear HBAD HGOOD
          repeat (go_big_quiet_step (fail))
          refine wpQuiet_nil ?_;clear a0 a1;go_wp2_with fail;exact HQ.out _ B4.out
         |false=>
          cases b7 with
          |false=>
           have HQ:=Lib.hid (HGOOD.out (by simp))
           clear HBAD HGOOD
           repeat (go_big_quiet_step (fail))
           refine wpQuiet_nil ?_;clear a0 a1;go_wp2_with fail;refine ⟨⟨i+1,by omega,by rw[Int.natCast_succ],B4.out,fun j hj hj2=>?_⟩,?_⟩
           ·by_cases hji:j<i
            ·exact HALL.out j hj hji
            ·obtain rfl:j=i:=by omega
             exact HQ.out
           ·simp only[intOf]
            omega
          |true=>
           cases b8 with
           |true=>
            have HQ:=Lib.hid (HGOOD.out (by simp))
            clear HBAD HGOOD
            repeat (go_big_quiet_step (fail))
            refine wpQuiet_nil ?_;clear a0 a1;go_wp2_with fail;refine ⟨⟨i+1,by omega,by rw[Int.natCast_succ],B4.out,fun j hj hj2=>?_⟩,?_⟩
            ·by_cases hji:j<i
             ·exact HALL.out j hj hji
             ·obtain rfl:j=i:=by omega
              exact HQ.out
            ·simp only[intOf]
             omega
           |false=>
            have HQ:=Lib.hid (HNO.out (HBAD.out (by simp)))
            clear HBAD HGOOD
            repeat (go_big_quiet_step (fail))
            refine wpQuiet_nil ?_;clear a0 a1;go_wp2_with fail;exact HQ.out _ B4.out
  ·obtain rfl:i=l.length:=by omega
   have hd:decide ((l.length:Int)<(l.length:Int))=false:=by simp
   have HK:=Lib.hid (show OfOk l n from ⟨HL.out.1,HL.out.2.1,HL.out.2.2,fun i hi=>(HALL.out i hi hi).1,by
    rcases Nat.eq_zero_or_pos l.length with e|e
    ·rw[e,lst_0];have:=HL.out.1;omega
    ·have:=(HALL.out (l.length-1) (by omega) (by omega)).2.1
     rw[<-lst_s l (l.length-1) (by omega),show l.length-1+1=l.length by omega] at this
     exact this,fun s hs=>by
    obtain ⟨i,hi,rfl⟩:=List.getElem_of_mem hs
    exact (HALL.out i hi hi).2.2⟩)
   have b9:=Bo.out.alloc Bo.out.size (.cells #[] 121);have E9:=Lib.hid (HE0.out.fr yL (Fr.new (H:=fun _=>False) b9 0) (fun h=>h) (fun h=>h))
   have G9:=Lib.hid (Fr.new (T:=T) (H:=fun x=>x=t+1) b9 0)
   have bd2:=fun A k c w=>rt_b2 A k c n w
   clear b9;go_wp2_with (at_builtin;refine wpl_appSl rfl (.tmp 108) (.tmp 109) rfl E9.out (by omega) wo.heap.size (t+1) (by omega) (by simp[Act.eval]) (by simp[Act.eval]) ?_;intro A5 c5 w5 e5 f5)
   rw[HP.out];have b6:=(Below.refl w5.heap.size w5).alloc (Nat.le_refl _) (.cells #[.slice A5 l.length c5,.int .i64 n] 111);refine ⟨_,(G9.out.trans f5).trans (Fr.new b6 t),.inl ⟨HK.out,w5.heap.size,A5,c5,rfl,⟨?_,zP (Nat.le_refl _),e5.fr yL (Fr.new (H:=fun _=>False) b6 t) (fun h=>h) (fun h=>h)⟩⟩⟩
   rw[show n-1+1=n by omega]
   exact zA _ _ _ _ rfl
theorem VsAt.re{T T2:Mk}{w:World}{t:Nat}{e:TypeId}{v:Value}{l:List Ve}(h:VsAt T w t e v l)(ht:0<t)(h1:∀ j,T j≠0->T2 j=T j):VsAt T2 w t e v l:=
 ⟨h.own,fun g hg=>by have:=h.tg g hg;rw[h1 g (by omega)];exact this⟩
theorem RsAt.re{T T2:Mk}{w:World}{t:Nat}{eR eV:TypeId}{v:Value}{K:Ks}(h:RsAt T w t eR eV v K)(ht:0<t)(h1:∀ j,T j≠0->T2 j=T j):RsAt T2 w t eR eV v K:=by
 obtain ⟨xs,h2,h3⟩:=h.own;refine ⟨⟨xs,h2,fun i hi=>?_⟩,fun g hg=>by have:=h.tg g hg;rw[h1 g (by omega)];exact this⟩
 obtain ⟨h4,vi,h5,h6⟩:=h3 i hi;exact ⟨h4,vi,h5,h6.re (by omega) h1⟩
theorem rof13_any(T:Mk)(t:Nat)(ht:0<t)(K:Ks)(v:Value)(w:World)(h:RRd w v K)(hK:K.length<=100000)(hV:∀ r∈K,r.l.length<=100000):
  Calls Tryz.prog 62 #[v] w fun e w'=>∃ T',Fr T T' (fun _=>False) w w'/\((okK K/\∃ g,e=.returned (.tuple #[.pointer (some ⟨g,0,none⟩),.int .i64 0])/\KAt T' w' t 59 63 g K)\/(¬ okK K/\e=.returned (.tuple #[.pointer none,.int .i64 1]))):=by
 have hh:=h;obtain ⟨A,c,rfl,hle,hmx,hat⟩:=h.at_;have HAT:=Lib.hid hat;have HV:=Lib.hid hV;have HH:=Lib.hid hh
 have hno:ofB K=false->∀ (tm:Array Value),tm.getD 2 undef=.pointer none->tm.getD 3 undef=.int .i64 1->∀ w2:World,Below w.heap.size w w2->
   bodyPost Tryz.prog Tryz.f62 (fun e w'=>∃ T',Fr T T' (fun _=>False) w w'/\((okK K/\∃ g,e=.returned (.tuple #[.pointer (some ⟨g,0,none⟩),.int .i64 0])/\KAt T' w' t 59 63 g K)\/(¬ okK K/\e=.returned (.tuple #[.pointer none,.int .i64 1])))) .ret { tmps:=tm,defers:=[] } w2:=by
  intro h0 tm e2 e3 w2 hb;refine bodyPost_ret (v:=.tuple #[.pointer none,.int .i64 1]) ?_ rfl ⟨paint T w.heap.size 0,Fr.new hb 0,.inr ⟨fun hk=>(by rw[ofB_iff.2 hk] at h0;cases h0),rfl⟩⟩
  have e2':tm[2]?.getD undef=.pointer none:=by simpa using e2
  have e3':tm[3]?.getD undef=.int .i64 1:=by simpa using e3
  simp[results,Tryz.results62,e2',e3']
 have HNO:=Lib.hid hno;obtain ⟨n,hn⟩:∃ n,n=K.length:=⟨_,rfl⟩;have HN:=Lib.hid hn;rw[<-hn] at hle hK ⊢;clear h hh hat hV hn hno
 by_cases h8:8<n
 ·have hd:decide ((8:Int)<(n:Int))=true:=by simp;omega
  have hb0:ofB K=false:=by
   cases hq:ofB K
   ·rfl
   ·have:=(ofB_iff.1 hq).1;have:=HN.out;omega
  go_enter Tryz.func62,Tryz.ntmps62;go_wp2_with fail;exact HNO.out hb0 _ rfl rfl _ (Below.refl _ _)
 have hd:decide ((8:Int)<(n:Int))=false:=by simp;omega
 go_enter Tryz.func62,Tryz.ntmps62;go_wp2_with fail;clear hd;go_loopw [4] (fun iv wr=>∃ i:Nat,i<=n/\iv=.int .i64 i/\Below w.heap.size w wr/\∀ j (hj:j<K.length),j<i->rB K[j]=true) (fun iv _=>n-(intOf iv).toNat)
 case atStart=>exact ⟨0,by omega,rfl,Below.refl _ _,fun j _ hj=>absurd hj (by omega)⟩
 case round=>
  obtain ⟨i,hi,rfl,hb,hall⟩:=hrel;obtain ⟨w1,rfl⟩:∃ w1:World,w1=wr:=⟨_,rfl⟩;have HB:=Lib.hid hb;have HALL:=Lib.hid hall;clear hall
  by_cases hlt:i<n
  ·have hiK:i<K.length:=by have:=HN.out;omega
   obtain ⟨g,o,rfl,hg,hc⟩:=HAT.out (by omega)
   obtain ⟨h0,vi,h1,h2⟩:=hc i hiK;obtain ⟨A2,c2,rfl,hle2,-,-,hat2⟩:=h2.at_;have hr1:=HV.out K[i] (List.getElem_mem _);obtain ⟨r,hr⟩:∃ r,r=K[i]:=⟨_,rfl⟩;rw[<-hr] at h1 h2 hle2 hat2 hr1;obtain ⟨L,hL⟩:∃ L,L=r.l.length:=⟨_,rfl⟩;rw[<-hL] at h1 hle2 hr1;have HL:=Lib.hid hL;have HR:=Lib.hid hr;have H1:=Lib.hid h1;have HAT2:=Lib.hid hat2;have y1:=(HB.out.cell (p:=⟨g,o+i*2+1,none⟩) hg).trans h1;clear hc hr h0 h1 h2 hat2 hL hb
   by_cases hL1:L<1
   ·have hd1:decide ((L:Int)<1)=true:=by simp;omega
    have hbr:ofB K=false:=ofB_no_ring i hiK (by rw[<-HR.out];unfold rB;rw[show decide (1<=r.l.length)=false from decide_eq_false (by have:=HL.out;omega)];rfl)
    go_wp2_with fail;exact HNO.out hbr _ rfl rfl _ HB.out
   have hd1:decide ((L:Int)<1)=false:=by simp;omega
   by_cases hL4:4<L
   ·have hd4:decide ((4:Int)<(L:Int))=true:=by simp;omega
    have hbr:ofB K=false:=ofB_no_ring i hiK (by rw[<-HR.out];unfold rB;rw[show decide (r.l.length<=4)=false from decide_eq_false (by have:=HL.out;omega)];simp)
    go_wp2_with fail;exact HNO.out hbr _ rfl rfl _ HB.out
   have hd4:decide ((4:Int)<(L:Int))=false:=by simp;omega
   go_wp2_with fail;clear hd1 hd4 y1;go_loopw [5] (fun kv wr=>∃ k:Nat,k<=L/\kv=.int .i64 k/\Below w.heap.size w wr/\∀ j (hj:j<r.l.length),j<k->vB r.l[j]=true) (fun kv _=>L-(intOf kv).toNat)
   case atStart=>exact ⟨0,by omega,rfl,HB.out,fun j _ hj=>absurd hj (by omega)⟩
   case round=>
    clear HB;obtain ⟨k,hk,rfl,hb,hallv⟩:=hrel;obtain ⟨w3,rfl⟩:∃ w3:World,w3=wr:=⟨_,rfl⟩;have HB:=Lib.hid hb;have HALLV:=Lib.hid hallv;have y1:=(HB.out.cell (p:=⟨g,o+i*2+1,none⟩) hg).trans H1.out;clear hb hallv
    by_cases hlk:k<L
    ·have hkl:k<r.l.length:=by have:=HL.out;omega
     obtain ⟨g2,o2,rfl,hg2,hc2⟩:=HAT2.out (by omega)
     obtain ⟨x,hx⟩:∃ x,x=r.l[k]:=⟨_,rfl⟩
     have q2:ldR Tryz.prog 63 34 w3 g2 (o2+k*34) (row w3 g2)=.ok (.agg (veA x)) w3:=ver_cells w3 g2 (o2+k*34) x fun j hj=>by
      rw[hx,<-hc2 k j hkl hj];exact HB.out.cell (p:=⟨g2,o2+k*34+j,none⟩) hg2
     have HX:=Lib.hid hx;have B4:=Lib.hid (HB.out.alloc HB.out.size (.cells (veA x) 63));have hbad:vB x=false->ofB K=false:=fun h=>ofB_no_ring i hiK (by rw[<-HR.out];exact rB_no_ver k hkl (by rw[<-HX.out];exact h))
     clear hc2 hx;cases hu1:decide (x.u<0)
     ·cases hu2:decide ((16:Int)<x.u)
      ·cases hgn:x.g
       ·have hvx:vB x=true:=by unfold vB;rw[hgn];simp at hu1 hu2 ⊢;omega
        have HVX:=Lib.hid hvx;clear hbad hvx;go_wp2_with fail;go_roundw
        case rel=>exact ⟨k+1,by omega,by go_num,B4.out,fun j hj hjk=>by
         by_cases hjk2:j<k
         ·exact HALLV.out j hj hjk2
         ·obtain rfl:j=k:=by omega
          rw[<-HX.out];exact HVX.out⟩
        case measure=>simp[intOf];omega
       ·cases hz:eqB 32 x.m (fun _=>0#8)
        ·have hno:=hbad (by unfold vB;rw[hgn,hz];simp)
         clear hbad;go_wp2_with fail;exact HNO.out hno _ rfl rfl _ B4.out
        ·have hvx:vB x=true:=by unfold vB;rw[hgn,hz];simp at hu1 hu2 ⊢;omega
         have HVX:=Lib.hid hvx;clear hbad hvx;go_wp2_with fail;go_roundw
         case rel=>exact ⟨k+1,by omega,by go_num,B4.out,fun j hj hjk=>by
          by_cases hjk2:j<k
          ·exact HALLV.out j hj hjk2
          ·obtain rfl:j=k:=by omega
           rw[<-HX.out];exact HVX.out⟩
         case measure=>simp[intOf];omega
      ·have hno:=hbad (by unfold vB;simp at hu2;rw[show decide (x.u<=16)=false by simp;omega];simp)
       clear hbad;go_wp2_with fail;exact HNO.out hno _ rfl rfl _ B4.out
     ·have hno:=hbad (by unfold vB;simp at hu1;rw[show decide (0<=x.u)=false by simp;omega];simp)
      clear hbad;go_wp2_with fail;exact HNO.out hno _ rfl rfl _ B4.out
    ·obtain rfl:k=L:=by omega
     have hrb:rB r=true:=rB_iff.2 ⟨⟨by have:=HL.out;omega,by have:=HL.out;omega⟩,fun v hv=>by
      obtain ⟨j,hj,rfl⟩:=List.getElem_of_mem hv
      exact vB_iff.1 (HALLV.out j hj (by have:=HL.out;omega))⟩
     have HRB:=Lib.hid hrb;clear hrb;go_wp2_with fail;go_roundw
     case rel=>exact ⟨i+1,by omega,by go_num,HB.out,fun j hj hji=>by
      by_cases hji2:j<i
      ·exact HALL.out j hj hji2
      ·obtain rfl:j=i:=by omega
       rw[<-HR.out];exact HRB.out⟩
     case measure=>simp[intOf];omega
  ·obtain rfl:i=n:=by omega
   have hyes:ofB K=true:=ofB_iff.2 ⟨by have:=HN.out;omega,fun r hr=>by
    obtain ⟨j,hj,rfl⟩:=List.getElem_of_mem hr
    exact rB_iff.1 (HALL.out j hj (by have:=HN.out;omega))⟩
   have HY:=Lib.hid hyes;clear hyes;go_wp2_with fail;have hcp:=rcopy_any (fun _=>0) (t+1) K (.slice A i c) w1 (by have:=HH.out.below HB.out;rw[<-HN.out] at this;exact this) (by have:=(ofB_iff.1 HY.out).1;omega) (fun r hr=>by have:=((ofB_iff.1 HY.out).2 r hr).1.2;omega) (fun k _=>by show (0:Nat)≠t+1;omega)
   refine hcp.mono ?_;rintro e w5 ⟨v5,T5,rfl,hrs5,ht5,-,hb5⟩;obtain ⟨A5,c5,rfl,-⟩:=hrs5.form;have B5:=Lib.hid (onto HB.out HB.out.size hb5);have R5:=Lib.hid hrs5;have T5':=Lib.hid ht5;have HB5:=Lib.hid hb5;clear hcp hb5 hrs5 ht5;go_wp2_with fail;have b6:=(Below.refl w5.heap.size w5).alloc (Nat.le_refl _) (.cells #[.slice A5 K.length c5] 88);have B6:=onto B5.out B5.out.size b6;have hz1:=HB.out.size;have hz5:=HB5.out.size;refine bodyPost_ret (v:=.tuple #[.pointer (some ⟨w5.heap.size,0,none⟩),.int .i64 0]) (by simp[results,Tryz.results62,go_sem]) rfl ⟨fun k=>if k<w.heap.size then T k else paint T5 w5.heap.size t k,Fr.calm B6 fun k hk=>if_pos hk,.inl ⟨ofB_iff.1 HY.out,w5.heap.size,rfl,?_,⟨_,zA _ _ _ _ rfl,?_⟩,ofB_iff.1 HY.out⟩⟩
   ·show (if _ then _ else _)=t
    rw[if_neg (by omega)]
    exact zP (Nat.le_refl _)
   ·refine (R5.out.fr (Fr.new (H:=fun _=>False) b6 t) (fun _ _ _ h=>h)).re (by omega) fun j hj=>?_
    show (if _ then _ else _)=_
    by_cases h:j<w.heap.size
    ·exact absurd (by rw[zH (by omega)];exact T5'.out j (by omega)) hj
    ·rw[if_neg h]
section
variable {K:Kp} {W w:World} {X t:Nat} {l:By} {o:Bool}
theorem ls_num(h:LS (fun T w=>QdI T w X l o/\K T w) W w)(hK:Stb (fun c=>c=1) K):
  Calls Tryz.prog 60 #[.pointer (some ⟨X,0,none⟩)] w fun e w'=>∃ (v:Nat) (l':By) (o':Bool),e=.returned (.int .i64 (v:Int))/\LS (fun T w=>QdI T w X l' o'/\K T w) W w'/\v<9223372036854775808/\QdQ eN u63 l o v l' o':=by
 obtain ⟨T,hf,q,k⟩:=h;refine (rnumr_any T X l o w q).mono ?_;rintro e w' ⟨v,l',o',T',rfl,q',f,hv,hq⟩;exact ⟨v,l',o',rfl,⟨T',hf.trans (f.mono fun c hc=>by omega),q',hK _ _ _ _ _ k f fun _ h=>h⟩,hv,hq⟩
theorem ls_rkey(h:LS (fun T w=>QdI T w X l o/\K T w) W w)(hK:Stb (fun c=>c=1) K):
  Calls Tryz.prog 59 #[.pointer (some ⟨X,0,none⟩)] w fun e w'=>∃ (k:Bf) (l':By) (o':Bool),e=.returned (.agg (ba 32 k))/\LS (fun T w=>QdI T w X l' o'/\K T w) W w'/\QdQ (eT 32) tt1 l o k l' o':=by
 obtain ⟨T,hf,q,k⟩:=h;refine (rkeyr_any T X l o w q).mono ?_;rintro e w' ⟨v,l',o',T',rfl,q',f,hq⟩;exact ⟨v,l',o',rfl,⟨T',hf.trans (f.mono fun c hc=>by omega),q',hK _ _ _ _ _ k f fun _ h=>h⟩,hq⟩
theorem ls_rof13(h:LS K W w)(hK:Stb (fun _=>False) K)(ht:0<t){L:Ks}{v:Value}(hR:RRd w v L)(hL:L.length<=100000)(hV:∀ r∈L,r.l.length<=100000):
  Calls Tryz.prog 62 #[v] w fun e w'=>(okK L/\∃ g,e=.returned (.tuple #[.pointer (some ⟨g,0,none⟩),.int .i64 0])/\LS (fun T w=>KAt T w t 59 63 g L/\K T w) W w')\/(¬ okK L/\e=.returned (.tuple #[.pointer none,.int .i64 1])/\LS K W w'):=by
 obtain ⟨T,hf,k⟩:=h;refine (rof13_any T t ht L v w hR hL hV).mono ?_;rintro e w' ⟨T',f,⟨h1,g,rfl,h2⟩|⟨h1,rfl⟩⟩
 ·exact .inl ⟨h1,g,rfl,T',hf.trans (f.mono fun c h=>h.elim),h2,hK _ _ _ _ _ k f fun _ h=>h⟩
 ·exact .inr ⟨h1,rfl,T',hf.trans (f.mono fun c h=>h.elim),hK _ _ _ _ _ k f fun _ h=>h⟩
theorem ls_rof15(h:LS K W w)(hK:Stb (fun c=>c=t+1) K)(ht:0<t){tg:Nat}{A:Option Addr}{c:Nat}{L:List Se}(n:Int)(hE:∀ T,K T w->ElAt 6 seEl T w tg A c L)(hl:L.length<100000)(hb:SeB L):
  Calls Tryz.prog 63 #[.slice A L.length c,.int .i64 n] w fun e w'=>(OfOk L n/\∃ B A' c',e=.returned (.tuple #[.pointer (some ⟨B,0,none⟩),.int .i64 0])/\LS (fun T w=>YtAt T w t B A' c' L (n-1)/\K T w) W w')\/(¬ OfOk L n/\e=.returned (.tuple #[.pointer none,.int .i64 1])/\LS K W w'):=by
 obtain ⟨T,hf,k⟩:=h;refine (rof15_el T t tg A c L n w (hE T k) ht hl hb).mono ?_;rintro e w' ⟨T',f,⟨h1,B,A',c',rfl,h2⟩|⟨h1,rfl⟩⟩
 ·exact .inl ⟨h1,B,A',c',rfl,T',hf.trans (f.mono fun c h=>by omega),h2,hK _ _ _ _ _ k f fun _ h=>h⟩
 ·exact .inr ⟨h1,rfl,T',hf.trans (f.mono fun c h=>by omega),hK _ _ _ _ _ k f fun _ h=>h⟩
theorem ls_rof7(h:LS K W w)(hK:Stb (fun _=>False) K)(ht:t≠0)(d:St)(n:Int):
  Calls Tryz.prog 64 #[.agg (ba 32 d.1),.agg (ba 32 d.2),.int .i64 n] w fun e w'=>∃ g,e=.returned (.pointer (some ⟨g,0,none⟩))/\LS (fun T w=>DrAt T w t g d n/\K T w) W w':=by
 obtain ⟨T,hf,k⟩:=h;refine (rof7_any T t d n w ht).mono ?_;rintro e w' ⟨g,T',rfl,h2,f⟩;exact ⟨g,rfl,T',hf.trans (f _),h2,hK _ _ _ _ _ k (f fun _=>False) fun _ h=>h⟩
theorem LS.qd(h:LS (fun T w=>QdI T w X l o/\K T w) W w):w.cell? ⟨X,1,none⟩=some (.bool o):=by
 obtain ⟨T,q,-⟩:=h.fact;obtain ⟨A,c,hr,-⟩:=q.at_;exact zC hr 1
theorem Stb.rs{S:Nat->Prop}{t:Nat}{eR eV:TypeId}{v:Value}{L:Ks}(hn:∀ c,t<=c->¬ S c):Stb S fun T w=>RsAt T w t eR eV v L:=fun T T' H w w' k f hH=>k.fr f fun c h1 h2 h3=>hn c h1 (hH _ h3)
theorem Stb.vs{S:Nat->Prop}{t:Nat}{e:TypeId}{v:Value}{L:List Ve}(hn:¬ S t):Stb S fun T w=>VsAt T w t e v L:=fun T T' H w w' k f hH=>k.fr f fun h=>hn (hH _ h)
theorem Stb.el{S:Nat->Prop}{t:Nat}{A:Option Addr}{c:Nat}{L:List Se}(hn:¬ S t)(h0:¬ S 0):Stb S fun T w=>ElAt 6 seEl T w t A c L:=fun T T' H w w' k f hH=>k.fr yL f (fun h=>hn (hH _ h)) (fun h=>h0 (hH _ h))
theorem Stb.kat{S:Nat->Prop}{t g:Nat}{eR eV:TypeId}{L:Ks}(hn:∀ c,Hk t c->¬ S c):Stb S fun T w=>KAt T w t eR eV g L:=fun T T' H w w' k f hH=>k.fr f fun c h1 h2=>hn c h1 (hH _ h2)
theorem Stb.yt{S:Nat->Prop}{t B:Nat}{A:Option Addr}{c:Nat}{L:List Se}{n:Int}(h1:¬ S t)(h2:¬ S (t+1))(h0:¬ S 0):Stb S fun T w=>YtAt T w t B A c L n:=fun T T' H w w' k f hH=>k.fr f (fun h=>h1 (hH _ h)) (fun h=>h2 (hH _ h)) (fun h=>h0 (hH _ h))
end
theorem rg_bO(b:Bool)(w:World):(bdA 59 #[(0,.bool b)]).run Tryz.prog w=.ok (.agg (rgA b (.slice none 0 0))) w:=by unfold bdA rgA;cases b<;>kernel_rfl
theorem rd_b(A:Option Addr)(n c:Nat)(w:World):(Instr.build 117 #[(0,.slice A n c)]).run Tryz.prog w=.ok (.agg #[.slice A n c,.bool false]) w:=by kernel_rfl
end Go.Proofs.YteffjpdcghlnlaaGreatDoor.Oct
namespace Go.Proofs.YteffjpdcghlnlaaGreatDoor.Oct
open Go.ChangeShapes Go.WideShapes Go.ChangeAt Go.RowKit Go.Maps
abbrev WroteB(l:By)(w:World):Ending->World->Prop:=fun e w'=>∃ A c,e=.returned (.tuple #[.slice A l.length c,.int .i64 0])/\Own w' w.heap.size 5 (.slice A l.length c) l.length (lf l)/\Below w.heap.size w w'
theorem rputB(l:By)(n c:Nat)(A:Option Addr)(w:World)(hs:Sl w w.heap.size A l.length c (lf l))(hl:l.length<=140737488350000)(hn:u63 n):
  Calls Tryz.prog 99 #[.slice A l.length c,.int .i64 n] w (WroteB (l++eN n) w):=by
 refine (rput_any n l.length c A (lf l) w hs (by omega) hn).mono ?_
 rintro e w' ⟨v,rfl,ho,hb⟩;obtain ⟨A',c',rfl,-,-⟩:=ho.wf;have e:(l++eN n).length=l.length+encL n:=by unfold eN;rw[List.length_append,xL]
 rw[WroteB,e];exact ⟨A',c',rfl,ho.congr fun i hi=>lf_more i hi,hb⟩
theorem rputtB(l:By)(T c c1:Nat)(A A1:Option Addr)(f:Bf)(w:World)(hs:Sl w w.heap.size A l.length c (lf l))(hf:Sl w w.heap.size A1 T c1 f)(hl:l.length<=140737488350000)(hT:T<=4096):
  Calls Tryz.prog 98 #[.slice A l.length c,.slice A1 T c1] w (WroteB (l++eT T f) w):=by
 refine (rputt_any l.length c T c1 A A1 (lf l) f w hs hf (by omega) hT).mono ?_
 rintro e w' ⟨v,rfl,ho,hb⟩;obtain ⟨A',c',rfl,-,-⟩:=ho.wf;have e:(l++eT T f).length=l.length+txL T:=by rw[eT_bl,List.length_append,xL]
 rw[WroteB,e];exact ⟨A',c',rfl,ho.congr fun i hi=>by rw[eT_bl];exact lf_more i hi,hb⟩
theorem rflag16_any(b:Bool)(w:World):Calls Tryz.prog 100 #[.bool b] w fun e w'=>e=.returned (.int .i64 ((if b=true then 1 else 0:Nat):Int))/\w'=w:=by
 cases b with
 |true=>
  go_enter Tryz.func100,Tryz.ntmps100;go_wp2_with fail;go_ret;exact ⟨rfl,rfl⟩
 |false=>
  go_enter Tryz.func100,Tryz.ntmps100;go_wp2_with fail;go_ret;exact ⟨rfl,rfl⟩
theorem ownSl{w:World}{b n c:Nat}{u:TypeId}{A:Option Addr}{f:Bf}(h:Own w b u (.slice A n c) n f):Sl w w.heap.size A n c f:=by
 obtain ⟨A',c',e,hs,-⟩:=h.sl;simp only[Value.slice.injEq] at e;obtain ⟨rfl,-,rfl⟩:=e;exact hs
structure EnI(w:World)(L:By)(A:Option Addr)(c:Nat)(w':World):Prop where
 own:Own w' w.heap.size 5 (.slice A L.length c) L.length (lf L)
 bel:Below w.heap.size w w'
theorem EnI.step{w w' w2:World}{L L2:By}{A A2:Option Addr}{c c2:Nat}(h:EnI w L A c w')(ho:Own w2 w'.heap.size 5 (.slice A2 L2.length c2) L2.length (lf L2))(hb:Below w'.heap.size w' w2):EnI w L2 A2 c2 w2:=
 ⟨ho.base h.bel.size,onto h.bel h.bel.size hb⟩
theorem EnI.more{w w' w2:World}{L:By}{A:Option Addr}{c:Nat}(h:EnI w L A c w')(hb:Below w'.heap.size w' w2):EnI w L A c w2:=
 ⟨h.own.below hb (Nat.le_refl _),onto h.bel h.bel.size hb⟩
theorem renc_any(T:Mk)(t B:Nat)(x:Sx)(w:World)(h:YsAt T w t B x)(hx:SxE x):
  Calls Tryz.prog 52 #[.pointer (some ⟨B,0,none⟩)] w fun e w'=>∃ A c,e=.returned (.slice A (eSx x).length c)/\Own w' w.heap.size 5 (.slice A (eSx x).length c) (eSx x).length (lf (eSx x))/\Below w.heap.size w w':=by
 obtain ⟨g,k,q,Aq,cq,hr,hd,hk,hy⟩:=h.at_;obtain ⟨hTg,AK,cK,hg,-,-⟩:=hd;have HR:=Lib.hid hr;have HG:=Lib.hid hg;have HKK:=Lib.hid hk;have HY:=Lib.hid hy;have HX:=Lib.hid hx;have H1:=Lib.hid (show Calls Tryz.prog 98 #[.slice none 0 0,.slice (some ⟨g,9,none⟩) 32 32] w (WroteB (eT 32 x.d.1) w) from rputtB [] 32 0 32 none (some ⟨g,9,none⟩) x.d.1 w (Sl.nothing _ _ _ _ _) (rsc_slk hg _ (zK hg)) (by simp) (by omega))
 have b0:=zC hr 0;clear hk hy hx h;go_enter Tryz.func52,Tryz.ntmps52;go_wp2_with fail;refine H1.out.mono ?_;rintro e w2 ⟨A1,c1,rfl,ho1,hb1⟩;have E1:=Lib.hid (show EnI w (eT 32 x.d.1) A1 c1 w2 from ⟨ho1,hb1⟩)
 have l1:=eT32_le x.d.1;obtain ⟨L1,hL1⟩:∃ L1,L1=eT 32 x.d.1:=⟨_,rfl⟩;rw[<-hL1] at E1 l1 ⊢;have HL1:=Lib.hid hL1;clear ho1 hb1 hL1 b0 H1 hr hg;have b0:=zC (zD E1.out.bel HR.out) 0;have g2:=zD E1.out.bel HG.out;have H2:=Lib.hid (rputtB L1 32 c1 32 A1 (some ⟨g,41,none⟩) x.d.2 w2 (ownSl E1.out.own) (rsc_slv g2 _ (zK g2)) (by omega) (by omega))
 clear g2;go_wp2_with fail;refine H2.out.mono ?_;rintro e w3 ⟨A2,c2,rfl,ho2,hb2⟩;have E2:=Lib.hid (E1.out.step ho2 hb2);have l2:(L1++eT 32 x.d.2).length<=82:=by have:=eT32_le x.d.2;rw[List.length_append];omega
 obtain ⟨L2,hL2⟩:∃ L2,L2=L1++eT 32 x.d.2:=⟨_,rfl⟩;rw[<-hL2] at E2 l2 ⊢;have HL2:=Lib.hid hL2;clear ho2 hb2 hL2 b0 H2 E1;obtain ⟨n,hn⟩:∃ n:Nat,(n:Int)=x.n:=⟨x.n.toNat,Int.toNat_of_nonneg (by have:=HX.out.n;omega)⟩
 have b0:=zC (zD E2.out.bel HR.out) 0;have g3:=rsc_cell (zD E2.out.bel HG.out);rw[<-hn] at g3;have HN:=Lib.hid hn;have H3:=Lib.hid (rputB L2 n c2 A2 w3 (ownSl E2.out.own) (by omega) (by have:=HX.out.n;show n<9223372036854775808;omega))
 clear hn;go_wp2_with fail;refine H3.out.mono ?_;rintro e w4 ⟨A3,c3,rfl,ho3,hb3⟩;have E3:=Lib.hid (E2.out.step ho3 hb3);have l3:(L2++eN n).length<=91:=by have:=eN_le n;rw[List.length_append];omega
 obtain ⟨L3,hL3⟩:∃ L3,L3=L2++eN n:=⟨_,rfl⟩;rw[<-hL3] at E3 l3 ⊢;have HL3:=Lib.hid hL3;clear ho3 hb3 hL3 b0 g3 H3 E2;obtain ⟨v,rk,hrs⟩:=HKK.out.row;obtain ⟨AQ,cQ,rfl,hQ⟩:=hrs.form;have RK:=Lib.hid rk;have HQ:=Lib.hid hQ;have b0:=zC (zD E3.out.bel HR.out) 1;have k0:=zC (zD E3.out.bel rk) 0;have hK:=Lib.hid (show x.K.length<=8 from HX.out.K.1)
 have H4:=Lib.hid (rputB L3 x.K.length c3 A3 w4 (ownSl E3.out.own) (by omega) (by have:=hK.out;show x.K.length<9223372036854775808;omega))
 clear rk hrs hQ;go_wp2_with fail;refine H4.out.mono ?_;rintro e w5 ⟨A4,c4,rfl,ho4,hb4⟩;have E4:=Lib.hid (E3.out.step ho4 hb4);have l4:(L3++eN x.K.length).length<=100:=by have:=eN_le x.K.length;rw[List.length_append];omega
 obtain ⟨L4,hL4⟩:∃ L4,L4=L3++eN x.K.length:=⟨_,rfl⟩;rw[<-hL4] at E4 l4 ⊢;have HL4:=Lib.hid hL4;clear ho4 hb4 hL4 b0 k0 H4 E3;go_wp2_with fail;go_loopw [3,5] (fun bv iv wr=>∃ j:Nat,j<=x.K.length/\iv=.int .i64 (j:Int)/\∃ A c,bv=.slice A (L4++(x.K.take j).flatMap eRg).length c/\EnI w (L4++(x.K.take j).flatMap eRg) A c wr) (fun _ iv _=>x.K.length-(intOf iv).toNat)
 case atStart=>
  refine ⟨0,by omega,rfl,A4,c4,?_⟩
  simp only[List.take_zero,List.flatMap_nil,List.append_nil];exact ⟨trivial,E4.out⟩
 case round=>
  obtain ⟨j,hj,rfl,A5,c5,rfl,e5⟩:=hrel;have b0:=zC (zD e5.bel HR.out) 1;have k0:=zC (zD e5.bel RK.out) 0
  by_cases hlt:j<x.K.length
  ·have hd:decide ((j:Int)<x.K.length)=true:=decide_eq_true (by omega)
   have E5:=Lib.hid e5;obtain ⟨hle,hmx,hat⟩:=HQ.out;obtain ⟨gq,cur,rfl,-,hrq,-,hcs,hc⟩:=hat (by omega)
   obtain ⟨h0,vi,h1,h2⟩:=hc j hlt;obtain ⟨A6,c6,rfl,hle6,-,-,hat6⟩:=h2.rd.at_;obtain ⟨r,hr⟩:∃ r,r=x.K[j]:=⟨_,rfl⟩;have HOK:=Lib.hid (HX.out.K.2 r (by rw[hr];exact List.getElem_mem _))
   have hr1:=HOK.out.1.2;have HT:=Lib.hid (show x.K.take (j+1)=x.K.take j++[r] by rw[hr];exact List.take_succ_eq_append_getElem hlt)
   rw[<-hr] at h0 h1 h2 hle6 hat6;have rq:=zD e5.bel hrq
   have ql:∀ (P:Program) (t:Nat),ldR P t 2 wr gq (j*2) (some cur)=.ok (.agg (rgA r.off (.slice A6 r.l.length c6))) wr:=fun P t=>ldR_eq (by omega) (rgA_size _ _) fun i hi=>by
    unfold rgA
    skip
    rcases i with _|_|i
    ·exact h0
    ·exact h1
    ·omega
   have rz:row (wr.alloc (.cells (rgA false (.slice none 0 0)) 59)) wr.heap.size=some (rgA false (.slice none 0 0)):=zA _ _ _ _ rfl;have HAT6:=Lib.hid hat6;clear e5 hc h1 h2 hat6 hat hr hrq h0;have b1:(0:Int)<=(j:Int)/\(j:Int)<x.K.length:=by omega
   go_wp2_with fail;obtain ⟨w6,hw6⟩:∃ w6,w6=wr.alloc (.cells (rgA r.off (.slice A6 r.l.length c6)) 59):=⟨_,rfl⟩;have hb6:Below wr.heap.size wr w6:=by rw[hw6];exact (Below.refl _ _).alloc (Nat.le_refl _) _
   have rv:row w6 wr.heap.size=some (rgA r.off (.slice A6 r.l.length c6)):=by rw[hw6];exact zA _ _ _ _ rfl
   have E6:=Lib.hid (E5.out.more hb6);have RV:=Lib.hid rv;rw[<-hw6]
   have lj:(L4++(x.K.take j).flatMap eRg).length<=10000:=by
    rw[List.length_append];have:=fm_le (e:=eRg) (b:=254) (l:=x.K.take j) fun a ha=>eRg_le a (HX.out.K.2 a (List.mem_of_mem_take ha)).1.2
    rw[List.length_take] at this;have:=Nat.mul_le_mul_left 254 (show min j x.K.length<=8 by have:=hK.out;omega)
    omega
   obtain ⟨L5,hL5⟩:∃ L5,L5=L4++(x.K.take j).flatMap eRg:=⟨_,rfl⟩;rw[<-hL5] at E6 lj ⊢;have HL5:=Lib.hid hL5;clear hw6 hb6 rv hL5 rq ql rz b0 k0 E5;obtain ⟨fl,hfl⟩:∃ fl:Nat,fl=if r.off=true then 1 else 0:=⟨_,rfl⟩
   have hf1:fl<=1:=by rw[hfl];split<;>omega
   have HFL:=Lib.hid (show eN fl=eB r.off by rw[hfl];rfl)
   have HF:=rflag16_any r.off w6;rw[<-hfl] at HF;clear hfl;refine HF.mono ?_;rintro e w7 ⟨rfl,rfl⟩;have H7:=Lib.hid (rputB L5 fl c5 A5 w7 (ownSl E6.out.own) (by omega) (by show fl<9223372036854775808;omega))
   clear HF;go_wp2_with fail;refine H7.out.mono ?_;rintro e w8 ⟨A7,c7,rfl,ho7,hb7⟩;have E7:=Lib.hid (E6.out.step ho7 hb7);have v1:=rgA_c1 (zD hb7 RV.out);have RV7:=Lib.hid (zD hb7 RV.out);have l7:(L5++eN fl).length<=10009:=by have:=eN_le fl;rw[List.length_append];omega
   obtain ⟨L6,hL6⟩:∃ L6,L6=L5++eN fl:=⟨_,rfl⟩;rw[<-hL6] at E7 l7 ⊢;have HL6:=Lib.hid hL6;have H8:=Lib.hid (rputB L6 r.l.length c7 A7 w8 (ownSl E7.out.own) (by omega) (by show r.l.length<9223372036854775808;omega))
   clear ho7 hb7 hL6 H7 E6;go_wp2_with fail;refine H8.out.mono ?_;rintro e w9 ⟨A8,c8,rfl,ho8,hb8⟩;have E8:=Lib.hid (E7.out.step ho8 hb8);have RV8:=Lib.hid (zD hb8 RV7.out);have l8:(L6++eN r.l.length).length<=10018:=by have:=eN_le r.l.length;rw[List.length_append];omega
   obtain ⟨L7,hL7⟩:∃ L7,L7=L6++eN r.l.length:=⟨_,rfl⟩;rw[<-hL7] at E8 l8 ⊢;have HL7:=Lib.hid hL7;clear ho8 hb8 hL7 H8 E7 v1;go_wp2_with fail;go_loopw [3,7] (fun bv iv wr2=>∃ i:Nat,i<=r.l.length/\iv=.int .i64 (i:Int)/\row wr2 wr.heap.size=some (rgA r.off (.slice A6 r.l.length c6))/\∃ A c,bv=.slice A (L7++(r.l.take i).flatMap eVe).length c/\EnI w (L7++(r.l.take i).flatMap eVe) A c wr2) (fun _ iv _=>r.l.length-(intOf iv).toNat)
   case atStart=>
    refine ⟨0,by omega,rfl,RV8.out,A8,c8,?_⟩
    simp only[List.take_zero,List.flatMap_nil,List.append_nil];exact ⟨trivial,E8.out⟩
   case round=>
    obtain ⟨i,hi,rfl,rv9,A9,c9,rfl,e9⟩:=hrel;have v1:=rgA_c1 rv9
    by_cases hlt2:i<r.l.length
    ·have hd2:decide ((i:Int)<r.l.length)=true:=decide_eq_true (by omega)
     have E9:=Lib.hid e9;have RV9:=Lib.hid rv9;obtain ⟨g6,o6,rfl,hg6,hc6⟩:=HAT6.out (by omega)
     have HC6:=Lib.hid (fun j hj=>hc6 i j hlt2 hj)
     obtain ⟨y,hy⟩:∃ y,y=r.l[i]:=⟨_,rfl⟩;have HT2:=Lib.hid (show r.l.take (i+1)=r.l.take i++[y] by rw[hy];exact List.take_succ_eq_append_getElem hlt2)
     have l9:(L7++(r.l.take i).flatMap eVe).length<=20000:=by
      rw[List.length_append];have:=fm_le (e:=eVe) (b:=59) (l:=r.l.take i) fun a ha=>eVe_le a
      rw[List.length_take] at this;have:=Nat.mul_le_mul_left 59 (show min i r.l.length<=4 by have:=HOK.out.1.2;omega)
      omega
     obtain ⟨L8,hL8⟩:∃ L8,L8=L7++(r.l.take i).flatMap eVe:=⟨_,rfl⟩;rw[<-hL8] at E9 l9 ⊢;have HL8:=Lib.hid hL8;have b2:(0:Int)<=(i:Int)/\(i:Int)<r.l.length:=by omega
     have hgw:g6<w.heap.size:=hg6;have HV:=Lib.hid (HOK.out.2 y (by rw[hy];exact List.getElem_mem _))
     have cellv:∀ (w':World),Below w.heap.size w w'->∀ k,k<34->w'.cell? ⟨g6,o6+i*34+k,none⟩=(veC y)[k]? :=fun w' hb k hk=>by
      rw[hb.cell (p:=⟨g6,o6+i*34+k,none⟩) hgw,hy];exact hc6 i k hlt2 hk
     have CV:=Lib.hid cellv;obtain ⟨u,hu⟩:∃ u:Nat,(u:Int)=y.u:=⟨y.u.toNat,Int.toNat_of_nonneg HV.out.1.1⟩;have hu16:u<=16:=by have:=HV.out.1.2;omega
     have slv:Sl wr wr.heap.size (some ⟨g6,o6+i*34,none⟩) 32 32 y.m:=⟨Nat.le_refl _,fun _=>⟨g6,o6+i*34,rfl,Nat.lt_of_lt_of_le hgw E9.out.bel.size,fun k hk=>by rw[CV.out _ E9.out.bel k (by omega),veC_m _ _ hk]⟩⟩
     have HU:=Lib.hid hu;have H9:=Lib.hid (rputtB L8 32 c9 32 A9 (some ⟨g6,o6+i*34,none⟩) y.m wr (ownSl E9.out.own) slv (by omega) (by omega))
     clear hc6 e9 rv9 hL8 cellv slv hu hy;go_wp2_with fail;refine H9.out.mono ?_;rintro e w10 ⟨A10,c10,rfl,ho10,hb10⟩;have E10:=Lib.hid (E9.out.step ho10 hb10);have RV10:=Lib.hid (zD hb10 RV9.out);have l10:(L8++eT 32 y.m).length<=20041:=by have:=eT32_le y.m;rw[List.length_append];omega
     obtain ⟨L9,hL9⟩:∃ L9,L9=L8++eT 32 y.m:=⟨_,rfl⟩;rw[<-hL9] at E10 l10 ⊢;have HL9:=Lib.hid hL9;have v1:=rgA_c1 RV10.out;have cu:w10.cell? ⟨g6,o6+i*34+32,none⟩=some (.int .i64 (u:Int)):=by rw[CV.out _ E10.out.bel 32 (by omega),veC_u,HU.out]
     have H10:=Lib.hid (rputB L9 u c10 A10 w10 (ownSl E10.out.own) (by omega) (by show u<9223372036854775808;omega))
     clear ho10 hb10 hL9 H9 E9;go_wp2_with fail;refine H10.out.mono ?_;rintro e w11 ⟨A11,c11,rfl,ho11,hb11⟩;have E11:=Lib.hid (E10.out.step ho11 hb11);have RV11:=Lib.hid (zD hb11 RV10.out);have l11:(L9++eN u).length<=20050:=by have:=eN_le u;rw[List.length_append];omega
     obtain ⟨L10,hL10⟩:∃ L10,L10=L9++eN u:=⟨_,rfl⟩;rw[<-hL10] at E11 l11 ⊢;have HL10:=Lib.hid hL10;have v1:=rgA_c1 RV11.out;have cg:w11.cell? ⟨g6,o6+i*34+33,none⟩=some (.bool y.g):=by rw[CV.out _ E11.out.bel 33 (by omega),veC_g]
     clear ho11 hb11 hL10 H10 E10 cu;go_wp2_with fail;obtain ⟨fg,hfg⟩:∃ fg:Nat,fg=if y.g=true then 1 else 0:=⟨_,rfl⟩
     have hfg1:fg<=1:=by rw[hfg];split<;>omega
     have HFG:=Lib.hid (show eN fg=eB y.g by rw[hfg];rfl)
     have HF2:=rflag16_any y.g w11;rw[<-hfg] at HF2;clear hfg;refine HF2.mono ?_;rintro e w12 ⟨rfl,rfl⟩;have H12:=Lib.hid (rputB L10 fg c11 A11 w12 (ownSl E11.out.own) (by omega) (by show fg<9223372036854775808;omega))
     clear HF2 cg;go_wp2_with fail;refine H12.out.mono ?_;rintro e w13 ⟨A13,c13,rfl,ho13,hb13⟩;have E13:=Lib.hid (E11.out.step ho13 hb13);have RV13:=Lib.hid (zD hb13 RV11.out)
     have e13:L10++eN fg=L7++(r.l.take (i+1)).flatMap eVe:=by
      rw[HT2.out,List.flatMap_append,HL10.out,HL9.out,HL8.out,HFG.out];simp only[List.flatMap_cons,List.flatMap_nil,List.append_nil,eVe,List.append_assoc];rw[show y.u.toNat=u by have:=HU.out;omega]
     obtain ⟨L11,hL11⟩:∃ L11,L11=L10++eN fg:=⟨_,rfl⟩;rw[<-hL11] at E13 e13 ⊢;have HL11:=Lib.hid e13;clear ho13 hb13 H12 E11 e13 hL11;have hw2:IntKind.i64.wrap ((i:Int)+1)=(i:Int)+1:=IntWalk.i64_in _ (by omega)
     go_wp2_with fail;have e13:=HL11.out;clear HL11;subst e13;refine ⟨⟨i+1,by omega,by rw[Int.natCast_succ],RV13.out,A13,c13,rfl,E13.out⟩,?_⟩
     simp only[intOf];omega
    ·have hd2:decide ((i:Int)<r.l.length)=false:=decide_eq_false (by omega)
     obtain rfl:i=r.l.length:=by omega
     rw[List.take_length] at e9;rw[List.take_length]
     have e10:L7++r.l.flatMap eVe=L4++(x.K.take (j+1)).flatMap eRg:=by
      rw[HT.out,List.flatMap_append,HL7.out,HL6.out,HL5.out,HFL.out];simp only[List.flatMap_cons,List.flatMap_nil,List.append_nil,eRg,List.append_assoc]
     rw[e10] at e9 ⊢;have E9:=Lib.hid e9;clear e9 e10;have hw2:IntKind.i64.wrap ((j:Int)+1)=(j:Int)+1:=IntWalk.i64_in _ (by have:=hK.out;omega)
     go_wp2_with fail;refine ⟨⟨j+1,by omega,by rw[Int.natCast_succ],A9,c9,rfl,E9.out⟩,?_⟩
     simp only[intOf];omega
  ·have hd:decide ((j:Int)<x.K.length)=false:=decide_eq_false (by omega)
   obtain rfl:j=x.K.length:=by omega
   rw[List.take_length] at e5;rw[List.take_length];have E5:=Lib.hid e5;clear e5 hj
   have lK:(L4++x.K.flatMap eRg).length<=3000:=by
    rw[List.length_append];have:=fm_eRg_le HX.out.K;omega
   obtain ⟨L5,hL5⟩:∃ L5,L5=L4++x.K.flatMap eRg:=⟨_,rfl⟩;rw[<-hL5] at E5 lK ⊢;have HL5:=Lib.hid hL5;obtain ⟨gg,hgg⟩:∃ gg:Nat,(gg:Int)=x.g+1:=⟨(x.g+1).toNat,Int.toNat_of_nonneg (by have:=HX.out.g;omega)⟩
   have HGG:=Lib.hid hgg;have b02:=zC (zD E5.out.bel HR.out) 2;have q1:=zC (zD E5.out.bel HY.out.row) 1;rw[show (#[.slice Aq x.l.length cq,.int .i64 (x.g+1)]:Array Value)[1]? =some (.int .i64 (x.g+1)) from rfl,<-hgg] at q1
   have H17:=Lib.hid (rputB L5 gg c5 A5 wr (ownSl E5.out.own) (by omega) (by have:=HX.out.g;show gg<9223372036854775808;omega))
   clear hL5 hgg;go_wp2_with fail;refine H17.out.mono ?_;rintro e w17 ⟨A17,c17,rfl,ho17,hb17⟩;have E17:=Lib.hid (E5.out.step ho17 hb17);have l17:(L5++eN gg).length<=3009:=by have:=eN_le gg;rw[List.length_append];omega
   obtain ⟨L6,hL6⟩:∃ L6,L6=L5++eN gg:=⟨_,rfl⟩;rw[<-hL6] at E17 l17 ⊢;have HL6:=Lib.hid hL6;clear b0 b02;have b0:=zC (zD E17.out.bel HR.out) 2;have q0:=zC (zD E17.out.bel HY.out.row) 0;have hL:=Lib.hid (show x.l.length<=8 from HX.out.l)
   have H18:=Lib.hid (rputB L6 x.l.length c17 A17 w17 (ownSl E17.out.own) (by omega) (by have:=hL.out;show x.l.length<9223372036854775808;omega))
   clear ho17 hb17 hL6 H17 E5 q1 k0;go_wp2_with fail;refine H18.out.mono ?_;rintro e w18 ⟨A18,c18,rfl,ho18,hb18⟩;have E18:=Lib.hid (E17.out.step ho18 hb18);have l18:(L6++eN x.l.length).length<=3018:=by have:=eN_le x.l.length;rw[List.length_append];omega
   obtain ⟨L7,hL7⟩:∃ L7,L7=L6++eN x.l.length:=⟨_,rfl⟩;rw[<-hL7] at E18 l18 ⊢;have HL7:=Lib.hid hL7;clear ho18 hb18 hL7 H18 E17 q0 b0;go_wp2_with fail;go_loopw [3,8] (fun bv iv wr=>∃ j:Nat,j<=x.l.length/\iv=.int .i64 (j:Int)/\∃ A c,bv=.slice A (L7++(x.l.take j).flatMap eSe).length c/\EnI w (L7++(x.l.take j).flatMap eSe) A c wr) (fun _ iv _=>x.l.length-(intOf iv).toNat)
   case atStart=>
    refine ⟨0,by omega,rfl,A18,c18,?_⟩
    simp only[List.take_zero,List.flatMap_nil,List.append_nil];exact ⟨trivial,E18.out⟩
   case round=>
    obtain ⟨j,hj,rfl,A19,c19,rfl,e19⟩:=hrel;have b0:=zC (zD e19.bel HR.out) 2;have q0:=zC (zD e19.bel HY.out.row) 0
    by_cases hlt:j<x.l.length
    ·have hd:decide ((j:Int)<x.l.length)=true:=decide_eq_true (by omega)
     have E19:=Lib.hid e19;have el:=HY.out.el.fr yL (Fr.new (T:=T) (H:=fun _=>False) e19.bel 0) (fun h=>h) (fun h=>h)
     obtain ⟨s,hs⟩:∃ s,s=x.l[j]:=⟨_,rfl⟩;obtain ⟨gA,o,cur,A',c',rfl,hrow,htg,-,hrd,-,-,-,hld6⟩:=el.seat hlt;rw[<-hs] at hrd hld6;have HSG:=Lib.hid (show seG s by rw[hs];exact HX.out.s _ (List.getElem_mem hlt))
     obtain ⟨si,hsi⟩:∃ si:Nat,s.id=(si:Int):=⟨s.id.toNat,by have:=HSG.out.1.1;omega⟩
     obtain ⟨sq,hsq⟩:∃ sq:Nat,s.q=(sq:Int):=⟨s.q.toNat,by have:=HSG.out.2.1.1;omega⟩
     have hsi63:si<9223372036854775808:=by have:=HSG.out.1.2;omega
     have hsq63:sq<9223372036854775808:=by have:=HSG.out.2.1.2;omega
     have hld:ldR Tryz.prog 121 6 wr gA (o+j*6) (row wr gA)=.ok (seV s (.slice A' s.T c')) wr:=by rw[hrow];exact hld6 _ _
     obtain ⟨L8,hL8⟩:∃ L8,L8=L7++(x.l.take j).flatMap eSe:=⟨_,rfl⟩
     have l8:L8.length<=40000:=by
      rw[hL8,List.length_append];have:=fm_le (e:=eSe) (b:=4150) (l:=x.l.take j) fun a ha=>eSe_le a (HX.out.s a (List.mem_of_mem_take ha))
      rw[List.length_take] at this;have:=Nat.mul_le_mul_left 4150 (show min j x.l.length<=8 by have:=hL.out;omega)
      omega
     rw[<-hL8] at E19 ⊢;have HL8:=Lib.hid hL8;obtain ⟨w2,hw2⟩:∃ w2,w2=wr.alloc (.cells #[.int .i64 s.id,.int .i64 s.q,.int .i64 s.c,.int .i64 s.n,.int .i64 s.m,.slice A' s.T c'] 121):=⟨_,rfl⟩;have b2:Below wr.heap.size wr w2:=by rw[hw2];exact (Below.refl _ _).alloc (Nat.le_refl _) _
     obtain ⟨X,hX⟩:∃ X,X=wr.heap.size:=⟨_,rfl⟩;have rX:row w2 X=some #[.int .i64 s.id,.int .i64 s.q,.int .i64 s.c,.int .i64 s.n,.int .i64 s.m,.slice A' s.T c']:=by rw[hw2,hX];exact zA _ _ _ _ rfl
     have RX:=Lib.hid rX;have SL2:=Lib.hid ((hrd.sl.below b2).more b2.size);have E20:=Lib.hid (E19.out.more b2);have HXX:=Lib.hid hX;have x0:w2.cell? ⟨X,0,none⟩=some (.int .i64 (si:Int)):=by rw[zC rX,<-hsi];rfl
     have HSI:=Lib.hid hsi;have HSQ:=Lib.hid hsq;have HSS:=Lib.hid hs;have H23:=Lib.hid (rputB L8 si c19 A19 w2 (ownSl E20.out.own) (by omega) hsi63)
     have b1:(0:Int)<=(j:Int)/\(j:Int)<x.l.length:=by omega
     clear el hrow hrd hld6 hs hsi hsq hL8 b2 rX htg e19 E19;go_upto_region 23 with fail
     rw[<-hw2,<-HXX.out];clear hw2 hld hX b0 q0 b1;go_wp2_with fail;refine H23.out.mono ?_;rintro e w3 ⟨A20,c20,rfl,ho20,hb20⟩;have E21:=Lib.hid (E20.out.step ho20 hb20);have RX3:=Lib.hid (zD hb20 RX.out);have SL3:=Lib.hid ((SL2.out.below hb20).more hb20.size);have l9:(L8++eN si).length<=40009:=by have:=eN_le si;rw[List.length_append];omega
     obtain ⟨L9,hL9⟩:∃ L9,L9=L8++eN si:=⟨_,rfl⟩;rw[<-hL9] at E21 l9 ⊢;have HL9:=Lib.hid hL9;have x1:w3.cell? ⟨X,1,none⟩=some (.int .i64 (sq:Int)):=by rw[zC RX3.out,<-HSQ.out];rfl
     have H24:=Lib.hid (rputB L9 sq c20 A20 w3 (ownSl E21.out.own) (by omega) hsq63)
     clear ho20 hb20 hL9 H23 E20 x0 RX SL2;go_wp2_with fail;refine H24.out.mono ?_;rintro e w4 ⟨A21,c21,rfl,ho21,hb21⟩;have E22:=Lib.hid (E21.out.step ho21 hb21);have RX4:=Lib.hid (zD hb21 RX3.out);have SL4:=Lib.hid ((SL3.out.below hb21).more hb21.size);have l10:(L9++eN sq).length<=40018:=by have:=eN_le sq;rw[List.length_append];omega
     obtain ⟨L10,hL10⟩:∃ L10,L10=L9++eN sq:=⟨_,rfl⟩;rw[<-hL10] at E22 l10 ⊢;have HL10:=Lib.hid hL10
     have xr:ldR Tryz.prog 33 4 w4 X 2 (row w4 X)=.ok (repV s.c s.n s.m (.slice A' s.T c')) w4:=by
      have h:=RX4.out;exact rp_cells _ _ _ _ _ _ _ (zC h 2) (zC h 3) (zC h 4) (zC h 5)
     have H25:=Lib.hid (rreply_any s.c s.n s.m s.T c' A' s.f w4 SL4.out (repN_b (r:=seR s) HSG.out.2.2));clear ho21 hb21 hL10 H24 E21 x1 RX3 SL3;go_wp2_with fail;refine H25.out.mono ?_;rintro e w5 (⟨h0,-,-⟩|⟨-,v5,rfl,ho5,hb5⟩)
     ·exact absurd (repE_g HSG.out.2.2) h0
     obtain ⟨A5,c5,rfl,hs5,-,-⟩:=ho5.sl
     have S5:=Lib.hid (show Sl w5 w5.heap.size A5 (repL s.c s.n s.m s.T) c5 (repF s.c s.n s.m s.T s.f) by
      rw[Nat.zero_add] at hs5
      exact hs5.congr fun i hi=>by unfold catF;rw[if_neg (by omega),Nat.sub_zero])
     have E23:=Lib.hid (E22.out.more hb5);have hR:repL s.c s.n s.m s.T<=4132:=by have:=eRp_le _ HSG.out.2.2;rw[eRp_bl,xL] at this;exact this
     have hbz:=E23.out.bel.size;have hw2:IntKind.i64.wrap ((j:Int)+1)=(j:Int)+1:=IntWalk.i64_in _ (by have:=hL.out;omega)
     clear ho5 hb5 hs5 H25 xr RX4 SL4 E22;go_wp2_with (refine yO rfl (.tmp 206) (.tmp 207) rfl zZ yJ E23.out.own S5.out (by omega) (by omega) rfl rfl ?_;intro v7 w7 ho7 hg7 ht7)
     have B7:=Own.after E23.out.own hg7 E23.out.bel hbz (Nat.le_refl _);obtain ⟨A7,c7,rfl,-,-,-⟩:=ho7.sl
     have e7:L10++bl (repL s.c s.n s.m s.T) (repF s.c s.n s.m s.T s.f)=L7++(x.l.take (j+1)).flatMap eSe:=by
      rw[take_fm eSe hlt,<-List.append_assoc,<-HL8.out,<-HSS.out];unfold eSe;rw[HSI.out,HSQ.out,Int.toNat_natCast,Int.toNat_natCast,<-List.append_assoc L8,<-HL9.out,<-List.append_assoc L9,<-HL10.out];exact congrArg _ (eRp_bl (seR s)).symm
     have E24:=Lib.hid (show EnI w (L7++(x.l.take (j+1)).flatMap eSe) A7 c7 w7 by
      rw[<-e7];refine ⟨?_,B7⟩;rw[List.length_append,xL]
      exact ho7.congr fun i hi=>lf_more i hi)
     have e8:L10.length+repL s.c s.n s.m s.T=(L7++(x.l.take (j+1)).flatMap eSe).length:=by rw[<-e7,List.length_append,xL]
     rw[e8];clear ho7 hg7 ht7 B7 e7 e8;go_wp2_with fail;refine ⟨⟨j+1,by omega,by rw[Int.natCast_succ],A7,c7,rfl,E24.out⟩,?_⟩
     simp only[intOf];omega
    ·have hd:decide ((j:Int)<x.l.length)=false:=decide_eq_false (by omega)
     obtain rfl:j=x.l.length:=by omega
     rw[List.take_length] at e19;rw[List.take_length]
     have eX:L7++x.l.flatMap eSe=eSx x:=by
      unfold eSx;rw[HL7.out,HL6.out,HL5.out,HL4.out,HL3.out,HL2.out,HL1.out,show x.n.toNat=n by have:=HN.out;omega,show (x.g+1).toNat=gg by have:=HGG.out;omega]
      simp only[List.append_assoc]
     rw[eX] at e19;rw[eX];have E19:=Lib.hid e19;clear e19;go_wp2_with fail;go_ret;exact ⟨A19,c19,rfl,E19.out.own,E19.out.bel⟩
end Go.Proofs.YteffjpdcghlnlaaGreatDoor.Oct
