import Derived.Laws.BitsAllLaws
import Derived.IntWalk
import Derived.Laws.Tables
import Derived.Laws.Rows
import Derived.Deep.WholeRow
import Derived.WalkKit
import Derived.StillTailTactics
import Derived.Deep.QuietTactic
import Derived.BigQuiet
import Derived.Outline
import Derived.Below
import Derived.Deep.MidRow
import Derived.Maps.AppendAt
import Derived.Deep.AppendLies
import Derived.Laws.CopyRow
import Derived.Laws.IdiomCopy
import Derived.ProofKit
import Derived.OpenShut
import Derived.ChangeArms
import Derived.Carry
import Derived.ChangeOld
import Derived.Deep.Slices
import Derived.Laws.IdiomStrings
import Derived.ArgAppend
import Derived.Deep.Upon
import Derived.OwnWalk
import Derived.Lib.AppendZeros
import Derived.SizedLaws
import Derived.Deep.DeepAppendWide
set_option linter.unusedVariables false
set_option linter.unusedSimpArgs false
namespace Go.Proofs.YteffjpdcghlnlaaGreatDoor.Bits
theorem ofInt_i64(a:Nat)(ha:a<18446744073709551616):(BitVec.ofInt 64 (a:Int)).toNat=a:=by
 rw[BitVec.toNat_ofInt];omega
theorem i64_and(a b:Nat)(ha:a<9223372036854775808)(hb:b<9223372036854775808):bits .and .i64 (a:Int) (b:Int)=((a&&&b:Nat):Int):=by
 have h:a&&&b<2^63:=Nat.and_lt_two_pow _ (by omega)
 show IntKind.i64.wrap ((BitVec.ofInt 64 (a:Int)&&&BitVec.ofInt 64 (b:Int)).toNat:Int)=_;rw[BitVec.toNat_and,ofInt_i64 a (by omega),ofInt_i64 b (by omega)]
 exact IntWalk.i64_in _ (by omega)
theorem i64_bit(a k:Nat)(ha:a<9223372036854775808):(bits .and .i64 ((a:Int) / 2^k) 1==1)=a.testBit k:=by
 have e:((a:Int) / 2^k)=((a / 2^k:Nat):Int):=by norm_cast
 have hle:a / 2^k<=a:=Nat.div_le_self _ _;rw[e,show (1:Int)=((1:Nat):Int) from rfl,i64_and _ 1 (by omega) (by omega),Nat.testBit_eq_decide_div_mod_eq,Nat.and_one_is_mod]
 rw[Bool.eq_iff_iff];simp only[beq_iff_eq,decide_eq_true_eq];omega
end Go.Proofs.YteffjpdcghlnlaaGreatDoor.Bits
namespace Go.Proofs.YteffjpdcghlnlaaGreatDoor.Oct
open Go.RowKit
def I(v:BitVec 8):Int:=(v.toNat:Int)
def J(v:BitVec 16):Int:=(v.toNat:Int)
theorem I_bd(v:BitVec 8):0<=I v/\I v<=255:=by unfold I;omega
theorem I_inj{a b:BitVec 8}(h:I a=I b):a=b:=BitVec.eq_of_toNat_eq (by unfold I at h;omega)
theorem I_of(x:Int)(h0:0<=x)(h1:x<=255):∃ v:BitVec 8,x=I v:=⟨BitVec.ofNat 8 x.toNat,by unfold I;rw[BitVec.toNat_ofNat];omega⟩
theorem I_xor(a b:BitVec 8):bits .xor .u8 (I a) (I b)=I (a^^^b):=by
 unfold I;rw[u8_xor_nat _ _ a.isLt b.isLt,BitVec.toNat_xor]
theorem bit_test:∀ (k:Fin 8) (b:BitVec 8),(bits .and .u8 (I b / 2^k.val) 1==1)=b.getLsbD k.val:=by decide+kernel
theorem bit_test'(k:Nat)(h:k<8)(b:BitVec 8)(c:Bool)(e:b.getLsbD k=c):(bits .and .u8 (I b / 2^k) 1==1)=c:=by
 rw[bit_test ⟨k,h⟩ b];exact e
theorem ret_u8{a b:Int}(h:a=b):Ending.returned (.int .u8 a)=.returned (.int .u8 b):=by rw[h]
@[irreducible] def ba(n:Nat)(f:Nat->BitVec 8):Array Value:=Array.ofFn (n:=n) fun i=> .int .u8 (I (f i))
def upd(f:Nat->BitVec 8)(k:Nat)(v:BitVec 8):Nat->BitVec 8:=fun i=>if i=k then v else f i
theorem zI(n:Nat)(f:Nat->BitVec 8):(ba n f).size=n:=by unfold ba;simp
theorem yA(n:Nat)(f:Nat->BitVec 8)(k:Nat)(h:k<n):(ba n f)[k]? =some (.int .u8 (I (f k))):=by unfold ba;simp[h]
theorem ba_elem(n:Nat)(f:Nat->BitVec 8)(k:Nat)(h:k<(ba n f).size):(ba n f)[k]=.int .u8 (I (f k)):=by
 have e:=yA n f k (by rwa [zI] at h)
 rw[Array.getElem?_eq_getElem h] at e;exact Option.some.inj e
theorem yS(n:Nat)(f:Nat->BitVec 8)(k:Nat)(h:¬ k<n):(ba n f)[k]? =none:=by unfold ba;simp;omega
theorem xA{n:Nat}{f g:Nat->BitVec 8}(h:∀ k,k<n->f k=g k):ba n f=ba n g:=by
 apply Array.ext_getElem?;intro i
 by_cases hi:i<n
 ·rw[yA n f i hi,yA n g i hi,h i hi]
 ·rw[yS n f i hi,yS n g i hi]
theorem ba_set(n:Nat)(f:Nat->BitVec 8)(k:Nat)(v:BitVec 8):(ba n f).setIfInBounds k (.int .u8 (I v))=ba n (upd f k v):=by
 apply Array.ext_getElem?;intro i;rw[Array.getElem?_setIfInBounds]
 by_cases hi:i<n
 ·rw[yA n (upd f k v) i hi,zI,yA n f i hi]
  by_cases hk:k=i
  ·subst hk;simp[upd,hi]
  ·have:¬ i=k:=fun e=>hk e.symm
   simp[hk,upd,this]
 ·rw[yS n (upd f k v) i hi,zI,yS n f i hi]
  by_cases hk:k=i
  ·subst hk;simp[hi]
  ·simp[hk]
theorem ba_one(n:Nat)(f:Nat->BitVec 8):(ba n f).all (·.oneCell')=true:=by
 rw[Array.all_eq_true];intro i h;rw[zI] at h;have e:=yA n f i h;rw[Array.getElem?_eq_getElem (by rw[zI];exact h)] at e
 rw[Option.some.inj e];rfl
theorem ba_ne(n:Nat)(f:Nat->BitVec 8):(ba (n+1) f=#[])=False:=by
 refine eq_false fun e=>?_
 have:=congrArg Array.size e;rw[zI] at this;simp at this
def offF(f:Nat->BitVec 8)(o:Nat):Nat->BitVec 8:=fun i=>f (o+i)
def putF(f:Nat->BitVec 8)(o m:Nat)(g:Nat->BitVec 8):Nat->BitVec 8:=fun i=>if o<=i/\i<o+m then g (i-o) else f i
theorem offF_zero(f:Nat->BitVec 8):offF f 0=f:=by funext i;simp[offF]
theorem ba_ex(n a b:Nat)(f:Nat->BitVec 8)(h:b<=n):(ba n f).extract a b=ba (b-a) (offF f a):=by
 apply Array.ext_getElem?;intro i;rw[Array.getElem?_extract]
 by_cases hi:i<b-a
 ·rw[yA _ _ i hi,if_pos (by rw[zI];omega),yA n f _ (by omega)];rfl
 ·rw[yS _ _ i hi,if_neg (by rw[zI];omega)]
def spl:Array Value->Nat->List Value->Array Value
 |c,_,[]=>c
 |c,o,v::r=>spl (c.setIfInBounds o v) (o+1) r
theorem yU:∀ (vs:List Value) (c:Array Value) (o k:Nat),o+vs.length<=c.size->(spl c o vs)[k]? =if o<=k/\k<o+vs.length then vs[k-o]? else c[k]? :=by
 intro vs
 induction vs with
 |nil=>intro c o k h;simp only[spl,List.length_nil];rw[if_neg (by omega)]
 |cons v r ih=>
  intro c o k h;simp only[List.length_cons] at h;simp only[spl];rw[ih _ _ _ (by simp;omega)]
  by_cases h1:o+1<=k/\k<o+1+r.length
  ·rw[if_pos h1,if_pos (by simp only[List.length_cons];omega),show k-o=(k-(o+1))+1 by omega,List.getElem?_cons_succ]
  ·rw[if_neg h1,Array.getElem?_setIfInBounds]
   by_cases h2:o=k
   ·subst h2
    rw[if_pos rfl,if_pos (by omega),if_pos (by simp only[List.length_cons];omega)]
    simp
   ·rw[if_neg h2,if_neg (by simp only[List.length_cons];omega)]
theorem spl_ba(n o m:Nat)(f g:Nat->BitVec 8)(h:o+m<=n):spl (ba n f) o (ba m g).toList=ba n (putF f o m g):=by
 apply Array.ext_getElem?;intro k;have hl:(ba m g).toList.length=m:=by rw[Array.length_toList,zI]
 rw[yU _ _ _ _ (by rw[hl,zI];exact h),hl,Array.getElem?_toList]
 by_cases hk:k<n
 ·rw[yA n (putF f o m g) k hk]
  by_cases h1:o<=k/\k<o+m
  ·rw[if_pos h1,yA m g _ (by omega)];simp[putF,h1]
  ·rw[if_neg h1,yA n f k hk];simp[putF,h1]
 ·rw[yS n (putF f o m g) k hk,if_neg (by omega),yS n f k hk]
def upto(k:Nat)(new old:Nat->BitVec 8):Nat->BitVec 8:=fun i=>if i<k then new i else old i
theorem yP(new old:Nat->BitVec 8):upto 0 new old=old:=by funext i;simp[upto]
theorem yX(k:Nat)(new old:Nat->BitVec 8):upd (upto k new old) k (new k)=upto (k+1) new old:=by
 funext i
 by_cases h:i=k
 ·subst h;simp[upd,upto]
 ·by_cases h2:i<k
  ·simp[upd,upto,h,h2,Nat.lt_succ_of_lt h2]
  ·have:¬ i<k+1:=by omega
   simp[upd,upto,h,h2,this]
theorem upto_at(k:Nat)(new old:Nat->BitVec 8):upto k new old k=old k:=by simp[upto]
theorem xI(n:Nat)(new old:Nat->BitVec 8):ba n (upto n new old)=ba n new:=xA fun k h=>by simp[upto,h]
abbrev Bf:=Nat->BitVec 8
def xorF(f g:Bf):Bf:=fun i=>f i^^^g i
def nF:Bf:=fun _=>0#8
section
variable {P:Program} {ops:Array Oper} {md:Region.Mode} {C:World->Prop}
def sunkB(md:Region.Mode)(ops:Array Oper)(s n:Nat):Bool:=
 (List.range n).all fun i=>decide (i<s)||(List.range (n+1)).any fun j=>decide (i<j)&&Region.waitsFor md ops j i
structure On(md:Region.Mode)(ops:Array Oper)(s n:Nat)(listed:Array Bool):Prop where
 inv:HeadInv md ops n listed
 low:∀ i,i<s->listed.getD i true=true
theorem On.set{s n i:Nat}{listed:Array Bool}(h:On md ops s n listed)(hi:i∈Region.ready md ops listed)(hin:i<n):On md ops s n (listed.setIfInBounds i true):=
 ⟨h.inv.set hi hin,fun j hj=>by
  by_cases hij:i=j
  ·subst hij
   have:=(mem_ready.1 hi).1;rw[h.low i hj] at this;cases this
  ·rw[getD_set_ne true hij];exact h.low j hj⟩
theorem On.waits{s n:Nat}{listed:Array Bool}(hs:sunkB md ops s n=true)(hc:Region.chainB md ops n=true)(hn:n<ops.size)(h:On md ops s n listed):
  ∀ (d i:Nat),n-i=d->i<n->listed.getD i true=false->∀ t,n<=t->t ∉ Region.ready md ops listed:=by
 intro d
 induction d using Nat.strongRecOn with
 |_ d ih=>
  intro i hd hi hun t ht hr;have his:¬ i<s:=fun e=>by rw[h.low i e] at hun;cases hun
  have h1:=List.all_eq_true.1 hs i (List.mem_range.2 hi);simp only[his,decide_false,Bool.false_or] at h1;obtain ⟨j,hj,hj2⟩:=List.any_eq_true.1 h1;simp only[Bool.and_eq_true,decide_eq_true_eq] at hj2;obtain ⟨oj,hoj,e,he,hb,hon⟩:=Region.waitsFor_spec hj2.2;have hjn:j<=n:=by have:=List.mem_range.1 hj;omega
  obtain ⟨_,ot,hot,hall⟩:=mem_ready.1 hr;have htl:t<ops.size:=(Array.getElem?_eq_some_iff.1 hot).1
  by_cases htn:t=n
  ·subst htn
   by_cases hjt:j=t
   ·subst hjt
    obtain rfl:oj=ot:=Option.some.inj (hoj.symm.trans hot);have h2:=hall e he hb;rw[hon,getD_both hun] at h2;cases h2
   ·cases hl:listed.getD j false with
    |true=>
     have h2:=h.inv.closed j oj hoj hl e he hb;rw[hon,getD_both hun] at h2;cases h2
    |false=>exact ih (t-j) (by omega) j rfl (by omega) (getD_in (by rw[h.inv.size];omega) hl) t (Nat.le_refl _) hr
  ·have h3:=List.all_eq_true.1 hc t (List.mem_range.2 htl)
   simp only[Bool.or_eq_true,decide_eq_true_eq] at h3;rcases h3 with h3|h3
   ·omega
   ·obtain ⟨o',ho',e',he',hb',hon'⟩:=Region.waitsFor_spec h3
    obtain rfl:o'=ot:=Option.some.inj (ho'.symm.trans hot);have h2:=hall e' he' hb';rw[hon',getD_both (h.inv.tail (t-1) (by omega) (by omega))] at h2
    cases h2
def Hd(P:Program)(md:Region.Mode)(ops:Array Oper)(C:World->Prop)(n:Nat)(L:Array Bool->Act->Prop):Nat->Array Bool->Act->Prop
 |0,listed,a=>L listed a
 |f+1,listed,a=>Region.ready md ops listed≠[]/\∀ i∈Region.ready md ops listed,i<n/\qOp P ops C i (Hd P md ops C n L f (listed.setIfInBounds i true)) a
theorem Hd.any{n g:Nat}{L:Array Bool->Act->Prop}{Q:Exit->Act->World->Prop}(hL:∀ listed a w,C w->L listed a->wpAny P md ops Q g listed a w):
  ∀ (f:Nat) (listed:Array Bool) (a:Act) (w:World),C w->Hd P md ops C n L f listed a->wpAny P md ops Q (f+g) listed a w:=by
 intro f
 induction f with
 |zero=>intro listed a w hw h;rw[Nat.zero_add];exact hL _ _ _ hw h
 |succ f ih=>
  intro listed a w hw h;rw[show f+1+g=(f+g)+1 by omega]
  exact ⟨fun h0=>absurd h0 h.1,fun i hi=>wpOp_of_qOp hw (fun a' w' hw' h'=>ih _ _ _ hw' h') (h.2 i hi).2⟩
theorem Hd.first{s n i:Nat}{oi:Oper}{v:Value}{L:Array Bool->Act->Prop}(hi:ops[i]? =some oi)(hsel:Region.noSelect ops=true)
  (hs:sunkB md ops s n=true) (hc:Region.chainB md ops n=true) (hn:n<ops.size) (hin:i<n)
  (hdone:∀ listed a,L listed a->∀ j∈Region.ready md ops listed,n<=j):
  ∀ (f:Nat) (listed:Array Bool) (a:Act),On md ops s n listed->
   (∀ j oj,ops[j]? =some oj->j≠i->listed.getD j true=false->(∀ e∈oj.after,Region.binds md e=true->e.on≠i)->oi.apart ops oj=true)->
   i∈Region.ready md ops listed->YieldsIn P ops C oi v a->
   Hd P md ops C n L f (listed.setIfInBounds i true) (a.put oi.dst v)->Hd P md ops C n L (f+1) listed a:=by
 have sel:=Region.noSelect_spec hsel
 have low:∀ (listed:Array Bool),On md ops s n listed->i∈Region.ready md ops listed->∀ j∈Region.ready md ops listed,j<n:=fun listed inv hr j hj=>by
  by_cases hjn:j<n
  ·exact hjn
  ·exact absurd hj (inv.waits hs hc hn _ i rfl hin (mem_ready.1 hr).1 j (by omega))
 intro f
 induction f with
 |zero=>
  intro listed a inv _ hr hy H;refine ⟨List.ne_nil_of_mem hr,fun j hj=>⟨low listed inv hr j hj,?_⟩⟩
  by_cases hji:j=i
  ·subst hji;exact hy.qOp hi H
  ·exact absurd (hdone _ _ H j (ready_mono hj hji)) (by have:=low listed inv hr j hj;omega)
 |succ f ih=>
  intro listed a inv hfree hr hy H;refine ⟨List.ne_nil_of_mem hr,fun j hj=>⟨low listed inv hr j hj,?_⟩⟩
  by_cases hji:j=i
  ·subst hji;exact hy.qOp hi H
  ·obtain ⟨hjun,oj,hoj,hall⟩:=mem_ready.1 hj
   have hno:∀ e∈oj.after,Region.binds md e=true->e.on≠i:=fun e he hb heq=>by
    have h1:=hall e he hb;rw[heq,getD_both (mem_ready.1 hr).1] at h1;cases h1
   refine qOp_mono (fun a' h3=>ih (listed.setIfInBounds j true) a' (inv.set hj (low listed inv hr j hj)) (fun k ok hk hki hun hn'=>?_) (ready_mono hr (Ne.symm hji)) h3.1 ?_)
    (qOp_put hoj (hfree j oj hoj hji hjun hno) (fun cs b=>sel i oi cs b hi) (fun cs b=>sel j oj cs b hoj) hy (H.2 j (ready_mono hj hji)).2)
   ·refine hfree k ok hk hki ?_ hn'
    by_cases hjk:j=k
    ·subst hjk;exact hjun
    ·rwa [getD_set_ne true hjk] at hun
   ·rw[Array.setIfInBounds_comm _ _ hji];exact h3.2
theorem Hd.lex{s n g:Nat}{Lq:Act->Prop}(hsel:Region.noSelect ops=true)(hs:sunkB md ops s n=true)(hc:Region.chainB md ops n=true)(hn:n<ops.size):
  ∀ (l:List Oper) (k:Nat) (listed:Array Bool) (a:Act),(∀ j,j<l.length->l[j]? =ops[k+j]?)->k+l.length=n->On md ops s n listed->
  Region.lexHead md ops g l.length k listed=true->wpQuiet P ops C Lq l a->
  Hd P md ops C n (fun listed' a'=>Region.seqB md ops g n listed'=true/\Lq a') l.length listed a:=by
 intro l
 induction l with
 |nil=>
  intro k listed a _ hk _ hB h;obtain rfl:k=n:=by simpa using hk
  exact ⟨by simpa[Region.lexHead] using hB,h⟩
 |cons o l ih=>
  intro k listed a hl hk inv hB h;have h0:ops[k]? =some o:=by simpa using (hl 0 (by simp)).symm
  simp only[List.length_cons,Region.lexHead,Bool.and_eq_true] at hB;simp only[List.length_cons] at hk;obtain ⟨⟨hr,hf⟩,hB'⟩:=hB;have hr':k∈Region.ready md ops listed:=by simpa using hr
  have hq:qOp P ops C k (wpQuiet P ops C Lq l) a:=by unfold qOp;simp only[h0];exact h
  obtain ⟨v,hy,hK⟩:=yieldsIn_of_qOp h0 hq
  exact Hd.first h0 hsel hs hc hn (by omega) (fun _ _ hL=>seqB_ready hL.1) l.length listed a inv (Region.free_spec h0 hf) hr' hy
   (ih (k+1) _ _ (fun j hj=>by have:=hl (j+1) (by simp;omega);simpa[Nat.add_assoc,Nat.add_comm 1 j] using this) (by omega) (inv.set hr' (by omega)) hB' hK)
def moveB(o:Oper):Bool:=o.guard.isNone&&o.dst.isSome&&match o.op with| .move _=>true|_=>false
theorem move_yields{o:Oper}{a:Act}{K:Act->Prop}(hm:moveB o=true){w0:World}(hC:C w0)(h:if Region.wanted o (yielded ops a.tmps) then o.quiet P a C K else K (a.put o.dst undef)):
  ∃ v,Yields P ops o v a/\K (a.put o.dst v):=by
 unfold moveB at hm;simp only[Bool.and_eq_true,Option.isNone_iff_eq_none] at hm;obtain ⟨⟨hg,_⟩,ho⟩:=hm;have hw:Region.wanted o (yielded ops a.tmps)=true:=by unfold Region.wanted;rw[hg]
 rw[if_pos hw] at h;obtain ⟨v,h1,h2⟩:=h;have hx:=h1 w0 hC
 split at ho
 ·rename_i x hop
  have hrun:∀ w,(execOp a.eval o).run P w=.ok (.value (a.eval x)) w:=fun w=>by unfold execOp;rw[hop];rfl
  unfold Oper.quietAt at hx;rw[hrun] at hx;exact ⟨v,.inl ⟨hw,fun w=>by rw[hrun,hx.2]⟩,h2⟩
 ·cases ho
theorem moves_then{s n:Nat}{Q:Exit->Act->World->Prop}{l:List Oper}(hsel:Region.noSelect l.toArray=true)(hs:sunkB md l.toArray s n=true)(hc:Region.chainB md l.toArray n=true)(hn:n<l.length)
  (hQ:∀ c a d v w,Q (.panic c) (a.put (some d) v) w->Q (.panic c) a w) {w:World} (hw:C w):
  ∀ (m k:Nat) (listed:Array Bool) (a:Act),k+m=s->s<=n->HeadInv md l.toArray n listed->(∀ i,i<k->listed.getD i true=true)->
   ((l.take s).drop k).all moveB=true->Region.lexHead md l.toArray (l.length-n) (n-k) k listed=true->
   wpQuiet P l.toArray C (fun a'=>∀ w',C w'->wpList P l.toArray Q (l.drop n) a' w') ((l.take n).drop k) a->
   wpAny P md l.toArray Q (l.length-k) listed a w:=by
 intro m
 induction m with
 |zero=>
  intro k listed a hk hsn inv low _ hB h;obtain rfl:k=s:=by omega
  have hlen:((l.take n).drop k).length=n-k:=by simp;omega
  have hdl:(l.drop n).length=l.length-n:=by simp
  have H:=Hd.lex (g:=l.length-n) hsel hs hc (by simpa using hn) ((l.take n).drop k) k listed a (fun j hj=>by
   rw[hlen] at hj
   simp[List.getElem?_drop,List.getElem?_take];omega) (by rw[hlen];omega) ⟨inv,low⟩ (by rw[hlen];exact hB) h
  have:=Hd.any (Q:=Q) (g:=l.length-n) (fun listed a' w' hw' hL=>by
   have:=wpAny_of_seq (md:=md) (Q':=Q) (l.drop n) n listed a' w' (fun j=>by simp[List.getElem?_drop]) (by rw[hdl];exact hL.1) (hL.2 w' hw')
   rwa [hdl] at this) _ _ _ _ hw H
  rw[hlen,show n-k+(l.length-n)=l.length-k by omega] at this
  exact this
 |succ m ih=>
  intro k listed a hk hsn inv low hmv hB h;have hkl:k<l.length:=by omega
  have h0:l.toArray[k]? =some l[k]:=by simp[hkl]
  have hd1:(l.take n).drop k=l[k]::(l.take n).drop (k+1):=by
   rw[List.drop_eq_getElem_cons (by simp;omega)];simp
  have hd2:(l.take s).drop k=l[k]::(l.take s).drop (k+1):=by
   rw[List.drop_eq_getElem_cons (by simp;omega)];simp
  rw[hd1] at h;rw[hd2,List.all_cons,Bool.and_eq_true] at hmv;rw[show n-k=(n-(k+1))+1 by omega] at hB
  simp only[Region.lexHead,Bool.and_eq_true] at hB;obtain ⟨⟨hr,hf⟩,hB'⟩:=hB;have hr':k∈Region.ready md l.toArray listed:=by simpa using hr
  obtain ⟨v,hy,hK⟩:=move_yields (P:=P) (ops:=l.toArray) (C:=C) hmv.1 hw (h:if _ then _ else _)
  rw[show l.length-k=(l.length-(k+1))+1 by omega]
  have hds:∃ d,l[k].dst=some d:=by
   have:=hmv.1;unfold moveB at this;simp only[Bool.and_eq_true] at this;exact Option.isSome_iff_exists.1 this.1.2
  obtain ⟨d,hd⟩:=hds;refine wpAny_take h0 hsel hf hr (fun c a w=>by rw[hd];exact hQ c a d v w) hy (ih (k+1) _ _ (by omega) hsn (inv.set hr' (by omega)) (fun i hi=>?_) hmv.2 hB' hK)
  by_cases hik:k=i
  ·subst hik;rw[Array.getD_eq_getD_getElem?,Array.getElem?_setIfInBounds,if_pos rfl];split<;>rfl
  ·rw[getD_set_ne true hik];exact low i (by omega)
end
def tailB(l:List Oper)(s n:Nat):Bool:=
 Region.noSelect l.toArray&&decide (n<l.length)&&decide (s<=n)&&sunkB .any l.toArray s n&&Region.chainB .any l.toArray n&&(l.take s).all moveB&&Region.lexHead .any l.toArray (l.length-n) n 0 (Array.replicate l.length false)
theorem quiet_tail'{P:Program}{id:Nat}{Q:Exit->Act->World->Prop}{a:Act}{w:World}{l:List Oper}(s n:Nat)(hm:P.follows .mixedOrders=true)(hB:tailB l s n=true)
  (hQ:∀ c a d v w,Q (.panic c) (a.put (some d) v) w->Q (.panic c) a w)
  (h:wpQuiet P l.toArray (fun w'=>∃ m,w'=w.drewN m) (fun a'=>∀ w',(∃ m,w'=w.drewN m)->wpList P l.toArray Q (l.drop n) a' w') (l.take n) a):(Code.region id l.toArray true).wp P Q a w:=by
 simp only[tailB,Bool.and_eq_true,decide_eq_true_eq] at hB;obtain ⟨⟨⟨⟨⟨⟨hsel,hn⟩,hsn⟩,hs⟩,hc⟩,hmv⟩,hlex⟩:=hB;refine wp_region_any hm ?_
 have inv0:HeadInv .any l.toArray n (Array.replicate l.length false):=
  ⟨by simp,fun j oj _ hl=>(by rw[getD_replicate_false] at hl;cases hl),fun t _ ht=>getD_in (by simpa using ht) (getD_replicate_false _ _)⟩
 have:=moves_then (P:=P) (C:=fun w'=>∃ m,w'=w.drewN m) (Q:=Q) hsel hs hc hn hQ (w:={ w with drawn:=w.drawn+1 }) ⟨1,rfl⟩ s 0 (Array.replicate l.length false) a (by omega) hsn inv0 (fun i hi=>by omega) (by simpa using hmv) (by simpa using hlex) (by simpa using h)
 simpa using this
theorem quiet_tail{P:Program}{id:Nat}{Q:Exit->Act->World->Prop}{a:Act}{w:World}{l:List Oper}(n:Nat)(hm:P.follows .mixedOrders=true)(hB:tailB l 0 n=true)
  (hQ:∀ c a d v w,Q (.panic c) (a.put (some d) v) w->Q (.panic c) a w)
  (h:wpQuiet P l.toArray (fun w'=>∃ m,w'=w.drewN m) (fun a'=>∀ w',(∃ m,w'=w.drewN m)->wpList P l.toArray Q (l.drop n) a' w') (l.take n) a):(Code.region id l.toArray true).wp P Q a w:=
 quiet_tail' 0 n hm hB hQ h
@[go_sem] theorem setCell_drewN(w:World)(n:Nat)(a:Addr)(v:Value):(w.drewN n).setCell a v=(w.setCell a v).drewN n:=rfl
@[go_sem] theorem alloc_drewN(w:World)(n:Nat)(o:Obj):(w.drewN n).alloc o=(w.alloc o).drewN n:=rfl
attribute [go_sem] I_xor ba_set
@[irreducible] def row(w:World)(b:Nat):Option (Array Value):=
 match w.heap[b]? with
 |some (.cells c _ fr)=>if fr=(0,0) then some c else none
 |_=>none
theorem row_of{w:World}{b:Nat}{c:Array Value}{t:TypeId}(h:w.heap[b]? =some (.cells c t (0,0))):row w b=some c:=by
 unfold row;simp[h]
theorem row_is{w:World}{b:Nat}{c:Array Value}(h:row w b=some c):∃ t,w.heap[b]? =some (.cells c t (0,0)):=by
 unfold row at h
 split at h
 ·rename_i c' t fr e
  split at h
  ·rename_i hfr
   subst hfr;obtain rfl:=Option.some.inj h;exact ⟨t,e⟩
  ·cases h
 ·cases h
theorem zK{w:World}{b:Nat}{c:Array Value}(h:row w b=some c):b<w.heap.size:=by
 obtain ⟨t,ht⟩:=row_is h;exact (Array.getElem?_eq_some_iff.1 ht).1
theorem yZ{w w':World}{b:Nat}(h:w'.heap[b]? =w.heap[b]?):row w' b=row w b:=by unfold row;rw[h]
theorem zC{w:World}{b:Nat}{c:Array Value}(h:row w b=some c)(i:Nat):w.cell? ⟨b,i,none⟩=c[i]? :=by
 obtain ⟨t,ht⟩:=row_is h;exact cell_of_row w b i c t (0,0) ht
theorem zJ{w:World}{b:Nat}{c:Array Value}(h:row w b=some c)(i:Nat):w.frozen? ⟨b,i,none⟩=false:=by
 obtain ⟨t,ht⟩:=row_is h;exact frozen_of_row w b i c t ht
@[go_sem] theorem zA(w:World)(c:Array Value)(t:TypeId)(n:Nat)(hn:n=w.heap.size):row (w.alloc (.cells c t)) n=some c:=by
 subst hn;exact row_of (heap_alloc_new w _)
@[go_sem] theorem row_alloc_past(w:World)(o:Obj)(n:Nat)(hn:n<w.heap.size):row (w.alloc o) n=row w n:=yZ (Below.heap_alloc w o n hn)
@[go_sem] theorem zS(w:World)(n b:Nat):row (w.drewN n) b=row w b:=yZ rfl
@[go_sem] theorem setRow_drewN(w:World)(n b:Nat)(c:Array Value):(w.drewN n).setRow b c=(w.setRow b c).drewN n:=rfl
@[go_sem] theorem setRow_drew(w:World)(b:Nat)(c:Array Value):w.drew.setRow b c=(w.setRow b c).drew:=rfl
@[go_sem] theorem setRow_alloc_at(w:World)(c c':Array Value)(t:TypeId)(n:Nat)(hn:n=w.heap.size):(w.alloc (.cells c t)).setRow n c'=w.alloc (.cells c' t):=by
 subst hn;exact World.setRow_alloc_new w c c' t
@[go_sem] theorem setRow_alloc_past(w:World)(o:Obj)(c':Array Value)(n:Nat)(hn:n<w.heap.size):(w.alloc o).setRow n c'=(w.setRow n c').alloc o:=by
 simp only[World.setRow,World.alloc];congr 1;apply Array.ext_getElem?;intro k;simp only[Array.getElem?_modify,Array.getElem?_push,Array.size_modify]
 by_cases hk:k=w.heap.size
 ·subst hk
  simp[Nat.ne_of_lt hn]
 ·simp[hk]
theorem zE{w:World}{b:Nat}{c:Array Value}(h:row w b=some c)(c':Array Value):row (w.setRow b c') b=some c':=by
 obtain ⟨t,ht⟩:=row_is h;exact row_of (setRow_heap w b c c' t _ ht)
theorem zF(w:World)(g b:Nat)(c':Array Value)(h:b≠g):row (w.setRow g c') b=row w b:=yZ (setRow_other w g b c' h)
theorem zL{w:World}{b:Nat}{c:Array Value}(h:row w b=some c)(i:Nat)(v:Value):w.setCell ⟨b,i,none⟩ v=w.setRow b (c.setIfInBounds i v):=by
 obtain ⟨t,ht⟩:=row_is h;exact setCell_eq_setRow w b i c t _ v ht
theorem row_setCell{w:World}{b n:Nat}{f:Nat->BitVec 8}(h:row w b=some (ba n f))(i:Nat)(v:BitVec 8):row (w.setCell ⟨b,i,none⟩ (.int .u8 (I v))) b=some (ba n (upd f i v)):=by
 rw[zL h,zE h,ba_set]
theorem zX(w:World)(a:Addr)(b:Nat)(v:Value)(h:b≠a.block):row (w.setCell a v) b=row w b:=yZ (Below.heap_setCell w a v b h)
theorem zN{w:World}{b:Nat}{c:Array Value}(h:row w b=some c)(o:Obj):row (w.alloc o) b=some c:=by rw[row_alloc_past _ _ _ (zK h),h]
theorem row_below{B b:Nat}{w w':World}(h:Below B w w')(hb:b<B):row w' b=row w b:=yZ (h.block b hb)
theorem zG{B b:Nat}{a w:World}(h:Below B a w)(hb:B<=b)(c:Array Value):Below B a (w.setRow b c):=
 h.trans ⟨rfl,rfl,rfl,by simp,fun k hk=>setRow_other w b k c (by omega)⟩
theorem zQ{B:Nat}{a w:World}(h:Below B a w)(n:Nat):Below B a (w.drewN n):=h.trans ⟨rfl,rfl,rfl,Nat.le_refl _,fun _ _=>rfl⟩
theorem zD{X w':World}(h:Below X.heap.size X w'){b:Nat}{c:Array Value}(hr:row X b=some c):row w' b=some c:=by rw[row_below h (zK hr),hr]
theorem onto{B:Nat}{a X w':World}(h0:Below B a X)(hB:B<=X.heap.size)(h:Below X.heap.size X w'):Below B a w':=h0.trans (h.mono hB)
theorem yK(b o j:Nat):(⟨b,o,none⟩:Addr).add j=⟨b,o+j,none⟩:=by unfold Addr.add;split<;>simp_all
theorem yF{w:World}{b:Nat}{c:Array Value}(h:row w b=some c):w.setRow b c=w:=by
 obtain ⟨t,ht⟩:=row_is h;have hb:=zK h;have hv:w.heap[b]=.cells c t (0,0):=(Array.getElem?_eq_some_iff.1 ht).2;unfold World.setRow
 cases w with
 |mk heap tape drawn os output=>
  congr 1;apply Array.ext
  ·simp
  ·intro k h1 h2
   simp only[Array.getElem_modify]
   split
   ·rename_i hk;subst hk;simp at hv;simp[hv]
   ·rfl
theorem run_stores{P:Program}(b o:Nat):∀ (vs:List Value) (i:Nat) (cur:Array Value) (w:World),row w b=some cur->o+i+vs.length<=cur.size->(∀ v∈vs,v.oneCell'=true)->
  (storeCells ⟨b,o,none⟩ vs i).run P w=.ok () (w.setRow b (spl cur (o+i) vs)):=by
 intro vs
 induction vs with
 |nil=>intro i cur w h _ _;simp only[spl,yF h];rfl
 |cons v r ih=>
  intro i cur w h hl h1;simp only[List.length_cons] at hl;have hcell:w.cell? ⟨b,o+i,none⟩=some cur[o+i]:=by rw[zC h];exact Array.getElem?_eq_getElem (by omega)
  have hst:(store ((⟨b,o,none⟩:Addr).add i) v).run P w=.ok () (w.setRow b (cur.setIfInBounds (o+i) v)):=by
   rw[yK,run_store P w _ v _ (h1 v (by simp)),hcell]
   simp[zJ h,zL h]
  have e:=ih (i+1) (cur.setIfInBounds (o+i) v) (w.setRow b (cur.setIfInBounds (o+i) v)) (zE h _) (by simp;omega) (fun x hx=>h1 x (by simp[hx]))
  simp only[storeCells,Sem.run_bind,hst,Result.andThen_ok];rw[show o+(i+1)=o+i+1 from rfl] at e
  rw[e,setRow_setRow];rfl
def ldA(t:TypeId)(p:Value):Sem Value:=Instr.loadAt t p
def stA(t:TypeId)(p v:Value):Sem Unit:=Instr.storeAt t p v
def Ones(c:Array Value):Prop:=c.all (·.oneCell')=true
instance (c:Array Value):Decidable (Ones c):=inferInstanceAs (Decidable (_=true))
@[go_sem] theorem ones_ba(n:Nat)(f:Nat->BitVec 8):Ones (ba n f):=ba_one n f
@[irreducible] def ldR(P:Program)(t m:Nat)(w:World)(b o:Nat):Option (Array Value)->Result Value
 |some c=>if o+m<=c.size then .ok (.agg (c.extract o (o+m))) w else (ldA t (.pointer (some ⟨b,o,none⟩))).run P w
 |none=>(ldA t (.pointer (some ⟨b,o,none⟩))).run P w
@[irreducible] def stR(P:Program)(t m:Nat)(w:World)(b o:Nat)(v:Value):Option (Array Value)->Result Unit
 |some c=>if o+m<=c.size/\v.cells.size=m/\Ones v.cells then .ok () (w.setRow b (spl c o v.cells.toList)) else (stA t (.pointer (some ⟨b,o,none⟩)) v).run P w
 |none=>(stA t (.pointer (some ⟨b,o,none⟩)) v).run P w
@[go_sem] theorem ldR_ba(P:Program)(t m n:Nat)(w:World)(b o:Nat)(f:Nat->BitVec 8)(h:o+m<=n):ldR P t m w b o (some (ba n f))=.ok (.agg (ba m (offF f o))) w:=by
 unfold ldR;simp only[zI,if_pos h];rw[ba_ex n o (o+m) f h,show o+m-o=m by omega]
@[go_sem] theorem stR_ba(P:Program)(t m n:Nat)(w:World)(b o:Nat)(f g:Nat->BitVec 8)(h:o+m<=n):stR P t m w b o (.agg (ba m g)) (some (ba n f))=.ok () (w.setRow b (ba n (putF f o m g))):=by
 have e:o+m<=(ba n f).size/\(Value.agg (ba m g)).cells.size=m/\Ones (Value.agg (ba m g)).cells:=⟨by rw[zI];exact h,zI m g,ones_ba m g⟩
 unfold stR;simp only[if_pos e];exact congrArg (fun c=>Result.ok () (w.setRow b c)) (spl_ba n o m f g h)
@[go_sem] theorem ba_put_all(n:Nat)(f g:Nat->BitVec 8):ba n (putF f 0 n g)=ba n g:=xA fun k hk=>by simp[putF,hk]
theorem xG{P:Program}(t n:Nat)(e:TypeId)(hu:P.underlying t=some (.array n e))(m:Nat)(hi:(P.info? t).map (·.size)=some m)(w:World)(b o:Nat):
  (ldA t (.pointer (some ⟨b,o,none⟩))).run P w=ldR P t m w b o (row w b):=by
 unfold ldR
 split
 ·rename_i c hr
  split
  ·rename_i hc
   obtain ⟨t',ht⟩:=row_is hr;have hx:=run_loadAt_mid (P:=P) w b o t (c.extract o (o+m)).toList _ (World.rangeAt_of_block ht o m) hu rfl (by rw[hi];simp;omega)
   rw[Array.toArray_toList] at hx;exact hx
  ·rfl
 ·rfl
theorem yR{P:Program}(t m:Nat)(hi:(P.info? t).map (·.size)=some m)(w:World)(b o:Nat)(c':Array Value):
  (stA t (.pointer (some ⟨b,o,none⟩)) (.agg c')).run P w=stR P t m w b o (.agg c') (row w b):=by
 unfold stR
 split
 ·rename_i c hr
  split
  ·rename_i hc
   obtain ⟨h1,h2,h3⟩:=hc;have hx:=run_stores (P:=P) b o c'.toList 0 c w hr (by have:c'.size=m:=h2;simp;omega) (fun v hv=>(Array.all_eq_true_iff_forall_mem.1 h3) v (by simpa[Value.cells] using hv))
   cases hq:P.info? t with
   |none=>rw[hq] at hi;cases hi
   |some i=>
    have hs:c'.size=i.size:=by rw[hq] at hi;have:c'.size=m:=h2;have h4:i.size=m:=Option.some.inj hi;omega
    simp only[Nat.add_zero] at hx;simp[stA,Instr.storeAt,Instr.sureAddr,storeVar,sizeOf,typeInfo,hq,Value.cells,hs,hx]
  ·rfl
 ·rfl
theorem yG{P:Program}(t:TypeId)(v:Value)(h:(P.info? t).map (·.zero)=some (some v))(w:World):(zeroValue t).run P w=.ok v w:=by
 cases hq:P.info? t with
 |none=>rw[hq] at h;cases h
 |some i=>
  rw[hq] at h;have h':i.zero=some v:=Option.some.inj h;simp[zeroValue,typeInfo,hq,h']
theorem zW{P:Program}{fn:Func}{p:Tmp}{ty:TypeId}(h:fn.results=#[.cell p ty])(tmps:Array Value)(w:World)(b n:Nat)(e:TypeId)(c:Array Value)
  (hp:tmps.getD p undef=.pointer (some ⟨b,0,none⟩)) (hr:row w b=some c) (hu:P.underlying ty=some (.array n e)) (hi:(P.info? ty).map (·.size)=some c.size):
  (results fn tmps).run P w=.ok (.agg c) w:=by
 obtain ⟨t',ht⟩:=row_is hr;exact results_cell_row h tmps w b t' c (0,0) _ hp ht hu rfl hi
attribute [go_sem] zI ba_elem upto_at offF_zero ba_ne
theorem wpl_build{P:Program}{ops:Array Oper}{rest:List Oper}{o:Oper}{a:Act}{w:World}{Q:Exit->Act->World->Prop}(hg:o.guard=none)(t:TypeId)(yI:Array (Nat×Operand))(ho:o.op=.build t yI)
  (lits:Array (Nat×Value)) (v:Value) (hr:∀ w,(Instr.build t lits).run P w=.ok v w) (hl:(yI.map fun (i,x)=>(i,a.eval x))=lits) (h:wpList P ops Q rest (a.put o.dst v) w):wpList P ops Q (o::rest) a w:=by
 refine wpList_plain hg fun K hK=>?_
 unfold Oper.wp execOp;simp only[ho,hl,Sem.run_bind,hr,Result.andThen_ok,Sem.run_pure];exact hK _ _ h
def eqB(n:Nat)(f g:Nat->BitVec 8):Bool:=(List.range n).all fun i=>f i==g i
theorem eqB_iff(n:Nat)(f g:Nat->BitVec 8):eqB n f g=true↔∀ i,i<n->f i=g i:=by
 unfold eqB;simp
section
variable {P:Program}
theorem eq_array(t len n d:Nat)(elem:TypeId)(hu:P.underlying t=some (.array len elem))(hn:(P.info? elem).map (·.size)=some n)(xs ys:Array Value)(w:World)(B:Nat->Bool)
  (hel:∀ i,i<len->∃ a b,(part elem xs (i*n)).run P w=.ok a w/\(part elem ys (i*n)).run P w=.ok b w/\(Op.equalIn d elem a b).run P w=.ok (B i) w):
  (Op.equalIn (d+1) t (.agg xs) (.agg ys)).run P w=.ok ((List.range len).all B) w:=by
 have hsz:(sizeOf elem).run P w=.ok n w:=by
  cases hq:P.info? elem with
  |none=>rw[hq] at hn;cases hn
  |some i=>
   rw[hq] at hn;have h:i.size=n:=Option.some.inj hn;simp[sizeOf,typeInfo,hq,h]
 simp only[Op.equalIn,Sem.run_bind,run_underlying hu,Result.andThen_ok,hsz];rw[Std.Legacy.Range.forIn_eq_forIn_range'];simp only[Std.Legacy.Range.size,Nat.sub_zero,Nat.add_sub_cancel,Nat.div_one];rw[List.range_eq_range']
 have key:∀ (m k:Nat),k+m<=len->((forIn (List.range' k m) ((none:Option Bool),()) fun i _=>do
      let a <-part elem xs (i*n)
      let b <-part elem ys (i*n)
      let r <-Op.equalIn d elem a b
      if (!r)=true then pure (ForInStep.done (some false,())) else pure (ForInStep.yield (none,())):Sem (Option Bool×Unit)).run P w)=
    .ok (bif (List.range' k m).all B then (none,()) else (some false,())) w:=by
  intro m
  induction m with
  |zero=>intro k _;rfl
  |succ m ih=>
   intro k hk;obtain ⟨a,b,h1,h2,h3⟩:=hel k (by omega)
   rw[List.range'_succ];simp only[List.forIn_cons,Sem.run_bind,h1,h2,h3,Result.andThen_ok,List.all_cons]
   by_cases hB:B k=true
   ·rw[hB]
    simp only[Bool.not_true,Bool.false_eq_true,ite_false,Sem.run_pure,Result.andThen_ok,Bool.true_and];exact ih (k+1) (by omega)
   ·have hB':B k=false:=by simpa using hB
    rw[hB'];simp
 rw[key len 0 (by omega)]
 by_cases h:(List.range' 0 len).all B=true
 ·rw[h];simp
 ·have h':(List.range' 0 len).all B=false:=by simpa using h
  rw[h'];simp
theorem part_byte(e:TypeId)(k:IntKind)(he:P.underlying e=some (.int k))(n i:Nat)(hi:i<n)(f:Nat->BitVec 8)(w:World):(part e (ba n f) i).run P w=.ok (.int .u8 (I (f i))) w:=by
 have ha:(isAgg e).run P w=.ok false w:=by simp[isAgg,run_underlying he]
 simp[part,ha,yA n f i hi]
theorem eq_bytes(t n d:Nat)(e:TypeId)(k:IntKind)(hu:P.underlying t=some (.array n e))(he:P.underlying e=some (.int k))(hs:(P.info? e).map (·.size)=some 1)(f g:Nat->BitVec 8)(w:World):
  (Op.equalIn (d+2) t (.agg (ba n f)) (.agg (ba n g))).run P w=.ok (eqB n f g) w:=by
 refine eq_array t n 1 (d+1) e hu hs _ _ w (fun i=>f i==g i) fun i hi=>⟨_,_,by rw[Nat.mul_one];exact part_byte e k he n i hi f w,by rw[Nat.mul_one];exact part_byte e k he n i hi g w,?_⟩
 rw[run_equalIn_int w d e .u8 k _ _ he];congr 1
 by_cases h:f i=g i
 ·simp[h]
 ·have:¬ I (f i)=I (g i):=fun e=>h (I_inj e)
  rw[beq_eq_false_iff_ne.2 h,beq_eq_false_iff_ne.2 this]
end
structure After(W:World) where
 val:World
 below:Below W.heap.size W val
instance (W:World):Nonempty (After W):=⟨⟨W,Below.refl _ _⟩⟩
theorem After.row{W:World}{b:Nat}{c:Array Value}(h:row W b=some c)(x:After W):Oct.row x.val b=some c:=zD x.below h
theorem After.cell{W:World}{b:Nat}{c:Array Value}(h:Oct.row W b=some c)(x:After W)(i:Nat):x.val.cell? ⟨b,i,none⟩=c[i]? :=zC (x.row h) i
theorem After.call{P:Program}{W:World}{f:FuncId}{args:Array Value}{v:Value}(x:After W)(h:Calls P f args x.val fun e w'=>e=.returned v/\Below x.val.heap.size x.val w'):
  Calls P f args x.val fun e w'=>e=.returned v/\∃ y:After W,w'=y.val:=
 h.mono fun _ w' ⟨he,hb⟩=>⟨he,⟨w',onto x.below x.below.size hb⟩,rfl⟩
theorem xD{P:Program}{id:Nat}{Q:Exit->Act->World->Prop}{a:Act}{w:World}{l:List Oper}(hm:P.follows .mixedOrders=true)(hB:Region.lexB .any l.toArray=true)
  (h:wpQuiet P l.toArray (fun w'=>∃ x:After w,w'=x.val) (fun a'=>∀ w',(∃ x:After w,w'=x.val)->Q .normal a' w') l a):(Code.region id l.toArray true).wp P Q a w:=
 wp_region_quiet (C:=fun w'=>∃ x:After w,w'=x.val) hm hB ⟨⟨w.drewN 1,zQ (Below.refl _ _) 1⟩,rfl⟩ (by simpa using h)
theorem seen_tail{P:Program}{id:Nat}{Q:Exit->Act->World->Prop}{a:Act}{w:World}{l:List Oper}(s n:Nat)(hm:P.follows .mixedOrders=true)(hB:tailB l s n=true)
  (hQ:∀ c a d v w,Q (.panic c) (a.put (some d) v) w->Q (.panic c) a w)
  (h:wpQuiet P l.toArray (fun w'=>∃ x:After w,w'=x.val) (fun a'=>∀ w',(∃ x:After w,w'=x.val)->wpList P l.toArray Q (l.drop n) a' w') (l.take n) a):(Code.region id l.toArray true).wp P Q a w:=by
 simp only[tailB,Bool.and_eq_true,decide_eq_true_eq] at hB;obtain ⟨⟨⟨⟨⟨⟨hsel,hn⟩,hsn⟩,hs⟩,hc⟩,hmv⟩,hlex⟩:=hB;refine wp_region_any hm ?_
 have inv0:HeadInv .any l.toArray n (Array.replicate l.length false):=
  ⟨by simp,fun j oj _ hl=>(by rw[getD_replicate_false] at hl;cases hl),fun t _ ht=>getD_in (by simpa using ht) (getD_replicate_false _ _)⟩
 have:=moves_then (P:=P) (C:=fun w'=>∃ x:After w,w'=x.val) (Q:=Q) hsel hs hc hn hQ (w:={ w with drawn:=w.drawn+1 }) ⟨⟨w.drewN 1,zQ (Below.refl _ _) 1⟩,rfl⟩ s 0 (Array.replicate l.length false) a (by omega) hsn inv0 (fun i hi=>by omega) (by simpa using hmv) (by simpa using hlex) (by simpa using h)
 simpa using this
def atEnd(K:Act->World->Prop)(Q:Exit->Act->World->Prop):Exit->Act->World->Prop
 | .normal=>K
 |e=>Q e
def done(g:Nat->Bool)(i:Nat):Nat->Bool:=fun j=>if j=i then true else g j
theorem done_same(g:Nat->Bool)(i:Nat):done g i i=true:=by simp[done]
theorem yC(g:Nat->Bool){i j:Nat}(h:j≠i):done g i j=g j:=by simp[done,h]
section
variable {P:Program} {ops:Array Oper}
theorem upon_end(o:Oper)(a:Act)(K:Act->World->Prop)(Q:Exit->Act->World->Prop)(r:Result Next)(h:o.upon P a K (atEnd K Q) r):o.upon P a K Q r:=by
 cases r with
 |ok n w'=>
  cases n<;>simp only[Oper.upon] at h ⊢ <;>
   first
    |exact h
    |exact Calls.mono h (fun e w'' he=>by cases e<;>exact he)
 |halt x w'=>cases x<;>simp only[Oper.upon] at h ⊢ <;>exact h
theorem wpOp_of_list{i:Nat}{o:Oper}{a:Act}{w:World}{K:Act->World->Prop}{Q:Exit->Act->World->Prop}(ho:ops[i]? =some o)(h:wpList P ops (atEnd K Q) [o] a w):wpOp P ops Q i K a w:=by
 unfold wpOp;simp only[ho];unfold wpList at h
 by_cases hw:Region.wanted o (yielded ops a.tmps)=true
 ·rw[if_pos hw] at h ⊢
  rcases h with h|⟨h1,h2⟩
  ·exact .inl (upon_end o a K Q _ h)
  ·exact .inr ⟨h1,h2⟩
 ·rw[if_neg hw] at h ⊢
  exact h
def fwdB(l:List Oper):Bool:=(List.range l.length).all fun i=>match l[i]? with|some o=>o.after.all fun e=>decide (e.on<i)|none=>true
end
def plainB(o:Oper):Bool:=match o.op with
 | .move _| .assign _| .nilCheck _| .pick ..| .load ..| .indexAddr ..| .slice ..| .sliceToArrayPointer ..| .binOp ..| .unOp ..| .convert ..| .index ..| .fieldAddr ..| .field ..| .build ..| .extract ..| .makeInterface ..| .alloc _| .box ..| .buildSlice ..| .makeSlice ..| .lookup ..| .makeFunc ..=>true
 | .call c=>match c.callee with
  | .builtin .len| .builtin .cap| .builtin .min| .builtin .max=>true
  |_=>false
 |_=>false
theorem nil_no_enter{P:Program}{o:Oper}{x:Operand}(e:o.op=.nilCheck x)(ρ:Operand->Value)(w w':World)(f:FuncId)(xs:Array Value):(execOp ρ o).run P w≠.ok (.enter f xs) w':=by
 unfold execOp;simp only[e];have hp:(runtimePanic .nilDeref:Sem Next).run P w≠.ok (.enter f xs) w':=by simp[runtimePanic,goPanic]
 have hv:∀ v,(pure (Next.value v):Sem Next).run P w≠.ok (.enter f xs) w':=fun v=>by simp
 split
 ·exact hp
 ·exact hp
 ·exact hp
 ·split
  ·exact hp
  ·simp only[Sem.run_bind]
   intro h
   rename_i t u
   cases hn:((program).run P w) with
   |halt y w1=>rw[hn] at h;simp[Result.andThen] at h
   |ok p w1=>
    rw[hn] at h;simp only[Result.andThen_ok] at h
    cases hm:((nilAhead (p.types.size+Made.depth) _ _ _).run P w1:Result (Option Bool)) with
    |halt y w2=>rw[hm] at h;simp[Result.andThen] at h
    |ok b w2=>
     rw[hm] at h;simp only[Result.andThen_ok] at h
     split at h
     ·simp[Result.andThen,unsupported] at h
     ·simp at h
  ·exact hv _
 ·exact hv _
theorem plain_no_enter{P:Program}{o:Oper}(h:plainB o=true)(ρ:Operand->Value)(w w':World)(f:FuncId)(xs:Array Value):(execOp ρ o).run P w≠.ok (.enter f xs) w':=by
 have key:∀ s:Sem Value,(do pure (Next.value (<-s)):Sem Next).run P w≠.ok (.enter f xs) w':=fun s=>by
  simp only[Sem.run_bind]
  cases s.run P w with
  |ok v w1=>simp[Result.andThen]
  |halt x w1=>simp[Result.andThen]
 unfold plainB at h;unfold execOp
 split at h<;>rename_i e<;>simp only[e]<;>first
  |exact key _
  |(simp;done)
  |skip
 ·have:=nil_no_enter (P:=P) e ρ w w' f xs
  unfold execOp at this
  simpa only[e] using this
 ·rename_i c a b
  have:=key (do if <-asBool (ρ c) then pure (ρ a) else pure (ρ b))
  intro h2;apply this;rw[<-h2];simp only[Sem.run_bind,Sem.run_pure]
  cases (asBool (ρ c)).run P w with
  |ok v w1=>cases v<;>simp[Result.andThen]
  |halt x w1=>simp[Result.andThen]
 ·split at h
  all_goals first
   |(rename_i hc;simp only[resolve,hc,Sem.run_bind,Sem.run_pure,Result.andThen_ok,invoke,builtin];exact fun h2=>key _ (by rw[Sem.run_bind];exact h2))
   |(cases h;done)
 ·cases h
section
variable {P:Program} {ops:Array Oper} {Q:Exit->Act->World->Prop}
structure DC(ops:Array Oper)(listed:Array Bool):Prop where
 size:listed.size=ops.size
 closed:∀ j oj,ops[j]? =some oj->listed.getD j false=true->∀ e∈oj.after,Region.binds .any e=true->listed.getD e.on false=true
theorem DC.set{i:Nat}{listed:Array Bool}(h:DC ops listed)(hi:i∈Region.ready .any ops listed):DC ops (listed.setIfInBounds i true):=by
 obtain ⟨_,oi,hoi,hall⟩:=mem_ready.1 hi;refine ⟨by simp[h.size],fun j oj hj hl e he hb=>?_⟩
 by_cases hij:i=j
 ·subst hij
  obtain rfl:oj=oi:=Option.some.inj (hj.symm.trans hoi);exact getD_set_true (hall e he hb)
 ·rw[getD_set_ne false hij] at hl
  exact getD_set_true (h.closed j oj hj hl e he hb)
theorem DC.none:DC ops (Array.replicate ops.size false):=⟨by simp,fun j oj _ hl=>by rw[getD_replicate_false] at hl;cases hl⟩
def sunkTo(ops:Array Oper):List Nat->Nat->Bool
 |[],_=>true
 |i::r,e=>(Region.waitsFor .any ops e i||r.any fun j=>Region.waitsFor .any ops j i)&&sunkTo ops r e
theorem sunkTo_spec{e:Nat}:∀ (p:List Nat),sunkTo ops p e=true->∀ i∈p,∀ listed,DC ops listed->listed.getD i false=false->e ∉ Region.ready .any ops listed:=by
 intro p
 induction p with
 |nil=>intro _ i hi;cases hi
 |cons k r ih=>
  intro h i hi listed hd hun hr;simp only[sunkTo,Bool.and_eq_true,Bool.or_eq_true] at h;rcases List.mem_cons.1 hi with rfl|hi
  ·rcases h.1 with h1|h1
   ·obtain ⟨oj,hoj,x,hx,hb,hon⟩:=Region.waitsFor_spec h1
    obtain ⟨_,o',ho',hall⟩:=mem_ready.1 hr;obtain rfl:oj=o':=Option.some.inj (hoj.symm.trans ho');have:=hall x hx hb;rw[hon,hun] at this;cases this
   ·obtain ⟨j,hj,hw⟩:=List.any_eq_true.1 h1
    obtain ⟨oj,hoj,x,hx,hb,hon⟩:=Region.waitsFor_spec hw
    cases hl:listed.getD j false with
    |true=>
     have:=hd.closed j oj hoj hl x hx hb;rw[hon,hun] at this;cases this
    |false=>exact ih h.2 j hj listed hd hl hr
  ·exact ih h.2 i hi listed hd hun hr
def TT(P:Program)(ops:Array Oper)(Q:Exit->Act->World->Prop)(cl:Nat->Bool)(C:World->Prop):Nat->Array Bool->Act->World->Prop
 |0,listed,a,w=>Region.ready .any ops listed=[]/\Q .normal a w
 |f+1,listed,a,w=>(Region.ready .any ops listed=[]->Q .normal a w)/\∀ j∈Region.ready .any ops listed,
   wpOp P ops Q j (fun a' w'=>if cl j=true then wpAny P .any ops Q f (listed.setIfInBounds j true) a' w' else C w'/\TT P ops Q cl C f (listed.setIfInBounds j true) a' w') a w
theorem TT.any{cl:Nat->Bool}{C:World->Prop}:∀ (f:Nat) (listed:Array Bool) (a:Act) (w:World),TT P ops Q cl C f listed a w->wpAny P .any ops Q f listed a w:=by
 intro f
 induction f with
 |zero=>intro _ _ _ h;exact h
 |succ f ih=>
  intro listed a w h;refine ⟨h.1,fun j hj=>wpOp_mono (fun a' w' h'=>?_) (h.2 j hj)⟩
  split at h'
  ·exact h'
  ·exact ih _ _ _ h'.2
theorem TT.mono{cl:Nat->Bool}{C C':World->Prop}(hC:∀ w,C' w->C w):∀ (f:Nat) (listed:Array Bool) (a:Act) (w:World),TT P ops Q cl C' f listed a w->TT P ops Q cl C f listed a w:=by
 intro f
 induction f with
 |zero=>intro _ _ _ h;exact h
 |succ f ih=>
  intro listed a w h;refine ⟨h.1,fun j hj=>wpOp_mono (fun a' w' h'=>?_) (h.2 j hj)⟩
  split at h'
  ·rename_i hc;rw[if_pos hc];exact h'
  ·rename_i hc;rw[if_neg hc];exact ⟨hC _ h'.1,ih _ _ _ h'.2⟩
def YV(P:Program)(ops:Array Oper)(C:World->Prop)(o:Oper)(v:Value)(a:Act):Prop:=
 (Region.wanted o (yielded ops a.tmps)=true/\∀ w,C w->(execOp a.eval o).run P w=.ok (.value v) w\/((execOp a.eval o).run P w=.ok .skip w/\v=undef))\/
 (Region.wanted o (yielded ops a.tmps)=false/\v=undef)
theorem YV.of_same{C:World->Prop}{o:Oper}{v:Value}{a a':Act}(hy:YV P ops C o v a)(he:execOp a'.eval o=execOp a.eval o)(hw:Region.wanted o (yielded ops a'.tmps)=Region.wanted o (yielded ops a.tmps)):YV P ops C o v a':=by
 unfold YV at*;rw[he,hw];exact hy
theorem YV.wpOp{C:World->Prop}{i:Nat}{o:Oper}{v:Value}{a:Act}{w:World}(hi:ops[i]? =some o)(hy:YV P ops C o v a)(hw:C w){K:Act->World->Prop}(h:K (a.put o.dst v) w):wpOp P ops Q i K a w:=by
 unfold Go.wpOp;simp only[hi];rcases hy with ⟨hx,hv⟩|⟨hx,rfl⟩
 ·simp only[hx,if_true]
  refine .inl ?_;unfold Oper.wp;rcases hv w hw with e|⟨e,rfl⟩
  ·rw[e];exact h
  ·rw[e];exact h
 ·simp only[hx,Bool.false_eq_true,if_false];exact h
theorem wpOp_putV{C:World->Prop}{j:Nat}{oi oj:Oper}{v:Value}(hj:ops[j]? =some oj)(hap:oi.apart ops oj=true)(hsi:∀ cs b,oi.op≠.select cs b)(hsj:∀ cs b,oj.op≠.select cs b)
  (hQ:∀ c a d v w,Q (.panic c) (a.put (some d) v) w->Q (.panic c) a w) {K:Act->World->Prop} {a:Act} {w:World}
  (hy:YV P ops C oi v a) (h:wpOp P ops Q j K (a.put oi.dst v) w):wpOp P ops Q j (fun a' w'=>YV P ops C oi v a'/\K (a'.put oi.dst v) w') a w:=by
 obtain ⟨h1,h2,h3⟩:=Oper.apart_spec hap;have stay:∀ {a':Act},YV P ops C oi v a'->∀ u,YV P ops C oi v (a'.put oj.dst u):=fun hy u=>hy.of_same (execOp_put oi hsi _ oj.dst u h3) (wanted_put oi _ oj.dst u h3)
 have hQ':∀ c w,Q (.panic c) (a.put oi.dst v) w->Q (.panic c) a w:=fun c w h=>by
  cases hd:oi.dst with
  |none=>rw[hd] at h;exact h
  |some d=>rw[hd] at h;exact hQ _ _ _ _ _ h
 have turn:∀ {a':Act} (u:Value) {w':World},K ((a'.put oi.dst v).put oj.dst u) w'->K ((a'.put oj.dst u).put oi.dst v) w':=fun u _ h=>by rw[<-Act.put_comm _ v u h2];exact h
 unfold wpOp at h ⊢;simp only[hj] at h ⊢;rw[wanted_put oj a oi.dst v h1] at h
 by_cases hw:Region.wanted oj (yielded ops a.tmps)=true
 ·rw[if_pos hw] at h ⊢
  rcases h with h|⟨hasks,hlets⟩
  ·refine .inl ?_
   unfold Oper.wp at h ⊢;rw[execOp_put oj hsj a oi.dst v h1] at h
   cases hr:(execOp a.eval oj).run P w with
   |halt x w'=>
    rw[hr] at h;cases x<;>simp only[Oper.upon] at h ⊢
    exact hQ' _ _ h
   |ok n w'=>
    rw[hr] at h;cases n<;>simp only[Oper.upon] at h ⊢
    case value u=>exact ⟨stay hy u,turn u h⟩
    case skip=>exact ⟨stay hy _,turn _ h⟩
    case defer d=>exact ⟨stay (hy.of_same rfl rfl:YV P ops C oi v { a with defers:=d::a.defers }) _,by rw[<-Act.put_comm _ v undef h2,<-Act.put_defers];exact h⟩
    case row r xs=>exact Rows.mono h fun u _ he=>⟨stay hy u,turn u he⟩
    case enter f xs=>
     refine Calls.mono h fun e w'' he=>?_
     cases e with
     |returned u=>exact ⟨stay hy u,turn u he⟩
     |panicked c=>exact hQ' _ _ he
     |outgrown=>exact he
  ·exact .inr ⟨by unfold Oper.asks at hasks ⊢;rwa [execOp_put oj hsj a oi.dst v h1] at hasks,hlets⟩
 ·rw[if_neg hw] at h ⊢
  exact ⟨stay hy _,turn _ h⟩
theorem TT.first{cl:Nat->Bool}{C:World->Prop}{i:Nat}{oi:Oper}{v:Value}(hi:ops[i]? =some oi)(hsel:∀ (j:Nat) (o:Oper) cs b,ops[j]? =some o->o.op≠.select cs b)
  (hQ:∀ c a d v w,Q (.panic c) (a.put (some d) v) w->Q (.panic c) a w) (hcl:∀ listed,DC ops listed->listed.getD i false=false->∀ j∈Region.ready .any ops listed,cl j=false):
  ∀ (f:Nat) (listed:Array Bool) (a:Act) (w:World),DC ops listed->C w->
   (∀ j oj,ops[j]? =some oj->j≠i->listed.getD j true=false->(∀ e∈oj.after,Region.binds .any e=true->e.on≠i)->oi.apart ops oj=true)->
   i∈Region.ready .any ops listed->YV P ops C oi v a->
   TT P ops Q cl C f (listed.setIfInBounds i true) (a.put oi.dst v) w->TT P ops Q cl C (f+1) listed a w:=by
 intro f
 induction f with
 |zero=>
  intro listed a w hd hw _ hr hy H;have hc:=hcl listed hd (getD_both (mem_ready.1 hr).1);refine ⟨fun h=>(by rw[h] at hr;cases hr),fun j hj=>?_⟩
  by_cases hji:j=i
  ·subst hji;exact hy.wpOp hi hw (by rw[if_neg (by rw[hc j hj];exact Bool.false_ne_true)];exact ⟨hw,H⟩)
  ·have:=ready_mono hj hji
   rw[H.1] at this;cases this
 |succ f ih=>
  intro listed a w hd hw hfree hr hy H;have hc:=hcl listed hd (getD_both (mem_ready.1 hr).1);refine ⟨fun h=>(by rw[h] at hr;cases hr),fun j hj=>?_⟩
  by_cases hji:j=i
  ·subst hji;exact hy.wpOp hi hw (by rw[if_neg (by rw[hc j hj];exact Bool.false_ne_true)];exact ⟨hw,H⟩)
  ·have hcj:¬ cl j=true:=by rw[hc j hj];exact Bool.false_ne_true
   have h1:=H.2 j (ready_mono hj hji);simp only[if_neg hcj] at h1 ⊢;obtain ⟨hjun,oj,hoj,hall⟩:=mem_ready.1 hj
   have hno:∀ e∈oj.after,Region.binds .any e=true->e.on≠i:=fun e he hb heq=>by
    have h1:=hall e he hb;rw[heq,getD_both (mem_ready.1 hr).1] at h1;cases h1
   refine wpOp_mono (fun a' w' h3=>⟨h3.2.1,ih (listed.setIfInBounds j true) a' w' (hd.set hj) h3.2.1 (fun k ok hk hki hun hn'=>?_) (ready_mono hr (Ne.symm hji)) h3.1 ?_⟩)
    (wpOp_putV hoj (hfree j oj hoj hji hjun hno) (fun cs b=>hsel i oi cs b hi) (fun cs b=>hsel j oj cs b hoj) hQ hy h1)
   ·refine hfree k ok hk hki ?_ hn'
    by_cases hjk:j=k
    ·subst hjk;exact hjun
    ·rwa [getD_set_ne true hjk] at hun
   ·rw[Array.setIfInBounds_comm _ _ hji];exact h3.2.2
def pk(l:List Oper):List Nat->List Oper
 |[]=>[]
 |i::r=>match l[i]? with
  |some o=>o::pk l r
  |none=>pk l r
def qsB(ops:Array Oper):List Nat->Array Bool->Bool
 |[],_=>true
 |i::r,listed=>(Region.ready .any ops listed).contains i&&Region.free .any ops listed i&&((ops[i]?).map plainB).getD false&&qsB ops r (listed.setIfInBounds i true)
def zU(listed:Array Bool):List Nat->Array Bool
 |[]=>listed
 |i::r=>zU (listed.setIfInBounds i true) r
theorem TT.quiets{cl:Nat->Bool}{C:World->Prop}{l:List Oper}(hsel:Region.noSelect l.toArray=true)
  (hQ:∀ c a d v w,Q (.panic c) (a.put (some d) v) w->Q (.panic c) a w) {K:Act->Prop} {f:Nat} {w:World} (hw:C w):
  ∀ (qs:List Nat) (listed:Array Bool) (a:Act),qsB l.toArray qs listed=true->DC l.toArray listed->
   (∀ i∈qs,∀ listed,DC l.toArray listed->listed.getD i false=false->∀ j∈Region.ready .any l.toArray listed,cl j=false)->
   wpQuiet P l.toArray C K (pk l qs) a->(∀ a',DC l.toArray (zU listed qs)->K a'->TT P l.toArray Q cl C f (zU listed qs) a' w)->
   TT P l.toArray Q cl C (qs.length+f) listed a w:=by
 intro qs
 induction qs with
 |nil=>intro listed a _ hd _ h hK;rw[List.length_nil,Nat.zero_add];exact hK a hd h
 |cons i r ih=>
  intro listed a hB hd hcl h hK;simp only[qsB,Bool.and_eq_true] at hB;obtain ⟨⟨⟨hr,hf⟩,hp⟩,hB'⟩:=hB;have hr':i∈Region.ready .any l.toArray listed:=by simpa using hr
  obtain ⟨_,o,ho,_⟩:=mem_ready.1 hr';have ho':l[i]? =some o:=by simpa using ho
  rw[ho] at hp;have hp:plainB o=true:=hp;simp only[pk,ho'] at h
  have hyv:∃ v,YV P l.toArray C o v a/\wpQuiet P l.toArray C K (pk l r) (a.put o.dst v):=by
   unfold wpQuiet at h
   by_cases hwt:Region.wanted o (yielded l.toArray a.tmps)=true
   ·rw[if_pos hwt] at h
    obtain ⟨v,h1,h2⟩:=h;refine ⟨v,.inl ⟨hwt,fun x hx=>?_⟩,h2⟩
    have h3:=h1 x hx;unfold Oper.quietAt at h3
    cases hres:(execOp a.eval o).run P x with
    |halt y x'=>rw[hres] at h3;simp only[Oper.quietUpon] at h3
    |ok n x'=>
     rw[hres] at h3;cases n<;>simp only[Oper.quietUpon] at h3
     case value u=>obtain ⟨rfl,rfl⟩:=h3;exact .inl rfl
     case skip=>obtain ⟨rfl,rfl⟩:=h3;exact .inr ⟨rfl,rfl⟩
     case enter g xs=>exact absurd hres (plain_no_enter hp _ _ _ _ _)
   ·rw[if_neg hwt] at h
    exact ⟨undef,.inr ⟨by simpa using hwt,rfl⟩,h⟩
  obtain ⟨v,hy,hrest⟩:=hyv;rw[List.length_cons,show r.length+1+f=(r.length+f)+1 by omega]
  exact TT.first ho (Region.noSelect_spec hsel) hQ (hcl i (by simp)) _ listed a w hd hw (Region.free_spec ho hf) hr' hy
   (ih _ _ hB' (hd.set hr') (fun j hj=>hcl j (by simp[hj])) hrest hK)
abbrev Seg:=List Nat×Nat×Bool
def upTo:List Seg->Option (List Nat×Nat)
 |[]=>none
 |(qs,e,c)::r=>if c then some (qs,e) else (upTo r).map fun x=>(qs++e::x.1,x.2)
def clOf(s:List Seg)(j:Nat):Bool:=match upTo s with|some x=>x.2==j|none=>false
def clB(ops:Array Oper)(s:List Seg):Bool:=match upTo s with|some x=>sunkTo ops x.1 x.2|none=>true
def flB(ops:Array Oper)(last:List Nat):List Seg->Array Bool->Bool
 |[],listed=>qsB ops last listed&&(Region.ready .any ops (zU listed last)).isEmpty
 |(qs,e,c)::r,listed=>clB ops ((qs,e,c)::r)&&qsB ops qs listed&&Region.ready .any ops (zU listed qs)==[e]&&flB ops last r ((zU listed qs).setIfInBounds e true)
def lenS(last:List Nat):List Seg->Nat
 |[]=>last.length
 |(qs,_,_)::r=>qs.length+(lenS last r+1)
def flowB(l:List Oper)(s:List Seg)(last:List Nat):Bool:=Region.noSelect l.toArray&&lenS last s==l.length&&flB l.toArray last s (Array.replicate l.length false)
def wpFl(P:Program)(l:List Oper)(Q:Exit->Act->World->Prop)(last:List Nat):List Seg->(World->Prop)->Act->World->Prop
 |[],C,a,w=>wpQuiet P l.toArray C (fun a'=>Q .normal a' w) (pk l last) a
 |(qs,e,c)::r,C,a,w=>wpQuiet P l.toArray C (fun a'=>wpList P l.toArray (atEnd (fun a'' w''=>∃ C':World->Prop,C' w''/\(c=true\/C w''/\∀ x,C' x->C x)/\wpFl P l Q last r C' a'' w'') Q) (pk l [e]) a' w) (pk l qs) a
theorem flow{l:List Oper}{last:List Nat}(hsel:Region.noSelect l.toArray=true)(hQ:∀ c a d v w,Q (.panic c) (a.put (some d) v) w->Q (.panic c) a w):
  ∀ (s:List Seg) (C:World->Prop) (listed:Array Bool) (a:Act) (w:World),flB l.toArray last s listed=true->DC l.toArray listed->C w->wpFl P l Q last s C a w->
   TT P l.toArray Q (clOf s) C (lenS last s) listed a w:=by
 intro s
 induction s with
 |nil=>
  intro C listed a w hB hd hw h;simp only[flB,Bool.and_eq_true] at hB;have:=TT.quiets (P:=P) (Q:=Q) (cl:=clOf []) (f:=0) hsel hQ hw last listed a hB.1 hd (fun _ _ _ _ _ _ _=>rfl) h (fun a' _ hq=>⟨by simpa using hB.2,hq⟩)
  exact this
 |cons x r ih=>
  intro C listed a w hB hd hw h;obtain ⟨qs,e,c⟩:=x;simp only[flB,Bool.and_eq_true,beq_iff_eq] at hB;obtain ⟨⟨⟨hcl,hq⟩,hre⟩,hrest⟩:=hB;refine TT.quiets hsel hQ hw qs listed a hq hd (fun i hi listed' hd' hun j hj=>?_) h (fun a' hd' hK=>?_)
  ·unfold clOf
   cases hu:upTo ((qs,e,c)::r) with
   |none=>rfl
   |some y=>
    simp only[clB,hu] at hcl;simp only[beq_eq_false_iff_ne];intro hyj
    have hiy:i∈y.1:=by
     unfold upTo at hu
     cases c with
     |true=>simp only[if_true,Option.some.injEq] at hu;rw[<-hu];exact hi
     |false=>
      simp only[Bool.false_eq_true,if_false,Option.map_eq_some_iff] at hu;obtain ⟨z,_,rfl⟩:=hu;simp[hi]
    exact sunkTo_spec _ hcl i hiy listed' hd' hun (hyj ▸ hj)
  ·refine ⟨fun h0=>(by rw[h0] at hre;cases hre),fun j hj=>?_⟩
   have hj':=hj;rw[hre] at hj';obtain rfl:=List.mem_singleton.1 hj';obtain ⟨_,o,ho,_⟩:=mem_ready.1 hj;have ho':l[j]? =some o:=by simpa using ho
   simp only[pk,ho'] at hK;refine wpOp_mono (fun a'' w'' h3=>?_) (wpOp_of_list ho hK)
   obtain ⟨C',hC',hcc,hwp⟩:=h3;have T:=ih C' _ a'' w'' hrest (hd'.set hj) hC' hwp
   cases c with
   |true=>
    rw[if_pos (by simp[clOf,upTo])]
    exact TT.any _ _ _ _ T
   |false=>
    have hu:clOf ((qs,j,false)::r)=clOf r:=by
     funext k;unfold clOf;simp only[upTo,Bool.false_eq_true,if_false];cases upTo r<;>rfl
    rcases hcc with hcc|⟨hCw,hsub⟩
    ·cases hcc
    ·rw[hu]
     by_cases hk:clOf r j=true
     ·rw[if_pos hk];exact TT.any _ _ _ _ T
     ·rw[if_neg hk];exact ⟨hCw,TT.mono hsub _ _ _ _ T⟩
theorem zY{id:Nat}{a:Act}{w:World}{l:List Oper}(s:List Seg)(last:List Nat)(C:World->Prop)(hm:P.follows .mixedOrders=true)(hB:flowB l s last=true)
  (hQ:∀ c a d v w,Q (.panic c) (a.put (some d) v) w->Q (.panic c) a w) (hC:C (w.drewN 1)) (h:wpFl P l Q last s C a (w.drewN 1)):(Code.region id l.toArray true).wp P Q a w:=by
 simp only[flowB,Bool.and_eq_true,beq_iff_eq] at hB;obtain ⟨⟨hsel,hlen⟩,hf⟩:=hB;refine wp_region_any hm ?_;have e:(Array.replicate l.toArray.size false)=Array.replicate l.length false:=by simp
 have:=TT.any _ _ _ _ (flow hsel hQ s C (Array.replicate l.length false) a (w.drewN 1) hf (by rw[<-e];exact DC.none) hC h)
 rw[hlen] at this;have e2:(Array.replicate l.toArray.size false)=Array.replicate l.length false:=by simp
 rw[e2,show l.toArray.size=l.length by simp]
 exact this
def Aft(W:World):World->Prop:=fun w'=>∃ x:After W,w'=x.val
theorem Aft.self(W:World):Aft W W:=⟨⟨W,Below.refl _ _⟩,rfl⟩
theorem Aft.of{W w:World}(h:Below W.heap.size W w):Aft W w:=⟨⟨w,h⟩,rfl⟩
theorem Aft.sub{W w:World}(h:Below W.heap.size W w):∀ x,Aft w x->Aft W x:=fun _ ⟨x,hx⟩=>⟨⟨x.val,onto h h.size x.below⟩,hx⟩
def wpFs(P:Program)(l:List Oper)(Q:Exit->Act->World->Prop)(last:List Nat):List Seg->Act->World->Prop
 |[],a,w=>wpQuiet P l.toArray (fun w'=>∃ x:After w,w'=x.val) (fun a'=>Q .normal a' w) (pk l last) a
 |(qs,e,c)::r,a,w=>wpQuiet P l.toArray (fun w'=>∃ x:After w,w'=x.val) (fun a'=>wpList P l.toArray (atEnd (fun a'' w''=>(c=true\/Below w.heap.size w w'')/\wpFs P l Q last r a'' w'') Q) (pk l [e]) a' w) (pk l qs) a
theorem wpQuiet_mono{C:World->Prop}{K K':Act->Prop}(h:∀ a,K a->K' a):∀ (l:List Oper) (a:Act),wpQuiet P ops C K l a->wpQuiet P ops C K' l a:=by
 intro l
 induction l with
 |nil=>intro a hk;exact h a hk
 |cons o r ih=>
  intro a hk;unfold wpQuiet at hk ⊢
  split
  ·rename_i hw;rw[if_pos hw] at hk;exact Oper.quiet_mono ih hk
  ·rename_i hw;rw[if_neg hw] at hk;exact ih _ hk
theorem wpList_end_mono{K K':Act->World->Prop}(h:∀ a w,K a w->K' a w)(o:Oper)(a:Act)(w:World)(hh:wpList P ops (atEnd K Q) [o] a w):wpList P ops (atEnd K' Q) [o] a w:=by
 have key:∀ r:Result Next,o.upon P a (wpList P ops (atEnd K Q) []) (atEnd K Q) r->o.upon P a (wpList P ops (atEnd K' Q) []) (atEnd K' Q) r:=fun r hr=>by
  cases r with
  |ok n w'=>
   cases n<;>simp only[Oper.upon] at hr ⊢ <;>
    first
     |exact h _ _ hr
     |exact Rows.mono hr (fun _ _ he=>h _ _ he)
     |exact Calls.mono hr (fun e w'' he=>by cases e with
       |returned v=>exact h _ _ he
       |panicked c=>exact he
       |outgrown=>exact he)
  |halt x w'=>cases x<;>simp only[Oper.upon] at hr ⊢ <;>exact hr
 unfold wpList at hh ⊢
 by_cases hw:Region.wanted o (yielded ops a.tmps)=true
 ·rw[if_pos hw] at hh ⊢
  rcases hh with hh|⟨h1,h2⟩
  ·exact .inl (key _ hh)
  ·exact .inr ⟨h1,h2⟩
 ·rw[if_neg hw] at hh ⊢
  exact h _ _ hh
theorem wpFs.fl{l:List Oper}{last:List Nat}:∀ (s:List Seg) (a:Act) (w:World),wpFs P l Q last s a w->wpFl P l Q last s (Aft w) a w:=by
 intro s
 induction s with
 |nil=>intro a w h;exact h
 |cons x r ih=>
  intro a w h;obtain ⟨qs,e,c⟩:=x;refine wpQuiet_mono (fun a' h'=>?_) _ _ h
  cases he:l[e]? with
  |none=>
   simp only[pk,he] at h' ⊢;obtain ⟨h1,h2⟩:=h';exact ⟨Aft w,Aft.self w,.inr ⟨Aft.self w,fun _ hx=>hx⟩,ih _ _ h2⟩
  |some o=>
   simp only[pk,he] at h' ⊢;refine wpList_end_mono (fun a'' w'' h3=>?_) o a' w h'
   obtain ⟨h1,h2⟩:=h3;exact ⟨Aft w'',Aft.self w'',h1.imp id (fun hb=>⟨Aft.of hb,Aft.sub hb⟩),ih _ _ h2⟩
theorem yE{id:Nat}{a:Act}{w:World}{l:List Oper}(s:List Seg)(last:List Nat)(hm:P.follows .mixedOrders=true)(hB:flowB l s last=true)
  (hQ:∀ c a d v w,Q (.panic c) (a.put (some d) v) w->Q (.panic c) a w) (h:∀ x:After w,wpFs P l Q last s a x.val):(Code.region id l.toArray true).wp P Q a w:=
 zY s last (Aft (w.drewN 1)) hm hB hQ (Aft.self _) (wpFs.fl s a _ (h ⟨w.drewN 1,zQ (Below.refl _ _) 1⟩))
end
section
variable {P:Program} {ops:Array Oper} {Q:Exit->Act->World->Prop}
theorem wpOp_lift{j:Nat}{oi oj:Oper}{v:Value}(hj:ops[j]? =some oj)(hap:oi.apart ops oj=true)(hsj:∀ cs b,oj.op≠.select cs b)
  (hQ:∀ c a d v w,Q (.panic c) a w->Q (.panic c) (a.put (some d) v) w) {K:Act->World->Prop} {a:Act} {w:World}
  (h:wpOp P ops Q j K a w):wpOp P ops Q j (fun a' w'=>∃ b,a'=b.put oi.dst v/\K b w') (a.put oi.dst v) w:=by
 obtain ⟨h1,h2,h3⟩:=Oper.apart_spec hap
 have hQ':∀ c w,Q (.panic c) a w->Q (.panic c) (a.put oi.dst v) w:=fun c w h=>by
  cases hd:oi.dst with
  |none=>exact h
  |some d=>exact hQ _ _ _ _ _ h
 have turn:∀ {b:Act} (u:Value) {w':World},K (b.put oj.dst u) w'->∃ b',(b.put oi.dst v).put oj.dst u=b'.put oi.dst v/\K b' w':=fun {b} u {_} h=>⟨_,(Act.put_comm _ v u h2),h⟩
 unfold wpOp at h ⊢;simp only[hj] at h ⊢;rw[wanted_put oj a oi.dst v h1]
 by_cases hw:Region.wanted oj (yielded ops a.tmps)=true
 ·rw[if_pos hw] at h ⊢
  rcases h with h|⟨hasks,hlets⟩
  ·refine .inl ?_
   unfold Oper.wp at h ⊢;rw[execOp_put oj hsj a oi.dst v h1]
   cases hr:(execOp a.eval oj).run P w with
   |halt x w'=>
    rw[hr] at h;cases x<;>simp only[Oper.upon] at h ⊢
    exact hQ' _ _ h
   |ok n w'=>
    rw[hr] at h;cases n<;>simp only[Oper.upon] at h ⊢
    case value u=>exact turn u h
    case skip=>exact turn _ h
    case defer d=>
     have e:({ tmps:=(a.put oi.dst v).tmps,defers:=d::(a.put oi.dst v).defers }:Act)=({ a with defers:=d::a.defers }:Act).put oi.dst v:=by cases oi.dst<;>rfl
     rw[e];exact turn (b:={ a with defers:=d::a.defers }) _ h
    case row r xs=>exact Rows.mono h fun u _ he=>turn u he
    case enter f xs=>
     refine Calls.mono h fun e w'' he=>?_
     cases e with
     |returned u=>exact turn u he
     |panicked c=>exact hQ' _ _ he
     |outgrown=>exact he
  ·exact .inr ⟨by unfold Oper.asks at hasks ⊢;rwa [execOp_put oj hsj a oi.dst v h1],hlets⟩
 ·rw[if_neg hw] at h ⊢
  exact turn _ h
def ptr(p:Nat):Value:=.pointer (some ⟨p,0,none⟩)
def wpFu(P:Program)(l:List Oper)(Q:Exit->Act->World->Prop)(oa:Oper)(z:Array Value)(B:Nat)(q1:List Nat)(s2:List Seg)(last:List Nat):List (List Nat×Nat)->World->Act->Prop
 |[],W,a=>wpQuiet P l.toArray (fun w'=>∃ x:After W,w'=x.val) (fun a'=>∀ x:After W,∀ p,B<=p->row x.val p=some z->wpFs P l Q last s2 (a'.put oa.dst (ptr p)) x.val) (pk l q1) a
 |(qs,e)::r,W,a=>wpQuiet P l.toArray (fun w'=>∃ x:After W,w'=x.val) (fun a'=>∀ x:After W,wpList P l.toArray (atEnd (fun a'' w''=>Below x.val.heap.size x.val w''/\wpFu P l Q oa z B q1 s2 last r w'' a'') Q) (pk l [e]) a' x.val) (pk l qs) a
def allOf:List (List Nat×Nat)->List Nat
 |[]=>[]
 |(qs,e)::r=>qs++e::allOf r
def fuB(ops:Array Oper)(ia:Nat)(q1:List Nat)(s2:List Seg)(last:List Nat):List (List Nat×Nat)->Array Bool->Bool
 |[],listed=>qsB ops q1 listed&&qsB ops q1 (listed.setIfInBounds ia true)&&Region.ready .any ops (zU listed q1)==[ia]&&flB ops last s2 ((zU listed q1).setIfInBounds ia true)
 |(qs,e)::r,listed=>qsB ops qs listed&&qsB ops qs (listed.setIfInBounds ia true)&&(Region.ready .any ops (zU listed qs)==[e,ia]||Region.ready .any ops (zU listed qs)==[ia,e])&&
   Region.ready .any ops ((zU listed qs).setIfInBounds ia true)==[e]&&fuB ops ia q1 s2 last r ((zU listed qs).setIfInBounds e true)
def lenU(q1:List Nat)(s2:List Seg)(last:List Nat):List (List Nat×Nat)->Nat
 |[]=>q1.length+lenS last s2
 |(qs,_)::r=>qs.length+(lenU q1 s2 last r+1)
theorem setAll_comm(i:Nat):∀ (qs:List Nat) (listed:Array Bool),zU (listed.setIfInBounds i true) qs=(zU listed qs).setIfInBounds i true:=by
 intro qs
 induction qs with
 |nil=>intro _;rfl
 |cons k r ih=>
  intro listed;simp only[zU];rw[<-ih];congr 1
  by_cases h:i=k
  ·subst h;rfl
  ·exact Array.setIfInBounds_comm _ _ h
theorem wpQuiet_lift{l:List Oper}{C:World->Prop}{K:Act->Prop}{oi:Oper}{v:Value}(hsel:Region.noSelect l.toArray=true):
  ∀ (qs:List Nat) (a:Act),(∀ i∈qs,∀ o,l[i]? =some o->oi.apart l.toArray o=true/\plainB o=true)->wpQuiet P l.toArray C K (pk l qs) a->wpQuiet P l.toArray C (fun a'=>∃ b,a'=b.put oi.dst v/\K b) (pk l qs) (a.put oi.dst v):=by
 intro qs
 induction qs with
 |nil=>intro a _ h;exact ⟨a,rfl,h⟩
 |cons k r ih=>
  intro a hap h
  cases ho:l[k]? with
  |some o=>
   simp only[pk,ho] at h ⊢;obtain ⟨h1,h2,h3⟩:=Oper.apart_spec (hap k (by simp) o ho).1
   have hso:∀ cs b,o.op≠.select cs b:=fun cs b=>Region.noSelect_spec hsel k o cs b (by simpa using ho)
   unfold wpQuiet at h ⊢;rw[wanted_put o a oi.dst v h1]
   by_cases hw:Region.wanted o (yielded l.toArray a.tmps)=true
   ·rw[if_pos hw] at h ⊢
    obtain ⟨u,hu,hn⟩:=h;refine ⟨u,fun w hc=>?_,?_⟩
    ·have:=hu w hc
     unfold Oper.quietAt at this ⊢;rw[execOp_put o hso a oi.dst v h1];exact this
    ·rw[Act.put_comm a v u h2]
     exact ih _ (fun i hi=>hap i (by simp[hi])) hn
   ·rw[if_neg hw] at h ⊢
    rw[Act.put_comm a v undef h2];exact ih _ (fun i hi=>hap i (by simp[hi])) h
  |none=>
   simp only[pk,ho] at h ⊢;exact ih _ (fun i hi=>hap i (by simp[hi])) h
structure FlF(P:Program)(l:List Oper)(Q:Exit->Act->World->Prop)(ia:Nat)(oa:Oper)(z:Array Value)(B:Nat)(q1:List Nat)(s2:List Seg)(last:List Nat)(ord:List Nat):Prop where
 sel:Region.noSelect l.toArray=true
 hoa:l[ia]? =some oa
 ga:oa.guard=none
 hQ:∀ c a d v w,Q (.panic c) (a.put (some d) v) w->Q (.panic c) a w
 hQ2:∀ c a d v w,Q (.panic c) a w->Q (.panic c) (a.put (some d) v) w
 alloc:∀ ρ w,∃ w',(execOp ρ oa).run P w=.ok (.value (ptr w.heap.size)) w'/\row w' w.heap.size=some z/\Below w.heap.size w w'
 apart:∀ i∈ord,∀ o,l[i]? =some o->oa.apart l.toArray o=true
 cl:∀ i∈ord,∀ listed,DC l.toArray listed->listed.getD i false=false->∀ j∈Region.ready .any l.toArray listed,clOf s2 j=false
 cla:∀ listed,DC l.toArray listed->listed.getD ia false=false->∀ j∈Region.ready .any l.toArray listed,clOf s2 j=false
theorem qsB_plain:∀ (qs:List Nat) (listed:Array Bool),qsB ops qs listed=true->∀ i∈qs,∀ o,ops[i]? =some o->plainB o=true:=by
 intro qs
 induction qs with
 |nil=>intro _ _ i hi;cases hi
 |cons k r ih=>
  intro listed h i hi o ho;simp only[qsB,Bool.and_eq_true] at h;rcases List.mem_cons.1 hi with rfl|hi
  ·have:=h.1.2;rw[ho] at this;exact this
  ·exact ih _ h.2 i hi o ho
theorem FlF.alloc_wp{ia:Nat}{oa:Oper}{l:List Oper}{z:Array Value}{B:Nat}{q1:List Nat}{s2:List Seg}{last:List Nat}{ord:List Nat}(F:FlF P l Q ia oa z B q1 s2 last ord){a:Act}{w:World}{K:Act->World->Prop}
  (h:∀ w',row w' w.heap.size=some z->Below w.heap.size w w'->K (a.put oa.dst (ptr w.heap.size)) w'):wpOp P l.toArray Q ia K a w:=by
 obtain ⟨w',h1,h2,h3⟩:=F.alloc a.eval w;unfold wpOp;simp only[show l.toArray[ia]? =some oa by simpa using F.hoa]
 rw[if_pos (by unfold Region.wanted;rw[F.ga])]
 refine .inl ?_;unfold Oper.wp;rw[h1];exact h w' h2 h3
theorem flowF{ia:Nat}{oa:Oper}{l:List Oper}{z:Array Value}{B:Nat}{q1:List Nat}{s2:List Seg}{last:List Nat}{ord:List Nat}(F:FlF P l Q ia oa z B q1 s2 last ord):
  ∀ (s1:List (List Nat×Nat)) (listed:Array Bool) (a:Act) (W:World),fuB l.toArray ia q1 s2 last s1 listed=true->(∀ i∈allOf s1++q1,i∈ord)->DC l.toArray listed->ia∈Region.ready .any l.toArray listed->ia ∉ allOf s1++q1->B<=W.heap.size->wpFu P l Q oa z B q1 s2 last s1 W a->
   (∀ x:After W,∀ p,B<=p->row x.val p=some z->TT P l.toArray Q (clOf s2) (Aft W) (lenU q1 s2 last s1) (listed.setIfInBounds ia true) (a.put oa.dst (ptr p)) x.val)/\
   (∀ x:After W,TT P l.toArray Q (clOf s2) (Aft W) (lenU q1 s2 last s1+1) listed a x.val):=by
 intro s1
 induction s1 with
 |nil=>
  intro listed a W hB hord hd hia hni hBW h;simp only[fuB,Bool.and_eq_true,beq_iff_eq] at hB;obtain ⟨⟨⟨hq,hq'⟩,hra⟩,hf2⟩:=hB;simp only[allOf,List.nil_append] at hord hni;have hap:∀ i∈q1,∀ o,l[i]? =some o->oa.apart l.toArray o=true/\plainB o=true:=fun i hi o ho=>⟨F.apart i (hord i hi) o ho,qsB_plain q1 listed hq i hi o (by simpa using ho)⟩
  have part2:∀ x:After W,∀ p,B<=p->row x.val p=some z->TT P l.toArray Q (clOf s2) (Aft W) (lenU q1 s2 last []) (listed.setIfInBounds ia true) (a.put oa.dst (ptr p)) x.val:=fun x p hp hr=>by
   have hl:=wpQuiet_lift (oi:=oa) (v:=ptr p) F.sel q1 a hap h;refine TT.quiets (C:=Aft W) (K:=fun a'=>∃ b:Act,a'=b.put oa.dst (ptr p)/\∀ x:After W,∀ p,B<=p->row x.val p=some z->wpFs P l Q last s2 (b.put oa.dst (ptr p)) x.val) F.sel F.hQ (Aft.of x.below) q1 _ _ hq' (hd.set hia) (fun i hi=>F.cl i (hord i hi)) hl (fun a' hd' hK=>?_)
   obtain ⟨b,rfl,hK⟩:=hK;rw[setAll_comm] at hd' ⊢;exact TT.mono (Aft.sub x.below) _ _ _ _ (flow F.sel F.hQ s2 (Aft x.val) _ _ _ hf2 hd' (Aft.self _) (wpFs.fl s2 _ _ (hK x p hp hr)))
  refine ⟨part2,fun x=>?_⟩
  refine TT.quiets (C:=Aft W) (K:=fun a'=>∀ x:After W,∀ p,B<=p->row x.val p=some z->wpFs P l Q last s2 (a'.put oa.dst (ptr p)) x.val) (f:=lenS last s2+1) F.sel F.hQ (Aft.of x.below) q1 listed a hq hd (fun i hi=>F.cl i (hord i hi)) h (fun a' hd' hK=>?_)
  refine ⟨fun h0=>(by rw[h0] at hra;cases hra),fun j hj=>?_⟩
  have hj':=hj;rw[hra] at hj';obtain rfl:=List.mem_singleton.1 hj';have hcl:=F.cla _ hd' (getD_both (mem_ready.1 hj).1) j hj;refine F.alloc_wp fun w' hr hb=>?_
  rw[if_neg (by rw[hcl];exact Bool.false_ne_true)]
  have hx:=onto x.below x.below.size hb;refine ⟨Aft.of hx,?_⟩;exact TT.mono (Aft.sub hx) _ _ _ _ (flow F.sel F.hQ s2 (Aft w') _ _ _ hf2 (hd'.set hj) (Aft.self _) (wpFs.fl s2 _ _ (hK ⟨w',hx⟩ _ (Nat.le_trans hBW x.below.size) hr)))
 |cons y r ih=>
  intro listed a W hB hord hd hia hni hBW h;obtain ⟨qs,e⟩:=y;simp only[fuB,Bool.and_eq_true,Bool.or_eq_true,beq_iff_eq] at hB;obtain ⟨⟨⟨⟨hq,hq'⟩,hr2⟩,hr1⟩,hrest⟩:=hB;have hordq:∀ i∈qs,i∈ord:=fun i hi=>hord i (by simp[allOf,hi])
  have horde:e∈ord:=hord e (by simp[allOf])
  have hordr:∀ i∈allOf r++q1,i∈ord:=fun i hi=>hord i (by simp only[allOf,List.mem_append,List.mem_cons] at hi ⊢;rcases hi with hi|hi<;>simp[hi])
  have hniq:ia ∉ qs:=fun hi=>hni (by simp[allOf,hi])
  have hnie:ia≠e:=fun hi=>hni (by simp[allOf,hi])
  have hnir:ia ∉ allOf r++q1:=fun hi=>hni (by simp only[allOf,List.mem_append,List.mem_cons] at hi ⊢;rcases hi with hi|hi<;>simp[hi])
  have hap:∀ i∈qs,∀ o,l[i]? =some o->oa.apart l.toArray o=true/\plainB o=true:=fun i hi o ho=>⟨F.apart i (hordq i hi) o ho,qsB_plain qs listed hq i hi o (by simpa using ho)⟩
  have hre:e∈Region.ready .any l.toArray (zU listed qs):=by rcases hr2 with h2|h2<;>rw[h2]<;>simp
  have hria:ia∈Region.ready .any l.toArray (zU listed qs):=by rcases hr2 with h2|h2<;>rw[h2]<;>simp
  obtain ⟨_,oe,hoe,_⟩:=mem_ready.1 hre;have hoe':l[e]? =some oe:=by simpa using hoe
  have hria':ia∈Region.ready .any l.toArray ((zU listed qs).setIfInBounds e true):=ready_mono hria hnie
  have estep:∀ (a':Act),(∀ x:After W,wpList P l.toArray (atEnd (fun a'' w''=>Below x.val.heap.size x.val w''/\wpFu P l Q oa z B q1 s2 last r w'' a'') Q) (pk l [e]) a' x.val)->∀ x:After W,wpOp P l.toArray Q e (fun a'' w''=>Below x.val.heap.size x.val w''/\wpFu P l Q oa z B q1 s2 last r w'' a'') a' x.val:=fun a' hK x=>by
   have:=hK x;simp only[pk,hoe'] at this;exact wpOp_of_list hoe this
  have part2:∀ (a':Act),DC l.toArray (zU listed qs)->(∀ x:After W,wpList P l.toArray (atEnd (fun a'' w''=>Below x.val.heap.size x.val w''/\wpFu P l Q oa z B q1 s2 last r w'' a'') Q) (pk l [e]) a' x.val)->
    ∀ x:After W,∀ p,B<=p->row x.val p=some z->TT P l.toArray Q (clOf s2) (Aft W) (lenU q1 s2 last r+1) ((zU listed qs).setIfInBounds ia true) (a'.put oa.dst (ptr p)) x.val:=fun a' hd' hK x p hp hrow=>by
   refine ⟨fun h0=>(by rw[h0] at hr1;cases hr1),fun j hj=>?_⟩
   have hj':=hj;rw[hr1] at hj';obtain rfl:=List.mem_singleton.1 hj';have hcl:=F.cl j horde _ (hd'.set hria) (getD_both (mem_ready.1 hj).1) j hj;refine wpOp_mono (fun a'' w'' h3=>?_) (wpOp_lift hoe (F.apart j horde oe hoe') (fun cs b=>Region.noSelect_spec F.sel j oe cs b hoe) F.hQ2 (estep a' hK x))
   obtain ⟨b,rfl,hb,hrst⟩:=h3;rw[if_neg (by rw[hcl];exact Bool.false_ne_true)]
   have hx:=onto x.below x.below.size hb;refine ⟨Aft.of hx,?_⟩;have:=(ih ((zU listed qs).setIfInBounds j true) b w'' hrest hordr (hd'.set hre) hria' hnir (Nat.le_trans hBW hx.size) hrst).1 ⟨w'',Below.refl _ _⟩ p hp (zD hb hrow);rw[Array.setIfInBounds_comm _ _ hnie];exact TT.mono (Aft.sub hx) _ _ _ _ this
  refine ⟨fun x p hp hrow=>?_,fun x=>?_⟩
  ·have hl:=wpQuiet_lift (oi:=oa) (v:=ptr p) F.sel qs a hap h
   refine TT.quiets (C:=Aft W) (K:=fun a'=>∃ b:Act,a'=b.put oa.dst (ptr p)/\∀ x:After W,wpList P l.toArray (atEnd (fun a'' w''=>Below x.val.heap.size x.val w''/\wpFu P l Q oa z B q1 s2 last r w'' a'') Q) (pk l [e]) b x.val) F.sel F.hQ (Aft.of x.below) qs _ _ hq' (hd.set hia) (fun i hi=>F.cl i (hordq i hi)) hl (fun a' hd' hK=>?_)
   obtain ⟨b,rfl,hK⟩:=hK;rw[setAll_comm]
   have hdq:DC l.toArray (zU listed qs):=by
    have key:∀ (qs:List Nat) (listed:Array Bool),qsB l.toArray qs listed=true->DC l.toArray listed->DC l.toArray (zU listed qs):=by
     intro qs
     induction qs with
     |nil=>intro _ _ h;exact h
     |cons k r ih=>
      intro listed h hd;simp only[qsB,Bool.and_eq_true] at h;exact ih _ h.2 (hd.set (by simpa using h.1.1.1))
    exact key qs listed hq hd
   exact part2 b hdq hK x p hp hrow
  ·refine TT.quiets (C:=Aft W) (K:=fun a'=>∀ x:After W,wpList P l.toArray (atEnd (fun a'' w''=>Below x.val.heap.size x.val w''/\wpFu P l Q oa z B q1 s2 last r w'' a'') Q) (pk l [e]) a' x.val) (f:=lenU q1 s2 last r+1+1) F.sel F.hQ (Aft.of x.below) qs listed a hq hd (fun i hi=>F.cl i (hordq i hi)) h (fun a' hd' hK=>?_)
   refine ⟨fun h0=>(by rw[h0] at hre;cases hre),fun j hj=>?_⟩
   have hjj:j=e\/j=ia:=by rcases hr2 with h2|h2<;>rw[h2] at hj<;>simp at hj<;>omega
   rcases hjj with rfl|rfl
   ·have hcl:=F.cl j horde _ hd' (getD_both (mem_ready.1 hj).1) j hj
    refine wpOp_mono (fun a'' w'' h3=>?_) (estep a' hK x)
    obtain ⟨hb,hrst⟩:=h3;rw[if_neg (by rw[hcl];exact Bool.false_ne_true)]
    have hx:=onto x.below x.below.size hb;exact ⟨Aft.of hx,TT.mono (Aft.sub hx) _ _ _ _ ((ih ((zU listed qs).setIfInBounds j true) a'' w'' hrest hordr (hd'.set hre) hria' hnir (Nat.le_trans hBW hx.size) hrst).2 ⟨w'',Below.refl _ _⟩)⟩
   ·have hcl:=F.cla _ hd' (getD_both (mem_ready.1 hj).1) j hj
    refine F.alloc_wp fun w' hr hb=>?_
    rw[if_neg (by rw[hcl];exact Bool.false_ne_true)]
    have hx:=onto x.below x.below.size hb;exact ⟨Aft.of hx,part2 a' hd' hK ⟨w',hx⟩ _ (Nat.le_trans hBW x.below.size) hr⟩
end
def valB(o:Oper):Bool:=match o.op with
 | .move _| .load ..| .indexAddr ..| .slice ..| .sliceToArrayPointer ..| .binOp ..| .unOp ..| .convert ..| .index ..| .fieldAddr ..| .field ..=>true
 |_=>false
section
variable {P:Program} {ops:Array Oper} {C:World->Prop}
def headB(ops:Array Oper):Nat->Nat->Array Bool->Bool
 |0,_,_=>true
 |f+1,k,listed=>(Region.ready .any ops listed).contains k&&Region.free .any ops listed k&&headB ops f (k+1) (listed.setIfInBounds k true)
def heads(n m:Nat):Array Bool:=(List.replicate n true++List.replicate m false).toArray
variable {W:World} {Q:Exit->Act->World->Prop} {Lq:Act->Prop} {n:Nat} {oc oa ost:Oper} {v:Value} {z:Array Value}
def floatB(l:List Oper)(n:Nat):Bool:=
 match l[n]?,l[n+1]? with
 |some oc,some oa=>
  Region.noSelect l.toArray&&l.length==n+3&&sunkB .any l.toArray 0 n&&Region.waitsFor .any l.toArray (n+2) n&&(l.take n).all valB&&
  (List.range (n+1)).all (fun i=>!Region.waitsFor .any l.toArray i (n+1))&&oc.guard.isNone&&oa.guard.isNone&&(l.take (n+1)).all (fun o=>oa.apart l.toArray o)&&
  Region.ready .any l.toArray (heads n 3)==[n,n+1]&&Region.seqB .any l.toArray 2 (n+1) (heads (n+1) 2)&&Region.ready .any l.toArray ((heads n 3).setIfInBounds (n+1) true)==[n]&&
  ((heads n 3).setIfInBounds (n+1) true).setIfInBounds n true==heads (n+2) 1&&Region.seqB .any l.toArray 1 (n+2) (heads (n+2) 1)&&headB l.toArray n 0 (heads 0 (n+3))
 |_,_=>false
end
structure Sl(w:World)(B:Nat)(A:Option Addr)(n c:Nat)(b:Bf):Prop where
 le:n<=c
 at_:0<n->∃ g o,A=some ⟨g,o,none⟩/\g<B/\∀ i,i<n->w.cell? ⟨g,o+i,none⟩=some (.int .u8 (I (b i)))
theorem Sl.nothing(w:World)(B:Nat)(A:Option Addr)(c:Nat)(b:Bf):Sl w B A 0 c b:=⟨by omega,fun h=>absurd h (by omega)⟩
theorem Sl.keep{w w':World}{B n c:Nat}{A:Option Addr}{b:Bf}(h:Sl w B A n c b)(hk:∀ g o,g<B->w'.cell? ⟨g,o,none⟩=w.cell? ⟨g,o,none⟩):Sl w' B A n c b:=
 ⟨h.le,fun hn=>by
  obtain ⟨g,o,e,hg,hc⟩:=h.at_ hn
  exact ⟨g,o,e,hg,fun i hi=>by rw[hk _ _ hg];exact hc i hi⟩⟩
theorem Sl.below{w w':World}{B n c:Nat}{A:Option Addr}{b:Bf}(h:Sl w B A n c b)(hb:Below B w w'):Sl w' B A n c b:=
 h.keep fun g o hg=>hb.cell (p:=⟨g,o,none⟩) hg
theorem Sl.more{w:World}{B B' n c:Nat}{A:Option Addr}{b:Bf}(h:Sl w B A n c b)(hB:B<=B'):Sl w B' A n c b:=
 ⟨h.le,fun hn=>by obtain ⟨g,o,e,hg,hc⟩:=h.at_ hn;exact ⟨g,o,e,by omega,hc⟩⟩
theorem Sl.congr{w:World}{B n c:Nat}{A:Option Addr}{b b':Bf}(h:Sl w B A n c b)(hb:∀ i,i<n->b i=b' i):Sl w B A n c b':=
 ⟨h.le,fun hn=>by obtain ⟨g,o,e,hg,hc⟩:=h.at_ hn;exact ⟨g,o,e,hg,fun i hi=>by rw[<-hb i hi];exact hc i hi⟩⟩
theorem Sl.of_row{w:World}{g N:Nat}{f:Bf}(h:row w g=some (ba N f))(B:Nat)(hB:g<B):Sl w B (some ⟨g,0,none⟩) N N f:=
 ⟨Nat.le_refl _,fun _=>⟨g,0,rfl,hB,fun i hi=>by rw[zC h,Nat.zero_add,yA N f i hi]⟩⟩
theorem ba_1(x:BitVec 8):(#[.int .u8 (I x)]:Array Value)=ba 1 (fun _=>x):=by unfold ba;rfl
theorem Sl.one(w:World)(u:TypeId)(x:BitVec 8)(B:Nat)(hB:w.heap.size<B):Sl (w.alloc (.cells #[.int .u8 (I x)] u)) B (some ⟨w.heap.size,0,none⟩) 1 1 (fun _=>x):=
 Sl.of_row (by rw[ba_1];exact zA _ _ _ _ rfl) B hB
theorem Sl.drewN{w:World}{B n c:Nat}{A:Option Addr}{b:Bf}(h:Sl w B A n c b)(m:Nat):Sl (w.drewN m) B A n c b:=h.keep fun _ _ _=>rfl
def cutA(A:Option Addr)(c k:Nat):Option Addr:=if c=k then A else A.map (·.add k)
theorem Sl.from_{w:World}{B n c:Nat}{A:Option Addr}{b:Bf}(h:Sl w B A n c b)(k:Nat)(hk:k<=n):Sl w B (cutA A c k) (n-k) (c-k) (offF b k):=by
 refine ⟨by have:=h.le;omega,fun hn=>?_⟩
 obtain ⟨g,o,rfl,hg,hc⟩:=h.at_ (by omega)
 have:=h.le;refine ⟨g,o+k,?_,hg,fun i hi=>?_⟩
 ·unfold cutA
  rw[if_neg (by omega)]
  simp only[Option.map_some];rw[yK]
 ·rw[Nat.add_assoc];exact hc (k+i) (by omega)
theorem Sl.upto{w:World}{B n c:Nat}{A:Option Addr}{b:Bf}(h:Sl w B A n c b)(k:Nat)(hk:k<=n):Sl w B A k c b:=by
 refine ⟨by have:=h.le;omega,fun hn=>?_⟩
 obtain ⟨g,o,rfl,hg,hc⟩:=h.at_ (by omega)
 exact ⟨g,o,rfl,hg,fun i hi=>hc i (by omega)⟩
section
variable {P:Program} {t u:TypeId}
theorem run_size1(hz:(P.info? u).map (·.size)=some 1)(w:World):(sizeOf u).run P w=.ok 1 w:=by
 cases hq:P.info? u with
 |none=>rw[hq] at hz;cases hz
 |some i=>
  rw[hq] at hz;have h:i.size=1:=Option.some.inj hz;simp[sizeOf,typeInfo,hq,h]
theorem xE(ht:P.underlying t=some (.slice u))(hz:(P.info? u).map (·.size)=some 1)(A:Option Addr)(n c k:Nat)(hk:k<=n)(w:World):(Instr.slice t (.slice A n c) (some (.int .i64 (k:Int))) none none).run P w=.ok (.slice (cutA A c k) (n-k) (c-k)) w:=by
 have he:P.elem t=u:=by simp[Program.elem,ht]
 rw[run_slice_l w t A n c (by rw[he];exact ht) .i64 k (by omega) (by omega),he,run_size1 hz,Result.andThen_ok]
 simp[sliced,cutA,Int.toNat_natCast]
theorem run_upto(ht:P.underlying t=some (.slice u))(hz:(P.info? u).map (·.size)=some 1)(A:Option Addr)(n c k:Nat)(hk:k<=c)(w:World):(Instr.slice t (.slice A n c) none (some (.int .i64 (k:Int))) none).run P w=.ok (.slice A k c) w:=by
 have he:P.elem t=u:=by simp[Program.elem,ht]
 rw[run_slice_h w t A n c (by rw[he];exact ht) .i64 k (by omega) (by omega),he,run_size1 hz,Result.andThen_ok]
 by_cases h0:c=0
 ·subst h0;simp[sliced]
 ·simp[sliced,Int.toNat_natCast,h0]
  cases A with
  |none=>rfl
  |some a=>simp[Addr.add]
end
theorem copied(N m:Nat)(f b:Bf)(h:m<=N):((ba N f).toList.take 0++(ba m b).toList++(ba N f).toList.drop (0+(ba m b).toList.length)).toArray=ba N (putF f 0 m b):=by
 apply Array.ext_getElem?;intro i;have hl:(ba m b).toList.length=m:=by rw[Array.length_toList,zI]
 simp only[List.take_zero,List.nil_append,Nat.zero_add,hl,List.getElem?_toArray]
 by_cases hi:i<m
 ·rw[List.getElem?_append_left (by rw[hl];exact hi),Array.getElem?_toList,yA m b i hi,yA N _ i (by omega)]
  simp[putF,hi]
 ·rw[List.getElem?_append_right (by rw[hl];omega),hl,List.getElem?_drop,show m+(i-m)=i by omega,Array.getElem?_toList]
  by_cases hn:i<N
  ·rw[yA N _ i hn,yA N _ i hn];simp[putF,hi]
  ·rw[yS N _ i hn,yS N _ i hn]
theorem run_copyB{P:Program}{w:World}{dT sT ty u:TypeId}(hu:P.underlying dT=some (.slice u))(hz:(P.info? u).map (·.size)=some 1){g N dc:Nat}{f:Bf}(hr:row w g=some (ba N f))
  {B n c:Nat} {A:Option Addr} {b:Bf} (hs:Sl w B A n c b) {m:Nat} (hm:m=min n N):
  (Builtin.copy_ #[dT,sT] ty #[.slice (some ⟨g,0,none⟩) N dc,.slice A n c]).run P w=.ok (goInt m) (w.setRow g (ba N (putF f 0 m b))):=by
 by_cases h0:m=0
 ·have e:ba N (putF f 0 m b)=ba N f:=xA fun k _=>by simp[putF,h0]
  rw[e,yF hr,h0];exact run_copy_none w dT sT ty u _ _ N dc n c hu hz (by show min n N=0;omega)
 ·obtain ⟨a,o,rfl,_,hc⟩:=hs.at_ (by omega)
  obtain ⟨t,hg⟩:=row_is hr;have hl:(ba m b).toList.length=m:=by rw[Array.length_toList,zI]
  have h:=run_copy_row (P:=P) w dT sT ty u g 0 N dc ⟨a,o,none⟩ n c (ba N f) t (ba m b).toList hu hz hg (by rw[hl];exact hm)
   (fun j v hv=>by
    rw[Array.getElem?_toList] at hv
    by_cases hj:j<m
    ·rw[yA m b j hj] at hv
     rw[yK,hc j (by omega),hv]
    ·rw[yS m b j hj] at hv;cases hv)
   (by rw[hl,zI];omega) (fun v hv=>(Array.all_eq_true_iff_forall_mem.1 (ba_one m b)) v (by simpa using hv))
  rw[copied N m f b (by omega),hl] at h
  exact h
theorem wpl_copy{P:Program}{w:World}{ops:Array Oper}{rest:List Oper}{o:Oper}{a:Act}{Q:Exit->Act->World->Prop}(hgd:o.guard=none)(d s:Operand)(dT sT u:TypeId)
  (ho:o.op=.call { callee:=.builtin .copy,args:=#[d,s],argTypes:=#[dT,sT] }) (hu:P.underlying dT=some (.slice u)) (hz:(P.info? u).map (·.size)=some 1)
  {g N dc:Nat} {f:Bf} (hr:row w g=some (ba N f)) {B n c:Nat} {A:Option Addr} {b:Bf} (hs:Sl w B A n c b) {m:Nat} (hm:m=min n N)
  (hd:a.eval d=.slice (some ⟨g,0,none⟩) N dc) (hv:a.eval s=.slice A n c)
  (h:wpList P ops Q rest (a.put o.dst (.int .i64 (m:Int))) (w.setRow g (ba N (putF f 0 m b)))):wpList P ops Q (o::rest) a w:=by
 refine wpList_plain hgd fun K hK=>?_
 have hrun:=run_copyB (ty:=o.type) (sT:=sT) hu hz hr hs hm (dc:=dc);unfold Oper.wp;simp only[execOp,ho,resolve,invoke,builtin,Sem.run_bind,Sem.run_pure,Result.andThen_ok,List.map_toArray,List.map_cons,List.map_nil,hd,hv,hrun];exact hK _ _ h
def Own(w:World)(base:Nat)(u:TypeId)(v:Value)(n:Nat)(f:Bf):Prop:=w.ownsRow base u 1 v n (ba n f).toList
def catF(n:Nat)(f g:Bf):Bf:=fun i=>if i<n then f i else g (i-n)
theorem yH(f g:Bf):catF 0 f g=g:=by funext i;simp[catF]
theorem cat_ba(n m:Nat)(f g:Bf):(ba n f).toList++(ba m g).toList=(ba (n+m) (catF n f g)).toList:=by
 apply List.ext_getElem?;intro i;have hl:∀ k (h:Bf),(ba k h).toList.length=k:=fun k h=>by rw[Array.length_toList,zI]
 by_cases hi:i<n
 ·rw[List.getElem?_append_left (by rw[hl];exact hi),Array.getElem?_toList,Array.getElem?_toList,yA n f i hi,yA (n+m) _ i (by omega)]
  simp[catF,hi]
 ·rw[List.getElem?_append_right (by rw[hl];omega),hl,Array.getElem?_toList,Array.getElem?_toList]
  by_cases hm:i<n+m
  ·rw[yA m g _ (by omega),yA (n+m) _ i hm];simp[catF,hi]
  ·rw[yS m g _ (by omega),yS (n+m) _ i hm]
theorem Own.sl{w:World}{base:Nat}{u:TypeId}{v:Value}{n:Nat}{f:Bf}(h:Own w base u v n f):∃ A c,v=.slice A n c/\Sl w w.heap.size A n c f/\c<=maxLen/\(A=none\/∃ g,A=some ⟨g,0,none⟩/\base<=g):=by
 unfold Own at h;rcases h.2 with ⟨rfl,h0⟩|⟨g,cap,cur,rfl,hb,hh,hc,hm,hcs,htk⟩
 ·subst h0;exact ⟨none,0,rfl,Sl.nothing _ _ _ _ _,Nat.zero_le _,.inl rfl⟩
 ·refine ⟨_,_,rfl,⟨hc,fun hn=>⟨g,0,rfl,(Array.getElem?_eq_some_iff.1 hh).1,fun i hi=>?_⟩⟩,hm,.inr ⟨g,rfl,hb⟩⟩
  have e:=h.cells (g:=g) rfl i (.int .u8 (I (f i))) (by rw[Array.getElem?_toList,yA n f i hi])
  rw[yK] at e;exact e
theorem Own.nil(w:World)(base:Nat)(u:TypeId)(f:Bf):Own w base u (.slice none 0 0) 0 f:=by
 unfold Own;rw[show (ba 0 f).toList=[] from List.eq_nil_of_length_eq_zero (by rw[Array.length_toList,zI])]
 exact World.ownsRow_nil w base u 1
theorem Own.empty(w:World)(base:Nat)(u:TypeId)(f:Bf)(hb:base<=w.heap.size):Own (w.alloc (.cells #[] u)) base u (.slice (some ⟨w.heap.size,0,none⟩) 0 0) 0 f:=by
 unfold Own;rw[show (ba 0 f).toList=[] from List.eq_nil_of_length_eq_zero (by rw[Array.length_toList,zI])]
 exact World.ownsRow_made w #[] 0 hb (Nat.zero_le _) rfl
theorem Own.below{w w':World}{B base:Nat}{u:TypeId}{v:Value}{n:Nat}{f:Bf}(h:Own w base u v n f)(hb:Below B w w')(hB:w.heap.size<=B):Own w' base u v n f:=by
 unfold Own at h ⊢;refine ⟨h.1,?_⟩;rcases h.2 with hn|⟨g,cap,cur,rfl,hbg,hg,rest⟩
 ·exact .inl hn
 ·exact .inr ⟨g,cap,cur,rfl,hbg,by rw[hb.block g (by have:=(Array.getElem?_eq_some_iff.1 hg).1;omega)];exact hg,rest⟩
theorem Own.congr{w:World}{base:Nat}{u:TypeId}{v:Value}{n:Nat}{f f':Bf}(h:Own w base u v n f)(e:∀ i,i<n->f i=f' i):Own w base u v n f':=by
 unfold Own at h ⊢;rwa [xA e] at h
theorem Own.alloc{w:World}{base:Nat}{u:TypeId}{v:Value}{n:Nat}{f:Bf}(h:Own w base u v n f)(o:Obj):Own (w.alloc o) base u v n f:=h.below ((Below.refl w.heap.size w).alloc (Nat.le_refl _) o) (Nat.le_refl _)
theorem Own.after{w w' a:World}{B base:Nat}{u:TypeId}{v:Value}{n:Nat}{f:Bf}(h:Own w base u v n f)(hg:w.grownBy w' v.ownBlock)(hb:Below B a w)(hB:B<=w.heap.size)(hbase:B<=base):Below B a w':=
 hb.grown hg hB (fun k hk=>by have:=(World.ownsRow.lt h k hk).1;omega)
theorem run_appB{P:Program}{w:World}{t ty u:TypeId}(ht:P.underlying t=some (.slice u))(hi:(P.info? u).map (fun i=>(i.zero,i.size,i.bytes))=some (some (.int .u8 0),1,1))
  {base:Nat} {v:Value} {n:Nat} {f:Bf} (hown:Own w base u v n f) {B m c:Nat} {A:Option Addr} {g:Bf} (hs:Sl w B A m c g) (hnm:n+m<=140737488355328) (hbase:base<=w.heap.size):
  ∃ v' w',(Builtin.append_ #[t,t] ty #[v,.slice A m c]).run P w=.ok v' w'/\Own w' base u v' (n+m) (catF n f g)/\w.grownBy w' v.ownBlock/\(v'.ownBlock=v.ownBlock\/v'.ownBlock=some w.heap.size):=by
 cases hq:P.info? u with
 |none=>rw[hq] at hi;cases hi
 |some i=>
  rw[hq] at hi;have h0:(i.zero,i.size,i.bytes)=(some (.int .u8 0),1,1):=Option.some.inj hi;simp only[Prod.mk.injEq] at h0;obtain ⟨z0,z1,z2⟩:=h0;have hl:(ba m g).toList.length=m*1:=by rw[Array.length_toList,zI];omega
  rcases A with _|ad
  ·have hm:m=0:=by
    rcases Nat.eq_zero_or_pos m with h|h
    ·exact h
    ·obtain ⟨_,_,e,_⟩:=hs.at_ h;cases e
   subst hm;refine ⟨v,w,?_,hown.congr fun i hi=>by simp[catF,hi],⟨rfl,rfl,rfl,Nat.le_refl _,fun _ _ _=>rfl⟩,.inl rfl⟩
   unfold Own at hown;rcases hown.2 with ⟨rfl,rfl⟩|⟨g,cap,cur,rfl,_,_,hnc,_⟩
   ·simp[Builtin.append_,run_underlying ht,sizeOf,typeInfo,hq,Builtin.lenOf,Builtin.firstCells]
   ·simp[Builtin.append_,run_underlying ht,sizeOf,typeInfo,hq,Builtin.lenOf,Builtin.firstCells,hnc,storeCells]
  ·obtain ⟨v',w',h1,h2,h3,_,h5⟩:=run_append_own_at (P:=P) w base t ty u i (.int .u8 0) 1 1 ht hq z0 z1 z2 rfl (by decide) v n (ba n f).toList hown ad m c (ba m g).toList hl
    (fun j x hx=>by
     rw[Array.getElem?_toList] at hx
     by_cases hj:j<m
     ·rw[yA m g j hj] at hx
      obtain ⟨a,o,e,_,hc⟩:=hs.at_ (by omega)
      obtain rfl:ad=⟨a,o,none⟩:=Option.some.inj e;rw[yK,hc j hj,hx]
     ·rw[yS m g j hj] at hx;cases hx)
    (fun x hx=>(Array.all_eq_true_iff_forall_mem.1 (ba_one m g)) x (by simpa using hx)) (by unfold maxLen;omega) (by omega) hbase
   refine ⟨v',w',h1,?_,h3,h5⟩;unfold Own;rw[<-cat_ba];exact h2
theorem wp_appB{P:Program}{w:World}{o:Oper}{a:Act}{K:Act->World->Prop}{Q:Exit->Act->World->Prop}(s x:Operand){t u:TypeId}(ho:o.op=.call { callee:=.builtin .append,args:=#[s,x],argTypes:=#[t,t] })
  (ht:P.underlying t=some (.slice u)) (hi:(P.info? u).map (fun i=>(i.zero,i.size,i.bytes))=some (some (.int .u8 0),1,1))
  {base:Nat} {v:Value} {n:Nat} {f:Bf} (hown:Own w base u v n f) {B m c:Nat} {A:Option Addr} {g:Bf} (hs:Sl w B A m c g) (hnm:n+m<=140737488355328) (hbase:base<=w.heap.size)
  (hv:a.eval s=v) (hx:a.eval x=.slice A m c)
  (h:∀ v' w',Own w' base u v' (n+m) (catF n f g)->w.grownBy w' v.ownBlock->(v'.ownBlock=v.ownBlock\/v'.ownBlock=some w.heap.size)->K (a.put o.dst v') w'):o.wp P a w K Q:=by
 obtain ⟨v',w',hr,h1,h2,h3⟩:=run_appB (ty:=o.type) ht hi hown hs hnm hbase;unfold Oper.wp execOp;simp only[ho,resolve,invoke,builtin,Sem.run_bind,Sem.run_pure,Result.andThen_ok,List.map_toArray,List.map_cons,List.map_nil,hv,hx,hr];exact h v' w' h1 h2 h3
theorem yO{P:Program}{w:World}{ops:Array Oper}{rest:List Oper}{o:Oper}{a:Act}{Q:Exit->Act->World->Prop}(hgd:o.guard=none)(s x:Operand){t u:TypeId}(ho:o.op=.call { callee:=.builtin .append,args:=#[s,x],argTypes:=#[t,t] })
  (ht:P.underlying t=some (.slice u)) (hi:(P.info? u).map (fun i=>(i.zero,i.size,i.bytes))=some (some (.int .u8 0),1,1))
  {base:Nat} {v:Value} {n:Nat} {f:Bf} (hown:Own w base u v n f) {B m c:Nat} {A:Option Addr} {g:Bf} (hs:Sl w B A m c g) (hnm:n+m<=140737488355328) (hbase:base<=w.heap.size)
  (hv:a.eval s=v) (hx:a.eval x=.slice A m c)
  (h:∀ v' w',Own w' base u v' (n+m) (catF n f g)->w.grownBy w' v.ownBlock->(v'.ownBlock=v.ownBlock\/v'.ownBlock=some w.heap.size)->wpList P ops Q rest (a.put o.dst v') w'):wpList P ops Q (o::rest) a w:=
 wpList_plain hgd fun _ hK=>wp_appB s x ho ht hi hown hs hnm hbase hv hx fun v' w' h1 h2 h3=>hK _ _ (h v' w' h1 h2 h3)
open Go.ChangeShapes Go.WideShapes Go.ChangeAt
def AllBytes(cs:List Value):Prop:=∀ c,c∈cs->∃ v:BitVec 8,c=.int .u8 (I v)
section
variable {H:Type} {enc:TypeId×Value->H} {P:Program} {w:World} {base:Nat} {spare:Nat->Bool} {held:Bool}
theorem trod_byte{t:TypeId}(ht:P.underlying t=some (.int .u8)){fuel:Nat}{cs:List Value}{x:DataW H×List MemPlace}(h:DataW.trod enc P w base spare held fuel t cs=some x):AllBytes cs:=by
 obtain ⟨n,rfl,_,hw⟩:=DataW.trod_int ht h;intro c hc;obtain rfl:=List.mem_singleton.1 hc;obtain ⟨h0,h1⟩:=bounds_u8 hw;obtain ⟨v,rfl⟩:=I_of n h0 h1;exact ⟨v,rfl⟩
end
section
variable {H:Type} {enc:TypeId×Value->H} {P:Program} {w:World} {base:Nat} {spare:Nat->Bool} {held:Bool}
theorem open_sl{t e:TypeId}{r:Reach}{b:Nat}{v:Value}{d:DataW H}{p:List MemPlace}(ht:P.underlying t=some (.slice e))(he:P.underlying e=some (.int .u8))(h1:P.cellsOf e=1)
  (hv:Value.okWide P w r b t v) (h:DataW.Trod enc P w base spare held t v d p):∃ A n c f,v=.slice A n c/\Sl w w.heap.size A n c f/\c<=maxLen:=by
 obtain ⟨a0,n0,c0,rfl⟩:=okWide_slice ht hv;obtain ⟨fuel,hf⟩:=h;rcases Deep.open_slice1 ht h1 hf with ⟨hcs,_⟩|⟨a,len,cap,m,n,V,D,Pl,hcs,_,hl,hm,hmm,_,hx⟩
 ·have e0:(.slice a0 n0 c0:Value)=.slice none 0 0:=by simpa[Value.cells] using hcs
  injection e0 with e1 e2 e3
  subst e1;subst e2;subst e3;exact ⟨none,0,0,nF,rfl,Sl.nothing _ _ _ _ _,Nat.zero_le _⟩
 ·have e0:(.slice a0 n0 c0:Value)=.slice (some a) len cap:=by simpa[Value.cells] using hcs
  injection e0 with e1 e2 e3
  subst e1;subst e2;subst e3;have hlen:n0<=m:=by rw[hmm];split<;>omega
  have hb:∀ i:Nat,∃ v:BitVec 8,i<n0->V i=.int .u8 (I v):=fun i=>by
   by_cases hi:i<n0
   ·obtain ⟨v,hv⟩:=trod_byte he (hx i (by omega)).2 (V i) (by simp)
    exact ⟨v,fun _=>hv⟩
   ·exact ⟨0#8,fun e=>absurd e hi⟩
  obtain ⟨f,hF⟩:=Classical.axiomOfChoice hb;refine ⟨some a,n0,c0,f,rfl,⟨hl,fun hn=>?_⟩,hm⟩
  have hc0:=(hx 0 (by omega)).1
  rw[show a.add 0=a from rfl] at hc0
  have hs:=World.cell?_spot hc0;obtain ⟨g,o,s⟩:=a;simp only at hs;subst hs;refine ⟨g,o,rfl,World.block_lt_of_cell? w _ hc0,fun i hi=>?_⟩
  have hci:=(hx i (by omega)).1
  rw[yK,hF i hi] at hci;exact hci
end
@[irreducible] def xC(n:Nat)(b:Bf):ByteArray:=⟨((List.range n).map fun i=>UInt8.ofNat (b i).toNat).toArray⟩
theorem run_str{P:Program}{w:World}{src dst e:TypeId}(hs:P.underlying src=some (.slice e))(he:P.underlying e=some (.int .u8))(hd:P.underlying dst=some .string)
  {B n c:Nat} {A:Option Addr} {b:Bf} (h:Sl w B A n c b):(convert src dst (.slice A n c)).run P w=.ok (.string (xC n b)) w:=by
 rcases Nat.eq_zero_or_pos n with rfl|hn
 ·rw[run_convert_bytes_string w src dst e A 0 c hs he hd]
  unfold xC
  cases A with
  |none=>simp[Conv.bytesToString];rfl
  |some a=>rw[run_bytesToString w a 0 c [] (by simpa using run_loadCells_list (P:=P) w a [] (by simp))];rfl
 ·obtain ⟨g,o,rfl,_,hc⟩:=h.at_ hn
  have hl:((List.range n).map fun i=>UInt8.ofNat (b i).toNat).length=n:=by simp
  have e1:=run_convert_bytes_back (P:=P) w src dst e ⟨g,o,none⟩ c ((List.range n).map fun i=>UInt8.ofNat (b i).toNat) hs he hd (fun j hj=>by
   rw[hl] at hj;rw[yK,hc j hj];simp only[List.getElem_map,List.getElem_range];unfold I
   rw[UInt8.toNat_ofNat',Nat.mod_eq_of_lt (b j).isLt])
  rw[hl] at e1;rw[e1];unfold xC;rfl
theorem After.sl{W:World}{n c:Nat}{A:Option Addr}{b:Bf}(h:Sl W W.heap.size A n c b)(x:After W):Sl x.val x.val.heap.size A n c b:=(h.below x.below).more x.below.size
section
variable {P:Program} {t u:TypeId}
theorem run_full(ht:P.underlying t=some (.slice u))(hz:(P.info? u).map (·.size)=some 1)(A:Option Addr)(n c k:Nat)(hk:k<=c)(w:World):(Instr.slice t (.slice A n c) none (some (.int .i64 (k:Int))) (some (.int .i64 (k:Int)))).run P w=.ok (.slice A k k) w:=by
 have he:P.elem t=u:=by simp[Program.elem,ht]
 rw[run_slice_hm w t A n c (by rw[he];exact ht) .i64 .i64 k k (by omega) (by omega) (by omega),he,run_size1 hz,Result.andThen_ok]
 by_cases h0:k=0
 ·subst h0;simp[sliced]
 ·simp[sliced,Int.toNat_natCast,h0]
  cases A with
  |none=>rfl
  |some a=>simp[Addr.add]
end
theorem Sl.full{w:World}{B n c:Nat}{A:Option Addr}{b:Bf}(h:Sl w B A n c b):Sl w B A n n b:=⟨Nat.le_refl _,h.at_⟩
theorem Below.of_grown{w w':World}(h:w.grownBy w' none):Below w.heap.size w w':=(Below.refl _ _).grown h (Nat.le_refl _) (fun _ e=>by cases e)
theorem grown_self(w:World)(r:Option Nat):w.grownBy w r:=⟨rfl,rfl,rfl,Nat.le_refl _,fun _ _ _=>rfl⟩
theorem run_appF{P:Program}{w:World}{t ty u:TypeId}(ht:P.underlying t=some (.slice u))(hi:(P.info? u).map (fun i=>(i.zero,i.size,i.bytes))=some (some (.int .u8 0),1,1))
  {B n:Nat} {A:Option Addr} {b:Bf} (hd:Sl w B A n n b) (hdm:n<=maxLen) (hBw:B<=w.heap.size) (hd0:A=none->n=0) {B' m c:Nat} {A':Option Addr} {g:Bf} (hs:Sl w B' A' m c g) (hnm:n+m<=140737488355328):
  ∃ A'' c'' w',(Builtin.append_ #[t,t] ty #[.slice A n n,.slice A' m c]).run P w=.ok (.slice A'' (n+m) c'') w'/\Sl w' w'.heap.size A'' (n+m) c'' (catF n b g)/\c''<=maxLen/\w.grownBy w' none:=by
 obtain ⟨i,hq,z0,z1,z2⟩:=info_parts hi;have hla:∀ k (h:Bf),(ba k h).toList.length=k:=fun k h=>by rw[Array.length_toList,zI]
 rcases Nat.eq_zero_or_pos m with rfl|hm
 ·refine ⟨A,n,w,?_,?_,hdm,grown_self w none⟩
  ·have hsrc:Src P i.size t (.slice A' 0 c) 0 [] w:=by
    cases A' with
    |none=>exact Src.ofNil w ht c
    |some a=>exact Src.ofSlice w ht a 0 c [] (by simp) (fun j u hj=>by simp at hj) (fun u hu=>by cases hu)
   have:=run_append_nothing w t t ty u i ht hq A n n (Nat.le_refl _) (.slice A' 0 c) hsrc
   simpa using this
  ·exact (hd.more hBw).congr fun i hi=>by simp[catF,hi]
 ·obtain ⟨a,o,rfl,_,hc⟩:=hs.at_ hm
  have hnews:∀ j x,(ba m g).toList[j]? =some x->w.cell? ((⟨a,o,none⟩:Addr).add j)=some x:=fun j x hx=>by
   rw[Array.getElem?_toList] at hx
   by_cases hj:j<m
   ·rw[yA m g j hj] at hx
    rw[yK,hc j hj,hx]
   ·rw[yS m g j hj] at hx;cases hx
  have fin:∀ v' w',w'.ownsRow w.heap.size u 1 v' (n+m) ((ba n b).toList++(ba m g).toList)->∃ A'' c'',v'=.slice A'' (n+m) c''/\Sl w' w'.heap.size A'' (n+m) c'' (catF n b g)/\c''<=maxLen:=fun v' w' ho=>by
   rw[cat_ba] at ho;have ho':Own w' w.heap.size u v' (n+m) (catF n b g):=ho;obtain ⟨A2,c2,e,hsl,hcm,_⟩:=ho'.sl;exact ⟨A2,c2,e,hsl,hcm⟩
  cases A with
  |none=>
   obtain rfl:=hd0 rfl;obtain ⟨v',w',h1,h2,h3,_⟩:=run_appB (ty:=ty) ht hi (Own.nil w w.heap.size u b) hs (by omega) (Nat.le_refl _)
   obtain ⟨A2,c2,e,hsl,hcm,_⟩:=h2.sl;subst e;exact ⟨A2,c2,w',h1,hsl,hcm,h3⟩
  |some ad=>
   have holds:∀ j x,(ba n b).toList[j]? =some x->w.cell? (ad.add j)=some x:=fun j x hx=>by
    rw[Array.getElem?_toList] at hx
    by_cases hj:j<n
    ·rw[yA n b j hj] at hx
     obtain ⟨a',o',e,_,hc'⟩:=hd.at_ (by omega)
     obtain rfl:ad=⟨a',o',none⟩:=Option.some.inj e;rw[yK,hc' j hj,hx]
    ·rw[yS n b j hj] at hx;cases hx
   obtain ⟨v',w',h1,h2,h3⟩:=run_append_arg_grows (P:=P) w t ty u i (.int .u8 0) 1 1 ht hq z0 z1 z2 rfl (by decide) ad n n (ba n b).toList (by rw[hla];omega) holds ⟨a,o,none⟩ m c (ba m g).toList (by rw[hla];omega) hnews (by omega) (by unfold maxLen;omega) (by omega)
   obtain ⟨A2,c2,e,hsl,hcm⟩:=fin v' w' h2;subst e;exact ⟨A2,c2,w',h1,hsl,hcm,h3⟩
theorem wpl_appF{P:Program}{w:World}{ops:Array Oper}{rest:List Oper}{o:Oper}{a:Act}{Q:Exit->Act->World->Prop}(hgd:o.guard=none)(s x:Operand){t u:TypeId}(ho:o.op=.call { callee:=.builtin .append,args:=#[s,x],argTypes:=#[t,t] })
  (ht:P.underlying t=some (.slice u)) (hi:(P.info? u).map (fun i=>(i.zero,i.size,i.bytes))=some (some (.int .u8 0),1,1))
  {B n:Nat} {A:Option Addr} {b:Bf} (hd:Sl w B A n n b) (hdm:n<=maxLen) (hBw:B<=w.heap.size) (hd0:A=none->n=0) {B' m c:Nat} {A':Option Addr} {g:Bf} (hs:Sl w B' A' m c g) (hnm:n+m<=140737488355328)
  (hv:a.eval s=.slice A n n) (hx:a.eval x=.slice A' m c)
  (h:∀ A'' c'' w',Sl w' w'.heap.size A'' (n+m) c'' (catF n b g)->c''<=maxLen->w.grownBy w' none->wpList P ops Q rest (a.put o.dst (.slice A'' (n+m) c'')) w'):wpList P ops Q (o::rest) a w:=by
 obtain ⟨A2,c2,w',hr,h1,h2,h3⟩:=run_appF (ty:=o.type) ht hi hd hdm hBw hd0 hs hnm;exact Lib.wpList_append_run w hgd s x t t ho _ _ hv hx _ _ hr (h A2 c2 w' h1 h2 h3)
theorem Sl.nil_zero{w:World}{B n c:Nat}{A:Option Addr}{b:Bf}(h:Sl w B A n c b):A=none->n=0:=fun e=>by
 rcases Nat.eq_zero_or_pos n with h0|h0
 ·exact h0
 ·obtain ⟨_,_,e',_⟩:=h.at_ h0;rw[e] at e';cases e'
theorem Own.of_zero{w:World}{base:Nat}{u:TypeId}{v:Value}(h:w.ownsRow base u 1 v 0 [])(f:Bf):Own w base u v 0 f:=by
 unfold Own;rw[show (ba 0 f).toList=[] from List.eq_nil_of_length_eq_zero (by rw[Array.length_toList,zI])]
 exact h
theorem made_ba(n:Nat):madeCells (Value.int .u8 0).cells (n*1)=ba n (fun _=>0#8):=by
 apply Array.ext_getElem?;intro i
 by_cases hi:i<n
 ·rw[yA _ _ i hi]
  simp[madeCells,hi,Value.cells,Nat.mod_one,I]
 ·rw[yS _ _ i hi]
  simp[madeCells];omega
theorem run_grow{P:Program}(w:World)(t tn ty u:TypeId)(k kn:IntKind)(ht:P.underlying t=some (.slice u))(htn:P.underlying tn=some (.int kn))(hi:(P.info? u).map (fun i=>(i.zero,i.size,i.bytes))=some (some (.int .u8 0),1,1))
  (n:Nat) (h0:0<n) (hn:n<=140737488355328):
  ∃ cap w',(Builtin.append_ #[t,tn] ty #[.slice none 0 0,.int k n]).run P w=.ok (.slice (some ⟨w.heap.size,0,none⟩) n cap) w'/\(∀ f,Own w' w.heap.size u (.slice (some ⟨w.heap.size,0,none⟩) 0 cap) 0 f)/\w.grownBy w' none:=by
 obtain ⟨i,hq,z0,z1,z2⟩:=info_parts hi;have hr:=Lib.run_append_nil_zeros w t tn ty u i (.int .u8 0) k kn ht htn hq z0 n h0 (by omega) (by omega) (by rw[z2];omega)
 have hge:=grownCap_ge w n 0 u;have hcm:grownCap w n 0 u<=maxLen:=grownCap_le_maxLen w n 0 u (by unfold maxLen;omega)
 refine ⟨_,_,hr,fun f=>Own.of_zero ⟨rfl,.inr ⟨w.heap.size,_,_,rfl,Nat.le_refl _,heap_alloc_new w.drew _,Nat.zero_le _,hcm,?_,by simp⟩⟩ f,⟨rfl,rfl,rfl,by simp,fun k hk _=>heap_alloc_old w.drew _ (by exact hk)⟩⟩
 simp only[Array.size_append,size_zeroCells];simp[Value.cells];omega
theorem str_size(n:Nat)(b:Bf):(xC n b).size=n:=by
 unfold xC;show ((List.range n).map fun i=>UInt8.ofNat (b i).toNat).toArray.size=n
 simp
theorem str_congr{n:Nat}{b b':Bf}(h:∀ i,i<n->b i=b' i):xC n b=xC n b':=by
 unfold xC;congr 2;apply List.map_congr_left;intro i hi;rw[h i (List.mem_range.1 hi)]
theorem str_inj{n:Nat}{b b':Bf}(h:xC n b=xC n b'):∀ i,i<n->b i=b' i:=fun i hi=>by
 unfold xC at h
 have h1:((List.range n).map fun i=>UInt8.ofNat (b i).toNat)=((List.range n).map fun i=>UInt8.ofNat (b' i).toNat):=by
  have:=congrArg (fun s:ByteArray=>s.data.toList) h
  simpa using this
 have h2:=congrArg (fun l=>l[i]?) h1
 simp only[List.getElem?_map,List.getElem?_range hi,Option.map_some,Option.some.injEq] at h2;have h3:=congrArg UInt8.toNat h2;apply BitVec.eq_of_toNat_eq
 have e1:∀ x:BitVec 8,(UInt8.ofNat x.toNat).toNat=x.toNat:=fun x=>by
  rw[UInt8.toNat_ofNat'];exact Nat.mod_eq_of_lt x.isLt
 rw[e1,e1] at h3;exact h3
theorem Own.base{w:World}{b b':Nat}{u:TypeId}{v:Value}{n:Nat}{f:Bf}(h:Own w b u v n f)(hb:b'<=b):Own w b' u v n f:=by
 unfold Own at h ⊢;refine ⟨h.1,?_⟩;rcases h.2 with hn|⟨g,cap,cur,e,hbg,rest⟩
 ·exact .inl hn
 ·exact .inr ⟨g,cap,cur,e,by omega,rest⟩
theorem Own.setRow{w:World}{b:Nat}{u:TypeId}{v:Value}{n:Nat}{f:Bf}(h:Own w b u v n f)(C:Nat)(hC:v.ownBlock≠some C)(c:Array Value):Own (w.setRow C c) b u v n f:=by
 unfold Own at h ⊢;refine ⟨h.1,?_⟩;rcases h.2 with hn|⟨g,cap,cur,e,hbg,hg,rest⟩
 ·exact .inl hn
 ·refine .inr ⟨g,cap,cur,e,hbg,?_,rest⟩
  rw[setRow_other w C g c (fun e2=>hC (by rw[e,e2];rfl))]
  exact hg
theorem grown_row{w w':World}{r:Option Nat}(h:w.grownBy w' r){k:Nat}{c:Array Value}(hr:row w k=some c)(hk:r≠some k):row w' k=some c:=by
 rw[yZ (h.block k (zK hr) (fun e=>hk e.symm)),hr]
theorem Own.other{w w':World}{b:Nat}{u:TypeId}{v:Value}{n:Nat}{f:Bf}{r:Option Nat}(h:Own w b u v n f)(hg:w.grownBy w' r)(hne:∀ k,v.ownBlock=some k->r≠some k):Own w' b u v n f:=by
 unfold Own at h ⊢;refine ⟨h.1,?_⟩;rcases h.2 with hn|⟨g,cap,cur,rfl,hbg,hh,rest⟩
 ·exact .inl hn
 ·refine .inr ⟨g,cap,cur,rfl,hbg,?_,rest⟩
  rw[hg.block g (Array.getElem?_eq_some_iff.1 hh).1 (fun e=>hne g rfl e.symm)]
  exact hh
theorem Own.lt{w:World}{b:Nat}{u:TypeId}{v:Value}{n:Nat}{f:Bf}(h:Own w b u v n f){k:Nat}(hk:v.ownBlock=some k):b<=k/\k<w.heap.size:=World.ownsRow.lt h k hk
abbrev Part:=List Nat ⊕ (Nat ⊕ (Nat ⊕ Nat))
abbrev pS(f:Nat):Part:=.inr (.inl f)
abbrev pE(i:Nat):Part:=.inr (.inr (.inl i))
abbrev pU(f:Nat):Part:=.inr (.inr (.inr f))
abbrev Ent:=Nat×(Nat->Value)×Obj
structure Frm(hot:List Nat)(x w:World):Prop where
 size:x.heap.size<=w.heap.size
 keep:∀ k,k<x.heap.size->k ∉ hot->w.heap[k]? =x.heap[k]?
theorem Frm.of{hot:List Nat}{x w:World}(h:Below x.heap.size x w):Frm hot x w:=⟨h.size,fun k hk _=>h.block k hk⟩
section
variable {P:Program} {l:List Oper} {Q:Exit->Act->World->Prop}
def dstOf(l:List Oper)(f:Nat):Option Tmp:=match l[f]? with|some o=>o.dst|none=>none
def FlAt(P:Program)(l:List Oper)(a:Act)(e:Ent):Prop:=
 ∃ o,l[e.1]? =some o/\Region.wanted o (yielded l.toArray a.tmps)=true/\∀ w,(execOp a.eval o).run P w=.ok (.value (e.2.1 w.heap.size)) (w.alloc e.2.2)
def StOk(P:Program)(l:List Oper)(a:Act)(st:List Ent):Prop:=∀ e∈st,FlAt P l a e
def wpM(P:Program)(l:List Oper)(Q:Exit->Act->World->Prop)(B:Nat)(Z:Nat):List Part->(World->Prop)->World->List Nat->List Ent->Act->Prop
 |[],C,W,hot,st,a=>∀ x:After W,Q .normal a x.val
 | .inl qs::r,C,W,hot,st,a=>wpQuiet P l.toArray C (fun a'=>wpM P l Q B Z r C W hot st a') (pk l qs) a
 | .inr (.inl f)::r,C,W,hot,st,a=>∃ mk z,FlAt P l a (f,mk,z)/\wpM P l Q B Z r C W hot ((f,mk,z)::st) a
 | .inr (.inr (.inl i))::r,C,W,hot,st,a=>∀ x:After W,C x.val->wpList P l.toArray (atEnd (fun a'' w''=>∃ (C':World->Prop) (hot':List Nat),Frm hot x.val w''/\(∀ k∈hot',(k∈hot\/x.val.heap.size<=k)/\k<w''.heap.size)/\C' w''/\(i=Z\/∀ y,C' y->C y)/\(∀ y z,C' y->C' (y.alloc z))/\wpM P l Q B Z r C' w'' hot' st a'') Q) (pk l [i]) a x.val
 | .inr (.inr (.inr f))::r,C,W,hot,st,a=>∃ mk z,(f,mk,z)∈st/\∀ x:After W,C x.val->∀ p,B<=p->p<x.val.heap.size->p ∉ hot->x.val.heap[p]? =some z->wpM P l Q B Z r C x.val (p::hot) (st.filter (·.1 !=f)) (a.put (dstOf l f) (mk p))
def apB(l:List Oper)(f i:Nat):Bool:=match l[f]?,l[i]? with|some x,some y=>x.apart l.toArray y|_,_=>false
def subs:List Nat->List (List Nat)
 |[]=>[[]]
 |f::r=>subs r++(subs r).map (f::·)
theorem subs_mem(d:Nat->Bool):∀ p:List Nat,p.filter d∈subs p:=by
 intro p
 induction p with
 |nil=>simp[subs]
 |cons f r ih=>
  simp only[subs,List.mem_append,List.mem_map]
  by_cases h:d f=true
  ·rw[List.filter_cons_of_pos h];exact .inr ⟨_,ih,rfl⟩
  ·rw[List.filter_cons_of_neg h];exact .inl ih
def closedB(ops:Array Oper)(L:Array Bool):Bool:=(List.range ops.size).all fun j=>match ops[j]? with|some o=>!L.getD j false||o.after.all fun e=>!Region.binds .any e||L.getD e.on false|none=>true
theorem closed_of{ops:Array Oper}{L:Array Bool}(h:DC ops L):closedB ops L=true:=by
 unfold closedB;rw[List.all_eq_true];intro j _
 split
 ·rename_i o ho
  cases hl:L.getD j false with
  |false=>rfl
  |true=>
   simp only[Bool.not_true,Bool.false_or];rw[Array.all_eq_true_iff_forall_mem];intro e he
   cases hb:Region.binds .any e with
   |false=>rfl
   |true=>simpa using h.closed j o ho hl e he hb
 ·rfl
def zM(p:Nat->Bool):List Part->Bool
 |[]=>true
 | .inl qs::r=>qs.all p&&zM p r
 | .inr (.inl f)::r=>p f&&zM p r
 | .inr (.inr _)::r=>zM p r
theorem zM_all:∀ ps:List Part,zM (fun _=>true) ps=true
 |[]=>rfl
 | .inl qs::r=>by simp only[zM,Bool.and_eq_true];exact ⟨List.all_eq_true.2 fun _ _=>rfl,zM_all r⟩
 | .inr (.inl f)::r=>by simp only[zM,Bool.true_and];exact zM_all r
 | .inr (.inr (.inl _))::r=>zM_all r
 | .inr (.inr (.inr _))::r=>zM_all r
theorem getD_ft{L:Array Bool}{i:Nat}(h:L.getD i true=false):L.getD i false=false:=by
 simp only[Array.getD_eq_getD_getElem?] at h ⊢
 cases hq:L[i]? with
 |none=>rfl
 |some x=>rw[hq] at h;exact h
def cntP:List Part->Nat
 |[]=>0
 | .inl qs::r=>qs.length+cntP r
 | .inr (.inl _)::r=>cntP r
 | .inr (.inr _)::r=>cntP r+1
def chM(l:List Oper):List Part->Array Bool->List Nat->Bool
 |[],L,p=>p.isEmpty&&(Region.ready .any l.toArray L).isEmpty
 | .inl qs::r,L,p=>(subs p).all (fun S=>!closedB l.toArray (zU L S)||qsB l.toArray qs (zU L S))&&qs.all (fun i=>p.all fun f=>apB l f i)&&chM l r (zU L qs) p
 | .inr (.inl f)::r,L,p=>!p.contains f&&p.all (fun g=>apB l g f)&&chM l r L (f::p)
 | .inr (.inr (.inl i))::r,L,p=>p.all (fun f=>apB l f i)&&(subs p).all (fun S=>!closedB l.toArray (zU L S)||(Region.ready .any l.toArray (zU L S)).contains i&&(Region.ready .any l.toArray (zU L S)).all fun j=>j==i||p.contains j)&&chM l r (L.setIfInBounds i true) p
 | .inr (.inr (.inr f))::r,L,p=>p.contains f&&(p.filter (· !=f)).length+1==p.length&&(subs p).all (fun S=>S.contains f||!closedB l.toArray (zU L S)||(Region.ready .any l.toArray (zU L S)).contains f&&(Region.ready .any l.toArray (zU L S)).all fun j=>p.contains j)&&chM l r (L.setIfInBounds f true) (p.filter (· !=f))
theorem ch_len:∀ (ps:List Part) (L:Array Bool) (p:List Nat),chM l ps L p=true->p.length<=cntP ps:=by
 intro ps
 induction ps with
 |nil=>intro L p h;simp only[chM,Bool.and_eq_true,List.isEmpty_iff] at h;rw[h.1];simp
 |cons x r ih=>
  intro L p h;rcases x with qs|f|i|f<;>simp only[chM,cntP,Bool.and_eq_true,beq_iff_eq] at h ⊢
  ·have:=ih _ _ h.2;omega
  ·have:=ih _ _ h.2;simp at this;omega
  ·have:=ih _ _ h.2;omega
  ·have:=ih _ _ h.2;omega
def puts(l:List Oper)(d:Nat->Bool)(pt:Nat->Nat):List Ent->Act->Act
 |[],a=>a
 |e::r,a=>puts l d pt r (if d e.1 then a.put (dstOf l e.1) (e.2.1 (pt e.1)) else a)
def setD(L:Array Bool)(d:Nat->Bool)(p:List Nat):Array Bool:=zU L (p.filter d)
theorem set_idem(L:Array Bool)(i:Nat):(L.setIfInBounds i true).setIfInBounds i true=L.setIfInBounds i true:=by
 apply Array.ext_getElem?;intro k;simp only[Array.getElem?_setIfInBounds,Array.size_setIfInBounds]
 by_cases h:i=k
 ·simp[h]
 ·simp[h]
theorem setAll_set(L:Array Bool)(i:Nat)(S:List Nat):zU (L.setIfInBounds i true) S=(zU L S).setIfInBounds i true:=setAll_comm i S L
theorem setAll_two(S:List Nat):∀ (T:List Nat) (L:Array Bool),zU (zU L S) T=zU (zU L T) S:=by
 intro T
 induction T with
 |nil=>intro L;rfl
 |cons i r ih=>
  intro L;simp only[zU];rw[<-setAll_set,ih]
theorem setD_done{d:Nat->Bool}{g:Nat}:∀ (p:List Nat) (L:Array Bool),g∈p->(setD L d p).setIfInBounds g true=setD L (done d g) p:=by
 intro p
 induction p with
 |nil=>intro L h;cases h
 |cons f r ih=>
  intro L h;unfold setD at ih ⊢
  by_cases hf:f=g
  ·subst hf
   by_cases hd:d f=true
   ·by_cases hr:f∈r
    ·rw[List.filter_cons_of_pos hd,List.filter_cons_of_pos (by simp[done])]
     simp only[zU];exact ih _ hr
    ·rw[List.filter_cons_of_pos hd,List.filter_cons_of_pos (by simp[done])]
     simp only[zU];rw[<-setAll_set,set_idem];congr 1;exact List.filter_congr fun k hk=>by rw[yC d (fun e:k=f=>hr (e ▸ hk))]
   ·rw[List.filter_cons_of_neg hd,List.filter_cons_of_pos (by simp[done])]
    simp only[zU]
    by_cases hr:f∈r
    ·rw[<-ih _ hr,setAll_set,set_idem]
    ·rw[<-setAll_set]
     congr 1;exact List.filter_congr fun k hk=>by rw[yC d (fun e:k=f=>hr (e ▸ hk))]
  ·have hr:g∈r:=by rcases List.mem_cons.1 h with e|e;exact absurd e.symm hf;exact e
   by_cases hd:d f=true
   ·rw[List.filter_cons_of_pos hd,List.filter_cons_of_pos (by rw[yC d hf];exact hd)]
    simp only[zU];exact ih _ hr
   ·rw[List.filter_cons_of_neg hd,List.filter_cons_of_neg (by rw[yC d hf];exact hd)]
    exact ih _ hr
theorem setD_use{d:Nat->Bool}{g:Nat}(hd:d g=true):∀ (p:List Nat) (L:Array Bool),g∈p->setD L d p=setD (L.setIfInBounds g true) d (p.filter (· !=g)):=by
 intro p
 induction p with
 |nil=>intro L h;cases h
 |cons f r ih=>
  intro L h;unfold setD at ih ⊢
  by_cases hf:f=g
  ·subst hf
   rw[List.filter_cons_of_pos hd,List.filter_cons_of_neg (by simp)]
   simp only[zU]
   by_cases hr:f∈r
   ·rw[ih _ hr,set_idem]
   ·congr 1
    rw[List.filter_filter]
    exact List.filter_congr fun k hk=>by
     have:(k !=f)=true:=by simp;exact fun e=>hr (e ▸ hk)
     rw[this,Bool.and_true]
  ·have hr:g∈r:=by rcases List.mem_cons.1 h with e|e;exact absurd e.symm hf;exact e
   rw[List.filter_cons_of_pos (a:=f) (p:=(· !=g)) (by simpa using hf)]
   by_cases hdf:d f=true
   ·rw[List.filter_cons_of_pos hdf,List.filter_cons_of_pos hdf]
    simp only[zU];rw[ih _ hr]
    by_cases e:f=g
    ·exact absurd e hf
    ·rw[Array.setIfInBounds_comm _ _ e]
   ·rw[List.filter_cons_of_neg hdf,List.filter_cons_of_neg hdf]
    exact ih _ hr
theorem dst_of{f:Nat}{o:Oper}(h:l[f]? =some o):dstOf l f=o.dst:=by unfold dstOf;rw[h]
theorem apB_spec{f i:Nat}{oi:Oper}(h:apB l f i=true)(hi:l[i]? =some oi):∃ o,l[f]? =some o/\o.apart l.toArray oi=true:=by
 unfold apB at h;rw[hi] at h
 cases hf:l[f]? with
 |none=>rw[hf] at h;cases h
 |some o=>rw[hf] at h;exact ⟨o,rfl,h⟩
theorem puts_put{d:Nat->Bool}{pt:Nat->Nat}{i:Nat}{oi:Oper}(hi:l[i]? =some oi)(v:Value):∀ (st:List Ent) (a:Act),(∀ e∈st,apB l e.1 i=true)->puts l d pt st (a.put oi.dst v)=(puts l d pt st a).put oi.dst v:=by
 intro st
 induction st with
 |nil=>intro a _;rfl
 |cons e r ih=>
  intro a h;simp only[puts];rw[<-ih _ (fun x hx=>h x (by simp[hx]))]
  by_cases hd:d e.1=true
  ·obtain ⟨o,ho,hap⟩:=apB_spec (h e (by simp)) hi
   obtain ⟨h1,h2,h3⟩:=Oper.apart_spec hap;rw[if_pos hd,if_pos hd,dst_of ho,Act.put_comm _ _ v h2]
  ·rw[if_neg hd,if_neg hd]
theorem puts_congr{d d':Nat->Bool}{pt pt':Nat->Nat}:∀ (st:List Ent) (a:Act),(∀ e∈st,d e.1=d' e.1/\(d e.1=true->pt e.1=pt' e.1))->puts l d pt st a=puts l d' pt' st a:=by
 intro st
 induction st with
 |nil=>intro a _;rfl
 |cons e r ih=>
  intro a h;simp only[puts];rw[ih _ (fun x hx=>h x (by simp[hx]))]
  obtain ⟨h1,h2⟩:=h e (by simp)
  by_cases hd:d e.1=true
  ·rw[if_pos hd,if_pos (h1 ▸ hd),h2 hd]
  ·rw[if_neg hd,if_neg (h1 ▸ hd)]
abbrev Prs(l:List Oper)(p:List Nat):Prop:=p.Pairwise (fun x y=>x≠y/\apB l y x=true)
theorem puts_add{d:Nat->Bool}{pt:Nat->Nat}{g:Ent}{og:Oper}(ho:l[g.1]? =some og)(hd:d g.1=false)(p:Nat):∀ (st:List Ent) (a:Act),Prs l (st.map (·.1))->g∈st->
  puts l (done d g.1) (fun j=>if j=g.1 then p else pt j) st a=(puts l d pt st a).put (dstOf l g.1) (g.2.1 p):=by
 intro st
 induction st with
 |nil=>intro a _ h;cases h
 |cons e r ih=>
  intro a hp h;simp only[List.map_cons,Prs,List.pairwise_cons] at hp;obtain ⟨hp1,hp2⟩:=hp;rcases List.mem_cons.1 h with rfl|h
  ·simp only[puts]
   rw[if_pos (done_same d g.1),hd,if_neg Bool.false_ne_true,if_pos trivial,dst_of ho];rw[<-puts_put ho (g.2.1 p) r a (fun x hx=>(hp1 x.1 (List.mem_map.2 ⟨x,hx,rfl⟩)).2)]
   exact puts_congr r _ fun x hx=>by
    have hne:x.1≠g.1:=fun e=>(hp1 x.1 (List.mem_map.2 ⟨x,hx,rfl⟩)).1 e.symm
    exact ⟨by rw[yC d hne],fun _=>by rw[if_neg hne]⟩
  ·have hne:e.1≠g.1:=(hp1 g.1 (List.mem_map.2 ⟨g,h,rfl⟩)).1
   simp only[puts];rw[yC d hne,if_neg hne];exact ih _ hp2 h
theorem puts_use{d:Nat->Bool}{pt:Nat->Nat}{g:Ent}{og:Oper}(ho:l[g.1]? =some og)(hd:d g.1=true):∀ (st:List Ent) (a:Act),Prs l (st.map (·.1))->g∈st->
  puts l d pt st a=puts l d pt (st.filter (·.1 !=g.1)) (a.put (dstOf l g.1) (g.2.1 (pt g.1))):=by
 intro st
 induction st with
 |nil=>intro a _ h;cases h
 |cons e r ih=>
  intro a hp h;simp only[List.map_cons,Prs,List.pairwise_cons] at hp;obtain ⟨hp1,hp2⟩:=hp;rcases List.mem_cons.1 h with rfl|h
  ·rw[List.filter_cons_of_neg (by simp)]
   simp only[puts];rw[if_pos hd];congr 1;rw[List.filter_eq_self.2];intro x hx
   simpa using fun e=>(hp1 x.1 (List.mem_map.2 ⟨x,hx,rfl⟩)).1 e.symm
  ·obtain ⟨hne,hap⟩:=hp1 g.1 (List.mem_map.2 ⟨g,h,rfl⟩)
   rw[List.filter_cons_of_pos (by simpa using hne)]
   simp only[puts];rw[ih _ hp2 h];congr 1
   by_cases hde:d e.1=true
   ·rw[if_pos hde,if_pos hde]
    unfold apB at hap
    cases he:l[e.1]? with
    |none=>rw[he,ho] at hap;cases hap
    |some oe=>
     rw[he,ho] at hap;obtain ⟨h1,h2,h3⟩:=Oper.apart_spec hap;rw[dst_of ho,dst_of he,Act.put_comm _ _ _ h2]
   ·rw[if_neg hde,if_neg hde]
theorem puts_lift{d:Nat->Bool}{pt:Nat->Nat}{j:Nat}{oj:Oper}(hsel:Region.noSelect l.toArray=true)(hj:l[j]? =some oj)(hQ:∀ c a d v w,Q (.panic c) a w->Q (.panic c) (a.put (some d) v) w){w:World}:
  ∀ (st:List Ent) (a:Act) (K:Act->World->Prop),(∀ e∈st,apB l e.1 j=true)->wpOp P l.toArray Q j K a w->wpOp P l.toArray Q j (fun a' w'=>∃ b,a'=puts l d pt st b/\K b w') (puts l d pt st a) w:=by
 intro st
 induction st with
 |nil=>intro a K _ h;exact wpOp_mono (fun a' w' hk=>⟨a',rfl,hk⟩) h
 |cons e r ih=>
  intro a K hap h;simp only[puts]
  by_cases hd:d e.1=true
  ·rw[if_pos hd]
   obtain ⟨o,ho,h1⟩:=apB_spec (hap e (by simp)) hj
   have hl:=wpOp_lift (oi:=o) (v:=e.2.1 (pt e.1)) (show l.toArray[j]? =some oj by simpa using hj) h1 (fun cs b=>Region.noSelect_spec hsel j oj cs b (by simpa using hj)) hQ h
   rw[dst_of ho];refine wpOp_mono (fun a' w' hk=>?_) (ih _ _ (fun x hx=>hap x (by simp[hx])) hl)
   obtain ⟨b',rfl,b,rfl,hk⟩:=hk;exact ⟨b,by rw[if_pos hd],hk⟩
  ·rw[if_neg hd]
   refine wpOp_mono (fun a' w' hk=>?_) (ih _ _ (fun x hx=>hap x (by simp[hx])) h)
   obtain ⟨b,rfl,hk⟩:=hk;exact ⟨b,by rw[if_neg hd],hk⟩
theorem puts_quiet{d:Nat->Bool}{pt:Nat->Nat}{C:World->Prop}(hsel:Region.noSelect l.toArray=true)(qs:List Nat)(hpl:∀ i∈qs,∀ o,l[i]? =some o->plainB o=true):
  ∀ (st:List Ent) (a:Act) (K:Act->Prop),(∀ e∈st,∀ i∈qs,apB l e.1 i=true)->wpQuiet P l.toArray C K (pk l qs) a->wpQuiet P l.toArray C (fun a'=>∃ b,a'=puts l d pt st b/\K b) (pk l qs) (puts l d pt st a):=by
 intro st
 induction st with
 |nil=>intro a K _ h;exact wpQuiet_mono (fun a' hk=>⟨a',rfl,hk⟩) _ _ h
 |cons e r ih=>
  intro a K hap h;simp only[puts]
  by_cases hd:d e.1=true
  ·rw[if_pos hd]
   cases ho:l[e.1]? with
   |none=>
    have e0:dstOf l e.1=none:=by unfold dstOf;rw[ho]
    rw[e0];refine wpQuiet_mono (fun a' hk=>?_) _ _ (ih a K (fun x hx=>hap x (by simp[hx])) h)
    obtain ⟨b,rfl,hk⟩:=hk;exact ⟨b,by rw[if_pos hd];rfl,hk⟩
   |some o=>
    have hl:=wpQuiet_lift (oi:=o) (v:=e.2.1 (pt e.1)) hsel qs a (fun i hi oi hoi=>⟨by
     obtain ⟨o',ho',h1⟩:=apB_spec (hap e (by simp) i hi) hoi
     rw[ho] at ho';obtain rfl:=Option.some.inj ho'
     exact h1,hpl i hi oi hoi⟩) h
    rw[dst_of ho];refine wpQuiet_mono (fun a' hk=>?_) _ _ (ih _ _ (fun x hx=>hap x (by simp[hx])) hl)
    obtain ⟨b',rfl,b,rfl,hk⟩:=hk;exact ⟨b,by rw[if_pos hd],hk⟩
  ·rw[if_neg hd]
   refine wpQuiet_mono (fun a' hk=>?_) _ _ (ih _ _ (fun x hx=>hap x (by simp[hx])) h)
   obtain ⟨b,rfl,hk⟩:=hk;exact ⟨b,by rw[if_neg hd],hk⟩
theorem FlAt.put(hsel:Region.noSelect l.toArray=true){a:Act}{e:Ent}{i:Nat}{oi:Oper}(h:FlAt P l a e)(hi:l[i]? =some oi)(hap:apB l e.1 i=true)(v:Value):FlAt P l (a.put oi.dst v) e:=by
 obtain ⟨o,ho,hw,hr⟩:=h;obtain ⟨o',ho',h1⟩:=apB_spec hap hi;rw[ho] at ho';obtain rfl:=Option.some.inj ho';obtain ⟨_,_,h3⟩:=Oper.apart_spec h1;refine ⟨o,ho,by rw[wanted_put o a oi.dst v h3];exact hw,fun w=>?_⟩
 rw[execOp_put o (fun cs b=>Region.noSelect_spec hsel e.1 o cs b (by simpa using ho)) a oi.dst v h3]
 exact hr w
theorem StOk.put(hsel:Region.noSelect l.toArray=true){a:Act}{st:List Ent}{i:Nat}{oi:Oper}(h:StOk P l a st)(hi:l[i]? =some oi)(hap:∀ e∈st,apB l e.1 i=true)(v:Value):StOk P l (a.put oi.dst v) st:=
 fun e he=>(h e he).put hsel hi (hap e he) v
theorem wpQuiet_keep(hsel:Region.noSelect l.toArray=true){C:World->Prop}{K:Act->Prop}{st:List Ent}:∀ (qs:List Nat) (a:Act),(∀ e∈st,∀ i∈qs,apB l e.1 i=true)->StOk P l a st->wpQuiet P l.toArray C K (pk l qs) a->wpQuiet P l.toArray C (fun a'=>StOk P l a' st/\K a') (pk l qs) a:=by
 intro qs
 induction qs with
 |nil=>intro a _ hs h;exact ⟨hs,h⟩
 |cons k r ih=>
  intro a hap hs h
  cases ho:l[k]? with
  |none=>
   simp only[pk,ho] at h ⊢;exact ih _ (fun e he i hi=>hap e he i (by simp[hi])) hs h
  |some o=>
   simp only[pk,ho] at h ⊢;have hk:∀ v,StOk P l (a.put o.dst v) st:=fun v=>hs.put hsel ho (fun e he=>hap e he k (by simp)) v
   unfold wpQuiet at h ⊢
   by_cases hw:Region.wanted o (yielded l.toArray a.tmps)=true
   ·rw[if_pos hw] at h ⊢
    obtain ⟨u,hu,hn⟩:=h;exact ⟨u,hu,ih _ (fun e he i hi=>hap e he i (by simp[hi])) (hk u) hn⟩
   ·rw[if_neg hw] at h ⊢
    exact ih _ (fun e he i hi=>hap e he i (by simp[hi])) (hk undef) h
theorem wpOp_keep(hsel:Region.noSelect l.toArray=true){j:Nat}{oj:Oper}(hj:l[j]? =some oj){K:Act->World->Prop}{a:Act}{w:World}{st:List Ent}(hap:∀ e∈st,apB l e.1 j=true)(hs:StOk P l a st)
  (h:wpOp P l.toArray Q j K a w):wpOp P l.toArray Q j (fun a' w'=>StOk P l a' st/\K a' w') a w:=by
 have stay:∀ u,StOk P l (a.put oj.dst u) st:=fun u=>hs.put hsel hj hap u
 unfold wpOp at h ⊢;simp only[show l.toArray[j]? =some oj by simpa using hj] at h ⊢
 by_cases hw:Region.wanted oj (yielded l.toArray a.tmps)=true
 ·rw[if_pos hw] at h ⊢
  rcases h with h|⟨hasks,hlets⟩
  ·refine .inl ?_
   unfold Oper.wp at h ⊢
   cases hr:(execOp a.eval oj).run P w with
   |halt x w'=>
    rw[hr] at h;cases x<;>simp only[Oper.upon] at h ⊢
    exact h
   |ok n w'=>
    rw[hr] at h;cases n<;>simp only[Oper.upon] at h ⊢
    case value u=>exact ⟨stay u,h⟩
    case skip=>exact ⟨stay _,h⟩
    case defer dd=>exact ⟨fun e he=>by
     obtain ⟨o,ho,h1,h2⟩:=(hs.put hsel hj hap undef) e he
     cases hdd:oj.dst with
     |none=>rw[hdd] at h1 h2;exact ⟨o,ho,h1,h2⟩
     |some dd=>rw[hdd] at h1 h2;exact ⟨o,ho,h1,h2⟩,h⟩
    case row r xs=>exact Rows.mono h fun u _ he=>⟨stay u,he⟩
    case enter f xs=>
     refine Calls.mono h fun e w'' he=>?_
     cases e with
     |returned u=>exact ⟨stay u,he⟩
     |panicked c=>exact he
     |outgrown=>exact he
  ·exact .inr ⟨hasks,hlets⟩
 ·rw[if_neg hw] at h ⊢
  exact ⟨stay _,h⟩
structure PtOk(x:World)(B:Nat)(hot:List Nat)(st:List Ent)(d:Nat->Bool)(pt:Nat->Nat):Prop where
 at_:∀ e∈st,d e.1=true->B<=pt e.1/\pt e.1<x.heap.size/\pt e.1 ∉ hot/\x.heap[pt e.1]? =some e.2.2
 inj:∀ e∈st,∀ e'∈st,d e.1=true->d e'.1=true->e.1≠e'.1->pt e.1≠pt e'.1
theorem PtOk.frame{x w:World}{B:Nat}{hot hot':List Nat}{st:List Ent}{d:Nat->Bool}{pt:Nat->Nat}(h:PtOk x B hot st d pt)(hf:Frm hot x w)(hh:∀ k∈hot',(k∈hot\/x.heap.size<=k)/\k<w.heap.size):PtOk w B hot' st d pt:=
 ⟨fun e he hd=>by
  obtain ⟨h1,h2,h3,h4⟩:=h.at_ e he hd;refine ⟨h1,Nat.lt_of_lt_of_le h2 hf.size,fun hk=>?_,by rw[hf.keep _ h2 h3];exact h4⟩
  rcases (hh _ hk).1 with h5|h5
  ·exact h3 h5
  ·omega,h.inj⟩
theorem PtOk.more{x:World}{B:Nat}{hot:List Nat}{st:List Ent}{d:Nat->Bool}{pt:Nat->Nat}(h:PtOk x B hot st d pt)(hot':∀ k∈hot,k<x.heap.size){g:Ent}(hg:g∈st)(hd:d g.1=false)(hn:Prs l (st.map (·.1)))(hB:B<=x.heap.size):
  PtOk (x.alloc g.2.2) B hot st (done d g.1) (fun j=>if j=g.1 then x.heap.size else pt j):=by
 have uniq:∀ e∈st,e.1=g.1->e=g:=by
  have key:∀ (st:List Ent),Prs l (st.map (·.1))->∀ e∈st,∀ g∈st,e.1=g.1->e=g:=by
   intro st
   induction st with
   |nil=>intro _ e he;cases he
   |cons x r ih=>
    intro hp e he g hg heq;simp only[List.map_cons,Prs,List.pairwise_cons] at hp;rcases List.mem_cons.1 he with h1|h1<;>rcases List.mem_cons.1 hg with h2|h2
    ·rw[h1,h2]
    ·exact absurd (h1 ▸ heq) (hp.1 g.1 (List.mem_map.2 ⟨g,h2,rfl⟩)).1
    ·exact absurd (h2 ▸ heq.symm) (hp.1 e.1 (List.mem_map.2 ⟨e,h1,rfl⟩)).1
    ·exact ih hp.2 e h1 g h2 heq
  exact fun e he heq=>key st hn e he g hg heq
 refine ⟨fun e he hde=>?_,fun e he e' he' hde hde' hne=>?_⟩
 ·by_cases h1:e.1=g.1
  ·obtain rfl:=uniq e he h1
   rw[if_pos rfl];refine ⟨hB,by simp,fun hk=>Nat.lt_irrefl _ (hot' _ hk),heap_alloc_new x _⟩
  ·rw[yC d h1] at hde
   obtain ⟨a1,a2,a3,a4⟩:=h.at_ e he hde;rw[if_neg h1];exact ⟨a1,by simp;omega,a3,by rw[((Below.refl x.heap.size x).alloc (Nat.le_refl _) g.2.2).block _ a2];exact a4⟩
 ·by_cases h1:e.1=g.1
  ·have h2:e'.1≠g.1:=fun h=>hne (h1.trans h.symm)
   rw[yC d h2] at hde';have:=(h.at_ e' he' hde').2.1;rw[if_pos h1,if_neg h2];omega
  ·rw[yC d h1] at hde
   have a2:=(h.at_ e he hde).2.1
   by_cases h2:e'.1=g.1
   ·rw[if_neg h1,if_pos h2]
    omega
   ·rw[yC d h2] at hde'
    rw[if_neg h1,if_neg h2];exact h.inj e he e' he' hde hde' hne
theorem PtOk.use{x:World}{B:Nat}{hot:List Nat}{st:List Ent}{d:Nat->Bool}{pt:Nat->Nat}(h:PtOk x B hot st d pt){g:Ent}(hg:g∈st){p:Nat}(hp:d g.1=true->p=pt g.1)(hp':d g.1=false->x.heap.size<=p):
  PtOk x B (p::hot) (st.filter (·.1 !=g.1)) d pt:=
 ⟨fun e he hd=>by
  obtain ⟨he,hne⟩:=List.mem_filter.1 he;have hne:e.1≠g.1:=by simpa using hne
  obtain ⟨h1,h2,h3,h4⟩:=h.at_ e he hd;refine ⟨h1,h2,fun hk=>?_,h4⟩
  rcases List.mem_cons.1 hk with hk|hk
  ·cases hdg:d g.1 with
   |true=>exact h.inj e he g hg hd hdg hne (hk.trans (hp hdg))
   |false=>have:=hp' hdg;omega
  ·exact h3 hk,fun e he e' he'=>h.inj e (List.mem_filter.1 he).1 e' (List.mem_filter.1 he').1⟩
theorem StOk.run(hsel:Region.noSelect l.toArray=true){a:Act}{st:List Ent}(h:StOk P l a st)(hp:Prs l (st.map (·.1))){d:Nat->Bool}{pt:Nat->Nat}{g:Ent}(hg:g∈st)(hd:d g.1=false):FlAt P l (puts l d pt st a) g:=by
 have key:∀ (r:List Ent) (a:Act),(∀ e∈r,e.1≠g.1->apB l e.1 g.1=true\/apB l g.1 e.1=true)->FlAt P l a g->FlAt P l (puts l d pt r a) g:=by
  intro r
  induction r with
  |nil=>intro a _ h;exact h
  |cons e r ih=>
   intro a hap h;simp only[puts];refine ih _ (fun x hx=>hap x (by simp[hx])) ?_
   by_cases hde:d e.1=true
   ·rw[if_pos hde]
    have hne:e.1≠g.1:=fun heq=>by rw[heq,hd] at hde;cases hde
    obtain ⟨o,ho,hw,hr⟩:=h
    cases hoe:l[e.1]? with
    |none=>
     rw[show dstOf l e.1=none by unfold dstOf;rw[hoe]]
     exact ⟨o,ho,hw,hr⟩
    |some oe=>
     rw[dst_of hoe]
     have h1:∀ dd,oe.dst=some dd->dd ∉ o.looksAt l.toArray:=by
      rcases hap e (by simp) hne with h1|h1
      ·obtain ⟨o',ho',h1⟩:=apB_spec h1 ho
       rw[hoe] at ho';obtain rfl:=Option.some.inj ho';exact (Oper.apart_spec h1).1
      ·obtain ⟨o',ho',h1⟩:=apB_spec h1 hoe
       rw[ho] at ho';obtain rfl:=Option.some.inj ho';exact (Oper.apart_spec h1).2.2
     refine ⟨o,ho,by rw[wanted_put o a oe.dst _ h1];exact hw,fun w=>?_⟩
     rw[execOp_put o (fun cs b=>Region.noSelect_spec hsel g.1 o cs b (by simpa using ho)) a oe.dst _ h1]
     exact hr w
   ·rw[if_neg hde];exact h
 refine key st a (fun e he hne=>?_) (h g hg)
 have pk:∀ (st:List Ent),Prs l (st.map (·.1))->∀ e∈st,∀ g∈st,e.1≠g.1->apB l e.1 g.1=true\/apB l g.1 e.1=true:=by
  intro st
  induction st with
  |nil=>intro _ e he;cases he
  |cons x r ih=>
   intro hp e he g hg hne;simp only[List.map_cons,Prs,List.pairwise_cons] at hp;rcases List.mem_cons.1 he with h1|h1<;>rcases List.mem_cons.1 hg with h2|h2
   ·exact absurd (by rw[h1,h2]) hne
   ·rw[h1];exact .inr (hp.1 g.1 (List.mem_map.2 ⟨g,h2,rfl⟩)).2
   ·rw[h2];exact .inl (hp.1 e.1 (List.mem_map.2 ⟨e,h1,rfl⟩)).2
   ·exact ih hp.2 e h1 g h2 hne
 exact pk st hp e he g hg hne
theorem FlAt.wp{a:Act}{g:Ent}(h:FlAt P l a g){w:World}{K:Act->World->Prop}(hK:K (a.put (dstOf l g.1) (g.2.1 w.heap.size)) (w.alloc g.2.2)):wpOp P l.toArray Q g.1 K a w:=by
 obtain ⟨o,ho,hw,hr⟩:=h;unfold wpOp;simp only[show l.toArray[g.1]? =some o by simpa using ho]
 rw[if_pos hw];refine .inl ?_;unfold Oper.wp;rw[hr w];rw[dst_of ho] at hK;exact hK
def left(d:Nat->Bool)(p:List Nat):Nat:=(p.filter (fun j=>!d j)).length
theorem left_done{d:Nat->Bool}{g:Nat}(hd:d g=false):∀ (p:List Nat),g∈p->left (done d g) p<left d p:=by
 have le:∀ p:List Nat,left (done d g) p<=left d p:=by
  intro p
  induction p with
  |nil=>exact Nat.le_refl _
  |cons f r ih=>
   unfold left at ih ⊢
   by_cases hf:f=g
   ·subst hf
    rw[List.filter_cons_of_neg (by simp[done]),List.filter_cons_of_pos (by simp[hd])]
    simp only[List.length_cons];omega
   ·cases hdf:d f with
    |true=>rw[List.filter_cons_of_neg (by rw[yC d hf,hdf];simp),List.filter_cons_of_neg (by simp[hdf])];exact ih
    |false=>rw[List.filter_cons_of_pos (by rw[yC d hf,hdf];rfl),List.filter_cons_of_pos (by simp[hdf])];simpa using ih
 intro p
 induction p with
 |nil=>intro h;cases h
 |cons f r ih=>
  intro h
  by_cases hf:f=g
  ·subst hf
   have:=le r;unfold left at this ⊢;rw[List.filter_cons_of_neg (by simp[done]),List.filter_cons_of_pos (by simp[hd])]
   simp only[List.length_cons];omega
  ·have hr:g∈r:=by rcases List.mem_cons.1 h with e|e;exact absurd e.symm hf;exact e
   have:=ih hr;unfold left at this ⊢
   cases hdf:d f with
   |true=>rw[List.filter_cons_of_neg (by rw[yC d hf,hdf];simp),List.filter_cons_of_neg (by simp[hdf])];exact this
   |false=>rw[List.filter_cons_of_pos (by rw[yC d hf,hdf];rfl),List.filter_cons_of_pos (by simp[hdf])];simpa using this
theorem made_done{d:Nat->Bool}{g:Nat}(hd:d g=false):∀ (p:List Nat),p.Nodup->g∈p->(p.filter (done d g)).length=(p.filter d).length+1:=by
 intro p
 induction p with
 |nil=>intro _ h;cases h
 |cons f r ih=>
  intro hn h;obtain ⟨h1,h2⟩:=List.nodup_cons.1 hn
  by_cases hf:f=g
  ·subst hf
   rw[List.filter_cons_of_pos (by simp[done]),List.filter_cons_of_neg (by simp[hd])]
   simp only[List.length_cons];congr 2;exact List.filter_congr fun k hk=>by rw[yC d (fun e:k=f=>h1 (e ▸ hk))]
  ·have hr:g∈r:=by rcases List.mem_cons.1 h with e|e;exact absurd e.symm hf;exact e
   have:=ih h2 hr
   cases hdf:d f with
   |true=>rw[List.filter_cons_of_pos (by rw[yC d hf];exact hdf),List.filter_cons_of_pos hdf];simp only[List.length_cons];omega
   |false=>rw[List.filter_cons_of_neg (by rw[yC d hf,hdf];simp),List.filter_cons_of_neg (by simp[hdf])];exact this
theorem made_use{d:Nat->Bool}{g:Nat}(p:List Nat)(hn:p.Nodup)(hg:g∈p):(p.filter d).length=((p.filter (· !=g)).filter d).length+(if d g=true then 1 else 0):=by
 induction p with
 |nil=>cases hg
 |cons f r ih=>
  obtain ⟨h1,h2⟩:=List.nodup_cons.1 hn
  by_cases hf:f=g
  ·subst hf
   rw[List.filter_cons_of_neg (a:=f) (p:=(· !=f)) (by simp)]
   have e:r.filter (· !=f)=r:=List.filter_eq_self.2 fun k hk=>by simpa using fun e:k=f=>h1 (e ▸ hk)
   rw[e]
   by_cases hd:d f=true
   ·rw[List.filter_cons_of_pos hd,if_pos hd];rfl
   ·rw[List.filter_cons_of_neg hd,if_neg hd];rfl
  ·have hr:g∈r:=by rcases List.mem_cons.1 hg with e|e;exact absurd e.symm hf;exact e
   have:=ih h2 hr;rw[List.filter_cons_of_pos (a:=f) (p:=(· !=g)) (by simpa using hf)]
   by_cases hd:d f=true
   ·rw[List.filter_cons_of_pos hd,List.filter_cons_of_pos hd];simp only[List.length_cons];omega
   ·rw[List.filter_cons_of_neg hd,List.filter_cons_of_neg hd];exact this
theorem setD_true{d:Nat->Bool}{j:Nat}(p:List Nat)(L:Array Bool)(hj:j∈p)(hd:d j=true):(setD L d p).getD j true=true:=by
 have key:∀ (S:List Nat) (L:Array Bool),j∈S->(zU L S).getD j true=true:=by
  intro S
  induction S with
  |nil=>intro L h;cases h
  |cons k r ih=>
   intro L h;simp only[zU]
   by_cases hr:j∈r
   ·exact ih _ hr
   ·have e:j=k:=by rcases List.mem_cons.1 h with e|e;exact e;exact absurd e hr
    subst e;rw[setAll_set]
    by_cases hs:j<(zU L r).size
    ·simp[hs]
    ·simp[hs]
 exact key _ _ (List.mem_filter.2 ⟨hj,hd⟩)
theorem FlAt.put2(hsel:Region.noSelect l.toArray=true){a:Act}{e:Ent}{i:Nat}{oi:Oper}(h:FlAt P l a e)(hi:l[i]? =some oi)(hap:apB l e.1 i=true\/apB l i e.1=true)(v:Value):FlAt P l (a.put oi.dst v) e:=by
 rcases hap with hap|hap
 ·exact h.put hsel hi hap v
 ·obtain ⟨o,ho,hw,hr⟩:=h
  obtain ⟨o',ho',h1⟩:=apB_spec hap ho;rw[hi] at ho';obtain rfl:=Option.some.inj ho';obtain ⟨h3,_,_⟩:=Oper.apart_spec h1;refine ⟨o,ho,by rw[wanted_put o a oi.dst v h3];exact hw,fun w=>?_⟩
  rw[execOp_put o (fun cs b=>Region.noSelect_spec hsel e.1 o cs b (by simpa using ho)) a oi.dst v h3]
  exact hr w
theorem prs_or:∀ (p:List Nat),Prs l p->∀ f∈p,∀ g∈p,f≠g->apB l f g=true\/apB l g f=true:=by
 intro p
 induction p with
 |nil=>intro _ e he;cases he
 |cons x r ih=>
  intro hp f hf g hg hne;obtain ⟨h1,h2⟩:=List.pairwise_cons.1 hp;rcases List.mem_cons.1 hf with e1|e1<;>rcases List.mem_cons.1 hg with e2|e2
  ·exact absurd (by rw[e1,e2]) hne
  ·rw[e1];exact .inr (h1 g e2).2
  ·rw[e2];exact .inl (h1 f e1).2
  ·exact ih h2 f e1 g e2 hne
theorem flowM(hsel:Region.noSelect l.toArray=true)(hQ:∀ c a d v w,Q (.panic c) (a.put (some d) v) w->Q (.panic c) a w)(hQ2:∀ c a d v w,Q (.panic c) a w->Q (.panic c) (a.put (some d) v) w){B:Nat}
  (Z:Nat) (p:Nat->Bool) (hz:∀ i,p i=true->∀ listed,DC l.toArray listed->listed.getD i false=false->Z ∉ Region.ready .any l.toArray listed):
  ∀ (ps:List Part) (C:World->Prop) (W:World) (hot:List Nat) (st:List Ent) (a:Act) (L:Array Bool),chM l ps L (st.map (·.1))=true->Prs l (st.map (·.1))->(∀ y z,C y->C (y.alloc z))->StOk P l a st->wpM P l Q B Z ps C W hot st a->zM p ps=true->(∀ e∈st,p e.1=true)->
   ∀ (m:Nat) (d:Nat->Bool) (pt:Nat->Nat) (x:After W) (n:Nat),left d (st.map (·.1))=m->C x.val->B<=x.val.heap.size->(∀ k∈hot,k<x.val.heap.size)->PtOk x.val B hot st d pt->DC l.toArray (setD L d (st.map (·.1)))->cntP ps=n+((st.map (·.1)).filter d).length->
    TT P l.toArray Q (fun j=>j==Z) C n (setD L d (st.map (·.1))) (puts l d pt st a) x.val:=by
 intro ps
 induction ps with
 |nil=>
  intro C W hot st a L hB hp hal hs h hzp hzs m d pt x n hm hC hx hh hpt hdc hcnt;simp only[chM,Bool.and_eq_true,List.isEmpty_iff,List.map_eq_nil_iff] at hB;obtain ⟨rfl,hr⟩:=hB;obtain rfl:n=0:=by simpa[cntP] using hcnt.symm
  exact ⟨hr,h x⟩
 |cons y r ih=>
  rcases y with qs|f|i|f
  ·--those that only read
   intro C W hot st a L hB hp hal hs h hzp hzs m d pt x n hm hC hx hh hpt hdc hcnt;simp only[chM,Bool.and_eq_true] at hB;obtain ⟨⟨hq,hap⟩,hrest⟩:=hB;have hap:∀ e∈st,∀ i∈qs,apB l e.1 i=true:=fun e he i hi=>List.all_eq_true.1 (List.all_eq_true.1 hap i hi) e.1 (List.mem_map.2 ⟨e,he,rfl⟩)
   have hq':qsB l.toArray qs (setD L d (st.map (·.1)))=true:=by
    have:=List.all_eq_true.1 hq _ (subs_mem d (st.map (·.1)))
    rw[show closedB l.toArray (zU L ((st.map (·.1)).filter d))=true from closed_of hdc] at this
    simpa[setD] using this
   have hlen:=ch_len r _ _ hrest;have hle:((st.map (·.1)).filter d).length<=(st.map (·.1)).length:=List.length_filter_le _ _
   obtain ⟨n',rfl⟩:∃ n',n=qs.length+n':=⟨n-qs.length,by simp only[cntP] at hcnt;omega⟩
   have hl:=puts_quiet (d:=d) (pt:=pt) hsel qs (fun i hi o ho=>qsB_plain qs _ hq' i hi o (by simpa using ho)) st a _ hap (wpQuiet_keep hsel qs a hap hs h)
   refine TT.quiets (C:=C) (K:=fun a'=>∃ b,a'=puts l d pt st b/\StOk P l b st/\wpM P l Q B Z r C W hot st b) hsel hQ hC qs _ _ hq' hdc (fun i hi listed' hd' hun j hj=>by
    simp only[zM,Bool.and_eq_true] at hzp;simp only[beq_eq_false_iff_ne];rintro rfl
    exact hz i (List.all_eq_true.1 hzp.1 i hi) listed' hd' hun hj) hl (fun a' hd' hK=>?_)
   obtain ⟨b,rfl,hsb,hK⟩:=hK;have e:zU (setD L d (st.map (·.1))) qs=setD (zU L qs) d (st.map (·.1)):=setAll_two _ _ _
   rw[e] at hd' ⊢;exact ih C W hot st b _ hrest hp hal hsb hK (by simp only[zM,Bool.and_eq_true] at hzp;exact hzp.2) hzs m d pt x n' hm hC hx hh hpt hd' (by simp only[cntP] at hcnt;omega)
  ·--a block that may be made from here on
   intro C W hot st a L hB hp hal hs h hzp hzs m d pt x n hm hC hx hh hpt hdc hcnt;simp only[chM,Bool.and_eq_true] at hB;obtain ⟨⟨hni,hap⟩,hrest⟩:=hB;have hni:f ∉ st.map (·.1):=by simpa using hni
   obtain ⟨mk,z,hfl,hK⟩:=h;obtain ⟨d',hd',hdf⟩:∃ d':Nat->Bool,(∀ j∈st.map (·.1),d' j=d j)/\d' f=false:=⟨fun j=>if j=f then false else d j,fun j hj=>if_neg (fun e:j=f=>hni (e ▸ hj)),if_pos rfl⟩
   have e1:setD L d (st.map (·.1))=setD L d' (((f,mk,z)::st).map (·.1)):=by
    unfold setD;rw[List.map_cons,List.filter_cons_of_neg (by simp[hdf])]
    congr 1;exact List.filter_congr fun k hk=>(hd' k hk).symm
   have e2:puts l d pt st a=puts l d' pt ((f,mk,z)::st) a:=by
    simp only[puts];rw[hdf,if_neg Bool.false_ne_true];exact puts_congr st a fun e he=>⟨(hd' e.1 (List.mem_map.2 ⟨e,he,rfl⟩)).symm,fun _=>rfl⟩
   have e3:(((f,mk,z)::st).map (·.1)).filter d'=(st.map (·.1)).filter d:=by
    rw[List.map_cons,List.filter_cons_of_neg (by simp[hdf])]
    exact List.filter_congr hd'
   rw[e1] at hdc;rw[e1,e2];simp only[zM,Bool.and_eq_true] at hzp
   refine ih C W hot ((f,mk,z)::st) a L hrest ?_ hal (fun e he=>?_) hK hzp.2 (fun e he=>by
    rcases List.mem_cons.1 he with rfl|he
    ·exact hzp.1
    ·exact hzs e he) _ d' pt x n rfl hC hx hh ?_ hdc (by rw[e3];exact hcnt)
   ·simp only[Prs,List.map_cons,List.pairwise_cons]
    exact ⟨fun g hg=>⟨fun e=>hni (e ▸ hg),List.all_eq_true.1 hap g hg⟩,hp⟩
   ·rcases List.mem_cons.1 he with rfl|he
    ·exact hfl
    ·exact hs e he
   ·refine ⟨fun e he hde=>?_,fun e he e' he' hde hde' hne=>?_⟩
    ·rcases List.mem_cons.1 he with rfl|he
     ·rw[hdf] at hde;cases hde
     ·exact hpt.at_ e he (by rw[<-hd' e.1 (List.mem_map.2 ⟨e,he,rfl⟩)];exact hde)
    ·rcases List.mem_cons.1 he with rfl|he
     ·rw[hdf] at hde;cases hde
     ·rcases List.mem_cons.1 he' with rfl|he'
      ·rw[hdf] at hde';cases hde'
      ·exact hpt.inj e he e' he' (by rw[<-hd' e.1 (List.mem_map.2 ⟨e,he,rfl⟩)];exact hde) (by rw[<-hd' e'.1 (List.mem_map.2 ⟨e',he',rfl⟩)];exact hde') hne
  ·--one that changes the world
   intro C W hot st a L hB hp hal hs h hzp hzs m;simp only[chM,Bool.and_eq_true] at hB;obtain ⟨⟨hap,hrd⟩,hrest⟩:=hB;have hap:∀ e∈st,apB l e.1 i=true:=fun e he=>List.all_eq_true.1 hap e.1 (List.mem_map.2 ⟨e,he,rfl⟩)
   induction m using Nat.strongRecOn with
   |_ m ihm=>
   intro d pt x n hm hC hx hh hpt hdc hcnt;have hr:=List.all_eq_true.1 hrd _ (subs_mem d (st.map (·.1)))
   have hc:closedB l.toArray (zU L ((st.map (·.1)).filter d))=true:=closed_of hdc
   rw[hc] at hr;simp only[Bool.not_true,Bool.false_or,Bool.and_eq_true] at hr;obtain ⟨hi,hall⟩:=hr;have hi:i∈Region.ready .any l.toArray (setD L d (st.map (·.1))):=by simpa[setD] using hi
   have hlen:=ch_len r _ _ hrest;have hle:((st.map (·.1)).filter d).length<=(st.map (·.1)).length:=List.length_filter_le _ _
   obtain ⟨n',rfl⟩:∃ n',n=n'+1:=⟨n-1,by simp only[cntP] at hcnt;omega⟩
   refine ⟨fun h0=>(by rw[h0] at hi;cases hi),fun j hj=>?_⟩
   have hjj:j=i\/j∈st.map (·.1):=by
    have:=List.all_eq_true.1 hall j hj
    simpa using this
   obtain ⟨hun,oj,hoj,_⟩:=mem_ready.1 hj;have hoj':l[j]? =some oj:=by simpa using hoj
   rcases Decidable.em (j=i) with rfl|hji
   ·have h1:=h x hC
    simp only[pk,hoj'] at h1;have h2:=wpOp_keep hsel hoj' hap hs (wpOp_of_list (by simpa using hoj') h1)
    refine wpOp_mono (fun a' w' h3=>?_) (puts_lift (d:=d) (pt:=pt) hsel hoj' hQ2 st a _ hap h2)
    obtain ⟨b,rfl,hsb,C',hot',hfr,hhot,hC',hsub,hal',hK⟩:=h3
    suffices T:TT P l.toArray Q (fun j=>j==Z) C' n' ((setD L d (st.map (·.1))).setIfInBounds j true) (puts l d pt st b) w' by
     rcases Decidable.em (j=Z) with e|e
     ·rw[if_pos (by simpa using e)];exact TT.any _ _ _ _ T
     ·rw[if_neg (by simpa using e)]
      have hsub:=hsub.resolve_left e;exact ⟨hsub _ hC',TT.mono hsub _ _ _ _ T⟩
    have e:(setD L d (st.map (·.1))).setIfInBounds j true=setD (L.setIfInBounds j true) d (st.map (·.1)):=(setAll_set _ _ _).symm
    have hd2:=hdc.set hj;rw[e] at hd2 ⊢;exact ih C' w' hot' st b _ hrest hp hal' hsb hK hzp hzs _ d pt ⟨w',Below.refl _ _⟩ n' rfl hC' (Nat.le_trans hx hfr.size) (fun k hk=>(hhot k hk).2) (hpt.frame hfr hhot) hd2 (by simp only[cntP] at hcnt;omega)
   ·have hjs:j∈st.map (·.1):=by rcases hjj with e|e;exact absurd e hji;exact e
    obtain ⟨g,hg,rfl⟩:=List.mem_map.1 hjs
    have hdg:d g.1=false:=by
     cases hdg:d g.1 with
     |false=>rfl
     |true=>
      rw[setD_true _ _ hjs hdg] at hun;cases hun
    have hjz:¬ (g.1==Z)=true:=by
     intro e;have e:g.1=Z:=by simpa using e
     exact hz g.1 (hzs g hg) _ hdc (getD_ft hun) (e ▸ hj)
    refine (hs.run hsel hp hg hdg).wp ?_;rw[if_neg hjz];refine ⟨hal _ _ hC,?_⟩;rw[<-puts_add hoj' hdg x.val.heap.size st a hp hg,setD_done _ _ hjs];have hd2:=hdc.set hj;rw[setD_done _ _ hjs] at hd2
    exact ihm (left (done d g.1) (st.map (·.1))) (by rw[<-hm];exact left_done hdg _ hjs) (done d g.1) (fun j=>if j=g.1 then x.val.heap.size else pt j) ⟨x.val.alloc g.2.2,x.below.alloc x.below.size _⟩ n' rfl (hal _ _ hC) (by simp;omega)
     (fun k hk=>by have:=hh k hk;simp;omega) (hpt.more hh hg hdg hp hx) hd2 (by rw[made_done hdg _ (hp.imp fun h=>h.1) hjs];omega)
  ·--the new block's use
   intro C W hot st a L hB hp hal hs h hzp hzs m;simp only[chM,Bool.and_eq_true,beq_iff_eq] at hB;obtain ⟨⟨⟨hcf,hl1⟩,hrd⟩,hrest⟩:=hB;obtain ⟨mk,z,hmem,hK⟩:=h;have hf:f∈st.map (·.1):=List.mem_map.2 ⟨_,hmem,rfl⟩
   obtain ⟨of,hof,hwf,hrf⟩:=hs _ hmem;have hof':l[f]? =some of:=hof;have hmf:(st.filter (fun e=>e.1 !=f)).map (·.1)=(st.map (·.1)).filter (· !=f):=by rw[List.filter_map];rfl
   rw[<-hmf] at hrest;have hp':Prs l ((st.filter (fun e=>e.1 !=f)).map (·.1)):=by rw[hmf];exact List.Pairwise.filter _ hp
   have hs':∀ p,StOk P l (a.put (dstOf l f) (mk p)) (st.filter (fun e=>e.1 !=f)):=fun p e he=>by
    obtain ⟨he,hne⟩:=List.mem_filter.1 he;rw[dst_of hof'];exact (hs e he).put2 hsel hof' (prs_or _ hp e.1 (List.mem_map.2 ⟨e,he,rfl⟩) f hf (by simpa using hne)) _
   induction m using Nat.strongRecOn with
   |_ m ihm=>
   intro d pt x n hm hC hx hh hpt hdc hcnt;have hnd:(st.map (fun e:Ent=>e.1)).Nodup:=List.Pairwise.imp (fun h=>h.1) hp
   have hcu:=made_use (d:=d) (g:=f) (st.map (fun e:Ent=>e.1)) hnd hf
   rw[<-hmf] at hcu
   by_cases hdf:d f=true
   ·rw[if_pos hdf] at hcu
    obtain ⟨p1,p2,p3,p4⟩:=hpt.at_ _ hmem hdf;have hk:=hK x hC (pt f) p1 p2 p3 p4;have e1:=setD_use hdf (st.map (·.1)) L hf
    rw[<-hmf] at e1;have e2:=puts_use (pt:=pt) hof hdf st a hp hmem;rw[e1] at hdc;rw[e1,e2]
    exact ih C x.val (pt f::hot) _ _ _ hrest hp' hal (hs' _) hk hzp (fun e he=>hzs e (List.mem_filter.1 he).1) _ d pt ⟨x.val,Below.refl _ _⟩ n rfl hC hx (fun k hk=>by rcases List.mem_cons.1 hk with rfl|hk;exact p2;exact hh k hk)
     (hpt.use hmem (fun _=>rfl) (fun h=>by rw[hdf] at h;cases h)) hdc (by simp only[cntP] at hcnt;omega)
   ·have hdf:d f=false:=by simpa using hdf
    rw[hdf,if_neg Bool.false_ne_true] at hcu;have hr:=List.all_eq_true.1 hrd _ (subs_mem d (st.map (·.1)))
    have hc:closedB l.toArray (zU L ((st.map (·.1)).filter d))=true:=closed_of hdc
    have hnc:((st.map (·.1)).filter d).contains f=false:=by
     cases hx:((st.map (·.1)).filter d).contains f with
     |false=>rfl
     |true=>
      have:=(List.mem_filter.1 (by simpa using hx:f∈(st.map (·.1)).filter d)).2
      rw[hdf] at this;cases this
    rw[hc,hnc] at hr;simp only[Bool.not_true,Bool.false_or,Bool.and_eq_true] at hr;obtain ⟨hi,hall⟩:=hr;have hi:f∈Region.ready .any l.toArray (setD L d (st.map (·.1))):=by simpa[setD] using hi
    have hlen:=ch_len r _ _ hrest;have hle:(((st.filter (fun e=>e.1 !=f)).map (·.1)).filter d).length<=((st.filter (fun e=>e.1 !=f)).map (·.1)).length:=List.length_filter_le _ _
    obtain ⟨n',rfl⟩:∃ n',n=n'+1:=⟨n-1,by simp only[cntP] at hcnt;omega⟩
    refine ⟨fun h0=>(by rw[h0] at hi;cases hi),fun j hj=>?_⟩
    have hjs:j∈st.map (·.1):=by
     have:=List.all_eq_true.1 hall j hj
     simpa using this
    obtain ⟨hun,oj,hoj,_⟩:=mem_ready.1 hj;have hoj':l[j]? =some oj:=by simpa using hoj
    have hjz:¬ (j==Z)=true:=by
     intro e;have e:j=Z:=by simpa using e
     obtain ⟨g,hg,hgj⟩:=List.mem_map.1 hjs;exact hz j (hgj ▸ hzs g hg) _ hdc (getD_ft hun) (e ▸ hj)
    rcases Decidable.em (j=f) with rfl|hjf
    ·refine (hs.run hsel hp hmem hdf).wp ?_
     rw[if_neg hjz];refine ⟨hal _ _ hC,?_⟩;have hx1:Below W.heap.size W (x.val.alloc z):=x.below.alloc x.below.size _;have hk:=hK ⟨x.val.alloc z,hx1⟩ (hal _ _ hC) x.val.heap.size hx (by simp) (fun h=>Nat.lt_irrefl _ (hh _ h)) (heap_alloc_new x.val _)
     have off:∀ k∈(st.filter (fun e=>e.1 !=j)).map (·.1),k≠j:=fun k hk=>by
      rw[hmf] at hk
      simpa using (List.mem_filter.1 hk).2
     have e1:(setD L d (st.map (·.1))).setIfInBounds j true=setD (L.setIfInBounds j true) d ((st.filter (fun e=>e.1 !=j)).map (·.1)):=by
      rw[setD_done _ _ hf,setD_use (done_same d j) _ _ hf,<-hmf];unfold setD;congr 1;exact List.filter_congr fun k hk=>by rw[yC d (off k hk)]
     have e2:(puts l d pt st a).put (dstOf l j) (mk x.val.heap.size)=puts l d pt (st.filter (fun e=>e.1 !=j)) (a.put (dstOf l j) (mk x.val.heap.size)):=by
      have h1:=puts_add (pt:=pt) hof hdf x.val.heap.size st a hp hmem;rw[puts_use hof (done_same d j) st a hp hmem] at h1;simp only[if_pos] at h1;rw[<-h1]
      exact puts_congr _ _ fun e he=>by
       have hne:=off e.1 (List.mem_map.2 ⟨e,he,rfl⟩);exact ⟨by rw[yC d hne],fun _=>by rw[if_neg hne]⟩
     have hd2:=hdc.set hj;rw[e1] at hd2 ⊢;rw[e2]
     have hhot:∀ k∈x.val.heap.size::hot,(k∈x.val.heap.size::hot\/x.val.heap.size<=k)/\k<(x.val.alloc z).heap.size:=fun k hk=>⟨.inl hk,by
      rcases List.mem_cons.1 hk with rfl|hk
      ·simp
      ·have:=hh k hk;simp;omega⟩
     exact ih C (x.val.alloc z) (x.val.heap.size::hot) _ _ _ hrest hp' hal (hs' _) hk hzp (fun e he=>hzs e (List.mem_filter.1 he).1) _ d pt ⟨x.val.alloc z,Below.refl _ _⟩ n' rfl (hal _ _ hC) (by simp;omega) (fun k hk=>(hhot k hk).2)
      ((hpt.use (g:=(j,mk,z)) (p:=x.val.heap.size) hmem (fun h=>by rw[hdf] at h;cases h) (fun _=>Nat.le_refl _)).frame (Frm.of ((Below.refl _ _).alloc (Nat.le_refl _) z)) hhot) hd2 (by simp only[cntP] at hcnt;omega)
    ·obtain ⟨g,hg,rfl⟩:=List.mem_map.1 hjs
     have hdg:d g.1=false:=by
      cases hdg:d g.1 with
      |false=>rfl
      |true=>rw[setD_true _ _ hjs hdg] at hun;cases hun
     refine (hs.run hsel hp hg hdg).wp ?_;rw[if_neg hjz];refine ⟨hal _ _ hC,?_⟩;rw[<-puts_add hoj' hdg x.val.heap.size st a hp hg,setD_done _ _ hjs];have hd2:=hdc.set hj;rw[setD_done _ _ hjs] at hd2
     exact ihm (left (done d g.1) (st.map (·.1))) (by rw[<-hm];exact left_done hdg _ hjs) (done d g.1) (fun j=>if j=g.1 then x.val.heap.size else pt j) ⟨x.val.alloc g.2.2,x.below.alloc x.below.size _⟩ n' rfl (hal _ _ hC) (by simp;omega)
      (fun k hk=>by have:=hh k hk;simp;omega) (hpt.more hh hg hdg hp hx) hd2 (by rw[made_done hdg _ (hp.imp fun h=>h.1) hjs];omega)
def manyB(l:List Oper)(ps:List Part):Bool:=Region.noSelect l.toArray&&cntP ps==l.length&&chM l ps (Array.replicate l.length false) []
theorem flow_many{id:Nat}{a:Act}{w:World}(ps:List Part)(C:World->Prop)(hot:List Nat)(hm:P.follows .mixedOrders=true)(hB:manyB l ps=true)
  (hQ:∀ c a d v w,Q (.panic c) (a.put (some d) v) w->Q (.panic c) a w) (hQ2:∀ c a d v w,Q (.panic c) a w->Q (.panic c) (a.put (some d) v) w) (hal:∀ y z,C y->C (y.alloc z)) (hC:C (w.drewN 1)) (hh:∀ k∈hot,k<w.heap.size)
  (h:wpM P l Q w.heap.size l.length ps C (w.drewN 1) hot [] a):(Code.region id l.toArray true).wp P Q a w:=by
 simp only[manyB,Bool.and_eq_true,beq_iff_eq] at hB;obtain ⟨⟨hsel,hcnt⟩,hch⟩:=hB;refine wp_region_any hm ?_;have e:(Array.replicate l.toArray.size false)=Array.replicate l.length false:=by simp
 have T:=flowM hsel hQ hQ2 (B:=w.heap.size) l.length (fun _=>true) (fun i _ listed _ _ hm=>by obtain ⟨_,o,ho,_⟩:=mem_ready.1 hm;simp at ho) ps C (w.drewN 1) hot [] a (Array.replicate l.length false) hch List.Pairwise.nil hal (fun _ he=>by cases he) h (zM_all _) (fun _ he=>by cases he) _ (fun _=>false) (fun _=>0) ⟨w.drewN 1,Below.refl _ _⟩ l.length rfl hC (by simp) (by simpa using hh)
  ⟨(by intro e he;cases he),(by intro e he;cases he)⟩ (by show DC l.toArray (Array.replicate l.length false);rw[<-e];exact DC.none) (by simpa using hcnt)
 have:=TT.any _ _ _ _ T;rw[e,show l.toArray.size=l.length by simp]
 exact this
end
structure In(C:World->Prop) where
 val:World
 ok:C val
theorem In_eq(C:World->Prop):(fun w'=>∃ x:In C,w'=x.val)=C:=funext fun w=>propext ⟨fun ⟨x,h⟩=>h ▸ x.ok,fun h=>⟨⟨w,h⟩,rfl⟩⟩
section
variable {P:Program} {l:List Oper} {Q:Exit->Act->World->Prop} {B Z:Nat} {r:List Part} {C:World->Prop} {W:World} {hot:List Nat} {st:List Ent} {a:Act}
theorem wpM_nil(h:∀ x:After W,Q .normal a x.val):wpM P l Q B Z [] C W hot st a:=h
theorem wpM_q{qs:List Nat}(h:wpQuiet P l.toArray (fun w'=>∃ x:In C,w'=x.val) (fun a'=>wpM P l Q B Z r C W hot st a') (pk l qs) a):wpM P l Q B Z (.inl qs::r) C W hot st a:=
 by rw[In_eq] at h;exact h
theorem wpM_s{f:Nat}(mk:Nat->Value)(z:Obj)(o:Oper)(ho:l[f]? =some o)(hw:Region.wanted o (yielded l.toArray a.tmps)=true)(hr:∀ w,(execOp a.eval o).run P w=.ok (.value (mk w.heap.size)) (w.alloc z))
  (h:wpM P l Q B Z r C W hot ((f,mk,z)::st) a):wpM P l Q B Z (pS f::r) C W hot st a:=⟨mk,z,⟨o,ho,hw,hr⟩,h⟩
@[irreducible] def Nxt(P:Program)(l:List Oper)(Q:Exit->Act->World->Prop)(B Z i:Nat)(r:List Part)(C:World->Prop)(hot:List Nat)(st:List Ent)(x:World)(a'':Act)(w'':World):Prop:=
 ∃ (C':World->Prop) (hot':List Nat),Frm hot x w''/\(∀ k∈hot',(k∈hot\/x.heap.size<=k)/\k<w''.heap.size)/\C' w''/\(i=Z\/∀ y,C' y->C y)/\(∀ y z,C' y->C' (y.alloc z))/\wpM P l Q B Z r C' w'' hot' st a''
theorem wpM_e{i:Nat}(o:Oper)(ho:l[i]? =some o)(h:∀ x:After W,C x.val->wpList P l.toArray (atEnd (Nxt P l Q B Z i r C hot st x.val) Q) [o] a x.val):wpM P l Q B Z (pE i::r) C W hot st a:=fun x hx=>by
 simp only[pk,ho];exact wpList_end_mono (fun a'' w'' h3=>by unfold Nxt at h3;exact h3) o a x.val (h x hx)
theorem wpM_u{f:Nat}(mk:Nat->Value)(z:Obj)(st':List Ent)(d:Tmp)(hm:(f,mk,z)∈st)(hst:st.filter (·.1 !=f)=st')(hd:dstOf l f=some d)
  (h:∀ x:After W,C x.val->∀ p,B<=p->p<x.val.heap.size->p ∉ hot->x.val.heap[p]? =some z->wpM P l Q B Z r C x.val (p::hot) st' (a.put (some d) (mk p))):wpM P l Q B Z (pU f::r) C W hot st a:=
 ⟨mk,z,hm,fun x hx p h1 h2 h3 h4=>by rw[hst,hd];exact h x hx p h1 h2 h3 h4⟩
theorem same_class{i:Nat}{x w'':World}{a'':Act}(hot':List Nat)(h1:Frm hot x w'')(h2:∀ k∈hot',(k∈hot\/x.heap.size<=k)/\k<w''.heap.size)(h3:C w'')(h4:∀ y z,C y->C (y.alloc z))(h5:wpM P l Q B Z r C w'' hot' st a''):
  Nxt P l Q B Z i r C hot st x a'' w'':=by
 unfold Nxt;exact ⟨C,hot',h1,h2,h3,.inr fun _ h=>h,h4,h5⟩
theorem hot_none{x w'':World}:∀ k∈([]:List Nat),(k∈hot\/x.heap.size<=k)/\k<w''.heap.size:=fun k hk=>by cases hk
end
theorem Frm.app{x w':World}{v:Value}(hg:x.grownBy w' v.ownBlock):Frm v.ownBlock.toList x w':=⟨hg.size,fun k hk hn=>hg.block k hk (fun e=>hn (by rw[<-e];simp))⟩
theorem hot_app{x w':World}{b:Nat}{u:TypeId}{v v':Value}{n:Nat}{f:Bf}{hot:List Nat}(ho:Own w' b u v' n f)(ht:v'.ownBlock=v.ownBlock\/v'.ownBlock=some x.heap.size)(hv:∀ k,v.ownBlock=some k->k∈hot):∀ k∈v'.ownBlock.toList,(k∈hot\/x.heap.size<=k)/\k<w'.heap.size:=fun k hk=>by
 have hk:v'.ownBlock=some k:=by simpa using hk
 refine ⟨?_,(ho.lt hk).2⟩;rcases ht with e|e
 ·exact .inl (hv k (by rw[<-e];exact hk))
 ·rw[e] at hk;exact .inr (Nat.le_of_eq (Option.some.inj hk))
theorem Frm.more{hot hot':List Nat}{x w:World}(h:Frm hot x w)(hh:∀ k∈hot,k∈hot'):Frm hot' x w:=⟨h.size,fun k hk hn=>h.keep k hk fun e=>hn (hh k e)⟩
theorem own_new{x:World}{p base:Nat}{u:TypeId}(h:x.heap[p]? =some (.cells #[] u))(hb:base<=p):Own x base u (.slice (some ⟨p,0,none⟩) 0 0) 0 nF:=by
 unfold Own World.ownsRow;exact ⟨by rw[Array.length_toList,zI],.inr ⟨p,0,#[],rfl,hb,h,Nat.le_refl _,Nat.zero_le _,rfl,by unfold ba;rfl⟩⟩
theorem run_copyAt{P:Program}{w:World}{dT sT ty u:TypeId}(hu:P.underlying dT=some (.slice u))(hz:(P.info? u).map (·.size)=some 1){g o L N dc:Nat}{f:Bf}(hr:row w g=some (ba N f))(hoL:o+L<=N)
  {B n c:Nat} {A:Option Addr} {b:Bf} (hs:Sl w B A n c b) {m:Nat} (hm:m=min n L):
  (Builtin.copy_ #[dT,sT] ty #[.slice (some ⟨g,o,none⟩) L dc,.slice A n c]).run P w=.ok (goInt m) (w.setRow g (ba N (putF f o m b))):=by
 by_cases h0:m=0
 ·have e:ba N (putF f o m b)=ba N f:=xA fun k _=>by unfold putF;rw[if_neg (by omega)]
  rw[e,yF hr,h0];exact run_copy_none w dT sT ty u _ _ L dc n c hu hz (by show min n L=0;omega)
 ·obtain ⟨a,p,rfl,_,hc⟩:=hs.at_ (by omega)
  obtain ⟨t,hg⟩:=row_is hr;have hl:(ba m b).toList.length=m:=by rw[Array.length_toList,zI]
  have h:=run_copy_row (P:=P) w dT sT ty u g o L dc ⟨a,p,none⟩ n c (ba N f) t (ba m b).toList hu hz hg (by rw[hl];exact hm)
   (fun j v hv=>by
    rw[Array.getElem?_toList] at hv
    by_cases hj:j<m
    ·rw[yA m b j hj] at hv
     rw[yK,hc j (by omega),hv]
    ·rw[yS m b j hj] at hv;cases hv)
   (by rw[hl,zI];omega) (fun v hv=>(Array.all_eq_true_iff_forall_mem.1 (ba_one m b)) v (by simpa using hv))
  rw[hl] at h;rw[h];congr 2;apply Array.ext_getElem?;intro k;rw[List.getElem?_toArray]
  by_cases hk:k<N
  ·rw[yA _ _ _ hk]
   unfold putF
   by_cases h1:k<o
   ·rw[if_neg (by omega),List.append_assoc,List.getElem?_append_left (by simp[zI];omega),List.getElem?_take,if_pos h1,Array.getElem?_toList,yA _ _ _ hk]
   ·by_cases h2:k<o+m
    ·rw[if_pos ⟨by omega,h2⟩,List.append_assoc,List.getElem?_append_right (by simp[zI];omega),List.getElem?_append_left (by simp[zI];omega),Array.getElem?_toList]
     have:k-(List.take o (ba N f).toList).length=k-o:=by simp[zI];omega
     rw[this,yA _ _ _ (by omega)]
    ·rw[if_neg (by omega),List.getElem?_append_right (by simp[zI];omega),List.getElem?_drop,Array.getElem?_toList]
     have:o+m+(k-(List.take o (ba N f).toList++(ba m b).toList).length)=k:=by simp[zI];omega
     rw[this,yA _ _ _ hk]
  ·rw[yS _ _ _ hk,List.getElem?_eq_none]
   simp[zI];omega
theorem wpl_copyAt{P:Program}{w:World}{ops:Array Oper}{rest:List Oper}{o:Oper}{a:Act}{Q:Exit->Act->World->Prop}(hgd:o.guard=none)(d s:Operand)(dT sT u:TypeId)
  (ho:o.op=.call { callee:=.builtin .copy,args:=#[d,s],argTypes:=#[dT,sT] }) (hu:P.underlying dT=some (.slice u)) (hz:(P.info? u).map (·.size)=some 1)
  {g p L N dc:Nat} {f:Bf} (hr:row w g=some (ba N f)) (hoL:p+L<=N) {B n c:Nat} {A:Option Addr} {b:Bf} (hs:Sl w B A n c b) {m:Nat} (hm:m=min n L)
  (hd:a.eval d=.slice (some ⟨g,p,none⟩) L dc) (hv:a.eval s=.slice A n c)
  (h:wpList P ops Q rest (a.put o.dst (.int .i64 (m:Int))) (w.setRow g (ba N (putF f p m b)))):wpList P ops Q (o::rest) a w:=by
 refine wpList_plain hgd fun K hK=>?_
 have hrun:=run_copyAt (ty:=o.type) (sT:=sT) hu hz hr hoL hs hm (dc:=dc);unfold Oper.wp;simp only[execOp,ho,resolve,invoke,builtin,Sem.run_bind,Sem.run_pure,Result.andThen_ok,List.map_toArray,List.map_cons,List.map_nil,hd,hv,hrun];exact hK _ _ h
section
variable {H:Type} {enc:TypeId×Value->H} {P:Program} {w:World} {base:Nat} {spare:Nat->Bool} {held:Bool}
end
section
variable {α:Type} (E:α->Value)
def ar(n:Nat)(f:Nat->α):Array Value:=Array.ofFn (n:=n) fun i=>E (f i)
def updA(f:Nat->α)(k:Nat)(v:α):Nat->α:=fun i=>if i=k then v else f i
def offA(f:Nat->α)(o:Nat):Nat->α:=fun i=>f (o+i)
def putA(f:Nat->α)(o m:Nat)(g:Nat->α):Nat->α:=fun i=>if o<=i/\i<o+m then g (i-o) else f i
def uptoA(k:Nat)(new old:Nat->α):Nat->α:=fun i=>if i<k then new i else old i
theorem offA_zero(f:Nat->α):offA f 0=f:=by funext i;simp[offA]
theorem uptoA_zero(new old:Nat->α):uptoA 0 new old=old:=by funext i;simp[uptoA]
theorem uptoA_step(k:Nat)(new old:Nat->α):updA (uptoA k new old) k (new k)=uptoA (k+1) new old:=by
 funext i
 by_cases h:i=k
 ·subst h;simp[updA,uptoA]
 ·by_cases h2:i<k
  ·simp[updA,uptoA,h,h2,Nat.lt_succ_of_lt h2]
  ·have:¬ i<k+1:=by omega
   simp[updA,uptoA,h,h2,this]
theorem uptoA_at(k:Nat)(new old:Nat->α):uptoA k new old k=old k:=by simp[uptoA]
theorem ar_size(n:Nat)(f:Nat->α):(ar E n f).size=n:=by unfold ar;simp
theorem ar_get(n:Nat)(f:Nat->α)(k:Nat)(h:k<n):(ar E n f)[k]? =some (E (f k)):=by unfold ar;simp[h]
theorem ar_elem(n:Nat)(f:Nat->α)(k:Nat)(h:k<(ar E n f).size):(ar E n f)[k]=E (f k):=by
 have e:=ar_get E n f k (by rwa [ar_size] at h)
 rw[Array.getElem?_eq_getElem h] at e;exact Option.some.inj e
theorem ar_none(n:Nat)(f:Nat->α)(k:Nat)(h:¬ k<n):(ar E n f)[k]? =none:=by unfold ar;simp;omega
theorem ar_ext{n:Nat}{f g:Nat->α}(h:∀ k,k<n->f k=g k):ar E n f=ar E n g:=by
 apply Array.ext_getElem?;intro i
 by_cases hi:i<n
 ·rw[ar_get E n f i hi,ar_get E n g i hi,h i hi]
 ·rw[ar_none E n f i hi,ar_none E n g i hi]
theorem ar_set(n:Nat)(f:Nat->α)(k:Nat)(v:α):(ar E n f).setIfInBounds k (E v)=ar E n (updA f k v):=by
 apply Array.ext_getElem?;intro i;rw[Array.getElem?_setIfInBounds]
 by_cases hi:i<n
 ·rw[ar_get E n (updA f k v) i hi,ar_size,ar_get E n f i hi]
  by_cases hk:k=i
  ·subst hk;simp[updA,hi]
  ·have:¬ i=k:=fun e=>hk e.symm
   simp[hk,updA,this]
 ·rw[ar_none E n (updA f k v) i hi,ar_size,ar_none E n f i hi]
  by_cases hk:k=i
  ·subst hk;simp[hi]
  ·simp[hk]
theorem ar_ones(h1:∀ x,(E x).oneCell'=true)(n:Nat)(f:Nat->α):(ar E n f).all (·.oneCell')=true:=by
 rw[Array.all_eq_true];intro i h;rw[ar_elem];exact h1 _
theorem ar_ne(n:Nat)(f:Nat->α):(ar E (n+1) f=#[])=False:=by
 refine eq_false fun e=>?_
 have:=congrArg Array.size e;rw[ar_size] at this;simp at this
theorem ar_ex(n a b:Nat)(f:Nat->α)(h:b<=n):(ar E n f).extract a b=ar E (b-a) (offA f a):=by
 apply Array.ext_getElem?;intro i;rw[Array.getElem?_extract]
 by_cases hi:i<b-a
 ·rw[ar_get E _ _ i hi,if_pos (by rw[ar_size];omega),ar_get E n f _ (by omega)];rfl
 ·rw[ar_none E _ _ i hi,if_neg (by rw[ar_size];omega)]
theorem spl_ar(n o m:Nat)(f g:Nat->α)(h:o+m<=n):spl (ar E n f) o (ar E m g).toList=ar E n (putA f o m g):=by
 apply Array.ext_getElem?;intro k;have hl:(ar E m g).toList.length=m:=by rw[Array.length_toList,ar_size]
 rw[yU _ _ _ _ (by rw[hl,ar_size];exact h),hl,Array.getElem?_toList]
 by_cases hk:k<n
 ·rw[ar_get E n (putA f o m g) k hk]
  by_cases h1:o<=k/\k<o+m
  ·rw[if_pos h1,ar_get E m g _ (by omega)];simp[putA,h1]
  ·rw[if_neg h1,ar_get E n f k hk];simp[putA,h1]
 ·rw[ar_none E n (putA f o m g) k hk,if_neg (by omega),ar_none E n f k hk]
theorem ar_put_all(n:Nat)(f g:Nat->α):ar E n (putA f 0 n g)=ar E n g:=ar_ext E fun k hk=>by simp[putA,hk]
theorem ldR_ar(P:Program)(t m n:Nat)(w:World)(b o:Nat)(f:Nat->α)(h:o+m<=n):ldR P t m w b o (some (ar E n f))=.ok (.agg (ar E m (offA f o))) w:=by
 unfold ldR;simp only[ar_size,if_pos h];rw[ar_ex E n o (o+m) f h,show o+m-o=m by omega]
theorem stR_ar(h1:∀ x,(E x).oneCell'=true)(P:Program)(t m n:Nat)(w:World)(b o:Nat)(f g:Nat->α)(h:o+m<=n):stR P t m w b o (.agg (ar E m g)) (some (ar E n f))=.ok () (w.setRow b (ar E n (putA f o m g))):=by
 have e:o+m<=(ar E n f).size/\(Value.agg (ar E m g)).cells.size=m/\Ones (Value.agg (ar E m g)).cells:=⟨by rw[ar_size];exact h,ar_size E m g,ar_ones E h1 m g⟩
 unfold stR;simp only[if_pos e];exact congrArg (fun c=>Result.ok () (w.setRow b c)) (spl_ar E n o m f g h)
end
def M(v:BitVec 32):Int:=(v.toNat:Int)
def W32(v:BitVec 32):Value:=.int .u32 (M v)
abbrev Wf:=Nat->BitVec 32
theorem M_bd(v:BitVec 32):0<=M v/\M v<=4294967295:=by unfold M;omega
theorem u32_wrap_nat(n:Nat):IntKind.u32.wrap (n:Int)=((n % 4294967296:Nat):Int):=by
 show (n:Int) % 4294967296=_;rw[Int.natCast_emod];rfl
@[go_sem] theorem M_xor(a b:BitVec 32):bits .xor .u32 (M a) (M b)=M (a^^^b):=by unfold M;rw[u32_xor_nat _ _ a.isLt b.isLt,BitVec.toNat_xor]
@[go_sem] theorem M_or(a b:BitVec 32):bits .or .u32 (M a) (M b)=M (a|||b):=by unfold M;rw[u32_or_nat _ _ a.isLt b.isLt,BitVec.toNat_or]
@[go_sem] theorem M_and(a b:BitVec 32):bits .and .u32 (M a) (M b)=M (a&&&b):=by unfold M;rw[u32_and_nat _ _ a.isLt b.isLt,BitVec.toNat_and]
@[go_sem] theorem M_add(a b:BitVec 32):IntKind.u32.wrap (M a+M b)=M (a+b):=by
 unfold M;rw[<-Int.natCast_add,u32_wrap_nat,BitVec.toNat_add]
@[go_sem] theorem M_orI(a:BitVec 32)(v:BitVec 8):bits .or .u32 (M a) (I v)=M (a|||v.setWidth 32):=by
 unfold M I;rw[u32_or_nat _ _ a.isLt (by omega),BitVec.toNat_or,BitVec.toNat_setWidth,Nat.mod_eq_of_lt (show v.toNat<2^32 by omega)]
theorem M_shl(a:BitVec 32)(k:Nat):IntKind.u32.wrap (M a*((2^k:Nat):Int))=M (a<<<k):=by
 unfold M;rw[<-Int.natCast_mul,u32_wrap_nat,BitVec.toNat_shiftLeft,Nat.shiftLeft_eq]
theorem M_shr(a:BitVec 32)(k:Nat):M a / ((2^k:Nat):Int)=M (a>>>k):=by
 unfold M;rw[BitVec.toNat_ushiftRight,Nat.shiftRight_eq_div_pow];norm_cast
theorem M_shlm(a:BitVec 32)(k:Nat):M a*((2^k:Nat):Int) % 4294967296=M (a<<<k):=M_shl a k
@[go_sem] theorem M_not(a:BitVec 32):bits .xor .u32 IntKind.u32.max (M a)=M (~~~a):=by
 have e:=M_xor (BitVec.allOnes 32) a;rw[BitVec.allOnes_xor] at e;exact e
@[go_sem] theorem M_shlv(a:BitVec 32)(k:Nat):M a*(2:Int)^k % 4294967296=M (a<<<k):=by
 rw[<-M_shlm,Int.natCast_pow];rfl
@[go_sem] theorem M_shrv(a:BitVec 32)(k:Nat):M a / (2:Int)^k=M (a>>>k):=by
 rw[<-M_shr,Int.natCast_pow];rfl
@[go_sem] theorem M_shl8w(a:BitVec 32):IntKind.u32.wrap (M a*256)=M (a<<<8):=M_shlm a 8
@[go_sem] theorem M_shr3(a:BitVec 32):M a / (8:Int)=M (a>>>3):=M_shr a 3
@[go_sem] theorem M_shr10(a:BitVec 32):M a / (1024:Int)=M (a>>>10):=M_shr a 10
@[irreducible] def wa(n:Nat)(f:Wf):Array Value:=ar W32 n f
theorem wa_size(n:Nat)(f:Wf):(wa n f).size=n:=by unfold wa;exact ar_size _ _ _
theorem wa_get(n:Nat)(f:Wf)(k:Nat)(h:k<n):(wa n f)[k]? =some (.int .u32 (M (f k))):=by unfold wa;exact ar_get W32 n f k h
theorem wa_elem(n:Nat)(f:Wf)(k:Nat)(h:k<(wa n f).size):(wa n f)[k]=.int .u32 (M (f k)):=by
 have e:=wa_get n f k (by rwa [wa_size] at h)
 rw[Array.getElem?_eq_getElem h] at e;exact Option.some.inj e
theorem wa_ext{n:Nat}{f g:Wf}(h:∀ k,k<n->f k=g k):wa n f=wa n g:=by unfold wa;exact ar_ext _ h
theorem wa_set(n:Nat)(f:Wf)(k:Nat)(v:BitVec 32):(wa n f).setIfInBounds k (.int .u32 (M v))=wa n (updA f k v):=by unfold wa;exact ar_set W32 n f k v
theorem wa_one(n:Nat)(f:Wf):(wa n f).all (·.oneCell')=true:=by unfold wa;exact ar_ones W32 (fun _=>rfl) n f
theorem wa_ne(n:Nat)(f:Wf):(wa (n+1) f=#[])=False:=by unfold wa;exact ar_ne W32 n f
theorem ldR_wa(P:Program)(t m n:Nat)(w:World)(b o:Nat)(f:Wf)(h:o+m<=n):ldR P t m w b o (some (wa n f))=.ok (.agg (wa m (offA f o))) w:=by unfold wa;exact ldR_ar W32 P t m n w b o f h
theorem stR_wa(P:Program)(t m n:Nat)(w:World)(b o:Nat)(f g:Wf)(h:o+m<=n):stR P t m w b o (.agg (wa m g)) (some (wa n f))=.ok () (w.setRow b (wa n (putA f o m g))):=by unfold wa;exact stR_ar W32 (fun _=>rfl) P t m n w b o f g h
theorem wa_put_all(n:Nat)(f g:Wf):wa n (putA f 0 n g)=wa n g:=by unfold wa;exact ar_put_all W32 n f g
theorem wa_ones(n:Nat)(f:Wf):Ones (wa n f):=wa_one n f
attribute [go_sem] wa_size wa_elem wa_set wa_ne ldR_wa stR_wa wa_put_all wa_ones offA_zero
theorem row_setCellW{w:World}{b n:Nat}{f:Wf}(h:row w b=some (wa n f))(i:Nat)(v:BitVec 32):row (w.setCell ⟨b,i,none⟩ (.int .u32 (M v))) b=some (wa n (updA f i v)):=by
 rw[zL h,zE h,wa_set]
def N64(v:Nat):Value:=.int .u64 (v:Int)
abbrev Nf:=Nat->Nat
@[irreducible] def qa(n:Nat)(f:Nf):Array Value:=ar N64 n f
theorem qa_size(n:Nat)(f:Nf):(qa n f).size=n:=by unfold qa;exact ar_size _ _ _
theorem qa_get(n:Nat)(f:Nf)(k:Nat)(h:k<n):(qa n f)[k]? =some (.int .u64 (f k:Int)):=by unfold qa;exact ar_get N64 n f k h
theorem qa_elem(n:Nat)(f:Nf)(k:Nat)(h:k<(qa n f).size):(qa n f)[k]=.int .u64 (f k:Int):=by
 have e:=qa_get n f k (by rwa [qa_size] at h)
 rw[Array.getElem?_eq_getElem h] at e;exact Option.some.inj e
theorem qa_ext{n:Nat}{f g:Nf}(h:∀ k,k<n->f k=g k):qa n f=qa n g:=by unfold qa;exact ar_ext _ h
theorem qa_set(n:Nat)(f:Nf)(k:Nat)(v:Nat):(qa n f).setIfInBounds k (.int .u64 (v:Int))=qa n (updA f k v):=by unfold qa;exact ar_set N64 n f k v
theorem qa_one(n:Nat)(f:Nf):(qa n f).all (·.oneCell')=true:=by unfold qa;exact ar_ones N64 (fun _=>rfl) n f
theorem qa_ne(n:Nat)(f:Nf):(qa (n+1) f=#[])=False:=by unfold qa;exact ar_ne N64 n f
theorem ldR_qa(P:Program)(t m n:Nat)(w:World)(b o:Nat)(f:Nf)(h:o+m<=n):ldR P t m w b o (some (qa n f))=.ok (.agg (qa m (offA f o))) w:=by unfold qa;exact ldR_ar N64 P t m n w b o f h
theorem stR_qa(P:Program)(t m n:Nat)(w:World)(b o:Nat)(f g:Nf)(h:o+m<=n):stR P t m w b o (.agg (qa m g)) (some (qa n f))=.ok () (w.setRow b (qa n (putA f o m g))):=by unfold qa;exact stR_ar N64 (fun _=>rfl) P t m n w b o f g h
theorem qa_put_all(n:Nat)(f g:Nf):qa n (putA f 0 n g)=qa n g:=by unfold qa;exact ar_put_all N64 n f g
theorem qa_ones(n:Nat)(f:Nf):Ones (qa n f):=qa_one n f
attribute [go_sem] qa_size qa_elem qa_set qa_ne ldR_qa stR_qa qa_put_all qa_ones
section
variable {P:Program}
end
structure SlG(w:World)(B:Nat)(A:Option Addr)(n c:Nat)(V:Nat->Value):Prop where
 le:n<=c
 at_:0<n->∃ g o,A=some ⟨g,o,none⟩/\g<B/\∀ i,i<n->w.cell? ⟨g,o+i,none⟩=some (V i)
theorem SlG.keep{w w':World}{B n c:Nat}{A:Option Addr}{V:Nat->Value}(h:SlG w B A n c V)(hk:∀ g o,g<B->w'.cell? ⟨g,o,none⟩=w.cell? ⟨g,o,none⟩):SlG w' B A n c V:=
 ⟨h.le,fun hn=>by
  obtain ⟨g,o,e,hg,hc⟩:=h.at_ hn
  exact ⟨g,o,e,hg,fun i hi=>by rw[hk _ _ hg];exact hc i hi⟩⟩
theorem SlG.below{w w':World}{B n c:Nat}{A:Option Addr}{V:Nat->Value}(h:SlG w B A n c V)(hb:Below B w w'):SlG w' B A n c V:=
 h.keep fun g o hg=>hb.cell (p:=⟨g,o,none⟩) hg
theorem SlG.more{w:World}{B B' n c:Nat}{A:Option Addr}{V:Nat->Value}(h:SlG w B A n c V)(hB:B<=B'):SlG w B' A n c V:=
 ⟨h.le,fun hn=>by obtain ⟨g,o,e,hg,hc⟩:=h.at_ hn;exact ⟨g,o,e,by omega,hc⟩⟩
theorem SlG.congr{w:World}{B n c:Nat}{A:Option Addr}{V V':Nat->Value}(h:SlG w B A n c V)(e:∀ i,i<n->V i=V' i):SlG w B A n c V':=
 ⟨h.le,fun hn=>by obtain ⟨g,o,e',hg,hc⟩:=h.at_ hn;exact ⟨g,o,e',hg,fun i hi=>by rw[<-e i hi];exact hc i hi⟩⟩
def nth(l:List Value):Nat->Value:=fun i=>l.getD i undef
theorem nth_at(l:List Value)(i:Nat)(h:i<l.length):l[i]? =some (nth l i):=by unfold nth;simp[h]
theorem ownsRow_slG{w:World}{base n:Nat}{u:TypeId}{v:Value}{l:List Value}(h:w.ownsRow base u 1 v n l):
  ∃ A c,v=.slice A n c/\SlG w w.heap.size A n c (nth l)/\c<=maxLen/\(A=none\/∃ g,A=some ⟨g,0,none⟩/\base<=g):=by
 rcases h.2 with ⟨rfl,h0⟩|⟨g,cap,cur,rfl,hb,hh,hc,hm,hcs,htk⟩
 ·subst h0;exact ⟨none,0,rfl,⟨Nat.le_refl _,fun e=>by omega⟩,Nat.zero_le _,.inl rfl⟩
 ·refine ⟨_,_,rfl,⟨hc,fun hn=>⟨g,0,rfl,(Array.getElem?_eq_some_iff.1 hh).1,fun i hi=>?_⟩⟩,hm,.inr ⟨g,rfl,hb⟩⟩
  have e:=h.cells (g:=g) rfl i (nth l i) (nth_at l i (by rw[h.1];omega))
  rw[yK] at e;exact e
theorem ownsRow_row{w:World}{base n:Nat}{u:TypeId}{v:Value}{l:List Value}(h:w.ownsRow base u 1 v n l)(hn:0<n):
  ∃ g c cur,v=.slice (some ⟨g,0,none⟩) n c/\base<=g/\n<=c/\row w g=some cur/\∀ i,i<n->cur[i]? =some (nth l i):=by
 rcases h.2 with ⟨rfl,h0⟩|⟨g,cap,cur,rfl,hb,hh,hc,hm,hcs,htk⟩
 ·omega
 ·refine ⟨g,cap,cur,rfl,hb,hc,row_of hh,fun i hi=>?_⟩
  have e:=nth_at l i (by rw[h.1];omega)
  rw[<-e,<-htk,List.getElem?_take,if_pos (by omega)]
  simp
theorem slG_row{w:World}{g B n c:Nat}{cur:Array Value}{V:Nat->Value}(hr:row w g=some cur)(hB:g<B)(hc:n<=c)(h:∀ i,i<n->cur[i]? =some (V i)):SlG w B (some ⟨g,0,none⟩) n c V:=
 ⟨hc,fun _=>⟨g,0,rfl,hB,fun i hi=>by rw[zC hr,Nat.zero_add,h i hi]⟩⟩
theorem ownsRow_below{w w':World}{B base n:Nat}{u:TypeId}{v:Value}{l:List Value}(h:w.ownsRow base u 1 v n l)(hb:Below B w w')(hB:w.heap.size<=B):w'.ownsRow base u 1 v n l:=by
 refine ⟨h.1,?_⟩;rcases h.2 with hn|⟨g,cap,cur,rfl,hbg,hg,rest⟩
 ·exact .inl hn
 ·exact .inr ⟨g,cap,cur,rfl,hbg,by rw[hb.block g (by have:=(Array.getElem?_eq_some_iff.1 hg).1;omega)];exact hg,rest⟩
theorem ownsRow_after{w w' a:World}{B base n:Nat}{u:TypeId}{v:Value}{l:List Value}(h:w.ownsRow base u 1 v n l)(hg:w.grownBy w' v.ownBlock)(hb:Below B a w)(hB:B<=w.heap.size)(hbase:B<=base):Below B a w':=
 hb.grown hg hB (fun k hk=>by have:=(World.ownsRow.lt h k hk).1;omega)
theorem run_appOne{P:Program}{w:World}{t ty u:TypeId}{z:Value}{bytes:Nat}(ht:P.underlying t=some (.slice u))(hi:(P.info? u).map (fun i=>(i.zero,i.size,i.bytes))=some (some z,1,bytes))(hz:z.cells.size=1)(hb:bytes<=16)
  {base:Nat} {v:Value} {n:Nat} {l:List Value} (hown:w.ownsRow base u 1 v n l) {x:Value} (h1:x.oneCell'=true) (hn:n<=100000) (hbase:base<=w.heap.size):
  ∃ v' w',(Builtin.append_ #[t,t] ty #[v,.slice (some ⟨w.heap.size,0,none⟩) 1 1]).run P (w.alloc (.cells #[x] u))=.ok v' w'/\w'.ownsRow base u 1 v' (n+1) (l++[x])/\(w.alloc (.cells #[x] u)).grownBy w' v.ownBlock:=by
 cases hq:P.info? u with
 |none=>rw[hq] at hi;cases hi
 |some i=>
  rw[hq] at hi;have h0:(i.zero,i.size,i.bytes)=(some z,1,bytes):=Option.some.inj hi;simp only[Prod.mk.injEq] at h0;obtain ⟨z0,z1,z2⟩:=h0
  obtain ⟨v',w',a1,a2,a3,_,_⟩:=run_append_own_at (P:=P) (w.alloc (.cells #[x] u)) base t ty u i z 1 bytes ht hq z0 z1 z2 hz (by decide) v n l (hown.alloc _) ⟨w.heap.size,0,none⟩ 1 1 [x] rfl
   (fun j y hy=>by
    rcases j with _|j
    ·obtain rfl:x=y:=by simpa using hy
     rw[yK,zC (zA w #[x] u _ rfl)];rfl
    ·simp at hy)
   (fun y hy=>by obtain rfl:y=x:=by simpa using hy
                 exact h1) (by unfold maxLen;omega) (by have:=Nat.mul_le_mul (show n+1<=100001 by omega) hb;omega) (by simp;omega)
  exact ⟨v',w',a1,a2,a3⟩
theorem wpl_appOne{P:Program}{w:World}{ops:Array Oper}{rest:List Oper}{o:Oper}{a:Act}{Q:Exit->Act->World->Prop}(hgd:o.guard=none)(s y:Operand){t u:TypeId}{z:Value}{bytes:Nat}(ho:o.op=.call { callee:=.builtin .append,args:=#[s,y],argTypes:=#[t,t] })
  (ht:P.underlying t=some (.slice u)) (hi:(P.info? u).map (fun i=>(i.zero,i.size,i.bytes))=some (some z,1,bytes)) (hz:z.cells.size=1) (hb:bytes<=16)
  {base:Nat} {v:Value} {n:Nat} {l:List Value} (hown:w.ownsRow base u 1 v n l) {x:Value} (h1:x.oneCell'=true) (hn:n<=100000) (hbase:base<=w.heap.size)
  (hv:a.eval s=v) (hy:a.eval y=.slice (some ⟨w.heap.size,0,none⟩) 1 1)
  (h:∀ v' w',w'.ownsRow base u 1 v' (n+1) (l++[x])->(w.alloc (.cells #[x] u)).grownBy w' v.ownBlock->wpList P ops Q rest (a.put o.dst v') w'):wpList P ops Q (o::rest) a (w.alloc (.cells #[x] u)):=by
 refine wpList_plain hgd fun K hK=>?_
 obtain ⟨v',w',hr,g1,g2⟩:=run_appOne (ty:=o.type) ht hi hz hb hown h1 hn hbase;unfold Oper.wp execOp;simp only[ho,resolve,invoke,builtin,Sem.run_bind,Sem.run_pure,Result.andThen_ok,List.map_toArray,List.map_cons,List.map_nil,hv,hy,hr];exact hK _ _ (h v' w' g1 g2)
section
variable {H:Type} {enc:TypeId×Value->H} {P:Program} {w:World} {base:Nat} {spare:Nat->Bool} {held:Bool}
theorem reach_sl{t e:TypeId}(ht:P.underlying t=some (.slice e)){A:Option Addr}{n c:Nat}{d:DataW H}{p:List MemPlace}(h:DataW.Trod enc P w base spare held t (.slice A n c) d p)
  {ts:List TypeId} {ds:List (DataW H)} (hz:(DataW.weightsEach P ts ds).all (·<=reachBytes)=true) {j:Nat} (htj:ts[j]? =some t) (hdj:ds[j]? =some d):n*P.bytesOf e<=140737488351232:=by
 obtain ⟨fuel,hf⟩:=h;rcases Deep.open_slice ht hf with ⟨hcs,_⟩|⟨a,len,cap,m,n',D,Pl,hcs,_,hl,hm,hmm,hx,_⟩
 ·have e0:(.slice A n c:Value)=.slice none 0 0:=by simpa[Value.cells] using hcs
  injection e0 with e1 e2 e3
  subst e2;omega
 ·have e0:(.slice A n c:Value)=.slice (some a) len cap:=by simpa[Value.cells] using hcs
  injection e0 with e1 e2 e3
  subst e2;have hd:d=.slice ((List.range n).map D) ((List.range (m-n)).map fun j=>D (n+j)):=congrArg Prod.fst hx
  subst hd;have:=sized_slice hz htj hdj ht;simp only[List.length_map,List.length_range,Nat.add_mul] at this;have e:reachBytes=140737488351232:=by decide
  omega
end
theorem run_appW{P:Program}{w:World}{t ty u:TypeId}(ht:P.underlying t=some (.slice u))(hi:(P.info? u).map (fun i=>(i.zero,i.size,i.bytes))=some (some (.int .u8 0),1,1))
  {base:Nat} {v:Value} {n:Nat} {f:Bf} (hown:Own w base u v n f) {B m c:Nat} {A:Option Addr} {g:Bf} (hs:Sl w B A m c g) (hnm:n+m<=200000000000000) (hbase:base<=w.heap.size):
  ∃ v' w',(Builtin.append_ #[t,t] ty #[v,.slice A m c]).run P w=.ok v' w'/\Own w' base u v' (n+m) (catF n f g)/\w.grownBy w' v.ownBlock:=by
 by_cases hm:m=0
 ·subst hm
  cases hq:P.info? u with
  |none=>rw[hq] at hi;cases hi
  |some i=>
   rw[hq] at hi;have h0:(i.zero,i.size,i.bytes)=(some (.int .u8 0),1,1):=Option.some.inj hi;simp only[Prod.mk.injEq] at h0;obtain ⟨z0,z1,z2⟩:=h0
   cases A with
   |none=>
    refine ⟨v,w,?_,hown.congr fun k hk=>by simp only[catF];rw[if_pos (by omega)],⟨rfl,rfl,rfl,Nat.le_refl _,fun _ _ _=>rfl⟩⟩
    unfold Own at hown;rcases hown.2 with ⟨rfl,rfl⟩|⟨g,cap,cur,rfl,_,_,hnc,_⟩
    ·simp[Builtin.append_,run_underlying ht,sizeOf,typeInfo,hq,Builtin.lenOf,Builtin.firstCells]
    ·simp[Builtin.append_,run_underlying ht,sizeOf,typeInfo,hq,Builtin.lenOf,Builtin.firstCells,hnc,storeCells]
   |some ad=>
    obtain ⟨v',w',h1,h2,h3,_⟩:=run_append_own_wide (P:=P) w base t ty u i (.int .u8 0) 1 1 ht hq z0 z1 z2 rfl (by decide) v n (ba n f).toList hown ad 0 c [] rfl (fun j x hx=>by simp at hx) (fun x hx=>by cases hx) (by unfold maxLen;omega) (by omega) hbase
    refine ⟨v',w',h1,?_,h3⟩;rw[List.append_nil] at h2;exact Own.congr h2 fun k hk=>by simp only[catF];rw[if_pos (by omega)]
 ·obtain ⟨i,hq,z0,z1,z2⟩:=info_parts hi
  have hl:(ba m g).toList.length=m*1:=by rw[Array.length_toList,zI];omega
  obtain ⟨a,o,rfl,_,hc⟩:=hs.at_ (by omega)
  obtain ⟨v',w',h1,h2,h3,_⟩:=run_append_own_wide (P:=P) w base t ty u i (.int .u8 0) 1 1 ht hq z0 z1 z2 rfl (by decide) v n (ba n f).toList hown ⟨a,o,none⟩ m c (ba m g).toList hl
   (fun j x hx=>by
    rw[Array.getElem?_toList] at hx
    by_cases hj:j<m
    ·rw[yA m g j hj] at hx
     rw[yK,hc j hj,hx]
    ·rw[yS m g j hj] at hx;cases hx)
   (fun x hx=>(Array.all_eq_true_iff_forall_mem.1 (ba_one m g)) x (by simpa using hx)) (by unfold maxLen;omega) (by omega) hbase
  refine ⟨v',w',h1,?_,h3⟩;unfold Own;rw[<-cat_ba];exact h2
theorem wpl_appW{P:Program}{w:World}{ops:Array Oper}{rest:List Oper}{o:Oper}{a:Act}{Q:Exit->Act->World->Prop}(hgd:o.guard=none)(s x:Operand){t u:TypeId}(ho:o.op=.call { callee:=.builtin .append,args:=#[s,x],argTypes:=#[t,t] })
  (ht:P.underlying t=some (.slice u)) (hi:(P.info? u).map (fun i=>(i.zero,i.size,i.bytes))=some (some (.int .u8 0),1,1))
  {base:Nat} {v:Value} {n:Nat} {f:Bf} (hown:Own w base u v n f) {B m c:Nat} {A:Option Addr} {g:Bf} (hs:Sl w B A m c g) (hnm:n+m<=200000000000000) (hbase:base<=w.heap.size)
  (hv:a.eval s=v) (hx:a.eval x=.slice A m c)
  (h:∀ v' w',Own w' base u v' (n+m) (catF n f g)->w.grownBy w' v.ownBlock->wpList P ops Q rest (a.put o.dst v') w'):wpList P ops Q (o::rest) a w:=by
 refine wpList_plain hgd fun K hK=>?_
 obtain ⟨v',w',hr,h1,h2⟩:=run_appW (ty:=o.type) ht hi hown hs hnm hbase;unfold Oper.wp execOp;simp only[ho,resolve,invoke,builtin,Sem.run_bind,Sem.run_pure,Result.andThen_ok,List.map_toArray,List.map_cons,List.map_nil,hv,hx,hr];exact hK _ _ (h v' w' h1 h2)
def Put(B:Nat)(c:Array Value)(w w':World):Prop:=Below w.heap.size (w.setRow B c) w'
def Off(B n:Nat)(A:Option Addr):Prop:=0<n->∀ a,A=some a->a.block≠B
theorem Sl.off{w:World}{D n c B:Nat}{A:Option Addr}{b:Bf}(h:Sl w D A n c b)(hB:D<=B):Off B n A:=fun hn a ha e=>by
 obtain ⟨g,o,e2,hg,_⟩:=h.at_ hn;rw[ha] at e2;obtain rfl:=Option.some.inj e2;simp only at e;omega
section
variable {B:Nat} {c c' c0:Array Value} {w w' w2:World}
theorem Put.row(h:Put B c w w')(hr:row w B=some c0):row w' B=some c:=by
 have e:(w.setRow B c).heap.size=w.heap.size:=by simp
 unfold Put at h;rw[<-e] at h;exact zD h (zE hr c)
theorem Put.size(h:Put B c w w'):w.heap.size<=w'.heap.size:=by have:=Below.size h;simpa using this
theorem Put.block(h:Put B c w w')(k:Nat)(hk:k<w.heap.size)(hB:k≠B):w'.heap[k]? =w.heap[k]? :=by
 rw[Below.block h k hk,setRow_other w B k c hB]
theorem Put.other(h:Put B c w w'){k:Nat}(hB:k≠B){c1:Array Value}(hr:Oct.row w k=some c1):Oct.row w' k=some c1:=by
 rw[yZ (h.block k (zK hr) hB)];exact hr
theorem Put.low(h:Put B c w w'){D:Nat}(hD:D<=B)(hB:D<=w.heap.size):Below D w w':=(zG (Below.refl D w) hD c).trans (Below.mono h hB)
theorem Put.sl(h:Put B c w w'){A:Option Addr}{n m D:Nat}{b:Bf}(hs:Sl w D A n m b)(hD:D<=w.heap.size)(ho:Off B n A):Sl w' D A n m b:=
 ⟨hs.le,fun hn=>by
  obtain ⟨g,o,e,hg,hc⟩:=hs.at_ hn;refine ⟨g,o,e,hg,fun i hi=>?_⟩
  have hb:=h.block g (by omega) (ho hn _ e)
  rw[show w'.cell? ⟨g,o+i,none⟩=w.cell? ⟨g,o+i,none⟩ by unfold World.cell?;rw[hb]]
  exact hc i hi⟩
theorem Put.then(h:Put B c w w')(hr:Oct.row w B=some c0)(h2:Put B c' w' w2):Put B c' w w2:=by
 unfold Put at h h2 ⊢;have hs:w.heap.size<=w'.heap.size:=by have:=Below.size h;simpa using this
 obtain ⟨t,ht⟩:=row_is hr;have hlt:=zK hr;have e0:(w.setRow B c).heap[B]? =some (.cells c t (0,0)):=setRow_heap w B c0 c t _ ht;have e1:w'.heap[B]? =some (.cells c t (0,0)):=by rw[Below.block h B hlt,e0]
 refine ⟨?_,?_,?_,?_,fun k hk=>?_⟩
 ·exact (h2.1).trans (h.1)
 ·exact (h2.2).trans (h.2)
 ·exact (h2.3).trans (h.3)
 ·have:=Below.size h2;simp at this ⊢;omega
 ·rw[Below.block h2 k (by omega)]
  by_cases hkB:k=B
  ·subst hkB
   rw[setRow_heap w' k c c' t _ e1,setRow_heap w k c0 c' t _ ht]
  ·rw[setRow_other _ _ _ _ hkB,setRow_other _ _ _ _ hkB,Below.block h k hk,setRow_other _ _ _ _ hkB]
theorem Put.of(h:Below w.heap.size w w')(hB:B<w.heap.size)(c:Array Value):Put B c w (w'.setRow B c):=by
 unfold Put;refine ⟨h.1,h.2,h.3,?_,fun k hk=>?_⟩
 ·have:=h.size;simp;omega
 ·by_cases hkB:k=B
  ·subst hkB
   simp only[World.setRow,Array.getElem?_modify,if_pos,h.block k hk]
  ·rw[setRow_other _ _ _ _ hkB,setRow_other _ _ _ _ hkB,h.block k hk]
theorem Put.calm(h:Put B c w w')(h2:Below w'.heap.size w' w2):Put B c w w2:=Below.trans h (h2.mono h.size)
theorem Put.behind(h:Below w.heap.size w w')(hB:B<w.heap.size)(h2:Put B c w' w2):Put B c w w2:=by
 have h1:=Put.of h hB c;unfold Put at h1 h2 ⊢;exact h1.trans (h2.mono h.size)
theorem Put.nil(hr:Oct.row w B=some c):Put B c w w:=by unfold Put;rw[yF hr];exact Below.refl _ _
end
end Go.Proofs.YteffjpdcghlnlaaGreatDoor.Oct
