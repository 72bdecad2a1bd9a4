import Derived.Test.YteffjpdcghlnlaaGreatDoorZfH
set_option linter.unusedVariables false
set_option linter.unusedSimpArgs false
set_option maxHeartbeats 8000000
set_option maxRecDepth 20000
namespace Go.Proofs.YteffjpdcghlnlaaGreatDoor.Oct
open Go.ChangeShapes Go.WideShapes Go.ChangeAt Go.RowKit
variable {ko:Nat} {kR:Array Value}
theorem hld_len:Tryz.prog.arrayLen 74=8:=by kernel_rfl
theorem hld_elem:Tryz.prog.elem 74=73:=by kernel_rfl
theorem vsa_len:Tryz.prog.arrayLen 71=4:=by kernel_rfl
theorem vsa_elem:Tryz.prog.elem 71=63:=by kernel_rfl
theorem size_of{P:Program}{t m:Nat}(h:(P.info? t).map (·.size)=some m)(w:World):(sizeOf t).run P w=.ok m w:=by
 cases hq:P.info? t with
 |none=>rw[hq] at h;cases h
 |some i=>
  rw[hq] at h;have h0:i.size=m:=Option.some.inj h;simp[sizeOf,typeInfo,hq,h0]
theorem hld_slh(B m:Nat)(hm:m<=8)(w:World):(Instr.sliceAt 74 (.pointer (some ⟨B,ko,none⟩)) none (some (.int .i64 (m:Int))) none).run Tryz.prog w=.ok (.slice (some ⟨B,ko,none⟩) m 8) w:=by
 rw[run_sliceAt_array_h w 74 ⟨B,ko,none⟩ (by kernel_rfl) .i64 _ (by omega) (by rw[hld_len];omega),hld_elem,size_of kr_i,hld_len,Result.andThen_ok]
 unfold slicedAt;rw[if_neg (by omega),Int.toNat_natCast]
 rfl
theorem vsa_slh(B m:Nat)(hm:m<=4)(w:World):(Instr.sliceAt 71 (.pointer (some ⟨B,1,none⟩)) none (some (.int .i64 (m:Int))) none).run Tryz.prog w=.ok (.slice (some ⟨B,1,none⟩) m 4) w:=by
 rw[run_sliceAt_array_h w 71 ⟨B,1,none⟩ (by kernel_rfl) .i64 _ (by omega) (by rw[vsa_len];omega),vsa_elem,size_of ver_i,vsa_len,Result.andThen_ok]
 unfold slicedAt;rw[if_neg (by omega),Int.toNat_natCast]
 rfl
theorem vsa_sla(B:Nat)(w:World):(Instr.sliceAt 71 (.pointer (some ⟨B,1,none⟩)) none none none).run Tryz.prog w=.ok (.slice (some ⟨B,1,none⟩) 4 4) w:=by
 rw[run_sliceAt_array_all w 71 ⟨B,1,none⟩ (by kernel_rfl),vsa_elem,size_of ver_i,vsa_len,Result.andThen_ok]
 rfl
theorem pcv_any(g o c:Nat)(l:List Ve)(w:World)(hs:VRd w (.slice (some ⟨g,o,none⟩) l.length c) l)(hl:l.length<=1000):
  Calls Tryz.prog 129 #[.slice (some ⟨g,o,none⟩) l.length c] w fun e w'=>∃ A' c',e=.returned (.slice A' l.length c')/\w'.ownsRow 0 63 34 (.slice A' l.length c') l.length (vsC l)/\(∀ k,(Value.slice A' l.length c').ownBlock=some k->w.heap.size<=k)/\Below w.heap.size w w':=by
 have HS:=Lib.hid hs;obtain ⟨n,hn⟩:∃ n,n=l.length:=⟨_,rfl⟩;have HN:=Lib.hid hn;rw[<-hn] at hl ⊢;obtain ⟨w1,hw1⟩:∃ w1,w1=w.alloc (.cells #[] 63):=⟨_,rfl⟩;have b1:Below w.heap.size w w1:=by rw[hw1];exact (Below.refl w.heap.size w).alloc (by simp) _
 have o1:w1.ownsRow 0 63 34 (.slice (some ⟨w.heap.size,0,none⟩) 0 0) 0 []:=by rw[hw1];exact World.ownsRow_made w #[] 0 (Nat.zero_le _) (Nat.zero_le _) rfl
 have h1:=HS.out.below b1;rw[<-hn] at h1;have HW1:=Lib.hid hw1;have B1:=Lib.hid b1;have hw:w.heap.size<w1.heap.size:=by rw[hw1];simp
 clear hs hn b1 hw1;have qT:=fun (w:World) (n c:Nat)=>Lib.run_eql_slice_nil (P:=Tryz.prog) w 57 63 (some ⟨g,o,none⟩) n c 0 0 vers_u
 go_enter Tryz.func129,Tryz.ntmps129;go_wp2_with (rw[<-HW1.out];refine wpl_appRd rfl (.tmp 5) (.tmp 6) rfl vers_u ver_info (veA_size _) (by decide) o1 h1 (by rw[<-HN.out];omega) rfl rfl ?_;intro v4 w4 ho4 hg4 ht4)
 go_ret;have hf:Below w.heap.size w w4:=B1.out.grown hg4 B1.out.size (fun k e=>by cases e;exact Nat.le_refl _)
 have htg:∀ k,v4.ownBlock=some k->w.heap.size<=k:=fun k hk=>by
  rcases ht4 with e|e<;>rw[e] at hk<;>cases hk
  ·exact Nat.le_refl _
  ·exact B1.out.size
 have V4:∀ (T:Mk) t,VsAt (paint T w.heap.size t) w4 t 63 v4 l:=fun T t=>⟨ho4,fun k hk=>zP (htg k hk)⟩
 obtain ⟨A5,c5,hv5,-⟩:=(V4 (fun _=>0) 0).form
 subst hv5;rw[HN.out];exact ⟨A5,c5,rfl,ho4,htg,hf⟩
def kyX(c:Array Value)(q:Nat):Array Value:=c.extract q (q+138)
theorem kyX_size{c:Array Value}{q:Nat}(h:q+138<=c.size):(kyX c q).size=138:=by unfold kyX;rw[Array.size_extract];omega
theorem kyX_ones{c:Array Value}{q:Nat}(h:Ones c):Ones (kyX c q):=by
 unfold Ones kyX at*;rw[Array.all_eq_true] at*;intro j hj;rw[Array.size_extract] at hj;rw[Array.getElem_extract];exact h _ (by omega)
theorem kyX_key{c:Array Value}{q:Nat}{r:Rg}(h:KyC c q r)(hs:q+138<=c.size):KyC (kyX c q) 0 r:=
 h.eq fun j hj=>by unfold kyX;rw[Array.getElem?_extract,if_pos (by omega),Nat.zero_add]
theorem KyC.rd{c:Array Value}{r:Rg}{w:World}{X cap:Nat}(h:KyC c 0 r)(hr:row w X=some c)(hc:4<=cap)(hm:cap<=100):VRd w (.slice (some ⟨X,1,none⟩) r.l.length cap) r.l:=
 ⟨_,_,rfl,by have:=h.few;omega,by unfold maxLen;omega,(fun e=>by cases e),fun _=>⟨X,1,rfl,zK hr,fun i j hi hj=>by rw[zC hr,<-h.ver i hi j hj,Nat.zero_add]⟩⟩
def ClX(w:World)(X:Nat)(cx:Array Value)(y:World):Prop:=Below w.heap.size w y/\row y X=some cx
theorem ClX.alloc{w:World}{X:Nat}{cx:Array Value}:∀ (y:World) (z:Obj),ClX w X cx y->ClX w X cx (y.alloc z):=fun y z h=>⟨h.1.alloc h.1.size z,zN h.2 z⟩
theorem prs_any(T:Mk)(t t' B:Nat)(K:Ks)(w:World)(h:KpAt T w t B ko kR K)(hfr:∀ k,k<w.heap.size->¬ Hk t' (T k)):
  Calls Tryz.prog 71 #[.pointer (some ⟨B,ko,none⟩)] w fun e w'=>∃ v T',e=.returned v/\RsAt T' w' t' 59 63 v K/\Nk T T' t' w w':=by
 obtain ⟨cb,hrow,hks⟩:=h.at_;have h8:=h.ok.1;have HKS:=Lib.hid hks;have HROW:=Lib.hid hrow;have HFR:=Lib.hid hfr;have HOK:=Lib.hid h.ok;obtain ⟨n,hn⟩:∃ n,n=K.length:=⟨_,rfl⟩;have HN:=Lib.hid hn;have k1:∀ x:After w,x.val.cell? ⟨B,ko+1104,none⟩=some (.int .i64 (n:Int)):=fun x=>by rw[hn];exact hks.cell B (zD x.below hrow)
 rw[<-hn] at h8;have hsl:=hld_slh (ko:=ko) B n h8;clear h hks hrow hn hfr;go_enter Tryz.func71,Tryz.ntmps71;go_wp2_with fail;refine xD (by kernel_rfl) (by kernel_rfl) ?_
 repeat (go_big_quiet_step (fail))
 refine wpQuiet_nil ?_;rintro _ ⟨x,rfl⟩;obtain ⟨w0,hw0⟩:∃ wx,wx=x.val:=⟨_,rfl⟩;have B0:=Lib.hid x.below;rw[<-hw0] at B0 ⊢;clear hw0 k1 x;go_wp2_with fail;go_loopw [3,15] (fun ov iv wr=>∃ (j:Nat) (T':Mk),j<=n/\iv=.int .i64 j/\RsAt T' wr t' 59 63 ov (K.take j)/\(∀ k,k<w.heap.size->T' k=T k)/\(∀ k,T' k=T k\/Hk t' (T' k))/\Below w.heap.size w wr) (fun _ iv _=>n-(intOf iv).toNat)
 case atStart=>exact ⟨0,T,by omega,rfl,RsAt.nil,fun _ _=>rfl,fun _=> .inl rfl,B0.out⟩
 case round=>
  obtain ⟨j,T1,hj,rfl,hrs,htg,hmk,hb⟩:=hrel;have HMK:=Lib.hid hmk;clear hmk;obtain ⟨w1,rfl⟩:∃ w1:World,w1=wr:=⟨_,rfl⟩;have HRS:=Lib.hid hrs;have HTG:=Lib.hid htg;have HB:=Lib.hid hb
  by_cases hlt:j<n
  ·have hjK:j<K.length:=by have:=HN.out;omega
   have hlen:(K.take j).length=j:=by rw[List.length_take];omega
   have hsz:ko+j*138+138<=cb.size:=by have:=HKS.out.fitc;omega
   obtain ⟨r,hr⟩:∃ r,r=K[j]:=⟨_,rfl⟩;have hky:=HKS.out.key j (by omega)
   rw[rgI_lt hjK,<-hr] at hky;have hkx:=kyX_key hky hsz;have hsx:=kyX_size hsz;have hox:=kyX_ones (q:=ko+j*138) HKS.out.ones;obtain ⟨cx,hcx⟩:∃ cx,cx=kyX cb (ko+j*138):=⟨_,rfl⟩;rw[<-hcx] at hkx hsx hox
   have hld:∀ x:World,ldR Tryz.prog 73 138 x B (ko+j*138) (some cb)=.ok (.agg cx) x:=fun x=>by
    unfold ldR;simp only[if_pos hsz];rw[hcx];rfl
   have hst:∀ (x:World) (X:Nat),stR Tryz.prog 73 138 x X 0 (.agg cx) (some kyZ)=.ok () (x.setRow X cx):=fun x X=>stR_whole _ _ _ _ _ _ _ kyZ_size.symm (by rw[hsx,kyZ_size]) hox
   have rB:=zD hb HROW.out;obtain ⟨Ao,co,rfl,hleo,hmo,-⟩:=hrs.form;rw[hlen] at HRS ⊢;have HL:=Lib.hid hlen;have HR:=Lib.hid hr;have HKX:=Lib.hid hkx;obtain ⟨L,hL⟩:∃ L,L=r.l.length:=⟨_,rfl⟩;have hL4:L<=4:=by rw[hL];exact hkx.few
   have HLL:=Lib.hid hL;obtain ⟨w2,hw2⟩:∃ w2,w2=w1.alloc (.cells cx 73):=⟨_,rfl⟩;have b2:Below w1.heap.size w1 w2:=by rw[hw2];exact (Below.refl _ _).alloc (Nat.le_refl _) _
   have rX:row w2 w1.heap.size=some cx:=by rw[hw2];exact zA _ _ _ _ rfl
   have HW2:=Lib.hid hw2;have B2:=Lib.hid b2;have RX:=Lib.hid rX;clear hrs htg hb hlen hr hky hkx hsx hox hcx hL hw2 b2 rX
   have zO:∀ k,(Value.slice Ao j co).ownBlock=some k->w.heap.size<=k/\k<w1.heap.size/\T1 k=t':=fun k hk=>by
    obtain ⟨ys,hys,-⟩:=HRS.out.own;rw[HL.out] at hys;refine ⟨?_,(World.ownsRow.lt hys k hk).2,HRS.out.tg k hk⟩;rcases Nat.lt_or_ge k w.heap.size with h|h
    ·exact absurd ⟨by rw[<-HRS.out.tg k hk];exact Nat.le_of_eq (HTG.out k h),by rw[<-HTG.out k h,HRS.out.tg k hk];omega⟩ (HFR.out k h)
    ·exact h
   have ZO:=Lib.hid zO;have zw:=HB.out.size;clear zO;go_wp2_with fail;rw[<-HW2.out];obtain ⟨X,hX⟩:∃ X,X=w1.heap.size:=⟨_,rfl⟩;rw[<-hX] at RX ⊢;have HX:=Lib.hid hX;have hsl4:=vsa_slh X L hL4;have hXs:X<w2.heap.size:=zK RX.out;have hwX:w.heap.size<=X:=by omega
   clear hld hst rB hX;refine flow_many [.inl [0,1,2,3,4,5,6],pE 7,.inl [8],pS 9,pU 9,pE 10,.inl [11]] (ClX w X cx) (Value.slice Ao j co).ownBlock.toList (by kernel_rfl) (by kernel_rfl) (fun _ _ _ _ _ h=>h) (fun _ _ _ _ _ h=>h) ClX.alloc ⟨zQ (onto HB.out HB.out.size B2.out) 1,by rw[zS];exact RX.out⟩ (fun k hk=>by have h1:=(ZO.out k (by simpa using hk)).2.1;have h2:=B2.out.size;show k<w2.heap.size;omega) ?_
   have hne:Nonempty (In (ClX w X cx)):=⟨⟨w2,onto HB.out HB.out.size B2.out,RX.out⟩⟩;have B3:=Lib.hid (zQ (Below.refl w2.heap.size w2) 1);have r3:row (w2.drewN 1) X=some cx:=by rw[zS];exact RX.out
   have z3:(w2.drewN 1).heap.size=w2.heap.size:=rfl;obtain ⟨w3,hw3⟩:∃ w3,w3=w2.drewN 1:=⟨_,rfl⟩;rw[<-hw3] at B3 z3 r3 ⊢;clear hw3;have q1:∀ y:In (ClX w X cx),y.val.cell? ⟨X,0,none⟩=some (.bool r.off):=fun y=>by rw[zC y.ok.2];exact HKX.out.off
   have q2:∀ y:In (ClX w X cx),y.val.cell? ⟨X,137,none⟩=some (.int .i64 (L:Int)):=fun y=>by rw[zC y.ok.2,HLL.out];have:=HKX.out.cnt;rw[Nat.zero_add] at this;exact this
   refine wpM_q ?_;simp only[pk,List.getElem?_cons_zero,List.getElem?_cons_succ]
   repeat (go_big_quiet_step (fail))
   refine wpQuiet_nil ?_;clear q1 q2;refine wpM_e _ rfl (fun y2 hy2=>?_)
   have hcv:=pcv_any X 1 4 r.l y2.val (HKX.out.rd hy2.2 (by omega) (by omega)) (by rw[<-HLL.out];omega)
   rw[<-HLL.out] at hcv;have HCV:=Lib.hid hcv;have B4:=Lib.hid (onto (onto B2.out B2.out.size B3.out) (by have:=B2.out.size;have:=B3.out.size;omega) y2.below)
   have C4:=Lib.hid hy2;obtain ⟨w4,hw4⟩:∃ w4,w4=y2.val:=⟨_,rfl⟩;rw[<-hw4] at HCV B4 C4 ⊢;clear hcv hw4 hy2 y2;go_wp2_with fail;refine HCV.out.mono ?_;rintro e w5 ⟨A5,c5,rfl,ho5,htg5,hb5⟩;have B5:=Lib.hid (onto B4.out B4.out.size hb5);have C5:=Lib.hid (show ClX w X cx w5 from ⟨onto C4.out.1 C4.out.1.size hb5,zD hb5 C4.out.2⟩)
   have V5:=Lib.hid (show VsAt (paint T1 w1.heap.size (t'+1+j)) w5 (t'+1+j) 63 (.slice A5 L c5) r.l from ⟨by rw[HLL.out] at ho5 ⊢;exact ho5,fun k hk=>zP (by have:=htg5 k hk;have:=B4.out.size;omega)⟩)
   have F5:=Lib.hid (show Frm (Value.slice Ao j co).ownBlock.toList w4 w5 from Frm.of hb5)
   have hZ5:∀ k,(Value.slice Ao j co).ownBlock=some k->k<w5.heap.size:=fun k hk=>by have h1:=(ZO.out k hk).2.1;have h2:=B5.out.size;omega
   have HZ5:=Lib.hid hZ5;clear hb5 ho5 htg5 HCV hZ5;go_wp2_with fail;refine same_class (C:=ClX w X cx) (Value.slice Ao j co).ownBlock.toList F5.out (fun k hk=>⟨.inl hk,HZ5.out k (by simpa using hk)⟩) C5.out ClX.alloc ?_
   refine wpM_q ?_;simp only[pk,List.getElem?_cons_zero,List.getElem?_cons_succ]
   repeat (go_big_quiet_step (fail))
   refine wpQuiet_nil ?_;clear hne;refine wpM_s (fun p'=> .slice (some ⟨p',0,none⟩) 1 1) (.cells (rgA r.off (.slice A5 L c5)) 59) _ rfl rfl (fun w=>ex_rinK _ (.tmp 27) rfl _ _ _ _ rfl w) ?_
   refine wpM_u _ _ _ 28 (.head _) rfl rfl (fun y hy p2 hp21 hp22 hp23 hp24=>?_)
   refine wpM_e _ rfl (fun y2 hy2=>?_)
   have b46:=onto y.below y.below.size y2.below;have B6:=Lib.hid (onto B5.out B5.out.size b46);have V6:=Lib.hid (V5.out.fr (Fr.same (H:=fun _=>False) b46) (fun e=>e))
   have R6:=Lib.hid (zD y2.below (row_of hp24));have C6:=Lib.hid hy2;obtain ⟨w6,hw6⟩:∃ w6,w6=y2.val:=⟨_,rfl⟩;rw[<-hw6] at B6 V6 R6 C6 ⊢;clear hw6 hy2 hy hp23 hp24 hp22 b46 B5 V5 C5 C4 y2 y;have hrs6:=HRS.out.fr (Fr.new (T:=T1) (H:=fun _=>False) B6.out (t'+1+j)) (fun _ _ _ e=>e)
   have HRS6:=Lib.hid hrs6;obtain ⟨xs,hxs,hel⟩:=hrs6.own;have HEL:=Lib.hid hel;have HXS:=Lib.hid hxs;rw[HL.out] at hxs;have hrow6:row w6 p2=some ([.bool r.off,.slice A5 L c5]:List Value).toArray:=by rw[R6.out];unfold rgA;rfl
   clear hel hrs6;go_wp2_with (refine wpl_appK rfl (.tmp 19) (.tmp 28) rfl rins_u rin_info (rgA_size _ _) (by decide) (by decide) hxs hrow6 rfl (fun v hv=>by simp at hv;rcases hv with rfl|rfl<;>rfl) (by omega) rfl rfl ?_;intro v7 w7 ho7 hg7 ht7)
   have ho7':=ho7;rw[<-HL.out] at ho7';have hvs6:VsAt (paint T1 w1.heap.size (t'+1+j)) w6 (t'+1+(K.take j).length) 63 (.slice A5 L c5) r.l:=by rw[HL.out];exact V6.out
   have V7:=HRS6.out.app (r:=r) HXS.out HEL.out ho7' hg7 ht7 hvs6;rw[show K.take j++[r]=K.take (j+1) by rw[HR.out,List.take_append_getElem]] at V7
   have B7:=Lib.hid (C6.out.1.grown hg7 C6.out.1.size (fun k e=>(ZO.out k e).1))
   have HV7:=Lib.hid V7
   have HT7:=Lib.hid (show ∀ k,k<w.heap.size->paint (paint T1 w1.heap.size (t'+1+j)) w6.heap.size t' k=T k from fun k hk=>by
    rw[zH (by have:=B6.out.size;omega),zH (by omega)];exact HTG.out k hk)
   have hs7:=hg7.size
   have HM7:=Lib.hid (show ∀ k,paint (paint T1 w1.heap.size (t'+1+j)) w6.heap.size t' k=T k\/Hk t' (paint (paint T1 w1.heap.size (t'+1+j)) w6.heap.size t' k) from fun k=>by
    by_cases hk:k<w6.heap.size
    ·rw[zH hk]
     by_cases hk1:k<w1.heap.size
     ·rw[zH hk1];exact HMK.out k
     ·rw[zP (by omega)];exact .inr ⟨by omega,by omega⟩
    ·rw[zP (by omega)];exact .inr ⟨by omega,by omega⟩)
   have rX7:row w7 X=some cx:=by rw[yZ (hg7.block X (zK C6.out.2) (fun e=>by have:=(ZO.out X e.symm).2.1;have:=HX.out;omega))];exact C6.out.2
   refine same_class (C:=ClX w X cx) [] ((Frm.app hg7).more (fun k hk=>by simp;right;simpa using hk)) hot_none ⟨B7.out,rX7⟩ ClX.alloc ?_
   clear ho7 ho7' hg7 ht7 hvs6 R6 hrow6 HXS HEL HRS6 hxs V7 V6;have hne:Nonempty (In (ClX w X cx)):=⟨⟨w6,C6.out⟩⟩;refine wpM_q ?_;simp only[pk,List.getElem?_cons_zero,List.getElem?_cons_succ]
   repeat (go_big_quiet_step (fail))
   refine wpQuiet_nil ?_;clear hne;refine wpM_nil (fun y=>?_)
   have HV8:=Lib.hid (HV7.out.fr (Fr.same (H:=fun _=>False) y.below) (fun _ _ _ e=>e))
   have HB8:=Lib.hid (onto B7.out B7.out.size y.below);go_wp2_with fail;go_roundw
   case rel=>exact ⟨j+1,_,by omega,by go_num,HV8.out,HT7.out,HM7.out,HB8.out⟩
   case measure=>simp[intOf];omega
  ·obtain rfl:j=n:=by omega
   have HRS':=HRS.out;rw[List.take_of_length_le (by rw[<-HN.out];exact Nat.le_refl _)] at HRS'
   have HQ:=Lib.hid HRS';clear HRS' HRS hrs;go_wp2_with fail;go_ret;exact ⟨_,T1,rfl,HQ.out,⟨HB.out,HTG.out,HMK.out⟩⟩
open Go.Maps
theorem ta_i:(Tryz.prog.info? 81).map (·.size)=some 2:=by kernel_rfl
@[go_sem ↓] theorem ta_l(p:Value):Instr.loadAt 81 p=ldA 81 p:=rfl
@[go_sem] theorem ta_ld(w:World)(b o:Nat):(ldA 81 (.pointer (some ⟨b,o,none⟩))).run Tryz.prog w=ldR Tryz.prog 81 2 w b o (row w b):=ld_rowS _ _ Tryz.underlying81 rfl 2 ta_i w b o
@[go_sem] theorem ta_ldx(P:Program)(t:Nat)(w:World)(b:Nat)(x0 x1:Value):ldR P t 2 w b 0 (some #[x0,x1])=.ok (.agg #[x0,x1]) w:=xJ P t 2 w b _ rfl
@[go_sem] theorem sc_ld(w:World)(b o:Nat):(ldA 68 (.pointer (some ⟨b,o,none⟩))).run Tryz.prog w=ldR Tryz.prog 68 65 w b o (row w b):=ld_rowS _ _ Tryz.underlying68 rfl 65 src_i w b o
def stL0:List Value:=List.replicate 64 (.int .u8 0)++(.int .i64 0::(ksL0++[.map none,.int .i64 0]))
@[irreducible] def stZ:Array Value:=stL0.toArray
theorem st_z:(Tryz.prog.info? 85).map (·.zero)=some (some (.agg stZ)):=by unfold stZ;kernel_rfl
theorem stZ_flt:stZ=flt [(List.replicate 64 (Value.int .u8 0)++[Value.int .i64 0]).toArray,ksZ,#[.map none,.int .i64 0]]:=by
 unfold stZ stL0 flt ksZ;apply Array.ext';simp[List.flatMap_cons]
theorem st_flt(d:St)(n:Int)(ks:Array Value)(mv:Option Nat)(g:Int):flt [srcC #[] d.1 d.2 n,ks,#[.map mv,.int .i64 g]]=stC d n ks mv g:=by
 unfold stC srcC mtC flt;apply Array.ext';simp[List.flatMap_cons,List.append_assoc]
@[go_sem ↓] theorem st_bd(yI:Array (Nat×Value)):Instr.build 85 yI=bdA 85 yI:=rfl
theorem st_b3(d:St)(n:Int)(ks:Array Value)(mv:Option Nat)(g:Int)(hk:ks.size=1105)(w:World):
  (bdA 85 #[(0,.agg (srcC #[] d.1 d.2 n)),(1,.agg ks),(2,.agg #[.map mv,.int .i64 g])]).run Tryz.prog w=.ok (.agg (stC d n ks mv g)) w:=by
 refine run_lit _ _ _ _ [(0,65),(65,1105),(1170,2)] st_z (by kernel_rfl) ?_ w
 rw[stZ_flt,<-st_flt];have z1:((List.replicate 64 (Value.int .u8 0)++[Value.int .i64 0]).toArray).size=65:=by simp
 exact (xH (pre:=[]) (o:=0) (m:=65) rfl rfl z1.symm (by rw[z1];exact src_size _ _ _ _)).trans
  ((xH (pre:=[srcC #[] d.1 d.2 n]) (o:=65) (m:=1105) rfl (by simp[szs,src_size]) ksZ_size.symm (by rw[ksZ_size];exact hk)).trans
  (xH (pre:=[srcC #[] d.1 d.2 n,ks]) (o:=1170) (m:=2) rfl (by simp[szs,src_size,hk]) rfl rfl))
theorem StAt.made{T:Mk}{w:World}{t:Nat}{x:Sx}{ks:Array Value}{mv:Option Nat}(ht:0<t)(hk:KsC 0 ksZ ks x.K)(hm:MpV T w (t+1) mv x.l)(ok:SxOk x)(ty:TypeId):
  StAt (paint T w.heap.size t) (w.alloc (.cells (stC x.d x.n ks mv x.g) ty)) t w.heap.size x:=by
 have b:=(Below.refl w.heap.size w).alloc (Nat.le_refl _) (.cells (stC x.d x.n ks mv x.g) ty);exact ⟨zP (Nat.le_refl _),⟨ks,mv,zA _ _ _ _ rfl,hk,hm.fr (Fr.new (H:=fun _=>False) b t) (fun h=>h) (fun h=>h)⟩,ok⟩
theorem pnew16_any(T:Mk)(t:Nat)(a:Bf)(n cc:Nat)(A:Option Addr)(w:World)(htab:Tab w)(hs:Sl w w.heap.size A n cc a)(hn:n<=140737488354000)(ht:0<t):
  Calls Tryz.prog 11 #[.slice A n cc] w fun e w'=>∃ B,e=.returned (.pointer (some ⟨B,0,none⟩))/\StAt (paint T w.heap.size t) w' t B (st0 a n)/\Below w.heap.size w w':=by
 have HT:=Lib.hid htab;have HS:=Lib.hid hs;clear htab hs;go_enter Tryz.func11,Tryz.ntmps11;go_wp2_with fail;refine yE [([0],1,false),([2,3],4,false),([5,6],7,false),([8,9,10],11,true)] [12] (by kernel_rfl) (by kernel_rfl) (fun _ _ _ _ _ h=>h) fun X=>?_
 have B1:=Lib.hid X.below;have H1:=Lib.hid (dnew_any a n cc A X.val (HT.out.below X.below HT.out.pos) ((HS.out.below X.below).more X.below.size) hn);obtain ⟨w1,hw1⟩:∃ w1,w1=X.val:=⟨_,rfl⟩;rw[<-hw1] at B1 H1 ⊢;clear hw1 X HT HS;simp only[wpFs,pk,List.getElem?_cons_zero,List.getElem?_cons_succ]
 repeat (go_big_quiet_step (fail))
 refine wpQuiet_nil ?_;go_wp2_with fail;refine H1.out.mono ?_;rintro e w2 ⟨g,rfl,hg,hrg,hb2⟩;have R2:=Lib.hid hrg;have B2:=Lib.hid (onto B1.out B1.out.size hb2);have H2':=Lib.hid (wnew_any w2);go_wp2_with fail;refine ⟨.inr hb2,?_⟩;clear hrg hb2 H1 B1;have k1:=After.row R2.out;show wpQuiet _ _ _ _ _ _
 repeat (go_big_quiet_step (fail))
 refine wpQuiet_nil ?_;clear k1;go_wp2_with fail;refine H2'.out.mono ?_;rintro e w3 ⟨Bk,rfl,hkp,hBk,hb3⟩;obtain ⟨ck,hrk,hck⟩:=hkp.at_;have RK:=Lib.hid hrk;have HCK:=Lib.hid hck;have hcs:ck.size=1105:=ks_size hck;have B3:=Lib.hid (onto B2.out B2.out.size hb3);have H3:=Lib.hid (snew_any T t w3);go_wp2_with fail;refine ⟨.inr hb3,?_⟩;have hld:∀ x:World,ldR Tryz.prog 76 1105 x Bk 0 (some ck)=.ok (.agg ck) x:=fun x=>xJ _ _ _ _ _ _ hcs.symm
 clear hkp hrk hck hb3 H2' B2 R2;have k1:=After.row RK.out;show wpQuiet _ _ _ _ _ _
 repeat (go_big_quiet_step (fail))
 refine wpQuiet_nil ?_;clear k1 hld;go_wp2_with fail;refine H3.out.mono ?_;rintro e w4 ⟨Bt,rfl,hpt,hb4⟩;have rT:=hpt.row;rw[mtC_nil] at rT;have B4:=Lib.hid (onto B3.out B3.out.size hb4);have RT:=Lib.hid rT;go_wp2_with fail;refine ⟨.inr hb4,?_⟩;clear hpt hb4 H3 B3 RK rT;have bd3:=fun w=>st_b3 (updS newS a n) 1 ck none 0 hcs w
 have k1:=After.row RT.out;show wpQuiet _ _ _ _ _ _
 repeat (go_big_quiet_step (fail))
 refine wpQuiet_nil ?_;clear k1 bd3;go_wp2_with fail;have hM:=StAt.made (T:=paint T w.heap.size t) (w:=w4) (t:=t) (x:=st0 a n) (ks:=ck) (mv:=none) ht HCK.out (.inl ⟨rfl,rfl⟩) (st0_ok a n) 85;have b5:=(Below.refl w4.heap.size w4).alloc (Nat.le_refl _) (.cells (stC (updS newS a n) 1 ck none 0) 85)
 have e5:paint (paint T w.heap.size t) w4.heap.size t=paint T w.heap.size t:=by
  funext k;unfold paint
  split
  ·rfl
  ·rw[if_neg (by have:=B4.out.size;omega)]
 rw[e5] at hM;refine ⟨.inl trivial,?_⟩;show wpQuiet _ _ _ _ _ _
 repeat (go_big_quiet_step (fail))
 refine wpQuiet_nil ?_;go_wp2_with fail;go_ret;exact ⟨_,rfl,hM,onto B4.out B4.out.size b5⟩
theorem prings16_any(T:Mk)(t t' B:Nat)(x:Sx)(w:World)(hS:StAt T w t B x)(hfr:∀ k,k<w.heap.size->¬ Hk t' (T k)):
  Calls Tryz.prog 27 #[.pointer (some ⟨B,0,none⟩)] w fun e w'=>∃ v T',e=.returned v/\RsAt T' w' t' 59 63 v x.K/\Nk T T' t' w w':=by
 obtain ⟨R,hk,-⟩:=hS.keys;have H1:=Lib.hid (prs_any T t t' B x.K w (hk.mk' hS.tg) hfr);clear hS hk hfr;go_enter Tryz.func27,Tryz.ntmps27;go_wp2_with fail;refine H1.out.mono ?_;rintro e w1 ⟨v,T',rfl,hr,hn⟩;go_wp2_with fail;go_ret;exact ⟨v,T',rfl,hr,hn⟩
theorem pseats16_any(T:Mk)(t ts B:Nat)(x:Sx)(w:World)(hS:StAt T w t B x)(ht:0<t)(hts:0<ts)(h1:ts≠t)(h2:ts≠t+1):
  Calls Tryz.prog 49 #[.pointer (some ⟨B,0,none⟩)] w fun e w'=>∃ A c T',e=.returned (.tuple #[.slice A x.l.length c,.int .i64 (x.g+1)])/\ElAt 6 seEl T' w' ts A c x.l/\Fr T T' (fun x=>x=ts) w w':=by
 obtain ⟨R,mv,hp,-⟩:=hS.tab;have H1:=Lib.hid (pseats_any T t ts B mv x.l x.g w hp ht hts h1 h2 hS.ok.T);clear hS hp h1 h2;go_enter Tryz.func49,Tryz.ntmps49;go_wp2_with fail;refine H1.out.mono ?_;rintro e w1 ⟨A,c,T',rfl,hr,hn⟩;go_wp2_with fail;exact bodyPost_ret (v:=.tuple #[.slice A x.l.length c,.int .i64 (x.g+1)]) (by simp[results,Tryz.results49,go_sem]) rfl ⟨A,c,T',rfl,hr,hn⟩
def WrI(W:Nat)(l:By)(w:World):Prop:=∃ A c,row w W=some #[.slice A l.length c]/\Own w (W+1) 5 (.slice A l.length c) l.length (lf l)
def Wr(W:Nat)(l:By)(w w':World):Prop:=∃ A c,Put W #[.slice A l.length c] w w'/\Own w' (W+1) 5 (.slice A l.length c) l.length (lf l)
def WrO(D W:Nat)(l:By)(w:World):Prop:=∃ A c,row w W=some #[.slice A l.length c]/\Own w D 5 (.slice A l.length c) l.length (lf l)
section
variable {W:Nat} {l l' l2:By} {w w' w2:World}
theorem WrI.lt(h:WrI W l w):W<w.heap.size:=by obtain ⟨A,c,hr,-⟩:=h;exact zK hr
theorem Wr.inv(h:WrI W l w)(k:Wr W l' w w'):WrI W l' w':=by
 obtain ⟨A,c,hr,-⟩:=h;obtain ⟨A',c',hp,ho⟩:=k;exact ⟨A',c',hp.row hr,ho⟩
theorem Wr.trans(h:WrI W l w)(k:Wr W l' w w')(k2:Wr W l2 w' w2):Wr W l2 w w2:=by
 obtain ⟨A,c,hr,-⟩:=h;obtain ⟨A',c',hp,ho⟩:=k;obtain ⟨A2,c2,hp2,ho2⟩:=k2;exact ⟨A2,c2,hp.then hr hp2,ho2⟩
theorem Wr.behind(h:WrI W l w)(hb:Below w.heap.size w w')(k:Wr W l2 w' w2):Wr W l2 w w2:=by
 obtain ⟨A2,c2,hp2,ho2⟩:=k;exact ⟨A2,c2,Put.behind hb h.lt hp2,ho2⟩
theorem WrI.below(h:WrI W l w)(hb:Below w.heap.size w w'):WrI W l w':=by
 obtain ⟨A,c,hr,ho⟩:=h;exact ⟨A,c,zD hb hr,ho.below hb (Nat.le_refl _)⟩
theorem Wr.nil(h:WrI W l w):Wr W l w w:=by
 obtain ⟨A,c,hr,ho⟩:=h;exact ⟨A,c,Put.nil hr,ho⟩
theorem Wr.size(h:Wr W l w w'):w.heap.size<=w'.heap.size:=by obtain ⟨A,c,hp,-⟩:=h;exact hp.size
theorem Wr.block(h:Wr W l w w')(k:Nat)(hk:k<w.heap.size)(hn:k≠W):w'.heap[k]? =w.heap[k]? :=by obtain ⟨A,c,hp,-⟩:=h;exact hp.block k hk hn
theorem Wr.fr{T:Mk}{H:Nat->Prop}(h:Wr W l w w')(hW:H (T W))(t:Nat):Fr T (paint T w.heap.size t) H w w':=by
 obtain ⟨A,c,hp,-⟩:=h;have hb:Below w.heap.size (w.setRow W #[.slice A l.length c]) w':=hp;exact ⟨hb.1,hb.2,hb.3,hp.size,fun k hk hn=>hp.block k hk (fun e=>hn (by rw[e];exact hW)),fun k hk=>zH hk⟩
theorem Wr.of{n:Nat}{f:Bf}{v:Value}{D:Nat}(h:WrI W l w)(hb:Below w.heap.size w w')(ho:Own w' D 5 v n f)(hD:W<D)(hl:l2.length=n)(hf:∀ i,i<n->f i=lf l2 i):Wr W l2 w (w'.setRow W #[v]):=by
 obtain ⟨A,c,rfl,-,-,-⟩:=ho.sl;subst hl;refine ⟨A,c,Put.of hb h.lt _,?_⟩;exact ((ho.setRow W (fun e=>by have:=(World.ownsRow.lt ho W e).1;omega) _).base hD).congr hf
theorem WrO.of{n:Nat}{f:Bf}{v:Value}{D:Nat}{c:Array Value}(hr:row w' W=some c)(ho:Own w' D 5 v n f)(hD:W<D)(hl:l2.length=n)(hf:∀ i,i<n->f i=lf l2 i):WrO D W l2 (w'.setRow W #[v]):=by
 obtain ⟨A,c,rfl,-,-,-⟩:=ho.sl;subst hl;exact ⟨A,c,zE hr _,(ho.setRow W (fun e=>by have:=(World.ownsRow.lt ho W e).1;omega) _).congr hf⟩
theorem lf_more{k:Nat}{F:Bf}(i:Nat)(hi:i<l.length+k):catF l.length (lf l) F i=lf (l++bl k F) i:=by
 rw[lf_app];unfold catF
 by_cases h:i<l.length
 ·rw[if_pos h,if_pos h]
 ·rw[if_neg h,if_neg h,lf_bl _ _ _ (by omega)]
end
theorem wtext_any(W:Nat)(l:By)(n cc:Nat)(At:Option Addr)(f:Bf)(w:World)(h:WrI W l w)(ht:Sl w w.heap.size At n cc f)(hn:n<=4096)(hl:l.length<=10000000):
  Calls Tryz.prog 121 #[.pointer (some ⟨W,0,none⟩),.slice At n cc] w fun e w'=>e=.returned (.tuple #[])/\Wr W (l++eT n f) w w':=by
 have HW:=Lib.hid h;obtain ⟨A,c,hr,ho⟩:=h;have a0:=zC hr 0;have a0:w.cell? ⟨W,0,none⟩=some (.slice A l.length c):=a0;obtain ⟨A',c',e,hs,-,-⟩:=ho.sl;cases e;have H1:=Lib.hid (putt_any l.length c n cc A At (lf l) f w hs ht (by omega) hn)
 have HR:=Lib.hid hr;clear hs ho ht hr;go_enter Tryz.func121,Tryz.ntmps121;go_wp2_with fail;refine H1.out.mono ?_;rintro e w1 ⟨v,rfl,ho1,hb1⟩;obtain ⟨A1,k1,rfl,-,-,-⟩:=ho1.sl;have O1:=Lib.hid ho1;have B1:=Lib.hid hb1;have r1:=zD hb1 HR.out;have f1:=zJ r1 0;have c1:w1.cell? ⟨W,0,none⟩=some (.slice A l.length c):=zC r1 0;clear ho1 hb1 H1 a0;go_wp2_with fail;refine (mustb_ok _ _).mono ?_;rintro e w2 ⟨rfl,rfl⟩;go_wp2_with fail;go_end0;refine ⟨rfl,?_⟩;rw[zL r1];refine Wr.of HW.out B1.out O1.out HW.out.lt (by rw[List.length_append,eT_len]) fun i hi=>?_
 rw[eT_bl];exact lf_more i hi
theorem wnums_any(W:Nat)(l:By)(ns:List Nat)(cc:Nat)(At:Option Addr)(w:World)(h:WrI W l w)(ht:SlG w w.heap.size At ns.length cc (fun i=> .int .i64 ((ns.getD i 0:Nat):Int)))(hoff:∀ a,At=some a->a.block≠W)(hm:ns.length<=1000)(hn:∀ n∈ns,u63 n)(hl:l.length<=10000000):
  Calls Tryz.prog 122 #[.pointer (some ⟨W,0,none⟩),.slice At ns.length cc] w fun e w'=>e=.returned (.tuple #[])/\Wr W (l++ns.flatMap eN) w w'/\(ns≠[]->WrO w.heap.size W (l++ns.flatMap eN) w'):=by
 have HW:=Lib.hid h;have HT:=Lib.hid ht;have HO:=Lib.hid hoff;have HN:=Lib.hid hn;clear h ht hoff hn;go_enter Tryz.func122,Tryz.ntmps122;go_wp2_with fail;go_loopw [8] (fun iv wr=>∃ j:Nat,j<=ns.length/\iv=.int .i64 (j:Int)/\Wr W (l++(ns.take j).flatMap eN) w wr/\(0<j->WrO w.heap.size W (l++(ns.take j).flatMap eN) wr)) (fun iv _=>ns.length-(intOf iv).toNat)
 case atStart=>exact ⟨0,by omega,rfl,by simpa using Wr.nil HW.out,fun h=>absurd h (by omega)⟩
 case round=>
  obtain ⟨j,hj,rfl,hwr,hwo⟩:=hrel;obtain ⟨wo,rfl⟩:∃ wo:World,wo=wr:=⟨_,rfl⟩;have HR:=Lib.hid hwr;have HRO:=Lib.hid hwo;clear hwr hwo
  by_cases hlt:j<ns.length
  ·have hd:decide ((j:Int)<(ns.length:Int))=true:=by simp;omega
   obtain ⟨g,o,rfl,hg,hc⟩:=HT.out.at_ (by omega)
   have hc1:wo.cell? ⟨g,o+j,none⟩=some (.int .i64 ((ns[j]:Nat):Int)):=by
    rw[World.cell?_of_block (w:=w) (HR.out.block g hg (HO.out _ rfl)),hc j hlt,List.getD_eq_getElem?_getD,List.getElem?_eq_getElem hlt];rfl
   obtain ⟨A,c,hr,ho⟩:=HR.out.inv HW.out;obtain ⟨L,hL⟩:∃ L,L=l++(ns.take j).flatMap eN:=⟨_,rfl⟩
   have hLl:L.length<=10009000:=by
    rw[hL,List.length_append]
    have:∀ k,((ns.take k).flatMap eN).length<=9*k:=fun k=>by
     induction k with
     |zero=>simp
     |succ k ih=>
      by_cases hk:k<ns.length
      ·rw[List.take_succ_eq_append_getElem hk,List.flatMap_append,List.length_append]
       have:=encL_le ns[k];simp only[List.flatMap_cons,List.flatMap_nil,List.append_nil,eN_len];omega
      ·rw[List.take_of_length_le (by omega)] at ih ⊢
       omega
    have:=this j;omega
   rw[<-hL] at hr ho;have a0:wo.cell? ⟨W,0,none⟩=some (.slice A L.length c):=zC hr 0;obtain ⟨A',c',e,hs,-,-⟩:=ho.sl;cases e;have H1:=Lib.hid (put_any ns[j] L.length c A (lf L) wo hs (by omega) (HN.out _ (List.getElem_mem hlt)))
   have HRR:=Lib.hid hr;have HLL:=Lib.hid hL;have WI:=Lib.hid (show WrI W L wo from ⟨A,c,hr,ho⟩)
   have hcap:=HT.out.le;obtain ⟨x,hx⟩:∃ x:Nat,x=ns[j]:=⟨_,rfl⟩;rw[<-hx] at hc1 H1;have HX:=Lib.hid hx;clear hs ho hr hL hLl hc hx;go_wp2_with fail;refine H1.out.mono ?_;rintro e w1 ⟨v,rfl,ho1,hb1⟩;obtain ⟨A1,k1,rfl,-,-,-⟩:=ho1.sl;have O1:=Lib.hid ho1;have B1:=Lib.hid hb1;have r1:=zD hb1 HRR.out;have f1:=zJ r1 0;have c1:w1.cell? ⟨W,0,none⟩=some (.slice A L.length c):=zC r1 0;clear ho1 hb1 H1 a0 hc1;go_wp2_with fail;refine (mustb_ok _ _).mono ?_;rintro e w2 ⟨rfl,rfl⟩;have hw:IntKind.i64.wrap ((j:Int)+1)=(j:Int)+1:=IntWalk.i64_in _ (by omega)
   have W2:=Lib.hid (show Wr W (l++(ns.take (j+1)).flatMap eN) w (w2.setCell ⟨W,0,none⟩ (.slice A1 (L.length+encL x) k1)) by
    rw[zL r1];refine HR.out.trans HW.out ?_;refine Wr.of (l:=L) WI.out B1.out O1.out (Nat.lt_of_lt_of_le WI.out.lt (Nat.le_refl _)) ?_ fun i hi=>?_
    ·rw[List.take_succ_eq_append_getElem hlt,List.flatMap_append,<-List.append_assoc,<-HLL.out,List.length_append]
     simp only[List.flatMap_cons,List.flatMap_nil,List.append_nil,eN_len,HX.out]
    ·rw[List.take_succ_eq_append_getElem hlt,List.flatMap_append,<-List.append_assoc,<-HLL.out]
     simp only[List.flatMap_cons,List.flatMap_nil,List.append_nil];rw[<-HX.out]
     exact lf_more i hi)
   have O2:=Lib.hid (show WrO w.heap.size W (l++(ns.take (j+1)).flatMap eN) (w2.setCell ⟨W,0,none⟩ (.slice A1 (L.length+encL x) k1)) by
    rw[zL r1];refine WrO.of (D:=w.heap.size) r1 (O1.out.base HR.out.size) HW.out.lt ?_ fun i hi=>?_
    ·rw[List.take_succ_eq_append_getElem hlt,List.flatMap_append,<-List.append_assoc,<-HLL.out,List.length_append]
     simp only[List.flatMap_cons,List.flatMap_nil,List.append_nil,eN_len,HX.out]
    ·rw[List.take_succ_eq_append_getElem hlt,List.flatMap_append,<-List.append_assoc,<-HLL.out]
     simp only[List.flatMap_cons,List.flatMap_nil,List.append_nil];rw[<-HX.out]
     exact lf_more i hi)
   go_wp2_with fail;go_roundw
   case rel=>exact ⟨j+1,by omega,by go_num,W2.out,fun _=>O2.out⟩
   case measure=>simp[intOf];omega
  ·obtain rfl:j=ns.length:=by omega
   have hd:decide ((ns.length:Int)<(ns.length:Int))=false:=by simp
   have HR2:=HR.out;rw[List.take_length] at HR2;have HO2:=HRO.out;rw[List.take_length] at HO2;go_wp2_with fail;go_end0;exact ⟨rfl,HR2,fun h=>HO2 (List.length_pos_iff.2 h)⟩
theorem wflag_any(W:Nat)(l:By)(b:Bool)(w:World)(h:WrI W l w)(hl:l.length<=10000000):
  Calls Tryz.prog 123 #[.pointer (some ⟨W,0,none⟩),.bool b] w fun e w'=>e=.returned (.tuple #[])/\Wr W (l++eB b) w w':=by
 have key:∀ n:Nat,n<=1->Calls Tryz.prog 122 #[.pointer (some ⟨W,0,none⟩),.slice (some ⟨w.heap.size,0,none⟩) 1 1] (w.alloc (.cells #[.int .i64 (n:Int)] 3)) fun e w'=>e=.returned (.tuple #[])/\Wr W (l++eN n) w w':=fun n hn=>by
  have hb:Below w.heap.size w (w.alloc (.cells #[.int .i64 (n:Int)] 3)):=(Below.refl _ _).alloc (Nat.le_refl _) _
  refine (wnums_any W l [n] 1 _ _ (h.below hb) (slG_row (zA _ _ _ _ rfl) (by simp) (Nat.le_refl _) (fun i hi=>by
   obtain rfl:i=0:=by simp at hi;omega
   rfl)) (fun a ha e=>by cases ha;have:=h.lt;simp only at e;omega) (by simp) (fun m hm=>by simp at hm;omega) hl).mono ?_
  rintro e w' ⟨rfl,hw,-⟩;refine ⟨rfl,?_⟩;have:=Wr.behind h hb hw
  simpa using this
 have k0:=Lib.hid (key 0 (by omega))
 have k1:=Lib.hid (key 1 (by omega))
 clear key h
 cases b with
 |true=>
  go_enter Tryz.func123,Tryz.ntmps123;go_wp2_with fail;refine k1.out.mono ?_;rintro e w' ⟨rfl,hw⟩;go_wp2_with fail;go_end0;exact ⟨rfl,hw⟩
 |false=>
  go_enter Tryz.func123,Tryz.ntmps123;go_wp2_with fail;refine k0.out.mono ?_;rintro e w' ⟨rfl,hw⟩;go_wp2_with fail;go_end0;exact ⟨rfl,hw⟩
theorem key_sl_at(B o:Nat)(w:World):(Instr.sliceAt 61 (.pointer (some ⟨B,o,none⟩)) none none none).run Tryz.prog w=.ok (.slice (some ⟨B,o,none⟩) 32 32) w:=by
 rw[run_sliceAt_array_all w 61 ⟨B,o,none⟩ (by kernel_rfl),show Tryz.prog.elem 61=5 by kernel_rfl,u8_size,show Tryz.prog.arrayLen 61=32 by kernel_rfl,Result.andThen_ok]
 rfl
theorem wone_any(W:Nat)(l:By)(n:Nat)(w:World)(h:WrI W l w)(hn:u63 n)(hl:l.length<=10000000):
  Calls Tryz.prog 122 #[.pointer (some ⟨W,0,none⟩),.slice (some ⟨w.heap.size,0,none⟩) 1 1] (w.alloc (.cells #[.int .i64 (n:Int)] 3)) fun e w'=>e=.returned (.tuple #[])/\Wr W (l++eN n) w w':=by
 have hb:Below w.heap.size w (w.alloc (.cells #[.int .i64 (n:Int)] 3)):=(Below.refl _ _).alloc (Nat.le_refl _) _
 refine (wnums_any W l [n] 1 _ _ (h.below hb) (slG_row (zA _ _ _ _ rfl) (by simp) (Nat.le_refl _) (fun i hi=>by
  obtain rfl:i=0:=by simp at hi;omega
  rfl)) (fun a ha e=>by cases ha;have:=h.lt;simp only at e;omega) (by simp) (fun m hm=>by simp at hm;omega) hl).mono ?_
 rintro e w' ⟨rfl,hw,-⟩;refine ⟨rfl,?_⟩;have:=Wr.behind h hb hw
 simpa using this
theorem wtwo_any(W:Nat)(l:By)(n m:Nat)(w:World)(h:WrI W l w)(hn:u63 n)(hm:u63 m)(hl:l.length<=10000000):
  Calls Tryz.prog 122 #[.pointer (some ⟨W,0,none⟩),.slice (some ⟨w.heap.size,0,none⟩) 2 2] (w.alloc (.cells #[.int .i64 (n:Int),.int .i64 (m:Int)] 3)) fun e w'=>e=.returned (.tuple #[])/\Wr W (l++(eN n++eN m)) w w'/\WrO w.heap.size W (l++(eN n++eN m)) w':=by
 have hb:Below w.heap.size w (w.alloc (.cells #[.int .i64 (n:Int),.int .i64 (m:Int)] 3)):=(Below.refl _ _).alloc (Nat.le_refl _) _
 refine (wnums_any W l [n,m] 2 _ _ (h.below hb) (slG_row (zA _ _ _ _ rfl) (by simp) (Nat.le_refl _) (fun i hi=>by
  have:i=0\/i=1:=by simp at hi;omega
  rcases this with rfl|rfl<;>rfl)) (fun a ha e=>by cases ha;have:=h.lt;simp only at e;omega) (by simp) (fun k hk=>by simp at hk;omega) hl).mono ?_
 rintro e w' ⟨rfl,hw,ho⟩;have:=Wr.behind h hb hw;obtain ⟨A,c,o1,o2⟩:=ho (by simp)
 refine ⟨rfl,by simpa using this,?_⟩
 have o3:WrO w.heap.size W (l++[n,m].flatMap eN) w':=⟨A,c,o1,o2.base hb.size⟩
 simpa using o3
theorem eN_le(v:Nat):(eN v).length<=9:=by rw[eN_len];exact encL_le v
theorem eB_le(b:Bool):(eB b).length<=9:=eN_le _
theorem eT32_le(f:Bf):(eT 32 f).length<=41:=by rw[eT_len];have:=txL_le 32;omega
theorem eVe_le(v:Ve):(eVe v).length<=59:=by
 unfold eVe;rw[List.length_append,List.length_append];have:=eT32_le v.m;have:=eN_le v.u.toNat;have:=eB_le v.g;omega
theorem fm_le{α:Type}{e:α->By}{b:Nat}{l:List α}(h:∀ a∈l,(e a).length<=b):(l.flatMap e).length<=b*l.length:=by
 induction l with
 |nil=>simp
 |cons a l ih=>
  rw[List.flatMap_cons,List.length_append,List.length_cons,Nat.mul_succ];have:=h a (List.mem_cons_self ..);have:=ih fun x hx=>h x (List.mem_cons_of_mem _ hx)
  omega
theorem eRg_le(r:Rg)(h:r.l.length<=4):(eRg r).length<=254:=by
 unfold eRg;rw[List.length_append,List.length_append];have:=eB_le r.off;have:=eN_le r.l.length;have:=fm_le (e:=eVe) (l:=r.l) fun a _=>eVe_le a
 have:=Nat.mul_le_mul_left 59 h;omega
theorem take_fm{α:Type}(e:α->By){l:List α}{j:Nat}(h:j<l.length):(l.take (j+1)).flatMap e=(l.take j).flatMap e++e l[j]:=by
 rw[List.take_succ_eq_append_getElem h,List.flatMap_append];simp
theorem wsrc_any(W:Nat)(l:By)(d:St)(n:Nat)(B:Nat)(R:Array Value)(w:World)(h:WrI W l w)(hr:row w B=some (srcC R d.1 d.2 (n:Int)))(hn:u63 n)(hl:l.length<=1000000):
  Calls Tryz.prog 65 #[.pointer (some ⟨W,0,none⟩),.pointer (some ⟨B,0,none⟩)] w fun e w'=>e=.returned (.tuple #[])/\Wr W (l++(eT 32 d.1++(eT 32 d.2++eN n))) w w':=by
 have HW:=Lib.hid h;have H1:=Lib.hid (dstate_any d (n:Int) B w hr);clear h hr;go_enter Tryz.func65,Tryz.ntmps65;go_wp2_with fail;refine H1.out.mono ?_;rintro e w1 ⟨rfl,hb1⟩;obtain ⟨w2,hw2⟩:∃ w2,w2=(w1.alloc (.cells (ba 32 d.1) 66)).alloc (.cells (ba 32 d.2) 66):=⟨_,rfl⟩;have b2:Below w1.heap.size w1 w2:=by rw[hw2];exact ((Below.refl _ _).alloc (Nat.le_refl _) _).alloc (by simp) _
 have r1:row w2 w1.heap.size=some (ba 32 d.1):=by rw[hw2];exact zN (zA _ _ _ _ rfl) _
 have r2:row w2 (w1.heap.size+1)=some (ba 32 d.2):=by rw[hw2];exact zA _ _ _ _ (by simp)
 have W2:=HW.out.below (onto hb1 hb1.size b2);have BW:=Lib.hid (onto hb1 hb1.size b2);have s1:=Sl.of_row r1 w2.heap.size (zK r1);have H2':=Lib.hid (wtext_any W l 32 32 _ d.1 w2 W2 s1 (by omega) (by omega))
 have a1:=sum_sl_at w1.heap.size 0;have a2:=sum_sl_at (w1.heap.size+1) 0;have R2:=Lib.hid r2;have hW1:=HW.out.lt;have hs1:=hb1.size;have WI2:=Lib.hid W2;clear b2 r1 r2 s1 hb1 W2 H1;go_upto_region 1 with fail
 rw[<-hw2];clear hw2;go_wp2_with fail;refine H2'.out.mono ?_;rintro e w3 ⟨rfl,hw3⟩;have r3:=R2.out
 have s2:Sl w3 w3.heap.size (some ⟨w1.heap.size+1,0,none⟩) 32 32 d.2:=by
  obtain ⟨A,c,hp,-⟩:=hw3;exact Sl.of_row (hp.other (by omega) r3) _ (zK (hp.other (by omega) r3))
 have l1:(l++eT 32 d.1).length<=10000000:=by rw[List.length_append];have:=eT32_le d.1;omega
 have H3:=Lib.hid (wtext_any W _ 32 32 _ d.2 w3 (hw3.inv WI2.out) s2 (by omega) l1)
 have HW3:=Lib.hid hw3;clear hw3 r3 s2 H2' l1;go_wp2_with fail;refine H3.out.mono ?_;rintro e w4 ⟨rfl,hw4⟩;have HW4:=Lib.hid (Wr.trans WI2.out HW3.out hw4);have l2:(l++eT 32 d.1++eT 32 d.2).length<=10000000:=by rw[List.length_append,List.length_append];have:=eT32_le d.1;have:=eT32_le d.2;omega
 have H4:=Lib.hid (wone_any W _ n w4 (HW4.out.inv WI2.out) hn l2);clear hw4 H3 l2;go_wp2_with fail;refine H4.out.mono ?_;rintro e w5 ⟨rfl,hw5⟩;have HW5:=Lib.hid (Wr.behind HW.out BW.out (Wr.trans WI2.out HW4.out hw5));clear hw5 H4;go_wp2_with fail;go_end0;have:=HW5.out;rw[List.append_assoc,List.append_assoc] at this;exact ⟨rfl,this⟩
theorem wkeys_any(T:Mk)(t':Nat)(W:Nat)(l:By)(v:Value)(K:Ks)(w:World)(h:WrI W l w)(hR:RsAt T w t' 59 63 v K)(hn:¬ Hk t' (T W))(hK:okK K)(hl:l.length<=1000000):
  Calls Tryz.prog 66 #[.pointer (some ⟨W,0,none⟩),v] w fun e w'=>e=.returned (.tuple #[])/\Wr W (l++(eN K.length++K.flatMap eRg)) w w':=by
 have HW:=Lib.hid h;have HR:=Lib.hid hR;have HN:=Lib.hid hn;have HK:=Lib.hid hK;have h8:=hK.1;obtain ⟨A,c,rfl,hlc,hcm,-⟩:=hR.form;obtain ⟨n,hnn⟩:∃ n,n=K.length:=⟨_,rfl⟩;have H1:=Lib.hid (wone_any W l n w h (by omega) (by omega))
 have HNN:=Lib.hid hnn;rw[<-hnn] at h8 hlc ⊢;clear h hR hn hK hnn;go_enter Tryz.func66,Tryz.ntmps66;go_wp2_with fail;refine H1.out.mono ?_;rintro e w1 ⟨rfl,hw1⟩;have W1:=Lib.hid hw1;have R1:=Lib.hid (HR.out.fr (hw1.fr (T:=T) (H:=fun x=>x=T W) rfl 0) (fun c h1 h2 e=>HN.out (by rw[<-e];unfold Hk;have:=HNN.out;omega)))
 have TW1:=Lib.hid (show paint T w.heap.size 0 W=T W from zH HW.out.lt)
 obtain ⟨T1,hT1⟩:∃ T1,T1=paint T w.heap.size 0:=⟨_,rfl⟩;rw[<-hT1] at R1 TW1;obtain ⟨L,hL⟩:∃ L,L=l++eN n:=⟨_,rfl⟩;have hLl:L.length<=1000009:=by rw[hL,List.length_append];have:=eN_le n;omega
 have I1:=Lib.hid (show WrI W L w1 by rw[hL];exact hw1.inv HW.out)
 have HL:=Lib.hid hL;clear hw1 hT1 H1 hL;go_wp2_with fail;go_loopw [15] (fun iv wr=>∃ j:Nat,j<=n/\iv=.int .i64 (j:Int)/\Wr W (L++(K.take j).flatMap eRg) w1 wr) (fun iv _=>n-(intOf iv).toNat)
 case atStart=>exact ⟨0,by omega,rfl,by simpa using Wr.nil I1.out⟩
 case round=>
  obtain ⟨j,hj,rfl,hwr⟩:=hrel;obtain ⟨wo,rfl⟩:∃ wo:World,wo=wr:=⟨_,rfl⟩;have WO:=Lib.hid hwr;clear hwr
  by_cases hlt:j<n
  ·have hd:decide ((j:Int)<(n:Int))=true:=by simp;omega
   have hjK:j<K.length:=by have:=HNN.out;omega
   have RO:=HR.out;have r2:=R1.out.fr (WO.out.fr (T:=T1) (H:=fun x=>x=T W) TW1.out 0) (fun c h1 h2 e=>HN.out (by rw[<-e];unfold Hk;have:=HNN.out;omega))
   obtain ⟨A',c',e1,-,-,hat⟩:=r2.form;rw[<-HNN.out] at e1;cases e1;obtain ⟨g,cur,rfl,htg,hrow,-,-,hc⟩:=hat (by omega)
   obtain ⟨h4,vi,h5,h6⟩:=hc j hjK;obtain ⟨r,hr⟩:∃ r,r=K[j]:=⟨_,rfl⟩;rw[<-hr] at h4 h6;obtain ⟨A2,c2,rfl,hl2,hc2,-⟩:=h6.form;have hr4:r.l.length<=4:=by rw[hr];exact (HK.out.2 _ (List.getElem_mem hjK)).1.2
   obtain ⟨m,hm⟩:∃ m,m=r.l.length:=⟨_,rfl⟩;rw[<-hm] at h5 h6 hl2 hr4
   have hldr:ldR Tryz.prog 59 2 wo g (j*2) (row wo g)=.ok (.agg (rgA r.off (.slice A2 m c2))) wo:=
    rin_cells wo g (j*2) _ _ (by rw[zC hrow];exact h4) (by rw[zC hrow];exact h5)
   have IO:=WO.out.inv I1.out;obtain ⟨L1,hL1⟩:∃ L1,L1=L++(K.take j).flatMap eRg:=⟨_,rfl⟩
   have hL1l:L1.length<=1010000:=by
    rw[hL1,List.length_append];have:=fm_le (e:=eRg) (b:=254) (l:=K.take j) fun a ha=>eRg_le a (HK.out.2 a (List.mem_of_mem_take ha)).1.2
    rw[List.length_take] at this;have:=Nat.mul_le_mul_left 254 (show min j K.length<=8 by omega)
    omega
   rw[<-hL1] at IO;obtain ⟨w2,hw2⟩:∃ w2,w2=wo.alloc (.cells (rgA r.off (.slice A2 m c2)) 59):=⟨_,rfl⟩;have b2:Below wo.heap.size wo w2:=by rw[hw2];exact (Below.refl _ _).alloc (Nat.le_refl _) _
   have rX:row w2 wo.heap.size=some (rgA r.off (.slice A2 m c2)):=by rw[hw2];exact zA _ _ _ _ rfl
   have V2:=Lib.hid (h6.fr (Fr.new (H:=fun _=>False) b2 0) (fun h=>h))
   have tW2:paint (paint T1 w1.heap.size 0) wo.heap.size 0 W=T W:=by rw[zH IO.lt,zH (by have:=I1.out.lt;omega)];exact TW1.out
   obtain ⟨T2,hT2⟩:∃ T2,T2=paint (paint T1 w1.heap.size 0) wo.heap.size 0:=⟨_,rfl⟩;rw[<-hT2] at V2 tW2;obtain ⟨X,hX⟩:∃ X,X=wo.heap.size:=⟨_,rfl⟩;rw[<-hX] at rX;have hXW:X≠W:=by have:=IO.lt;omega
   have RX:=Lib.hid rX;have I2:=Lib.hid (IO.below b2);have B2:=Lib.hid b2;have HL1:=Lib.hid hL1;have HRR:=Lib.hid hr;have HM:=Lib.hid hm;have HX:=Lib.hid hX;have HIO:=Lib.hid IO;have TW2:=Lib.hid tW2;have x0:=rgA_c0 rX;have H3:=Lib.hid (wflag_any W L1 r.off w2 (IO.below b2) (by omega))
   clear r2 hat hrow hc h4 h5 h6 hr hm hL1 b2 rX hT2 hX tW2 RO htg IO;go_upto_region 4 with fail
   rw[<-hw2,<-HX.out];clear hw2 hldr;go_wp2_with fail;refine H3.out.mono ?_;rintro e w3 ⟨rfl,hw3⟩;have R3:row w3 X=some (rgA r.off (.slice A2 m c2)):=by obtain ⟨A,c,hp,-⟩:=hw3;exact hp.other hXW RX.out
   have x1:=rgA_c1 R3;have V3:=Lib.hid (V2.out.fr (hw3.fr (T:=T2) (H:=fun x=>x=T W) TW2.out 0) (fun e=>HN.out (by rw[<-e];unfold Hk;omega)))
   have I3:=Lib.hid (hw3.inv I2.out);have HW3:=Lib.hid hw3;have RX3:=Lib.hid R3;have l3:(L1++eB r.off).length<=1010010:=by rw[List.length_append];have:=eB_le r.off;omega
   have H4:=Lib.hid (wone_any W _ m w3 I3.out (by omega) (by omega))
   have TW3:=Lib.hid (show paint T2 w2.heap.size 0 W=T W by rw[zH I2.out.lt];exact TW2.out)
   clear hw3 R3 H3 x0;go_wp2_with fail;refine H4.out.mono ?_;rintro e w4 ⟨rfl,hw4⟩;have R4:row w4 X=some (rgA r.off (.slice A2 m c2)):=by obtain ⟨A,c,hp,-⟩:=hw4;exact hp.other hXW RX3.out
   have x2:=rgA_c1 R4;have V4:=Lib.hid (V3.out.fr (hw4.fr (T:=paint T2 w2.heap.size 0) (H:=fun x=>x=T W) TW3.out 0) (fun e=>HN.out (by rw[<-e];unfold Hk;omega)))
   have I4:=Lib.hid (hw4.inv I3.out);have TW4:=Lib.hid (show paint (paint T2 w2.heap.size 0) w3.heap.size 0 W=T W by rw[zH I3.out.lt];exact TW3.out)
   obtain ⟨T4,hT4⟩:∃ T4,T4=paint (paint T2 w2.heap.size 0) w3.heap.size 0:=⟨_,rfl⟩;rw[<-hT4] at V4 TW4;obtain ⟨L4,hL4⟩:∃ L4,L4=L1++eB r.off++eN m:=⟨_,rfl⟩;have hL4l:L4.length<=1010020:=by rw[hL4,List.length_append];have:=eN_le m;omega
   have HW4:=Lib.hid (show Wr W L4 w2 w4 by rw[hL4];exact Wr.trans I2.out HW3.out hw4)
   rw[<-hL4] at I4;have HL4:=Lib.hid hL4;clear hw4 R4 H4 x1 V3 V2 I3 HW3 RX3 TW3 TW2 hT4 hL4 l3 RX;go_wp2_with fail;clear x2;go_loopw [32] (fun iv wr=>∃ i:Nat,i<=m/\iv=.int .i64 (i:Int)/\Wr W (L4++(r.l.take i).flatMap eVe) w4 wr) (fun iv _=>m-(intOf iv).toNat)
   case atStart=>exact ⟨0,by omega,rfl,by simpa using Wr.nil I4.out⟩
   case round=>
    obtain ⟨i,hi,rfl,hwi⟩:=hrel;obtain ⟨wi,rfl⟩:∃ wi:World,wi=wr:=⟨_,rfl⟩;have WI:=Lib.hid hwi;clear hwi
    by_cases hli:i<m
    ·have hd2:decide ((i:Int)<(m:Int))=true:=by simp;omega
     have hiL:i<r.l.length:=by have:=HM.out;omega
     have v5:=V4.out.fr (WI.out.fr (T:=T4) (H:=fun x=>x=T W) TW4.out 0) (fun e=>HN.out (by rw[<-e];unfold Hk;omega))
     obtain ⟨A',c',e1,-,-,hat⟩:=v5.form;rw[<-HM.out] at e1;cases e1;obtain ⟨g2,cur2,rfl,-,hrow2,-,-,hc2'⟩:=hat (by omega)
     obtain ⟨y,hy⟩:∃ y,y=r.l[i]:=⟨_,rfl⟩
     have hld:ldR Tryz.prog 63 34 wi g2 (i*34) (row wi g2)=.ok (.agg (veA y)) wi:=ver_cells wi g2 (i*34) y fun j hj=>by
      rw[zC hrow2,hc2' i j hiL hj,hy]
     have hoy:okV y:=by rw[hy];exact (HK.out.2 r (by rw[HRR.out];exact List.getElem_mem hjK)).2 _ (List.getElem_mem hiL)
     obtain ⟨u,hu⟩:∃ u:Nat,y.u=(u:Int):=⟨y.u.toNat,by have:=hoy.1;omega⟩
     have hu16:u<=16:=by have:=hoy.1;omega
     have II:=WI.out.inv I4.out;obtain ⟨L5,hL5⟩:∃ L5,L5=L4++(r.l.take i).flatMap eVe:=⟨_,rfl⟩
     have hL5l:L5.length<=1010300:=by
      rw[hL5,List.length_append];have:=fm_le (e:=eVe) (b:=59) (l:=r.l.take i) fun a _=>eVe_le a
      rw[List.length_take] at this;have:=Nat.mul_le_mul_left 59 (show min i r.l.length<=4 by omega)
      omega
     rw[<-hL5] at II;obtain ⟨w5,hw5⟩:∃ w5,w5=wi.alloc (.cells (veA y) 63):=⟨_,rfl⟩;have b5:Below wi.heap.size wi w5:=by rw[hw5];exact (Below.refl _ _).alloc (Nat.le_refl _) _
     have rY:row w5 wi.heap.size=some (veA y):=by rw[hw5];exact zA _ _ _ _ rfl
     obtain ⟨Y,hY⟩:∃ Y,Y=wi.heap.size:=⟨_,rfl⟩;rw[<-hY] at rY;have hYW:Y≠W:=by have:=II.lt;omega
     have sl5:Sl w5 w5.heap.size (some ⟨Y,0,none⟩) 32 32 y.m:=⟨Nat.le_refl _,fun _=>⟨Y,0,rfl,zK rY,fun k hk=>by rw[Nat.zero_add,zC rY,<-Array.getElem?_toList,veA_list,veC_m y k hk]⟩⟩
     have H5:=Lib.hid (wtext_any W L5 32 32 _ y.m w5 (II.below b5) sl5 (by omega) (by omega))
     have I5:=Lib.hid (II.below b5);have B5:=Lib.hid b5;have HII:=Lib.hid II;have RY:=Lib.hid rY;have HY:=Lib.hid hY;have HYY:=Lib.hid hy;have HU:=Lib.hid hu;have HL5:=Lib.hid hL5;have ks:=key_sl_at Y 0;clear v5 hat hrow2 hc2' hoy hL5 b5 rY sl5 hY II hy hu;go_upto_region 9 with fail
     rw[<-hw5,<-HY.out];clear hw5 hld;go_wp2_with fail;refine H5.out.mono ?_;rintro e w6 ⟨rfl,hw6⟩;have R6:row w6 Y=some (veA y):=by obtain ⟨A,c,hp,-⟩:=hw6;exact hp.other hYW RY.out
     have y2:w6.cell? ⟨Y,32,none⟩=some (.int .i64 (u:Int)):=by rw[zC R6,veA_g32,HU.out]
     have I6:=Lib.hid (hw6.inv I5.out);have l6:(L5++eT 32 y.m).length<=1010350:=by rw[List.length_append];have:=eT32_le y.m;omega
     have H6:=Lib.hid (wone_any W _ u w6 I6.out (by omega) (by omega))
     have HW6:=Lib.hid hw6;have RY6:=Lib.hid R6;clear hw6 R6 H5 ks;go_wp2_with fail;refine H6.out.mono ?_;rintro e w7 ⟨rfl,hw7⟩;have R7:row w7 Y=some (veA y):=by obtain ⟨A,c,hp,-⟩:=hw7;exact hp.other hYW RY6.out
     have y3:w7.cell? ⟨Y,33,none⟩=some (.bool y.g):=by rw[zC R7,veA_g33]
     have I7:=Lib.hid (hw7.inv I6.out);have l7:(L5++eT 32 y.m++eN u).length<=1010360:=by rw[List.length_append];have:=eN_le u;omega
     have H7:=Lib.hid (wflag_any W _ y.g w7 I7.out (by omega))
     have HW7:=Lib.hid (Wr.trans I5.out HW6.out hw7);clear hw7 R7 H6 y2;go_wp2_with fail;refine H7.out.mono ?_;rintro e w8 ⟨rfl,hw8⟩
     have W8:=Lib.hid (show Wr W (L4++(r.l.take (i+1)).flatMap eVe) w4 w8 by
      refine Wr.trans I4.out WI.out (Wr.behind (l:=L5) HII.out B5.out ?_);have:=Wr.trans I5.out HW7.out hw8;rw[take_fm eVe hiL,<-List.append_assoc,<-HL5.out,<-HYY.out];unfold eVe;rw[show y.u.toNat=u by rw[HU.out];exact Int.toNat_natCast u,<-List.append_assoc,<-List.append_assoc]
      exact this)
     have hwr8:IntKind.i64.wrap ((i:Int)+1)=(i:Int)+1:=IntWalk.i64_in _ (by omega)
     clear hw8 H7 y3;go_wp2_with fail;go_roundw
     case rel=>exact ⟨i+1,by omega,by go_num,W8.out⟩
     case measure=>simp[intOf];omega
    ·obtain rfl:i=m:=by omega
     have hd2:decide ((i:Int)<(i:Int))=false:=by simp
     have W9:=WI.out;rw[HM.out,List.take_length] at W9
     have W9':=Lib.hid (show Wr W (L++(K.take (j+1)).flatMap eRg) w1 wi by
      refine Wr.trans I1.out WO.out (Wr.behind (l:=L1) HIO.out B2.out (Wr.trans I2.out HW4.out ?_));rw[take_fm eRg hjK,<-List.append_assoc,<-HL1.out,<-HRR.out];unfold eRg;rw[<-HM.out,<-List.append_assoc,<-List.append_assoc,<-HL4.out]
      exact W9)
     have hwr9:IntKind.i64.wrap ((j:Int)+1)=(j:Int)+1:=IntWalk.i64_in _ (by omega)
     clear W9;go_wp2_with fail;go_roundw
     case rel=>exact ⟨j+1,by omega,by go_num,W9'.out⟩
     case measure=>simp[intOf];omega
  ·obtain rfl:j=n:=by omega
   have hd:decide ((j:Int)<(j:Int))=false:=by simp
   have W9:=WO.out;rw[HNN.out,List.take_length] at W9
   have W9':=Lib.hid (show Wr W (l++(eN j++K.flatMap eRg)) w wo by
    refine Wr.trans HW.out W1.out ?_;rw[<-List.append_assoc,<-HL.out]
    exact W9)
   clear W9;go_wp2_with fail;go_end0;exact ⟨rfl,W9'.out⟩
theorem eRp_le(r:Rp)(h:rpG r):(eRp r).length<=4132:=by
 unfold eRp;obtain ⟨-,-,-,h⟩:=h;simp only[List.length_append,eT_len];have:=eN_le r.c.toNat;have:=eN_le r.n.toNat;have:=eN_le r.m.toNat;have:=txL_le r.T;omega
def seG(s:Se):Prop:=i63 s.id/\i63 s.q/\rpG (seR s)
theorem eSe_le(s:Se)(h:seG s):(eSe s).length<=4150:=by
 unfold eSe;simp only[List.length_append];have:=eN_le s.id.toNat;have:=eN_le s.q.toNat;have:=eRp_le _ h.2.2;omega
theorem Wr.more{W:Nat}{l l1:By}{w w4 w5:World}{v v5:Value}{k:Nat}{F:Bf}(hI:WrI W l w)(h:Wr W l1 w w4)(ho:Own w4 w.heap.size 5 v l1.length (lf l1))(hg:w4.grownBy w5 v.ownBlock)(h5:Own w5 w.heap.size 5 v5 (l1.length+k) (catF l1.length (lf l1) F)):
  Wr W (l1++bl k F) w (w5.setRow W #[v5]):=by
 obtain ⟨A,c,hp,-⟩:=h;have hp5:Put W #[.slice A l1.length c] w w5:=Own.after ho hg hp hp.size (Nat.le_refl _);obtain ⟨A',c',hr,-⟩:=hI;have hlt:=zK hr;obtain ⟨A5,c5,rfl,-,-,-⟩:=h5.sl;have e:l1.length+k=(l1++bl k F).length:=by rw[List.length_append,xL]
 have hr5:=hp5.row hr;refine ⟨A5,c5,?_,?_⟩
 ·rw[<-e]
  exact hp5.then hr (Put.of (Below.refl _ _) (zK hr5) _)
 ·rw[<-e]
  refine ((h5.setRow W (fun e=>by have:=(World.ownsRow.lt h5 W e).1;omega) _).congr fun i hi=>lf_more i hi).base hlt
theorem wsess_any(T:Mk)(ts:Nat)(W:Nat)(l:By)(A:Option Addr)(c:Nat)(L:List Se)(g:Nat)(w:World)(h:WrI W l w)(hE:ElAt 6 seEl T w ts A c L)(hn:T W≠ts)(hn0:T W≠0)(hG:∀ s∈L,seG s)(hg:u63 g)(h8:L.length<=8)(hl:l.length<=1000000):
  Calls Tryz.prog 67 #[.pointer (some ⟨W,0,none⟩),.slice A L.length c,.int .i64 (g:Int)] w fun e w'=>e=.returned (.tuple #[])/\Wr W (l++(eN g++(eN L.length++L.flatMap eSe))) w w':=by
 have HW:=Lib.hid h;have HE:=Lib.hid hE;have HN:=Lib.hid hn;have HN0:=Lib.hid hn0;have HG:=Lib.hid hG;obtain ⟨n,hnn⟩:∃ n,n=L.length:=⟨_,rfl⟩;have H1:=Lib.hid (wtwo_any W l g n w h hg (by omega) (by omega))
 have HNN:=Lib.hid hnn;have hlc:n<=c:=by have:=hE.le;omega
 have hcm:=hE.big;rw[<-hnn] at h8 ⊢;clear h hE hn hn0 hG hnn;go_enter Tryz.func67,Tryz.ntmps67;go_wp2_with fail;refine H1.out.mono ?_;rintro e w1 ⟨rfl,hw1,-⟩;have W1:=Lib.hid hw1;have E1:=Lib.hid (HE.out.fr yL (hw1.fr (T:=T) (H:=fun x=>x=T W) rfl 0) (fun e=>HN.out e.symm) (fun e=>HN0.out e.symm))
 have TW1:=Lib.hid (show paint T w.heap.size 0 W=T W from zH HW.out.lt)
 obtain ⟨T1,hT1⟩:∃ T1,T1=paint T w.heap.size 0:=⟨_,rfl⟩;rw[<-hT1] at E1 TW1;obtain ⟨L1,hL1⟩:∃ L1,L1=l++(eN g++eN n):=⟨_,rfl⟩;have hL1l:L1.length<=1000018:=by rw[hL1,List.length_append,List.length_append];have:=eN_le n;have:=eN_le g;omega
 have I1:=Lib.hid (show WrI W L1 w1 by rw[hL1];exact hw1.inv HW.out)
 have HL1:=Lib.hid hL1;clear hw1 hT1 H1 hL1;go_wp2_with fail;go_loopw [16] (fun iv wr=>∃ j:Nat,j<=n/\iv=.int .i64 (j:Int)/\Wr W (L1++(L.take j).flatMap eSe) w1 wr) (fun iv _=>n-(intOf iv).toNat)
 case atStart=>exact ⟨0,by omega,rfl,by simpa using Wr.nil I1.out⟩
 case round=>
  obtain ⟨j,hj,rfl,hwr⟩:=hrel;obtain ⟨wo,rfl⟩:∃ wo:World,wo=wr:=⟨_,rfl⟩;have WO:=Lib.hid hwr;clear hwr
  by_cases hlt:j<n
  ·have hd:decide ((j:Int)<(n:Int))=true:=by simp;omega
   have hjK:j<L.length:=by have:=HNN.out;omega
   have E2:=E1.out.fr yL (WO.out.fr (T:=T1) (H:=fun x=>x=T W) TW1.out 0) (fun e=>HN.out e.symm) (fun e=>HN0.out e.symm)
   obtain ⟨s,hs⟩:∃ s,s=L[j]:=⟨_,rfl⟩;obtain ⟨gA,o,cur,A',c',rfl,hrow,htg,-,hrd,-,-,-,hld6⟩:=E2.seat hjK;rw[<-hs] at hrd hld6;have hsG:seG s:=by rw[hs];exact HG.out _ (List.getElem_mem hjK)
   obtain ⟨si,hsi⟩:∃ si:Nat,s.id=(si:Int):=⟨s.id.toNat,by have:=hsG.1.1;omega⟩
   obtain ⟨sq,hsq⟩:∃ sq:Nat,s.q=(sq:Int):=⟨s.q.toNat,by have:=hsG.2.1.1;omega⟩
   have hsi63:u63 si:=by have:=hsG.1.2;show si<_;omega
   have hsq63:u63 sq:=by have:=hsG.2.1.2;show sq<_;omega
   have hld:ldR Tryz.prog 121 6 wo gA (o+j*6) (row wo gA)=.ok (seV s (.slice A' s.T c')) wo:=by rw[hrow];exact hld6 _ _
   have IO:=WO.out.inv I1.out;obtain ⟨L2,hL2⟩:∃ L2,L2=L1++(L.take j).flatMap eSe:=⟨_,rfl⟩
   have hL2l:L2.length<=1100000:=by
    rw[hL2,List.length_append];have:=fm_le (e:=eSe) (b:=4150) (l:=L.take j) fun a ha=>eSe_le a (HG.out a (List.mem_of_mem_take ha))
    rw[List.length_take] at this;have:=Nat.mul_le_mul_left 4150 (show min j L.length<=8 by omega)
    omega
   rw[<-hL2] at IO;obtain ⟨w2,hw2⟩:∃ w2,w2=wo.alloc (.cells #[.int .i64 s.id,.int .i64 s.q,.int .i64 s.c,.int .i64 s.n,.int .i64 s.m,.slice A' s.T c'] 121):=⟨_,rfl⟩;have b2:Below wo.heap.size wo w2:=by rw[hw2];exact (Below.refl _ _).alloc (Nat.le_refl _) _
   obtain ⟨X,hX⟩:∃ X,X=wo.heap.size:=⟨_,rfl⟩;have rX:row w2 X=some #[.int .i64 s.id,.int .i64 s.q,.int .i64 s.c,.int .i64 s.n,.int .i64 s.m,.slice A' s.T c']:=by rw[hw2,hX];exact zA _ _ _ _ rfl
   have hXW:X≠W:=by have:=IO.lt;omega
   have hXlt:X<w2.heap.size:=zK rX;have RD2:=Lib.hid (hrd.fr (Fr.new (H:=fun _=>False) b2 0) (fun h=>h))
   have tW2:paint (paint T1 w1.heap.size 0) wo.heap.size 0 W=T W:=by rw[zH IO.lt,zH (by have:=I1.out.lt;omega)];exact TW1.out
   obtain ⟨T2,hT2⟩:∃ T2,T2=paint (paint T1 w1.heap.size 0) wo.heap.size 0:=⟨_,rfl⟩;rw[<-hT2] at RD2 tW2;have TW2:=Lib.hid tW2;have RX:=Lib.hid rX;have I2:=Lib.hid (IO.below b2);have B2:=Lib.hid b2;have HL2:=Lib.hid hL2;have HS:=Lib.hid hs;have HX:=Lib.hid hX;have HIO:=Lib.hid IO;have HSG:=Lib.hid hsG;have x0:w2.cell? ⟨X,0,none⟩=some (.int .i64 (si:Int)):=by rw[zC rX,<-hsi];rfl
   have x1:w2.cell? ⟨X,1,none⟩=some (.int .i64 (sq:Int)):=by rw[zC rX,<-hsq];rfl
   have HSI:=Lib.hid hsi;have HSQ:=Lib.hid hsq;have H3:=Lib.hid (wtwo_any W L2 si sq w2 (IO.below b2) hsi63 hsq63 (by omega))
   clear E2 hrow hrd hld6 hs hsG hsi hsq hL2 b2 rX IO htg hT2 tW2;go_upto_region 4 with fail
   rw[<-hw2,<-HX.out];clear hw2 hld hX;go_wp2_with fail;refine H3.out.mono ?_;rintro e w3 ⟨rfl,hw3,ho3⟩;obtain ⟨A3,c3,r3,o3⟩:=ho3;obtain ⟨L3,hL3⟩:∃ L3,L3=L2++(eN si++eN sq):=⟨_,rfl⟩;have hL3l:L3.length<=1100018:=by rw[hL3,List.length_append,List.length_append];have:=eN_le si;have:=eN_le sq;omega
   rw[<-hL3] at hw3 r3 o3;have hb3:∀ q,q<w2.heap.size->q≠W->w3.heap[q]? =w2.heap[q]? :=fun q h1 h2=>hw3.block q h1 h2
   have rX3:row w3 X=some #[.int .i64 s.id,.int .i64 s.q,.int .i64 s.c,.int .i64 s.n,.int .i64 s.m,.slice A' s.T c']:=by obtain ⟨A,c,hp,-⟩:=hw3;exact hp.other hXW RX.out
   have S3:Sl w3 w3.heap.size A' s.T c' s.f:=(RD2.out.fr (hw3.fr (T:=T2) (H:=fun x=>x=T W) TW2.out 0) (fun e=>HN0.out e.symm)).sl
   obtain ⟨sc,hsc⟩:∃ sc:Array Value,sc=#[.int .i64 s.id,.int .i64 s.q,.int .i64 s.c,.int .i64 s.n,.int .i64 s.m,.slice A' s.T c']:=⟨_,rfl⟩;rw[<-hsc] at rX3;have HW3:=Lib.hid hw3;have HL3:=Lib.hid hL3;have R3:=Lib.hid r3;have O3:=Lib.hid o3;have RX3:=Lib.hid rX3;have SS3:=Lib.hid S3;have HSC:=Lib.hid hsc;clear hw3 hL3 r3 o3 hb3 rX3 S3 hsc H3 x0 x1;go_wp2_with fail;refine zY [([0,1,2,3,4,5,6],7,false),([8,9],10,false),([],11,false),([12,13],14,true)] [] (fun y=>row y W=some #[.slice A3 L3.length c3]/\row y X=some sc) (by kernel_rfl) (by kernel_rfl) (fun _ _ _ _ _ h=>h) (by rw[zS,zS];exact ⟨R3.out,RX3.out⟩) ?_
   obtain ⟨w4,hw4⟩:∃ w4,w4=w3.drewN 1:=⟨_,rfl⟩;have b4:Below w3.heap.size w3 w4:=by rw[hw4];exact zQ (Below.refl _ _) 1
   rw[<-hw4];have R4:=Lib.hid (zD b4 R3.out);have RX4:=Lib.hid (zD b4 RX3.out);have B4:=Lib.hid b4;have SS4:=Lib.hid ((SS3.out.below b4).more b4.size);have O4:=Lib.hid (O3.out.below b4 (Nat.le_refl _));have hne:Nonempty (In (fun y=>row y W=some #[.slice A3 L3.length c3]/\row y X=some sc)):=⟨⟨w4,R4.out,RX4.out⟩⟩
   have e1:∀ y:In (fun y=>row y W=some #[.slice A3 L3.length c3]/\row y X=some sc),y.val.cell? ⟨W,0,none⟩=some (.slice A3 L3.length c3):=fun y=>zC y.ok.1 0
   have e2:∀ y:In (fun y=>row y W=some #[.slice A3 L3.length c3]/\row y X=some sc),ldR Tryz.prog 33 4 y.val X 2 (row y.val X)=.ok (repV s.c s.n s.m (.slice A' s.T c')) y.val:=fun y=>by
    have h:=y.ok.2.trans (congrArg some HSC.out);exact rp_cells _ _ _ _ _ _ _ (zC h 2) (zC h 3) (zC h 4) (zC h 5)
   clear hw4 b4 R3 O3 SS3;have HR:=Lib.hid (reply_any s.c s.n s.m s.T c' A' s.f w4 SS4.out (repN_b (r:=seR s) HSG.out.2.2));simp only[wpFl,pk,List.getElem?_cons_zero,List.getElem?_cons_succ];refine zV ?_
   repeat (go_big_quiet_step (fail))
   refine wpQuiet_nil ?_;clear e1 e2 hne;go_wp2_with fail;refine HR.out.mono ?_;rintro e w5 (⟨h0,-,-⟩|⟨-,v5,rfl,ho5,hb5⟩)
   ·exact absurd (repE_g HSG.out.2.2) h0
   obtain ⟨A5,c5,rfl,hs5,-,-⟩:=ho5.sl
   have S5:=Lib.hid (show Sl w5 w5.heap.size A5 (repL s.c s.n s.m s.T) c5 (repF s.c s.n s.m s.T s.f) by
    rw[Nat.zero_add] at hs5
    exact hs5.congr fun i hi=>by unfold catF;rw[if_neg (by omega),Nat.sub_zero])
   have B5:=Lib.hid (onto B4.out B4.out.size hb5);have R5:=Lib.hid (zD hb5 R4.out);have RX5:=Lib.hid (zD hb5 RX4.out);have O5:=Lib.hid (O4.out.below hb5 (Nat.le_refl _));clear ho5 hb5 HR hs5 R4 RX4 SS4 O4 B4;go_wp2_with fail;refine ⟨fun y=>row y W=some #[.slice A3 L3.length c3]/\row y X=some sc,⟨R5.out,RX5.out⟩,.inr ⟨⟨R5.out,RX5.out⟩,fun _ h=>h⟩,?_⟩
   show wpQuiet _ _ _ _ _ _;refine zV ?_;have hne:Nonempty (In (fun y=>row y W=some #[.slice A3 L3.length c3]/\row y X=some sc)):=⟨⟨w5,R5.out,RX5.out⟩⟩
   repeat (go_big_quiet_step (fail))
   refine wpQuiet_nil ?_;go_wp2_with fail;refine (mustb_ok _ _).mono ?_;rintro e w6 ⟨rfl,rfl⟩;go_wp2_with fail;refine ⟨fun y=>row y W=some #[.slice A3 L3.length c3]/\row y X=some sc,⟨R5.out,RX5.out⟩,.inr ⟨⟨R5.out,RX5.out⟩,fun _ h=>h⟩,?_⟩
   show wpQuiet _ _ _ _ _ _;refine wpQuiet_nil ?_;have hR:repL s.c s.n s.m s.T<=4132:=by have:=eRp_le _ HSG.out.2.2;rw[eRp_bl,xL] at this;exact this
   have hbz:=B5.out.size;have hwz:=HW3.out.size;go_wp2_with (refine yO rfl (.tmp 31) (.tmp 37) rfl zZ yJ O5.out S5.out (by omega) (by omega) rfl rfl ?_;intro v7 w7 ho7 hg7 ht7)
   have W5:=Lib.hid (show Wr W L3 w2 w6 from by
    obtain ⟨A,c,hp,ho⟩:=HW3.out
    exact ⟨A,c,hp.calm B5.out,ho.below B5.out (Nat.le_refl _)⟩)
   obtain ⟨A7,c7,rfl,-,-,-⟩:=ho7.sl
   have W7:=Lib.hid (show Wr W (L1++(L.take (j+1)).flatMap eSe) w1 (w7.setRow W #[.slice A7 (L3.length+repL s.c s.n s.m s.T) c7]) by
    have h7:=Wr.more I2.out W5.out O5.out hg7 ho7;refine Wr.trans I1.out WO.out (Wr.behind (l:=L2) HIO.out B2.out ?_);rw[take_fm eSe hjK,<-List.append_assoc,<-HL2.out,<-HS.out];unfold eSe;rw[HSI.out,HSQ.out,Int.toNat_natCast,Int.toNat_natCast,<-List.append_assoc (eN si),<-List.append_assoc L2,<-HL3.out];have e:=eRp_bl (seR s);rw[e]
    exact h7)
   have r7:row w7 W=some #[.slice A3 L3.length c3]:=by
    rw[yZ ((Own.after O5.out hg7 (Below.refl w2.heap.size w6) (by omega) (Nat.le_refl _)).block W I2.out.lt)]
    exact R5.out
   have rx7:row w7 X=some sc:=by
    rw[yZ ((Own.after O5.out hg7 (Below.refl w2.heap.size w6) (by omega) (Nat.le_refl _)).block X hXlt)]
    exact RX5.out
   have RR7:=Lib.hid (show row w7 W=some #[.slice A3 L3.length c3]/\row w7 X=some sc from ⟨r7,rx7⟩)
   have f7:=zJ r7 0;have c7':w7.cell? ⟨W,0,none⟩=some (.slice A3 L3.length c3):=zC r7 0;have e7:=zL r7 0 (.slice A7 (L3.length+repL s.c s.n s.m s.T) c7);have R7:=Lib.hid (show #[Value.slice A3 L3.length c3].setIfInBounds 0 (.slice A7 (L3.length+repL s.c s.n s.m s.T) c7)=#[.slice A7 (L3.length+repL s.c s.n s.m s.T) c7] from rfl)
   rw[R7.out] at e7;clear r7 R7 rx7;clear ho7 hg7 ht7 W5 O5 S5 R5 RX5;refine ⟨fun y=>row y W=some #[.slice A3 L3.length c3]/\row y X=some sc,RR7.out,?_⟩
   first|refine ⟨.inr ⟨RR7.out,fun _ h=>h⟩,?_⟩|refine ⟨⟨RR7.out,fun _ h=>h⟩,?_⟩
   show wpQuiet _ _ _ _ _ _;refine zV ?_;have hne:Nonempty (In (fun y=>row y W=some #[.slice A3 L3.length c3]/\row y X=some sc)):=⟨⟨w7,RR7.out⟩⟩
   repeat (go_big_quiet_step (fail))
   refine wpQuiet_nil ?_;go_wp2_with fail;refine ⟨fun _=>True,trivial,?_⟩
   first|refine ⟨.inl rfl,?_⟩|skip
   show wpQuiet _ _ _ _ _ _;refine wpQuiet_nil ?_;have hwr8:IntKind.i64.wrap ((j:Int)+1)=(j:Int)+1:=IntWalk.i64_in _ (by omega)
   clear f7 c7' hne;go_wp2_with fail;go_roundw
   case rel=>exact ⟨j+1,by omega,by go_num,by first|exact W7.out|(rw[e7];exact W7.out)⟩
   case measure=>simp[intOf];omega
  ·obtain rfl:j=n:=by omega
   have hd:decide ((j:Int)<(j:Int))=false:=by simp
   have W9:=WO.out;rw[HNN.out,List.take_length] at W9
   have W9':=Lib.hid (show Wr W (l++(eN g++(eN j++L.flatMap eSe))) w wo by
    refine Wr.trans HW.out W1.out ?_;rw[<-List.append_assoc (eN g),<-List.append_assoc l,<-HL1.out]
    exact W9)
   clear W9;go_wp2_with fail;go_end0;exact ⟨rfl,W9'.out⟩
theorem MpV.re{T T2:Mk}{w:World}{t t2:Nat}{mv:Option Nat}{l:List Se}(h:MpV T w t mv l)(h1:∀ j,T j=t->T2 j=t2)(h0:∀ j,T j=0->T2 j=0):MpV T2 w t2 mv l:=by
 rcases h with h|⟨M,rfl,hT,hM⟩
 ·exact .inl h
 ·exact .inr ⟨M,rfl,h1 _ hT,hM.re h0⟩
theorem StAt.re{T T2:Mk}{w:World}{t t2 B:Nat}{x:Sx}(h:StAt T w t B x)(h1:∀ j,T j=t->T2 j=t2)(h2:∀ j,T j=t+1->T2 j=t2+1)(h0:∀ j,T j=0->T2 j=0):StAt T2 w t2 B x:=by
 obtain ⟨ks,mv,hr,hk,hm⟩:=h.at_;exact ⟨h1 _ h.tg,⟨ks,mv,hr,hk,hm.re h2 h0⟩,h.ok⟩
def only(T:Mk)(t:Nat):Mk:=fun k=>if T k=t then 1 else if T k=t+1 then 2 else 0
theorem only_le(T:Mk)(t k:Nat):only T t k<=2:=by unfold only;split<;>(try split)<;>omega
theorem StAt.only{T:Mk}{w:World}{t B:Nat}{x:Sx}(h:StAt T w t B x)(ht:0<t):StAt (only T t) w 1 B x:=
 h.re (fun j e=>by unfold Oct.only;rw[if_pos e]) (fun j e=>by unfold Oct.only;rw[if_neg (by omega),if_pos e]) fun j e=>by unfold Oct.only;rw[if_neg (by omega),if_neg (by omega)]
theorem fm_eRg_le{K:Ks}(h:okK K):(K.flatMap eRg).length<=2032:=by
 have:=fm_le (e:=eRg) (b:=254) (l:=K) fun a ha=>eRg_le a (h.2 a ha).1.2
 have:=Nat.mul_le_mul_left 254 h.1;omega
structure SxE(x:Sx):Prop where
 K:okK x.K
 s:∀ s∈x.l,seG s
 n:0<=x.n/\x.n<9223372036854775808
 g:0<=x.g/\x.g+1<9223372036854775808
 l:x.l.length<=8
theorem penc16_e(T:Mk)(t B:Nat)(x:Sx)(w:World)(hS:StAt T w t B x)(ht:0<t)(hx:SxE x):
  Calls Tryz.prog 22 #[.pointer (some ⟨B,0,none⟩)] w fun e w'=>∃ A c,e=.returned (.slice A (eSx x).length c)/\Own w' w.heap.size 5 (.slice A (eSx x).length c) (eSx x).length (lf (eSx x))/\Below w.heap.size w w':=by
 have HX:=Lib.hid hx;have HS:=Lib.hid (hS.only ht);obtain ⟨T0,hT0⟩:∃ T0,T0=only T t:=⟨_,rfl⟩;have HT0:=Lib.hid (show ∀ k,T0 k<=2 from fun k=>by rw[hT0];exact only_le _ _ _)
 rw[<-hT0] at HS;clear hT0 hS ht hx;go_enter Tryz.func22,Tryz.ntmps22;go_wp2_with fail;obtain ⟨W,hW⟩:∃ W,W=w.heap.size:=⟨_,rfl⟩;obtain ⟨w1,hw1⟩:∃ w1,w1=w.alloc (.cells #[.slice none 0 0] 130):=⟨_,rfl⟩;have b1:Below w.heap.size w w1:=by rw[hw1];exact (Below.refl _ _).alloc (Nat.le_refl _) _
 have r1:row w1 W=some #[.slice none 0 0]:=by rw[hw1,hW];exact zA _ _ _ _ rfl
 have z1:W+1<=w1.heap.size:=zK r1;have I1:=Lib.hid (show WrI W [] w1 from ⟨none,0,r1,Own.nil _ _ _ _⟩)
 have B1:=Lib.hid b1;have S1:=Lib.hid (HS.out.fr (Fr.new (H:=fun _=>False) b1 60) (fun h=>h) (fun h=>h) (fun h=>h))
 obtain ⟨T1,hT1⟩:∃ T1,T1=paint T0 w.heap.size 60:=⟨_,rfl⟩;have tW1:T1 W=60:=by rw[hT1,hW];exact zP (Nat.le_refl _)
 have M1:=Lib.hid (show ∀ k,T1 k<=60 from fun k=>by
  rw[hT1];have:=HT0.out k;unfold paint
  split<;>omega)
 rw[<-hT1] at S1;rw[<-hw1,<-hW];have HWW:=Lib.hid hW;clear HS HT0 b1 r1 hT1 hw1 hW;obtain ⟨R,hr,-⟩:=S1.out.src;obtain ⟨n,hn⟩:∃ n:Nat,x.n=(n:Int):=⟨x.n.toNat,by have:=HX.out.n;omega⟩
 have hr':row w1 B=some (srcC R x.d.1 x.d.2 (n:Int)):=by rw[<-hn];exact hr
 have H1:=Lib.hid (wsrc_any W [] x.d n B R w1 I1.out hr' (by have:=HX.out.n;show n<_;omega) (by simp))
 have HNn:=Lib.hid hn;clear hr hr' hn;refine H1.out.mono ?_;rintro e w2 ⟨rfl,hw2⟩;have f2:=hw2.fr (T:=T1) (H:=fun x=>x=60) tW1 0
 have S2:=Lib.hid (S1.out.fr f2 (by omega) (by omega) (by omega))
 have W2:=Lib.hid hw2;have I2:=Lib.hid (hw2.inv I1.out);have z2:=hw2.size
 have M2:=Lib.hid (show ∀ k,paint T1 w1.heap.size 0 k<=60 from fun k=>by
  have:=M1.out k;unfold paint
  split<;>omega)
 have tW2:paint T1 w1.heap.size 0 W=60:=by rw[zH (by omega)];exact tW1
 obtain ⟨T2,hT2⟩:∃ T2,T2=paint T1 w1.heap.size 0:=⟨_,rfl⟩;rw[<-hT2] at S2 M2 tW2;have H2':=Lib.hid (prings16_any T2 1 80 B x w2 S2.out (fun k _ h=>by have:=M2.out k;unfold Hk at h;omega))
 clear f2 hT2 H1 S1 M1 hw2 tW1;go_wp2_with fail;refine H2'.out.mono ?_;rintro e w3 ⟨v,T3,rfl,hR,hk⟩;have S3:=Lib.hid (S2.out.fr (Fr.calm (H:=fun _=>False) hk.below hk.tag) (fun h=>h) (fun h=>h) (fun h=>h))
 have I3:=Lib.hid (I2.out.below hk.below)
 have W3:=Lib.hid (show Wr W ([]++(eT 32 x.d.1++(eT 32 x.d.2++eN n))) w1 w3 by
  obtain ⟨A,c,hp,ho⟩:=W2.out
  exact ⟨A,c,hp.calm hk.below,ho.below hk.below (Nat.le_refl _)⟩)
 have tW3:T3 W=60:=by rw[hk.tag W (by omega)];exact tW2
 have M3:=Lib.hid (show ∀ k,k<w3.heap.size->T3 k≠70 from fun k _ e=>by
  rcases hk.mks k with h|h
  ·have:=M2.out k;omega
  ·unfold Hk at h;omega)
 obtain ⟨L1,hL1⟩:∃ L1,L1=[]++(eT 32 x.d.1++(eT 32 x.d.2++eN n)):=⟨_,rfl⟩
 have hl1:L1.length<=91:=by
  rw[hL1,List.nil_append];simp only[List.length_append];have:=eT32_le x.d.1;have:=eT32_le x.d.2;have:=eN_le n;omega
 rw[<-hL1] at I3 W3;have H3:=Lib.hid (wkeys_any T3 80 W L1 v x.K w3 I3.out hR (by rw[tW3];unfold Hk;omega) HX.out.K (by omega))
 have HL1:=Lib.hid hL1;have z3:=hk.below.size;clear hR hk hL1 H2' S2 I2 W2 M2 tW2;go_wp2_with fail;refine H3.out.mono ?_;rintro e w4 ⟨rfl,hw4⟩;have f4:=hw4.fr (T:=T3) (H:=fun x=>x=60) tW3 0
 have S4:=Lib.hid (S3.out.fr f4 (by omega) (by omega) (by omega))
 have I4:=Lib.hid (hw4.inv I3.out);have W4:=Lib.hid (Wr.trans I1.out W3.out hw4);have z4:=hw4.size;have tW4:paint T3 w3.heap.size 0 W=60:=by rw[zH (by omega)];exact tW3
 have M4:=Lib.hid (show ∀ k,k<w4.heap.size->paint T3 w3.heap.size 0 k≠70 from fun k _=>by
  by_cases hk:k<w3.heap.size
  ·rw[zH hk];exact M3.out k hk
  ·rw[zP (by omega)];omega)
 obtain ⟨T4,hT4⟩:∃ T4,T4=paint T3 w3.heap.size 0:=⟨_,rfl⟩;rw[<-hT4] at S4 M4 tW4;have H4:=Lib.hid (pseats16_any T4 1 70 B x w4 S4.out (by omega) (by omega) (by omega) (by omega))
 clear f4 hT4 H3 S3 I3 W3 M3 tW3 hw4;go_wp2_with fail;refine H4.out.mono ?_;rintro e w5 ⟨A,c,T5,rfl,hE,hf5⟩;have b5:Below w4.heap.size w4 w5:=hf5.below (Nat.le_refl _) M4.out;obtain ⟨L4,hL4⟩:∃ L4,L4=L1++(eN x.K.length++x.K.flatMap eRg):=⟨_,rfl⟩
 have hl4:L4.length<=2132:=by
  rw[hL4];simp only[List.length_append];have:=eN_le x.K.length;have:=fm_eRg_le HX.out.K;omega
 rw[<-hL4] at W4 I4;have I5:=Lib.hid (I4.out.below b5)
 have W5:=Lib.hid (show Wr W L4 w1 w5 by
  obtain ⟨A,c,hp,ho⟩:=W4.out
  exact ⟨A,c,hp.calm b5,ho.below b5 (Nat.le_refl _)⟩)
 have tW5:T5 W=60:=by rw[hf5.tag W (by omega)];exact tW4
 obtain ⟨g,hg⟩:∃ g:Nat,x.g+1=(g:Int):=⟨(x.g+1).toNat,by have:=HX.out.g;omega⟩
 have H5:=Lib.hid (wsess_any T5 70 W L4 A c x.l g w5 I5.out hE (by omega) (by omega) HX.out.s (by have:=HX.out.g;show g<_;omega) HX.out.l (by omega))
 have HGg:=Lib.hid hg;have HL4:=Lib.hid hL4;rw[hg];clear b5 hE hf5 hL4 H4 S4 I4 W4 M4 tW4 hg;go_wp2_with fail;refine H5.out.mono ?_;rintro e w6 ⟨rfl,hw6⟩
 have W6:=Lib.hid (show Wr W (eSx x) w1 w6 by
  have h:=Wr.trans I1.out W5.out hw6;rw[HL4.out,HL1.out] at h;unfold eSx;rw[HGg.out,HNn.out,Int.toNat_natCast,Int.toNat_natCast]
  simpa only[List.append_assoc,List.nil_append] using h)
 obtain ⟨A6,c6,hp6,ho6⟩:=W6.out;obtain ⟨A0,c0,hr0,-⟩:=I1.out;have hr6:=hp6.row hr0;have k6:w6.cell? ⟨W,0,none⟩=some (.slice A6 (eSx x).length c6):=zC hr6 0;have Bf:=Lib.hid (show Below w.heap.size w w6 from B1.out.trans (hp6.low (by rw[HWW.out];exact Nat.le_refl _) B1.out.size))
 have O6:=Lib.hid (ho6.base (show w.heap.size<=W+1 by rw[HWW.out];omega))
 clear H5 W5 I5 W6 hw6 hp6 ho6 hr6 hr0;go_wp2_with fail;go_ret;exact ⟨A6,c6,rfl,O6.out,Bf.out⟩
structure SxB(k:Nat)(x:Sx):Prop where
 ok:SxOk x
 sd:∀ s∈x.l,SdOk s
 n:x.n<=(k:Int)
theorem SxB.ap{k:Nat}{x:Sx}(h:SxB k x)(c:Cm):SxB (k+1) (apX x c):=⟨apX_ok h.ok,apX_sd h.ok h.sd,by have:=apX_n (c:=c) h.ok.c;have:=h.n;omega⟩
theorem SxB.new(f:Bf)(n:Nat):SxB 1 (st0 f n):=⟨st0_ok f n,st0_sd f n,Int.le_refl 1⟩
abbrev Kp:=Mk->World->Prop
def Stb(S:Nat->Prop)(K:Kp):Prop:=∀ (T T':Mk) (H:Nat->Prop) (w w':World),K T w->Fr T T' H w w'->(∀ c,H c->S c)->K T' w'
section
variable {S S':Nat->Prop} {K K':Kp}
theorem Stb.triv:Stb S fun _ _=>True:=fun _ _ _ _ _ _ _ _=>trivial
theorem Stb.and(h:Stb S K)(h':Stb S K'):Stb S fun T w=>K T w/\K' T w:=fun T T' H w w' k f hH=>⟨h T T' H w w' k.1 f hH,h' T T' H w w' k.2 f hH⟩
theorem Stb.less(h:Stb S K)(hs:∀ c,S' c->S c):Stb S' K:=fun T T' H w w' k f hH=>h T T' H w w' k f fun c hc=>hs c (hH c hc)
theorem Stb.rd{t:Nat}{A:Option Addr}{n c:Nat}{f:Bf}(ht:¬ S t):Stb S fun T w=>RdS T w t A n c f:=fun T T' H w w' k fr hH=>k.fr fr fun h=>ht (hH _ h)
theorem Stb.row{t b:Nat}{c:Array Value}(ht:¬ S t):Stb S fun T w=>Oct.row w b=some c/\T b=t:=fun T T' H w w' k f hH=>⟨f.rowAt k.1 fun h=>ht (by rw[<-k.2];exact hH _ h),by rw[f.tag b (zK k.1)];exact k.2⟩
theorem Stb.st{t B:Nat}{x:Sx}(h0:¬ S 0)(h1:¬ S t)(h2:¬ S (t+1)):Stb S fun T w=>StAt T w t B x:=fun T T' H w w' k f hH=>k.fr f (fun h=>h1 (hH _ h)) (fun h=>h2 (hH _ h)) (fun h=>h0 (hH _ h))
end
def LS(K:Kp)(W w:World):Prop:=∃ T,Fr (fun _=>0) T (fun c=>c≠0) W w/\K T w
section
variable {S:Nat->Prop} {K K':Kp} {W w w':World} {t B:Nat} {x:Sx}
theorem LS.bel(h:LS K W w):Below W.heap.size W w:=by obtain ⟨T,hf,-⟩:=h;exact hf.below (Nat.le_refl _) fun k _ h=>h rfl
theorem LS.mono(h:LS K W w)(hk:∀ T,K T w->K' T w):LS K' W w:=by obtain ⟨T,hf,k⟩:=h;exact ⟨T,hf,hk T k⟩
theorem LS.fact(h:LS K W w):∃ T,K T w:=by obtain ⟨T,hf,k⟩:=h;exact ⟨T,k⟩
theorem LS.init(W:World)(hk:K (fun _=>0) W):LS K W W:=⟨_,Fr.refl _ _ _,hk⟩
theorem LS.add(h:LS K W w)(hK:Stb (fun _=>False) K)(hb:Below w.heap.size w w')(t:Nat)(hk:∀ T,K' (paint T w.heap.size t) w'):LS (fun T w=>K T w/\K' T w) W w':=by
 obtain ⟨T,hf,k⟩:=h;exact ⟨_,hf.trans (Fr.new hb t),hK _ _ _ _ _ k (Fr.new (H:=fun _=>False) hb t) (fun _ h=>h),hk T⟩
theorem LS.calm(h:LS K W w)(hK:Stb (fun _=>False) K)(hb:Below w.heap.size w w'):LS K W w':=(h.add hK hb 0 (K':=fun _ _=>True) fun _=>trivial).mono fun _ h=>h.1
theorem LS.tab(h:LS K W w)(ht:Tab W):Tab w:=ht.below h.bel ht.pos
theorem Stb.calm(h:Stb S K):Stb (fun _=>False) K:=h.less fun _ h=>h.elim
theorem LS.sl(h:LS K W w){A:Option Addr}{n c:Nat}{f:Bf}(hs:Sl W W.heap.size A n c f):LS (fun T w=>K T w/\RdS T w 0 A n c f) W w:=by
 obtain ⟨T,hf,k⟩:=h;exact ⟨T,hf,k,(RdS.of_sl hs (Nat.le_refl _) (fun _ _=>rfl):RdS (fun _=>0) W 0 A n c f).fr hf fun h=>h rfl⟩
theorem ls_new(h:LS K W w)(hK:Stb (fun _=>False) K)(htab:Tab W)(ht:0<t){A:Option Addr}{n cc:Nat}{f:Bf}(hs:∀ T,K T w->RdS T w 0 A n cc f)(hn:n<=140737488354000):
  Calls Tryz.prog 11 #[.slice A n cc] w fun e w'=>∃ B,e=.returned (.pointer (some ⟨B,0,none⟩))/\LS (fun T w=>K T w/\StAt T w t B (st0 f n)) W w'/\Below w.heap.size w w':=by
 obtain ⟨T,hf,k⟩:=h;refine (pnew16_any T t f n cc A w (LS.tab ⟨T,hf,k⟩ htab) (hs T k).sl hn ht).mono ?_;rintro e w' ⟨B,rfl,hst,hb⟩;exact ⟨B,rfl,⟨_,hf.trans (Fr.new hb t),hK _ _ _ _ _ k (Fr.new (H:=fun _=>False) hb t) (fun _ h=>h),hst⟩,hb⟩
theorem ls_apply(h:LS (fun T w=>StAt T w t B x/\K T w) W w)(hK:Stb (H2 t) K)(htab:Tab W)(ht:0<t)(c:Cm){tc:Nat}{A A':Option Addr}{a a':Nat}(hc:∀ T,K T w->CmR T w tc c A a A' a')(htc:off3 t tc)(hn:x.n<=1048576):
  Calls Tryz.prog 15 #[.pointer (some ⟨B,0,none⟩),cmV c A a A' a'] w fun e w'=>∃ A k,e=.returned (rpV (apR x c) A k)/\LS (fun T w=>StAt T w t B (apX x c)/\K T w/\RdS T w 0 A (apR x c).T k (apR x c).f) W w'/\w.heap.size<=w'.heap.size:=by
 obtain ⟨T,hf,hst,k⟩:=h;have hb:Below W.heap.size W w:=hf.below (Nat.le_refl _) fun k _ h=>h rfl
 have h0:T 0=0:=hf.tag 0 htab.pos;refine (papply_any T t B tc x c A A' a a' w ⟨hst,ht,htab.below hb htab.pos,by rw[h0];exact .inl ht,hc T k,htc,hn⟩).mono ?_
 rintro e w' ⟨T',hf',hst',A2,k2,rfl,hrd⟩;exact ⟨A2,k2,rfl,⟨T',hf.trans (hf'.mono fun c hc=>by unfold H2 at hc;omega),hst',hK _ _ _ _ _ k hf' fun _ h=>h,hrd⟩,hf'.size⟩
end
end Go.Proofs.YteffjpdcghlnlaaGreatDoor.Oct
namespace Go.Proofs.YteffjpdcghlnlaaGreatDoor.Oct
theorem keys_no{K:Ks}{l l1:By}(hg:LG 8 rgG K)(hn:¬ okK K)(h:l=eL eRg K++l1):NoF (eL eRg) okK l:=fun M r hM he=>by
 rw[h] at he;exact hn (hM.same (eL_unq eRg_unq (m:=8) (by omega) _ _ _ _ hM.lg hg he.symm).1)
theorem seG.w{s:Se}(h:seG s):seW s:=⟨h.1,h.2.1,h.2.2.w⟩
theorem eSe_unq:Unq eSe seG seS:=fun a b r r' ha hb h=>eSe_app a b r r' ha.w hb.w h
def eSs(p:Nat×List Se):By:=eN p.1++eL eSe p.2
def ssW(p:Nat×List Se):Prop:=u63 p.1/\LG 8 seG p.2
def ssG'(p:Nat×List Se):Prop:=u63 p.1/\OfOk p.2 p.1/\∀ s∈p.2,seG s
theorem ssG'.w{p:Nat×List Se}(h:ssG' p):ssW p:=⟨h.1,h.2.1.len,h.2.2⟩
def ssS(a b:Nat×List Se):Prop:=a.1=b.1/\all2 seS a.2 b.2
theorem eSs_unq:Unq eSs ssW ssS:=fun a b r r' ha hb h=>by
 unfold eSs at h;simp only[List.append_assoc] at h;obtain ⟨e1,h⟩:=xK ha.1 hb.1 h;obtain ⟨e2,h⟩:=eL_unq eSe_unq (m:=8) (by omega) _ _ _ _ ha.2 hb.2 h
 exact ⟨⟨e1,e2⟩,h⟩
theorem lst_same:∀ {l m:List Se},all2 seS l m->∀ i,lst l i=lst m i:=fun {l m} h i=>by
 have hl:=all2_len h;unfold lst
 by_cases hi:0<i/\i-1<l.length
 ·rw[dif_pos hi,dif_pos (by omega),(all2_get h (i-1) hi.2 (by omega)).1]
 ·rw[dif_neg hi,dif_neg (by omega)]
theorem noB_same{a b:Se}(h:seS a b):noB a=noB b:=by
 obtain ⟨-,e2,e3,e4,e5,e6,-⟩:=h;have e3:a.c=b.c:=e3;have e4:a.n=b.n:=e4;have e5:a.m=b.m:=e5;have e6:a.T=b.T:=e6;unfold noB zB;rw[e2,e3,e4,e5,e6]
theorem OfOk.same{l m:List Se}{n:Int}(h:OfOk l n)(e:all2 seS l m):OfOk m n:=by
 have hl:=all2_len e;refine ⟨h.n0,h.n1,by rw[<-hl];exact h.len,fun i hi=>?_,?_,fun s hs=>?_⟩
 ·rw[<-lst_same e,<-lst_same e];exact h.up i (by omega)
 ·rw[<-lst_same e,<-hl];exact h.last
 ·obtain ⟨q,hq,hqs⟩:=all2_mem e hs
  rw[<-noB_same hqs];exact h.no q hq
theorem sess_no{p:Nat×List Se}{l l1:By}(hw:ssW p)(hn:¬ OfOk p.2 p.1)(h:l=eSs p++l1):NoF eSs ssG' l:=fun q r hq he=>by
 rw[h] at he;obtain ⟨⟨e1,e2⟩,-⟩:=eSs_unq q p _ _ hq.w hw he.symm;exact hn (by rw[<-e1];exact hq.2.1.same e2)
structure SxV(x:Sx):Prop where
 n:1<=x.n/\x.n<9223372036854775808
 K:okK x.K
 l:OfOk x.l (x.g+1)
 s:∀ s∈x.l,seG s
theorem eSx_eq(x:Sx){n g:Nat}(hn:x.n=(n:Int))(hg:x.g+1=(g:Int)):eSx x=eSr (x.d,n)++(eL eRg x.K++eSs (g,x.l)):=by
 unfold eSx eSr eSs eL;rw[hn,hg,Int.toNat_natCast,Int.toNat_natCast];simp only[List.append_assoc]
theorem SxV.nat{x:Sx}(h:SxV x):∃ n g:Nat,x.n=(n:Int)/\x.g+1=(g:Int)/\srG (x.d,n)/\ssG' (g,x.l):=by
 have:=h.n;have:=h.l.n0;have:=h.l.n1;refine ⟨x.n.toNat,(x.g+1).toNat,by omega,by omega,⟨by show 1<=x.n.toNat;omega,by show x.n.toNat<9223372036854775808;omega⟩,by show (x.g+1).toNat<9223372036854775808;omega,?_,h.s⟩
 show OfOk x.l ((x.g+1).toNat:Nat);rw[show (((x.g+1).toNat:Nat):Int)=x.g+1 by omega]
 exact h.l
theorem SxV.same{x y:Sx}(hx:SxV x)(hy:SxV y)(h:eSx x=eSx y):SxS x y:=by
 obtain ⟨n,g,e1,e2,h1,h2⟩:=hx.nat;obtain ⟨n',g',e1',e2',h1',h2'⟩:=hy.nat;rw[eSx_eq x e1 e2,eSx_eq y e1' e2'] at h;obtain ⟨⟨a1,a2,a3⟩,h⟩:=eSr_unq _ _ _ _ h1 h1' h;obtain ⟨a4,h⟩:=eL_unq eRg_unq (m:=8) (by omega) _ _ _ _ hx.K.lg hy.K.lg h
 obtain ⟨⟨a5,a6⟩,-⟩:=eSs_unq (g,x.l) (g',y.l) [] [] h2.w h2'.w (by rw[List.append_nil,List.append_nil];exact h)
 have a3:n=n':=a3;have a5:g=g':=a5;exact ⟨a1,a2,by omega,a4,a6,by omega⟩
theorem SxV.ok{x:Sx}(h:SxV x):SxOk x:=by
 have:=h.l.ok (fun s hs=>by have:=(h.s s hs).2.2.2.2.2;have h2:s.T<=4096:=this;omega)
 rw[show x.g+1-1=x.g by omega] at this
 exact ⟨h.K,this,h.n.1⟩
abbrev NoS(b:By):Prop:=∀ x,SxV x->eSx x≠b
theorem noS_1{b:By}(h:NoF eSr srG b):NoS b:=fun x hx e=>by
 obtain ⟨n,g,e1,e2,h1,-⟩:=hx.nat;rw[eSx_eq x e1 e2] at e;exact h _ _ h1 e.symm
theorem noS_2{b l1:By}{s:St×Nat}(hs:srG s)(hb:b=eSr s++l1)(h:NoF (eL eRg) okK l1):NoS b:=fun x hx e=>by
 obtain ⟨n,g,e1,e2,h1,-⟩:=hx.nat;rw[eSx_eq x e1 e2,hb] at e;exact h _ _ hx.K (eSr_unq _ _ _ _ h1 hs e).2.symm
theorem noS_3{b l1 l2:By}{s:St×Nat}{K:Ks}(hs:srG s)(hb:b=eSr s++l1)(hK:okK K)(h1:l1=eL eRg K++l2)(h:NoF eSs ssG' l2):NoS b:=fun x hx e=>by
 obtain ⟨n,g,e1,e2,h3,h4⟩:=hx.nat;rw[eSx_eq x e1 e2,hb] at e;have e:=(eSr_unq _ _ _ _ h3 hs e).2;rw[h1] at e;have e:=(eL_unq eRg_unq (m:=8) (by omega) _ _ _ _ hx.K.lg hK.lg e).2
 exact h _ [] h4 (by rw[List.append_nil];exact e.symm)
theorem noS_4{b l1 l2 l3:By}{s:St×Nat}{K:Ks}{p:Nat×List Se}(hs:srG s)(hb:b=eSr s++l1)(hK:okK K)(h1:l1=eL eRg K++l2)(hp:ssG' p)(h2:l2=eSs p++l3)(h:l3≠[]):NoS b:=fun x hx e=>by
 obtain ⟨n,g,e1,e2,h3,h4⟩:=hx.nat;rw[eSx_eq x e1 e2,hb] at e;have e:=(eSr_unq _ _ _ _ h3 hs e).2;rw[h1] at e;have e:=(eL_unq eRg_unq (m:=8) (by omega) _ _ _ _ hx.K.lg hK.lg e).2
 rw[h2] at e;exact h (eSs_unq (g,x.l) p [] l3 h4.w hp.w (by rw[List.append_nil];exact e)).2.symm
theorem isS{b l1 l2:By}{s:St×Nat}{K:Ks}{p:Nat×List Se}(hs:srG s)(hb:b=eSr s++l1)(hK:okK K)(h1:l1=eL eRg K++l2)(hp:ssG' p)(h2:l2=eSs p):
  SxV ⟨s.1,(s.2:Int),K,p.2,(p.1:Int)-1⟩/\eSx ⟨s.1,(s.2:Int),K,p.2,(p.1:Int)-1⟩=b:=by
 refine ⟨⟨⟨by have:=hs.1;show (1:Int)<=(s.2:Int);omega,by have:=hs.2;show (s.2:Int)<_;omega⟩,hK,?_,hp.2.2⟩,?_⟩
 ·show OfOk p.2 ((p.1:Int)-1+1)
  rw[show (p.1:Int)-1+1=p.1 by omega]
  exact hp.2.1
 ·rw[eSx_eq _ (n:=s.2) (g:=p.1) rfl (by show (p.1:Int)-1+1=p.1;omega),hb,h1,h2]
theorem ap_one{x:Sx}{c:Cm}{s:Se}(hl:x.l=[s])(hs:s.id=1)(hcs:c.s=1)(hc:chkE c.k c.s c.q c.i c.n c.T c.U=0)(h1:c.k≠1)(h2:c.k≠2)(hq:s.q<c.q)(hq1:1<=c.q):
  apR x c=exR x c/\(apX x c).K=exK x c/\(apX x c).l=[exS x c]/\(apX x c).g=x.g/\(apX x c).d=exD x c/\(apX x c).n=exC x c:=by
 have hG:ssG x.l c.s=some s:=by rw[hl,hcs,<-hs];exact one_G s
 obtain ⟨a,b⟩:=ap_do hc h1 h2 hG hq hq1;rw[a,b];exact ⟨rfl,rfl,by show ssD x.l (exS x c)=_;rw[hl];exact one_D _ _ (by rw[hs,<-hcs];rfl),rfl,rfl,rfl⟩
def cmE(s q i:Int)(T:Nat)(f:Bf):Cm:=⟨7,s,q,i,0,T,f,0,fun _=>0#8⟩
def cmD(s q:Int)(T:Nat)(f:Bf):Cm:=⟨8,s,q,0,0,T,f,0,fun _=>0#8⟩
def cmY(s q i n:Int):Cm:=⟨6,s,q,i,n,0,fun _=>0#8,0,fun _=>0#8⟩
theorem chk_E{q:Int}(h1:1<=q)(h2:q<=1000):chkE 7 1 q 1 0 4 0=0:=by
 unfold chkE;rw[if_pos (by simp[chkB,kiB,fitB,inB,sh,shN];omega)]
theorem chk_D{q:Int}{T:Nat}(h1:1<=q)(h2:q<=1000)(h3:T<=110):chkE 8 1 q 0 0 T 0=0:=by
 unfold chkE;rw[if_pos (by simp[chkB,kiB,fitB,inB,sh,shN];omega)]
theorem chk_Y{q:Int}(h1:1<=q)(h2:q<=1000):chkE 6 1 q 1 1 0 0=0:=by
 unfold chkE;rw[if_pos (by simp[chkB,kiB,fitB,inB,sh,shN];omega)]
def k2(v:Ve)(r:Rg):Ks:=[⟨false,[v]⟩,r]
theorem us_k2(m:Bf)(u:Int)(r:Rg)(hu:u<16):usE (k2 ⟨m,u,false⟩ r) 1=0/\usV (k2 ⟨m,u,false⟩ r) 1=1/\usC (k2 ⟨m,u,false⟩ r) 1=u/\usM (k2 ⟨m,u,false⟩ r) 1=m/\usK (k2 ⟨m,u,false⟩ r) 1=k2 ⟨m,u+1,false⟩ r:=by
 have e:usE (k2 ⟨m,u,false⟩ r) 1=0:=by
  have h1:hasK (k2 ⟨m,u,false⟩ r) 1=true:=by unfold hasK k2;simp
  have h2:rgAt (k2 ⟨m,u,false⟩ r) 1=⟨false,[⟨m,u,false⟩]⟩:=rfl;have h3:lastV ⟨false,[⟨m,u,false⟩]⟩=⟨m,u,false⟩:=rfl;unfold usE;rw[if_pos h1,h2,h3,if_neg Bool.false_ne_true,if_neg Bool.false_ne_true,if_neg (by show ¬ (16<=u);omega)]
 refine ⟨e,?_,?_,?_,?_⟩
 ·unfold usV;rw[if_pos e];rfl
 ·unfold usC;rw[if_pos e];rfl
 ·unfold usM;rw[if_pos e];rfl
 ·unfold usK;rw[if_pos e];rfl
theorem hasV_k2(v:Ve)(r:Rg):hasV (k2 v r) 1 1=true:=by unfold hasV hasK k2;simp;first|exact Int.le_refl 1|exact Nat.le_refl 1
theorem mt_k2(m:Bf)(u:Int)(r:Rg):mtE (k2 ⟨m,u,false⟩ r) 1 1=0/\mtM (k2 ⟨m,u,false⟩ r) 1 1=m:=by
 have e:mtE (k2 ⟨m,u,false⟩ r) 1 1=0:=by
  unfold mtE;rw[if_pos (hasV_k2 _ _)];rfl
 exact ⟨e,by unfold mtM;rw[if_pos e];rfl⟩
theorem mt_k2g(m:Bf)(u:Int)(r:Rg):mtE (k2 ⟨m,u,true⟩ r) 1 1=132:=by
 unfold mtE;rw[if_pos (hasV_k2 _ _)];rfl
theorem ds_k2(m:Bf)(u:Int)(r:Rg):dsE (k2 ⟨m,u,false⟩ r) 1 1=0/\dsK (k2 ⟨m,u,false⟩ r) 1 1=k2 ⟨fun _=>0#8,u,true⟩ r:=by
 have e:dsE (k2 ⟨m,u,false⟩ r) 1 1=0:=by
  unfold dsE;rw[if_pos (hasV_k2 _ _)];rfl
 exact ⟨e,by unfold dsK;rw[if_pos e];rfl⟩
theorem run_shown(f:Bf)(n:Nat)(t:Bf):
  ∃ (x1 x2 x4 x5 x6 x7 x8:Sx) (F:Bf) (TL:Nat),apX (st0 f n) cmO=x1/\(apR (st0 f n) cmO).n=1/\apX x1 (cmC 1 1)=x2/\(apR x1 (cmC 1 1)).n=1/\(apR x1 (cmC 1 1)).m=1/\apX x2 (cmC 1 1)=x2/\(apR x2 (cmC 1 1)).n=1/\
   apX x2 (cmC 1 2)=x4/\(apR x2 (cmC 1 2)).n=2/\apX x4 (cmE 1 3 1 4 t)=x5/\(apR x4 (cmE 1 3 1 4 t)).c=0/\(apR x4 (cmE 1 3 1 4 t)).T=TL/\(apR x4 (cmE 1 3 1 4 t)).f=F/\
   apX x5 (cmD 1 4 TL F)=x6/\(apR x5 (cmD 1 4 TL F)).T=4/\(∀ i,i<4->(apR x5 (cmD 1 4 TL F)).f i=t i)/\apX x6 (cmY 1 5 1 1)=x7/\(apR x6 (cmY 1 5 1 1)).c=0/\
   apX x7 (cmD 1 6 TL F)=x8/\(apR x7 (cmD 1 6 TL F)).c=132/\(apR x7 (cmD 1 6 TL F)).T=0:=by
 obtain ⟨o1,o2,o3,o4⟩:=open_1 (g:=0) (by omega) (by omega)
 have l1:(apX (st0 f n) cmO).l=[Se.new 1]:=by rw[(ap_O _).2];show opSe [] 0=_;rw[o1];rfl
 have k1:(apX (st0 f n) cmO).K=[]:=by rw[(ap_O _).2];rfl
 have n1:(apR (st0 f n) cmO).n=1:=by rw[(ap_O _).1];show opN [] 0=_;rw[o3];rfl
 obtain ⟨x1,h1⟩:∃ x1,x1=apX (st0 f n) cmO:=⟨_,rfl⟩;rw[<-h1] at l1 k1;obtain ⟨r2,k2',l2,-⟩:=ap_one (x:=x1) (c:=cmC 1 1) l1 rfl rfl (chk_C (s:=1) (q:=1) (by omega) (by omega) (by omega) (by omega)) (by show (3:Int)≠1;decide) (by show (3:Int)≠2;decide) (by show (0:Int)<1;decide) (by show (1:Int)<=1;decide)
 have e2:exR x1 (cmC 1 1)=⟨0,1,1,0,fun _=>0#8⟩:=by
  show rpO (crE x1.K) ⟨0,crN x1.K,1,0,fun _=>0#8⟩=_
  rw[k1];rfl
 have kk2:(apX x1 (cmC 1 1)).K=[⟨false,[⟨drM x1.d,0,false⟩]⟩]:=by
  rw[k2'];show crK x1.K (drM x1.d)=_;rw[k1];rfl
 have l2':(apX x1 (cmC 1 1)).l=[⟨1,1,0,1,1,0,fun _=>0#8⟩]:=by rw[l2];unfold exS;rw[e2];rfl
 obtain ⟨a1,a2⟩:=ap_again x1 (cmC 1 1) (by show (3:Int)≠1;decide) (by show (3:Int)≠2;decide)
 obtain ⟨m1,hm1⟩:∃ m1,m1=drM x1.d:=⟨_,rfl⟩;rw[<-hm1] at kk2;have n2:apR x1 (cmC 1 1)=⟨0,1,1,0,fun _=>0#8⟩:=r2.trans e2
 obtain ⟨x2,h2⟩:∃ x2,x2=apX x1 (cmC 1 1):=⟨_,rfl⟩;rw[<-h2] at kk2 l2' a1 a2;obtain ⟨r4,k4,l4,-⟩:=ap_one (x:=x2) (c:=cmC 1 2) l2' rfl rfl (chk_C (s:=1) (q:=2) (by omega) (by omega) (by omega) (by omega)) (by show (3:Int)≠1;decide) (by show (3:Int)≠2;decide) (by show (1:Int)<2;decide) (by show (1:Int)<=2;decide)
 have e4:exR x2 (cmC 1 2)=⟨0,2,1,0,fun _=>0#8⟩:=by
  show rpO (crE x2.K) ⟨0,crN x2.K,1,0,fun _=>0#8⟩=_
  rw[kk2];rfl
 have kk4:(apX x2 (cmC 1 2)).K=Oct.k2 ⟨m1,0,false⟩ ⟨false,[⟨drM x2.d,0,false⟩]⟩:=by
  rw[k4];show crK x2.K (drM x2.d)=_;rw[kk2];rfl
 obtain ⟨R,hR⟩:∃ R:Rg,R=⟨false,[⟨drM x2.d,0,false⟩]⟩:=⟨_,rfl⟩;rw[<-hR] at kk4;have n4:(apR x2 (cmC 1 2)).n=2:=by rw[r4,e4]
 obtain ⟨x4,h4⟩:∃ x4,x4=apX x2 (cmC 1 2):=⟨_,rfl⟩;rw[<-h4] at kk4 l4;obtain ⟨r5,k5,l5,-⟩:=ap_one (x:=x4) (c:=cmE 1 3 1 4 t) l4 rfl rfl (chk_E (q:=3) (by omega) (by omega)) (by show (7:Int)≠1;decide) (by show (7:Int)≠2;decide) (by show (2:Int)<3;decide) (by show (1:Int)<=3;decide)
 obtain ⟨u1,u2,u3,u4,u5⟩:=us_k2 m1 0 R (by omega)
 obtain ⟨c1,c2,c3,c4⟩:=en_ok (K:=Oct.k2 ⟨m1,0,false⟩ R) (id:=1) (L:=4) (S:=0) (by omega) u1
 have e5:exR x4 (cmE 1 3 1 4 t)=rpO (ecE x4.K 1 4 0) ⟨0,1,enV x4.K 1 4 0,enL x4.K 1 4 0,enF x4.K 1 t 4 (fun _=>0#8) 0⟩:=rfl
 have cF:enF x4.K 1 t 4 (fun _=>0#8) 0=blF 1 1 (nonC 0) (sealF m1 (nonC 0) (fun _=>0#8) 0 t 4):=by
  rw[kk4];unfold enF;rw[u2,u3,u4];rfl
 obtain ⟨F,hF⟩:∃ F,F=enF x4.K 1 t 4 (fun _=>0#8) 0:=⟨_,rfl⟩
 rw[<-hF] at e5 cF;rw[kk4,c1,c2,c4,u2] at e5;obtain ⟨TL,hTL⟩:∃ TL,TL=blL (1:Int).toNat (1:Int).toNat (4+16):=⟨_,rfl⟩;rw[<-hTL] at e5;have e5':exR x4 (cmE 1 3 1 4 t)=⟨0,1,1,TL,F⟩:=e5
 have kk5:(apX x4 (cmE 1 3 1 4 t)).K=Oct.k2 ⟨m1,1,false⟩ R:=by
  rw[k5];show enK x4.K 1 4 0=_;rw[kk4,c3,u5];rfl
 have hT:TL=blL 1 1 (4+16):=hTL;have hTl:TL<=110:=by rw[hT];decide
 have n5:=r5.trans e5';obtain ⟨x5,h5⟩:∃ x5,x5=apX x4 (cmE 1 3 1 4 t):=⟨_,rfl⟩;rw[<-h5] at kk5 l5;obtain ⟨r6,k6,l6,-⟩:=ap_one (x:=x5) (c:=cmD 1 4 TL F) l5 rfl rfl (chk_D (q:=4) (by omega) (by omega) hTl) (by show (8:Int)≠1;decide) (by show (8:Int)≠2;decide) (by show (3:Int)<4;decide) (by show (1:Int)<=4;decide)
 obtain ⟨p1,p2⟩:=mt_k2 m1 1 R;obtain ⟨d1,d2,d3,d4⟩:=dc_back (K:=Oct.k2 ⟨m1,1,false⟩ R) (i:=1) (v:=1) (L:=4) (S:=0) (n:=nonC 0) (t:=t) (s:=fun _=>0#8) (m:=m1) (by decide) (by decide) (by decide) (by decide) (by decide) (by decide) p1 p2
 rw[<-cF,<-hT] at d1 d3 d4;have e6:exR x5 (cmD 1 4 TL F)=rpO (dcE x5.K TL F (fun _=>0#8) 0) ⟨0,0,0,dcL x5.K TL F (fun _=>0#8) 0,dcF x5.K TL F⟩:=rfl
 rw[kk5,d1,d3] at e6;have e6':exR x5 (cmD 1 4 TL F)=⟨0,0,0,4,dcF (Oct.k2 ⟨m1,1,false⟩ R) TL F⟩:=e6
 have kk6:(apX x5 (cmD 1 4 TL F)).K=Oct.k2 ⟨m1,1,false⟩ R:=by
  rw[k6];show x5.K=_;exact kk5
 have n6:=r6.trans e6';obtain ⟨x6,h6⟩:∃ x6,x6=apX x5 (cmD 1 4 TL F):=⟨_,rfl⟩;rw[<-h6] at kk6 l6;obtain ⟨r7,k7,l7,-⟩:=ap_one (x:=x6) (c:=cmY 1 5 1 1) l6 rfl rfl (chk_Y (q:=5) (by omega) (by omega)) (by show (6:Int)≠1;decide) (by show (6:Int)≠2;decide) (by show (4:Int)<5;decide) (by show (1:Int)<=5;decide)
 obtain ⟨q1,q2⟩:=ds_k2 m1 1 R;have e7:exR x6 (cmY 1 5 1 1)=rpE (dsE x6.K 1 1):=rfl;rw[kk6,q1] at e7
 have kk7:(apX x6 (cmY 1 5 1 1)).K=Oct.k2 ⟨fun _=>0#8,1,true⟩ R:=by
  rw[k7];show dsK x6.K 1 1=_;rw[kk6,q2]
 have n7:=r7.trans e7;obtain ⟨x7,h7⟩:∃ x7,x7=apX x6 (cmY 1 5 1 1):=⟨_,rfl⟩;rw[<-h7] at kk7 l7;obtain ⟨r8,-⟩:=ap_one (x:=x7) (c:=cmD 1 6 TL F) l7 rfl rfl (chk_D (q:=6) (by omega) (by omega) hTl) (by show (8:Int)≠1;decide) (by show (8:Int)≠2;decide) (by show (5:Int)<6;decide) (by show (1:Int)<=6;decide)
 have e8:exR x7 (cmD 1 6 TL F)=rpO (dcE x7.K TL F (fun _=>0#8) 0) ⟨0,0,0,dcL x7.K TL F (fun _=>0#8) 0,dcF x7.K TL F⟩:=rfl
 have g8:dcE x7.K TL F (fun _=>0#8) 0=132:=by
  rw[kk7,cF,hT,dc_gen (by decide) (by decide) (by decide) (by decide) (by decide) (by decide) (by decide)]
  show (if mtE (Oct.k2 ⟨fun _=>0#8,1,true⟩ R) 1 1=0 then _ else mtE (Oct.k2 ⟨fun _=>0#8,1,true⟩ R) 1 1)=132
  rw[mt_k2g];rfl
 rw[g8] at e8;have n8:=r8.trans e8;exact ⟨x1,x2,x4,x5,x6,x7,_,F,TL,h1.symm,n1,h2.symm,by rw[n2],by rw[n2],a2,by rw[a1,n2],h4.symm,n4,h5.symm,by rw[n5],by rw[n5],by rw[n5],h6.symm,by rw[n6],by rw[n6];exact d4,h7.symm,by rw[n7];rfl,rfl,by rw[n8];rfl,by rw[n8];rfl⟩
open Go.ChangeShapes Go.WideShapes Go.ChangeAt Go.RowKit Go.Maps
theorem co_bO(w:World):(Instr.build 36 #[(0,.int .i64 1)]).run Tryz.prog w=.ok (cmV cmO none 0 none 0) w:=by kernel_rfl
theorem co_bC(s q:Int)(w:World):(Instr.build 36 #[(0,.int .i64 3),(1,.int .i64 s),(2,.int .i64 q)]).run Tryz.prog w=.ok (cmV (cmC s q) none 0 none 0) w:=by kernel_rfl
theorem co_bE(s q i:Int)(T:Nat)(f:Bf)(A:Option Addr)(a:Nat)(w:World):(Instr.build 36 #[(0,.int .i64 7),(1,.int .i64 s),(2,.int .i64 q),(3,.int .i64 i),(5,.slice A T a)]).run Tryz.prog w=.ok (cmV (cmE s q i T f) A a none 0) w:=by kernel_rfl
theorem co_bD(s q:Int)(T:Nat)(f:Bf)(A:Option Addr)(a:Nat)(w:World):(Instr.build 36 #[(0,.int .i64 8),(1,.int .i64 s),(2,.int .i64 q),(5,.slice A T a)]).run Tryz.prog w=.ok (cmV (cmD s q T f) A a none 0) w:=by kernel_rfl
theorem co_bY(s q i n:Int)(w:World):(Instr.build 36 #[(0,.int .i64 6),(1,.int .i64 s),(2,.int .i64 q),(3,.int .i64 i),(4,.int .i64 n)]).run Tryz.prog w=.ok (cmV (cmY s q i n) none 0 none 0) w:=by kernel_rfl
theorem CmR.nothing(T:Mk)(w:World)(c:Cm)(h:c.T=0)(h':c.U=0):CmR T w 0 c none 0 none 0:=⟨by rw[h];exact RdS.nil _ _ _ _,by rw[h'];exact RdS.nil _ _ _ _⟩
theorem CmR.data{T:Mk}{w:World}{c:Cm}{A:Option Addr}{a:Nat}(h:RdS T w 0 A c.T a c.f)(h':c.U=0):CmR T w 0 c A a none 0:=⟨h,by rw[h'];exact RdS.nil _ _ _ _⟩
def sdF:Bf:=litF [115#8,101#8,101#8,100#8]
def txt4:Bf:=litF [116#8,101#8,120#8,116#8]
theorem sd_lit:(#[.int .u8 115,.int .u8 101,.int .u8 101,.int .u8 100]:Array Value)=ba 4 sdF:=by unfold ba sdF litF;kernel_rfl
theorem tx_lit:(#[.int .u8 116,.int .u8 101,.int .u8 120,.int .u8 116]:Array Value)=ba 4 txt4:=by unfold ba txt4 litF;kernel_rfl
theorem tx_str{f:Bf}(h:∀ i,i<4->f i=txt4 i):xC 4 f=⟨#[116,101,120,116]⟩:=by rw[str_congr h];unfold xC;decide+kernel
theorem RdS.lit{T:Mk}{w w':World}{n c:Nat}{f:Bf}(h:Sl w' w'.heap.size (some ⟨w.heap.size,0,none⟩) n c f):RdS (paint T w.heap.size 0) w' 0 (some ⟨w.heap.size,0,none⟩) n c f:=⟨h,fun _ a ha=>by cases ha;exact zP (Nat.le_refl _)⟩
def RpK(b:Nat)(r:Rp)(A:Option Addr)(k:Nat)(T:Mk)(w:World):Prop:=(row w b=some #[.int .i64 r.c,.int .i64 r.n,.int .i64 r.m,.slice A r.T k]/\T b=0)/\RdS T w 0 A r.T k r.f
theorem Stb.rp{S:Nat->Prop}{b:Nat}{r:Rp}{A:Option Addr}{k:Nat}(h0:¬ S 0):Stb S (RpK b r A k):=Stb.and (Stb.row (t:=0) h0) (Stb.rd h0)
theorem hS0:¬ H2 5 0:=by unfold H2;omega
theorem ls_keep{K:Kp}{W w:World}{t B:Nat}{x:Sx}{r:Rp}{A:Option Addr}{k:Nat}(h:LS (fun T y=>StAt T y t B x/\K T y/\RdS T y 0 A r.T k r.f) W w)(hK:Stb (fun _=>False) K):
  LS (fun T y=>StAt T y t B x/\(K T y/\RpK w.heap.size r A k T y)) W (w.alloc (.cells #[.int .i64 r.c,.int .i64 r.n,.int .i64 r.m,.slice A r.T k] 33)):=by
 have hb:=(Below.refl w.heap.size w).alloc (Nat.le_refl _) (.cells #[.int .i64 r.c,.int .i64 r.n,.int .i64 r.m,.slice A r.T k] 33);exact (h.add (K':=fun T y=>row y w.heap.size=some #[.int .i64 r.c,.int .i64 r.n,.int .i64 r.m,.slice A r.T k]/\T w.heap.size=0) (Stb.and (Stb.st (fun h=>h) (fun h=>h) (fun h=>h)) (Stb.and hK (Stb.rd (fun h=>h)))) hb 0 fun T=>⟨zA _ _ _ _ rfl,zP (Nat.le_refl _)⟩).mono fun T k=>⟨k.1.1,k.1.2.1,k.2,k.1.2.2⟩
theorem shown16_any(w:World)(htab:Tab w):Calls Tryz.prog 10 #[] w fun e w'=>e=.returned (.bool true)/\Below w.heap.size w w':=by
 have HT:=Lib.hid htab;obtain ⟨x1,x2,x4,x5,x6,x7,x8,F,TL,h1,n1,h2,n2,m2,h3,n3,h4,n4,h5,c5,T5,F5,h6,T6,F6,h7,c7,h8,c8,T8⟩:=run_shown sdF 4 txt4;have HM:=Lib.hid (And.intro h1 (And.intro n1 (And.intro h2 (And.intro n2 (And.intro m2 (And.intro h3 (And.intro n3 (And.intro h4 n4))))))));have HN:=Lib.hid (And.intro h5 (And.intro c5 (And.intro T5 (And.intro F5 (And.intro h6 (And.intro T6 (And.intro F6 (And.intro h7 (And.intro c7 (And.intro h8 (And.intro c8 T8)))))))))));clear h1 n1 h2 n2 m2 h3 n3 h4 n4 h5 c5 T5 F5 h6 T6 F6 h7 c7 h8 c8 T8 htab;have bO:=co_bO;go_enter Tryz.func10,Tryz.ntmps10;go_wp2_with fail;obtain ⟨wl,hwl⟩:∃ wl,wl=w.alloc (.cells #[.int .u8 115,.int .u8 101,.int .u8 101,.int .u8 100] 5 (4,5)):=⟨_,rfl⟩;have b0:Below w.heap.size w wl:=by rw[hwl];exact (Below.refl _ _).alloc (Nat.le_refl _) _
 have s0:Sl wl wl.heap.size (some ⟨w.heap.size,0,none⟩) 4 4 sdF:=by rw[hwl];exact Sl.lit w sd_lit _ _ _ (by simp)
 have P0:=Lib.hid ((LS.init (K:=fun _ _=>True) w trivial).add (K':=fun T y=>RdS T y 0 (some ⟨w.heap.size,0,none⟩) 4 4 sdF) Stb.triv b0 0 fun T=>RdS.lit s0)
 rw[<-hwl];clear hwl b0 s0;refine (ls_new P0.out (Stb.and Stb.triv (Stb.rd (fun h=>h))) HT.out (t:=5) (by omega) (fun T k=>k.2) (by omega)).mono ?_
 rintro e w0 ⟨B,rfl,h,-⟩;have Q0:=Lib.hid (show LS (fun T y=>StAt T y 5 B (st0 sdF 4)/\True) w w0 from h.mono fun T k=>⟨k.2,trivial⟩)
 have X0:=Lib.hid (SxB.new sdF 4);clear h P0;go_wp2_with fail;refine (ls_apply Q0.out (Stb.triv (S:=H2 5)) HT.out (by omega) cmO (fun T k=>CmR.nothing T _ _ rfl rfl) (.inl (by omega)) (by have:=X0.out.n;omega)).mono ?_
 rintro e w1 ⟨A1,k1,rfl,h,-⟩;have X1:=Lib.hid (show SxB 2 x1 from by have h:=X0.out.ap cmO;rw[HM.out.1] at h;exact h)
 have Q1:=Lib.hid (show LS (fun T y=>StAt T y 5 B x1/\(True/\RpK w1.heap.size (apR (st0 sdF 4) cmO) A1 k1 T y)) w (w1.alloc (.cells #[.int .i64 (apR (st0 sdF 4) cmO).c,.int .i64 (apR (st0 sdF 4) cmO).n,.int .i64 (apR (st0 sdF 4) cmO).m,.slice A1 (apR (st0 sdF 4) cmO).T k1] 33)) from by
  rw[HM.out.1] at h
  exact ls_keep (h.mono fun T k=>⟨k.1,k.2.1,k.2.2⟩) (Stb.calm (Stb.triv (S:=H2 5))))
 clear h Q0 X0;obtain ⟨v1,hv1⟩:∃ v,v=w1.alloc (.cells #[.int .i64 (apR (st0 sdF 4) cmO).c,.int .i64 (apR (st0 sdF 4) cmO).n,.int .i64 (apR (st0 sdF 4) cmO).m,.slice A1 (apR (st0 sdF 4) cmO).T k1] 33):=⟨_,rfl⟩;rw[<-hv1] at Q1;go_upto_region 5 with fail
 rw[<-hv1];clear hv1;have bd:=co_bC;go_wp2_with fail;refine (ls_apply Q1.out (Stb.and (Stb.triv (S:=H2 5)) (Stb.rp hS0)) HT.out (by omega) (cmC 1 1) (fun T k=>CmR.nothing T _ _ rfl rfl) (.inl (by omega)) (by have:=X1.out.n;omega)).mono ?_
 rintro e w2 ⟨A2,k2,rfl,h,-⟩;have X2:=Lib.hid (show SxB 3 x2 from by have h:=X1.out.ap (cmC 1 1);rw[HM.out.2.2.1] at h;exact h)
 have Q2:=Lib.hid (show LS (fun T y=>StAt T y 5 B x2/\((True/\RpK w1.heap.size (apR (st0 sdF 4) cmO) A1 k1 T y)/\RpK w2.heap.size (apR x1 (cmC 1 1)) A2 k2 T y)) w (w2.alloc (.cells #[.int .i64 (apR x1 (cmC 1 1)).c,.int .i64 (apR x1 (cmC 1 1)).n,.int .i64 (apR x1 (cmC 1 1)).m,.slice A2 (apR x1 (cmC 1 1)).T k2] 33)) from by
  rw[HM.out.2.2.1] at h
  exact ls_keep (h.mono fun T k=>⟨k.1,k.2.1,k.2.2⟩) (Stb.calm (Stb.and (Stb.triv (S:=H2 5)) (Stb.rp hS0))))
 clear h Q1 X1 bd;obtain ⟨v2,hv2⟩:∃ v,v=w2.alloc (.cells #[.int .i64 (apR x1 (cmC 1 1)).c,.int .i64 (apR x1 (cmC 1 1)).n,.int .i64 (apR x1 (cmC 1 1)).m,.slice A2 (apR x1 (cmC 1 1)).T k2] 33):=⟨_,rfl⟩;rw[<-hv2] at Q2;go_upto_region 6 with fail
 rw[<-hv2];clear hv2;have bd:=co_bC;go_wp2_with fail;refine (ls_apply Q2.out (Stb.and (Stb.and (Stb.triv (S:=H2 5)) (Stb.rp hS0)) (Stb.rp hS0)) HT.out (by omega) (cmC 1 1) (fun T k=>CmR.nothing T _ _ rfl rfl) (.inl (by omega)) (by have:=X2.out.n;omega)).mono ?_
 rintro e w3 ⟨A3,k3,rfl,h,-⟩;have X3:=Lib.hid (show SxB 4 x2 from by have h:=X2.out.ap (cmC 1 1);rw[HM.out.2.2.2.2.2.1] at h;exact h)
 have Q3:=Lib.hid (show LS (fun T y=>StAt T y 5 B x2/\(((True/\RpK w1.heap.size (apR (st0 sdF 4) cmO) A1 k1 T y)/\RpK w2.heap.size (apR x1 (cmC 1 1)) A2 k2 T y)/\RpK w3.heap.size (apR x2 (cmC 1 1)) A3 k3 T y)) w (w3.alloc (.cells #[.int .i64 (apR x2 (cmC 1 1)).c,.int .i64 (apR x2 (cmC 1 1)).n,.int .i64 (apR x2 (cmC 1 1)).m,.slice A3 (apR x2 (cmC 1 1)).T k3] 33)) from by
  rw[HM.out.2.2.2.2.2.1] at h
  exact ls_keep (h.mono fun T k=>⟨k.1,k.2.1,k.2.2⟩) (Stb.calm (Stb.and (Stb.and (Stb.triv (S:=H2 5)) (Stb.rp hS0)) (Stb.rp hS0))))
 clear h Q2 X2 bd;obtain ⟨v3,hv3⟩:∃ v,v=w3.alloc (.cells #[.int .i64 (apR x2 (cmC 1 1)).c,.int .i64 (apR x2 (cmC 1 1)).n,.int .i64 (apR x2 (cmC 1 1)).m,.slice A3 (apR x2 (cmC 1 1)).T k3] 33):=⟨_,rfl⟩;rw[<-hv3] at Q3;go_upto_region 7 with fail
 rw[<-hv3];clear hv3;have bd:=co_bC;go_wp2_with fail;refine (ls_apply Q3.out (Stb.and (Stb.and (Stb.and (Stb.triv (S:=H2 5)) (Stb.rp hS0)) (Stb.rp hS0)) (Stb.rp hS0)) HT.out (by omega) (cmC 1 2) (fun T k=>CmR.nothing T _ _ rfl rfl) (.inl (by omega)) (by have:=X3.out.n;omega)).mono ?_
 rintro e w4 ⟨A4,k4,rfl,h,-⟩;have X4:=Lib.hid (show SxB 5 x4 from by have h:=X3.out.ap (cmC 1 2);rw[HM.out.2.2.2.2.2.2.2.1] at h;exact h)
 have Q4:=Lib.hid (show LS (fun T y=>StAt T y 5 B x4/\((((True/\RpK w1.heap.size (apR (st0 sdF 4) cmO) A1 k1 T y)/\RpK w2.heap.size (apR x1 (cmC 1 1)) A2 k2 T y)/\RpK w3.heap.size (apR x2 (cmC 1 1)) A3 k3 T y)/\RpK w4.heap.size (apR x2 (cmC 1 2)) A4 k4 T y)) w (w4.alloc (.cells #[.int .i64 (apR x2 (cmC 1 2)).c,.int .i64 (apR x2 (cmC 1 2)).n,.int .i64 (apR x2 (cmC 1 2)).m,.slice A4 (apR x2 (cmC 1 2)).T k4] 33)) from by
  rw[HM.out.2.2.2.2.2.2.2.1] at h
  exact ls_keep (h.mono fun T k=>⟨k.1,k.2.1,k.2.2⟩) (Stb.calm (Stb.and (Stb.and (Stb.and (Stb.triv (S:=H2 5)) (Stb.rp hS0)) (Stb.rp hS0)) (Stb.rp hS0))))
 clear h Q3 X3 bd;obtain ⟨v4,hv4⟩:∃ v,v=w4.alloc (.cells #[.int .i64 (apR x2 (cmC 1 2)).c,.int .i64 (apR x2 (cmC 1 2)).n,.int .i64 (apR x2 (cmC 1 2)).m,.slice A4 (apR x2 (cmC 1 2)).T k4] 33):=⟨_,rfl⟩;rw[<-hv4] at Q4;go_upto_region 8 with fail
 rw[<-hv4];clear hv4;have bd:=fun (A:Option Addr) (a:Nat)=>co_bE 1 3 1 4 txt4 A a
 go_wp2_with fail;obtain ⟨wl,hwl⟩:∃ wl,wl=v4.alloc (.cells #[.int .u8 116,.int .u8 101,.int .u8 120,.int .u8 116] 5 (4,5)):=⟨_,rfl⟩;have b0:Below v4.heap.size v4 wl:=by rw[hwl];exact (Below.refl _ _).alloc (Nat.le_refl _) _
 have s0:Sl wl wl.heap.size (some ⟨v4.heap.size,0,none⟩) 4 4 txt4:=by rw[hwl];exact Sl.lit v4 tx_lit _ _ _ (by simp)
 have QL:=Lib.hid (show LS (fun T y=>StAt T y 5 B x4/\(((((True/\RpK w1.heap.size (apR (st0 sdF 4) cmO) A1 k1 T y)/\RpK w2.heap.size (apR x1 (cmC 1 1)) A2 k2 T y)/\RpK w3.heap.size (apR x2 (cmC 1 1)) A3 k3 T y)/\RpK w4.heap.size (apR x2 (cmC 1 2)) A4 k4 T y)/\RdS T y 0 (some ⟨v4.heap.size,0,none⟩) 4 4 txt4)) w wl from (Q4.out.add (K':=fun T y=>RdS T y 0 (some ⟨v4.heap.size,0,none⟩) 4 4 txt4) (Stb.and (Stb.st (fun h=>h) (fun h=>h) (fun h=>h)) (Stb.calm (Stb.and (Stb.and (Stb.and (Stb.and (Stb.triv (S:=H2 5)) (Stb.rp hS0)) (Stb.rp hS0)) (Stb.rp hS0)) (Stb.rp hS0)))) b0 0 fun T=>RdS.lit s0).mono fun T k=>⟨k.1.1,k.1.2,k.2⟩)
 rw[<-hwl];clear hwl b0 s0;refine (ls_apply QL.out (Stb.and (Stb.and (Stb.and (Stb.and (Stb.and (Stb.triv (S:=H2 5)) (Stb.rp hS0)) (Stb.rp hS0)) (Stb.rp hS0)) (Stb.rp hS0)) (Stb.rd hS0)) HT.out (by omega) (cmE 1 3 1 4 txt4) (fun T k=>CmR.data k.2 rfl) (.inl (by omega)) (by have:=X4.out.n;omega)).mono ?_
 rintro e w5 ⟨A5,k5,rfl,h,-⟩;have X5:=Lib.hid (show SxB 6 x5 from by have h:=X4.out.ap (cmE 1 3 1 4 txt4);rw[HN.out.1] at h;exact h)
 have Q5:=Lib.hid (show LS (fun T y=>StAt T y 5 B x5/\(((((True/\RpK w1.heap.size (apR (st0 sdF 4) cmO) A1 k1 T y)/\RpK w2.heap.size (apR x1 (cmC 1 1)) A2 k2 T y)/\RpK w3.heap.size (apR x2 (cmC 1 1)) A3 k3 T y)/\RpK w4.heap.size (apR x2 (cmC 1 2)) A4 k4 T y)/\RpK w5.heap.size (apR x4 (cmE 1 3 1 4 txt4)) A5 k5 T y)) w (w5.alloc (.cells #[.int .i64 (apR x4 (cmE 1 3 1 4 txt4)).c,.int .i64 (apR x4 (cmE 1 3 1 4 txt4)).n,.int .i64 (apR x4 (cmE 1 3 1 4 txt4)).m,.slice A5 (apR x4 (cmE 1 3 1 4 txt4)).T k5] 33)) from by
  rw[HN.out.1] at h
  exact ls_keep (h.mono fun T k=>⟨k.1,k.2.1.1,k.2.2⟩) (Stb.calm (Stb.and (Stb.and (Stb.and (Stb.and (Stb.triv (S:=H2 5)) (Stb.rp hS0)) (Stb.rp hS0)) (Stb.rp hS0)) (Stb.rp hS0))))
 clear h Q4 X4 QL bd;obtain ⟨v5,hv5⟩:∃ v,v=w5.alloc (.cells #[.int .i64 (apR x4 (cmE 1 3 1 4 txt4)).c,.int .i64 (apR x4 (cmE 1 3 1 4 txt4)).n,.int .i64 (apR x4 (cmE 1 3 1 4 txt4)).m,.slice A5 (apR x4 (cmE 1 3 1 4 txt4)).T k5] 33):=⟨_,rfl⟩;rw[<-hv5] at Q5;go_upto_region 9 with fail
 rw[<-hv5];clear hv5;have bd:=fun (q:Int)=>co_bD 1 q TL F A5 k5
 obtain ⟨Tz,kz⟩:=Q5.out.fact;have g6:v5.cell? ⟨w5.heap.size,3,none⟩=some (.slice A5 TL k5):=by have h:=(yD (kz.2.2.1.1)).2.2.2;rw[HN.out.2.2.1] at h;exact h
 clear kz;go_wp2_with fail;clear g6;refine (ls_apply Q5.out (Stb.and (Stb.and (Stb.and (Stb.and (Stb.and (Stb.triv (S:=H2 5)) (Stb.rp hS0)) (Stb.rp hS0)) (Stb.rp hS0)) (Stb.rp hS0)) (Stb.rp hS0)) HT.out (by omega) (cmD 1 4 TL F) (fun T k=>CmR.data (by have h:=k.2.2;rw[HN.out.2.2.1,HN.out.2.2.2.1] at h;exact h) rfl) (.inl (by omega)) (by have:=X5.out.n;omega)).mono ?_
 rintro e w6 ⟨A6,k6,rfl,h,-⟩;have X6:=Lib.hid (show SxB 7 x6 from by have h:=X5.out.ap (cmD 1 4 TL F);rw[HN.out.2.2.2.2.1] at h;exact h)
 have Q6:=Lib.hid (show LS (fun T y=>StAt T y 5 B x6/\((((((True/\RpK w1.heap.size (apR (st0 sdF 4) cmO) A1 k1 T y)/\RpK w2.heap.size (apR x1 (cmC 1 1)) A2 k2 T y)/\RpK w3.heap.size (apR x2 (cmC 1 1)) A3 k3 T y)/\RpK w4.heap.size (apR x2 (cmC 1 2)) A4 k4 T y)/\RpK w5.heap.size (apR x4 (cmE 1 3 1 4 txt4)) A5 k5 T y)/\RpK w6.heap.size (apR x5 (cmD 1 4 TL F)) A6 k6 T y)) w (w6.alloc (.cells #[.int .i64 (apR x5 (cmD 1 4 TL F)).c,.int .i64 (apR x5 (cmD 1 4 TL F)).n,.int .i64 (apR x5 (cmD 1 4 TL F)).m,.slice A6 (apR x5 (cmD 1 4 TL F)).T k6] 33)) from by
  rw[HN.out.2.2.2.2.1] at h
  exact ls_keep (h.mono fun T k=>⟨k.1,k.2.1,k.2.2⟩) (Stb.calm (Stb.and (Stb.and (Stb.and (Stb.and (Stb.and (Stb.triv (S:=H2 5)) (Stb.rp hS0)) (Stb.rp hS0)) (Stb.rp hS0)) (Stb.rp hS0)) (Stb.rp hS0))))
 clear h Q5 X5 bd;obtain ⟨v6,hv6⟩:∃ v,v=w6.alloc (.cells #[.int .i64 (apR x5 (cmD 1 4 TL F)).c,.int .i64 (apR x5 (cmD 1 4 TL F)).n,.int .i64 (apR x5 (cmD 1 4 TL F)).m,.slice A6 (apR x5 (cmD 1 4 TL F)).T k6] 33):=⟨_,rfl⟩;rw[<-hv6] at Q6;go_upto_region 10 with fail
 rw[<-hv6];clear hv6;have bd:=co_bY;go_wp2_with fail;refine (ls_apply Q6.out (Stb.and (Stb.and (Stb.and (Stb.and (Stb.and (Stb.and (Stb.triv (S:=H2 5)) (Stb.rp hS0)) (Stb.rp hS0)) (Stb.rp hS0)) (Stb.rp hS0)) (Stb.rp hS0)) (Stb.rp hS0)) HT.out (by omega) (cmY 1 5 1 1) (fun T k=>CmR.nothing T _ _ rfl rfl) (.inl (by omega)) (by have:=X6.out.n;omega)).mono ?_
 rintro e w7 ⟨A7,k7,rfl,h,-⟩;have X7:=Lib.hid (show SxB 8 x7 from by have h:=X6.out.ap (cmY 1 5 1 1);rw[HN.out.2.2.2.2.2.2.2.1] at h;exact h)
 have Q7:=Lib.hid (show LS (fun T y=>StAt T y 5 B x7/\(((((((True/\RpK w1.heap.size (apR (st0 sdF 4) cmO) A1 k1 T y)/\RpK w2.heap.size (apR x1 (cmC 1 1)) A2 k2 T y)/\RpK w3.heap.size (apR x2 (cmC 1 1)) A3 k3 T y)/\RpK w4.heap.size (apR x2 (cmC 1 2)) A4 k4 T y)/\RpK w5.heap.size (apR x4 (cmE 1 3 1 4 txt4)) A5 k5 T y)/\RpK w6.heap.size (apR x5 (cmD 1 4 TL F)) A6 k6 T y)/\RpK w7.heap.size (apR x6 (cmY 1 5 1 1)) A7 k7 T y)) w (w7.alloc (.cells #[.int .i64 (apR x6 (cmY 1 5 1 1)).c,.int .i64 (apR x6 (cmY 1 5 1 1)).n,.int .i64 (apR x6 (cmY 1 5 1 1)).m,.slice A7 (apR x6 (cmY 1 5 1 1)).T k7] 33)) from by
  rw[HN.out.2.2.2.2.2.2.2.1] at h
  exact ls_keep (h.mono fun T k=>⟨k.1,k.2.1,k.2.2⟩) (Stb.calm (Stb.and (Stb.and (Stb.and (Stb.and (Stb.and (Stb.and (Stb.triv (S:=H2 5)) (Stb.rp hS0)) (Stb.rp hS0)) (Stb.rp hS0)) (Stb.rp hS0)) (Stb.rp hS0)) (Stb.rp hS0))))
 clear h Q6 X6 bd;obtain ⟨v7,hv7⟩:∃ v,v=w7.alloc (.cells #[.int .i64 (apR x6 (cmY 1 5 1 1)).c,.int .i64 (apR x6 (cmY 1 5 1 1)).n,.int .i64 (apR x6 (cmY 1 5 1 1)).m,.slice A7 (apR x6 (cmY 1 5 1 1)).T k7] 33):=⟨_,rfl⟩;rw[<-hv7] at Q7;go_upto_region 11 with fail
 rw[<-hv7];clear hv7;have bd:=fun (q:Int)=>co_bD 1 q TL F A5 k5
 obtain ⟨Tz,kz⟩:=Q7.out.fact;have g6:v7.cell? ⟨w5.heap.size,3,none⟩=some (.slice A5 TL k5):=by have h:=(yD (kz.2.1.1.2.1.1)).2.2.2;rw[HN.out.2.2.1] at h;exact h
 clear kz;go_wp2_with fail;clear g6;refine (ls_apply Q7.out (Stb.and (Stb.and (Stb.and (Stb.and (Stb.and (Stb.and (Stb.and (Stb.triv (S:=H2 5)) (Stb.rp hS0)) (Stb.rp hS0)) (Stb.rp hS0)) (Stb.rp hS0)) (Stb.rp hS0)) (Stb.rp hS0)) (Stb.rp hS0)) HT.out (by omega) (cmD 1 6 TL F) (fun T k=>CmR.data (by have h:=k.1.1.2.2;rw[HN.out.2.2.1,HN.out.2.2.2.1] at h;exact h) rfl) (.inl (by omega)) (by have:=X7.out.n;omega)).mono ?_
 rintro e w8 ⟨A8,k8,rfl,h,-⟩;have X8:=Lib.hid (show SxB 9 x8 from by have h:=X7.out.ap (cmD 1 6 TL F);rw[HN.out.2.2.2.2.2.2.2.2.2.1] at h;exact h)
 have Q8:=Lib.hid (show LS (fun T y=>StAt T y 5 B x8/\((((((((True/\RpK w1.heap.size (apR (st0 sdF 4) cmO) A1 k1 T y)/\RpK w2.heap.size (apR x1 (cmC 1 1)) A2 k2 T y)/\RpK w3.heap.size (apR x2 (cmC 1 1)) A3 k3 T y)/\RpK w4.heap.size (apR x2 (cmC 1 2)) A4 k4 T y)/\RpK w5.heap.size (apR x4 (cmE 1 3 1 4 txt4)) A5 k5 T y)/\RpK w6.heap.size (apR x5 (cmD 1 4 TL F)) A6 k6 T y)/\RpK w7.heap.size (apR x6 (cmY 1 5 1 1)) A7 k7 T y)/\RpK w8.heap.size (apR x7 (cmD 1 6 TL F)) A8 k8 T y)) w (w8.alloc (.cells #[.int .i64 (apR x7 (cmD 1 6 TL F)).c,.int .i64 (apR x7 (cmD 1 6 TL F)).n,.int .i64 (apR x7 (cmD 1 6 TL F)).m,.slice A8 (apR x7 (cmD 1 6 TL F)).T k8] 33)) from by
  rw[HN.out.2.2.2.2.2.2.2.2.2.1] at h
  exact ls_keep (h.mono fun T k=>⟨k.1,k.2.1,k.2.2⟩) (Stb.calm (Stb.and (Stb.and (Stb.and (Stb.and (Stb.and (Stb.and (Stb.and (Stb.triv (S:=H2 5)) (Stb.rp hS0)) (Stb.rp hS0)) (Stb.rp hS0)) (Stb.rp hS0)) (Stb.rp hS0)) (Stb.rp hS0)) (Stb.rp hS0))))
 clear h Q7 X7 bd;obtain ⟨v8,hv8⟩:∃ v,v=w8.alloc (.cells #[.int .i64 (apR x7 (cmD 1 6 TL F)).c,.int .i64 (apR x7 (cmD 1 6 TL F)).n,.int .i64 (apR x7 (cmD 1 6 TL F)).m,.slice A8 (apR x7 (cmD 1 6 TL F)).T k8] 33):=⟨_,rfl⟩;rw[<-hv8] at Q8;go_upto_region 12 with fail
 rw[<-hv8];clear hv8;obtain ⟨Tz,-,kz⟩:=Q8.out.fact;have a1:v8.cell? ⟨w1.heap.size,1,none⟩=some (.int .i64 1):=by have h:=(yD kz.1.1.1.1.1.1.1.2.1.1).2.1;rw[HM.out.2.1] at h;exact h
 have b1:v8.cell? ⟨w2.heap.size,1,none⟩=some (.int .i64 1):=by have h:=(yD kz.1.1.1.1.1.1.2.1.1).2.1;rw[HM.out.2.2.2.1] at h;exact h
 have b2:v8.cell? ⟨w2.heap.size,2,none⟩=some (.int .i64 1):=by have h:=(yD kz.1.1.1.1.1.1.2.1.1).2.2.1;rw[HM.out.2.2.2.2.1] at h;exact h
 have c1:v8.cell? ⟨w3.heap.size,1,none⟩=some (.int .i64 1):=by have h:=(yD kz.1.1.1.1.1.2.1.1).2.1;rw[HM.out.2.2.2.2.2.2.1] at h;exact h
 have d1:v8.cell? ⟨w4.heap.size,1,none⟩=some (.int .i64 2):=by have h:=(yD kz.1.1.1.1.2.1.1).2.1;rw[HM.out.2.2.2.2.2.2.2.2] at h;exact h
 have e1:v8.cell? ⟨w5.heap.size,0,none⟩=some (.int .i64 0):=by have h:=(yD kz.1.1.1.2.1.1).1;rw[HN.out.2.1] at h;exact h
 have f1:v8.cell? ⟨w6.heap.size,3,none⟩=some (.slice A6 4 k6):=by have h:=(yD kz.1.1.2.1.1).2.2.2;rw[HN.out.2.2.2.2.2.1] at h;exact h
 have g1:v8.cell? ⟨w7.heap.size,0,none⟩=some (.int .i64 0):=by have h:=(yD kz.1.2.1.1).1;rw[HN.out.2.2.2.2.2.2.2.2.1] at h;exact h
 have h1:v8.cell? ⟨w8.heap.size,0,none⟩=some (.int .i64 132):=by have h:=(yD kz.2.1.1).1;rw[HN.out.2.2.2.2.2.2.2.2.2.2.1] at h;exact h
 have h2:v8.cell? ⟨w8.heap.size,3,none⟩=some (.slice A8 0 k8):=by have h:=(yD kz.2.1.1).2.2.2;rw[HN.out.2.2.2.2.2.2.2.2.2.2.2] at h;exact h
 have hcv:(convert 22 9 (.slice A6 4 k6)).run Tryz.prog v8=.ok (.string ⟨#[116,101,120,116]⟩) v8:=by
  have h:=kz.1.1.2.2;rw[HN.out.2.2.2.2.2.1] at h;rw[<-tx_str HN.out.2.2.2.2.2.2.1];exact conv_sl h.sl
 have BE:=Lib.hid Q8.out.bel;clear kz Q8 X8 bO;go_wp2_with fail;go_ret;exact ⟨rfl,BE.out⟩
section
variable {K:Kp} {W w:World} {t B:Nat} {x:Sx}
end
section
variable {H:Type} {enc:TypeId×Value->H} {w:World} {base:Nat} {spare:Nat->Bool} {held:Bool}
end
section
variable {H:Type} {enc:TypeId×Value->H} {w:World} {base:Nat} {spare:Nat->Bool} {held:Bool}
end
instance:Inhabited Cm:=⟨⟨0,0,0,0,0,0,fun _=>0#8,0,fun _=>0#8⟩⟩
section
variable {K:Kp} {W w:World} {t B:Nat} {x:Sx}
theorem LS.over{b m:Nat}{c:Array Value}(h:LS (fun T y=>K T y/\(Oct.row y b=some c/\T b=m)) W w)(hK:Stb (fun x=>x=m) K)(hm:m≠0)(c':Array Value):LS (fun T y=>K T y/\(Oct.row y b=some c'/\T b=m)) W (w.setRow b c'):=by
 obtain ⟨T,hf,k,hr,hT⟩:=h;have f:=Fr.row (T:=T) (H:=fun x=>x=m) (w:=w) (B:=b) hT c'
 exact ⟨T,hf.trans (f.mono fun x hx=>by omega),hK _ _ _ _ _ k f (fun _ h=>h),zE hr _,hT⟩
theorem ls_var'(h:LS K W w)(hK:Stb (fun _=>False) K)(c:Array Value)(ty:TypeId)(m:Nat):LS (fun T y=>K T y/\(row y w.heap.size=some c/\T w.heap.size=m)) W (w.alloc (.cells c ty)):=
 h.add hK ((Below.refl w.heap.size w).alloc (Nat.le_refl _) _) m fun T=>⟨zA _ _ _ _ rfl,zP (Nat.le_refl _)⟩
def sxS(x:Sx):=xC (eSx x).length (lf (eSx x))
end
end Go.Proofs.YteffjpdcghlnlaaGreatDoor.Oct
namespace Go.Proofs.YteffjpdcghlnlaaGreatDoor.Oct
open Go.ChangeShapes Go.WideShapes Go.ChangeAt Go.RowKit
def RC(B:Nat)(t:Value)(c:Int)(y:World):Prop:=∃ k v:Bf,row y B=some (rscC t k v c)
theorem make_new(w:World):
  Calls Tryz.prog 68 #[] w fun e w'=>∃ A c,e=.returned (.agg (tbA (.slice A 64 c) iF))/\SlG w' w'.heap.size A 64 c kV/\Below w.heap.size w w'/\∀ a,A=some a->w.heap.size<=a.block:=by
 have B0:=Lib.hid ((Below.refl w.heap.size w).alloc (by simp) (.cells (tbA (.slice none 0 0) fun _=>0#32) 138))
 have q0:row (w.alloc (.cells (tbA (.slice none 0 0) fun _=>0#32) 138)) w.heap.size=some (tbA (.slice none 0 0) fun _=>0#32):=by simp[go_sem]
 go_enter Tryz.func68,Tryz.ntmps68;go_wp2_with fail;refine (thirds_any _).mono ?_;rintro e w1 ⟨g,c,cur,rfl,hg,hc,hr,hcu,hb1⟩;have r1:=zD hb1 q0;have B1:=Lib.hid (onto B0.out (by simp) hb1)
 have s1:w.heap.size+1<=w1.heap.size:=by have:=hb1.size;simpa using this
 have HR:=Lib.hid hr;have HCU:=Lib.hid hcu;have hg2:w.heap.size<g:=by simp at hg;omega
 clear hr hcu hb1 q0 hg;go_wp2_with fail;refine (seconds_any _).mono ?_;rintro e w2 ⟨rfl,hb2⟩;have r2:=zD hb2 r1;have B2:=Lib.hid (onto B1.out (by omega) hb2)
 have HR2:=Lib.hid (zD hb2 HR.out);clear hb2 r1;have hlit:=tab_lit (some (⟨g,0,none⟩:Addr)) 64 c iF;go_wp2_with fail;obtain ⟨t',ht'⟩:=row_is (zE r2 (tbA (.slice (some ⟨g,0,none⟩) 64 c) iF));obtain ⟨d,hu,hd⟩:=tab_u;refine bodyPost_ret (v:=.agg (tbA (.slice (some ⟨g,0,none⟩) 64 c) iF)) (results_cell_row rfl _ _ w.heap.size _ _ _ d rfl ht' hu (by cases d<;>first|rfl|cases hd) (by rw[yW];exact tab_i)) rfl ⟨_,c,rfl,?_,?_,fun a ha=>by cases ha;exact Nat.le_of_lt hg2⟩
 ·have hrg:row (w2.setRow w.heap.size (tbA (.slice (some ⟨g,0,none⟩) 64 c) iF)) g=some cur:=by rw[zF _ _ _ _ (by omega)];exact HR2.out
  exact slG_row hrg (zK hrg) hc HCU.out
 ·exact zG B2.out (by omega) _
end Go.Proofs.YteffjpdcghlnlaaGreatDoor.Oct
namespace Go.Proofs.YteffjpdcghlnlaaGreatDoor.Oct
open Go.ChangeShapes Go.WideShapes Go.ChangeAt Go.RowKit Go.Maps
def DrAt(T:Mk)(w:World)(t g:Nat)(d:St)(n:Int):Prop:=T g=t/\∃ AK cK,row w g=some (rscC (.slice AK 64 cK) d.1 d.2 n)/\SlG w g AK 64 cK kV/\∀ a,AK=some a->T a.block=0
section
variable {T T':Mk} {w w':World} {t g:Nat} {d:St} {n:Int} {H S:Nat->Prop}
theorem SlG.fr{w w':World}{D:Nat}{A:Option Addr}{n c:Nat}{V:Nat->Value}(h:SlG w D A n c V)(hf:Fr T T' H w w')(hD:D<=w.heap.size)(h0:∀ a,A=some a->¬ H (T a.block)):SlG w' D A n c V:=
 ⟨h.le,fun hn=>by
  obtain ⟨b,o,e,hb,hc⟩:=h.at_ hn
  exact ⟨b,o,e,hb,fun i hi=>by rw[hf.cellAt (Nat.lt_of_lt_of_le hb hD) (h0 _ e)];exact hc i hi⟩⟩
theorem DrAt.fr(h:DrAt T w t g d n)(hf:Fr T T' H w w')(ht:¬ H t)(h0:¬ H 0):DrAt T' w' t g d n:=by
 obtain ⟨hT,AK,cK,hr,hk,hz⟩:=h;refine ⟨by rw[hf.tag g (zK hr)];exact hT,AK,cK,hf.rowAt hr (by rw[hT];exact ht),hk.fr hf (Nat.le_of_lt (zK hr)) (fun a e=>by rw[hz a e];exact h0),fun a e=>?_⟩
 obtain ⟨b,o,e2,hb,-⟩:=hk.at_ (by omega)
 rw[e] at e2;cases e2;rw[hf.tag _ (Nat.lt_trans hb (zK hr))];exact hz _ e
theorem Stb.dr(ht:¬ S t)(h0:¬ S 0):Stb S fun T w=>DrAt T w t g d n:=fun T T' H w w' k f hH=>k.fr f (fun h=>ht (hH _ h)) (fun h=>h0 (hH _ h))
end
section
variable {K:Kp} {W w:World} {t g:Nat} {d:St} {n:Int}
end
end Go.Proofs.YteffjpdcghlnlaaGreatDoor.Oct
namespace Go.Proofs.YteffjpdcghlnlaaGreatDoor.Oct
open Go.ChangeShapes Go.WideShapes Go.ChangeAt Go.RowKit
def Z0(T:Mk)(v:Value):Prop:=∀ b,v.ownBlock=some b->T b=0
section
variable {T T' T2:Mk} {t:Nat} {w w' w2:World}
end
end Go.Proofs.YteffjpdcghlnlaaGreatDoor.Oct
namespace Go.Proofs.YteffjpdcghlnlaaGreatDoor.Oct
open Go.ChangeShapes Go.WideShapes Go.ChangeAt Go.RowKit Go.Maps
structure YsAt(T:Mk)(w:World)(t B:Nat)(x:Sx):Prop where
 tg:T B=t
 at_:∃ g k q A c,row w B=some #[.pointer (some ⟨g,0,none⟩),.pointer (some ⟨k,0,none⟩),.pointer (some ⟨q,0,none⟩)]/\DrAt T w (t+1) g x.d x.n/\KAt T w (t+2) 59 63 k x.K/\YtAt T w (t+12) q A c x.l x.g
 ok:SxOk x
section
variable {T T':Mk} {H:Nat->Prop} {w w':World} {t B:Nat} {x:Sx}
theorem YsAt.fr(h:YsAt T w t B x)(hf:Fr T T' H w w')(hn:∀ c,t<=c->c<=t+13->¬ H c)(h0:¬ H 0):YsAt T' w' t B x:=by
 obtain ⟨g,k,q,A,c,hr,hd,hk,hy⟩:=h.at_;exact ⟨by rw[hf.tag B (zK hr)];exact h.tg,⟨g,k,q,A,c,hf.rowAt hr (by rw[h.tg];exact hn _ (by omega) (by omega)),hd.fr hf (hn _ (by omega) (by omega)) h0,hk.fr hf (fun c hc=>hn c (by unfold Hk at hc;omega) (by unfold Hk at hc;omega)),hy.fr hf (hn _ (by omega) (by omega)) (hn _ (by omega) (by omega)) h0⟩,h.ok⟩
theorem YsAt.new(h:YsAt T w t B x)(hb:Below w.heap.size w w')(m:Nat):YsAt (paint T w.heap.size m) w' t B x:=h.fr (Fr.new (H:=fun _=>False) hb m) (fun _ _ _ h=>h) (fun h=>h)
end
theorem rs_b(g k q:Nat)(w:World):(Instr.build 92 #[(0,.pointer (some ⟨g,0,none⟩)),(1,.pointer (some ⟨k,0,none⟩)),(2,.pointer (some ⟨q,0,none⟩))]).run Tryz.prog w=.ok (.agg #[.pointer (some ⟨g,0,none⟩),.pointer (some ⟨k,0,none⟩),.pointer (some ⟨q,0,none⟩)]) w:=by kernel_rfl
end Go.Proofs.YteffjpdcghlnlaaGreatDoor.Oct
namespace Go.Proofs.YteffjpdcghlnlaaGreatDoor.Oct
open Go.ChangeShapes Go.WideShapes Go.ChangeAt Go.RowKit Go.Maps
structure QdI(T:Mk)(w:World)(X:Nat)(l:By)(o:Bool):Prop where
 tg:T X=1
 at_:∃ A c,row w X=some #[.slice A l.length c,.bool o]/\RdS T w 0 A l.length c (lf l)
 len:l.length<=1000000
theorem QdI.fr{T T':Mk}{H:Nat->Prop}{w w':World}{X:Nat}{l:By}{o:Bool}(h:QdI T w X l o)(f:Fr T T' H w w')(h1:¬ H 1)(h0:¬ H 0):QdI T' w' X l o:=by
 obtain ⟨A,c,hr,hs⟩:=h.at_;exact ⟨by rw[f.tag X (zK hr)];exact h.tg,⟨A,c,f.rowAt hr (by rw[h.tg];exact h1),hs.fr f h0⟩,h.len⟩
theorem Stb.qd{S:Nat->Prop}{X:Nat}{l:By}{o:Bool}(h1:¬ S 1)(h0:¬ S 0):Stb S fun T w=>QdI T w X l o:=fun T T' H w w' k f hH=>k.fr f (fun h=>h1 (hH _ h)) (fun h=>h0 (hH _ h))
def QdQ{α:Type}(e:α->By)(G:α->Prop)(l:By)(o:Bool)(a:α)(l':By)(o':Bool):Prop:=
 l'.length<=l.length/\((o'=o/\G a/\l=e a++l'/\l'.length<l.length)\/(o'=true/\NoF e G l))
theorem QdI.put{T:Mk}{w w1:World}{X:Nat}{l l':By}{o o':Bool}(h:QdI T w X l o)(hb:Below w.heap.size w w1){A':Option Addr}{c':Nat}(hs:RdS (paint T w.heap.size 0) w1 0 A' l'.length c' (lf l'))(hl:l'.length<=l.length):
  QdI (paint T w.heap.size 0) (w1.setRow X #[.slice A' l'.length c',.bool o']) X l' o'/\Fr T (paint T w.heap.size 0) (fun c=>c=1) w (w1.setRow X #[.slice A' l'.length c',.bool o']):=by
 obtain ⟨A,c,hr,-⟩:=h.at_;have hX:paint T w.heap.size 0 X=1:=by rw[zH (zK hr)];exact h.tg
 have f2:=Fr.row (T:=paint T w.heap.size 0) (H:=fun c=>c=1) (w:=w1) (B:=X) hX #[.slice A' l'.length c',.bool o']
 exact ⟨⟨hX,⟨A',c',zE (zD hb hr) _,hs.fr f2 (by omega)⟩,by have:=h.len;omega⟩,(Fr.new hb 0).trans f2⟩
theorem set2{w:World}{X:Nat}{a b:Value}(h:row w X=some #[a,b])(a' b':Value):(w.setCell ⟨X,1,none⟩ b').setCell ⟨X,0,none⟩ a'=w.setRow X #[a',b']:=by
 rw[zL h,show (#[a,b]:Array Value).setIfInBounds 1 b'=#[a,b'] from rfl,zL (zE h _),show (#[a,b']:Array Value).setIfInBounds 0 a'=#[a',b'] from rfl,setRow_setRow]
theorem rnumr_any(T:Mk)(X:Nat)(l:By)(o:Bool)(w:World)(h:QdI T w X l o):
  Calls Tryz.prog 60 #[.pointer (some ⟨X,0,none⟩)] w fun e w'=>∃ (v:Nat) (l':By) (o':Bool) (T':Mk),e=.returned (.int .i64 (v:Int))/\QdI T' w' X l' o'/\Fr T T' (fun c=>c=1) w w'/\u63 v/\QdQ eN u63 l o v l' o':=by
 obtain ⟨A,c,hr,hs⟩:=h.at_;have HQ:=Lib.hid h;have hlen:=h.len;have r0:=zC hr 0;have H1:=Lib.hid (rtake_num l.length c A (lf l) w hs.sl (by omega))
 have HR:=Lib.hid hr;clear h hr hs;go_enter Tryz.func60,Tryz.ntmps60;go_wp2_with fail;refine H1.out.mono ?_;rintro e w1 (⟨h0,rfl,hb⟩|⟨h0,v,rfl,ho,hb⟩)
 ·obtain ⟨E,hE⟩:∃ E,E=tkE l.length (lf l):=⟨_,rfl⟩
  have hne:((E:Int) !=0)=true:=by rw[<-hE] at h0;simp;omega
  have HN:=Lib.hid (show NoF eN u63 l from fun v r hv=>num_no h0 v hv r)
  rw[<-hE];have r1:=zD hb HR.out;have P:=HQ.out.put (l':=[]) (o':=true) hb (A':=none) (c':=0) ⟨Sl.nothing _ _ _ _ _,fun hn=>absurd hn (by simp)⟩ (by simp)
  have HP:=Lib.hid P;have k0:=zC r1 0;have k1:=zC r1 1;have f0:=zJ r1 0;have f1:=zJ r1 1;have R1:=Lib.hid r1;clear h0 hE hb P H1 r1
  cases o with
  |true=>
   go_wp2_with fail;rw[set2 R1.out];go_ret;exact ⟨0,[],true,_,rfl,HP.out.1,HP.out.2,by show 0<_;omega,by simp,.inr ⟨rfl,HN.out⟩⟩
  |false=>
   go_wp2_with fail;rw[set2 R1.out];go_ret;exact ⟨0,[],true,_,rfl,HP.out.1,HP.out.2,by show 0<_;omega,by simp,.inr ⟨rfl,HN.out⟩⟩
 ·obtain ⟨e1,e2,e3⟩:=num_ok h0
  obtain ⟨L,hL⟩:∃ L,L=tkL (lf l):=⟨_,rfl⟩;obtain ⟨V,hV⟩:∃ V,V=tkV (lf l):=⟨_,rfl⟩;have hL0:0<L:=by rw[hL];unfold tkL;omega
  rw[<-hL,<-hV] at e1;rw[<-hV] at e2 ⊢;rw[<-hL] at e3 ho;have hd:(l.drop L).length=l.length-L:=List.length_drop;obtain ⟨A',c',rfl,-,-,-⟩:=ho.sl;have hs:=(ho.rdS T 0);have r1:=zD hb HR.out;have P:=HQ.out.put (l':=l.drop L) (o':=o) hb (A':=A') (c':=c') (by rw[hd];exact ⟨hs.sl.congr fun i _=>(lf_drop l L i).symm,hs.tg⟩) (by rw[hd];omega)
  rw[hd] at P;have HP:=Lib.hid P;have k0:=zC r1 0;have k1:=zC r1 1;have f0:=zJ r1 0;have f1:=zJ r1 1;have R1:=Lib.hid r1;have HE:=Lib.hid (And.intro e1 (And.intro e2 (And.intro e3 hd)));clear h0 hL hV hb P H1 r1 ho hs e1 e2 e3 hd
  cases o with
  |true=>
   go_wp2_with fail;rw[set2 R1.out];go_ret;obtain ⟨e1,e2,e3,hd⟩:=HE.out;exact ⟨V,l.drop L,true,_,rfl,HP.out.1,HP.out.2,e2,by rw[hd];omega,.inl ⟨rfl,e2,e1,by rw[hd];omega⟩⟩
  |false=>
   go_wp2_with fail;rw[set2 R1.out];go_ret;obtain ⟨e1,e2,e3,hd⟩:=HE.out;exact ⟨V,l.drop L,false,_,rfl,HP.out.1,HP.out.2,e2,by rw[hd];omega,.inl ⟨rfl,e2,e1,by rw[hd];omega⟩⟩
def RdI(X:Nat)(l:By)(w:World):Prop:=∃ A c,row w X=some #[.slice A l.length c]/\Sl w X A l.length c (lf l)/\l.length<=1000000000
def Rdd(X:Nat)(l:By)(w w':World):Prop:=∃ A c,Put X #[.slice A l.length c] w w'/\Sl w' X A l.length c (lf l)/\l.length<=1000000000
section
variable {X:Nat} {l l' l2:By} {w w' w2:World}
theorem RdI.lt(h:RdI X l w):X<w.heap.size:=by obtain ⟨A,c,hr,-⟩:=h;exact zK hr
theorem Rdd.inv(h:RdI X l w)(k:Rdd X l' w w'):RdI X l' w':=by
 obtain ⟨A,c,hr,-⟩:=h;obtain ⟨A',c',hp,hs,hl⟩:=k;exact ⟨A',c',hp.row hr,hs,hl⟩
theorem Rdd.trans(h:RdI X l w)(k:Rdd X l' w w')(k2:Rdd X l2 w' w2):Rdd X l2 w w2:=by
 obtain ⟨A,c,hr,-⟩:=h;obtain ⟨A',c',hp,-,-⟩:=k;obtain ⟨A2,c2,hp2,hs2,hl2⟩:=k2;exact ⟨A2,c2,hp.then hr hp2,hs2,hl2⟩
theorem Rdd.behind(h:RdI X l w)(hb:Below w.heap.size w w')(k:Rdd X l2 w' w2):Rdd X l2 w w2:=by
 obtain ⟨A2,c2,hp2,hs2,hl2⟩:=k;exact ⟨A2,c2,Put.behind hb h.lt hp2,hs2,hl2⟩
theorem RdI.below(h:RdI X l w)(hb:Below w.heap.size w w'):RdI X l w':=by
 obtain ⟨A,c,hr,hs,hl⟩:=h;exact ⟨A,c,zD hb hr,hs.below (hb.mono (Nat.le_of_lt (zK hr))),hl⟩
theorem Rdd.calm(h:RdI X l w)(k:Rdd X l' w w')(hb:Below w'.heap.size w' w2):Rdd X l' w w2:=by
 obtain ⟨A,c,hp,hs,hl⟩:=k;exact ⟨A,c,hp.calm hb,hs.below (hb.mono (Nat.le_trans (Nat.le_of_lt h.lt) hp.size)),hl⟩
theorem Rdd.nil(h:RdI X l w):Rdd X l w w:=by
 obtain ⟨A,c,hr,hs,hl⟩:=h;exact ⟨A,c,Put.nil hr,hs,hl⟩
theorem Rdd.of(h:RdI X l w)(hb:Below w.heap.size w w'):Rdd X l w w':=Rdd.behind h hb (Rdd.nil (h.below hb))
theorem Rdd.size(h:Rdd X l w w'):w.heap.size<=w'.heap.size:=by obtain ⟨A,c,hp,-⟩:=h;exact hp.size
theorem Rdd.low(h:Rdd X l w w')(hW:X<=w.heap.size):Below X w w':=by obtain ⟨A,c,hp,-⟩:=h;exact hp.low (Nat.le_refl _) hW
theorem Rdd.up(h:Rdd X l' w w')(k:RdI X l w){b:Nat}(hb:w.heap.size<=b)(c:Array Value):Rdd X l' w (w'.setRow b c):=by
 obtain ⟨A,c',hp,hs,hl⟩:=h;have hX:=k.lt;refine ⟨A,c',Below.trans hp (zG (Below.refl _ _) hb c),hs.below (zG (Below.refl _ _) (by omega) c),hl⟩
theorem Rdd.row(h:Rdd X l w w'){k:Nat}{c:Array Value}(hk:k≠X)(hr:Oct.row w k=some c):Oct.row w' k=some c:=by obtain ⟨A,c',hp,-⟩:=h;exact hp.other hk hr
end
def RdOut{α:Type}(X:Nat)(l:By)(e:α->By)(G:α->Prop)(V:α->Value->World->Prop)(w:World):Ending->World->Prop:=fun E w'=>
 (∃ a v l',G a/\l=e a++l'/\E=.returned v/\V a v w'/\Rdd X l' w w')\/(NoF e G l/\∃ z l',z≠0/\E=.panicked (pnE z)/\Rdd X l' w w')
theorem front_no{α:Type}{e:α->By}{G:α->Prop}{l:By}{P:Nat}(hP:P=min l.length 8192)(he:∀ a,G a->(e a).length<=8192)(h:NoF e G (l.take P)):NoF e G l:=fun a r ha hl=>by
 have h1:=he a ha;have h2:(e a).length<=l.length:=by rw[hl,List.length_append];omega
 exact h a _ ha (cut_none (by omega) hl)
theorem front_drop{l:By}{e:By}{r:By}{P:Nat}(h:l.take P=e++r):l=e++l.drop e.length:=by
 have h2:=cut_front h
 have h3:l.drop e.length=r++l.drop P:=by
  conv=>lhs;rw[h2]
  rw[List.drop_left'];rfl
 rw[h3];exact h2
theorem rdd_cut{X n c k:Nat}{A:Option Addr}{l:By}{w w2:World}(h:RdI X l w)(hb:Below w.heap.size w w2)(hr:row w2 X=some #[.slice A n c])(hn:n=l.length)(hk:k<=n)(v:Value):Sl (w2.setRow X #[v]) X (cutA A c k) (n-k) (c-k) (lf (l.drop k)):=by
 subst hn;obtain ⟨A0,c0,hr0,hs0,-⟩:=h.below hb;have e0:=hr0.symm.trans hr;simp only[Option.some.injEq,Array.mk.injEq,List.cons.injEq,Value.slice.injEq,and_true] at e0;obtain ⟨rfl,-,rfl⟩:=e0;exact ((hs0.from_ k hk).below (zG (Below.refl X w2) (Nat.le_refl _) _)).congr fun i _=>(lf_drop l k i).symm
theorem tx_len(n:Nat):txL n=encL n+n:=rfl
abbrev txG(p:Nat×Bf):Prop:=p.1<=32
abbrev eTx(p:Nat×Bf):By:=eT p.1 p.2
abbrev rvN(a:Nat)(v:Value)(w:World):Prop:=v=.int .i64 (a:Int)
abbrev rvT(p:Nat×Bf)(v:Value)(w:World):Prop:=∃ A c,v=.slice A p.1 c/\Sl w w.heap.size A p.1 c p.2
abbrev rvR(D:Nat)(r:Rp)(v:Value)(w:World):Prop:=∃ A c,v=rpV r A c/\Sl w w.heap.size A r.T c r.f/\∀ k,k<D->Off k r.T A
theorem partn_any(X:Nat)(l:By)(w:World)(h:RdI X l w):
  Calls Tryz.prog 156 #[.pointer (some ⟨X,0,none⟩),.func (.func 157) #[] #[]] w (RdOut X l eN u63 rvN w):=by
 have HI:=Lib.hid h;obtain ⟨A,c,hr,hs,hl⟩:=h;have hX:=zK hr;have hle:=hs.le;obtain ⟨P,hP⟩:∃ P,P=min l.length 8192:=⟨_,rfl⟩;have hPl:P<=l.length:=by omega
 have hP8:P<=8192:=by omega
 have hT:(l.take P).length=P:=by rw[List.length_take];omega
 have hif:(if (8192:Int)<(l.length:Int) then (8192:Int) else (l.length:Int))=(P:Int):=by split<;>omega
 have hmn:min (l.length:Int) 8192=(P:Int):=by omega
 have q0:=fun w=>run_upto (P:=Tryz.prog) zZ u8_i A l.length c P (by omega) w
 have HS:=Lib.hid (show ∀ w1,Below w.heap.size w w1->Sl w1 w1.heap.size A P c (lf (l.take P)) from fun w1 hb=>((((hs.below (hb.mono (Nat.le_of_lt hX))).more (Nat.le_trans (Nat.le_of_lt hX) hb.size)).upto P hPl).congr fun i hi=>(lf_take _ _ _ hi).symm))
 have HR:=Lib.hid hr;have HP:=Lib.hid hP;have HT:=Lib.hid hT;obtain ⟨n,hn⟩:∃ n,n=l.length:=⟨_,rfl⟩;rw[<-hn] at hr hl hle hPl hif hmn q0;have HN:=Lib.hid hn;clear hs hP hT hn;go_enter Tryz.func156,Tryz.ntmps156;go_wp2_with fail;refine yE [] [0,1,2,3,4,5,6,7,8,9,10,11] (by kernel_rfl) (by kernel_rfl) (fun _ _ _ _ _ h=>h) fun Y=>?_
 have BY:=Lib.hid Y.below;obtain ⟨w1,hw1⟩:∃ w1,w1=Y.val:=⟨_,rfl⟩;rw[<-hw1] at BY ⊢;clear hw1 Y;have r1:=zD BY.out hr;have a1:w1.cell? ⟨X,0,none⟩=some (.slice A n c):=zC r1 0;have H1:=Lib.hid (take_num P c A (lf (l.take P)) w1 (HS.out w1 BY.out) (by omega))
 clear hr;simp only[wpFs,pk,List.getElem?_cons_zero,List.getElem?_cons_succ];have k1:=After.cell r1
 repeat (go_big_quiet_step (fail))
 refine wpQuiet_nil ?_;go_wp2_with fail;refine H1.out.mono ?_;rintro e w2 (⟨hz,rfl,hb⟩|⟨hz,v,rfl,ho,hb⟩)
 ·have hN:NoF eN u63 l:=front_no HP.out (fun a _=>by rw[eN_len];have:=encL_le a;omega) fun a r ha=>num_no (by rw[HT.out];exact hz) a ha r
  have HF:=Lib.hid hN;have B2:=Lib.hid (onto BY.out BY.out.size hb);obtain ⟨E,hE⟩:∃ E,E=tkE P (lf (l.take P)):=⟨_,rfl⟩;rw[<-hE] at hz ⊢;have hzi:((E:Nat):Int)≠0:=by omega
  clear hz hb H1 hE hN k1 a1 r1 q0;go_wp2_with fail;refine (yM _ hzi _).mono ?_;rintro e w3 ⟨rfl,rfl⟩;go_wp2_with fail;exact ⟨rfl,.inr ⟨HF.out,_,l,hzi,rfl,Rdd.of HI.out B2.out⟩⟩
 ·obtain ⟨A1,c1,hv,hs1,-,-⟩:=ho.sl
  subst hv;obtain ⟨e1,e2,e3⟩:=num_ok (l:=l.take P) (by rw[HT.out];exact hz)
  have hLP:=tkL_le hz;have hd:=front_drop e1;rw[eN_len,(enc_tk hz).1] at hd;have r2:=zD hb r1;have f2:=zJ r2 0;have a2:w2.cell? ⟨X,0,none⟩=some (.slice A n c):=zC r2 0;have HB2:=Lib.hid (onto BY.out BY.out.size hb);have HRR:=Lib.hid r2;obtain ⟨L,hL⟩:∃ L,L=tkL (lf (l.take P)):=⟨_,rfl⟩;obtain ⟨V,hV⟩:∃ V,V=tkV (lf (l.take P)):=⟨_,rfl⟩;rw[<-hL,<-hV] at hd;rw[<-hL] at hLP ⊢;rw[<-hV] at e2 ⊢;have HD:=Lib.hid (And.intro e2 hd);have s1:IntKind.i64.wrap ((P:Int)-((P-L:Nat):Int))=(L:Int):=by rw[show (P:Int)-((P-L:Nat):Int)=(L:Int) by omega,IntKind.wrap_i64];omega
  have s2:(P:Int)-((P-L:Nat):Int)=(L:Int):=by omega
  have q1:=fun w=>xE (P:=Tryz.prog) zZ u8_i A n c L (by omega) w
  clear hz hb H1 ho hs1 hL hV e1 e2 e3 hd k1 a1 r1 q0;go_wp2_with fail;refine (yQ _).mono ?_;rintro e w3 ⟨rfl,rfl⟩;go_wp2_with fail;go_ret;have hn:=HN.out;refine .inl ⟨V,_,l.drop L,HD.out.1,HD.out.2,rfl,rfl,cutA A c L,c-L,?_,?_,?_⟩
  ·rw[zL HRR.out,List.length_drop,<-hn]
   exact Put.of HB2.out hX _
  ·rw[zL HRR.out,List.length_drop,<-hn]
   exact rdd_cut HI.out HB2.out HRR.out hn (by omega) _
  ·rw[List.length_drop];omega
theorem wide1_any(n c:Nat)(A:Option Addr)(f:Bf)(w:World)(hs:Sl w w.heap.size A n c f)(hn:n<=140737488355328):
  Calls Tryz.prog 154 #[.slice A n c] w (ttP n 32 f w):=by
 have H1:=Lib.hid (taket_any n c 32 A f w hs hn);clear hs;go_enter Tryz.func154,Tryz.ntmps154;go_wp2_with fail;refine H1.out.mono ?_;rintro e w1 (⟨hz,rfl,hb⟩|⟨hz,u,v,rfl,ho,hv,hb⟩)
 ·have HZ:=Lib.hid (And.intro hz hb)
  clear hz hb H1;go_wp2_with fail;exact bodyPost_ret (v:=.tuple #[.slice none 0 0,.slice none 0 0,.int .i64 (ttE n 32 f:Nat)]) (by simp[results,Tryz.results154,go_sem]) rfl (.inl ⟨HZ.out.1,rfl,HZ.out.2⟩)
 ·have HZ:=Lib.hid (And.intro hz (And.intro ho (And.intro hv hb)))
  clear hz hb ho hv H1;go_wp2_with fail;exact bodyPost_ret (v:=.tuple #[u,v,.int .i64 0]) (by simp[results,Tryz.results154,go_sem]) rfl (.inr ⟨HZ.out.1,u,v,rfl,HZ.out.2.1,HZ.out.2.2.1,HZ.out.2.2.2⟩)
theorem vt_set{X m cu n c:Nat}{A Au:Option Addr}{F:Bf}{w:World}(h:Sl w w.heap.size Au m cu F)(hr:row w X=some #[.slice A n c])(v:Value):Sl (w.setRow X #[v]) (w.setRow X #[v]).heap.size Au m cu F:=by
 rw[show (w.setRow X #[v]).heap.size=w.heap.size by simp]
 refine ⟨h.le,fun hm=>?_⟩
 obtain ⟨g,o,e,hg,hc⟩:=h.at_ hm;refine ⟨g,o,e,hg,fun i hi=>?_⟩
 have hne:g≠X:=fun e=>by
  subst e;have h0:=hc 0 hm;rw[zC hr] at h0
  cases ho:o+0 with
  |zero=>rw[ho] at h0;cases h0
  |succ k=>rw[ho] at h0;cases h0
 rw[<-hc i hi];exact World.cell?_of_block (w:=w) (setRow_other w X g _ hne)
theorem partt_any(X:Nat)(l:By)(w:World)(h:RdI X l w):
  Calls Tryz.prog 153 #[.pointer (some ⟨X,0,none⟩),.func (.func 154) #[] #[]] w (RdOut X l eTx txG rvT w):=by
 have HI:=Lib.hid h;obtain ⟨A,c,hr,hs,hl⟩:=h;have hX:=zK hr;have hle:=hs.le;obtain ⟨P,hP⟩:∃ P,P=min l.length 8192:=⟨_,rfl⟩;have hPl:P<=l.length:=by omega
 have hP8:P<=8192:=by omega
 have hT:(l.take P).length=P:=by rw[List.length_take];omega
 have hif:(if (8192:Int)<(l.length:Int) then (8192:Int) else (l.length:Int))=(P:Int):=by split<;>omega
 have hmn:min (l.length:Int) 8192=(P:Int):=by omega
 have q0:=fun w=>run_upto (P:=Tryz.prog) zZ u8_i A l.length c P (by omega) w
 have HS:=Lib.hid (show ∀ w1,Below w.heap.size w w1->Sl w1 w1.heap.size A P c (lf (l.take P)) from fun w1 hb=>((((hs.below (hb.mono (Nat.le_of_lt hX))).more (Nat.le_trans (Nat.le_of_lt hX) hb.size)).upto P hPl).congr fun i hi=>(lf_take _ _ _ hi).symm))
 have HR:=Lib.hid hr;have HP:=Lib.hid hP;have HT:=Lib.hid hT;obtain ⟨n,hn⟩:∃ n,n=l.length:=⟨_,rfl⟩;rw[<-hn] at hr hl hle hPl hif hmn q0;have HN:=Lib.hid hn;clear hs hP hT hn;go_enter Tryz.func153,Tryz.ntmps153;go_wp2_with fail;refine yE [] [0,1,2,3,4,5,6,7,8,9,10,11] (by kernel_rfl) (by kernel_rfl) (fun _ _ _ _ _ h=>h) fun Y=>?_
 have BY:=Lib.hid Y.below;obtain ⟨w1,hw1⟩:∃ w1,w1=Y.val:=⟨_,rfl⟩;rw[<-hw1] at BY ⊢;clear hw1 Y;have r1:=zD BY.out hr;have a1:w1.cell? ⟨X,0,none⟩=some (.slice A n c):=zC r1 0;have H1:=Lib.hid (wide1_any P c A (lf (l.take P)) w1 (HS.out w1 BY.out) (by omega))
 clear hr;simp only[wpFs,pk,List.getElem?_cons_zero,List.getElem?_cons_succ];have k1:=After.cell r1
 repeat (go_big_quiet_step (fail))
 refine wpQuiet_nil ?_;go_wp2_with fail;refine H1.out.mono ?_;rintro e w2 (⟨hz,rfl,hb⟩|⟨hz,u,v,rfl,hu,ho,hb⟩)
 ·have hN:NoF eTx txG l:=front_no HP.out (fun a ha=>by rw[eT_len];have h1:a.1<=32:=ha;have:=txL_le a.1;omega) fun a r ha=>txt_no (m:=32) (by rw[HT.out];exact hz) a.1 a.2 (by have h1:a.1<=32:=ha;omega) (by have h1:a.1<=32:=ha;omega) r
  have HF:=Lib.hid hN;have B2:=Lib.hid (onto BY.out BY.out.size hb);obtain ⟨E,hE⟩:∃ E,E=ttE P 32 (lf (l.take P)):=⟨_,rfl⟩;rw[<-hE] at hz ⊢;have hzi:((E:Nat):Int)≠0:=by omega
  clear hz hb H1 hE hN k1 a1 r1 q0;go_wp2_with fail;refine (yM _ hzi _).mono ?_;rintro e w3 ⟨rfl,rfl⟩;go_wp2_with fail;exact ⟨rfl,.inr ⟨HF.out,_,l,hzi,rfl,Rdd.of HI.out B2.out⟩⟩
 ·obtain ⟨A1,c1,hv,hs1,-,-⟩:=ho.sl
  obtain ⟨Au,cu,hvu,hsu,-,-⟩:=hu.sl;subst hv hvu;obtain ⟨e1,e2,e3⟩:=txt_ok (l:=l.take P) (m:=32) (by rw[HT.out];exact hz)
  have hd:=front_drop e1;rw[eT_len,tx_len,(enc_tk (tt_le hz).1).1] at hd;rw[HT.out] at e3;have r2:=zD hb r1;have f2:=zJ r2 0;have a2:w2.cell? ⟨X,0,none⟩=some (.slice A n c):=zC r2 0;have HB2:=Lib.hid (onto BY.out BY.out.size hb);have HRR:=Lib.hid r2;have hM:P-tkL (lf (l.take P))-tkV (lf (l.take P))=P-(tkL (lf (l.take P))+tkV (lf (l.take P))):=by omega
  rw[hM];obtain ⟨F,hF⟩:∃ F,F=offF (lf (l.take P)) (tkL (lf (l.take P))):=⟨_,rfl⟩;obtain ⟨V,hV⟩:∃ V,V=tkV (lf (l.take P)):=⟨_,rfl⟩;rw[<-hF] at hsu hd;obtain ⟨L,hL⟩:∃ L,L=tkL (lf (l.take P))+tkV (lf (l.take P)):=⟨_,rfl⟩;rw[<-hL] at hd e3 ⊢;rw[<-hV] at e2 hsu hd ⊢;have hLP:L<=P:=e3;have HD:=Lib.hid (show V<=32/\l=eT V F++l.drop L from ⟨by omega,hd⟩)
  have HU:=Lib.hid hsu;have s1:IntKind.i64.wrap ((P:Int)-((P-L:Nat):Int))=(L:Int):=by rw[show (P:Int)-((P-L:Nat):Int)=(L:Int) by omega,IntKind.wrap_i64];omega
  have s2:(P:Int)-((P-L:Nat):Int)=(L:Int):=by omega
  have q1:=fun w=>xE (P:=Tryz.prog) zZ u8_i A n c L (by omega) w
  clear hz hb H1 ho hs1 hL hV e1 e2 e3 hd k1 a1 r1 q0 hM hF hu hsu;go_wp2_with fail;refine (yQ _).mono ?_;rintro e w3 ⟨rfl,rfl⟩;go_wp2_with fail;go_ret;have hn:=HN.out;refine .inl ⟨(V,F),_,l.drop L,HD.out.1,HD.out.2,rfl,⟨Au,cu,rfl,?_⟩,cutA A c L,c-L,?_,?_,?_⟩
  ·rw[zL HRR.out]
   exact vt_set HU.out HRR.out _
  ·rw[zL HRR.out,List.length_drop,<-hn]
   exact Put.of HB2.out hX _
  ·rw[zL HRR.out,List.length_drop,<-hn]
   exact rdd_cut HI.out HB2.out HRR.out hn (by omega) _
  ·rw[List.length_drop];omega
theorem w32_u:Tryz.prog.underlying 60=some (.array 32 5):=by kernel_rfl
theorem w32_i:(Tryz.prog.info? 60).map (·.size)=some 32:=by kernel_rfl
@[go_sem ↓] theorem w32_l(p:Value):Instr.loadAt 60 p=ldA 60 p:=rfl
@[go_sem ↓] theorem w32_s(p v:Value):Instr.storeAt 60 p v=stA 60 p v:=rfl
@[go_sem] theorem w32_ld(w:World)(b o:Nat):(ldA 60 (.pointer (some ⟨b,o,none⟩))).run Tryz.prog w=ldR Tryz.prog 60 32 w b o (row w b):=xG _ _ _ w32_u 32 w32_i w b o
@[go_sem] theorem w32_st(w:World)(b o:Nat)(c:Array Value):(stA 60 (.pointer (some ⟨b,o,none⟩)) (.agg c)).run Tryz.prog w=stR Tryz.prog 60 32 w b o (.agg c) (row w b):=yR _ 32 w32_i w b o c
theorem w32_z:(Tryz.prog.info? 60).map (·.zero)=some (some (.agg (ba 32 fun _=>0#8))):=by unfold ba;kernel_rfl
@[go_sem ↓] theorem w32_zero(w:World):(zeroValue 60).run Tryz.prog w=.ok (.agg (ba 32 fun _=>0#8)) w:=yG _ _ w32_z w
theorem w32_at(a:Addr)(c:Nat)(w:World):(Instr.arrayAt 60 (.slice (some a) 32 c)).run Tryz.prog w=.ok (.pointer (some a)) w:=by
 simp[Instr.arrayAt,run_underlying w32_u]
abbrev rvB(b:Bool)(v:Value)(w:World):Prop:=v=.bool b
abbrev rvW(f:Bf)(v:Value)(w:World):Prop:=v=.agg (ba 32 f)
abbrev tt1{α:Type}(a:α):Prop:=True
theorem rdnum_any(X:Nat)(l:By)(w:World)(h:RdI X l w):Calls Tryz.prog 104 #[.pointer (some ⟨X,0,none⟩)] w (RdOut X l eN u63 rvN w):=by
 have H1:=Lib.hid (partn_any X l w h);clear h;go_enter Tryz.func104,Tryz.ntmps104;go_wp2_with fail;refine H1.out.mono ?_;rintro e w1 (⟨a,v,l',hg,hl,rfl,hv,hr⟩|⟨hn,z,l',hz,rfl,hr⟩)
 ·have K:=Lib.hid (And.intro hg (And.intro hl (And.intro hv hr)))
  clear hg hl hv hr H1;go_wp2_with fail;go_ret;exact .inl ⟨a,v,l',K.out.1,K.out.2.1,rfl,K.out.2.2.1,K.out.2.2.2⟩
 ·have K:=Lib.hid (And.intro hn (And.intro hz hr))
  clear hn hz hr H1;go_wp2_with fail;exact ⟨rfl,.inr ⟨K.out.1,z,l',K.out.2.1,rfl,K.out.2.2⟩⟩
theorem rdflag_any(X:Nat)(l:By)(w:World)(h:RdI X l w):Calls Tryz.prog 109 #[.pointer (some ⟨X,0,none⟩)] w (RdOut X l eB tt1 rvB w):=by
 have H1:=Lib.hid (rdnum_any X l w h);clear h;go_enter Tryz.func109,Tryz.ntmps109;go_wp2_with fail;refine H1.out.mono ?_;rintro e w1 (⟨a,v,l',hg,hl,rfl,rfl,hr⟩|⟨hn,z,l',hz,rfl,hr⟩)
 ·by_cases h1:1<a
  ·have d1:decide ((1:Int)<(a:Int))=true:=decide_eq_true (by omega)
   have d2:decide (1<a)=true:=decide_eq_true h1;have K:=Lib.hid (And.intro (noB_many hg hl h1) hr);clear hg hl hr H1 h1;go_wp2_with fail;exact ⟨rfl,.inr ⟨K.out.1,80,l',by decide,rfl,K.out.2⟩⟩
  ·have d1:decide ((1:Int)<(a:Int))=false:=decide_eq_false (by omega)
   have d2:decide (1<a)=false:=decide_eq_false h1;have K:=Lib.hid (And.intro (show l=eB (decide ((a:Int)=1))++l' by rw[<-eB_of (by omega)];exact hl) hr)
   clear hg hl hr H1 h1;go_wp2_with fail;go_ret;exact .inl ⟨decide ((a:Int)=1),_,l',trivial,K.out.1,rfl,by rfl,K.out.2⟩
 ·have K:=Lib.hid (And.intro (noB_num hn) (And.intro hz hr))
  clear hn hz hr H1;go_wp2_with fail;exact ⟨rfl,.inr ⟨K.out.1,z,l',K.out.2.1,rfl,K.out.2.2⟩⟩
theorem rdwide_any(X:Nat)(l:By)(w:World)(h:RdI X l w):Calls Tryz.prog 103 #[.pointer (some ⟨X,0,none⟩)] w (RdOut X l (eT 32) tt1 rvW w):=by
 obtain ⟨w1,hw1⟩:∃ w1,w1=w.alloc (.cells (ba 32 fun _=>0#8) 60):=⟨_,rfl⟩
 have b1:Below w.heap.size w w1:=by rw[hw1];exact (Below.refl _ _).alloc (Nat.le_refl _) _
 have r1:row w1 w.heap.size=some (ba 32 fun _=>0#8):=by rw[hw1];exact zA _ _ _ _ rfl
 have hX:=h.lt;have H1:=Lib.hid (partt_any X l w1 (h.below b1));have B1:=Lib.hid b1;have R1:=Lib.hid r1;have HI:=Lib.hid h;have hak:=w32_at;clear h b1 r1;go_enter Tryz.func103,Tryz.ntmps103;go_upto_region 1 with fail
 rw[<-hw1];clear hw1;go_wp2_with fail;refine H1.out.mono ?_;rintro e w2 (⟨⟨n,F⟩,v,l',hg,hl,rfl,⟨Au,cu,rfl,hu⟩,hr⟩|⟨hn,z,l',hz,rfl,hr⟩)
 ·by_cases h32:n=32
  ·subst h32
   obtain ⟨g,o,rfl,hgl,hc⟩:=hu.at_ (by show 0<32;omega)
   have hld:ldR Tryz.prog 60 32 w2 g o (row w2 g)=.ok (.agg (ba 32 F)) w2:=ldR_cells _ 32 _ w32_u 32 w32_i w2 g o F fun i hi=>hc i (by show i<32;exact hi)
   have r2:=hr.row (by omega) R1.out
   have RR:=Lib.hid r2;have K:=Lib.hid (And.intro hl (Rdd.behind HI.out B1.out hr));have hz2:=hr.size;clear hg hl hu hr hc H1;go_wp2_with fail;refine bodyPost_ret (v:=.agg (ba 32 F)) (yV Tryz.results103 _ _ w.heap.size _ _ rfl (zE RR.out _) w32_u rfl (by rw[zI];exact w32_i)) rfl (.inl ⟨F,_,l',trivial,K.out.1,rfl,rfl,Rdd.up K.out.2 HI.out (Nat.le_refl _) _⟩)
  ·have d1:((n:Int) !=32)=true:=by simp;omega
   have d2:((n:Int)==32)=false:=by simp;omega
   have K:=Lib.hid (And.intro (show NoF (eT 32) tt1 l from fun f r _ he=>by
    have hl:l=eT n F++l':=hl;rw[hl] at he
    exact h32 (eT_app (by have:n<=32:=hg;omega) (by omega) he).1) (Rdd.behind HI.out B1.out hr))
   clear hg hl hu hr H1;go_wp2_with fail;exact ⟨rfl,.inr ⟨K.out.1,80,l',by decide,rfl,K.out.2⟩⟩
 ·have K:=Lib.hid (And.intro (show NoF (eT 32) tt1 l from fun f r _ he=>hn (32,f) r (Nat.le_refl _) he) (And.intro hz (Rdd.behind HI.out B1.out hr)))
  clear hn hz hr H1;go_wp2_with fail;exact ⟨rfl,.inr ⟨K.out.1,z,l',K.out.2.1,rfl,K.out.2.2⟩⟩
end Go.Proofs.YteffjpdcghlnlaaGreatDoor.Oct
namespace Go.Proofs.YteffjpdcghlnlaaGreatDoor.Oct
open Go.ChangeShapes Go.WideShapes Go.ChangeAt Go.RowKit Go.Maps
theorem ver_b3(m:Bf)(u:Int)(g:Bool)(w:World):(bdA 63 #[(0,.agg (ba 32 m)),(1,.int .i64 u),(2,.bool g)]).run Tryz.prog w=.ok (.agg (veA ⟨m,u,g⟩)) w:=by
 refine run_lit _ _ _ _ [(0,32),(32,1),(33,1)] ver_z (by kernel_rfl) ?_ w
 rw[veA_flt,veA_flt];refine Eq.trans (xH (pre:=[]) (o:=0) (m:=32) rfl rfl (by rw[zI]) (by rw[zI];exact zI _ _)) ?_
 refine Eq.trans (xH (pre:=[ba 32 m]) (c:=#[.int .i64 ve0.u]) (post:=[#[.bool ve0.g]]) (o:=32) (m:=1) rfl (by simp[szs,zI]) rfl rfl) ?_
 exact xH (pre:=[ba 32 m,#[.int .i64 u]]) (c:=#[.bool ve0.g]) (post:=[]) (o:=33) (m:=1) rfl (by simp[szs,zI]) rfl rfl
theorem veNo_1{l:By}(h:NoF (eT 32) tt1 l):NoF eVe veG l:=no_1 (e1:=eT 32) (G1:=tt1) (e2:=fun v:Ve=>eN v.u.toNat++eB v.g) (p:=Ve.m) (q:=fun v=>v) (fun _=>rfl) (fun _ _=>trivial) h
theorem veNo_2{l l1:By}{f:Bf}(hl:l=eT 32 f++l1)(h:NoF eN u63 l1):NoF eVe veG l:=
 no_2 (e1:=eT 32) (G1:=tt1) (G2:=veG) (e2:=fun v:Ve=>eN v.u.toNat++eB v.g) (p:=Ve.m) (q:=fun v=>v) (fun _=>rfl) (fun _ h=>⟨trivial,h⟩) eW_unq (a:=f) trivial hl
  (no_1 (e1:=eN) (G1:=u63) (e2:=eB) (p:=fun v:Ve=>v.u.toNat) (q:=Ve.g) (fun _=>rfl) (fun c hc=>by have h1:i63 c.u:=hc;show c.u.toNat<9223372036854775808;omega) h)
theorem veNo_3{l l1 l2:By}{f:Bf}{n:Nat}(hl:l=eT 32 f++l1)(hn:u63 n)(h1:l1=eN n++l2)(h:NoF eB tt1 l2):NoF eVe veG l:=
 no_2 (e1:=eT 32) (G1:=tt1) (G2:=veG) (e2:=fun v:Ve=>eN v.u.toNat++eB v.g) (p:=Ve.m) (q:=fun v=>v) (fun _=>rfl) (fun _ h=>⟨trivial,h⟩) eW_unq (a:=f) trivial hl
  (no_2 (e1:=eN) (G1:=u63) (G2:=tt1) (e2:=eB) (p:=fun v:Ve=>v.u.toNat) (q:=Ve.g) (fun _=>rfl) (fun c hc=>by have h1:i63 c.u:=hc;exact ⟨by show c.u.toNat<9223372036854775808;omega,trivial⟩) eN_unq hn h1 h)
abbrev rvV(x:Ve)(v:Value)(w:World):Prop:=v=.agg (veA x)
theorem rdver_any(X:Nat)(l:By)(w:World)(h:RdI X l w):Calls Tryz.prog 111 #[.pointer (some ⟨X,0,none⟩)] w (RdOut X l eVe veG rvV w):=by
 obtain ⟨w1,hw1⟩:∃ w1,w1=w.alloc (.cells (veA ve0) 63):=⟨_,rfl⟩;have b1:Below w.heap.size w w1:=by rw[hw1];exact (Below.refl _ _).alloc (Nat.le_refl _) _
 have r1:row w1 w.heap.size=some (veA ve0):=by rw[hw1];exact zA _ _ _ _ rfl
 have hX:=h.lt;have H1:=Lib.hid (rdwide_any X l w1 (h.below b1));have B1:=Lib.hid b1;have R1:=Lib.hid r1;have I1:=Lib.hid (h.below b1);have HI:=Lib.hid h;have bd:=ver_b3;clear h b1 r1;go_enter Tryz.func111,Tryz.ntmps111;go_upto_region 1 with fail
 rw[<-hw1];clear hw1;go_wp2_with fail;refine H1.out.mono ?_;rintro e w2 (⟨f,v,l1,-,hl,rfl,rfl,hr⟩|⟨hn,z,l1,hz,rfl,hr⟩)
 ·have I2:=Lib.hid (hr.inv I1.out)
  have D2:=Lib.hid hr;have R2:=Lib.hid (hr.row (by omega) R1.out)
  have L1:=Lib.hid hl;have H2':=Lib.hid (rdnum_any X l1 w2 I2.out);clear hl hr H1 R1;go_wp2_with fail;refine H2'.out.mono ?_;rintro e w3 (⟨n,v,l2,hn,hl,rfl,rfl,hr⟩|⟨hn,z,l2,hz,rfl,hr⟩)
  ·have I3:=Lib.hid (hr.inv I2.out)
   have D3:=Lib.hid (Rdd.trans I1.out D2.out hr);have R3:=Lib.hid (hr.row (by omega) R2.out)
   have L2:=Lib.hid (And.intro hn hl);have H3:=Lib.hid (rdflag_any X l2 w3 I3.out);clear hl hr hn H2' R2 I2 D2;go_wp2_with fail;refine H3.out.mono ?_;rintro e w4 (⟨g,v,l3,-,hl,rfl,rfl,hr⟩|⟨hn,z,l3,hz,rfl,hr⟩)
   ·have D4:=Lib.hid (Rdd.behind HI.out B1.out (Rdd.trans I1.out D3.out hr))
    have r4:=hr.row (by omega) R3.out
    have R4:=Lib.hid r4;have L3:=Lib.hid hl;clear hl hr H3 R3 I3 D3;go_wp2_with fail;refine bodyPost_ret (v:=.agg (veA ⟨f,(n:Int),g⟩)) (yV Tryz.results111 _ _ w.heap.size _ _ rfl (zE R4.out _) Tryz.underlying63 rfl (by rw[veA_size];exact ver_i)) rfl (.inl ⟨⟨f,(n:Int),g⟩,_,l3,?_,?_,rfl,rfl,Rdd.up D4.out HI.out (Nat.le_refl _) _⟩)
    ·have h1:=L2.out.1
     exact ⟨by show (0:Int)<=(n:Int);omega,by show (n:Int)<9223372036854775808;omega⟩
    ·rw[L1.out,L2.out.2,L3.out]
     unfold eVe;rw[Int.toNat_natCast,List.append_assoc,List.append_assoc]
   ·have K:=Lib.hid (And.intro (veNo_3 L1.out L2.out.1 L2.out.2 hn) (And.intro hz (Rdd.behind HI.out B1.out (Rdd.trans I1.out D3.out hr))))
    clear hn hz hr H3;go_wp2_with fail;exact ⟨rfl,.inr ⟨K.out.1,z,l3,K.out.2.1,rfl,K.out.2.2⟩⟩
  ·have K:=Lib.hid (And.intro (veNo_2 L1.out hn) (And.intro hz (Rdd.behind HI.out B1.out (Rdd.trans I1.out D2.out hr))))
   clear hn hz hr H2';go_wp2_with fail;exact ⟨rfl,.inr ⟨K.out.1,z,l2,K.out.2.1,rfl,K.out.2.2⟩⟩
 ·have K:=Lib.hid (And.intro (veNo_1 hn) (And.intro hz (Rdd.behind HI.out B1.out hr)))
  clear hn hz hr H1;go_wp2_with fail;exact ⟨rfl,.inr ⟨K.out.1,z,l1,K.out.2.1,rfl,K.out.2.2⟩⟩
structure Mq(T T':Mk)(S:Nat->Prop)(X:Nat)(l:By)(w w':World):Prop where
 rd:Rdd X l w w'
 tag:∀ k,k<w.heap.size->T' k=T k
 mks:∀ k,w.heap.size<=k->S (T' k)
section
variable {T T' T2:Mk} {S S':Nat->Prop} {X:Nat} {l l' l2:By} {w w' w2:World}
theorem Rdd.fr(h:Rdd X l w w')(ht:∀ k,k<w.heap.size->T' k=T k):Fr T T' (fun c=>c=T X) w w':=by
 obtain ⟨A,c,hp,-⟩:=h;have hb:Below w.heap.size (w.setRow X #[.slice A l.length c]) w':=hp;exact ⟨hb.1,hb.2,hb.3,hp.size,fun k hk hn=>hp.block k hk (fun e=>hn (by rw[e])),ht⟩
theorem Mq.fr(h:Mq T T' S X l w w'):Fr T T' (fun c=>c=T X) w w':=h.rd.fr h.tag
theorem Mq.of(h:Rdd X l w w')(m:Nat)(hm:S m):Mq T (paint T w.heap.size m) S X l w w':=⟨h,fun k hk=>zH hk,fun k hk=>by rw[zP hk];exact hm⟩
theorem Mq.trans(hI:RdI X l w)(h:Mq T T' S X l' w w')(k:Mq T' T2 S X l2 w' w2):Mq T T2 S X l2 w w2:=
 ⟨Rdd.trans hI h.rd k.rd,fun i hi=>(k.tag i (Nat.lt_of_lt_of_le hi h.rd.size)).trans (h.tag i hi),fun i hi=>by
  by_cases hlt:i<w'.heap.size
  ·rw[k.tag i hlt];exact h.mks i hi
  ·exact k.mks i (by omega)⟩
theorem Mq.mono(h:Mq T T' S X l w w')(hs:∀ c,S c->S' c):Mq T T' S' X l w w':=⟨h.rd,h.tag,fun k hk=>hs _ (h.mks k hk)⟩
theorem Rdd.calm'(hI:RdI X l w)(h:Rdd X l' w w')(hb:Below w.heap.size w' w2):Rdd X l' w w2:=by
 have hX:=hI.lt;obtain ⟨A,c,hp,hs,hl⟩:=h;exact ⟨A,c,Below.trans hp hb,hs.below (hb.mono (Nat.le_of_lt hX)),hl⟩
theorem Mq.more(hI:RdI X l w)(h:Mq T T' S X l' w w')(hb:Below w.heap.size w' w2)(m:Nat)(hm:S m):Mq T (paint T' w'.heap.size m) S X l' w w2:=
 ⟨Rdd.calm' hI h.rd hb,fun k hk=>by rw[zH (Nat.lt_of_lt_of_le hk h.rd.size)];exact h.tag k hk,fun k hk=>by
  by_cases hlt:k<w'.heap.size
  ·rw[zH hlt];exact h.mks k hk
  ·rw[zP (by omega)];exact hm⟩
theorem VsAt.fresh{t:Nat}{e:TypeId}{v:Value}{L:List Ve}(h:VsAt T' w' t e v L)(hM:Mq T T' S X l w w')(hf:∀ k,k<w.heap.size->T k≠t){w2:World}(hg:w'.grownBy w2 v.ownBlock):Below w.heap.size w' w2:=
 ⟨hg.os,hg.tape,hg.output,hg.size,fun k hk=>hg.block k (Nat.lt_of_lt_of_le hk hM.rd.size) (fun e=>hf k hk (by rw[<-hM.tag k hk];exact h.tg k e.symm))⟩
end
def RdOutM{α:Type}(X:Nat)(l:By)(e:α->By)(G:α->Prop)(S:Nat->Prop)(V:Mk->World->α->Value->Prop)(T:Mk)(w:World):Ending->World->Prop:=fun E w'=>∃ T' l',Mq T T' S X l' w w'/\
 ((∃ a v,G a/\l=e a++l'/\E=.returned v/\V T' w' a v)\/(NoF e G l/\∃ z,z≠0/\E=.panicked (pnE z)))
abbrev S0(t:Nat):Nat->Prop:=fun c=>c=0\/c=t
theorem lsver_any(T:Mk)(t X:Nat)(l:By)(w:World)(h:RdI X l w)(hX:T X≠t)(hX0:T X≠0)(ht:t≠0)(hf:∀ k,k<w.heap.size->T k≠t):
  Calls Tryz.prog 110 #[.pointer (some ⟨X,0,none⟩),.int .i64 4,.func (.func 111) #[.pointer (some ⟨X,0,none⟩)] #[]] w
   (RdOutM X l (eL eVe) (LG 4 veG) (S0 t) (fun T' w' L v=>VsAt T' w' t 63 v L) T w):=by
 have HI:=Lib.hid h;have H1:=Lib.hid (rdnum_any X l w h);have HF:=Lib.hid hf;have HX:=Lib.hid (And.intro hX (And.intro hX0 ht));clear h hf hX hX0 ht;go_enter Tryz.func110,Tryz.ntmps110;go_wp2_with fail;refine H1.out.mono ?_;rintro e w1 (⟨k,v,l1,hk,hl,rfl,rfl,hr⟩|⟨hn,z,l1,hz,rfl,hr⟩)
 ·by_cases h4:4<k
  ·have d1:decide ((4:Int)<(k:Int))=true:=decide_eq_true (by omega)
   have d2:decide (4<k)=true:=decide_eq_true h4;have K:=Lib.hid (And.intro (noL_many (e:=eVe) (G:=veG) (m:=4) (by omega) hk hl h4) hr)
   clear hk hl hr H1 h4;go_wp2_with fail;exact ⟨rfl,_,l1,Mq.of K.out.2 0 (.inl rfl),.inr ⟨K.out.1,80,by decide,rfl⟩⟩
  ·have d1:decide ((4:Int)<(k:Int))=false:=decide_eq_false (by omega)
   have d2:decide (4<k)=false:=decide_eq_false h4;have hk4:k<=4:=by omega
   have I1:=Lib.hid (hr.inv HI.out);have L1:=Lib.hid (And.intro hk hl);have D1:=Lib.hid hr;have P:=Lib.hid (show Mq T (paint T w.heap.size 0) (S0 t) X l1 w w1 from Mq.of hr 0 (.inl rfl))
   clear hk hl hr H1 h4;go_wp2_with fail;go_loopw [8,16] (fun bv iv wr=>∃ (j:Nat) (T1:Mk) (lj:By) (L:List Ve),j<=k/\iv=.int .i64 (j:Int)/\L.length=j/\(∀ a∈L,veG a)/\l=eN k++(L.flatMap eVe++lj)/\Mq T T1 (S0 t) X lj w wr/\VsAt T1 wr t 63 bv L) (fun _ iv _=>k-(intOf iv).toNat)
   case atStart=>
    exact ⟨0,_,l1,[],Nat.zero_le _,rfl,rfl,(fun a ha=>by cases ha),(by rw[List.flatMap_nil,List.nil_append];exact L1.out.2),P.out,VsAt.nil⟩
   case round=>
    obtain ⟨j,T1,lj,L,hj,rfl,hlen,hG,hl,hM,hV⟩:=hrel;obtain ⟨wo,rfl⟩:∃ wo:World,wo=wr:=⟨_,rfl⟩;obtain ⟨A,c,hbv,hlc,hcm,-⟩:=hV.form;subst hbv;rw[hlen] at hV ⊢
    by_cases hlt:j<k
    ·have hd:decide ((j:Int)<(k:Int))=true:=decide_eq_true (by omega)
     have hd2:decide (j<k)=true:=decide_eq_true hlt;have IO:=hM.rd.inv HI.out;have H3:=Lib.hid (rdver_any X lj wo IO);have MO:=Lib.hid hM;have VO:=Lib.hid hV;have GO:=Lib.hid (And.intro hG (And.intro hl hlen));have IO:=Lib.hid IO;clear hM hV hG hl hlen hlc;go_wp2_with fail;refine H3.out.mono ?_;rintro e w3 (⟨x,v,l3,hx,hl3,rfl,rfl,hr3⟩|⟨hn,z,l3,hz,rfl,hr3⟩)
     ·have HXX:=HX.out
      have v3:=VO.out.fr (T':=paint T1 wo.heap.size 0) (Rdd.fr (T:=T1) hr3 (fun k hk=>zH hk)) (by rw[MO.out.tag X HI.out.lt];exact fun e=>HXX.1 e.symm)
      have M3:=Lib.hid (MO.out.trans HI.out (Mq.of hr3 0 (.inl rfl)));have b4:=(Below.refl w3.heap.size w3).alloc (Nat.le_refl _) (.cells (veA x) 63);obtain ⟨w4,hw4⟩:∃ w4,w4=w3.alloc (.cells (veA x) 63):=⟨_,rfl⟩;rw[<-hw4] at b4;have r4:row w4 w3.heap.size=some (veC x).toArray:=by rw[hw4,zA _ _ _ _ rfl];unfold veA;rfl
      have v4:=v3.fr (Fr.new (H:=fun _=>False) b4 0) (fun h=>h)
      have M4:=Lib.hid (M3.out.more HI.out (b4.mono (Nat.le_trans MO.out.rd.size hr3.size)) 0 (.inl rfl));have V4:=Lib.hid v4;have own4:=v4.own;have L3:=Lib.hid (And.intro hx hl3);have HXX:=Lib.hid HXX;subst hw4;clear hr3 hx hl3 v3 v4 b4 IO H3 VO MO M3;go_wp2_with (refine wpl_appK rfl (.tmp 18) (.tmp 21) rfl vers_u ver_info (veA_size _) (by decide) (by decide) own4 r4 (veC_len _) (veC_one _) (by have:=GO.out.2.2;omega) rfl rfl ?_;intro v5 w5 ho5 hg5 ht5)
      have V5:=V4.out.app (m:=[x]) (by rw[show vsC [x]=veC x by unfold vsC;simp];exact ho5) hg5 ht5
      have M5:=M4.out.more HI.out (V4.out.fresh M4.out HF.out hg5) t (.inr rfl);obtain ⟨g1,g2,g3⟩:=GO.out;refine ⟨⟨j+1,_,l3,L++[x],by omega,by rw[Int.natCast_succ],by rw[List.length_append,g3];rfl,fun a ha=>?_,?_,M5,V5⟩,?_⟩
      ·rcases List.mem_append.1 ha with h1|h1
       ·exact g1 a h1
       ·rw[List.mem_singleton.1 h1];exact L3.out.1
      ·rw[g2,L3.out.2,List.flatMap_append]
       simp only[List.flatMap_cons,List.flatMap_nil,List.append_nil,List.append_assoc]
      ·simp only[intOf]
       omega
     ·have g:=GO.out
      have K:=Lib.hid (And.intro (noL (e:=eVe) (G:=veG) (R:=veS) (m:=4) eVe_unq (by omega) g.1 L1.out.1 (by omega) g.2.1 hn) (And.intro hz (MO.out.trans HI.out (Mq.of hr3 0 (.inl rfl)))))
      clear hn hz hr3 H3 g IO;go_wp2_with fail;exact ⟨rfl,_,l3,K.out.2.2,.inr ⟨K.out.1,z,K.out.2.1,rfl⟩⟩
    ·obtain rfl:j=k:=by omega
     have hd:decide ((j:Int)<(j:Int))=false:=decide_eq_false (by omega)
     have hd2:decide (j<j)=false:=decide_eq_false (by omega)
     have K:=Lib.hid (And.intro hM (And.intro hV (And.intro hG (And.intro hl hlen))));clear hM hV hG hl hlen hlc;go_wp2_with fail;go_ret;obtain ⟨m,vv,g1,g2,g3⟩:=K.out;exact ⟨_,lj,m,.inl ⟨L,_,⟨by omega,g1⟩,by rw[g2];unfold eL;rw[g3,List.append_assoc],rfl,vv⟩⟩
 ·have K:=Lib.hid (And.intro (noL_count (e:=eVe) (G:=veG) (m:=4) (by omega) hn) (And.intro hz hr))
  clear hn hz hr H1;go_wp2_with fail;exact ⟨rfl,_,l1,Mq.of K.out.2.2 0 (.inl rfl),.inr ⟨K.out.1,z,K.out.2.1,rfl⟩⟩
end Go.Proofs.YteffjpdcghlnlaaGreatDoor.Oct
namespace Go.Proofs.YteffjpdcghlnlaaGreatDoor.Oct
open Go.ChangeShapes Go.WideShapes Go.ChangeAt Go.RowKit Go.Maps
theorem rkeyr_any(T:Mk)(X:Nat)(l:By)(o:Bool)(w:World)(h:QdI T w X l o):
  Calls Tryz.prog 59 #[.pointer (some ⟨X,0,none⟩)] w fun e w'=>∃ (k:Bf) (l':By) (o':Bool) (T':Mk),e=.returned (.agg (ba 32 k))/\QdI T' w' X l' o'/\Fr T T' (fun c=>c=1) w w'/\QdQ (eT 32) tt1 l o k l' o':=by
 obtain ⟨A,c,hr,hs⟩:=h.at_;have HQ:=Lib.hid h;have hlen:=h.len;have hX:=zK hr;obtain ⟨R,hR⟩:∃ R,R=w.heap.size:=⟨_,rfl⟩;obtain ⟨w1,hw1⟩:∃ w1,w1=(w.alloc (.cells (ba 32 fun _=>0#8) 61)).alloc (.cells (ba 32 fun _=>0#8) 61):=⟨_,rfl⟩
 have b1:Below w.heap.size w w1:=by rw[hw1];exact ((Below.refl _ _).alloc (Nat.le_refl _) _).alloc (by simp) _
 have r1:row w1 R=some (ba 32 fun _=>0#8):=by rw[hw1,hR];exact zN (zA _ _ _ _ rfl) _
 have s1:row w1 (R+1)=some (ba 32 fun _=>0#8):=by rw[hw1,hR];exact zA _ _ _ _ (by simp)
 have hz1:w1.heap.size=R+2:=by rw[hw1,hR];simp
 have x0:=zC (zD b1 hr) 0;have H1:=Lib.hid (rtaket_any l.length c 32 A (lf l) w1 ((hs.sl.below b1).more b1.size) (by omega))
 have HR:=Lib.hid hr;have F1:=Lib.hid (Fr.new (T:=T) (H:=fun c=>c=1) b1 2)
 have HQ1:=h.fr (Fr.new (T:=T) (H:=fun _=>False) b1 2) (fun h=>h) (fun h=>h)
 obtain ⟨T1,hT1⟩:∃ T1,T1=paint T w.heap.size 2:=⟨_,rfl⟩;have TG:=Lib.hid (show T1 R=2/\T1 (R+1)=2 from ⟨by rw[hT1];exact zP (by omega),by rw[hT1];exact zP (by omega)⟩)
 rw[<-hT1] at F1 HQ1;have HQ1:=Lib.hid HQ1;clear hT1;have R1:=Lib.hid (And.intro r1 s1);have B1:=Lib.hid b1;have HRR:=Lib.hid (show R=w.heap.size/\X<R/\w1.heap.size=R+2 from ⟨hR,by omega,hz1⟩)
 clear h hr hs b1 r1 s1 hz1 hX;go_enter Tryz.func59,Tryz.ntmps59;go_upto_region 2 with fail
 rw[<-hw1,<-hR];clear hw1 hR;go_wp2_with fail;refine H1.out.mono ?_;intro e w2 hp
 obtain ⟨At,m,ct,A',c',l',E,g,rfl,hb2,hm,hst,hl,hcase⟩:∃ (At:Option Addr) (m ct:Nat) (A':Option Addr) (c':Nat) (l':By) (E:Nat) (g:Bf),e=.returned (.tuple #[.slice At m ct,.slice A' l'.length c',.int .i64 (E:Int)])/\Below w1.heap.size w1 w2/\m<=32/\(Sl w2 w2.heap.size At m ct g/\∀ k,k<w1.heap.size->Off k m At)/\(RdS (paint T1 w1.heap.size 0) w2 0 A' l'.length c' (lf l')/\l'.length<=l.length)/\((E≠0\/m≠32)/\NoF (eT 32) tt1 l\/E=0/\m=32/\l=eT 32 g++l'/\l'.length<l.length):=by
  rcases hp with ⟨h0,rfl,hb⟩|⟨h0,u,v,rfl,h1,h2,hb⟩
  ·exact ⟨none,0,0,none,0,[],_,fun _=>0#8,rfl,hb,by omega,⟨Sl.nothing _ _ _ _ _,fun k hk hn=>absurd hn (by omega)⟩,⟨⟨Sl.nothing _ _ _ _ _,fun hn=>absurd hn (by simp)⟩,by simp⟩,.inl ⟨.inl h0,fun k r _=>txt_no h0 32 k (by omega) (by omega) r⟩⟩
  ·obtain ⟨e1,e2,e3⟩:=txt_ok h0
   obtain ⟨At,ct,rfl,hsu,-,-⟩:=h1.sl;obtain ⟨A',c',rfl,hsv,-,-⟩:=h2.sl;have hd:(l.drop (tkL (lf l)+tkV (lf l))).length=l.length-tkL (lf l)-tkV (lf l):=by rw[List.length_drop];omega
   have hL0:0<tkL (lf l):=by unfold tkL;omega
   refine ⟨At,tkV (lf l),ct,A',c',l.drop (tkL (lf l)+tkV (lf l)),0,offF (lf l) (tkL (lf l)),by rw[hd];rfl,hb,by omega,⟨hsu,fun k hk=>off_own h1 hk⟩,⟨by
    rw[hd]
    exact ⟨hsv.congr fun i _=>(lf_drop l _ i).symm,(h2.rdS T1 0).tg⟩,by rw[hd];omega⟩,?_⟩
   by_cases hm:tkV (lf l)=32
   ·refine .inr ⟨rfl,hm,?_,by rw[hd];omega⟩
    rw[<-hm];exact e1
   ·refine .inl ⟨.inr hm,fun k r _ he=>hm ?_⟩
    rw[e1] at he;exact (eT_app (by show tkV (lf l)<_;omega) (by show 32<_;omega) he).1
 obtain ⟨bE,hbE⟩:∃ b,b=((E:Int) !=0):=⟨_,rfl⟩;obtain ⟨bM,hbM⟩:∃ b,b=((m:Int) !=32):=⟨_,rfl⟩;obtain ⟨o',ho'⟩:∃ o',o'=(o||(bE||bM)):=⟨_,rfl⟩
 have HC:=Lib.hid (show QdQ (eT 32) tt1 l o g l' o'\/(o'=true/\NoF (eT 32) tt1 l) by
  rcases hcase with ⟨h1,h2⟩|⟨h1,h2,h3,h4⟩
  ·refine .inr ⟨?_,h2⟩
   rw[ho',hbE,hbM];rcases h1 with h|h
   ·have:((E:Int) !=0)=true:=by simp;omega
    rw[this];simp
   ·have:((m:Int) !=32)=true:=by simp;omega
    rw[this];simp
  ·refine .inl ⟨by omega,.inl ⟨?_,trivial,h3,h4⟩⟩
   rw[ho',hbE,hbM,h1,h2]
   cases o<;>rfl)
 have hE:=hbE.symm;have hM:=hbM.symm
 have HM32:=Lib.hid (show m=32\/o'=true/\NoF (eT 32) tt1 l by
  rcases hcase with ⟨h1,h2⟩|⟨h1,h2,h3,h4⟩
  ·rcases HC.out with ⟨_,⟨-,-,hh,-⟩|hh⟩|hh
   ·exact absurd hh (h2 _ _ trivial)
   ·exact .inr hh
   ·exact .inr hh
  ·exact .inl h2)
 have P:=HQ1.out.put (l':=l') (o':=o') hb2 (A':=A') (c':=c') hl.1 hl.2;obtain ⟨w3,hw3⟩:∃ w3,w3=w2.setRow X #[.slice A' l'.length c',.bool o']:=⟨_,rfl⟩;rw[<-hw3] at P;have HP:=Lib.hid P;have r2:=zD hb2 (zD B1.out HR.out);have R2:=Lib.hid r2;have HO:=Lib.hid ho';have HLL:=Lib.hid hl.2
 have S3:=Lib.hid (show row w3 R=some (ba 32 fun _=>0#8)/\row w3 (R+1)=some (ba 32 fun _=>0#8)/\(0<m->∃ go o,At=some ⟨go,o,none⟩/\R+2<=go/\∀ i,i<m->w3.cell? ⟨go,o+i,none⟩=some (.int .u8 (I (g i)))) by
  obtain ⟨-,h1,h2⟩:=HRR.out;refine ⟨?_,?_,fun hm0=>?_⟩
  ·rw[hw3,zF _ _ _ _ (by omega)];exact zD hb2 R1.out.1
  ·rw[hw3,zF _ _ _ _ (by omega)];exact zD hb2 R1.out.2
  ·obtain ⟨go,oo,e1,hg,hc⟩:=hst.1.at_ hm0
   have hge:R+2<=go:=by
    rcases Nat.lt_or_ge go (R+2) with h|h
    ·exact absurd rfl (hst.2 go (by omega) hm0 _ e1)
    ·exact h
   refine ⟨go,oo,e1,hge,fun i hi=>?_⟩
   rw[hw3,<-hc i hi]
   exact World.cell?_of_block (w:=w2) (setRow_other w2 X go _ (by omega)))
 have hXR:=Lib.hid (show X≠R/\X≠R+1 from ⟨by have:=HRR.out;omega,by have:=HRR.out;omega⟩)
 have k0:=zC r2 0;have k1:=zC r2 1;have f0:=zJ r2 0;have f1:=zJ r2 1;have hlc:=hst.1.le;have HW3:=Lib.hid hw3;clear hcase hst hl hb2 hbE hbM ho' P r2 R1 HR H1 x0 hw3 hp;cases o<;>cases bE<;>cases bM
 all_goals
  go_upto_region 5 with fail
  rw[set2 R2.out];have e3:∀ b,o'=b->w2.setRow X #[.slice A' l'.length c',.bool b]=w3:=fun b hb=>by rw[HW3.out,hb]
  first
   |rw[e3 true (by rw[HO.out];rfl)]
   |rw[e3 false (by rw[HO.out];rfl)]
  clear e3 hE hM k0 k1 f0 f1 HW3 R2 HO;go_wp2_with fail;go_loopw [7] (fun iv wr=>∃ i:Nat,i<=m/\iv=.int .i64 (i:Int)/\wr=w3.setRow (R+1) (ba 32 (upto i g fun _=>0#8))) (fun iv _=>m-(intOf iv).toNat)
  case atStart=>exact ⟨0,by omega,rfl,by rw[yP];exact (yF S3.out.2.1).symm⟩
  case round=>
   obtain ⟨i,hi,rfl,rfl⟩:=hrel
   by_cases hlt:i<m
   ·have hd:decide ((i:Int)<(m:Int))=true:=decide_eq_true (by omega)
    have hb:(0:Int)<=(i:Int)/\(i:Int)<=31:=by omega
    have hb2:(0:Int)<=(i:Int)/\(i:Int)<m:=by omega
    have H:=Lib.hid (yX i g fun _=>0#8)
    obtain ⟨go,oo,rfl,hgo,hc⟩:=S3.out.2.2 (by omega)
    have rr:row (w3.setRow (R+1) (ba 32 (upto i g fun _=>0#8))) (R+1)=some (ba 32 (upto i g fun _=>0#8)):=zE S3.out.2.1 _
    have ck:(w3.setRow (R+1) (ba 32 (upto i g fun _=>0#8))).cell? ⟨go,oo+i,none⟩=some (.int .u8 (I (g i))):=by
     rw[<-hc i hlt];exact World.cell?_of_block (w:=w3) (setRow_other w3 (R+1) go _ (by omega))
    have hw:IntKind.i64.wrap ((i:Int)+1)=(i:Int)+1:=IntWalk.i64_in _ (by omega)
    have fz:=zJ rr i;have ck2:(w3.setRow (R+1) (ba 32 (upto i g fun _=>0#8))).cell? ⟨R+1,i,none⟩=some (.int .u8 (I (upto i g (fun _=>0#8) i))):=by rw[zC rr,yA _ _ _ (by omega)]
    have hset:(w3.setRow (R+1) (ba 32 (upto i g fun _=>0#8))).setCell ⟨R+1,i,none⟩ (.int .u8 (I (g i)))=w3.setRow (R+1) (ba 32 (upto (i+1) g fun _=>0#8)):=by rw[zL rr,setRow_setRow,ba_set,H.out]
    clear hc;go_wp2_with fail;refine ⟨⟨i+1,by omega,by rw[Int.natCast_succ],?_⟩,?_⟩
    ·first|rfl|exact hset
    ·simp only[intOf]
     omega
   ·obtain rfl:i=m:=by omega
    have hd:decide ((i:Int)<(i:Int))=false:=by simp
    obtain ⟨k,hk⟩:∃ k,k=upto i g fun _=>0#8:=⟨_,rfl⟩
    rw[<-hk];have HK:=Lib.hid hk;have rr:row (w3.setRow (R+1) (ba 32 k)) (R+1)=some (ba 32 k):=zE S3.out.2.1 _;have r0:row (w3.setRow (R+1) (ba 32 k)) R=some (ba 32 fun _=>0#8):=by rw[zF _ _ _ _ (by omega)];exact S3.out.1
    have RR:=Lib.hid r0;obtain ⟨wz,hwz⟩:∃ wz,wz=w3.setRow (R+1) (ba 32 k):=⟨_,rfl⟩;have HWZ:=Lib.hid hwz;rw[<-hwz] at rr r0 RR ⊢;clear hwz hk;go_wp2_with fail;obtain ⟨q,f⟩:=HP.out;have hz:=HRR.out
    have t2:paint T1 w1.heap.size 0 R=2/\paint T1 w1.heap.size 0 (R+1)=2:=by
     rw[zH (by omega),zH (by omega)]
     exact TG.out
    have f3:=Fr.row (T:=paint T1 w1.heap.size 0) (H:=fun c=>c=2) (w:=w3) (B:=R+1) t2.2 (ba 32 k)
    rw[<-HWZ.out] at f3;have f4:=Fr.row (T:=paint T1 w1.heap.size 0) (H:=fun c=>c=2) (w:=wz) (B:=R) t2.1 (ba 32 k)
    have q4:=(q.fr f3 (by omega) (by omega)).fr f4 (by omega) (by omega)
    have ff:=((F1.out.trans f).up (b:=R+1) (by omega) (ba 32 k)).up (b:=R) (by omega) (ba 32 k)
    rw[<-HWZ.out] at ff;refine bodyPost_ret (v:=.agg (ba 32 k)) (yV Tryz.results59 _ _ R _ _ rfl (zE RR.out _) Tryz.underlying61 rfl (by rw[zI];exact key_i)) rfl ⟨k,l',o',_,rfl,q4,ff,?_⟩
    rcases HM32.out with e|⟨e1,e2⟩
    ·rcases HC.out with e3|⟨e1,e2⟩
     ·have e4:eT 32 k=eT 32 g:=by
       unfold eT;rw[bl_congr (F:=k) (G:=g) fun j hj=>by rw[HK.out,e];unfold upto;rw[if_pos hj]]
      exact ⟨e3.1,e3.2.imp (fun h=>⟨h.1,h.2.1,by rw[e4];exact h.2.2.1,h.2.2.2⟩) id⟩
     ·exact ⟨HLL.out,.inr ⟨e1,e2⟩⟩
    ·exact ⟨HLL.out,.inr ⟨e1,e2⟩⟩
end Go.Proofs.YteffjpdcghlnlaaGreatDoor.Oct
