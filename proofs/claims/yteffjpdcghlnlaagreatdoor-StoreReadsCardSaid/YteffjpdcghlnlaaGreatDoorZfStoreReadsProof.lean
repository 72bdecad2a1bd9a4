/- The statement StoreReads: the law strongroomlaw16.StoreReads answers true for every input, and leaves its arguments as they were. Condition: the package variables that the row lists read at the call as the text of the program lays them; the card ties that. -/
import Derived.Test.YteffjpdcghlnlaaGreatDoorRows
import Derived.Test.YteffjpdcghlnlaaGreatDoorCards
import Derived.Test.YteffjpdcghlnlaaGreatDoorTie
import Derived.SevenTiedAt
import Derived.Test.YteffjpdcghlnlaaGreatDoorZfK
namespace Go.Proofs.YteffjpdcghlnlaaGreatDoor.storeReads
open Go.ChangeShapes Go.WideShapes Go.ChangeAt Go.RowKit
open Go.Proofs.YteffjpdcghlnlaaGreatDoor.Oct
set_option linter.unusedVariables false
theorem own:ownKnob Tryz.prog.godebug=none:=by kernel_rfl
theorem laidOut:laidOutB Tryz.prog=true:=by kernel_rfl
set_option maxRecDepth 20000 in
set_option maxHeartbeats 16000000 in
theorem walk(a0:Nat->BitVec 8)(n0 c0:Nat)(A0:Option Addr)(w:World)(hs0:Sl w w.heap.size A0 n0 c0 a0)(hm0:c0<=maxLen)(hz0:n0<=140737488351232)(htab:Tab w):
  Calls Tryz.prog 4 #[.slice A0 n0 c0] w fun e w'=>e=.returned (.bool true)/\Below w.heap.size w w':=by
 have HT:=Lib.hid htab;have HS:=Lib.hid hs0;have hlc:=hs0.le;have HM:=Lib.hid hm0;unfold maxLen at hm0;clear hs0 htab hz0;go_enter Tryz.func4,Tryz.ntmps4;go_wp2_with fail;refine (shown16_any w HT.out).mono ?_;rintro e w1 ⟨rfl,hb1⟩;have B1:=Lib.hid hb1;clear hb1;obtain ⟨N,hN⟩:∃ N,N=min n0 6000:=⟨_,rfl⟩;have HN:=Lib.hid (show N<=n0/\N<=6000 from ⟨by omega,by omega⟩)
 go_upto_if 12 with fail
 go_cut [0,12] from 13 to 14 (fun v bv wx=>v=.slice A0 N c0/\wx=w1)
 case first=>
  by_cases h6:6000<n0
  ·have hd:decide ((6000:Int)<(n0:Int))=true:=decide_eq_true (by omega)
   have hup:=run_upto (P:=Tryz.prog) zZ u8_i A0 n0 c0 6000 (by omega)
   go_wp2_with fail;go_meet;exact ⟨by rw[show N=6000 by omega],rfl⟩
  ·have hd:decide ((6000:Int)<(n0:Int))=false:=decide_eq_false (by omega)
   go_wp2_with fail;go_meet;exact ⟨by rw[show N=n0 by omega],rfl⟩
 clear hN;obtain ⟨rfl,rfl⟩:=hcut;obtain ⟨b,hbd⟩:∃ b:By,b=bl N a0:=⟨_,rfl⟩;have hbl:b.length=N:=by rw[hbd,xL]
 have hbf:∀ i,i<N->lf b i=a0 i:=fun i hi=>by rw[hbd];exact lf_bl _ _ _ hi
 have HBL:=Lib.hid (And.intro hbl hbf);have O4:=Lib.hid (show Own (wc.alloc (.cells #[] 5)) wc.heap.size 5 (.slice (some ⟨wc.heap.size,0,none⟩) 0 0) 0 a0 from Own.empty wc wc.heap.size 5 _ (Nat.le_refl _))
 have b4:=(Below.refl wc.heap.size wc).alloc (Nat.le_refl _) (.cells #[] 5);have B4:=Lib.hid b4;have SW:=Lib.hid ((HS.out.below B1.out).more B1.out.size|>.upto N HN.out.1)
 have S4:=Lib.hid (SW.out.below b4);have hbz:wc.heap.size<=(wc.alloc (.cells #[] 5)).heap.size:=by simp
 have hN6:=HN.out.2;clear hbd hbl hbf b4;go_wp2_with (at_builtin;refine yO rfl (.tmp 16) (.tmp 17) rfl zZ yJ O4.out S4.out (by omega) hbz rfl rfl ?_;intro v5 w5 ho5 hg5 ht5;have B5:=O4.out.after hg5 B4.out hbz (Nat.le_refl _);rw[Nat.zero_add,yH] at ho5;obtain ⟨A5,c5,hv5,hs5,-,-⟩:=ho5.sl;subst hv5)
 have BW5:=Lib.hid (onto B1.out B1.out.size B5);have P5:=Lib.hid (show LS (fun _ _=>True) w w5 from (LS.init (K:=fun _ _=>True) w trivial).calm (Stb.triv (S:=fun _=>False)) BW5.out)
 have H6:=ls_dec (t:=5) P5.out (Stb.triv (S:=fun _=>False)) (by omega) (b:=b) (A:=A5) (c:=c5) (by rw[HBL.out.1];exact hs5.congr fun i hi=>(HBL.out.2 i hi).symm) (by rw[HBL.out.1];omega)
 rw[HBL.out.1] at H6;have H6':=Lib.hid H6;clear ho5 hg5 ht5 hs5 B5 H6 O4 B4 S4 SW hbz;refine H6'.out.mono ?_;rintro e w6 (⟨y,B,hv,hy,rfl,h⟩|⟨hn,rfl,h⟩)
 ·have P6:=Lib.hid h
  have S6:=((HS.out.below h.bel).more h.bel.size).upto N HN.out.1;have H7:=rdec16_any b A0 c0 w6 (by rw[HBL.out.1];exact S6.congr fun i hi=>(HBL.out.2 i hi).symm) (by rw[HBL.out.1];omega)
  rw[HBL.out.1] at H7;have H7':=Lib.hid H7;have HV:=Lib.hid (And.intro hv hy);clear h H7 S6 H6' P5 BW5 hv hy;go_wp2_with fail;refine H7'.out.mono ?_;rintro e w7 ⟨hb7,⟨x,B2,T2,hvx,hx,rfl,hY⟩|⟨hn,rfl⟩⟩
  ·have BE:=Lib.hid (onto P6.out.bel P6.out.bel.size hb7)
   have HB:=Lib.hid (show Both 5 20 B B2 x w7 from by
    obtain ⟨T,k⟩:=(P6.out.calm (Stb.and (Stb.st (fun h=>h) (fun h=>h) (fun h=>h)) Stb.triv) hb7).fact
    exact ⟨⟨T,k.1.same (HV.out.1.same hvx (HV.out.2.trans hx.symm)) hvx.ok⟩,⟨T2,hY⟩⟩)
   have HX:=Lib.hid (And.intro hvx hx);have H8:=Lib.hid (like_any 5 20 B B2 x w7 HB.out (by omega) hvx.e)
   clear hb7 hvx hx hY H7' P6 HV;go_wp2_with fail;refine H8.out.mono ?_;rintro e w8 ⟨rfl,hb8⟩;have B8:=Lib.hid (onto BE.out BE.out.size hb8);have HB8:=Lib.hid (HB.out.below hb8);clear hb8 BE HB H8;go_wp2_with fail;refine yE [([0,1,2,5,6],3,false)] [4,7,8,9] (by kernel_rfl) (by kernel_rfl) (fun _ _ _ _ _ h=>h) fun Y=>?_
   obtain ⟨w9,hw9⟩:∃ w9,w9=Y.val:=⟨_,rfl⟩;have b9:=Y.below;rw[<-hw9] at b9 ⊢;clear hw9 Y;have B9:=Lib.hid (onto B8.out B8.out.size b9);have H9:=Lib.hid ((HB8.out.below b9).enc (by omega) HX.out.1.e)
   obtain ⟨S,hS⟩:∃ S,S=sxS x:=⟨_,rfl⟩;have HS1:=Lib.hid hS
   have cvb:∀ y:After w9,(convert 22 9 (.slice A0 N c0)).run Tryz.prog y.val=.ok (.string S) y.val:=fun y=>by
    rw[hS];have hb:=onto B9.out B9.out.size y.below;exact conv_in (((HS.out.below hb).more hb.size).upto N HN.out.1) HX.out.2 HBL.out.1 HBL.out.2
   clear b9 HB8 hS;simp only[wpFs,pk,List.getElem?_cons_zero,List.getElem?_cons_succ]
   repeat (go_big_quiet_step (fail))
   refine wpQuiet_nil ?_;clear cvb;go_wp2_with fail;refine H9.out.mono ?_;rintro e w10 ⟨A10,c10,rfl,ho,b10⟩;have cv:∀ y:After w10,(convert 22 9 (.slice A10 (eSx x).length c10)).run Tryz.prog y.val=.ok (.string S) y.val:=fun y=>by rw[HS1.out];exact conv_own (ho.below y.below (Nat.le_refl _))
   have B10:=Lib.hid (onto B9.out B9.out.size b10);have hb10:=Lib.hid b10;clear ho b10 H9;go_wp2_with fail;refine ⟨.inr hb10.out,?_⟩;show wpQuiet _ _ _ _ _ _
   repeat (go_big_quiet_step (fail))
   refine wpQuiet_nil ?_;clear cv hb10;go_wp2_with fail;go_ret;exact ⟨rfl,B10.out⟩
  ·exact absurd HV.out.2 (hn y HV.out.1)
 ·have P6:=Lib.hid h
  have S6:=((HS.out.below h.bel).more h.bel.size).upto N HN.out.1;have H7:=rdec16_any b A0 c0 w6 (by rw[HBL.out.1];exact S6.congr fun i hi=>(HBL.out.2 i hi).symm) (by rw[HBL.out.1];omega)
  rw[HBL.out.1] at H7;have H7':=Lib.hid H7;have HNS:=Lib.hid hn;clear h H7 S6 H6' P5 BW5 hn;go_wp2_with fail;refine H7'.out.mono ?_;rintro e w7 ⟨hb7,⟨x,B2,T2,hvx,hx,rfl,hY⟩|⟨hn,rfl⟩⟩
  ·exact absurd hx (HNS.out x hvx)
  ·have BE:=Lib.hid (onto P6.out.bel P6.out.bel.size hb7)
   clear hb7 hn H7' P6 HNS;go_wp2_with fail;go_ret;exact ⟨rfl,BE.out⟩
set_option maxRecDepth 100000 in
theorem lifted(os:Os)(started:os.Started)(H:Type)(enc:TypeId×Value->H):
  ReturnsInHanded {} Tryz.checked os 4 .any (fun w args=>(Rows.storeReadsSpec.pre enc Tryz.prog Tryz.f4 [] false w args/\laidMetH Tryz.prog laidL w)/\sizedMet enc Tryz.prog Tryz.f4 (OpenSpec.ofChange Rows.storeReadsSpec) false w args) (Rows.storeReadsSpec.post enc Tryz.prog Tryz.f4 false true false false):=by
 refine returnsInHanded_of_change_and (C:=Tryz.checked) (X:=fun w _=>laidMetH Tryz.prog laidL w) (fun _ _ _ hh h=>h.of_heap hh) own started (by kernel_rfl) Tryz.func4
  (ChangeSpec.witness_shaped (enc:=enc) (C:=Tryz.checked) (os:=os) (X:=fun w _=>laidMetH Tryz.prog laidL w) false (World.doorLaid Tryz.prog 14 os) #[.slice none 0 0] 8 rfl (World.shaped_of_RefB (by kernel_rfl) (by kernel_rfl)) (by kernel_rfl) (by kernel_rfl) (by kernel_rfl) (door_met os _)) ?_
 intro W base args ds gs before hval0 hW _ hsz0 hL _;have hval:∀ (j:Nat) t v,Tryz.f4.params[j]? =some t->args[j]? =some v->Value.okWide Tryz.prog W .any base t v:=hval0;have hW':=hW;obtain ⟨p,q,hA0,hV,rfl,hfz,hnd⟩:=hW;have hA:DataW.TrodAll enc Tryz.prog W 0 (fun _=>true) true Tryz.f4.params.toList args.toList ds p:=hA0
 rw[Tryz.params4] at hA hval;have hsz:(DataW.weightsEach Tryz.prog (Tryz.f4.params.toList++Rows.storeReadsSpec.plain.varTypes Tryz.prog) (ds++gs)).all (·<=reachBytes)=true:=hsz0
 rw[Tryz.params4] at hsz;clear hsz0;obtain ⟨v0,vs0,d0,ds0,p0,q0,hargs,rfl,rfl,h0,r0⟩:=trodAll_cons hA;obtain ⟨rfl,rfl,rfl⟩:=trodAll_nil r0;obtain rfl:args=#[v0]:=by cases args;simp_all
 obtain ⟨rfl,rfl⟩:=trodVars_none hV;have k0:=h0;have lt0:∀ x∈p0,x.block<W.heap.size:=by obtain ⟨m,hm⟩:=k0;exact DataW.trod_lt m _ _ _ hm
 obtain ⟨A0,n0,c0,a0,rfl,hs0,hm0⟩:=open_sl Tryz.underlying22 Tryz.underlying5 (by kernel_rfl) (hval 0 22 v0 rfl rfl) h0
 have hz0:n0<=140737488351232:=by have:=reach_sl Tryz.underlying22 k0 hsz (j:=0) rfl rfl;rw[show Tryz.prog.bytesOf 5=1 by kernel_rfl] at this;omega
 clear hA0 hval0;refine (walk a0 n0 c0 A0 W hs0 hm0 hz0 (tab_of hL)).mono fun e W' ⟨he,bel⟩=>?_
 subst he;exact ⟨_,rfl,_,_,_,[],_,[],hW',trodAll_mk1 (shut_bool Tryz.underlying4 _),(trodAll_cons_mk (Below.trod laidOut (by kernel_rfl) (of_decide_eq_true (by kernel_rfl)) k0 bel lt0) trodAll_mk0),rfl,bel.frame _,fun h=>by cases h⟩
set_option maxHeartbeats 4000000 in
theorem over:Rows.storeReadsRow.holds Tryz.pinned (OpenSpec.ofChange Rows.storeReadsSpec):=
 OpenClaim.holds_of_wide 4 Tryz.f4 rfl rfl rfl rfl rfl rfl rfl ⟨rfl,rfl,rfl,rfl,rfl⟩ rfl rfl rfl rfl rfl (by as_aux_lemma=>kernel_rfl) Tryz.func4 (by as_aux_lemma=>kernel_rfl)
  (of_decide_eq_true (by as_aux_lemma=>kernel_rfl)) (by unfold Func.isWrapper;first|(rw[if_pos (by decide+kernel)];as_aux_lemma=>kernel_rfl)|(rw[if_neg (by decide+kernel)];exact ⟨rfl,rfl⟩))
  (fun os started H enc _=>lifted os started H enc)
set_option maxHeartbeats 4000000 in
theorem proved:Rows.StoreReadsCardSaid:=
 Claim7.holds_tied_plain_at .later [] [.data] true (true,"ef13907c1c22fa2efd37217ce8d311b19c0fecaf9c64df184703d01d535a1dd6") true
  over (fun _ h=>by cases h) (by as_aux_lemma=>kernel_rfl) (fun _ h=>by cases h) storeReads_row_tie rfl ⟨rfl,rfl⟩ (by as_aux_lemma=>kernel_rfl) rfl
  (fun f fn hf hfn=>by
   obtain rfl:f=4:=Option.some.inj ((show Tryz.prog.funcNamed "strongroom/strongroomlaw16.StoreReads"=some 4 by as_aux_lemma=>kernel_rfl).symm.trans hf)|>.symm
   obtain rfl:fn=Tryz.f4:=(Option.some.inj (Tryz.func4.symm.trans hfn)).symm
   exact ⟨by as_aux_lemma=>kernel_rfl,fun j t ht=>by
    rw[Tryz.params4] at ht;have hm:t∈[22]:=by simpa using Array.mem_of_getElem? ht
    have hall:([22].all fun u=>!Tryz.prog.wantsStandIn u)=true:=by as_aux_lemma=>kernel_rfl
    exact (show Tryz.prog.wantsStandIn t=false by simpa using List.all_eq_true.1 hall t hm)⟩)
  (by as_aux_lemma=>kernel_rfl)
#print axioms proved
end Go.Proofs.YteffjpdcghlnlaaGreatDoor.storeReads
