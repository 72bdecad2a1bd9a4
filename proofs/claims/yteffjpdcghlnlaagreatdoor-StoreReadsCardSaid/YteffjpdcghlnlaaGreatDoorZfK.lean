import Derived.Deep.CutBlock
import Derived.LaidMore
import Derived.Stop.Joined
import Derived.Test.YteffjpdcghlnlaaGreatDoorZfJ
set_option linter.unusedVariables false
set_option linter.unusedSimpArgs false
set_option maxHeartbeats 16000000
set_option maxRecDepth 20000
namespace Go.Proofs.YteffjpdcghlnlaaGreatDoor.Oct
open Go.ChangeShapes Go.WideShapes Go.ChangeAt Go.RowKit Go.Maps
theorem rgA_set(b:Bool)(v v':Value):(rgA b v).setIfInBounds 1 v'=rgA b v':=by unfold rgA;rfl
theorem st_bI(u:Int)(w:World):(Instr.build 121 #[(0,.int .i64 u)]).run Tryz.prog w=.ok (.agg #[.int .i64 u,.int .i64 0,.int .i64 0,.int .i64 0,.int .i64 0,.slice none 0 0]) w:=by kernel_rfl
theorem rp_st2(P:Program)(t:Nat)(w:World)(b:Nat)(x0 x1 x2:Int)(A:Option Addr)(n c:Nat)(y0 y1 y2 y3 y4 y5:Value):stR P t 4 w b 2 (.agg #[.int .i64 x0,.int .i64 x1,.int .i64 x2,.slice A n c]) (some #[y0,y1,y2,y3,y4,y5])=.ok () (w.setRow b #[y0,y1,.int .i64 x0,.int .i64 x1,.int .i64 x2,.slice A n c]):=by
 exact (stR_spl (o:=2) (m:=4) (c:=#[y0,y1,y2,y3,y4,y5]) (x:=#[.int .i64 x0,.int .i64 x1,.int .i64 x2,.slice A n c]) (by simp) rfl (ones4 _ _ _ _ _ _)).trans rfl
theorem se_fold{a0 a1 a2 a3 a4 a5:Value}{c:Array Value}(h:c=#[a0,a1,a2,a3,a4,a5]):Array.foldl (fun (cs:Array Value) (x:Value×Nat)=>cs.setIfInBounds x.snd x.fst) #[.int .i64 0,.int .i64 0,.int .i64 0,.int .i64 0,.int .i64 0,.slice none 0 0] c.zipIdx 0 6=c:=by
 subst h;simp[Array.zipIdx,Array.foldl]
abbrev kRow(A:Nat)(k:Bf):Kp:=fun T y=>row y A=some (ba 32 k)/\T A=3
theorem rdec16_any(b:By)(A:Option Addr)(c:Nat)(w:World)(hs:Sl w w.heap.size A b.length c (lf b))(hl:b.length<=10000):
  Calls Tryz.prog 21 #[.slice A b.length c] w fun e w'=>Below w.heap.size w w'/\((∃ x B T,SxV x/\eSx x=b/\e=.returned (.tuple #[.pointer (some ⟨B,0,none⟩),.int .i64 0])/\YsAt T w' 20 B x)\/(NoS b/\e=.returned (.tuple #[.pointer none,.int .i64 80]))):=by
 obtain ⟨P,hP⟩:∃ P:Ending->World->Prop,P=fun e w'=>Below w.heap.size w w'/\((∃ x B T,SxV x/\eSx x=b/\e=.returned (.tuple #[.pointer (some ⟨B,0,none⟩),.int .i64 0])/\YsAt T w' 20 B x)\/(NoS b/\e=.returned (.tuple #[.pointer none,.int .i64 80]))):=⟨_,rfl⟩
 rw[<-hP];have HP:=Lib.hid hP;have HL:=Lib.hid hl;obtain ⟨X,hX⟩:∃ X,X=w.heap.size:=⟨_,rfl⟩;obtain ⟨w1,hw1⟩:∃ w1,w1=w.alloc (.cells #[.slice A b.length c,.bool false] 117):=⟨_,rfl⟩;have b1:Below w.heap.size w w1:=by rw[hw1];exact (Below.refl _ _).alloc (Nat.le_refl _) _
 have r1:row w1 X=some #[.slice A b.length c,.bool false]:=by rw[hw1,hX];exact zA _ _ _ _ rfl
 have Q1:=Lib.hid (show LS (fun T y=>QdI T y X b false/\True) w w1 from by
  refine (((LS.init (K:=fun _ _=>True) w trivial).sl hs).add (K':=fun T y=>row y X=some #[.slice A b.length c,.bool false]/\T X=1) (Stb.and Stb.triv (Stb.rd (fun h=>h))) b1 1 fun T=>⟨r1,by rw[hX];exact zP (Nat.le_refl _)⟩).mono fun T k=>⟨⟨k.2.2,⟨A,c,k.2.1,k.1.2⟩,by omega⟩,trivial⟩)
 have HS:=Lib.hid hs;have H1:=Lib.hid (ls_rkey Q1.out Stb.triv);have bd:=rd_b A b.length c;clear hP hs b1 r1 Q1 hl;go_enter Tryz.func21,Tryz.ntmps21;go_upto_region 2 with fail
 rw[<-hw1,<-hX];clear hw1 bd hX;go_wp2_with fail;refine H1.out.mono ?_;rintro e w2 ⟨k1,l1,o1,rfl,h,q1⟩;have P2:=Lib.hid (ls_var' h (Stb.and (Stb.qd (fun h=>h) (fun h=>h)) Stb.triv) (ba 32 k1) 61 3)
 obtain ⟨v2,hv2⟩:∃ v,v=w2.alloc (.cells (ba 32 k1) 61):=⟨_,rfl⟩;obtain ⟨KA,hKA⟩:∃ KA,KA=w2.heap.size:=⟨_,rfl⟩;rw[<-hv2,<-hKA] at P2;have HQ1:=Lib.hid q1;have P2:=Lib.hid (show LS (fun T y=>QdI T y X l1 o1/\kRow KA k1 T y) w v2 from P2.out.mono fun T k=>⟨k.1.1,k.2⟩)
 have H2:=Lib.hid (ls_rkey P2.out (Stb.row (by omega)))
 clear h q1 H1;go_upto_region 3 with fail
 rw[<-hv2,<-hKA];clear hv2 hKA;go_wp2_with fail;refine H2.out.mono ?_;rintro e w3 ⟨k2,l2,o2,rfl,h,q2⟩;have P3:=Lib.hid (ls_var' h (Stb.and (Stb.qd (fun h=>h) (fun h=>h)) (Stb.row (fun h=>h))) (ba 32 k2) 61 3)
 obtain ⟨v3,hv3⟩:∃ v,v=w3.alloc (.cells (ba 32 k2) 61):=⟨_,rfl⟩;obtain ⟨KB,hKB⟩:∃ KB,KB=w3.heap.size:=⟨_,rfl⟩;rw[<-hv3,<-hKB] at P3;have HQ2:=Lib.hid q2;have P3:=Lib.hid (show LS (fun T y=>QdI T y X l2 o2/\(kRow KA k1 T y/\kRow KB k2 T y)) w v3 from P3.out.mono fun T k=>⟨k.1.1,k.1.2,k.2⟩)
 have s3:=Lib.hid (show ∀ S:Nat->Prop,¬ S 3->Stb S (fun T y=>kRow KA k1 T y/\kRow KB k2 T y) from fun S h=>Stb.and (Stb.row h) (Stb.row h))
 have H3:=Lib.hid (ls_num P3.out (s3.out _ (by omega)))
 clear h q2 H2 P2;go_upto_region 4 with fail
 rw[<-hv3,<-hKB];clear hv3 hKB;go_wp2_with fail;refine H3.out.mono ?_;rintro e w4 ⟨n,l3,o3,rfl,h,hn63,q3⟩;have S4:=Lib.hid (src_read HQ1.out HQ2.out q3);have ll3:=Lib.hid (show l3.length<=b.length from by have:=HQ1.out.1;have:=HQ2.out.1;have:=q3.1;omega)
 have P4:=Lib.hid h;have H4:=Lib.hid (ls_num P4.out (s3.out _ (by omega)))
 clear h q3 H3 P3 HQ1 HQ2;go_wp2_with fail;refine H4.out.mono ?_;rintro e w5 ⟨m,l4,o4,rfl,h,hm63,q4⟩
 have S5:=Lib.hid (show (o4=false/\SRd b ((k1,k2),n) m [] l4)\/NoS b from by
  rcases S4.out with ⟨rfl,h1,h2⟩|h1
  ·exact keys_head h1 h2 q4
  ·exact .inr h1)
 have ll4:=Lib.hid (show l4.length<=b.length from by have:=ll3.out;have:=q4.1;omega)
 have P5:=Lib.hid h;clear h q4 H4 P4 S4 ll3;go_upto_block 0 with fail
 have s6:=Lib.hid (show ∀ (S:Nat->Prop) (v:Value) (K:Ks),¬ S 3->(∀ c,100<=c->¬ S c)->Stb S (fun T y=>(kRow KA k1 T y/\kRow KB k2 T y)/\RsAt T y 100 59 63 v K) from fun S v K h1 h2=>Stb.and (s3.out S h1) (Stb.rs h2))
 go_cut [8,10,11,12,13,14,15] from 39 to 87 (fun vr iv x11 x12 x13 x14 x15 wx=>∃ (K:Ks) (l:By) (o:Bool) (Ak:Option Addr) (ck:Nat),vr=.slice Ak K.length ck/\LS (fun T y=>QdI T y X l o/\((kRow KA k1 T y/\kRow KB k2 T y)/\RsAt T y 100 59 63 (.slice Ak K.length ck) K)) w wx/\((o=false/\SRd b ((k1,k2),n) m K l/\K.length=m)\/NoS b)/\l.length<=b.length/\K.length<=b.length+1/\∀ r∈K,r.l.length<=b.length+1)
 case first=>
  as_aux_lemma=>
  go_wp2_with fail;go_loopw [8,10] (fun vr iv wr=>∃ (i:Nat) (K:Ks) (l:By) (o:Bool) (Ak:Option Addr) (ck:Nat),vr=.slice Ak K.length ck/\iv=.int .i64 (i:Int)/\K.length=i/\i<=m/\LS (fun T y=>QdI T y X l o/\((kRow KA k1 T y/\kRow KB k2 T y)/\RsAt T y 100 59 63 (.slice Ak K.length ck) K)) w wr/\((o=false/\SRd b ((k1,k2),n) m K l)\/NoS b)/\l.length<=b.length/\(o=false->i+l.length<=b.length)/\i<=b.length+1/\∀ r∈K,r.l.length<=b.length+1) (fun _ iv _=>b.length+2-(intOf iv).toNat)
  case atStart=>exact ⟨0,[],l4,o4,none,0,rfl,rfl,rfl,by omega,P5.out.mono fun T k=>⟨k.1,k.2,RsAt.nil⟩,S5.out,ll4.out,fun _=>by have:=ll4.out;omega,by omega,fun r hr=>by cases hr⟩
  case round=>
   obtain ⟨i,K,l,o,Ak,ck,rfl,rfl,hKi,him,hp,hst,hll,hbd,hib,hrb⟩:=hrel;obtain ⟨wo,rfl⟩:∃ wo:World,wo=wr:=⟨_,rfl⟩;have x1:=hp.qd;have PP:=Lib.hid hp;clear hp P5 S5 ll4
   by_cases hlt:i<m
   ·have hd:decide ((i:Int)<(m:Int))=true:=by simp;omega
    cases o with
    |true=>
     have HN:=Lib.hid (show NoS b from hst.resolve_left (fun h=>by cases h.1))
     have HKI:=Lib.hid hKi;clear hKi;go_wp2_with fail;go_meet;exact ⟨K,l,true,Ak,ck,rfl,PP.out,.inr HN.out,hll,by have:=HKI.out;omega,hrb⟩
    |false=>
     have HST:=Lib.hid hst;have hbd:=hbd rfl;have H6:=Lib.hid (ls_num PP.out (s6.out _ _ _ (by omega) (fun c h1 h2=>by omega)))
     have hw:IntKind.i64.wrap ((i:Int)+1)=(i:Int)+1:=IntWalk.i64_in _ (by have:=HL.out;omega)
     have HRB:=Lib.hid hrb;have HKI:=Lib.hid hKi;clear hst hrb hKi;go_wp2_with fail;refine H6.out.mono ?_;rintro e w6 ⟨v,l1,o1,rfl,h,hv63,qa⟩;obtain ⟨of,hof⟩:∃ of,of=decide ((v:Int)=1):=⟨_,rfl⟩;have hq:((v:Int)==1)=of:=by rw[hof];by_cases h:(v:Int)=1<;>simp[h]
     have bO:=rg_bO of;have P6:=Lib.hid (ls_var' h (Stb.and (Stb.qd (fun h=>h) (fun h=>h)) (s6.out _ _ _ (fun h=>h) (fun _ _ h=>h))) (rgA of (.slice none 0 0)) 59 4)
     obtain ⟨v6,hv6⟩:∃ v,v=w6.alloc (.cells (rgA of (.slice none 0 0)) 59):=⟨_,rfl⟩;obtain ⟨XB,hXB⟩:∃ XB,XB=w6.heap.size:=⟨_,rfl⟩;rw[<-hv6,<-hXB] at P6;have P6:=Lib.hid (show LS (fun T y=>QdI T y X l1 o1/\(((kRow KA k1 T y/\kRow KB k2 T y)/\RsAt T y 100 59 63 (.slice Ak K.length ck) K)/\(row y XB=some (rgA of (.slice none 0 0))/\T XB=4))) w v6 from P6.out.mono fun T k=>⟨k.1.1,k.1.2,k.2⟩)
     have H7:=Lib.hid (ls_num P6.out (Stb.and (s6.out _ _ _ (by omega) (fun c h1 h2=>by omega)) (Stb.row (by omega))))
     have HQA:=Lib.hid qa;have HOF:=Lib.hid hof;clear h qa H6 PP hof x1;go_upto_region 11 with fail
     rw[<-hv6,<-hXB];clear hv6 hXB bO hq;go_wp2_with fail;refine H7.out.mono ?_;rintro e w7 ⟨n2,l2,o2,rfl,h,hn63',qb⟩
     have S7:=Lib.hid (show (o2=false/\SVd b ((k1,k2),n) m K of n2 [] l2)\/NoS b from by
      rcases HST.out with ⟨-,h1⟩|h1
      ·rw[HOF.out];exact ring_head h1 (by have:=HKI.out;omega) HQA.out qb
      ·exact .inr h1)
     have L7:=Lib.hid (show l2.length<=b.length/\(o2=false->i+1+l2.length<=b.length) from by
      have h1:=HQA.out.1;have h2:=qb.1;refine ⟨by omega,fun h3=>?_⟩
      rcases qb.2 with ⟨h4,-⟩|⟨h4,-⟩
      ·rcases HQA.out.2 with ⟨-,-,-,h5⟩|⟨h5,-⟩
       ·omega
       ·rw[h3,h5] at h4;cases h4
      ·rw[h3] at h4;cases h4)
     have P7:=Lib.hid h;clear h qb H7 P6 HQA HST;go_upto_block 2 with fail
     go_cut [13,14,15] from 57 to 83 (fun x13 x14 x15 wx=>∃ (L:List Ve) (l:By) (o:Bool) (Av:Option Addr) (cv:Nat),LS (fun T y=>QdI T y X l o/\(((kRow KA k1 T y/\kRow KB k2 T y)/\RsAt T y 100 59 63 (.slice Ak K.length ck) K)/\((row y XB=some (rgA of (.slice Av L.length cv))/\T XB=4)/\VsAt T y (101+K.length) 63 (.slice Av L.length cv) L))) w wx/\((o=false/\SVd b ((k1,k2),n) m K of n2 L l/\L.length=n2)\/NoS b)/\l.length<=b.length/\(o=false->i+1+l.length<=b.length)/\L.length<=b.length+1)
     case first=>
      as_aux_lemma=>
      go_wp2_with fail;go_loopw [13] (fun kv wr=>∃ (k:Nat) (L:List Ve) (l:By) (o:Bool) (Av:Option Addr) (cv:Nat),kv=.int .i64 (k:Int)/\L.length=k/\k<=n2/\LS (fun T y=>QdI T y X l o/\(((kRow KA k1 T y/\kRow KB k2 T y)/\RsAt T y 100 59 63 (.slice Ak K.length ck) K)/\((row y XB=some (rgA of (.slice Av L.length cv))/\T XB=4)/\VsAt T y (101+K.length) 63 (.slice Av L.length cv) L))) w wr/\((o=false/\SVd b ((k1,k2),n) m K of n2 L l)\/NoS b)/\l.length<=b.length/\(o=false->i+1+k+l.length<=b.length)/\k<=b.length+1) (fun kv _=>b.length+2-(intOf kv).toNat)
      case atStart=>exact ⟨0,[],l2,o2,none,0,rfl,rfl,by omega,P7.out.mono fun T k=>⟨k.1,k.2.1,k.2.2,VsAt.nil⟩,S7.out,L7.out.1,fun h=>by have:=L7.out.2 h;omega,by omega⟩
      case round=>
       obtain ⟨k,L,l,o,Av,cv,rfl,hLk,hkn,hp,hst,hll,hbd,hib⟩:=hrel;obtain ⟨wo,rfl⟩:∃ wo:World,wo=wr:=⟨_,rfl⟩;have x1:=hp.qd;have PP:=Lib.hid hp;clear hp P7 S7 L7
       by_cases hlt2:k<n2
       ·have hd2:decide ((k:Int)<(n2:Int))=true:=by simp;omega
        cases o with
        |true=>
         have HN:=Lib.hid (show NoS b from hst.resolve_left (fun h=>by cases h.1))
         go_wp2_with fail;go_meet;exact ⟨L,l,true,Av,cv,PP.out,.inr HN.out,hll,fun h=>(by cases h),by omega⟩
        |false=>
         have HST:=Lib.hid hst;have hbd:=hbd rfl;have HLK:=Lib.hid hLk;clear hLk;have sV:=Lib.hid (show ∀ (S:Nat->Prop),¬ S 3->¬ S 4->(∀ c,100<=c->¬ S c)->Stb S (fun T y=>((kRow KA k1 T y/\kRow KB k2 T y)/\RsAt T y 100 59 63 (.slice Ak K.length ck) K)/\((row y XB=some (rgA of (.slice Av L.length cv))/\T XB=4)/\VsAt T y (101+K.length) 63 (.slice Av L.length cv) L)) from fun S h3 h4 h5=>Stb.and (s6.out S _ _ h3 h5) (Stb.and (Stb.row h4) (Stb.vs (h5 _ (by omega)))))
         have H8:=Lib.hid (ls_rkey PP.out (sV.out _ (by omega) (by omega) (fun c h1 h2=>by omega)))
         have hw2:IntKind.i64.wrap ((k:Int)+1)=(k:Int)+1:=IntWalk.i64_in _ (by have:=HL.out;omega)
         clear hst;go_wp2_with fail;refine H8.out.mono ?_;rintro e w8 ⟨mk,l1,o1,rfl,h,qa⟩;have P8:=Lib.hid (ls_var' h (Stb.and (Stb.qd (fun h=>h) (fun h=>h)) (sV.out _ (fun h=>h) (fun h=>h) (fun _ _ h=>h))) (ba 32 mk) 61 3)
         obtain ⟨v8,hv8⟩:∃ v,v=w8.alloc (.cells (ba 32 mk) 61):=⟨_,rfl⟩;obtain ⟨MB,hMB⟩:∃ MB,MB=w8.heap.size:=⟨_,rfl⟩;rw[<-hv8,<-hMB] at P8;have sM:=Lib.hid (show ∀ (S:Nat->Prop),¬ S 3->¬ S 4->(∀ c,100<=c->¬ S c)->Stb S (fun T y=>(((kRow KA k1 T y/\kRow KB k2 T y)/\RsAt T y 100 59 63 (.slice Ak K.length ck) K)/\((row y XB=some (rgA of (.slice Av L.length cv))/\T XB=4)/\VsAt T y (101+K.length) 63 (.slice Av L.length cv) L))/\kRow MB mk T y) from fun S h3 h4 h5=>Stb.and (sV.out S h3 h4 h5) (Stb.row h3))
         have P8:=Lib.hid (show LS (fun T y=>QdI T y X l1 o1/\((((kRow KA k1 T y/\kRow KB k2 T y)/\RsAt T y 100 59 63 (.slice Ak K.length ck) K)/\((row y XB=some (rgA of (.slice Av L.length cv))/\T XB=4)/\VsAt T y (101+K.length) 63 (.slice Av L.length cv) L))/\kRow MB mk T y)) w v8 from P8.out.mono fun T k=>⟨k.1.1,k.1.2,k.2⟩)
         have H9:=Lib.hid (ls_num P8.out (sM.out _ (by omega) (by omega) (fun c h1 h2=>by omega)))
         have HQA:=Lib.hid qa;clear h qa H8 PP x1;go_upto_region 16 with fail
         rw[<-hv8,<-hMB];clear hv8 hMB;go_wp2_with fail;refine H9.out.mono ?_;rintro e w9 ⟨u,l2',o2',rfl,h,hu63,qb⟩;have P9:=Lib.hid h;have HQB:=Lib.hid qb;obtain ⟨T9,-,kf⟩:=h.fact;have RX:=Lib.hid kf.1.2.1.1;have RM:=Lib.hid kf.2.1;clear h qb kf H9 P8;go_wp2_with fail;refine zY [([0,1,2,3,4],5,false),([6,7],8,false),([],9,false),([10],11,true)] [] (fun y=>row y XB=some (rgA of (.slice Av L.length cv))/\row y MB=some (ba 32 mk)) (by kernel_rfl) (by kernel_rfl) (fun _ _ _ _ _ h=>h) (by rw[zS,zS];exact ⟨RX.out,RM.out⟩) ?_
         obtain ⟨wd,hwd⟩:∃ wd,wd=w9.drewN 1:=⟨_,rfl⟩;have bd:Below w9.heap.size w9 wd:=by rw[hwd];exact zQ (Below.refl _ _) 1
         rw[<-hwd];have PD:=Lib.hid (P9.out.calm (Stb.and (Stb.qd (fun h=>h) (fun h=>h)) (sM.out _ (fun h=>h) (fun h=>h) (fun _ _ h=>h))) bd)
         have RXd:=Lib.hid (zD bd RX.out);have RMd:=Lib.hid (zD bd RM.out);have hne:Nonempty (In (fun y=>row y XB=some (rgA of (.slice Av L.length cv))/\row y MB=some (ba 32 mk))):=⟨⟨wd,RXd.out,RMd.out⟩⟩
         have e1:∀ y:In (fun y=>row y XB=some (rgA of (.slice Av L.length cv))/\row y MB=some (ba 32 mk)),y.val.cell? ⟨XB,1,none⟩=some (.slice Av L.length cv):=fun y=>rgA_c1 y.ok.1
         have e2:∀ y:In (fun y=>row y XB=some (rgA of (.slice Av L.length cv))/\row y MB=some (ba 32 mk)),row y.val MB=some (ba 32 mk):=fun y=>y.ok.2
         have H10:=Lib.hid (ls_num PD.out (sM.out _ (by omega) (by omega) (fun c h1 h2=>by omega)))
         clear hwd bd P9 RX RM;simp only[wpFl,pk,List.getElem?_cons_zero,List.getElem?_cons_succ];refine zV ?_
         repeat (go_big_quiet_step (fail))
         refine wpQuiet_nil ?_;clear e1 e2 hne;go_wp2_with fail;refine H10.out.mono ?_;rintro e w10 ⟨g,l3,o3,rfl,h,hg63,qc⟩;obtain ⟨gf,hgf⟩:∃ gf,gf=decide ((g:Int)=1):=⟨_,rfl⟩;have hq:((g:Int)==1)=gf:=by rw[hgf];by_cases h:(g:Int)=1<;>simp[h]
         have P10:=Lib.hid h;obtain ⟨T10,-,kf⟩:=h.fact;have rx:=kf.1.2.1.1;have rm:=kf.2.1
         have S10:=Lib.hid (show (o3=false/\SVd b ((k1,k2),n) m K of n2 (L++[(⟨mk,(u:Int),gf⟩:Ve)]) l3)\/NoS b from by
          rcases HST.out with ⟨-,h1⟩|h1
          ·rw[hgf];exact ver_read h1 (by have:=HLK.out;omega) HQA.out HQB.out qc
          ·exact .inr h1)
         have L10:=Lib.hid (show l3.length<=b.length/\(o3=false->i+1+(k+1)+l3.length<=b.length) from by
          have h1:=HQA.out.1;have h2:=HQB.out.1;have h3:=qc.1;refine ⟨by omega,fun h4=>?_⟩
          rcases qc.2 with ⟨h5,-⟩|⟨h5,-⟩
          ·rcases HQB.out.2 with ⟨h6,-⟩|⟨h6,-⟩
           ·rcases HQA.out.2 with ⟨-,-,-,h7⟩|⟨h7,-⟩
            ·omega
            ·rw[h4,h6,h7] at h5;cases h5
           ·rw[h4,h6] at h5;cases h5
          ·rw[h4] at h5;cases h5)
         clear h kf qc H10 PD RXd RMd HQA HQB HST hgf;go_wp2_with fail;refine ⟨(fun y=>row y XB=some (rgA of (.slice Av L.length cv))/\row y MB=some (ba 32 mk)),⟨rx,rm⟩,.inr ⟨⟨rx,rm⟩,fun _ h=>h⟩,?_⟩
         show wpQuiet _ _ _ _ _ _;refine zV ?_;have hne:Nonempty (In (fun y=>row y XB=some (rgA of (.slice Av L.length cv))/\row y MB=some (ba 32 mk))):=⟨⟨w10,rx,rm⟩⟩
         have bdv:=ver_b3 mk u gf
         repeat (go_big_quiet_step (fail))
         refine wpQuiet_nil ?_;clear hne bdv hq;go_wp2_with fail;obtain ⟨wz,hwz⟩:∃ wz,wz=w10.alloc (.cells (veA ⟨mk,u,gf⟩) 63):=⟨_,rfl⟩;have bz:Below w10.heap.size w10 wz:=by rw[hwz];exact (Below.refl _ _).alloc (Nat.le_refl _) _
         rw[<-hwz];have PZ:=Lib.hid (P10.out.calm (Stb.and (Stb.qd (fun h=>h) (fun h=>h)) (sM.out _ (fun h=>h) (fun h=>h) (fun _ _ h=>h))) bz)
         have rxz:=zD bz rx;have rmz:=zD bz rm;have r4:row wz w10.heap.size=some (veC ⟨mk,u,gf⟩).toArray:=by rw[hwz,zA _ _ _ _ rfl];unfold veA;rfl
         refine ⟨(fun y=>row y XB=some (rgA of (.slice Av L.length cv))/\row y MB=some (ba 32 mk)),⟨rxz,rmz⟩,⟨⟨rxz,rmz⟩,fun _ h=>h⟩,?_⟩
         show wpQuiet _ _ _ _ _ _;refine wpQuiet_nil ?_;obtain ⟨T4,hf4,kq,kk,km⟩:=PZ.out;have KK:=Lib.hid kk;have KQ:=Lib.hid (And.intro hf4 (And.intro kq km));have own4:=kk.2.2.own;clear hwz bz P10 rx rm hf4 kq kk km PZ;go_wp2_with (refine wpl_appK rfl (.tmp 74) (.tmp 81) rfl vers_u ver_info (veA_size _) (by decide) (by decide) own4 r4 (veC_len _) (veC_one _) (by have:=HLK.out;have:=HL.out;omega) rfl rfl ?_;intro v5 w5 ho5 hg5 ht5)
         have V5:=KK.out.2.2.app (m:=[⟨mk,u,gf⟩]) (by rw[vsC_one1];exact ho5) hg5 ht5
         have f5:Fr T4 (paint T4 wz.heap.size (101+K.length)) (fun c=>c=101+K.length) wz w5:=Fr.grown hg5 (fun g hg=>KK.out.2.2.tg g hg) _
         have rx5:=f5.rowAt rxz (by rw[KK.out.2.1.2];omega)
         have rm5:=f5.rowAt rmz (by rw[KQ.out.2.2.2];omega)
         obtain ⟨A5,c5,rfl,-⟩:=V5.form;have tx5:paint T4 wz.heap.size (101+K.length) XB=4:=by rw[zH (zK rxz)];exact KK.out.2.1.2
         have f6:=Fr.row (T:=paint T4 wz.heap.size (101+K.length)) (H:=fun c=>c=4) (w:=w5) (B:=XB) tx5 (rgA of (.slice A5 (L++[(⟨mk,(u:Int),gf⟩:Ve)]).length c5))
         have P6:=Lib.hid (show LS (fun T y=>QdI T y X l3 o3/\(((kRow KA k1 T y/\kRow KB k2 T y)/\RsAt T y 100 59 63 (.slice Ak K.length ck) K)/\((row y XB=some (rgA of (.slice A5 (L++[(⟨mk,(u:Int),gf⟩:Ve)]).length c5))/\T XB=4)/\VsAt T y (101+K.length) 63 (.slice A5 (L++[(⟨mk,(u:Int),gf⟩:Ve)]).length c5) (L++[(⟨mk,(u:Int),gf⟩:Ve)])))) w (w5.setRow XB (rgA of (.slice A5 (L++[(⟨mk,(u:Int),gf⟩:Ve)]).length c5))) from by
          obtain ⟨hf4,kq,km⟩:=KQ.out;obtain ⟨⟨⟨ka,kb⟩,kr⟩,kx,kv⟩:=KK.out;refine ⟨_,(hf4.trans (f5.mono fun c hc=>by omega)).trans (f6.mono fun c hc=>by omega),(kq.fr f5 (by omega) (by omega)).fr f6 (by omega) (by omega),⟨⟨?_,?_⟩,(kr.fr f5 fun c h1 h2=>by omega).fr f6 fun c h1 h2=>by omega⟩,⟨zE rx5 _,tx5⟩,V5.fr f6 (by omega)⟩
          ·have h:=(Stb.row (S:=fun c=>c=101+K.length) (t:=3) (b:=KA) (c:=ba 32 k1) (by omega)) _ _ _ _ _ ka f5 (fun _ h=>h)
           exact (Stb.row (S:=fun c=>c=4) (t:=3) (b:=KA) (c:=ba 32 k1) (by omega)) _ _ _ _ _ h f6 (fun _ h=>h)
          ·have h:=(Stb.row (S:=fun c=>c=101+K.length) (t:=3) (b:=KB) (c:=ba 32 k2) (by omega)) _ _ _ _ _ kb f5 (fun _ h=>h)
           exact (Stb.row (S:=fun c=>c=4) (t:=3) (b:=KB) (c:=ba 32 k2) (by omega)) _ _ _ _ _ h f6 (fun _ h=>h))
         have R5:=Lib.hid rx5;refine ⟨(fun y=>row y XB=some (rgA of (.slice Av L.length cv))/\row y MB=some (ba 32 mk)),⟨rx5,rm5⟩,⟨⟨rx5,rm5⟩,fun _ h=>h⟩,?_⟩
         show wpQuiet _ _ _ _ _ _;refine zV ?_;have hne:Nonempty (In (fun y=>row y XB=some (rgA of (.slice Av L.length cv))/\row y MB=some (ba 32 mk))):=⟨⟨w5,rx5,rm5⟩⟩
         repeat (go_big_quiet_step (fail))
         refine wpQuiet_nil ?_;have c1:=rgA_c1 rx5;have z1:=zJ rx5 1;clear hne V5 f5 f6 tx5 ho5 hg5 ht5 rxz rmz rx5 rm5 r4 own4 KK KQ;go_wp2_with fail;rw[zL R5.out,rgA_set];refine ⟨fun _=>True,trivial,?_⟩
         show wpQuiet _ _ _ _ _ _;refine wpQuiet_nil ?_;go_wp2_with fail;have e5:L.length+1=(L++[(⟨mk,(u:Int),gf⟩:Ve)]).length:=by rw[List.length_append];rfl
         rw[e5];refine ⟨⟨k+1,_,l3,o3,A5,c5,by rw[Int.natCast_succ],by rw[List.length_append,HLK.out];rfl,by omega,P6.out,S10.out,L10.out.1,L10.out.2,by omega⟩,?_⟩
         simp only[intOf];omega
       ·have hd2:decide ((k:Int)<(n2:Int))=false:=by simp;omega
        have HS2:=Lib.hid (show (o=false/\SVd b ((k1,k2),n) m K of n2 L l/\L.length=n2)\/NoS b from hst.imp (fun h=>⟨h.1,h.2,by omega⟩) id)
        go_wp2_with fail;go_meet;exact ⟨L,l,o,Av,cv,PP.out,HS2.out,hll,fun h=>by have:=hbd h;omega,by omega⟩
     clear P7 S7 L7;obtain ⟨L,l,o,Av,cv,hp,hst,hll,hbd,hLb⟩:=hcut;obtain ⟨w8,rfl⟩:∃ w:World,w=wc:=⟨_,rfl⟩;have HST:=Lib.hid hst;obtain ⟨wz,hwz⟩:∃ wz,wz=w8.alloc (.cells (rgA of (.slice Av L.length cv)) 59):=⟨_,rfl⟩;have bz:Below w8.heap.size w8 wz:=by rw[hwz];exact (Below.refl _ _).alloc (Nat.le_refl _) _
     have PZ:=hp.calm (Stb.and (Stb.qd (fun h=>h) (fun h=>h)) (Stb.and (s6.out _ _ _ (fun h=>h) (fun _ _ h=>h)) (Stb.and (Stb.row (fun h=>h)) (Stb.vs (fun h=>h))))) bz
     obtain ⟨T0,-,-,kx0,-⟩:=hp.fact;have rx:=kx0.1;obtain ⟨T4,hf4,kq,⟨kab,kr⟩,kx,kv⟩:=PZ;have r4:row wz w8.heap.size=some ([.bool of,.slice Av L.length cv]:List Value).toArray:=by rw[hwz,zA _ _ _ _ rfl];unfold rgA;rfl
     obtain ⟨xs,hxs,hel⟩:=kr.own;have KK:=Lib.hid (And.intro hf4 (And.intro kq (And.intro kab (And.intro kr kv))));have HXS:=Lib.hid (And.intro hxs hel);have HWZ:=Lib.hid hwz;clear hp hst bz kx0 hf4 kq kab kr kx kv hel;subst hwz;go_wp2_with (refine wpl_appK rfl (.tmp 84) (.tmp 86) rfl rins_u rin_info (rgA_size _ _) (by decide) (by decide) hxs r4 rfl (fun v hv=>by simp at hv;rcases hv with rfl|rfl<;>rfl) (by have:=HKI.out;have:=HL.out;omega) rfl rfl ?_;intro v5 w5 ho5 hg5 ht5)
     obtain ⟨hf4,kq,kab,kr,kv⟩:=KK.out;have R5:=kr.app (r:=⟨of,L⟩) HXS.out.1 HXS.out.2 ho5 hg5 ht5 (by rw[show 100+1+K.length=101+K.length by omega];exact kv)
     have f5:=Fr.grown (T:=T4) (H:=fun c=>c=100) hg5 (fun g hg=>kr.tg g hg) 100
     obtain ⟨A5,c5,rfl,-⟩:=R5.form;refine ⟨⟨i+1,K++[⟨of,L⟩],l,o,A5,c5,rfl,by rw[Int.natCast_succ],by rw[List.length_append,HKI.out];rfl,by omega,⟨_,hf4.trans (f5.mono fun c hc=>by omega),kq.fr f5 (by omega) (by omega),(s3.out (fun c=>c=100) (by omega)) _ _ _ _ _ kab f5 (fun _ h=>h),R5⟩,HST.out.imp (fun h=>⟨h.1,h.2.1.done h.2.2⟩) id,hll,fun h=>by have:=hbd h;omega,by omega,fun r hr=>?_⟩,?_⟩
     ·rcases List.mem_append.1 hr with hr|hr
      ·exact HRB.out r hr
      ·rw[List.mem_singleton.1 hr];exact hLb
     ·simp only[intOf]
      omega
   ·have hd:decide ((i:Int)<(m:Int))=false:=by simp;omega
    have HS2:=Lib.hid (show (o=false/\SRd b ((k1,k2),n) m K l/\K.length=m)\/NoS b from hst.imp (fun h=>⟨h.1,h.2,by omega⟩) id)
    have HKI:=Lib.hid hKi;clear hKi;go_wp2_with fail;go_meet;exact ⟨K,l,o,Ak,ck,rfl,PP.out,HS2.out,hll,by have:=HKI.out;omega,hrb⟩
 as_aux_lemma=>
 clear P5 S5 ll4;obtain ⟨K,l,o,Ak,ck,rfl,hp,hst,hll,hKb,hrb⟩:=hcut;obtain ⟨w6,rfl⟩:∃ w:World,w=wc:=⟨_,rfl⟩;have HST:=Lib.hid hst;have HRB:=Lib.hid hrb;have P6:=Lib.hid hp;have H6:=Lib.hid (ls_num P6.out (s6.out _ _ _ (by omega) (fun c h1 h2=>by omega)))
 clear hst hrb hp;go_wp2_with fail;refine H6.out.mono ?_;rintro e w7 ⟨g,l5,o5,rfl,h,hg63,qa⟩;have P7:=Lib.hid h;have HQA:=Lib.hid qa;have H7:=Lib.hid (ls_num P7.out (s6.out _ _ _ (by omega) (fun c h1 h2=>by omega)))
 clear h qa H6 P6;go_wp2_with fail;refine H7.out.mono ?_;rintro e w8 ⟨m2,l6,o6,rfl,h,hm263,qb⟩
 have S8:=Lib.hid (show (o6=false/\SSd b ((k1,k2),n) K g m2 [] l6)\/NoS b from by
  rcases HST.out with ⟨rfl,h1,h2⟩|h1
  ·exact sess_head h1 h2 HQA.out qb
  ·exact .inr h1)
 have L8:=Lib.hid (show l6.length<=b.length from by have:=HQA.out.1;have:=qb.1;omega)
 have P8:=Lib.hid h;clear h qb H7 P7 HQA HST;go_upto_block 4 with fail
 go_cut [17,18,19,20,21,22] from 92 to 139 (fun sv iv x19 x20 x21 x22 wx=>∃ (L:List Se) (l:By) (o:Bool) (As:Option Addr) (cs:Nat),sv=.slice As L.length cs/\LS (fun T y=>QdI T y X l o/\(((kRow KA k1 T y/\kRow KB k2 T y)/\RsAt T y 100 59 63 (.slice Ak K.length ck) K)/\ElAt 6 seEl T y 50 As cs L)) w wx/\((o=false/\SSd b ((k1,k2),n) K g m2 L l/\L.length=m2)\/NoS b)/\L.length<=b.length+1/\∀ s∈L,seG s)
 case first=>
  as_aux_lemma=>
  go_wp2_with fail;go_loopw [17,18] (fun sv iv wr=>∃ (i:Nat) (L:List Se) (l:By) (o:Bool) (As:Option Addr) (cs:Nat),sv=.slice As L.length cs/\iv=.int .i64 (i:Int)/\L.length=i/\i<=m2/\LS (fun T y=>QdI T y X l o/\(((kRow KA k1 T y/\kRow KB k2 T y)/\RsAt T y 100 59 63 (.slice Ak K.length ck) K)/\ElAt 6 seEl T y 50 As cs L)) w wr/\((o=false/\SSd b ((k1,k2),n) K g m2 L l)\/NoS b)/\l.length<=b.length/\(o=false->i+l.length<=b.length)/\i<=b.length+1/\∀ s∈L,seG s) (fun _ iv _=>b.length+2-(intOf iv).toNat)
  case atStart=>exact ⟨0,[],l6,o6,none,0,rfl,rfl,rfl,by omega,P8.out.mono fun T k=>⟨k.1,k.2,ElAt.nil _ _ _⟩,S8.out,L8.out,fun _=>by have:=L8.out;omega,by omega,fun r hr=>by cases hr⟩
  case round=>
   obtain ⟨i,L,l,o,As,cs,rfl,rfl,hLi,him,hp,hst,hll,hbd,hib,hsb⟩:=hrel;obtain ⟨wo,rfl⟩:∃ wo:World,wo=wr:=⟨_,rfl⟩;have x1:=hp.qd;have PP:=Lib.hid hp;have HLI:=Lib.hid hLi;have HSB:=Lib.hid hsb;have HST:=Lib.hid hst;clear hp P8 S8 L8 hLi hsb hst;have sE:=Lib.hid (show ∀ (S:Nat->Prop),¬ S 0->¬ S 3->¬ S 50->(∀ c,100<=c->¬ S c)->Stb S (fun T y=>((kRow KA k1 T y/\kRow KB k2 T y)/\RsAt T y 100 59 63 (.slice Ak K.length ck) K)/\ElAt 6 seEl T y 50 As cs L) from fun S h0 h3 h4 h5=>Stb.and (s6.out S _ _ h3 h5) (Stb.el h4 h0))
   by_cases hlt:i<m2
   ·have hd:decide ((i:Int)<(m2:Int))=true:=by simp;omega
    cases o with
    |true=>
     have HN:=Lib.hid (show NoS b from HST.out.resolve_left (fun h=>by cases h.1))
     go_wp2_with fail;go_meet;exact ⟨L,l,true,As,cs,rfl,PP.out,.inr HN.out,by have:=HLI.out;omega,HSB.out⟩
    |false=>
     have hbd:=hbd rfl;have H9:=Lib.hid (ls_num PP.out (sE.out _ (by omega) (by omega) (by omega) (fun c h1 h2=>by omega)))
     have hw:IntKind.i64.wrap ((i:Int)+1)=(i:Int)+1:=IntWalk.i64_in _ (by have:=HL.out;omega)
     go_wp2_with fail;refine H9.out.mono ?_;rintro e w9 ⟨u,l1,o1,rfl,h,hu63,qa⟩;have bS:=st_bI u;have P9:=Lib.hid (ls_var' h (Stb.and (Stb.qd (fun h=>h) (fun h=>h)) (sE.out _ (fun h=>h) (fun h=>h) (fun h=>h) (fun _ _ h=>h))) #[.int .i64 (u:Int),.int .i64 0,.int .i64 0,.int .i64 0,.int .i64 0,.slice none 0 0] 121 5)
     obtain ⟨v9,hv9⟩:∃ v,v=w9.alloc (.cells #[.int .i64 (u:Int),.int .i64 0,.int .i64 0,.int .i64 0,.int .i64 0,.slice none 0 0] 121):=⟨_,rfl⟩;obtain ⟨SB,hSB⟩:∃ SB,SB=w9.heap.size:=⟨_,rfl⟩;rw[<-hv9,<-hSB] at P9;have P9:=Lib.hid (show LS (fun T y=>QdI T y X l1 o1/\((((kRow KA k1 T y/\kRow KB k2 T y)/\RsAt T y 100 59 63 (.slice Ak K.length ck) K)/\ElAt 6 seEl T y 50 As cs L)/\(row y SB=some #[.int .i64 (u:Int),.int .i64 0,.int .i64 0,.int .i64 0,.int .i64 0,.slice none 0 0]/\T SB=5))) w v9 from P9.out.mono fun T k=>⟨k.1.1,k.1.2,k.2⟩)
     have HQA:=Lib.hid qa;have H10:=Lib.hid (ls_num P9.out (Stb.and (sE.out _ (by omega) (by omega) (by omega) (fun c h1 h2=>by omega)) (Stb.row (by omega))))
     clear h qa H9 PP x1;go_upto_region 26 with fail
     rw[<-hv9,<-hSB];clear hv9 hSB bS;go_wp2_with fail;refine H10.out.mono ?_;rintro e w10 ⟨v,l2,o2,rfl,h,hv63,qb⟩;have HQB:=Lib.hid qb;obtain ⟨T10,-,-,kf⟩:=h.fact;have rs:=kf.1;have sQ:=Lib.hid (show ∀ (S:Nat->Prop),¬ S 0->¬ S 1->¬ S 3->¬ S 50->(∀ c,100<=c->¬ S c)->∀ l o,Stb S (fun T y=>QdI T y X l o/\(((kRow KA k1 T y/\kRow KB k2 T y)/\RsAt T y 100 59 63 (.slice Ak K.length ck) K)/\ElAt 6 seEl T y 50 As cs L)) from fun S h0 h1 h3 h4 h5 l o=>Stb.and (Stb.qd h1 h0) (sE.out S h0 h3 h4 h5))
     have P11:=(h.mono (K':=fun T y=>(QdI T y X l2 o2/\(((kRow KA k1 T y/\kRow KB k2 T y)/\RsAt T y 100 59 63 (.slice Ak K.length ck) K)/\ElAt 6 seEl T y 50 As cs L))/\(row y SB=some #[.int .i64 (u:Int),.int .i64 0,.int .i64 0,.int .i64 0,.int .i64 0,.slice none 0 0]/\T SB=5)) fun T k=>⟨⟨k.1,k.2.1⟩,k.2.2⟩).over (sQ.out _ (by omega) (by omega) (by omega) (by omega) (fun c h1 h2=>by omega) _ _) (by omega) #[.int .i64 (u:Int),.int .i64 (v:Int),.int .i64 0,.int .i64 0,.int .i64 0,.slice none 0 0]
     obtain ⟨w11,hw11⟩:∃ w11,w11=w10.setRow SB #[.int .i64 (u:Int),.int .i64 (v:Int),.int .i64 0,.int .i64 0,.int .i64 0,.slice none 0 0]:=⟨_,rfl⟩;rw[<-hw11] at P11;have P11:=Lib.hid P11;have RS:=Lib.hid rs;have c1:=zC rs 1;have f1:=zJ rs 1;clear h qb kf rs H10 P9;go_upto_region 27 with fail
     rw[zL RS.out,show (#[.int .i64 (u:Int),.int .i64 0,.int .i64 0,.int .i64 0,.int .i64 0,.slice none 0 0]:Array Value).setIfInBounds 1 (.int .i64 (v:Int))=#[.int .i64 (u:Int),.int .i64 (v:Int),.int .i64 0,.int .i64 0,.int .i64 0,.slice none 0 0] from rfl,<-hw11]
     clear hw11 RS c1 f1;obtain ⟨T11,q11,rs11⟩:=P11.out.fact;obtain ⟨AX,cX,rX,hX⟩:=q11.1.at_;have x0:=zC rX 0;have HXr:=Lib.hid rX;have RS:=Lib.hid rs11.1;have H12:=Lib.hid (rtakerep_new l2.length cX AX (lf l2) w11 hX.sl (by have:=q11.1.len;omega))
     clear q11 rs11 rX hX;go_wp2_with fail;refine H12.out.mono ?_;intro e w12 hp
     obtain ⟨r,At,ct,AR,cR,l3,E,rfl,hb12,hrs,hls,hr⟩:∃ (r:Rp) (At:Option Addr) (ct:Nat) (AR:Option Addr) (cR:Nat) (l3:By) (E:Nat),e=.returned (.tuple #[repV r.c r.n r.m (.slice At r.T ct),.slice AR l3.length cR,.int .i64 (E:Int)])/\Below w11.heap.size w11 w12/\(∀ T,RdS (paint T w11.heap.size 0) w12 0 At r.T ct r.f)/\((∀ T,RdS (paint T w11.heap.size 0) w12 0 AR l3.length cR (lf l3))/\l3.length<=l2.length)/\(rpG r/\((E≠0/\NoF eRp rpG l2)\/(E=0/\l2=eRp r++l3/\l3.length<l2.length))):=by
      rcases hp with ⟨h0,rfl,hb⟩|⟨h0,At,ct,AR,cR,rfl,h1,h2,hb,h3⟩
      ·exact ⟨⟨0,0,0,0,fun _=>0#8⟩,none,0,none,0,[],_,rfl,hb,fun T=>⟨Sl.nothing _ _ _ _ _,fun hn=>absurd hn (by show ¬ (0<0);omega)⟩,⟨fun T=>⟨Sl.nothing _ _ _ _ _,fun hn=>absurd hn (by simp)⟩,by simp⟩,⟨⟨by decide,by decide⟩,⟨by decide,by decide⟩,⟨by decide,by decide⟩,by decide⟩,.inl ⟨h0,fun r s hr=>rep_no h0 r hr s⟩⟩
      ·obtain ⟨e1,e2,e3⟩:=rep_ok h0
       have hd:(l2.drop (trO (lf l2) 2)).length=l2.length-trO (lf l2) 2:=List.length_drop
       have hlt3:(l2.drop (trO (lf l2) 2)).length<l2.length:=by
        have h:=congrArg List.length e1;rw[List.length_append] at h;have h4:0<(eRp (rpT (lf l2))).length:=by unfold eRp;rw[List.length_append,eN_len];have:=encL_pos (rpT (lf l2)).c.toNat;omega
        omega
       refine ⟨rpT (lf l2),At,ct,AR,cR,l2.drop (trO (lf l2) 2),0,by rw[hd];rfl,hb,fun T=>⟨h1,fun hn a ha=>?_⟩,⟨fun T=>?_,by omega⟩,e2,.inr ⟨rfl,e1,hlt3⟩⟩
       ·rcases Nat.lt_or_ge a.block w11.heap.size with h|h
        ·exact absurd rfl ((h3 _ h).1 hn a ha)
        ·exact zP h
       ·rw[hd]
        refine ⟨h2.congr fun i _=>(lf_drop l2 _ i).symm,fun hn a ha=>?_⟩
        rcases Nat.lt_or_ge a.block w11.heap.size with h|h
        ·exact absurd rfl ((h3 _ h).2 hn a ha)
        ·exact zP h
     obtain ⟨bE,hbE⟩:∃ b,b=((E:Int) !=0):=⟨_,rfl⟩;obtain ⟨o3,ho3⟩:∃ o',o'=(o2||bE):=⟨_,rfl⟩
     have HQC:=Lib.hid (show QdQ eRp rpG l2 o2 r l3 o3 from by
      refine ⟨hls.2,?_⟩;rcases hr.2 with ⟨h1,h2⟩|⟨h1,h2,h3⟩
      ·have:((E:Int) !=0)=true:=by simp;omega
       exact .inr ⟨by rw[ho3,hbE,this];simp,h2⟩
      ·exact .inl ⟨by rw[ho3,hbE,h1];cases o2<;>rfl,hr.1,h2,h3⟩)
     have hE:=hbE.symm;have HO:=Lib.hid ho3;have HRG:=Lib.hid hr.1;obtain ⟨w13,hw13⟩:∃ w13,w13=w12.alloc (.cells #[.int .i64 r.c,.int .i64 r.n,.int .i64 r.m,.slice At r.T ct] 33):=⟨_,rfl⟩;obtain ⟨LB,hLB⟩:∃ LB,LB=w12.heap.size:=⟨_,rfl⟩;have b13:Below w12.heap.size w12 w13:=by rw[hw13];exact (Below.refl _ _).alloc (Nat.le_refl _) _
     have rL:row w13 LB=some #[.int .i64 r.c,.int .i64 r.n,.int .i64 r.m,.slice At r.T ct]:=by rw[hw13,hLB];exact zA _ _ _ _ rfl
     have bb:=onto hb12 hb12.size b13;have rX13:=zD bb HXr.out;have rS13:=zD bb RS.out;obtain ⟨w14,hw14⟩:∃ w14,w14=w13.setRow X #[.slice AR l3.length cR,.bool o3]:=⟨_,rfl⟩;have hXL:X<w11.heap.size:=zK HXr.out;have hSL:SB<w11.heap.size:=zK RS.out;have hz12:=hb12.size;have hXS:SB≠X:=fun e=>by rw[e] at rS13;rw[rS13] at rX13;simp at rX13
     have P14:=Lib.hid (show LS (fun T y=>((QdI T y X l3 o3/\(((kRow KA k1 T y/\kRow KB k2 T y)/\RsAt T y 100 59 63 (.slice Ak K.length ck) K)/\ElAt 6 seEl T y 50 As cs L))/\RdS T y 0 At r.T ct r.f)/\(row y SB=some #[.int .i64 (u:Int),.int .i64 (v:Int),.int .i64 0,.int .i64 0,.int .i64 0,.slice none 0 0]/\T SB=5)) w w14 from by
      obtain ⟨T,hf,⟨q,kk⟩,ks⟩:=P11.out;have P:=q.put (l':=l3) (o':=o3) bb (A':=AR) (c':=cR) ((hls.1 T).fr (Fr.same (H:=fun _=>False) b13) (fun h=>h)) hls.2
      rw[<-hw14] at P;have hR:=((hrs T).fr (Fr.same (H:=fun _=>False) b13) (fun h=>h)).fr (Fr.row (T:=paint T w11.heap.size 0) (H:=fun c=>c=1) (w:=w13) (B:=X) (by rw[zH hXL];exact q.tg) #[.slice AR l3.length cR,.bool o3]) (by omega)
      rw[<-hw14] at hR
      exact ⟨_,hf.trans (P.2.mono fun c hc=>by omega),⟨⟨P.1,(sE.out (fun c=>c=1) (by omega) (by omega) (by omega) (fun c h1 h2=>by omega)) _ _ _ _ _ kk P.2 (fun _ h=>h)⟩,hR⟩,(Stb.row (S:=fun c=>c=1) (by omega)) _ _ _ _ _ ks P.2 (fun _ h=>h)⟩)
     have rL14:row w14 LB=some #[.int .i64 r.c,.int .i64 r.n,.int .i64 r.m,.slice At r.T ct]:=by rw[hw14,zF _ _ _ _ (by omega)];exact rL
     have rS14:row w14 SB=some #[.int .i64 (u:Int),.int .i64 (v:Int),.int .i64 0,.int .i64 0,.int .i64 0,.slice none 0 0]:=by rw[hw14,zF _ _ _ _ hXS];exact rS13
     have k0:=zC rX13 0;have k1':=zC rX13 1;have g0:=zJ rX13 0;have g1:=zJ rX13 1;have RX13:=Lib.hid rX13;have RL14:=Lib.hid rL14;have RS14:=Lib.hid rS14;have HW14:=Lib.hid hw14;clear hp hb12 hrs hls hr hbE ho3 b13 rL bb rX13 rS13 hXL hSL hz12 hXS hw14 rL14 rS14 x0 H12 HXr RS P11;go_upto_region 28 with fail
     rw[<-hw13,<-hLB];clear hw13 hLB;go_cut [] from 119 to 129 (fun wx=>wx=w13.setRow X #[.slice AX l2.length cX,.bool o3])
     case first=>
      cases o2<;>cases bE
      all_goals
       go_wp2_with fail;go_meet;rw[zL RX13.out,HO.out];rfl
     subst hcut;clear hE k0 k1' g0 g1;have rx:=zE RX13.out #[.slice AX l2.length cX,.bool o3];have k0:=zC rx 0;have g0:=zJ rx 0;have HRX:=Lib.hid rx;clear rx;go_upto_region 30 with fail
     rw[zL HRX.out,show (#[.slice AX l2.length cX,.bool o3]:Array Value).setIfInBounds 0 (.slice AR l3.length cR)=#[.slice AR l3.length cR,.bool o3] from rfl,setRow_setRow,<-HW14.out]
     clear k0 g0 HRX HW14 RX13;have st2:=rp_st2;have rL:=RL14.out;have rS:=RS14.out;obtain ⟨w15,hw15⟩:∃ w15,w15=w14.setRow SB #[.int .i64 (u:Int),.int .i64 (v:Int),.int .i64 r.c,.int .i64 r.n,.int .i64 r.m,.slice At r.T ct]:=⟨_,rfl⟩;have P15:=P14.out.over (Stb.and (sQ.out _ (by omega) (by omega) (by omega) (by omega) (fun c h1 h2=>by omega) _ _) (Stb.rd (by omega))) (by omega) #[.int .i64 (u:Int),.int .i64 (v:Int),.int .i64 r.c,.int .i64 r.n,.int .i64 r.m,.slice At r.T ct]
     rw[<-hw15] at P15;have rS15:row w15 SB=some #[.int .i64 (u:Int),.int .i64 (v:Int),.int .i64 r.c,.int .i64 r.n,.int .i64 r.m,.slice At r.T ct]:=by rw[hw15];exact zE rS _
     have HW15:=Lib.hid hw15;clear hw15;go_upto_region 31 with fail
     rw[<-HW15.out];clear st2 rL rS;obtain ⟨CA,hCA⟩:∃ CA:Array Value,CA=#[.int .i64 (u:Int),.int .i64 (v:Int),.int .i64 r.c,.int .i64 r.n,.int .i64 r.m,.slice At r.T ct]:=⟨_,rfl⟩;rw[<-hCA] at rS15;have HCA:=Lib.hid hCA;have hsz:CA.size=6:=by rw[hCA];rfl
     have ld6:ldR Tryz.prog 121 6 w15 SB 0 (row w15 SB)=.ok (.agg CA) w15:=by rw[rS15];exact xJ _ _ _ _ _ _ hsz.symm
     have hfo:=se_fold hCA;clear hCA rS15;obtain ⟨w16,hw16⟩:∃ w16,w16=w15.alloc (.cells CA 121):=⟨_,rfl⟩;have b16:Below w15.heap.size w15 w16:=by rw[hw16];exact (Below.refl _ _).alloc (Nat.le_refl _) _
     have r16:row w16 w15.heap.size=some ([.int .i64 (u:Int),.int .i64 (v:Int),.int .i64 r.c,.int .i64 r.n,.int .i64 r.m,.slice At r.T ct]:List Value).toArray:=by rw[hw16,zA _ _ _ _ rfl,HCA.out]
     obtain ⟨T16,hf16,⟨⟨kq,kkp,kel⟩,krd⟩,-⟩:=P15.calm (Stb.and (Stb.and (sQ.out _ (fun h=>h) (fun h=>h) (fun h=>h) (fun h=>h) (fun _ _ h=>h) _ _) (Stb.rd (fun h=>h))) (Stb.row (fun h=>h))) b16
     have KK:=Lib.hid (And.intro hf16 (And.intro kq kkp));have KE:=Lib.hid kel;have KR:=Lib.hid krd;have R16:=Lib.hid r16;clear hf16 kq kkp kel krd b16 P15 r16;subst hw16;go_wp2_with (at_builtin;refine wpl_appAt yL rfl (.tmp 136) (.tmp 138) rfl ssl_u se_info rfl (by decide) (by decide) KE.out R16.out (x:=⟨(u:Int),(v:Int),r.c,r.n,r.m,r.T,r.f⟩) ⟨At,ct,rfl,KR.out⟩ (by have:=HLI.out;have:=HL.out;omega) (by omega) rfl rfl ?_;intro A5 c5 w5 e5 f5)
     have e6:L.length+1=(L++[(⟨(u:Int),(v:Int),r.c,r.n,r.m,r.T,r.f⟩:Se)]).length:=by rw[List.length_append];rfl
     have S9:(o3=false/\SSd b ((k1,k2),n) K g m2 (L++[⟨(u:Int),(v:Int),r.c,r.n,r.m,r.T,r.f⟩]) l3)\/NoS b:=by
      rcases HST.out with ⟨-,h1⟩|h1
      ·exact seat_read h1 (by have:=HLI.out;omega) HQA.out HQB.out HQC.out
      ·exact .inr h1
     have L9:l3.length<=b.length/\(o3=false->(i+1)+l3.length<=b.length):=by
      have h1:=HQA.out.1;have h2:=HQB.out.1;have h3:=HQC.out.1;refine ⟨by omega,fun h4=>?_⟩
      rcases HQC.out.2 with ⟨h5,-⟩|⟨h5,-⟩
      ·rcases HQB.out.2 with ⟨h6,-⟩|⟨h6,-⟩
       ·rcases HQA.out.2 with ⟨-,-,-,h7⟩|⟨h7,-⟩
        ·omega
        ·exact absurd (h4.symm.trans (h5.trans (h6.trans h7))) (by decide)
       ·exact absurd (h4.symm.trans (h5.trans h6)) (by decide)
      ·exact absurd (h4.symm.trans h5) (by decide)
     have P17:LS (fun T y=>QdI T y X l3 o3/\(((kRow KA k1 T y/\kRow KB k2 T y)/\RsAt T y 100 59 63 (.slice Ak K.length ck) K)/\ElAt 6 seEl T y 50 A5 c5 (L++[(⟨(u:Int),(v:Int),r.c,r.n,r.m,r.T,r.f⟩:Se)]))) w w5:=by
      obtain ⟨hf,kq,kk⟩:=KK.out;exact ⟨_,hf.trans (f5.mono fun c hc=>by omega),kq.fr f5 (by omega) (by omega),(s6.out (fun c=>c=50) _ _ (by omega) (fun c h1 h2=>by omega)) _ _ _ _ _ kk f5 (fun _ h=>h),e5⟩
     obtain ⟨L',hL'⟩:∃ L',L'=L++[(⟨(u:Int),(v:Int),r.c,r.n,r.m,r.T,r.f⟩:Se)]:=⟨_,rfl⟩;rw[e6];rw[<-hL'] at P17 S9 ⊢;have hLL:L'.length=i+1:=by rw[hL',List.length_append,HLI.out];rfl
     refine ⟨⟨i+1,L',l3,o3,A5,c5,rfl,by rw[Int.natCast_succ],hLL,by omega,P17,S9,L9.1,L9.2,by omega,fun x hx=>?_⟩,?_⟩
     ·rw[hL'] at hx
      rcases List.mem_append.1 hx with hx|hx
      ·exact HSB.out x hx
      ·rw[List.mem_singleton.1 hx]
       exact ⟨⟨by show (0:Int)<=(u:Int);omega,by show (u:Int)<_;omega⟩,⟨by show (0:Int)<=(v:Int);omega,by show (v:Int)<_;omega⟩,HRG.out⟩
     ·simp only[intOf]
      omega
   ·have hd:decide ((i:Int)<(m2:Int))=false:=by simp;omega
    have HS2:=Lib.hid (show (o=false/\SSd b ((k1,k2),n) K g m2 L l/\L.length=m2)\/NoS b from HST.out.imp (fun h=>⟨h.1,h.2,by have:=HLI.out;omega⟩) id)
    go_wp2_with fail;go_meet;exact ⟨L,l,o,As,cs,rfl,PP.out,HS2.out,by have:=HLI.out;omega,HSB.out⟩
 as_aux_lemma=>
 clear P8 S8 L8;obtain ⟨L,l,o,As,cs,rfl,hp,hst,hLb,hsb⟩:=hcut;obtain ⟨w9,rfl⟩:∃ w:World,w=wc:=⟨_,rfl⟩;have HST:=Lib.hid hst;have HSB:=Lib.hid hsb;have HNO:=Lib.hid (show NoS b->∀ w2,Below w.heap.size w w2->P (.returned (.tuple #[.pointer none,.int .i64 80])) w2 from fun h w2 hb=>by rw[HP.out];exact ⟨hb,.inr ⟨h,rfl⟩⟩)
 have x1:=hp.qd;have sE:=Lib.hid (show ∀ (S:Nat->Prop),¬ S 0->¬ S 1->¬ S 3->¬ S 50->(∀ c,100<=c->¬ S c)->Stb S (fun T y=>QdI T y X l o/\(((kRow KA k1 T y/\kRow KB k2 T y)/\RsAt T y 100 59 63 (.slice Ak K.length ck) K)/\ElAt 6 seEl T y 50 As cs L)) from fun S h0 h1 h3 h4 h5=>Stb.and (Stb.qd h1 h0) (Stb.and (s6.out S _ _ h3 h5) (Stb.el h4 h0)))
 obtain ⟨T9,k9⟩:=hp.fact;have H9:=Lib.hid (ls_rof13 (t:=22) hp (sE.out _ (fun h=>h) (fun h=>h) (fun h=>h) (fun h=>h) (fun _ _ h=>h)) (by omega) k9.2.1.2.rd (by have:=HL.out;omega) (fun r hr=>by have:=HRB.out r hr;have:=HL.out;omega))
 have hLlen:=Lib.hid (show L.length<100000 by have:=HL.out;omega)
 have hSeB:=Lib.hid (show SeB L from fun s hs=>(HSB.out s hs).b)
 have hg':(g:Int)<9223372036854775808:=by omega
 clear hp hst hsb hLb k9;go_wp2_with fail;refine H9.out.mono ?_;rintro e w10 (⟨hok,gk,rfl,h⟩|⟨hno,rfl,h⟩)
 ·have s10:=Lib.hid (show ∀ (S:Nat->Prop),¬ S 0->¬ S 1->¬ S 3->¬ S 50->(∀ c,22<=c->c<=31->¬ S c)->(∀ c,100<=c->¬ S c)->Stb S (fun T y=>KAt T y 22 59 63 gk K/\(QdI T y X l o/\(((kRow KA k1 T y/\kRow KB k2 T y)/\RsAt T y 100 59 63 (.slice Ak K.length ck) K)/\ElAt 6 seEl T y 50 As cs L))) from fun S h0 h1 h3 h4 h6 h5=>Stb.and (Stb.kat fun c hc=>h6 c hc.1 hc.2) (sE.out S h0 h1 h3 h4 h5))
  have H10:=Lib.hid (ls_rof15 (t:=32) h (s10.out _ (by omega) (by omega) (by omega) (by omega) (fun c h1 h2=>by omega) (fun c h1=>by omega)) (by omega) (g:Int) (fun T k=>k.2.2.2) hLlen.out hSeB.out)
  have HOK:=Lib.hid hok;clear h hok H9;go_wp2_with fail;refine H10.out.mono ?_;rintro e w11 (⟨hof,B,A',c',rfl,h⟩|⟨hno,rfl,h⟩)
  ·have x1:=(h.mono (K':=fun T y=>QdI T y X l o/\True) fun T k=>⟨k.2.2.1,trivial⟩).qd
   cases o with
   |true=>
    have HN:=Lib.hid (HNO.out (HST.out.resolve_left (fun h=>by cases h.1)) _ h.bel)
    clear h;go_wp2_with fail;exact HN.out
   |false=>
    by_cases hn1:n<1
    ·have d1:decide ((n:Int)<1)=true:=decide_eq_true (by omega)
     have HN:=Lib.hid (HNO.out (by
      rcases HST.out with ⟨-,h1,-⟩|h1
      ·have:=h1.1.1;omega
      ·exact h1) _ h.bel)
     clear h;go_wp2_with fail;exact HN.out
    ·have d1:decide ((n:Int)<1)=false:=decide_eq_false (by omega)
     have P11:=Lib.hid h;obtain ⟨T11,k11⟩:=h.fact;have ra:=k11.2.2.2.1.1.1.1;have rb:=k11.2.2.2.1.1.2.1;have H12:=Lib.hid (ls_rof7 (t:=21) h (Stb.and (Stb.yt (fun h=>h) (fun h=>h) (fun h=>h)) (s10.out _ (fun h=>h) (fun h=>h) (fun h=>h) (fun h=>h) (fun _ _ _ h=>h) (fun _ _ h=>h))) (by omega) (k1,k2) (n:Int))
     have bs:=fun gd=>rs_b gd gk B
     clear h k11;go_wp2_with fail;refine H12.out.mono ?_;rintro e w12 ⟨gd,rfl,h⟩;obtain ⟨w13,hw13⟩:∃ w13,w13=w12.alloc (.cells #[.pointer (some ⟨gd,0,none⟩),.pointer (some ⟨gk,0,none⟩),.pointer (some ⟨B,0,none⟩)] 92):=⟨_,rfl⟩;obtain ⟨B0,hB0⟩:∃ B0,B0=w12.heap.size:=⟨_,rfl⟩;have b13:Below w12.heap.size w12 w13:=by rw[hw13];exact (Below.refl _ _).alloc (Nat.le_refl _) _
     have P13:=h.add (K':=fun T y=>row y B0=some #[.pointer (some ⟨gd,0,none⟩),.pointer (some ⟨gk,0,none⟩),.pointer (some ⟨B,0,none⟩)]/\T B0=20) (Stb.and (Stb.dr (fun h=>h) (fun h=>h)) (Stb.and (Stb.yt (fun h=>h) (fun h=>h) (fun h=>h)) (s10.out _ (fun h=>h) (fun h=>h) (fun h=>h) (fun h=>h) (fun _ _ _ h=>h) (fun _ _ h=>h)))) b13 20 fun T=>⟨by rw[hw13,hB0];exact zA _ _ _ _ rfl,by rw[hB0];exact zP (Nat.le_refl _)⟩
     obtain ⟨x,hx⟩:∃ x:Sx,x=⟨(k1,k2),(n:Int),K,L,(g:Int)-1⟩:=⟨_,rfl⟩;have HV:=Lib.hid (show SxV x by rw[hx];exact ⟨⟨by show (1:Int)<=(n:Int);omega,by show (n:Int)<_;omega⟩,HOK.out,by show OfOk L ((g:Int)-1+1);rw[show (g:Int)-1+1=(g:Int) by omega];exact hof,HSB.out⟩)
     have HE:=Lib.hid (show SxE x by
      have h1:=HV.out.n;have h2:=HV.out.l.n0;have h3:=HV.out.l.n1
      exact ⟨HV.out.K,HV.out.s,⟨by omega,h1.2⟩,⟨by omega,by omega⟩,HV.out.l.len⟩)
     have Y13:=Lib.hid (show ∃ T,YsAt T w13 20 B0 x by
      obtain ⟨T,⟨hd,hy,hk,-⟩,hr,ht⟩:=P13.fact
      exact ⟨T,ht,⟨gd,gk,B,A',c',hr,by rw[hx];exact hd,by rw[hx];exact hk,by rw[hx];exact hy⟩,HV.out.ok⟩)
     have HNS:=Lib.hid (show eSx x≠b->NoS b from fun hne=>by
      rcases HST.out with ⟨-,h1,h2⟩|h1
      ·exact (all_read h1 h2).2 x HV.out (by rw[hx]) (by rw[hx]) (by rw[hx]) (by rw[hx]) (by rw[hx];show (g:Int)-1+1=_;omega) hne
      ·exact h1)
     have BE:=Lib.hid P13.bel;have HW13:=Lib.hid hw13;have HB0:=Lib.hid hB0;clear P13 h b13 hx H12 P11 hw13 hB0 hof;go_upto_region 37 with fail
     rw[<-HW13.out,<-HB0.out];clear HW13 HB0 bs ra rb;refine yE [([0,3,4],1,false)] [2,5] (by kernel_rfl) (by kernel_rfl) (fun _ _ _ _ _ h=>h) fun Y=>?_
     obtain ⟨w14,hw14⟩:∃ w14,w14=Y.val:=⟨_,rfl⟩;have b14:=Y.below;rw[<-hw14] at b14 ⊢;clear hw14 Y;have B14:=Lib.hid (onto BE.out BE.out.size b14);have Y14:=Lib.hid (show ∃ T,YsAt T w14 20 B0 x from Y13.out.elim fun T h=>⟨_,h.new b14 0⟩)
     obtain ⟨S2,hS2⟩:∃ S2,S2=xC b.length (lf b):=⟨_,rfl⟩;have HS2:=Lib.hid hS2;have cvb:∀ y:After w14,(convert 22 9 (.slice A b.length c)).run Tryz.prog y.val=.ok (.string S2) y.val:=fun y=>by rw[hS2];exact conv_sl (HS.out.below (onto B14.out B14.out.size y.below))
     clear b14 Y13 BE hS2;simp only[wpFs,pk,List.getElem?_cons_zero,List.getElem?_cons_succ]
     repeat (go_big_quiet_step (fail))
     refine wpQuiet_nil ?_;clear cvb;obtain ⟨T14,hy14⟩:=Y14.out;have H14:=Lib.hid (renc_any T14 20 B0 x w14 hy14 HE.out);clear hy14;go_wp2_with fail;refine H14.out.mono ?_;rintro e w15 ⟨A15,c15,rfl,ho,b15⟩;obtain ⟨S1,hS1⟩:∃ S1,S1=sxS x:=⟨_,rfl⟩;have cv:∀ y:After w15,(convert 22 9 (.slice A15 (eSx x).length c15)).run Tryz.prog y.val=.ok (.string S1) y.val:=fun y=>by rw[hS1];exact conv_own (ho.below y.below (Nat.le_refl _))
     have B15:=Lib.hid (onto B14.out B14.out.size b15);have Y15:=Lib.hid (show ∃ T,YsAt T w15 20 B0 x from Y14.out.elim fun T h=>⟨_,h.new b15 0⟩)
     have hb15:=Lib.hid b15
     by_cases he:eSx x=b
     ·obtain rfl:S1=S2:=by rw[hS1,HS2.out];unfold sxS;rw[he]
      have HEE:=Lib.hid he;clear ho b15 hS1 he H14 HNS;go_wp2_with fail;refine ⟨.inr hb15.out,?_⟩;show wpQuiet _ _ _ _ _ _
      repeat (go_big_quiet_step (fail))
      refine wpQuiet_nil ?_;clear cv;go_wp2_with fail;obtain ⟨T,hy⟩:=Y15.out;rw[HP.out];exact ⟨B15.out,.inl ⟨x,B0,T,HV.out,HEE.out,rfl,hy⟩⟩
     ·have hne0:S1≠S2:=fun e=>he (by
       rw[hS1,HS2.out] at e;unfold sxS at e;have h1:=congrArg ByteArray.size e;rw[str_size,str_size] at h1;rw[h1] at e
       exact lf_inj h1 fun i hi=>str_inj e i (by omega))
      have hne:(S1.toList==S2.toList)=false:=by
       rw[beq_eq_false_iff_ne];intro e;rw[ByteArray.toList_eq,ByteArray.toList_eq] at e
       exact hne0 (by
        have:S1.data=S2.data:=by simpa using e
        cases hf:S1;cases hg:S2;rw[hf,hg] at this
        exact congrArg ByteArray.mk this)
      have HN:=Lib.hid (HNO.out (HNS.out he) _ B15.out);clear ho b15 hS1 he H14 HNS hne0;go_wp2_with fail;refine ⟨.inr hb15.out,?_⟩;show wpQuiet _ _ _ _ _ _
      repeat (go_big_quiet_step (fail))
      refine wpQuiet_nil ?_;clear cv;go_wp2_with fail;exact HN.out
  ·have x1:=(h.mono (K':=fun T y=>QdI T y X l o/\True) fun T k=>⟨k.2.1,trivial⟩).qd
   have HN:=Lib.hid (HNO.out (by
    rcases HST.out with ⟨-,h1,h2⟩|h1
    ·exact (all_read h1 h2).1 hno
    ·exact h1) _ h.bel)
   clear h hno;cases o<;>(go_wp2_with fail;exact HN.out)
 ·have HNS:=Lib.hid (show NoS b from by
   rcases HST.out with ⟨-,h1,-⟩|h1
   ·exact absurd h1.2.1 hno
   ·exact h1)
  have H10:=Lib.hid (ls_rof15 (t:=32) h (sE.out _ (by omega) (by omega) (by omega) (by omega) (fun c h1=>by omega)) (by omega) (g:Int) (fun T k=>k.2.2) hLlen.out hSeB.out)
  clear h hno H9;go_wp2_with fail;refine H10.out.mono ?_;rintro e w11 (⟨hof,B,A',c',rfl,h⟩|⟨hno,rfl,h⟩)
  ·have x1:=(h.mono (K':=fun T y=>QdI T y X l o/\True) fun T k=>⟨k.2.1,trivial⟩).qd
   have HN:=Lib.hid (HNO.out HNS.out _ h.bel);clear h;cases o<;>(go_wp2_with fail;exact HN.out)
  ·have x1:=(h.mono (K':=fun T y=>QdI T y X l o/\True) fun T k=>⟨k.1,trivial⟩).qd
   have HN:=Lib.hid (HNO.out HNS.out _ h.bel);clear h;cases o<;>(go_wp2_with fail;exact HN.out)
def Both(t t2 B B2:Nat)(x:Sx)(w:World):Prop:=(∃ T,StAt T w t B x)/\∃ T,YsAt T w t2 B2 x
theorem Both.below{t t2 B B2:Nat}{x:Sx}{w w':World}(h:Both t t2 B B2 x w)(hb:Below w.heap.size w w'):Both t t2 B B2 x w':=by
 obtain ⟨⟨T,h1⟩,⟨T2,h2⟩⟩:=h;exact ⟨⟨_,h1.fr (Fr.new (H:=fun _=>False) hb 0) (fun h=>h) (fun h=>h) (fun h=>h)⟩,⟨_,h2.new hb 0⟩⟩
theorem Both.seats{t t2 B B2:Nat}{x:Sx}{w:World}(h:Both t t2 B B2 x w)(ht:0<t):
  Calls Tryz.prog 49 #[.pointer (some ⟨B,0,none⟩)] w fun e w'=>∃ A c,e=.returned (.tuple #[.slice A x.l.length c,.int .i64 (x.g+1)])/\SeRd w' A c x.l/\Below w.heap.size w w':=by
 obtain ⟨⟨T,h1⟩,-⟩:=h;refine (pseats16_any (only T t) 1 70 B x w (h1.only ht) (by omega) (by omega) (by omega) (by omega)).mono ?_
 rintro e w1 ⟨A,c,T1,rfl,hE,hf1⟩;exact ⟨A,c,rfl,hE.serd,hf1.below (Nat.le_refl _) (fun k _=>by have:=only_le T t k;omega)⟩
theorem Both.rings{t t2 B B2:Nat}{x:Sx}{w:World}(h:Both t t2 B B2 x w)(ht:0<t):
  Calls Tryz.prog 27 #[.pointer (some ⟨B,0,none⟩)] w fun e w'=>∃ v,e=.returned v/\RRd w' v x.K/\Below w.heap.size w w':=by
 obtain ⟨⟨T,h1⟩,-⟩:=h;refine (prings16_any (only T t) 1 80 B x w (h1.only ht) (fun k _ h=>by have:=only_le T t k;unfold Hk at h;omega)).mono ?_
 rintro e w' ⟨v,T',rfl,hR,hk⟩;exact ⟨v,rfl,hR.rd,hk.below⟩
theorem Both.rows{t t2 B B2:Nat}{x:Sx}{w:World}(h:Both t t2 B B2 x w):∃ g k q v A c,row w B2=some #[.pointer (some ⟨g,0,none⟩),.pointer (some ⟨k,0,none⟩),.pointer (some ⟨q,0,none⟩)]/\row w k=some #[v]/\RRd w v x.K/\row w q=some #[.slice A x.l.length c,.int .i64 (x.g+1)]/\SeRd w A c x.l:=by
 obtain ⟨-,T,h⟩:=h;obtain ⟨g,k,q,A,c,hr,-,hk,hy⟩:=h.at_;obtain ⟨v,rk,hrs⟩:=hk.row;exact ⟨g,k,q,v,A,c,hr,rk,hrs.rd,hy.row,hy.el.serd⟩
theorem Both.enc{t t2 B B2:Nat}{x:Sx}{w:World}(h:Both t t2 B B2 x w)(ht:0<t)(hx:SxE x):
  Calls Tryz.prog 22 #[.pointer (some ⟨B,0,none⟩)] w fun e w'=>∃ A c,e=.returned (.slice A (eSx x).length c)/\Own w' w.heap.size 5 (.slice A (eSx x).length c) (eSx x).length (lf (eSx x))/\Below w.heap.size w w':=by
 obtain ⟨⟨T,h1⟩,-⟩:=h;exact penc16_e T t B x w h1 ht hx
theorem Both.renc{t t2 B B2:Nat}{x:Sx}{w:World}(h:Both t t2 B B2 x w)(hx:SxE x):
  Calls Tryz.prog 52 #[.pointer (some ⟨B2,0,none⟩)] w fun e w'=>∃ A c,e=.returned (.slice A (eSx x).length c)/\Own w' w.heap.size 5 (.slice A (eSx x).length c) (eSx x).length (lf (eSx x))/\Below w.heap.size w w':=by
 obtain ⟨-,T,h⟩:=h;exact renc_any T t2 B2 x w h hx
theorem like_any(t t2 B B2:Nat)(x:Sx)(w:World)(hB:Both t t2 B B2 x w)(ht:0<t)(hx:SxE x):
  Calls Tryz.prog 19 #[.pointer (some ⟨B,0,none⟩),.pointer (some ⟨B2,0,none⟩)] w fun e w'=>e=.returned (.bool true)/\Below w.heap.size w w':=by
 have HX:=Lib.hid hx;have HB:=Lib.hid hB;have H1:=Lib.hid (hB.seats ht);clear hB hx;go_enter Tryz.func19,Tryz.ntmps19;go_wp2_with fail;refine H1.out.mono ?_;rintro e w1 ⟨A,c,rfl,hE,b1⟩;have E1:=Lib.hid hE;have HB1:=Lib.hid (HB.out.below b1);have B1:=Lib.hid b1;obtain ⟨g,k,q,v,Aq,cq,hr,rk,hrd,rq,hsd⟩:=HB1.out.rows;have HR:=Lib.hid hr;have RK:=Lib.hid rk;have RR:=Lib.hid hrd;have RQ:=Lib.hid rq;have SD:=Lib.hid hsd;clear hE b1 hr rk hrd rq hsd HB H1;go_wp2_with fail;refine yE [([0,2,3,4,5,6,7,8],1,false),([],9,false),([10,11,12,13,14,15,16,17,18],19,false),([20,21,22,23,24,25,26,27,28,29,30,31,32,33,36],34,false),([35],37,false)] [38,39,40,41] (by kernel_rfl) (by kernel_rfl) (fun _ _ _ _ _ h=>h) fun X=>?_
 obtain ⟨w2,hw2⟩:∃ w2,w2=X.val:=⟨_,rfl⟩;have b2:=X.below;rw[<-hw2] at b2 ⊢;clear hw2 X;have R2:=Lib.hid (zD b2 HR.out);have K2:=Lib.hid (zD b2 RK.out);have Q2:=Lib.hid (zD b2 RQ.out);have RR2:=Lib.hid (RR.out.below b2);have SD2:=Lib.hid (SD.out.below b2);have E2:=Lib.hid (E1.out.below b2);have HB2:=Lib.hid (HB1.out.below b2);have B2':=Lib.hid (onto B1.out B1.out.size b2);have H2':=Lib.hid (HB2.out.rings ht);have c1:∀ y:After w2,y.val.cell? ⟨B2,1,none⟩=some (.pointer (some ⟨k,0,none⟩)):=fun y=>zC (zD y.below R2.out) 1
 have c2:∀ y:After w2,y.val.cell? ⟨k,0,none⟩=some v:=fun y=>zC (zD y.below K2.out) 0
 clear b2 HR RK RQ RR SD E1 B1 HB1;simp only[wpFs,pk,List.getElem?_cons_zero,List.getElem?_cons_succ]
 repeat (go_big_quiet_step (fail))
 refine wpQuiet_nil ?_;clear c1 c2;go_wp2_with fail;refine H2'.out.mono ?_;rintro e w3 ⟨v3,rfl,hR,b3⟩;have R3:=Lib.hid (zD b3 R2.out);have Q3:=Lib.hid (zD b3 Q2.out);have SD3:=Lib.hid (SD2.out.below b3);have E3:=Lib.hid (E2.out.below b3);have HB3:=Lib.hid (HB2.out.below b3);have B3:=Lib.hid (onto B2'.out B2'.out.size b3);have H3:=Lib.hid (rsame_any x.K v3 v w3 hR (RR2.out.below b3) (by have:=HX.out.K.1;omega) (fun r hr=>by have:=(HX.out.K.2 r hr).1.2;omega))
 have hb3:=Lib.hid b3;clear b3 hR H2' R2 Q2 SD2 E2 B2' HB2 RR2 K2;go_wp2_with fail;refine ⟨.inr hb3.out,?_⟩;show wpQuiet _ _ _ _ _ _;refine wpQuiet_nil ?_;clear hb3;go_wp2_with fail;refine H3.out.mono ?_;rintro e w4 ⟨rfl,b4⟩;have R4:=Lib.hid (zD b4 R3.out);have Q4:=Lib.hid (zD b4 Q3.out);have HB4:=Lib.hid (HB3.out.below b4);have B4:=Lib.hid (onto B3.out B3.out.size b4);have H4:=Lib.hid (rsame15_any A Aq c cq x.l w4 (E3.out.below b4) (SD3.out.below b4) (by have:=HX.out.l;omega))
 have hb4:=Lib.hid b4;have c1:∀ y:After w4,y.val.cell? ⟨B2,2,none⟩=some (.pointer (some ⟨q,0,none⟩)):=fun y=>zC (zD y.below R4.out) 2
 have c2:∀ y:After w4,y.val.cell? ⟨q,0,none⟩=some (.slice Aq x.l.length cq):=fun y=>zC (zD y.below Q4.out) 0
 clear b4 R3 Q3 SD3 E3 HB3 B3 H3;go_wp2_with fail;refine ⟨.inr hb4.out,?_⟩;show wpQuiet _ _ _ _ _ _
 repeat (go_big_quiet_step (fail))
 refine wpQuiet_nil ?_;clear hb4 c1 c2;go_wp2_with fail;refine H4.out.mono ?_;rintro e w5 ⟨rfl,b5⟩;have R5:=Lib.hid (zD b5 R4.out);have Q5:=Lib.hid (zD b5 Q4.out);have HB5:=Lib.hid (HB4.out.below b5);have B5:=Lib.hid (onto B4.out B4.out.size b5);have H5:=Lib.hid (HB5.out.enc ht HX.out);have hb5:=Lib.hid b5;have c1:∀ y:After w5,y.val.cell? ⟨B2,2,none⟩=some (.pointer (some ⟨q,0,none⟩)):=fun y=>zC (zD y.below R5.out) 2
 have c2:∀ y:After w5,y.val.cell? ⟨q,1,none⟩=some (.int .i64 (x.g+1)):=fun y=>zC (zD y.below Q5.out) 1
 have hq:((x.g+1)==(x.g+1))=true:=beq_self_eq_true _;clear b5 R4 Q4 HB4 B4 H4;go_wp2_with fail;refine ⟨.inr hb5.out,?_⟩;show wpQuiet _ _ _ _ _ _
 repeat (go_big_quiet_step (fail))
 refine wpQuiet_nil ?_;clear hb5 c1 c2;obtain ⟨S,hS⟩:∃ S,S=sxS x:=⟨_,rfl⟩;have HSS:=Lib.hid hS;clear hS;go_wp2_with fail;refine H5.out.mono ?_;rintro e w6 ⟨A6,c6,rfl,ho,b6⟩;have cv6:∀ y:After w6,(convert 22 9 (.slice A6 (eSx x).length c6)).run Tryz.prog y.val=.ok (.string (sxS x)) y.val:=fun y=>conv_own (ho.below y.below (Nat.le_refl _))
 rw[<-HSS.out] at cv6;have HB6:=Lib.hid (HB5.out.below b6);have B6:=Lib.hid (onto B5.out B5.out.size b6);have H6:=Lib.hid (HB6.out.renc HX.out);have hb6:=Lib.hid b6;clear b6 ho R5 Q5 HB5 B5 H5;go_wp2_with fail;refine ⟨.inr hb6.out,?_⟩;show wpQuiet _ _ _ _ _ _
 repeat (go_big_quiet_step (fail))
 refine wpQuiet_nil ?_;clear hb6 cv6;go_wp2_with fail;refine H6.out.mono ?_;rintro e w7 ⟨A7,c7,rfl,ho,b7⟩;have cv7:∀ y:After w7,(convert 22 9 (.slice A7 (eSx x).length c7)).run Tryz.prog y.val=.ok (.string (sxS x)) y.val:=fun y=>conv_own (ho.below y.below (Nat.le_refl _))
 rw[<-HSS.out] at cv7;have B7:=Lib.hid (onto B6.out B6.out.size b7);have hb7:=Lib.hid b7;clear b7 ho HB6 B6 H6;go_wp2_with fail;refine ⟨.inr hb7.out,?_⟩;show wpQuiet _ _ _ _ _ _
 repeat (go_big_quiet_step (fail))
 refine wpQuiet_nil ?_;clear hb7 cv7;go_wp2_with fail;go_ret;exact ⟨rfl,B7.out⟩
theorem RdI.ne{X g:Nat}{l:By}{w:World}{c:Array Value}(h:RdI X l w)(hr:row w g=some c)(hs:c.size≠1):g≠X:=fun e=>by
 obtain ⟨A,c0,hr0,-⟩:=h;rw[e,hr0] at hr;cases hr;exact hs rfl
theorem res_pp{P:Program}{fn:Func}{p u:Tmp}{ti:TypeId}(h:fn.results=#[.tmp p,.cell u ti])(tmps:Array Value)(w:World)(q:Nat)(v:Value)(x:Int)
  (hp:tmps.getD p undef=v) (hq:tmps.getD u undef=.pointer (some ⟨q,0,none⟩)) (hx:(loadVar ti ⟨q,0,none⟩).run P w=.ok (.int .i64 x) w):
  (results fn tmps).run P w=.ok (.tuple #[v,.int .i64 x]) w:=by
 have hp2:tmps[p]?.getD undef=v:=by simpa using hp
 have hq2:tmps[u]?.getD undef=.pointer (some ⟨q,0,none⟩):=by simpa using hq
 simp only[results,h];simp[hp2,hq2,asAddr,hx]
def OutD(b:By)(m:Nat)(T:Mk)(w:World):Ending->World->Prop:=fun e w'=>∃ T',(∀ k,k<w.heap.size->T' k=T k)/\Below w.heap.size w w'/\
 ((∃ x B,SxV x/\eSx x=b/\e=.returned (.pointer (some ⟨B,0,none⟩))/\StAt T' w' (m+2) B x)\/(NoS b/\∃ z,z≠0/\e=.panicked (pnE z)))
theorem OutD.low{X:Nat}{l:By}{w w2 w':World}(h:Below w.heap.size w w2)(hX:w.heap.size=X)(hz:w2.heap.size=X+1)(k:Rdd X l w2 w'):Below w.heap.size w w':=h.trans ((k.low (by omega)).mono (by omega))
theorem pdec1_any(T:Mk)(m E:Nat)(b:By)(A:Option Addr)(c:Nat)(w:World)(hT:∀ k,k<w.heap.size->T k<m)(hm:0<m)(hs:Sl w w.heap.size A b.length c (lf b))(hl:b.length<=1000000000)(hE:row w E=some #[.slice A b.length c]):
  Calls Tryz.prog 54 #[.pointer (some ⟨E,0,none⟩)] w (OutD b m T w):=by
 obtain ⟨X,hX⟩:∃ X,X=w.heap.size:=⟨_,rfl⟩;obtain ⟨w1,hw1⟩:∃ w1,w1=w.alloc (.cells #[.slice A b.length c] 114):=⟨_,rfl⟩;have b1:Below w.heap.size w w1:=by rw[hw1];exact (Below.refl _ _).alloc (Nat.le_refl _) _
 have r1:row w1 X=some #[.slice A b.length c]:=by rw[hw1,hX];exact zA _ _ _ _ rfl
 have I1:RdI X b w1:=⟨A,c,r1,by rw[hX];exact hs.below b1,hl⟩
 have e0:w.cell? ⟨E,0,none⟩=some (.slice A b.length c):=zC hE 0;have z1:w1.heap.size=X+1:=by rw[hw1,hX];simp
 have B1:=Lib.hid b1;have I1:=Lib.hid I1;have HT:=Lib.hid (And.intro hT hm);have HX:=Lib.hid hX;have HZ:=Lib.hid (show w.heap.size=X/\w1.heap.size=X+1 from ⟨hX.symm,z1⟩)
 clear hs hl hE b1 r1 hT hm z1;go_enter Tryz.func54,Tryz.ntmps54;go_upto_region 2 with fail
 rw[<-hw1,<-hX];clear hw1 hX e0;refine zY [([],0,false),([1,2],3,false),([4,5],6,false),([7,8,9],10,true)] [11] (fun _=>True) (by kernel_rfl) (by kernel_rfl) (fun _ _ _ _ _ h=>h) trivial ?_
 have b2:=zQ (Below.refl w1.heap.size w1) 1;have z2:(w1.drewN 1).heap.size=X+1:=HZ.out.2;have B2:=Lib.hid (onto B1.out B1.out.size b2);have I2:=Lib.hid (I1.out.below b2);obtain ⟨w2,hw2⟩:∃ w2,w2=w1.drewN 1:=⟨_,rfl⟩;rw[<-hw2] at B2 I2 z2 ⊢;have H3:=Lib.hid (rdsrc_any X b w2 I2.out);have HZ2:=Lib.hid z2;clear hw2 b2 B1 I1 z2;simp only[wpFl,pk,List.getElem?_cons_zero,List.getElem?_cons_succ];refine wpQuiet_nil ?_;go_wp2_with fail;refine H3.out.mono ?_;rintro e w3 (⟨s,v,l1,hg,hl,rfl,⟨g,rfl,hgr⟩,hr⟩|⟨hn,z,l1,hz,rfl,hr⟩)
 ·have I3:=Lib.hid (hr.inv I2.out)
  have D3:=Lib.hid hr;have G3:=Lib.hid hgr;have L1:=Lib.hid (And.intro hg hl);have H4:=Lib.hid (rdkeys_any X l1 w3 I3.out);have hgX:=Lib.hid (I3.out.ne hgr (by rw[src_size];simp))
  clear hg hl hr H3;go_wp2_with fail;refine ⟨fun y=>row y g=some (srcC #[] s.1.1 s.1.2 (s.2:Int)),hgr,.inr ⟨trivial,fun _ _=>trivial⟩,?_⟩
  show wpQuiet _ _ _ _ _ _;refine zV ?_;have hne:Nonempty (In (fun y=>row y g=some (srcC #[] s.1.1 s.1.2 (s.2:Int)))):=⟨⟨w3,hgr⟩⟩
  have hq:=fun y:In (fun y=>row y g=some (srcC #[] s.1.1 s.1.2 (s.2:Int)))=>y.ok
  repeat (go_big_quiet_step (fail))
  refine wpQuiet_nil ?_;clear hq hgr;go_wp2_with fail;refine H4.out.mono ?_;rintro e w4 (⟨K,v,l2,hK,hl,rfl,⟨Bk,ck,rfl,hrk,hck⟩,hr⟩|⟨hn,z,l2,hz,rfl,hr⟩)
  ·have I4:=Lib.hid (hr.inv I3.out)
   have D4:=Lib.hid (Rdd.trans I2.out D3.out hr);have g4:=hr.row hgX.out G3.out;have G4:=Lib.hid g4;have RK:=Lib.hid hrk;have hcs:ck.size=1105:=ks_size hck;have HCK:=Lib.hid (And.intro hck hK);have L2:=Lib.hid hl;have hkX:=Lib.hid (I4.out.ne hrk (by rw[hcs];omega))
   have H5:=Lib.hid (rdsess_any (paint (paint T X m) (X+1) 0) m X l2 w4 I4.out (by rw[zH (by omega),zP (Nat.le_refl _)]) HT.out.2 (fun k hk=>by
    unfold paint;have:=HT.out.1 k;rw[HZ.out.1] at this
    split
    ·split
     ·exact Nat.le_of_lt (this (by omega))
     ·exact Nat.le_refl _
    ·omega))
   have hld:∀ x:World,ldR Tryz.prog 76 1105 x Bk 0 (some ck)=.ok (.agg ck) x:=fun x=>xJ _ _ _ _ _ _ hcs.symm
   clear hl hr hck hK H4 G3 I3;go_wp2_with fail;refine ⟨fun y=>row y g=some (srcC #[] s.1.1 s.1.2 (s.2:Int))/\row y Bk=some ck,⟨g4,hrk⟩,.inr ⟨g4,fun _ h=>h.1⟩,?_⟩
   show wpQuiet _ _ _ _ _ _;refine zV ?_;have hne:Nonempty (In (fun y=>row y g=some (srcC #[] s.1.1 s.1.2 (s.2:Int))/\row y Bk=some ck)):=⟨⟨w4,g4,hrk⟩⟩
   have hq:=fun y:In (fun y=>row y g=some (srcC #[] s.1.1 s.1.2 (s.2:Int))/\row y Bk=some ck)=>y.ok.2
   repeat (go_big_quiet_step (fail))
   refine wpQuiet_nil ?_;clear hq hrk g4 hld;go_wp2_with fail;refine H5.out.mono ?_;rintro e w5 ⟨T5,l3,hM,⟨p,v,hp,hl,rfl,Bt,mv,rfl,hpt⟩|⟨hn,z,hz,rfl⟩⟩
   ·have I5:=Lib.hid (hM.rd.inv I4.out)
    have D5:=Lib.hid (Rdd.trans I2.out D4.out hM.rd);have g5:=hM.rd.row hgX.out G4.out;have k5:=hM.rd.row hkX.out RK.out;obtain ⟨G,hG⟩:∃ G,G=(p.1:Int)-1:=⟨_,rfl⟩;rw[<-hG] at hpt;have HGG:=Lib.hid hG;have rT:=hpt.row;rw[mtC_nil] at rT;have MP:=Lib.hid hpt.mp;have L3:=Lib.hid (And.intro hp hl);have TG:=Lib.hid hM.tag;clear hl hM hp H5 G4 RK I4 hpt hG;go_wp2_with fail;refine ⟨fun y=>(row y g=some (srcC #[] s.1.1 s.1.2 (s.2:Int))/\row y Bk=some ck)/\row y Bt=some #[.map mv,.int .i64 G],⟨⟨g5,k5⟩,rT⟩,.inr ⟨⟨g5,k5⟩,fun _ h=>h.1⟩,?_⟩
    show wpQuiet _ _ _ _ _ _;refine zV ?_;have hne:Nonempty (In (fun y=>(row y g=some (srcC #[] s.1.1 s.1.2 (s.2:Int))/\row y Bk=some ck)/\row y Bt=some #[.map mv,.int .i64 G])):=⟨⟨w5,⟨g5,k5⟩,rT⟩⟩
    have hq:=fun y:In (fun y=>(row y g=some (srcC #[] s.1.1 s.1.2 (s.2:Int))/\row y Bk=some ck)/\row y Bt=some #[.map mv,.int .i64 G])=>y.ok.2
    have bd3:=fun w=>st_b3 s.1 (s.2:Int) ck mv G hcs w
    repeat (go_big_quiet_step (fail))
    refine wpQuiet_nil ?_;clear hq bd3 g5 k5 rT;have b6:=(Below.refl w5.heap.size w5).alloc (Nat.le_refl _) (.cells (stC s.1 (s.2:Int) ck mv G) 85);have I6:=I5.out.below b6;have H6:=Lib.hid (rdend_any X l3 _ I6);have B6:=Lib.hid (OutD.low B2.out HZ.out.1 HZ2.out (Rdd.calm I2.out D5.out b6));have HS6:=Lib.hid (fun (x:Sx) (hx:x=⟨s.1,(s.2:Int),K,p.2,G⟩) (ok:SxOk x)=>StAt.made (T:=T5) (w:=w5) (t:=m+2) (x:=x) (ks:=ck) (mv:=mv) (by omega) (by rw[hx];exact HCK.out.1) (by rw[hx];exact MP.out) ok 85)
    have HT5:=Lib.hid (show ∀ k,k<w.heap.size->paint T5 w5.heap.size (m+2) k=T k from fun k hk=>by
     have h1:=HZ.out.1;have h2:=D5.out.size;have h3:=HZ2.out;have h4:=D4.out.size
     rw[zH (by omega),TG.out k (by omega),zH (by omega),zH (by omega)])
    clear b6 I6;go_wp2_with fail;refine ⟨fun _=>True,trivial,?_⟩
    show wpQuiet _ _ _ _ _ _;refine zV ?_;have hne:Nonempty (In (fun _=>True)):=⟨⟨w5,trivial⟩⟩
    repeat (go_big_quiet_step (fail))
    refine wpQuiet_nil ?_;go_wp2_with fail;refine H6.out.mono ?_;rintro e w7 ⟨rfl,⟨h0,rfl⟩|⟨h0,rfl⟩⟩
    ·obtain ⟨hv,hx⟩:=isS L1.out.1 L1.out.2 HCK.out.2 L2.out L3.out.1 (by rw[L3.out.2,h0,List.append_nil])
     rw[<-HGG.out] at hv hx;have K:=Lib.hid (And.intro hv (And.intro hx (HS6.out _ rfl hv.ok)));clear hv hx h0 H6 HS6;go_wp2_with fail;go_ret;exact ⟨_,HT5.out,B6.out,.inl ⟨_,_,K.out.1,K.out.2.1,rfl,K.out.2.2⟩⟩
    ·have K:=Lib.hid (noS_4 L1.out.1 L1.out.2 HCK.out.2 L2.out L3.out.1 L3.out.2 h0)
     clear h0 H6 HS6;go_wp2_with fail;exact ⟨rfl,_,HT5.out,B6.out,.inr ⟨K.out,80,by decide,rfl⟩⟩
   ·have K:=Lib.hid (And.intro (noS_3 L1.out.1 L1.out.2 HCK.out.2 L2.out hn) (And.intro hz (Rdd.trans I2.out D4.out hM.rd)))
    clear hn hz hM H5;go_wp2_with fail;exact ⟨rfl,T,fun _ _=>rfl,OutD.low B2.out HZ.out.1 HZ2.out K.out.2.2,.inr ⟨K.out.1,z,K.out.2.1,rfl⟩⟩
  ·have K:=Lib.hid (And.intro (noS_2 L1.out.1 L1.out.2 hn) (And.intro hz (Rdd.trans I2.out D3.out hr)))
   clear hn hz hr H4;go_wp2_with fail;exact ⟨rfl,T,fun _ _=>rfl,OutD.low B2.out HZ.out.1 HZ2.out K.out.2.2,.inr ⟨K.out.1,z,K.out.2.1,rfl⟩⟩
 ·have K:=Lib.hid (And.intro (noS_1 hn) (And.intro hz hr))
  clear hn hz hr H3;go_wp2_with fail;exact ⟨rfl,T,fun _ _=>rfl,OutD.low B2.out HZ.out.1 HZ2.out K.out.2.2,.inr ⟨K.out.1,z,K.out.2.1,rfl⟩⟩
def OutE(b:By)(m:Nat)(T:Mk)(w:World):Ending->World->Prop:=fun e w'=>∃ T',(∀ k,k<w.heap.size->T' k=T k)/\Below w.heap.size w w'/\
 ((∃ x B,SxV x/\eSx x=b/\e=.returned (.tuple #[.pointer (some ⟨B,0,none⟩),.int .i64 0])/\StAt T' w' (m+2) B x)\/(NoS b/\∃ z,z≠0/\e=.returned (.tuple #[.pointer none,.int .i64 z])))
theorem patt_any(T:Mk)(m E:Nat)(b:By)(A:Option Addr)(c:Nat)(w:World)(hT:∀ k,k<w.heap.size->T k<m)(hm:0<m)(hs:Sl w w.heap.size A b.length c (lf b))(hl:b.length<=1000000000)(hE:row w E=some #[.slice A b.length c]):
  Calls Tryz.prog 53 #[.func (.func 54) #[] #[.pointer (some ⟨E,0,none⟩)]] w (OutE b m T w):=by
 obtain ⟨w1,hw1⟩:∃ w1,w1=w.alloc (.cells #[.int .i64 0] 31):=⟨_,rfl⟩;have bw:Below w.heap.size w w1:=by rw[hw1];exact (Below.refl _ _).alloc (Nat.le_refl _) _
 have r1:row w1 w.heap.size=some #[.int .i64 0]:=by rw[hw1];exact zA _ _ _ _ rfl
 have hz1:w1.heap.size=w.heap.size+1:=by rw[hw1];simp
 have H:=Lib.hid (pdec1_any (paint T w.heap.size 0) m E b A c w1 (fun k hk=>by
  unfold paint
  split
  ·rename_i h;exact hT k h
  ·exact hm) hm ((hs.below bw).more bw.size) hl (zD bw hE))
 have R1:=Lib.hid r1;have BW:=Lib.hid bw;have HZ:=Lib.hid hz1;have hen:Entr 54:=entr (fn:=Tryz.f54) (by kernel_rfl) (by kernel_rfl) (by kernel_rfl)
 clear bw r1 hT hm hs hl hE hz1;unfold Entr at hen;have hmf:∀ (fn:Fn) (first cap:Array Value) (w:World),(Instr.makeFunc fn first cap).run Tryz.prog w=.ok (.func fn first cap) w:=fun _ _ _ _=>rfl
 go_enter_defers Tryz.func53,Tryz.ntmps53;go_upto_region 1 with fail
 simp only[<-hw1];clear hw1;go_wp2_with fail;refine H.out.mono ?_;rintro e w2 ⟨T2,ht2,hb2,⟨x,B,hv,hx,rfl,hst⟩|⟨hn,z,hz,rfl⟩⟩
 ·have q1:=zD hb2 R1.out
  have z1:=zJ q1 0;have k1:w2.cell? ⟨w.heap.size,0,none⟩=some (.int .i64 0):=by rw[zC q1];rfl
  have hs:w2.setCell ⟨w.heap.size,0,none⟩ (.int .i64 0)=w2:=by rw[zL q1];exact yF q1
  have K:=Lib.hid (And.intro hv (And.intro hx hst));have B2:=Lib.hid (onto BW.out BW.out.size hb2);have TT:=Lib.hid (show ∀ k,k<w.heap.size->T2 k=T k from fun k hk=>by rw[ht2 k (by have:=HZ.out;omega),zH hk])
  clear hv hx hst H q1 hb2 ht2;go_wp2_with fail;refine leaves_cons (f:=102) (args:=#[.pointer (some ⟨w.heap.size,0,none⟩)]) (by simp) (by simp[go_sem]) ?_
  refine (catchS_idle w.heap.size _).mono ?_;rintro e u' w'' ⟨rfl,rfl,rfl⟩
  exact ⟨.tuple #[.pointer (some ⟨B,0,none⟩),.int .i64 0],
   res_pp Tryz.results53 _ _ w.heap.size _ _ rfl rfl (by simp[loadVar,go_sem,k1]),
   T2,TT.out,B2.out,.inl ⟨x,B,K.out.1,K.out.2.1,rfl,K.out.2.2⟩⟩
 ·have q1:=zD hb2 R1.out
  have hc:w2.cell? ⟨w.heap.size,0,none⟩=some (.int .i64 0):=by rw[zC q1];rfl
  have hzf:=zJ q1 0;have k1:(w2.setCell ⟨w.heap.size,0,none⟩ (.int .i64 z)).cell? ⟨w.heap.size,0,none⟩=some (.int .i64 z):=by rw[zL q1,zC (zE q1 _)];rfl
  have K:=Lib.hid (And.intro hn hz);have B2:=Lib.hid (show Below w.heap.size w (w2.setCell ⟨w.heap.size,0,none⟩ (.int .i64 z)) by rw[zL q1];exact zG (onto BW.out BW.out.size hb2) (Nat.le_refl _) _)
  clear hn hz H q1 hb2 ht2;go_wp2_with fail;refine leaves_cons (f:=102) (args:=#[.pointer (some ⟨w.heap.size,0,none⟩)]) (by simp) (by simp[go_sem]) ?_
  refine (catchS_panicking w.heap.size z 0 _ hc hzf).mono ?_;rintro e u' w'' ⟨rfl,rfl,rfl⟩
  exact ⟨.tuple #[.pointer none,.int .i64 z],
   res_pp Tryz.results53 _ _ w.heap.size _ _ rfl rfl (by simp[loadVar,go_sem,k1]),
   T,fun _ _=>rfl,B2.out,.inr ⟨K.out.1,z,K.out.2,rfl⟩⟩
theorem mk_bound(T:Mk):∀ n,∃ m,∀ k,k<n->T k<m
 |0=>⟨0,fun k hk=>absurd hk (by omega)⟩
 |n+1=>by
  obtain ⟨m,hm⟩:=mk_bound T n;refine ⟨m+T n+1,fun k hk=>?_⟩
  by_cases h:k<n
  ·have:=hm k h;omega
  ·rw[show k=n by omega];omega
theorem pdec16_any(T:Mk)(t:Nat)(b:By)(A:Option Addr)(c:Nat)(w:World)(ht:0<t)(hs:Sl w w.heap.size A b.length c (lf b))(hl:b.length<=1000000000):
  Calls Tryz.prog 20 #[.slice A b.length c] w fun e w'=>∃ T',(∀ k,k<w.heap.size->T' k=T k)/\Below w.heap.size w w'/\
   ((∃ x B,SxV x/\eSx x=b/\e=.returned (.tuple #[.pointer (some ⟨B,0,none⟩),.int .i64 0])/\StAt T' w' t B x)\/(NoS b/\e=.returned (.tuple #[.pointer none,.int .i64 80]))):=by
 obtain ⟨m0,hm0⟩:=mk_bound T w.heap.size;obtain ⟨m,hm⟩:∃ m,m=m0+t+10:=⟨_,rfl⟩;obtain ⟨w1,hw1⟩:∃ w1,w1=w.alloc (.cells #[.slice A b.length c] 22):=⟨_,rfl⟩;have b1:Below w.heap.size w w1:=by rw[hw1];exact (Below.refl _ _).alloc (Nat.le_refl _) _
 have r1:row w1 w.heap.size=some #[.slice A b.length c]:=by rw[hw1];exact zA _ _ _ _ rfl
 have H:=Lib.hid (patt_any (paint T w.heap.size 0) m w.heap.size b A c w1 (fun k hk=>by
  unfold paint
  split
  ·rename_i h;have:=hm0 k h;omega
  ·omega) (by omega) ((hs.below b1).more b1.size) hl r1)
 have B1:=Lib.hid b1;have HM:=Lib.hid (show (∀ k,k<w.heap.size->T k<m)/\t+10<=m/\0<t from ⟨fun k hk=>by have:=hm0 k hk;omega,by omega,ht⟩)
 have hz1:w1.heap.size=w.heap.size+1:=by rw[hw1];simp
 have HZ:=Lib.hid hz1;clear hm0 hm hs hl b1 r1 ht hz1;go_enter Tryz.func20,Tryz.ntmps20;go_upto_region 1 with fail
 rw[<-hw1];clear hw1;go_wp2_with fail;refine H.out.mono ?_;rintro e w2 ⟨T2,ht2,hb2,⟨x,B,hv,hx,rfl,hst⟩|⟨hn,z,hz,rfl⟩⟩
 ·have B2:=Lib.hid (onto B1.out B1.out.size hb2)
  have K:=Lib.hid (And.intro hv (And.intro hx (And.intro ht2 hst)));clear hv hx ht2 hst hb2 H;go_wp2_with fail;obtain ⟨h1,h2,h3⟩:=HM.out;refine bodyPost_ret (v:=.tuple #[.pointer (some ⟨B,0,none⟩),.int .i64 0]) (by simp[results,Tryz.results20,go_sem]) rfl ⟨fun k=>if T2 k=m+2 then t else if T2 k=m+3 then t+1 else T2 k,fun k hk=>?_,B2.out,.inl ⟨x,B,K.out.1,K.out.2.1,rfl,K.out.2.2.2.re (fun j e=>?_) (fun j e=>?_) fun j e=>?_⟩⟩
  ·have e:T2 k=T k:=by rw[K.out.2.2.1 k (by have:=HZ.out;omega),zH hk]
   have:=h1 k hk;show (if T2 k=m+2 then t else if T2 k=m+3 then t+1 else T2 k)=T k
   rw[if_neg (by omega),if_neg (by omega),e]
  ·show (if T2 j=m+2 then t else if T2 j=m+3 then t+1 else T2 j)=t
   rw[if_pos e]
  ·show (if T2 j=m+2 then t else if T2 j=m+3 then t+1 else T2 j)=t+1
   rw[if_neg (by omega),if_pos (by omega)]
  ·show (if T2 j=m+2 then t else if T2 j=m+3 then t+1 else T2 j)=0
   rw[if_neg (by omega),if_neg (by omega),e]
 ·have B2:=Lib.hid (onto B1.out B1.out.size hb2)
  have d1:(z !=0)=true:=by simpa using hz
  have K:=Lib.hid hn;clear hn hz hb2 ht2 H;go_wp2_with fail;exact bodyPost_ret (v:=.tuple #[.pointer none,.int .i64 80]) (by simp[results,Tryz.results20,go_sem]) rfl ⟨T,fun _ _=>rfl,B2.out,.inr ⟨K.out,rfl⟩⟩
section
variable {K:Kp} {W w:World} {t B:Nat} {x:Sx}
theorem ls_dec(h:LS K W w)(hK:Stb (fun _=>False) K)(ht:0<t){b:By}{A:Option Addr}{c:Nat}(hs:Sl w w.heap.size A b.length c (lf b))(hl:b.length<=1000000000):
  Calls Tryz.prog 20 #[.slice A b.length c] w fun e w'=>(∃ y B,SxV y/\eSx y=b/\e=.returned (.tuple #[.pointer (some ⟨B,0,none⟩),.int .i64 0])/\LS (fun T w=>StAt T w t B y/\K T w) W w')\/(NoS b/\e=.returned (.tuple #[.pointer none,.int .i64 80])/\LS K W w'):=by
 obtain ⟨T,hf,k⟩:=h;refine (pdec16_any T t b A c w ht hs hl).mono ?_;rintro e w' ⟨T',ht',hb,⟨y,B,hv,hy,rfl,hst⟩|⟨hn,rfl⟩⟩
 ·exact .inl ⟨y,B,hv,hy,rfl,T',hf.trans (Fr.calm hb ht'),hst,hK _ _ _ _ _ k (Fr.calm (H:=fun _=>False) hb ht') fun _ h=>h⟩
 ·exact .inr ⟨hn,rfl,T',hf.trans (Fr.calm hb ht'),hK _ _ _ _ _ k (Fr.calm (H:=fun _=>False) hb ht') fun _ h=>h⟩
end
end Go.Proofs.YteffjpdcghlnlaaGreatDoor.Oct
namespace Go.Proofs.YteffjpdcghlnlaaGreatDoor.Oct
open Go.ChangeShapes Go.WideShapes Go.ChangeAt Go.RowKit Go.Maps
theorem SxV.e{x:Sx}(h:SxV x):SxE x:=by
 have h1:=h.n;have h2:=h.l.n0;have h3:=h.l.n1;exact ⟨h.K,h.s,⟨by omega,h1.2⟩,⟨by omega,by omega⟩,h.l.len⟩
theorem conv_in{w:World}{A:Option Addr}{N c:Nat}{f:Bf}{x:Sx}{b:By}(hs:Sl w w.heap.size A N c f)(hb:eSx x=b)(hl:b.length=N)(hf:∀ i,i<N->lf b i=f i):(convert 22 9 (.slice A N c)).run Tryz.prog w=.ok (.string (sxS x)) w:=by
 have e:xC N f=sxS x:=by
  unfold sxS;rw[hb,hl];exact str_congr fun i hi=>(hf i hi).symm
 rw[<-e];exact conv_sl hs
end Go.Proofs.YteffjpdcghlnlaaGreatDoor.Oct
namespace Go.Proofs.YteffjpdcghlnlaaGreatDoor.Oct
open Go.ChangeShapes Go.WideShapes Go.ChangeAt Go.RowKit
def laidL:List (String×DataW Unit):=[("strongroom/sha.roundConstants",Rows.laid_strongroom_sha_roundConstants)]
theorem gTab:Tryz.prog.globalNamed "strongroom/sha.roundConstants"=some 0:=by kernel_rfl
theorem tTab:(Tryz.prog.globals[0]?).map (·.type)=some 357:=by kernel_rfl
theorem laid_list{H:Type}:(Rows.laid_strongroom_sha_roundConstants:DataW H)=.agg ((List.range 64).map fun i=> .lit (.int .u32 (M (kF i)))):=by kernel_rfl
theorem tab_of{W:World}(h:laidMetH Tryz.prog laidL W):Tab W:=by
 rw[MakeChecks.laidMetH_plain _ _ _ (by kernel_rfl)] at h
 obtain ⟨ps,⟨g0,t0,cs0,f0,p0,q0,hg0,ht0,hv0,hd0,_,_⟩,_,_⟩:=h;obtain rfl:=Option.some.inj (gTab.symm.trans hg0);obtain rfl:=Option.some.inj (tTab.symm.trans ht0);obtain ⟨xs,m1,rfl,hx1,hlen,hn,hel⟩:=DataW.trod_array s64_u hd0;have c1:Tryz.prog.cellsOf 135=1:=by kernel_rfl
 rw[c1] at hel
 have hx2:(List.range 64).map (fun i=>(.lit (.int .u32 (M (kF i))):DataW _))=xs.map (·.1):=by
  have:=congrArg Prod.fst hx1;rw[laid_list] at this;injection this
 have key:∀ i,i<64->cs0[i]? =some (.int .u32 (M (kF i))):=by
  intro i hi;have h1:=hel i hi;have h2:(xs.map (·.1))[i]? =some (.lit (.int .u32 (M (kF i)))):=by rw[<-hx2];simp[hi]
  rw[List.getElem?_map] at h2
  cases hxi:xs[i]? with
  |none=>rw[hxi] at h2;cases h2
  |some x=>
   rw[hxi] at h1 h2;obtain ⟨n,e1,e2,_⟩:=DataW.trod_int u32_u h1;have e3:x.1=.lit (.int .u32 (M (kF i))):=Option.some.inj h2;rw[e2] at e3;have e4:n=M (kF i):=by injection e3 with e3;injection e3
   subst e4;have:=congrArg (fun l=>l[0]?) e1
   simpa[List.getElem?_take,List.getElem?_drop] using this
 have hcell:∀ i,i<64->W.cell? ⟨0,i,none⟩=some (.int .u32 (M (kF i))):=fun i hi=>by rw[World.var?_cell hg0 hv0 i,key i hi]
 exact ⟨World.block_lt_of_cell? W _ (hcell 0 (by omega)),hcell⟩
theorem door_met(os:Os)(args:Array Value):laidMetH Tryz.prog laidL ((World.doorLaid Tryz.prog 14 os).forCall (fun _ _=>0) ⟨#[],args,[]⟩).memory:=
 laidMetH_of_parts3 (fuel:=8) (laidMet_of_run' 8 (by kernel_rfl) (by kernel_rfl)) (by kernel_rfl) (by kernel_rfl)
end Go.Proofs.YteffjpdcghlnlaaGreatDoor.Oct
