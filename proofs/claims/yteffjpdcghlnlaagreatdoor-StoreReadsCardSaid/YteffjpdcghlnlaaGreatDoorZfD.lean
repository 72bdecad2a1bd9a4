import Derived.Test.YteffjpdcghlnlaaGreatDoorZfB
set_option linter.unusedVariables false
set_option linter.unusedSimpArgs false
set_option maxHeartbeats 4000000
set_option maxRecDepth 20000
namespace Go.Proofs.YteffjpdcghlnlaaGreatDoor.Oct
open Go.RowKit
def rotr(x:BitVec 32)(n:Nat):BitVec 32:=x>>>n|||x<<<(32-n)
def sm0(x:BitVec 32):BitVec 32:=rotr x 7^^^rotr x 18^^^x>>>3
def sm1(x:BitVec 32):BitVec 32:=rotr x 17^^^rotr x 19^^^x>>>10
def bg0(x:BitVec 32):BitVec 32:=rotr x 2^^^rotr x 13^^^rotr x 22
def bg1(x:BitVec 32):BitVec 32:=rotr x 6^^^rotr x 11^^^rotr x 25
def chF(e f g:BitVec 32):BitVec 32:=e&&&f^^^~~~e&&&g
def mjF(a b c:BitVec 32):BitVec 32:=a&&&b^^^a&&&c^^^b&&&c
def wrd(m:Bf)(j:Nat):BitVec 32:=(m (4*j)).setWidth 32<<<24|||(m (4*j+1)).setWidth 32<<<16|||(m (4*j+2)).setWidth 32<<<8|||(m (4*j+3)).setWidth 32
def nxt(f:Wf)(t:Nat):BitVec 32:=sm1 (f (t-2))+f (t-7)+sm0 (f (t-15))+f (t-16)
def sch(m:Bf):Nat->Wf
 |0=>fun _=>0#32
 |t+1=>updA (sch m t) t (if t<16 then wrd m t else nxt (sch m t) t)
def t1F(k w:BitVec 32)(s:Wf):BitVec 32:=s 7+bg1 (s 4)+chF (s 4) (s 5) (s 6)+k+w
def t2F(s:Wf):BitVec 32:=bg0 (s 0)+mjF (s 0) (s 1) (s 2)
def oct(a b c d e f g h:BitVec 32):Wf:=fun i=>match i with|0=>a|1=>b|2=>c|3=>d|4=>e|5=>f|6=>g|7=>h|_=>0#32
def rnd(k w:BitVec 32)(s:Wf):Wf:=oct (t1F k w s+t2F s) (s 0) (s 1) (s 2) (s 3+t1F k w s) (s 4) (s 5) (s 6)
def rds(K W h:Wf):Nat->Wf
 |0=>h
 |t+1=>rnd (K t) (W t) (rds K W h t)
def prF(K h:Wf)(m:Bf):Wf:=fun i=>rds K (sch m 64) h 64 i+h i
theorem sch_low(m:Bf):∀ t,t<=16->sch m t=fun j=>if j<t then wrd m j else 0#32:=by
 intro t
 induction t with
 |zero=>intro _;funext j;simp[sch]
 |succ t ih=>
  intro h;funext j;simp only[sch];rw[ih (by omega),if_pos (by omega)]
  unfold updA
  by_cases hj:j=t
  ·subst hj;simp
  ·by_cases h2:j<t
   ·have:j<t+1:=by omega
    simp[hj,h2,this]
   ·have:¬ j<t+1:=by omega
    simp[hj,h2,this]
theorem wrd_congr{m m':Bf}(h:∀ i,i<64->m i=m' i)(j:Nat)(hj:j<16):wrd m j=wrd m' j:=by
 unfold wrd;rw[h _ (by omega),h _ (by omega),h _ (by omega),h _ (by omega)]
theorem sch_congr{m m':Bf}(h:∀ i,i<64->m i=m' i):∀ t,sch m t=sch m' t:=by
 intro t
 induction t with
 |zero=>rfl
 |succ t ih=>
  simp only[sch];rw[ih]
  by_cases ht:t<16
  ·rw[if_pos ht,if_pos ht,wrd_congr h t ht]
  ·rw[if_neg ht,if_neg ht]
theorem rnd_congr(k w:BitVec 32){s s':Wf}(h:∀ i,i<8->s i=s' i):rnd k w s=rnd k w s':=by
 unfold rnd t1F t2F;rw[h 0 (by omega),h 1 (by omega),h 2 (by omega),h 3 (by omega),h 4 (by omega),h 5 (by omega),h 6 (by omega),h 7 (by omega)]
theorem rds_congr{K K' W h h':Wf}(hK:∀ i,i<64->K i=K' i)(hh:∀ i,i<8->h i=h' i):∀ t,t<=64->∀ i,i<8->rds K W h t i=rds K' W h' t i:=by
 intro t
 induction t with
 |zero=>intro _;exact hh
 |succ t ih=>
  intro ht i hi;simp only[rds];rw[rnd_congr _ _ (ih (by omega)),hK t (by omega)]
theorem prF_congr{K K' h h':Wf}{m m':Bf}(hK:∀ i,i<64->K i=K' i)(hh:∀ i,i<8->h i=h' i)(hm:∀ i,i<64->m i=m' i):∀ i,i<8->prF K h m i=prF K' h' m' i:=by
 intro i hi;unfold prF;rw[sch_congr hm,rds_congr hK hh 64 (by omega) i hi,hh i hi]
def nbk(n:Nat):Nat:=(n+8) / 64+1
def lenB(n k:Nat):BitVec 8:=BitVec.ofNat 8 (8*n / 256^(7-k))
def msg(b:Bf)(n:Nat):Bf:=fun i=>if i<n then b i else if i=n then 128#8 else if i<64*nbk n-8 then 0#8 else lenB n (i-(64*nbk n-8))
def hst(K h:Wf)(m:Bf):Nat->Wf
 |0=>h
 |j+1=>prF K (hst K h m j) (offF m (64*j))
def outF(s:Wf):Bf:=fun i=>(s (i / 4)>>>(24-8*(i % 4))).setWidth 8
def shaF(K h:Wf)(b:Bf)(n:Nat):Bf:=outF (hst K h (msg b n) (nbk n))
theorem outF_congr{s s':Wf}(h:∀ i,i<8->s i=s' i)(i:Nat)(hi:i<32):outF s i=outF s' i:=by
 unfold outF;rw[h _ (by omega)]
theorem s8_u:Tryz.prog.underlying 136=some (.array 8 135):=by kernel_rfl
theorem s8_i:(Tryz.prog.info? 136).map (·.size)=some 8:=by kernel_rfl
@[go_sem ↓] theorem s8_l(p:Value):Instr.loadAt 136 p=ldA 136 p:=rfl
@[go_sem ↓] theorem s8_s(p v:Value):Instr.storeAt 136 p v=stA 136 p v:=rfl
@[go_sem] theorem s8_ld(w:World)(b o:Nat):(ldA 136 (.pointer (some ⟨b,o,none⟩))).run Tryz.prog w=ldR Tryz.prog 136 8 w b o (row w b):=xG _ _ _ s8_u 8 s8_i w b o
@[go_sem] theorem s8_st(w:World)(b o:Nat)(c:Array Value):(stA 136 (.pointer (some ⟨b,o,none⟩)) (.agg c)).run Tryz.prog w=stR Tryz.prog 136 8 w b o (.agg c) (row w b):=yR _ 8 s8_i w b o c
theorem s8_z:(Tryz.prog.info? 136).map (·.zero)=some (some (.agg (wa 8 fun _=>0#32))):=by unfold wa;kernel_rfl
@[go_sem ↓] theorem s8_zero(w:World):(zeroValue 136).run Tryz.prog w=.ok (.agg (wa 8 fun _=>0#32)) w:=yG _ _ s8_z w
@[go_sem] theorem s8_ix(f:Nat->BitVec 32)(k:Nat)(h:k<8)(w:World):(Instr.index 136 (.agg (wa 8 f)) (.int .i64 (k:Int))).run Tryz.prog w=.ok (.int .u32 (M (f k))) w:=by
 simp[Instr.index,part,go_sem,h]
theorem s64_u:Tryz.prog.underlying 357=some (.array 64 135):=by kernel_rfl
theorem s64_i:(Tryz.prog.info? 357).map (·.size)=some 64:=by kernel_rfl
@[go_sem ↓] theorem s64_l(p:Value):Instr.loadAt 357 p=ldA 357 p:=rfl
@[go_sem ↓] theorem s64_s(p v:Value):Instr.storeAt 357 p v=stA 357 p v:=rfl
@[go_sem] theorem s64_ld(w:World)(b o:Nat):(ldA 357 (.pointer (some ⟨b,o,none⟩))).run Tryz.prog w=ldR Tryz.prog 357 64 w b o (row w b):=xG _ _ _ s64_u 64 s64_i w b o
@[go_sem] theorem s64_st(w:World)(b o:Nat)(c:Array Value):(stA 357 (.pointer (some ⟨b,o,none⟩)) (.agg c)).run Tryz.prog w=stR Tryz.prog 357 64 w b o (.agg c) (row w b):=yR _ 64 s64_i w b o c
theorem s64_z:(Tryz.prog.info? 357).map (·.zero)=some (some (.agg (wa 64 fun _=>0#32))):=by unfold wa;kernel_rfl
@[go_sem ↓] theorem s64_zero(w:World):(zeroValue 357).run Tryz.prog w=.ok (.agg (wa 64 fun _=>0#32)) w:=yG _ _ s64_z w
@[go_sem] theorem s64_ix(f:Nat->BitVec 32)(k:Nat)(h:k<64)(w:World):(Instr.index 357 (.agg (wa 64 f)) (.int .i64 (k:Int))).run Tryz.prog w=.ok (.int .u32 (M (f k))) w:=by
 simp[Instr.index,part,go_sem,h]
theorem m64_u:Tryz.prog.underlying 328=some (.array 64 5):=by kernel_rfl
theorem m64_i:(Tryz.prog.info? 328).map (·.size)=some 64:=by kernel_rfl
@[go_sem ↓] theorem m64_l(p:Value):Instr.loadAt 328 p=ldA 328 p:=rfl
@[go_sem ↓] theorem m64_s(p v:Value):Instr.storeAt 328 p v=stA 328 p v:=rfl
@[go_sem] theorem m64_ld(w:World)(b o:Nat):(ldA 328 (.pointer (some ⟨b,o,none⟩))).run Tryz.prog w=ldR Tryz.prog 328 64 w b o (row w b):=xG _ _ _ m64_u 64 m64_i w b o
@[go_sem] theorem m64_st(w:World)(b o:Nat)(c:Array Value):(stA 328 (.pointer (some ⟨b,o,none⟩)) (.agg c)).run Tryz.prog w=stR Tryz.prog 328 64 w b o (.agg c) (row w b):=yR _ 64 m64_i w b o c
theorem m64_z:(Tryz.prog.info? 328).map (·.zero)=some (some (.agg (ba 64 fun _=>0#8))):=by unfold ba;kernel_rfl
@[go_sem ↓] theorem m64_zero(w:World):(zeroValue 328).run Tryz.prog w=.ok (.agg (ba 64 fun _=>0#8)) w:=yG _ _ m64_z w
@[go_sem] theorem m64_ix(f:Nat->BitVec 8)(k:Nat)(h:k<64)(w:World):(Instr.index 328 (.agg (ba 64 f)) (.int .i64 (k:Int))).run Tryz.prog w=.ok (.int .u8 (I (f k))) w:=by
 simp[Instr.index,part,go_sem,h]
theorem m64_len:Tryz.prog.arrayLen 328=64:=by kernel_rfl
theorem m64_elem:Tryz.prog.elem 328=5:=by kernel_rfl
theorem m64_sl_l(B m:Nat)(hm:m<64)(w:World):(Instr.sliceAt 328 (.pointer (some ⟨B,0,none⟩)) (some (.int .i64 (m:Int))) none none).run Tryz.prog w=.ok (.slice (some ⟨B,m,none⟩) (64-m) (64-m)) w:=by
 rw[run_sliceAt_array_l w 328 ⟨B,0,none⟩ (by kernel_rfl) .i64 _ (by omega) (by rw[m64_len];omega),m64_elem,u8_size,m64_len,Result.andThen_ok]
 unfold slicedAt;rw[if_neg (by omega),Int.toNat_natCast,yK]
 simp
theorem sum_u:Tryz.prog.underlying 66=some (.array 32 5):=by kernel_rfl
theorem sum_i:(Tryz.prog.info? 66).map (·.size)=some 32:=by kernel_rfl
@[go_sem ↓] theorem sum_l(p:Value):Instr.loadAt 66 p=ldA 66 p:=rfl
@[go_sem ↓] theorem sum_s(p v:Value):Instr.storeAt 66 p v=stA 66 p v:=rfl
@[go_sem] theorem sum_ld(w:World)(b o:Nat):(ldA 66 (.pointer (some ⟨b,o,none⟩))).run Tryz.prog w=ldR Tryz.prog 66 32 w b o (row w b):=xG _ _ _ sum_u 32 sum_i w b o
@[go_sem] theorem sum_st(w:World)(b o:Nat)(c:Array Value):(stA 66 (.pointer (some ⟨b,o,none⟩)) (.agg c)).run Tryz.prog w=stR Tryz.prog 66 32 w b o (.agg c) (row w b):=yR _ 32 sum_i w b o c
theorem sum_z:(Tryz.prog.info? 66).map (·.zero)=some (some (.agg (ba 32 fun _=>0#8))):=by unfold ba;kernel_rfl
@[go_sem ↓] theorem sum_zero(w:World):(zeroValue 66).run Tryz.prog w=.ok (.agg (ba 32 fun _=>0#8)) w:=yG _ _ sum_z w
theorem sum_len:Tryz.prog.arrayLen 66=32:=by kernel_rfl
theorem sum_elem:Tryz.prog.elem 66=5:=by kernel_rfl
theorem q4_u:Tryz.prog.underlying 305=some (.array 4 253):=by kernel_rfl
theorem q4_i:(Tryz.prog.info? 305).map (·.size)=some 4:=by kernel_rfl
@[go_sem ↓] theorem q4_l(p:Value):Instr.loadAt 305 p=ldA 305 p:=rfl
@[go_sem ↓] theorem q4_s(p v:Value):Instr.storeAt 305 p v=stA 305 p v:=rfl
@[go_sem] theorem q4_ld(w:World)(b o:Nat):(ldA 305 (.pointer (some ⟨b,o,none⟩))).run Tryz.prog w=ldR Tryz.prog 305 4 w b o (row w b):=xG _ _ _ q4_u 4 q4_i w b o
@[go_sem] theorem q4_st(w:World)(b o:Nat)(c:Array Value):(stA 305 (.pointer (some ⟨b,o,none⟩)) (.agg c)).run Tryz.prog w=stR Tryz.prog 305 4 w b o (.agg c) (row w b):=yR _ 4 q4_i w b o c
theorem q4_z:(Tryz.prog.info? 305).map (·.zero)=some (some (.agg (qa 4 fun _=>0))):=by unfold qa;kernel_rfl
@[go_sem ↓] theorem q4_zero(w:World):(zeroValue 305).run Tryz.prog w=.ok (.agg (qa 4 fun _=>0)) w:=yG _ _ q4_z w
@[go_sem ↓] theorem q8_l(p:Value):Instr.loadAt 308 p=ldA 308 p:=rfl
@[go_sem ↓] theorem q8_s(p v:Value):Instr.storeAt 308 p v=stA 308 p v:=rfl
theorem q8_z:(Tryz.prog.info? 308).map (·.zero)=some (some (.agg (qa 8 fun _=>0))):=by unfold qa;kernel_rfl
@[go_sem ↓] theorem q8_zero(w:World):(zeroValue 308).run Tryz.prog w=.ok (.agg (qa 8 fun _=>0)) w:=yG _ _ q8_z w
theorem q12_u:Tryz.prog.underlying 306=some (.array 12 253):=by kernel_rfl
theorem q12_i:(Tryz.prog.info? 306).map (·.size)=some 12:=by kernel_rfl
@[go_sem ↓] theorem q12_l(p:Value):Instr.loadAt 306 p=ldA 306 p:=rfl
@[go_sem ↓] theorem q12_s(p v:Value):Instr.storeAt 306 p v=stA 306 p v:=rfl
@[go_sem] theorem q12_ld(w:World)(b o:Nat):(ldA 306 (.pointer (some ⟨b,o,none⟩))).run Tryz.prog w=ldR Tryz.prog 306 12 w b o (row w b):=xG _ _ _ q12_u 12 q12_i w b o
@[go_sem] theorem q12_st(w:World)(b o:Nat)(c:Array Value):(stA 306 (.pointer (some ⟨b,o,none⟩)) (.agg c)).run Tryz.prog w=stR Tryz.prog 306 12 w b o (.agg c) (row w b):=yR _ 12 q12_i w b o c
theorem q12_z:(Tryz.prog.info? 306).map (·.zero)=some (some (.agg (qa 12 fun _=>0))):=by unfold qa;kernel_rfl
@[go_sem ↓] theorem q12_zero(w:World):(zeroValue 306).run Tryz.prog w=.ok (.agg (qa 12 fun _=>0)) w:=yG _ _ q12_z w
theorem sum_sl_lh(B a b:Nat)(x y:Int)(hx:x=(a:Int))(hy:y=(b:Int))(h1:a<b)(h2:b<=32)(w:World):(Instr.sliceAt 66 (.pointer (some ⟨B,0,none⟩)) (some (.int .i64 x)) (some (.int .i64 y)) none).run Tryz.prog w=.ok (.slice (some ⟨B,a,none⟩) (b-a) (32-a)) w:=by
 subst hx;subst hy;rw[run_sliceAt_array_lh w 66 ⟨B,0,none⟩ (by kernel_rfl) .i64 .i64 _ _ (by omega) (by omega) (by rw[sum_len];omega),sum_elem,u8_size,sum_len,Result.andThen_ok]
 unfold slicedAt;rw[Int.toNat_natCast,Int.toNat_natCast,if_neg (by omega),yK]
 simp
theorem m64_sl_all(B:Nat)(w:World):(Instr.sliceAt 328 (.pointer (some ⟨B,0,none⟩)) none none none).run Tryz.prog w=.ok (.slice (some ⟨B,0,none⟩) 64 64) w:=by
 rw[run_sliceAt_array_all w 328 ⟨B,0,none⟩ (by kernel_rfl),m64_elem,u8_size,m64_len,Result.andThen_ok]
 rfl
theorem sum_sl_all(B:Nat)(w:World):(Instr.sliceAt 66 (.pointer (some ⟨B,0,none⟩)) none none none).run Tryz.prog w=.ok (.slice (some ⟨B,0,none⟩) 32 32) w:=by
 rw[run_sliceAt_array_all w 66 ⟨B,0,none⟩ (by kernel_rfl),sum_elem,u8_size,sum_len,Result.andThen_ok]
 rfl
open Go.ChangeShapes Go.WideShapes Go.ChangeAt
theorem rotl_any(x:BitVec 32)(n:Nat)(h0:0<n)(h1:n<32)(k:Int)(hk:k=-(n:Int))(w:World):
  Calls Tryz.prog 318 #[.int .u32 (M x),.int .i64 k] w fun e w'=>e=.returned (.int .u32 (M (rotr x n)))/\w'=w:=by
 subst hk;obtain ⟨s,hs⟩:∃ s,s+n=32:=⟨32-n,by omega⟩
 have e1:bits .and .u64 (IntKind.u64.wrap (-(n:Int))) 31=(s:Int):=by
  have e:IntKind.u64.wrap (-(n:Int))=((18446744073709551616-n:Nat):Int):=by
   show (-(n:Int)) % 18446744073709551616=_;omega
  rw[e];refine (u64_and_nat (18446744073709551616-n) 31 (by omega) (by omega)).trans ?_
  rw[show (31:Nat)=2^5-1 from rfl,Nat.and_two_pow_sub_one_eq_mod]
  omega
 have HR:=Lib.hid (show x<<<s|||x>>>n=rotr x n by unfold rotr;rw[BitVec.or_comm,show 32-n=s by omega])
 have e2:IntKind.u64.wrap (32-(s:Int))=(n:Int):=by
  show (32-(s:Int)) % 18446744073709551616=_;omega
 have e3:(32:Int)-(s:Int)=(n:Int):=by omega
 clear hs;go_enter Tryz.func318,Tryz.ntmps318;go_wp2;rw[HR.out];go_ret;exact ⟨rfl,rfl⟩
theorem ch_any(x y z:BitVec 32)(w:World):
  Calls Tryz.prog 308 #[.int .u32 (M x),.int .u32 (M y),.int .u32 (M z)] w fun e w'=>e=.returned (.int .u32 (M (chF x y z)))/\w'=w:=by
 go_enter Tryz.func308,Tryz.ntmps308;go_wp2;go_ret;exact ⟨rfl,rfl⟩
theorem mj_any(x y z:BitVec 32)(w:World):
  Calls Tryz.prog 310 #[.int .u32 (M x),.int .u32 (M y),.int .u32 (M z)] w fun e w'=>e=.returned (.int .u32 (M (mjF x y z)))/\w'=w:=by
 go_enter Tryz.func310,Tryz.ntmps310;go_wp2;go_ret;exact ⟨rfl,rfl⟩
theorem rot_any(x:BitVec 32)(n:Nat)(h0:0<n)(h1:n<32)(k:Int)(hk:k=(n:Int))(w:World):
  Calls Tryz.prog 317 #[.int .u32 (M x),.int .i64 k] w fun e w'=>e=.returned (.int .u32 (M (rotr x n)))/\w'=w:=by
 subst hk;go_enter Tryz.func317,Tryz.ntmps317;go_wp2_with fail;refine (rotl_any x n h0 h1 _ rfl _).mono ?_;rintro e w' ⟨rfl,rfl⟩;go_wp2_with fail;go_ret;exact ⟨rfl,rfl⟩
theorem sm0_any(x:BitVec 32)(w:World):
  Calls Tryz.prog 316 #[.int .u32 (M x)] w fun e w'=>e=.returned (.int .u32 (M (sm0 x)))/\w'=w:=by
 go_enter Tryz.func316,Tryz.ntmps316;go_wp2_with fail;refine (rot_any x 7 (by omega) (by omega) _ rfl _).mono ?_
 rintro e w' ⟨rfl,rfl⟩;go_wp2_with fail;refine (rot_any x 18 (by omega) (by omega) _ rfl _).mono ?_
 rintro e w' ⟨rfl,rfl⟩;go_wp2_with fail;go_ret;exact ⟨rfl,rfl⟩
theorem sm1_any(x:BitVec 32)(w:World):
  Calls Tryz.prog 315 #[.int .u32 (M x)] w fun e w'=>e=.returned (.int .u32 (M (sm1 x)))/\w'=w:=by
 go_enter Tryz.func315,Tryz.ntmps315;go_wp2_with fail;refine (rot_any x 17 (by omega) (by omega) _ rfl _).mono ?_
 rintro e w' ⟨rfl,rfl⟩;go_wp2_with fail;refine (rot_any x 19 (by omega) (by omega) _ rfl _).mono ?_
 rintro e w' ⟨rfl,rfl⟩;go_wp2_with fail;go_ret;exact ⟨rfl,rfl⟩
theorem bg0_any(x:BitVec 32)(w:World):
  Calls Tryz.prog 309 #[.int .u32 (M x)] w fun e w'=>e=.returned (.int .u32 (M (bg0 x)))/\w'=w:=by
 go_enter Tryz.func309,Tryz.ntmps309;go_wp2_with fail;refine (rot_any x 2 (by omega) (by omega) _ rfl _).mono ?_
 rintro e w' ⟨rfl,rfl⟩;go_wp2_with fail;refine (rot_any x 13 (by omega) (by omega) _ rfl _).mono ?_
 rintro e w' ⟨rfl,rfl⟩;go_wp2_with fail;refine (rot_any x 22 (by omega) (by omega) _ rfl _).mono ?_
 rintro e w' ⟨rfl,rfl⟩;go_wp2_with fail;go_ret;exact ⟨rfl,rfl⟩
theorem bg1_any(x:BitVec 32)(w:World):
  Calls Tryz.prog 307 #[.int .u32 (M x)] w fun e w'=>e=.returned (.int .u32 (M (bg1 x)))/\w'=w:=by
 go_enter Tryz.func307,Tryz.ntmps307;go_wp2_with fail;refine (rot_any x 6 (by omega) (by omega) _ rfl _).mono ?_
 rintro e w' ⟨rfl,rfl⟩;go_wp2_with fail;refine (rot_any x 11 (by omega) (by omega) _ rfl _).mono ?_
 rintro e w' ⟨rfl,rfl⟩;go_wp2_with fail;refine (rot_any x 25 (by omega) (by omega) _ rfl _).mono ?_
 rintro e w' ⟨rfl,rfl⟩;go_wp2_with fail;go_ret;exact ⟨rfl,rfl⟩
def prt(m:Bf)(j:Nat):Nat->BitVec 32
 |0=>0#32
 |r+1=>prt m j r<<<8|||(m (4*j+r)).setWidth 32
def w1F(m:Bf)(k:Nat):Wf:=fun j=>prt m j (min 4 (k-4*j))
theorem prt_4(m:Bf)(j:Nat):prt m j 4=wrd m j:=by
 simp only[prt,wrd,BitVec.zero_shiftLeft,BitVec.zero_or,Nat.add_zero,BitVec.shiftLeft_or_distrib,<-BitVec.shiftLeft_add]
theorem w1F_zero(m:Bf):w1F m 0=fun _=>0#32:=by funext j;simp[w1F,prt]
theorem w1F_step(m:Bf)(k:Nat):updA (w1F m k) (k / 4) (w1F m k (k / 4)<<<8|||(m k).setWidth 32)=w1F m (k+1):=by
 funext j;unfold updA w1F
 by_cases hj:j=k / 4
 ·subst hj
  rw[if_pos rfl,show min 4 (k+1-4*(k / 4))=min 4 (k-4*(k / 4))+1 by omega]
  simp only[prt];rw[show 4*(k / 4)+min 4 (k-4*(k / 4))=k by omega]
 ·rw[if_neg hj]
  congr 1;omega
theorem w1F_all(m:Bf):wa 64 (w1F m 64)=wa 64 (sch m 16):=wa_ext fun j hj=>by
 rw[sch_low m 16 (by omega)]
 unfold w1F
 by_cases h:j<16
 ·simp only[h,if_true];rw[show min 4 (64-4*j)=4 by omega,prt_4]
 ·simp only[h,if_false];rw[show min 4 (64-4*j)=0 by omega];rfl
theorem sch_step(m:Bf)(t:Nat)(h:16<=t):updA (sch m t) t (sm1 (sch m t (t-2))+sch m t (t-7)+sm0 (sch m t (t-15))+sch m t (t-16))=sch m (t+1):=by
 simp only[sch];rw[if_neg (by omega)]
 rfl
theorem sched_any(m:Bf)(w:World):
  Calls Tryz.prog 306 #[.agg (ba 64 m)] w fun e w'=>e=.returned (.agg (wa 64 (sch m 64)))/\Below w.heap.size w w':=by
 go_enter Tryz.func306,Tryz.ntmps306;go_wp2;go_loopw [4,5,8] (fun _ _ i wr=>∃ k:Nat,k<=64/\i=.int .i64 k/\wr=((w.alloc (.cells (ba 64 m) 328)).alloc (.cells (wa 64 fun _=>0#32) 357)).alloc (.cells (wa 64 (w1F m k)) 357)) (fun _ _ i _=>64-(intOf i).toNat)
 case atStart=>exact ⟨0,by omega,rfl,by rw[w1F_zero]⟩
 case round=>
  obtain ⟨k,hk,rfl,rfl⟩:=hrel
  by_cases hlt:k<64
  ·have hd:decide ((k:Int)<64)=true:=by simp;omega
   have H:=Lib.hid (w1F_step m k);have b1:k / 4<64:=by omega
   obtain ⟨v0,v1⟩:=I_bd (m k);go_wp2;go_roundw
   case rel=>exact ⟨k+1,by omega,by go_num,by rw[H.out]⟩
   case measure=>simp[intOf];omega
  ·obtain rfl:k=64:=by omega
   rw[w1F_all];go_wp2;go_loopw [6] (fun i wr=>∃ t n:Nat,16<=t/\t<=64/\i=.int .i64 t/\wr=(((w.alloc (.cells (ba 64 m) 328)).alloc (.cells (wa 64 fun _=>0#32) 357)).alloc (.cells (wa 64 (sch m t)) 357)).drewN n) (fun i _=>64-(intOf i).toNat)
   case atStart=>exact ⟨16,0,by omega,by omega,rfl,rfl⟩
   case round=>
    obtain ⟨t,n,ht,hk,rfl,rfl⟩:=hrel
    by_cases hlt:t<64
    ·have hd:decide ((t:Int)<64)=true:=by simp;omega
     have H:=Lib.hid (sch_step m t ht);have c2:((t:Int)-2).toNat=t-2:=by omega
     have c7:((t:Int)-7).toNat=t-7:=by omega
     have c15:((t:Int)-15).toNat=t-15:=by omega
     have c16:((t:Int)-16).toNat=t-16:=by omega
     have f2:t-2<64:=by omega
     have f7:t-7<64:=by omega
     have f15:t-15<64:=by omega
     have f16:t-16<64:=by omega
     have d2:(0:Int)<=(t:Int)-2/\(t:Int)-2<64:=by omega
     have d7:(0:Int)<=(t:Int)-7/\(t:Int)-7<64:=by omega
     have d15:(0:Int)<=(t:Int)-15/\(t:Int)-15<64:=by omega
     have d16:(0:Int)<=(t:Int)-16/\(t:Int)-16<64:=by omega
     go_wp2;refine quiet_tail 23 (by kernel_rfl) (by kernel_rfl) (fun _ _ _ _ _ h=>h) ?_
     simp only[List.take_succ_cons,List.take_zero,List.drop_succ_cons,List.drop_zero]
     repeat (go_big_quiet_step ((first|(go_at_call 315;(refine (sm1_any _ _).mono ?_);rintro e w' ⟨rfl,rfl⟩;exact ⟨rfl,_,rfl⟩)|(go_at_call 316;(refine (sm0_any _ _).mono ?_);rintro e w' ⟨rfl,rfl⟩;exact ⟨rfl,_,rfl⟩))))
     refine wpQuiet_nil ?_;rintro _ ⟨m,rfl⟩;go_wp2;go_roundw
     case rel=>exact ⟨t+1,_,by omega,by omega,by go_num,by rw[H.out]⟩
     case measure=>simp[intOf];omega
    ·obtain rfl:t=64:=by omega
     go_wp2;refine bodyPost_ret (v:=.agg (wa 64 (sch m 64))) (zW rfl _ _ (w.heap.size+1) _ _ _ rfl (by simp[go_sem]) s64_u (by rw[wa_size];exact s64_i)) rfl ⟨rfl,?_⟩
     exact zQ ((((Below.refl _ _).alloc (by simp) _).alloc (by simp) _).alloc (by simp;omega) _) _
theorem adds_any(f g:Wf)(w:World):
  Calls Tryz.prog 311 #[.agg (wa 8 f),.agg (wa 8 g)] w fun e w'=>e=.returned (.agg (wa 8 fun i=>f i+g i))/\Below w.heap.size w w':=by
 go_enter Tryz.func311,Tryz.ntmps311;go_wp2;go_loopw [5,6] (fun _ i wr=>∃ k n:Nat,k<=8/\i=.int .i64 k/\wr=(((w.alloc (.cells (wa 8 (uptoA k (fun i=>f i+g i) f)) 136)).alloc (.cells (wa 8 g) 136)).alloc (.cells (wa 8 fun _=>0#32) 136)).drewN n) (fun _ i _=>8-(intOf i).toNat)
 case atStart=>exact ⟨0,0,by omega,rfl,by rw[uptoA_zero];rfl⟩
 case round=>
  obtain ⟨k,n,hk,rfl,rfl⟩:=hrel
  by_cases hlt:k<8
  ·have hd:decide ((k:Int)<8)=true:=by simp;omega
   have H:=Lib.hid (uptoA_step k (fun i=>f i+g i) f)
   have hu:=uptoA_at k (fun i=>f i+g i) f
   go_wp2;refine quiet_tail 8 (by kernel_rfl) (by kernel_rfl) (fun _ _ _ _ _ h=>h) ?_
   simp only[List.take_succ_cons,List.take_zero,List.drop_succ_cons,List.drop_zero]
   repeat (go_big_quiet_step (fail))
   refine wpQuiet_nil ?_;rintro _ ⟨m,rfl⟩;go_wp2;go_roundw
   case rel=>exact ⟨k+1,_,by omega,by go_num,by rw[<-H.out]⟩
   case measure=>simp[intOf];omega
  ·obtain rfl:k=8:=by omega
   have HV:=Lib.hid (show wa 8 (uptoA 8 (fun i=>f i+g i) f)=wa 8 fun i=>f i+g i from wa_ext fun i hi=>by unfold uptoA;rw[if_pos hi])
   rw[HV.out];go_wp2;refine bodyPost_ret (v:=.agg (wa 8 fun i=>f i+g i)) (zW rfl _ _ (w.heap.size+1+1) _ _ _ rfl (by simp[go_sem]) s8_u (by rw[wa_size];exact s8_i)) rfl ⟨rfl,?_⟩
   exact zQ ((((Below.refl _ _).alloc (by simp) _).alloc (by simp) _).alloc (by simp;omega) _) _
def iF:Wf:=oct 1779033703#32 3144134277#32 1013904242#32 2773480762#32 1359893119#32 2600822924#32 528734635#32 1541459225#32
theorem iF_ok:(#[.int .u32 1779033703,.int .u32 3144134277,.int .u32 1013904242,.int .u32 2773480762,.int .u32 1359893119,.int .u32 2600822924,.int .u32 528734635,.int .u32 1541459225]:Array Value)=wa 8 iF:=by unfold wa;kernel_rfl
theorem iF_lit(w:World):(Instr.build 136 #[(0,.int .u32 1779033703),(1,.int .u32 3144134277),(2,.int .u32 1013904242),(3,.int .u32 2773480762),(4,.int .u32 1359893119),(5,.int .u32 2600822924),(6,.int .u32 528734635),(7,.int .u32 1541459225)]).run Tryz.prog w=.ok (.agg (wa 8 iF)) w:=by
 rw[<-iF_ok];kernel_rfl
theorem start_any(w:World):
  Calls Tryz.prog 300 #[] w fun e w'=>e=.returned (.agg (wa 8 iF))/\Below w.heap.size w w':=by
 have HI:=Lib.hid iF_lit;go_enter Tryz.func300,Tryz.ntmps300;go_wp2_with (refine wpl_build rfl 136 #[(0,.const (.int .u32 1779033703)),(1,.const (.int .u32 3144134277)),(2,.const (.int .u32 1013904242)),(3,.const (.int .u32 2773480762)),(4,.const (.int .u32 1359893119)),(5,.const (.int .u32 2600822924)),(6,.const (.int .u32 528734635)),(7,.const (.int .u32 1541459225))] rfl _ _ HI.out (by kernel_rfl) ?_)
 refine bodyPost_ret (v:=.agg (wa 8 iF)) (zW rfl _ _ w.heap.size _ _ _ rfl (by simp[go_sem]) s8_u (by rw[wa_size];exact s8_i)) rfl ⟨rfl,?_⟩
 exact (Below.refl _ _).alloc (by simp) _
def bgN(m x:Nat):Bf:=fun i=>BitVec.ofNat 8 (x / 256^(m-1-i))
def wsF(f:Bf)(o m x j:Nat):Bf:=fun i=>if o+(m-j)<=i/\i<o+m then bgN m x (i-o) else f i
theorem wsF_zero(f:Bf)(o m x:Nat):wsF f o m x 0=f:=by funext i;unfold wsF;rw[if_neg (by omega)]
theorem wsF_all(f:Bf)(o m x:Nat):wsF f o m x m=putF f o m (bgN m x):=by
 funext i;unfold wsF putF;rw[Nat.sub_self,Nat.add_zero]
theorem wsF_step(f:Bf)(o m x j:Nat)(h:j<m):upd (wsF f o m x j) (o+(m-(j+1))) (BitVec.ofNat 8 (x / 256^j))=wsF f o m x (j+1):=by
 funext i;unfold upd wsF
 by_cases hi:i=o+(m-(j+1))
 ·rw[if_pos hi,if_pos (by omega)]
  unfold bgN;congr 2;congr 1;omega
 ·rw[if_neg hi]
  by_cases h2:o+(m-j)<=i/\i<o+m
  ·rw[if_pos h2,if_pos (by omega)]
  ·rw[if_neg h2,if_neg (by omega)]
theorem I_ofN(n:Nat):((n:Int) % 256)=I (BitVec.ofNat 8 n):=by
 unfold I;rw[BitVec.toNat_ofNat];omega
theorem wrn_any(g o m c N x:Nat)(f:Bf)(w:World)(hr:row w g=some (ba N f))(hom:o+m<=N)(hN:N<=1000)(hx:x<18446744073709551616):
  Calls Tryz.prog 312 #[.slice (some ⟨g,o,none⟩) m c,.int .u64 x] w fun e w'=>e=.returned (.tuple #[])/\w'=w.setRow g (ba N (putF f o m (bgN m x))):=by
 go_enter Tryz.func312,Tryz.ntmps312;go_wp2;go_loopw [1,4] (fun v i wr=>∃ r j:Nat,r+j=m/\v=.int .u64 ((x / 256^j:Nat):Int)/\i=.int .i64 ((r:Int)-1)/\wr=w.setRow g (ba N (wsF f o m x j))) (fun _ i _=>(intOf i+1).toNat)
 case atStart=>exact ⟨m,0,by omega,by simp,rfl,by rw[wsF_zero,yF hr]⟩
 case round=>
  obtain ⟨r,j,hrj,rfl,rfl,rfl⟩:=hrel;rcases r with _|s
  ·obtain rfl:j=m:=by omega
   rw[wsF_all];have hd:decide ((0:Int)<=((0:Nat):Int)-1)=false:=by decide
   go_wp2;go_end0;exact ⟨rfl,rfl⟩
  ·have e1:((s+1:Nat):Int)-1=(s:Int):=by omega
   rw[e1];have hd:decide ((0:Int)<=(s:Int))=true:=by simp
   have hc:=I_ofN (x / 256^j);have hlt:x / 256^j<18446744073709551616:=Nat.lt_of_le_of_lt (Nat.div_le_self _ _) hx
   have hq:((x / 256^j:Nat):Int) / 256=((x / 256^(j+1):Nat):Int):=by
    rw[Nat.pow_succ,<-Nat.div_div_eq_div_mul];rfl
   obtain ⟨y,hy⟩:∃ y,y=x / 256^j:=⟨_,rfl⟩;obtain ⟨z,hz⟩:∃ z,z=x / 256^(j+1):=⟨_,rfl⟩;rw[<-hy] at hc hlt hq ⊢;rw[<-hz] at hq;have hrow:=zE hr (ba N (wsF f o m x j));have HY:=Lib.hid hy;have HZ:=Lib.hid hz;have hs:s<m:=by omega
   have hj:j+s+1=m:=by omega
   have hcl:(w.setRow g (ba N (wsF f o m x j))).cell? ⟨g,o+s,none⟩=some (.int .u8 (I (wsF f o m x j (o+s)))):=by rw[zC hrow,yA _ _ _ (by omega)]
   have hfz:(w.setRow g (ba N (wsF f o m x j))).frozen? ⟨g,o+s,none⟩=false:=zJ hrow _
   have HW:=Lib.hid (show ((w.setRow g (ba N (wsF f o m x j))).setCell ⟨g,o+s,none⟩ (.int .u8 (I (BitVec.ofNat 8 y))))=w.setRow g (ba N (wsF f o m x (j+1))) by
    rw[zL hrow,ba_set,setRow_setRow,hy,<-wsF_step f o m x j (by omega),show o+(m-(j+1))=o+s by omega])
   generalize w.setRow g (ba N (wsF f o m x j))=wr at hcl hfz HW ⊢;clear hy hz hrow;go_wp2;rw[HW.out];go_roundw
   case rel=>exact ⟨s,j+1,by omega,by rw[HZ.out],rfl,rfl⟩
   case measure=>simp[intOf]
theorem bg4(x:BitVec 32)(i:Nat)(h:i<4):bgN 4 x.toNat i=(x>>>(24-8*i)).setWidth 8:=by
 apply BitVec.eq_of_toNat_eq;unfold bgN;rw[BitVec.toNat_ofNat,BitVec.toNat_setWidth,BitVec.toNat_ushiftRight,Nat.shiftRight_eq_div_pow,show (256:Nat)=2^8 from rfl,<-Nat.pow_mul]
 congr 3;omega
theorem out_step(s:Wf)(k:Nat):ba 32 (putF (upto (4*k) (outF s) fun _=>0#8) (4*k) 4 (bgN 4 (s k).toNat))=ba 32 (upto (4*(k+1)) (outF s) fun _=>0#8):=xA fun i hi=>by
 unfold putF upto
 by_cases h:4*k<=i/\i<4*k+4
 ·rw[if_pos h,if_pos (by omega),bg4 _ _ (by omega)]
  unfold outF;rw[show i / 4=k by omega,show i % 4=i-4*k by omega]
 ·rw[if_neg h]
  by_cases h2:i<4*k
  ·rw[if_pos h2,if_pos (by omega)]
  ·rw[if_neg h2,if_neg (by omega)]
theorem sumOf_any(s:Wf)(w:World):
  Calls Tryz.prog 302 #[.agg (wa 8 s)] w fun e w'=>e=.returned (.agg (ba 32 (outF s)))/\Below w.heap.size w w':=by
 go_enter Tryz.func302,Tryz.ntmps302;go_wp2;go_loopw [4,5,7] (fun _ _ i wr=>∃ k:Nat,k<=8/\i=.int .i64 k/\wr=((w.alloc (.cells (wa 8 s) 136)).alloc (.cells (ba 32 fun _=>0#8) 66)).alloc (.cells (ba 32 (upto (4*k) (outF s) fun _=>0#8)) 66)) (fun _ _ i _=>8-(intOf i).toNat)
 case atStart=>exact ⟨0,by omega,rfl,by rw[Nat.mul_zero,yP]⟩
 case round=>
  obtain ⟨k,hk,rfl,rfl⟩:=hrel
  by_cases hlt:k<8
  ·have hd:decide ((k:Int)<8)=true:=by simp;omega
   have H:=Lib.hid (out_step s k);obtain ⟨v0,v1⟩:=M_bd (s k);have hsl:=sum_sl_lh (w.heap.size+1+1) (4*k) (4*(k+1)) (4*(k:Int)) (4*((k:Int)+1)) (by omega) (by omega) (by omega) (by omega)
   rw[show 4*(k+1)-4*k=4 by omega] at hsl
   go_wp2_with fail;refine (wrn_any _ (4*k) 4 _ 32 (s k).toNat _ _ (zA _ _ _ _ (by simp)) (by omega) (by omega) (by omega)).mono ?_
   rintro e w' ⟨rfl,rfl⟩;go_wp2_with fail;rw[H.out];go_roundw
   case rel=>exact ⟨k+1,by omega,by go_num,rfl⟩
   case measure=>simp[intOf];omega
  ·obtain rfl:k=8:=by omega
   rw[show 4*8=32 from rfl,xI]
   go_wp2;refine bodyPost_ret (v:=.agg (ba 32 (outF s))) (zW rfl _ _ (w.heap.size+1) _ _ _ rfl (by simp[go_sem]) sum_u (by rw[zI];exact sum_i)) rfl ⟨rfl,?_⟩
   exact (((Below.refl _ _).alloc (by simp) _).alloc (by simp) _).alloc (by simp;omega) _
def kL:List (BitVec 32):=[1116352408#32,1899447441#32,3049323471#32,3921009573#32,961987163#32,1508970993#32,2453635748#32,2870763221#32,3624381080#32,310598401#32,607225278#32,1426881987#32,1925078388#32,2162078206#32,2614888103#32,3248222580#32,3835390401#32,4022224774#32,264347078#32,604807628#32,770255983#32,1249150122#32,1555081692#32,1996064986#32,2554220882#32,2821834349#32,2952996808#32,3210313671#32,3336571891#32,3584528711#32,113926993#32,338241895#32,666307205#32,773529912#32,1294757372#32,1396182291#32,1695183700#32,1986661051#32,2177026350#32,2456956037#32,2730485921#32,2820302411#32,3259730800#32,3345764771#32,3516065817#32,3600352804#32,4094571909#32,275423344#32,430227734#32,506948616#32,659060556#32,883997877#32,958139571#32,1322822218#32,1537002063#32,1747873779#32,1955562222#32,2024104815#32,2227730452#32,2361852424#32,2428436474#32,2756734187#32,3204031479#32,3329325298#32]
def kF:Wf:=fun i=>kL.getD i 0#32
structure Tab(w:World):Prop where
 pos:0<w.heap.size
 cell:∀ i,i<64->w.cell? ⟨0,i,none⟩=some (.int .u32 (M (kF i)))
theorem Tab.below{B:Nat}{w w':World}(h:Tab w)(hb:Below B w w')(hB:0<B):Tab w':=
 ⟨Nat.lt_of_lt_of_le h.pos hb.size,fun i hi=>by rw[hb.cell (p:=⟨0,i,none⟩) hB];exact h.cell i hi⟩
theorem Tab.after{W:World}(h:Tab W)(x:After W):Tab x.val:=h.below x.below h.pos
theorem Tab.drewN{w:World}(h:Tab w)(n:Nat):Tab (w.drewN n):=⟨h.pos,h.cell⟩
def oct8(a b c d e f g h:BitVec 32):Wf:=updA (updA (updA (updA (updA (updA (updA (updA (fun _=>0#32) 0 a) 1 b) 2 c) 3 d) 4 e) 5 f) 6 g) 7 h
theorem oct8_eq(a b c d e f g h:BitVec 32)(i:Nat)(hi:i<8):oct8 a b c d e f g h i=oct a b c d e f g h i:=by
 match i,hi with
 |0,_=>rfl
 |1,_=>rfl
 |2,_=>rfl
 |3,_=>rfl
 |4,_=>rfl
 |5,_=>rfl
 |6,_=>rfl
 |7,_=>rfl
theorem oct_same(s:Wf)(i:Nat)(hi:i<8):oct (s 0) (s 1) (s 2) (s 3) (s 4) (s 5) (s 6) (s 7) i=s i:=by
 match i,hi with
 |0,_=>rfl
 |1,_=>rfl
 |2,_=>rfl
 |3,_=>rfl
 |4,_=>rfl
 |5,_=>rfl
 |6,_=>rfl
 |7,_=>rfl
theorem press_any(h:Wf)(m:Bf)(w:World)(ht:Tab w):
  Calls Tryz.prog 301 #[.agg (wa 8 h),.agg (ba 64 m)] w fun e w'=>e=.returned (.agg (wa 8 (prF kF h m)))/\Below w.heap.size w w':=by
 have B0:=Lib.hid ((((Below.refl w.heap.size w).alloc (by simp) (.cells (wa 8 h) 136)).alloc (by simp) (.cells (ba 64 m) 328)).alloc (by simp;omega) (.cells (wa 8 fun _=>0#32) 136))
 have q0:row (((w.alloc (.cells (wa 8 h) 136)).alloc (.cells (ba 64 m) 328)).alloc (.cells (wa 8 fun _=>0#32) 136)) w.heap.size=some (wa 8 h):=by simp[go_sem]
 have q2:row (((w.alloc (.cells (wa 8 h) 136)).alloc (.cells (ba 64 m) 328)).alloc (.cells (wa 8 fun _=>0#32) 136)) (w.heap.size+1+1)=some (wa 8 fun _=>0#32):=by simp[go_sem]
 have HT0:=Lib.hid (ht.below B0.out ht.pos);have HT:=Lib.hid ht;clear ht;go_enter Tryz.func301,Tryz.ntmps301;go_wp2_with fail;go_quiet (fail);go_wp2_with fail;go_quiet (fail);go_wp2_with fail;refine (sched_any m _).mono ?_;rintro e w1 ⟨rfl,hb1⟩;have r0:=zD hb1 (b:=w.heap.size) (c:=wa 8 h) (by rw[zS];exact q0)
 have r2:=zD hb1 (b:=w.heap.size+1+1) (c:=wa 8 fun _=>0#32) (by rw[zS];exact q2)
 have B1:=Lib.hid (onto (zQ B0.out _) (by simp;omega) hb1)
 have s1:w.heap.size+3<=w1.heap.size:=by have:=hb1.size;simp at this;omega
 have HT1:=Lib.hid (HT.out.below B1.out HT.out.pos);clear hb1 q0 q2 B0 HT0;have HR0:=Lib.hid r0;have HR2:=Lib.hid r2;clear r0 r2;go_wp2_with fail;go_loopw [5,6,7,8,9,10,11,12,13,14,15,16,35] (fun v5 v6 v7 v8 v9 v10 v11 v12 _ _ _ _ i wr=>∃ t n:Nat,∃ S:Wf,t<=64/\S=rds kF (sch m 64) h t/\i=.int .i64 t/\v5=.int .u32 (M (S 0))/\v6=.int .u32 (M (S 1))/\v7=.int .u32 (M (S 2))/\v8=.int .u32 (M (S 3))/\v9=.int .u32 (M (S 4))/\v10=.int .u32 (M (S 5))/\v11=.int .u32 (M (S 6))/\v12=.int .u32 (M (S 7))/\wr=w1.drewN n) (fun _ _ _ _ _ _ _ _ _ _ _ _ i _=>64-(intOf i).toNat)
 case atStart=>exact ⟨0,0,h,by omega,rfl,rfl,rfl,rfl,rfl,rfl,rfl,rfl,rfl,rfl,rfl⟩
 case round=>
  obtain ⟨t,n,S,ht,hS,rfl,rfl,rfl,rfl,rfl,rfl,rfl,rfl,rfl,rfl⟩:=hrel;have HS:=Lib.hid hS;clear hS
  by_cases hlt:t<64
  ·have hd:decide ((t:Int)<64)=true:=by simp;omega
   have hk:=HT1.out.cell t hlt;go_wp2_with fail;go_quiet ((first|(go_at_call 307;(refine (bg1_any _ _).mono ?_);rintro e w' ⟨rfl,rfl⟩;exact ⟨rfl,_,rfl⟩)|(go_at_call 308;(refine (ch_any _ _ _ _).mono ?_);rintro e w' ⟨rfl,rfl⟩;exact ⟨rfl,_,rfl⟩)))
   go_wp2_with fail;refine (bg0_any _ _).mono ?_;rintro e w' ⟨rfl,rfl⟩;go_wp2_with fail;refine (mj_any _ _ _ _).mono ?_;rintro e w' ⟨rfl,rfl⟩;go_wp2_with fail;go_roundw
   case rel=>
    refine ⟨t+1,_,rnd (kF t) (sch m 64 t) S,by omega,by rw[HS.out];rfl,by go_num,rfl,rfl,rfl,rfl,rfl,rfl,rfl,rfl,rfl⟩
   case measure=>simp[intOf];omega
  ·obtain rfl:t=64:=by omega
   have r0:=HR0.out
   have HV:=Lib.hid (show (wa 8 fun i=>h i+oct8 (S 0) (S 1) (S 2) (S 3) (S 4) (S 5) (S 6) (S 7) i)=wa 8 (prF kF h m) from wa_ext fun i hi=>by
    rw[oct8_eq _ _ _ _ _ _ _ _ i hi,oct_same S i hi,HS.out];unfold prF
    rw[BitVec.add_comm])
   go_wp2_with fail;refine (adds_any _ _ _).mono ?_;rintro e w2 ⟨rfl,hb2⟩;rw[show (Value.agg (wa 8 fun i=>h i+updA (updA (updA (updA (updA (updA (updA (updA (fun _=>0#32) 0 (S 0)) 1 (S 1)) 2 (S 2)) 3 (S 3)) 4 (S 4)) 5 (S 5)) 6 (S 6)) 7 (S 7) i))=.agg (wa 8 (prF kF h m)) from congrArg Value.agg HV.out]
   have r2:=zD hb2 (by rw[zS];exact HR2.out)
   have B2:=Lib.hid (onto (zQ B1.out _) (by simp;omega) hb2)
   clear hb2 r0;go_wp2_with fail;refine bodyPost_ret (v:=.agg (wa 8 (prF kF h m))) (zW rfl _ _ (w.heap.size+1+1) _ _ _ rfl (zE r2 _) s8_u (by rw[wa_size];exact s8_i)) rfl ⟨rfl,?_⟩
   exact zG B2.out (by omega) _
def mrk(b:Bf)(n:Nat):Bf:=upd (putF (fun _=>0#8) 0 n b) n 128#8
def tll(f:Bf)(L:Nat):Bf:=putF f 56 8 (bgN 8 (8*L))
def rst(K s:Wf)(b:Bf)(n L:Nat):Wf:=if n<56 then prF K s (tll (mrk b n) L) else prF K (prF K s (mrk b n)) (tll (fun _=>0#8) L)
theorem hst_rest(K s:Wf)(b:Bf)(n q:Nat)(hq:q=n / 64):∀ i,i<8->hst K s (msg b n) (nbk n) i=rst K (hst K s (msg b n) q) (offF b (64*q)) (n-64*q) n i:=by
 subst hq;intro i hi;unfold rst
 by_cases h:n-64*(n / 64)<56
 ·rw[if_pos h,show nbk n=n / 64+1 by unfold nbk;omega]
  simp only[hst];refine prF_congr (fun _ _=>rfl) (fun _ _=>rfl) (fun k hk=>?_) i hi
  unfold offF msg tll putF mrk upd putF lenB bgN nbk
  by_cases h1:64*(n / 64)+k<n
  ·rw[if_pos h1,if_neg (by omega),if_neg (by omega),if_pos (by omega),Nat.sub_zero]
  ·rw[if_neg h1]
   by_cases h2:64*(n / 64)+k=n
   ·rw[if_pos h2,if_neg (by omega),if_pos (by omega)]
   ·rw[if_neg h2]
    by_cases h3:k<56
    ·rw[if_pos (by omega),if_neg (by omega),if_neg (by omega),if_neg (by omega)]
    ·rw[if_neg (by omega),if_pos (by omega)]
     congr 3;omega
 ·rw[if_neg h,show nbk n=n / 64+1+1 by unfold nbk;omega]
  simp only[hst];refine prF_congr (fun _ _=>rfl) (prF_congr (fun _ _=>rfl) (fun _ _=>rfl) fun k hk=>?_) (fun k hk=>?_) i hi
  ·unfold offF msg mrk upd putF nbk
   by_cases h1:64*(n / 64)+k<n
   ·rw[if_pos h1,if_neg (by omega),if_pos (by omega),Nat.sub_zero]
   ·rw[if_neg h1]
    by_cases h2:64*(n / 64)+k=n
    ·rw[if_pos h2,if_pos (by omega)]
    ·rw[if_neg h2,if_pos (by omega),if_neg (by omega),if_neg (by omega)]
  ·unfold offF msg tll putF lenB bgN nbk
   rw[if_neg (by omega),if_neg (by omega)]
   by_cases h3:k<56
   ·rw[if_pos (by omega),if_neg (by omega)]
   ·rw[if_neg (by omega),if_pos (by omega)]
    congr 3;omega
theorem full_piece(b:Bf)(n j:Nat)(h:64*j+64<=n)(k:Nat)(hk:k<64):offF (msg b n) (64*j) k=offF b (64*j) k:=by
 unfold offF msg;rw[if_pos (by omega)]
theorem prest_any(s:Wf)(b:Bf)(n c L:Nat)(A:Option Addr)(w:World)(ht:Tab w)(hs:Sl w w.heap.size A n c b)(hn:n<64)(hL:L<=140737488355328):
  Calls Tryz.prog 303 #[.agg (wa 8 s),.slice A n c,.int .i64 L] w fun e w'=>e=.returned (.agg (wa 8 (rst kF s b n L)))/\Below w.heap.size w w':=by
 have B0:=Lib.hid ((((Below.refl w.heap.size w).alloc (by simp) (.cells (wa 8 s) 136)).alloc (by simp) (.cells (wa 8 fun _=>0#32) 136)).alloc (by simp;omega) (.cells (ba 64 fun _=>0#8) 328))
 have HT:=Lib.hid ht;have HS:=Lib.hid (hs.below B0.out);obtain ⟨x,hx⟩:∃ x,x=8*L:=⟨_,rfl⟩
 have m1:IntKind.u64.wrap ((L:Int)*8)=(x:Int):=by
  show (L:Int)*8 % 18446744073709551616=_;omega
 have m2:(L:Int)*8 % 18446744073709551616=(x:Int):=m1;have hxb:x<18446744073709551616:=by omega
 have HX:=Lib.hid hx;clear hx;clear ht hs;have hsl:=m64_sl_all (w.heap.size+1+1);have hs8:=m64_sl_l (w.heap.size+1+1) 56 (by omega)
 have hset:(ba 64 (putF (fun _=>0#8) 0 n b)).setIfInBounds n (.int .u8 128)=ba 64 (mrk b n):=ba_set 64 _ n 128#8
 go_enter Tryz.func303,Tryz.ntmps303
 by_cases hlt:n<56
 ·have hd:decide ((56:Int)<=(n:Int))=false:=by simp;omega
  have HV:=Lib.hid (show rst kF s b n L=prF kF s (tll (mrk b n) L) by unfold rst;rw[if_pos hlt])
  go_wp2_with (refine wpl_copy rfl (.tmp 9) (.tmp 10) 22 22 5 rfl zZ u8_i (zA _ _ _ _ (by simp)) HS.out (show n=min n 64 by omega) rfl rfl ?_)
  refine (wrn_any _ 56 8 8 64 x (mrk b n) _ (zA _ _ _ _ (by simp)) (by omega) (by omega) hxb).mono ?_
  rintro e w' ⟨rfl,rfl⟩;rw[HX.out,show putF (mrk b n) 56 8 (bgN 8 (8*L))=tll (mrk b n) L from rfl]
  have B1:=Lib.hid ((((Below.refl w.heap.size w).alloc (by simp) (.cells (wa 8 s) 136)).alloc (by simp) (.cells (wa 8 fun _=>0#32) 136)).alloc (by simp;omega) (.cells (ba 64 (tll (mrk b n) L)) 328))
  have q1:row (((w.alloc (.cells (wa 8 s) 136)).alloc (.cells (wa 8 fun _=>0#32) 136)).alloc (.cells (ba 64 (tll (mrk b n) L)) 328)) (w.heap.size+1)=some (wa 8 fun _=>0#32):=by simp[go_sem]
  have HQ1:=Lib.hid q1;clear q1;go_wp2_with fail;refine (press_any s (tll (mrk b n) L) _ (HT.out.below B1.out HT.out.pos)).mono ?_;rintro e w1 ⟨rfl,hb1⟩;have r1:=zD hb1 HQ1.out;have B2:=Lib.hid (onto B1.out (by simp;omega) hb1)
  clear hb1;go_wp2_with fail;refine bodyPost_ret (v:=.agg (wa 8 (prF kF s (tll (mrk b n) L)))) (zW rfl _ _ (w.heap.size+1) _ _ _ rfl (zE r1 _) s8_u (by rw[wa_size];exact s8_i)) rfl ⟨by rw[HV.out],?_⟩
  exact zG B2.out (by omega) _
 ·have hd:decide ((56:Int)<=(n:Int))=true:=by simp;omega
  have HV:=Lib.hid (show rst kF s b n L=prF kF (prF kF s (mrk b n)) (tll (fun _=>0#8) L) by unfold rst;rw[if_neg hlt])
  go_wp2_with (refine wpl_copy rfl (.tmp 9) (.tmp 10) 22 22 5 rfl zZ u8_i (zA _ _ _ _ (by simp)) HS.out (show n=min n 64 by omega) rfl rfl ?_)
  have B1:=Lib.hid ((((Below.refl w.heap.size w).alloc (by simp) (.cells (wa 8 s) 136)).alloc (by simp) (.cells (wa 8 fun _=>0#32) 136)).alloc (by simp;omega) (.cells (ba 64 (mrk b n)) 328))
  have q0:row (((w.alloc (.cells (wa 8 s) 136)).alloc (.cells (wa 8 fun _=>0#32) 136)).alloc (.cells (ba 64 (mrk b n)) 328)) w.heap.size=some (wa 8 s):=by simp[go_sem]
  have q1:row (((w.alloc (.cells (wa 8 s) 136)).alloc (.cells (wa 8 fun _=>0#32) 136)).alloc (.cells (ba 64 (mrk b n)) 328)) (w.heap.size+1)=some (wa 8 fun _=>0#32):=by simp[go_sem]
  have q2:row (((w.alloc (.cells (wa 8 s) 136)).alloc (.cells (wa 8 fun _=>0#32) 136)).alloc (.cells (ba 64 (mrk b n)) 328)) (w.heap.size+1+1)=some (ba 64 (mrk b n)):=by simp[go_sem]
  refine (press_any s (mrk b n) _ (HT.out.below B1.out HT.out.pos)).mono ?_;rintro e w1 ⟨rfl,hb1⟩;have r0:=zD hb1 q0;have r1:=zD hb1 q1;have r2:=zD hb1 q2;have B2:=Lib.hid (onto B1.out (by simp;omega) hb1)
  have s1:w.heap.size+3<=w1.heap.size:=by have:=hb1.size;simp at this;omega
  clear hb1 q0 q1 q2 B1 B0 HS hset;obtain ⟨S,hS⟩:∃ S,S=prF kF s (mrk b n):=⟨_,rfl⟩;rw[<-hS];have B3:=Lib.hid (zG (zG B2.out (Nat.le_refl _) (wa 8 S)) (by omega:w.heap.size<=w.heap.size+1+1) (ba 64 fun _=>0#8))
  have t0:row ((w1.setRow w.heap.size (wa 8 S)).setRow (w.heap.size+1+1) (ba 64 fun _=>0#8)) w.heap.size=some (wa 8 S):=by rw[zF _ _ _ _ (by omega)];exact zE r0 _
  have t1:row ((w1.setRow w.heap.size (wa 8 S)).setRow (w.heap.size+1+1) (ba 64 fun _=>0#8)) (w.heap.size+1)=some (wa 8 fun _=>0#32):=by rw[zF _ _ _ _ (by omega),zF _ _ _ _ (by omega)];exact r1
  have r2':row (w1.setRow w.heap.size (wa 8 S)) (w.heap.size+1+1)=some (ba 64 (mrk b n)):=by rw[zF _ _ _ _ (by omega)];exact r2
  have t2:row ((w1.setRow w.heap.size (wa 8 S)).setRow (w.heap.size+1+1) (ba 64 fun _=>0#8)) (w.heap.size+1+1)=some (ba 64 fun _=>0#8):=zE r2' _
  have HT0:=Lib.hid t0;have HT1:=Lib.hid t1;have HT2:=Lib.hid t2;have HS2:=Lib.hid hS;clear t0 t1 t2 hS B2 r1 r2;go_wp2_with fail;generalize (w1.setRow w.heap.size (wa 8 S)).setRow (w.heap.size+1+1) (ba 64 fun _=>0#8)=w2 at HT0 HT1 HT2 B3 ⊢
  clear r0 r2';refine (wrn_any _ 56 8 8 64 x (fun _=>0#8) _ HT2.out (by omega) (by omega) hxb).mono ?_
  rintro e w' ⟨rfl,rfl⟩;rw[HX.out,show putF (fun _=>0#8) 56 8 (bgN 8 (8*L))=tll (fun _=>0#8) L from rfl]
  have B4:=Lib.hid (zG B3.out (by omega:w.heap.size<=w.heap.size+1+1) (ba 64 (tll (fun _=>0#8) L)))
  have r0:row (w2.setRow (w.heap.size+1+1) (ba 64 (tll (fun _=>0#8) L))) w.heap.size=some (wa 8 S):=by rw[zF _ _ _ _ (by omega)];exact HT0.out
  have r2:row (w2.setRow (w.heap.size+1+1) (ba 64 (tll (fun _=>0#8) L))) (w.heap.size+1+1)=some (ba 64 (tll (fun _=>0#8) L)):=zE HT2.out _
  have HR1:=Lib.hid (show row (w2.setRow (w.heap.size+1+1) (ba 64 (tll (fun _=>0#8) L))) (w.heap.size+1)=some (wa 8 fun _=>0#32) by rw[zF _ _ _ _ (by omega)];exact HT1.out)
  have s2:w.heap.size+2<(w2.setRow (w.heap.size+1+1) (ba 64 (tll (fun _=>0#8) L))).heap.size:=zK r2
  generalize w2.setRow (w.heap.size+1+1) (ba 64 (tll (fun _=>0#8) L))=w3 at B4 r0 r2 HR1 s2 ⊢
  go_wp2_with fail;refine (press_any S (tll (fun _=>0#8) L) _ (HT.out.below B4.out HT.out.pos)).mono ?_
  rintro e w4 ⟨rfl,hb4⟩;have r1:=zD hb4 HR1.out;have B5:=Lib.hid (onto B4.out (by omega) hb4)
  clear hb4 r0 r2;go_wp2_with fail;refine bodyPost_ret (v:=.agg (wa 8 (prF kF S (tll (fun _=>0#8) L)))) (zW rfl _ _ (w.heap.size+1) _ _ _ rfl (zE r1 _) s8_u (by rw[wa_size];exact s8_i)) rfl ⟨by rw[HV.out,<-HS2.out],?_⟩
  exact zG B5.out (by omega) _
def slN:Value->Nat
 | .slice _ n _=>n
 |_=>0
theorem m64_at(A:Option Addr)(n c:Nat)(h:64<=n)(w:World):(Instr.arrayAt 328 (.slice A n c)).run Tryz.prog w=.ok (.pointer A) w:=by
 simp[Instr.arrayAt,run_underlying m64_u,Nat.not_lt.2 h]
theorem m64_sl_ld{w:World}{B n c g o:Nat}{b:Bf}(hs:Sl w B (some ⟨g,o,none⟩) n c b)(h:64<=n):ldR Tryz.prog 328 64 w g o (row w g)=.ok (.agg (ba 64 b)) w:=by
 obtain ⟨g',o',e,_,hc⟩:=hs.at_ (by omega)
 obtain ⟨rfl,rfl⟩:g=g'/\o=o':=by injection e with e;injection e with e1 e2;exact ⟨e1,e2⟩
 rw[<-m64_ld]
 have hx:=run_loadAt_mid (P:=Tryz.prog) w g o 328 (ba 64 b).toList _ (fun j v hv=>by
  rw[Array.getElem?_toList] at hv
  by_cases hj:j<64
  ·rw[yA _ _ _ hj] at hv
   rw[hc j (by omega),hv]
  ·rw[yS _ _ _ hj] at hv;cases hv) m64_u rfl (by rw[Array.length_toList,zI];exact m64_i)
 rw[Array.toArray_toList] at hx;exact hx
structure ShInv(w:World)(p:Nat)(s:Wf)(wr:World):Prop where
 below:Below w.heap.size w wr
 hp:w.heap.size<p
 r0:row wr w.heap.size=some (ba 32 fun _=>0#8)
 rp:row wr p=some (wa 8 s)
theorem ShInv.size{w:World}{p:Nat}{s:Wf}{wr:World}(h:ShInv w p s wr):w.heap.size+2<=wr.heap.size:=by have:=zK h.rp;have:=h.hp;omega
theorem ShInv.call{w:World}{p:Nat}{s:Wf}{wr w':World}(h:ShInv w p s wr)(hb:Below wr.heap.size wr w'):ShInv w p s w':=
 ⟨onto h.below (by have:=h.size;omega) hb,h.hp,zD hb h.r0,zD hb h.rp⟩
theorem ShInv.put{w:World}{p:Nat}{s:Wf}{wr:World}(h:ShInv w p s wr)(s':Wf):ShInv w p s' (wr.setRow p (wa 8 s')):=
 ⟨zG h.below (by have:=h.hp;omega) _,h.hp,by rw[zF _ _ _ _ (by have:=h.hp;omega)];exact h.r0,zE h.rp _⟩
theorem hash_any(b:Bf)(n c:Nat)(A:Option Addr)(w:World)(ht:Tab w)(hs:Sl w w.heap.size A n c b)(hn:n<=140737488355328):
  Calls Tryz.prog 286 #[.slice A n c] w fun e w'=>e=.returned (.agg (ba 32 (shaF kF iF b n)))/\Below w.heap.size w w':=by
 have B0:=Lib.hid ((Below.refl w.heap.size w).alloc (by simp) (.cells (ba 32 fun _=>0#8) 66))
 have q0:row (w.alloc (.cells (ba 32 fun _=>0#8) 66)) w.heap.size=some (ba 32 fun _=>0#8):=by simp[go_sem]
 have HT:=Lib.hid ht;have HS:=Lib.hid hs;clear ht hs;go_enter Tryz.func286,Tryz.ntmps286;go_wp2_with fail;refine (start_any _).mono ?_;rintro e w1 ⟨rfl,hb1⟩
 have I1:ShInv w w1.heap.size (hst kF iF (msg b n) 0) (w1.alloc (.cells (wa 8 iF) 136)):=
  ⟨(onto B0.out (by simp) hb1).alloc (by have:=hb1.size;simp at this;omega) _,by have:=hb1.size;simp at this;omega,zN (zD hb1 q0) _,zA _ _ _ _ rfl⟩
 have HI1:=Lib.hid I1;clear I1 q0 hb1 B0;go_wp2_with fail;generalize hp:w1.heap.size=p at HI1 ⊢;generalize w1.alloc (.cells (wa 8 iF) 136)=w2 at HI1 ⊢;clear hp;go_loopw [0] (fun v wr=>∃ j:Nat,∃ A':Option Addr,∃ c':Nat,64*j<=n/\v=.slice A' (n-64*j) c'/\Sl wr w.heap.size A' (n-64*j) c' (offF b (64*j))/\ShInv w p (hst kF iF (msg b n) j) wr) (fun v _=>slN v)
 case atStart=>exact ⟨0,A,c,by omega,rfl,by rw[Nat.mul_zero,offF_zero];exact HS.out.below HI1.out.below,HI1.out⟩
 case round=>
  clear HI1 HS;obtain ⟨j,A',c',hj,rfl,hs,hI⟩:=hrel;obtain ⟨wo,rfl⟩:∃ wo:World,wo=wr:=⟨_,rfl⟩;obtain ⟨r,hr⟩:∃ r,r=n-64*j:=⟨_,rfl⟩;rw[<-hr];rw[<-hr] at hs;have HR:=Lib.hid hr;have HS:=Lib.hid hs;have HI:=Lib.hid hI;have HJ:=Lib.hid hj;obtain ⟨S,hS⟩:∃ S,S=hst kF iF (msg b n) j:=⟨_,rfl⟩;rw[<-hS] at HI;have HSS:=Lib.hid hS;clear hr hs hI hj hS
  by_cases hlt:64<=r
  ·have hd:decide ((64:Int)<=(r:Int))=true:=by simp;omega
   obtain ⟨g,o,hA,hg,-⟩:=HS.out.at_ (by omega)
   subst hA;have hup:=run_upto zZ u8_i (some (⟨g,o,none⟩:Addr)) r c' 64 (by have:=HS.out.le;omega)
   have hfrom:=xE zZ u8_i (some (⟨g,o,none⟩:Addr)) r c' 64 hlt;rw[show ((64:Nat):Int)=64 from rfl] at hup hfrom
   have hat:=m64_at (some (⟨g,o,none⟩:Addr)) 64 c' (Nat.le_refl _)
   have hld:∀ m,ldR Tryz.prog 328 64 (wo.drewN m) g o (row wo g)=.ok (.agg (ba 64 (offF b (64*j)))) (wo.drewN m):=fun m=>by
    rw[<-zS wo m g];exact m64_sl_ld (HS.out.drewN m) hlt
   have rp:=HI.out.rp;clear hg;go_wp2_with fail;refine quiet_tail 5 (by kernel_rfl) (by kernel_rfl) (fun _ _ _ _ _ h=>h) ?_
   simp only[List.take_succ_cons,List.take_zero,List.drop_succ_cons,List.drop_zero]
   repeat (go_big_quiet_step (fail))
   refine wpQuiet_nil ?_;rintro _ ⟨nq,rfl⟩;clear hld hup hat;go_wp2_with fail;refine (press_any S (offF b (64*j)) _ ((HT.out.below HI.out.below HT.out.pos).drewN nq)).mono ?_;rintro e w3 ⟨rfl,hb3⟩;have I3:=HI.out.call ((zQ (Below.refl wo.heap.size wo) nq).trans hb3);have rp3:=I3.rp;have HI4:=Lib.hid (I3.put (prF kF S (offF b (64*j))));have HS4:=Lib.hid (((HS.out.from_ 64 hlt).below (onto (zQ (Below.refl w.heap.size wo) nq) (by have:=HI.out.size;simp;omega) hb3)).below (zG (b:=p) (Below.refl w.heap.size w3) (by have:=I3.hp;omega) (wa 8 (prF kF S (offF b (64*j))))))
   clear hb3 I3 rp HI HS;have hj1:64*(j+1)<=n:=by have:=HR.out;omega
   have HE:=Lib.hid (show r-64=n-64*(j+1) by have:=HR.out;omega)
   have HV:=Lib.hid (show prF kF S (offF b (64*j))=hst kF iF (msg b n) (j+1) by
    rw[HSS.out];funext i;simp only[hst];unfold prF
    rw[sch_congr (fun k hk=>(full_piece b n j (by have:=HR.out;omega) k hk).symm)])
   go_wp2_with fail;go_roundw
   case rel=>
    rw[HE.out] at HS4 ⊢;rw[HV.out] at HI4 HS4 ⊢;exact ⟨j+1,_,_,hj1,rfl,HS4.out.congr fun i hi=>by unfold offF;congr 1;omega,HI4.out⟩
   case measure=>simp only[slN];omega
  ·have hd:decide ((64:Int)<=(r:Int))=false:=by simp;omega
   have rp:=HI.out.rp;go_wp2_with fail;refine (prest_any S (offF b (64*j)) r c' n A' _ (HT.out.below HI.out.below HT.out.pos) (HS.out.more (by have:=HI.out.size;omega)) (by omega) hn).mono ?_
   rintro e w3 ⟨rfl,hb3⟩;have HI3:=Lib.hid (HI.out.call hb3);clear hb3 HI rp
   have HV:=Lib.hid (show ba 32 (outF (rst kF S (offF b (64*j)) r n))=ba 32 (shaF kF iF b n) from xA fun i hi=>by
    unfold shaF;refine outF_congr (fun k hk=>?_) i hi
    rw[hst_rest kF iF b n j (by have:=HR.out;have:=HJ.out;omega) k hk,HSS.out,HR.out])
   go_wp2_with fail;refine (sumOf_any _ _).mono ?_;rintro e w4 ⟨rfl,hb4⟩;have HI4:=Lib.hid (HI3.out.call hb4);have r0:=HI4.out.r0;clear hb4 HI3;go_wp2_with fail;refine bodyPost_ret (v:=.agg (ba 32 (outF (rst kF S (offF b (64*j)) r n)))) (zW rfl _ _ w.heap.size _ _ _ rfl (zE r0 _) sum_u (by rw[zI];exact sum_i)) rfl ⟨by rw[HV.out],?_⟩
   exact zG HI4.out.below (by omega) _
end Go.Proofs.YteffjpdcghlnlaaGreatDoor.Oct
namespace Go.Proofs.YteffjpdcghlnlaaGreatDoor.Oct
open Go.RowKit
def keyF(k:Bf)(n:Nat):Bf:=fun i=>if 64<n then (if i<32 then shaF kF iF k n i else 0#8) else if i<n then k i else 0#8
def mskF(f:Bf)(v:BitVec 8):Bf:=fun i=>f i^^^v
def innF(k:Bf)(n:Nat)(b:Bf)(m:Nat):Bf:=shaF kF iF (catF 64 (mskF (keyF k n) 54#8) b) (64+m)
def macF(k:Bf)(n:Nat)(b:Bf)(m:Nat):Bf:=shaF kF iF (catF 64 (mskF (keyF k n) 92#8) (innF k n b m)) 96
abbrev St:=Bf×Bf
def mixT(s:St)(r:BitVec 8)(b:Bf):Bf:=catF (32+1) (catF 32 s.2 fun _=>r) b
def mixS(s:St)(r:BitVec 8)(b:Bf)(n:Nat):St:=(macF s.1 32 (mixT s r b) (32+1+n),macF (macF s.1 32 (mixT s r b) (32+1+n)) 32 s.2 32)
def updS(s:St)(b:Bf)(n:Nat):St:=if n=0 then mixS s 0#8 b n else mixS (mixS s 0#8 b n) 1#8 b n
def vsF(s:St):Nat->Bf
 |0=>s.2
 |i+1=>macF s.1 32 (vsF s i) 32
def drF(s:St):Bf:=fun j=>vsF s (j / 32+1) (j % 32)
def nV(n:Nat):Nat:=(n+31) / 32
def drwS(s:St)(n:Nat)(b:Bf)(m:Nat):St:=
 updS ((if m=0 then s else updS s b m).1,vsF (if m=0 then s else updS s b m) (nV n)) b m
def drwF(s:St)(b:Bf)(m:Nat):Bf:=drF (if m=0 then s else updS s b m)
def newS:St:=(fun _=>0#8,fun _=>1#8)
end Go.Proofs.YteffjpdcghlnlaaGreatDoor.Oct
namespace Go.Proofs.YteffjpdcghlnlaaGreatDoor.Oct
open Go.ChangeShapes Go.WideShapes Go.ChangeAt Go.RowKit
theorem bxor_any(f g:Bf)(w:World):
  Calls Tryz.prog 246 #[.agg (ba 16 f),.agg (ba 16 g)] w fun e w'=>e=.returned (.agg (ba 16 (xorF f g)))/\Below w.heap.size w w':=by
 go_enter Tryz.func246,Tryz.ntmps246;go_wp2;go_loopw [5,6] (fun _ i wr=>∃ k:Nat,k<=16/\i=.int .i64 k/\∃ n,wr=(((w.alloc (.cells (ba 16 (upto k (xorF f g) f)) 266)).alloc (.cells (ba 16 g) 266)).alloc (.cells (ba 16 fun _=>0#8) 266)).drewN n) (fun _ i _=>16-(intOf i).toNat)
 case atStart=>
  refine ⟨0,by omega,rfl,0,?_⟩
  rw[yP];rfl
 case round=>
  obtain ⟨k,hk,rfl,n,rfl⟩:=hrel
  by_cases hlt:k<16
  ·have H:=Lib.hid (yX k (xorF f g) f)
   go_wp2;refine quiet_tail 8 (by kernel_rfl) (by kernel_rfl) (fun _ _ _ _ _ h=>h) ?_
   simp only[List.take_succ_cons,List.take_zero,List.drop_succ_cons,List.drop_zero]
   repeat (go_big_quiet_step (fail))
   refine wpQuiet_nil ?_;rintro _ ⟨m,rfl⟩;go_wp2;go_roundw
   case rel=>exact ⟨k+1,by omega,by go_num,n+m,by rw[<-H.out];rfl⟩
   case measure=>simp[intOf];omega
  ·obtain rfl:k=16:=by omega
   rw[xI];go_wp2;refine bodyPost_ret (v:=.agg (ba 16 (xorF f g))) (zW rfl _ _ (w.heap.size+1+1) _ _ _ rfl (by simp[go_sem]) blk_u (by rw[zI];exact blk_i)) rfl ⟨rfl,?_⟩
   exact zQ ((((Below.refl _ _).alloc (by simp) _).alloc (by simp) _).alloc (by simp;omega) _) _
def b1(c:Bool):BitVec 8:=if c then 1#8 else 0#8
theorem bit_val:∀ (k:Fin 8) (b:BitVec 8),bits .and .u8 (I b / 2^k.val) 1=I (b1 (b.getLsbD k.val)):=by decide+kernel
theorem coef_any(f:Bf)(k:Nat)(hk:k<128)(w:World):
  Calls Tryz.prog 296 #[.agg (ba 16 f),.int .i64 k] w fun e w'=>e=.returned (.int .u8 (I (b1 (fbit f k))))/\Below w.heap.size w w':=by
 have h8:k / 8<16:=by omega
 obtain ⟨hb0,hb1⟩:=I_bd (f (k / 8));go_enter Tryz.func296,Tryz.ntmps296;go_wp2;go_ret;refine ⟨ret_u8 ?_,(Below.refl _ _).alloc (by simp) _⟩
 exact bit_val ⟨7-k % 8,by omega⟩ (f (k / 8))
def nxF:Nat->Bf->Bf
 |0,f=>f
 |n+1,f=>if f (12+n)+1#8=0#8 then nxF n (upd f (12+n) (f (12+n)+1#8)) else upd f (12+n) (f (12+n)+1#8)
def nextF(f:Bf):Bf:=nxF 4 f
theorem nxF_low(n:Nat)(f:Bf)(i:Nat)(hi:i<12):nxF n f i=f i:=by
 induction n generalizing f with
 |zero=>rfl
 |succ n ih=>
  unfold nxF
  split
  ·rw[ih];unfold upd;rw[if_neg (by omega)]
  ·unfold upd;rw[if_neg (by omega)]
theorem nextF_low(f:Bf)(i:Nat)(hi:i<12):nextF f i=f i:=nxF_low 4 f i hi
theorem I_inc:∀ a:BitVec 8,(I a+1) % 256=I (a+1#8):=by decide+kernel
theorem I_nz:∀ v:BitVec 8,v≠0#8->(I v !=0)=true:=by decide+kernel
@[go_sem] theorem upd_same(f:Bf)(k:Nat)(v:BitVec 8):upd f k v k=v:=by simp[upd]
theorem nxF_stop{n:Nat}{g:Bf}{v:BitVec 8}(hv:v=g (12+n)+1#8)(h:v≠0#8):nxF (n+1) g=upd g (12+n) v:=by
 subst hv;unfold nxF;rw[if_neg h]
theorem nxF_on{n:Nat}{g:Bf}{v:BitVec 8}(hv:v=g (12+n)+1#8)(h:v=0#8):nxF (n+1) g=nxF n (upd g (12+n) v):=by
 subst hv;conv=>lhs;unfold nxF
 rw[if_pos h]
theorem bnext_any(f:Bf)(w:World):
  Calls Tryz.prog 248 #[.agg (ba 16 f)] w fun e w'=>e=.returned (.agg (ba 16 (nextF f)))/\Below w.heap.size w w':=by
 go_enter Tryz.func248,Tryz.ntmps248;go_wp2;go_loopw [3] (fun i wr=>∃ n:Nat,∃ g:Bf,n<=4/\i=.int .i64 (11+(n:Int))/\nxF n g=nextF f/\wr=(w.alloc (.cells (ba 16 g) 266)).alloc (.cells (ba 16 fun _=>0#8) 266)) (fun i _=>(intOf i).toNat)
 case atStart=>exact ⟨4,f,by omega,rfl,rfl,rfl⟩
 case round=>
  obtain ⟨n,g,hn,rfl,hg,rfl⟩:=hrel;have HG:=Lib.hid hg;clear hg;rcases n with _|n
  ·go_wp2
   have e:=HG.out;unfold nxF at e;rw[e];refine bodyPost_ret (v:=.agg (ba 16 (nextF f))) (zW rfl _ _ (w.heap.size+1) _ _ _ rfl (by simp[go_sem]) blk_u (by rw[zI];exact blk_i)) rfl ⟨rfl,?_⟩
   exact ((Below.refl _ _).alloc (by simp) _).alloc (by simp) _
  ·have e1:(11+((n+1:Nat):Int))=12+(n:Int):=by omega
   rw[e1];obtain ⟨hb0,hb1⟩:=I_bd (g (12+n));obtain ⟨v,hv⟩:∃ v,v=g (12+n)+1#8:=⟨_,rfl⟩;have hi:=I_inc (g (12+n));rw[<-hv] at hi;have HV:=Lib.hid hv;have b16:12+n<16:=by omega
   have b12:(12:Int)<=12+(n:Int):=by omega
   clear hv e1
   by_cases hz:v=0#8
   ·have q1:(I v !=0)=false:=by rw[hz];rfl
    have HZ:=Lib.hid hz;clear hz;go_wp2;go_roundw
    case rel=>exact ⟨n,_,by omega,by congr 1;omega,by rw[<-HG.out,nxF_on HV.out HZ.out],rfl⟩
    case measure=>simp[intOf];omega
   ·have q1:(I v !=0)=true:=I_nz v hz
    have HN:=Lib.hid hz;clear hz;go_wp2;rw[<-nxF_stop HV.out HN.out,HG.out];refine bodyPost_ret (v:=.agg (ba 16 (nextF f))) (zW rfl _ _ (w.heap.size+1) _ _ _ rfl (by simp[go_sem]) blk_u (by rw[zI];exact blk_i)) rfl ⟨rfl,?_⟩
    exact ((Below.refl _ _).alloc (by simp) _).alloc (by simp) _
def L(v:BitVec 64):Int:=(v.toNat:Int)
theorem L_bd(v:BitVec 64):0<=L v/\L v<=18446744073709551615:=by unfold L;omega
@[go_sem] theorem L_xor(a b:BitVec 64):bits .xor .u64 (L a) (L b)=L (a^^^b):=by unfold L;rw[u64_xor_nat _ _ a.isLt b.isLt,BitVec.toNat_xor]
@[go_sem] theorem L_or(a b:BitVec 64):bits .or .u64 (L a) (L b)=L (a|||b):=by unfold L;rw[u64_or_nat _ _ a.isLt b.isLt,BitVec.toNat_or]
@[go_sem] theorem L_orI(a:BitVec 64)(v:BitVec 8):bits .or .u64 (L a) (I v)=L (a|||v.setWidth 64):=by
 unfold L I;rw[u64_or_nat _ _ a.isLt (by omega),BitVec.toNat_or,BitVec.toNat_setWidth,Nat.mod_eq_of_lt (show v.toNat<2^64 by omega)]
theorem u64_wrap_nat(n:Nat):IntKind.u64.wrap (n:Int)=((n % 18446744073709551616:Nat):Int):=by
 show (n:Int) % 18446744073709551616=_;rw[Int.natCast_emod];rfl
@[go_sem] theorem L_shl8(a:BitVec 64):IntKind.u64.wrap (L a*256)=L (a<<<8):=by
 unfold L;rw[show (a.toNat:Int)*256=((a.toNat*256:Nat):Int) by rw[Int.natCast_mul];rfl,u64_wrap_nat,BitVec.toNat_shiftLeft,Nat.shiftLeft_eq]
@[go_sem] theorem L_shl63(a:BitVec 64):IntKind.u64.wrap (L a*9223372036854775808)=L (a<<<63):=by
 unfold L;rw[show (a.toNat:Int)*9223372036854775808=((a.toNat*9223372036854775808:Nat):Int) by rw[Int.natCast_mul];rfl,u64_wrap_nat,BitVec.toNat_shiftLeft,Nat.shiftLeft_eq]
@[go_sem] theorem L_shr1(a:BitVec 64):L a / (2:Int)=L (a>>>1):=by
 unfold L;rw[BitVec.toNat_ushiftRight,Nat.shiftRight_eq_div_pow,Int.natCast_ediv];rfl
@[irreducible] def pq(x y:BitVec 64):Array Value:=#[.int .u64 (L x),.int .u64 (L y)]
@[go_sem] theorem pq_size(x y:BitVec 64):(pq x y).size=2:=by unfold pq;rfl
@[go_sem] theorem pq_0(x y:BitVec 64)(h:0<(pq x y).size):(pq x y)[0]=.int .u64 (L x):=by unfold pq;rfl
@[go_sem] theorem pq_1(x y:BitVec 64)(h:1<(pq x y).size):(pq x y)[1]=.int .u64 (L y):=by unfold pq;rfl
@[go_sem] theorem pq_set0(x y z:BitVec 64):(pq x y).setIfInBounds 0 (.int .u64 (L z))=pq z y:=by unfold pq;rfl
@[go_sem] theorem pq_set1(x y z:BitVec 64):(pq x y).setIfInBounds 1 (.int .u64 (L z))=pq x z:=by unfold pq;rfl
@[go_sem] theorem ones_pq(x y:BitVec 64):Ones (pq x y):=by unfold Ones pq;simp[Value.oneCell']
@[go_sem] theorem pq_ne(x y:BitVec 64):(pq x y=#[])=False:=eq_false fun e=>by have:=congrArg Array.size e;rw[pq_size] at this;simp at this
@[go_sem] theorem ldR_pq(P:Program)(t:Nat)(w:World)(b:Nat)(x y:BitVec 64):ldR P t 2 w b 0 (some (pq x y))=.ok (.agg (pq x y)) w:=by
 unfold ldR;simp only[pq_size];rw[if_pos (by omega)]
 congr 2;unfold pq;rfl
@[go_sem] theorem stR_pq(P:Program)(t:Nat)(w:World)(b:Nat)(x y u v:BitVec 64):stR P t 2 w b 0 (.agg (pq x y)) (some (pq u v))=.ok () (w.setRow b (pq x y)):=by
 have e:0+2<=(pq u v).size/\(Value.agg (pq x y)).cells.size=2/\Ones (Value.agg (pq x y)).cells:=⟨by rw[pq_size];omega,pq_size x y,ones_pq x y⟩
 unfold stR;simp only[if_pos e];congr 2;unfold pq;rfl
theorem ply_u:Tryz.prog.underlying 347=some (.array 2 253):=by kernel_rfl
theorem ply_i:(Tryz.prog.info? 347).map (·.size)=some 2:=by kernel_rfl
@[go_sem ↓] theorem ply_l(p:Value):Instr.loadAt 347 p=ldA 347 p:=rfl
@[go_sem ↓] theorem ply_s(p v:Value):Instr.storeAt 347 p v=stA 347 p v:=rfl
@[go_sem] theorem ply_ld(w:World)(b o:Nat):(ldA 347 (.pointer (some ⟨b,o,none⟩))).run Tryz.prog w=ldR Tryz.prog 347 2 w b o (row w b):=xG _ _ _ ply_u 2 ply_i w b o
@[go_sem] theorem ply_st(w:World)(b o:Nat)(c:Array Value):(stA 347 (.pointer (some ⟨b,o,none⟩)) (.agg c)).run Tryz.prog w=stR Tryz.prog 347 2 w b o (.agg c) (row w b):=yR _ 2 ply_i w b o c
theorem ply_z:(Tryz.prog.info? 347).map (·.zero)=some (some (.agg (pq 0#64 0#64))):=by unfold pq;kernel_rfl
@[go_sem ↓] theorem ply_zero(w:World):(zeroValue 347).run Tryz.prog w=.ok (.agg (pq 0#64 0#64)) w:=yG _ _ ply_z w
def wd(f:Bf)(s:Nat):Nat->BitVec 64
 |0=>0#64
 |k+1=>(wd f s k<<<8)|||(f (s+k)).setWidth 64
theorem polyOf_any(f:Bf)(w:World):
  Calls Tryz.prog 295 #[.agg (ba 16 f)] w fun e w'=>e=.returned (.agg (pq (wd f 0 8) (wd f 8 8)))/\Below w.heap.size w w':=by
 go_enter Tryz.func295,Tryz.ntmps295;go_wp2;go_loopw [4,5,7] (fun _ _ i wr=>∃ k:Nat,k<=16/\i=.int .i64 k/\wr=((w.alloc (.cells (ba 16 f) 266)).alloc (.cells (pq 0#64 0#64) 347)).alloc (.cells (pq (wd f 0 (min k 8)) (wd f 8 (k-8))) 347)) (fun _ _ i _=>16-(intOf i).toNat)
 case atStart=>exact ⟨0,by omega,rfl,rfl⟩
 case round=>
  obtain ⟨k,hk,rfl,rfl⟩:=hrel
  by_cases hlt:k<16
  ·obtain ⟨hb0,hb1⟩:=I_bd (f k)
   by_cases h8:k<8
   ·have q:(k:Int) / 8=0:=by omega
    obtain ⟨x,hx⟩:∃ x,x=wd f 0 (min k 8):=⟨_,rfl⟩;obtain ⟨y,hy⟩:∃ x,x=wd f 8 (k-8):=⟨_,rfl⟩;rw[<-hx,<-hy];have HX:=Lib.hid hx;have HY:=Lib.hid hy;obtain ⟨hx0,hx1⟩:=L_bd x;clear hx hy;go_wp2;go_roundw
    case rel=>
     refine ⟨k+1,by omega,by go_num,?_⟩
     rw[HX.out,HY.out,show min (k+1) 8=min k 8+1 by omega,show k-8=0 by omega,show k+1-8=0 by omega]
     simp only[wd];rw[show 0+min k 8=k by omega]
    case measure=>simp[intOf];omega
   ·have q:(k:Int) / 8=1:=by omega
    obtain ⟨x,hx⟩:∃ x,x=wd f 0 (min k 8):=⟨_,rfl⟩;obtain ⟨y,hy⟩:∃ x,x=wd f 8 (k-8):=⟨_,rfl⟩;rw[<-hx,<-hy];have HX:=Lib.hid hx;have HY:=Lib.hid hy;obtain ⟨hy0,hy1⟩:=L_bd y;clear hx hy;go_wp2;go_roundw
    case rel=>
     refine ⟨k+1,by omega,by go_num,?_⟩
     rw[HX.out,HY.out,show min (k+1) 8=8 by omega,show min k 8=8 by omega,show k+1-8=(k-8)+1 by omega]
     simp only[wd];rw[show 8+(k-8)=k by omega]
    case measure=>simp[intOf];omega
  ·obtain rfl:k=16:=by omega
   go_wp2;refine bodyPost_ret (v:=.agg (pq (wd f 0 8) (wd f 8 8))) (zW rfl _ _ (w.heap.size+1) _ _ _ rfl (by simp[go_sem]) ply_u (by rw[pq_size];exact ply_i)) rfl ⟨rfl,?_⟩
   exact (((Below.refl _ _).alloc (by simp) _).alloc (by simp) _).alloc (by simp;omega) _
def tx0(x y:BitVec 64):BitVec 64:=(x>>>1)^^^(if y.getLsbD 0 then 16212958658533785600#64 else 0#64)
def tx1(x y:BitVec 64):BitVec 64:=(x<<<63)|||(y>>>1)
@[go_sem] theorem L_xorR(a:BitVec 64):bits .xor .u64 (L a) 16212958658533785600=L (a^^^16212958658533785600#64):=
 L_xor a 16212958658533785600#64
theorem L_odd(y:BitVec 64)(c:Bool)(h:y.getLsbD 0=c):(bits .and .u64 (L y) 1==1)=c:=by
 unfold L;have e:=u64_and_nat y.toNat 1 y.isLt (by omega)
 rw[show ((1:Nat):Int)=1 from rfl] at e
 rw[e,Nat.and_one_is_mod,<-h,<-BitVec.testBit_toNat,Nat.testBit_zero];rw[Bool.eq_iff_iff];simp;omega
theorem timesX_any(x y:BitVec 64)(w:World):
  Calls Tryz.prog 297 #[.agg (pq x y)] w fun e w'=>e=.returned (.agg (pq (tx0 x y) (tx1 x y)))/\Below w.heap.size w w':=by
 obtain ⟨hx0,hx1⟩:=L_bd x;obtain ⟨hy0,hy1⟩:=L_bd y;cases hc:y.getLsbD 0
 ·have ht:=L_odd y false hc
  have HV:=Lib.hid (show pq (x>>>1) (x<<<63|||y>>>1)=pq (tx0 x y) (tx1 x y) by unfold tx0 tx1;rw[hc];simp)
  clear hc;go_enter Tryz.func297,Tryz.ntmps297;go_wp2;rw[HV.out];refine bodyPost_ret (v:=.agg (pq (tx0 x y) (tx1 x y))) (zW rfl _ _ (w.heap.size+1) _ _ _ rfl (by simp[go_sem]) ply_u (by rw[pq_size];exact ply_i)) rfl ⟨rfl,?_⟩
  exact (((Below.refl _ _).alloc (by simp) _).alloc (by simp) _).alloc (by simp;omega) _
 ·have ht:=L_odd y true hc
  have HV:=Lib.hid (show pq (x>>>1^^^16212958658533785600#64) (x<<<63|||y>>>1)=pq (tx0 x y) (tx1 x y) by unfold tx0 tx1;rw[hc];simp)
  clear hc;go_enter Tryz.func297,Tryz.ntmps297;go_wp2;rw[HV.out];refine bodyPost_ret (v:=.agg (pq (tx0 x y) (tx1 x y))) (zW rfl _ _ (w.heap.size+1) _ _ _ rfl (by simp[go_sem]) ply_u (by rw[pq_size];exact ply_i)) rfl ⟨rfl,?_⟩
  exact (((Below.refl _ _).alloc (by simp) _).alloc (by simp) _).alloc (by simp;omega) _
theorem L_byte(x:BitVec 64)(s:Nat):L x / (2:Int)^s % 256=I ((x>>>s).setWidth 8):=by
 unfold L I;rw[BitVec.toNat_setWidth,BitVec.toNat_ushiftRight,Nat.shiftRight_eq_div_pow,Int.natCast_emod,Int.natCast_ediv,Int.natCast_pow];rfl
theorem byt_hi(x y:BitVec 64)(k:Nat)(h:k<8):(x>>>(56-k % 8*8)).setWidth 8=byt (x++y) k:=by
 apply BitVec.eq_of_getLsbD_eq;intro j hj;unfold byt;rw[BitVec.getLsbD_setWidth,BitVec.getLsbD_ushiftRight,BitVec.getLsbD_extractLsb',BitVec.getLsbD_append];rw[if_neg (by omega),show 120-8*k+j-64=56-k % 8*8+j by omega]
theorem byt_lo(x y:BitVec 64)(k:Nat)(h:8<=k)(h':k<16):(y>>>(56-k % 8*8)).setWidth 8=byt (x++y) k:=by
 apply BitVec.eq_of_getLsbD_eq;intro j hj;unfold byt;rw[BitVec.getLsbD_setWidth,BitVec.getLsbD_ushiftRight,BitVec.getLsbD_extractLsb',BitVec.getLsbD_append];rw[if_pos (by omega),show 120-8*k+j=56-k % 8*8+j by omega]
theorem blockOf_any(x y:BitVec 64)(w:World):
  Calls Tryz.prog 298 #[.agg (pq x y)] w fun e w'=>e=.returned (.agg (ba 16 (byt (x++y))))/\Below w.heap.size w w':=by
 go_enter Tryz.func298,Tryz.ntmps298;go_wp2;go_loopw [4,5] (fun _ i wr=>∃ k:Nat,k<=16/\i=.int .i64 k/\wr=((w.alloc (.cells (pq x y) 347)).alloc (.cells (ba 16 fun _=>0#8) 266)).alloc (.cells (ba 16 (upto k (byt (x++y)) fun _=>0#8)) 266)) (fun _ i _=>16-(intOf i).toNat)
 case atStart=>exact ⟨0,by omega,rfl,by rw[yP]⟩
 case round=>
  obtain ⟨k,hk,rfl,rfl⟩:=hrel
  by_cases hlt:k<16
  ·obtain ⟨hx0,hx1⟩:=L_bd x
   obtain ⟨hy0,hy1⟩:=L_bd y;have HS:=Lib.hid (yX k (byt (x++y)) fun _=>0#8)
   by_cases h8:k<8
   ·have q:(k:Int) / 8=0:=by omega
    have HB:=Lib.hid (byt_hi x y k h8);go_wp2;go_roundw
    case rel=>exact ⟨k+1,by omega,by go_num,by rw[L_byte,HB.out,ba_set,HS.out]⟩
    case measure=>simp[intOf];omega
   ·have q:(k:Int) / 8=1:=by omega
    have HB:=Lib.hid (byt_lo x y k (by omega) hlt)
    go_wp2;go_roundw
    case rel=>exact ⟨k+1,by omega,by go_num,by rw[L_byte,HB.out,ba_set,HS.out]⟩
    case measure=>simp[intOf];omega
  ·obtain rfl:k=16:=by omega
   rw[xI];go_wp2;refine bodyPost_ret (v:=.agg (ba 16 (byt (x++y)))) (zW rfl _ _ (w.heap.size+1) _ _ _ rfl (by simp[go_sem]) blk_u (by rw[zI];exact blk_i)) rfl ⟨rfl,?_⟩
   exact (((Below.refl _ _).alloc (by simp) _).alloc (by simp) _).alloc (by simp;omega) _
theorem wd_bit(f:Bf)(s:Nat):∀ k j,j<64->(wd f s k).getLsbD j=(decide (j<8*k)&&(f (s+k-1-j / 8)).getLsbD (j % 8)):=by
 intro k
 induction k with
 |zero=>intro j _;simp[wd]
 |succ k ih=>
  intro j hj;simp only[wd];rw[BitVec.getLsbD_or,BitVec.getLsbD_shiftLeft,BitVec.getLsbD_setWidth]
  by_cases h:j<8
  ·rw[show j / 8=0 by omega,show j % 8=j by omega,show s+(k+1)-1-0=s+k by omega]
   simp[h,hj];omega
  ·rw[ih (j-8) (by omega),BitVec.getLsbD_of_ge (f (s+k)) j (by omega),Bool.and_false,Bool.or_false,show (j-8) % 8=j % 8 by omega,show s+(k+1)-1-j / 8=s+k-1-(j-8) / 8 by omega]
   simp only[hj,h,decide_true,decide_false,Bool.not_false,Bool.true_and];congr 1;rw[Bool.eq_iff_iff];simp;omega
theorem pol_words(f:Bf):pol f=wd f 0 8++wd f 8 8:=bt_ext fun i hi=>by
 rw[bt_pol f i hi];unfold bt fbit;rw[BitVec.getLsbD_append]
 by_cases h:i<64
 ·rw[if_neg (by omega),wd_bit _ _ _ _ (by omega),decide_eq_true (by omega),Bool.true_and,show 0+8-1-(127-i-64) / 8=i / 8 by omega,show (127-i-64) % 8=7-i % 8 by omega]
 ·rw[if_pos (by omega),wd_bit _ _ _ _ (by omega),decide_eq_true (by omega),Bool.true_and,show 8+8-1-(127-i) / 8=i / 8 by omega,show (127-i) % 8=7-i % 8 by omega]
theorem gx_words(x y:BitVec 64):gx (x++y)=tx0 x y++tx1 x y:=by
 have hR:gR=16212958658533785600#64++0#64:=by decide
 have h0:(x++y).getLsbD 0=y.getLsbD 0:=by rw[BitVec.getLsbD_append,if_pos (by omega)]
 have hs:(x++y)>>>1=(x>>>1)++((x<<<63)|||(y>>>1)):=by
  apply BitVec.eq_of_getLsbD_eq;intro j hj;rw[BitVec.getLsbD_ushiftRight,BitVec.getLsbD_append,BitVec.getLsbD_append]
  by_cases h:j<63
  ·rw[if_pos (by omega),if_pos (by omega),BitVec.getLsbD_or,BitVec.getLsbD_shiftLeft,BitVec.getLsbD_ushiftRight]
   simp[show j<63 from h]
  ·by_cases h2:j=63
   ·subst h2
    rw[if_neg (by omega),if_pos (by omega),BitVec.getLsbD_or,BitVec.getLsbD_shiftLeft,BitVec.getLsbD_ushiftRight]
    simp
   ·rw[if_neg (by omega),if_neg (by omega),BitVec.getLsbD_ushiftRight]
    congr 1;omega
 have hz:∀ a b c d:BitVec 64,(a++b)^^^(c++d)=(a^^^c)++(b^^^d):=fun a b c d=>by
  apply BitVec.eq_of_getLsbD_eq;intro j hj;rw[BitVec.getLsbD_xor,BitVec.getLsbD_append,BitVec.getLsbD_append,BitVec.getLsbD_append]
  by_cases h:j<64
  ·simp[h]
  ·simp[h]
 unfold gx tx0 tx1;rw[h0,hs,hR];cases y.getLsbD 0
 ·simp
 ·simp only[if_true]
  rw[hz,BitVec.xor_zero]
theorem add_words(a b c d:BitVec 64):(a++b)^^^(c++d)=(a^^^c)++(b^^^d):=by
 apply BitVec.eq_of_getLsbD_eq;intro j hj;rw[BitVec.getLsbD_xor,BitVec.getLsbD_append,BitVec.getLsbD_append,BitVec.getLsbD_append]
 by_cases h:j<64
 ·simp[h]
 ·simp[h]
theorem gmF_words{x y:BitVec 64}{f g:Bf}(h:x++y=gmA (pol f) (pol g) 128):byt (x++y)=gmF f g:=by rw[h];rfl
theorem mul_on{x y u v:BitVec 64}{f g:Bf}{k:Nat}(hk:k<128)(h1:x++y=gmA (pol f) (pol g) k)(h2:u++v=gxn k (pol g))(hb:fbit f k=true):
  (x^^^u)++(y^^^v)=gmA (pol f) (pol g) (k+1):=by
 rw[<-add_words,h1,h2];show _=gmA _ _ k^^^sel (bt (pol f) k) (gxn k (pol g));rw[bt_pol f k hk,hb];rfl
theorem mul_off{x y:BitVec 64}{f g:Bf}{k:Nat}(hk:k<128)(h1:x++y=gmA (pol f) (pol g) k)(hb:fbit f k=false):
  x++y=gmA (pol f) (pol g) (k+1):=by
 rw[h1];show _=gmA _ _ k^^^sel (bt (pol f) k) (gxn k (pol g));rw[bt_pol f k hk,hb];simp[sel]
theorem mul_x{u v:BitVec 64}{g:Bf}{k:Nat}(h2:u++v=gxn k (pol g)):tx0 u v++tx1 u v=gxn (k+1) (pol g):=by
 rw[<-gx_words,h2];rfl
structure MuInv(w:World)(f:Bf)(q:Nat)(x y u v:BitVec 64)(wr:World):Prop where
 below:Below w.heap.size w wr
 hq:w.heap.size+4<=q
 r0:row wr w.heap.size=some (ba 16 f)
 r2:row wr (w.heap.size+1+1)=some (ba 16 fun _=>0#8)
 r3:row wr (w.heap.size+1+1+1)=some (pq x y)
 rq:row wr q=some (pq u v)
theorem MuInv.size{w:World}{f:Bf}{q:Nat}{x y u v:BitVec 64}{wr:World}(h:MuInv w f q x y u v wr):w.heap.size+5<=wr.heap.size:=by
 have:=zK h.rq;have:=h.hq;omega
theorem MuInv.call{w:World}{f:Bf}{q:Nat}{x y u v:BitVec 64}{wr w':World}(h:MuInv w f q x y u v wr)(hb:Below wr.heap.size wr w'):MuInv w f q x y u v w':=
 ⟨onto h.below (by have:=h.size;omega) hb,h.hq,zD hb h.r0,zD hb h.r2,zD hb h.r3,zD hb h.rq⟩
theorem MuInv.setq{w:World}{f:Bf}{q:Nat}{x y u v:BitVec 64}{wr:World}(h:MuInv w f q x y u v wr)(u' v':BitVec 64):MuInv w f q x y u' v' (wr.setRow q (pq u' v')):=by
 have hq:=h.hq;exact ⟨zG h.below (by omega) _,hq,by rw[zF _ _ _ _ (by omega)];exact h.r0,by rw[zF _ _ _ _ (by omega)];exact h.r2,by rw[zF _ _ _ _ (by omega)];exact h.r3,zE h.rq _⟩
theorem MuInv.set0{w:World}{f:Bf}{q:Nat}{x y u v:BitVec 64}{wr:World}(h:MuInv w f q x y u v wr)(z:BitVec 64):MuInv w f q z y u v (wr.setCell ⟨w.heap.size+1+1+1,0,none⟩ (.int .u64 (L z))):=by
 have hq:=h.hq;rw[zL h.r3,pq_set0];exact ⟨zG h.below (by omega) _,hq,by rw[zF _ _ _ _ (by omega)];exact h.r0,by rw[zF _ _ _ _ (by omega)];exact h.r2,zE h.r3 _,by rw[zF _ _ _ _ (by omega)];exact h.rq⟩
theorem MuInv.set1{w:World}{f:Bf}{q:Nat}{x y u v:BitVec 64}{wr:World}(h:MuInv w f q x y u v wr)(z:BitVec 64):MuInv w f q x z u v (wr.setCell ⟨w.heap.size+1+1+1,1,none⟩ (.int .u64 (L z))):=by
 have hq:=h.hq;rw[zL h.r3,pq_set1];exact ⟨zG h.below (by omega) _,hq,by rw[zF _ _ _ _ (by omega)];exact h.r0,by rw[zF _ _ _ _ (by omega)];exact h.r2,zE h.r3 _,by rw[zF _ _ _ _ (by omega)];exact h.rq⟩
@[go_sem] theorem row_setCell_ne(w:World)(a:Addr)(b:Nat)(v:Value)(h:b≠a.block):row (w.setCell a v) b=row w b:=zX w a b v h
theorem bmul_any(f g:Bf)(w:World):
  Calls Tryz.prog 277 #[.agg (ba 16 f),.agg (ba 16 g)] w fun e w'=>e=.returned (.agg (ba 16 (gmF f g)))/\Below w.heap.size w w':=by
 have B0:=Lib.hid (((((Below.refl w.heap.size w).alloc (by simp) (.cells (ba 16 f) 266)).alloc (by simp) (.cells (ba 16 g) 266)).alloc (by simp;omega) (.cells (ba 16 fun _=>0#8) 266)).alloc (by simp;omega) (.cells (pq 0#64 0#64) 347))
 go_enter Tryz.func277,Tryz.ntmps277;go_wp2_with fail;refine (polyOf_any g _).mono ?_;rintro e w1 ⟨rfl,hb1⟩
 have I0:MuInv w f w1.heap.size 0#64 0#64 (wd g 0 8) (wd g 8 8) (w1.alloc (.cells (pq (wd g 0 8) (wd g 8 8)) 347)):=by
  have s1:w.heap.size+4<=w1.heap.size:=by have:=hb1.size;simp at this;omega
  exact ⟨(onto B0.out (by simp;omega) hb1).alloc (by omega) _,by omega,zN (zD hb1 (by simp[go_sem])) _,zN (zD hb1 (by simp[go_sem])) _,zN (zD hb1 (by simp[go_sem])) _,by simp[go_sem]⟩
 have HI0:=Lib.hid I0;clear I0 hb1 B0;go_wp2_with fail;go_loopw [7,10] (fun _ i wr=>∃ k:Nat,k<=128/\i=.int .i64 k/\∃ x y u v,x++y=gmA (pol f) (pol g) k/\u++v=gxn k (pol g)/\MuInv w f w1.heap.size x y u v wr) (fun _ i _=>128-(intOf i).toNat)
 case atStart=>exact ⟨0,by omega,rfl,_,_,_,_,rfl,(pol_words g).symm,HI0.out⟩
 case round=>
  clear HI0;obtain ⟨k,hk,rfl,x,y,u,v,hxy,huv,hI⟩:=hrel;have HXY:=Lib.hid hxy;have HUV:=Lib.hid huv;have r0:=hI.r0;have HI:=Lib.hid hI;clear hI hxy huv
  by_cases hlt:k<128
  ·go_wp2_with fail
   refine (coef_any f k hlt _).mono ?_;rintro e w2 ⟨rfl,hb2⟩;have I2:=HI.out.call hb2;clear hb2 r0 HI;have rq:=I2.rq;have cq:=zC rq;have H2:=Lib.hid I2;cases hb:fbit f k
   ·have HX:=Lib.hid (mul_off hlt HXY.out hb)
    have hd:(I (b1 false)==1)=false:=by decide
    clear hb I2 HXY cq;go_wp2_with fail;refine (timesX_any u v _).mono ?_;rintro e w3 ⟨rfl,hb3⟩;have I3:=H2.out.call hb3;have rq3:=I3.rq;have H4:=Lib.hid (I3.setq (tx0 u v) (tx1 u v));clear hb3 I3 rq H2 hd;go_wp2_with fail;go_roundw
    case rel=>exact ⟨k+1,by omega,by go_num,_,_,_,_,HX.out,mul_x HUV.out,H4.out⟩
    case measure=>simp[intOf];omega
   ·have HX:=Lib.hid (mul_on hlt HXY.out HUV.out hb)
    have hd:(I (b1 true)==1)=true:=by decide
    have c3:=zC I2.r3;have f3:=zJ I2.r3;have hne:w1.heap.size≠w.heap.size+1+1+1:=by have:=I2.hq;omega
    clear hb I2 HXY;go_wp2_with fail;refine (timesX_any u v _).mono ?_;rintro e w3 ⟨rfl,hb3⟩;have I3:=((H2.out.set0 (x^^^u)).set1 (y^^^v)).call hb3;have rq3:=I3.rq;have H4:=Lib.hid (I3.setq (tx0 u v) (tx1 u v));clear hb3 I3 rq H2 hd c3 f3 cq hne;go_wp2_with fail;go_roundw
    case rel=>exact ⟨k+1,by omega,by go_num,_,_,_,_,HX.out,mul_x HUV.out,H4.out⟩
    case measure=>simp[intOf];omega
  ·obtain rfl:k=128:=by omega
   have r3:=HI.out.r3;have HV:=Lib.hid (gmF_words HXY.out);clear r0;go_wp2_with fail;refine (blockOf_any x y _).mono ?_;rw[HV.out];rintro e w2 ⟨rfl,hb2⟩;have I2:=HI.out.call hb2;have r2:=I2.r2;have HB:=Lib.hid I2.below;clear hb2 I2 HI r3;go_wp2_with fail;refine bodyPost_ret (v:=.agg (ba 16 (gmF f g))) (zW rfl _ _ (w.heap.size+1+1) _ _ _ rfl (zE r2 _) blk_u (by rw[zI];exact blk_i)) rfl ⟨rfl,?_⟩
   exact zG HB.out (by omega) _
def grp(b:Bf)(n o:Nat):Bf:=fun i=>if o+i<n then b (o+i) else 0#8
def hshT(h b:Bf)(n:Nat):Nat->Bf
 |0=>nF
 |j+1=>gmF (xorF (hshT h b n j) (grp b n (16*j))) h
def hshF(h b:Bf)(n:Nat):Bf:=hshT h b n ((n+15) / 16)
theorem grp_ba(b:Bf)(n j m:Nat)(hm:m=min (n-16*j) 16):ba 16 (putF (fun _=>0#8) 0 m (offF b (16*j)))=ba 16 (grp b n (16*j)):=xA fun i hi=>by
 unfold putF grp offF
 by_cases h:16*j+i<n
 ·rw[if_pos h,if_pos (by omega),Nat.sub_zero]
 ·rw[if_neg h,if_neg (by omega)]
def padF(a:Bf)(N:Nat):Bf:=fun i=>if i<N then a i else 0#8
def slLen:Value->Nat
 | .slice _ n _=>n
 |_=>0
structure HsInv(w:World)(f y:Bf)(wr:World):Prop where
 below:Below w.heap.size w wr
 size:w.heap.size+3<=wr.heap.size
 r0:row wr w.heap.size=some (ba 16 f)
 r1:row wr (w.heap.size+1)=some (ba 16 fun _=>0#8)
 r2:row wr (w.heap.size+1+1)=some (ba 16 y)
theorem HsInv.call{w:World}{f y:Bf}{wr w':World}(h:HsInv w f y wr)(hb:Below wr.heap.size wr w'):HsInv w f y w':=
 ⟨onto h.below (by have:=h.size;omega) hb,Nat.le_trans h.size hb.size,zD hb h.r0,zD hb h.r1,zD hb h.r2⟩
theorem HsInv.put{w:World}{f y:Bf}{wr:World}(h:HsInv w f y wr)(y':Bf):HsInv w f y' (wr.setRow (w.heap.size+1+1) (ba 16 y')):=
 ⟨zG h.below (by omega) _,by simpa using h.size,by rw[zF _ _ _ _ (by omega)];exact h.r0,by rw[zF _ _ _ _ (by omega)];exact h.r1,zE h.r2 _⟩
theorem bhash_any(f b:Bf)(n c:Nat)(A:Option Addr)(w:World)(hs:Sl w w.heap.size A n c b):
  Calls Tryz.prog 251 #[.agg (ba 16 f),.slice A n c] w fun e w'=>e=.returned (.agg (ba 16 (hshF f b n)))/\Below w.heap.size w w':=by
 have X0:HsInv w f nF (((w.alloc (.cells (ba 16 f) 266)).alloc (.cells (ba 16 fun _=>0#8) 266)).alloc (.cells (ba 16 fun _=>0#8) 266)):=
  ⟨(((Below.refl _ _).alloc (by simp) _).alloc (by simp) _).alloc (by simp;omega) _,by simp,by simp[go_sem],by simp[go_sem],by simp[go_sem];rfl⟩
 have HX0:=Lib.hid X0;have HS:=Lib.hid hs;clear X0 hs;go_enter Tryz.func251,Tryz.ntmps251;go_wp2;go_loopw [1] (fun v wr=>∃ j:Nat,∃ A':Option Addr,∃ c':Nat,j<=(n+15) / 16/\v=.slice A' (n-16*j) c'/\Sl wr w.heap.size A' (n-16*j) c' (offF b (16*j))/\HsInv w f (hshT f b n j) wr) (fun v _=>slLen v)
 case atStart=>exact ⟨0,A,c,by omega,rfl,by rw[Nat.mul_zero,offF_zero];exact HS.out.below HX0.out.below,HX0.out⟩
 case round=>
  clear HX0 HS;obtain ⟨j,A',c',hj,rfl,hs,hI⟩:=hrel;obtain ⟨wo,rfl⟩:∃ wo:World,wo=wr:=⟨_,rfl⟩;obtain ⟨r,hr⟩:∃ r,r=n-16*j:=⟨_,rfl⟩;rw[<-hr];rw[<-hr] at hs;have HR:=Lib.hid hr;have HS:=Lib.hid hs;have HI:=Lib.hid hI;clear hr hs hI;rcases Nat.eq_zero_or_pos r with rfl|hpos
  ·have r1:=HI.out.r1
   have r2:=HI.out.r2;have HV:=Lib.hid (show hshT f b n j=hshF f b n by unfold hshF;congr 1;have:=HR.out;omega)
   rw[HV.out] at r2;have hd:decide ((0:Int)<0)=false:=by decide
   go_wp2_with fail;refine bodyPost_ret (v:=.agg (ba 16 (hshF f b n))) (zW rfl _ _ (w.heap.size+1) _ _ _ rfl (zE r1 _) blk_u (by rw[zI];exact blk_i)) rfl ⟨rfl,?_⟩
   exact zG HI.out.below (by omega) _
  ·have hd:decide ((0:Int)<(r:Int))=true:=by simp;omega
   obtain ⟨m,hm⟩:∃ m,m=min r 16:=⟨_,rfl⟩;have HM:=Lib.hid hm;have hfrom:=xE zZ u8_i A' r c' m (by omega)
   have H2:=Lib.hid (HI.out.call ((Below.refl _ _).alloc (Nat.le_refl _) (.cells (ba 16 (grp b n (16*j))) 266)));have HC:=Lib.hid (HS.out.from_ m (by omega))
   clear hm;go_wp2_with (refine wpl_copy rfl (.tmp 11) (.tmp 12) 22 22 5 rfl zZ u8_i (zA _ _ _ _ rfl) (HS.out.below ((Below.refl _ _).alloc (by have:=HI.out.size;omega) _)) HM.out rfl rfl ?_)
   rw[grp_ba b n j m (by rw[HM.out,HR.out])]
   have rg:row (wo.alloc (.cells (ba 16 (grp b n (16*j))) 266)) wo.heap.size=some (ba 16 (grp b n (16*j))):=zA _ _ _ _ rfl;have HC2:=Lib.hid (HC.out.below ((Below.refl w.heap.size wo).alloc (by have:=HI.out.size;omega) (.cells (ba 16 (grp b n (16*j))) 266)))
   clear HC HS;generalize wo.alloc (.cells (ba 16 (grp b n (16*j))) 266)=w1 at H2 rg HC2 ⊢;have q0:=After.row H2.out.r0;have q2:=After.row H2.out.r2;have qg:=After.row rg;clear rg hd;obtain ⟨y,hy⟩:∃ y,y=hshT f b n j:=⟨_,rfl⟩;obtain ⟨x,hx⟩:∃ x,x=grp b n (16*j):=⟨_,rfl⟩;rw[<-hy] at q2;rw[<-hx] at qg;have HY:=Lib.hid hy;have HXX:=Lib.hid hx;clear hy hx;refine seen_tail 0 5 (by kernel_rfl) (by kernel_rfl) (fun _ _ _ _ _ h=>h) ?_
   simp only[List.take_succ_cons,List.take_zero,List.drop_succ_cons,List.drop_zero]
   repeat (go_big_quiet_step ((first|(go_at_call 246;refine After.call _ (bxor_any y x _))|(go_at_call 277;refine After.call _ (bmul_any (xorF y x) f _)))))
   refine wpQuiet_nil ?_;rintro _ ⟨z,rfl⟩;have H3:=Lib.hid ((H2.out.call z.below).put (hshT f b n (j+1)));have HC3:=Lib.hid (HC2.out.below (by have:=H2.out.size;exact (z.below.mono (by omega))))
   have HV:=Lib.hid (show gmF (xorF y x) f=hshT f b n (j+1) by rw[HY.out,HXX.out];rfl)
   clear q0 qg;go_wp2_with fail;have e16:r-m=n-16*(j+1):=by have:=HR.out;have:=HM.out;omega
   have HE:=Lib.hid e16
   have HF:=Lib.hid (HC3.out.congr (b':=offF b (16*(j+1))) fun i hi=>by
    have:=HR.out;have:=HM.out
    unfold offF;congr 1;omega)
   have HJ:=Lib.hid (show j+1<=(n+15) / 16 by have:=HR.out;omega)
   have hmp:0<m:=by have:=HM.out;omega
   clear e16 hfrom q2;go_roundw
   case rel=>
    rw[HE.out] at HF ⊢;rw[HV.out];exact ⟨j+1,_,_,HJ.out,rfl,HF.out.below (zG (Below.refl _ _) (by omega) _),H3.out⟩
   case measure=>simp only[slLen];omega
theorem t2_hi:∀ a:BitVec 8,a.msb=true->(I a / 128==1)=true/\bits .xor .u8 (I a*2 % 256) 27=I (t2 a):=by decide+kernel
theorem t2_lo:∀ a:BitVec 8,a.msb=false->(I a / 128==1)=false/\I a*2 % 256=I (t2 a):=by decide+kernel
theorem t2_any{x:Int}(a:BitVec 8)(hx:x=I a)(w:World):
  Calls Tryz.prog 289 #[.int .u8 x] w fun e w'=>e=.returned (.int .u8 (I (t2 a)))/\w=w':=by
 subst hx;have hb:=I_bd a;obtain ⟨hb0,hb1⟩:=hb;cases hm:a.msb
 ·obtain ⟨h1,h2⟩:=t2_lo a hm
  have H:=Lib.hid h2;clear h2 hm;go_enter Tryz.func289,Tryz.ntmps289;go_wp2;go_ret;exact ⟨ret_u8 H.out,rfl⟩
 ·obtain ⟨h1,h2⟩:=t2_hi a hm
  have H:=Lib.hid h2;clear h2 hm;go_enter Tryz.func289,Tryz.ntmps289;go_wp2;go_ret;exact ⟨ret_u8 H.out,rfl⟩
theorem mul_any{x y:Int}(a b:BitVec 8)(hx:x=I a)(hy:y=I b)(w:World):
  Calls Tryz.prog 305 #[.int .u8 x,.int .u8 y] w fun e w'=>e=.returned (.int .u8 (I (mul a b)))/\w=w':=by
 subst hx;subst hy;obtain ⟨hb0,hb1⟩:=I_bd b;go_enter Tryz.func305,Tryz.ntmps305;go_wp2;go_loop [0,5,7] (fun c p j=>∃ k:Nat,k<=8/\j=.int .i64 k/\c=.int .u8 (I (dbl k a))/\p=.int .u8 (I (mulTo a b k))) (fun _ _ j=>8-(intOf j).toNat)
 case atStart=>exact ⟨0,by omega,rfl,rfl,rfl⟩
 case round=>
  obtain ⟨k,hk,rfl,rfl,rfl⟩:=hrel
  by_cases hlt:k<8
  ·obtain ⟨hc0,hc1⟩:=I_bd (dbl k a)
   obtain ⟨hd0,hd1⟩:=I_bd (mulTo a b k);cases hbit:b.getLsbD k
   ·have ht:=bit_test' k hlt b false hbit
    have H:Hid (mulTo a b (k+1)=mulTo a b k):=Lib.hid (by simp[mulTo,hbit])
    clear hbit;go_wp2_with (go_at_call 289;refine (t2_any _ rfl _).mono ?_;rintro e w' ⟨rfl,rfl⟩);go_round
    case rel=>exact ⟨k+1,by omega,by go_num,rfl,by rw[H.out]⟩
    case measure=>simp[intOf];omega
   ·have ht:=bit_test' k hlt b true hbit
    have H:Hid (mulTo a b (k+1)=mulTo a b k^^^dbl k a):=Lib.hid (by simp[mulTo,hbit])
    clear hbit;go_wp2_with (go_at_call 289;refine (t2_any _ rfl _).mono ?_;rintro e w' ⟨rfl,rfl⟩);go_round
    case rel=>exact ⟨k+1,by omega,by go_num,rfl,by first|rw[H.out,I_xor]|rw[H.out]⟩
    case measure=>simp[intOf];omega
  ·obtain rfl:k=8:=by omega
   go_wp2;go_ret;exact ⟨rfl,rfl⟩
theorem inv_any{x:Int}(a:BitVec 8)(hx:x=I a)(w:World):
  Calls Tryz.prog 313 #[.int .u8 x] w fun e w'=>e=.returned (.int .u8 (I (inv a)))/\w=w':=by
 subst hx;go_enter Tryz.func313,Tryz.ntmps313;go_wp2;go_loop [3,4,6] (fun p o j=>∃ k:Nat,k<=7/\j=.int .i64 k/\p=.int .u8 (I (invP a k))/\o=.int .u8 (I (invO a k))) (fun _ _ j=>7-(intOf j).toNat)
 case atStart=>exact ⟨0,by omega,rfl,rfl,rfl⟩
 case round=>
  obtain ⟨k,hk,rfl,rfl,rfl⟩:=hrel
  by_cases hlt:k<7
  ·go_wp2_with (go_at_call 305;(with_reducible refine (mul_any _ _ rfl rfl _).mono ?_);rintro e w' ⟨rfl,rfl⟩)
   go_round
   case rel=>exact ⟨k+1,by omega,by go_num,rfl,rfl⟩
   case measure=>simp[intOf];omega
  ·obtain rfl:k=7:=by omega
   go_wp2;go_ret;exact ⟨rfl,rfl⟩
theorem orot_any{x:Int}(a:BitVec 8)(k:Nat)(hk:k<=4)(hx:x=I a)(w:World):
  Calls Tryz.prog 314 #[.int .u8 x,.int .i64 k] w fun e w'=>e=.returned (.int .u8 (I (a.rotateLeft k)))/\w=w':=by
 subst hx;obtain ⟨ha0,ha1⟩:=I_bd a;have hs:k=0\/k=1\/k=2\/k=3\/k=4:=by omega
 clear hk;have q0:bits .and .u64 0 7=0:=by decide+kernel
 have q1:bits .and .u64 1 7=1:=by decide+kernel
 have q2:bits .and .u64 2 7=2:=by decide+kernel
 have q3:bits .and .u64 3 7=3:=by decide+kernel
 have q4:bits .and .u64 4 7=4:=by decide+kernel
 rcases hs with rfl|rfl|rfl|rfl|rfl
 all_goals
  go_enter Tryz.func314,Tryz.ntmps314;go_wp2;go_ret;refine ⟨ret_u8 ?_,rfl⟩;clear ha0 ha1
  revert a
  decide+kernel
theorem box_any{x:Int}(a:BitVec 8)(hx:x=I a)(w:World):
  Calls Tryz.prog 304 #[.int .u8 x] w fun e w'=>e=.returned (.int .u8 (I (box a)))/\w=w':=by
 subst hx;go_enter Tryz.func304,Tryz.ntmps304;go_wp2_with (go_at_call 313;(with_reducible refine (inv_any _ rfl _).mono ?_);rintro e w' ⟨rfl,rfl⟩);go_loop [4,8] (fun o j=>∃ k:Nat,k<=5/\j=.int .i64 k/\o=.int .u8 (I (boxTo (inv a) k))) (fun _ j=>5-(intOf j).toNat)
 case atStart=>exact ⟨0,by omega,rfl,rfl⟩
 case round=>
  obtain ⟨k,hk,rfl,rfl⟩:=hrel
  by_cases hlt:k<5
  ·obtain ⟨hd0,hd1⟩:=I_bd (boxTo (inv a) k)
   go_wp2_with (go_at_call 314;(with_reducible refine (orot_any _ _ (by omega) rfl _).mono ?_);rintro e w' ⟨rfl,rfl⟩)
   go_round
   case rel=>exact ⟨k+1,by omega,by go_num,by first|(rw[I_xor];rfl)|rfl⟩
   case measure=>simp[intOf];omega
  ·obtain rfl:k=5:=by omega
   go_wp2;go_ret;exact ⟨rfl,rfl⟩
theorem addB_any(f g:Bf)(w:World):
  Calls Tryz.prog 275 #[.agg (ba 16 f),.agg (ba 16 g)] w fun e w'=>e=.returned (.agg (ba 16 (xorF f g)))/\Below w.heap.size w w':=by
 go_enter Tryz.func275,Tryz.ntmps275;go_wp2;go_loopw [5,6] (fun _ i wr=>∃ k:Nat,k<=16/\i=.int .i64 k/\∃ n,wr=(((w.alloc (.cells (ba 16 (upto k (xorF f g) f)) 266)).alloc (.cells (ba 16 g) 266)).alloc (.cells (ba 16 fun _=>0#8) 266)).drewN n) (fun _ i _=>16-(intOf i).toNat)
 case atStart=>
  refine ⟨0,by omega,rfl,0,?_⟩
  rw[yP];rfl
 case round=>
  obtain ⟨k,hk,rfl,n,rfl⟩:=hrel
  by_cases hlt:k<16
  ·have H:=Lib.hid (yX k (xorF f g) f)
   go_wp2;refine quiet_tail 8 (by kernel_rfl) (by kernel_rfl) (fun _ _ _ _ _ h=>h) ?_
   simp only[List.take_succ_cons,List.take_zero,List.drop_succ_cons,List.drop_zero]
   repeat (go_big_quiet_step (fail))
   refine wpQuiet_nil ?_;rintro _ ⟨m,rfl⟩;go_wp2;go_roundw
   case rel=>exact ⟨k+1,by omega,by go_num,n+m,by rw[<-H.out];rfl⟩
   case measure=>simp[intOf];omega
  ·obtain rfl:k=16:=by omega
   rw[xI];go_wp2;refine bodyPost_ret (v:=.agg (ba 16 (xorF f g))) (zW rfl _ _ (w.heap.size+1+1) _ _ _ rfl (by simp[go_sem]) blk_u (by rw[zI];exact blk_i)) rfl ⟨rfl,?_⟩
   exact zQ ((((Below.refl _ _).alloc (by simp) _).alloc (by simp) _).alloc (by simp;omega) _) _
theorem addW_any(f g:Bf)(w:World):
  Calls Tryz.prog 290 #[.agg (ba 4 f),.agg (ba 4 g)] w fun e w'=>e=.returned (.agg (ba 4 (xorF f g)))/\Below w.heap.size w w':=by
 go_enter Tryz.func290,Tryz.ntmps290;go_wp2;go_loopw [5,6] (fun _ i wr=>∃ k:Nat,k<=4/\i=.int .i64 k/\∃ n,wr=(((w.alloc (.cells (ba 4 (upto k (xorF f g) f)) 341)).alloc (.cells (ba 4 g) 341)).alloc (.cells (ba 4 fun _=>0#8) 341)).drewN n) (fun _ i _=>4-(intOf i).toNat)
 case atStart=>
  refine ⟨0,by omega,rfl,0,?_⟩
  rw[yP];rfl
 case round=>
  obtain ⟨k,hk,rfl,n,rfl⟩:=hrel
  by_cases hlt:k<4
  ·have H:=Lib.hid (yX k (xorF f g) f)
   go_wp2;refine quiet_tail 8 (by kernel_rfl) (by kernel_rfl) (fun _ _ _ _ _ h=>h) ?_
   simp only[List.take_succ_cons,List.take_zero,List.drop_succ_cons,List.drop_zero]
   repeat (go_big_quiet_step (fail))
   refine wpQuiet_nil ?_;rintro _ ⟨m,rfl⟩;go_wp2;go_roundw
   case rel=>exact ⟨k+1,by omega,by go_num,n+m,by rw[<-H.out];rfl⟩
   case measure=>simp[intOf];omega
  ·obtain rfl:k=4:=by omega
   rw[xI];go_wp2;refine bodyPost_ret (v:=.agg (ba 4 (xorF f g))) (zW rfl _ _ (w.heap.size+1+1) _ _ _ rfl (by simp[go_sem]) wrd_u (by rw[zI];exact wrd_i)) rfl ⟨rfl,?_⟩
   exact zQ ((((Below.refl _ _).alloc (by simp) _).alloc (by simp) _).alloc (by simp;omega) _) _
theorem subB_any(f:Bf)(w:World):
  Calls Tryz.prog 293 #[.agg (ba 16 f)] w fun e w'=>e=.returned (.agg (ba 16 (subF f)))/\Below w.heap.size w w':=by
 go_enter Tryz.func293,Tryz.ntmps293;go_wp2;go_loopw [3,4,6] (fun _ _ i wr=>∃ k:Nat,k<=16/\i=.int .i64 k/\wr=((w.alloc (.cells (ba 16 (upto k (subF f) f)) 266)).alloc (.cells (ba 16 fun _=>0#8) 266))) (fun _ _ i _=>16-(intOf i).toNat)
 case atStart=>
  refine ⟨0,by omega,rfl,?_⟩
  rw[yP]
 case round=>
  obtain ⟨k,hk,rfl,rfl⟩:=hrel
  by_cases hlt:k<16
  ·have H:=Lib.hid (yX k (subF f) f)
   go_wp2_with (go_at_call 304;((with_reducible refine (box_any _ rfl _).mono ?_);rintro e w' ⟨rfl,rfl⟩));go_roundw
   case rel=>exact ⟨k+1,by omega,by go_num,by rw[<-H.out];rfl⟩
   case measure=>simp[intOf];omega
  ·obtain rfl:k=16:=by omega
   rw[xI];go_wp2;refine bodyPost_ret (v:=.agg (ba 16 (subF f))) (zW rfl _ _ (w.heap.size+1) _ _ _ rfl (by simp[go_sem]) blk_u (by rw[zI];exact blk_i)) rfl ⟨rfl,?_⟩
   exact ((Below.refl _ _).alloc (by simp) _).alloc (by simp) _
theorem subW_any(f:Bf)(w:World):
  Calls Tryz.prog 287 #[.agg (ba 4 f)] w fun e w'=>e=.returned (.agg (ba 4 (subF f)))/\Below w.heap.size w w':=by
 go_enter Tryz.func287,Tryz.ntmps287;go_wp2;go_loopw [3,4,6] (fun _ _ i wr=>∃ k:Nat,k<=4/\i=.int .i64 k/\wr=((w.alloc (.cells (ba 4 (upto k (subF f) f)) 341)).alloc (.cells (ba 4 fun _=>0#8) 341))) (fun _ _ i _=>4-(intOf i).toNat)
 case atStart=>
  refine ⟨0,by omega,rfl,?_⟩
  rw[yP]
 case round=>
  obtain ⟨k,hk,rfl,rfl⟩:=hrel
  by_cases hlt:k<4
  ·have H:=Lib.hid (yX k (subF f) f)
   go_wp2_with (go_at_call 304;((with_reducible refine (box_any _ rfl _).mono ?_);rintro e w' ⟨rfl,rfl⟩));go_roundw
   case rel=>exact ⟨k+1,by omega,by go_num,by rw[<-H.out];rfl⟩
   case measure=>simp[intOf];omega
  ·obtain rfl:k=4:=by omega
   rw[xI];go_wp2;refine bodyPost_ret (v:=.agg (ba 4 (subF f))) (zW rfl _ _ (w.heap.size+1) _ _ _ rfl (by simp[go_sem]) wrd_u (by rw[zI];exact wrd_i)) rfl ⟨rfl,?_⟩
   exact ((Below.refl _ _).alloc (by simp) _).alloc (by simp) _
theorem rotW_any(f:Bf)(w:World):
  Calls Tryz.prog 288 #[.agg (ba 4 f)] w fun e w'=>e=.returned (.agg (ba 4 (rotF f)))/\Below w.heap.size w w':=by
 go_enter Tryz.func288,Tryz.ntmps288;go_wp2
 have e:ba 4 (upd (upd (upd (upd (fun _=>0#8) 0 (f 1)) 1 (f 2)) 2 (f 3)) 3 (f 0))=ba 4 (rotF f):=xA fun k hk=>by
  have:k=0\/k=1\/k=2\/k=3:=by omega
  rcases this with rfl|rfl|rfl|rfl<;>rfl
 rw[e];refine bodyPost_ret (v:=.agg (ba 4 (rotF f))) (zW rfl _ _ (w.heap.size+1) _ _ _ rfl (by simp[go_sem]) wrd_u (by rw[zI];exact wrd_i)) rfl ⟨rfl,?_⟩
 exact ((Below.refl _ _).alloc (by simp) _).alloc (by simp) _
theorem shift_at(f:Bf)(c r:Nat)(hr:r<4):shiftF f (4*c+r)=f ((c+r) % 4*4+r):=by
 unfold shiftF;rw[show (4*c+r) / 4=c by omega,show (4*c+r) % 4=r by omega]
theorem shift_any(f:Bf)(w:World):
  Calls Tryz.prog 292 #[.agg (ba 16 f)] w fun e w'=>e=.returned (.agg (ba 16 (shiftF f)))/\Below w.heap.size w w':=by
 go_enter Tryz.func292,Tryz.ntmps292;go_wp2;go_loopw [6] (fun i wr=>∃ c:Nat,c<=4/\i=.int .i64 c/\wr=(((w.alloc (.cells (ba 16 f) 266)).alloc (.cells (ba 16 fun _=>0#8) 266)).alloc (.cells (ba 16 (upto (4*c) (shiftF f) fun _=>0#8)) 266))) (fun i _=>4-(intOf i).toNat)
 case atStart=>
  refine ⟨0,by omega,rfl,?_⟩
  rw[Nat.mul_zero,yP]
 case round=>
  obtain ⟨c,hc,rfl,rfl⟩:=hrel
  by_cases hlt:c<4
  ·go_wp2
   go_loopw [9] (fun i wr=>∃ r:Nat,r<=4/\i=.int .i64 r/\wr=(((w.alloc (.cells (ba 16 f) 266)).alloc (.cells (ba 16 fun _=>0#8) 266)).alloc (.cells (ba 16 (upto (4*c+r) (shiftF f) fun _=>0#8)) 266))) (fun i _=>4-(intOf i).toNat)
   case atStart=>exact ⟨0,by omega,rfl,rfl⟩
   case round=>
    obtain ⟨r,hr,rfl,rfl⟩:=hrel
    by_cases hlr:r<4
    ·have H:=Lib.hid (yX (4*c+r) (shiftF f) fun _=>0#8)
     have H2:=Lib.hid (shift_at f c r hlr);have b1:(c+r) % 4*4+r<16:=by omega
     have b2:4*c+r<16:=by omega
     go_wp2;go_roundw
     case rel=>exact ⟨r+1,by omega,by go_num,by rw[<-H2.out,H.out];rfl⟩
     case measure=>simp[intOf];omega
    ·obtain rfl:r=4:=by omega
     go_wp2;go_roundw
     case rel=>exact ⟨c+1,by omega,by go_num,rfl⟩
     case measure=>simp[intOf];omega
  ·obtain rfl:c=4:=by omega
   rw[show 4*4=16 from rfl,xI]
   go_wp2;refine bodyPost_ret (v:=.agg (ba 16 (shiftF f))) (zW rfl _ _ (w.heap.size+1) _ _ _ rfl (by simp[go_sem]) blk_u (by rw[zI];exact blk_i)) rfl ⟨rfl,?_⟩
   exact (((Below.refl _ _).alloc (by simp) _).alloc (by simp) _).alloc (by simp;omega) _
theorem mix_at(f:Bf)(c r:Nat)(hr:r<4):mixF f (4*c+r)=
  (mul (f (4*c+r)) 2#8^^^mul (f (4*c+(r+1) % 4)) 3#8)^^^(f (4*c+(r+2) % 4)^^^f (4*c+(r+3) % 4)):=by
 unfold mixF;rw[show (4*c+r) / 4=c by omega,show (4*c+r) % 4=r by omega]
theorem mix_any(f:Bf)(w:World):
  Calls Tryz.prog 294 #[.agg (ba 16 f)] w fun e w'=>e=.returned (.agg (ba 16 (mixF f)))/\Below w.heap.size w w':=by
 go_enter Tryz.func294,Tryz.ntmps294;go_wp2;go_loopw [9] (fun i wr=>∃ c:Nat,c<=4/\i=.int .i64 c/\∃ n,wr=(((w.alloc (.cells (ba 16 f) 266)).alloc (.cells (ba 16 fun _=>0#8) 266)).alloc (.cells (ba 16 (upto (4*c) (mixF f) fun _=>0#8)) 266)).drewN n) (fun i _=>4-(intOf i).toNat)
 case atStart=>
  refine ⟨0,by omega,rfl,0,?_⟩
  rw[Nat.mul_zero,yP];rfl
 case round=>
  obtain ⟨c,hc,rfl,n,rfl⟩:=hrel
  by_cases hlt:c<4
  ·have hd:decide ((c:Int)<4)=true:=by simp;omega
   go_wp2;go_loopw [12] (fun i wr=>∃ r:Nat,r<=4/\i=.int .i64 r/\∃ n,wr=(((w.alloc (.cells (ba 16 f) 266)).alloc (.cells (ba 16 fun _=>0#8) 266)).alloc (.cells (ba 16 (upto (4*c+r) (mixF f) fun _=>0#8)) 266)).drewN n) (fun i _=>4-(intOf i).toNat)
   case atStart=>exact ⟨0,by omega,rfl,n,rfl⟩
   case round=>
    obtain ⟨r,hr,rfl,m,rfl⟩:=hrel
    by_cases hlr:r<4
    ·have H:=Lib.hid (yX (4*c+r) (mixF f) fun _=>0#8)
     have H2:=Lib.hid (mix_at f c r hlr);have b0:4*c+r<16:=by omega
     have b1:4*c+(r+1) % 4<16:=by omega
     have b2:4*c+(r+2) % 4<16:=by omega
     have b3:4*c+(r+3) % 4<16:=by omega
     go_wp2;go_quiet (fail);go_wp2;go_quiet (fail);go_wp2_with fail;refine (mul_any (f (4*c+r)) 2#8 rfl rfl _).mono ?_;rintro e w' ⟨rfl,rfl⟩;go_wp2_with fail;refine (mul_any (f (4*c+(r+1) % 4)) 3#8 rfl rfl _).mono ?_;rintro e w' ⟨rfl,rfl⟩;go_wp2;go_roundw
     case rel=>exact ⟨r+1,by omega,by go_num,_,by rw[<-H2.out,H.out];rfl⟩
     case measure=>simp[intOf];omega
    ·obtain rfl:r=4:=by omega
     go_wp2;go_roundw
     case rel=>exact ⟨c+1,by omega,by go_num,m,rfl⟩
     case measure=>simp[intOf];omega
  ·obtain rfl:c=4:=by omega
   rw[show 4*4=16 from rfl,xI]
   go_wp2;refine bodyPost_ret (v:=.agg (ba 16 (mixF f))) (zW rfl _ _ (w.heap.size+1) _ _ _ rfl (by simp[go_sem]) blk_u (by rw[zI];exact blk_i)) rfl ⟨rfl,?_⟩
   exact zQ ((((Below.refl _ _).alloc (by simp) _).alloc (by simp) _).alloc (by simp;omega) _) _
structure BoInv(w:World)(f:Bf)(k:Nat)(wr:World):Prop where
 below:Below w.heap.size w wr
 size:w.heap.size+3<=wr.heap.size
 res:row wr (w.heap.size+1)=some (ba 240 fun _=>0#8)
 out:row wr (w.heap.size+1+1)=some (ba 240 (upto k f fun _=>0#8))
theorem BoInv.set{w:World}{f:Bf}{c r o:Nat}{wr:World}(h1:Below w.heap.size w wr)(h2:w.heap.size+3<=wr.heap.size)(h3:row wr (w.heap.size+1)=some (ba 240 fun _=>0#8))
  (h4:row wr (w.heap.size+1+1)=some (ba 240 (upto (4*c+r) f fun _=>0#8))) (ho:o=4*c+r):
  BoInv w f (4*c+(r+1)) (wr.setCell ⟨w.heap.size+1+1,o,none⟩ (.int .u8 (I (offF f (c*4) r)))):=by
 subst ho;refine ⟨h1.setCell (by simp;omega) _,by simpa using h2,by rw[zX _ _ _ _ (by simp)];exact h3,?_⟩
 rw[row_setCell h4,show offF f (c*4) r=f (4*c+r) by unfold offF;rw[Nat.mul_comm],yX]
 rfl
theorem blocksOf_any(f:Bf)(w:World):
  Calls Tryz.prog 291 #[.agg (ba 240 f)] w fun e w'=>e=.returned (.agg (ba 240 f))/\Below w.heap.size w w':=by
 go_enter Tryz.func291,Tryz.ntmps291;go_wp2;go_loopw [9] (fun i wr=>∃ c:Nat,c<=60/\i=.int .i64 c/\BoInv w f (4*c) wr) (fun i _=>60-(intOf i).toNat)
 case atStart=>
  refine ⟨0,by omega,rfl,((((Below.refl _ _).alloc (by simp) _).alloc (by simp) _).alloc (by simp;omega) _),by simp,?_,?_⟩
  ·simp[go_sem]
  ·rw[Nat.mul_zero,yP];simp[go_sem]
 case round=>
  obtain ⟨c,hc,rfl,hI⟩:=hrel
  by_cases hlt:c<60
  ·have hd:decide ((c:Int)<60)=true:=by simp;omega
   go_wp2
   have hI0:BoInv w f (4*c+0) (wr.alloc (.cells (ba 4 (offF f (c*4))) 341)):=
    ⟨hI.below.alloc (by have:=hI.size;omega) _,by have:=hI.size;simp;omega,zN hI.res _,zN hI.out _⟩
   go_loopw [6,7,14] (fun _ _ j wq=>∃ r:Nat,r<=4/\j=.int .i64 r/\BoInv w f (4*c+r) wq) (fun _ _ j _=>4-(intOf j).toNat)
   case atStart=>exact ⟨0,by omega,rfl,hI0⟩
   case round=>
    clear hI0 hI;obtain ⟨r,hr,rfl,hI⟩:=hrel
    by_cases hlr:r<4
    ·obtain ⟨hb,hs,h1,h2⟩:=hI
     have H1:=Lib.hid h1;have H2:=Lib.hid h2;have HB:=Lib.hid hb;have hc:=zC h2;have hf:=zJ h2;clear h1 h2 hb;have b1:c / 4*16+(c % 4*4+r)<240:=by omega
     have e1:c / 4*16+(c % 4*4+r)=4*c+r:=by omega
     have E1:=Lib.hid e1;clear e1;go_wp2;go_roundw
     case rel=>exact ⟨r+1,by omega,by go_num,BoInv.set HB.out hs H1.out H2.out E1.out⟩
     case measure=>simp[intOf];omega
    ·obtain rfl:r=4:=by omega
     go_wp2;go_roundw
     case rel=>exact ⟨c+1,by omega,by go_num,hI⟩
     case measure=>simp[intOf];omega
  ·obtain rfl:c=60:=by omega
   obtain ⟨hb,hs,h1,h2⟩:=hI;rw[show 4*60=240 from rfl,xI] at h2
   have HB:=Lib.hid hb;clear hb;go_wp2;refine bodyPost_ret (v:=.agg (ba 240 f)) (zW rfl _ _ (w.heap.size+1) _ _ _ rfl (zE h1 _) bks_u (by rw[zI];exact bks_i)) rfl ⟨rfl,?_⟩
   exact zG HB.out (by omega) _
structure RdInv(w:World)(s k:Bf)(wr:World):Prop where
 below:Below w.heap.size w wr
 size:w.heap.size+3<=wr.heap.size
 r0:row wr w.heap.size=some (ba 16 s)
 r1:row wr (w.heap.size+1)=some (ba 16 k)
 r2:row wr (w.heap.size+1+1)=some (ba 16 fun _=>0#8)
theorem RdInv.start(w:World)(s k:Bf)(t:TypeId):RdInv w s k (((w.alloc (.cells (ba 16 s) t)).alloc (.cells (ba 16 k) t)).alloc (.cells (ba 16 fun _=>0#8) t)):=
 ⟨(((Below.refl _ _).alloc (by simp) _).alloc (by simp) _).alloc (by simp;omega) _,by simp,by simp[go_sem],by simp[go_sem],by simp[go_sem]⟩
theorem RdInv.call{w:World}{s k:Bf}{wr w':World}(h:RdInv w s k wr)(hb:Below wr.heap.size wr w'):RdInv w s k w':=
 ⟨onto h.below (by have:=h.size;omega) hb,Nat.le_trans h.size hb.size,zD hb h.r0,zD hb h.r1,zD hb h.r2⟩
theorem RdInv.put{w:World}{s k:Bf}{wr:World}(h:RdInv w s k wr)(s':Bf):RdInv w s' k (wr.setRow w.heap.size (ba 16 s')):=
 ⟨zG h.below (by omega) _,by simpa using h.size,zE h.r0 _,by rw[zF _ _ _ _ (by omega)];exact h.r1,by rw[zF _ _ _ _ (by omega)];exact h.r2⟩
theorem round_any(s k:Bf)(last:Bool)(w:World):
  Calls Tryz.prog 276 #[.agg (ba 16 s),.agg (ba 16 k),.bool last] w fun e w'=>e=.returned (.agg (ba 16 (rndF s k last)))/\Below w.heap.size w w':=by
 have I0:=Lib.hid (RdInv.start w s k 266);cases last
 ·go_enter Tryz.func276,Tryz.ntmps276
  go_wp2_with fail;refine (subB_any s _).mono ?_;rintro e w1 ⟨rfl,hb1⟩;have I1:=Lib.hid (I0.out.call hb1);clear hb1 I0;go_wp2_with fail;refine (shift_any (subF s) _).mono ?_;rintro e w2 ⟨rfl,hb2⟩;have I2:=I1.out.call hb2;have r0:=I2.r0;have I3:=Lib.hid (I2.put (shiftF (subF s)));have r00:=I3.out.r0;clear hb2 I1 I2;go_wp2_with fail;refine (mix_any (shiftF (subF s)) _).mono ?_;rintro e w3 ⟨rfl,hb3⟩;have I4:=I3.out.call hb3;clear r0 r00 hb3 I3;have r0:=I4.r0;have I5:=I4.put (mixF (shiftF (subF s)));have r00:=I5.r0;have r01:=I5.r1;have I6:=Lib.hid I5;clear I4 I5;go_wp2_with fail;refine (addB_any (mixF (shiftF (subF s))) k _).mono ?_;rintro e w4 ⟨rfl,hb4⟩;have I7:=I6.out.call hb4;clear r0 r00 r01 hb4 I6;have r2:=I7.r2;have hB:=Lib.hid I7.below;clear I7;go_wp2_with fail;refine bodyPost_ret (v:=.agg (ba 16 (rndF s k false))) (zW rfl _ _ (w.heap.size+1+1) _ _ _ rfl (zE r2 _) blk_u (by rw[zI];exact blk_i)) rfl ⟨rfl,?_⟩
  exact zG hB.out (by omega) _
 ·go_enter Tryz.func276,Tryz.ntmps276
  go_wp2_with fail;refine (subB_any s _).mono ?_;rintro e w1 ⟨rfl,hb1⟩;have I1:=Lib.hid (I0.out.call hb1);clear hb1 I0;go_wp2_with fail;refine (shift_any (subF s) _).mono ?_;rintro e w2 ⟨rfl,hb2⟩;have I2:=I1.out.call hb2;have r0:=I2.r0;have I3:=I2.put (shiftF (subF s));have r00:=I3.r0;have r01:=I3.r1;have I6:=Lib.hid I3;clear hb2 I1 I2 I3;go_wp2_with fail;refine (addB_any (shiftF (subF s)) k _).mono ?_;rintro e w4 ⟨rfl,hb4⟩;have I7:=I6.out.call hb4;clear r0 r00 r01 hb4 I6;have r2:=I7.r2;have hB:=Lib.hid I7.below;clear I7;go_wp2_with fail;refine bodyPost_ret (v:=.agg (ba 16 (rndF s k true))) (zW rfl _ _ (w.heap.size+1+1) _ _ _ rfl (zE r2 _) blk_u (by rw[zI];exact blk_i)) rfl ⟨rfl,?_⟩
  exact zG hB.out (by omega) _
structure AExInv(w:World)(k:Bf)(m:Nat)(wr:World):Prop where
 below:Below w.heap.size w wr
 size:w.heap.size+3<=wr.heap.size
 r1:row wr (w.heap.size+1)=some (ba 240 fun _=>0#8)
 r2:row wr (w.heap.size+1+1)=some (ba 240 (upto (4*m) (axpF k) fun _=>0#8))
structure ExT(w:World)(k:Bf)(m b:Nat)(t:Bf)(wr:World):Prop where
 inv:AExInv w k m wr
 hb:w.heap.size+3<=b
 rt:row wr b=some (ba 4 t)
theorem ExT.start{w:World}{k:Bf}{m:Nat}{wr:World}(h:AExInv w k m wr)(t:Bf)(ty:TypeId):ExT w k m wr.heap.size t (wr.alloc (.cells (ba 4 t) ty)):=
 ⟨⟨h.below.alloc (by have:=h.size;omega) _,by have:=h.size;simp;omega,zN h.r1 _,zN h.r2 _⟩,h.size,by simp[go_sem]⟩
theorem AExInv.call{w:World}{k:Bf}{m:Nat}{wr w':World}(h:AExInv w k m wr)(hb:Below wr.heap.size wr w'):AExInv w k m w':=
 ⟨onto h.below (by have:=h.size;omega) hb,Nat.le_trans h.size hb.size,zD hb h.r1,zD hb h.r2⟩
theorem ExT.call{w:World}{k:Bf}{m b:Nat}{t:Bf}{wr w':World}(h:ExT w k m b t wr)(hb:Below wr.heap.size wr w'):ExT w k m b t w':=⟨h.inv.call hb,h.hb,zD hb h.rt⟩
theorem ExT.drewN{w:World}{k:Bf}{m b:Nat}{t:Bf}{wr:World}(h:ExT w k m b t wr)(n:Nat):ExT w k m b t (wr.drewN n):=
 ⟨⟨zQ h.inv.below n,h.inv.size,by rw[zS];exact h.inv.r1,by rw[zS];exact h.inv.r2⟩,h.hb,by rw[zS];exact h.rt⟩
theorem ExT.put{w:World}{k:Bf}{m b:Nat}{t:Bf}{wr:World}(h:ExT w k m b t wr)(t':Bf):ExT w k m b t' (wr.setRow b (ba 4 t')):=
 ⟨⟨zG h.inv.below (by have:=h.hb;omega) _,by simpa using h.inv.size,by rw[zF _ _ _ _ (by have:=h.hb;omega)];exact h.inv.r1,by rw[zF _ _ _ _ (by have:=h.hb;omega)];exact h.inv.r2⟩,h.hb,zE h.rt _⟩
theorem ExT.done{w:World}{k:Bf}{m b:Nat}{t:Bf}{wr:World}(h:ExT w k m b t wr)(g:Bf)(hg:∀ j,j<4->g j=axpF k (4*m+j)):
  AExInv w k (m+1) (wr.setRow (w.heap.size+1+1) (ba 240 (putF (upto (4*m) (axpF k) fun _=>0#8) (m*4) 4 g))):=by
 refine ⟨zG h.inv.below (by omega) _,by simpa using h.inv.size,by rw[zF _ _ _ _ (by omega)];exact h.inv.r1,?_⟩
 rw[zE h.inv.r2];refine congrArg some (xA fun p hp=>?_)
 unfold putF upto
 by_cases h1:m*4<=p/\p<m*4+4
 ·rw[if_pos h1,if_pos (by omega),hg _ (by omega)]
  congr 1;omega
 ·rw[if_neg h1]
  by_cases h2:p<4*m
  ·rw[if_pos h2,if_pos (by omega)]
  ·rw[if_neg h2,if_neg (by omega)]
theorem ahead(k:Bf)(m d j:Nat)(hd:1<=d)(hdm:d<=m)(hj:j<4):offF (upto (4*m) (axpF k) fun _=>0#8) ((m-d)*4) j=axpF k (4*(m-d)+j):=by
 unfold offF upto;rw[if_pos (by omega),Nat.mul_comm]
theorem word0(k:Bf)(m:Nat)(h8:8<=m)(hm:m<60)(h0:m % 8=0)(j:Nat)(hj:j<4):
  xorF (offF (upto (4*m) (axpF k) fun _=>0#8) ((m-8)*4)) (upd (subF (rotF (offF (upto (4*m) (axpF k) fun _=>0#8) ((m-1)*4)))) 0 (subF (rotF (offF (upto (4*m) (axpF k) fun _=>0#8) ((m-1)*4))) 0^^^pwr ((m-1) / 8))) j=axpF k (4*m+j):=by
 rw[exp_rec k m j h8 hm hj];unfold newW xorF;rw[if_pos h0,ahead k m 8 j (by omega) (by omega) hj]
 congr 1
 by_cases hj0:j=0
 ·subst hj0
  simp only[upd,if_true,subF,rotF];rw[ahead k m 1 _ (by omega) (by omega) (by omega),show m / 8-1=(m-1) / 8 by omega]
 ·simp only[upd,hj0,if_false,subF,rotF]
  rw[ahead k m 1 _ (by omega) (by omega) (by omega),BitVec.xor_zero]
theorem word4(k:Bf)(m:Nat)(h8:8<=m)(hm:m<60)(h0:¬ m % 8=0)(h4:m % 8=4)(j:Nat)(hj:j<4):
  xorF (offF (upto (4*m) (axpF k) fun _=>0#8) ((m-8)*4)) (subF (offF (upto (4*m) (axpF k) fun _=>0#8) ((m-1)*4))) j=axpF k (4*m+j):=by
 rw[exp_rec k m j h8 hm hj];unfold newW xorF;rw[if_neg h0,if_pos h4,ahead k m 8 j (by omega) (by omega) hj]
 simp only[subF];rw[ahead k m 1 _ (by omega) (by omega) (by omega)]
theorem word1(k:Bf)(m:Nat)(h8:8<=m)(hm:m<60)(h0:¬ m % 8=0)(h4:¬ m % 8=4)(j:Nat)(hj:j<4):
  xorF (offF (upto (4*m) (axpF k) fun _=>0#8) ((m-8)*4)) (offF (upto (4*m) (axpF k) fun _=>0#8) ((m-1)*4)) j=axpF k (4*m+j):=by
 rw[exp_rec k m j h8 hm hj];unfold newW xorF;rw[if_neg h0,if_neg h4,ahead k m 8 j (by omega) (by omega) hj,ahead k m 1 _ (by omega) (by omega) (by omega)]
theorem expand_any(k:Bf)(w:World):
  Calls Tryz.prog 274 #[.agg (ba 32 k)] w fun e w'=>e=.returned (.agg (ba 240 (axpF k)))/\Below w.heap.size w w':=by
 go_enter Tryz.func274,Tryz.ntmps274;go_wp2;go_loopw [4,5,10] (fun _ _ i wr=>∃ c:Nat,c<=32/\i=.int .i64 c/\wr=((w.alloc (.cells (ba 32 k) 61)).alloc (.cells (ba 240 fun _=>0#8) 291)).alloc (.cells (ba 240 (upto c (axpF k) fun _=>0#8)) 342)) (fun _ _ i _=>32-(intOf i).toNat)
 case atStart=>
  refine ⟨0,by omega,rfl,?_⟩
  rw[yP]
 case round=>
  obtain ⟨c,hc,rfl,rfl⟩:=hrel
  by_cases hlt:c<32
  ·have H:=Lib.hid (yX c (axpF k) fun _=>0#8)
   have H2:=Lib.hid (exp_key k c hlt);have b1:c / 4*4+c % 4<240:=by omega
   have E1:=Lib.hid (show c / 4*4+c % 4=c by omega)
   go_wp2;go_roundw
   case rel=>exact ⟨c+1,by omega,by go_num,by rw[E1.out,<-H2.out,H.out]⟩
   case measure=>simp[intOf];omega
  ·obtain rfl:c=32:=by omega
   rw[show ((32:Nat):Int)=32 from rfl]
   have hd32:decide ((32:Int)<32)=false:=by decide
   go_wp2;clear hd32;go_loopw [6,7] (fun p i wr=>∃ m:Nat,8<=m/\m<=60/\i=.int .i64 m/\p=.int .u8 (I (pwr ((m-1) / 8)))/\AExInv w k m wr) (fun _ i _=>60-(intOf i).toNat)
   case atStart=>
    exact ⟨8,by omega,by omega,rfl,rfl,(((Below.refl _ _).alloc (by simp) _).alloc (by simp) _).alloc (by simp;omega) _,by simp,by simp[go_sem],by simp[go_sem]⟩
   case round=>
    obtain ⟨m,h8,hm,rfl,rfl,hI⟩:=hrel
    by_cases hlt:m<60
    ·have b1:(m-1)*4+4<=240:=by omega
     have b8:(m-8)*4+4<=240:=by omega
     have b0:m*4+4<=240:=by omega
     obtain ⟨G,hG⟩:∃ G,G=upto (4*m) (axpF k) fun _=>0#8:=⟨_,rfl⟩
     have r2:=hI.r2;rw[<-hG] at r2;have HI:=Lib.hid hI;have HG:=Lib.hid hG;clear hG hI
     by_cases hm0:m % 8=0
     ·have hd:((m:Int) % 8==0)=true:=by simp;omega
      have hpw:t2 (pwr ((m-1) / 8))=pwr ((m+1-1) / 8):=by rw[show (m+1-1) / 8=(m-1) / 8+1 by omega];rfl
      have HP:=Lib.hid hpw;have HW:=Lib.hid (word0 k m h8 hlt hm0);clear hpw;go_wp2_with fail;have T0:=Lib.hid (ExT.start HI.out (offF G ((m-1)*4)) 341);refine (rotW_any (offF G ((m-1)*4)) _).mono ?_;rintro e w1 ⟨rfl,hb1⟩;have T1:=Lib.hid (T0.out.call hb1);clear r2 hb1 T0;go_wp2_with fail;refine (subW_any (rotF (offF G ((m-1)*4))) _).mono ?_;rintro e w2 ⟨rfl,hb2⟩;have T2:=T1.out.call hb2;clear hb2 T1;have rt:=T2.rt;have T3:=T2.put (subF (rotF (offF G ((m-1)*4))));have hc:=zC T3.rt;have hf:=zJ T3.rt;have H2:=Lib.hid T2;have H3:=Lib.hid T3;clear T2 T3;go_wp2_with fail;rw[zL H3.out.rt,ba_set];refine (t2_any (pwr ((m-1) / 8)) rfl _).mono ?_;rintro e w' ⟨rfl,rfl⟩;have T4:=H3.out.put (upd (subF (rotF (offF G ((m-1)*4)))) 0 (subF (rotF (offF G ((m-1)*4))) 0^^^pwr ((m-1) / 8)));clear hc hf rt H2;have rt:=T4.rt;have r2:=T4.inv.r2;rw[<-HG.out] at r2;have H4:=Lib.hid T4;clear T4;go_wp2_with fail;generalize (w2.setRow wr.heap.size (ba 4 (subF (rotF (offF G ((m-1)*4)))))).setRow wr.heap.size (ba 4 (upd (subF (rotF (offF G ((m-1)*4)))) 0 (subF (rotF (offF G ((m-1)*4))) 0^^^pwr ((m-1) / 8))))=w4 at H4 rt r2 ⊢
      obtain ⟨q,hq⟩:∃ q,q=upd (subF (rotF (offF G ((m-1)*4)))) 0 (subF (rotF (offF G ((m-1)*4))) 0^^^pwr ((m-1) / 8)):=⟨_,rfl⟩;have HQ:=Lib.hid hq;rw[<-hq] at rt H4;clear hq;refine quiet_tail' 1 6 (by kernel_rfl) (by kernel_rfl) (fun _ _ _ _ _ h=>h) ?_
      simp only[List.take_succ_cons,List.take_zero,List.drop_succ_cons,List.drop_zero]
      repeat (go_big_quiet_step (fail))
      refine wpQuiet_nil ?_;rintro _ ⟨nq,rfl⟩;go_wp2_with fail;refine (addW_any (offF G ((m-8)*4)) q _).mono ?_;rintro e w5 ⟨rfl,hb5⟩;have T6:=(H4.out.drewN nq).call hb5;clear hb5 rt r2 H4;have r2:=T6.inv.r2;rw[<-HG.out] at r2;have T7:=T6.done (xorF (offF G ((m-8)*4)) q) (by rw[HQ.out,HG.out];exact HW.out)
      rw[<-HG.out] at T7;have H7:=Lib.hid T7;clear T6 T7;go_wp2;go_roundw
      case rel=>exact ⟨m+1,by omega,by omega,by go_num,by rw[HP.out],H7.out⟩
      case measure=>simp[intOf];omega
     ·have hpw:pwr ((m-1) / 8)=pwr ((m+1-1) / 8):=by rw[show (m+1-1) / 8=(m-1) / 8 by omega]
      have HP:=Lib.hid hpw;clear hpw;have hd:((m:Int) % 8==0)=false:=by simp;omega
      by_cases hm4:m % 8=4
      ·have hd4:((m:Int) % 8==4)=true:=by simp;omega
       have HW:=Lib.hid (word4 k m h8 hlt hm0 hm4);go_wp2_with fail;have T0:=Lib.hid (ExT.start HI.out (offF G ((m-1)*4)) 341);refine (subW_any (offF G ((m-1)*4)) _).mono ?_;rintro e w2 ⟨rfl,hb2⟩;have T2:=T0.out.call hb2;clear hb2 T0 r2;have rt0:=T2.rt;have T4:=T2.put (subF (offF G ((m-1)*4)));clear T2;have rt:=T4.rt;have r2:=T4.inv.r2;rw[<-HG.out] at r2;have H4:=Lib.hid T4;clear T4;go_wp2_with fail;clear rt0;generalize w2.setRow wr.heap.size (ba 4 (subF (offF G ((m-1)*4))))=w4 at H4 rt r2 ⊢;obtain ⟨q,hq⟩:∃ q,q=subF (offF G ((m-1)*4)):=⟨_,rfl⟩;have HQ:=Lib.hid hq;rw[<-hq] at rt H4;clear hq;refine quiet_tail' 1 6 (by kernel_rfl) (by kernel_rfl) (fun _ _ _ _ _ h=>h) ?_
       simp only[List.take_succ_cons,List.take_zero,List.drop_succ_cons,List.drop_zero]
       repeat (go_big_quiet_step (fail))
       refine wpQuiet_nil ?_;rintro _ ⟨nq,rfl⟩;go_wp2_with fail;refine (addW_any (offF G ((m-8)*4)) q _).mono ?_;rintro e w5 ⟨rfl,hb5⟩;have T6:=(H4.out.drewN nq).call hb5;clear hb5 rt r2 H4;have r2:=T6.inv.r2;rw[<-HG.out] at r2;have T7:=T6.done (xorF (offF G ((m-8)*4)) q) (by rw[HQ.out,HG.out];exact HW.out)
       rw[<-HG.out] at T7;have H7:=Lib.hid T7;clear T6 T7;go_wp2;go_roundw
       case rel=>exact ⟨m+1,by omega,by omega,by go_num,by rw[HP.out],H7.out⟩
       case measure=>simp[intOf];omega
      ·have hd4:((m:Int) % 8==4)=false:=by simp;omega
       have HW:=Lib.hid (word1 k m h8 hlt hm0 hm4);go_wp2_with fail;have T4:=ExT.start HI.out (offF G ((m-1)*4)) 341;have rt:=T4.rt;have H4:=Lib.hid T4;have r20:=T4.inv.r2;rw[<-HG.out] at r20;clear T4 r2;have r2:=r20;clear r20;generalize wr.alloc (.cells (ba 4 (offF G ((m-1)*4))) 341)=w4 at H4 rt r2 ⊢;obtain ⟨q,hq⟩:∃ q,q=offF G ((m-1)*4):=⟨_,rfl⟩;have HQ:=Lib.hid hq;rw[<-hq] at rt H4;clear hq;refine quiet_tail' 1 6 (by kernel_rfl) (by kernel_rfl) (fun _ _ _ _ _ h=>h) ?_
       simp only[List.take_succ_cons,List.take_zero,List.drop_succ_cons,List.drop_zero]
       repeat (go_big_quiet_step (fail))
       refine wpQuiet_nil ?_;rintro _ ⟨nq,rfl⟩;go_wp2_with fail;refine (addW_any (offF G ((m-8)*4)) q _).mono ?_;rintro e w5 ⟨rfl,hb5⟩;have T6:=(H4.out.drewN nq).call hb5;clear hb5 rt r2 H4;have r2:=T6.inv.r2;rw[<-HG.out] at r2;have T7:=T6.done (xorF (offF G ((m-8)*4)) q) (by rw[HQ.out,HG.out];exact HW.out)
       rw[<-HG.out] at T7;have H7:=Lib.hid T7;clear T6 T7;go_wp2;go_roundw
       case rel=>exact ⟨m+1,by omega,by omega,by go_num,by rw[HP.out],H7.out⟩
       case measure=>simp[intOf];omega
    ·obtain rfl:m=60:=by omega
     obtain ⟨hb,hs,r1,r2⟩:=hI;rw[show 4*60=240 from rfl,xI] at r2
     have HB:=Lib.hid hb;have H1:=Lib.hid r1;clear hb r1;go_wp2_with fail;refine (blocksOf_any (axpF k) _).mono ?_;rintro e w5 ⟨rfl,hb5⟩;have hb:=Lib.hid (onto HB.out (by omega) hb5)
     have r1:=zD hb5 H1.out;clear hb5 r2;go_wp2;refine bodyPost_ret (v:=.agg (ba 240 (axpF k))) (zW rfl _ _ (w.heap.size+1) _ _ _ rfl (zE r1 _) bks_u (by rw[zI];exact bks_i)) rfl ⟨rfl,?_⟩
     exact zG hb.out (by omega) _
structure EnInv(w:World)(k:Bf)(p q:Nat)(s:Bf)(wr:World):Prop where
 below:Below w.heap.size w wr
 hp:w.heap.size+3<=p
 hq:p<q
 r2:row wr (w.heap.size+1+1)=some (ba 16 fun _=>0#8)
 rp:row wr p=some (ba 240 (axpF k))
 rq:row wr q=some (ba 16 s)
theorem EnInv.size{w:World}{k:Bf}{p q:Nat}{s:Bf}{wr:World}(h:EnInv w k p q s wr):w.heap.size+5<=wr.heap.size:=by
 have:=zK h.rq;have:=h.hp;have:=h.hq;omega
theorem EnInv.call{w:World}{k:Bf}{p q:Nat}{s:Bf}{wr w':World}(h:EnInv w k p q s wr)(hb:Below wr.heap.size wr w'):EnInv w k p q s w':=
 ⟨onto h.below (by have:=h.size;omega) hb,h.hp,h.hq,zD hb h.r2,zD hb h.rp,zD hb h.rq⟩
theorem EnInv.drewN{w:World}{k:Bf}{p q:Nat}{s:Bf}{wr:World}(h:EnInv w k p q s wr)(n:Nat):EnInv w k p q s (wr.drewN n):=
 ⟨zQ h.below n,h.hp,h.hq,by rw[zS];exact h.r2,by rw[zS];exact h.rp,by rw[zS];exact h.rq⟩
theorem EnInv.put{w:World}{k:Bf}{p q:Nat}{s:Bf}{wr:World}(h:EnInv w k p q s wr)(s':Bf):EnInv w k p q s' (wr.setRow q (ba 16 s')):=by
 have hp:=h.hp;have hq:=h.hq;exact ⟨zG h.below (by omega) _,hp,hq,by rw[zF _ _ _ _ (by omega)];exact h.r2,by rw[zF _ _ _ _ (by omega)];exact h.rp,zE h.rq _⟩
theorem encrypt_any(k b:Bf)(w:World):
  Calls Tryz.prog 247 #[.agg (ba 32 k),.agg (ba 16 b)] w fun e w'=>e=.returned (.agg (ba 16 (aenF k b)))/\Below w.heap.size w w':=by
 have B0:=Lib.hid ((((Below.refl w.heap.size w).alloc (by simp) (.cells (ba 32 k) 61)).alloc (by simp) (.cells (ba 16 b) 266)).alloc (by simp;omega) (.cells (ba 16 fun _=>0#8) 266))
 go_enter Tryz.func247,Tryz.ntmps247;go_wp2_with fail;refine (expand_any k _).mono ?_;rintro e w1 ⟨rfl,hb1⟩;have r1:=zD hb1 (b:=w.heap.size+1) (c:=ba 16 b) (by simp[go_sem])
 have r2:=zD hb1 (b:=w.heap.size+1+1) (c:=ba 16 fun _=>0#8) (by simp[go_sem])
 have s1:w.heap.size+3<=w1.heap.size:=by have:=hb1.size;simp at this;omega
 have B1:=Lib.hid (onto B0.out (by simp;omega) hb1)
 clear hb1 B0;have s11:w.heap.size+1<w1.heap.size:=by omega
 have s12:w.heap.size+1+1<w1.heap.size:=by omega
 go_wp2_with fail;refine (addB_any b (axpF k) _).mono ?_;rintro e w3 ⟨rfl,hb3⟩;have B3:=Lib.hid (onto (B1.out.alloc (by omega) _) (by simp;omega) hb3)
 have rp:=zD hb3 (b:=w1.heap.size) (c:=ba 240 (axpF k)) (by simp[go_sem])
 have r23:=zD hb3 (zN r2 _);have s3:w1.heap.size<w3.heap.size:=by have:=hb3.size;simp at this;omega
 clear hb3 r1 r2
 have I0:EnInv w k w1.heap.size w3.heap.size (stF k b 0) (w3.alloc (.cells (ba 16 (xorF b (axpF k))) 266)):=
  ⟨B3.out.alloc (by omega) _,by omega,by omega,zN r23 _,zN rp _,by simp[go_sem];rfl⟩
 have H0:=Lib.hid I0;clear I0 r23 rp;go_wp2_with fail;go_loopw [7,14] (fun _ i wr=>∃ n:Nat,n<=14/\i=.int .i64 n/\EnInv w k w1.heap.size w3.heap.size (stF k b n) wr) (fun _ i _=>14-(intOf i).toNat)
 case atStart=>exact ⟨0,by omega,rfl,H0.out⟩
 case round=>
  obtain ⟨n,hn,rfl,hI⟩:=hrel;have rp:=hI.rp;have rq:=hI.rq;have r2:=hI.r2;have HI:=Lib.hid hI;clear hI
  by_cases hlt:n<14
  ·have b1:(n+1)*16+16<=240:=by omega
   have ht:((n:Int)==13)=(n==13):=by
    rw[Bool.eq_iff_iff];simp;omega
   clear r2;go_wp2_with fail;refine quiet_tail 7 (by kernel_rfl) (by kernel_rfl) (fun _ _ _ _ _ h=>h) ?_
   simp only[List.take_succ_cons,List.take_zero,List.drop_succ_cons,List.drop_zero]
   repeat (go_big_quiet_step (fail))
   refine wpQuiet_nil ?_;rintro _ ⟨nq,rfl⟩;go_wp2_with fail;refine (round_any (stF k b n) (offF (axpF k) ((n+1)*16)) (n==13) _).mono ?_;rintro e w5 ⟨rfl,hb5⟩;have I5:=(HI.out.drewN nq).call hb5;have rq5:=I5.rq;have H6:=Lib.hid (I5.put (rndF (stF k b n) (offF (axpF k) ((n+1)*16)) (n==13)));clear hb5 I5 rq rp HI;go_wp2;go_roundw
   case rel=>exact ⟨n+1,by omega,by go_num,H6.out⟩
   case measure=>simp[intOf];omega
  ·obtain rfl:n=14:=by omega
   clear rp;go_wp2;refine bodyPost_ret (v:=.agg (ba 16 (aenF k b))) (zW rfl _ _ (w.heap.size+1+1) _ _ _ rfl (zE r2 _) blk_u (by rw[zI];exact blk_i)) rfl ⟨rfl,?_⟩
   exact zG HI.out.below (by omega) _
@[irreducible] def va(n:Nat)(A:Nat->Value):Array Value:=Array.ofFn (n:=n) fun i=>A i
theorem va_size(n:Nat)(A:Nat->Value):(va n A).size=n:=by unfold va;simp
theorem va_get(n:Nat)(A:Nat->Value)(k:Nat)(h:k<n):(va n A)[k]? =some (A k):=by unfold va;simp[h]
theorem va_elem(n:Nat)(A:Nat->Value)(k:Nat)(h:k<(va n A).size):(va n A)[k]=A k:=by
 have e:=va_get n A k (by rwa [va_size] at h)
 rw[Array.getElem?_eq_getElem h] at e;exact Option.some.inj e
attribute [go_sem] va_size va_elem
def WordAt(w:World)(p q:Nat)(v:Value)(f:Bf):Prop:=
 ∃ b o c,v=.slice (some ⟨b,o,none⟩) 4 c/\b≠p/\b≠q/\b<w.heap.size/\∀ i,i<4->w.cell? ⟨b,o+i,none⟩=some (.int .u8 (I (f i)))
theorem WordAt.setCell{w:World}{p q:Nat}{v:Value}{f:Bf}(h:WordAt w p q v f)(i:Nat)(u:Value):WordAt (w.setCell ⟨q,i,none⟩ u) p q v f:=by
 obtain ⟨b,o,c,rfl,h1,h2,h3,h4⟩:=h;exact ⟨b,o,c,rfl,h1,h2,by simpa using h3,fun j hj=>by rw[World.cell?_setCell_other _ _ _ _ (by intro e;exact h2 (congrArg Addr.block e).symm)];exact h4 j hj⟩
theorem Own.wf{w:World}{base:Nat}{u:TypeId}{v:Value}{n:Nat}{f:Bf}(h:Own w base u v n f):∃ A c,v=.slice A n c/\n<=c/\c<=maxLen:=by
 obtain ⟨A,c,e,hs,hc,_⟩:=h.sl;exact ⟨A,c,e,hs.le,hc⟩
theorem grow_any(n:Nat)(w:World)(hn:n<=140737488355328):
  Calls Tryz.prog 244 #[.slice none 0 0,.int .i64 n] w fun e w'=>∃ v,e=.returned v/\(∀ f,Own w' w.heap.size 5 v 0 f)/\Below w.heap.size w w':=by
 rcases Nat.eq_zero_or_pos n with rfl|hpos
 ·go_enter Tryz.func244,Tryz.ntmps244
  go_wp2;go_ret;exact ⟨_,rfl,fun f=>Own.nil _ _ _ _,Below.refl _ _⟩
 ·have hd0:decide ((n:Int)<0)=false:=by simp
  have hd1:decide ((0:Int)<(n:Int))=true:=by simp;omega
  obtain ⟨cap,w2,hr,ho,hg⟩:=run_grow (P:=Tryz.prog) w 22 3 22 5 .i64 .i64 zZ i64_u yJ n hpos hn;have HO:=Lib.hid ho;have HB:=Lib.hid (Below.of_grown hg);have hup:=run_upto zZ u8_i (some ⟨w.heap.size,0,none⟩) n cap 0 (Nat.zero_le _);clear ho hg;go_enter Tryz.func244,Tryz.ntmps244;go_wp2_with (at_builtin;refine Lib.wpList_append_run _ rfl (.tmp 20) (.tmp 21) _ _ rfl _ _ rfl rfl _ _ hr ?_)
  go_ret;exact ⟨_,rfl,HO.out,HB.out⟩
def lenL(n:Nat->Nat):Nat->Nat
 |0=>0
 |k+1=>lenL n k+n k
def catsF(n:Nat->Nat)(b:Nat->Bf):Nat->Bf
 |0=>nF
 |k+1=>catF (lenL n k) (catsF n b k) (b k)
theorem lenL_mono(n:Nat->Nat){i j:Nat}(h:i<=j):lenL n i<=lenL n j:=by
 induction j with
 |zero=>obtain rfl:i=0:=by omega
        exact Nat.le_refl _
 |succ j ih=>
  rcases Nat.lt_or_ge i (j+1) with h1|h1
  ·exact Nat.le_trans (ih (by omega)) (Nat.le_add_right _ _)
  ·obtain rfl:i=j+1:=by omega
   exact Nat.le_refl _
theorem concat_any(N h cap:Nat)(A:Nat->Option Addr)(n c:Nat->Nat)(b:Nat->Bf)(w:World)(hcell:∀ i,i<N->w.cell? ⟨h,i,none⟩=some (.slice (A i) (n i) (c i)))(hh:h<w.heap.size)
  (hs:∀ i,i<N->Sl w w.heap.size (A i) (n i) (c i) (b i)) (hN:N<=1000000) (hT:lenL n N<=140737488355328):
  Calls Tryz.prog 218 #[.slice (some ⟨h,0,none⟩) N cap] w fun e w'=>∃ v,e=.returned v/\Own w' w.heap.size 5 v (lenL n N) (catsF n b N)/\Below w.heap.size w w':=by
 have HC:=Lib.hid hcell;have HS:=Lib.hid hs;clear hcell hs;go_enter Tryz.func218,Tryz.ntmps218;go_wp2;go_loop [3,11] (fun s i=>∃ k:Nat,k<=N/\i=.int .i64 k/\s=.int .i64 ((lenL n k:Nat):Int)) (fun _ i=>N-(intOf i).toNat)
 case atStart=>exact ⟨0,Nat.zero_le _,rfl,rfl⟩
 case round=>
  obtain ⟨k,hk,rfl,rfl⟩:=hrel
  by_cases hlt:k<N
  ·have hc:=HC.out k hlt
   have hd:decide ((k:Int)<(N:Int))=true:=by simp;omega
   have h1:=lenL_mono n (show k+1<=N from hlt)
   have h2:lenL n k+n k=lenL n (k+1):=rfl;have h3:((lenL n k:Nat):Int)+((n k:Nat):Int)=((lenL n (k+1):Nat):Int):=by rw[<-h2,Int.natCast_add]
   have hd2:decide (((lenL n (k+1):Nat):Int)<0)=false:=by simp
   clear h2;go_wp2;go_roundw
   case rel=>exact ⟨k+1,by omega,by go_num,rfl⟩
   case measure=>simp[intOf];omega
  ·obtain rfl:k=N:=by omega
   have hd:decide ((k:Int)<(k:Int))=false:=by simp
   go_wp2_with fail;refine (grow_any _ _ hT).mono ?_;rintro e w1 ⟨v,rfl,ho,hb⟩;have HO:=Lib.hid (ho nF);have HB:=Lib.hid hb;clear ho hb hd;go_wp2_with fail;go_loopw [6,27] (fun s i wr=>∃ j:Nat,j<=k/\i=.int .i64 j/\Own wr w.heap.size 5 s (lenL n j) (catsF n b j)/\Below w.heap.size w wr) (fun _ i _=>k-(intOf i).toNat)
   case atStart=>exact ⟨0,Nat.zero_le _,rfl,HO.out,HB.out⟩
   case round=>
    clear HO HB;obtain ⟨j,hj,rfl,ho,hb⟩:=hrel;have HO:=Lib.hid ho;have HB:=Lib.hid hb;clear ho hb
    by_cases hlt:j<k
    ·have hc:=HC.out j hlt
     rw[<-HB.out.cell (p:=⟨h,j,none⟩) hh] at hc;have hd:decide ((j:Int)<(k:Int))=true:=by simp;omega
     have h1:=lenL_mono n (show j+1<=k from hlt)
     have h2:lenL n j+n j=lenL n (j+1):=rfl;have HSJ:=Lib.hid ((HS.out j hlt).below HB.out);have hsz:=HB.out.size;have HL:lenL n j+n j<=140737488355328:=by omega
     go_wp2_with (at_builtin;refine yO rfl (.tmp 31) (.tmp 32) rfl zZ yJ HO.out HSJ.out HL hsz rfl rfl ?_;intro v' w2 ho hg ht)
     have HO2:=Lib.hid (show Own w2 w.heap.size 5 v' (lenL n (j+1)) (catsF n b (j+1)) from ho)
     have HB2:=Lib.hid (HO.out.after hg HB.out hsz (Nat.le_refl _));clear ho hg ht;go_roundw
     case rel=>exact ⟨j+1,by omega,by go_num,HO2.out,HB2.out⟩
     case measure=>simp[intOf];omega
    ·obtain rfl:j=k:=by omega
     have hd:decide ((j:Int)<(j:Int))=false:=by simp
     go_wp2;go_ret;exact ⟨_,rfl,HO.out,HB.out⟩
theorem concat2_any(h cap:Nat){A0 A1:Option Addr}{n0 n1 c0 c1:Nat}{b0 b1:Bf}(w:World)(hr:row w h=some #[.slice A0 n0 c0,.slice A1 n1 c1])(h0:Sl w w.heap.size A0 n0 c0 b0)(h1:Sl w w.heap.size A1 n1 c1 b1)(hT:n0+n1<=140737488355328):
  Calls Tryz.prog 218 #[.slice (some ⟨h,0,none⟩) 2 cap] w fun e w'=>∃ v,e=.returned v/\Own w' w.heap.size 5 v (n0+n1) (catF n0 b0 b1)/\Below w.heap.size w w':=by
 refine (concat_any 2 h cap (fun i=>if i=0 then A0 else A1) (fun i=>if i=0 then n0 else n1) (fun i=>if i=0 then c0 else c1) (fun i=>if i=0 then b0 else b1) w (fun i hi=>?_) (zK hr) (fun i hi=>?_) (by omega) (by simp[lenL];omega)).mono ?_
 ·rw[zC hr]
  rcases i with _|_|i
  ·rfl
  ·rfl
  ·omega
 ·rcases i with _|_|i
  ·exact h0
  ·exact h1
  ·omega
 ·rintro e w' ⟨v,rfl,ho,hb⟩
  refine ⟨v,rfl,?_,hb⟩;have e1:lenL (fun i=>if i=0 then n0 else n1) 2=n0+n1:=by simp[lenL]
  rw[e1] at ho;refine ho.congr fun i hi=>?_
  simp[catsF,lenL,yH]
theorem concat3_any(h cap:Nat){A0 A1 A2:Option Addr}{n0 n1 n2 c0 c1 c2:Nat}{b0 b1 b2:Bf}(w:World)(hr:row w h=some #[.slice A0 n0 c0,.slice A1 n1 c1,.slice A2 n2 c2])(h0:Sl w w.heap.size A0 n0 c0 b0)(h1:Sl w w.heap.size A1 n1 c1 b1)(h2:Sl w w.heap.size A2 n2 c2 b2)(hT:n0+n1+n2<=140737488355328):
  Calls Tryz.prog 218 #[.slice (some ⟨h,0,none⟩) 3 cap] w fun e w'=>∃ v,e=.returned v/\Own w' w.heap.size 5 v (n0+n1+n2) (catF (n0+n1) (catF n0 b0 b1) b2)/\Below w.heap.size w w':=by
 refine (concat_any 3 h cap (fun i=>if i=0 then A0 else if i=1 then A1 else A2) (fun i=>if i=0 then n0 else if i=1 then n1 else n2) (fun i=>if i=0 then c0 else if i=1 then c1 else c2) (fun i=>if i=0 then b0 else if i=1 then b1 else b2) w (fun i hi=>?_) (zK hr) (fun i hi=>?_) (by omega) (by simp[lenL];omega)).mono ?_
 ·rw[zC hr]
  rcases i with _|_|_|i
  ·rfl
  ·rfl
  ·rfl
  ·omega
 ·rcases i with _|_|_|i
  ·exact h0
  ·exact h1
  ·exact h2
  ·omega
 ·rintro e w' ⟨v,rfl,ho,hb⟩
  refine ⟨v,rfl,?_,hb⟩;have e1:lenL (fun i=>if i=0 then n0 else if i=1 then n1 else n2) 3=n0+n1+n2:=by simp[lenL]
  rw[e1] at ho;refine ho.congr fun i hi=>?_
  simp[catsF,lenL,yH]
def beN(m x:Nat):Bf:=fun i=>BitVec.ofNat 8 (x / 256^(m-1-i))
def ctrF(n:Bf)(c:Nat):Bf:=fun i=>if i<12 then n i else beN 4 c (i-12)
def xorS(k n:Bf)(from_:Nat)(b:Bf):Bf:=fun i=>b i^^^aenF k (ctrF n ((from_+i / 16) % 4294967296)) (i % 16)
def up16(n:Nat):Nat:=16*((n+15) / 16)
def allF(s:Bf)(ns:Nat)(b:Bf)(nb:Nat):Bf:=fun i=>
 if i<up16 ns then padF s ns i else if i<up16 ns+up16 nb then padF b nb (i-up16 ns) else if i<up16 ns+up16 nb+8 then beN 8 (8*ns) (i-(up16 ns+up16 nb)) else beN 8 (8*nb) (i-(up16 ns+up16 nb+8))
def tagF(k n:Bf)(s:Bf)(ns:Nat)(b:Bf)(nb:Nat):Bf:=xorF (aenF k (ctrF n 1)) (hshF (aenF k nF) (allF s ns b nb) (up16 ns+up16 nb+16))
theorem xorS_back(k n:Bf)(from_:Nat)(b:Bf):xorS k n from_ (xorS k n from_ b)=b:=by
 funext i;unfold xorS;rw[BitVec.xor_assoc,BitVec.xor_self,BitVec.xor_zero]
theorem padF_congr{b b':Bf}{n:Nat}(e:∀ i,i<n->b i=b' i):padF b n=padF b' n:=by
 funext i;unfold padF
 by_cases hi:i<n
 ·rw[if_pos hi,if_pos hi,e i hi]
 ·rw[if_neg hi,if_neg hi]
theorem tagF_congr{k n s s' b b':Bf}{ns nb:Nat}(hs:∀ i,i<ns->s i=s' i)(hb:∀ i,i<nb->b i=b' i):tagF k n s ns b nb=tagF k n s' ns b' nb:=by
 unfold tagF allF;rw[padF_congr hs,padF_congr hb]
theorem up16_le(n:Nat):n<=up16 n/\up16 n<=n+15:=by unfold up16;omega
theorem inc_zero(x:Nat):(BitVec.ofNat 8 x+1#8=0#8)↔x % 256=255:=by
 constructor
 ·intro h
  have:=congrArg BitVec.toNat h;simp at this;omega
 ·intro h
  apply BitVec.eq_of_toNat_eq;simp;omega
theorem ofNat_inc(x:Nat):BitVec.ofNat 8 x+1#8=BitVec.ofNat 8 (x+1):=by
 apply BitVec.eq_of_toNat_eq;simp
theorem ofNat_congr{x y:Nat}(h:x % 256=y % 256):BitVec.ofNat 8 x=BitVec.ofNat 8 y:=by
 apply BitVec.eq_of_toNat_eq;simp;omega
theorem ctr_next(n:Bf)(c:Nat)(i:Nat)(hi:i<16):nextF (ctrF n c) i=ctrF n ((c+1) % 4294967296) i:=by
 by_cases hl:i<12
 ·rw[nextF_low _ i hl];unfold ctrF;rw[if_pos hl,if_pos hl]
 ·have e15:ctrF n c 15=BitVec.ofNat 8 c:=by simp[ctrF,beN]
  have e14:ctrF n c 14=BitVec.ofNat 8 (c / 256):=by simp[ctrF,beN]
  have e13:ctrF n c 13=BitVec.ofNat 8 (c / 65536):=by simp[ctrF,beN]
  have e12:ctrF n c 12=BitVec.ofNat 8 (c / 16777216):=by simp[ctrF,beN]
  have hR:ctrF n ((c+1) % 4294967296) i=BitVec.ofNat 8 ((c+1) % 4294967296 / 256^(15-i)):=by
   unfold ctrF beN;rw[if_neg hl,show 4-1-(i-12)=15-i by omega]
  rw[hR];unfold nextF;unfold nxF;simp only[show 12+3=15 from rfl]
  rw[e15];have hcase:i=12\/i=13\/i=14\/i=15:=by omega
  by_cases h15:c % 256=255
  ·rw[if_pos ((inc_zero c).2 h15)]
   unfold nxF;simp only[show 12+2=14 from rfl]
   rw[show upd (ctrF n c) 15 (BitVec.ofNat 8 c+1#8) 14=BitVec.ofNat 8 (c / 256) by simp[upd,e14]]
   by_cases h14:c / 256 % 256=255
   ·rw[if_pos ((inc_zero _).2 h14)]
    unfold nxF;simp only[show 12+1=13 from rfl]
    rw[show upd (upd (ctrF n c) 15 (BitVec.ofNat 8 c+1#8)) 14 (BitVec.ofNat 8 (c / 256)+1#8) 13=BitVec.ofNat 8 (c / 65536) by simp[upd,e13]]
    by_cases h13:c / 65536 % 256=255
    ·rw[if_pos ((inc_zero _).2 h13)]
     unfold nxF;simp only[show 12+0=12 from rfl]
     rw[show upd (upd (upd (ctrF n c) 15 (BitVec.ofNat 8 c+1#8)) 14 (BitVec.ofNat 8 (c / 256)+1#8)) 13 (BitVec.ofNat 8 (c / 65536)+1#8) 12=BitVec.ofNat 8 (c / 16777216) by simp[upd,e12]]
     have hx:(if BitVec.ofNat 8 (c / 16777216)+1#8=0#8 then nxF 0 (upd (upd (upd (upd (ctrF n c) 15 (BitVec.ofNat 8 c+1#8)) 14 (BitVec.ofNat 8 (c / 256)+1#8)) 13 (BitVec.ofNat 8 (c / 65536)+1#8)) 12 (BitVec.ofNat 8 (c / 16777216)+1#8)) else upd (upd (upd (upd (ctrF n c) 15 (BitVec.ofNat 8 c+1#8)) 14 (BitVec.ofNat 8 (c / 256)+1#8)) 13 (BitVec.ofNat 8 (c / 65536)+1#8)) 12 (BitVec.ofNat 8 (c / 16777216)+1#8))=upd (upd (upd (upd (ctrF n c) 15 (BitVec.ofNat 8 c+1#8)) 14 (BitVec.ofNat 8 (c / 256)+1#8)) 13 (BitVec.ofNat 8 (c / 65536)+1#8)) 12 (BitVec.ofNat 8 (c / 16777216)+1#8):=by
      split<;>rfl
     rw[hx];rcases hcase with rfl|rfl|rfl|rfl
     all_goals
      simp only[upd];simp only[ofNat_inc];simp;exact ofNat_congr (by omega)
    ·rw[if_neg (fun h=>h13 ((inc_zero _).1 h))]
     rcases hcase with rfl|rfl|rfl|rfl
     all_goals
      simp only[upd];simp only[ofNat_inc,e12,e13,e14,e15];simp[e12];exact ofNat_congr (by omega)
   ·rw[if_neg (fun h=>h14 ((inc_zero _).1 h))]
    rcases hcase with rfl|rfl|rfl|rfl
    all_goals
     simp only[upd];simp only[ofNat_inc,e12,e13,e14,e15];simp[e12,e13];exact ofNat_congr (by omega)
  ·rw[if_neg (fun h=>h15 ((inc_zero _).1 h))]
   rcases hcase with rfl|rfl|rfl|rfl
   all_goals
    simp only[upd];simp only[ofNat_inc,e12,e13,e14,e15];simp[e12,e13,e14];exact ofNat_congr (by omega)
theorem ctr_next_ba(n:Bf)(c:Nat):ba 16 (nextF (ctrF n c))=ba 16 (ctrF n ((c+1) % 4294967296)):=xA (ctr_next n c)
theorem cnt_step(a j:Nat):((a+j) % 4294967296+1) % 4294967296=(a+(j+1)) % 4294967296:=by omega
def wrF(f:Bf)(o m x j:Nat):Bf:=fun i=>if o+(m-j)<=i/\i<o+m then beN m x (i-o) else f i
theorem wrF_zero(f:Bf)(o m x:Nat):wrF f o m x 0=f:=by funext i;unfold wrF;rw[if_neg (by omega)]
theorem wrF_all(f:Bf)(o m x:Nat):wrF f o m x m=putF f o m (beN m x):=by
 funext i;unfold wrF putF;rw[Nat.sub_self,Nat.add_zero]
theorem wrF_step(f:Bf)(o m x j:Nat)(h:j<m):upd (wrF f o m x j) (o+(m-(j+1))) (BitVec.ofNat 8 (x / 256^j))=wrF f o m x (j+1):=by
 funext i;unfold upd wrF
 by_cases hi:i=o+(m-(j+1))
 ·rw[if_pos hi,if_pos (by omega)]
  unfold beN;congr 2;congr 1;omega
 ·rw[if_neg hi]
  by_cases h2:o+(m-j)<=i/\i<o+m
  ·rw[if_pos h2,if_pos (by omega)]
  ·rw[if_neg h2,if_neg (by omega)]
theorem I_of8(n:Nat):((n:Int) % 256)=I (BitVec.ofNat 8 n):=by
 unfold I;rw[BitVec.toNat_ofNat];omega
theorem wnum_any(g o m c N x:Nat)(f:Bf)(w:World)(hr:row w g=some (ba N f))(hom:o+m<=N)(hN:N<=1000)(hx:x<18446744073709551616):
  Calls Tryz.prog 273 #[.slice (some ⟨g,o,none⟩) m c,.int .u64 x] w fun e w'=>e=.returned (.tuple #[])/\w'=w.setRow g (ba N (putF f o m (beN m x))):=by
 go_enter Tryz.func273,Tryz.ntmps273;go_wp2;go_loopw [1,4] (fun v i wr=>∃ r j:Nat,r+j=m/\v=.int .u64 ((x / 256^j:Nat):Int)/\i=.int .i64 ((r:Int)-1)/\wr=w.setRow g (ba N (wrF f o m x j))) (fun _ i _=>(intOf i+1).toNat)
 case atStart=>exact ⟨m,0,by omega,by simp,rfl,by rw[wrF_zero,yF hr]⟩
 case round=>
  obtain ⟨r,j,hrj,rfl,rfl,rfl⟩:=hrel;rcases r with _|s
  ·obtain rfl:j=m:=by omega
   rw[wrF_all];have hd:decide ((0:Int)<=((0:Nat):Int)-1)=false:=by decide
   go_wp2;go_end0;exact ⟨rfl,rfl⟩
  ·have e1:((s+1:Nat):Int)-1=(s:Int):=by omega
   rw[e1];have hd:decide ((0:Int)<=(s:Int))=true:=by simp
   have hc:=I_of8 (x / 256^j);have hlt:x / 256^j<18446744073709551616:=Nat.lt_of_le_of_lt (Nat.div_le_self _ _) hx
   have hq:((x / 256^j:Nat):Int) / 256=((x / 256^(j+1):Nat):Int):=by
    rw[Nat.pow_succ,<-Nat.div_div_eq_div_mul];rfl
   obtain ⟨y,hy⟩:∃ y,y=x / 256^j:=⟨_,rfl⟩;obtain ⟨z,hz⟩:∃ z,z=x / 256^(j+1):=⟨_,rfl⟩;rw[<-hy] at hc hlt hq ⊢;rw[<-hz] at hq;have hrow:=zE hr (ba N (wrF f o m x j));have HST:=Lib.hid (wrF_step f o m x j (by omega))
   have HY:=Lib.hid hy;have HZ:=Lib.hid hz;have hs:s<m:=by omega
   have hj:j+s+1=m:=by omega
   have hcl:(w.setRow g (ba N (wrF f o m x j))).cell? ⟨g,o+s,none⟩=some (.int .u8 (I (wrF f o m x j (o+s)))):=by rw[zC hrow,yA _ _ _ (by omega)]
   have hfz:(w.setRow g (ba N (wrF f o m x j))).frozen? ⟨g,o+s,none⟩=false:=zJ hrow _
   have HW:=Lib.hid (show ((w.setRow g (ba N (wrF f o m x j))).setCell ⟨g,o+s,none⟩ (.int .u8 (I (BitVec.ofNat 8 y))))=w.setRow g (ba N (wrF f o m x (j+1))) by
    rw[zL hrow,ba_set,setRow_setRow,hy,<-wrF_step f o m x j (by omega),show o+(m-(j+1))=o+s by omega])
   generalize w.setRow g (ba N (wrF f o m x j))=wr at hcl hfz HW ⊢;clear hy hz hrow;go_wp2;rw[HW.out];go_roundw
   case rel=>exact ⟨s,j+1,by omega,by rw[HZ.out],rfl,rfl⟩
   case measure=>simp[intOf]
theorem ctr_put(n:Bf)(x:Nat):ba 16 (putF (putF (fun _=>0#8) 0 12 n) 12 4 (beN 4 x))=ba 16 (ctrF n x):=xA fun i hi=>by
 unfold putF ctrF
 by_cases h:i<12
 ·rw[if_neg (by omega),if_pos (by omega),if_pos h,Nat.sub_zero]
 ·rw[if_pos (by omega),if_neg h]
theorem cblk_any(n:Bf)(x:Nat)(hx:x<4294967296)(w:World):
  Calls Tryz.prog 245 #[.agg (ba 12 n),.int .u32 x] w fun e w'=>e=.returned (.agg (ba 16 (ctrF n x)))/\Below w.heap.size w w':=by
 have B0:=Lib.hid ((((Below.refl w.heap.size w).alloc (by simp) (.cells (ba 12 n) 217)).alloc (by simp) (.cells (ba 16 fun _=>0#8) 266)).alloc (by simp;omega) (.cells (ba 16 fun _=>0#8) 266))
 have q0:row (((w.alloc (.cells (ba 12 n) 217)).alloc (.cells (ba 16 fun _=>0#8) 266)).alloc (.cells (ba 16 fun _=>0#8) 266)) w.heap.size=some (ba 12 n):=by simp[go_sem]
 have q1:row (((w.alloc (.cells (ba 12 n) 217)).alloc (.cells (ba 16 fun _=>0#8) 266)).alloc (.cells (ba 16 fun _=>0#8) 266)) (w.heap.size+1)=some (ba 16 fun _=>0#8):=by simp[go_sem]
 have q2:row (((w.alloc (.cells (ba 12 n) 217)).alloc (.cells (ba 16 fun _=>0#8) 266)).alloc (.cells (ba 16 fun _=>0#8) 266)) (w.heap.size+1+1)=some (ba 16 fun _=>0#8):=by simp[go_sem]
 go_enter Tryz.func245,Tryz.ntmps245;go_wp2;refine yE [([0,1],2,true)] [3] (by kernel_rfl) (by kernel_rfl) (fun _ _ _ _ _ h=>h) fun X=>?_
 have B1:=Lib.hid (onto B0.out (by simp;omega) X.below)
 have r0:=After.row q0 X;have r1:=After.row q1 X;have r2:=After.row q2 X;clear q0 q1 q2 B0;generalize X.val=w1 at B1 r0 r1 r2 ⊢;clear X;have Q0:=After.row r0;have Q2:=After.row r2;simp only[wpFs,pk,List.getElem?_cons_zero,List.getElem?_cons_succ]
 repeat (go_big_quiet_step (fail))
 refine wpQuiet_nil ?_;clear Q0 Q2;have HS:=Sl.of_row r0 w1.heap.size (zK r0);go_wp2_with (refine wpl_copy rfl (.tmp 7) (.tmp 8) 22 22 5 rfl zZ u8_i r2 HS (show 12=min 12 16 by rfl) rfl rfl ?_)
 have B2:=Lib.hid (zG B1.out (by omega:w.heap.size<=w.heap.size+1+1) (ba 16 (putF (fun _=>0#8) 0 12 n)))
 have t1:row (w1.setRow (w.heap.size+1+1) (ba 16 (putF (fun _=>0#8) 0 12 n))) (w.heap.size+1)=some (ba 16 fun _=>0#8):=by rw[zF _ _ _ _ (by omega)];exact r1
 have t2:row (w1.setRow (w.heap.size+1+1) (ba 16 (putF (fun _=>0#8) 0 12 n))) (w.heap.size+1+1)=some (ba 16 (putF (fun _=>0#8) 0 12 n)):=zE r2 _
 clear HS r0 r1 r2 B1;generalize w1.setRow (w.heap.size+1+1) (ba 16 (putF (fun _=>0#8) 0 12 n))=w2 at B2 t1 t2 ⊢
 show wpQuiet _ _ _ _ _ _
 repeat (go_big_quiet_step (fail))
 refine wpQuiet_nil ?_;go_wp2_with fail;refine (wnum_any _ 12 4 4 16 x _ _ t2 (by omega) (by omega) (by omega)).mono ?_
 rintro e w' ⟨rfl,rfl⟩;rw[ctr_put];have B3:=Lib.hid (zG B2.out (by omega:w.heap.size<=w.heap.size+1+1) (ba 16 (ctrF n x)))
 have r1:row (w2.setRow (w.heap.size+1+1) (ba 16 (ctrF n x))) (w.heap.size+1)=some (ba 16 fun _=>0#8):=by rw[zF _ _ _ _ (by omega)];exact t1
 have r2:row (w2.setRow (w.heap.size+1+1) (ba 16 (ctrF n x))) (w.heap.size+1+1)=some (ba 16 (ctrF n x)):=zE t2 _;clear t1 t2 B2;generalize w2.setRow (w.heap.size+1+1) (ba 16 (ctrF n x))=w3 at B3 r1 r2 ⊢;go_wp2_with fail;refine bodyPost_ret (v:=.agg (ba 16 (ctrF n x))) (zW rfl _ _ (w.heap.size+1) _ _ _ rfl (zE r1 _) blk_u (by rw[zI];exact blk_i)) rfl ⟨rfl,?_⟩
 exact zG B3.out (by omega) _
theorem lens_any(n1 c1 n2 c2:Nat)(A1 A2:Option Addr)(h1:n1<=1099511627776)(h2:n2<=1099511627776)(w:World):
  Calls Tryz.prog 249 #[.slice A1 n1 c1,.slice A2 n2 c2] w fun e w'=>e=.returned (.agg (ba 16 (catF 8 (beN 8 (8*n1)) (beN 8 (8*n2)))))/\Below w.heap.size w w':=by
 have B0:=Lib.hid (((Below.refl w.heap.size w).alloc (by simp) (.cells (ba 16 fun _=>0#8) 266)).alloc (by simp) (.cells (ba 16 fun _=>0#8) 266))
 have q0:row ((w.alloc (.cells (ba 16 fun _=>0#8) 266)).alloc (.cells (ba 16 fun _=>0#8) 266)) w.heap.size=some (ba 16 fun _=>0#8):=by simp[go_sem]
 have q1:row ((w.alloc (.cells (ba 16 fun _=>0#8) 266)).alloc (.cells (ba 16 fun _=>0#8) 266)) (w.heap.size+1)=some (ba 16 fun _=>0#8):=by simp[go_sem]
 go_enter Tryz.func249,Tryz.ntmps249;go_wp2_with fail;generalize (w.alloc (.cells (ba 16 fun _=>0#8) 266)).alloc (.cells (ba 16 fun _=>0#8) 266)=w1 at B0 q0 q1 ⊢
 have c1:=wnum_any (w.heap.size+1) 0 8 16 16 (n1*8) (fun _=>0#8) w1 q1 (by omega) (by omega) (by omega)
 rw[Int.natCast_mul] at c1;refine c1.mono ?_;rintro e w' ⟨rfl,rfl⟩;have B1:=Lib.hid (zG B0.out (by omega:w.heap.size<=w.heap.size+1) (ba 16 (putF (fun _=>0#8) 0 8 (beN 8 (n1*8)))))
 have r0:row (w1.setRow (w.heap.size+1) (ba 16 (putF (fun _=>0#8) 0 8 (beN 8 (n1*8))))) w.heap.size=some (ba 16 fun _=>0#8):=by rw[zF _ _ _ _ (by omega)];exact q0
 have r1:row (w1.setRow (w.heap.size+1) (ba 16 (putF (fun _=>0#8) 0 8 (beN 8 (n1*8))))) (w.heap.size+1)=some (ba 16 (putF (fun _=>0#8) 0 8 (beN 8 (n1*8)))):=zE q1 _
 clear q0 q1 B0 c1;generalize w1.setRow (w.heap.size+1) (ba 16 (putF (fun _=>0#8) 0 8 (beN 8 (n1*8))))=w2 at B1 r0 r1 ⊢
 go_wp2_with fail;have c2:=wnum_any (w.heap.size+1) 8 8 8 16 (n2*8) (putF (fun _=>0#8) 0 8 (beN 8 (n1*8))) w2 r1 (by omega) (by omega) (by omega)
 rw[Int.natCast_mul] at c2;refine c2.mono ?_;rintro e w' ⟨rfl,rfl⟩
 have hF:ba 16 (putF (putF (fun _=>0#8) 0 8 (beN 8 (n1*8))) 8 8 (beN 8 (n2*8)))=ba 16 (catF 8 (beN 8 (8*n1)) (beN 8 (8*n2))):=xA fun i hi=>by
  rw[Nat.mul_comm n1,Nat.mul_comm n2];unfold putF catF
  by_cases h:i<8
  ·rw[if_neg (by omega),if_pos (by omega),if_pos h,Nat.sub_zero]
  ·rw[if_pos (by omega),if_neg h]
 rw[hF];have B2:=Lib.hid (zG B1.out (by omega:w.heap.size<=w.heap.size+1) (ba 16 (catF 8 (beN 8 (8*n1)) (beN 8 (8*n2)))))
 have t0:row (w2.setRow (w.heap.size+1) (ba 16 (catF 8 (beN 8 (8*n1)) (beN 8 (8*n2))))) w.heap.size=some (ba 16 fun _=>0#8):=by rw[zF _ _ _ _ (by omega)];exact r0
 have t1:row (w2.setRow (w.heap.size+1) (ba 16 (catF 8 (beN 8 (8*n1)) (beN 8 (8*n2))))) (w.heap.size+1)=some (ba 16 (catF 8 (beN 8 (8*n1)) (beN 8 (8*n2)))):=zE r1 _;clear r0 r1 B1 c2 hF;generalize w2.setRow (w.heap.size+1) (ba 16 (catF 8 (beN 8 (8*n1)) (beN 8 (8*n2))))=w3 at B2 t0 t1 ⊢;go_wp2_with fail;refine bodyPost_ret (v:=.agg (ba 16 (catF 8 (beN 8 (8*n1)) (beN 8 (8*n2))))) (zW rfl _ _ w.heap.size _ _ _ rfl (zE t0 _) blk_u (by rw[zI];exact blk_i)) rfl ⟨rfl,?_⟩
 exact zG B2.out (Nat.le_refl _) _
theorem pad_cat(b z:Bf)(n m:Nat)(hz:∀ i,z i=0#8):∀ i,i<n+m->catF n b z i=padF b n i:=fun i _=>by
 unfold catF padF
 by_cases h:i<n
 ·rw[if_pos h,if_pos h]
 ·rw[if_neg h,if_neg h,hz]
theorem padded_any(n c:Nat)(A:Option Addr)(b:Bf)(w:World)(hs:Sl w w.heap.size A n c b)(hn:n<=1099511627776):
  Calls Tryz.prog 250 #[.slice A n c] w fun e w'=>∃ A' c',e=.returned (.slice A' (up16 n) c')/\Sl w' w'.heap.size A' (up16 n) c' (padF b n)/\c'<=maxLen/\Below w.heap.size w w':=by
 obtain ⟨m,hm⟩:∃ m,m=(16-n % 16) % 16:=⟨_,rfl⟩;have hup:n+m=up16 n:=by unfold up16;omega
 have hm16:m<=16:=by omega
 have hmi:(16-(n:Int) % 16) % 16=(m:Int):=by omega
 have B0:=Lib.hid ((Below.refl w.heap.size w).alloc (by simp) (.cells (ba 16 fun _=>0#8) 266))
 have q0:row (w.alloc (.cells (ba 16 fun _=>0#8) 266)) w.heap.size=some (ba 16 fun _=>0#8):=by simp[go_sem]
 have hfull:=run_full zZ u8_i A n c n hs.le;have hsl:=blk_sl_h w.heap.size m hm16;have HS:=Lib.hid (hs.below B0.out);have HMM:=Lib.hid hup;clear hs hm hup;go_enter Tryz.func250,Tryz.ntmps250;go_wp2;refine yE [([0,1,2,3,4,5,6,7],8,true)] [9] (by kernel_rfl) (by kernel_rfl) (fun _ _ _ _ _ h=>h) fun X=>?_
 have B1:=Lib.hid (onto B0.out (by simp) X.below)
 have r0:=After.row q0 X;have HS1:=Lib.hid (HS.out.below (X.below.mono (by simp)))
 have hsz:w.heap.size<=X.val.heap.size:=B1.out.size;clear q0 B0 HS hmi;generalize X.val=w1 at B1 r0 HS1 hsz ⊢;clear X;simp only[wpFs,pk,List.getElem?_cons_zero,List.getElem?_cons_succ]
 repeat (go_big_quiet_step (fail))
 refine wpQuiet_nil ?_;have HZ:Sl w1 w1.heap.size (some ⟨w.heap.size,0,none⟩) m 16 (fun _=>0#8):=((Sl.of_row r0 w1.heap.size (zK r0)).upto m hm16)
 clear hfull hsl;go_wp2_with (at_builtin;refine wpl_appF rfl (.tmp 15) (.tmp 17) rfl zZ yJ HS1.out.full (by unfold maxLen;omega) hsz HS1.out.nil_zero HZ (by omega) rfl rfl ?_;intro A2 c2 w2 h2 hc2 hg)
 have HB2:=Lib.hid (onto B1.out hsz (Below.of_grown hg));have H2:=Lib.hid ((h2.congr (pad_cat b (fun _=>0#8) n m (fun _=>rfl))))
 have HC2:=Lib.hid hc2;clear h2 hc2 hg HZ;rw[HMM.out] at H2 ⊢;show wpQuiet _ _ _ _ _ _
 repeat (go_big_quiet_step (fail))
 refine wpQuiet_nil ?_;go_wp2;go_ret;exact ⟨_,_,rfl,H2.out,HC2.out,HB2.out⟩
theorem xor_grp(k n:Bf)(a:Nat)(b:Bf)(j m:Nat)(hm:m<=16)(i:Nat)(hi:i<16*j+m):
  catF (16*j) (xorS k n a b) (xorF (putF (fun _=>0#8) 0 m (offF b (16*j))) (aenF k (ctrF n ((a+j) % 4294967296)))) i=xorS k n a b i:=by
 unfold catF
 by_cases h:i<16*j
 ·rw[if_pos h]
 ·rw[if_neg h]
  unfold xorF putF offF xorS;rw[if_pos (by omega),Nat.sub_zero,show 16*j+(i-16*j)=i by omega,show i / 16=j by omega,show i % 16=i-16*j by omega]
structure XrInv(w:World)(k ct:Bf)(C:Nat)(wr:World):Prop where
 below:Below w.heap.size w wr
 key:row wr w.heap.size=some (ba 32 k)
 ctr:row wr C=some (ba 16 ct)
 hC:w.heap.size+2<=C
theorem XrInv.lt{w:World}{k ct:Bf}{C:Nat}{wr:World}(h:XrInv w k ct C wr):C<wr.heap.size:=zK h.ctr
theorem XrInv.call{w:World}{k ct:Bf}{C:Nat}{wr w':World}(h:XrInv w k ct C wr)(hb:Below wr.heap.size wr w'):XrInv w k ct C w':=
 ⟨onto h.below h.below.size hb,zD hb h.key,zD hb h.ctr,h.hC⟩
theorem XrInv.grown{w:World}{k ct:Bf}{C:Nat}{wr w':World}{base:Nat}{u:TypeId}{v:Value}{n:Nat}{f:Bf}(h:XrInv w k ct C wr)(ho:Own wr base u v n f)(hg:wr.grownBy w' v.ownBlock)(hbase:w.heap.size+1<=base)(hv:v.ownBlock≠some C):XrInv w k ct C w':=
 ⟨ho.after hg h.below h.below.size (by omega),grown_row hg h.key (fun e=>by
  unfold Own at ho;rcases ho.2 with ⟨rfl,_⟩|⟨g,cap,cur,rfl,hb,_⟩
  ·cases e
  ·simp only[Value.ownBlock,Option.some.injEq] at e
   omega),grown_row hg h.ctr hv,h.hC⟩
theorem XrInv.put{w:World}{k ct:Bf}{C:Nat}{wr:World}(h:XrInv w k ct C wr)(ct':Bf):XrInv w k ct' C (wr.setRow C (ba 16 ct')):=
 ⟨zG h.below (by have:=h.hC;omega) _,by rw[zF _ _ _ _ (by have:=h.hC;omega)];exact h.key,zE h.ctr _,h.hC⟩
theorem gxor_any(k n:Bf)(a:Nat)(ha:a<4294967296)(b:Bf)(L c:Nat)(A:Option Addr)(w:World)(hs:Sl w w.heap.size A L c b)(hL:L<=1099511627776):
  Calls Tryz.prog 219 #[.agg (ba 32 k),.agg (ba 12 n),.int .u32 a,.slice A L c] w fun e w'=>∃ v,e=.returned v/\Own w' w.heap.size 5 v L (xorS k n a b)/\Below w.heap.size w w':=by
 obtain ⟨iu,hiu,z0,z1,z2⟩:=info_parts (P:=Tryz.prog) yJ;have B0:=((Below.refl w.heap.size w).alloc (by simp) (.cells (ba 32 k) 61)).alloc (by simp) (.cells (ba 12 n) 217)
 have HS:=Lib.hid (hs.below B0);have HB0:=Lib.hid B0;have q0:row ((w.alloc (.cells (ba 32 k) 61)).alloc (.cells (ba 12 n) 217)) w.heap.size=some (ba 32 k):=by simp[go_sem]
 have q1:row ((w.alloc (.cells (ba 32 k) 61)).alloc (.cells (ba 12 n) 217)) (w.heap.size+1)=some (ba 12 n):=by simp[go_sem]
 clear hs B0;go_enter Tryz.func219,Tryz.ntmps219;go_wp2_with (at_make;refine wpList_make_own _ rfl (.const (.int .i64 0)) (.tmp 14) _ rfl (w.heap.size+2) 5 iu (.int .u8 0) 1 zZ hiu z0 z1 .i64 .i64 _ L rfl rfl rfl (by rw[z2];omega) (by unfold maxLen;omega) (by simp) ?_;intro w2 ho hg;have hb2:=Below.of_grown hg;have r0:=zD hb2 q0;have r1:=zD hb2 q1)
 have HO:=Lib.hid (Own.of_zero ho (xorS k n a b));have HB2:=Lib.hid (onto HB0.out (by simp;omega) hb2)
 have HS2:=Lib.hid (HS.out.below (hb2.mono (by simp;omega)))
 have s2:w.heap.size+3<=w2.heap.size:=by
  rcases ho.2 with ⟨h,_⟩|⟨g,cap,cur,h,hb,hh,_⟩
  ·cases h
  ·have:=(Array.getElem?_eq_some_iff.1 hh).1
   simp only[Value.slice.injEq,Option.some.injEq,Addr.mk.injEq] at h;obtain ⟨⟨h,_⟩,_⟩:=h;simp at h;omega
 clear ho hg hb2 q0 q1 HS HB0 z0 z1 z2 hiu;refine (cblk_any n a ha _).mono ?_;rintro e w3 ⟨rfl,hb3⟩;have t0:=zD hb3 r0;have t1:=zD hb3 r1
 have hO3:Own (w3.alloc (.cells (ba 16 (ctrF n a)) 266)) (w.heap.size+2) 5 (.slice (some ⟨w.heap.size+1+1,0,none⟩) 0 L) 0 (xorS k n a b):=by
  have:=(HO.out.below hb3 (Nat.le_refl _)).alloc (.cells (ba 16 (ctrF n a)) 266)
  simpa using this
 have hX:XrInv w k (ctrF n a) w3.heap.size (w3.alloc (.cells (ba 16 (ctrF n a)) 266)):=
  ⟨(onto HB2.out HB2.out.size hb3).alloc (by have:=hb3.size;omega) _,zN t0 _,zA _ _ _ _ rfl,by have:=hb3.size;omega⟩
 have hS3:Sl (w3.alloc (.cells (ba 16 (ctrF n a)) 266)) w.heap.size A L c b:=(HS2.out.below (hb3.mono (by omega))).below ((Below.refl _ _).alloc (by have:=hb3.size;omega) _)
 have hne:(Value.slice (some ⟨w.heap.size+1+1,0,none⟩) 0 L).ownBlock≠some w3.heap.size:=by
  have:=hb3.size;simp[Value.ownBlock];omega
 have HO3:=Lib.hid hO3;have HX:=Lib.hid hX;have HS3:=Lib.hid hS3;have HNE:=Lib.hid hne;have HA:=Lib.hid ha;clear hO3 hX hS3 hne HO HS2 HB2 hb3 r0 r1 t0 t1 s2 ha;go_wp2_with fail;generalize w3.heap.size=C at HX HNE ⊢;generalize w3.alloc (.cells (ba 16 (ctrF n a)) 266)=w4 at HO3 HX HS3 ⊢;go_loopw [3,9] (fun v s wr=>∃ j:Nat,∃ A':Option Addr,∃ c':Nat,16*j<L+16/\v=.slice A' (L-16*j) c'/\Sl wr w.heap.size A' (L-16*j) c' (offF b (16*j))/\Own wr (w.heap.size+2) 5 s (min L (16*j)) (xorS k n a b)/\s.ownBlock≠some C/\XrInv w k (ctrF n ((a+j) % 4294967296)) C wr) (fun v _ _=>slLen v)
 case atStart=>exact ⟨0,A,c,by omega,rfl,by rw[Nat.mul_zero,offF_zero];exact HS3.out,by rw[Nat.mul_zero,Nat.min_zero];exact HO3.out,HNE.out,by rw[Nat.add_zero,Nat.mod_eq_of_lt HA.out];exact HX.out⟩
 case round=>
  clear HO3 HX HS3 HNE;obtain ⟨j,A',c',hj,rfl,hs,ho,hne,hI⟩:=hrel;obtain ⟨wo,rfl⟩:∃ wo:World,wo=wr:=⟨_,rfl⟩;obtain ⟨r,hr⟩:∃ r,r=L-16*j:=⟨_,rfl⟩;rw[<-hr] at hs ⊢;have HR:=Lib.hid hr;have HS:=Lib.hid hs;have HO:=Lib.hid ho;have HNE:=Lib.hid hne;have HI:=Lib.hid hI;have HJ:=Lib.hid hj;clear hr hs ho hne hI hj;rcases Nat.eq_zero_or_pos r with rfl|hpos
  ·have hd:decide ((0:Int)<0)=false:=by decide
   go_wp2_with fail;go_ret;refine ⟨_,rfl,?_,HI.out.below⟩;have:=HO.out.base (b':=w.heap.size) (by omega)
   rw[show min L (16*j)=L by have:=HR.out;omega] at this
   exact this
  ·have hd:decide ((0:Int)<(r:Int))=true:=by simp;omega
   obtain ⟨m,hm⟩:∃ m,m=min r 16:=⟨_,rfl⟩;have HM:=Lib.hid hm;have hfrom:=xE zZ u8_i A' r c' m (by omega)
   have hm16:m<=16:=by omega
   have hmp:0<m:=by omega
   clear hm;go_wp2_with (refine wpl_copy rfl (.tmp 22) (.tmp 23) 22 22 5 rfl zZ u8_i (zA _ _ _ _ rfl) (HS.out.below ((Below.refl _ _).alloc (by have:=HI.out.below.size;omega) _)) HM.out rfl rfl ?_)
   obtain ⟨f,hf⟩:∃ f,f=putF (fun _=>0#8) 0 m (offF b (16*j)):=⟨_,rfl⟩
   obtain ⟨ct,hct⟩:∃ ct,ct=ctrF n ((a+j) % 4294967296):=⟨_,rfl⟩;have hI0:=HI.out;rw[<-hf];rw[<-hct] at hI0;have HF:=Lib.hid hf;have HCT:=Lib.hid hct;clear hf hct;have rg:row (wo.alloc (.cells (ba 16 f) 266)) wo.heap.size=some (ba 16 f):=zA _ _ _ _ rfl;have hB1:Below wo.heap.size wo (wo.alloc (.cells (ba 16 f) 266)):=(Below.refl _ _).alloc (Nat.le_refl _) _;have HI1:=Lib.hid (hI0.call hB1);have HS1:=Lib.hid (HS.out.below (hB1.mono HI.out.below.size));have HO1:=Lib.hid (HO.out.below hB1 (Nat.le_refl _));have HCG:=Lib.hid (show C<wo.heap.size from hI0.lt)
   have HWG:=Lib.hid (show w.heap.size<=wo.heap.size from hI0.below.size)
   have HOG:=Lib.hid (show u9.ownBlock≠some wo.heap.size by
    intro e;have:=HO.out;unfold Own at this;have:=(World.ownsRow.lt this _ e).2
    omega)
   have hsl:=blk_sl_h wo.heap.size m hm16;clear HS HO HI hI0 hB1;generalize wo.heap.size=G at rg HCG HWG HOG hsl ⊢;generalize wo.alloc (.cells (ba 16 f) 266)=w1 at rg HI1 HS1 HO1 ⊢;have q0:=After.row HI1.out.key;have q1:=After.row HI1.out.ctr;have qg:=After.row rg;refine seen_tail 0 5 (by kernel_rfl) (by kernel_rfl) (fun _ _ _ _ _ h=>h) ?_
   simp only[List.take_succ_cons,List.take_zero,List.drop_succ_cons,List.drop_zero]
   repeat (go_big_quiet_step ((first|(go_at_call 247;refine After.call _ (encrypt_any k ct _))|(go_at_call 246;refine After.call _ (bxor_any f (aenF k ct) _)))))
   refine wpQuiet_nil ?_;rintro _ ⟨z,rfl⟩;have hbz:=z.below;have HI2:=Lib.hid (HI1.out.call hbz);have HS2:=Lib.hid (HS1.out.below (hbz.mono HI1.out.below.size));have HO2:=Lib.hid (HO1.out.below hbz (Nat.le_refl _));have rg2:=zD hbz rg;clear q0 q1 qg rg hbz HI1 HS1 HO1;generalize z.val=w2 at HI2 HS2 HO2 rg2 ⊢;have rg3:=zE rg2 (ba 16 (xorF f (aenF k ct)))
   have HI3:=Lib.hid (show XrInv w k ct C (w2.setRow G (ba 16 (xorF f (aenF k ct)))) from
    ⟨zG HI2.out.below HWG.out _,by rw[zF _ _ _ _ (by have:=HI2.out.hC;have:=HCG.out;omega)];exact HI2.out.key,by rw[zF _ _ _ _ (by have:=HCG.out;omega)];exact HI2.out.ctr,HI2.out.hC⟩)
   have HO3:=Lib.hid (HO2.out.setRow G HOG.out (ba 16 (xorF f (aenF k ct))));have HS3:=Lib.hid (HS2.out.below (zG (Below.refl w.heap.size w2) HWG.out (ba 16 (xorF f (aenF k ct)))));have hG:G<w2.heap.size:=zK rg2;clear HI2 HS2 HO2;have hb:(w2.setRow G (ba 16 (xorF f (aenF k ct)))).heap.size=w2.heap.size:=by simp
   rw[<-hb] at hG;clear hb;have HSG:=(Sl.of_row rg3 (w2.setRow G (ba 16 (xorF f (aenF k ct)))).heap.size hG).upto m hm16;rw[show min L (16*j)=16*j by have:=HR.out;omega] at HO3
   clear rg3 hG;have hbs:w.heap.size+2<=(w2.setRow G (ba 16 (xorF f (aenF k ct)))).heap.size:=by have:=HI3.out.hC;have:=HI3.out.lt;omega
   go_wp2_with (at_builtin;refine yO rfl (.tmp 30) (.tmp 32) rfl zZ yJ HO3.out HSG (by have:=HR.out;omega) hbs rfl rfl ?_;intro v' w6 ho hg ht;have rc:=(HI3.out.grown HO3.out hg (by omega) HNE.out).ctr)
   have HI6:=Lib.hid (HI3.out.grown HO3.out hg (by omega) HNE.out)
   have HO6:=Lib.hid (ho.congr (f':=xorS k n a b) fun i hi=>by
    have:=xor_grp k n a b j m hm16 i hi
    rw[HF.out,HCT.out];exact this)
   have HS6:=Lib.hid (HS3.out.below (HO3.out.after hg (Below.refl w.heap.size _) HI3.out.below.size (by omega)))
   have HN6:=Lib.hid (show v'.ownBlock≠some C by
    rcases ht with e|e
    ·rw[e];exact HNE.out
    ·rw[e];have:=HI3.out.lt;simp at this ⊢;omega)
   clear ho hg ht HO3 HS3 HSG hbs;refine (bnext_any ct _).mono ?_;rintro e w7 ⟨rfl,hb7⟩;have r7:=zD hb7 rc;have HI7:=Lib.hid ((HI6.out.call hb7).put (ctrF n ((a+(j+1)) % 4294967296)));have HO7:=Lib.hid ((HO6.out.below hb7 (Nat.le_refl _)).setRow C HN6.out (ba 16 (ctrF n ((a+(j+1)) % 4294967296))));have HS7:=Lib.hid ((HS6.out.below (hb7.mono HI6.out.below.size)).below (zG (Below.refl w.heap.size w7) (show w.heap.size<=C by have:=HI6.out.hC;omega) (ba 16 (ctrF n ((a+(j+1)) % 4294967296)))))
   have HNX:=Lib.hid (show ba 16 (nextF ct)=ba 16 (ctrF n ((a+(j+1)) % 4294967296)) by rw[HCT.out,ctr_next_ba,cnt_step])
   have HLE:=Lib.hid (show r-m=L-16*(j+1) by have:=HR.out;have:=HM.out;omega)
   have HLM:=Lib.hid (show 16*j+m=min L (16*(j+1)) by have:=HR.out;have:=HM.out;omega)
   have HJ1:=Lib.hid (show 16*(j+1)<L+16 by have:=HR.out;omega)
   have HFF:=Lib.hid ((HS7.out.from_ m (by have:=HM.out;omega)).congr (b':=offF b (16*(j+1))) fun i hi=>by
    have:=HR.out;have:=HM.out
    unfold offF;congr 1;omega)
   clear rc hb7 HS6 HO6 HI6;go_wp2_with fail;rw[HNX.out];go_roundw
   case rel=>
    rw[HLE.out] at HFF ⊢;rw[HLM.out] at HO7;exact ⟨j+1,_,_,HJ1.out,rfl,HFF.out,HO7.out,HN6.out,HI7.out⟩
   case measure=>simp only[slLen];omega
def three{α:Type}(x y z:α):Nat->α
 |0=>x
 |1=>y
 |_=>z
theorem three_lt{i:Nat}(h:i<3):i=0\/i=1\/i=2:=by omega
theorem three_len(a b c:Nat):lenL (three a b c) 3=a+b+c:=by simp[lenL,three]
theorem all_cats(s b:Bf)(ns nb:Nat):∀ i,i<up16 ns+up16 nb+16->catsF (three (up16 ns) (up16 nb) 16) (three (padF s ns) (padF b nb) (catF 8 (beN 8 (8*ns)) (beN 8 (8*nb)))) 3 i=allF s ns b nb i:=fun i _=>by
 simp only[catsF,lenL,three,Nat.zero_add,yH];unfold catF allF
 by_cases h1:i<up16 ns
 ·rw[if_pos (by omega),if_pos h1,if_pos h1]
 ·by_cases h2:i<up16 ns+up16 nb
  ·rw[if_pos h2,if_neg h1,if_neg h1,if_pos h2]
  ·rw[if_neg h2,if_neg h1,if_neg h2]
   by_cases h3:i<up16 ns+up16 nb+8
   ·rw[if_pos (by omega),if_pos h3]
   ·rw[if_neg (by omega),if_neg h3,show i-(up16 ns+up16 nb)-8=i-(up16 ns+up16 nb+8) by omega]
theorem gtag_any(k n:Bf)(s:Bf)(ns cs:Nat)(As:Option Addr)(b:Bf)(nb cb:Nat)(Ab:Option Addr)(w:World)(hs:Sl w w.heap.size As ns cs s)(hb:Sl w w.heap.size Ab nb cb b)(hns:ns<=1099511627776)(hnb:nb<=1099511627776):
  Calls Tryz.prog 220 #[.agg (ba 32 k),.agg (ba 12 n),.slice As ns cs,.slice Ab nb cb] w fun e w'=>e=.returned (.agg (ba 16 (tagF k n s ns b nb)))/\Below w.heap.size w w':=by
 have B0:=(((Below.refl w.heap.size w).alloc (by simp) (.cells (ba 32 k) 61)).alloc (by simp) (.cells (ba 12 n) 217)).alloc (by simp;omega) (.cells (ba 16 fun _=>0#8) 266)
 have HS:=Lib.hid (hs.below B0);have HB:=Lib.hid (hb.below B0);have HB0:=Lib.hid B0;have q0:row (((w.alloc (.cells (ba 32 k) 61)).alloc (.cells (ba 12 n) 217)).alloc (.cells (ba 16 fun _=>0#8) 266)) w.heap.size=some (ba 32 k):=by simp[go_sem]
 have q1:row (((w.alloc (.cells (ba 32 k) 61)).alloc (.cells (ba 12 n) 217)).alloc (.cells (ba 16 fun _=>0#8) 266)) (w.heap.size+1)=some (ba 12 n):=by simp[go_sem]
 have q2:row (((w.alloc (.cells (ba 32 k) 61)).alloc (.cells (ba 12 n) 217)).alloc (.cells (ba 16 fun _=>0#8) 266)) (w.heap.size+1+1)=some (ba 16 fun _=>0#8):=by simp[go_sem]
 clear hs hb B0;go_enter Tryz.func220,Tryz.ntmps220;go_wp2_with fail;generalize ((w.alloc (.cells (ba 32 k) 61)).alloc (.cells (ba 12 n) 217)).alloc (.cells (ba 16 fun _=>0#8) 266)=w0 at HS HB HB0 q0 q1 q2 ⊢
 refine (lens_any ns cs nb cb As Ab hns hnb _).mono ?_;rintro e w1 ⟨rfl,hb1⟩;obtain ⟨z,hz⟩:∃ z,z=catF 8 (beN 8 (8*ns)) (beN 8 (8*nb)):=⟨_,rfl⟩;rw[<-hz];have HZ:=Lib.hid hz;have hbz:=HB0.out.size;have HS1:=Lib.hid ((HS.out.below (hb1.mono hbz)).below ((Below.refl w.heap.size w1).alloc (by have:=hb1.size;omega) (.cells (ba 16 z) 266)))
 have HB1:=Lib.hid ((HB.out.below (hb1.mono hbz)).below ((Below.refl w.heap.size w1).alloc (by have:=hb1.size;omega) (.cells (ba 16 z) 266)))
 have HBB:=Lib.hid ((onto HB0.out hbz hb1).alloc (by have:=hb1.size;omega) (.cells (ba 16 z) 266))
 have t0:=zN (zD hb1 q0) (.cells (ba 16 z) 266);have t1:=zN (zD hb1 q1) (.cells (ba 16 z) 266);have t2:=zN (zD hb1 q2) (.cells (ba 16 z) 266);have tz:row (w1.alloc (.cells (ba 16 z) 266)) w1.heap.size=some (ba 16 z):=zA _ _ _ _ rfl;clear hz hbz hb1 q0 q1 q2 HS HB HB0;go_wp2_with fail;generalize w1.heap.size=Z at tz ⊢;generalize w1.alloc (.cells (ba 16 z) 266)=w2 at HS1 HB1 HBB t0 t1 t2 tz ⊢;refine yE [([0,2,4],1,false),([],3,false),([],5,false),([],6,false)] [7] (by kernel_rfl) (by kernel_rfl) (fun _ _ _ _ _ h=>h) fun Y=>?_
 have hby:=Y.below;have HS2:=Lib.hid (HS1.out.below (hby.mono HBB.out.size));have HB2:=Lib.hid (HB1.out.below (hby.mono HBB.out.size));have HBC:=Lib.hid (onto HBB.out HBB.out.size hby);have r0:=zD hby t0;have r1:=zD hby t1;have r2:=zD hby t2;have rz:=zD hby tz;clear t0 t1 t2 tz HS1 HB1 HBB hby;generalize Y.val=w3 at HS2 HB2 HBC r0 r1 r2 rz ⊢;clear Y;simp only[wpFs,pk,List.getElem?_cons_zero,List.getElem?_cons_succ]
 repeat (go_big_quiet_step (fail))
 refine wpQuiet_nil ?_;go_wp2_with fail;refine (padded_any ns cs As s _ (HS2.out.more HBC.out.size) hns).mono ?_;rintro e w4 ⟨A1,c1,rfl,h1,hc1,hb4⟩;go_wp2_with fail;refine ⟨.inr hb4,?_⟩;have HP1:=Lib.hid h1;have HB4:=Lib.hid (HB2.out.below (hb4.mono HBC.out.size));have HBD:=Lib.hid (onto HBC.out HBC.out.size hb4);have t0:=zD hb4 r0;have t1:=zD hb4 r1;have t2:=zD hb4 r2;have tz:=zD hb4 rz;clear r0 r1 r2 rz h1 hc1 hb4 HS2 HB2 HBC;show wpQuiet _ _ _ _ _ _;refine wpQuiet_nil ?_;go_wp2_with fail;refine (padded_any nb cb Ab b _ (HB4.out.more HBD.out.size) hnb).mono ?_;rintro e w5 ⟨A2,c2,rfl,h2,hc2,hb5⟩;go_wp2_with fail;refine ⟨.inr hb5,?_⟩;have HP1':=Lib.hid (HP1.out.below hb5);have HP2:=Lib.hid h2;have HBE:=Lib.hid (onto HBD.out HBD.out.size hb5);have HSZ:=Lib.hid hb5.size;have r0:=zD hb5 t0;have r1:=zD hb5 t1;have r2:=zD hb5 t2;have rz:=zD hb5 tz;clear t0 t1 t2 tz h2 hc2 hb5 HB4 HBD HP1;show wpQuiet _ _ _ _ _ _
 refine wpQuiet_nil ?_;go_wp2_with fail;refine ⟨.inr ((Below.refl _ _).alloc (Nat.le_refl _) _),?_⟩;have hb6:Below w5.heap.size w5 (w5.alloc (.cells #[.slice A1 (up16 ns) c1,.slice A2 (up16 nb) c2,.slice (some ⟨Z,0,none⟩) 16 16] 22)):=(Below.refl _ _).alloc (Nat.le_refl _) _;have hrow:row (w5.alloc (.cells #[.slice A1 (up16 ns) c1,.slice A2 (up16 nb) c2,.slice (some ⟨Z,0,none⟩) 16 16] 22)) w5.heap.size=some #[.slice A1 (up16 ns) c1,.slice A2 (up16 nb) c2,.slice (some ⟨Z,0,none⟩) 16 16]:=zA _ _ _ _ rfl;have HQ1:=Lib.hid (HP1'.out.below (hb6.mono HSZ.out));have HQ2:=Lib.hid (HP2.out.below hb6);have HBF:=Lib.hid (onto HBE.out HBE.out.size hb6);have t0:=zD hb6 r0;have t1:=zD hb6 r1;have t2:=zD hb6 r2;have tz:=zD hb6 rz;have hZ5:Z<w5.heap.size:=zK rz;clear r0 r1 r2 rz HP1' HP2 HBE;have hs6:(w5.alloc (.cells #[.slice A1 (up16 ns) c1,.slice A2 (up16 nb) c2,.slice (some ⟨Z,0,none⟩) 16 16] 22)).heap.size=w5.heap.size+1:=by simp
 have HS45:=Lib.hid HSZ.out;clear HSZ hb6;generalize w5.alloc (.cells #[.slice A1 (up16 ns) c1,.slice A2 (up16 nb) c2,.slice (some ⟨Z,0,none⟩) 16 16] 22)=w6 at HQ1 HQ2 HBF t0 t1 t2 tz hrow hs6 ⊢;show wpQuiet _ _ _ _ _ _;refine wpQuiet_nil ?_;go_wp2_with fail;have hu1:=up16_le ns;have hu2:=up16_le nb
 refine (concat_any 3 w5.heap.size 3 (three A1 A2 (some ⟨Z,0,none⟩)) (three (up16 ns) (up16 nb) 16) (three c1 c2 16) (three (padF s ns) (padF b nb) z) w6 (fun i hi=>by
   rw[zC hrow];rcases three_lt hi with rfl|rfl|rfl<;>rfl) (by omega) (fun i hi=>by
   rcases three_lt hi with rfl|rfl|rfl
   ·exact HQ1.out.more (by have:=HS45.out;omega)
   ·exact HQ2.out.more (by omega)
   ·exact Sl.of_row tz _ (zK tz)) (by omega) (by rw[three_len];omega)).mono ?_
 rintro e w7 ⟨v,rfl,ho,hb7⟩;rw[three_len,HZ.out] at ho;obtain ⟨A7,c7,rfl,h7,hc7,-⟩:=ho.sl;go_wp2_with fail;refine ⟨.inr hb7,?_⟩;have H7:=Lib.hid (h7.congr (all_cats s b ns nb));have HBG:=Lib.hid (onto HBF.out HBF.out.size hb7);have r0:=zD hb7 t0;have r1:=zD hb7 t1;have r2:=zD hb7 t2;clear t0 t1 t2 tz ho h7 hc7 hb7 HQ1 HQ2 HBF hrow hs6 hZ5 HS45 hu1 hu2;show wpQuiet _ _ _ _ _ _
 repeat (go_big_quiet_step (fail))
 refine wpQuiet_nil ?_;go_wp2_with fail;refine (encrypt_any k (fun _=>0#8) _).mono ?_
 rintro e w8 ⟨rfl,hb8⟩;obtain ⟨hk,hhk⟩:∃ hk,hk=aenF k nF:=⟨_,rfl⟩;rw[show (aenF k fun _=>0#8)=hk from hhk.symm]
 have HHK:=Lib.hid hhk;obtain ⟨al,hal⟩:∃ al,al=allF s ns b nb:=⟨_,rfl⟩;have HAL:=Lib.hid hal;obtain ⟨N,hN⟩:∃ N,N=up16 ns+up16 nb+16:=⟨_,rfl⟩;have HN:=Lib.hid hN;have h7:=H7.out;rw[<-hal,<-hN] at h7;rw[<-hN];have H8:=Lib.hid (((h7.below hb8).below ((Below.refl _ w8).alloc hb8.size (.cells (ba 16 hk) 266))).more (by have:=hb8.size;simp;omega:_<=(w8.alloc (.cells (ba 16 hk) 266)).heap.size))
 have HBH:=Lib.hid ((onto HBG.out HBG.out.size hb8).alloc (by have:=hb8.size;have:=HBG.out.size;omega) (.cells (ba 16 hk) 266))
 have t0:=zN (zD hb8 r0) (.cells (ba 16 hk) 266);have t1:=zN (zD hb8 r1) (.cells (ba 16 hk) 266);have t2:=zN (zD hb8 r2) (.cells (ba 16 hk) 266);have th:row (w8.alloc (.cells (ba 16 hk) 266)) w8.heap.size=some (ba 16 hk):=zA _ _ _ _ rfl;clear r0 r1 r2 hb8 h7 H7 HBG hhk hal hN;go_wp2_with fail;generalize w8.heap.size=HH at th ⊢;generalize w8.alloc (.cells (ba 16 hk) 266)=w9 at H8 HBH t0 t1 t2 th ⊢;obtain ⟨ct,hct⟩:∃ ct,ct=ctrF n 1:=⟨_,rfl⟩;have HCT:=Lib.hid hct;have cC:=cblk_any n 1 (by decide)
 rw[<-hct] at cC;have HC:=Lib.hid cC;have hs9:∀ x:After w9,Sl x.val x.val.heap.size A7 N c7 al:=fun x=>After.sl H8.out x
 have HS9:=Lib.hid hs9;have q0:=After.row t0;have q1:=After.row t1;have qh:=After.row th;clear hct cC hs9 t0 t1 th;refine seen_tail 0 8 (by kernel_rfl) (by kernel_rfl) (fun _ _ _ _ _ h=>h) ?_
 simp only[List.take_succ_cons,List.take_zero,List.drop_succ_cons,List.drop_zero]
 repeat (go_big_quiet_step ((first|(go_at_call 245;refine After.call _ (HC.out _))|(go_at_call 247;refine After.call _ (encrypt_any k ct _))|(go_at_call 251;refine After.call _ (bhash_any hk al N c7 A7 _ (HS9.out _)))|(go_at_call 246;refine After.call _ (bxor_any (aenF k ct) (hshF hk al N) _)))))
 refine wpQuiet_nil ?_;rintro _ ⟨x,rfl⟩;have r2:=zD x.below t2;have HBJ:=Lib.hid (onto HBH.out HBH.out.size x.below);have HT:=Lib.hid (show xorF (aenF k ct) (hshF hk al N)=tagF k n s ns b nb by rw[HCT.out,HHK.out,HAL.out,HN.out];rfl)
 clear q0 q1 qh t2 H8 HBH;go_wp2_with fail;rw[HT.out];refine bodyPost_ret (v:=.agg (ba 16 (tagF k n s ns b nb))) (zW rfl _ _ (w.heap.size+1+1) _ _ _ rfl (zE r2 _) blk_u (by rw[zI];exact blk_i)) rfl ⟨rfl,?_⟩
 exact zG HBJ.out (by omega) _
theorem ldR_cells{P:Program}(t n:Nat)(e:TypeId)(hu:P.underlying t=some (.array n e))(m:Nat)(hi:(P.info? t).map (·.size)=some m)(w:World)(g o:Nat)(f:Bf)(hc:∀ i,i<m->w.cell? ⟨g,o+i,none⟩=some (.int .u8 (I (f i)))):
  ldR P t m w g o (row w g)=.ok (.agg (ba m f)) w:=by
 rw[<-xG t n e hu m hi w g o]
 have h:=run_loadAt_mid (P:=P) w g o t (ba m f).toList _ (fun j v hv=>by
  rw[Array.getElem?_toList] at hv
  by_cases hj:j<m
  ·rw[yA m f j hj] at hv;rw[hc j hj,hv]
  ·rw[yS m f j hj] at hv;cases hv) hu rfl (by rw[hi,Array.length_toList,zI])
 rw[Array.toArray_toList] at h;exact h
theorem blk_at(a:Option Addr)(cap:Nat)(w:World):(Instr.arrayAt 266 (.slice a 16 cap)).run Tryz.prog w=.ok (.pointer a) w:=by
 simp[Instr.arrayAt,run_underlying blk_u]
def sealF(k n s:Bf)(ns:Nat)(b:Bf)(L:Nat):Bf:=catF L (xorS k n 2 b) (tagF k n s ns (xorS k n 2 b) L)
def opC(k n s:Bf)(ns:Nat)(b:Bf)(L:Nat):Int:=if L<16 then 3 else if eqB 16 (tagF k n s ns b (L-16)) (offF b (L-16))=true then 0 else 40
def opL(k n s:Bf)(ns:Nat)(b:Bf)(L:Nat):Nat:=if opC k n s ns b L=0 then L-16 else 0
theorem gseal_any(k n:Bf)(s:Bf)(ns cs:Nat)(As:Option Addr)(b:Bf)(L c:Nat)(A:Option Addr)(w:World)(hs:Sl w w.heap.size As ns cs s)(hb:Sl w w.heap.size A L c b)(hns:ns<=1099511627776)(hL:L<=1099511627776):
  Calls Tryz.prog 187 #[.agg (ba 32 k),.agg (ba 12 n),.slice As ns cs,.slice A L c] w fun e w'=>∃ v,e=.returned v/\Own w' w.heap.size 5 v (L+16) (sealF k n s ns b L)/\Below w.heap.size w w':=by
 have B0:=((Below.refl w.heap.size w).alloc (by simp) (.cells (ba 32 k) 61)).alloc (by simp) (.cells (ba 12 n) 217)
 have HSS:=Lib.hid hs;have HSB:=Lib.hid hb;have HB0:=Lib.hid B0;have q0:row ((w.alloc (.cells (ba 32 k) 61)).alloc (.cells (ba 12 n) 217)) w.heap.size=some (ba 32 k):=by simp[go_sem]
 have q1:row ((w.alloc (.cells (ba 32 k) 61)).alloc (.cells (ba 12 n) 217)) (w.heap.size+1)=some (ba 12 n):=by simp[go_sem]
 clear hs hb B0;go_enter Tryz.func187,Tryz.ntmps187;go_wp2_with fail;generalize (w.alloc (.cells (ba 32 k) 61)).alloc (.cells (ba 12 n) 217)=w0 at HB0 q0 q1 ⊢;refine (gxor_any k n 2 (by decide) b L c A _ ((HSB.out.below HB0.out).more HB0.out.size) hL).mono ?_
 rintro e w1 ⟨v1,rfl,ho1,hb1⟩;have HB1:=Lib.hid (onto HB0.out HB0.out.size hb1);have HO1:=Lib.hid (ho1.base HB0.out.size);obtain ⟨A1,c1,rfl,h1,hc1,-⟩:=ho1.sl;have t0:=zD hb1 q0;have t1:=zD hb1 q1;clear q0 q1 ho1 hb1 HB0;go_wp2_with fail;refine (gtag_any k n s ns cs As (xorS k n 2 b) L c1 A1 _ ((HSS.out.below HB1.out).more HB1.out.size) h1 hns hL).mono ?_;rintro e w2 ⟨rfl,hb2⟩;obtain ⟨tg,htg⟩:∃ tg,tg=tagF k n s ns (xorS k n 2 b) L:=⟨_,rfl⟩;rw[<-htg];have HTG:=Lib.hid htg;have hs2:=hb2.size;have hsz:=HB1.out.size;have HB2:=Lib.hid ((onto HB1.out HB1.out.size hb2).alloc (by omega) (.cells (ba 16 tg) 266))
 have HO2:=(HO1.out.below hb2 (Nat.le_refl _)).alloc (.cells (ba 16 tg) 266);have rt:row (w2.alloc (.cells (ba 16 tg) 266)) w2.heap.size=some (ba 16 tg):=zA _ _ _ _ rfl;have HST:=Sl.of_row rt (w2.heap.size+1) (by omega)
 have hb3:w.heap.size<=(w2.alloc (.cells (ba 16 tg) 266)).heap.size:=by simp;omega
 clear t0 t1 h1 hc1 hb2 htg HB1 HO1;go_wp2_with (at_builtin;refine yO rfl (.tmp 20) (.tmp 21) rfl zZ yJ HO2 HST (by omega) hb3 rfl rfl ?_;intro v3 w3 ho hg ht)
 have HF:=Lib.hid (ho.congr (f':=sealF k n s ns b L) fun i _=>by unfold sealF;rw[HTG.out])
 have HB3:=Lib.hid (HO2.after hg HB2.out hb3 (Nat.le_refl _));clear ho hg ht;go_ret;exact ⟨_,rfl,HF.out,HB3.out⟩
theorem gopen_any(k n:Bf)(s:Bf)(ns cs:Nat)(As:Option Addr)(b:Bf)(L c:Nat)(A:Option Addr)(w:World)(hs:Sl w w.heap.size As ns cs s)(hb:Sl w w.heap.size A L c b)(hns:ns<=1099511627776)(hL:L<=1099511627776):
  Calls Tryz.prog 223 #[.agg (ba 32 k),.agg (ba 12 n),.slice As ns cs,.slice A L c] w fun e w'=>∃ v,e=.returned (.tuple #[v,.int .i64 (opC k n s ns b L)])/\Own w' w.heap.size 5 v (opL k n s ns b L) (xorS k n 2 b)/\Below w.heap.size w w':=by
 have B0:=((Below.refl w.heap.size w).alloc (by simp) (.cells (ba 32 k) 61)).alloc (by simp) (.cells (ba 12 n) 217)
 have HSS:=Lib.hid hs;have HSB:=Lib.hid hb;have HB0:=Lib.hid B0;have q0:row ((w.alloc (.cells (ba 32 k) 61)).alloc (.cells (ba 12 n) 217)) w.heap.size=some (ba 32 k):=by simp[go_sem]
 have q1:row ((w.alloc (.cells (ba 32 k) 61)).alloc (.cells (ba 12 n) 217)) (w.heap.size+1)=some (ba 12 n):=by simp[go_sem]
 have hcap:=hb.le;clear hs hb B0
 by_cases hlt:L<16
 ·have hd:decide ((L:Int)<16)=true:=by simp;omega
  have HCO:=Lib.hid (show opC k n s ns b L=3 by unfold opC;rw[if_pos hlt])
  go_enter Tryz.func223,Tryz.ntmps223;go_wp2_with fail;rw[show opL k n s ns b L=0 by unfold opL;rw[HCO.out];rfl,HCO.out]
  exact bodyPost_ret (v:=.tuple #[.slice none 0 0,.int .i64 3]) (by simp[results,Tryz.results223,go_sem]) rfl ⟨_,rfl,Own.nil _ _ _ _,HB0.out⟩
 ·have hd:decide ((L:Int)<16)=false:=by simp;omega
  obtain ⟨m,hm⟩:∃ m,m=L-16:=⟨_,rfl⟩;have hmL:m+16=L:=by omega
  have hmi:(L:Int)-16=(m:Int):=by omega
  obtain ⟨g,o,hA,hg,hcell⟩:=HSB.out.at_ (by omega)
  subst hA;have hup:=run_upto zZ u8_i (some ⟨g,o,none⟩) L c m (by omega)
  have hfrom:=xE zZ u8_i (some ⟨g,o,none⟩) L c m (by omega)
  rw[show cutA (some ⟨g,o,none⟩) c m=some ⟨g,o+m,none⟩ by unfold cutA;rw[if_neg (by omega)];simp only[Option.map_some];rw[yK],show L-m=16 by omega] at hfrom
  have hat:=blk_at (some ⟨g,o+m,none⟩) (c-m);have HC:=Lib.hid hcell;clear hcell hm;go_enter Tryz.func223,Tryz.ntmps223;go_wp2_with fail;refine yE [([0,1,2,3,4,5,6,7],8,false),([9],10,true)] [] (by kernel_rfl) (by kernel_rfl) (fun _ _ _ _ _ h=>h) fun X=>?_
  have hbx:=X.below;have HB1:=Lib.hid (onto HB0.out HB0.out.size hbx);have t0:=zD hbx q0;have t1:=zD hbx q1;clear q0 q1 HB0 hbx;generalize X.val=w1 at HB1 t0 t1 ⊢;clear X;obtain ⟨f,hf⟩:∃ f,f=offF b m:=⟨_,rfl⟩;have HF:=Lib.hid hf
  have hld:∀ x:After w1,ldR Tryz.prog 266 16 x.val g (o+m) (row x.val g)=.ok (.agg (ba 16 f)) x.val:=fun x=>ldR_cells _ 16 _ blk_u 16 blk_i x.val g (o+m) f fun i hi=>by
   rw[show o+m+i=o+(m+i) by omega,(onto HB1.out HB1.out.size x.below).cell (p:=⟨g,o+(m+i),none⟩) hg,HC.out (m+i) (by omega),hf];rfl
  clear hf;simp only[wpFs,pk,List.getElem?_cons_zero,List.getElem?_cons_succ]
  repeat (go_big_quiet_step (fail))
  refine wpQuiet_nil ?_;clear hld hup hfrom hat;go_wp2_with fail;have hb2:Below w1.heap.size w1 (w1.alloc (.cells (ba 16 fun _=>0#8) 266)):=(Below.refl _ _).alloc (Nat.le_refl _) _
  have rz:row (w1.alloc (.cells (ba 16 fun _=>0#8) 266)) w1.heap.size=some (ba 16 fun _=>0#8):=zA _ _ _ _ rfl
  have HBS:=Lib.hid (show w.heap.size+2<=w1.heap.size by have:=zK t1;omega)
  refine ⟨.inr hb2,?_⟩;have HB2:=Lib.hid (onto HB1.out HB1.out.size hb2);have r0:=zD hb2 t0;have r1:=zD hb2 t1;clear t0 t1 HB1 hb2;generalize w1.heap.size=Z at rz HBS ⊢;generalize w1.alloc (.cells (ba 16 fun _=>0#8) 266)=w2 at HB2 r0 r1 rz ⊢
  show wpQuiet _ _ _ _ _ _
  repeat (go_big_quiet_step (fail))
  refine wpQuiet_nil ?_;go_wp2_with fail;refine ⟨.inl trivial,?_⟩;have HB3:=Lib.hid (zG HB2.out (show w.heap.size<=Z by have:=HBS.out;omega) (ba 16 f))
  have t0:row (w2.setRow Z (ba 16 f)) w.heap.size=some (ba 32 k):=by rw[zF _ _ _ _ (by have:=HBS.out;omega)];exact r0
  have t1:row (w2.setRow Z (ba 16 f)) (w.heap.size+1)=some (ba 12 n):=by rw[zF _ _ _ _ (by have:=HBS.out;omega)];exact r1
  have tz:row (w2.setRow Z (ba 16 f)) Z=some (ba 16 f):=zE rz _;clear r0 r1 rz HB2;generalize w2.setRow Z (ba 16 f)=w3 at HB3 t0 t1 tz ⊢;show wpQuiet _ _ _ _ _ _;refine wpQuiet_nil ?_;obtain ⟨tg,htg⟩:∃ tg,tg=tagF k n s ns b m:=⟨_,rfl⟩;have HTG:=Lib.hid htg
  have hcT:∀ x:After w3,Calls Tryz.prog 220 #[.agg (ba 32 k),.agg (ba 12 n),.slice As ns cs,.slice (some ⟨g,o,none⟩) m c] x.val fun e w'=>e=.returned (.agg (ba 16 tg))/\Below x.val.heap.size x.val w':=fun x=>by
   rw[htg];have hx:Below w.heap.size w x.val:=onto HB3.out HB3.out.size x.below;exact gtag_any k n s ns cs As b m c _ _ ((HSS.out.below hx).more hx.size) (((HSB.out.upto m (by omega)).below hx).more hx.size) hns (by omega)
  have HCT:=Lib.hid hcT;have q0:=After.row t0;have q1:=After.row t1;have qz:=After.row tz;have hmL16:L-16=m:=by omega
  have HML:=Lib.hid hmL16;have HMB:=Lib.hid (show m<=1099511627776/\m<=L by omega)
  clear htg hcT hmL16 hmL hmi hd;cases he:eqB 16 tg f
  ·go_wp2_with fail
   refine xD (by kernel_rfl) (by kernel_rfl) ?_
   repeat (first|rw[he]|go_big_quiet_step ((go_at_call 220;exact After.call _ (HCT.out _))))
   refine wpQuiet_nil ?_;rintro _ ⟨x,rfl⟩;have HB4:=Lib.hid (onto HB3.out HB3.out.size x.below);clear q0 q1 qz;go_wp2_with fail
   have hC:opC k n s ns b L=40:=by
    unfold opC;rw[if_neg hlt,HML.out,<-HTG.out,<-HF.out,he];rfl
   rw[show opL k n s ns b L=0 by unfold opL;rw[hC];rfl,hC]
   exact bodyPost_ret (v:=.tuple #[.slice none 0 0,.int .i64 40]) (by simp[results,Tryz.results223,go_sem]) rfl ⟨_,rfl,Own.nil _ _ _ _,HB4.out⟩
  ·go_wp2_with fail
   refine xD (by kernel_rfl) (by kernel_rfl) ?_
   repeat (first|rw[he]|go_big_quiet_step ((go_at_call 220;exact After.call _ (HCT.out _))))
   refine wpQuiet_nil ?_;rintro _ ⟨x,rfl⟩;have HB4:=Lib.hid (onto HB3.out HB3.out.size x.below);have r0:=q0 x;have r1:=q1 x;clear q0 q1 qz;go_wp2_with fail;refine (gxor_any k n 2 (by decide) b m c _ _ (((HSB.out.upto m HMB.out.2).below HB4.out).more HB4.out.size) HMB.out.1).mono ?_
   rintro e w5 ⟨v,rfl,ho,hb5⟩;have HO:=Lib.hid (ho.base HB4.out.size);have HB5:=Lib.hid (onto HB4.out HB4.out.size hb5);clear ho hb5;go_wp2_with fail
   have hC:opC k n s ns b L=0:=by
    unfold opC;rw[if_neg hlt,HML.out,<-HTG.out,<-HF.out,he];rfl
   rw[show opL k n s ns b L=m by unfold opL;rw[hC,if_pos rfl,HML.out],hC]
   exact bodyPost_ret (v:=.tuple #[v,.int .i64 0]) (by simp[results,Tryz.results223,go_sem]) rfl ⟨_,rfl,HO.out,HB5.out⟩
section
variable (k n s b:Bf) (ns L:Nat)
theorem back_low(i:Nat)(hi:i<L):sealF k n s ns b L i=xorS k n 2 b i:=by unfold sealF catF;rw[if_pos hi]
theorem back_tail(i:Nat):offF (sealF k n s ns b L) L i=tagF k n s ns (xorS k n 2 b) L i:=by
 unfold offF sealF catF;rw[if_neg (by omega),Nat.add_sub_cancel_left]
theorem back_tag:tagF k n s ns (sealF k n s ns b L) L=tagF k n s ns (xorS k n 2 b) L:=tagF_congr (fun _ _=>rfl) (back_low k n s b ns L)
theorem opC_back:opC k n s ns (sealF k n s ns b L) (L+16)=0:=by
 unfold opC;rw[if_neg (by omega),Nat.add_sub_cancel,back_tag,if_pos ((eqB_iff _ _ _).2 fun i _=>(back_tail k n s b ns L i).symm)]
theorem xor_back(i:Nat)(hi:i<L):xorS k n 2 (sealF k n s ns b L) i=b i:=by
 have:=congrFun (xorS_back k n 2 b) i;unfold xorS at this ⊢;rw[<-this];congr 1;exact back_low k n s b ns L i hi
end
end Go.Proofs.YteffjpdcghlnlaaGreatDoor.Oct
