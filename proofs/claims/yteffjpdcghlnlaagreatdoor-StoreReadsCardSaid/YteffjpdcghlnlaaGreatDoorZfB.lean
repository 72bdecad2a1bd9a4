import Derived.Test.YteffjpdcghlnlaaGreatDoorRows
import Derived.Lib.Hide
import Derived.Lib.SlBytesConst
import Derived.WalkSpells
import Derived.Test.YteffjpdcghlnlaaGreatDoorZfA
set_option linter.unusedVariables false
set_option linter.unusedSimpArgs false
set_option maxHeartbeats 4000000
set_option maxRecDepth 20000
namespace Go.Proofs.YteffjpdcghlnlaaGreatDoor.Oct
open Go.RowKit
theorem u8_u:Tryz.prog.underlying 5=some (.int .u8):=by kernel_rfl
theorem u8_i:(Tryz.prog.info? 5).map (·.size)=some 1:=by kernel_rfl
theorem u8_size(w:World):(sizeOf 5).run Tryz.prog w=.ok 1 w:=by kernel_rfl
theorem yJ:(Tryz.prog.info? 5).map (fun i=>(i.zero,i.size,i.bytes))=some (some (.int .u8 0),1,1):=by kernel_rfl
theorem zZ:Tryz.prog.underlying 22=some (.slice 5):=by kernel_rfl
theorem u32_u:Tryz.prog.underlying 135=some (.int .u32):=by kernel_rfl
theorem i64_u:Tryz.prog.underlying 3=some (.int .i64):=by kernel_rfl
theorem str_u:Tryz.prog.underlying 9=some .string:=by kernel_rfl
theorem blk_u:Tryz.prog.underlying 266=some (.array 16 5):=by kernel_rfl
theorem blk_i:(Tryz.prog.info? 266).map (·.size)=some 16:=by kernel_rfl
@[go_sem ↓] theorem blk_l(p:Value):Instr.loadAt 266 p=ldA 266 p:=rfl
@[go_sem ↓] theorem blk_s(p v:Value):Instr.storeAt 266 p v=stA 266 p v:=rfl
@[go_sem] theorem blk_ld(w:World)(b o:Nat):(ldA 266 (.pointer (some ⟨b,o,none⟩))).run Tryz.prog w=ldR Tryz.prog 266 16 w b o (row w b):=xG _ _ _ blk_u 16 blk_i w b o
@[go_sem] theorem blk_st(w:World)(b o:Nat)(c:Array Value):(stA 266 (.pointer (some ⟨b,o,none⟩)) (.agg c)).run Tryz.prog w=stR Tryz.prog 266 16 w b o (.agg c) (row w b):=yR _ 16 blk_i w b o c
theorem blk_z:(Tryz.prog.info? 266).map (·.zero)=some (some (.agg (ba 16 fun _=>0#8))):=by unfold ba;kernel_rfl
@[go_sem ↓] theorem blk_zero(w:World):(zeroValue 266).run Tryz.prog w=.ok (.agg (ba 16 fun _=>0#8)) w:=yG _ _ blk_z w
@[go_sem] theorem blk_ix(f:Nat->BitVec 8)(k:Nat)(h:k<16)(w:World):(Instr.index 266 (.agg (ba 16 f)) (.int .i64 (k:Int))).run Tryz.prog w=.ok (.int .u8 (I (f k))) w:=by
 simp[Instr.index,part,go_sem,h]
@[go_sem] theorem blk_eq(d:Nat)(f g:Nat->BitVec 8)(w:World):(Op.equalIn (d+2) 266 (.agg (ba 16 f)) (.agg (ba 16 g))).run Tryz.prog w=.ok (eqB 16 f g) w:=eq_bytes _ 16 d _ .u8 blk_u u8_u u8_i f g w
@[go_sem ↓] theorem box_l(p:Value):Instr.loadAt 293 p=ldA 293 p:=rfl
@[go_sem ↓] theorem box_s(p v:Value):Instr.storeAt 293 p v=stA 293 p v:=rfl
theorem wrd_u:Tryz.prog.underlying 341=some (.array 4 5):=by kernel_rfl
theorem wrd_i:(Tryz.prog.info? 341).map (·.size)=some 4:=by kernel_rfl
@[go_sem ↓] theorem wrd_l(p:Value):Instr.loadAt 341 p=ldA 341 p:=rfl
@[go_sem ↓] theorem wrd_s(p v:Value):Instr.storeAt 341 p v=stA 341 p v:=rfl
@[go_sem] theorem wrd_ld(w:World)(b o:Nat):(ldA 341 (.pointer (some ⟨b,o,none⟩))).run Tryz.prog w=ldR Tryz.prog 341 4 w b o (row w b):=xG _ _ _ wrd_u 4 wrd_i w b o
@[go_sem] theorem wrd_st(w:World)(b o:Nat)(c:Array Value):(stA 341 (.pointer (some ⟨b,o,none⟩)) (.agg c)).run Tryz.prog w=stR Tryz.prog 341 4 w b o (.agg c) (row w b):=yR _ 4 wrd_i w b o c
theorem wrd_z:(Tryz.prog.info? 341).map (·.zero)=some (some (.agg (ba 4 fun _=>0#8))):=by unfold ba;kernel_rfl
@[go_sem ↓] theorem wrd_zero(w:World):(zeroValue 341).run Tryz.prog w=.ok (.agg (ba 4 fun _=>0#8)) w:=yG _ _ wrd_z w
theorem key_u:Tryz.prog.underlying 61=some (.array 32 5):=by kernel_rfl
theorem key_i:(Tryz.prog.info? 61).map (·.size)=some 32:=by kernel_rfl
@[go_sem ↓] theorem key_l(p:Value):Instr.loadAt 61 p=ldA 61 p:=rfl
@[go_sem ↓] theorem key_s(p v:Value):Instr.storeAt 61 p v=stA 61 p v:=rfl
@[go_sem] theorem key_ld(w:World)(b o:Nat):(ldA 61 (.pointer (some ⟨b,o,none⟩))).run Tryz.prog w=ldR Tryz.prog 61 32 w b o (row w b):=xG _ _ _ key_u 32 key_i w b o
@[go_sem] theorem key_st(w:World)(b o:Nat)(c:Array Value):(stA 61 (.pointer (some ⟨b,o,none⟩)) (.agg c)).run Tryz.prog w=stR Tryz.prog 61 32 w b o (.agg c) (row w b):=yR _ 32 key_i w b o c
theorem key_z:(Tryz.prog.info? 61).map (·.zero)=some (some (.agg (ba 32 fun _=>0#8))):=by unfold ba;kernel_rfl
@[go_sem ↓] theorem key_zero(w:World):(zeroValue 61).run Tryz.prog w=.ok (.agg (ba 32 fun _=>0#8)) w:=yG _ _ key_z w
theorem wds_u:Tryz.prog.underlying 342=some (.array 60 341):=by kernel_rfl
theorem wds_i:(Tryz.prog.info? 342).map (·.size)=some 240:=by kernel_rfl
@[go_sem ↓] theorem wds_l(p:Value):Instr.loadAt 342 p=ldA 342 p:=rfl
@[go_sem ↓] theorem wds_s(p v:Value):Instr.storeAt 342 p v=stA 342 p v:=rfl
@[go_sem] theorem wds_ld(w:World)(b o:Nat):(ldA 342 (.pointer (some ⟨b,o,none⟩))).run Tryz.prog w=ldR Tryz.prog 342 240 w b o (row w b):=xG _ _ _ wds_u 240 wds_i w b o
theorem wds_z:(Tryz.prog.info? 342).map (·.zero)=some (some (.agg (ba 240 fun _=>0#8))):=by unfold ba;kernel_rfl
@[go_sem ↓] theorem wds_zero(w:World):(zeroValue 342).run Tryz.prog w=.ok (.agg (ba 240 fun _=>0#8)) w:=yG _ _ wds_z w
theorem bks_u:Tryz.prog.underlying 291=some (.array 15 266):=by kernel_rfl
theorem bks_i:(Tryz.prog.info? 291).map (·.size)=some 240:=by kernel_rfl
@[go_sem ↓] theorem bks_l(p:Value):Instr.loadAt 291 p=ldA 291 p:=rfl
@[go_sem ↓] theorem bks_s(p v:Value):Instr.storeAt 291 p v=stA 291 p v:=rfl
@[go_sem] theorem bks_ld(w:World)(b o:Nat):(ldA 291 (.pointer (some ⟨b,o,none⟩))).run Tryz.prog w=ldR Tryz.prog 291 240 w b o (row w b):=xG _ _ _ bks_u 240 bks_i w b o
@[go_sem] theorem bks_st(w:World)(b o:Nat)(c:Array Value):(stA 291 (.pointer (some ⟨b,o,none⟩)) (.agg c)).run Tryz.prog w=stR Tryz.prog 291 240 w b o (.agg c) (row w b):=yR _ 240 bks_i w b o c
theorem bks_z:(Tryz.prog.info? 291).map (·.zero)=some (some (.agg (ba 240 fun _=>0#8))):=by unfold ba;kernel_rfl
@[go_sem ↓] theorem bks_zero(w:World):(zeroValue 291).run Tryz.prog w=.ok (.agg (ba 240 fun _=>0#8)) w:=yG _ _ bks_z w
@[go_sem] theorem wrd_ix(f:Nat->BitVec 8)(k:Nat)(h:k<4)(w:World):(Instr.index 341 (.agg (ba 4 f)) (.int .i64 (k:Int))).run Tryz.prog w=.ok (.int .u8 (I (f k))) w:=by
 simp[Instr.index,part,go_sem,h]
@[go_sem] theorem key_ix(f:Nat->BitVec 8)(k:Nat)(h:k<32)(w:World):(Instr.index 61 (.agg (ba 32 f)) (.int .i64 (k:Int))).run Tryz.prog w=.ok (.int .u8 (I (f k))) w:=by
 simp[Instr.index,part,go_sem,h]
@[go_sem] theorem wds_ix(f:Nat->BitVec 8)(k:Nat)(h:k<60)(w:World):(Instr.index 342 (.agg (ba 240 f)) (.int .i64 (k:Int))).run Tryz.prog w=.ok (.agg (ba 4 (offF f (k*4)))) w:=by
 have h1:¬ 60<=k:=by omega
 have h2:=ba_ex 240 (k*4) (k*4+4) f (by omega)
 simp[Instr.index,part,go_sem,h1,h2]
theorem non_u:Tryz.prog.underlying 217=some (.array 12 5):=by kernel_rfl
theorem non_i:(Tryz.prog.info? 217).map (·.size)=some 12:=by kernel_rfl
@[go_sem ↓] theorem non_l(p:Value):Instr.loadAt 217 p=ldA 217 p:=rfl
@[go_sem ↓] theorem non_s(p v:Value):Instr.storeAt 217 p v=stA 217 p v:=rfl
@[go_sem] theorem non_ld(w:World)(b o:Nat):(ldA 217 (.pointer (some ⟨b,o,none⟩))).run Tryz.prog w=ldR Tryz.prog 217 12 w b o (row w b):=xG _ _ _ non_u 12 non_i w b o
@[go_sem] theorem non_st(w:World)(b o:Nat)(c:Array Value):(stA 217 (.pointer (some ⟨b,o,none⟩)) (.agg c)).run Tryz.prog w=stR Tryz.prog 217 12 w b o (.agg c) (row w b):=yR _ 12 non_i w b o c
theorem non_z:(Tryz.prog.info? 217).map (·.zero)=some (some (.agg (ba 12 fun _=>0#8))):=by unfold ba;kernel_rfl
@[go_sem ↓] theorem non_zero(w:World):(zeroValue 217).run Tryz.prog w=.ok (.agg (ba 12 fun _=>0#8)) w:=yG _ _ non_z w
theorem blk_len:Tryz.prog.arrayLen 266=16:=by kernel_rfl
theorem blk_elem:Tryz.prog.elem 266=5:=by kernel_rfl
theorem blk_sl_h(B m:Nat)(hm:m<=16)(w:World):(Instr.sliceAt 266 (.pointer (some ⟨B,0,none⟩)) none (some (.int .i64 (m:Int))) none).run Tryz.prog w=.ok (.slice (some ⟨B,0,none⟩) m 16) w:=by
 rw[run_sliceAt_array_h w 266 ⟨B,0,none⟩ (by kernel_rfl) .i64 _ (by omega) (by rw[blk_len];omega),blk_elem,u8_size,blk_len,Result.andThen_ok]
 unfold slicedAt;rw[if_neg (by omega),Int.toNat_natCast]
 rfl
def t2(a:BitVec 8):BitVec 8:=(a<<<1)^^^(if a.msb then 27#8 else 0#8)
def dbl:Nat->BitVec 8->BitVec 8
 |0,a=>a
 |k+1,a=>t2 (dbl k a)
def mulTo(a b:BitVec 8):Nat->BitVec 8
 |0=>0#8
 |k+1=>mulTo a b k^^^(if b.getLsbD k then dbl k a else 0#8)
def mul(a b:BitVec 8):BitVec 8:=mulTo a b 8
def part(x:BitVec 8)(i:Nat):BitVec 8:=if x.getLsbD i then 1#8<<<i else 0#8
theorem yI(x:BitVec 8):x=part x 0^^^part x 1^^^part x 2^^^part x 3^^^part x 4^^^part x 5^^^part x 6^^^part x 7:=by
 revert x;decide+kernel
def rT(a b:BitVec 8):Nat->BitVec 16
 |0=>0#16
 |k+1=>rT a b k^^^(if b.getLsbD k then (a.zeroExtend 16)<<<k else 0#16)
def invP(a:BitVec 8):Nat->BitVec 8
 |0=>a
 |k+1=>mul (invP a k) (invP a k)
def invO(a:BitVec 8):Nat->BitVec 8
 |0=>1#8
 |k+1=>mul (invO a k) (invP a (k+1))
def inv(a:BitVec 8):BitVec 8:=invO a 7
def boxTo(b:BitVec 8):Nat->BitVec 8
 |0=>99#8
 |k+1=>boxTo b k^^^b.rotateLeft k
def box(a:BitVec 8):BitVec 8:=boxTo (inv a) 5
abbrev Pl:=BitVec 128
def gR:Pl:=0xe1#128<<<120
def gx(p:Pl):Pl:=(p>>>1)^^^(if p.getLsbD 0 then gR else 0#128)
def gxn:Nat->Pl->Pl
 |0,p=>p
 |n+1,p=>gx (gxn n p)
def e0:Pl:=1#128<<<127
def sel(c:Bool)(p:Pl):Pl:=if c then p else 0#128
def sm(v:Nat->Pl)(c:Nat->Bool):Nat->Pl
 |0=>0#128
 |n+1=>sm v c n^^^sel (c n) (v n)
def bt(p:Pl)(i:Nat):Bool:=p.getLsbD (127-i)
def ev(c:Nat->Bool)(n:Nat):Pl:=sm (fun i=>gxn i e0) c n
def gmA(a b:Pl)(n:Nat):Pl:=sm (fun i=>gxn i b) (bt a) n
def gm(a b:Pl):Pl:=gmA a b 128
theorem gxn_one:∀ i:Fin 128,gxn i.val e0=1#128<<<(127-i.val):=by decide+kernel
theorem bt_one(i:Nat)(hi:i<128)(j:Nat)(hj:j<128):bt (gxn i e0) j=decide (i=j):=by
 rw[gxn_one ⟨i,hi⟩];unfold bt;rw[BitVec.getLsbD_shiftLeft,BitVec.getLsbD_one];rw[Bool.eq_iff_iff];simp;omega
theorem bt_xor(p q:Pl)(i:Nat):bt (p^^^q) i=(bt p i^^bt q i):=by unfold bt;rw[BitVec.getLsbD_xor]
theorem bt_sel(c:Bool)(p:Pl)(i:Nat):bt (sel c p) i=(c&&bt p i):=by cases c<;>simp[sel,bt]
theorem bt_ev(c:Nat->Bool)(i:Nat)(hi:i<128):∀ n,n<=128->bt (ev c n) i=(decide (i<n)&&c i):=by
 intro n
 induction n with
 |zero=>intro _;simp[ev,sm,bt]
 |succ n ih=>
  intro hn;show bt (ev c n^^^sel (c n) (gxn n e0)) i=_;rw[bt_xor,ih (by omega),bt_sel,bt_one n (by omega) i hi]
  by_cases h:n=i
  ·subst h;simp
  ·rw[decide_eq_false h,Bool.and_false,Bool.xor_false]
   congr 1;rw[Bool.eq_iff_iff];simp;omega
theorem bt_ext{p q:Pl}(h:∀ i,i<128->bt p i=bt q i):p=q:=by
 apply BitVec.eq_of_getLsbD_eq;intro i hi;have:=h (127-i) (by omega)
 unfold bt at this
 rwa [show 127-(127-i)=i by omega] at this
theorem ev_bt(p:Pl):ev (bt p) 128=p:=bt_ext fun i hi=>by rw[bt_ev _ i hi 128 (by omega)];simp[hi]
def fbit(f:Bf)(i:Nat):Bool:=(f (i / 8)).getLsbD (7-i % 8)
def pol(f:Bf):Pl:=ev (fbit f) 128
def byt(p:Pl):Bf:=fun k=>p.extractLsb' (120-8*k) 8
def gmF(f g:Bf):Bf:=byt (gm (pol f) (pol g))
theorem bt_pol(f:Bf)(i:Nat)(hi:i<128):bt (pol f) i=fbit f i:=by
 unfold pol;rw[bt_ev _ i hi 128 (by omega)];simp[hi]
def subF(f:Bf):Bf:=fun i=>box (f i)
def shiftF(f:Bf):Bf:=fun i=>f ((i / 4+i % 4) % 4*4+i % 4)
def mixF(f:Bf):Bf:=fun i=>
 (mul (f i) 2#8^^^mul (f (4*(i / 4)+(i % 4+1) % 4)) 3#8)^^^(f (4*(i / 4)+(i % 4+2) % 4)^^^f (4*(i / 4)+(i % 4+3) % 4))
def rndF(s k:Bf)(last:Bool):Bf:=xorF (if last then shiftF (subF s) else mixF (shiftF (subF s))) k
def rotF(f:Bf):Bf:=fun i=>f ((i+1) % 4)
def pwr:Nat->BitVec 8
 |0=>1#8
 |n+1=>t2 (pwr n)
def newW(f:Bf)(i:Nat):Bf:=fun j=>
 f (4*(i-8)+j)^^^(if i % 8=0 then box (f (4*(i-1)+(j+1) % 4))^^^(if j=0 then pwr (i / 8-1) else 0#8) else if i % 8=4 then box (f (4*(i-1)+j)) else f (4*(i-1)+j))
def axpT(k:Bf):Nat->Bf
 |0=>k
 |n+1=>fun p=>if p / 4=n+8 then newW (axpT k n) (n+8) (p % 4) else axpT k n p
def axpF(k:Bf):Bf:=axpT k 52
theorem expT_stay(k:Bf)(n:Nat):∀ d p,p / 4<n+8->axpT k (n+d) p=axpT k n p:=by
 intro d
 induction d with
 |zero=>intro p _;rfl
 |succ d ih=>
  intro p h;show (if p / 4=n+d+8 then _ else axpT k (n+d) p)=_
  rw[if_neg (by omega),ih p h]
theorem exp_key(k:Bf)(p:Nat)(h:p<32):axpF k p=k p:=expT_stay k 0 52 p (by omega)
theorem newW_same{f g:Bf}{i j:Nat}(hi:8<=i)(hj:j<4)(h:∀ p,p / 4<i->f p=g p):newW f i j=newW g i j:=by
 unfold newW;rw[h _ (by omega),h (4*(i-1)+(j+1) % 4) (by omega),h (4*(i-1)+j) (by omega)]
theorem exp_rec(k:Bf)(i j:Nat)(h8:8<=i)(h60:i<60)(hj:j<4):axpF k (4*i+j)=newW (axpF k) i j:=by
 obtain ⟨n,rfl⟩:∃ n,i=n+8:=⟨i-8,by omega⟩
 have e1:axpF k (4*(n+8)+j)=axpT k (n+1) (4*(n+8)+j):=by
  have:=expT_stay k (n+1) (52-(n+1)) (4*(n+8)+j) (by omega)
  rw[show n+1+(52-(n+1))=52 by omega] at this
  exact this
 rw[e1];show (if (4*(n+8)+j) / 4=n+8 then newW (axpT k n) (n+8) ((4*(n+8)+j) % 4) else _)=_
 rw[if_pos (by omega),show (4*(n+8)+j) % 4=j by omega]
 refine newW_same (by omega) hj fun p hp=>?_
 have:=expT_stay k n (52-n) p (by omega)
 rw[show n+(52-n)=52 by omega] at this
 exact this.symm
def stF(k b:Bf):Nat->Bf
 |0=>xorF b (axpF k)
 |n+1=>rndF (stF k b n) (offF (axpF k) ((n+1)*16)) (n==13)
def aenF(k b:Bf):Bf:=stF k b 14
end Go.Proofs.YteffjpdcghlnlaaGreatDoor.Oct
namespace Go.Proofs.YteffjpdcghlnlaaGreatDoor.Oct
def nd(n:Nat):Nat:=if n=0 then 0 else if n<256 then 1 else if n<65536 then 2 else if n<16777216 then 3 else if n<4294967296 then 4 else if n<1099511627776 then 5 else if n<281474976710656 then 6 else if n<72057594037927936 then 7 else 8
theorem nd_zero:nd 0=0:=rfl
theorem nd_le(n:Nat):nd n<=8:=by unfold nd;repeat' split
                                 all_goals omega
theorem nd_pos(n:Nat)(h0:0<n):0<nd n:=by
 unfold nd
 repeat' split
 all_goals omega
theorem nd_eq(n k:Nat)(hk:k<=8)(h:n<256^k)(h1:0<k->256^(k-1)<=n):nd n=k:=by
 have:k=0\/k=1\/k=2\/k=3\/k=4\/k=5\/k=6\/k=7\/k=8:=by omega
 rcases this with rfl|rfl|rfl|rfl|rfl|rfl|rfl|rfl|rfl
 all_goals
  simp at h h1;unfold nd
  repeat' split
  all_goals omega
theorem nd_lt(n:Nat)(h:n<18446744073709551616):n<256^nd n:=by
 unfold nd
 repeat' split
 all_goals (simp;try omega)
theorem nd_ge(n:Nat)(h:0<nd n):256^(nd n-1)<=n:=by
 by_cases h0:n=0
 ·subst h0;exact absurd h (by decide)
 unfold nd
 repeat' split
 all_goals (simp;try omega)
theorem nd_step(n:Nat)(h0:0<n)(h:n<18446744073709551616):nd n=nd (n / 256)+1:=by
 have hp:=nd_pos n h0;have h1:=nd_lt n h;have h2:=nd_ge n hp;have h3:=nd_le n;obtain ⟨k,hk⟩:∃ k,nd n=k+1:=⟨nd n-1,by omega⟩
 rw[hk] at h1 h2 h3 ⊢;rw[Nat.add_sub_cancel] at h2;congr 1;symm;refine nd_eq _ k (by omega) ?_ fun hk0=>?_
 ·rw[Nat.pow_succ] at h1
  exact (Nat.div_lt_iff_lt_mul (by omega)).2 h1
 ·rw[Nat.le_div_iff_mul_le (by omega),<-Nat.pow_succ,Nat.succ_eq_add_one,show k-1+1=k by omega]
  exact h2
def val(f:Bf):Nat->Nat
 |0=>0
 |k+1=>val f k*256+(f k).toNat
theorem val_congr{f g:Bf}:∀ {k:Nat},(∀ i,i<k->f i=g i)->val f k=val g k
 |0,_=>rfl
 |k+1,h=>by simp only[val];rw[val_congr (k:=k) fun i hi=>h i (by omega),h k (by omega)]
theorem val_lt(f:Bf):∀ k:Nat,val f k<256^k
 |0=>by simp[val]
 |k+1=>by
  have h1:=val_lt f k;have h2:=(f k).isLt;simp only[val];rw[Nat.pow_succ];omega
theorem val_cut(f:Bf)(j:Nat):∀ d:Nat,val f (j+d) / 256^d=val f j
 |0=>by simp
 |d+1=>by
  have h2:=(f (j+d)).isLt;rw[<-Nat.add_assoc];simp only[val];rw[Nat.pow_succ,Nat.mul_comm (256^d) 256,<-Nat.div_div_eq_div_mul,show (val f (j+d)*256+(f (j+d)).toNat) / 256=val f (j+d) by omega]
  exact val_cut f j d
theorem val_ge(f:Bf)(h:f 0≠0#8):∀ k:Nat,256^k<=val f (k+1)
 |0=>by
  have:(f 0).toNat≠0:=fun e=>h (BitVec.eq_of_toNat_eq e)
  simp[val];omega
 |k+1=>by
  have:=val_ge f h k;rw[val,Nat.pow_succ];omega
theorem val_u64(f:Bf)(k:Nat)(hk:k<=8):val f k<18446744073709551616:=by
 have h:=val_lt f k;have:256^k<=256^8:=Nat.pow_le_pow_right (by omega) hk
 have e:(256:Nat)^8=18446744073709551616:=by decide
 omega
theorem val_u56(f:Bf)(k:Nat)(hk:k<=7):val f k<72057594037927936:=by
 have h:=val_lt f k;have:256^k<=256^7:=Nat.pow_le_pow_right (by omega) hk
 have e:(256:Nat)^7=72057594037927936:=by decide
 omega
def encL(n:Nat):Nat:=nd n+1
def encF(n:Nat):Bf:=fun i=>if i=0 then BitVec.ofNat 8 (nd n) else BitVec.ofNat 8 (n / 256^(nd n-i))
theorem encL_le(n:Nat):encL n<=9:=by have:=nd_le n;unfold encL;omega
theorem encL_pos(n:Nat):0<encL n:=by unfold encL;omega
theorem encF_zero(n:Nat):(encF n 0).toNat=nd n:=by
 have:=nd_le n;unfold encF;rw[if_pos rfl,BitVec.toNat_ofNat];omega
theorem enc_val(n:Nat)(h:n<18446744073709551616):∀ j:Nat,j<=nd n->val (offF (encF n) 1) j=n / 256^(nd n-j)
 |0,_=>by
  have h1:=nd_lt n h;simp only[val,Nat.sub_zero];rw[Nat.div_eq_of_lt h1]
 |j+1,hj=>by
  rw[val,enc_val n h j (by omega)]
  unfold offF encF;rw[if_neg (by omega),BitVec.toNat_ofNat,show nd n-j=nd n-(j+1)+1 by omega,Nat.pow_succ,<-Nat.div_div_eq_div_mul,show nd n-(1+j)=nd n-(j+1) by omega]
  omega
theorem enc_all(n:Nat)(h:n<18446744073709551616):val (offF (encF n) 1) (nd n)=n:=by
 rw[enc_val n h (nd n) (Nat.le_refl _),Nat.sub_self,Nat.pow_zero,Nat.div_one]
theorem enc_one(n:Nat)(h:n<18446744073709551616)(h0:0<nd n):encF n 1≠0#8:=by
 intro e;have h1:=congrArg BitVec.toNat e;have h2:=nd_ge n h0;have h3:=nd_lt n h;unfold encF at h1;rw[if_neg (by omega),BitVec.toNat_ofNat] at h1
 have hp:0<256^(nd n-1):=Nat.pow_pos (by omega)
 have h4:1<=n / 256^(nd n-1):=(Nat.one_le_div_iff hp).2 h2
 have h5:n / 256^(nd n-1)<256:=by
  rw[Nat.div_lt_iff_lt_mul hp,<-Nat.pow_succ',Nat.succ_eq_add_one,show nd n-1+1=nd n by omega];exact h3
 have:(0#8).toNat=0:=rfl;omega
def tkV(f:Bf):Nat:=val (offF f 1) (f 0).toNat
def tkL(f:Bf):Nat:=(f 0).toNat+1
def tkE(n:Nat)(f:Bf):Nat:=
 if n=0 then 3 else if 8<(f 0).toNat then 80 else if n<=(f 0).toNat then 3
 else if 0<(f 0).toNat/\f 1=0#8 then 80 else if 9223372036854775808<=tkV f then 80 else 0
theorem tk_ok{n:Nat}{f:Bf}(h:tkE n f=0):0<n/\(f 0).toNat<=8/\(f 0).toNat<n/\(0<(f 0).toNat->f 1≠0#8)/\tkV f<9223372036854775808:=by
 unfold tkE at h
 split at h
 ·omega
 split at h
 ·omega
 split at h
 ·omega
 split at h
 ·omega
 split at h
 ·omega
 rename_i h1 h2 h3 h4 h5
 exact ⟨by omega,by omega,by omega,fun a b=>h4 ⟨a,b⟩,by omega⟩
theorem tk_of{n:Nat}{f:Bf}(h0:(f 0).toNat<=8)(h1:(f 0).toNat<n)(h2:0<(f 0).toNat->f 1≠0#8)(h3:tkV f<9223372036854775808):tkE n f=0:=by
 unfold tkE;rw[if_neg (by omega),if_neg (by omega),if_neg (by omega),if_neg (fun h=>h2 h.1 h.2),if_neg (by omega)]
theorem tkL_le{n:Nat}{f:Bf}(h:tkE n f=0):tkL f<=n:=by have:=tk_ok h;unfold tkL;omega
theorem tk_enc(m:Nat)(hm:m<9223372036854775808)(n:Nat)(f:Bf)(hn:encL m<=n)(hf:∀ i,i<encL m->f i=encF m i):tkE n f=0/\tkV f=m/\tkL f=encL m:=by
 have h0:(f 0).toNat=nd m:=by rw[hf 0 (encL_pos m)];exact encF_zero m
 have hv:tkV f=m:=by
  unfold tkV;rw[h0];exact (val_congr (f:=offF f 1) (g:=offF (encF m) 1) fun i hi=>hf (1+i) (by unfold encL;omega)).trans (enc_all m (by omega))
 have:=nd_le m;refine ⟨tk_of (by omega) (by unfold encL at hn;omega) (fun h=>?_) (by omega),hv,by unfold tkL encL;omega⟩
 rw[hf 1 (by unfold encL;omega)]
 exact enc_one m (by omega) (by omega)
theorem enc_tk{n:Nat}{f:Bf}(h:tkE n f=0):encL (tkV f)=tkL f/\∀ i,i<tkL f->encF (tkV f) i=f i:=by
 obtain ⟨h0,h1,h2,h3,h4⟩:=tk_ok h
 have hk:nd (tkV f)=(f 0).toNat:=nd_eq _ _ h1 (val_lt _ _) fun hp=>by
  have:=val_ge (offF f 1) (h3 hp) ((f 0).toNat-1);rw[show (f 0).toNat-1+1=(f 0).toNat by omega] at this
  exact this
 refine ⟨by unfold encL tkL;rw[hk],fun i hi=>?_⟩
 apply BitVec.eq_of_toNat_eq;unfold tkL at hi;unfold encF
 by_cases hz:i=0
 ·rw[if_pos hz,hz,BitVec.toNat_ofNat,hk];omega
 ·rw[if_neg hz,BitVec.toNat_ofNat,hk]
  have hc:=val_cut (offF f 1) i ((f 0).toNat-i);rw[show i+((f 0).toNat-i)=(f 0).toNat by omega] at hc
  unfold tkV;rw[hc,show i=(i-1)+1 by omega,val]
  have:=(offF f 1 (i-1)).isLt;have e:offF f 1 (i-1)=f (i-1+1):=by unfold offF;rw[show 1+(i-1)=i-1+1 by omega]
  rw[e] at this ⊢;omega
open Go.ChangeShapes Go.WideShapes Go.ChangeAt Go.RowKit
abbrev l8T:ByteArray:=⟨#[0,1,2,2,3,3,3,3,4,4,4,4,4,4,4,4,5,5,5,5,5,5,5,5,5,5,5,5,5,5,5,5,6,6,6,6,6,6,6,6,6,6,6,6,6,6,6,6,6,6,6,6,6,6,6,6,6,6,6,6,6,6,6,6,7,7,7,7,7,7,7,7,7,7,7,7,7,7,7,7,7,7,7,7,7,7,7,7,7,7,7,7,7,7,7,7,7,7,7,7,7,7,7,7,7,7,7,7,7,7,7,7,7,7,7,7,7,7,7,7,7,7,7,7,7,7,7,7,8,8,8,8,8,8,8,8,8,8,8,8,8,8,8,8,8,8,8,8,8,8,8,8,8,8,8,8,8,8,8,8,8,8,8,8,8,8,8,8,8,8,8,8,8,8,8,8,8,8,8,8,8,8,8,8,8,8,8,8,8,8,8,8,8,8,8,8,8,8,8,8,8,8,8,8,8,8,8,8,8,8,8,8,8,8,8,8,8,8,8,8,8,8,8,8,8,8,8,8,8,8,8,8,8,8,8,8,8,8,8,8,8,8,8,8,8,8,8,8,8,8,8,8,8,8,8,8]⟩
theorem l8_size:l8T.size=256:=by decide+kernel
theorem l8_all:∀ x:Fin 256,∀ h:x.val<l8T.size,(l8T[x.val]'h).toNat<=8/\((l8T[x.val]'h).toNat=0↔x.val=0):=by decide+kernel
theorem l8_in(B:Nat)(n x:Nat)(h:x<256)(h':x<l8T.size)(hB:B<=56)(h8:B % 8=0)(hk:nd n=B / 8+if x=0 then 0 else 1)(v:Int)(hv:v=wrap64 ((B:Int)+wrap64 ((l8T[x]'h').toNat:Int)))(w:World):
  ∃ L:Nat,(Ending.returned (Value.int IntKind.i64 v))=.returned (.int .i64 L)/\L<=64/\(L+7) / 8=nd n/\w=w:=by
 obtain ⟨h1,h2⟩:=l8_all ⟨x,h⟩ h';simp only at h1 h2;obtain ⟨t,ht⟩:∃ t,t=(l8T[x]'h').toNat:=⟨_,rfl⟩;rw[<-ht] at h1 h2 hv;subst hv;refine ⟨B+t,?_,by omega,?_,rfl⟩
 ·rw[IntWalk.wrap64_in (t:Int) (by omega),IntWalk.wrap64_in _ (by omega)];rfl
 ·rw[hk]
  split
  ·omega
  ·omega
theorem len64_any(n:Nat)(hn:n<18446744073709551616)(w:World):
  Calls Tryz.prog 268 #[.int .u64 n] w fun e w'=>∃ L:Nat,e=.returned (.int .i64 L)/\L<=64/\(L+7) / 8=nd n/\w=w':=by
 go_enter Tryz.func268,Tryz.ntmps268
 by_cases h1:n<4294967296
 ·have d1:decide (4294967296<=(n:Int))=false:=by simp;omega
  by_cases h2:n<65536
  ·have d2:decide (65536<=(n:Int))=false:=by simp;omega
   by_cases h3:n<256
   ·have d3:decide (256<=(n:Int))=false:=by simp;omega
    go_wp2_with fail;go_ret;exact l8_in 0 n (n) (by omega) (by rw[l8_size];omega) (by omega) rfl (by unfold nd;(repeat' split)<;>omega) _ (congrArg wrap64 (Int.zero_add _).symm) _
   ·have d3:decide (256<=(n:Int))=true:=by simp;omega
    go_wp2_with fail;go_ret;exact l8_in 8 n (n / 256) (by omega) (by rw[l8_size];omega) (by omega) rfl (by unfold nd;(repeat' split)<;>omega) _ (by rfl) _
  ·have d2:decide (65536<=(n:Int))=true:=by simp;omega
   by_cases h3:n / 65536<256
   ·have d3:decide (256<=(n:Int) / 65536)=false:=by simp;omega
    go_wp2_with fail;go_ret;exact l8_in 16 n (n / 65536) (by omega) (by rw[l8_size];omega) (by omega) rfl (by unfold nd;(repeat' split)<;>omega) _ (by rfl) _
   ·have d3:decide (256<=(n:Int) / 65536)=true:=by simp;omega
    go_wp2_with fail;go_ret;exact l8_in 24 n (n / 65536 / 256) (by omega) (by rw[l8_size];omega) (by omega) rfl (by unfold nd;(repeat' split)<;>omega) _ (by rfl) _
 ·have d1:decide (4294967296<=(n:Int))=true:=by simp;omega
  by_cases h2:n / 4294967296<65536
  ·have d2:decide (65536<=(n:Int) / 4294967296)=false:=by simp;omega
   by_cases h3:n / 4294967296<256
   ·have d3:decide (256<=(n:Int) / 4294967296)=false:=by simp;omega
    go_wp2_with fail;go_ret;exact l8_in 32 n (n / 4294967296) (by omega) (by rw[l8_size];omega) (by omega) rfl (by unfold nd;(repeat' split)<;>omega) _ (by rfl) _
   ·have d3:decide (256<=(n:Int) / 4294967296)=true:=by simp;omega
    go_wp2_with fail;go_ret;exact l8_in 40 n (n / 4294967296 / 256) (by omega) (by rw[l8_size];omega) (by omega) rfl (by unfold nd;(repeat' split)<;>omega) _ (by rfl) _
  ·have d2:decide (65536<=(n:Int) / 4294967296)=true:=by simp;omega
   by_cases h3:n / 4294967296 / 65536<256
   ·have d3:decide (256<=(n:Int) / 4294967296 / 65536)=false:=by simp;omega
    go_wp2_with fail;go_ret;exact l8_in 48 n (n / 4294967296 / 65536) (by omega) (by rw[l8_size];omega) (by omega) rfl (by unfold nd;(repeat' split)<;>omega) _ (by rfl) _
   ·have d3:decide (256<=(n:Int) / 4294967296 / 65536)=true:=by simp;omega
    go_wp2_with fail;go_ret;exact l8_in 56 n (n / 4294967296 / 65536 / 256) (by omega) (by rw[l8_size];omega) (by omega) rfl (by unfold nd;(repeat' split)<;>omega) _ (by rfl) _
theorem blen_any(n:Nat)(hn:n<9223372036854775808)(w:World):
  Calls Tryz.prog 235 #[.int .u64 n] w fun e w'=>∃ L:Nat,e=.returned (.int .i64 L)/\L<=64/\(L+7) / 8=nd n/\w=w':=by
 have H:=Lib.hid (len64_any n (by omega) w)
 go_enter Tryz.func235,Tryz.ntmps235;go_wp2_with fail;refine H.out.mono ?_;rintro e w' ⟨L,rfl,h1,h2,rfl⟩;go_wp2_with fail;go_ret;exact ⟨L,rfl,h1,h2,rfl⟩
theorem needs_any(n:Nat)(hn:n<9223372036854775808)(w:World):
  Calls Tryz.prog 152 #[.int .i64 n] w fun e w'=>e=.returned (.int .i64 (nd n:Nat))/\w=w':=by
 go_enter Tryz.func152,Tryz.ntmps152;go_wp2_with fail;go_loopw [0,3] (fun nv kv wr=>∃ m k:Nat,m<=n/\k+nd m=nd n/\nv=.int .i64 m/\kv=.int .i64 k/\wr=w) (fun nv _ _=>(intOf nv).toNat)
 case atStart=>exact ⟨n,0,Nat.le_refl _,by omega,rfl,rfl,rfl⟩
 case round=>
  obtain ⟨m,k,hm,hk,rfl,rfl,rfl⟩:=hrel;have hk8:=nd_le n
  by_cases h0:m=0
  ·subst h0
   have hk0:k=nd n:=by rw[nd_zero] at hk;omega
   subst hk0;go_wp2_with fail;go_ret;exact ⟨rfl,rfl⟩
  ·have hd:decide ((0:Int)<(m:Int))=true:=by simp;omega
   have hs:=nd_step m (by omega) (by omega)
   have HS:=Lib.hid hs;have HK:=Lib.hid hk;have hk9:k<=8:=by omega
   clear hs hk;go_wp2_with fail;go_roundw
   case rel=>exact ⟨m / 256,k+1,by omega,by have:=HS.out;have:=HK.out;omega,rfl,rfl,trivial⟩
   case measure=>simp[intOf];omega
theorem bs0(w:World):(Instr.buildSlice 22 0 #[]).run Tryz.prog w=.ok (.slice (some ⟨w.heap.size,0,none⟩) 0 0) (w.alloc (.cells #[] 5)):=by kernel_rfl
theorem ex_bs0(ρ:Operand->Value){o:Oper}(ho:o.op=.buildSlice 22 0 #[])(w:World):(execOp ρ o).run Tryz.prog w=.ok (.value (.slice (some ⟨w.heap.size,0,none⟩) 0 0)) (w.alloc (.cells #[] 5)):=by
 unfold execOp;simp only[ho,Sem.run_bind,List.map_toArray,List.map_nil];rw[bs0];rfl
theorem mk_sl(n:Nat)(hn:n<=140737488355328)(w:World):(Instr.makeSlice 22 (.int .i64 (n:Int)) (.int .i64 (n:Int))).run Tryz.prog w=.ok (.slice (some ⟨w.heap.size,0,none⟩) n n) (w.alloc (.cells (ba n fun _=>0#8) 5)):=by
 obtain ⟨iu,hiu,z0,z1,z2⟩:=info_parts (P:=Tryz.prog) yJ;rw[run_make w 22 5 iu (.int .u8 0) zZ hiu z0 .i64 .i64 n n (by omega) (Int.le_refl _) (by rw[z2];omega) (by omega),Int.toNat_natCast,z1,made_ba]
@[go_sem] theorem conv_lit(w:World)(C:Array Value)(n c p:Nat)(hp:p=w.heap.size):(convert 22 22 (.slice (some ⟨p,0,none⟩) n c)).run Tryz.prog (w.alloc (.cells C 5))=.ok (.slice (some ⟨p,0,none⟩) n c) (w.alloc (.cells C 5 (C.size,C.size+1))):=by
 subst hp;exact Lib.run_convert_bytes_const (P:=Tryz.prog) w 22 5 C n c zZ u8_u
theorem Sl.lit(w:World){C:Array Value}{n:Nat}{f:Bf}(hC:C=ba n f)(u:TypeId)(m:Nat×Nat)(B:Nat)(hB:w.heap.size<B):Sl (w.alloc (.cells C u m)) B (some ⟨w.heap.size,0,none⟩) n n f:=by
 subst hC;exact ⟨Nat.le_refl _,fun _=>⟨w.heap.size,0,rfl,hB,fun i hi=>by rw[Nat.zero_add,cell_of_row _ _ i _ _ _ (heap_alloc_new w _),yA n f i hi]⟩⟩
theorem clone_any(n c:Nat)(A:Option Addr)(b:Bf)(w:World)(hs:Sl w w.heap.size A n c b)(hn:n<=140737488355328):
  Calls Tryz.prog 196 #[.slice A n c] w fun e w'=>∃ v,e=.returned v/\Own w' w.heap.size 5 v n b/\Below w.heap.size w w':=by
 have HS:=Lib.hid hs;go_enter Tryz.func196,Tryz.ntmps196
 cases A with
 |none=>
  have h0:=hs.nil_zero rfl;subst h0;clear hs;have qT:=fun (w:World) (n c:Nat)=>Lib.run_eql_slice_nil (P:=Tryz.prog) w 22 5 none n c 0 0 zZ
  go_wp2_with fail;go_ret;exact ⟨_,rfl,Own.nil _ _ _ _,Below.refl _ _⟩
 |some a=>
  clear hs;have qT:=fun (w:World) (n c:Nat)=>Lib.run_eql_slice_nil (P:=Tryz.prog) w 22 5 (some a) n c 0 0 zZ
  have O1:=Lib.hid (show Own (w.alloc (.cells #[] 5)) w.heap.size 5 (.slice (some ⟨w.heap.size,0,none⟩) 0 0) 0 b from Own.empty w w.heap.size 5 _ (Nat.le_refl _))
  have B1:=(Below.refl w.heap.size w).alloc (Nat.le_refl _) (.cells #[] 5);have S1:=HS.out.below B1;have hb:w.heap.size<=(w.alloc (.cells #[] 5)).heap.size:=by simp
  go_wp2_with (at_builtin;refine yO rfl (.tmp 5) (.tmp 6) rfl zZ yJ O1.out S1 (by omega) hb rfl rfl ?_;intro v4 w4 ho4 hg4 ht4)
  go_ret;exact ⟨_,rfl,by rw[Nat.zero_add,yH] at ho4;exact ho4,O1.out.after hg4 B1 hb (Nat.le_refl _)⟩
theorem enc_step(n N j:Nat)(f:Bf)(hj:j<nd n)(i:Nat)(hi:i<N+(j+1)+1):
  catF (N+(j+1)) (catF N f (encF n)) (fun _=>BitVec.ofNat 8 (n / 256^(nd n-(j+1)))) i=catF N f (encF n) i:=by
 unfold catF
 by_cases h:i<N+(j+1)
 ·rw[if_pos h]
 ·rw[if_neg h,if_neg (by omega),show i-N=j+1 by omega]
  unfold encF;rw[if_neg (by omega)]
theorem byt_8(n s:Nat):((n:Int) / 2^(s*8) % 256)=I (BitVec.ofNat 8 (n / 256^s)):=by
 unfold I;rw[BitVec.toNat_ofNat,show (256:Nat)^s=2^(s*8) by rw[Nat.mul_comm,Nat.pow_mul]]
 rfl
theorem byt_9(n s:Nat):((n:Int) / 2^(8*s) % 256)=I (BitVec.ofNat 8 (n / 256^s)):=by rw[Nat.mul_comm];exact byt_8 n s
theorem appn_any(n N base:Nat)(v:Value)(f:Bf)(w:World)(ho:Own w base 5 v N f)(hN:N<=140737488355000)(hb:base<=w.heap.size)(hn:n<9223372036854775808):
  Calls Tryz.prog 206 #[v,.int .i64 n] w fun e w'=>∃ v',e=.returned v'/\Own w' base 5 v' (N+encL n) (catF N f (encF n))/\Below base w w':=by
 have HO:=Lib.hid ho;have H1:=Lib.hid (blen_any n hn w);have hcv:IntKind.u64.wrap (n:Int)=n:=by rw[IntKind.wrap_u64];omega
 clear ho;go_enter Tryz.func206,Tryz.ntmps206;go_wp2_with fail;refine H1.out.mono ?_;rintro e w' ⟨L,rfl,hL,hk,rfl⟩;have hK8:=nd_le n;obtain ⟨K,hK⟩:∃ K,K=nd n:=⟨_,rfl⟩;rw[<-hK] at hk hK8;have hq:((L:Int)+8-1) / 8=(K:Int):=by omega
 have hI:(K:Int)=I (BitVec.ofNat 8 K):=by unfold I;rw[BitVec.toNat_ofNat];omega
 have HI:=Lib.hid hI;have HK:=Lib.hid hK;have B1:=Lib.hid ((Below.refl base w).alloc hb (.cells #[.int .u8 (K:Int)] 5));have S1:=Lib.hid (show Sl (w.alloc (.cells #[.int .u8 (K:Int)] 5)) (w.heap.size+1) (some ⟨w.heap.size,0,none⟩) 1 1 (fun _=>BitVec.ofNat 8 K) by rw[hI];exact Sl.one w _ _ _ (by omega))
 have O1:=Lib.hid (HO.out.alloc (.cells #[.int .u8 (K:Int)] 5));have hb1:base<=(w.alloc (.cells #[.int .u8 (K:Int)] 5)).heap.size:=by simp;omega
 clear H1 hI hK hk;go_wp2_with (at_builtin;refine yO rfl (.tmp 13) (.tmp 16) rfl zZ yJ O1.out S1.out (by omega) hb1 rfl rfl ?_;intro v2 w2 ho2 hg2 ht2)
 have B2:=Lib.hid (O1.out.after hg2 B1.out hb1 (Nat.le_refl _));have hz2:=hg2.size
 have O2:=Lib.hid (show Own w2 base 5 v2 (N+0+1) (catF N f (encF n)) from ho2.congr fun i hi=>by
  unfold catF
  by_cases h:i<N
  ·rw[if_pos h,if_pos h]
  ·rw[if_neg h,if_neg h,show i-N=0 by omega,HK.out];rfl)
 have hz3:base<=w2.heap.size:=by simp at hz2;omega
 clear ho2 hg2 ht2 hz2 B1 S1 O1 hb1;go_loopw [0,6] (fun bv iv wr=>∃ r j:Nat,r+j=K/\iv=.int .i64 ((r:Int)-1)/\Own wr base 5 bv (N+j+1) (catF N f (encF n))/\Below base w wr/\base<=wr.heap.size) (fun _ iv _=>(intOf iv+1).toNat)
 case atStart=>exact ⟨K,0,by omega,rfl,O2.out,B2.out,hz3⟩
 case round=>
  clear O2 B2 hz3;obtain ⟨r,j,hrj,rfl,ho,hbl,hz⟩:=hrel;obtain ⟨wo,rfl⟩:∃ wo:World,wo=wr:=⟨_,rfl⟩;have HOo:=Lib.hid ho;have HB:=Lib.hid hbl;clear ho hbl;rcases r with _|s
  ·have hd:decide ((0:Int)<=((0:Nat):Int)-1)=false:=by decide
   have hj:j=K:=by omega
   subst hj;go_wp2_with fail;go_ret;exact ⟨_,rfl,by unfold encL;rw[<-HK.out];exact HOo.out,HB.out⟩
  ·have e1:((s+1:Nat):Int)-1=(s:Int):=by omega
   rw[e1];have hd:decide ((0:Int)<=(s:Int))=true:=by simp
   have B3:=Lib.hid (HB.out.alloc hz (.cells #[.int .u8 ((n:Int) / 2^(s*8) % 256)] 5));have S3:=Lib.hid (show Sl (wo.alloc (.cells #[.int .u8 ((n:Int) / 2^(s*8) % 256)] 5)) (wo.heap.size+1) (some ⟨wo.heap.size,0,none⟩) 1 1 (fun _=>BitVec.ofNat 8 (n / 256^s)) by rw[byt_8];exact Sl.one wo _ _ _ (by omega))
   have O3:=Lib.hid (HOo.out.alloc (.cells #[.int .u8 ((n:Int) / 2^(s*8) % 256)] 5));have hb3:base<=(wo.alloc (.cells #[.int .u8 ((n:Int) / 2^(s*8) % 256)] 5)).heap.size:=by simp;omega
   clear HB HOo;go_wp2_with (at_builtin;refine yO rfl (.tmp 24) (.tmp 30) rfl zZ yJ O3.out S3.out (by omega) hb3 rfl rfl ?_;intro v4 w4 ho4 hg4 ht4)
   have hz4:=hg4.size;have B4:=Lib.hid (O3.out.after hg4 B3.out hb3 (Nat.le_refl _))
   have O4:=Lib.hid (show Own w4 base 5 v4 (N+(j+1)+1) (catF N f (encF n)) from ho4.congr fun i hi=>by
    have:=enc_step n N j f (by rw[<-HK.out];omega) i hi
    rw[<-HK.out,show K-(j+1)=s by omega] at this
    exact this)
   have hz5:base<=w4.heap.size:=by omega
   clear ho4 hg4 ht4 hz4 B3 S3 O3 hb3;go_roundw
   case rel=>exact ⟨s,j+1,by omega,rfl,O4.out,B4.out,hz5⟩
   case measure=>simp[intOf]
theorem put_neg(n:Int)(N c:Nat)(A:Option Addr)(w:World)(hn:n<0):
  Calls Tryz.prog 168 #[.slice A N c,.int .i64 n] w fun e w'=>e=.returned (.tuple #[.slice none 0 0,.int .i64 1])/\w=w':=by
 have hd:decide (n<0)=true:=by simp;omega
 go_enter Tryz.func168,Tryz.ntmps168;go_wp2_with fail;exact bodyPost_ret (v:=.tuple #[.slice none 0 0,.int .i64 1]) (by simp[results,Tryz.results168,go_sem]) rfl ⟨rfl,rfl⟩
theorem put_any(n N c:Nat)(A:Option Addr)(b:Bf)(w:World)(hs:Sl w w.heap.size A N c b)(hN:N<=140737488355000)(hn:n<9223372036854775808):
  Calls Tryz.prog 168 #[.slice A N c,.int .i64 n] w fun e w'=>∃ v,e=.returned (.tuple #[v,.int .i64 0])/\Own w' w.heap.size 5 v (N+encL n) (catF N b (encF n))/\Below w.heap.size w w':=by
 have hd:decide ((n:Int)<0)=false:=by simp
 have H1:=Lib.hid (clone_any N c A b w hs (by omega))
 clear hs;go_enter Tryz.func168,Tryz.ntmps168;go_wp2_with fail;refine H1.out.mono ?_;rintro e w1 ⟨v1,rfl,ho1,hb1⟩;have H2:=Lib.hid (appn_any n N w.heap.size v1 b w1 ho1 hN hb1.size hn);have B1:=Lib.hid hb1;clear H1 ho1 hb1;go_wp2_with fail;refine H2.out.mono ?_;rintro e w2 ⟨v2,rfl,ho2,hb2⟩;have O2:=Lib.hid ho2;have B2:=Lib.hid (B1.out.trans hb2);clear H2 ho2 hb2 B1;go_wp2_with fail;exact bodyPost_ret (v:=.tuple #[v2,.int .i64 0]) (by simp[results,Tryz.results168,go_sem]) rfl ⟨_,rfl,O2.out,B2.out⟩
def txL(T:Nat):Nat:=encL T+T
def txF(T:Nat)(t:Bf):Bf:=catF (encL T) (encF T) t
theorem catF_assoc(n m:Nat)(f g h:Bf):catF (n+m) (catF n f g) h=catF n f (catF m g h):=by
 funext i;unfold catF
 by_cases h1:i<n
 ·rw[if_pos (by omega),if_pos h1,if_pos h1]
 ·by_cases h2:i<n+m
  ·rw[if_pos h2,if_neg h1,if_neg h1,if_pos (by omega)]
  ·rw[if_neg h2,if_neg h1,if_neg (by omega),show i-(n+m)=i-n-m by omega]
theorem putt_long(N c T c1:Nat)(A A1:Option Addr)(w:World)(hT:4096<T):
  Calls Tryz.prog 167 #[.slice A N c,.slice A1 T c1] w fun e w'=>e=.returned (.tuple #[.slice none 0 0,.int .i64 2])/\w=w':=by
 have hd:decide (4096<(T:Int))=true:=by simp;omega
 go_enter Tryz.func167,Tryz.ntmps167;go_wp2_with fail;exact bodyPost_ret (v:=.tuple #[.slice none 0 0,.int .i64 2]) (by simp[results,Tryz.results167,go_sem]) rfl ⟨rfl,rfl⟩
theorem putt_any(N c T c1:Nat)(A A1:Option Addr)(b t:Bf)(w:World)(hs:Sl w w.heap.size A N c b)(ht:Sl w w.heap.size A1 T c1 t)(hN:N<=140737488351232)(hT:T<=4096):
  Calls Tryz.prog 167 #[.slice A N c,.slice A1 T c1] w fun e w'=>∃ v,e=.returned (.tuple #[v,.int .i64 0])/\Own w' w.heap.size 5 v (N+txL T) (catF N b (txF T t))/\Below w.heap.size w w':=by
 have hd:decide (4096<(T:Int))=false:=by simp;omega
 have H1:=Lib.hid (clone_any N c A b w hs (by omega))
 have HT:=Lib.hid ht;have hE:=encL_le T;clear hs ht;go_enter Tryz.func167,Tryz.ntmps167;go_wp2_with fail;refine H1.out.mono ?_;rintro e w1 ⟨v1,rfl,ho1,hb1⟩;have H2:=Lib.hid (appn_any T N w.heap.size v1 b w1 ho1 (by omega) hb1.size (by omega))
 have B1:=Lib.hid hb1;clear H1 ho1 hb1;go_wp2_with fail;refine H2.out.mono ?_;rintro e w2 ⟨v2,rfl,ho2,hb2⟩;have O2:=Lib.hid ho2;have B2:=Lib.hid (B1.out.trans hb2);have T2:=Lib.hid (HT.out.below B2.out);have hz2:=B2.out.size;clear H2 ho2 hb2 B1;go_wp2_with (at_builtin;refine wpl_appW rfl (.tmp 13) (.tmp 14) rfl zZ yJ O2.out T2.out (by omega) hz2 rfl rfl ?_;intro v4 w4 ho4 hg4)
 rw[catF_assoc,Nat.add_assoc] at ho4;have B4:=O2.out.after hg4 B2.out hz2 (Nat.le_refl _);exact bodyPost_ret (v:=.tuple #[v4,.int .i64 0]) (by simp[results,Tryz.results167,go_sem]) rfl ⟨_,rfl,ho4,B4⟩
theorem rput_any(n N c:Nat)(A:Option Addr)(b:Bf)(w:World)(hs:Sl w w.heap.size A N c b)(hN:N<=140737488355000)(hn:n<9223372036854775808):
  Calls Tryz.prog 99 #[.slice A N c,.int .i64 n] w fun e w'=>∃ v,e=.returned (.tuple #[v,.int .i64 0])/\Own w' w.heap.size 5 v (N+encL n) (catF N b (encF n))/\Below w.heap.size w w':=by
 have hd:decide ((n:Int)<0)=false:=by simp
 have H1:=Lib.hid (needs_any n hn w);have HS:=Lib.hid hs;have hK8:=nd_le n;obtain ⟨K,hK⟩:∃ K,K=nd n:=⟨_,rfl⟩;rw[<-hK] at hK8 H1;have hI:(K:Int)=I (BitVec.ofNat 8 K):=by unfold I;rw[BitVec.toNat_ofNat];omega
 have HK:=Lib.hid hK;have B0:=Lib.hid ((Below.refl w.heap.size w).alloc (Nat.le_refl _) (.cells #[] 5));have O0:=Lib.hid (show Own (w.alloc (.cells #[] 5)) w.heap.size 5 (.slice (some ⟨w.heap.size,0,none⟩) 0 0) 0 b from Own.empty w w.heap.size 5 _ (Nat.le_refl _))
 have S0:=Lib.hid (HS.out.below B0.out);have hz0:w.heap.size<=(w.alloc (.cells #[] 5)).heap.size:=by simp
 have HI:=Lib.hid hI;clear hs hK hI;go_enter Tryz.func99,Tryz.ntmps99;go_wp2_with fail;refine H1.out.mono ?_;rintro e w' ⟨rfl,rfl⟩;clear H1
 go_wp2_with (at_builtin;first
  |(refine yO rfl (.tmp 13) (.tmp 14) rfl zZ yJ O0.out S0.out (by omega) hz0 rfl rfl ?_
    intro v1 w1 ho1 hg1 ht1;rw[Nat.zero_add,yH] at ho1;have hz1:w.heap.size<=w1.heap.size:=by have:=hg1.size;omega
    have B1:=Lib.hid ((O0.out.after hg1 B0.out hz0 (Nat.le_refl _)).alloc hz1 (.cells #[.int .u8 (K:Int)] 5));have S1:=Lib.hid (show Sl (w1.alloc (.cells #[.int .u8 (K:Int)] 5)) (w1.heap.size+1) (some ⟨w1.heap.size,0,none⟩) 1 1 (fun _=>BitVec.ofNat 8 K) by rw[HI.out];exact Sl.one w1 _ _ _ (by omega))
    have O1:=Lib.hid (ho1.alloc (.cells #[.int .u8 (K:Int)] 5));have hb1:w.heap.size<=(w1.alloc (.cells #[.int .u8 (K:Int)] 5)).heap.size:=by simp;omega
    clear ho1 hg1 ht1 B0 S0 O0)
  |(refine yO rfl (.tmp 15) (.tmp 18) rfl zZ yJ O1.out S1.out (by omega) hb1 rfl rfl ?_;intro v2 w2 ho2 hg2 ht2))
 have B2:=Lib.hid (O1.out.after hg2 B1.out hb1 (Nat.le_refl _));have hz2:=hg2.size
 have O2:=Lib.hid (show Own w2 w.heap.size 5 v2 (N+0+1) (catF N b (encF n)) from ho2.congr fun i hi=>by
  unfold catF
  by_cases h:i<N
  ·rw[if_pos h,if_pos h]
  ·rw[if_neg h,if_neg h,show i-N=0 by omega,HK.out];rfl)
 have hz3:w.heap.size<=w2.heap.size:=by omega
 clear ho2 hg2 ht2 hz2 B1 S1 O1 hb1;go_loopw [7,8] (fun bv iv wr=>∃ r j:Nat,r+j=K/\iv=.int .i64 ((r:Int)-1)/\Own wr w.heap.size 5 bv (N+j+1) (catF N b (encF n))/\Below w.heap.size w wr/\w.heap.size<=wr.heap.size) (fun _ iv _=>(intOf iv+1).toNat)
 case atStart=>exact ⟨K,0,by omega,rfl,O2.out,B2.out,hz3⟩
 case round=>
  clear O2 B2 hz3;obtain ⟨r,j,hrj,rfl,ho,hbl,hz⟩:=hrel;obtain ⟨wo,rfl⟩:∃ wo:World,wo=wr:=⟨_,rfl⟩;have HOo:=Lib.hid ho;have HB:=Lib.hid hbl;clear ho hbl;rcases r with _|s
  ·have hd:decide ((0:Int)<=((0:Nat):Int)-1)=false:=by decide
   have hj:j=K:=by omega
   subst hj;go_wp2_with fail;exact bodyPost_ret (v:=.tuple #[u7,.int .i64 0]) (by simp[results,Tryz.results99,go_sem]) rfl ⟨_,rfl,by unfold encL;rw[<-HK.out];exact HOo.out,HB.out⟩
  ·have e1:((s+1:Nat):Int)-1=(s:Int):=by omega
   rw[e1];have hd:decide ((0:Int)<=(s:Int))=true:=by simp
   have B3:=Lib.hid (HB.out.alloc hz (.cells #[.int .u8 ((n:Int) / 2^(8*s) % 256)] 5));have S3:=Lib.hid (show Sl (wo.alloc (.cells #[.int .u8 ((n:Int) / 2^(8*s) % 256)] 5)) (wo.heap.size+1) (some ⟨wo.heap.size,0,none⟩) 1 1 (fun _=>BitVec.ofNat 8 (n / 256^s)) by rw[byt_9];exact Sl.one wo _ _ _ (by omega))
   have O3:=Lib.hid (HOo.out.alloc (.cells #[.int .u8 ((n:Int) / 2^(8*s) % 256)] 5));have hb3:w.heap.size<=(wo.alloc (.cells #[.int .u8 ((n:Int) / 2^(8*s) % 256)] 5)).heap.size:=by simp;omega
   clear HB HOo;go_wp2_with (at_builtin;refine yO rfl (.tmp 26) (.tmp 32) rfl zZ yJ O3.out S3.out (by omega) hb3 rfl rfl ?_;intro v4 w4 ho4 hg4 ht4)
   have hz4:=hg4.size;have B4:=Lib.hid (O3.out.after hg4 B3.out hb3 (Nat.le_refl _))
   have O4:=Lib.hid (show Own w4 w.heap.size 5 v4 (N+(j+1)+1) (catF N b (encF n)) from ho4.congr fun i hi=>by
    have:=enc_step n N j b (by rw[<-HK.out];omega) i hi
    rw[<-HK.out,show K-(j+1)=s by omega] at this
    exact this)
   have hz5:w.heap.size<=w4.heap.size:=by omega
   clear ho4 hg4 ht4 hz4 B3 S3 O3 hb3;go_roundw
   case rel=>exact ⟨s,j+1,by omega,rfl,O4.out,B4.out,hz5⟩
   case measure=>simp[intOf]
theorem rputt_any(N c T c1:Nat)(A A1:Option Addr)(b t:Bf)(w:World)(hs:Sl w w.heap.size A N c b)(ht:Sl w w.heap.size A1 T c1 t)(hN:N<=140737488351232)(hT:T<=4096):
  Calls Tryz.prog 98 #[.slice A N c,.slice A1 T c1] w fun e w'=>∃ v,e=.returned (.tuple #[v,.int .i64 0])/\Own w' w.heap.size 5 v (N+txL T) (catF N b (txF T t))/\Below w.heap.size w w':=by
 have hd:decide (4096<(T:Int))=false:=by simp;omega
 have H1:=Lib.hid (rput_any T N c A b w hs (by omega) (by omega))
 have HT:=Lib.hid ht;have hE:=encL_le T;clear hs ht;go_enter Tryz.func98,Tryz.ntmps98;go_wp2_with fail;refine H1.out.mono ?_;rintro e w2 ⟨v2,rfl,ho2,hb2⟩;have O2:=Lib.hid ho2;have B2:=Lib.hid hb2;have T2:=Lib.hid (HT.out.below B2.out);have hz2:=B2.out.size;clear H1 ho2 hb2;go_wp2_with (at_builtin;refine wpl_appW rfl (.tmp 18) (.tmp 19) rfl zZ yJ O2.out T2.out (by omega) hz2 rfl rfl ?_;intro v4 w4 ho4 hg4)
 rw[catF_assoc,Nat.add_assoc] at ho4;have B4:=O2.out.after hg4 B2.out hz2 (Nat.le_refl _);exact bodyPost_ret (v:=.tuple #[v4,.int .i64 0]) (by simp[results,Tryz.results98,go_sem]) rfl ⟨_,rfl,ho4,B4⟩
def sg(x:Nat):Int:=if x<9223372036854775808 then (x:Int) else (x:Int)-18446744073709551616
theorem sg_small{x:Nat}(h:x<9223372036854775808):sg x=x:=by unfold sg;rw[if_pos h]
theorem sg_bits(x:Nat)(h:x<18446744073709551616):(BitVec.ofInt 64 (sg x)).toNat=x:=by
 rw[BitVec.toNat_ofInt];unfold sg;split<;>omega
theorem sg_wrap(x:Nat)(h:x<18446744073709551616):IntKind.i64.wrap (x:Int)=sg x:=by
 rw[IntKind.wrap_i64];unfold sg;split<;>omega
theorem or_step(v d:Nat)(hv:v<72057594037927936)(hd:d<256):bits .or .i64 (sg (v*256)) (d:Int)=sg (v*256+d):=by
 show IntKind.i64.wrap ((BitVec.ofInt 64 (sg (v*256))|||BitVec.ofInt 64 (d:Int)).toNat:Int)=_
 rw[BitVec.toNat_or,sg_bits _ (by omega),Bits.ofInt_i64 d (by omega),Nat.mul_comm v 256,show (256:Nat)=2^8 from rfl,<-Nat.two_pow_add_eq_or_of_lt (by omega)]
 exact sg_wrap _ (by omega)
def vaE(k:Nat)(d:Bf):Nat:=if 0<k/\d 0=0#8 then 80 else if 9223372036854775808<=val d k then 80 else 0
def vaV(k:Nat)(d:Bf):Int:=if vaE k d=0 then (val d k:Int) else 0
theorem value_any(k c B:Nat)(A:Option Addr)(d:Bf)(w:World)(hs:Sl w B A k c d)(hk:k<=8):
  Calls Tryz.prog 238 #[.slice A k c] w fun e w'=>e=.returned (.tuple #[.int .i64 (vaV k d),.int .i64 (vaE k d:Nat)])/\w=w':=by
 have HS:=Lib.hid hs
 by_cases h0:k=0
 ·subst h0
  have hv:vaV 0 d=0:=rfl;have he:vaE 0 d=0:=rfl;rw[hv,he];have hdd:decide ((0:Int)<((0:Nat):Int))=false:=by decide
  clear hs hv he;go_enter Tryz.func238,Tryz.ntmps238;go_wp2_with fail;refine wp_loop_rounds 1 ?_;rw[rounds_succ];go_wp2_with fail;exact bodyPost_ret (v:=.tuple #[.int .i64 0,.int .i64 0]) (by simp[results,Tryz.results238,go_sem]) rfl ⟨rfl,rfl⟩
 ·have hdd:decide ((0:Int)<(k:Int))=true:=by simp;omega
  obtain ⟨g,o,rfl,hg,hcl⟩:=hs.at_ (by omega)
  have hc0:=hcl 0 (by omega)
  rw[Nat.add_zero] at hc0;have HC:=Lib.hid hcl;clear hs hcl
  by_cases hz:d 0=0#8
  ·have he:vaE k d=80:=by unfold vaE;rw[if_pos ⟨by omega,hz⟩]
   have hv:vaV k d=0:=by unfold vaV;rw[he,if_neg (by omega)]
   have hI:I (d 0)=0:=by rw[hz];rfl
   rw[hI] at hc0;rw[hv,he];clear hv he;go_enter Tryz.func238,Tryz.ntmps238;go_wp2_with fail;exact bodyPost_ret (v:=.tuple #[.int .i64 0,.int .i64 80]) (by simp[results,Tryz.results238,go_sem]) rfl ⟨rfl,rfl⟩
  ·have hI:(I (d 0)==0)=false:=by
    unfold I;have:(d 0).toNat≠0:=fun e=>hz (BitVec.eq_of_toNat_eq e)
    simp;omega
   have HE:=Lib.hid (show vaE k d=if 9223372036854775808<=val d k then 80 else 0 by unfold vaE;rw[if_neg (fun h=>hz h.2)])
   go_enter Tryz.func238,Tryz.ntmps238;go_wp2_with fail;clear hI hc0 hz;go_loopw [4,18] (fun nv iv wr=>∃ j:Nat,j<=k/\nv=.int .i64 (sg (val d j))/\iv=.int .i64 (j:Int)/\wr=w) (fun _ iv _=>k-(intOf iv).toNat)
   case atStart=>exact ⟨0,by omega,rfl,rfl,rfl⟩
   case round=>
    obtain ⟨j,hj,rfl,rfl,rfl⟩:=hrel
    by_cases hlt:j<k
    ·have hd:decide ((j:Int)<(k:Int))=true:=by simp;omega
     have hcj:=HC.out j hlt;have hv56:=val_u56 d j (by omega)
     have hst:=or_step (val d j) (d j).toNat hv56 (d j).isLt;rw[sg_small (show val d j<9223372036854775808 by omega)]
     obtain ⟨V,hV⟩:∃ V,V=val d j:=⟨_,rfl⟩;rw[<-hV] at hv56 hst ⊢;obtain ⟨D,hD⟩:∃ D,D=d j:=⟨_,rfl⟩;rw[<-hD] at hcj hst;have HV:=Lib.hid (show V*256+D.toNat=val d (j+1) by rw[hV,hD];rfl)
     clear hV hD;have hsh:wrap64 ((V:Int)*256)=sg (V*256):=by rw[<-sg_wrap (V*256) (by omega),IntWalk.i64_left];rfl
     have hsd:wrap64 (I D)=(D.toNat:Int):=by obtain ⟨b1,b2⟩:=I_bd D;rw[IntWalk.wrap64_in _ (by omega)];rfl
     have HR:=Lib.hid (show bits BinOp.or IntKind.i64 (wrap64 ((V:Int)*256)) (wrap64 (I D))=sg (val d (j+1)) by rw[hsh,hsd,hst,HV.out])
     clear hsh hsd hst;go_wp2_with fail;go_roundw
     case rel=>exact ⟨j+1,by omega,by rw[HR.out],rfl,trivial⟩
     case measure=>simp[intOf];omega
    ·have hjk:j=k:=by omega
     subst hjk;have hd:decide ((j:Int)<(j:Int))=false:=by simp
     have h64:=val_u64 d j hk
     by_cases hbig:9223372036854775808<=val d j
     ·have he:vaE j d=80:=by rw[HE.out,if_pos hbig]
      have hv:vaV j d=0:=by unfold vaV;rw[he,if_neg (by omega)]
      have HW:=Lib.hid (And.intro hv he);have hsn:decide (sg (val d j)<0)=true:=by simp only[decide_eq_true_eq];unfold sg;rw[if_neg (by omega)];omega
      clear hv he hbig h64;obtain ⟨S,hS⟩:∃ S,S=sg (val d j):=⟨_,rfl⟩;rw[<-hS] at hsn ⊢;clear hS;go_wp2_with fail;exact bodyPost_ret (v:=.tuple #[.int .i64 0,.int .i64 80]) (by simp[results,Tryz.results238,go_sem]) rfl ⟨by rw[HW.out.1,HW.out.2];rfl,rfl⟩
     ·have he:vaE j d=0:=by rw[HE.out,if_neg hbig]
      have hv:vaV j d=sg (val d j):=by unfold vaV;rw[he,if_pos rfl,sg_small (by omega)]
      have HW:=Lib.hid (And.intro hv he);have hsn:decide (sg (val d j)<0)=false:=by simp only[decide_eq_false_iff_not];rw[sg_small (by omega)];omega
      clear hv he hbig h64;obtain ⟨S,hS⟩:∃ S,S=sg (val d j):=⟨_,rfl⟩;rw[<-hS] at hsn ⊢;have HS2:=Lib.hid hS;clear hS;go_wp2_with fail;exact bodyPost_ret (v:=.tuple #[.int .i64 S,.int .i64 0]) (by simp[results,Tryz.results238,go_sem]) rfl ⟨by rw[HW.out.1,HW.out.2,HS2.out];rfl,rfl⟩
abbrev clT(X:Nat):Value:=.func (.func 236) #[] #[.pointer (some ⟨X,0,none⟩)]
abbrev clL(X:Nat):Value:=.func (.func 237) #[] #[.pointer (some ⟨X,0,none⟩)]
theorem box_cell1{w:World}{X:Nat}{v:Value}(hr:row w X=some #[v]):w.cell? ⟨X,0,none⟩=some v:=by rw[zC hr];rfl
theorem take_short(X n c k:Nat)(A:Option Addr)(w:World)(hr:row w X=some #[.slice A n c])(hk:n<k):
  Calls Tryz.prog 236 #[.int .i64 k,.pointer (some ⟨X,0,none⟩)] w fun e w'=>e=.returned (.tuple #[.slice none 0 0,.int .i64 3])/\w=w':=by
 have hc:=box_cell1 hr;have hd:decide ((n:Int)<(k:Int))=true:=by simp;omega
 clear hr;go_enter Tryz.func236,Tryz.ntmps236;go_wp2_with fail;exact bodyPost_ret (v:=.tuple #[.slice none 0 0,.int .i64 3]) (by simp[results,Tryz.results236,go_sem]) rfl ⟨rfl,rfl⟩
theorem take_any(X n c k:Nat)(A:Option Addr)(w:World)(hr:row w X=some #[.slice A n c])(hk:k<=n)(hnc:n<=c):
  Calls Tryz.prog 236 #[.int .i64 k,.pointer (some ⟨X,0,none⟩)] w fun e w'=>e=.returned (.tuple #[.slice A k c,.int .i64 0])/\w'=w.setRow X #[.slice (cutA A c k) (n-k) (c-k)]:=by
 have hc:=box_cell1 hr;have hfz:=zJ hr 0;have hd:decide ((n:Int)<(k:Int))=false:=by simp;omega
 have hup:=run_upto zZ u8_i A n c k (by omega)
 have hfr:=xE zZ u8_i A n c k hk;have HR:=Lib.hid hr;clear hr;go_enter Tryz.func236,Tryz.ntmps236;go_wp2_with fail;exact bodyPost_ret (v:=.tuple #[.slice A k c,.int .i64 0]) (by simp[results,Tryz.results236,go_sem]) rfl ⟨rfl,by rw[zL HR.out];rfl⟩
theorem left_any(X n c:Nat)(A:Option Addr)(f:Bf)(w:World)(hr:row w X=some #[.slice A n c])(hs:Sl w w.heap.size A n c f)(hn:n<=140737488355328):
  Calls Tryz.prog 237 #[.pointer (some ⟨X,0,none⟩)] w fun e w'=>∃ v,e=.returned v/\Own w' w.heap.size 5 v n f/\Below w.heap.size w w':=by
 have hc:=box_cell1 hr;have H1:=Lib.hid (clone_any n c A f w hs hn);clear hr hs;go_enter Tryz.func237,Tryz.ntmps237;go_wp2_with fail;refine H1.out.mono ?_;rintro e w1 ⟨v1,rfl,ho1,hb1⟩;have O1:=Lib.hid ho1;have B1:=Lib.hid hb1;clear H1 ho1 hb1;go_wp2_with fail;go_ret;exact ⟨_,rfl,O1.out,B1.out⟩
theorem reader_any(n c:Nat)(A:Option Addr)(w:World):
  Calls Tryz.prog 194 #[.slice A n c] w fun e w'=>e=.returned (.tuple #[clT w.heap.size,clL w.heap.size])/\w'=w.alloc (.cells #[.slice A n c] 22):=by
 go_enter Tryz.func194,Tryz.ntmps194;go_wp2_with fail;exact bodyPost_ret (v:=.tuple #[clT w.heap.size,clL w.heap.size]) (by simp[results,Tryz.results194,go_sem]) rfl ⟨rfl,rfl⟩
theorem sl_put{w w':World}{X B n c:Nat}{A:Option Addr}{f:Bf}{z:Array Value}(hp:Put X z w w')(hs:Sl w B A n c f)(hB:B<=X)(hX:X<w.heap.size):Sl w' B A n c f:=hp.sl hs (by omega) (hs.off hB)
theorem tk_va{n:Nat}{f:Bf}(h0:0<n)(h8:(f 0).toNat<=8)(hk:(f 0).toNat<n):tkE n f=vaE (f 0).toNat (offF f 1):=by
 unfold tkE vaE;rw[if_neg (by omega),if_neg (by omega),if_neg (by omega)]
 rfl
theorem number_any(X B n c:Nat)(A:Option Addr)(f:Bf)(w:World)(hr:row w X=some #[.slice A n c])(hs:Sl w B A n c f)(hB:B<=X):
  Calls Tryz.prog 197 #[clT X] w fun e w'=>
   (tkE n f≠0/\e=.returned (.tuple #[.int .i64 0,.int .i64 (tkE n f:Nat)])/\Below X w w')\/
   (tkE n f=0/\e=.returned (.tuple #[.int .i64 (tkV f:Nat),.int .i64 0])/\∃ A' c',Put X #[.slice A' (n-tkL f) c'] w w'/\Sl w' B A' (n-tkL f) c' (offF f (tkL f))):=by
 have hX:=zK hr;have HR:=Lib.hid hr;have HS:=Lib.hid hs;have hnc:=hs.le;clear hr hs
 by_cases h0:n=0
 ·subst h0
  have H1:=take_short X 0 c 1 A w HR.out (by omega)
  rw[show ((1:Nat):Int)=1 from rfl] at H1
  have H1':=Lib.hid H1;have HE:=Lib.hid (show tkE 0 f=3 from rfl)
  clear H1;go_enter Tryz.func197,Tryz.ntmps197;go_wp2_with fail;refine H1'.out.mono ?_;rintro e w1 ⟨rfl,rfl⟩;clear H1';go_wp2_with fail;exact bodyPost_ret (v:=.tuple #[.int .i64 0,.int .i64 3]) (by simp[results,Tryz.results197,go_sem]) rfl (.inl ⟨by rw[HE.out];omega,by rw[HE.out];rfl,Below.refl _ _⟩)
 ·have H1:=take_any X n c 1 A w HR.out (by omega) hnc
  rw[show ((1:Nat):Int)=1 from rfl] at H1
  have H1':=Lib.hid H1;clear H1;go_enter Tryz.func197,Tryz.ntmps197;go_wp2_with fail;refine H1'.out.mono ?_;rintro e w1 ⟨rfl,hw1⟩;clear H1';have P1:=Lib.hid (show Put X #[.slice (cutA A c 1) (n-1) (c-1)] w w1 by rw[hw1];exact Put.of (Below.refl _ _) hX _)
  clear hw1;have S1:=Lib.hid (sl_put P1.out HS.out hB hX);have R1:=Lib.hid (P1.out.row HR.out);have hX1:X<w1.heap.size:=zK R1.out;obtain ⟨g,o,hA,hg,hcl⟩:=S1.out.at_ (by omega)
  have hc0:=hcl 0 (by omega)
  rw[Nat.add_zero] at hc0;obtain ⟨b0,b1⟩:=I_bd (f 0);obtain ⟨F,hF⟩:∃ F,F=f 0:=⟨_,rfl⟩;rw[<-hF] at hc0 b0 b1;have HF:=Lib.hid hF;have hIF:I F=(F.toNat:Int):=rfl;clear hcl hF
  by_cases h8:8<F.toNat
  ·have hd8:decide (8<I F)=true:=by simp only[decide_eq_true_eq];omega
   have HE:=Lib.hid (show tkE n f=80 by unfold tkE;rw[if_neg h0,if_pos (by rw[<-HF.out];exact h8)])
   subst hA;clear hIF;go_wp2_with fail;exact bodyPost_ret (v:=.tuple #[.int .i64 0,.int .i64 80]) (by simp[results,Tryz.results197,go_sem]) rfl (.inl ⟨by rw[HE.out];omega,by rw[HE.out];rfl,P1.out.low (Nat.le_refl _) (by omega)⟩)
  ·have hd8:decide (8<I F)=false:=by simp only[decide_eq_false_iff_not];omega
   have hIK:=hIF;rw[hIF] at hd8 hc0;subst hA;clear hIF b0 b1 hIK
   by_cases hk:n<=F.toNat
   ·have HE:=Lib.hid (show tkE n f=3 by unfold tkE;rw[if_neg h0,if_neg (by rw[<-HF.out];exact h8),if_pos (by rw[<-HF.out];exact hk)])
    have H2:=Lib.hid (take_short X (n-1) (c-1) F.toNat _ w1 R1.out (by omega))
    go_wp2_with fail;refine H2.out.mono ?_;rintro e w2 ⟨rfl,rfl⟩;clear H2;go_wp2_with fail;exact bodyPost_ret (v:=.tuple #[.int .i64 0,.int .i64 3]) (by simp[results,Tryz.results197,go_sem]) rfl (.inl ⟨by rw[HE.out];omega,by rw[HE.out];rfl,P1.out.low (Nat.le_refl _) (by omega)⟩)
   ·have H2:=Lib.hid (take_any X (n-1) (c-1) F.toNat _ w1 R1.out (by omega) (by omega))
    have L1:=S1.out.from_ 1 (by omega)
    have HE:=Lib.hid (show tkE n f=vaE F.toNat (offF f 1) by rw[HF.out];exact tk_va (by omega) (by rw[<-HF.out];omega) (by rw[<-HF.out];omega))
    have HV:=Lib.hid (show tkV f=val (offF f 1) F.toNat by unfold tkV;rw[HF.out])
    have HL:=Lib.hid (show tkL f=F.toNat+1 by unfold tkL;rw[HF.out])
    go_wp2_with fail;refine H2.out.mono ?_;rintro e w2 ⟨rfl,hw2⟩;clear H2;have P2:=Lib.hid (P1.out.then HR.out (show Put X _ w1 w2 by rw[hw2];exact Put.of (Below.refl _ _) hX1 _))
    have L2:=Lib.hid (show Sl w2 B _ (n-1) (c-1) (offF f 1) from sl_put (show Put X _ w1 w2 by rw[hw2];exact Put.of (Below.refl _ _) hX1 _) L1 hB hX1)
    have H3:=Lib.hid (value_any F.toNat (c-1) B _ (offF f 1) w2 (L2.out.upto F.toNat (by omega)) (by omega))
    clear hw2 L1;go_wp2_with fail;refine H3.out.mono ?_;rintro e w3 ⟨rfl,rfl⟩;clear H3;have L3:=Lib.hid (L2.out.from_ F.toNat (by omega))
    go_wp2_with fail;refine bodyPost_ret (v:=.tuple #[.int .i64 (vaV F.toNat (offF f 1)),.int .i64 (vaE F.toNat (offF f 1):Nat)]) (by simp[results,Tryz.results197,go_sem]) rfl ?_
    by_cases hz:tkE n f=0
    ·have hp2:=P2.out
     have l3:=L3.out;rw[show n-1-F.toNat=n-tkL f by rw[HL.out];omega] at hp2 l3
     refine .inr ⟨hz,?_,_,_,hp2,l3.congr fun i hi=>?_⟩
     ·rw[HV.out]
      have hz2:=hz;rw[HE.out] at hz2;unfold vaV;rw[hz2,if_pos rfl];rfl
     ·rw[HL.out]
      unfold offF;rw[show 1+(F.toNat+i)=F.toNat+1+i by omega]
    ·refine .inl ⟨hz,?_,P2.out.low (Nat.le_refl _) (by omega)⟩
     have hz2:=hz;rw[HE.out] at hz2;unfold vaV;rw[if_neg hz2,HE.out]
def upP(X B n:Nat)(m:Int)(f:Bf)(w:World)(e:Ending)(w':World):Prop:=
 (tkE n f≠0/\e=.returned (.tuple #[.int .i64 0,.int .i64 (tkE n f:Nat)])/\Below X w w')\/
 (tkE n f=0/\m<tkV f/\e=.returned (.tuple #[.int .i64 0,.int .i64 2])/\Below X w w')\/
 (tkE n f=0/\¬ m<tkV f/\e=.returned (.tuple #[.int .i64 (tkV f:Nat),.int .i64 0])/\∃ A' c',Put X #[.slice A' (n-tkL f) c'] w w'/\Sl w' B A' (n-tkL f) c' (offF f (tkL f)))
theorem upto_any(X B n c:Nat)(m:Int)(A:Option Addr)(f:Bf)(w:World)(hr:row w X=some #[.slice A n c])(hs:Sl w B A n c f)(hB:B<=X):
  Calls Tryz.prog 195 #[clT X,.int .i64 m] w (upP X B n m f w):=by
 have hX:=zK hr;have H1:=Lib.hid (number_any X B n c A f w hr hs hB);clear hr hs;go_enter Tryz.func195,Tryz.ntmps195;go_wp2_with fail;refine H1.out.mono ?_;rintro e w1 (⟨hz,rfl,hb⟩|⟨hz,rfl,A',c',hp,hs'⟩)
 ·have HZ:=Lib.hid hz
  have HB:=Lib.hid hb;clear H1 hb hz;obtain ⟨E,hE⟩:∃ E,E=tkE n f:=⟨_,rfl⟩;have hne:((E:Int)==0)=false:=by have:=HZ.out;rw[<-hE] at this;simp;omega
  rw[<-hE];have HE:=Lib.hid hE;clear hE;go_wp2_with fail;exact bodyPost_ret (v:=.tuple #[.int .i64 0,.int .i64 E]) (by simp[results,Tryz.results195,go_sem]) rfl (.inl ⟨HZ.out,by rw[HE.out],HB.out⟩)
 ·have hb:=hp.low (Nat.le_refl _) (by omega)
  have HP:=Lib.hid (And.intro hp hs');have HB:=Lib.hid hb;have HZ:=Lib.hid hz;clear H1 hp hs' hb hz;obtain ⟨V,hV⟩:∃ V,V=tkV f:=⟨_,rfl⟩;rw[<-hV];have HV:=Lib.hid hV;clear hV
  by_cases hm:m<(V:Int)
  ·have hd:decide (m<(V:Int))=true:=by simp;omega
   have HM:=Lib.hid (show m<(tkV f:Int) by rw[<-HV.out];exact hm)
   go_wp2_with fail;exact bodyPost_ret (v:=.tuple #[.int .i64 0,.int .i64 2]) (by simp[results,Tryz.results195,go_sem]) rfl (.inr (.inl ⟨HZ.out,HM.out,rfl,HB.out⟩))
  ·have hd:decide (m<(V:Int))=false:=by simp;omega
   have HM:=Lib.hid (show ¬ m<(tkV f:Int) by rw[<-HV.out];exact hm)
   go_wp2_with fail;exact bodyPost_ret (v:=.tuple #[.int .i64 V,.int .i64 0]) (by simp[results,Tryz.results195,go_sem]) rfl (.inr (.inr ⟨HZ.out,Int.not_lt.2 HM.out,by rw[HV.out],A',c',HP.out.1,HP.out.2⟩))
def taP(n:Nat)(f:Bf)(w:World)(e:Ending)(w':World):Prop:=
 (tkE n f≠0/\e=.returned (.tuple #[.int .i64 0,.slice none 0 0,.int .i64 (tkE n f:Nat)])/\Below w.heap.size w w')\/
 (tkE n f=0/\∃ v,e=.returned (.tuple #[.int .i64 (tkV f:Nat),v,.int .i64 0])/\Own w' w.heap.size 5 v (n-tkL f) (offF f (tkL f))/\Below w.heap.size w w')
theorem take_num(n c:Nat)(A:Option Addr)(f:Bf)(w:World)(hs:Sl w w.heap.size A n c f)(hn:n<=140737488355328):
  Calls Tryz.prog 157 #[.slice A n c] w (taP n f w):=by
 have H0:=Lib.hid (reader_any n c A w);have HS:=Lib.hid hs;clear hs;go_enter Tryz.func157,Tryz.ntmps157;go_wp2_with fail;refine H0.out.mono ?_;rintro e w1 ⟨rfl,hw1⟩;have r1:row w1 w.heap.size=some #[.slice A n c]:=by rw[hw1];exact zA _ _ _ _ rfl
 have B1:Below w.heap.size w w1:=by rw[hw1];exact (Below.refl _ _).alloc (Nat.le_refl _) _
 clear hw1 H0;have hX:=zK r1;have H1:=Lib.hid (number_any w.heap.size w.heap.size n c A f w1 r1 (HS.out.below B1) (Nat.le_refl _));have HB1:=Lib.hid B1;have R1:=Lib.hid r1;clear r1 B1;go_wp2_with fail;refine H1.out.mono ?_;rintro e w2 (⟨hz,rfl,hb⟩|⟨hz,rfl,A',c',hp,hs'⟩)
 ·have HZ:=Lib.hid hz
  have HB:=Lib.hid (HB1.out.trans hb);clear H1 hb hz;obtain ⟨E,hE⟩:∃ E,E=tkE n f:=⟨_,rfl⟩;have hne:((E:Int)==0)=false:=by have:=HZ.out;rw[<-hE] at this;simp;omega
  rw[<-hE];have HE:=Lib.hid hE;clear hE;go_wp2_with fail;exact bodyPost_ret (v:=.tuple #[.int .i64 0,.slice none 0 0,.int .i64 E]) (by simp[results,Tryz.results157,go_sem]) rfl (.inl ⟨HZ.out,by rw[HE.out],HB.out⟩)
 ·have HB:=Lib.hid (HB1.out.trans (hp.low (Nat.le_refl _) (by omega)))
  have HZ:=Lib.hid hz;have R2:=hp.row R1.out;have hX2:=zK R2;have H2:=Lib.hid (left_any w.heap.size (n-tkL f) c' A' (offF f (tkL f)) w2 R2 (hs'.more (Nat.le_of_lt hX2)) (by omega))
  clear H1 hp hs' hz R2;go_wp2_with fail;refine H2.out.mono ?_;rintro e w3 ⟨v3,rfl,ho3,hb3⟩;have O3:=Lib.hid (ho3.base (Nat.le_of_lt hX2));have B3:=Lib.hid (onto HB.out (Nat.le_of_lt hX2) hb3);clear H2 ho3 hb3;go_wp2_with fail;exact bodyPost_ret (v:=.tuple #[.int .i64 (tkV f:Nat),v3,.int .i64 0]) (by simp[results,Tryz.results157,go_sem]) rfl (.inr ⟨HZ.out,_,rfl,O3.out,B3.out⟩)
def ttE(n:Nat)(m:Int)(f:Bf):Nat:=if tkE n f≠0 then tkE n f else if m<tkV f then 2 else if n-tkL f<tkV f then 3 else 0
def ttP(n:Nat)(m:Int)(f:Bf)(w:World)(e:Ending)(w':World):Prop:=
 (ttE n m f≠0/\e=.returned (.tuple #[.slice none 0 0,.slice none 0 0,.int .i64 (ttE n m f:Nat)])/\Below w.heap.size w w')\/
 (ttE n m f=0/\∃ u v,e=.returned (.tuple #[u,v,.int .i64 0])/\Own w' w.heap.size 5 u (tkV f) (offF f (tkL f))/\Own w' w.heap.size 5 v (n-tkL f-tkV f) (offF f (tkL f+tkV f))/\Below w.heap.size w w')
theorem yY(f:Bf)(a b:Nat):offF (offF f a) b=offF f (a+b):=by funext i;unfold offF;rw[Nat.add_assoc]
theorem taket_any(n c:Nat)(m:Int)(A:Option Addr)(f:Bf)(w:World)(hs:Sl w w.heap.size A n c f)(hn:n<=140737488355328):
  Calls Tryz.prog 155 #[.slice A n c,.int .i64 m] w (ttP n m f w):=by
 have H0:=Lib.hid (reader_any n c A w);have HS:=Lib.hid hs;clear hs;go_enter Tryz.func155,Tryz.ntmps155;go_wp2_with fail;refine H0.out.mono ?_;rintro e w1 ⟨rfl,hw1⟩;have r1:row w1 w.heap.size=some #[.slice A n c]:=by rw[hw1];exact zA _ _ _ _ rfl
 have B1:Below w.heap.size w w1:=by rw[hw1];exact (Below.refl _ _).alloc (Nat.le_refl _) _
 clear hw1 H0;have hX:=zK r1;have H1:=Lib.hid (upto_any w.heap.size w.heap.size n c m A f w1 r1 (HS.out.below B1) (Nat.le_refl _));have HB1:=Lib.hid B1;have R1:=Lib.hid r1;clear r1 B1;go_wp2_with fail;refine H1.out.mono ?_;rintro e w2 (⟨hz,rfl,hb⟩|⟨hz,hm,rfl,hb⟩|⟨hz,hm,rfl,A',c',hp,hs'⟩)
 ·have HE:=Lib.hid (show ttE n m f=tkE n f by unfold ttE;rw[if_pos hz])
  have HZ:=Lib.hid hz;have HB:=Lib.hid (HB1.out.trans hb);clear H1 hb hz;obtain ⟨E,hE⟩:∃ E,E=tkE n f:=⟨_,rfl⟩;have hne:((E:Int)==0)=false:=by have:=HZ.out;rw[<-hE] at this;simp;omega
  rw[<-hE];have HE2:=Lib.hid hE;clear hE;go_wp2_with fail;exact bodyPost_ret (v:=.tuple #[.slice none 0 0,.slice none 0 0,.int .i64 E]) (by simp[results,Tryz.results155,go_sem]) rfl (.inl ⟨by rw[HE.out];exact HZ.out,by rw[HE.out,HE2.out],HB.out⟩)
 ·have HE:=Lib.hid (show ttE n m f=2 by unfold ttE;rw[if_neg (fun h=>h hz),if_pos hm])
  have HB:=Lib.hid (HB1.out.trans hb);clear H1 hb hz hm;go_wp2_with fail;exact bodyPost_ret (v:=.tuple #[.slice none 0 0,.slice none 0 0,.int .i64 2]) (by simp[results,Tryz.results155,go_sem]) rfl (.inl ⟨by rw[HE.out];omega,by rw[HE.out];rfl,HB.out⟩)
 ·have HB:=Lib.hid (HB1.out.trans (hp.low (Nat.le_refl _) (by omega)))
  have HZ:=Lib.hid hz;have HM:=Lib.hid hm;have R2:=Lib.hid (hp.row R1.out);have hX2:=zK R2.out;have S2:=Lib.hid hs';have hnc:=hs'.le;obtain ⟨V,hV⟩:∃ V,V=tkV f:=⟨_,rfl⟩;rw[<-hV];have HV:=Lib.hid hV;clear H1 hp hs' hz hm hV
  by_cases hsh:n-tkL f<V
  ·have HE:=Lib.hid (show ttE n m f=3 by unfold ttE;rw[if_neg (fun h=>h HZ.out),if_neg HM.out,if_pos (by rw[<-HV.out];exact hsh)])
   have H2:=Lib.hid (take_short w.heap.size (n-tkL f) c' V A' w2 R2.out hsh);go_wp2_with fail;refine H2.out.mono ?_;rintro e w3 ⟨rfl,rfl⟩;clear H2;go_wp2_with fail;exact bodyPost_ret (v:=.tuple #[.slice none 0 0,.slice none 0 0,.int .i64 3]) (by simp[results,Tryz.results155,go_sem]) rfl (.inl ⟨by rw[HE.out];omega,by rw[HE.out];rfl,HB.out⟩)
  ·have HE:=Lib.hid (show ttE n m f=0 by unfold ttE;rw[if_neg (fun h=>h HZ.out),if_neg HM.out,if_neg (by rw[<-HV.out];exact hsh)])
   have H2:=Lib.hid (take_any w.heap.size (n-tkL f) c' V A' w2 R2.out (by omega) hnc)
   go_wp2_with fail;refine H2.out.mono ?_;rintro e w3 ⟨rfl,hw3⟩;have hp3:Put w.heap.size #[.slice (cutA A' c' V) (n-tkL f-V) (c'-V)] w2 w3:=by rw[hw3];exact Put.of (Below.refl _ _) hX2 _
   have R3:=Lib.hid (hp3.row R2.out);have hX3:=zK R3.out;have S3:=Lib.hid (sl_put hp3 S2.out (Nat.le_refl _) hX2);have B3:=Lib.hid (HB.out.trans (hp3.low (Nat.le_refl _) (Nat.le_of_lt hX2)));clear H2 hw3 hp3;have H3:=Lib.hid (clone_any V c' A' (offF f (tkL f)) w3 ((S3.out.upto V (by omega)).more (Nat.le_of_lt hX3)) (by omega))
   go_wp2_with fail;refine H3.out.mono ?_;rintro e w4 ⟨v4,rfl,ho4,hb4⟩;have O4:=Lib.hid ho4;have B4:=Lib.hid (onto B3.out (Nat.le_of_lt hX3) hb4);have R4:=Lib.hid (zD hb4 R3.out);have hX4:=zK R4.out;have S4:=Lib.hid (((S3.out.from_ V (by omega)).more (Nat.le_of_lt hX3)).below hb4)
   have hz4:=hb4.size;clear H3 ho4 hb4;have H4:=Lib.hid (left_any w.heap.size (n-tkL f-V) (c'-V) _ _ w4 R4.out (S4.out.more hz4) (by omega))
   go_wp2_with fail;refine H4.out.mono ?_;rintro e w5 ⟨v5,rfl,ho5,hb5⟩;have O5:=Lib.hid (ho5.base (Nat.le_of_lt hX4));have O45:=Lib.hid ((O4.out.base (Nat.le_of_lt hX3)).below hb5 (Nat.le_refl _));have B5:=Lib.hid (onto B4.out (Nat.le_of_lt hX4) hb5);clear H4 ho5 hb5;go_wp2_with fail;exact bodyPost_ret (v:=.tuple #[v4,v5,.int .i64 0]) (by simp[results,Tryz.results155,go_sem]) rfl (.inr ⟨HE.out,_,_,rfl,by rw[<-HV.out];exact O45.out,by rw[<-HV.out,<-yY];exact O5.out,B5.out⟩)
theorem rtake_num(n c:Nat)(A:Option Addr)(f:Bf)(w:World)(hs:Sl w w.heap.size A n c f)(hn:n<=140737488355328):
  Calls Tryz.prog 119 #[.slice A n c] w (taP n f w):=by
 have HS:=Lib.hid hs;have hnc:=hs.le
 by_cases h0:n=0
 ·subst h0
  have HE:=Lib.hid (show tkE 0 f=3 from rfl)
  clear hs;go_enter Tryz.func119,Tryz.ntmps119;go_wp2_with fail;exact bodyPost_ret (v:=.tuple #[.int .i64 0,.slice none 0 0,.int .i64 3]) (by simp[results,Tryz.results119,go_sem]) rfl (.inl ⟨by rw[HE.out];omega,by rw[HE.out];rfl,Below.refl _ _⟩)
 ·obtain ⟨g,o,rfl,hg,hcl⟩:=hs.at_ (by omega)
  have hc0:=hcl 0 (by omega)
  rw[Nat.add_zero] at hc0;have HC:=Lib.hid hcl;obtain ⟨F,hF⟩:∃ F,F=f 0:=⟨_,rfl⟩;rw[<-hF] at hc0;have hIF:I F=(F.toNat:Int):=rfl;rw[hIF] at hc0;have HF:=Lib.hid hF;have hlt:=F.isLt;have hne:((n:Int)==0)=false:=by simp;omega
  clear hs hcl hF hIF;obtain ⟨K,hK⟩:∃ K,K=F.toNat:=⟨_,rfl⟩;rw[<-hK] at hc0 hlt;have HK:=Lib.hid (show (f 0).toNat=K by rw[hK,HF.out])
  clear hK HF
  by_cases h8:8<K
  ·have hd8:decide (8<(K:Int))=true:=by simp;omega
   have HE:=Lib.hid (show tkE n f=80 by unfold tkE;rw[if_neg h0,if_pos (by rw[HK.out];exact h8)])
   go_enter Tryz.func119,Tryz.ntmps119;go_wp2_with fail;exact bodyPost_ret (v:=.tuple #[.int .i64 0,.slice none 0 0,.int .i64 80]) (by simp[results,Tryz.results119,go_sem]) rfl (.inl ⟨by rw[HE.out];omega,by rw[HE.out];rfl,Below.refl _ _⟩)
  ·have hd8:decide (8<(K:Int))=false:=by simp;omega
   by_cases hk:n<=K
   ·have hdk:decide ((n:Int)<=(K:Int))=true:=by simp;omega
    have HE:=Lib.hid (show tkE n f=3 by unfold tkE;rw[if_neg h0,if_neg (by rw[HK.out];exact h8),if_pos (by rw[HK.out];exact hk)])
    go_enter Tryz.func119,Tryz.ntmps119;go_wp2_with fail;exact bodyPost_ret (v:=.tuple #[.int .i64 0,.slice none 0 0,.int .i64 3]) (by simp[results,Tryz.results119,go_sem]) rfl (.inl ⟨by rw[HE.out];omega,by rw[HE.out];rfl,Below.refl _ _⟩)
   ·have hdk:decide ((n:Int)<=(K:Int))=false:=by simp;omega
    have HE:=Lib.hid (show tkE n f=vaE K (offF f 1) by rw[<-HK.out];exact tk_va (by omega) (by rw[HK.out];omega) (by rw[HK.out];omega))
    have HV:=Lib.hid (show tkV f=val (offF f 1) K by unfold tkV;rw[HK.out])
    have HL:=Lib.hid (show tkL f=K+1 by unfold tkL;rw[HK.out])
    by_cases hK0:K=0
    ·subst hK0
     have B1:=Lib.hid ((Below.refl w.heap.size w).alloc (Nat.le_refl _) (.cells #[] 5));have O1:=Lib.hid (show Own (w.alloc (.cells #[] 5)) w.heap.size 5 (.slice (some ⟨w.heap.size,0,none⟩) 0 0) 0 f from Own.empty w w.heap.size 5 _ (Nat.le_refl _))
     have S1:=Lib.hid ((HS.out.from_ 1 (by omega)).below B1.out)
     have hz1:w.heap.size<=(w.alloc (.cells #[] 5)).heap.size:=by simp
     have hfr:=xE zZ u8_i (some (⟨g,o,none⟩:Addr)) n c 1 (by omega)
     rw[show ((1:Nat):Int)=1 from rfl] at hfr
     have hk8:((0:Nat):Int)+1=1:=rfl;go_enter Tryz.func119,Tryz.ntmps119;go_wp2_with fail;refine wp_loop_rounds 1 ?_;rw[rounds_succ];go_wp2_with (at_builtin;refine yO rfl (.tmp 53) (.tmp 57) rfl zZ yJ O1.out S1.out (by omega) hz1 rfl rfl ?_;intro v2 w2 ho2 hg2 ht2)
     rw[Nat.zero_add,yH] at ho2;have B2:=O1.out.after hg2 B1.out hz1 (Nat.le_refl _);exact bodyPost_ret (v:=.tuple #[.int .i64 0,v2,.int .i64 0]) (by simp[results,Tryz.results119,go_sem]) rfl (.inr ⟨by rw[HE.out];rfl,v2,by rw[HV.out];rfl,by rw[HL.out];exact ho2,B2⟩)
    ·have hc1:=HC.out 1 (by omega)
     have hdp:decide ((0:Int)<(K:Int))=true:=by simp;omega
     obtain ⟨D1,hD1⟩:∃ D1,D1=f 1:=⟨_,rfl⟩;rw[<-hD1] at hc1;have hID:I D1=(D1.toNat:Int):=rfl;rw[hID] at hc1;have hDlt:=D1.isLt;have H1:=Lib.hid hD1;clear hD1 hID
     by_cases hz:D1.toNat=0
     ·have HE2:=Lib.hid (show tkE n f=80 by
       rw[HE.out];unfold vaE
       rw[if_pos ⟨by omega,by unfold offF;rw[show 1+0=1 from rfl,<-H1.out];exact BitVec.eq_of_toNat_eq hz⟩])
      rw[hz] at hc1;go_enter Tryz.func119,Tryz.ntmps119;go_wp2_with fail;exact bodyPost_ret (v:=.tuple #[.int .i64 0,.slice none 0 0,.int .i64 80]) (by simp[results,Tryz.results119,go_sem]) rfl (.inl ⟨by rw[HE2.out];omega,by rw[HE2.out];rfl,Below.refl _ _⟩)
     ·have hz0:((D1.toNat:Int)==0)=false:=by simp;omega
      have HE1:=Lib.hid (show tkE n f=if 9223372036854775808<=val (offF f 1) K then 80 else 0 by
       rw[HE.out];unfold vaE
       rw[if_neg (fun h=>hz (by rw[H1.out];have:=h.2;unfold offF at this;rw[show 1+0=1 from rfl] at this;rw[this];rfl))])
      by_cases h9:K=8/\127<D1.toNat
      ·obtain ⟨rfl,h127⟩:=h9
       have hd9:decide (127<(D1.toNat:Int))=true:=by simp;omega
       have HE2:=Lib.hid (show tkE n f=80 by
        have h1:=val_cut (offF f 1) 1 7;have h2:val (offF f 1) 1=D1.toNat:=by simp only[val];unfold offF;rw[show 1+0=1 from rfl,<-H1.out];omega
        rw[h2,show (256:Nat)^7=72057594037927936 from by decide] at h1
        rw[HE1.out,if_pos (by show 9223372036854775808<=val (offF f 1) (1+7);omega)])
       go_enter Tryz.func119,Tryz.ntmps119;go_wp2_with fail;exact bodyPost_ret (v:=.tuple #[.int .i64 0,.slice none 0 0,.int .i64 80]) (by simp[results,Tryz.results119,go_sem]) rfl (.inl ⟨by rw[HE2.out];omega,by rw[HE2.out];rfl,Below.refl _ _⟩)
      ·have HSM:=Lib.hid (show val (offF f 1) K<9223372036854775808 by
        by_cases hK8:K=8
        ·subst hK8
         have h1:=val_cut (offF f 1) 1 7;have h2:val (offF f 1) 1=D1.toNat:=by simp only[val];unfold offF;rw[show 1+0=1 from rfl,<-H1.out];omega
         rw[h2,show (256:Nat)^7=72057594037927936 from by decide] at h1
         show val (offF f 1) (1+7)<9223372036854775808;omega
        ·have:=val_u56 (offF f 1) K (by omega)
         omega)
       have HE2:=Lib.hid (show tkE n f=0 by rw[HE1.out,if_neg (by have:=HSM.out;omega)])
       go_enter Tryz.func119,Tryz.ntmps119
       by_cases hK8:K=8
       ·subst hK8
        have hd9:decide (127<(D1.toNat:Int))=false:=by simp;omega
        go_wp2_with fail;have B1:=Lib.hid ((Below.refl w.heap.size w).alloc (Nat.le_refl _) (.cells #[] 5));have O1:=Lib.hid (show Own (w.alloc (.cells #[] 5)) w.heap.size 5 (.slice (some ⟨w.heap.size,0,none⟩) 0 0) 0 f from Own.empty w w.heap.size 5 _ (Nat.le_refl _))
        have S1:=Lib.hid ((HS.out.from_ (8+1) (by omega)).below B1.out)
        have hz1:w.heap.size<=(w.alloc (.cells #[] 5)).heap.size:=by simp
        have HFR:=Lib.hid (xE zZ u8_i (some (⟨g,o,none⟩:Addr)) n c (8+1) (by omega))
        clear hc1 hz0 hDlt hdp hne hd8 hdk hc0 h9;go_loopw [6,7] (fun nv iv wr=>∃ j:Nat,j<=8/\nv=.int .i64 (sg (val (offF f 1) j))/\iv=.int .i64 ((j+1:Nat):Int)/\wr=w) (fun _ iv _=>8+1-(intOf iv).toNat)
        case atStart=>exact ⟨0,by omega,rfl,rfl,rfl⟩
        case round=>
         obtain ⟨j,hj,rfl,rfl,rfl⟩:=hrel
         by_cases hlt2:j<8
         ·have hd:decide (((j+1:Nat):Int)<=8)=true:=by simp;omega
          have hcj:=HC.out (j+1) (by omega)
          have hv56:=val_u56 (offF f 1) j (by omega)
          have hst:=or_step (val (offF f 1) j) (offF f 1 j).toNat hv56 (offF f 1 j).isLt;rw[sg_small (show val (offF f 1) j<9223372036854775808 by omega)]
          rw[show f (j+1)=offF f 1 j by unfold offF;rw[Nat.add_comm]] at hcj
          obtain ⟨V,hV⟩:∃ V,V=val (offF f 1) j:=⟨_,rfl⟩;rw[<-hV] at hv56 hst ⊢;obtain ⟨D,hD⟩:∃ D,D=offF f 1 j:=⟨_,rfl⟩;rw[<-hD] at hcj hst;have HV2:=Lib.hid (show V*256+D.toNat=val (offF f 1) (j+1) by rw[hV,hD];rfl)
          clear hV hD;have hsh:wrap64 ((V:Int)*256)=sg (V*256):=by rw[<-sg_wrap (V*256) (by omega),IntWalk.i64_left];rfl
          have hsd:wrap64 (I D)=(D.toNat:Int):=by obtain ⟨b1,b2⟩:=I_bd D;rw[IntWalk.wrap64_in _ (by omega)];rfl
          have HR:=Lib.hid (show bits BinOp.or IntKind.i64 (wrap64 ((V:Int)*256)) (wrap64 (I D))=sg (val (offF f 1) (j+1)) by rw[hsh,hsd,hst,HV2.out])
          clear hsh hsd hst;go_wp2_with fail;go_roundw
          case rel=>exact ⟨j+1,by omega,by rw[HR.out],rfl,trivial⟩
          case measure=>simp[intOf];omega
         ·have hjk:j=8:=by omega
          subst hjk;have hd:decide (((8+1:Nat):Int)<=8)=false:=by decide
          rw[sg_small HSM.out];have HVV:=Lib.hid HV.out;obtain ⟨V,hV⟩:∃ V,V=val (offF f 1) 8:=⟨_,rfl⟩;rw[<-hV];have HV3:=Lib.hid (show tkV f=V by rw[HVV.out,hV])
          clear hV;have hfr:=HFR.out;rw[show ((8+1:Nat):Int)=9 from rfl] at hfr
          go_wp2_with (at_builtin;refine yO rfl (.tmp 53) (.tmp 57) rfl zZ yJ O1.out S1.out (by omega) hz1 rfl rfl ?_;intro v2 w2 ho2 hg2 ht2)
          rw[Nat.zero_add,yH] at ho2;have B2:=O1.out.after hg2 B1.out hz1 (Nat.le_refl _);exact bodyPost_ret (v:=.tuple #[.int .i64 V,v2,.int .i64 0]) (by simp[results,Tryz.results119,go_sem]) rfl (.inr ⟨HE2.out,v2,by rw[HV3.out],by rw[HL.out];exact ho2,B2⟩)
       ·have hq8:((K:Int)==8)=false:=by simp;omega
        go_wp2_with fail;have B1:=Lib.hid ((Below.refl w.heap.size w).alloc (Nat.le_refl _) (.cells #[] 5));have O1:=Lib.hid (show Own (w.alloc (.cells #[] 5)) w.heap.size 5 (.slice (some ⟨w.heap.size,0,none⟩) 0 0) 0 f from Own.empty w w.heap.size 5 _ (Nat.le_refl _))
        have S1:=Lib.hid ((HS.out.from_ (K+1) (by omega)).below B1.out)
        have hz1:w.heap.size<=(w.alloc (.cells #[] 5)).heap.size:=by simp
        have HFR:=Lib.hid (xE zZ u8_i (some (⟨g,o,none⟩:Addr)) n c (K+1) (by omega))
        clear hc1 hz0 hDlt hdp hne hd8 hdk hc0 h9;go_loopw [6,7] (fun nv iv wr=>∃ j:Nat,j<=K/\nv=.int .i64 (sg (val (offF f 1) j))/\iv=.int .i64 ((j+1:Nat):Int)/\wr=w) (fun _ iv _=>K+1-(intOf iv).toNat)
        case atStart=>exact ⟨0,by omega,rfl,rfl,rfl⟩
        case round=>
         obtain ⟨j,hj,rfl,rfl,rfl⟩:=hrel
         by_cases hlt2:j<K
         ·have hd:decide (((j+1:Nat):Int)<=(K:Int))=true:=by simp;omega
          have hcj:=HC.out (j+1) (by omega)
          have hv56:=val_u56 (offF f 1) j (by omega)
          have hst:=or_step (val (offF f 1) j) (offF f 1 j).toNat hv56 (offF f 1 j).isLt;rw[sg_small (show val (offF f 1) j<9223372036854775808 by omega)]
          rw[show f (j+1)=offF f 1 j by unfold offF;rw[Nat.add_comm]] at hcj
          obtain ⟨V,hV⟩:∃ V,V=val (offF f 1) j:=⟨_,rfl⟩;rw[<-hV] at hv56 hst ⊢;obtain ⟨D,hD⟩:∃ D,D=offF f 1 j:=⟨_,rfl⟩;rw[<-hD] at hcj hst;have HV2:=Lib.hid (show V*256+D.toNat=val (offF f 1) (j+1) by rw[hV,hD];rfl)
          clear hV hD;have hsh:wrap64 ((V:Int)*256)=sg (V*256):=by rw[<-sg_wrap (V*256) (by omega),IntWalk.i64_left];rfl
          have hsd:wrap64 (I D)=(D.toNat:Int):=by obtain ⟨b1,b2⟩:=I_bd D;rw[IntWalk.wrap64_in _ (by omega)];rfl
          have HR:=Lib.hid (show bits BinOp.or IntKind.i64 (wrap64 ((V:Int)*256)) (wrap64 (I D))=sg (val (offF f 1) (j+1)) by rw[hsh,hsd,hst,HV2.out])
          clear hsh hsd hst;go_wp2_with fail;go_roundw
          case rel=>exact ⟨j+1,by omega,by rw[HR.out],rfl,trivial⟩
          case measure=>simp[intOf];omega
         ·have hjk:j=K:=by omega
          subst hjk;have hd:decide (((j+1:Nat):Int)<=(j:Int))=false:=by simp;omega
          rw[sg_small HSM.out];have HVV:=Lib.hid HV.out;obtain ⟨V,hV⟩:∃ V,V=val (offF f 1) j:=⟨_,rfl⟩;rw[<-hV];have HV3:=Lib.hid (show tkV f=V by rw[HVV.out,hV])
          clear hV;have hfr:=HFR.out;rw[show ((j+1:Nat):Int)=(j:Int)+1 from rfl] at hfr
          go_wp2_with (at_builtin;refine yO rfl (.tmp 53) (.tmp 57) rfl zZ yJ O1.out S1.out (by omega) hz1 rfl rfl ?_;intro v2 w2 ho2 hg2 ht2)
          rw[Nat.zero_add,yH] at ho2;have B2:=O1.out.after hg2 B1.out hz1 (Nat.le_refl _);exact bodyPost_ret (v:=.tuple #[.int .i64 V,v2,.int .i64 0]) (by simp[results,Tryz.results119,go_sem]) rfl (.inr ⟨HE2.out,v2,by rw[HV3.out],by rw[HL.out];exact ho2,B2⟩)
theorem rtaket_any(n c:Nat)(m:Int)(A:Option Addr)(f:Bf)(w:World)(hs:Sl w w.heap.size A n c f)(hn:n<=140737488355328):
  Calls Tryz.prog 118 #[.slice A n c,.int .i64 m] w (ttP n m f w):=by
 have H0:=Lib.hid (rtake_num n c A f w hs hn);clear hs;go_enter Tryz.func118,Tryz.ntmps118;go_wp2_with fail;refine H0.out.mono ?_;rintro e w1 (⟨hz,rfl,hb⟩|⟨hz,v1,rfl,ho1,hb1⟩)
 ·have HE:=Lib.hid (show ttE n m f=tkE n f by unfold ttE;rw[if_pos hz])
  have HZ:=Lib.hid hz;have HB:=Lib.hid hb;clear H0 hb hz;obtain ⟨E,hE⟩:∃ E,E=tkE n f:=⟨_,rfl⟩;have hne:((E:Int)==0)=false:=by have:=HZ.out;rw[<-hE] at this;simp;omega
  rw[<-hE];have HE2:=Lib.hid hE;clear hE;go_wp2_with fail;exact bodyPost_ret (v:=.tuple #[.slice none 0 0,.slice none 0 0,.int .i64 E]) (by simp[results,Tryz.results118,go_sem]) rfl (.inl ⟨by rw[HE.out];exact HZ.out,by rw[HE.out,HE2.out],HB.out⟩)
 ·have HZ:=Lib.hid hz
  have HB:=Lib.hid hb1;have HO:=Lib.hid ho1;obtain ⟨A1,c1,hv1,hs1,-,-⟩:=ho1.sl;subst hv1;have S1:=Lib.hid hs1;obtain ⟨V,hV⟩:∃ V,V=tkV f:=⟨_,rfl⟩;rw[<-hV];have HV:=Lib.hid hV;have hnc:=hs1.le;have HL:=Lib.hid (tkL_le hz);obtain ⟨R,hR⟩:∃ R,R=n-tkL f:=⟨_,rfl⟩;rw[<-hR] at S1 hnc HO ⊢;have HR:=Lib.hid hR;have hRn:R<=140737488355328:=by omega
  clear H0 hs1 hz hV hb1 ho1 hR
  by_cases hm:m<(V:Int)
  ·have hd:decide (m<(V:Int))=true:=by simp;omega
   have HE:=Lib.hid (show ttE n m f=2 by unfold ttE;rw[if_neg (fun h=>h HZ.out),if_pos (by rw[<-HV.out];exact hm)])
   go_wp2_with fail;exact bodyPost_ret (v:=.tuple #[.slice none 0 0,.slice none 0 0,.int .i64 2]) (by simp[results,Tryz.results118,go_sem]) rfl (.inl ⟨by rw[HE.out];omega,by rw[HE.out];rfl,HB.out⟩)
  ·have hd:decide (m<(V:Int))=false:=by simp;omega
   by_cases hsh:R<V
   ·have hd2:decide ((R:Int)<(V:Int))=true:=by simp;omega
    have HE:=Lib.hid (show ttE n m f=3 by unfold ttE;rw[if_neg (fun h=>h HZ.out),if_neg (by rw[<-HV.out];exact hm),if_pos (by rw[<-HV.out,<-HR.out];exact hsh)])
    go_wp2_with fail;exact bodyPost_ret (v:=.tuple #[.slice none 0 0,.slice none 0 0,.int .i64 3]) (by simp[results,Tryz.results118,go_sem]) rfl (.inl ⟨by rw[HE.out];omega,by rw[HE.out];rfl,HB.out⟩)
   ·have hd2:decide ((R:Int)<(V:Int))=false:=by simp;omega
    have HE:=Lib.hid (show ttE n m f=0 by unfold ttE;rw[if_neg (fun h=>h HZ.out),if_neg (by rw[<-HV.out];exact hm),if_neg (by rw[<-HV.out,<-HR.out];exact hsh)])
    have HU:=Lib.hid (run_upto zZ u8_i A1 R c1 V (by omega))
    have HF:=Lib.hid (xE zZ u8_i A1 R c1 V (by omega))
    go_wp2_with fail;refine flow_many [.inl [1,2,3,6,7,8],pS 0,pS 5,pU 0,pE 4,pU 5,pE 9,.inl [10,11,12]] (fun _=>True) [] (by kernel_rfl) (by kernel_rfl) (fun _ _ _ _ _ h=>h) (fun _ _ _ _ _ h=>h) (fun y z h=>h) trivial (fun k hk=>by cases hk) ?_
    have hne:Nonempty (In (fun _=>True)):=⟨⟨w1,trivial⟩⟩
    have B2:=Lib.hid (zQ (Below.refl w1.heap.size w1) 1);have hz2:(w1.drewN 1).heap.size=w1.heap.size:=rfl;obtain ⟨w2,hw2⟩:∃ w2,w2=w1.drewN 1:=⟨_,rfl⟩;rw[<-hw2] at B2 hz2 ⊢;clear hw2;have hup:=HU.out;have hfr:=HF.out;refine wpM_q ?_;simp only[pk,List.getElem?_cons_zero,List.getElem?_cons_succ]
    repeat (go_big_quiet_step (fail))
    refine wpQuiet_nil ?_;clear hup hfr;refine wpM_s (fun p=> .slice (some ⟨p,0,none⟩) 0 0) (.cells #[] 5) _ rfl rfl (fun w=>ex_bs0 _ rfl w) ?_
    refine wpM_s (fun p=> .slice (some ⟨p,0,none⟩) 0 0) (.cells #[] 5) _ rfl rfl (fun w=>ex_bs0 _ rfl w) ?_
    refine wpM_u _ _ _ 26 (.tail _ (.head _)) rfl rfl (fun x0 hx0 p hp1 hp2 hp3 hp4=>?_)
    refine wpM_e _ rfl (fun x hx=>?_)
    have hs0:=x0.below.size;have hsx:=x.below.size;have B3:=Lib.hid (onto (onto B2.out (by omega) x0.below) (by omega) x.below)
    have O3:=Lib.hid (show Own x.val w1.heap.size 5 (.slice (some ⟨p,0,none⟩) 0 0) 0 nF from own_new (by rw[x.below.block p hp2];exact hp4) hp1)
    have L3:=Lib.hid ((S1.out.upto V (by omega)).below B3.out)
    clear hx0 hx hp3 hp4 B2;obtain ⟨X3,hX3⟩:∃ X3,X3=x.val:=⟨_,rfl⟩;rw[<-hX3] at hsx B3 O3 L3 ⊢;clear hX3;have hb13:w1.heap.size<=X3.heap.size:=by omega
    go_wp2_with (at_builtin;refine yO rfl (.tmp 26) (.tmp 29) rfl zZ yJ O3.out L3.out (by omega) hb13 rfl rfl ?_;intro v4 w4 ho4 hg4 ht4)
    rw[yH,Nat.zero_add] at ho4;have hs4:=hg4.size;have B4:=Lib.hid (O3.out.after hg4 B3.out hb13 (Nat.le_refl _));have O4:=Lib.hid ho4;refine same_class (C:=fun _=>True) v4.ownBlock.toList ((Frm.app hg4).more (fun k hk=>by simpa[Value.ownBlock,eq_comm] using hk)) (hot_app ho4 ht4 (fun k hk=>by simpa[Value.ownBlock,eq_comm] using hk)) trivial (fun y z h=>h) ?_
    clear ho4 hg4 ht4 O3 L3 B3;refine wpM_u _ _ _ 31 (.head _) rfl rfl (fun x1 hx1 q hq1 hq2 hq3 hq4=>?_)
    refine wpM_e _ rfl (fun x hx=>?_)
    have hs5:=x1.below.size;have hsx5:=x.below.size;have B5:=Lib.hid (onto (onto B4.out (by omega) x1.below) (by omega) x.below)
    have O5:=Lib.hid (show Own x.val w1.heap.size 5 (.slice (some ⟨q,0,none⟩) 0 0) 0 nF from own_new (by rw[x.below.block q hq2];exact hq4) hq1)
    have U5:=Lib.hid ((O4.out.below x1.below (Nat.le_refl _)).below x.below (Nat.le_refl _));have L5:=Lib.hid ((S1.out.from_ V (by omega)).below B5.out)
    have HQ:=Lib.hid (show ∀ k,v4.ownBlock=some k->some q≠some k from fun k hk e=>hq3 (by rw[hk];simp;exact (Option.some.inj e)))
    clear hx1 hx hq3 hq4 B4 O4;obtain ⟨X5,hX5⟩:∃ X5,X5=x.val:=⟨_,rfl⟩;rw[<-hX5] at hsx5 B5 O5 U5 L5 ⊢;clear hX5;have hb15:w1.heap.size<=X5.heap.size:=by omega
    go_wp2_with (at_builtin;refine yO rfl (.tmp 31) (.tmp 34) rfl zZ yJ O5.out L5.out (by omega) hb15 rfl rfl ?_;intro v6 w6 ho6 hg6 ht6)
    rw[yH,Nat.zero_add,yY] at ho6;have hs6:=hg6.size;have B6:=Lib.hid (O5.out.after hg6 B5.out hb15 (Nat.le_refl _));have U6:=Lib.hid (U5.out.other hg6 HQ.out);have O6:=Lib.hid ho6
    refine same_class (C:=fun _=>True) [] ((Frm.app hg6).more (fun k hk=>by
     have hk':k=q:=by simpa[Value.ownBlock,eq_comm] using hk
     subst hk'
     simp)) hot_none trivial (fun y z h=>h) ?_
    clear ho6 hg6 ht6 O5 L5 B5 U5 HQ;refine wpM_q ?_;simp only[pk,List.getElem?_cons_zero,List.getElem?_cons_succ]
    repeat (go_big_quiet_step (fail))
    refine wpQuiet_nil ?_;refine wpM_nil (fun x=>?_)
    have hsx7:=x.below.size;have B7:=Lib.hid (onto B6.out (by omega) x.below)
    have O7:=Lib.hid (O6.out.below x.below (Nat.le_refl _));have U7:=Lib.hid (U6.out.below x.below (Nat.le_refl _));clear B6 O6 U6 hne;obtain ⟨X7,hX7⟩:∃ X7,X7=x.val:=⟨_,rfl⟩;rw[<-hX7] at hsx7 B7 O7 U7 ⊢;clear hX7;go_wp2_with fail;have hbb:=HB.out.size;refine bodyPost_ret (v:=.tuple #[v4,v6,.int .i64 0]) (by simp[results,Tryz.results118,go_sem]) rfl (.inr ⟨HE.out,v4,v6,rfl,?_,?_,onto HB.out hbb B7.out⟩)
    ·rw[<-HV.out];exact U7.out.base hbb
    ·rw[<-HV.out,<-HR.out];exact O7.out.base hbb
def iV(x:Nat->Int):Nat->Value:=fun i=> .int .i64 (x i)
def tlO(f:Bf):Nat->Nat
 |0=>tkL f
 |j+1=>tlO f j+tkL (offF f (tlO f j))
def tlE(n:Nat)(f:Bf):Nat->Nat
 |0=>0
 |j+1=>if tlE n f j≠0 then tlE n f j else tkE (n-tlO f j) (offF f (tlO f j))
def tllE(n:Nat)(m:Int)(f:Bf):Nat:=if tkE n f≠0 then tkE n f else if m<tkV f then 2 else tlE n f (tkV f)
def negs(x:Nat->Int)(n:Nat):Prop:=∃ i,i<n/\x i<0
def litF(l:List (BitVec 8)):Bf:=fun i=>l.getD i 0#8
theorem conv_own{w:World}{b n:Nat}{v:Value}{f:Bf}(h:Own w b 5 v n f):(convert 22 9 v).run Tryz.prog w=.ok (.string (xC n f)) w:=by
 obtain ⟨A,c,rfl,hs,_,_⟩:=h.sl;exact run_str zZ u8_u str_u hs
theorem conv_sl{w:World}{B n c:Nat}{A:Option Addr}{f:Bf}(h:Sl w B A n c f):(convert 22 9 (.slice A n c)).run Tryz.prog w=.ok (.string (xC n f)) w:=run_str zZ u8_u str_u h
theorem tll_le{n:Nat}{m:Int}{f:Bf}(h:tllE n m f=0)(hm:m<=2000):tkV f<=2000:=by
 unfold tllE at h
 split at h
 ·omega
 split at h
 ·omega
 ·omega
theorem tt_le{n:Nat}{m:Int}{f:Bf}(h:ttE n m f=0):tkE n f=0/\(tkV f:Int)<=m/\tkL f+tkV f<=n:=by
 unfold ttE at h
 split at h
 ·omega
 rename_i h0
 have h0:tkE n f=0:=by omega
 split at h
 ·omega
 split at h
 ·omega
 have:=tkL_le h0;exact ⟨h0,by omega,by omega⟩
end Go.Proofs.YteffjpdcghlnlaaGreatDoor.Oct
