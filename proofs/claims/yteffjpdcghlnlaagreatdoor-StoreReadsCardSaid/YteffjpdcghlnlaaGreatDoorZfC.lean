import Derived.Deep.DeepCutAuto
import Derived.Test.YteffjpdcghlnlaaGreatDoorZfB
set_option linter.unusedVariables false
set_option linter.unusedSimpArgs false
set_option maxHeartbeats 8000000
set_option maxRecDepth 20000
namespace Go.Proofs.YteffjpdcghlnlaaGreatDoor.Oct
open Go.ChangeShapes Go.WideShapes Go.ChangeAt Go.RowKit
def cuL(L:Nat->Nat):Nat->Nat
 |0=>0
 |j+1=>cuL L j+L j
def cuF(L:Nat->Nat)(F:Nat->Bf):Nat->Bf
 |0=>nF
 |j+1=>catF (cuL L j) (cuF L F j) (F j)
theorem cu_mono(L:Nat->Nat)(j:Nat):∀ d,cuL L j<=cuL L (j+d)
 |0=>Nat.le_refl _
 |d+1=>by have:=cu_mono L j d;rw[<-Nat.add_assoc,cuL];omega
theorem cu_ahead(L:Nat->Nat)(F:Nat->Bf)(j i:Nat)(hi:i<cuL L j):∀ d,cuF L F (j+d) i=cuF L F j i
 |0=>rfl
 |d+1=>by
  have h1:=cu_mono L j d;rw[<-Nat.add_assoc,cuF];unfold catF;rw[if_pos (by omega)]
  exact cu_ahead L F j i hi d
theorem cu_block(L:Nat->Nat)(F:Nat->Bf)(j k i:Nat)(hj:j<k)(hi:i<L j):cuF L F k (cuL L j+i)=F j i:=by
 have h:=cu_ahead L F (j+1) (cuL L j+i) (by rw[cuL];omega) (k-(j+1))
 rw[show j+1+(k-(j+1))=k by omega] at h
 rw[h,cuF];unfold catF;rw[if_neg (by omega),show cuL L j+i-cuL L j=i by omega]
theorem cu_cat(L:Nat->Nat)(F:Nat->Bf)(N j:Nat)(b:Bf):catF (N+cuL L j) (catF N b (cuF L F j)) (F j)=catF N b (cuF L F (j+1)):=by rw[catF_assoc];rfl
def fiE(E:Nat->Nat):Nat->Nat
 |0=>0
 |j+1=>if fiE E j≠0 then fiE E j else E j
theorem fi_stay{E:Nat->Nat}{j:Nat}(h:fiE E j≠0):∀ d,fiE E (j+d)=fiE E j
 |0=>rfl
 |d+1=>by
  have:=fi_stay h d;rw[<-Nat.add_assoc,fiE,if_pos (by rw[this];exact h),this]
theorem xB{E:Nat->Nat}{j:Nat}(h:fiE E j=0):fiE E (j+1)=E j:=by rw[fiE,if_neg (fun e=>e h)]
theorem fi_all{E:Nat->Nat}:∀ {n:Nat},fiE E n=0->∀ j,j<=n->fiE E j=0
 |n,h,j,hj=>by
  rcases Nat.eq_zero_or_pos (fiE E j) with e|e
  ·exact e
  ·have:=fi_stay (E:=E) (j:=j) (by omega) (n-j)
   rw[show j+(n-j)=n by omega] at this
   omega
theorem fi_each{E:Nat->Nat}{n:Nat}(h:fiE E n=0)(j:Nat)(hj:j<n):E j=0:=by rw[<-xB (fi_all h j (by omega))];exact fi_all h (j+1) (by omega)
theorem fi_zero{E:Nat->Nat}:∀ {n:Nat},(∀ j,j<n->E j=0)->fiE E n=0
 |0,_=>rfl
 |n+1,h=>by rw[xB (fi_zero (n:=n) fun j hj=>h j (by omega))];exact h n (by omega)
theorem yN{E:Nat->Nat}{n j:Nat}(h:fiE E j=0)(hj:j<n)(he:E j≠0):fiE E n=E j:=by
 have:=fi_stay (E:=E) (j:=j+1) (by rw[xB h];exact he) (n-(j+1))
 rw[show j+1+(n-(j+1))=n by omega,xB h] at this
 exact this
def neE(x:Nat->Int):Nat->Nat:=fun i=>if x i<0 then 1 else 0
abbrev nuE(x:Nat->Int):Nat->Nat:=fiE (neE x)
abbrev nuL(x:Nat->Int):Nat->Nat:=cuL (fun i=>encL (x i).toNat)
abbrev nuF(x:Nat->Int):Nat->Bf:=cuF (fun i=>encL (x i).toNat) (fun i=>encF (x i).toNat)
theorem nuL_le(x:Nat->Int):∀ j,nuL x j<=9*j
 |0=>by simp[nuL,cuL]
 |j+1=>by have h1:=encL_le (x j).toNat;have h2:cuL (fun i=>encL (x i).toNat) j<=9*j:=nuL_le x j;show cuL (fun i=>encL (x i).toNat) j+encL (x j).toNat<=9*(j+1);omega
def th2{α:Type}(a b:α):Nat->α:=fun j=>if j=0 then a else b
def th3{α:Type}(a b c:α):Nat->α:=fun j=>if j=0 then a else if j=1 then b else c
theorem cu_th2(L1 L2:Nat)(F1 F2:Bf):cuL (th2 L1 L2) 2=L1+L2/\cuF (th2 L1 L2) (th2 F1 F2) 2=catF L1 F1 F2:=by
 have e1:cuL (th2 L1 L2) 1=L1:=by simp[cuL,th2]
 refine ⟨by show cuL (th2 L1 L2) 1+_=_;rw[e1];rfl,?_⟩
 show catF (cuL (th2 L1 L2) 1) (catF 0 nF F1) F2=_;rw[e1,yH]
theorem cu_th2_1(a b:Nat):cuL (th2 a b) 1=a:=by simp[cuL,th2]
theorem txL_le(T:Nat):txL T<=9+T:=by have:=encL_le T;unfold txL;omega
theorem zV{P:Program}{ops:Array Oper}{C:World->Prop}{K:Act->Prop}{l:List Oper}{a:Act}(h:wpQuiet P ops (fun w'=>∃ x:In C,w'=x.val) K l a):wpQuiet P ops C K l a:=by rw[In_eq] at h;exact h
def puO(f:Bf):Nat->Nat
 |0=>0
 |j+1=>puO f j+tkL (offF f (puO f j))
def puX(f:Bf)(j:Nat):Nat:=tkV (offF f (puO f j))
def puS(n:Nat)(f:Bf):Nat->Nat:=fun j=>tkE (n-puO f j) (offF f (puO f j))
abbrev puE(n:Nat)(f:Bf):Nat->Nat:=fiE (puS n f)
theorem puO_le{n:Nat}{f:Bf}:∀ j,puE n f j=0->puO f j<=n
 |0,_=>Nat.zero_le _
 |j+1,h=>by
  have h0:=fi_all h j (by omega)
  have h1:=fi_each h j (by omega)
  have:=puO_le j h0;have:=tkL_le h1;simp only[puO];omega
def Wrt(g o:Nat)(v:Value)(w w':World):Prop:=∃ w1,Below w.heap.size w w1/\w'=w1.setCell ⟨g,o,none⟩ v
def Wrts(g o:Nat->Nat)(y:Nat->Int):Nat->World->World->Prop
 |0,w,w'=>w'=w
 |j+1,w,w'=>∃ w1,Wrts g o y j w w1/\Wrt (g j) (o j) (.int .i64 (y j)) w1 w'
section
variable {g o:Nat} {v:Value} {w w':World}
theorem Wrt.size(h:Wrt g o v w w'):w.heap.size<=w'.heap.size:=by
 obtain ⟨w1,hb,rfl⟩:=h;have:=hb.size;simp[World.setCell];omega
theorem Wrt.block(h:Wrt g o v w w'){k:Nat}(hk:k<w.heap.size)(hn:k≠g):w'.heap[k]? =w.heap[k]? :=by
 obtain ⟨w1,hb,rfl⟩:=h;rw[Below.heap_setCell _ _ _ _ hn,hb.block k hk]
theorem Wrt.low(h:Wrt g o v w w'){B:Nat}(hB:B<=g)(hw:B<=w.heap.size):Below B w w':=by
 obtain ⟨w1,hb,rfl⟩:=h;exact (hb.mono hw).setCell hB v
theorem Wrt.row(h:Wrt g o v w w'){c:Array Value}(hr:row w g=some c):row w' g=some (c.setIfInBounds o v):=by
 obtain ⟨w1,hb,rfl⟩:=h;have h1:=zD hb hr;rw[zL h1];exact zE h1 _
theorem Wrt.other(h:Wrt g o v w w'){k:Nat}{c:Array Value}(hr:Oct.row w k=some c)(hn:k≠g):Oct.row w' k=some c:=by
 rw[yZ (h.block (zK hr) hn)];exact hr
theorem Wrt.rows(h:Wrt g o v w w'){k:Nat}{c:Array Value}(hr:Oct.row w k=some c):∃ c',Oct.row w' k=some c'/\c'.size=c.size:=by
 by_cases hk:k=g
 ·subst hk
  exact ⟨_,h.row hr,by simp⟩
 ·exact ⟨c,h.other hr hk,rfl⟩
theorem Wrt.put(h:Wrt g o v w w'){c:Array Value}(hr:Oct.row w g=some c):Put g (c.setIfInBounds o v) w w':=by
 obtain ⟨w1,hb,rfl⟩:=h;rw[zL (zD hb hr)];exact Put.of hb (zK hr) _
theorem Wrt.sl(h:Wrt g o v w w'){A:Option Addr}{n m D:Nat}{b:Bf}(hs:Sl w D A n m b)(hD:D<=w.heap.size)(ho:Off g n A):Sl w' D A n m b:=
 ⟨hs.le,fun hn=>by
  obtain ⟨k,q,e,hk,hc⟩:=hs.at_ hn;refine ⟨k,q,e,hk,fun i hi=>?_⟩
  have hb:=h.block (k:=k) (by omega) (ho hn _ e)
  rw[show w'.cell? ⟨k,q+i,none⟩=w.cell? ⟨k,q+i,none⟩ by unfold World.cell?;rw[hb]]
  exact hc i hi⟩
theorem Wrt.slG(h:Wrt g o v w w'){A:Option Addr}{n m D:Nat}{V:Nat->Value}(hs:SlG w D A n m V)(hD:D<=w.heap.size)(ho:Off g n A):SlG w' D A n m V:=
 ⟨hs.le,fun hn=>by
  obtain ⟨k,q,e,hk,hc⟩:=hs.at_ hn;refine ⟨k,q,e,hk,fun i hi=>?_⟩
  have hb:=h.block (k:=k) (by omega) (ho hn _ e)
  rw[show w'.cell? ⟨k,q+i,none⟩=w.cell? ⟨k,q+i,none⟩ by unfold World.cell?;rw[hb]]
  exact hc i hi⟩
theorem Own.setCell{base n:Nat}{u:TypeId}{z:Value}{f:Bf}(h:Own w base u z n f){a:Addr}(ha:a.block<base)(x:Value):Own (w.setCell a x) base u z n f:=ownsRow_setCell_below h ha x
theorem SlG.setCell{D n c base:Nat}{A:Option Addr}{V:Nat->Value}(h:SlG w D A n c V)(hA:A=none\/∃ g,A=some ⟨g,0,none⟩/\base<=g){a:Addr}(ha:a.block<base)(x:Value):SlG (w.setCell a x) D A n c V:=
 ⟨h.le,fun hn=>by
  obtain ⟨k,q,e,hk,hc⟩:=h.at_ hn;refine ⟨k,q,e,hk,fun i hi=>?_⟩
  have hb:(w.setCell a x).heap[k]? =w.heap[k]? :=Below.heap_setCell _ _ _ _ (fun e2=>by
   rcases hA with h1|⟨g,h1,hg⟩
   ·rw[h1] at e;cases e
   ·rw[h1] at e
    have:g=k:=congrArg Addr.block (Option.some.inj e)
    omega)
  rw[show (w.setCell a x).cell? ⟨k,q+i,none⟩=w.cell? ⟨k,q+i,none⟩ by unfold World.cell?;rw[hb]]
  exact hc i hi⟩
theorem off_base{base n:Nat}{A:Option Addr}(hA:A=none\/∃ g,A=some ⟨g,0,none⟩/\base<=g){k:Nat}(hk:k<base):Off k n A:=fun hn a ha e=>by
 rcases hA with h1|⟨g,h1,hg⟩
 ·rw[h1] at ha;cases ha
 ·rw[h1] at ha
  obtain rfl:=Option.some.inj ha;simp only at e;omega
theorem off_own{base n:Nat}{u:TypeId}{A:Option Addr}{c:Nat}{f:Bf}(h:Own w base u (.slice A n c) n f){k:Nat}(hk:k<base):Off k n A:=fun hn a ha e=>by
 obtain ⟨A',c',e1,-,-,h1⟩:=h.sl;obtain ⟨rfl,-,-⟩:A=A'/\n=n/\c=c':=by injection e1 with h1 h2 h3;exact ⟨h1,rfl,h3⟩
 rcases h1 with h1|⟨g',h1,hg⟩
 ·rw[h1] at ha;cases ha
 ·rw[h1] at ha
  obtain rfl:=Option.some.inj ha;simp only at e;omega
end
section
variable {g o:Nat->Nat} {y:Nat->Int}
theorem Wrts.size:∀ {j:Nat} {w w':World},Wrts g o y j w w'->w.heap.size<=w'.heap.size
 |0,w,w',h=>by rw[show w'=w from h];exact Nat.le_refl _
 |j+1,w,w',⟨w1,h1,h2⟩=>Nat.le_trans h1.size h2.size
theorem Wrts.block:∀ {j:Nat} {w w':World},Wrts g o y j w w'->∀ {k:Nat},k<w.heap.size->(∀ i,i<j->k≠g i)->w'.heap[k]? =w.heap[k]?
 |0,w,w',h,k,hk,hn=>by rw[show w'=w from h]
 |j+1,w,w',⟨w1,h1,h2⟩,k,hk,hn=>by
  rw[h2.block (by have:=h1.size;omega) (hn j (by omega)),Wrts.block h1 hk fun i hi=>hn i (by omega)]
theorem Wrts.low:∀ {j:Nat} {w w':World},Wrts g o y j w w'->∀ {B:Nat},(∀ i,i<j->B<=g i)->B<=w.heap.size->Below B w w'
 |0,w,w',h,B,_,_=>by rw[show w'=w from h];exact Below.refl _ _
 |j+1,w,w',⟨w1,h1,h2⟩,B,hB,hw=>(Wrts.low h1 (fun i hi=>hB i (by omega)) hw).trans (h2.low (hB j (by omega)) (by have:=h1.size;omega))
theorem Wrts.rows:∀ {j:Nat} {w w':World},Wrts g o y j w w'->∀ {k:Nat} {c:Array Value},row w k=some c->∃ c',row w' k=some c'/\c'.size=c.size
 |0,w,w',h,k,c,hr=>by rw[show w'=w from h];exact ⟨c,hr,rfl⟩
 |j+1,w,w',⟨w1,h1,h2⟩,k,c,hr=>by
  obtain ⟨c1,r1,e1⟩:=Wrts.rows h1 hr;obtain ⟨c2,r2,e2⟩:=h2.rows r1;exact ⟨c2,r2,by omega⟩
theorem Wrts.other{j:Nat}{w w':World}(h:Wrts g o y j w w'){k:Nat}{c:Array Value}(hr:row w k=some c)(hn:∀ i,i<j->k≠g i):row w' k=some c:=by
 rw[yZ (h.block (zK hr) hn)];exact hr
theorem Wrts.slG{j:Nat}{w w':World}(h:Wrts g o y j w w'){A:Option Addr}{n m D:Nat}{V:Nat->Value}(hs:SlG w D A n m V)(hD:D<=w.heap.size)(ho:∀ i,i<j->Off (g i) n A):SlG w' D A n m V:=
 ⟨hs.le,fun hn=>by
  obtain ⟨k,q,e,hk,hc⟩:=hs.at_ hn;refine ⟨k,q,e,hk,fun i hi=>?_⟩
  have hb:=h.block (k:=k) (by omega) (fun i hi=>ho i hi hn _ e)
  rw[show w'.cell? ⟨k,q+i,none⟩=w.cell? ⟨k,q+i,none⟩ by unfold World.cell?;rw[hb]]
  exact hc i hi⟩
theorem Wrts.congr{y':Nat->Int}:∀ {j:Nat} {w w':World},Wrts g o y j w w'->(∀ i,i<j->y i=y' i)->Wrts g o y' j w w'
 |0,w,w',h,_=>h
 |j+1,w,w',⟨w1,h1,h2⟩,he=>⟨w1,Wrts.congr h1 (fun i hi=>he i (by omega)),by rw[<-he j (by omega)];exact h2⟩
end
structure Rs(w W:World)(hot:Nat->Prop)(w':World):Prop where
 low:Below w.heap.size w w'
 size:W.heap.size<=w'.heap.size
 blk:∀ k,k<W.heap.size->¬ hot k->w'.heap[k]? =W.heap[k]?
section
variable {w W w' w2:World} {hot:Nat->Prop}
theorem Rs.start(h:Below w.heap.size w W):Rs w W hot W:=⟨h,Nat.le_refl _,fun _ _ _=>rfl⟩
theorem Rs.wrt{g o:Nat}{v:Value}(h:Rs w W hot w')(hw:Wrt g o v w' w2)(hg:hot g)(hB:w.heap.size<=g):Rs w W hot w2:=
 ⟨h.low.trans (hw.low hB h.low.size),Nat.le_trans h.size hw.size,fun k hk hn=>by rw[hw.block (by have:=h.size;omega) (fun e=>hn (by rw[e];exact hg))];exact h.blk k hk hn⟩
theorem Rs.wrts{g o:Nat->Nat}{y:Nat->Int}{j:Nat}(h:Rs w W hot w')(hw:Wrts g o y j w' w2)(hg:∀ i,i<j->hot (g i))(hB:∀ i,i<j->w.heap.size<=g i):Rs w W hot w2:=
 ⟨h.low.trans (hw.low hB h.low.size),Nat.le_trans h.size hw.size,fun k hk hn=>by rw[hw.block (by have:=h.size;omega) (fun i hi e=>hn (by rw[e];exact hg i hi))];exact h.blk k hk hn⟩
theorem Rs.row(h:Rs w W hot w'){k:Nat}{c:Array Value}(hr:Oct.row W k=some c)(hn:¬ hot k):Oct.row w' k=some c:=by
 rw[yZ (h.blk k (zK hr) hn)];exact hr
theorem Rs.slG(h:Rs w W hot w'){k n:Nat}{c:Array Value}{V:Nat->Value}(hr:Oct.row W k=some c)(hn:¬ hot k)(hc:∀ i,i<n->c[i]? =some (V i)):SlG w' w'.heap.size (some ⟨k,0,none⟩) n n V:=
 slG_row (h.row hr hn) (zK (h.row hr hn)) (Nat.le_refl _) hc
end
theorem load_row{P:Program}{ty:TypeId}{d:TypeDesc}{w:World}{b:Nat}{c:Array Value}(hr:row w b=some c)(hu:P.underlying ty=some d)(hd:d.isRow=true)(hi:(P.info? ty).map (·.size)=some c.size):(loadVar ty ⟨b,0,none⟩).run P w=.ok (.agg c) w:=by
 obtain ⟨t',ht⟩:=row_is hr;have hg:w.rangeAt b 0 (c.extract 0 (0+c.size)).toList:=World.rangeAt_of_block ht 0 c.size;have hx:=run_loadVar_mid (P:=P) w b 0 ty _ d hg hu hd (by rw[hi];simp)
 rw[Array.toArray_toList,Nat.zero_add,Array.extract_size] at hx;exact hx
theorem xF{P:Program}{fn:Func}{p u v:Tmp}{ty:TypeId}(h:fn.results=#[.cell p ty,.tmp u,.tmp v])(tmps:Array Value)(w:World)(b:Nat)(c:Array Value)(d:TypeDesc)
  (hp:tmps.getD p undef=.pointer (some ⟨b,0,none⟩)) (hr:row w b=some c) (hu:P.underlying ty=some d) (hd:d.isRow=true) (hi:(P.info? ty).map (·.size)=some c.size):
  (results fn tmps).run P w=.ok (.tuple #[.agg c,tmps.getD u undef,tmps.getD v undef]) w:=by
 have hp2:tmps[p]?.getD undef=.pointer (some ⟨b,0,none⟩):=by simpa using hp
 simp only[results,h];simp[hp2,asAddr,load_row hr hu hd hi]
theorem set4{w:World}{B:Nat}{a b c d:Value}(h:row w B=some #[a,b,c,d])(a' b' c' d':Value):
  ((((w.setCell ⟨B,0,none⟩ a').setCell ⟨B,1,none⟩ b').setCell ⟨B,2,none⟩ c').setCell ⟨B,3,none⟩ d')=w.setRow B #[a',b',c',d']:=by
 rw[zL h,zL (zE h _),setRow_setRow,zL (zE h _),setRow_setRow,zL (zE h _),setRow_setRow];rfl
def ntP(n:Nat)(f:Bf)(cnt:Nat)(g o:Nat->Nat)(w:World)(e:Ending)(w':World):Prop:=
 (puE n f cnt≠0/\e=.returned (.tuple #[.slice none 0 0,.int .i64 (puE n f cnt:Nat)])/\∃ i y,i<=cnt/\Wrts g o y i w w')\/
 (puE n f cnt=0/\∃ v,e=.returned (.tuple #[v,.int .i64 0])/\Wrts g o (fun j=>puX f j) cnt w w'/\Own w' w.heap.size 5 v (n-puO f cnt) (offF f (puO f cnt)))
theorem nto_any(X n c cnt cz:Nat)(A AZ:Option Addr)(f:Bf)(g o:Nat->Nat)(w:World)(hr:row w X=some #[.slice AZ cnt cz])(hz:SlG w w.heap.size AZ cnt cz (fun j=> .pointer (some ⟨g j,o j,none⟩)))
  (hzg:∀ j,j<cnt->Off (g j) cnt AZ) (hg:∀ j,j<cnt->g j<w.heap.size/\∃ cs,row w (g j)=some cs/\o j<cs.size) (hs:Sl w w.heap.size A n c f) (hoff:∀ j,j<cnt->Off (g j) n A) (hn:n<=140737488355328) (h1:0<cnt) (hcnt:cnt<=100):
  Calls Tryz.prog 202 #[.slice A n c,.pointer (some ⟨X,0,none⟩)] w (ntP n f cnt g o w):=by
 have hcell:=box_cell1 hr;have HZ:=Lib.hid hz;have HZG:=Lib.hid hzg;have HG:=Lib.hid hg;have HS:=Lib.hid hs;have HOF:=Lib.hid hoff;clear hs hz hzg hg hoff hr;go_enter Tryz.func202,Tryz.ntmps202;go_wp2_with fail;clear hcell;go_loopw [3,10] (fun rv iv wr=>∃ j:Nat,j<=cnt/\iv=.int .i64 (j:Int)/\puE n f j=0/\Wrts g o (fun j=>puX f j) j w wr/\(∃ A' c',rv=.slice A' (n-puO f j) c'/\Sl wr wr.heap.size A' (n-puO f j) c' (offF f (puO f j)))/\(0<j->Own wr w.heap.size 5 rv (n-puO f j) (offF f (puO f j)))) (fun _ iv _=>cnt-(intOf iv).toNat)
 case atStart=>exact ⟨0,by omega,rfl,rfl,rfl,⟨A,c,rfl,by rw[show puO f 0=0 from rfl,Nat.sub_zero,offF_zero];exact HS.out⟩,fun h=>by omega⟩
 case round=>
  obtain ⟨j,hj,rfl,hf,hw,⟨A',c',hv,hsl⟩,ho⟩:=hrel;obtain ⟨wo,rfl⟩:∃ wo:World,wo=wr:=⟨_,rfl⟩;subst hv;have HF:=Lib.hid hf;have HW:=Lib.hid hw;have HSL:=Lib.hid hsl;have HO:=Lib.hid ho;have hsz:=hw.size;clear hf hw hsl ho
  by_cases hlt:j<cnt
  ·have hdj:decide ((j:Int)<(cnt:Int))=true:=by simp;omega
   obtain ⟨k0,q0,hA0,hk0,hcl⟩:=(HW.out.slG HZ.out (Nat.le_refl _) fun i hi=>HZG.out i (by omega)).at_ (by omega)
   have hc:=hcl j hlt;subst hA0;clear hcl;have H2:=Lib.hid (take_num (n-puO f j) c' A' (offF f (puO f j)) wo HSL.out (by omega))
   obtain ⟨hgj,cs,hcs,hos⟩:=HG.out j hlt;obtain ⟨cs1,hr1,hs1⟩:=HW.out.rows hcs;obtain ⟨G,hG⟩:∃ G,G=g j:=⟨_,rfl⟩;obtain ⟨O,hO⟩:∃ O,O=o j:=⟨_,rfl⟩;rw[<-hG] at hc hr1 hgj;rw[<-hO] at hc hos;have HGG:=Lib.hid hG;have HOO:=Lib.hid hO;have R1:=Lib.hid hr1;clear hcs hG hO hr1;go_wp2_with fail;refine H2.out.mono ?_;rintro e w2 (⟨hz,rfl,hb⟩|⟨hz,v2,rfl,ho2,hb⟩)
   ·have HE:=Lib.hid (show puE n f cnt=tkE (n-puO f j) (offF f (puO f j)) from yN HF.out hlt hz)
    have HZ2:=Lib.hid hz;have r2:=zD hb R1.out;have hcell:w2.cell? ⟨G,O,none⟩=some cs1[O]:=by rw[zC r2];exact Array.getElem?_eq_getElem (by omega)
    have hfz:=zJ r2 O;have HW2:=Lib.hid (show Wrts g o (fun i=>if i=j then 0 else puX f i) (j+1) w (w2.setCell ⟨G,O,none⟩ (.int .i64 0)) from ⟨wo,HW.out.congr fun i hi=>by rw[if_neg (by omega)],w2,hb,by rw[<-HGG.out,<-HOO.out];simp⟩)
    clear hz hb H2 hc r2;obtain ⟨Y,hY⟩:∃ Y,Y=tkE (n-puO f j) (offF f (puO f j)):=⟨_,rfl⟩;have hne:((Y:Int) !=0)=true:=by have:=HZ2.out;rw[<-hY] at this;simp;omega
    rw[<-hY];have HY:=Lib.hid hY;clear hY;go_wp2_with fail;exact bodyPost_ret (v:=.tuple #[.slice none 0 0,.int .i64 Y]) (by simp[results,Tryz.results202,go_sem]) rfl (.inl ⟨by rw[HE.out];exact HZ2.out,by rw[HE.out,HY.out],j+1,_,by omega,HW2.out⟩)
   ·have HF2:=Lib.hid (show puE n f (j+1)=0 from (xB HF.out).trans hz)
    have r2:=zD hb R1.out;have hcell:w2.cell? ⟨G,O,none⟩=some cs1[O]:=by rw[zC r2];exact Array.getElem?_eq_getElem (by omega)
    have hfz:=zJ r2 O;have HW2:=Lib.hid (show Wrts g o (fun i=>puX f i) (j+1) w (w2.setCell ⟨G,O,none⟩ (.int .i64 (puX f j:Nat))) from ⟨wo,HW.out,w2,hb,by rw[<-HGG.out,<-HOO.out]⟩)
    have ho4:Own (w2.setCell ⟨G,O,none⟩ (.int .i64 (puX f j:Nat))) w.heap.size 5 v2 (n-puO f (j+1)) (offF f (puO f (j+1))):=by
     rw[yY,Nat.sub_sub] at ho2;exact ((ho2.setCell (by show G<wo.heap.size;omega) _).base hsz)
    obtain ⟨A4,c4,hv4,hs4,-,-⟩:=ho4.sl;subst hv4;have O4:=Lib.hid ho4;have S4:=Lib.hid hs4;clear hz hb H2 hc r2 ho2 ho4 hs4 HSL HO HW HF;obtain ⟨Y,hY⟩:∃ Y,Y=puX f j:=⟨_,rfl⟩;rw[show tkV (offF f (puO f j))=Y from hY.symm]
    rw[<-hY] at HW2 O4 S4;clear hY;go_wp2_with fail;go_roundw
    case rel=>exact ⟨j+1,by omega,rfl,HF2.out,HW2.out,⟨_,_,rfl,S4.out⟩,fun _=>O4.out⟩
    case measure=>simp[intOf];omega
  ·have hdj:decide ((j:Int)<(cnt:Int))=false:=by simp;omega
   have hjn:j=cnt:=by omega
   subst hjn;go_wp2_with fail;exact bodyPost_ret (v:=.tuple #[.slice A' (n-puO f j) c',.int .i64 0]) (by simp[results,Tryz.results202,go_sem]) rfl (.inr ⟨HF.out,_,rfl,HW.out,HO.out h1⟩)
def ttoP(n:Nat)(f:Bf)(G O:Nat)(w:World)(e:Ending)(w':World):Prop:=
 (ttE n 4096 f≠0/\e=.returned (.tuple #[.slice none 0 0,.int .i64 (ttE n 4096 f:Nat)])/\Wrt G O (.slice none 0 0) w w')\/
 (ttE n 4096 f=0/\∃ A' c' v,e=.returned (.tuple #[v,.int .i64 0])/\Wrt G O (.slice A' (tkV f) c') w w'/\Own w' w.heap.size 5 (.slice A' (tkV f) c') (tkV f) (offF f (tkL f))/\Own w' w.heap.size 5 v (n-tkL f-tkV f) (offF f (tkL f+tkV f)))
theorem tto_any(X n c G O:Nat)(A:Option Addr)(f:Bf)(w:World)(hX:X≠G)(hr:row w X=some #[.pointer (some ⟨G,O,none⟩)])(hg:∃ cs,row w G=some cs/\O<cs.size)(hs:Sl w w.heap.size A n c f)(hn:n<=140737488355328):
  Calls Tryz.prog 203 #[.slice A n c,.pointer (some ⟨X,0,none⟩)] w (ttoP n f G O w):=by
 obtain ⟨cs,hcs,hO⟩:=hg;have R0:=Lib.hid hr;have R1:=Lib.hid hcs;have HS:=Lib.hid hs;clear hr hcs hs;go_enter Tryz.func203,Tryz.ntmps203;go_wp2_with fail;refine zY [([0,1],2,false),([3,4,5,6,7],8,false)] [9,10] (fun x=>row x X=some #[.pointer (some ⟨G,O,none⟩)]) (by kernel_rfl) (by kernel_rfl) (fun _ _ _ _ _ h=>h) (by rw[zS];exact R0.out) ?_
 have b1:Below w.heap.size w (w.drewN 1):=zQ (Below.refl w.heap.size w) 1;have B1:=Lib.hid b1;have r1:=zD b1 R0.out;have q1:=zD b1 R1.out;have S1:=Lib.hid (HS.out.drewN 1);have hz1:(w.drewN 1).heap.size=w.heap.size:=rfl;obtain ⟨w1,hw1⟩:∃ w1,w1=w.drewN 1:=⟨_,rfl⟩;rw[<-hw1] at B1 r1 q1 S1 hz1 ⊢;clear hw1 b1 R0 R1 HS;have hne:Nonempty (In (fun x=>row x X=some #[.pointer (some ⟨G,O,none⟩)])):=⟨⟨w1,r1⟩⟩
 have Q1:∀ x:In (fun x=>row x X=some #[.pointer (some ⟨G,O,none⟩)]),x.val.cell? ⟨X,0,none⟩=some (.pointer (some ⟨G,O,none⟩)):=fun x=>box_cell1 x.ok
 simp only[wpFl,pk,List.getElem?_cons_zero,List.getElem?_cons_succ];refine zV ?_
 repeat (go_big_quiet_step (fail))
 refine wpQuiet_nil ?_;clear Q1 hne;have H2:=Lib.hid (taket_any n c 4096 A f w1 (S1.out.more (by omega)) hn)
 clear S1;go_wp2_with fail;refine H2.out.mono ?_;rintro e w2 (⟨hz,rfl,hb⟩|⟨hz,v,v',rfl,ho,ho',hb⟩)
 ·have HZ:=Lib.hid hz
  have r2:=zD hb r1;have q2:=Lib.hid (zD hb q1);have B2:=Lib.hid (onto B1.out (by omega) hb)
  obtain ⟨Y,hY⟩:∃ Y,Y=ttE n 4096 f:=⟨_,rfl⟩;rw[show ((ttE n 4096 f:Nat):Int)=(Y:Int) by rw[hY]]
  have HY:=Lib.hid hY;clear hz hb H2 r1 q1 hY B1;go_wp2_with fail;refine ⟨fun x=>row x X=some #[.pointer (some ⟨G,O,none⟩)],r2,.inr ⟨r2,fun _ h=>h⟩,?_⟩
  show wpQuiet _ _ _ _ _ _;refine zV ?_;have hne:Nonempty (In (fun x=>row x X=some #[.pointer (some ⟨G,O,none⟩)])):=⟨⟨_,r2⟩⟩
  repeat (go_big_quiet_step (fail))
  refine wpQuiet_nil ?_;clear hne;have hcell:w2.cell? ⟨G,O,none⟩=some cs[O]:=by rw[zC q2.out];exact Array.getElem?_eq_getElem (by omega)
  have hfz:=zJ q2.out O;go_wp2_with fail;have r3:row (w2.setCell ⟨G,O,none⟩ (.slice none 0 0)) X=some #[.pointer (some ⟨G,O,none⟩)]:=by rw[zX _ _ _ _ hX];exact r2
  refine ⟨fun x=>row x X=some #[.pointer (some ⟨G,O,none⟩)],r3,by first|exact ⟨r3,fun _ h=>h⟩|exact .inr ⟨r3,fun _ h=>h⟩,?_⟩
  show wpQuiet _ _ _ _ _ _;refine zV ?_;have hne:Nonempty (In (fun x=>row x X=some #[.pointer (some ⟨G,O,none⟩)])):=⟨⟨_,r3⟩⟩
  repeat (go_big_quiet_step (fail))
  refine wpQuiet_nil ?_;clear hne hcell hfz r2;go_wp2_with fail;exact bodyPost_ret (v:=.tuple #[.slice none 0 0,.int .i64 Y]) (by simp[results,Tryz.results203,go_sem]) rfl (.inl ⟨HZ.out,by rw[<-HY.out],⟨w2,B2.out,rfl⟩⟩)
 ·have HZ:=Lib.hid hz
  have r2:=zD hb r1;have q2:=Lib.hid (zD hb q1);have B2:=Lib.hid (onto B1.out (by omega) hb)
  have hG:G<w.heap.size:=by have:=zK q1;omega
  have O1:=Lib.hid ((ho.base (by omega:w.heap.size<=w1.heap.size)))
  have O2:=Lib.hid ((ho'.base (by omega:w.heap.size<=w1.heap.size)))
  obtain ⟨Av,cv,hv,-,-,-⟩:=ho.sl;subst hv;clear hz hb H2 r1 q1 B1 ho ho';obtain ⟨T,hT⟩:∃ T,T=tkV f:=⟨_,rfl⟩;rw[<-hT] at O1 O2 ⊢;have HT:=Lib.hid hT;clear hT;go_wp2_with fail;refine ⟨fun x=>row x X=some #[.pointer (some ⟨G,O,none⟩)],r2,.inr ⟨r2,fun _ h=>h⟩,?_⟩
  show wpQuiet _ _ _ _ _ _;refine zV ?_;have hne:Nonempty (In (fun x=>row x X=some #[.pointer (some ⟨G,O,none⟩)])):=⟨⟨_,r2⟩⟩
  repeat (go_big_quiet_step (fail))
  refine wpQuiet_nil ?_;clear hne;have hcell:w2.cell? ⟨G,O,none⟩=some cs[O]:=by rw[zC q2.out];exact Array.getElem?_eq_getElem (by omega)
  have hfz:=zJ q2.out O;go_wp2_with fail;have r3:row (w2.setCell ⟨G,O,none⟩ (.slice Av T cv)) X=some #[.pointer (some ⟨G,O,none⟩)]:=by rw[zX _ _ _ _ hX];exact r2
  refine ⟨fun x=>row x X=some #[.pointer (some ⟨G,O,none⟩)],r3,by first|exact ⟨r3,fun _ h=>h⟩|exact .inr ⟨r3,fun _ h=>h⟩,?_⟩
  show wpQuiet _ _ _ _ _ _;refine zV ?_;have hne:Nonempty (In (fun x=>row x X=some #[.pointer (some ⟨G,O,none⟩)])):=⟨⟨_,r3⟩⟩
  repeat (go_big_quiet_step (fail))
  refine wpQuiet_nil ?_;clear hne hcell hfz r2;go_wp2_with fail;exact bodyPost_ret (v:=.tuple #[v',.int .i64 0]) (by simp[results,Tryz.results203,go_sem]) rfl (.inr ⟨HZ.out,Av,cv,v',rfl,by rw[<-HT.out];exact ⟨w2,B2.out,rfl⟩,by rw[<-HT.out];exact O1.out.setCell hG _,by rw[<-HT.out];exact O2.out.setCell hG _⟩)
def ptP(E N L:Nat)(b F:Bf)(w:World)(e:Ending)(w':World):Prop:=
 (E≠0/\e=.returned (.tuple #[.slice none 0 0,.int .i64 (E:Nat)])/\Below w.heap.size w w')\/
 (E=0/\∃ v,e=.returned (.tuple #[v,.int .i64 0])/\Own w' w.heap.size 5 v (N+L) (catF N b F)/\Below w.heap.size w w')
def Entr(g:FuncId):Prop:=∀ (xs:Array Value) (w:World),(callFunc g xs).run Tryz.prog w=.ok (.enter g xs) w
theorem entr{f:FuncId}{fn:Func}(hf:Tryz.prog.funcs[f]? =some fn)(hn:(fn.name=="runtime.NumGoroutine")=false)(hb:fn.body.isSome=true):Entr f:=fun xs w=>by
 have h1:fn.name≠"runtime.NumGoroutine":=by simpa using hn
 obtain ⟨c,hc⟩:=Option.isSome_iff_exists.1 hb;simp[callFunc,hf,h1,hc]
def Puts(W:World)(v:Value)(E L:Nat)(F:Bf):Prop:=∃ g p,v=.func (.func g) #[] #[p]/\Entr g/\
 ∀ w,Below W.heap.size W w->∀ N c A b,Sl w w.heap.size A N c b->N<=100000000000000->Calls Tryz.prog g #[.slice A N c,p] w (ptP E N L b F w)
theorem Puts.shape{W:World}{v:Value}{E L:Nat}{F:Bf}(h:Puts W v E L F):∃ g p,v=.func (.func g) #[] #[p]:=by
 obtain ⟨g,p,h,_⟩:=h;exact ⟨g,p,h⟩
theorem Puts.below{W W':World}{v:Value}{E L:Nat}{F:Bf}(h:Puts W v E L F)(hb:Below W.heap.size W W'):Puts W' v E L F:=by
 obtain ⟨g,p,rfl,he,hc⟩:=h;exact ⟨g,p,rfl,he,fun w hw=>hc w (onto hb hb.size hw)⟩
theorem encode_any(cnt c:Nat)(AP:Option Addr)(V:Nat->Value)(E L:Nat->Nat)(F:Nat->Bf)(w:World)(hs:SlG w w.heap.size AP cnt c V)(hp:∀ j,j<cnt->Puts w (V j) (E j) (L j) (F j))
  (hL:∀ j,j<cnt->fiE E j=0->cuL L j<=100000000000000) (hcnt:cnt<=100):
  Calls Tryz.prog 169 #[.slice AP cnt c] w (ptP (fiE E cnt) 0 (cuL L cnt) nF (cuF L F cnt) w):=by
 have HS:=Lib.hid hs;have HP:=Lib.hid hp;have HL:=Lib.hid hL;clear hs hp hL;go_enter Tryz.func169,Tryz.ntmps169;go_wp2_with fail;go_loopw [4,11] (fun bv iv wr=>∃ j:Nat,j<=cnt/\iv=.int .i64 (j:Int)/\fiE E j=0/\Own wr w.heap.size 5 bv (cuL L j) (cuF L F j)/\Below w.heap.size w wr) (fun _ iv _=>cnt-(intOf iv).toNat)
 case atStart=>exact ⟨0,by omega,rfl,rfl,Own.nil _ _ _ _,Below.refl _ _⟩
 case round=>
  obtain ⟨j,hj,rfl,hf,ho,hb⟩:=hrel;obtain ⟨wo,rfl⟩:∃ wo:World,wo=wr:=⟨_,rfl⟩;have HF:=Lib.hid hf;have HO:=Lib.hid ho;have HB:=Lib.hid hb;obtain ⟨A,cb,hv,hsl,-,-⟩:=ho.sl;subst hv;have HSL:=Lib.hid hsl;clear hf ho hb hsl
  by_cases hlt:j<cnt
  ·have hd:decide ((j:Int)<(cnt:Int))=true:=by simp;omega
   obtain ⟨g0,o0,hA,hg,hcl⟩:=(HS.out.below HB.out).at_ (by omega)
   have hc0:=hcl j hlt;subst hA;obtain ⟨g,p,hV,hen,hcall⟩:=HP.out j hlt;unfold Entr at hen;have HC:=Lib.hid (hcall wo HB.out (cuL L j) cb A (cuF L F j) HSL.out (HL.out j hlt HF.out));rw[hV] at hc0;clear hcl hcall hV;go_wp2_with fail;refine HC.out.mono ?_;rintro e w2 (⟨hz,rfl,hb⟩|⟨hz,v2,rfl,ho,hb⟩)
   ·have HE:=Lib.hid (show fiE E cnt=E j from yN HF.out hlt hz)
    have HZ:=Lib.hid hz;have B2:=Lib.hid (onto HB.out HB.out.size hb);obtain ⟨Y,hY⟩:∃ Y,Y=E j:=⟨_,rfl⟩;have hne:((Y:Int) !=0)=true:=by have:=HZ.out;rw[<-hY] at this;simp;omega
    have hne2:((Y:Int)==0)=false:=by have:=HZ.out;rw[<-hY] at this;simp;omega
    rw[<-hY];have HY:=Lib.hid hY;clear hz hb HC hY hc0 hen;go_wp2_with fail;exact bodyPost_ret (v:=.tuple #[.slice none 0 0,.int .i64 Y]) (by simp[results,Tryz.results169,go_sem]) rfl (.inl ⟨by rw[HE.out];exact HZ.out,by rw[HE.out,HY.out],B2.out⟩)
   ·have HF2:=Lib.hid (show fiE E (j+1)=0 by rw[xB HF.out];exact hz)
    have O2:=Lib.hid (show Own w2 w.heap.size 5 v2 (cuL L (j+1)) (cuF L F (j+1)) from ho.base HB.out.size)
    have B2:=Lib.hid (onto HB.out HB.out.size hb);clear hz ho hb HC hc0 hen HO HSL HB;go_wp2_with fail;go_roundw
    case rel=>exact ⟨j+1,by omega,rfl,HF2.out,O2.out,B2.out⟩
    case measure=>simp[intOf];omega
  ·have hd:decide ((j:Int)<(cnt:Int))=false:=by simp;omega
   have hjn:j=cnt:=by omega
   subst hjn;go_wp2_with fail;exact bodyPost_ret (v:=.tuple #[.slice A (cuL L j) cb,.int .i64 0]) (by simp[results,Tryz.results169,go_sem]) rfl (.inr ⟨HF.out,_,rfl,by rw[Nat.zero_add,yH];exact HO.out,HB.out⟩)
def dcP(cnt n:Nat)(f:Bf)(E off:Nat->Nat)(I:Nat->World->Prop)(J:World->Prop)(Z:Nat->Option Addr->Prop)(e:Ending)(w':World):Prop:=
 (fiE E cnt≠0/\e=.returned (.tuple #[.slice none 0 0,.int .i64 (fiE E cnt:Nat)])/\J w')\/
 (fiE E cnt=0/\∃ A c,e=.returned (.tuple #[.slice A (n-off cnt) c,.int .i64 0])/\Sl w' w'.heap.size A (n-off cnt) c (offF f (off cnt))/\Z (n-off cnt) A/\I cnt w')
def tkrP(n:Nat)(f:Bf)(E o1:Nat)(I:World->Prop)(J:World->Prop)(Z:Nat->Option Addr->Prop)(e:Ending)(w':World):Prop:=
 (E≠0/\(∃ v,e=.returned (.tuple #[v,.int .i64 (E:Nat)]))/\J w')\/
 (E=0/\∃ A c,e=.returned (.tuple #[.slice A (n-o1) c,.int .i64 0])/\Sl w' w'.heap.size A (n-o1) c (offF f o1)/\Z (n-o1) A/\I w')
def Takes(v:Value)(n:Nat)(f:Bf)(E o0 o1:Nat)(I I':World->Prop)(J:World->Prop)(Z:Nat->Option Addr->Prop):Prop:=∃ g p,v=.func (.func g) #[] #[p]/\Entr g/\
 ∀ w A c,I w->Sl w w.heap.size A (n-o0) c (offF f o0)->Z (n-o0) A->Calls Tryz.prog g #[.slice A (n-o0) c,p] w (tkrP n f E o1 I' J Z)
theorem decode_any(cnt n c cP:Nat)(A AP:Option Addr)(V:Nat->Value)(f:Bf)(E off:Nat->Nat)(I:Nat->World->Prop)(J:World->Prop)(Z:Nat->Option Addr->Prop)(w:World)(h0:off 0=0)
  (hI:I 0 w) (hs:Sl w w.heap.size A n c f) (hZ:Z n A) (hP:∀ j w',I j w'->SlG w' w'.heap.size AP cnt cP V) (hT:∀ j,j<cnt->Takes (V j) n f (E j) (off j) (off (j+1)) (I j) (I (j+1)) J Z) (hcnt:cnt<=100):
  Calls Tryz.prog 161 #[.slice A n c,.slice AP cnt cP] w (dcP cnt n f E off I J Z):=by
 have HP:=Lib.hid hP;have HT:=Lib.hid hT;have HI:=Lib.hid hI;have HS:=Lib.hid hs;have HZ:=Lib.hid hZ;have H0:=Lib.hid h0;clear hP hT hI hs hZ h0;go_enter Tryz.func161,Tryz.ntmps161;go_wp2_with fail;go_loopw [4,11] (fun rv iv wr=>∃ j:Nat,j<=cnt/\iv=.int .i64 (j:Int)/\fiE E j=0/\I j wr/\∃ A' c',rv=.slice A' (n-off j) c'/\Sl wr wr.heap.size A' (n-off j) c' (offF f (off j))/\Z (n-off j) A') (fun _ iv _=>cnt-(intOf iv).toNat)
 case atStart=>exact ⟨0,by omega,rfl,rfl,HI.out,A,c,by rw[H0.out];rfl,by rw[H0.out,Nat.sub_zero,offF_zero];exact HS.out,by rw[H0.out];exact HZ.out⟩
 case round=>
  clear HS HI HZ;obtain ⟨j,hj,rfl,hf,hi,A',c',rfl,hsl,hz⟩:=hrel;obtain ⟨wo,rfl⟩:∃ wo:World,wo=wr:=⟨_,rfl⟩;have HF:=Lib.hid hf;have HI:=Lib.hid hi;have HSL:=Lib.hid hsl;have HZ:=Lib.hid hz;clear hf hi hsl hz
  by_cases hlt:j<cnt
  ·have hd:decide ((j:Int)<(cnt:Int))=true:=by simp;omega
   obtain ⟨g0,o0,hA,hg,hcl⟩:=(HP.out j wo HI.out).at_ (by omega)
   have hc0:=hcl j hlt;subst hA;obtain ⟨g,p,hV,hen,hcall⟩:=HT.out j hlt;unfold Entr at hen;have HC:=Lib.hid (hcall wo A' c' HI.out HSL.out HZ.out);rw[hV] at hc0;clear hcl hcall hV;go_wp2_with fail;refine HC.out.mono ?_;rintro e w2 (⟨hz,⟨v2,rfl⟩,hJ⟩|⟨hz,A2,c2,rfl,hs2,hz2,hI2⟩)
   ·have HE:=Lib.hid (show fiE E cnt=E j from yN HF.out hlt hz)
    have HZ2:=Lib.hid hz;have HJ:=Lib.hid hJ;obtain ⟨Y,hY⟩:∃ Y,Y=E j:=⟨_,rfl⟩;have hne:((Y:Int) !=0)=true:=by have:=HZ2.out;rw[<-hY] at this;simp;omega
    rw[<-hY];have HY:=Lib.hid hY;clear hz hJ HC hY hc0 hen;go_wp2_with fail;exact bodyPost_ret (v:=.tuple #[.slice none 0 0,.int .i64 Y]) (by simp[results,Tryz.results161,go_sem]) rfl (.inl ⟨by rw[HE.out];exact HZ2.out,by rw[HE.out,HY.out],HJ.out⟩)
   ·have HF2:=Lib.hid (show fiE E (j+1)=0 by rw[xB HF.out];exact hz)
    have S2:=Lib.hid hs2;have Z2:=Lib.hid hz2;have I2:=Lib.hid hI2;clear hz hs2 hz2 hI2 HC hc0 hen HSL HZ HI;go_wp2_with fail;go_roundw
    case rel=>exact ⟨j+1,by omega,rfl,HF2.out,I2.out,_,_,rfl,S2.out,Z2.out⟩
    case measure=>simp[intOf];omega
  ·have hd:decide ((j:Int)<(cnt:Int))=false:=by simp;omega
   have hjn:j=cnt:=by omega
   subst hjn;go_wp2_with fail;exact bodyPost_ret (v:=.tuple #[.slice A' (n-off j) c',.int .i64 0]) (by simp[results,Tryz.results161,go_sem]) rfl (.inr ⟨HF.out,_,_,rfl,HSL.out,HZ.out,HI.out⟩)
theorem mknto_any(cnt cz:Nat)(AZ:Option Addr)(w:World):
  Calls Tryz.prog 162 #[.slice AZ cnt cz] w fun e w'=>e=.returned (.func (.func 202) #[] #[.pointer (some ⟨w.heap.size,0,none⟩)])/\w'=w.alloc (.cells #[.slice AZ cnt cz] 278):=by
 go_enter Tryz.func162,Tryz.ntmps162;go_wp2_with fail;go_ret;exact ⟨rfl,rfl⟩
theorem mktto_any(G O:Nat)(w:World):
  Calls Tryz.prog 163 #[.pointer (some ⟨G,O,none⟩)] w fun e w'=>e=.returned (.func (.func 203) #[] #[.pointer (some ⟨w.heap.size,0,none⟩)])/\w'=w.alloc (.cells #[.pointer (some ⟨G,O,none⟩)] 241):=by
 go_enter Tryz.func163,Tryz.ntmps163;go_wp2_with fail;go_ret;exact ⟨rfl,rfl⟩
theorem nums_any(X N c n c1:Nat)(A A1:Option Addr)(b:Bf)(x:Nat->Int)(w:World)(hr:row w X=some #[.slice A1 n c1])(hl:SlG w w.heap.size A1 n c1 (iV x))(hx:∀ i,i<n->-9223372036854775808<=x i/\x i<9223372036854775808)
  (hs:Sl w w.heap.size A N c b) (hN:N<=100000000000000) (hn:n<=100) (h1:0<n):
  Calls Tryz.prog 207 #[.slice A N c,.pointer (some ⟨X,0,none⟩)] w (ptP (nuE x n) N (nuL x n) b (nuF x n) w):=by
 have hcell:=box_cell1 hr;have HS:=Lib.hid hs;have HL:=Lib.hid hl;have HX:=Lib.hid hx;clear hs hl hx hr;go_enter Tryz.func207,Tryz.ntmps207;go_wp2_with fail;clear hcell;go_loopw [0,11] (fun bv iv wr=>∃ j:Nat,j<=n/\iv=.int .i64 (j:Int)/\nuE x j=0/\(∃ A' c',bv=.slice A' (N+nuL x j) c'/\Sl wr wr.heap.size A' (N+nuL x j) c' (catF N b (nuF x j)))/\(0<j->Own wr w.heap.size 5 bv (N+nuL x j) (catF N b (nuF x j)))/\Below w.heap.size w wr) (fun _ iv _=>n-(intOf iv).toNat)
 case atStart=>exact ⟨0,by omega,rfl,rfl,⟨A,c,rfl,HS.out.congr fun i hi=>by show b i=catF N b (nuF x 0) i;unfold catF;rw[if_pos (by exact hi)]⟩,fun h=>by omega,Below.refl _ _⟩
 case round=>
  clear HS;obtain ⟨j,hj,rfl,hf,⟨A',c',hv,hsl⟩,ho,hb⟩:=hrel;obtain ⟨wo,rfl⟩:∃ wo:World,wo=wr:=⟨_,rfl⟩;subst hv;have HF:=Lib.hid hf;have HSL:=Lib.hid hsl;have HO:=Lib.hid ho;have HB:=Lib.hid hb;have hz:=hb.size;have hl9:=nuL_le x j;clear hf hsl ho hb
  by_cases hlt:j<n
  ·have hdj:decide ((j:Int)<(n:Int))=true:=by simp;omega
   obtain ⟨g,o,hA1,hg,hcl⟩:=(HL.out.below HB.out).at_ (by omega)
   have hc:=hcl j hlt;unfold iV at hc;subst hA1;clear hcl;obtain ⟨y,hy⟩:∃ y,y=x j:=⟨_,rfl⟩;rw[<-hy] at hc;have hxj:=HX.out j hlt;rw[<-hy] at hxj;have HY:=Lib.hid hy;clear hy
   by_cases hneg:y<0
   ·have H2:=Lib.hid (put_neg y (N+nuL x j) c' A' wo hneg)
    have HE:=Lib.hid (show nuE x n=1 by
     have h1:neE x j=1:=by unfold neE;rw[if_pos (by rw[<-HY.out];exact hneg)]
     have:=yN HF.out hlt (by rw[h1];omega)
     rw[h1] at this
     exact this)
    clear hneg;go_wp2_with fail;refine H2.out.mono ?_;rintro e w2 ⟨rfl,rfl⟩;clear H2 hc;go_wp2_with fail;exact bodyPost_ret (v:=.tuple #[.slice none 0 0,.int .i64 1]) (by simp[results,Tryz.results207,go_sem]) rfl (.inl ⟨by rw[HE.out];omega,by rw[HE.out];rfl,HB.out⟩)
   ·obtain ⟨m,rfl⟩:∃ m:Nat,y=m:=⟨y.toNat,by omega⟩
    have HM:=Lib.hid (show (x j).toNat=m by rw[<-HY.out];rfl)
    have H2:=Lib.hid (put_any m (N+nuL x j) c' A' (catF N b (nuF x j)) wo HSL.out (by omega) (by omega))
    have HF2:=Lib.hid (show nuE x (j+1)=0 from (xB HF.out).trans (by
     unfold neE
     rw[if_neg (by rw[<-HY.out];omega)]))
    clear hneg;go_wp2_with fail;refine H2.out.mono ?_;rintro e w3 ⟨v3,rfl,ho3,hb3⟩
    have ho4:Own w3 w.heap.size 5 v3 (N+nuL x (j+1)) (catF N b (nuF x (j+1))):=by
     have e1:=cu_cat (fun i=>encL (x i).toNat) (fun i=>encF (x i).toNat) N j b
     simp only[HM.out] at e1;rw[show nuL x (j+1)=nuL x j+encL m by show cuL _ (j+1)=_;rw[cuL];simp only[HM.out],<-Nat.add_assoc]
     refine (Own.base ho3 hz).congr fun i _=>?_
     rw[e1]
    obtain ⟨A4,c4,hv4,hs4,-,-⟩:=ho4.sl;subst hv4;have O4:=Lib.hid ho4;have S4:=Lib.hid hs4;have B4:=Lib.hid (onto HB.out hz hb3);clear H2 hc ho3 hb3 ho4 hs4 HSL HO HB HF;go_wp2_with fail;go_roundw
    case rel=>exact ⟨j+1,by omega,rfl,HF2.out,⟨_,_,rfl,S4.out⟩,fun _=>O4.out,B4.out⟩
    case measure=>simp[intOf];omega
  ·have hdj:decide ((j:Int)<(n:Int))=false:=by simp;omega
   have hjn:j=n:=by omega
   subst hjn;go_wp2_with fail;exact bodyPost_ret (v:=.tuple #[.slice A' (N+nuL x j) c',.int .i64 0]) (by simp[results,Tryz.results207,go_sem]) rfl (.inr ⟨HF.out,_,rfl,HO.out h1,HB.out⟩)
def txE(T:Nat):Nat:=if 4096<T then 2 else 0
theorem text1_any(X N c T c1:Nat)(A A1:Option Addr)(b t:Bf)(w:World)(hr:row w X=some #[.slice A1 T c1])(ht:Sl w w.heap.size A1 T c1 t)(hs:Sl w w.heap.size A N c b)(hN:N<=100000000000000):
  Calls Tryz.prog 208 #[.slice A N c,.pointer (some ⟨X,0,none⟩)] w (ptP (txE T) N (txL T) b (txF T t) w):=by
 have hcell:=box_cell1 hr
 by_cases hT:4096<T
 ·have H1:=Lib.hid (putt_long N c T c1 A A1 w hT)
  have HE:=Lib.hid (show txE T=2 by unfold txE;rw[if_pos hT])
  clear hr ht hs hT;go_enter Tryz.func208,Tryz.ntmps208;go_wp2_with fail;refine H1.out.mono ?_;rintro e w1 ⟨rfl,rfl⟩;clear H1;go_wp2_with fail;exact bodyPost_ret (v:=.tuple #[.slice none 0 0,.int .i64 2]) (by simp[results,Tryz.results208,go_sem]) rfl (.inl ⟨by rw[HE.out];omega,by rw[HE.out];rfl,Below.refl _ _⟩)
 ·have H1:=Lib.hid (putt_any N c T c1 A A1 b t w hs ht (by omega) (by omega))
  have HE:=Lib.hid (show txE T=0 by unfold txE;rw[if_neg hT])
  clear hr ht hs hT;go_enter Tryz.func208,Tryz.ntmps208;go_wp2_with fail;refine H1.out.mono ?_;rintro e w1 ⟨v1,rfl,ho,hb⟩;have O1:=Lib.hid ho;have B1:=Lib.hid hb;clear H1 ho hb;go_wp2_with fail;exact bodyPost_ret (v:=.tuple #[v1,.int .i64 0]) (by simp[results,Tryz.results208,go_sem]) rfl (.inr ⟨HE.out,_,rfl,O1.out,B1.out⟩)
theorem nuE_neg{x:Nat->Int}{n:Nat}:nuE x n≠0->negs x n/\nuE x n=1:=fun h=>by
 induction n with
 |zero=>exact absurd rfl h
 |succ n ih=>
  by_cases h0:nuE x n=0
  ·have e:nuE x (n+1)=neE x n:=xB h0
   rw[e] at h ⊢;unfold neE at h ⊢
   split at h
   ·rename_i hn
    exact ⟨⟨n,by omega,hn⟩,by rw[if_pos hn]⟩
   ·exact absurd rfl h
  ·obtain ⟨⟨i,hi,hx⟩,h1⟩:=ih h0
   exact ⟨⟨i,by omega,hx⟩,by
    have:=fi_stay (E:=neE x) h0 1
    exact this.trans h1⟩
theorem nuE_of_neg{x:Nat->Int}{n:Nat}(h:negs x n):nuE x n=1:=by
 rcases Nat.eq_zero_or_pos (nuE x n) with e|e
 ·obtain ⟨i,hi,hx⟩:=h
  have:=fi_each e i hi;unfold neE at this;rw[if_pos hx] at this;omega
 ·exact (nuE_neg (by omega)).2
theorem nuE_of_pos{x:Nat->Int}{n:Nat}(h:∀ i,i<n->0<=x i):nuE x n=0:=fi_zero fun j hj=>by
 unfold neE;have:=h j hj;rw[if_neg (by omega)]
theorem mknums_any(n c1:Nat)(A1:Option Addr)(x:Nat->Int)(w:World)(hl:SlG w w.heap.size A1 n c1 (iV x))(hx:∀ i,i<n->-9223372036854775808<=x i/\x i<9223372036854775808)(hn:n<=100)(h1:0<n):
  Calls Tryz.prog 170 #[.slice A1 n c1] w fun e w'=>∃ v,e=.returned v/\v.oneCell'=true/\Puts w' v (nuE x n) (nuL x n) (nuF x n)/\Below w.heap.size w w':=by
 have HL:=Lib.hid hl;clear hl;go_enter Tryz.func170,Tryz.ntmps170;go_wp2_with fail;go_ret;refine ⟨_,rfl,rfl,⟨207,.pointer (some ⟨w.heap.size,0,none⟩),rfl,entr (fn:=Tryz.f207) (by kernel_rfl) (by kernel_rfl) (by kernel_rfl),fun w' hb N c A b hs hN=>?_⟩,(Below.refl _ _).alloc (Nat.le_refl _) _⟩
 have hb2:Below w.heap.size w w':=onto ((Below.refl w.heap.size w).alloc (Nat.le_refl _) _) (by simp) hb
 exact nums_any w.heap.size N c n c1 A A1 b x w' (zD hb (zA _ _ _ _ rfl)) ((HL.out.below hb2).more hb2.size) hx hs hN hn h1
theorem mktext_any(T c1:Nat)(A1:Option Addr)(t:Bf)(w:World)(ht:Sl w w.heap.size A1 T c1 t):
  Calls Tryz.prog 171 #[.slice A1 T c1] w fun e w'=>∃ v,e=.returned v/\v.oneCell'=true/\Puts w' v (txE T) (txL T) (txF T t)/\Below w.heap.size w w':=by
 have HL:=Lib.hid ht;clear ht;go_enter Tryz.func171,Tryz.ntmps171;go_wp2_with fail;go_ret;refine ⟨_,rfl,rfl,⟨208,.pointer (some ⟨w.heap.size,0,none⟩),rfl,entr (fn:=Tryz.f208) (by kernel_rfl) (by kernel_rfl) (by kernel_rfl),fun w' hb N c A b hs hN=>?_⟩,(Below.refl _ _).alloc (Nat.le_refl _) _⟩
 have hb2:Below w.heap.size w w':=onto ((Below.refl w.heap.size w).alloc (Nat.le_refl _) _) (by simp) hb
 exact text1_any w.heap.size N c T c1 A A1 b t w' (zD hb (zA _ _ _ _ rfl)) ((HL.out.below hb2).more hb2.size) hs hN
def inB(a b x:Int):Bool:=decide (a<=x)&&decide (x<=b)
theorem has_any(a b x:Int)(w:World):
  Calls Tryz.prog 133 #[.agg #[.int .i64 a,.int .i64 b],.int .i64 x] w fun e w'=>e=.returned (.bool (inB a b x))/\Below w.heap.size w w':=by
 by_cases h1:a<=x
 ·have hd1:decide (a<=x)=true:=by simp;omega
  by_cases h2:x<=b
  ·have hd2:decide (x<=b)=true:=by simp;omega
   have hI:=Lib.hid (show inB a b x=true by unfold inB;rw[hd1,hd2];rfl)
   go_enter Tryz.func133,Tryz.ntmps133;go_wp2_with fail;go_ret;exact ⟨by rw[hI.out];rfl,(Below.refl _ _).alloc (Nat.le_refl _) _⟩
  ·have hd2:decide (x<=b)=false:=by simp;omega
   have hI:=Lib.hid (show inB a b x=false by unfold inB;rw[hd1,hd2];rfl)
   go_enter Tryz.func133,Tryz.ntmps133;go_wp2_with fail;go_ret;exact ⟨by rw[hI.out];rfl,(Below.refl _ _).alloc (Nat.le_refl _) _⟩
 ·have hd1:decide (a<=x)=false:=by simp;omega
  have hI:=Lib.hid (show inB a b x=false by unfold inB;rw[hd1];rfl)
  go_enter Tryz.func133,Tryz.ntmps133;go_wp2_with fail;go_ret;exact ⟨by rw[hI.out];rfl,(Below.refl _ _).alloc (Nat.le_refl _) _⟩
def shN(k:Int):List Int:=
 if k=1 then [0,0,0,0,0,0,0,0,0,0,0,0]
 else if k=2 then [0,0,0,0,1,1099511627776,0,0,0,0,0,0]
 else if k=3 then [1,1099511627776,1,1099511627776,0,0,0,0,0,0,0,0]
 else if k=4 then [1,1099511627776,1,1099511627776,1,1099511627776,0,0,0,0,0,0]
 else if k=5 then [1,1099511627776,1,1099511627776,1,1099511627776,0,1,0,0,0,0]
 else if k=6 then [1,1099511627776,1,1099511627776,1,1099511627776,1,9223372036854775807,0,0,0,0]
 else if k=7 then [1,1099511627776,1,1099511627776,1,1099511627776,0,0,0,64,0,32]
 else if k=8 then [1,1099511627776,1,1099511627776,0,0,0,0,0,128,0,32]
 else if k=9 then [1,1099511627776,1,1099511627776,0,0,0,0,0,128,0,32]
 else if k=10 then [1,1099511627776,1,1099511627776,0,0,0,0,1,64,0,0]
 else [0,0,0,0,0,0,0,0,0,0,0,0]
def sh(k:Int)(j:Nat):Int:=(shN k).getD j 0
theorem yT(w:World)(a b c:Array Value)(t u v:TypeId):Below w.heap.size w (((w.alloc (.cells a t)).alloc (.cells b u)).alloc (.cells c v)):=
 (((Below.refl _ _).alloc (by simp) _).alloc (by simp) _).alloc (by simp;omega) _
def kiB(k:Int):Bool:=decide (1<=k)&&decide (k<=10)
theorem shape_any(k:Int)(w:World):
  Calls Tryz.prog 77 #[.int .i64 k] w fun e w'=>e=.returned (.tuple #[.agg #[.int .i64 (sh k 0),.int .i64 (sh k 1),.int .i64 (sh k 2),.int .i64 (sh k 3),.int .i64 (sh k 4),.int .i64 (sh k 5),.int .i64 (sh k 6),.int .i64 (sh k 7),.int .i64 (sh k 8),.int .i64 (sh k 9),.int .i64 (sh k 10),.int .i64 (sh k 11)],.bool (kiB k)])/\Below w.heap.size w w':=by
 have hcase:k=1\/k=2\/k=3\/k=4\/k=5\/k=6\/k=7\/k=8\/k=9\/k=10\/(k≠1/\k≠2/\k≠3/\k≠4/\k≠5/\k≠6/\k≠7/\k≠8/\k≠9/\k≠10):=by omega
 rcases hcase with rfl|rfl|rfl|rfl|rfl|rfl|rfl|rfl|rfl|rfl|⟨h1,h2,h3,h4,h5,h6,h7,h8,h9,h10⟩
 ·go_enter Tryz.func77,Tryz.ntmps77
  go_wp2_with fail;exact bodyPost_ret (v:=.tuple #[.agg #[.int .i64 (sh 1 0),.int .i64 (sh 1 1),.int .i64 (sh 1 2),.int .i64 (sh 1 3),.int .i64 (sh 1 4),.int .i64 (sh 1 5),.int .i64 (sh 1 6),.int .i64 (sh 1 7),.int .i64 (sh 1 8),.int .i64 (sh 1 9),.int .i64 (sh 1 10),.int .i64 (sh 1 11)],.bool (kiB 1)]) (by simp[results,Tryz.results77,go_sem];decide) rfl ⟨rfl,yT w _ _ _ _ _ _⟩
 ·go_enter Tryz.func77,Tryz.ntmps77
  go_wp2_with fail;exact bodyPost_ret (v:=.tuple #[.agg #[.int .i64 (sh 2 0),.int .i64 (sh 2 1),.int .i64 (sh 2 2),.int .i64 (sh 2 3),.int .i64 (sh 2 4),.int .i64 (sh 2 5),.int .i64 (sh 2 6),.int .i64 (sh 2 7),.int .i64 (sh 2 8),.int .i64 (sh 2 9),.int .i64 (sh 2 10),.int .i64 (sh 2 11)],.bool (kiB 2)]) (by simp[results,Tryz.results77,go_sem];decide) rfl ⟨rfl,yT w _ _ _ _ _ _⟩
 ·go_enter Tryz.func77,Tryz.ntmps77
  go_wp2_with fail;exact bodyPost_ret (v:=.tuple #[.agg #[.int .i64 (sh 3 0),.int .i64 (sh 3 1),.int .i64 (sh 3 2),.int .i64 (sh 3 3),.int .i64 (sh 3 4),.int .i64 (sh 3 5),.int .i64 (sh 3 6),.int .i64 (sh 3 7),.int .i64 (sh 3 8),.int .i64 (sh 3 9),.int .i64 (sh 3 10),.int .i64 (sh 3 11)],.bool (kiB 3)]) (by simp[results,Tryz.results77,go_sem];decide) rfl ⟨rfl,yT w _ _ _ _ _ _⟩
 ·go_enter Tryz.func77,Tryz.ntmps77
  go_wp2_with fail;exact bodyPost_ret (v:=.tuple #[.agg #[.int .i64 (sh 4 0),.int .i64 (sh 4 1),.int .i64 (sh 4 2),.int .i64 (sh 4 3),.int .i64 (sh 4 4),.int .i64 (sh 4 5),.int .i64 (sh 4 6),.int .i64 (sh 4 7),.int .i64 (sh 4 8),.int .i64 (sh 4 9),.int .i64 (sh 4 10),.int .i64 (sh 4 11)],.bool (kiB 4)]) (by simp[results,Tryz.results77,go_sem];decide) rfl ⟨rfl,yT w _ _ _ _ _ _⟩
 ·go_enter Tryz.func77,Tryz.ntmps77
  go_wp2_with fail;exact bodyPost_ret (v:=.tuple #[.agg #[.int .i64 (sh 5 0),.int .i64 (sh 5 1),.int .i64 (sh 5 2),.int .i64 (sh 5 3),.int .i64 (sh 5 4),.int .i64 (sh 5 5),.int .i64 (sh 5 6),.int .i64 (sh 5 7),.int .i64 (sh 5 8),.int .i64 (sh 5 9),.int .i64 (sh 5 10),.int .i64 (sh 5 11)],.bool (kiB 5)]) (by simp[results,Tryz.results77,go_sem];decide) rfl ⟨rfl,yT w _ _ _ _ _ _⟩
 ·go_enter Tryz.func77,Tryz.ntmps77
  go_wp2_with fail;exact bodyPost_ret (v:=.tuple #[.agg #[.int .i64 (sh 6 0),.int .i64 (sh 6 1),.int .i64 (sh 6 2),.int .i64 (sh 6 3),.int .i64 (sh 6 4),.int .i64 (sh 6 5),.int .i64 (sh 6 6),.int .i64 (sh 6 7),.int .i64 (sh 6 8),.int .i64 (sh 6 9),.int .i64 (sh 6 10),.int .i64 (sh 6 11)],.bool (kiB 6)]) (by simp[results,Tryz.results77,go_sem];decide) rfl ⟨rfl,yT w _ _ _ _ _ _⟩
 ·go_enter Tryz.func77,Tryz.ntmps77
  go_wp2_with fail;exact bodyPost_ret (v:=.tuple #[.agg #[.int .i64 (sh 7 0),.int .i64 (sh 7 1),.int .i64 (sh 7 2),.int .i64 (sh 7 3),.int .i64 (sh 7 4),.int .i64 (sh 7 5),.int .i64 (sh 7 6),.int .i64 (sh 7 7),.int .i64 (sh 7 8),.int .i64 (sh 7 9),.int .i64 (sh 7 10),.int .i64 (sh 7 11)],.bool (kiB 7)]) (by simp[results,Tryz.results77,go_sem];decide) rfl ⟨rfl,yT w _ _ _ _ _ _⟩
 ·go_enter Tryz.func77,Tryz.ntmps77
  go_wp2_with fail;exact bodyPost_ret (v:=.tuple #[.agg #[.int .i64 (sh 8 0),.int .i64 (sh 8 1),.int .i64 (sh 8 2),.int .i64 (sh 8 3),.int .i64 (sh 8 4),.int .i64 (sh 8 5),.int .i64 (sh 8 6),.int .i64 (sh 8 7),.int .i64 (sh 8 8),.int .i64 (sh 8 9),.int .i64 (sh 8 10),.int .i64 (sh 8 11)],.bool (kiB 8)]) (by simp[results,Tryz.results77,go_sem];decide) rfl ⟨rfl,yT w _ _ _ _ _ _⟩
 ·go_enter Tryz.func77,Tryz.ntmps77
  go_wp2_with fail;exact bodyPost_ret (v:=.tuple #[.agg #[.int .i64 (sh 9 0),.int .i64 (sh 9 1),.int .i64 (sh 9 2),.int .i64 (sh 9 3),.int .i64 (sh 9 4),.int .i64 (sh 9 5),.int .i64 (sh 9 6),.int .i64 (sh 9 7),.int .i64 (sh 9 8),.int .i64 (sh 9 9),.int .i64 (sh 9 10),.int .i64 (sh 9 11)],.bool (kiB 9)]) (by simp[results,Tryz.results77,go_sem];decide) rfl ⟨rfl,yT w _ _ _ _ _ _⟩
 ·go_enter Tryz.func77,Tryz.ntmps77
  go_wp2_with fail;exact bodyPost_ret (v:=.tuple #[.agg #[.int .i64 (sh 10 0),.int .i64 (sh 10 1),.int .i64 (sh 10 2),.int .i64 (sh 10 3),.int .i64 (sh 10 4),.int .i64 (sh 10 5),.int .i64 (sh 10 6),.int .i64 (sh 10 7),.int .i64 (sh 10 8),.int .i64 (sh 10 9),.int .i64 (sh 10 10),.int .i64 (sh 10 11)],.bool (kiB 10)]) (by simp[results,Tryz.results77,go_sem];decide) rfl ⟨rfl,yT w _ _ _ _ _ _⟩
 ·have e1:(k==1)=false:=by simp;omega
  have e2:(k==2)=false:=by simp;omega
  have e3:(k==3)=false:=by simp;omega
  have e4:(k==4)=false:=by simp;omega
  have e5:(k==5)=false:=by simp;omega
  have e6:(k==6)=false:=by simp;omega
  have e7:(k==7)=false:=by simp;omega
  have e8:(k==8)=false:=by simp;omega
  have e9:(k==9)=false:=by simp;omega
  have e10:(k==10)=false:=by simp;omega
  have HZ:=Lib.hid (show (∀ j,j<12->sh k j=0)/\kiB k=false from ⟨fun j hj=>by
   unfold sh shN;simp only[h1,h2,h3,h4,h5,h6,h7,h8,h9,h10,if_false];have:j=0\/j=1\/j=2\/j=3\/j=4\/j=5\/j=6\/j=7\/j=8\/j=9\/j=10\/j=11:=by omega
   rcases this with rfl|rfl|rfl|rfl|rfl|rfl|rfl|rfl|rfl|rfl|rfl|rfl<;>rfl,by unfold kiB;simp;omega⟩)
  clear h1 h2 h3 h4 h5 h6 h7 h8 h9 h10;go_enter Tryz.func77,Tryz.ntmps77;go_wp2_with fail;exact bodyPost_ret (v:=.tuple #[.agg #[.int .i64 (sh k 0),.int .i64 (sh k 1),.int .i64 (sh k 2),.int .i64 (sh k 3),.int .i64 (sh k 4),.int .i64 (sh k 5),.int .i64 (sh k 6),.int .i64 (sh k 7),.int .i64 (sh k 8),.int .i64 (sh k 9),.int .i64 (sh k 10),.int .i64 (sh k 11)],.bool (kiB k)]) (by simp[results,Tryz.results77,go_sem];exact ⟨⟨(HZ.out.1 0 (by omega)).symm,(HZ.out.1 1 (by omega)).symm,(HZ.out.1 2 (by omega)).symm,(HZ.out.1 3 (by omega)).symm,(HZ.out.1 4 (by omega)).symm,(HZ.out.1 5 (by omega)).symm,(HZ.out.1 6 (by omega)).symm,(HZ.out.1 7 (by omega)).symm,(HZ.out.1 8 (by omega)).symm,(HZ.out.1 9 (by omega)).symm,(HZ.out.1 10 (by omega)).symm,(HZ.out.1 11 (by omega)).symm⟩,HZ.out.2⟩) rfl ⟨rfl,yT w _ _ _ _ _ _⟩
theorem yD{w:World}{B:Nat}{a b c d:Value}(h:row w B=some #[a,b,c,d]):w.cell? ⟨B,0,none⟩=some a/\w.cell? ⟨B,1,none⟩=some b/\w.cell? ⟨B,2,none⟩=some c/\w.cell? ⟨B,3,none⟩=some d:=
 ⟨zC h 0,zC h 1,zC h 2,zC h 3⟩
abbrev comV(k s q i n:Int)(d b:Value):Value:=.agg #[.int .i64 k,.int .i64 s,.int .i64 q,.int .i64 i,.int .i64 n,d,b]
def fitB(h:Nat->Int)(s q i n:Int)(T U:Nat):Bool:=inB (h 0) (h 1) s&&(inB (h 2) (h 3) q&&(inB (h 4) (h 5) i&&(inB (h 6) (h 7) n&&(inB (h 8) (h 9) T&&inB (h 10) (h 11) U))))
theorem fits_any(h:Nat->Int)(k s q i n:Int)(T U c c':Nat)(A A':Option Addr)(w:World):
  Calls Tryz.prog 78 #[.agg #[.int .i64 (h 0),.int .i64 (h 1),.int .i64 (h 2),.int .i64 (h 3),.int .i64 (h 4),.int .i64 (h 5),.int .i64 (h 6),.int .i64 (h 7),.int .i64 (h 8),.int .i64 (h 9),.int .i64 (h 10),.int .i64 (h 11)],comV k s q i n (.slice A T c) (.slice A' U c')] w fun e w'=>e=.returned (.bool (fitB h s q i n T U))/\Below w.heap.size w w':=by
 obtain ⟨F,hF⟩:∃ F,F=fitB h s q i n T U:=⟨_,rfl⟩;rw[<-hF];have HF:=Lib.hid hF;clear hF;have C:=has_any;obtain ⟨h0,e0⟩:∃ x,x=h 0:=⟨_,rfl⟩;obtain ⟨h1,e1⟩:∃ x,x=h 1:=⟨_,rfl⟩;obtain ⟨h2,e2⟩:∃ x,x=h 2:=⟨_,rfl⟩;obtain ⟨h3,e3⟩:∃ x,x=h 3:=⟨_,rfl⟩;obtain ⟨h4,e4⟩:∃ x,x=h 4:=⟨_,rfl⟩;obtain ⟨h5,e5⟩:∃ x,x=h 5:=⟨_,rfl⟩;obtain ⟨h6,e6⟩:∃ x,x=h 6:=⟨_,rfl⟩;obtain ⟨h7,e7⟩:∃ x,x=h 7:=⟨_,rfl⟩;obtain ⟨h8,e8⟩:∃ x,x=h 8:=⟨_,rfl⟩;obtain ⟨h9,e9⟩:∃ x,x=h 9:=⟨_,rfl⟩;obtain ⟨h10,e10⟩:∃ x,x=h 10:=⟨_,rfl⟩;obtain ⟨h11,e11⟩:∃ x,x=h 11:=⟨_,rfl⟩;rw[<-e0,<-e1,<-e2,<-e3,<-e4,<-e5,<-e6,<-e7,<-e8,<-e9,<-e10,<-e11];unfold fitB at HF;rw[<-e0,<-e1,<-e2,<-e3,<-e4,<-e5,<-e6,<-e7,<-e8,<-e9,<-e10,<-e11] at HF;clear e0 e1 e2 e3 e4 e5 e6 e7 e8 e9 e10 e11 h;obtain ⟨w0,hw0⟩:∃ w0,w0=(w.alloc (.cells #[.int .i64 h0,.int .i64 h1,.int .i64 h2,.int .i64 h3,.int .i64 h4,.int .i64 h5,.int .i64 h6,.int .i64 h7,.int .i64 h8,.int .i64 h9,.int .i64 h10,.int .i64 h11] 152)).alloc (.cells #[.int .i64 k,.int .i64 s,.int .i64 q,.int .i64 i,.int .i64 n,.slice A T c,.slice A' U c'] 36):=⟨_,rfl⟩
 have B0:=Lib.hid (show Below w.heap.size w w0 by rw[hw0];exact ((Below.refl _ _).alloc (by simp) _).alloc (by simp) _)
 have R0:=Lib.hid (show row w0 w.heap.size=some #[.int .i64 h0,.int .i64 h1,.int .i64 h2,.int .i64 h3,.int .i64 h4,.int .i64 h5,.int .i64 h6,.int .i64 h7,.int .i64 h8,.int .i64 h9,.int .i64 h10,.int .i64 h11] by rw[hw0];exact zN (zA _ _ _ _ rfl) _)
 have R1:=Lib.hid (show row w0 (w.heap.size+1)=some #[.int .i64 k,.int .i64 s,.int .i64 q,.int .i64 i,.int .i64 n,.slice A T c,.slice A' U c'] by rw[hw0];exact zA _ _ _ _ (by simp))
 have F0:=Lib.hid (fun (a b x:Int)=>C a b x w0)
 go_enter Tryz.func78,Tryz.ntmps78;go_wp2_with fail;rw[<-hw0];clear hw0 C F0;refine (has_any h0 h1 s _).mono ?_;rintro e w1 ⟨rfl,hb⟩;have B1:=Lib.hid (onto B0.out B0.out.size hb);have P1:=Lib.hid (zD hb R0.out);have Q1:=Lib.hid (zD hb R1.out);clear hb B0;clear R0 R1;obtain ⟨b0,hb0⟩:∃ x,x=inB h0 h1 s:=⟨_,rfl⟩;rw[<-hb0];have HB0:=Lib.hid hb0;clear hb0
 cases b0 with
 |false=>
  have E:=Lib.hid (show F=false by rw[HF.out,<-HB0.out];rfl)
  go_wp2_with fail;go_ret;exact ⟨by rw[E.out];rfl,B1.out⟩
 |true=>
 have c0:=zC P1.out 2;have c1:=zC P1.out 3;have c2:=zC Q1.out 2;rw[show (#[.int .i64 h0,.int .i64 h1,.int .i64 h2,.int .i64 h3,.int .i64 h4,.int .i64 h5,.int .i64 h6,.int .i64 h7,.int .i64 h8,.int .i64 h9,.int .i64 h10,.int .i64 h11]:Array Value)[2]? =some (.int .i64 h2) from rfl] at c0
 rw[show (#[.int .i64 h0,.int .i64 h1,.int .i64 h2,.int .i64 h3,.int .i64 h4,.int .i64 h5,.int .i64 h6,.int .i64 h7,.int .i64 h8,.int .i64 h9,.int .i64 h10,.int .i64 h11]:Array Value)[3]? =some (.int .i64 h3) from rfl] at c1
 rw[show (#[.int .i64 k,.int .i64 s,.int .i64 q,.int .i64 i,.int .i64 n,.slice A T c,.slice A' U c']:Array Value)[2]? =some (.int .i64 q) from rfl] at c2
 go_wp2_with fail;clear c0 c1 c2;refine (has_any h2 h3 q _).mono ?_;rintro e w2 ⟨rfl,hb⟩;have B2:=Lib.hid (onto B1.out B1.out.size hb);have P2:=Lib.hid (zD hb P1.out);have Q2:=Lib.hid (zD hb Q1.out);clear hb B1;clear P1 Q1;obtain ⟨b1,hb1⟩:∃ x,x=inB h2 h3 q:=⟨_,rfl⟩;rw[<-hb1];have HB1:=Lib.hid hb1;clear hb1
 cases b1 with
 |false=>
  have E:=Lib.hid (show F=false by rw[HF.out,<-HB0.out,<-HB1.out];rfl)
  go_wp2_with fail;go_ret;exact ⟨by rw[E.out];rfl,B2.out⟩
 |true=>
 have c0:=zC P2.out 4;have c1:=zC P2.out 5;have c2:=zC Q2.out 3;rw[show (#[.int .i64 h0,.int .i64 h1,.int .i64 h2,.int .i64 h3,.int .i64 h4,.int .i64 h5,.int .i64 h6,.int .i64 h7,.int .i64 h8,.int .i64 h9,.int .i64 h10,.int .i64 h11]:Array Value)[4]? =some (.int .i64 h4) from rfl] at c0
 rw[show (#[.int .i64 h0,.int .i64 h1,.int .i64 h2,.int .i64 h3,.int .i64 h4,.int .i64 h5,.int .i64 h6,.int .i64 h7,.int .i64 h8,.int .i64 h9,.int .i64 h10,.int .i64 h11]:Array Value)[5]? =some (.int .i64 h5) from rfl] at c1
 rw[show (#[.int .i64 k,.int .i64 s,.int .i64 q,.int .i64 i,.int .i64 n,.slice A T c,.slice A' U c']:Array Value)[3]? =some (.int .i64 i) from rfl] at c2
 go_wp2_with fail;clear c0 c1 c2;refine (has_any h4 h5 i _).mono ?_;rintro e w3 ⟨rfl,hb⟩;have B3:=Lib.hid (onto B2.out B2.out.size hb);have P3:=Lib.hid (zD hb P2.out);have Q3:=Lib.hid (zD hb Q2.out);clear hb B2;clear P2 Q2;obtain ⟨b2,hb2⟩:∃ x,x=inB h4 h5 i:=⟨_,rfl⟩;rw[<-hb2];have HB2:=Lib.hid hb2;clear hb2
 cases b2 with
 |false=>
  have E:=Lib.hid (show F=false by rw[HF.out,<-HB0.out,<-HB1.out,<-HB2.out];rfl)
  go_wp2_with fail;go_ret;exact ⟨by rw[E.out];rfl,B3.out⟩
 |true=>
 have c0:=zC P3.out 6;have c1:=zC P3.out 7;have c2:=zC Q3.out 4;rw[show (#[.int .i64 h0,.int .i64 h1,.int .i64 h2,.int .i64 h3,.int .i64 h4,.int .i64 h5,.int .i64 h6,.int .i64 h7,.int .i64 h8,.int .i64 h9,.int .i64 h10,.int .i64 h11]:Array Value)[6]? =some (.int .i64 h6) from rfl] at c0
 rw[show (#[.int .i64 h0,.int .i64 h1,.int .i64 h2,.int .i64 h3,.int .i64 h4,.int .i64 h5,.int .i64 h6,.int .i64 h7,.int .i64 h8,.int .i64 h9,.int .i64 h10,.int .i64 h11]:Array Value)[7]? =some (.int .i64 h7) from rfl] at c1
 rw[show (#[.int .i64 k,.int .i64 s,.int .i64 q,.int .i64 i,.int .i64 n,.slice A T c,.slice A' U c']:Array Value)[4]? =some (.int .i64 n) from rfl] at c2
 go_wp2_with fail;clear c0 c1 c2;refine (has_any h6 h7 n _).mono ?_;rintro e w4 ⟨rfl,hb⟩;have B4:=Lib.hid (onto B3.out B3.out.size hb);have P4:=Lib.hid (zD hb P3.out);have Q4:=Lib.hid (zD hb Q3.out);clear hb B3;clear P3 Q3;obtain ⟨b3,hb3⟩:∃ x,x=inB h6 h7 n:=⟨_,rfl⟩;rw[<-hb3];have HB3:=Lib.hid hb3;clear hb3
 cases b3 with
 |false=>
  have E:=Lib.hid (show F=false by rw[HF.out,<-HB0.out,<-HB1.out,<-HB2.out,<-HB3.out];rfl)
  go_wp2_with fail;go_ret;exact ⟨by rw[E.out];rfl,B4.out⟩
 |true=>
 have c0:=zC P4.out 8;have c1:=zC P4.out 9;have c2:=zC Q4.out 5;rw[show (#[.int .i64 h0,.int .i64 h1,.int .i64 h2,.int .i64 h3,.int .i64 h4,.int .i64 h5,.int .i64 h6,.int .i64 h7,.int .i64 h8,.int .i64 h9,.int .i64 h10,.int .i64 h11]:Array Value)[8]? =some (.int .i64 h8) from rfl] at c0
 rw[show (#[.int .i64 h0,.int .i64 h1,.int .i64 h2,.int .i64 h3,.int .i64 h4,.int .i64 h5,.int .i64 h6,.int .i64 h7,.int .i64 h8,.int .i64 h9,.int .i64 h10,.int .i64 h11]:Array Value)[9]? =some (.int .i64 h9) from rfl] at c1
 rw[show (#[.int .i64 k,.int .i64 s,.int .i64 q,.int .i64 i,.int .i64 n,.slice A T c,.slice A' U c']:Array Value)[5]? =some (.slice A T c) from rfl] at c2
 go_wp2_with fail;clear c0 c1 c2;refine (has_any h8 h9 (T:Int) _).mono ?_;rintro e w5 ⟨rfl,hb⟩;have B5:=Lib.hid (onto B4.out B4.out.size hb);have P5:=Lib.hid (zD hb P4.out);have Q5:=Lib.hid (zD hb Q4.out);clear hb B4;clear P4 Q4;obtain ⟨b4,hb4⟩:∃ x,x=inB h8 h9 (T:Int):=⟨_,rfl⟩;rw[<-hb4];have HB4:=Lib.hid hb4;clear hb4
 cases b4 with
 |false=>
  have E:=Lib.hid (show F=false by rw[HF.out,<-HB0.out,<-HB1.out,<-HB2.out,<-HB3.out,<-HB4.out];rfl)
  go_wp2_with fail;go_ret;exact ⟨by rw[E.out];rfl,B5.out⟩
 |true=>
 have c0:=zC P5.out 10;have c1:=zC P5.out 11;have c2:=zC Q5.out 6;rw[show (#[.int .i64 h0,.int .i64 h1,.int .i64 h2,.int .i64 h3,.int .i64 h4,.int .i64 h5,.int .i64 h6,.int .i64 h7,.int .i64 h8,.int .i64 h9,.int .i64 h10,.int .i64 h11]:Array Value)[10]? =some (.int .i64 h10) from rfl] at c0
 rw[show (#[.int .i64 h0,.int .i64 h1,.int .i64 h2,.int .i64 h3,.int .i64 h4,.int .i64 h5,.int .i64 h6,.int .i64 h7,.int .i64 h8,.int .i64 h9,.int .i64 h10,.int .i64 h11]:Array Value)[11]? =some (.int .i64 h11) from rfl] at c1
 rw[show (#[.int .i64 k,.int .i64 s,.int .i64 q,.int .i64 i,.int .i64 n,.slice A T c,.slice A' U c']:Array Value)[6]? =some (.slice A' U c') from rfl] at c2
 go_wp2_with fail;clear c0 c1 c2;refine (has_any h10 h11 (U:Int) _).mono ?_;rintro e w6 ⟨rfl,hb⟩;have B6:=Lib.hid (onto B5.out B5.out.size hb);clear hb B5;obtain ⟨b5,hb5⟩:∃ x,x=inB h10 h11 (U:Int):=⟨_,rfl⟩;rw[<-hb5];have HB5:=Lib.hid hb5;clear hb5;have E:=Lib.hid (show F=b5 by rw[HF.out,<-HB0.out,<-HB1.out,<-HB2.out,<-HB3.out,<-HB4.out,<-HB5.out];cases b5<;>rfl)
 go_wp2_with fail;go_ret;exact ⟨by rw[E.out];rfl,B6.out⟩
theorem yB{w:World}{B:Nat}{a b c d e f g:Value}(h:row w B=some #[a,b,c,d,e,f,g]):w.cell? ⟨B,0,none⟩=some a/\w.cell? ⟨B,1,none⟩=some b/\w.cell? ⟨B,2,none⟩=some c/\w.cell? ⟨B,3,none⟩=some d/\w.cell? ⟨B,4,none⟩=some e/\w.cell? ⟨B,5,none⟩=some f/\w.cell? ⟨B,6,none⟩=some g:=
 ⟨zC h 0,zC h 1,zC h 2,zC h 3,zC h 4,zC h 5,zC h 6⟩
def chkB(k s q i n:Int)(T U:Nat):Bool:=kiB k&&fitB (sh k) s q i n T U
def chkE(k s q i n:Int)(T U:Nat):Nat:=if chkB k s q i n T U then 0 else 1
theorem check_any(k s q i n:Int)(T U c c':Nat)(A A':Option Addr)(w:World):
  Calls Tryz.prog 38 #[comV k s q i n (.slice A T c) (.slice A' U c')] w fun e w'=>e=.returned (.int .i64 (chkE k s q i n T U:Nat))/\Below w.heap.size w w':=by
 obtain ⟨E,hE⟩:∃ E,E=chkE k s q i n T U:=⟨_,rfl⟩;rw[<-hE];have HE:=Lib.hid hE;clear hE;have B0:=Lib.hid (show Below w.heap.size w (w.alloc (.cells #[.int .i64 k,.int .i64 s,.int .i64 q,.int .i64 i,.int .i64 n,.slice A T c,.slice A' U c'] 36)) from (Below.refl _ _).alloc (by simp) _)
 have R0:=Lib.hid (show row (w.alloc (.cells #[.int .i64 k,.int .i64 s,.int .i64 q,.int .i64 i,.int .i64 n,.slice A T c,.slice A' U c'] 36)) w.heap.size=some #[.int .i64 k,.int .i64 s,.int .i64 q,.int .i64 i,.int .i64 n,.slice A T c,.slice A' U c'] from zA _ _ _ _ rfl)
 have hz0:w.heap.size<=(w.alloc (.cells #[.int .i64 k,.int .i64 s,.int .i64 q,.int .i64 i,.int .i64 n,.slice A T c,.slice A' U c'] 36)).heap.size:=by simp
 go_enter Tryz.func38,Tryz.ntmps38;go_wp2_with fail;refine (shape_any k _).mono ?_;rintro e w1 ⟨rfl,hb⟩;have B1:=Lib.hid (onto B0.out hz0 hb);have R1:=Lib.hid (zD hb R0.out);clear hb B0 R0 hz0;obtain ⟨K,hK⟩:∃ K,K=kiB k:=⟨_,rfl⟩;rw[<-hK];have HK:=Lib.hid hK;clear hK
 cases K with
 |false=>
  have HE1:=Lib.hid (show E=1 by rw[HE.out];unfold chkE chkB;rw[<-HK.out];rfl)
  go_wp2_with fail;go_ret;exact ⟨by rw[HE1.out];rfl,B1.out.alloc (by have:=B1.out.size;simp;try omega) _⟩
 |true=>
  obtain ⟨c0,c1,c2,c3,c4,c5,c6⟩:=yB R1.out;have hx:=zK R1.out;go_wp2_with fail;refine (fits_any (sh k) k s q i n T U c c' A A' _).mono ?_;rintro e w2 ⟨rfl,hb⟩;have hw1:w1.heap.size<=w2.heap.size:=by have:=hb.size;simp at this;omega
  have B2:=Lib.hid (onto (B1.out.alloc B1.out.size _) (by have:=B1.out.size;simp;omega) hb)
  clear hb c0 c1 c2 c3 c4 c5 c6 hx R1;obtain ⟨F,hF⟩:∃ F,F=fitB (sh k) s q i n T U:=⟨_,rfl⟩;rw[<-hF];have HF:=Lib.hid hF;clear hF
  cases F with
  |false=>
   have HE1:=Lib.hid (show E=1 by rw[HE.out];unfold chkE chkB;rw[<-HK.out,<-HF.out];rfl)
   go_wp2_with fail;go_ret;exact ⟨by rw[HE1.out];rfl,B2.out⟩
  |true=>
   have HE1:=Lib.hid (show E=0 by rw[HE.out];unfold chkE chkB;rw[<-HK.out,<-HF.out];rfl)
   go_wp2_with fail;go_ret;exact ⟨by rw[HE1.out];rfl,B2.out⟩
def hS(k:Int):Bool:=decide (3<=k)&&decide (k<=10)
def hI(k:Int):Bool:=decide (k=2)||(decide (4<=k)&&decide (k<=7))
def hN(k:Int):Bool:=decide (k=5)||decide (k=6)
def hD(k:Int):Bool:=decide (7<=k)&&decide (k<=10)
def hB(k:Int):Bool:=decide (7<=k)&&decide (k<=9)
theorem chk_ok{k s q i n:Int}{T U:Nat}(h:chkE k s q i n T U=0):0<=k/\0<=s/\0<=q/\0<=i/\0<=n/\T<=128/\U<=32:=by
 have h':chkB k s q i n T U=true:=by unfold chkE at h;cases hb:chkB k s q i n T U with
  |true=>rfl
  |false=>rw[hb] at h;simp at h
 have hk:kiB k=true:=by unfold chkB at h';cases hb:kiB k with
  |true=>rfl
  |false=>rw[hb] at h';simp at h'
 have hcase:k=1\/k=2\/k=3\/k=4\/k=5\/k=6\/k=7\/k=8\/k=9\/k=10:=by unfold kiB at hk;simp at hk;omega
 clear h hk;rcases hcase with rfl|rfl|rfl|rfl|rfl|rfl|rfl|rfl|rfl|rfl
 all_goals
  simp[chkB,kiB,fitB,inB,sh,shN] at h';omega
def txO(f:Bf)(o:Nat):Nat:=o+(tkL (offF f o)+tkV (offF f o))
section
variable (w W:World) (f:Bf)
end
def repN(c n m:Int):Nat->Int:=fun j=>if j=0 then c else if j=1 then n else m
abbrev repV(c n m:Int)(d:Value):Value:=.agg #[.int .i64 c,.int .i64 n,.int .i64 m,d]
def repL(c n m:Int)(T:Nat):Nat:=nuL (repN c n m) 3+txL T
def repF(c n m:Int)(T:Nat)(f:Bf):Bf:=catF (nuL (repN c n m) 3) (nuF (repN c n m) 3) (txF T f)
def repE(c n m:Int)(T:Nat):Nat:=fiE (th2 (nuE (repN c n m) 3) (txE T)) 2
theorem reply_any(x n m:Int)(T c:Nat)(A:Option Addr)(f:Bf)(w:World)(hf:Sl w w.heap.size A T c f)(hb:∀ j,-9223372036854775808<=repN x n m j/\repN x n m j<9223372036854775808):
  Calls Tryz.prog 125 #[repV x n m (.slice A T c)] w (ptP (repE x n m T) 0 (repL x n m T) nF (repF x n m T f) w):=by
 have R0:=Lib.hid (show row (w.alloc (.cells #[.int .i64 x,.int .i64 n,.int .i64 m,.slice A T c] 33)) w.heap.size=some #[.int .i64 x,.int .i64 n,.int .i64 m,.slice A T c] from zA _ _ _ _ rfl)
 have B0:=Lib.hid (show Below w.heap.size w (w.alloc (.cells #[.int .i64 x,.int .i64 n,.int .i64 m,.slice A T c] 33)) from (Below.refl _ _).alloc (by simp) _)
 have hz0:w.heap.size<=(w.alloc (.cells #[.int .i64 x,.int .i64 n,.int .i64 m,.slice A T c] 33)).heap.size:=by simp
 have HF:=Lib.hid ((hf.below B0.out).more hz0);have HB:=Lib.hid hb;obtain ⟨E,hE⟩:∃ E,E=repE x n m T:=⟨_,rfl⟩;rw[<-hE];have HE:=Lib.hid hE;clear hf hb hE;go_enter Tryz.func125,Tryz.ntmps125;go_wp2_with fail;refine yE [([0,1,2,3,4,5,8,9],6,false),([],7,false),([],10,true),([],11,true),([],12,true)] [13,14,15,16] (by kernel_rfl) (by kernel_rfl) (fun _ _ _ _ _ h=>h) fun Z=>?_
 have R2:=zD Z.below R0.out;have B2:=Lib.hid (onto B0.out hz0 Z.below);have F2:=Lib.hid ((HF.out.below Z.below).more Z.below.size);clear R0 B0 hz0 HF;obtain ⟨w2,hw2⟩:∃ w2,w2=Z.val:=⟨_,rfl⟩;rw[<-hw2] at R2 B2 F2 ⊢;clear hw2 Z;have cc:=fun x:After w2=>yD (After.row R2 x)
 simp only[wpFs,pk,List.getElem?_cons_zero,List.getElem?_cons_succ]
 repeat (go_big_quiet_step (fail))
 refine wpQuiet_nil ?_;clear cc R2;go_wp2_with fail;have bx:=(Below.refl w2.heap.size w2).alloc (Nat.le_refl _) (.cells #[.int .i64 x,.int .i64 n,.int .i64 m] 3);refine ⟨.inr bx,?_⟩;have r3:row (w2.alloc (.cells #[.int .i64 x,.int .i64 n,.int .i64 m] 3)) w2.heap.size=some #[.int .i64 x,.int .i64 n,.int .i64 m]:=zA _ _ _ _ rfl;have hz3:(w2.alloc (.cells #[.int .i64 x,.int .i64 n,.int .i64 m] 3)).heap.size=w2.heap.size+1:=by simp
 have F3:=Lib.hid ((F2.out.below bx).more (by omega:w2.heap.size<=(w2.alloc (.cells #[.int .i64 x,.int .i64 n,.int .i64 m] 3)).heap.size))
 have B3:=Lib.hid (onto B2.out B2.out.size bx);obtain ⟨w3,hw3⟩:∃ w3,w3=w2.alloc (.cells #[.int .i64 x,.int .i64 n,.int .i64 m] 3):=⟨_,rfl⟩;rw[<-hw3] at r3 hz3 F3 B3 ⊢
 have H3:=Lib.hid (mknums_any 3 3 (some ⟨w2.heap.size,0,none⟩) (repN x n m) w3 (slG_row r3 (by omega) (Nat.le_refl _) fun j hj=>by
  have:j=0\/j=1\/j=2:=by omega
  rcases this with rfl|rfl|rfl<;>rfl) (fun j _=>HB.out j) (by omega) (by omega))
 clear hw3 bx r3 hz3 F2 B2;show wpQuiet _ _ _ _ _ _;refine wpQuiet_nil ?_;go_wp2_with fail;refine H3.out.mono ?_;rintro e w4 ⟨v1,rfl,-,hp1,hb4⟩;obtain ⟨g1,q1,hv1⟩:=hp1.shape;subst hv1;have P1:=Lib.hid hp1;have F4:=Lib.hid ((F3.out.below hb4).more hb4.size);have B4:=Lib.hid (onto B3.out B3.out.size hb4);go_wp2_with fail;refine ⟨.inr hb4,?_⟩;clear hp1 hb4 H3 F3 B3;have H4:=Lib.hid (mktext_any T c A f w4 F4.out);show wpQuiet _ _ _ _ _ _;refine wpQuiet_nil ?_;go_wp2_with fail;refine H4.out.mono ?_;rintro e w6 ⟨v2,rfl,-,hp2,hb6⟩;obtain ⟨g2,q2,hv2⟩:=hp2.shape;subst hv2;have P2:=Lib.hid hp2;have P1':=Lib.hid (P1.out.below hb6);have B6:=Lib.hid (onto B4.out B4.out.size hb6);go_wp2_with fail;refine ⟨.inl trivial,?_⟩;clear hp2 hb6 H4 F4 B4 P1;show wpQuiet _ _ _ _ _ _;refine wpQuiet_nil ?_;go_wp2_with fail;have bx:=(Below.refl w6.heap.size w6).alloc (Nat.le_refl _) (.cells #[.func (.func g1) #[] #[q1],.func (.func g2) #[] #[q2]] 247)
 refine ⟨.inl trivial,?_⟩;have r7:row (w6.alloc (.cells #[.func (.func g1) #[] #[q1],.func (.func g2) #[] #[q2]] 247)) w6.heap.size=some #[.func (.func g1) #[] #[q1],.func (.func g2) #[] #[q2]]:=zA _ _ _ _ rfl;have hz7:(w6.alloc (.cells #[.func (.func g1) #[] #[q1],.func (.func g2) #[] #[q2]] 247)).heap.size=w6.heap.size+1:=by simp
 have P1x:=P1'.out.below bx;have P2x:=P2.out.below bx;have B7:=Lib.hid (onto B6.out B6.out.size bx);obtain ⟨w7,hw7⟩:∃ w7,w7=w6.alloc (.cells #[.func (.func g1) #[] #[q1],.func (.func g2) #[] #[q2]] 247):=⟨_,rfl⟩;rw[<-hw7] at r7 hz7 P1x P2x B7 ⊢;have hL9:=nuL_le (repN x n m) 3
 have H7:=encode_any 2 2 (some ⟨w6.heap.size,0,none⟩) (th2 (.func (.func g1) #[] #[q1]) (.func (.func g2) #[] #[q2])) (th2 (nuE (repN x n m) 3) (txE T)) (th2 (nuL (repN x n m) 3) (txL T)) (th2 (nuF (repN x n m) 3) (txF T f)) w7
  (slG_row r7 (by omega) (Nat.le_refl _) fun j hj=>by
   have:j=0\/j=1:=by omega
   rcases this with rfl|rfl<;>rfl)
  (fun j hj=>by
   have:j=0\/j=1:=by omega
   rcases this with rfl|rfl
   ·exact P1x
   ·exact P2x)
  (fun j hj _=>by
   have:j=0\/j=1:=by omega
   rcases this with rfl|rfl
   ·simp[cuL]
   ·rw[cu_th2_1];omega) (by omega)
 obtain ⟨eL,eF⟩:=cu_th2 (nuL (repN x n m) 3) (txL T) (nuF (repN x n m) 3) (txF T f);rw[eL,eF] at H7;have H7':=Lib.hid (show Calls Tryz.prog 169 #[.slice (some ⟨w6.heap.size,0,none⟩) 2 2] w7 (ptP (repE x n m T) 0 (repL x n m T) nF (repF x n m T f) w7) from H7)
 clear hw7 bx r7 hz7 P1x P2x P1' P2 B6 H7 eL eF hL9;rw[<-HE.out] at H7';show wpQuiet _ _ _ _ _ _;refine wpQuiet_nil ?_;go_wp2_with fail;refine H7'.out.mono ?_;rintro e w8 (⟨hz,rfl,hb8⟩|⟨hz,v8,rfl,ho,hb8⟩)
 ·have HZ:=Lib.hid hz
  have B8:=Lib.hid (onto B7.out B7.out.size hb8);go_wp2_with fail;refine ⟨.inl trivial,?_⟩;clear hz hb8 H7';show wpQuiet _ _ _ _ _ _
  repeat (go_big_quiet_step (fail))
  refine wpQuiet_nil ?_;go_wp2_with fail;exact bodyPost_ret (v:=.tuple #[.slice none 0 0,.int .i64 E]) (by simp[results,Tryz.results125,go_sem]) rfl (.inl ⟨HZ.out,rfl,B8.out⟩)
 ·have HZ:=Lib.hid hz
  have O8:=Lib.hid ho;have B8:=Lib.hid (onto B7.out B7.out.size hb8);go_wp2_with fail;refine ⟨.inl trivial,?_⟩;clear hz ho hb8 H7';show wpQuiet _ _ _ _ _ _
  repeat (go_big_quiet_step (fail))
  refine wpQuiet_nil ?_;go_wp2_with fail;exact bodyPost_ret (v:=.tuple #[v8,.int .i64 0]) (by simp[results,Tryz.results125,go_sem]) rfl (.inr ⟨HZ.out,_,rfl,O8.out.base B7.out.size,B8.out⟩)
def trO(f:Bf):Nat->Nat:=fun j=>if j=0 then 0 else if j=1 then puO f 3 else txO f (puO f 3)
def trS(n:Nat)(f:Bf):Nat->Nat:=th2 (puE n f 3) (ttE (n-trO f 1) 4096 (offF f (trO f 1)))
def trE(n:Nat)(f:Bf):Nat:=fiE (trS n f) 2
def trT(f:Bf):Nat:=tkV (offF f (trO f 1))
def trF(f:Bf):Bf:=offF f (trO f 1+tkL (offF f (trO f 1)))
abbrev repZ:Value:=repV 0 0 0 (.slice none 0 0)
def trP(n:Nat)(f:Bf)(w:World)(e:Ending)(w':World):Prop:=
 (trE n f≠0/\e=.returned (.tuple #[repZ,.slice none 0 0,.int .i64 (trE n f:Nat)])/\Below w.heap.size w w')\/
 (trE n f=0/\∃ A c A' c',e=.returned (.tuple #[repV (puX f 0:Nat) (puX f 1:Nat) (puX f 2:Nat) (.slice A (trT f) c),.slice A' (n-trO f 2) c',.int .i64 0])/\Sl w' w'.heap.size A (trT f) c (trF f)/\Sl w' w'.heap.size A' (n-trO f 2) c' (offF f (trO f 2))/\Below w.heap.size w w')
def trQ(n:Nat)(f:Bf)(w:World)(e:Ending)(w':World):Prop:=
 (trE n f≠0/\e=.returned (.tuple #[repZ,.slice none 0 0,.int .i64 (trE n f:Nat)])/\Below w.heap.size w w')\/
 (trE n f=0/\∃ A c A' c',e=.returned (.tuple #[repV (puX f 0:Nat) (puX f 1:Nat) (puX f 2:Nat) (.slice A (trT f) c),.slice A' (n-trO f 2) c',.int .i64 0])/\Sl w' w'.heap.size A (trT f) c (trF f)/\Sl w' w'.heap.size A' (n-trO f 2) c' (offF f (trO f 2))/\Below w.heap.size w w'/\∀ k,k<w.heap.size->Off k (trT f) A)
structure TrW(w W:World):Prop where
 b:Below w.heap.size w W
 rb:row W w.heap.size=some #[.int .i64 0,.int .i64 0,.int .i64 0,.slice none 0 0]
 rg:row W (w.heap.size+1)=some #[.int .i64 0]
 rp:row W (w.heap.size+1+1)=some #[.pointer (some ⟨w.heap.size+1,0,none⟩),.pointer (some ⟨w.heap.size,1,none⟩),.pointer (some ⟨w.heap.size,2,none⟩)]
 r1:row W (w.heap.size+1+1+1)=some #[.slice (some ⟨w.heap.size+1+1,0,none⟩) 3 3]
 r2:row W (w.heap.size+1+1+1+1)=some #[.pointer (some ⟨w.heap.size,3,none⟩)]
 rq:row W (w.heap.size+1+1+1+1+1)=some #[.func (.func 202) #[] #[.pointer (some ⟨w.heap.size+1+1+1,0,none⟩)],.func (.func 203) #[] #[.pointer (some ⟨w.heap.size+1+1+1+1,0,none⟩)]]
section
variable (w W:World) (f:Bf)
abbrev trR:World->Prop:=Rs w W (fun k=>k=w.heap.size\/k=w.heap.size+1)
def trJ(w':World):Prop:=trR w W w'/\∃ cs,row w' w.heap.size=some cs/\cs.size=4
def trI0(w':World):Prop:=trR w W w'/\row w' w.heap.size=some #[.int .i64 0,.int .i64 0,.int .i64 0,.slice none 0 0]/\row w' (w.heap.size+1)=some #[.int .i64 0]
def trI1(w':World):Prop:=trR w W w'/\row w' w.heap.size=some #[.int .i64 0,.int .i64 (puX f 1:Nat),.int .i64 (puX f 2:Nat),.slice none 0 0]/\row w' (w.heap.size+1)=some #[.int .i64 (puX f 0:Nat)]
def trI2(w':World):Prop:=trR w W w'/\∃ A c,row w' w.heap.size=some #[.int .i64 0,.int .i64 (puX f 1:Nat),.int .i64 (puX f 2:Nat),.slice A (trT f) c]/\row w' (w.heap.size+1)=some #[.int .i64 (puX f 0:Nat)]/\
 Sl w' w'.heap.size A (trT f) c (trF f)/\∀ k,k<=w.heap.size->Off k (trT f) A
def trI(j:Nat):World->Prop:=if j=0 then trI0 w W else if j=1 then trI1 w W f else trI2 w W f
end
theorem trI_rs{w W:World}{f:Bf}{j:Nat}{w':World}(h:trI w W f j w'):trR w W w':=by
 unfold trI at h
 split at h
 ·exact h.1
 ·split at h
  ·exact h.1
  ·exact h.1
abbrev trZ(w:World):Nat->Option Addr->Prop:=fun m A=>Off w.heap.size m A/\Off (w.heap.size+1) m A
theorem tr_take0{w W:World}{n:Nat}{f:Bf}(H:TrW w W)(hn:n<=140737488355328):
  Takes (.func (.func 202) #[] #[.pointer (some ⟨w.heap.size+1+1+1,0,none⟩)]) n f (puE n f 3) 0 (puO f 3) (trI0 w W) (trI1 w W f) (trJ w W) (trZ w):=by
 refine ⟨_,_,rfl,entr (fn:=Tryz.f202) (by kernel_rfl) (by kernel_rfl) (by kernel_rfl),fun w1 A c ⟨hr,hg,hc⟩ hs hz=>?_⟩
 rw[Nat.sub_zero,offF_zero] at hs;rw[Nat.sub_zero] at hz ⊢;have hcase:∀ j,j<3->(j=0\/j=1\/j=2):=fun j hj=>by omega
 refine (nto_any _ n c 3 3 A _ f (th3 (w.heap.size+1) w.heap.size w.heap.size) (th3 0 1 2) w1 (hr.row H.r1 (by omega)) (hr.slG H.rp (by omega) fun i hi=>?_) (fun j hj _ a ha e=>?_) (fun j hj=>?_) hs (fun j hj=>?_) hn (by omega) (by omega)).mono ?_
 ·rcases hcase i hi with rfl|rfl|rfl<;>rfl
 ·obtain rfl:=Option.some.inj ha
  rcases hcase j hj with rfl|rfl|rfl
  ·simp[th3] at e
  ·have e':w.heap.size+1+1=w.heap.size:=e
   omega
  ·have e':w.heap.size+1+1=w.heap.size:=e
   omega
 ·rcases hcase j hj with rfl|rfl|rfl
  ·exact ⟨zK hc,_,hc,by show 0<1;omega⟩
  ·exact ⟨zK hg,_,hg,by show 1<4;omega⟩
  ·exact ⟨zK hg,_,hg,by show 2<4;omega⟩
 ·rcases hcase j hj with rfl|rfl|rfl
  ·exact hz.2
  ·exact hz.1
  ·exact hz.1
 have hh:∀ i,i<3->(th3 (w.heap.size+1) w.heap.size w.heap.size i=w.heap.size\/th3 (w.heap.size+1) w.heap.size w.heap.size i=w.heap.size+1):=fun i hi=>by
  rcases hcase i hi with rfl|rfl|rfl
  ·exact .inr rfl
  ·exact .inl rfl
  ·exact .inl rfl
 have hl:∀ i,i<3->w.heap.size<=th3 (w.heap.size+1) w.heap.size w.heap.size i:=fun i hi=>by have:=hh i hi;omega
 rintro e w2 (⟨h1,h2,i,y,hi,h4⟩|⟨h1,v,h2,h3,h4⟩)
 ·obtain ⟨cs,r,hs4⟩:=h4.rows hg
  exact .inl ⟨h1,⟨_,h2⟩,hr.wrts h4 (fun k hk=>hh k (by omega)) (fun k hk=>hl k (by omega)),cs,r,hs4⟩
 ·obtain ⟨A2,c2,rfl,hs2,-,-⟩:=h4.sl
  refine .inr ⟨h1,A2,c2,h2,hs2,⟨off_own h4 (zK hg),off_own h4 (zK hc)⟩,hr.wrts h3 hh hl,?_⟩;obtain ⟨w5,⟨w4,⟨w7,k0,k1⟩,k2⟩,k3⟩:=h3;have k0':w7=w1:=k0;subst k0';have g1:row w4 w.heap.size=_:=k1.other hg (by show w.heap.size≠w.heap.size+1;omega)
  have c1:row w4 (w.heap.size+1)=_:=k1.row hc;have g2:row w5 w.heap.size=_:=k2.row g1;have c2:row w5 (w.heap.size+1)=_:=k2.other c1 (by show w.heap.size+1≠w.heap.size;omega)
  exact ⟨k3.row g2,k3.other c2 (by show w.heap.size+1≠w.heap.size;omega)⟩
theorem tr_take1{w W:World}{n:Nat}{f:Bf}(H:TrW w W)(hn:n<=140737488355328):
  Takes (.func (.func 203) #[] #[.pointer (some ⟨w.heap.size+1+1+1+1,0,none⟩)]) n f (ttE (n-trO f 1) 4096 (offF f (trO f 1))) (trO f 1) (trO f 2) (trI1 w W f) (trI2 w W f) (trJ w W) (trZ w):=by
 refine ⟨_,_,rfl,entr (fn:=Tryz.f203) (by kernel_rfl) (by kernel_rfl) (by kernel_rfl),fun w1 A c ⟨hr,hg,hcd⟩ hs hz=>?_⟩
 refine (tto_any _ (n-trO f 1) c w.heap.size 3 A (offF f (trO f 1)) w1 (by omega) (hr.row H.r2 (by omega)) ⟨_,hg,by show 3<4;omega⟩ hs (by omega)).mono ?_
 have hlt:=zK hg;have hlc:=zK hcd;rintro e w2 (⟨h1,h2,h3⟩|⟨h1,A',c',v,h2,h3,h4,h5⟩)
 ·exact .inl ⟨h1,⟨_,h2⟩,hr.wrt h3 (.inl rfl) (by omega),_,h3.row hg,by simp⟩
 ·rw[Nat.sub_sub,Nat.sub_sub,yY,show trO f 1+(tkL (offF f (trO f 1))+tkV (offF f (trO f 1)))=trO f 2 from rfl] at h5
  rw[yY] at h4;obtain ⟨A2,c2,rfl,hs2,-,-⟩:=h5.sl;refine .inr ⟨h1,A2,c2,h2,hs2,⟨off_own h5 hlt,off_own h5 hlc⟩,hr.wrt h3 (.inl rfl) (by omega),A',c',h3.row hg,h3.other hcd (by omega),?_,fun k hk=>off_own h4 (by omega)⟩
  obtain ⟨A3,c3,e3,hs3,-,-⟩:=h4.sl;injection e3 with e1 e2 e4
  subst e1 e4;exact hs3
theorem size4{cs:Array Value}(h:cs.size=4):∃ a b c d,cs=#[a,b,c,d]:=by
 obtain ⟨l⟩:=cs;rcases l with _|⟨a,_|⟨b,_|⟨c,_|⟨d,_|⟨x,r⟩⟩⟩⟩⟩
 all_goals first|(simp at h;done)|skip
 exact ⟨a,b,c,d,rfl⟩
theorem takerep_new(n c:Nat)(A:Option Addr)(f:Bf)(w:World)(hs:Sl w w.heap.size A n c f)(hn:n<=140737488355328):
  Calls Tryz.prog 115 #[.slice A n c] w (trQ n f w):=by
 have HS:=Lib.hid hs;clear hs;go_enter Tryz.func115,Tryz.ntmps115;go_wp2_with fail;refine (mknto_any 3 3 _ _).mono ?_;rintro e w1 ⟨rfl,rfl⟩;go_wp2_with fail;refine (mktto_any _ 3 _).mono ?_;rintro e w1 ⟨rfl,rfl⟩;go_wp2_with fail
 have HW:=Lib.hid (show TrW w ((((((w.alloc (.cells #[.int .i64 0,.int .i64 0,.int .i64 0,.slice none 0 0] 33)).alloc (.cells #[.int .i64 0] 3)).alloc (.cells #[.pointer (some ⟨w.heap.size+1,0,none⟩),.pointer (some ⟨w.heap.size,1,none⟩),.pointer (some ⟨w.heap.size,2,none⟩)] 239)).alloc (.cells #[.slice (some ⟨w.heap.size+1+1,0,none⟩) 3 3] 278)).alloc (.cells #[.pointer (some ⟨w.heap.size,3,none⟩)] 241)).alloc (.cells #[.func (.func 202) #[] #[.pointer (some ⟨w.heap.size+1+1+1,0,none⟩)],.func (.func 203) #[] #[.pointer (some ⟨w.heap.size+1+1+1+1,0,none⟩)]] 237)) from by
  refine ⟨?_,?_,?_,?_,?_,?_,?_⟩
  ·exact ((((((Below.refl _ _).alloc (by simp) _).alloc (by simp) _).alloc (by simp;omega) _).alloc (by simp;omega) _).alloc (by simp;omega) _).alloc (by simp;omega) _
  ·exact zN (zN (zN (zN (zN (zA _ _ _ _ rfl) _) _) _) _) _
  ·exact zN (zN (zN (zN (zA _ _ _ _ (by simp)) _) _) _) _
  ·exact zN (zN (zN (zA _ _ _ _ (by simp)) _) _) _
  ·exact zN (zN (zA _ _ _ _ (by simp)) _) _
  ·exact zN (zA _ _ _ _ (by simp)) _
  ·exact zA _ _ _ _ (by simp))
 obtain ⟨W,hW⟩:∃ W,W=((((((w.alloc (.cells #[.int .i64 0,.int .i64 0,.int .i64 0,.slice none 0 0] 33)).alloc (.cells #[.int .i64 0] 3)).alloc (.cells #[.pointer (some ⟨w.heap.size+1,0,none⟩),.pointer (some ⟨w.heap.size,1,none⟩),.pointer (some ⟨w.heap.size,2,none⟩)] 239)).alloc (.cells #[.slice (some ⟨w.heap.size+1+1,0,none⟩) 3 3] 278)).alloc (.cells #[.pointer (some ⟨w.heap.size,3,none⟩)] 241)).alloc (.cells #[.func (.func 202) #[] #[.pointer (some ⟨w.heap.size+1+1+1,0,none⟩)],.func (.func 203) #[] #[.pointer (some ⟨w.heap.size+1+1+1+1,0,none⟩)]] 237)):=⟨_,rfl⟩;rw[<-hW] at HW ⊢;clear hW
 have HD:=Lib.hid (decode_any 2 n c 2 A (some ⟨w.heap.size+1+1+1+1+1,0,none⟩) (th2 (.func (.func 202) #[] #[.pointer (some ⟨w.heap.size+1+1+1,0,none⟩)]) (.func (.func 203) #[] #[.pointer (some ⟨w.heap.size+1+1+1+1,0,none⟩)])) f (trS n f) (trO f) (trI w W f) (trJ w W) (trZ w) W rfl
  ⟨Rs.start HW.out.b,HW.out.rb,HW.out.rg⟩ ((HS.out.below HW.out.b).more HW.out.b.size) ⟨HS.out.off (Nat.le_refl _),HS.out.off (by omega)⟩
  (fun j w' h=>(trI_rs h).slG HW.out.rq (by omega) fun i hi=>by
   have:i=0\/i=1:=by omega
   rcases this with rfl|rfl<;>rfl)
  (fun j hj=>by
   have:j=0\/j=1:=by omega
   rcases this with rfl|rfl
   ·exact tr_take0 HW.out hn
   ·exact tr_take1 HW.out hn) (by omega))
 clear HW HS hn;refine HD.out.mono ?_;clear HD;rintro e w1 (⟨h1,rfl,hJ,cs,hcs,h4⟩|⟨h1,A2,c2,rfl,hs2,hz2,hI⟩)
 ·have HZ:=Lib.hid (show trE n f≠0 from h1)
  have B1:=Lib.hid hJ.low;obtain ⟨a,b,d,e,rfl⟩:=size4 h4;have RB:=Lib.hid hcs;obtain ⟨Y,hY⟩:∃ Y,Y=trE n f:=⟨_,rfl⟩;rw[show ((fiE (trS n f) 2:Nat):Int)=(Y:Int) by rw[hY];rfl]
  have hne:((Y:Int) !=0)=true:=by have:=HZ.out;rw[<-hY] at this;simp;omega
  have HY:=Lib.hid hY;clear h1 hJ hcs h4 hY;obtain ⟨c0,c1,c2,c3⟩:=yD RB.out;have z0:=zJ RB.out 0;have z1:=zJ RB.out 1;have z2:=zJ RB.out 2;have z3:=zJ RB.out 3;go_wp2_with fail;rw[set4 RB.out];exact bodyPost_ret (v:=.tuple #[repZ,.slice none 0 0,.int .i64 Y]) (xF Tryz.results115 _ _ w.heap.size _ _ rfl (zE RB.out _) Tryz.underlying33 rfl (by kernel_rfl)) rfl (.inl ⟨HZ.out,by rw[<-HY.out],zG B1.out (Nat.le_refl _) _⟩)
 ·obtain ⟨hJ,Ad,cd,hg,hc,hd,hdo⟩:trI2 w W f w1:=hI
  have HZ:=Lib.hid (show trE n f=0 from h1)
  have B1:=Lib.hid hJ.low;have RB:=Lib.hid hg;have RC:=Lib.hid hc;have HD:=Lib.hid (And.intro hd hdo);have HS2:=Lib.hid (And.intro hs2 hz2.1);obtain ⟨T,hT⟩:∃ T,T=trT f:=⟨_,rfl⟩;obtain ⟨M,hM⟩:∃ M,M=n-trO f 2:=⟨_,rfl⟩;obtain ⟨x0,hx0⟩:∃ x,x=puX f 0:=⟨_,rfl⟩;obtain ⟨x1,hx1⟩:∃ x,x=puX f 1:=⟨_,rfl⟩;obtain ⟨x2,hx2⟩:∃ x,x=puX f 2:=⟨_,rfl⟩;rw[<-hT,<-hx1,<-hx2] at RB;rw[<-hx0] at RC;rw[<-hM];have HX:=Lib.hid (And.intro hx0 (And.intro hx1 (And.intro hx2 (And.intro hT hM))));clear h1 hJ hg hc hd hdo hs2 hz2 hT hM hx0 hx1 hx2;obtain ⟨c0,c1,c2',c3⟩:=yD RB.out;have cc:=box_cell1 RC.out;have z0:=zJ RB.out 0;have z1:=zJ RB.out 1;have z2:=zJ RB.out 2;have z3:=zJ RB.out 3;go_wp2_with fail;have RB2:row (w1.setCell ⟨w.heap.size,0,none⟩ (.int .i64 (x0:Int))) w.heap.size=some #[.int .i64 (x0:Int),.int .i64 (x1:Int),.int .i64 (x2:Int),.slice Ad T cd]:=by rw[zL RB.out];exact zE RB.out _
  rw[set4 RB2];obtain ⟨e0,e1,e2,eT,eM⟩:=HX.out
  have hp:Put w.heap.size #[.int .i64 (x0:Int),.int .i64 (x1:Int),.int .i64 (x2:Int),.slice Ad T cd] w1 ((w1.setCell ⟨w.heap.size,0,none⟩ (.int .i64 (x0:Int))).setRow w.heap.size #[.int .i64 (x0:Int),.int .i64 (x1:Int),.int .i64 (x2:Int),.slice Ad T cd]):=by
   rw[zL RB.out,setRow_setRow];exact Put.of (Below.refl _ _) (zK RB.out) _
  refine bodyPost_ret (v:=.tuple #[repV (x0:Int) (x1:Int) (x2:Int) (.slice Ad T cd),.slice A2 M c2,.int .i64 0]) (xF Tryz.results115 _ _ w.heap.size _ _ rfl (zE RB2 _) Tryz.underlying33 rfl (by kernel_rfl)) rfl (.inr ⟨HZ.out,Ad,cd,A2,c2,by rw[e0,e1,e2,eT,eM],?_,?_,B1.out.trans (hp.low (Nat.le_refl _) B1.out.size),fun k hk=>HD.out.2 k (Nat.le_of_lt hk)⟩)
  ·exact (hp.sl HD.out.1 (Nat.le_refl _) (HD.out.2 _ (Nat.le_refl _))).more hp.size
  ·exact (hp.sl HS2.out.1 (Nat.le_refl _) HS2.out.2).more hp.size
section
variable (w W:World) (f:Bf)
end
theorem repE_neg{x n m:Int}{T:Nat}(h:x<0\/n<0\/m<0):repE x n m T=1:=by
 have h1:nuE (repN x n m) 3=1:=nuE_of_neg (by
  rcases h with h|h|h
  ·exact ⟨0,by omega,h⟩
  ·exact ⟨1,by omega,h⟩
  ·exact ⟨2,by omega,h⟩)
 unfold repE;have e:=yN (E:=th2 (nuE (repN x n m) 3) (txE T)) (n:=2) (j:=0) rfl (by omega) (by show nuE (repN x n m) 3≠0;omega)
 rw[e];exact h1
theorem repE_pos{x n m:Int}{T:Nat}(h0:0<=x)(h1:0<=n)(h2:0<=m):repE x n m T=txE T:=by
 have h1:nuE (repN x n m) 3=0:=nuE_of_pos fun j hj=>by
  have:j=0\/j=1\/j=2:=by omega
  rcases this with rfl|rfl|rfl
  ·exact h0
  ·exact h1
  ·exact h2
 unfold repE;exact xB (E:=th2 (nuE (repN x n m) 3) (txE T)) (j:=1) ((xB (E:=th2 (nuE (repN x n m) 3) (txE T)) (j:=0) rfl).trans h1)
theorem rreply_any(x n m:Int)(T c:Nat)(A:Option Addr)(f:Bf)(w:World)(hf:Sl w w.heap.size A T c f)(hb:∀ j,-9223372036854775808<=repN x n m j/\repN x n m j<9223372036854775808):
  Calls Tryz.prog 101 #[repV x n m (.slice A T c)] w (ptP (repE x n m T) 0 (repL x n m T) nF (repF x n m T f) w):=by
 have R0:=Lib.hid (show row (w.alloc (.cells #[.int .i64 x,.int .i64 n,.int .i64 m,.slice A T c] 33)) w.heap.size=some #[.int .i64 x,.int .i64 n,.int .i64 m,.slice A T c] from zA _ _ _ _ rfl)
 have B0:=Lib.hid (show Below w.heap.size w (w.alloc (.cells #[.int .i64 x,.int .i64 n,.int .i64 m,.slice A T c] 33)) from (Below.refl _ _).alloc (by simp) _)
 have hz0:w.heap.size<=(w.alloc (.cells #[.int .i64 x,.int .i64 n,.int .i64 m,.slice A T c] 33)).heap.size:=by simp
 have HF:=Lib.hid ((hf.below B0.out).more hz0);obtain ⟨E,hE⟩:∃ E,E=repE x n m T:=⟨_,rfl⟩;rw[<-hE];have HE:=Lib.hid hE;have HB0:=Lib.hid (hb 0);have HB1:=Lib.hid (hb 1);have HB2:=Lib.hid (hb 2);clear hf hb hE;go_enter Tryz.func101,Tryz.ntmps101
 by_cases h0:x<0
 ·have hd:decide (x<0)=true:=by simp;omega
  have F:=Lib.hid (show E=1 by rw[HE.out];exact repE_neg (.inl h0))
  clear h0;go_wp2_with fail;exact bodyPost_ret (v:=.tuple #[.slice none 0 0,.int .i64 1]) (by simp[results,Tryz.results101,go_sem]) rfl (.inl ⟨by rw[F.out];omega,by rw[F.out];rfl,B0.out⟩)
 ·have hd:decide (x<0)=false:=by simp;omega
  by_cases h1:n<0
  ·have hd1:decide (n<0)=true:=by simp;omega
   have F:=Lib.hid (show E=1 by rw[HE.out];exact repE_neg (.inr (.inl h1)))
   clear h0 h1;go_wp2_with fail;exact bodyPost_ret (v:=.tuple #[.slice none 0 0,.int .i64 1]) (by simp[results,Tryz.results101,go_sem]) rfl (.inl ⟨by rw[F.out];omega,by rw[F.out];rfl,B0.out⟩)
  ·have hd1:decide (n<0)=false:=by simp;omega
   by_cases h2:m<0
   ·have hd2:decide (m<0)=true:=by simp;omega
    have F:=Lib.hid (show E=1 by rw[HE.out];exact repE_neg (.inr (.inr h2)))
    clear h0 h1 h2;go_wp2_with fail;exact bodyPost_ret (v:=.tuple #[.slice none 0 0,.int .i64 1]) (by simp[results,Tryz.results101,go_sem]) rfl (.inl ⟨by rw[F.out];omega,by rw[F.out];rfl,B0.out⟩)
   ·have hd2:decide (m<0)=false:=by simp;omega
    have HE2:=Lib.hid (show E=txE T by rw[HE.out];exact repE_pos (by omega) (by omega) (by omega))
    by_cases hT:4096<T
    ·have hdT:decide (4096<(T:Int))=true:=by simp;omega
     have F:=Lib.hid (show E=2 by rw[HE2.out];unfold txE;rw[if_pos hT])
     clear h0 h1 h2 hT;go_wp2_with fail;exact bodyPost_ret (v:=.tuple #[.slice none 0 0,.int .i64 2]) (by simp[results,Tryz.results101,go_sem]) rfl (.inl ⟨by rw[F.out];omega,by rw[F.out];rfl,B0.out⟩)
    ·have hdT:decide (4096<(T:Int))=false:=by simp;omega
     have F:=Lib.hid (show E=0 by rw[HE2.out];unfold txE;rw[if_neg hT])
     obtain ⟨a,rfl⟩:∃ a:Nat,x=a:=⟨x.toNat,by omega⟩
     obtain ⟨b,rfl⟩:∃ a:Nat,n=a:=⟨n.toNat,by omega⟩
     obtain ⟨d,rfl⟩:∃ a:Nat,m=a:=⟨m.toNat,by omega⟩
     have ha:a<9223372036854775808:=by have:=HB0.out.2;unfold repN at this;simp at this;omega
     have hb:b<9223372036854775808:=by have:=HB1.out.2;unfold repN at this;simp at this;omega
     have hdd:d<9223372036854775808:=by have:=HB2.out.2;unfold repN at this;simp at this;omega
     have hT4:T<=4096:=by omega
     clear h0 h1 h2 hT HB0 HB1 HB2 HE HE2 hd hd1 hd2;have na:decide ((a:Int)<0)=false:=by simp
     have nb:decide ((b:Int)<0)=false:=by simp
     have nd:decide ((d:Int)<0)=false:=by simp
     have H1:=Lib.hid (rput_any a 0 0 none nF (w.alloc (.cells #[.int .i64 a,.int .i64 b,.int .i64 d,.slice A T c] 33)) (Sl.nothing _ _ _ _ _) (by omega) ha)
     go_wp2_with fail;refine H1.out.mono ?_;rintro e w1 ⟨v1,rfl,ho,hb1⟩;rw[Nat.zero_add,yH] at ho;obtain ⟨A1,c1',hv1,hs1,-,-⟩:=ho.sl;subst hv1;have B1:=Lib.hid (onto B0.out hz0 hb1);have R1:=Lib.hid (zD hb1 R0.out);have F1:=Lib.hid ((HF.out.below hb1).more hb1.size);have hla:=encL_le a;have H2:=Lib.hid (rput_any b (encL a) c1' A1 (encF a) w1 hs1 (by omega) hb)
     clear ho hs1 hb1 H1 B0 R0 HF;obtain ⟨c0,c1,c2,c3⟩:=yD R1.out;go_wp2_with fail;refine H2.out.mono ?_;rintro e w2 ⟨v2,rfl,ho,hb2⟩;obtain ⟨A2,c2',hv2,hs2,-,-⟩:=ho.sl;subst hv2;have B2:=Lib.hid (onto B1.out B1.out.size hb2);have R2:=Lib.hid (zD hb2 R1.out);have F2:=Lib.hid ((F1.out.below hb2).more hb2.size);have hlb:=encL_le b;have H3:=Lib.hid (rput_any d (encL a+encL b) c2' A2 _ w2 hs2 (by omega) hdd)
     clear ho hs2 hb2 H2 B1 R1 F1 c0 c1 c2 c3;obtain ⟨c0,c1,c2,c3⟩:=yD R2.out;go_wp2_with fail;refine H3.out.mono ?_;rintro e w3 ⟨v3,rfl,ho,hb3⟩;obtain ⟨A3,c3',hv3,hs3,-,-⟩:=ho.sl;subst hv3;have B3:=Lib.hid (onto B2.out B2.out.size hb3);have R3:=Lib.hid (zD hb3 R2.out);have F3:=Lib.hid ((F2.out.below hb3).more hb3.size);have hld:=encL_le d;have H4:=Lib.hid (rputt_any (encL a+encL b+encL d) c3' T c A3 A _ f w3 hs3 F3.out (by omega) hT4)
     clear ho hs3 hb3 H3 B2 R2 F2 c0 c1 c2 c3;obtain ⟨c0,c1,c2,c3⟩:=yD R3.out;go_wp2_with fail;refine H4.out.mono ?_;rintro e w4 ⟨v4,rfl,ho,hb4⟩;have B4:=Lib.hid (onto B3.out B3.out.size hb4);have O4:=Lib.hid (ho.base B3.out.size);clear ho hb4 H4 c0 c1 c2 c3;go_wp2_with fail;refine bodyPost_ret (v:=.tuple #[v4,.int .i64 0]) (by simp[results,Tryz.results101,go_sem]) rfl (.inr ⟨F.out,_,rfl,?_,B4.out⟩)
     rw[Nat.zero_add,yH];have o:=O4.out
     have e1:nuL (repN (a:Int) b d) 3=encL a+encL b+encL d:=by
      show ((0+encL (a:Int).toNat)+encL (b:Int).toNat)+encL (d:Int).toNat=_;simp
     have e2:nuF (repN (a:Int) b d) 3=catF (encL a+encL b) (catF (encL a) (encF a) (encF b)) (encF d):=by
      show catF ((0+encL (a:Int).toNat)+encL (b:Int).toNat) (catF (0+encL (a:Int).toNat) (catF 0 nF (encF (a:Int).toNat)) (encF (b:Int).toNat)) (encF (d:Int).toNat)=_;simp only[Int.toNat_natCast,Nat.zero_add,yH]
     unfold repL repF;rw[e1,e2];exact o
def rtkP(n:Nat)(f:Bf)(j:Nat)(w:World)(e:Ending)(w':World):Prop:=
 (puS n f j≠0/\e=.returned (.tuple #[.int .i64 0,.slice none 0 0,.int .i64 (puS n f j:Nat)])/\Below w.heap.size w w')\/
 (puS n f j=0/\∃ A' c',e=.returned (.tuple #[.int .i64 (puX f j:Nat),.slice A' (n-puO f (j+1)) c',.int .i64 0])/\Sl w' w'.heap.size A' (n-puO f (j+1)) c' (offF f (puO f (j+1)))/\Below w.heap.size w w')
theorem rtk_any(j n c:Nat)(A:Option Addr)(f:Bf)(w:World)(hs:Sl w w.heap.size A (n-puO f j) c (offF f (puO f j)))(hn:n<=140737488355328):
  Calls Tryz.prog 119 #[.slice A (n-puO f j) c] w (rtkP n f j w):=by
 refine (rtake_num (n-puO f j) c A (offF f (puO f j)) w hs (by omega)).mono ?_
 rintro e w' (⟨h1,h2,h3⟩|⟨h1,v,h2,h3,h4⟩)
 ·exact .inl ⟨h1,h2,h3⟩
 ·rw[yY,Nat.sub_sub] at h3
  obtain ⟨A',c',rfl,hs',-,-⟩:=h3.sl;exact .inr ⟨h1,A',c',h2,hs',h4⟩
def rttP(n:Nat)(f:Bf)(o:Nat)(w:World)(e:Ending)(w':World):Prop:=
 (ttE (n-o) 4096 (offF f o)≠0/\e=.returned (.tuple #[.slice none 0 0,.slice none 0 0,.int .i64 (ttE (n-o) 4096 (offF f o):Nat)])/\Below w.heap.size w w')\/
 (ttE (n-o) 4096 (offF f o)=0/\∃ A c A' c',e=.returned (.tuple #[.slice A (tkV (offF f o)) c,.slice A' (n-txO f o) c',.int .i64 0])/\Sl w' w'.heap.size A (tkV (offF f o)) c (offF f (o+tkL (offF f o)))/\(∀ k,k<w.heap.size->Off k (tkV (offF f o)) A)/\Sl w' w'.heap.size A' (n-txO f o) c' (offF f (txO f o))/\(∀ k,k<w.heap.size->Off k (n-txO f o) A')/\Below w.heap.size w w')
theorem rtt_any(n c o:Nat)(A:Option Addr)(f:Bf)(w:World)(hs:Sl w w.heap.size A (n-o) c (offF f o))(hn:n<=140737488355328):
  Calls Tryz.prog 118 #[.slice A (n-o) c,.int .i64 4096] w (rttP n f o w):=by
 refine (rtaket_any (n-o) c 4096 A (offF f o) w hs (by omega)).mono ?_
 rintro e w' (⟨h1,h2,h3⟩|⟨h1,u,v,h2,h3,h5,h4⟩)
 ·exact .inl ⟨h1,h2,h3⟩
 ·rw[yY] at h3
  rw[yY,Nat.sub_sub,Nat.sub_sub,show o+(tkL (offF f o)+tkV (offF f o))=txO f o from rfl] at h5
  obtain ⟨A',c',rfl,hs',-,-⟩:=h3.sl;obtain ⟨A2,c2,rfl,hs2,-,-⟩:=h5.sl;exact .inr ⟨h1,A',c',A2,c2,h2,hs',fun k hk=>off_own h3 hk,hs2,fun k hk=>off_own h5 hk,h4⟩
theorem rtakerep_any(n c:Nat)(A:Option Addr)(f:Bf)(w:World)(hs:Sl w w.heap.size A n c f)(hn:n<=140737488355328):
  Calls Tryz.prog 61 #[.slice A n c] w (trP n f w):=by
 obtain ⟨w0,hw0⟩:∃ w0,w0=(w.alloc (.cells #[.int .i64 0,.int .i64 0,.int .i64 0,.slice none 0 0] 33)).alloc (.cells #[.int .i64 0,.int .i64 0,.int .i64 0,.slice none 0 0] 33):=⟨_,rfl⟩;have B0:=Lib.hid (show Below w.heap.size w w0 by rw[hw0];exact ((Below.refl _ _).alloc (by simp) _).alloc (by simp) _)
 have R0:=Lib.hid (show row w0 w.heap.size=some #[.int .i64 0,.int .i64 0,.int .i64 0,.slice none 0 0] by rw[hw0];exact zN (zA _ _ _ _ rfl) _)
 have Z0:=Lib.hid (show row w0 (w.heap.size+1)=some #[.int .i64 0,.int .i64 0,.int .i64 0,.slice none 0 0] by rw[hw0];exact zA _ _ _ _ (by simp))
 have hs0:Sl w0 w0.heap.size A (n-puO f 0) c (offF f (puO f 0)):=by
  rw[show puO f 0=0 from rfl,Nat.sub_zero,offF_zero]
  exact (hs.below B0.out).more B0.out.size
 have H0:=Lib.hid (rtk_any 0 n c A f w0 hs0 hn);rw[show n-puO f 0=n from Nat.sub_zero n] at H0
 clear hs hs0;go_enter Tryz.func61,Tryz.ntmps61;go_wp2_with fail;rw[<-hw0];clear hw0;refine H0.out.mono ?_;clear H0;rintro e w1 (⟨hz,rfl,hb⟩|⟨hz,A1,k1,rfl,hs1,hb⟩)
 ·have HE:=Lib.hid (show trE n f=puS n f 0 from by
    show fiE (trS n f) 2=_;have e1:puE n f 3=puS n f 0:=yN (rfl) (by omega) hz
    rw[<-e1]
    exact yN (E:=trS n f) (j:=0) rfl (by omega) (by show puE n f 3≠0;rw[e1];exact hz))
  have HZ:=Lib.hid hz;have B1:=Lib.hid (onto B0.out B0.out.size hb);have R1:=Lib.hid (zD hb R0.out);have ZZ:=zD hb Z0.out;obtain ⟨Y,hY⟩:∃ Y,Y=puS n f 0:=⟨_,rfl⟩;rw[show ((puS n f 0:Nat):Int)=(Y:Int) by rw[hY]]
  have hne:((Y:Int) !=0)=true:=by have:=HZ.out;rw[<-hY] at this;simp;omega
  have HY:=Lib.hid hY;clear hz hb hY;obtain ⟨c0,c1,c2,c3⟩:=yD R1.out;obtain ⟨d0,d1,d2,d3⟩:=yD ZZ;have z0:=zJ R1.out 0;have z1:=zJ R1.out 1;have z2:=zJ R1.out 2;have z3:=zJ R1.out 3;clear ZZ;go_wp2_with fail;rw[set4 R1.out];exact bodyPost_ret (v:=.tuple #[repZ,.slice none 0 0,.int .i64 Y]) (xF Tryz.results61 _ _ w.heap.size _ _ rfl (zE R1.out _) Tryz.underlying33 rfl (by kernel_rfl)) rfl (.inl ⟨by rw[HE.out];exact HZ.out,by rw[HE.out,HY.out],zG B1.out (Nat.le_refl _) _⟩)
 ·have q0:=Lib.hid hz
  have B1:=Lib.hid (onto B0.out B0.out.size hb);have R1:=Lib.hid (zD hb R0.out);have Z1:=Lib.hid (zD hb Z0.out);have H1:=Lib.hid (rtk_any 1 n k1 A1 f w1 hs1 hn);clear hz hb hs1 B0 R0 Z0;obtain ⟨x0,hx0⟩:∃ x,x=puX f 0:=⟨_,rfl⟩;rw[<-hx0];have X0:=Lib.hid hx0;clear hx0;obtain ⟨m1,hm1⟩:∃ m,m=n-puO f 1:=⟨_,rfl⟩;rw[<-hm1] at H1 ⊢;clear hm1;go_wp2_with fail;refine H1.out.mono ?_;clear H1;rintro e w2 (⟨hz,rfl,hb⟩|⟨hz,A2,k2,rfl,hs2,hb⟩)
  ·have HE:=Lib.hid (show trE n f=puS n f 1 from by
     show fiE (trS n f) 2=_
     have e1:puE n f 3=puS n f 1:=yN (fi_zero fun i hi=>by
      have:i=0:=by omega
      rcases this with rfl
      ·exact q0.out) (by omega) hz
     rw[<-e1]
     exact yN (E:=trS n f) (j:=0) rfl (by omega) (by show puE n f 3≠0;rw[e1];exact hz))
   have HZ:=Lib.hid hz;have B2:=Lib.hid (onto B1.out B1.out.size hb);have R2:=Lib.hid (zD hb R1.out);have ZZ:=zD hb Z1.out;obtain ⟨Y,hY⟩:∃ Y,Y=puS n f 1:=⟨_,rfl⟩;rw[show ((puS n f 1:Nat):Int)=(Y:Int) by rw[hY]]
   have hne:((Y:Int) !=0)=true:=by have:=HZ.out;rw[<-hY] at this;simp;omega
   have HY:=Lib.hid hY;clear hz hb hY;obtain ⟨c0,c1,c2,c3⟩:=yD R2.out;obtain ⟨d0,d1,d2,d3⟩:=yD ZZ;have z0:=zJ R2.out 0;have z1:=zJ R2.out 1;have z2:=zJ R2.out 2;have z3:=zJ R2.out 3;clear ZZ;go_wp2_with fail;rw[set4 R2.out];exact bodyPost_ret (v:=.tuple #[repZ,.slice none 0 0,.int .i64 Y]) (xF Tryz.results61 _ _ w.heap.size _ _ rfl (zE R2.out _) Tryz.underlying33 rfl (by kernel_rfl)) rfl (.inl ⟨by rw[HE.out];exact HZ.out,by rw[HE.out,HY.out],zG B2.out (Nat.le_refl _) _⟩)
  ·have q1:=Lib.hid hz
   have B2:=Lib.hid (onto B1.out B1.out.size hb);have R2:=Lib.hid (zD hb R1.out);have Z2:=Lib.hid (zD hb Z1.out);have H2:=Lib.hid (rtk_any 2 n k2 A2 f w2 hs2 hn);clear hz hb hs2 B1 R1 Z1;obtain ⟨x1,hx1⟩:∃ x,x=puX f 1:=⟨_,rfl⟩;rw[<-hx1];have X1:=Lib.hid hx1;clear hx1;obtain ⟨m2,hm2⟩:∃ m,m=n-puO f 2:=⟨_,rfl⟩;rw[<-hm2] at H2 ⊢;clear hm2;go_wp2_with fail;refine H2.out.mono ?_;clear H2;rintro e w3 (⟨hz,rfl,hb⟩|⟨hz,A3,k3,rfl,hs3,hb⟩)
   ·have HE:=Lib.hid (show trE n f=puS n f 2 from by
      show fiE (trS n f) 2=_
      have e1:puE n f 3=puS n f 2:=yN (fi_zero fun i hi=>by
       have:i=0\/i=1:=by omega
       rcases this with rfl|rfl
       ·exact q0.out
       ·exact q1.out) (by omega) hz
      rw[<-e1]
      exact yN (E:=trS n f) (j:=0) rfl (by omega) (by show puE n f 3≠0;rw[e1];exact hz))
    have HZ:=Lib.hid hz;have B3:=Lib.hid (onto B2.out B2.out.size hb);have R3:=Lib.hid (zD hb R2.out);have ZZ:=zD hb Z2.out;obtain ⟨Y,hY⟩:∃ Y,Y=puS n f 2:=⟨_,rfl⟩;rw[show ((puS n f 2:Nat):Int)=(Y:Int) by rw[hY]]
    have hne:((Y:Int) !=0)=true:=by have:=HZ.out;rw[<-hY] at this;simp;omega
    have HY:=Lib.hid hY;clear hz hb hY;obtain ⟨c0,c1,c2,c3⟩:=yD R3.out;obtain ⟨d0,d1,d2,d3⟩:=yD ZZ;have z0:=zJ R3.out 0;have z1:=zJ R3.out 1;have z2:=zJ R3.out 2;have z3:=zJ R3.out 3;clear ZZ;go_wp2_with fail;rw[set4 R3.out];exact bodyPost_ret (v:=.tuple #[repZ,.slice none 0 0,.int .i64 Y]) (xF Tryz.results61 _ _ w.heap.size _ _ rfl (zE R3.out _) Tryz.underlying33 rfl (by kernel_rfl)) rfl (.inl ⟨by rw[HE.out];exact HZ.out,by rw[HE.out,HY.out],zG B3.out (Nat.le_refl _) _⟩)
   ·have q2:=Lib.hid hz
    have B3:=Lib.hid (onto B2.out B2.out.size hb);have R3:=Lib.hid (zD hb R2.out);have Z3:=Lib.hid (zD hb Z2.out);have H3:=Lib.hid (rtt_any n k3 (puO f 3) A3 f w3 hs3 hn)
    have Q:=Lib.hid (show puE n f 3=0 from fi_zero fun i hi=>by
     have:i=0\/i=1\/i=2:=by omega
     rcases this with rfl|rfl|rfl
     ·exact q0.out
     ·exact q1.out
     ·exact q2.out)
    clear hz hb hs3 B2 R2 Z2;obtain ⟨x2,hx2⟩:∃ x,x=puX f 2:=⟨_,rfl⟩;rw[<-hx2];have X2:=Lib.hid hx2;clear hx2;obtain ⟨m3,hm3⟩:∃ m,m=n-puO f 3:=⟨_,rfl⟩;rw[<-hm3] at H3 ⊢;clear hm3;go_wp2_with fail;refine H3.out.mono ?_;clear H3;rintro e w4 (⟨hz,rfl,hb⟩|⟨hz,At,kt,A4,k4,rfl,hst,hot,hs4,hos,hb⟩)
    ·have HE:=Lib.hid (show trE n f=ttE (n-puO f 3) 4096 (offF f (puO f 3)) from by
       show fiE (trS n f) 2=_
       exact yN (E:=trS n f) (j:=1) ((xB (E:=trS n f) (j:=0) rfl).trans Q.out) (by omega) hz)
     have HZ:=Lib.hid hz;have B4:=Lib.hid (onto B3.out B3.out.size hb);have R4:=Lib.hid (zD hb R3.out);have ZZ:=zD hb Z3.out;obtain ⟨Y,hY⟩:∃ Y,Y=ttE (n-puO f 3) 4096 (offF f (puO f 3)):=⟨_,rfl⟩;rw[show ((ttE (n-puO f 3) 4096 (offF f (puO f 3)):Nat):Int)=(Y:Int) by rw[hY]]
     have hne:((Y:Int) !=0)=true:=by have:=HZ.out;rw[<-hY] at this;simp;omega
     have HY:=Lib.hid hY;clear hz hb hY;obtain ⟨c0,c1,c2,c3⟩:=yD R4.out;obtain ⟨d0,d1,d2,d3⟩:=yD ZZ;have z0:=zJ R4.out 0;have z1:=zJ R4.out 1;have z2:=zJ R4.out 2;have z3:=zJ R4.out 3;clear ZZ;go_wp2_with fail;rw[set4 R4.out];exact bodyPost_ret (v:=.tuple #[repZ,.slice none 0 0,.int .i64 Y]) (xF Tryz.results61 _ _ w.heap.size _ _ rfl (zE R4.out _) Tryz.underlying33 rfl (by kernel_rfl)) rfl (.inl ⟨by rw[HE.out];exact HZ.out,by rw[HE.out,HY.out],zG B4.out (Nat.le_refl _) _⟩)
    ·have HE:=Lib.hid (show trE n f=0 from (xB (E:=trS n f) (j:=1) ((xB (E:=trS n f) (j:=0) rfl).trans Q.out)).trans hz)
     have B4:=Lib.hid (onto B3.out B3.out.size hb);have R4:=Lib.hid (zD hb R3.out);have hb3:=B3.out.size;have hl3:=zK R3.out;have HT:=Lib.hid (And.intro hst (hot w.heap.size hl3));have HS:=Lib.hid (And.intro hs4 (hos w.heap.size hl3));clear hz hb hst hot hs4 hos B3 R3 Z3 hb3 hl3;obtain ⟨c0,c1,c2,c3⟩:=yD R4.out;have z0:=zJ R4.out 0;have z1:=zJ R4.out 1;have z2:=zJ R4.out 2;have z3:=zJ R4.out 3;obtain ⟨T,hT⟩:∃ T,T=tkV (offF f (puO f 3)):=⟨_,rfl⟩;obtain ⟨M,hM⟩:∃ M,M=n-txO f (puO f 3):=⟨_,rfl⟩;rw[<-hT,<-hM];have HX:=Lib.hid (And.intro hT hM);clear hT hM;go_wp2_with fail;rw[set4 R4.out];have hp:Put w.heap.size #[.int .i64 (x0:Int),.int .i64 (x1:Int),.int .i64 (x2:Int),.slice At T kt] w4 (w4.setRow w.heap.size #[.int .i64 (x0:Int),.int .i64 (x1:Int),.int .i64 (x2:Int),.slice At T kt]):=Put.of (Below.refl _ _) (zK R4.out) _;refine bodyPost_ret (v:=.tuple #[repV (x0:Int) (x1:Int) (x2:Int) (.slice At T kt),.slice A4 M k4,.int .i64 0]) (xF Tryz.results61 _ _ w.heap.size _ _ rfl (zE R4.out _) Tryz.underlying33 rfl (by kernel_rfl)) rfl (.inr ⟨HE.out,At,kt,A4,k4,by rw[X0.out,X1.out,X2.out,HX.out.1,HX.out.2];rfl,?_,?_,zG B4.out (Nat.le_refl _) _⟩)
     ·exact (hp.sl HT.out.1 (Nat.le_refl _) HT.out.2).more hp.size
     ·exact (hp.sl HS.out.1 (Nat.le_refl _) HS.out.2).more hp.size
theorem cuL_congr{L L':Nat->Nat}:∀ {j:Nat},(∀ i,i<j->L i=L' i)->cuL L j=cuL L' j
 |0,_=>rfl
 |j+1,h=>by simp only[cuL];rw[cuL_congr (j:=j) fun i hi=>h i (by omega),h j (by omega)]
theorem cuF_congr{L L':Nat->Nat}{F F':Nat->Bf}:∀ {j:Nat},(∀ i,i<j->L i=L' i)->(∀ i,i<j->F i=F' i)->cuF L F j=cuF L' F' j
 |0,_,_=>rfl
 |j+1,h,h'=>by simp only[cuF];rw[cuL_congr (j:=j) fun i hi=>h i (by omega),cuF_congr (j:=j) (fun i hi=>h i (by omega)) (fun i hi=>h' i (by omega)),h' j (by omega)]
theorem nuL_congr{x y:Nat->Int}{j:Nat}(h:∀ i,i<j->x i=y i):nuL x j=nuL y j:=cuL_congr fun i hi=>by rw[h i hi]
theorem nuF_congr{x y:Nat->Int}{j:Nat}(h:∀ i,i<j->x i=y i):nuF x j=nuF y j:=cuF_congr (fun i hi=>by rw[h i hi]) (fun i hi=>by rw[h i hi])
theorem cat_pre{a b:Nat}{F G f:Bf}(h1:∀ i,i<a->F i=f i)(h2:∀ i,i<b->G i=offF f a i):∀ i,i<a+b->catF a F G i=f i:=fun i hi=>by
 unfold catF
 by_cases h:i<a
 ·rw[if_pos h,h1 i h]
 ·rw[if_neg h,h2 (i-a) (by omega)]
  unfold offF;rw[show a+(i-a)=i by omega]
theorem once_nu{n:Nat}{f:Bf}:∀ j,puE n f j=0->nuL (fun i=>(puX f i:Nat)) j=puO f j/\∀ i,i<puO f j->nuF (fun i=>(puX f i:Nat)) j i=f i
 |0,_=>⟨rfl,fun i hi=>by simp[puO] at hi⟩
 |j+1,h=>by
  obtain ⟨e1,e2⟩:=once_nu j (fi_all h j (by omega))
  obtain ⟨e3,e4⟩:=enc_tk (n:=n-puO f j) (f:=offF f (puO f j)) (fi_each h j (by omega))
  have k1:nuL (fun i=>(puX f i:Nat)) (j+1)=puO f j+tkL (offF f (puO f j)):=by
   show cuL _ j+encL ((puX f j:Nat):Int).toNat=_;rw[show cuL (fun i=>encL ((fun i=>((puX f i:Nat):Int)) i).toNat) j=puO f j from e1,Int.toNat_natCast]
   exact congrArg (puO f j+·) e3
  refine ⟨k1,?_⟩;show ∀ i,i<puO f j+tkL (offF f (puO f j))->catF (cuL _ j) (cuF _ _ j) (encF ((puX f j:Nat):Int).toNat) i=f i;rw[show cuL (fun i=>encL ((fun i=>((puX f i:Nat):Int)) i).toNat) j=puO f j from e1,Int.toNat_natCast]
  exact cat_pre e2 fun i hi=>e4 i hi
theorem once_tx{n:Nat}{m:Int}{f:Bf}(h:ttE n m f=0):txL (tkV f)=tkL f+tkV f/\∀ i,i<tkL f+tkV f->txF (tkV f) (offF f (tkL f)) i=f i:=by
 obtain ⟨h0,_,_⟩:=tt_le h;obtain ⟨e3,e4⟩:=enc_tk h0;refine ⟨by unfold txL;rw[e3],?_⟩
 unfold txF;rw[e3];exact cat_pre e4 fun i hi=>rfl
theorem repN_pu(f:Bf)(j:Nat)(hj:j<3):repN (puX f 0:Nat) (puX f 1:Nat) (puX f 2:Nat) j=(puX f j:Nat):=by
 have:j=0\/j=1\/j=2:=by omega
 rcases this with rfl|rfl|rfl<;>rfl
theorem once_rep{n:Nat}{f:Bf}(h:trE n f=0):repL (puX f 0:Nat) (puX f 1:Nat) (puX f 2:Nat) (trT f)=trO f 2/\
  (∀ i,i<trO f 2->repF (puX f 0:Nat) (puX f 1:Nat) (puX f 2:Nat) (trT f) (trF f) i=f i)/\trO f 2<=n:=by
 have q0:puE n f 3=0:=fi_each h 0 (by omega)
 have q1:ttE (n-trO f 1) 4096 (offF f (trO f 1))=0:=fi_each h 1 (by omega)
 obtain ⟨a1,a2⟩:=once_nu 3 q0;obtain ⟨b1,b2⟩:=once_tx q1;have l0:=puO_le 3 q0;have l1:=(tt_le q1).2.2;rw[<-nuL_congr fun j hj=>repN_pu f j hj] at a1
 rw[<-nuF_congr fun j hj=>repN_pu f j hj] at a2
 have o1:trO f 1=puO f 3:=rfl;have o2:trO f 2=trO f 1+(tkL (offF f (trO f 1))+tkV (offF f (trO f 1))):=rfl;rw[yY] at b2;have e2:=cat_pre (F:=nuF (repN (puX f 0:Nat) (puX f 1:Nat) (puX f 2:Nat)) 3) a2 (fun i hi=>b2 i hi)
 unfold repL repF trT trF;rw[a1,b1];refine ⟨by omega,?_,by omega⟩
 intro i hi;exact e2 i (by omega)
theorem back_nu{x:Nat->Int}{n c:Nat}{f:Bf}(hn:nuL x c<=n)(hx:∀ i,i<c->0<=x i/\x i<9223372036854775808)(hf:∀ i,i<nuL x c->f i=nuF x c i):
  ∀ j,j<=c->puE n f j=0/\puO f j=nuL x j/\∀ i,i<j->((puX f i:Nat):Int)=x i:=by
 intro j
 induction j with
 |zero=>exact fun _=>⟨rfl,rfl,fun i hi=>by omega⟩
 |succ j ih=>
  intro hj;obtain ⟨i1,i2,i3⟩:=ih (by omega)
  have hm:nuL x (j+1)<=nuL x c:=by
   have h:=cu_mono (fun i=>encL (x i).toNat) (j+1) (c-(j+1))
   rw[show j+1+(c-(j+1))=c by omega] at h
   exact h
  have hstep:nuL x (j+1)=nuL x j+encL (x j).toNat:=rfl
  obtain ⟨q1,q2,q3⟩:=tk_enc (x j).toNat (by have:=hx j (by omega);omega) (n-nuL x j) (offF f (nuL x j)) (by omega) (fun i hi=>by
   unfold offF;rw[hf _ (by omega)]
   exact cu_block (fun i=>encL (x i).toNat) (fun i=>encF (x i).toNat) j c i (by omega) hi)
  rw[<-i2] at q1 q2 q3;refine ⟨(xB i1).trans q1,?_,fun i hi=>?_⟩
  ·show puO f j+tkL (offF f (puO f j))=_
   rw[q3,i2,hstep]
  ·by_cases h:i=j
   ·subst h
    have hb:=hx i (by omega)
    show ((tkV (offF f (puO f i)):Nat):Int)=_;rw[q2];omega
   ·exact i3 i (by omega)
theorem back_tx{T n:Nat}{t f:Bf}(hn:txL T<=n)(hT:T<=4096)(hf:∀ i,i<txL T->f i=txF T t i):ttE n 4096 f=0/\tkV f=T/\tkL f=encL T/\∀ i,i<T->offF f (tkL f) i=t i:=by
 unfold txL at hn hf;obtain ⟨q1,q2,q3⟩:=tk_enc T (by omega) n f (by omega) (fun i hi=>by rw[hf i (by omega)];unfold txF catF;rw[if_pos hi])
 refine ⟨?_,q2,q3,fun i hi=>?_⟩
 ·unfold ttE
  rw[if_neg (fun h=>h q1),q2,q3,if_neg (by omega),if_neg (by omega)]
 ·rw[q3]
  unfold offF;rw[hf _ (by omega)]
  unfold txF catF;rw[if_neg (by omega),show encL T+i-encL T=i by omega]
theorem cat_left{a:Nat}{F G f:Bf}{b:Nat}(h:∀ i,i<a+b->f i=catF a F G i):∀ i,i<a->f i=F i:=fun i hi=>by rw[h i (by omega)];unfold catF;rw[if_pos hi]
theorem cat_right{a:Nat}{F G f:Bf}{b:Nat}(h:∀ i,i<a+b->f i=catF a F G i):∀ i,i<b->offF f a i=G i:=fun i hi=>by
 unfold offF;rw[h _ (by omega)]
 unfold catF;rw[if_neg (by omega),show a+i-a=i by omega]
theorem back_rep{x n m:Int}{T M:Nat}{d f:Bf}(hc:repE x n m T=0)(hb:∀ j,-9223372036854775808<=repN x n m j/\repN x n m j<9223372036854775808)(hM:repL x n m T<=M)(hf:∀ j,j<repL x n m T->f j=repF x n m T d j):
  trE M f=0/\((puX f 0:Nat):Int)=x/\((puX f 1:Nat):Int)=n/\((puX f 2:Nat):Int)=m/\trT f=T/\(∀ j,j<T->trF f j=d j)/\trO f 2=repL x n m T:=by
 have c0:nuE (repN x n m) 3=0:=fi_each (E:=th2 (nuE (repN x n m) 3) (txE T)) hc 0 (by omega)
 have c1:txE T=0:=fi_each (E:=th2 (nuE (repN x n m) 3) (txE T)) hc 1 (by omega)
 have hT:T<=4096:=by
  unfold txE at c1
  split at c1
  ·omega
  ·omega
 have hp:∀ j,j<3->0<=repN x n m j:=fun j hj=>by
  have:=fi_each c0 j hj;unfold neE at this
  split at this
  ·omega
  ·omega
 unfold repL at hM hf ⊢;unfold repF at hf;have f0:=cat_left hf;have f1:=cat_right hf;obtain ⟨e1,e2,e3⟩:=back_nu (n:=M) (by omega) (fun j hj=>⟨hp j hj,(hb j).2⟩) f0 3 (Nat.le_refl _)
 have o1:trO f 1=nuL (repN x n m) 3:=e2;rw[<-o1] at f1 hM ⊢;obtain ⟨g1,g2,g3,g4⟩:=back_tx (n:=M-trO f 1) (by omega) hT f1
 have o2:trO f 2=trO f 1+txL T:=by
  show trO f 1+(tkL (offF f (trO f 1))+tkV (offF f (trO f 1)))=_;rw[g2,g3];rfl
 refine ⟨fi_zero fun j hj=>?_,e3 0 (by omega),e3 1 (by omega),e3 2 (by omega),g2,fun j hj=>?_,o2⟩
 ·have:j=0\/j=1:=by omega
  rcases this with rfl|rfl
  ·exact e1
  ·exact g1
 ·have:=g4 j hj
  rw[yY] at this;exact this
theorem str_eqN{n m:Nat}{p q:Bf}(h:n≠m):xC n p≠xC m q:=fun e=>h (by
 have:=congrArg ByteArray.size e;rw[str_size,str_size] at this
 exact this)
theorem str_nelN{n m:Nat}{p q:Bf}(h:n≠m):((xC n p).toList==(xC m q).toList)=false:=by
 rw[beq_eq_false_iff_ne];intro e;rw[ByteArray.toList_eq,ByteArray.toList_eq] at e;refine str_eqN h ?_ (p:=p) (q:=q);generalize xC n p=x at e;generalize xC m q=y at e;cases x;cases y
 simp_all
def teqB(T T':Nat)(d d':Bf):Bool:=(xC T d).toList==(xC T' d').toList
theorem teq_iff{T T':Nat}{d d':Bf}:teqB T T' d d'=true↔T=T'/\∀ i,i<T->d i=d' i:=by
 by_cases h:T=T'
 ·subst h
  unfold teqB;rw[beq_iff_eq];constructor
  ·intro e
   rw[ByteArray.toList_eq,ByteArray.toList_eq] at e;refine ⟨rfl,str_inj ?_⟩;generalize xC T d=x at e ⊢;generalize xC T d'=y at e ⊢;cases x;cases y
   simp_all
  ·intro e
   rw[str_congr e.2]
 ·constructor
  ·intro e
   unfold teqB at e;rw[str_nelN h] at e;cases e
  ·intro e
   exact absurd e.1 h
def repS(x n m x' n' m':Int)(T T':Nat)(d d':Bf):Bool:=(x==x')&&((n==n')&&((m==m')&&teqB T T' d d'))
theorem samerep_any(x n m x' n' m':Int)(T T' c1 c3:Nat)(A1 A3:Option Addr)(d d':Bf)(w:World)(hd:Sl w w.heap.size A1 T c1 d)(hd':Sl w w.heap.size A3 T' c3 d'):
  Calls Tryz.prog 18 #[repV x n m (.slice A1 T c1),repV x' n' m' (.slice A3 T' c3)] w fun e w'=>e=.returned (.bool (repS x n m x' n' m' T T' d d'))/\Below w.heap.size w w':=by
 obtain ⟨w1,hw1⟩:∃ w1,w1=(w.alloc (.cells #[.int .i64 x,.int .i64 n,.int .i64 m,.slice A1 T c1] 33)).alloc (.cells #[.int .i64 x',.int .i64 n',.int .i64 m',.slice A3 T' c3] 33):=⟨_,rfl⟩;have bw:Below w.heap.size w w1:=by rw[hw1];exact ((Below.refl _ _).alloc (by simp) _).alloc (by simp) _
 have B1:=Lib.hid bw;have R1:=Lib.hid (show row w1 w.heap.size=some #[.int .i64 x,.int .i64 n,.int .i64 m,.slice A1 T c1] by rw[hw1];exact zN (zA _ _ _ _ rfl) _)
 have R2:=Lib.hid (show row w1 (w.heap.size+1)=some #[.int .i64 x',.int .i64 n',.int .i64 m',.slice A3 T' c3] by rw[hw1];exact zA _ _ _ _ (by simp))
 have cv1:=conv_sl (hd.below bw);have cv3:=conv_sl (hd'.below bw);obtain ⟨E,hE⟩:∃ E,E=repS x n m x' n' m' T T' d d':=⟨_,rfl⟩;rw[<-hE];unfold repS at hE;obtain ⟨e0,he0⟩:∃ y,y=(x==x'):=⟨_,rfl⟩;obtain ⟨e1,he1⟩:∃ x,x=(n==n'):=⟨_,rfl⟩;obtain ⟨e2,he2⟩:∃ x,x=(m==m'):=⟨_,rfl⟩;obtain ⟨e3,he3⟩:∃ x,x=teqB T T' d d':=⟨_,rfl⟩;rw[<-he0,<-he1,<-he2,<-he3] at hE;have HE:=Lib.hid hE;unfold teqB at he3;obtain ⟨S1,hS1⟩:∃ x,x=xC T d:=⟨_,rfl⟩;obtain ⟨S3,hS3⟩:∃ x,x=xC T' d':=⟨_,rfl⟩;rw[<-hS1] at cv1 he3;rw[<-hS3] at cv3 he3;have g0:=he0.symm;have g1:=he1.symm;have g2:=he2.symm;have g3:=he3.symm;clear hE he0 he1 he2 he3 hS1 hS3 bw hd hd';go_enter Tryz.func18,Tryz.ntmps18;go_upto_region 1 with fail
 rw[<-hw1];clear hw1;obtain ⟨a0,a1,a2,a3⟩:=yD R1.out;obtain ⟨b0,b1,b2,b3⟩:=yD R2.out
 cases e0 with
 |false=>
  have F:=Lib.hid (show E=false from HE.out)
  go_wp2_with fail;go_ret;exact ⟨by rw[F.out];rfl,B1.out⟩
 |true=>
  cases e1 with
  |false=>
   have F:=Lib.hid (show E=false from HE.out)
   go_wp2_with fail;go_ret;exact ⟨by rw[F.out];rfl,B1.out⟩
  |true=>
   cases e2 with
   |false=>
    have F:=Lib.hid (show E=false from HE.out)
    go_wp2_with fail;go_ret;exact ⟨by rw[F.out];rfl,B1.out⟩
   |true=>
    have F:=Lib.hid (show E=e3 from HE.out)
    go_wp2_with fail;go_ret;exact ⟨by rw[F.out];rfl,B1.out⟩
end Go.Proofs.YteffjpdcghlnlaaGreatDoor.Oct
namespace Go.Proofs.YteffjpdcghlnlaaGreatDoor.Oct
open Go.ChangeShapes Go.WideShapes Go.ChangeAt Go.RowKit
def trNw(n:Nat)(f:Bf)(w:World)(e:Ending)(w':World):Prop:=
 (trE n f≠0/\e=.returned (.tuple #[repZ,.slice none 0 0,.int .i64 (trE n f:Nat)])/\Below w.heap.size w w')\/
 (trE n f=0/\∃ A c A' c',e=.returned (.tuple #[repV (puX f 0:Nat) (puX f 1:Nat) (puX f 2:Nat) (.slice A (trT f) c),.slice A' (n-trO f 2) c',.int .i64 0])/\Sl w' w'.heap.size A (trT f) c (trF f)/\Sl w' w'.heap.size A' (n-trO f 2) c' (offF f (trO f 2))/\Below w.heap.size w w'/\∀ k,k<w.heap.size->Off k (trT f) A/\Off k (n-trO f 2) A')
theorem rtakerep_new(n c:Nat)(A:Option Addr)(f:Bf)(w:World)(hs:Sl w w.heap.size A n c f)(hn:n<=140737488355328):
  Calls Tryz.prog 61 #[.slice A n c] w (trNw n f w):=by
 obtain ⟨w0,hw0⟩:∃ w0,w0=(w.alloc (.cells #[.int .i64 0,.int .i64 0,.int .i64 0,.slice none 0 0] 33)).alloc (.cells #[.int .i64 0,.int .i64 0,.int .i64 0,.slice none 0 0] 33):=⟨_,rfl⟩;have B0:=Lib.hid (show Below w.heap.size w w0 by rw[hw0];exact ((Below.refl _ _).alloc (by simp) _).alloc (by simp) _)
 have R0:=Lib.hid (show row w0 w.heap.size=some #[.int .i64 0,.int .i64 0,.int .i64 0,.slice none 0 0] by rw[hw0];exact zN (zA _ _ _ _ rfl) _)
 have Z0:=Lib.hid (show row w0 (w.heap.size+1)=some #[.int .i64 0,.int .i64 0,.int .i64 0,.slice none 0 0] by rw[hw0];exact zA _ _ _ _ (by simp))
 have hs0:Sl w0 w0.heap.size A (n-puO f 0) c (offF f (puO f 0)):=by
  rw[show puO f 0=0 from rfl,Nat.sub_zero,offF_zero]
  exact (hs.below B0.out).more B0.out.size
 have H0:=Lib.hid (rtk_any 0 n c A f w0 hs0 hn);rw[show n-puO f 0=n from Nat.sub_zero n] at H0
 clear hs hs0;go_enter Tryz.func61,Tryz.ntmps61;go_wp2_with fail;rw[<-hw0];clear hw0;refine H0.out.mono ?_;clear H0;rintro e w1 (⟨hz,rfl,hb⟩|⟨hz,A1,k1,rfl,hs1,hb⟩)
 ·have HE:=Lib.hid (show trE n f=puS n f 0 from by
    show fiE (trS n f) 2=_;have e1:puE n f 3=puS n f 0:=yN (rfl) (by omega) hz
    rw[<-e1]
    exact yN (E:=trS n f) (j:=0) rfl (by omega) (by show puE n f 3≠0;rw[e1];exact hz))
  have HZ:=Lib.hid hz;have B1:=Lib.hid (onto B0.out B0.out.size hb);have R1:=Lib.hid (zD hb R0.out);have ZZ:=zD hb Z0.out;obtain ⟨Y,hY⟩:∃ Y,Y=puS n f 0:=⟨_,rfl⟩;rw[show ((puS n f 0:Nat):Int)=(Y:Int) by rw[hY]]
  have hne:((Y:Int) !=0)=true:=by have:=HZ.out;rw[<-hY] at this;simp;omega
  have HY:=Lib.hid hY;clear hz hb hY;obtain ⟨c0,c1,c2,c3⟩:=yD R1.out;obtain ⟨d0,d1,d2,d3⟩:=yD ZZ;have z0:=zJ R1.out 0;have z1:=zJ R1.out 1;have z2:=zJ R1.out 2;have z3:=zJ R1.out 3;clear ZZ;go_wp2_with fail;rw[set4 R1.out];exact bodyPost_ret (v:=.tuple #[repZ,.slice none 0 0,.int .i64 Y]) (xF Tryz.results61 _ _ w.heap.size _ _ rfl (zE R1.out _) Tryz.underlying33 rfl (by kernel_rfl)) rfl (.inl ⟨by rw[HE.out];exact HZ.out,by rw[HE.out,HY.out],zG B1.out (Nat.le_refl _) _⟩)
 ·have q0:=Lib.hid hz
  have B1:=Lib.hid (onto B0.out B0.out.size hb);have R1:=Lib.hid (zD hb R0.out);have Z1:=Lib.hid (zD hb Z0.out);have H1:=Lib.hid (rtk_any 1 n k1 A1 f w1 hs1 hn);clear hz hb hs1 B0 R0 Z0;obtain ⟨x0,hx0⟩:∃ x,x=puX f 0:=⟨_,rfl⟩;rw[<-hx0];have X0:=Lib.hid hx0;clear hx0;obtain ⟨m1,hm1⟩:∃ m,m=n-puO f 1:=⟨_,rfl⟩;rw[<-hm1] at H1 ⊢;clear hm1;go_wp2_with fail;refine H1.out.mono ?_;clear H1;rintro e w2 (⟨hz,rfl,hb⟩|⟨hz,A2,k2,rfl,hs2,hb⟩)
  ·have HE:=Lib.hid (show trE n f=puS n f 1 from by
     show fiE (trS n f) 2=_
     have e1:puE n f 3=puS n f 1:=yN (fi_zero fun i hi=>by
      have:i=0:=by omega
      rcases this with rfl
      ·exact q0.out) (by omega) hz
     rw[<-e1]
     exact yN (E:=trS n f) (j:=0) rfl (by omega) (by show puE n f 3≠0;rw[e1];exact hz))
   have HZ:=Lib.hid hz;have B2:=Lib.hid (onto B1.out B1.out.size hb);have R2:=Lib.hid (zD hb R1.out);have ZZ:=zD hb Z1.out;obtain ⟨Y,hY⟩:∃ Y,Y=puS n f 1:=⟨_,rfl⟩;rw[show ((puS n f 1:Nat):Int)=(Y:Int) by rw[hY]]
   have hne:((Y:Int) !=0)=true:=by have:=HZ.out;rw[<-hY] at this;simp;omega
   have HY:=Lib.hid hY;clear hz hb hY;obtain ⟨c0,c1,c2,c3⟩:=yD R2.out;obtain ⟨d0,d1,d2,d3⟩:=yD ZZ;have z0:=zJ R2.out 0;have z1:=zJ R2.out 1;have z2:=zJ R2.out 2;have z3:=zJ R2.out 3;clear ZZ;go_wp2_with fail;rw[set4 R2.out];exact bodyPost_ret (v:=.tuple #[repZ,.slice none 0 0,.int .i64 Y]) (xF Tryz.results61 _ _ w.heap.size _ _ rfl (zE R2.out _) Tryz.underlying33 rfl (by kernel_rfl)) rfl (.inl ⟨by rw[HE.out];exact HZ.out,by rw[HE.out,HY.out],zG B2.out (Nat.le_refl _) _⟩)
  ·have q1:=Lib.hid hz
   have B2:=Lib.hid (onto B1.out B1.out.size hb);have R2:=Lib.hid (zD hb R1.out);have Z2:=Lib.hid (zD hb Z1.out);have H2:=Lib.hid (rtk_any 2 n k2 A2 f w2 hs2 hn);clear hz hb hs2 B1 R1 Z1;obtain ⟨x1,hx1⟩:∃ x,x=puX f 1:=⟨_,rfl⟩;rw[<-hx1];have X1:=Lib.hid hx1;clear hx1;obtain ⟨m2,hm2⟩:∃ m,m=n-puO f 2:=⟨_,rfl⟩;rw[<-hm2] at H2 ⊢;clear hm2;go_wp2_with fail;refine H2.out.mono ?_;clear H2;rintro e w3 (⟨hz,rfl,hb⟩|⟨hz,A3,k3,rfl,hs3,hb⟩)
   ·have HE:=Lib.hid (show trE n f=puS n f 2 from by
      show fiE (trS n f) 2=_
      have e1:puE n f 3=puS n f 2:=yN (fi_zero fun i hi=>by
       have:i=0\/i=1:=by omega
       rcases this with rfl|rfl
       ·exact q0.out
       ·exact q1.out) (by omega) hz
      rw[<-e1]
      exact yN (E:=trS n f) (j:=0) rfl (by omega) (by show puE n f 3≠0;rw[e1];exact hz))
    have HZ:=Lib.hid hz;have B3:=Lib.hid (onto B2.out B2.out.size hb);have R3:=Lib.hid (zD hb R2.out);have ZZ:=zD hb Z2.out;obtain ⟨Y,hY⟩:∃ Y,Y=puS n f 2:=⟨_,rfl⟩;rw[show ((puS n f 2:Nat):Int)=(Y:Int) by rw[hY]]
    have hne:((Y:Int) !=0)=true:=by have:=HZ.out;rw[<-hY] at this;simp;omega
    have HY:=Lib.hid hY;clear hz hb hY;obtain ⟨c0,c1,c2,c3⟩:=yD R3.out;obtain ⟨d0,d1,d2,d3⟩:=yD ZZ;have z0:=zJ R3.out 0;have z1:=zJ R3.out 1;have z2:=zJ R3.out 2;have z3:=zJ R3.out 3;clear ZZ;go_wp2_with fail;rw[set4 R3.out];exact bodyPost_ret (v:=.tuple #[repZ,.slice none 0 0,.int .i64 Y]) (xF Tryz.results61 _ _ w.heap.size _ _ rfl (zE R3.out _) Tryz.underlying33 rfl (by kernel_rfl)) rfl (.inl ⟨by rw[HE.out];exact HZ.out,by rw[HE.out,HY.out],zG B3.out (Nat.le_refl _) _⟩)
   ·have q2:=Lib.hid hz
    have B3:=Lib.hid (onto B2.out B2.out.size hb);have R3:=Lib.hid (zD hb R2.out);have Z3:=Lib.hid (zD hb Z2.out);have H3:=Lib.hid (rtt_any n k3 (puO f 3) A3 f w3 hs3 hn)
    have Q:=Lib.hid (show puE n f 3=0 from fi_zero fun i hi=>by
     have:i=0\/i=1\/i=2:=by omega
     rcases this with rfl|rfl|rfl
     ·exact q0.out
     ·exact q1.out
     ·exact q2.out)
    clear hz hb hs3 B2 R2 Z2;obtain ⟨x2,hx2⟩:∃ x,x=puX f 2:=⟨_,rfl⟩;rw[<-hx2];have X2:=Lib.hid hx2;clear hx2;obtain ⟨m3,hm3⟩:∃ m,m=n-puO f 3:=⟨_,rfl⟩;rw[<-hm3] at H3 ⊢;clear hm3;go_wp2_with fail;refine H3.out.mono ?_;clear H3;rintro e w4 (⟨hz,rfl,hb⟩|⟨hz,At,kt,A4,k4,rfl,hst,hot,hs4,hos,hb⟩)
    ·have HE:=Lib.hid (show trE n f=ttE (n-puO f 3) 4096 (offF f (puO f 3)) from by
       show fiE (trS n f) 2=_
       exact yN (E:=trS n f) (j:=1) ((xB (E:=trS n f) (j:=0) rfl).trans Q.out) (by omega) hz)
     have HZ:=Lib.hid hz;have B4:=Lib.hid (onto B3.out B3.out.size hb);have R4:=Lib.hid (zD hb R3.out);have ZZ:=zD hb Z3.out;obtain ⟨Y,hY⟩:∃ Y,Y=ttE (n-puO f 3) 4096 (offF f (puO f 3)):=⟨_,rfl⟩;rw[show ((ttE (n-puO f 3) 4096 (offF f (puO f 3)):Nat):Int)=(Y:Int) by rw[hY]]
     have hne:((Y:Int) !=0)=true:=by have:=HZ.out;rw[<-hY] at this;simp;omega
     have HY:=Lib.hid hY;clear hz hb hY;obtain ⟨c0,c1,c2,c3⟩:=yD R4.out;obtain ⟨d0,d1,d2,d3⟩:=yD ZZ;have z0:=zJ R4.out 0;have z1:=zJ R4.out 1;have z2:=zJ R4.out 2;have z3:=zJ R4.out 3;clear ZZ;go_wp2_with fail;rw[set4 R4.out];exact bodyPost_ret (v:=.tuple #[repZ,.slice none 0 0,.int .i64 Y]) (xF Tryz.results61 _ _ w.heap.size _ _ rfl (zE R4.out _) Tryz.underlying33 rfl (by kernel_rfl)) rfl (.inl ⟨by rw[HE.out];exact HZ.out,by rw[HE.out,HY.out],zG B4.out (Nat.le_refl _) _⟩)
    ·have HE:=Lib.hid (show trE n f=0 from (xB (E:=trS n f) (j:=1) ((xB (E:=trS n f) (j:=0) rfl).trans Q.out)).trans hz)
     have B4:=Lib.hid (onto B3.out B3.out.size hb);have R4:=Lib.hid (zD hb R3.out);have hb3:=B3.out.size;have hl3:=zK R3.out;have HO:=Lib.hid (show ∀ k,k<w.heap.size->Off k (tkV (offF f (puO f 3))) At/\Off k (n-txO f (puO f 3)) A4 from fun k hk=>⟨hot k (by omega),hos k (by omega)⟩)
     have HT:=Lib.hid (And.intro hst (hot w.heap.size hl3));have HS:=Lib.hid (And.intro hs4 (hos w.heap.size hl3));clear hz hb hst hot hs4 hos B3 R3 Z3 hb3 hl3;obtain ⟨c0,c1,c2,c3⟩:=yD R4.out;have z0:=zJ R4.out 0;have z1:=zJ R4.out 1;have z2:=zJ R4.out 2;have z3:=zJ R4.out 3;obtain ⟨T,hT⟩:∃ T,T=tkV (offF f (puO f 3)):=⟨_,rfl⟩;obtain ⟨M,hM⟩:∃ M,M=n-txO f (puO f 3):=⟨_,rfl⟩;rw[<-hT,<-hM];have HX:=Lib.hid (And.intro hT hM);clear hT hM;go_wp2_with fail;rw[set4 R4.out];have hp:Put w.heap.size #[.int .i64 (x0:Int),.int .i64 (x1:Int),.int .i64 (x2:Int),.slice At T kt] w4 (w4.setRow w.heap.size #[.int .i64 (x0:Int),.int .i64 (x1:Int),.int .i64 (x2:Int),.slice At T kt]):=Put.of (Below.refl _ _) (zK R4.out) _;refine bodyPost_ret (v:=.tuple #[repV (x0:Int) (x1:Int) (x2:Int) (.slice At T kt),.slice A4 M k4,.int .i64 0]) (xF Tryz.results61 _ _ w.heap.size _ _ rfl (zE R4.out _) Tryz.underlying33 rfl (by kernel_rfl)) rfl (.inr ⟨HE.out,At,kt,A4,k4,by rw[X0.out,X1.out,X2.out,HX.out.1,HX.out.2];rfl,?_,?_,zG B4.out (Nat.le_refl _) _,HO.out⟩)
     ·exact (hp.sl HT.out.1 (Nat.le_refl _) HT.out.2).more hp.size
     ·exact (hp.sl HS.out.1 (Nat.le_refl _) HS.out.2).more hp.size
end Go.Proofs.YteffjpdcghlnlaaGreatDoor.Oct
namespace Go.Proofs.YteffjpdcghlnlaaGreatDoor.Oct
structure Se where
 id:Int
 q:Int
 c:Int
 n:Int
 m:Int
 T:Nat
 f:Bf
def Se.new(id:Int):Se:=⟨id,0,0,0,0,0,fun _=>0#8⟩
def ssH(l:List Se)(id:Int):Bool:=l.any fun s=>s.id==id
def ssG(l:List Se)(id:Int):Option Se:=l.find? fun s=>s.id==id
def ssX(l:List Se)(id:Int):List Se:=l.filter fun s=>!(s.id==id)
def ssD(l:List Se)(x:Se):List Se:=l.map fun s=>if s.id==x.id then x else s
structure SsOk(l:List Se)(g:Int):Prop where
 up:l.Pairwise fun a b=>a.id<b.id
 bd:∀ s∈l,1<=s.id/\s.id<=g
 n:l.length<=8
 g0:0<=g
 g1:g<1099511627776
 t:∀ s∈l,s.T<=140737488355328
theorem ssH_G(l:List Se)(id:Int):ssH l id=(ssG l id).isSome:=by
 unfold ssH ssG;rw[Bool.eq_iff_iff,List.any_eq_true,Option.isSome_iff_exists];constructor
 ·rintro ⟨s,hs,hi⟩
  cases e:l.find? fun s=>s.id==id with
  |some y=>exact ⟨y,rfl⟩
  |none=>exact absurd hi (List.find?_eq_none.1 e s hs)
 ·rintro ⟨s,hs⟩
  exact ⟨s,List.mem_of_find?_eq_some hs,List.find?_some (p:=fun s:Se=>s.id==id) hs⟩
theorem ssG_some{l:List Se}{id:Int}{s:Se}(h:ssG l id=some s):s∈l/\s.id=id:=
 ⟨List.mem_of_find?_eq_some h,by have:=List.find?_some (p:=fun s:Se=>s.id==id) h;simpa using this⟩
theorem ssG_mem{l:List Se}(h:l.Pairwise fun a b=>a.id<b.id){s:Se}(hs:s∈l):ssG l s.id=some s:=by
 induction l with
 |nil=>cases hs
 |cons a r ih=>
  obtain ⟨h1,h2⟩:=List.pairwise_cons.1 h;unfold ssG;rw[List.find?_cons];rcases List.mem_cons.1 hs with rfl|hr
  ·simp
  ·have:=h1 s hr
   rw[show (a.id==s.id)=false by simp;omega]
   exact ih h2 hr
theorem SsOk.nil:SsOk [] 0:=⟨List.Pairwise.nil,fun s hs=>absurd hs List.not_mem_nil,Nat.zero_le _,by omega,by omega,fun s hs=>absurd hs List.not_mem_nil⟩
theorem SsOk.open_{l:List Se}{g:Int}(h:SsOk l g)(hn:l.length≠8)(hg:g+1≠1099511627776):SsOk (l++[Se.new (g+1)]) (g+1):=by
 have:=h.n;have:=h.g0;have:=h.g1;refine ⟨List.pairwise_append.2 ⟨h.up,List.pairwise_singleton _ _,fun a ha b hb=>?_⟩,fun s hs=>?_,?_,by omega,by omega,fun s hs=>?_⟩
 ·rw[List.mem_singleton] at hb
  subst hb;have:=(h.bd a ha).2;show a.id<g+1;omega
 ·rcases List.mem_append.1 hs with h1|h1
  ·have:=h.bd s h1;omega
  ·rw[List.mem_singleton] at h1
   subst h1;show 1<=g+1/\g+1<=g+1;omega
 ·rw[List.length_append,List.length_singleton];omega
 ·rcases List.mem_append.1 hs with h1|h1
  ·exact h.t s h1
  ·rw[List.mem_singleton] at h1
   subst h1;exact Nat.zero_le _
theorem SsOk.drop{l:List Se}{g:Int}(h:SsOk l g)(id:Int):SsOk (ssX l id) g:=
 ⟨h.up.filter _,fun s hs=>h.bd s (List.mem_filter.1 hs).1,Nat.le_trans (List.length_filter_le _ _) h.n,h.g0,h.g1,fun s hs=>h.t s (List.mem_filter.1 hs).1⟩
theorem ssD_len(l:List Se)(x:Se):(ssD l x).length=l.length:=List.length_map ..
theorem ssD_ids(l:List Se)(x:Se):(ssD l x).map Se.id=l.map Se.id:=by
 unfold ssD;rw[List.map_map];refine List.map_congr_left fun s _=>?_
 show (if s.id==x.id then x else s).id=s.id
 by_cases h:s.id=x.id
 ·rw[if_pos (by simpa using h)];exact h.symm
 ·rw[if_neg (by simpa using h)]
theorem ssD_mem{l:List Se}{x s:Se}(h:s∈ssD l x):s=x\/(s∈l/\s.id≠x.id):=by
 obtain ⟨a,ha,rfl⟩:=List.mem_map.1 h;show (if a.id==x.id then x else a)=x\/_
 by_cases h:a.id=x.id
 ·rw[if_pos (by simpa using h)];exact .inl rfl
 ·rw[if_neg (by simpa using h)];exact .inr ⟨ha,h⟩
theorem SsOk.done{l:List Se}{g:Int}(h:SsOk l g)(x:Se)(hx:ssH l x.id=true)(hT:x.T<=140737488355328):SsOk (ssD l x) g:=by
 refine ⟨?_,fun s hs=>?_,by rw[ssD_len];exact h.n,h.g0,h.g1,fun s hs=>by
  rcases ssD_mem hs with rfl|⟨h1,_⟩
  ·exact hT
  ·exact h.t s h1⟩
 ·have h1:(l.map Se.id).Pairwise (·<·):=List.pairwise_map.2 h.up
  rw[<-ssD_ids l x] at h1;exact List.pairwise_map.1 h1
 ·rcases ssD_mem hs with rfl|⟨h1,_⟩
  ·unfold ssH at hx
   obtain ⟨a,ha,hi⟩:=List.any_eq_true.1 hx;have e:a.id=s.id:=by simpa using hi
   have:=h.bd a ha;omega
  ·exact h.bd s h1
theorem ssH_app(l:List Se)(x:Se)(id:Int):ssH (l++[x]) id=(ssH l id||x.id==id):=by unfold ssH;simp
theorem ssH_X(l:List Se)(i id:Int):ssH (ssX l i) id=(ssH l id&&!(id==i)):=by
 unfold ssH ssX;rw[Bool.eq_iff_iff,List.any_eq_true,Bool.and_eq_true,List.any_eq_true];constructor
 ·rintro ⟨s,hs,hi⟩
  obtain ⟨h1,h2⟩:=List.mem_filter.1 hs;have e:s.id=id:=by simpa using hi
  exact ⟨⟨s,h1,hi⟩,by rw[<-e];exact h2⟩
 ·rintro ⟨⟨s,hs,hi⟩,h2⟩
  have e:s.id=id:=by simpa using hi
  exact ⟨s,List.mem_filter.2 ⟨hs,by rw[e];exact h2⟩,hi⟩
theorem ssH_D(l:List Se)(x:Se)(hx:ssH l x.id=true)(id:Int):ssH (ssD l x) id=ssH l id:=by
 have e (l:List Se):ssH l id=(l.map Se.id).any (·==id):=by unfold ssH;rw[List.any_map];rfl
 rw[e,e,ssD_ids]
theorem SsOk.not{l:List Se}{g id:Int}(h:SsOk l g)(hi:id<1\/g<id):ssH l id=false:=by
 rw[<-Bool.not_eq_true];intro e;unfold ssH at e;obtain ⟨a,ha,h1⟩:=List.any_eq_true.1 e;have e:a.id=id:=by simpa using h1
 have:=h.bd a ha;omega
def opF(l:List Se)(g:Int):Bool:=decide (l.length=8)||decide (g+1=1099511627776)
def opN(l:List Se)(g:Int):Int:=if opF l g then 0 else g+1
def opE(l:List Se)(g:Int):Int:=if opF l g then 134 else 0
def opSe(l:List Se)(g:Int):List Se:=if opF l g then l else l++[Se.new (g+1)]
def opG(l:List Se)(g:Int):Int:=if opF l g then g else g+1
def exE(l:List Se)(id:Int):Int:=if ssH l id then 0 else 150
def akE(l:List Se)(id q:Int):Int:=match ssG l id with
 |none=>150
 |some s=>if q<s.q\/q<1 then 151 else 0
def akB(l:List Se)(id q:Int):Bool:=match ssG l id with
 |none=>false
 |some s=>decide (¬ (q<s.q\/q<1)/\q=s.q)
def akS(l:List Se)(id q:Int):Se:=match ssG l id with
 |none=> .new 0
 |some s=>if ¬ (q<s.q\/q<1)/\q=s.q then s else .new 0
def dnE(l:List Se)(id q:Int):Int:=match ssG l id with
 |none=>150
 |some s=>if q<=s.q then 151 else 0
def dnL(l:List Se)(x:Se):List Se:=if dnE l x.id x.q=0 then ssD l x else l
theorem SsOk.opn{l:List Se}{g:Int}(h:SsOk l g):SsOk (opSe l g) (opG l g):=by
 unfold opSe opG
 cases e:opF l g with
 |true=>exact h
 |false=>
  unfold opF at e;rw[Bool.or_eq_false_iff] at e;exact h.open_ (of_decide_eq_false e.1) (of_decide_eq_false e.2)
theorem ssX_none{l:List Se}{id:Int}(h:ssH l id=false):ssX l id=l:=by
 unfold ssX;rw[List.filter_eq_self];intro s hs;rw[<-Bool.not_eq_true] at h;unfold ssH at h;rw[List.any_eq_true] at h
 cases e:s.id==id with
 |true=>exact absurd ⟨s,hs,e⟩ h
 |false=>rfl
theorem dn_there{l:List Se}{id q:Int}(h:dnE l id q=0):∃ s,ssG l id=some s/\s.q<q/\ssH l id=true:=by
 unfold dnE at h
 cases e:ssG l id with
 |none=>rw[e] at h;simp at h
 |some s=>
  rw[e] at h
  by_cases hq:q<=s.q
  ·simp[hq] at h
  ·exact ⟨s,rfl,by omega,by rw[ssH_G,e];rfl⟩
theorem SsOk.dn{l:List Se}{g:Int}(h:SsOk l g)(x:Se)(hT:x.T<=140737488355328):SsOk (dnL l x) g:=by
 unfold dnL
 by_cases e:dnE l x.id x.q=0
 ·rw[if_pos e]
  obtain ⟨s,-,-,hh⟩:=dn_there e;exact h.done x hh hT
 ·rw[if_neg e];exact h
theorem ssG_app{l:List Se}{x s:Se}{j:Int}(hx:ssH l x.id=false)(h:ssG (l++[x]) j=some s):(j=x.id/\s=x)\/(j≠x.id/\ssG l j=some s):=by
 unfold ssG at h ⊢;rw[List.find?_append] at h
 cases e:l.find? fun s=>s.id==j with
 |some y=>
  rw[e] at h;have hy:ssH l j=true:=by rw[ssH_G];unfold ssG;rw[e];rfl
  exact .inr ⟨fun e'=>(by rw[e',hx] at hy;cases hy),h⟩
 |none=>
  rw[e] at h;have h:List.find? (fun s:Se=>s.id==j) [x]=some s:=h
  rw[List.find?_cons] at h
  cases e2:x.id==j with
  |true=>
   rw[e2] at h;have e3:x.id=j:=by simpa using e2
   exact .inl ⟨e3.symm,(Option.some.inj h).symm⟩
  |false=>rw[e2] at h;simp at h
theorem ssG_D{l:List Se}{x s:Se}{j:Int}(h:ssG (ssD l x) j=some s):(j=x.id/\s=x)\/(j≠x.id/\ssG l j=some s):=by
 unfold ssD ssG at h;unfold ssG;rw[List.find?_map] at h;obtain ⟨a,ha,rfl⟩:=Option.map_eq_some_iff.1 h
 have hp:(fun s:Se=>s.id==j) ∘ (fun s:Se=>if s.id==x.id then x else s)=fun s=>s.id==j:=by
  funext b;show ((if b.id==x.id then x else b).id==j)=(b.id==j)
  by_cases hb:b.id=x.id
  ·rw[if_pos (by simpa using hb),hb]
  ·rw[if_neg (by simpa using hb)]
 rw[hp] at ha;have hj:a.id=j:=by have:=List.find?_some ha;simpa using this
 by_cases ha2:a.id=x.id
 ·exact .inl ⟨by rw[<-hj];exact ha2,by rw[if_pos (by simpa using ha2)]⟩
 ·exact .inr ⟨by rw[<-hj];exact ha2,by rw[if_neg (by simpa using ha2)];exact ha⟩
abbrev By:=List (BitVec 8)
def lf(l:By):Bf:=fun i=>l.getD i 0#8
theorem lf_app(a b:By)(i:Nat):lf (a++b) i=catF a.length (lf a) (lf b) i:=by
 unfold lf catF
 by_cases h:i<a.length
 ·rw[if_pos h];simp only[List.getD_eq_getElem?_getD,List.getElem?_append_left h]
 ·rw[if_neg h];simp only[List.getD_eq_getElem?_getD,List.getElem?_append_right (Nat.le_of_not_lt h)]
theorem lf_take(a:By)(k i:Nat)(h:i<k):lf (a.take k) i=lf a i:=by
 unfold lf;simp only[List.getD_eq_getElem?_getD,List.getElem?_take,if_pos h]
theorem lf_inj{a b:By}(h:a.length=b.length)(e:∀ i,i<a.length->lf a i=lf b i):a=b:=by
 apply List.ext_getElem h;intro i h1 h2;have:=e i h1;unfold lf at this
 simpa[List.getD_eq_getElem?_getD,h1,h2] using this
def bl(n:Nat)(f:Bf):By:=(List.range n).map f
@[simp] theorem xL(n:Nat)(f:Bf):(bl n f).length=n:=by simp[bl]
theorem lf_bl(n:Nat)(f:Bf)(i:Nat)(h:i<n):lf (bl n f) i=f i:=by
 unfold lf bl;simp[List.getD_eq_getElem?_getD,h]
structure Ch where
 cut:Bool
 k:Nat
 b:By
def Ch.on(s:By)(x:Ch):By:=s.take x.k++x.b
def has(s:By)(l:List Ch):By:=l.foldl Ch.on s
@[irreducible] def maxF:Nat:=1048576
def Ch.fit(s:By)(x:Ch):Prop:=(x.cut=true->x.k<=s.length/\x.b=[])/\(x.cut=false->x.k=s.length)
def Okc:By->List Ch->Prop
 |s,[]=>s.length<=maxF
 |s,x::l=>s.length<=maxF/\x.fit s/\Okc (x.on s) l
structure Fl where
 s:By
 l:List Ch
def Fl.all(x:Fl):By:=has x.s x.l
def Fl.ok(x:Fl):Prop:=Okc x.s x.l
structure Dk where
 f:Nat->Fl
 n:Nat
 off:Bool
 u:Option Nat
def Dk.dead(d:Dk):Prop:=d.off=true\/d.u=some 0
instance (d:Dk):Decidable d.dead:=inferInstanceAs (Decidable (_\/_))
def updD(g:Nat->Fl)(i:Nat)(x:Fl):Nat->Fl:=fun j=>if j=i then x else g j
def Dk.dark(d:Dk):Dk:={ d with off:=true }
def Dk.done(d:Dk)(i:Nat)(x:Fl):Dk:={ d with f:=updD d.f i x,n:=d.n+1,u:=d.u.map (·-1) }
def Fl.app(x:Fl)(b:By):Fl:=⟨x.s,x.l++[⟨false,x.all.length,b⟩]⟩
def Fl.cut(x:Fl)(k:Nat):Fl:=⟨x.s,x.l++[⟨true,k,[]⟩]⟩
def Dk.app(d:Dk)(i:Nat)(b:By):Nat×Dk:=if d.dead then (5,d.dark) else if maxF<(d.f i).all.length+b.length then (2,d) else (0,d.done i ((d.f i).app b))
def Dk.cut(d:Dk)(i:Nat)(k:Int):Nat×Dk:=if k<0\/((d.f i).all.length:Int)<k then (1,d) else if d.dead then (5,d.dark) else (0,d.done i ((d.f i).cut k.toNat))
structure Dk.ok(d:Dk):Prop where
 ok:∀ i,i<4->(d.f i).ok
 few:∀ i,i<4->(d.f i).l.length<=d.n
open Go.RowKit
abbrev Mk:=Nat->Nat
def paint(T:Mk)(n t:Nat):Mk:=fun k=>if k<n then T k else t
theorem zH{T:Mk}{n t k:Nat}(h:k<n):paint T n t k=T k:=if_pos h
theorem zP{T:Mk}{n t k:Nat}(h:n<=k):paint T n t k=t:=if_neg (by omega)
structure Fr(T T':Mk)(H:Nat->Prop)(w w':World):Prop where
 os:w'.os=w.os
 tape:w'.tape=w.tape
 output:w'.output=w.output
 size:w.heap.size<=w'.heap.size
 keep:∀ k,k<w.heap.size->¬ H (T k)->w'.heap[k]? =w.heap[k]?
 tag:∀ k,k<w.heap.size->T' k=T k
section
variable {T T' T2:Mk} {H H':Nat->Prop} {w w' w2:World}
theorem Fr.refl(T:Mk)(H:Nat->Prop)(w:World):Fr T T H w w:=⟨rfl,rfl,rfl,Nat.le_refl _,fun _ _ _=>rfl,fun _ _=>rfl⟩
theorem Fr.trans(h:Fr T T' H w w')(k:Fr T' T2 H w' w2):Fr T T2 H w w2:=
 ⟨k.os.trans h.os,k.tape.trans h.tape,k.output.trans h.output,Nat.le_trans h.size k.size,
  fun i hi hn=>(k.keep i (Nat.lt_of_lt_of_le hi h.size) (by rw[h.tag i hi];exact hn)).trans (h.keep i hi hn),
  fun i hi=>(k.tag i (Nat.lt_of_lt_of_le hi h.size)).trans (h.tag i hi)⟩
theorem Fr.mono(h:Fr T T' H w w')(hs:∀ c,H c->H' c):Fr T T' H' w w':=⟨h.os,h.tape,h.output,h.size,fun k hk hn=>h.keep k hk fun e=>hn (hs _ e),h.tag⟩
theorem Fr.calm(h:Below w.heap.size w w')(ht:∀ k,k<w.heap.size->T' k=T k):Fr T T' H w w':=⟨h.os,h.tape,h.output,h.size,fun k hk _=>h.block k hk,ht⟩
theorem Fr.new(h:Below w.heap.size w w')(t:Nat):Fr T (paint T w.heap.size t) H w w':=Fr.calm h fun k hk=>zH hk
theorem Fr.below(h:Fr T T' H w w'){D:Nat}(hD:D<=w.heap.size)(hn:∀ k,k<D->¬ H (T k)):Below D w w':=⟨h.os,h.tape,h.output,h.size,fun k hk=>h.keep k (by omega) (hn k hk)⟩
theorem Fr.row{B:Nat}(hB:H (T B))(c:Array Value):Fr T T H w (w.setRow B c):=⟨rfl,rfl,rfl,by simp,fun k hk hn=>setRow_other w B k c (fun e=>hn (e ▸ hB)),fun _ _=>rfl⟩
theorem Fr.grown{v:Value}(hg:w.grownBy w' v.ownBlock)(hv:∀ g,v.ownBlock=some g->H (T g))(t:Nat):Fr T (paint T w.heap.size t) H w w':=
 ⟨hg.os,hg.tape,hg.output,hg.size,fun k hk hn=>hg.block k hk (fun e=>hn (hv k e.symm)),fun k hk=>zH hk⟩
theorem Fr.rowAt(h:Fr T T' H w w'){B:Nat}{c:Array Value}(hr:Oct.row w B=some c)(hB:¬ H (T B)):Oct.row w' B=some c:=by rw[yZ (h.keep B (zK hr) hB)];exact hr
theorem Fr.cellAt(h:Fr T T' H w w'){g o:Nat}(hg:g<w.heap.size)(hB:¬ H (T g)):w'.cell? ⟨g,o,none⟩=w.cell? ⟨g,o,none⟩:=World.cell?_of_block (w:=w) (h.keep g hg hB)
end
structure RdS(T:Mk)(w:World)(t:Nat)(A:Option Addr)(n c:Nat)(f:Bf):Prop where
 sl:Sl w w.heap.size A n c f
 tg:0<n->∀ a,A=some a->T a.block=t
section
variable {T T' T2:Mk} {H:Nat->Prop} {w w' w2:World} {t:Nat}
theorem RdS.fr{A:Option Addr}{n c:Nat}{f:Bf}(h:RdS T w t A n c f)(hf:Fr T T' H w w')(ht:¬ H t):RdS T' w' t A n c f:=by
 refine ⟨⟨h.sl.le,fun hn=>?_⟩,fun hn a ha=>?_⟩
 ·obtain ⟨g,o,e,hg,hc⟩:=h.sl.at_ hn
  have e1:=h.tg hn _ e;refine ⟨g,o,e,Nat.lt_of_lt_of_le hg hf.size,fun i hi=>?_⟩
  rw[hf.cellAt hg (by simp only at e1;rw[e1];exact ht)]
  exact hc i hi
 ·obtain ⟨g,o,e,hg,hc⟩:=h.sl.at_ hn
  rw[e] at ha;cases ha;rw[hf.tag g hg];exact h.tg hn _ e
theorem RdS.congr{A:Option Addr}{n c:Nat}{f g:Bf}(h:RdS T w t A n c f)(e:∀ i,i<n->f i=g i):RdS T w t A n c g:=⟨h.sl.congr e,h.tg⟩
theorem RdS.nil(T:Mk)(w:World)(t:Nat)(f:Bf):RdS T w t none 0 0 f:=⟨Sl.nothing _ _ _ _ _,fun hn=>absurd hn (by omega)⟩
theorem RdS.re{A:Option Addr}{n c:Nat}{f:Bf}{t2:Nat}(h:RdS T w t A n c f)(ht:∀ k,T k=t->T2 k=t2):RdS T2 w t2 A n c f:=⟨h.sl,fun hn a ha=>ht _ (h.tg hn a ha)⟩
theorem RdS.of_sl{D:Nat}{A:Option Addr}{n c:Nat}{f:Bf}(h:Sl w D A n c f)(hD:D<=w.heap.size)(hT:∀ k,k<D->T k=t):RdS T w t A n c f:=
 ⟨h.more hD,fun hn a ha=>by
  obtain ⟨g,o,e,hg,_⟩:=h.at_ hn;rw[e] at ha;cases ha
  exact hT g hg⟩
variable {u:TypeId} {v:Value} {l:By}
end
structure ElOk{α:Type}(k:Nat)(E:Mk->World->α->List Value->Prop):Prop where
 len:∀ {T w x vs},E T w x vs->vs.length=k
 one:∀ {T w x vs},E T w x vs->∀ v∈vs,v.oneCell'=true
 fr:∀ {T T':Mk} {H:Nat->Prop} {w w':World} {x vs},E T w x vs->Fr T T' H w w'->¬ H 0->E T' w' x vs
 re:∀ {T T2:Mk} {w:World} {x vs},E T w x vs->(∀ j,T j=0->T2 j=0)->E T2 w x vs
section
variable {α:Type} {k:Nat} {E:Mk->World->α->List Value->Prop} (hE:ElOk k E) {T T' T2:Mk} {H:Nat->Prop} {w w':World} {t:Nat} {u:TypeId} {v:Value} {l:List α}
include hE
end
open Go.ChangeShapes Go.WideShapes Go.ChangeAt
abbrev i64B(x:Int):Prop:=-9223372036854775808<=x/\x<9223372036854775808
section
variable {H:Type} {enc:TypeId×Value->H} {P:Program} {w:World} {base:Nat} {spare:Nat->Bool} {held:Bool}
end
end Go.Proofs.YteffjpdcghlnlaaGreatDoor.Oct
