import Derived.Recover
import Derived.WalkSmall
import Derived.Test.YteffjpdcghlnlaaGreatDoorZfF
import Derived.Test.YteffjpdcghlnlaaGreatDoorZfG
set_option linter.unusedVariables false
set_option linter.unusedSimpArgs false
set_option maxHeartbeats 8000000
set_option maxRecDepth 20000
namespace Go.Proofs.YteffjpdcghlnlaaGreatDoor.Oct
open Go.ChangeShapes Go.WideShapes Go.ChangeAt Go.RowKit Go.Maps
theorem veC_same{a b:Ve}(h:veS a b):veC a=veC b:=by
 unfold veC;rw[xA h.1,h.2.1,h.2.2]
theorem KyC.same{c:Array Value}{o:Nat}{r r':Rg}(h:KyC c o r)(e:rgS r r'):KyC c o r':=by
 have hl:=all2_len e.2;refine ⟨by rw[<-e.1];exact h.off,by rw[<-hl];exact h.cnt,by rw[<-hl];exact h.few,fun v hv j hj=>?_⟩
 rw[h.ver v (by omega) j hj,veC_same (all2_get e.2 v (by omega) hv)]
theorem KsC.same{o:Nat}{R c:Array Value}{K K':Ks}(h:KsC o R c K)(e:all2 rgS K K'):KsC o R c K':=by
 have hl:=all2_len e;refine ⟨h.size,h.fit,h.oth,h.ones,by rw[<-hl];exact h.cnt,fun i hi=>?_⟩
 have hk:=h.key i hi
 by_cases hlt:i<K.length
 ·rw[rgI_lt hlt] at hk
  rw[rgI_lt (by omega)]
  exact hk.same (all2_get e i hlt (by omega))
 ·rw[rgI_ge (by omega)] at hk
  rw[rgI_ge (by omega)]
  exact hk
theorem okV.same{a b:Ve}(h:okV a)(e:veS a b):okV b:=
 ⟨by rw[<-e.2.1];exact h.1,fun hg i hi=>by rw[<-e.1 i hi];exact h.2 (by rw[e.2.2];exact hg) i hi⟩
theorem all2_mem{α:Type}{R:α->α->Prop}{l m:List α}(h:all2 R l m){b:α}(hb:b∈m):∃ a∈l,R a b:=by
 obtain ⟨i,hi,rfl⟩:=List.getElem_of_mem hb;have hl:=all2_len h;exact ⟨l[i]'(by omega),List.getElem_mem _,all2_get h i (by omega) hi⟩
theorem okR.same{a b:Rg}(h:okR a)(e:rgS a b):okR b:=
 ⟨by rw[<-all2_len e.2];exact h.1,fun v hv=>by obtain ⟨u,hu,huv⟩:=all2_mem e.2 hv;exact (h.2 u hu).same huv⟩
theorem okK.same{K K':Ks}(h:okK K)(e:all2 rgS K K'):okK K':=
 ⟨by rw[<-all2_len e];exact h.1,fun r hr=>by obtain ⟨q,hq,hqr⟩:=all2_mem e hr;exact (h.2 q hq).same hqr⟩
theorem ssH_same:∀ {l m:List Se},all2 seS l m->∀ id,ssH l id=ssH m id
 |[],[],_,_=>rfl
 |a::l,b::m,h,id=>by
  have:=ssH_same h.2 id;unfold ssH at this ⊢;rw[List.any_cons,List.any_cons,this,h.1.1]
 |[],b::m,h,_=>h.elim
 |a::l,[],h,_=>h.elim
theorem ssG_same:∀ {l m:List Se},all2 seS l m->∀ {id s'},ssG m id=some s'->∃ s,ssG l id=some s/\seS s s'
 |[],[],_,id,s',h=>by cases h
 |a::l,b::m,h,id,s',hs=>by
  unfold ssG at hs ⊢;rw[List.find?_cons] at hs ⊢;rw[h.1.1]
  cases e:(b.id==id) with
  |true=>rw[e] at hs;cases hs;exact ⟨a,rfl,h.1⟩
  |false=>rw[e] at hs;exact ssG_same h.2 hs
 |[],b::m,h,_,_,_=>h.elim
 |a::l,[],h,_,_,_=>h.elim
theorem seEl_same{T:Mk}{w:World}{s s':Se}{vs:List Value}(h:seEl T w s vs)(e:seS s s'):seEl T w s' vs:=by
 obtain ⟨A,c,rfl,hr⟩:=h;obtain ⟨e1,e2,e3,e4,e5,e6,e7⟩:=e;have e3:s.c=s'.c:=e3;have e4:s.n=s'.n:=e4;have e5:s.m=s'.m:=e5;have e6:s.T=s'.T:=e6;refine ⟨A,c,by rw[e1,e2,e3,e4,e5,e6],?_⟩
 rw[<-e6];exact hr.congr fun i hi=>e7 i hi
theorem MpV.same{T:Mk}{w:World}{t:Nat}{mv:Option Nat}{l m:List Se}(h:MpV T w t mv l)(e:all2 seS l m):MpV T w t mv m:=by
 rcases h with ⟨rfl,rfl⟩|⟨M,rfl,hT,D,h1,h2,h3,h4⟩
 ·cases m with
  |nil=>exact .inl ⟨rfl,rfl⟩
  |cons b m=>exact e.elim
 ·refine .inr ⟨M,rfl,hT,D,h1,fun id=>by rw[h2,ssH_same e],fun id s' hs'=>?_,by rw[h4,all2_len e]⟩
  obtain ⟨s,hs,hss⟩:=ssG_same e hs';obtain ⟨vs,a,b⟩:=h3 id s hs;exact ⟨vs,seEl_same a hss,b⟩
def stC(d:St)(n:Int)(ks:Array Value)(mv:Option Nat)(g:Int):Array Value:=srcC (mtC ks mv g) d.1 d.2 n
theorem flt_snoc(pre:List (Array Value))(a b:Array Value):flt (pre++[a++b])=flt (pre++[a])++b:=by
 unfold flt;apply Array.ext';simp[List.flatMap_append]
theorem stC_mt(d:St)(n:Int)(ks:Array Value)(mv:Option Nat)(g:Int):stC d n ks mv g=mtC (srcC ks d.1 d.2 n) mv g:=by
 unfold stC mtC srcC;exact flt_snoc [ba 32 d.1,ba 32 d.2,#[.int .i64 n]] ks _
theorem srcC_at{R:Array Value}{k v:Bf}{n:Int}{j:Nat}(h:j<R.size):(srcC R k v n)[65+j]? =R[j]? :=by
 unfold srcC;exact flt_get [ba 32 k,ba 32 v,#[.int .i64 n]] [] R (o:=65) (j:=j) (by simp[szs,zI]) h
theorem srcC_low{R R':Array Value}{k v:Bf}{n:Int}{j:Nat}(h:j<65):(srcC R k v n)[j]? =(srcC R' k v n)[j]? :=by
 unfold srcC;have e:=fun (X:Array Value)=>flt_at [ba 32 k,ba 32 v,#[.int .i64 n]] [] X j
 have hz:szs [ba 32 k,ba 32 v,#[.int .i64 n]]=65:=by simp[szs,zI]
 have e1:=e R;have e2:=e R';rw[hz,if_pos h] at e1 e2;exact e1.trans e2.symm
section
variable {d:St} {n g:Int} {ks:Array Value} {mv:Option Nat} {K:Ks}
theorem ks_size(h:KsC 0 ksZ ks K):ks.size=1105:=by rw[h.size,ksZ_size]
theorem stC_size(h:ks.size=1105):(stC d n ks mv g).size=1172:=by unfold stC;rw[src_size,mtC_size,h]
theorem src_full(h:ks.size=1105):(srcC ks d.1 d.2 n).size=1170:=by rw[src_size,h]
theorem ones_mt{R:Array Value}(h:Ones R):Ones (mtC R mv g):=by
 unfold Ones mtC at*;have a:(Value.map mv).oneCell'=true:=rfl;have b:(Value.int .i64 g).oneCell'=true:=rfl;rw[Array.all_append,h];simp[a,b]
theorem stC_ones(h:KsC 0 ksZ ks K):Ones (stC d n ks mv g):=src_ones _ _ _ _ (ones_mt h.ones)
theorem stC_ks(hz:ks.size=1105){j:Nat}(h:j<1105):(stC d n ks mv g)[65+j]? =ks[j]? :=by
 unfold stC;rw[srcC_at (by rw[mtC_size,hz];omega),mtC_else (by omega)]
theorem stC_keys(h:KsC 0 ksZ ks K):KsC 65 (stC d n ks mv g) (stC d n ks mv g) K:=
 h.move rfl (by rw[stC_size (ks_size h)];omega) (stC_ones h) (fun _ _=>rfl) fun j hj=>by rw[Nat.zero_add,stC_ks (ks_size h) hj]
theorem stC_back{c':Array Value}{K':Ks}(hz:ks.size=1105)(h:KsC 65 (stC d n ks mv g) c' K'):∃ ks',c'=stC d n ks' mv g/\KsC 0 ksZ ks' K':=by
 have hs:c'.size=1172:=by rw[h.size,stC_size hz]
 have hx:(ksX 65 c').size=1105:=ksX_size (by omega)
 refine ⟨ksX 65 c',?_,h.cut ksZ_size⟩;apply Array.ext_getElem?;intro j
 by_cases h1:j<65
 ·rw[h.oth j (.inl h1)]
  unfold stC;exact srcC_low h1
 ·by_cases h2:j<1170
  ·obtain ⟨i,rfl⟩:∃ i,j=65+i:=⟨j-65,by omega⟩
   rw[stC_ks hx (by omega),ksX_get (by omega) (by omega)]
  ·rw[h.oth j (.inr (by omega))]
   by_cases h3:j<1172
   ·obtain ⟨i,rfl⟩:∃ i,j=65+i:=⟨j-65,by omega⟩
    unfold stC;rw[srcC_at (by rw[mtC_size];omega),srcC_at (by rw[mtC_size];omega)]
    rcases (by omega:i=1105\/i=1106) with rfl|rfl
    ·rw[mtC_0 hz,mtC_0 hx]
    ·rw[show (1106:Nat)=1105+1 from rfl,mtC_1 hz,mtC_1 hx]
   ·rw[Array.getElem?_eq_none (by rw[stC_size hz];omega),Array.getElem?_eq_none (by rw[stC_size hx];omega)]
end
structure StAt(T:Mk)(w:World)(t B:Nat)(x:Sx):Prop where
 tg:T B=t
 at_:∃ ks mv,row w B=some (stC x.d x.n ks mv x.g)/\KsC 0 ksZ ks x.K/\MpV T w (t+1) mv x.l
 ok:SxOk x
section
variable {T T':Mk} {w w':World} {t B:Nat} {x:Sx} {H:Nat->Prop}
theorem StAt.lt(h:StAt T w t B x):B<w.heap.size:=by obtain ⟨ks,mv,hr,-⟩:=h.at_;exact zK hr
theorem StAt.fr(h:StAt T w t B x)(hf:Fr T T' H w w')(h1:¬ H t)(h2:¬ H (t+1))(h0:¬ H 0):StAt T' w' t B x:=by
 obtain ⟨ks,mv,hr,hk,hm⟩:=h.at_;exact ⟨by rw[hf.tag B (zK hr)];exact h.tg,⟨ks,mv,hf.rowAt hr (by rw[h.tg];exact h1),hk,hm.fr hf h2 h0⟩,h.ok⟩
theorem StAt.same{y:Sx}(h:StAt T w t B x)(e:SxS x y)(ok:SxOk y):StAt T w t B y:=by
 obtain ⟨ks,mv,hr,hk,hm⟩:=h.at_;refine ⟨h.tg,⟨ks,mv,?_,hk.same e.K,hm.same e.l⟩,ok⟩;rw[hr];unfold stC srcC;rw[xA e.k,xA e.v,e.n,e.g]
theorem StAt.keys(h:StAt T w t B x):∃ R,KpW w B 65 R x.K/\∀ (ht:0<t) w' K',KpW w' B 65 R K'->Chg B w w'->∀ tn,StAt (paint T w.heap.size tn) w' t B ⟨x.d,x.n,K',x.l,x.g⟩:=by
 obtain ⟨ks,mv,hr,hk,hm⟩:=h.at_;refine ⟨stC x.d x.n ks mv x.g,⟨⟨_,hr,stC_keys hk⟩,h.ok.K⟩,fun ht w' K' hk' hc tn=>?_⟩
 obtain ⟨c',hr',hc'⟩:=hk'.at_;obtain ⟨ks',rfl,hks⟩:=stC_back (ks_size hk) hc';have hf:=hc.fr (T:=T) (H:=fun c=>c=t) h.tg tn
 exact ⟨by rw[zH (zK hr)];exact h.tg,⟨ks',mv,hr',hks,hm.fr hf (by omega) (by omega)⟩,⟨hk'.ok,h.ok.T,h.ok.c⟩⟩
theorem StAt.src(h:StAt T w t B x):∃ R,row w B=some (srcC R x.d.1 x.d.2 x.n)/\∀ (ht:0<t) w' (d':St) n',Put B (srcC R d'.1 d'.2 n') w w'->1<=n'->∀ tn,StAt (paint T w.heap.size tn) w' t B ⟨d',n',x.K,x.l,x.g⟩:=by
 obtain ⟨ks,mv,hr,hk,hm⟩:=h.at_;refine ⟨mtC ks mv x.g,hr,fun ht w' d' n' hp hn tn=>?_⟩
 have hb:Below w.heap.size (w.setRow B (srcC (mtC ks mv x.g) d'.1 d'.2 n')) w':=hp;have hf:Fr T (paint T w.heap.size tn) (fun c=>c=t) w w':=⟨hb.1,hb.2,hb.3,hp.size,fun k hk hn=>hp.block k hk (fun e=>hn (by rw[e];exact h.tg)),fun k hk=>zH hk⟩
 exact ⟨by rw[zH (zK hr)];exact h.tg,⟨ks,mv,hp.row hr,hk,hm.fr hf (by omega) (by omega)⟩,⟨h.ok.K,h.ok.T,hn⟩⟩
theorem StAt.tab(h:StAt T w t B x):∃ R mv,PtAt T w t B 1170 R mv x.l x.g/\∀ T' w' mv' l' g',PtAt T' w' t B 1170 R mv' l' g'->SsOk l' g'->StAt T' w' t B ⟨x.d,x.n,x.K,l',g'⟩:=by
 obtain ⟨ks,mv,hr,hk,hm⟩:=h.at_;refine ⟨srcC ks x.d.1 x.d.2 x.n,mv,⟨by rw[<-stC_mt];exact hr,h.tg,hm,src_full (ks_size hk)⟩,fun T' w' mv' l' g' hp hs=>?_⟩
 exact ⟨hp.tg,⟨ks,mv',by rw[stC_mt];exact hp.row,hk,hp.mp⟩,⟨h.ok.K,hs,h.ok.c⟩⟩
end
abbrev pnE(E:Int):List PanicEntry:=[{ v:=.iface 31 (.int .i64 E),recovered:=false }]
theorem yQ(w:World):Calls Tryz.prog 37 #[.int .i64 0] w fun e w'=>e=.returned (.tuple #[])/\w'=w:=by
 go_enter Tryz.func37,Tryz.ntmps37;go_wp2_with fail;go_end0;exact ⟨rfl,rfl⟩
theorem yM(E:Int)(h:E≠0)(w:World):Calls Tryz.prog 37 #[.int .i64 E] w fun e w'=>e=.panicked (pnE E)/\w'=w:=by
 have hne:((E:Int) !=0)=true:=by simp;omega
 clear h;go_enter Tryz.func37,Tryz.ntmps37;go_wp2_with fail;exact ⟨rfl,rfl,rfl⟩
theorem musti_ok(v:Value)(w:World):Calls Tryz.prog 39 #[v,.int .i64 0] w fun e w'=>e=.returned v/\w'=w:=by
 go_enter Tryz.func39,Tryz.ntmps39;go_wp2_with fail;refine (yQ _).mono ?_;rintro e w' ⟨rfl,rfl⟩;go_wp2_with fail;go_ret;exact ⟨rfl,rfl⟩
theorem musti_bad(v:Value)(E:Int)(h:E≠0)(w:World):Calls Tryz.prog 39 #[v,.int .i64 E] w fun e w'=>e=.panicked (pnE E)/\w'=w:=by
 go_enter Tryz.func39,Tryz.ntmps39;go_wp2_with fail;refine (yM E h _).mono ?_;rintro e w' ⟨rfl,rfl⟩;go_wp2_with fail;exact ⟨rfl,rfl,rfl⟩
theorem mustb_ok(v:Value)(w:World):Calls Tryz.prog 124 #[v,.int .i64 0] w fun e w'=>e=.returned v/\w'=w:=by
 go_enter Tryz.func124,Tryz.ntmps124;go_wp2_with fail;refine (yQ _).mono ?_;rintro e w' ⟨rfl,rfl⟩;go_wp2_with fail;go_ret;exact ⟨rfl,rfl⟩
theorem mustb_bad(v:Value)(E:Int)(h:E≠0)(w:World):Calls Tryz.prog 124 #[v,.int .i64 E] w fun e w'=>e=.panicked (pnE E)/\w'=w:=by
 go_enter Tryz.func124,Tryz.ntmps124;go_wp2_with fail;refine (yM E h _).mono ?_;rintro e w' ⟨rfl,rfl⟩;go_wp2_with fail;exact ⟨rfl,rfl,rfl⟩
theorem ta_ok(x:Value)(w:World):(Instr.typeAssert (.iface 31 x) 20 31 true).run Tryz.prog w=.ok (.tuple #[x,.bool true]) w:=by kernel_rfl
theorem catchR_panicking(p:Nat)(E x:Int)(w:World)(hc:w.cell? ⟨p,0,none⟩=some (.int .i64 x))(hz:w.frozen? ⟨p,0,none⟩=false):
  CallsD Tryz.prog 132 #[.pointer (some ⟨p,0,none⟩)] (.panicking (pnE E)) w fun e u' w'=>
   e=.returned (.tuple #[])/\u'=.panicking [{ v:=.iface 31 (.int .i64 E),recovered:=true }]/\w'=w.setCell ⟨p,0,none⟩ (.int .i64 E):=by
 have hta:=ta_ok;refine callsD_of_wpS Tryz.func132 rfl fun c₀ cs hu=>?_
 apply wpS_seq;apply wpS_region;simp[wpOpsS,go_sem,recoverD,hu,Tryz.ntmps132,Exit.thenS];refine wpS_of_wp ?_;simp only[Array.replicate];go_wp2_with fail;simp[bodyPostS,results,Tryz.results132,go_sem]
theorem catchR_idle(p:Nat)(w:World):
  CallsD Tryz.prog 132 #[.pointer (some ⟨p,0,none⟩)] .returning w fun e u' w'=>e=.returned (.tuple #[])/\u'=.returning/\w'=w:=by
 refine callsD_of_wpS Tryz.func132 rfl fun c₀ cs hu=>?_
 apply wpS_seq;apply wpS_region;simp[wpOpsS,go_sem,recoverD,hu,Tryz.ntmps132,Exit.thenS];refine wpS_of_wp ?_;simp only[Array.replicate];go_wp2_with fail;simp only[bodyPostS,results,Tryz.results132,go_sem];cases c₀
 simp_all
theorem catchS_panicking(p:Nat)(E x:Int)(w:World)(hc:w.cell? ⟨p,0,none⟩=some (.int .i64 x))(hz:w.frozen? ⟨p,0,none⟩=false):
  CallsD Tryz.prog 102 #[.pointer (some ⟨p,0,none⟩)] (.panicking (pnE E)) w fun e u' w'=>
   e=.returned (.tuple #[])/\u'=.panicking [{ v:=.iface 31 (.int .i64 E),recovered:=true }]/\w'=w.setCell ⟨p,0,none⟩ (.int .i64 E):=by
 have hta:=ta_ok;refine callsD_of_wpS Tryz.func102 rfl fun c₀ cs hu=>?_
 apply wpS_seq;apply wpS_region;simp[wpOpsS,go_sem,recoverD,hu,Tryz.ntmps102,Exit.thenS];refine wpS_of_wp ?_;simp only[Array.replicate];go_wp2_with fail;simp[bodyPostS,results,Tryz.results102,go_sem]
theorem catchS_idle(p:Nat)(w:World):
  CallsD Tryz.prog 102 #[.pointer (some ⟨p,0,none⟩)] .returning w fun e u' w'=>e=.returned (.tuple #[])/\u'=.returning/\w'=w:=by
 refine callsD_of_wpS Tryz.func102 rfl fun c₀ cs hu=>?_
 apply wpS_seq;apply wpS_region;simp[wpOpsS,go_sem,recoverD,hu,Tryz.ntmps102,Exit.thenS];refine wpS_of_wp ?_;simp only[Array.replicate];go_wp2_with fail;simp only[bodyPostS,results,Tryz.results102,go_sem];cases c₀
 simp_all
theorem res_ci{P:Program}{fn:Func}{p u:Tmp}{ty ti:TypeId}(h:fn.results=#[.cell p ty,.cell u ti])(tmps:Array Value)(w:World)(b q:Nat)(c:Array Value)(x:Int)(d:TypeDesc)
  (hp:tmps.getD p undef=.pointer (some ⟨b,0,none⟩)) (hq:tmps.getD u undef=.pointer (some ⟨q,0,none⟩)) (hr:row w b=some c) (hx:(loadVar ti ⟨q,0,none⟩).run P w=.ok (.int .i64 x) w) (hu:P.underlying ty=some d) (hd:d.isRow=true) (hi:(P.info? ty).map (·.size)=some c.size):
  (results fn tmps).run P w=.ok (.tuple #[.agg c,.int .i64 x]) w:=by
 have hp2:tmps[p]?.getD undef=.pointer (some ⟨b,0,none⟩):=by simpa using hp
 have hq2:tmps[u]?.getD undef=.pointer (some ⟨q,0,none⟩):=by simpa using hq
 simp only[results,h];simp[hp2,hq2,asAddr,load_row hr hu hd hi,hx]
theorem Fr.up{T T':Mk}{H:Nat->Prop}{w w':World}(h:Fr T T' H w w'){b:Nat}(hb:w.heap.size<=b)(c:Array Value):Fr T T' H w (w'.setRow b c):=
 ⟨h.os,h.tape,h.output,by rw[setRow_sizeS];exact h.size,fun k hk hn=>by rw[setRow_other w' b k c (by omega)];exact h.keep k hk hn,h.tag⟩
abbrev rpV(r:Rp)(A:Option Addr)(k:Nat):Value:=repV r.c r.n r.m (.slice A r.T k)
abbrev zR:Value:=.slice none 0 0
def OutR(t B:Nat)(x:Sx)(r:Rp)(T:Mk)(w:World):Ending->World->Prop:=fun e w'=>∃ T',Fr T T' (H2 t) w w'/\StAt T' w' t B x/\((∃ A k,e=.returned (rpV r A k)/\RdS T' w' 0 A r.T k r.f)\/(r.c≠0/\r=rpE r.c/\e=.panicked (pnE r.c)))
def OutC(t B:Nat)(x:Sx)(r:Rp)(T:Mk)(w:World):Ending->World->Prop:=fun e w'=>∃ T',Fr T T' (H2 t) w w'/\StAt T' w' t B x/\((∃ A k,e=.returned (.tuple #[rpV r A k,.int .i64 0])/\RdS T' w' 0 A r.T k r.f)\/(r.c≠0/\r=rpE r.c/\e=.returned (.tuple #[repZ,.int .i64 r.c])))
def OutV(t B:Nat)(x:Sx)(r:Rp)(T:Mk)(w:World):Ending->World->Prop:=fun e w'=>∃ T',Fr T T' (H2 t) w w'/\StAt T' w' t B x/\∃ A k,e=.returned (rpV r A k)/\RdS T' w' 0 A r.T k r.f
theorem h2_no{t:Nat}:¬ H2 t (t+2):=by unfold H2;omega
theorem h2_0{t:Nat}(ht:0<t):¬ H2 t 0:=by unfold H2;omega
theorem attR_any(T:Mk)(t B:Nat)(x:Sx)(r:Rp)(ht:0<t)(F:FuncId)(cap:Array Value)(w:World)(hen:Entr F)
  (h:∀ W,W=(w.alloc (.cells #[.int .i64 0,.int .i64 0,.int .i64 0,zR] 33)).alloc (.cells #[.int .i64 0] 31)->Calls Tryz.prog F cap W (OutR t B x r (paint T w.heap.size (t+2)) W)):
  Calls Tryz.prog 76 #[.func (.func F) #[] cap] w (OutC t B x r T w):=by
 obtain ⟨w1,hw1⟩:∃ w1,w1=(w.alloc (.cells #[.int .i64 0,.int .i64 0,.int .i64 0,zR] 33)).alloc (.cells #[.int .i64 0] 31):=⟨_,rfl⟩;have bw:Below w.heap.size w w1:=by rw[hw1];exact ((Below.refl _ _).alloc (Nat.le_refl _) _).alloc (by simp) _
 have r0:row w1 w.heap.size=some #[.int .i64 0,.int .i64 0,.int .i64 0,zR]:=by rw[hw1];exact zN (zA _ _ _ _ rfl) _
 have r1:row w1 (w.heap.size+1)=some #[.int .i64 0]:=by rw[hw1];exact zA _ _ _ _ (by simp)
 have hz1:w1.heap.size=w.heap.size+2:=by rw[hw1];simp
 have H:=Lib.hid (h w1 hw1);have F1:=Lib.hid (show Fr T (paint T w.heap.size (t+2)) (H2 t) w w1 from Fr.new bw _)
 have TG:=Lib.hid (show paint T w.heap.size (t+2) w.heap.size=t+2/\paint T w.heap.size (t+2) (w.heap.size+1)=t+2 from ⟨zP (Nat.le_refl _),zP (by omega)⟩)
 obtain ⟨T1,hT1⟩:∃ T1,T1=paint T w.heap.size (t+2):=⟨_,rfl⟩;rw[<-hT1] at H F1 TG;have R0:=Lib.hid r0;have R1:=Lib.hid r1;clear h bw r0 r1 hT1;unfold Entr at hen;have hmf:∀ (fn:Fn) (first cap:Array Value) (w:World),(Instr.makeFunc fn first cap).run Tryz.prog w=.ok (.func fn first cap) w:=fun _ _ _ _=>rfl
 go_enter_defers Tryz.func76,Tryz.ntmps76;go_upto_region 1 with fail
 simp only[<-hw1];clear hw1;go_wp2_with fail;refine H.out.mono ?_;rintro e w2 ⟨T2,hf,hst,⟨A,k,rfl,hrd⟩|⟨hne,hrp,rfl⟩⟩
 ·have q0:=hf.rowAt R0.out (by rw[TG.out.1];exact h2_no)
  have q1:=hf.rowAt R1.out (by rw[TG.out.2];exact h2_no)
  have t0:T2 w.heap.size=t+2:=by rw[hf.tag _ (by omega)];exact TG.out.1
  have F2:=Lib.hid (F1.out.trans hf);obtain ⟨C,hC⟩:∃ C:Array Value,C=#[.int .i64 r.c,.int .i64 r.n,.int .i64 r.m,.slice A r.T k]:=⟨_,rfl⟩;have q1':row (w2.setRow w.heap.size C) (w.heap.size+1)=some #[.int .i64 0]:=by rw[zF _ _ _ _ (by omega)];exact q1
  have z1:=zJ q1' 0;have k1:(w2.setRow w.heap.size C).cell? ⟨w.heap.size+1,0,none⟩=some (.int .i64 0):=by rw[zC q1'];rfl
  have hs:(w2.setRow w.heap.size C).setCell ⟨w.heap.size+1,0,none⟩ (.int .i64 0)=w2.setRow w.heap.size C:=by rw[zL q1'];exact yF q1'
  have G:=Lib.hid (Fr.row (T:=T2) (H:=fun c=>c=t+2) (w:=w2) (B:=w.heap.size) t0 C)
  have HST:=Lib.hid (hst.fr G.out (by omega) (by omega) (by omega))
  have HRD:=Lib.hid (hrd.fr G.out (by omega))
  have FF:=Lib.hid (F2.out.up (Nat.le_refl _) C);have Q0:=Lib.hid (zE q0 C);rw[hC] at q1' z1 k1 hs HST HRD FF Q0;clear hf hst hrd H q1 t0 F2 G hC;go_wp2_with fail;refine leaves_cons (f:=132) (args:=#[.pointer (some ⟨w.heap.size+1,0,none⟩)]) (by simp) (by simp[go_sem]) ?_
  refine (catchR_idle (w.heap.size+1) _).mono ?_;rintro e u' w'' ⟨rfl,rfl,rfl⟩
  exact ⟨.tuple #[rpV r A k,.int .i64 0],
   res_ci Tryz.results76 _ _ w.heap.size (w.heap.size+1) _ _ _ rfl rfl Q0.out (by simp[loadVar,go_sem,k1]) Tryz.underlying33 rfl (by kernel_rfl),
   T2,FF.out,HST.out,.inl ⟨A,k,rfl,HRD.out⟩⟩
 ·have q0:=hf.rowAt R0.out (by rw[TG.out.1];exact h2_no)
  have q1:=hf.rowAt R1.out (by rw[TG.out.2];exact h2_no)
  have t1:T2 (w.heap.size+1)=t+2:=by rw[hf.tag _ (by omega)];exact TG.out.2
  have F2:=Lib.hid (F1.out.trans hf);have hc:w2.cell? ⟨w.heap.size+1,0,none⟩=some (.int .i64 0):=by rw[zC q1];rfl
  have hz:=zJ q1 0;have k1:(w2.setCell ⟨w.heap.size+1,0,none⟩ (.int .i64 r.c)).cell? ⟨w.heap.size+1,0,none⟩=some (.int .i64 r.c):=by rw[zL q1,zC (zE q1 _)];rfl
  have q0':row (w2.setCell ⟨w.heap.size+1,0,none⟩ (.int .i64 r.c)) w.heap.size=some #[.int .i64 0,.int .i64 0,.int .i64 0,zR]:=by rw[zL q1,zF _ _ _ _ (by omega)];exact q0
  have G:=Lib.hid (Fr.row (T:=T2) (H:=fun c=>c=t+2) (w:=w2) (B:=w.heap.size+1) t1 #[.int .i64 r.c])
  have HST:=Lib.hid (show StAt T2 (w2.setCell ⟨w.heap.size+1,0,none⟩ (.int .i64 r.c)) t B x by rw[zL q1];exact hst.fr G.out (by omega) (by omega) (by omega))
  have FF:=Lib.hid (show Fr T T2 (H2 t) w (w2.setCell ⟨w.heap.size+1,0,none⟩ (.int .i64 r.c)) by rw[zL q1];exact F2.out.up (by omega) _)
  have HN:=Lib.hid (And.intro hne hrp);clear hf hst H q0 q1 t1 F2 G hne hrp;go_wp2_with fail;refine leaves_cons (f:=132) (args:=#[.pointer (some ⟨w.heap.size+1,0,none⟩)]) (by simp) (by simp[go_sem]) ?_
  refine (catchR_panicking (w.heap.size+1) r.c 0 _ hc hz).mono ?_;rintro e u' w'' ⟨rfl,rfl,rfl⟩
  exact ⟨.tuple #[repZ,.int .i64 r.c],
   res_ci Tryz.results76 _ _ w.heap.size (w.heap.size+1) _ _ _ rfl rfl q0' (by simp[loadVar,go_sem,k1]) Tryz.underlying33 rfl (by kernel_rfl),
   T2,FF.out,HST.out,.inr ⟨HN.out.1,HN.out.2,rfl⟩⟩
theorem rp_b0'(w:World):(Instr.build 33 #[]).run Tryz.prog w=.ok (repV 0 0 0 (.slice none 0 0)) w:=by kernel_rfl
theorem rp_b1'(E:Int)(w:World):(Instr.build 33 #[(0,.int .i64 E)]).run Tryz.prog w=.ok (repV E 0 0 (.slice none 0 0)) w:=by kernel_rfl
theorem replyOf_any(T:Mk)(t B:Nat)(x:Sx)(r:Rp)(ht:0<t)(F:FuncId)(cap:Array Value)(w:World)(hen:Entr F)
  (h:∀ W,Below w.heap.size w W->Calls Tryz.prog F cap W (OutR t B x r (paint T w.heap.size (t+2)) W)):
  Calls Tryz.prog 35 #[.func (.func F) #[] cap] w (OutV t B x r T w):=by
 obtain ⟨w1,hw1⟩:∃ w1,w1=w.alloc (.cells #[.int .i64 0,.int .i64 0,.int .i64 0,zR] 33):=⟨_,rfl⟩;have bw:Below w.heap.size w w1:=by rw[hw1];exact (Below.refl _ _).alloc (Nat.le_refl _) _
 have r0:row w1 w.heap.size=some #[.int .i64 0,.int .i64 0,.int .i64 0,zR]:=by rw[hw1];exact zA _ _ _ _ rfl
 have hz1:w1.heap.size=w.heap.size+1:=by rw[hw1];simp
 have F1:=Lib.hid (show Fr T (paint T w.heap.size (t+2)) (H2 t) w w1 from Fr.new bw _)
 have TG:=Lib.hid (show paint T w.heap.size (t+2) w.heap.size=t+2 from zP (Nat.le_refl _))
 have H:=Lib.hid (attR_any (paint T w.heap.size (t+2)) t B x r ht F cap w1 hen fun W hW=>by
  have b2:Below w.heap.size w W:=onto bw bw.size (by rw[hW];exact ((Below.refl _ _).alloc (Nat.le_refl _) _).alloc (by simp) _)
  have e:paint (paint T w.heap.size (t+2)) w1.heap.size (t+2)=paint T w.heap.size (t+2):=by
   funext k;unfold paint
   split
   ·rfl
   ·rw[if_neg (by omega)]
  rw[e]
  exact h W b2)
 obtain ⟨T1,hT1⟩:∃ T1,T1=paint T w.heap.size (t+2):=⟨_,rfl⟩;rw[<-hT1] at H F1 TG;have R0:=Lib.hid r0;clear h bw r0 hT1;have bd0:=rp_b1';go_enter Tryz.func35,Tryz.ntmps35;go_upto_region 1 with fail
 rw[<-hw1];clear hw1;go_wp2_with fail;refine H.out.mono ?_;rintro e w2 ⟨T2,hf,hst,⟨A,k,rfl,hrd⟩|⟨hne,hrp,rfl⟩⟩
 ·have q0:=hf.rowAt R0.out (by rw[TG.out];exact h2_no)
  have t0:T2 w.heap.size=t+2:=by rw[hf.tag _ (by omega)];exact TG.out
  have hz2:=hf.size;obtain ⟨C,hC⟩:∃ C:Array Value,C=#[.int .i64 r.c,.int .i64 r.n,.int .i64 r.m,.slice A r.T k]:=⟨_,rfl⟩;have hb3:=(Below.refl w2.heap.size w2).alloc (Nat.le_refl _) (.cells C 33);obtain ⟨w3,hw3⟩:∃ w3,w3=w2.alloc (.cells C 33):=⟨_,rfl⟩;have q3:row w3 w2.heap.size=some C:=by rw[hw3];exact zA _ _ _ _ rfl
  rw[<-hw3] at hb3;have p0:=zD hb3 q0;have F3:=(F1.out.trans hf).trans (Fr.new (T:=T2) (H:=H2 t) hb3 (t+2));have G:=Fr.row (T:=paint T2 w2.heap.size (t+2)) (H:=fun c=>c=t+2) (w:=w3) (B:=w.heap.size) (by rw[zH (by omega)];exact t0) C
  have HST:=Lib.hid ((hst.fr (Fr.new (H:=fun _=>False) hb3 (t+2)) (fun h=>h) (fun h=>h) (fun h=>h)).fr G (by omega) (by omega) (by omega))
  have HRD:=Lib.hid ((hrd.fr (Fr.new (H:=fun _=>False) hb3 (t+2)) (fun h=>h)).fr G (by omega))
  have FF:=Lib.hid (F3.up (Nat.le_refl _) C);have P0:=Lib.hid (zE p0 C);have Q3:=Lib.hid q3;rw[hC] at hw3 q3 HST HRD FF P0 Q3;clear hf hst hrd H F3 G hC hb3;go_upto_region 2 with fail
  rw[<-hw3];clear hw3 Q3;go_wp2_with fail;exact bodyPost_ret (v:=rpV r A k) (yV Tryz.results35 _ _ w.heap.size _ _ rfl P0.out Tryz.underlying33 rfl (by kernel_rfl)) rfl ⟨_,FF.out,HST.out,A,k,rfl,HRD.out⟩
 ·have q0:=hf.rowAt R0.out (by rw[TG.out];exact h2_no)
  have t0:T2 w.heap.size=t+2:=by rw[hf.tag _ (by omega)];exact TG.out
  have hz2:=hf.size;have hb3:=(Below.refl w2.heap.size w2).alloc (Nat.le_refl _) (.cells #[.int .i64 0,.int .i64 0,.int .i64 0,zR] 33);obtain ⟨w3,hw3⟩:∃ w3,w3=w2.alloc (.cells #[.int .i64 0,.int .i64 0,.int .i64 0,zR] 33):=⟨_,rfl⟩;rw[<-hw3] at hb3;have p0:=zD hb3 q0;obtain ⟨C,hC⟩:∃ C:Array Value,C=#[.int .i64 r.c,.int .i64 0,.int .i64 0,zR]:=⟨_,rfl⟩;have F3:=(F1.out.trans hf).trans (Fr.new (T:=T2) (H:=H2 t) hb3 (t+2));have G:=Fr.row (T:=paint T2 w2.heap.size (t+2)) (H:=fun c=>c=t+2) (w:=w3) (B:=w.heap.size) (by rw[zH (by omega)];exact t0) C
  have HST:=Lib.hid ((hst.fr (Fr.new (H:=fun _=>False) hb3 (t+2)) (fun h=>h) (fun h=>h) (fun h=>h)).fr G (by omega) (by omega) (by omega))
  have FF:=Lib.hid (F3.up (Nat.le_refl _) C);have P0:=Lib.hid (zE p0 C);rw[hC] at HST FF P0;have HRP:=Lib.hid hrp;obtain ⟨E,hE⟩:∃ E,E=r.c:=⟨_,rfl⟩;rw[<-hE] at hne HST FF P0 HRP ⊢;have HE:=Lib.hid hE;have hnb:(E !=0)=true:=by simpa using hne
  clear hf hst H F3 G hC hb3 hrp hE;go_upto_region 2 with fail
  rw[<-hw3];clear hw3;go_wp2_with fail;refine bodyPost_ret (v:=repV E 0 0 zR) (yV Tryz.results35 _ _ w.heap.size _ _ rfl P0.out Tryz.underlying33 rfl (by kernel_rfl)) rfl ⟨_,FF.out,HST.out,none,0,?_,?_⟩
  ·rw[HRP.out];rfl
  ·rw[HRP.out];exact RdS.nil _ _ _ _
theorem co_i:(Tryz.prog.info? 36).map (·.size)=some 7:=by kernel_rfl
@[go_sem ↓] theorem co_l(p:Value):Instr.loadAt 36 p=ldA 36 p:=rfl
@[go_sem ↓] theorem co_s(p v:Value):Instr.storeAt 36 p v=stA 36 p v:=rfl
@[go_sem] theorem co_ld(w:World)(b o:Nat):(ldA 36 (.pointer (some ⟨b,o,none⟩))).run Tryz.prog w=ldR Tryz.prog 36 7 w b o (row w b):=ld_rowS _ _ Tryz.underlying36 rfl 7 co_i w b o
@[go_sem] theorem co_ldx(P:Program)(t:Nat)(w:World)(b:Nat)(x0 x1 x2 x3 x4 x5 x6:Value):ldR P t 7 w b 0 (some #[x0,x1,x2,x3,x4,x5,x6])=.ok (.agg #[x0,x1,x2,x3,x4,x5,x6]) w:=xJ P t 7 w b _ rfl
abbrev cmV(c:Cm)(A:Option Addr)(a:Nat)(A':Option Addr)(a':Nat):Value:=comV c.k c.s c.q c.i c.n (.slice A c.T a) (.slice A' c.U a')
abbrev cmA(c:Cm)(A:Option Addr)(a:Nat)(A':Option Addr)(a':Nat):Array Value:=#[.int .i64 c.k,.int .i64 c.s,.int .i64 c.q,.int .i64 c.i,.int .i64 c.n,.slice A c.T a,.slice A' c.U a']
structure CmR(T:Mk)(w:World)(tc:Nat)(c:Cm)(A:Option Addr)(a:Nat)(A':Option Addr)(a':Nat):Prop where
 d:RdS T w tc A c.T a c.f
 b:RdS T w tc A' c.U a' c.h
abbrev off3(t tc:Nat):Prop:=tc<t\/t+2<tc
section
variable {T T':Mk} {w w':World} {t B tc:Nat} {c:Cm} {A A':Option Addr} {a a':Nat} {H:Nat->Prop}
theorem CmR.fr(h:CmR T w tc c A a A' a')(hf:Fr T T' H w w')(hn:¬ H tc):CmR T' w' tc c A a A' a':=⟨h.d.fr hf hn,h.b.fr hf hn⟩
theorem RdS.offB{n k:Nat}{f:Bf}(h:RdS T w tc A n k f)(hB:T B≠tc):Off B n A:=fun hn a ha e=>hB (by rw[<-e];exact h.tg hn a ha)
end
theorem arr_key(a:Addr)(c:Nat)(w:World):(Instr.arrayAt 61 (.slice (some a) 32 c)).run Tryz.prog w=.ok (.pointer (some a)) w:=by
 simp[Instr.arrayAt,run_underlying key_u]
theorem pmat_any16(T:Mk)(t B:Nat)(x:Sx)(w:World)(hS:StAt T w t B x)(ht:0<t)(htab:Tab w)(h0:off3 t (T 0))(hn:x.n<=1048576):
  Calls Tryz.prog 136 #[.pointer (some ⟨B,0,none⟩)] w fun e w'=>e=.returned (.agg (ba 32 (drM x.d)))/\∃ T',Fr T T' (H2 t) w w'/\StAt T' w' t B ⟨drD x.d,x.n+1,x.K,x.l,x.g⟩:=by
 obtain ⟨R,hr,hput⟩:=hS.src
 have hB:0<B:=by
  rcases Nat.eq_zero_or_pos B with e|e
  ·have:=hS.tg;rw[e] at this;omega
  ·exact e
 obtain ⟨w1,hw1⟩:∃ w1,w1=w.alloc (.cells (ba 32 fun _=>0#8) 61):=⟨_,rfl⟩
 have b1:Below w.heap.size w w1:=by rw[hw1];exact (Below.refl _ _).alloc (Nat.le_refl _) _
 have r1:row w1 w.heap.size=some (ba 32 fun _=>0#8):=by rw[hw1];exact zA _ _ _ _ rfl
 have H1:=Lib.hid (ddraw_any x.d B 32 0 0 none (fun _=>0#8) x.n w1 (htab.below b1 htab.pos) (zD b1 hr) hB (Sl.nothing _ _ _ _ _) (by omega) (fun h=>absurd h (by omega)) (by omega) hn (by have:=hS.ok.c;omega))
 have HP:=Lib.hid hput;have HS:=Lib.hid hS;have B1:=Lib.hid b1;have R1:=Lib.hid r1;have hak:=arr_key;have hBl:=hS.lt;have hz1:w1.heap.size=w.heap.size+1:=by rw[hw1];simp
 clear hput b1 r1 hr hS htab;go_enter Tryz.func136,Tryz.ntmps136;go_upto_region 1 with fail
 rw[<-hw1];clear hw1;go_wp2_with fail;refine H1.out.mono ?_;rintro e w2 ⟨g,rfl,hg,hrg,hp⟩;have P2:=Lib.hid hp;have RG:=hrg;have r2:=hp.other (by omega) R1.out
 clear hp hrg H1;go_wp2_with fail;refine (mustb_ok _ _).mono ?_;rintro e w2' ⟨rfl,rfl⟩;have hBl2:=P2.out.size;go_wp2_with fail;have hst:=HP.out ht w2' (drD x.d) (x.n+1) (Put.behind B1.out hBl P2.out) (by have:=HS.out.ok.c;omega) (t+2)
 have hf:Fr T (paint T w.heap.size (t+2)) (H2 t) w w2':=by
  have hb:Below w1.heap.size (w1.setRow B (srcC R (drD x.d).1 (drD x.d).2 (x.n+1))) w2':=P2.out;exact (Fr.new (H:=H2 t) B1.out (t+2)).trans ⟨hb.1,hb.2,hb.3,P2.out.size,fun k hk hn=>P2.out.block k hk (fun e=>hn (by rw[e,zH hBl,HS.out.tg];exact .inl rfl)),fun k hk=>rfl⟩
 have G:=Fr.row (T:=paint T w.heap.size (t+2)) (H:=fun c=>c=t+2) (w:=w2') (B:=w.heap.size) (zP (Nat.le_refl _)) (ba 32 (drM x.d))
 exact bodyPost_ret (v:=.agg (ba 32 (drM x.d))) (yV Tryz.results136 _ _ w.heap.size _ _ rfl (zE r2 _) key_u rfl (by rw[zI];exact key_i)) rfl ⟨rfl,_,hf.up (Nat.le_refl _) _,hst.fr G (by omega) (by omega) (by omega)⟩
structure ExIn(T:Mk)(w:World)(t B tc:Nat)(x:Sx)(c:Cm)(A:Option Addr)(a:Nat)(A':Option Addr)(a':Nat):Prop where
 st:StAt T w t B x
 t0:0<t
 tab:Tab w
 m0:off3 t (T 0)
 cm:CmR T w tc c A a A' a'
 mc:off3 t tc
 n:x.n<=1048576
 chk:chkE c.k c.s c.q c.i c.n c.T c.U=0
section
variable {T T':Mk} {w w':World} {t B tc:Nat} {x:Sx} {c:Cm} {A A':Option Addr} {a a':Nat} {H:Nat->Prop}
theorem ExIn.below(h:ExIn T w t B tc x c A a A' a')(hb:Below w.heap.size w w'):ExIn (paint T w.heap.size (t+2)) w' t B tc x c A a A' a':=by
 have hf:=Fr.new (T:=T) (H:=fun _=>False) hb (t+2)
 exact ⟨h.st.fr hf (fun h=>h) (fun h=>h) (fun h=>h),h.t0,h.tab.below hb h.tab.pos,by rw[zH h.tab.pos];exact h.m0,h.cm.fr hf (fun h=>h),h.mc,h.n,h.chk⟩
theorem ExIn.tB(h:ExIn T w t B tc x c A a A' a'):T B≠tc:=by have:=h.st.tg;have:=h.mc;omega
theorem ExIn.B0(h:ExIn T w t B tc x c A a A' a'):0<B:=by
 rcases Nat.eq_zero_or_pos B with e|e
 ·have:=h.st.tg;have:=h.m0;rw[e] at*;omega
 ·exact e
end
abbrev RdCm(Z:Nat)(cc:Array Value):World->Prop:=fun y=>row y Z=some cc
theorem rp_b12(n m:Int)(w:World):(Instr.build 33 #[(1,.int .i64 n),(2,.int .i64 m)]).run Tryz.prog w=.ok (repV 0 n m (.slice none 0 0)) w:=by kernel_rfl
theorem repE_c{E:Int}{r:Rp}(h:E≠0):rpO E r=rpE E:=by unfold rpO;rw[if_neg h]
theorem repO_c{E:Int}{r:Rp}(h:E=0):rpO E r=r:=by unfold rpO;rw[if_pos h]
theorem pex3(T:Mk)(t B tc:Nat)(x:Sx)(c:Cm)(A A':Option Addr)(a a':Nat)(w:World)(h:ExIn T w t B tc x c A a A' a')(hk:c.k=3):
  Calls Tryz.prog 83 #[.pointer (some ⟨B,0,none⟩),cmV c A a A' a'] w (OutR t B ⟨exD x c,exC x c,exK x c,x.l,x.g⟩ (exR x c) T w):=by
 have HR:=Lib.hid (show exR x c=rpO (crE x.K) ⟨0,crN x.K,1,0,fun _=>0#8⟩ from if_pos hk)
 have HX:=Lib.hid (show exD x c=drD x.d/\exC x c=x.n+1/\exK x c=crK x.K (drM x.d) from ⟨if_pos (.inl hk),if_pos (.inl hk),if_pos hk⟩)
 obtain ⟨Z,hZ⟩:∃ Z,Z=w.heap.size:=⟨_,rfl⟩;obtain ⟨w1,hw1⟩:∃ w1,w1=(w.alloc (.cells (cmA c A a A' a') 36)).alloc (.cells #[.int .i64 0,.int .i64 0,.int .i64 0,zR] 33):=⟨_,rfl⟩;have bw:Below w.heap.size w w1:=by rw[hw1];exact ((Below.refl _ _).alloc (Nat.le_refl _) _).alloc (by simp) _
 have rc:row w1 Z=some (cmA c A a A' a'):=by rw[hw1,hZ];exact zN (zA _ _ _ _ rfl) _
 have rr:row w1 (Z+1)=some #[.int .i64 0,.int .i64 0,.int .i64 0,zR]:=by rw[hw1,hZ];exact zA _ _ _ _ (by simp)
 have hz1:w1.heap.size=Z+2:=by rw[hw1,hZ];simp
 have X1:=Lib.hid (h.below bw);have F1:=Lib.hid (show Fr T (paint T w.heap.size (t+2)) (H2 t) w w1 from Fr.new bw _)
 have TG:=Lib.hid (show paint T w.heap.size (t+2) Z=t+2/\paint T w.heap.size (t+2) (Z+1)=t+2 from ⟨zP (by omega),zP (by omega)⟩)
 obtain ⟨T1,hT1⟩:∃ T1,T1=paint T w.heap.size (t+2):=⟨_,rfl⟩;rw[<-hT1] at X1 F1 TG;have HZ:=Lib.hid hZ;have RC:=Lib.hid rc;have RR:=Lib.hid rr;have ht:=h.t0;have bd1:=rp_b12;have HK:=Lib.hid hk;clear h bw rc rr hT1 hZ hk;go_enter Tryz.func83,Tryz.ntmps83;go_upto_region 1 with fail
 rw[<-hw1,<-HZ.out];clear hw1;obtain ⟨a0,a1,a2,a3,a4,a5,a6⟩:=yB RC.out;rw[HK.out] at a0;go_upto_region 3 with fail
 refine zY [([0,1,2,3],4,false),([],5,false),([6,7],8,false),([9],10,true)] [] (fun _=>True) (by kernel_rfl) (by kernel_rfl) (fun _ _ _ _ _ h=>h) trivial ?_
 clear a0 a1 a2 a3 a4 a5 a6;have b2:=zQ (Below.refl w1.heap.size w1) 1;have X2:=X1.out.below b2;have F2:=F1.out.trans (Fr.new (T:=T1) (H:=H2 t) b2 (t+2));have RR2:=Lib.hid (zD b2 RR.out);have TG2:=Lib.hid (show paint T1 w1.heap.size (t+2) (Z+1)=t+2 by rw[zH (by omega)];exact TG.out.2)
 have hz2:(w1.drewN 1).heap.size=Z+2:=hz1;obtain ⟨T2,hT2⟩:∃ T2,T2=paint T1 w1.heap.size (t+2):=⟨_,rfl⟩;obtain ⟨w2,hw2⟩:∃ w2,w2=w1.drewN 1:=⟨_,rfl⟩;rw[<-hT2,<-hw2] at X2 F2;rw[<-hw2] at RR2 hz2 ⊢;rw[<-hT2] at TG2;replace X2:=Lib.hid X2;replace F2:=Lib.hid F2;clear hT2 hw2 b2 X1 F1 RR TG RC hz1;have H3:=Lib.hid (pmat_any16 T2 t B x w2 X2.out.st ht X2.out.tab X2.out.m0 X2.out.n);simp only[wpFl,pk,List.getElem?_cons_zero,List.getElem?_cons_succ]
 repeat (go_big_quiet_step (fail))
 refine wpQuiet_nil ?_;go_wp2_with fail;refine H3.out.mono ?_;rintro e w3 ⟨rfl,T3,hf3,hs3⟩;obtain ⟨R,hk3,hput⟩:=hs3.keys;have F3:=Lib.hid (F2.out.trans hf3);have RR3:=Lib.hid (hf3.rowAt RR2.out (by rw[TG2.out];exact h2_no))
 have TG3:=Lib.hid (show T3 (Z+1)=t+2 by rw[hf3.tag _ (by omega)];exact TG2.out)
 have PT:=Lib.hid hput;have S3:=Lib.hid hs3;have H4:=Lib.hid (wcr_any B x.K (drM x.d) w3 hk3);have hz3:=hf3.size;have hBZ:B≠Z+1:=fun e=>by have:=hs3.tg;have:=TG3.out;rw[e] at*;omega
 clear hf3 hs3 hk3 hput H3 RR2 TG2 F2;go_wp2_with fail;refine ⟨fun _=>True,trivial,.inr ⟨trivial,fun _ h=>h⟩,?_⟩
 show wpQuiet _ _ _ _ _ _;refine wpQuiet_nil ?_;go_wp2_with fail;refine H4.out.mono ?_;rintro e w4 ⟨rfl,hk4,hc4⟩;have hst4:=PT.out ht w4 (crK x.K (drM x.d)) hk4 hc4 (t+2);have hf4:=hc4.fr (T:=T3) (H:=H2 t) (by rw[S3.out.tg];exact .inl rfl) (t+2)
 have F4:=Lib.hid (F3.out.trans hf4);have S4:=Lib.hid hst4;have RR4:=Lib.hid (hc4.row RR3.out (fun e=>hBZ e.symm))
 have TG4:=Lib.hid (show paint T3 w3.heap.size (t+2) (Z+1)=t+2 by rw[zH (by omega)];exact TG3.out)
 obtain ⟨T4,hT4⟩:∃ T4,T4=paint T3 w3.heap.size (t+2):=⟨_,rfl⟩;rw[<-hT4] at F4 S4 TG4;clear hst4 hf4 hk4 hc4 hT4 H4 PT S3 F3 RR3 TG3;obtain ⟨N,hN⟩:∃ N,N=crN x.K:=⟨_,rfl⟩;obtain ⟨E,hE⟩:∃ E,E=crE x.K:=⟨_,rfl⟩;rw[<-hN,<-hE];have HN:=Lib.hid hN;have HE:=Lib.hid hE;clear hN hE;go_wp2_with fail;refine ⟨fun _=>True,trivial,.inr ⟨trivial,fun _ h=>h⟩,?_⟩
 show wpQuiet _ _ _ _ _ _
 repeat (go_big_quiet_step (fail))
 refine wpQuiet_nil ?_
 by_cases h0:E=0
 ·subst h0
  go_wp2_with fail;refine (musti_ok _ _).mono ?_;rintro e w5 ⟨rfl,rfl⟩;go_wp2_with fail;refine ⟨fun _=>True,trivial,.inr ⟨trivial,fun _ h=>h⟩,?_⟩
  show wpQuiet _ _ _ _ _ _
  repeat (go_big_quiet_step (fail))
  refine wpQuiet_nil ?_;have rr:=RR4.out;go_wp2_with fail;have G:=Fr.row (T:=T4) (H:=fun c=>c=t+2) (w:=w5) (B:=Z+1) TG4.out #[.int .i64 0,.int .i64 N,.int .i64 1,zR]
  have ST:=Lib.hid (S4.out.fr G (by omega) (by omega) (by omega))
  have FF:=Lib.hid (F4.out.up (b:=Z+1) (by have:=HZ.out;omega) #[.int .i64 0,.int .i64 N,.int .i64 1,zR])
  have RF:=Lib.hid (zE rr #[.int .i64 0,.int .i64 N,.int .i64 1,zR]);clear G rr;refine ⟨fun _=>True,trivial,?_⟩
  show wpQuiet _ _ _ _ _ _;refine wpQuiet_nil ?_;go_wp2_with fail;refine bodyPost_ret (v:=repV 0 N 1 zR) (yV Tryz.results83 _ _ (Z+1) _ _ rfl RF.out Tryz.underlying33 rfl (by kernel_rfl)) rfl ?_
  rw[HR.out,repO_c HE.out.symm,HX.out.1,HX.out.2.1,HX.out.2.2,<-HN.out];exact ⟨_,FF.out,ST.out,.inl ⟨none,0,rfl,RdS.nil _ _ _ _⟩⟩
 ·go_wp2_with fail
  refine (musti_bad _ E h0 _).mono ?_;rintro e w5 ⟨rfl,rfl⟩;go_wp2_with fail;rw[HR.out,repE_c (by rw[<-HE.out];exact h0),HX.out.1,HX.out.2.1,HX.out.2.2,<-HE.out]
  exact ⟨rfl,_,F4.out,S4.out,.inr ⟨h0,rfl,rfl⟩⟩
theorem pex5(T:Mk)(t B tc:Nat)(x:Sx)(c:Cm)(A A':Option Addr)(a a':Nat)(w:World)(h:ExIn T w t B tc x c A a A' a')(hk:c.k=5):
  Calls Tryz.prog 83 #[.pointer (some ⟨B,0,none⟩),cmV c A a A' a'] w (OutR t B ⟨exD x c,exC x c,exK x c,x.l,x.g⟩ (exR x c) T w):=by
 have HR:=Lib.hid (show exR x c=rpE (swE x.K c.i) from (by unfold exR;rw[if_neg (by omega),if_neg (by omega),if_pos hk]))
 have HX:=Lib.hid (show exD x c=x.d/\exC x c=x.n/\exK x c=swK x.K c.i (decide (c.n=1)) from ⟨(by unfold exD;rw[if_neg (by omega),if_neg (by omega)]),(by unfold exC;rw[if_neg (by omega),if_neg (by omega)]),(by unfold exK;rw[if_neg (by omega),if_neg (by omega),if_pos hk])⟩)
 obtain ⟨Z,hZ⟩:∃ Z,Z=w.heap.size:=⟨_,rfl⟩;obtain ⟨w1,hw1⟩:∃ w1,w1=(w.alloc (.cells (cmA c A a A' a') 36)).alloc (.cells #[.int .i64 0,.int .i64 0,.int .i64 0,zR] 33):=⟨_,rfl⟩;have bw:Below w.heap.size w w1:=by rw[hw1];exact ((Below.refl _ _).alloc (Nat.le_refl _) _).alloc (by simp) _
 have rc:row w1 Z=some (cmA c A a A' a'):=by rw[hw1,hZ];exact zN (zA _ _ _ _ rfl) _
 have rr:row w1 (Z+1)=some #[.int .i64 0,.int .i64 0,.int .i64 0,zR]:=by rw[hw1,hZ];exact zA _ _ _ _ (by simp)
 have hz1:w1.heap.size=Z+2:=by rw[hw1,hZ];simp
 have X1:=Lib.hid (h.below bw);have F1:=Lib.hid (show Fr T (paint T w.heap.size (t+2)) (H2 t) w w1 from Fr.new bw _)
 have TG:=Lib.hid (show paint T w.heap.size (t+2) Z=t+2/\paint T w.heap.size (t+2) (Z+1)=t+2 from ⟨zP (by omega),zP (by omega)⟩)
 obtain ⟨T1,hT1⟩:∃ T1,T1=paint T w.heap.size (t+2):=⟨_,rfl⟩;rw[<-hT1] at X1 F1 TG;have HZ:=Lib.hid hZ;have RC:=Lib.hid rc;have RR:=Lib.hid rr;have ht:=h.t0;have HK:=Lib.hid hk;have bd0:=rp_b0';clear h bw rc rr hT1 hZ hk;go_enter Tryz.func83,Tryz.ntmps83;go_upto_region 1 with fail
 rw[<-hw1,<-HZ.out];clear hw1;obtain ⟨a0,a1,a2,a3,a4,a5,a6⟩:=yB RC.out;rw[HK.out] at a0;go_upto_region 7 with fail
 refine zY [([0,1,2,3,4,5,6,7],8,false),([],9,true)] [] (RdCm Z (cmA c A a A' a')) (by kernel_rfl) (by kernel_rfl) (fun _ _ _ _ _ h=>h) (by show row _ _=_;rw[zS];exact RC.out) ?_
 clear a0 a1 a2 a3 a4 a5 a6;have b2:=zQ (Below.refl w1.heap.size w1) 1;have X2:=X1.out.below b2;have F2:=F1.out.trans (Fr.new (T:=T1) (H:=H2 t) b2 (t+2));have RR2:=Lib.hid (zD b2 RR.out);have RC2:=Lib.hid (zD b2 RC.out);have TG2:=Lib.hid (show paint T1 w1.heap.size (t+2) Z=t+2/\paint T1 w1.heap.size (t+2) (Z+1)=t+2 by rw[zH (by omega),zH (by omega)];exact TG.out)
 have hz2:(w1.drewN 1).heap.size=Z+2:=hz1;obtain ⟨T2,hT2⟩:∃ T2,T2=paint T1 w1.heap.size (t+2):=⟨_,rfl⟩;obtain ⟨w2,hw2⟩:∃ w2,w2=w1.drewN 1:=⟨_,rfl⟩;rw[<-hT2,<-hw2] at X2 F2;rw[<-hw2] at RR2 RC2 hz2 ⊢;rw[<-hT2] at TG2;replace X2:=Lib.hid X2;replace F2:=Lib.hid F2;clear hT2 hw2 b2 X1 F1 RR TG RC hz1;have hne:Nonempty (In (RdCm Z (cmA c A a A' a'))):=⟨⟨w2,RC2.out⟩⟩;have Q0:∀ y:In (RdCm Z (cmA c A a A' a')),row y.val Z=some (cmA c A a A' a'):=fun y=>y.ok
 have Q3:∀ y:In (RdCm Z (cmA c A a A' a')),y.val.cell? ⟨Z,3,none⟩=some (.int .i64 c.i):=fun y=>(yB y.ok).2.2.2.1
 have Q4:∀ y:In (RdCm Z (cmA c A a A' a')),y.val.cell? ⟨Z,4,none⟩=some (.int .i64 c.n):=fun y=>(yB y.ok).2.2.2.2.1
 have Q5:∀ y:In (RdCm Z (cmA c A a A' a')),y.val.cell? ⟨Z,5,none⟩=some (.slice A c.T a):=fun y=>(yB y.ok).2.2.2.2.2.1
 have Q6:∀ y:In (RdCm Z (cmA c A a A' a')),y.val.cell? ⟨Z,6,none⟩=some (.slice A' c.U a'):=fun y=>(yB y.ok).2.2.2.2.2.2
 simp only[wpFl,pk,List.getElem?_cons_zero,List.getElem?_cons_succ];refine zV ?_
 repeat (go_big_quiet_step (fail))
 refine wpQuiet_nil ?_;clear Q0 Q3 Q4 Q5 Q6 hne;obtain ⟨R,hk2,hput⟩:=X2.out.st.keys;have PT:=Lib.hid hput;have H4:=Lib.hid (wsw_any B x.K c.i (decide (c.n=1)) w2 hk2)
 have hBZ:B≠Z/\B≠Z+1:=by
  have h1:=X2.out.st.tg;have h2:=TG2.out;exact ⟨fun e=>by rw[e] at h1;omega,fun e=>by rw[e] at h1;omega⟩
 clear hk2 hput;go_wp2_with fail;refine H4.out.mono ?_;rintro e w4 ⟨rfl,hk4,hc4⟩;have hst4:=PT.out ht w4 (swK x.K c.i (decide (c.n=1))) hk4 hc4 (t+2);have hf4:=hc4.fr (T:=T2) (H:=H2 t) (by rw[X2.out.st.tg];exact .inl rfl) (t+2)
 have F4:=Lib.hid (F2.out.trans hf4);have S4:=Lib.hid hst4;have RR4:=Lib.hid (hc4.row RR2.out (fun e=>hBZ.2 e.symm))
 have RC4:=Lib.hid (hc4.row RC2.out (fun e=>hBZ.1 e.symm))
 have TG4:=Lib.hid (show paint T2 w2.heap.size (t+2) (Z+1)=t+2 by rw[zH (by omega)];exact TG2.out.2)
 have hz4:=hc4.size;obtain ⟨T4,hT4⟩:∃ T4,T4=paint T2 w2.heap.size (t+2):=⟨_,rfl⟩;rw[<-hT4] at F4 S4 TG4;clear hst4 hf4 hk4 hc4 hT4 H4 PT X2 F2 RR2 RC2 TG2 hBZ;obtain ⟨E,hE⟩:∃ E,E=swE x.K c.i:=⟨_,rfl⟩;rw[<-hE];have HE:=Lib.hid hE;clear hE
 by_cases h0:E=0
 ·subst h0
  go_wp2_with fail;refine ⟨RdCm Z (cmA c A a A' a'),RC4.out,.inr ⟨RC4.out,fun _ h=>h⟩,?_⟩
  show wpQuiet _ _ _ _ _ _;refine wpQuiet_nil ?_;go_wp2_with fail;refine (yQ _).mono ?_;rintro e w5 ⟨rfl,rfl⟩;go_wp2_with fail
  first|refine ⟨RdCm Z (cmA c A a A' a'),RC4.out,.inr ⟨RC4.out,fun _ h=>h⟩,?_⟩|refine ⟨RdCm Z (cmA c A a A' a'),RC4.out,?_⟩
  show wpQuiet _ _ _ _ _ _;refine wpQuiet_nil ?_;have rr:=RR4.out;have G:=Fr.row (T:=T4) (H:=fun c=>c=t+2) (w:=w5) (B:=Z+1) TG4.out #[.int .i64 0,.int .i64 0,.int .i64 0,zR]
  have ST:=Lib.hid (S4.out.fr G (by omega) (by omega) (by omega))
  have FF:=Lib.hid (F4.out.up (b:=Z+1) (by have:=HZ.out;omega) #[.int .i64 0,.int .i64 0,.int .i64 0,zR])
  have RF:=Lib.hid (zE rr #[.int .i64 0,.int .i64 0,.int .i64 0,zR]);clear G;go_wp2_with fail;refine bodyPost_ret (v:=repV 0 0 0 zR) (yV Tryz.results83 _ _ (Z+1) _ _ rfl RF.out Tryz.underlying33 rfl (by kernel_rfl)) rfl ?_
  rw[HR.out,HX.out.1,HX.out.2.1,HX.out.2.2,<-HE.out];exact ⟨_,FF.out,ST.out,.inl ⟨none,0,rfl,RdS.nil _ _ _ _⟩⟩
 ·go_wp2_with fail
  refine ⟨RdCm Z (cmA c A a A' a'),RC4.out,.inr ⟨RC4.out,fun _ h=>h⟩,?_⟩
  show wpQuiet _ _ _ _ _ _;refine wpQuiet_nil ?_;go_wp2_with fail;refine (yM E h0 _).mono ?_;rintro e w5 ⟨rfl,rfl⟩;go_wp2_with fail;rw[HR.out,HX.out.1,HX.out.2.1,HX.out.2.2,<-HE.out];exact ⟨rfl,_,F4.out,S4.out,.inr ⟨h0,rfl,rfl⟩⟩
theorem pex6(T:Mk)(t B tc:Nat)(x:Sx)(c:Cm)(A A':Option Addr)(a a':Nat)(w:World)(h:ExIn T w t B tc x c A a A' a')(hk:c.k=6):
  Calls Tryz.prog 83 #[.pointer (some ⟨B,0,none⟩),cmV c A a A' a'] w (OutR t B ⟨exD x c,exC x c,exK x c,x.l,x.g⟩ (exR x c) T w):=by
 have HR:=Lib.hid (show exR x c=rpE (dsE x.K c.i c.n) from (by unfold exR;rw[if_neg (by omega),if_neg (by omega),if_neg (by omega),if_pos hk]))
 have HX:=Lib.hid (show exD x c=x.d/\exC x c=x.n/\exK x c=dsK x.K c.i c.n from ⟨(by unfold exD;rw[if_neg (by omega),if_neg (by omega)]),(by unfold exC;rw[if_neg (by omega),if_neg (by omega)]),(by unfold exK;rw[if_neg (by omega),if_neg (by omega),if_neg (by omega),if_pos hk])⟩)
 obtain ⟨Z,hZ⟩:∃ Z,Z=w.heap.size:=⟨_,rfl⟩;obtain ⟨w1,hw1⟩:∃ w1,w1=(w.alloc (.cells (cmA c A a A' a') 36)).alloc (.cells #[.int .i64 0,.int .i64 0,.int .i64 0,zR] 33):=⟨_,rfl⟩;have bw:Below w.heap.size w w1:=by rw[hw1];exact ((Below.refl _ _).alloc (Nat.le_refl _) _).alloc (by simp) _
 have rc:row w1 Z=some (cmA c A a A' a'):=by rw[hw1,hZ];exact zN (zA _ _ _ _ rfl) _
 have rr:row w1 (Z+1)=some #[.int .i64 0,.int .i64 0,.int .i64 0,zR]:=by rw[hw1,hZ];exact zA _ _ _ _ (by simp)
 have hz1:w1.heap.size=Z+2:=by rw[hw1,hZ];simp
 have X1:=Lib.hid (h.below bw);have F1:=Lib.hid (show Fr T (paint T w.heap.size (t+2)) (H2 t) w w1 from Fr.new bw _)
 have TG:=Lib.hid (show paint T w.heap.size (t+2) Z=t+2/\paint T w.heap.size (t+2) (Z+1)=t+2 from ⟨zP (by omega),zP (by omega)⟩)
 obtain ⟨T1,hT1⟩:∃ T1,T1=paint T w.heap.size (t+2):=⟨_,rfl⟩;rw[<-hT1] at X1 F1 TG;have HZ:=Lib.hid hZ;have RC:=Lib.hid rc;have RR:=Lib.hid rr;have ht:=h.t0;have HK:=Lib.hid hk;have bd0:=rp_b0';clear h bw rc rr hT1 hZ hk;go_enter Tryz.func83,Tryz.ntmps83;go_upto_region 1 with fail
 rw[<-hw1,<-HZ.out];clear hw1;obtain ⟨a0,a1,a2,a3,a4,a5,a6⟩:=yB RC.out;rw[HK.out] at a0;go_upto_region 9 with fail
 refine zY [([0,1,2,3,4,5,6],7,false),([],8,true)] [] (RdCm Z (cmA c A a A' a')) (by kernel_rfl) (by kernel_rfl) (fun _ _ _ _ _ h=>h) (by show row _ _=_;rw[zS];exact RC.out) ?_
 clear a0 a1 a2 a3 a4 a5 a6;have b2:=zQ (Below.refl w1.heap.size w1) 1;have X2:=X1.out.below b2;have F2:=F1.out.trans (Fr.new (T:=T1) (H:=H2 t) b2 (t+2));have RR2:=Lib.hid (zD b2 RR.out);have RC2:=Lib.hid (zD b2 RC.out);have TG2:=Lib.hid (show paint T1 w1.heap.size (t+2) Z=t+2/\paint T1 w1.heap.size (t+2) (Z+1)=t+2 by rw[zH (by omega),zH (by omega)];exact TG.out)
 have hz2:(w1.drewN 1).heap.size=Z+2:=hz1;obtain ⟨T2,hT2⟩:∃ T2,T2=paint T1 w1.heap.size (t+2):=⟨_,rfl⟩;obtain ⟨w2,hw2⟩:∃ w2,w2=w1.drewN 1:=⟨_,rfl⟩;rw[<-hT2,<-hw2] at X2 F2;rw[<-hw2] at RR2 RC2 hz2 ⊢;rw[<-hT2] at TG2;replace X2:=Lib.hid X2;replace F2:=Lib.hid F2;clear hT2 hw2 b2 X1 F1 RR TG RC hz1;have hne:Nonempty (In (RdCm Z (cmA c A a A' a'))):=⟨⟨w2,RC2.out⟩⟩;have Q0:∀ y:In (RdCm Z (cmA c A a A' a')),row y.val Z=some (cmA c A a A' a'):=fun y=>y.ok
 have Q3:∀ y:In (RdCm Z (cmA c A a A' a')),y.val.cell? ⟨Z,3,none⟩=some (.int .i64 c.i):=fun y=>(yB y.ok).2.2.2.1
 have Q4:∀ y:In (RdCm Z (cmA c A a A' a')),y.val.cell? ⟨Z,4,none⟩=some (.int .i64 c.n):=fun y=>(yB y.ok).2.2.2.2.1
 have Q5:∀ y:In (RdCm Z (cmA c A a A' a')),y.val.cell? ⟨Z,5,none⟩=some (.slice A c.T a):=fun y=>(yB y.ok).2.2.2.2.2.1
 have Q6:∀ y:In (RdCm Z (cmA c A a A' a')),y.val.cell? ⟨Z,6,none⟩=some (.slice A' c.U a'):=fun y=>(yB y.ok).2.2.2.2.2.2
 simp only[wpFl,pk,List.getElem?_cons_zero,List.getElem?_cons_succ];refine zV ?_
 repeat (go_big_quiet_step (fail))
 refine wpQuiet_nil ?_;clear Q0 Q3 Q4 Q5 Q6 hne;obtain ⟨R,hk2,hput⟩:=X2.out.st.keys;have PT:=Lib.hid hput;have H4:=Lib.hid (wds_any B x.K c.i c.n w2 hk2)
 have hBZ:B≠Z/\B≠Z+1:=by
  have h1:=X2.out.st.tg;have h2:=TG2.out;exact ⟨fun e=>by rw[e] at h1;omega,fun e=>by rw[e] at h1;omega⟩
 clear hk2 hput;go_wp2_with fail;refine H4.out.mono ?_;rintro e w4 ⟨rfl,hk4,hc4⟩;have hst4:=PT.out ht w4 (dsK x.K c.i c.n) hk4 hc4 (t+2);have hf4:=hc4.fr (T:=T2) (H:=H2 t) (by rw[X2.out.st.tg];exact .inl rfl) (t+2)
 have F4:=Lib.hid (F2.out.trans hf4);have S4:=Lib.hid hst4;have RR4:=Lib.hid (hc4.row RR2.out (fun e=>hBZ.2 e.symm))
 have RC4:=Lib.hid (hc4.row RC2.out (fun e=>hBZ.1 e.symm))
 have TG4:=Lib.hid (show paint T2 w2.heap.size (t+2) (Z+1)=t+2 by rw[zH (by omega)];exact TG2.out.2)
 have hz4:=hc4.size;obtain ⟨T4,hT4⟩:∃ T4,T4=paint T2 w2.heap.size (t+2):=⟨_,rfl⟩;rw[<-hT4] at F4 S4 TG4;clear hst4 hf4 hk4 hc4 hT4 H4 PT X2 F2 RR2 RC2 TG2 hBZ;obtain ⟨E,hE⟩:∃ E,E=dsE x.K c.i c.n:=⟨_,rfl⟩;rw[<-hE];have HE:=Lib.hid hE;clear hE
 by_cases h0:E=0
 ·subst h0
  go_wp2_with fail;refine ⟨RdCm Z (cmA c A a A' a'),RC4.out,.inr ⟨RC4.out,fun _ h=>h⟩,?_⟩
  show wpQuiet _ _ _ _ _ _;refine wpQuiet_nil ?_;go_wp2_with fail;refine (yQ _).mono ?_;rintro e w5 ⟨rfl,rfl⟩;go_wp2_with fail
  first|refine ⟨RdCm Z (cmA c A a A' a'),RC4.out,.inr ⟨RC4.out,fun _ h=>h⟩,?_⟩|refine ⟨RdCm Z (cmA c A a A' a'),RC4.out,?_⟩
  show wpQuiet _ _ _ _ _ _;refine wpQuiet_nil ?_;have rr:=RR4.out;have G:=Fr.row (T:=T4) (H:=fun c=>c=t+2) (w:=w5) (B:=Z+1) TG4.out #[.int .i64 0,.int .i64 0,.int .i64 0,zR]
  have ST:=Lib.hid (S4.out.fr G (by omega) (by omega) (by omega))
  have FF:=Lib.hid (F4.out.up (b:=Z+1) (by have:=HZ.out;omega) #[.int .i64 0,.int .i64 0,.int .i64 0,zR])
  have RF:=Lib.hid (zE rr #[.int .i64 0,.int .i64 0,.int .i64 0,zR]);clear G;go_wp2_with fail;refine bodyPost_ret (v:=repV 0 0 0 zR) (yV Tryz.results83 _ _ (Z+1) _ _ rfl RF.out Tryz.underlying33 rfl (by kernel_rfl)) rfl ?_
  rw[HR.out,HX.out.1,HX.out.2.1,HX.out.2.2,<-HE.out];exact ⟨_,FF.out,ST.out,.inl ⟨none,0,rfl,RdS.nil _ _ _ _⟩⟩
 ·go_wp2_with fail
  refine ⟨RdCm Z (cmA c A a A' a'),RC4.out,.inr ⟨RC4.out,fun _ h=>h⟩,?_⟩
  show wpQuiet _ _ _ _ _ _;refine wpQuiet_nil ?_;go_wp2_with fail;refine (yM E h0 _).mono ?_;rintro e w5 ⟨rfl,rfl⟩;go_wp2_with fail;rw[HR.out,HX.out.1,HX.out.2.1,HX.out.2.2,<-HE.out];exact ⟨rfl,_,F4.out,S4.out,.inr ⟨h0,rfl,rfl⟩⟩
theorem pex4(T:Mk)(t B tc:Nat)(x:Sx)(c:Cm)(A A':Option Addr)(a a':Nat)(w:World)(h:ExIn T w t B tc x c A a A' a')(hk:c.k=4):
  Calls Tryz.prog 83 #[.pointer (some ⟨B,0,none⟩),cmV c A a A' a'] w (OutR t B ⟨exD x c,exC x c,exK x c,x.l,x.g⟩ (exR x c) T w):=by
 have HR:=Lib.hid (show exR x c=rpO (rtE x.K c.i) ⟨0,c.i,rtN x.K c.i,0,fun _=>0#8⟩ from (by unfold exR;rw[if_neg (by omega),if_pos hk]))
 have HX:=Lib.hid (show exD x c=drD x.d/\exC x c=x.n+1/\exK x c=rtK x.K c.i (drM x.d) from ⟨if_pos (.inr hk),if_pos (.inr hk),(by unfold exK;rw[if_neg (by omega),if_pos hk])⟩)
 obtain ⟨Z,hZ⟩:∃ Z,Z=w.heap.size:=⟨_,rfl⟩;obtain ⟨w1,hw1⟩:∃ w1,w1=(w.alloc (.cells (cmA c A a A' a') 36)).alloc (.cells #[.int .i64 0,.int .i64 0,.int .i64 0,zR] 33):=⟨_,rfl⟩;have bw:Below w.heap.size w w1:=by rw[hw1];exact ((Below.refl _ _).alloc (Nat.le_refl _) _).alloc (by simp) _
 have rc:row w1 Z=some (cmA c A a A' a'):=by rw[hw1,hZ];exact zN (zA _ _ _ _ rfl) _
 have rr:row w1 (Z+1)=some #[.int .i64 0,.int .i64 0,.int .i64 0,zR]:=by rw[hw1,hZ];exact zA _ _ _ _ (by simp)
 have hz1:w1.heap.size=Z+2:=by rw[hw1,hZ];simp
 have X1:=Lib.hid (h.below bw);have F1:=Lib.hid (show Fr T (paint T w.heap.size (t+2)) (H2 t) w w1 from Fr.new bw _)
 have TG:=Lib.hid (show paint T w.heap.size (t+2) Z=t+2/\paint T w.heap.size (t+2) (Z+1)=t+2 from ⟨zP (by omega),zP (by omega)⟩)
 obtain ⟨T1,hT1⟩:∃ T1,T1=paint T w.heap.size (t+2):=⟨_,rfl⟩;rw[<-hT1] at X1 F1 TG;have HZ:=Lib.hid hZ;have RC:=Lib.hid rc;have RR:=Lib.hid rr;have ht:=h.t0;have HK:=Lib.hid hk;have bd1:=rp_b12;clear h bw rc rr hT1 hZ hk;go_enter Tryz.func83,Tryz.ntmps83;go_upto_region 1 with fail
 rw[<-hw1,<-HZ.out];clear hw1;obtain ⟨a0,a1,a2,a3,a4,a5,a6⟩:=yB RC.out;rw[HK.out] at a0;go_upto_region 5 with fail
 refine zY [([0,1,2,3,4,5,6,7],8,false),([],9,false),([10,11],12,false),([13],14,true)] [] (RdCm Z (cmA c A a A' a')) (by kernel_rfl) (by kernel_rfl) (fun _ _ _ _ _ h=>h) (by show row _ _=_;rw[zS];exact RC.out) ?_
 clear a0 a1 a2 a3 a4 a5 a6;have b2:=zQ (Below.refl w1.heap.size w1) 1;have X2:=X1.out.below b2;have F2:=F1.out.trans (Fr.new (T:=T1) (H:=H2 t) b2 (t+2));have RR2:=Lib.hid (zD b2 RR.out);have RC2:=Lib.hid (zD b2 RC.out);have TG2:=Lib.hid (show paint T1 w1.heap.size (t+2) Z=t+2/\paint T1 w1.heap.size (t+2) (Z+1)=t+2 by rw[zH (by omega),zH (by omega)];exact TG.out)
 have hz2:(w1.drewN 1).heap.size=Z+2:=hz1;obtain ⟨T2,hT2⟩:∃ T2,T2=paint T1 w1.heap.size (t+2):=⟨_,rfl⟩;obtain ⟨w2,hw2⟩:∃ w2,w2=w1.drewN 1:=⟨_,rfl⟩;rw[<-hT2,<-hw2] at X2 F2;rw[<-hw2] at RR2 RC2 hz2 ⊢;rw[<-hT2] at TG2;replace X2:=Lib.hid X2;replace F2:=Lib.hid F2;clear hT2 hw2 b2 X1 F1 RR TG RC hz1;have hne:Nonempty (In (RdCm Z (cmA c A a A' a'))):=⟨⟨w2,RC2.out⟩⟩;have Q0:∀ y:In (RdCm Z (cmA c A a A' a')),row y.val Z=some (cmA c A a A' a'):=fun y=>y.ok
 have Q3:∀ y:In (RdCm Z (cmA c A a A' a')),y.val.cell? ⟨Z,3,none⟩=some (.int .i64 c.i):=fun y=>(yB y.ok).2.2.2.1
 have Q4:∀ y:In (RdCm Z (cmA c A a A' a')),y.val.cell? ⟨Z,4,none⟩=some (.int .i64 c.n):=fun y=>(yB y.ok).2.2.2.2.1
 have Q5:∀ y:In (RdCm Z (cmA c A a A' a')),y.val.cell? ⟨Z,5,none⟩=some (.slice A c.T a):=fun y=>(yB y.ok).2.2.2.2.2.1
 have Q6:∀ y:In (RdCm Z (cmA c A a A' a')),y.val.cell? ⟨Z,6,none⟩=some (.slice A' c.U a'):=fun y=>(yB y.ok).2.2.2.2.2.2
 simp only[wpFl,pk,List.getElem?_cons_zero,List.getElem?_cons_succ];refine zV ?_
 repeat (go_big_quiet_step (fail))
 refine wpQuiet_nil ?_;clear Q0 Q3 Q4 Q5 Q6 hne;have H3:=Lib.hid (pmat_any16 T2 t B x w2 X2.out.st ht X2.out.tab X2.out.m0 X2.out.n);go_wp2_with fail;refine H3.out.mono ?_;rintro e w3 ⟨rfl,T3,hf3,hs3⟩;obtain ⟨R,hk3,hput⟩:=hs3.keys;have F3:=Lib.hid (F2.out.trans hf3);have RR3:=Lib.hid (hf3.rowAt RR2.out (by rw[TG2.out.2];exact h2_no))
 have RC3:=Lib.hid (hf3.rowAt RC2.out (by rw[TG2.out.1];exact h2_no))
 have TG3:=Lib.hid (show T3 Z=t+2/\T3 (Z+1)=t+2 by rw[hf3.tag _ (by omega),hf3.tag _ (by omega)];exact TG2.out)
 have PT:=Lib.hid hput;have S3:=Lib.hid hs3;have H4:=Lib.hid (wrt_any B x.K c.i (drM x.d) w3 hk3);have hz3:=hf3.size
 have hBZ:B≠Z/\B≠Z+1:=by
  have h1:=hs3.tg;have h2:=TG3.out;exact ⟨fun e=>by rw[e] at h1;omega,fun e=>by rw[e] at h1;omega⟩
 clear hf3 hs3 hk3 hput H3 RR2 RC2 TG2 F2;go_wp2_with fail;refine ⟨RdCm Z (cmA c A a A' a'),RC3.out,.inr ⟨RC3.out,fun _ h=>h⟩,?_⟩
 show wpQuiet _ _ _ _ _ _;refine wpQuiet_nil ?_;go_wp2_with fail;refine H4.out.mono ?_;rintro e w4 ⟨rfl,hk4,hc4⟩;have hst4:=PT.out ht w4 (rtK x.K c.i (drM x.d)) hk4 hc4 (t+2);have hf4:=hc4.fr (T:=T3) (H:=H2 t) (by rw[S3.out.tg];exact .inl rfl) (t+2)
 have F4:=Lib.hid (F3.out.trans hf4);have S4:=Lib.hid hst4;have RR4:=Lib.hid (hc4.row RR3.out (fun e=>hBZ.2 e.symm))
 have RC4:=Lib.hid (hc4.row RC3.out (fun e=>hBZ.1 e.symm))
 have TG4:=Lib.hid (show paint T3 w3.heap.size (t+2) (Z+1)=t+2 by rw[zH (by omega)];exact TG3.out.2)
 have hz4:=hc4.size;obtain ⟨T4,hT4⟩:∃ T4,T4=paint T3 w3.heap.size (t+2):=⟨_,rfl⟩;rw[<-hT4] at F4 S4 TG4;clear hst4 hf4 hk4 hc4 hT4 H4 PT S3 F3 RR3 RC3 TG3 hBZ;obtain ⟨N,hN⟩:∃ N,N=rtN x.K c.i:=⟨_,rfl⟩;obtain ⟨E,hE⟩:∃ E,E=rtE x.K c.i:=⟨_,rfl⟩;rw[<-hN,<-hE];have HN:=Lib.hid hN;have HE:=Lib.hid hE;clear hN hE;go_wp2_with fail;refine ⟨RdCm Z (cmA c A a A' a'),RC4.out,.inr ⟨RC4.out,fun _ h=>h⟩,?_⟩
 show wpQuiet _ _ _ _ _ _;have hne:Nonempty (In (RdCm Z (cmA c A a A' a'))):=⟨⟨w4,RC4.out⟩⟩;refine zV ?_
 repeat (go_big_quiet_step (fail))
 refine wpQuiet_nil ?_;clear hne
 by_cases h0:E=0
 ·subst h0
  go_wp2_with fail;refine (musti_ok _ _).mono ?_;rintro e w5 ⟨rfl,rfl⟩;go_wp2_with fail;refine ⟨RdCm Z (cmA c A a A' a'),RC4.out,.inr ⟨RC4.out,fun _ h=>h⟩,?_⟩
  show wpQuiet _ _ _ _ _ _;have hne:Nonempty (In (RdCm Z (cmA c A a A' a'))):=⟨⟨w5,RC4.out⟩⟩;refine zV ?_
  repeat (go_big_quiet_step (fail))
  refine wpQuiet_nil ?_;clear hne;have rr:=RR4.out;go_wp2_with fail;have G:=Fr.row (T:=T4) (H:=fun c=>c=t+2) (w:=w5) (B:=Z+1) TG4.out #[.int .i64 0,.int .i64 c.i,.int .i64 N,zR]
  have ST:=Lib.hid (S4.out.fr G (by omega) (by omega) (by omega))
  have FF:=Lib.hid (F4.out.up (b:=Z+1) (by have:=HZ.out;omega) #[.int .i64 0,.int .i64 c.i,.int .i64 N,zR])
  have RF:=Lib.hid (zE rr #[.int .i64 0,.int .i64 c.i,.int .i64 N,zR]);have RC5:=Lib.hid (show row (w5.setRow (Z+1) #[.int .i64 0,.int .i64 c.i,.int .i64 N,zR]) Z=some (cmA c A a A' a') by rw[zF _ _ _ _ (by omega)];exact RC4.out)
  clear G rr
  first|refine ⟨RdCm Z (cmA c A a A' a'),RC5.out,.inl trivial,?_⟩|refine ⟨RdCm Z (cmA c A a A' a'),RC5.out,?_⟩
  show wpQuiet _ _ _ _ _ _;refine wpQuiet_nil ?_;go_wp2_with fail;refine bodyPost_ret (v:=repV 0 c.i N zR) (yV Tryz.results83 _ _ (Z+1) _ _ rfl RF.out Tryz.underlying33 rfl (by kernel_rfl)) rfl ?_
  rw[HR.out,repO_c HE.out.symm,HX.out.1,HX.out.2.1,HX.out.2.2,<-HN.out];exact ⟨_,FF.out,ST.out,.inl ⟨none,0,rfl,RdS.nil _ _ _ _⟩⟩
 ·go_wp2_with fail
  refine (musti_bad _ E h0 _).mono ?_;rintro e w5 ⟨rfl,rfl⟩;go_wp2_with fail;rw[HR.out,repE_c (by rw[<-HE.out];exact h0),HX.out.1,HX.out.2.1,HX.out.2.2,<-HE.out]
  exact ⟨rfl,_,F4.out,S4.out,.inr ⟨h0,rfl,rfl⟩⟩
theorem rp_b123(n m:Int)(A:Option Addr)(L k:Nat)(w:World):(Instr.build 33 #[(1,.int .i64 n),(2,.int .i64 m),(3,.slice A L k)]).run Tryz.prog w=.ok (repV 0 n m (.slice A L k)) w:=by kernel_rfl
theorem rp_b23(m:Int)(A:Option Addr)(L k:Nat)(w:World):(Instr.build 33 #[(2,.int .i64 m),(3,.slice A L k)]).run Tryz.prog w=.ok (repV 0 0 m (.slice A L k)) w:=by kernel_rfl
theorem rp_b3(A:Option Addr)(L k:Nat)(w:World):(Instr.build 33 #[(3,.slice A L k)]).run Tryz.prog w=.ok (repV 0 0 0 (.slice A L k)) w:=by kernel_rfl
theorem pex7(T:Mk)(t B tc:Nat)(x:Sx)(c:Cm)(A A':Option Addr)(a a':Nat)(w:World)(h:ExIn T w t B tc x c A a A' a')(hk:c.k=7):
  Calls Tryz.prog 83 #[.pointer (some ⟨B,0,none⟩),cmV c A a A' a'] w (OutR t B ⟨exD x c,exC x c,exK x c,x.l,x.g⟩ (exR x c) T w):=by
 have HR:=Lib.hid (show exR x c=rpO (ecE x.K c.i c.T c.U) ⟨0,c.i,enV x.K c.i c.T c.U,enL x.K c.i c.T c.U,enF x.K c.i c.f c.T c.h c.U⟩ from (by unfold exR;rw[if_neg (by omega),if_neg (by omega),if_neg (by omega),if_neg (by omega),if_pos hk]))
 have HX:=Lib.hid (show exD x c=x.d/\exC x c=x.n/\exK x c=enK x.K c.i c.T c.U from ⟨(by unfold exD;rw[if_neg (by omega),if_neg (by omega)]),(by unfold exC;rw[if_neg (by omega),if_neg (by omega)]),(by unfold exK;rw[if_neg (by omega),if_neg (by omega),if_neg (by omega),if_neg (by omega),if_pos hk])⟩)
 obtain ⟨Z,hZ⟩:∃ Z,Z=w.heap.size:=⟨_,rfl⟩;obtain ⟨w1,hw1⟩:∃ w1,w1=(w.alloc (.cells (cmA c A a A' a') 36)).alloc (.cells #[.int .i64 0,.int .i64 0,.int .i64 0,zR] 33):=⟨_,rfl⟩;have bw:Below w.heap.size w w1:=by rw[hw1];exact ((Below.refl _ _).alloc (Nat.le_refl _) _).alloc (by simp) _
 have rc:row w1 Z=some (cmA c A a A' a'):=by rw[hw1,hZ];exact zN (zA _ _ _ _ rfl) _
 have rr:row w1 (Z+1)=some #[.int .i64 0,.int .i64 0,.int .i64 0,zR]:=by rw[hw1,hZ];exact zA _ _ _ _ (by simp)
 have hz1:w1.heap.size=Z+2:=by rw[hw1,hZ];simp
 have X1:=Lib.hid (h.below bw);have F1:=Lib.hid (show Fr T (paint T w.heap.size (t+2)) (H2 t) w w1 from Fr.new bw _)
 have TG:=Lib.hid (show paint T w.heap.size (t+2) Z=t+2/\paint T w.heap.size (t+2) (Z+1)=t+2 from ⟨zP (by omega),zP (by omega)⟩)
 obtain ⟨T1,hT1⟩:∃ T1,T1=paint T w.heap.size (t+2):=⟨_,rfl⟩;rw[<-hT1] at X1 F1 TG;have HZ:=Lib.hid hZ;have RC:=Lib.hid rc;have RR:=Lib.hid rr;have ht:=h.t0;have HK:=Lib.hid hk;have bd1:=rp_b123;clear h bw rc rr hT1 hZ hk;go_enter Tryz.func83,Tryz.ntmps83;go_upto_region 1 with fail
 rw[<-hw1,<-HZ.out];clear hw1;obtain ⟨a0,a1,a2,a3,a4,a5,a6⟩:=yB RC.out;rw[HK.out] at a0;go_upto_region 11 with fail
 refine zY [([0,1,2,3,4,5,6,7,8],9,true)] [10,11,12,13,14,15,16] (RdCm Z (cmA c A a A' a')) (by kernel_rfl) (by kernel_rfl) (fun _ _ _ _ _ h=>h) (by show row _ _=_;rw[zS];exact RC.out) ?_
 clear a0 a1 a2 a3 a4 a5 a6;have b2:=zQ (Below.refl w1.heap.size w1) 1;have X2:=X1.out.below b2;have F2:=F1.out.trans (Fr.new (T:=T1) (H:=H2 t) b2 (t+2));have RR2:=Lib.hid (zD b2 RR.out);have RC2:=Lib.hid (zD b2 RC.out);have TG2:=Lib.hid (show paint T1 w1.heap.size (t+2) Z=t+2/\paint T1 w1.heap.size (t+2) (Z+1)=t+2 by rw[zH (by omega),zH (by omega)];exact TG.out)
 have hz2:(w1.drewN 1).heap.size=Z+2:=hz1;obtain ⟨T2,hT2⟩:∃ T2,T2=paint T1 w1.heap.size (t+2):=⟨_,rfl⟩;obtain ⟨w2,hw2⟩:∃ w2,w2=w1.drewN 1:=⟨_,rfl⟩;rw[<-hT2,<-hw2] at X2 F2;rw[<-hw2] at RR2 RC2 hz2 ⊢;rw[<-hT2] at TG2;replace X2:=Lib.hid X2;replace F2:=Lib.hid F2;clear hT2 hw2 b2 X1 F1 RR TG RC hz1;have hne:Nonempty (In (RdCm Z (cmA c A a A' a'))):=⟨⟨w2,RC2.out⟩⟩;have Q0:∀ y:In (RdCm Z (cmA c A a A' a')),row y.val Z=some (cmA c A a A' a'):=fun y=>y.ok
 have Q3:∀ y:In (RdCm Z (cmA c A a A' a')),y.val.cell? ⟨Z,3,none⟩=some (.int .i64 c.i):=fun y=>(yB y.ok).2.2.2.1
 have Q4:∀ y:In (RdCm Z (cmA c A a A' a')),y.val.cell? ⟨Z,4,none⟩=some (.int .i64 c.n):=fun y=>(yB y.ok).2.2.2.2.1
 have Q5:∀ y:In (RdCm Z (cmA c A a A' a')),y.val.cell? ⟨Z,5,none⟩=some (.slice A c.T a):=fun y=>(yB y.ok).2.2.2.2.2.1
 have Q6:∀ y:In (RdCm Z (cmA c A a A' a')),y.val.cell? ⟨Z,6,none⟩=some (.slice A' c.U a'):=fun y=>(yB y.ok).2.2.2.2.2.2
 simp only[wpFl,pk,List.getElem?_cons_zero,List.getElem?_cons_succ];refine zV ?_
 repeat (go_big_quiet_step (fail))
 refine wpQuiet_nil ?_;clear Q0 Q3 Q4 Q5 Q6 hne;obtain ⟨R,hk2,hput⟩:=X2.out.st.keys;have PT:=Lib.hid hput;have H4:=Lib.hid (pen_any B x.K c.i c.f c.T a A c.h c.U a' A' w2 hk2 X2.out.cm.d.sl (X2.out.cm.d.offB X2.out.tB) X2.out.cm.b.sl (X2.out.cm.b.offB X2.out.tB))
 have hBZ:B≠Z/\B≠Z+1:=by
  have h1:=X2.out.st.tg;have h2:=TG2.out;exact ⟨fun e=>by rw[e] at h1;omega,fun e=>by rw[e] at h1;omega⟩
 clear hk2 hput;go_wp2_with fail;refine H4.out.mono ?_;rintro e w4 ⟨v,rfl,ho4,hk4,hc4⟩;obtain ⟨A4,k4,rfl,-,-,-⟩:=ho4.sl;have D4:=Lib.hid (ho4.rdS T2 0);have hst4:=PT.out ht w4 (enK x.K c.i c.T c.U) hk4 hc4 0;have hf4:=hc4.fr (T:=T2) (H:=H2 t) (by rw[X2.out.st.tg];exact .inl rfl) 0
 have F4:=Lib.hid (F2.out.trans hf4);have S4:=Lib.hid hst4;have RR4:=Lib.hid (hc4.row RR2.out (fun e=>hBZ.2 e.symm))
 have RC4:=Lib.hid (hc4.row RC2.out (fun e=>hBZ.1 e.symm))
 have TG4:=Lib.hid (show paint T2 w2.heap.size 0 (Z+1)=t+2 by rw[zH (by omega)];exact TG2.out.2)
 have hz4:=hc4.size;obtain ⟨T4,hT4⟩:∃ T4,T4=paint T2 w2.heap.size 0:=⟨_,rfl⟩;rw[<-hT4] at F4 S4 TG4 D4;clear hst4 hf4 hk4 hc4 hT4 H4 PT X2 F2 RR2 RC2 TG2 hBZ ho4;obtain ⟨E,hE⟩:∃ E,E=ecE x.K c.i c.T c.U:=⟨_,rfl⟩;obtain ⟨V,hV⟩:∃ V,V=enV x.K c.i c.T c.U:=⟨_,rfl⟩;obtain ⟨L,hL⟩:∃ L,L=enL x.K c.i c.T c.U:=⟨_,rfl⟩;rw[<-hL] at D4;rw[<-hE,<-hV,<-hL];have HE:=Lib.hid hE;have HV:=Lib.hid hV;have HL:=Lib.hid hL;clear hE hV hL;go_wp2_with fail
 first|refine ⟨RdCm Z (cmA c A a A' a'),RC4.out,.inr ⟨RC4.out,fun _ h=>h⟩,?_⟩|refine ⟨RdCm Z (cmA c A a A' a'),RC4.out,?_⟩
 show wpQuiet _ _ _ _ _ _;have hne:Nonempty (In (RdCm Z (cmA c A a A' a'))):=⟨⟨w4,RC4.out⟩⟩;refine zV ?_
 repeat (go_big_quiet_step (fail))
 refine wpQuiet_nil ?_;clear hne
 by_cases h0:E=0
 ·subst h0
  go_wp2_with fail;refine (yQ _).mono ?_;rintro e w5 ⟨rfl,rfl⟩;obtain ⟨a0,a1,a2,a3,a4,a5,a6⟩:=yB RC4.out;have rr:=RR4.out;have G:=Fr.row (T:=T4) (H:=fun c=>c=t+2) (w:=w5) (B:=Z+1) TG4.out #[.int .i64 0,.int .i64 c.i,.int .i64 V,.slice A4 L k4]
  have ST:=Lib.hid (S4.out.fr G (by omega) (by omega) (by omega))
  have DD:=Lib.hid (D4.out.fr G (by omega))
  have FF:=Lib.hid (F4.out.up (b:=Z+1) (by have:=HZ.out;omega) #[.int .i64 0,.int .i64 c.i,.int .i64 V,.slice A4 L k4])
  have RF:=Lib.hid (zE rr #[.int .i64 0,.int .i64 c.i,.int .i64 V,.slice A4 L k4]);clear G;go_wp2_with fail;refine bodyPost_ret (v:=repV 0 c.i V (.slice A4 L k4)) (yV Tryz.results83 _ _ (Z+1) _ _ rfl RF.out Tryz.underlying33 rfl (by kernel_rfl)) rfl ?_
  rw[HR.out,repO_c HE.out.symm,HX.out.1,HX.out.2.1,HX.out.2.2,<-HV.out,<-HL.out];exact ⟨_,FF.out,ST.out,.inl ⟨A4,k4,rfl,DD.out⟩⟩
 ·go_wp2_with fail
  refine (yM E h0 _).mono ?_;rintro e w5 ⟨rfl,rfl⟩;go_wp2_with fail;rw[HR.out,repE_c (by rw[<-HE.out];exact h0),HX.out.1,HX.out.2.1,HX.out.2.2,<-HE.out]
  exact ⟨rfl,_,F4.out,S4.out,.inr ⟨h0,rfl,rfl⟩⟩
theorem pex9(T:Mk)(t B tc:Nat)(x:Sx)(c:Cm)(A A':Option Addr)(a a':Nat)(w:World)(h:ExIn T w t B tc x c A a A' a')(hk:c.k=9):
  Calls Tryz.prog 83 #[.pointer (some ⟨B,0,none⟩),cmV c A a A' a'] w (OutR t B ⟨exD x c,exC x c,exK x c,x.l,x.g⟩ (exR x c) T w):=by
 have HR:=Lib.hid (show exR x c=rpO (rwE x.K c.T c.f c.h c.U) ⟨0,0,rwV x.K c.T c.f c.h c.U,rwL x.K c.T c.f c.h c.U,rwF x.K c.T c.f c.h c.U⟩ from (by unfold exR;rw[if_neg (by omega),if_neg (by omega),if_neg (by omega),if_neg (by omega),if_neg (by omega),if_neg (by omega),if_pos hk]))
 have HX:=Lib.hid (show exD x c=x.d/\exC x c=x.n/\exK x c=rwK x.K c.T c.f c.h c.U from ⟨(by unfold exD;rw[if_neg (by omega),if_neg (by omega)]),(by unfold exC;rw[if_neg (by omega),if_neg (by omega)]),(by unfold exK;rw[if_neg (by omega),if_neg (by omega),if_neg (by omega),if_neg (by omega),if_neg (by omega),if_pos hk])⟩)
 obtain ⟨Z,hZ⟩:∃ Z,Z=w.heap.size:=⟨_,rfl⟩;obtain ⟨w1,hw1⟩:∃ w1,w1=(w.alloc (.cells (cmA c A a A' a') 36)).alloc (.cells #[.int .i64 0,.int .i64 0,.int .i64 0,zR] 33):=⟨_,rfl⟩;have bw:Below w.heap.size w w1:=by rw[hw1];exact ((Below.refl _ _).alloc (Nat.le_refl _) _).alloc (by simp) _
 have rc:row w1 Z=some (cmA c A a A' a'):=by rw[hw1,hZ];exact zN (zA _ _ _ _ rfl) _
 have rr:row w1 (Z+1)=some #[.int .i64 0,.int .i64 0,.int .i64 0,zR]:=by rw[hw1,hZ];exact zA _ _ _ _ (by simp)
 have hz1:w1.heap.size=Z+2:=by rw[hw1,hZ];simp
 have X1:=Lib.hid (h.below bw);have F1:=Lib.hid (show Fr T (paint T w.heap.size (t+2)) (H2 t) w w1 from Fr.new bw _)
 have TG:=Lib.hid (show paint T w.heap.size (t+2) Z=t+2/\paint T w.heap.size (t+2) (Z+1)=t+2 from ⟨zP (by omega),zP (by omega)⟩)
 obtain ⟨T1,hT1⟩:∃ T1,T1=paint T w.heap.size (t+2):=⟨_,rfl⟩;rw[<-hT1] at X1 F1 TG;have HZ:=Lib.hid hZ;have RC:=Lib.hid rc;have RR:=Lib.hid rr;have ht:=h.t0;have HK:=Lib.hid hk;have bd1:=rp_b23;clear h bw rc rr hT1 hZ hk;go_enter Tryz.func83,Tryz.ntmps83;go_upto_region 1 with fail
 rw[<-hw1,<-HZ.out];clear hw1;obtain ⟨a0,a1,a2,a3,a4,a5,a6⟩:=yB RC.out;rw[HK.out] at a0;go_upto_region 17 with fail
 refine zY [([0,1,2,3,4,5,6],7,true)] [8,9,10,11,12,13,14] (RdCm Z (cmA c A a A' a')) (by kernel_rfl) (by kernel_rfl) (fun _ _ _ _ _ h=>h) (by show row _ _=_;rw[zS];exact RC.out) ?_
 clear a0 a1 a2 a3 a4 a5 a6;have b2:=zQ (Below.refl w1.heap.size w1) 1;have X2:=X1.out.below b2;have F2:=F1.out.trans (Fr.new (T:=T1) (H:=H2 t) b2 (t+2));have RR2:=Lib.hid (zD b2 RR.out);have RC2:=Lib.hid (zD b2 RC.out);have TG2:=Lib.hid (show paint T1 w1.heap.size (t+2) Z=t+2/\paint T1 w1.heap.size (t+2) (Z+1)=t+2 by rw[zH (by omega),zH (by omega)];exact TG.out)
 have hz2:(w1.drewN 1).heap.size=Z+2:=hz1;obtain ⟨T2,hT2⟩:∃ T2,T2=paint T1 w1.heap.size (t+2):=⟨_,rfl⟩;obtain ⟨w2,hw2⟩:∃ w2,w2=w1.drewN 1:=⟨_,rfl⟩;rw[<-hT2,<-hw2] at X2 F2;rw[<-hw2] at RR2 RC2 hz2 ⊢;rw[<-hT2] at TG2;replace X2:=Lib.hid X2;replace F2:=Lib.hid F2;clear hT2 hw2 b2 X1 F1 RR TG RC hz1;have hne:Nonempty (In (RdCm Z (cmA c A a A' a'))):=⟨⟨w2,RC2.out⟩⟩;have Q0:∀ y:In (RdCm Z (cmA c A a A' a')),row y.val Z=some (cmA c A a A' a'):=fun y=>y.ok
 have Q3:∀ y:In (RdCm Z (cmA c A a A' a')),y.val.cell? ⟨Z,3,none⟩=some (.int .i64 c.i):=fun y=>(yB y.ok).2.2.2.1
 have Q4:∀ y:In (RdCm Z (cmA c A a A' a')),y.val.cell? ⟨Z,4,none⟩=some (.int .i64 c.n):=fun y=>(yB y.ok).2.2.2.2.1
 have Q5:∀ y:In (RdCm Z (cmA c A a A' a')),y.val.cell? ⟨Z,5,none⟩=some (.slice A c.T a):=fun y=>(yB y.ok).2.2.2.2.2.1
 have Q6:∀ y:In (RdCm Z (cmA c A a A' a')),y.val.cell? ⟨Z,6,none⟩=some (.slice A' c.U a'):=fun y=>(yB y.ok).2.2.2.2.2.2
 simp only[wpFl,pk,List.getElem?_cons_zero,List.getElem?_cons_succ];refine zV ?_
 repeat (go_big_quiet_step (fail))
 refine wpQuiet_nil ?_;clear Q0 Q3 Q4 Q5 Q6 hne;obtain ⟨R,hk2,hput⟩:=X2.out.st.keys;have PT:=Lib.hid hput;have H4:=Lib.hid (prw_any B x.K c.f c.T a A c.h c.U a' A' w2 hk2 X2.out.cm.d.sl (by have:=chk_ok X2.out.chk;omega) X2.out.cm.b.sl (X2.out.cm.b.offB X2.out.tB))
 have hBZ:B≠Z/\B≠Z+1:=by
  have h1:=X2.out.st.tg;have h2:=TG2.out;exact ⟨fun e=>by rw[e] at h1;omega,fun e=>by rw[e] at h1;omega⟩
 clear hk2 hput;go_wp2_with fail;refine H4.out.mono ?_;rintro e w4 ⟨v,rfl,ho4,hk4,hc4⟩;obtain ⟨A4,k4,rfl,-,-,-⟩:=ho4.sl;have D4:=Lib.hid (ho4.rdS T2 0);have hst4:=PT.out ht w4 (rwK x.K c.T c.f c.h c.U) hk4 hc4 0;have hf4:=hc4.fr (T:=T2) (H:=H2 t) (by rw[X2.out.st.tg];exact .inl rfl) 0
 have F4:=Lib.hid (F2.out.trans hf4);have S4:=Lib.hid hst4;have RR4:=Lib.hid (hc4.row RR2.out (fun e=>hBZ.2 e.symm))
 have RC4:=Lib.hid (hc4.row RC2.out (fun e=>hBZ.1 e.symm))
 have TG4:=Lib.hid (show paint T2 w2.heap.size 0 (Z+1)=t+2 by rw[zH (by omega)];exact TG2.out.2)
 have hz4:=hc4.size;obtain ⟨T4,hT4⟩:∃ T4,T4=paint T2 w2.heap.size 0:=⟨_,rfl⟩;rw[<-hT4] at F4 S4 TG4 D4;clear hst4 hf4 hk4 hc4 hT4 H4 PT X2 F2 RR2 RC2 TG2 hBZ ho4;obtain ⟨E,hE⟩:∃ E,E=rwE x.K c.T c.f c.h c.U:=⟨_,rfl⟩;obtain ⟨V,hV⟩:∃ V,V=rwV x.K c.T c.f c.h c.U:=⟨_,rfl⟩;obtain ⟨L,hL⟩:∃ L,L=rwL x.K c.T c.f c.h c.U:=⟨_,rfl⟩;rw[<-hL] at D4;rw[<-hE,<-hV,<-hL];have HE:=Lib.hid hE;have HV:=Lib.hid hV;have HL:=Lib.hid hL;clear hE hV hL;go_wp2_with fail
 first|refine ⟨RdCm Z (cmA c A a A' a'),RC4.out,.inr ⟨RC4.out,fun _ h=>h⟩,?_⟩|refine ⟨RdCm Z (cmA c A a A' a'),RC4.out,?_⟩
 show wpQuiet _ _ _ _ _ _;have hne:Nonempty (In (RdCm Z (cmA c A a A' a'))):=⟨⟨w4,RC4.out⟩⟩;refine zV ?_
 repeat (go_big_quiet_step (fail))
 refine wpQuiet_nil ?_;clear hne
 by_cases h0:E=0
 ·subst h0
  go_wp2_with fail;refine (yQ _).mono ?_;rintro e w5 ⟨rfl,rfl⟩;obtain ⟨a0,a1,a2,a3,a4,a5,a6⟩:=yB RC4.out;have rr:=RR4.out;have G:=Fr.row (T:=T4) (H:=fun c=>c=t+2) (w:=w5) (B:=Z+1) TG4.out #[.int .i64 0,.int .i64 0,.int .i64 V,.slice A4 L k4]
  have ST:=Lib.hid (S4.out.fr G (by omega) (by omega) (by omega))
  have DD:=Lib.hid (D4.out.fr G (by omega))
  have FF:=Lib.hid (F4.out.up (b:=Z+1) (by have:=HZ.out;omega) #[.int .i64 0,.int .i64 0,.int .i64 V,.slice A4 L k4])
  have RF:=Lib.hid (zE rr #[.int .i64 0,.int .i64 0,.int .i64 V,.slice A4 L k4]);clear G;go_wp2_with fail;refine bodyPost_ret (v:=repV 0 0 V (.slice A4 L k4)) (yV Tryz.results83 _ _ (Z+1) _ _ rfl RF.out Tryz.underlying33 rfl (by kernel_rfl)) rfl ?_
  rw[HR.out,repO_c HE.out.symm,HX.out.1,HX.out.2.1,HX.out.2.2,<-HV.out,<-HL.out];exact ⟨_,FF.out,ST.out,.inl ⟨A4,k4,rfl,DD.out⟩⟩
 ·go_wp2_with fail
  refine (yM E h0 _).mono ?_;rintro e w5 ⟨rfl,rfl⟩;go_wp2_with fail;rw[HR.out,repE_c (by rw[<-HE.out];exact h0),HX.out.1,HX.out.2.1,HX.out.2.2,<-HE.out]
  exact ⟨rfl,_,F4.out,S4.out,.inr ⟨h0,rfl,rfl⟩⟩
theorem pex8(T:Mk)(t B tc:Nat)(x:Sx)(c:Cm)(A A':Option Addr)(a a':Nat)(w:World)(h:ExIn T w t B tc x c A a A' a')(hk:c.k=8):
  Calls Tryz.prog 83 #[.pointer (some ⟨B,0,none⟩),cmV c A a A' a'] w (OutR t B ⟨exD x c,exC x c,exK x c,x.l,x.g⟩ (exR x c) T w):=by
 have HR:=Lib.hid (show exR x c=rpO (dcE x.K c.T c.f c.h c.U) ⟨0,0,0,dcL x.K c.T c.f c.h c.U,dcF x.K c.T c.f⟩ from (by unfold exR;rw[if_neg (by omega),if_neg (by omega),if_neg (by omega),if_neg (by omega),if_neg (by omega),if_pos hk]))
 have HX:=Lib.hid (show exD x c=x.d/\exC x c=x.n/\exK x c=x.K from ⟨(by unfold exD;rw[if_neg (by omega),if_neg (by omega)]),(by unfold exC;rw[if_neg (by omega),if_neg (by omega)]),(by unfold exK;rw[if_neg (by omega),if_neg (by omega),if_neg (by omega),if_neg (by omega),if_neg (by omega),if_neg (by omega)])⟩)
 obtain ⟨Z,hZ⟩:∃ Z,Z=w.heap.size:=⟨_,rfl⟩;obtain ⟨w1,hw1⟩:∃ w1,w1=(w.alloc (.cells (cmA c A a A' a') 36)).alloc (.cells #[.int .i64 0,.int .i64 0,.int .i64 0,zR] 33):=⟨_,rfl⟩;have bw:Below w.heap.size w w1:=by rw[hw1];exact ((Below.refl _ _).alloc (Nat.le_refl _) _).alloc (by simp) _
 have rc:row w1 Z=some (cmA c A a A' a'):=by rw[hw1,hZ];exact zN (zA _ _ _ _ rfl) _
 have rr:row w1 (Z+1)=some #[.int .i64 0,.int .i64 0,.int .i64 0,zR]:=by rw[hw1,hZ];exact zA _ _ _ _ (by simp)
 have hz1:w1.heap.size=Z+2:=by rw[hw1,hZ];simp
 have X1:=Lib.hid (h.below bw);have F1:=Lib.hid (show Fr T (paint T w.heap.size (t+2)) (H2 t) w w1 from Fr.new bw _)
 have TG:=Lib.hid (show paint T w.heap.size (t+2) Z=t+2/\paint T w.heap.size (t+2) (Z+1)=t+2 from ⟨zP (by omega),zP (by omega)⟩)
 obtain ⟨T1,hT1⟩:∃ T1,T1=paint T w.heap.size (t+2):=⟨_,rfl⟩;rw[<-hT1] at X1 F1 TG;have HZ:=Lib.hid hZ;have RC:=Lib.hid rc;have RR:=Lib.hid rr;have ht:=h.t0;have HK:=Lib.hid hk;have bd1:=rp_b3;clear h bw rc rr hT1 hZ hk;go_enter Tryz.func83,Tryz.ntmps83;go_upto_region 1 with fail
 rw[<-hw1,<-HZ.out];clear hw1;obtain ⟨a0,a1,a2,a3,a4,a5,a6⟩:=yB RC.out;rw[HK.out] at a0;go_upto_region 15 with fail
 refine zY [([0,1,2,3,4,5,6],7,false),([8,9],10,false),([11],12,true)] [] (RdCm Z (cmA c A a A' a')) (by kernel_rfl) (by kernel_rfl) (fun _ _ _ _ _ h=>h) (by show row _ _=_;rw[zS];exact RC.out) ?_
 clear a0 a1 a2 a3 a4 a5 a6;have b2:=zQ (Below.refl w1.heap.size w1) 1;have X2:=X1.out.below b2;have F2:=F1.out.trans (Fr.new (T:=T1) (H:=H2 t) b2 (t+2));have RR2:=Lib.hid (zD b2 RR.out);have RC2:=Lib.hid (zD b2 RC.out);have TG2:=Lib.hid (show paint T1 w1.heap.size (t+2) Z=t+2/\paint T1 w1.heap.size (t+2) (Z+1)=t+2 by rw[zH (by omega),zH (by omega)];exact TG.out)
 have hz2:(w1.drewN 1).heap.size=Z+2:=hz1;obtain ⟨T2,hT2⟩:∃ T2,T2=paint T1 w1.heap.size (t+2):=⟨_,rfl⟩;obtain ⟨w2,hw2⟩:∃ w2,w2=w1.drewN 1:=⟨_,rfl⟩;rw[<-hT2,<-hw2] at X2 F2;rw[<-hw2] at RR2 RC2 hz2 ⊢;rw[<-hT2] at TG2;replace X2:=Lib.hid X2;replace F2:=Lib.hid F2;clear hT2 hw2 b2 X1 F1 RR TG RC hz1;have hne:Nonempty (In (RdCm Z (cmA c A a A' a'))):=⟨⟨w2,RC2.out⟩⟩;have Q0:∀ y:In (RdCm Z (cmA c A a A' a')),row y.val Z=some (cmA c A a A' a'):=fun y=>y.ok
 have Q3:∀ y:In (RdCm Z (cmA c A a A' a')),y.val.cell? ⟨Z,3,none⟩=some (.int .i64 c.i):=fun y=>(yB y.ok).2.2.2.1
 have Q4:∀ y:In (RdCm Z (cmA c A a A' a')),y.val.cell? ⟨Z,4,none⟩=some (.int .i64 c.n):=fun y=>(yB y.ok).2.2.2.2.1
 have Q5:∀ y:In (RdCm Z (cmA c A a A' a')),y.val.cell? ⟨Z,5,none⟩=some (.slice A c.T a):=fun y=>(yB y.ok).2.2.2.2.2.1
 have Q6:∀ y:In (RdCm Z (cmA c A a A' a')),y.val.cell? ⟨Z,6,none⟩=some (.slice A' c.U a'):=fun y=>(yB y.ok).2.2.2.2.2.2
 simp only[wpFl,pk,List.getElem?_cons_zero,List.getElem?_cons_succ];refine zV ?_
 repeat (go_big_quiet_step (fail))
 refine wpQuiet_nil ?_;clear Q0 Q3 Q4 Q5 Q6 hne;obtain ⟨R,hk2,-⟩:=X2.out.st.keys;have H4:=Lib.hid (pdc_any B x.K c.f c.T a A c.h c.U a' A' w2 hk2 X2.out.cm.d.sl (by have:=chk_ok X2.out.chk;omega) X2.out.cm.b.sl)
 clear hk2;go_wp2_with fail;refine H4.out.mono ?_;rintro e w4 ⟨v,rfl,ho4,hb4⟩;obtain ⟨A4,k4,rfl,-,-,-⟩:=ho4.sl;have D4:=Lib.hid (ho4.rdS T2 0);have F4:=Lib.hid (F2.out.trans (Fr.new (T:=T2) (H:=H2 t) hb4 0));have S4:=Lib.hid (X2.out.st.fr (Fr.new (T:=T2) (H:=fun _=>False) hb4 0) (fun h=>h) (fun h=>h) (fun h=>h))
 have RR4:=Lib.hid (zD hb4 RR2.out);have RC4:=Lib.hid (zD hb4 RC2.out);have TG4:=Lib.hid (show paint T2 w2.heap.size 0 (Z+1)=t+2 by rw[zH (by omega)];exact TG2.out.2)
 have hz4:=hb4.size;obtain ⟨T4,hT4⟩:∃ T4,T4=paint T2 w2.heap.size 0:=⟨_,rfl⟩;rw[<-hT4] at F4 S4 TG4 D4;clear hb4 hT4 H4 X2 F2 RR2 RC2 TG2 ho4;obtain ⟨E,hE⟩:∃ E,E=dcE x.K c.T c.f c.h c.U:=⟨_,rfl⟩;obtain ⟨L,hL⟩:∃ L,L=dcL x.K c.T c.f c.h c.U:=⟨_,rfl⟩;rw[<-hL] at D4;rw[<-hE,<-hL];have HE:=Lib.hid hE;have HL:=Lib.hid hL;clear hE hL;go_wp2_with fail;refine ⟨RdCm Z (cmA c A a A' a'),RC4.out,.inr ⟨RC4.out,fun _ h=>h⟩,?_⟩
 show wpQuiet _ _ _ _ _ _;have hne:Nonempty (In (RdCm Z (cmA c A a A' a'))):=⟨⟨w4,RC4.out⟩⟩;refine zV ?_
 repeat (go_big_quiet_step (fail))
 refine wpQuiet_nil ?_;clear hne
 by_cases h0:E=0
 ·subst h0
  go_wp2_with fail;refine (mustb_ok _ _).mono ?_;rintro e w5 ⟨rfl,rfl⟩;go_wp2_with fail;refine ⟨RdCm Z (cmA c A a A' a'),RC4.out,.inr ⟨RC4.out,fun _ h=>h⟩,?_⟩
  show wpQuiet _ _ _ _ _ _;have hne:Nonempty (In (RdCm Z (cmA c A a A' a'))):=⟨⟨w5,RC4.out⟩⟩;refine zV ?_
  repeat (go_big_quiet_step (fail))
  refine wpQuiet_nil ?_;clear hne;have rr:=RR4.out;have G:=Fr.row (T:=T4) (H:=fun c=>c=t+2) (w:=w5) (B:=Z+1) TG4.out #[.int .i64 0,.int .i64 0,.int .i64 0,.slice A4 L k4]
  have ST:=Lib.hid (S4.out.fr G (by omega) (by omega) (by omega))
  have DD:=Lib.hid (D4.out.fr G (by omega))
  have FF:=Lib.hid (F4.out.up (b:=Z+1) (by have:=HZ.out;omega) #[.int .i64 0,.int .i64 0,.int .i64 0,.slice A4 L k4])
  have RF:=Lib.hid (zE rr #[.int .i64 0,.int .i64 0,.int .i64 0,.slice A4 L k4]);have RC5:=Lib.hid (show row (w5.setRow (Z+1) #[.int .i64 0,.int .i64 0,.int .i64 0,.slice A4 L k4]) Z=some (cmA c A a A' a') by rw[zF _ _ _ _ (by omega)];exact RC4.out)
  clear G;go_wp2_with fail
  first|refine ⟨RdCm Z (cmA c A a A' a'),RC5.out,.inl trivial,?_⟩|refine ⟨RdCm Z (cmA c A a A' a'),RC5.out,?_⟩
  show wpQuiet _ _ _ _ _ _;refine wpQuiet_nil ?_;go_wp2_with fail;refine bodyPost_ret (v:=repV 0 0 0 (.slice A4 L k4)) (yV Tryz.results83 _ _ (Z+1) _ _ rfl RF.out Tryz.underlying33 rfl (by kernel_rfl)) rfl ?_
  rw[HR.out,repO_c HE.out.symm,HX.out.1,HX.out.2.1,HX.out.2.2,<-HL.out];exact ⟨_,FF.out,ST.out,.inl ⟨A4,k4,rfl,DD.out⟩⟩
 ·go_wp2_with fail
  refine (mustb_bad _ E h0 _).mono ?_;rintro e w5 ⟨rfl,rfl⟩;go_wp2_with fail;rw[HR.out,repE_c (by rw[<-HE.out];exact h0),HX.out.1,HX.out.2.1,HX.out.2.2,<-HE.out]
  exact ⟨rfl,_,F4.out,S4.out,.inr ⟨h0,rfl,rfl⟩⟩
theorem pex10(T:Mk)(t B tc:Nat)(x:Sx)(c:Cm)(A A':Option Addr)(a a':Nat)(w:World)(h:ExIn T w t B tc x c A a A' a')(hk:c.k=10):
  Calls Tryz.prog 83 #[.pointer (some ⟨B,0,none⟩),cmV c A a A' a'] w (OutR t B ⟨exD x c,exC x c,exK x c,x.l,x.g⟩ (exR x c) T w):=by
 have HR:=Lib.hid (show exR x c=rpE 0 from (by unfold exR;rw[if_neg (by omega),if_neg (by omega),if_neg (by omega),if_neg (by omega),if_neg (by omega),if_neg (by omega),if_neg (by omega)]))
 have HX:=Lib.hid (show exD x c=updS x.d c.f c.T/\exC x c=1/\exK x c=x.K from ⟨(by unfold exD;rw[if_neg (by omega),if_pos hk]),(by unfold exC;rw[if_neg (by omega),if_pos hk]),(by unfold exK;rw[if_neg (by omega),if_neg (by omega),if_neg (by omega),if_neg (by omega),if_neg (by omega),if_neg (by omega)])⟩)
 obtain ⟨Z,hZ⟩:∃ Z,Z=w.heap.size:=⟨_,rfl⟩;obtain ⟨w1,hw1⟩:∃ w1,w1=(w.alloc (.cells (cmA c A a A' a') 36)).alloc (.cells #[.int .i64 0,.int .i64 0,.int .i64 0,zR] 33):=⟨_,rfl⟩;have bw:Below w.heap.size w w1:=by rw[hw1];exact ((Below.refl _ _).alloc (Nat.le_refl _) _).alloc (by simp) _
 have rc:row w1 Z=some (cmA c A a A' a'):=by rw[hw1,hZ];exact zN (zA _ _ _ _ rfl) _
 have rr:row w1 (Z+1)=some #[.int .i64 0,.int .i64 0,.int .i64 0,zR]:=by rw[hw1,hZ];exact zA _ _ _ _ (by simp)
 have hz1:w1.heap.size=Z+2:=by rw[hw1,hZ];simp
 have X1:=Lib.hid (h.below bw);have F1:=Lib.hid (show Fr T (paint T w.heap.size (t+2)) (H2 t) w w1 from Fr.new bw _)
 have TG:=Lib.hid (show paint T w.heap.size (t+2) Z=t+2/\paint T w.heap.size (t+2) (Z+1)=t+2 from ⟨zP (by omega),zP (by omega)⟩)
 obtain ⟨T1,hT1⟩:∃ T1,T1=paint T w.heap.size (t+2):=⟨_,rfl⟩;rw[<-hT1] at X1 F1 TG;have HZ:=Lib.hid hZ;have RC:=Lib.hid rc;have RR:=Lib.hid rr;have ht:=h.t0;have HK:=Lib.hid hk;have bd0:=rp_b0';clear h bw rc rr hT1 hZ hk;go_enter Tryz.func83,Tryz.ntmps83;go_upto_region 1 with fail
 rw[<-hw1,<-HZ.out];clear hw1;obtain ⟨a0,a1,a2,a3,a4,a5,a6⟩:=yB RC.out;rw[HK.out] at a0;go_upto_region 21 with fail
 refine zY [([0,1,2,3,4],5,true)] [] (RdCm Z (cmA c A a A' a')) (by kernel_rfl) (by kernel_rfl) (fun _ _ _ _ _ h=>h) (by show row _ _=_;rw[zS];exact RC.out) ?_
 clear a0 a1 a2 a3 a4 a5 a6;have b2:=zQ (Below.refl w1.heap.size w1) 1;have X2:=X1.out.below b2;have F2:=F1.out.trans (Fr.new (T:=T1) (H:=H2 t) b2 (t+2));have RR2:=Lib.hid (zD b2 RR.out);have RC2:=Lib.hid (zD b2 RC.out);have TG2:=Lib.hid (show paint T1 w1.heap.size (t+2) Z=t+2/\paint T1 w1.heap.size (t+2) (Z+1)=t+2 by rw[zH (by omega),zH (by omega)];exact TG.out)
 have hz2:(w1.drewN 1).heap.size=Z+2:=hz1;obtain ⟨T2,hT2⟩:∃ T2,T2=paint T1 w1.heap.size (t+2):=⟨_,rfl⟩;obtain ⟨w2,hw2⟩:∃ w2,w2=w1.drewN 1:=⟨_,rfl⟩;rw[<-hT2,<-hw2] at X2 F2;rw[<-hw2] at RR2 RC2 hz2 ⊢;rw[<-hT2] at TG2;replace X2:=Lib.hid X2;replace F2:=Lib.hid F2;clear hT2 hw2 b2 X1 F1 RR TG RC hz1;have hne:Nonempty (In (RdCm Z (cmA c A a A' a'))):=⟨⟨w2,RC2.out⟩⟩;have Q0:∀ y:In (RdCm Z (cmA c A a A' a')),row y.val Z=some (cmA c A a A' a'):=fun y=>y.ok
 have Q3:∀ y:In (RdCm Z (cmA c A a A' a')),y.val.cell? ⟨Z,3,none⟩=some (.int .i64 c.i):=fun y=>(yB y.ok).2.2.2.1
 have Q4:∀ y:In (RdCm Z (cmA c A a A' a')),y.val.cell? ⟨Z,4,none⟩=some (.int .i64 c.n):=fun y=>(yB y.ok).2.2.2.2.1
 have Q5:∀ y:In (RdCm Z (cmA c A a A' a')),y.val.cell? ⟨Z,5,none⟩=some (.slice A c.T a):=fun y=>(yB y.ok).2.2.2.2.2.1
 have Q6:∀ y:In (RdCm Z (cmA c A a A' a')),y.val.cell? ⟨Z,6,none⟩=some (.slice A' c.U a'):=fun y=>(yB y.ok).2.2.2.2.2.2
 simp only[wpFl,pk,List.getElem?_cons_zero,List.getElem?_cons_succ];refine zV ?_
 repeat (go_big_quiet_step (fail))
 refine wpQuiet_nil ?_;clear Q0 Q3 Q4 Q5 Q6 hne;obtain ⟨R,hr2,hput⟩:=X2.out.st.src;have PT:=Lib.hid hput;have H4:=Lib.hid (dreseed_any x.d x.n B c.f c.T a A w2 X2.out.tab hr2 X2.out.B0 X2.out.cm.d.sl (by have:=chk_ok X2.out.chk;omega) (X2.out.cm.d.offB X2.out.tB))
 have hBZ:B≠Z/\B≠Z+1:=by
  have h1:=X2.out.st.tg;have h2:=TG2.out;exact ⟨fun e=>by rw[e] at h1;omega,fun e=>by rw[e] at h1;omega⟩
 clear hr2 hput;go_wp2_with fail;refine H4.out.mono ?_;rintro e w4 ⟨rfl,hp4⟩;have hst4:=PT.out ht w4 (updS x.d c.f c.T) 1 hp4 (Int.le_refl 1) (t+2)
 have hf4:Fr T2 (paint T2 w2.heap.size (t+2)) (H2 t) w2 w4:=by
  have hb:Below w2.heap.size (w2.setRow B (srcC R (updS x.d c.f c.T).1 (updS x.d c.f c.T).2 1)) w4:=hp4;exact ⟨hb.1,hb.2,hb.3,hp4.size,fun k hk hn=>hp4.block k hk (fun e=>hn (by rw[e,X2.out.st.tg];exact .inl rfl)),fun k hk=>zH hk⟩
 have F4:=Lib.hid (F2.out.trans hf4);have S4:=Lib.hid hst4;have RR4:=Lib.hid (hp4.other (fun e=>hBZ.2 e.symm) RR2.out)
 have RC4:=Lib.hid (hp4.other (fun e=>hBZ.1 e.symm) RC2.out)
 have TG4:=Lib.hid (show paint T2 w2.heap.size (t+2) (Z+1)=t+2 by rw[zH (by omega)];exact TG2.out.2)
 have hz4:=hp4.size;obtain ⟨T4,hT4⟩:∃ T4,T4=paint T2 w2.heap.size (t+2):=⟨_,rfl⟩;rw[<-hT4] at F4 S4 TG4;clear hst4 hf4 hp4 hT4 H4 PT X2 F2 RR2 RC2 TG2 hBZ;go_wp2_with fail
 first|refine ⟨RdCm Z (cmA c A a A' a'),RC4.out,.inl trivial,?_⟩|refine ⟨RdCm Z (cmA c A a A' a'),RC4.out,.inr ⟨RC4.out,fun _ h=>h⟩,?_⟩|refine ⟨RdCm Z (cmA c A a A' a'),RC4.out,?_⟩
 show wpQuiet _ _ _ _ _ _;refine wpQuiet_nil ?_;have rr:=RR4.out;have G:=Fr.row (T:=T4) (H:=fun c=>c=t+2) (w:=w4) (B:=Z+1) TG4.out #[.int .i64 0,.int .i64 0,.int .i64 0,zR]
 have ST:=Lib.hid (S4.out.fr G (by omega) (by omega) (by omega))
 have FF:=Lib.hid (F4.out.up (b:=Z+1) (by have:=HZ.out;omega) #[.int .i64 0,.int .i64 0,.int .i64 0,zR])
 have RF:=Lib.hid (zE rr #[.int .i64 0,.int .i64 0,.int .i64 0,zR]);clear G;go_wp2_with fail;refine bodyPost_ret (v:=repV 0 0 0 zR) (yV Tryz.results83 _ _ (Z+1) _ _ rfl RF.out Tryz.underlying33 rfl (by kernel_rfl)) rfl ?_
 rw[HR.out,HX.out.1,HX.out.2.1,HX.out.2.2];exact ⟨_,FF.out,ST.out,.inl ⟨none,0,rfl,RdS.nil _ _ _ _⟩⟩
theorem chk_kind{k s q i n:Int}{T U:Nat}(h:chkE k s q i n T U=0):1<=k/\k<=10:=by
 have h':chkB k s q i n T U=true:=by
  unfold chkE at h
  cases hb:chkB k s q i n T U with
  |true=>rfl
  |false=>rw[hb] at h;simp at h
 have hk:kiB k=true:=by
  unfold chkB at h'
  cases hb:kiB k with
  |true=>rfl
  |false=>rw[hb] at h';simp at h'
 unfold kiB at hk
 simpa using hk
theorem pexec_any(T:Mk)(t B tc:Nat)(x:Sx)(c:Cm)(A A':Option Addr)(a a':Nat)(w:World)(h:ExIn T w t B tc x c A a A' a')(h1:c.k≠1)(h2:c.k≠2):
  Calls Tryz.prog 83 #[.pointer (some ⟨B,0,none⟩),cmV c A a A' a'] w (OutR t B ⟨exD x c,exC x c,exK x c,x.l,x.g⟩ (exR x c) T w):=by
 have hk:=chk_kind h.chk;rcases (by omega:c.k=3\/c.k=4\/c.k=5\/c.k=6\/c.k=7\/c.k=8\/c.k=9\/c.k=10) with hc|hc|hc|hc|hc|hc|hc|hc
 ·exact pex3 T t B tc x c A A' a a' w h hc
 ·exact pex4 T t B tc x c A A' a a' w h hc
 ·exact pex5 T t B tc x c A A' a a' w h hc
 ·exact pex6 T t B tc x c A A' a a' w h hc
 ·exact pex7 T t B tc x c A A' a a' w h hc
 ·exact pex8 T t B tc x c A A' a a' w h hc
 ·exact pex9 T t B tc x c A A' a a' w h hc
 ·exact pex10 T t B tc x c A A' a a' w h hc
theorem prq1_any(T:Mk)(t B tc:Nat)(x:Sx)(c:Cm)(A A':Option Addr)(a a':Nat)(Zs Zc:Nat)(w:World)(h:ExIn T w t B tc x c A a A' a')(h1:c.k≠1)(h2:c.k≠2)
  (hs:row w Zs=some #[.pointer (some ⟨B,0,none⟩)]) (hc:row w Zc=some (cmA c A a A' a')):
  Calls Tryz.prog 82 #[.pointer (some ⟨Zs,0,none⟩),.pointer (some ⟨Zc,0,none⟩)] w (OutR t B ⟨exD x c,exC x c,exK x c,x.l,x.g⟩ (exR x c) T w):=by
 obtain ⟨w1,hw1⟩:∃ w1,w1=w.alloc (.cells #[.int .i64 0,.int .i64 0,.int .i64 0,zR] 33):=⟨_,rfl⟩;have bw:Below w.heap.size w w1:=by rw[hw1];exact (Below.refl _ _).alloc (Nat.le_refl _) _
 have r0:row w1 w.heap.size=some #[.int .i64 0,.int .i64 0,.int .i64 0,zR]:=by rw[hw1];exact zA _ _ _ _ rfl
 have hz1:w1.heap.size=w.heap.size+1:=by rw[hw1];simp
 have F1:=Lib.hid (show Fr T (paint T w.heap.size (t+2)) (H2 t) w w1 from Fr.new bw _)
 have TG:=Lib.hid (show paint T w.heap.size (t+2) w.heap.size=t+2 from zP (Nat.le_refl _))
 have H:=Lib.hid (pexec_any (paint T w.heap.size (t+2)) t B tc x c A A' a a' w1 (h.below bw) h1 h2);have ht:=h.t0;have rs:=zC (zD bw hs) 0;have rs:w1.cell? ⟨Zs,0,none⟩=some (.pointer (some ⟨B,0,none⟩)):=rs;have rc:=zD bw hc;obtain ⟨T1,hT1⟩:∃ T1,T1=paint T w.heap.size (t+2):=⟨_,rfl⟩;rw[<-hT1] at H F1 TG;have R0:=Lib.hid r0;clear h bw r0 hT1 hs hc h1 h2;go_enter Tryz.func82,Tryz.ntmps82;go_upto_region 1 with fail
 rw[<-hw1];clear hw1;go_wp2_with fail;refine H.out.mono ?_;rintro e w2 ⟨T2,hf,hst,⟨A5,k5,rfl,hrd⟩|⟨hne,hrp,rfl⟩⟩
 ·have q0:=hf.rowAt R0.out (by rw[TG.out];exact h2_no)
  have t0:T2 w.heap.size=t+2:=by rw[hf.tag _ (by omega)];exact TG.out
  obtain ⟨C,hC⟩:∃ C:Array Value,C=#[.int .i64 (exR x c).c,.int .i64 (exR x c).n,.int .i64 (exR x c).m,.slice A5 (exR x c).T k5]:=⟨_,rfl⟩;have G:=Fr.row (T:=T2) (H:=fun c=>c=t+2) (w:=w2) (B:=w.heap.size) t0 C
  have HST:=Lib.hid (hst.fr G (by omega) (by omega) (by omega))
  have HRD:=Lib.hid (hrd.fr G (by omega))
  have FF:=Lib.hid ((F1.out.trans hf).up (Nat.le_refl _) C);have P0:=Lib.hid (zE q0 C);rw[hC] at HST HRD FF P0;clear hf hst hrd H G hC rs rc;obtain ⟨r,hr⟩:∃ r,r=exR x c:=⟨_,rfl⟩;rw[<-hr] at HST HRD FF P0 ⊢;have HRR:=Lib.hid hr;clear hr;go_wp2_with fail;refine bodyPost_ret (v:=rpV r A5 k5) (yV Tryz.results82 _ _ w.heap.size _ _ rfl P0.out Tryz.underlying33 rfl (by kernel_rfl)) rfl ?_
  rw[<-HRR.out];exact ⟨_,FF.out,HST.out,.inl ⟨A5,k5,rfl,HRD.out⟩⟩
 ·have HN:=Lib.hid (And.intro hne hrp)
  have HF:=Lib.hid (F1.out.trans hf);have HS:=Lib.hid hst;clear hne hrp hf hst;go_wp2_with fail;exact ⟨rfl,_,HF.out,HS.out,.inr ⟨HN.out.1,HN.out.2,rfl⟩⟩
theorem chk_s{k s q i n:Int}{T U:Nat}(h:chkE k s q i n T U=0):s<=1099511627776/\i<=1099511627776:=by
 have h':chkB k s q i n T U=true:=by unfold chkE at h;cases hb:chkB k s q i n T U with
  |true=>rfl
  |false=>rw[hb] at h;simp at h
 have hk:=chk_kind h;have hcase:k=1\/k=2\/k=3\/k=4\/k=5\/k=6\/k=7\/k=8\/k=9\/k=10:=by omega
 clear h hk;rcases hcase with rfl|rfl|rfl|rfl|rfl|rfl|rfl|rfl|rfl|rfl
 all_goals
  simp[chkB,kiB,fitB,inB,sh,shN] at h';omega
def Bel(w y:World):Prop:=Below w.heap.size w y
theorem Bel.alloc{w:World}:∀ (y:World) (z:Obj),Bel w y->Bel w (y.alloc z):=fun y z h=>Below.alloc h (Below.size h) z
theorem rp_z(w:World):(zeroValue 33).run Tryz.prog w=.ok (repV 0 0 0 zR) w:=Tryz.zeroValue33 w
def rqX(x:Sx)(c:Cm):Sx:=if akE x.l c.s c.q≠0 then x else if akB x.l c.s c.q=true then x else ⟨exD x c,exC x c,exK x c,dnL x.l (exS x c),x.g⟩
def rqR(x:Sx)(c:Cm):Rp:=if akE x.l c.s c.q≠0 then rpE (akE x.l c.s c.q) else if akB x.l c.s c.q=true then seR (akS x.l c.s c.q) else exR x c
theorem preq_any(T:Mk)(t B tc:Nat)(x:Sx)(c:Cm)(A A':Option Addr)(a a':Nat)(w:World)(h:ExIn T w t B tc x c A a A' a')(h1:c.k≠1)(h2:c.k≠2):
  Calls Tryz.prog 42 #[.pointer (some ⟨B,0,none⟩),cmV c A a A' a'] w (OutR t B (rqX x c) (rqR x c) T w):=by
 obtain ⟨Z,hZ⟩:∃ Z,Z=w.heap.size:=⟨_,rfl⟩;obtain ⟨w1,hw1⟩:∃ w1,w1=((w.alloc (.cells #[.pointer (some ⟨B,0,none⟩)] 25)).alloc (.cells (cmA c A a A' a') 36)).alloc (.cells #[.int .i64 0,.int .i64 0,.int .i64 0,zR] 33):=⟨_,rfl⟩;have bw:Below w.heap.size w w1:=by rw[hw1];exact (((Below.refl _ _).alloc (Nat.le_refl _) _).alloc (by simp) _).alloc (by simp;omega) _
 have rs:row w1 Z=some #[.pointer (some ⟨B,0,none⟩)]:=by rw[hw1,hZ];exact zN (zN (zA _ _ _ _ rfl) _) _
 have rc:row w1 (Z+1)=some (cmA c A a A' a'):=by rw[hw1,hZ];exact zN (zA _ _ _ _ (by simp)) _
 have rr:row w1 (Z+2)=some #[.int .i64 0,.int .i64 0,.int .i64 0,zR]:=by rw[hw1,hZ];exact zA _ _ _ _ (by simp)
 have hz1:w1.heap.size=Z+3:=by rw[hw1,hZ];simp
 have X1:=Lib.hid (h.below bw);have F1:=Lib.hid (show Fr T (paint T w.heap.size (t+2)) (H2 t) w w1 from Fr.new bw _)
 have TG:=Lib.hid (show paint T w.heap.size (t+2) Z=t+2/\paint T w.heap.size (t+2) (Z+1)=t+2/\paint T w.heap.size (t+2) (Z+2)=t+2 from ⟨zP (by omega),zP (by omega),zP (by omega)⟩)
 obtain ⟨T1,hT1⟩:∃ T1,T1=paint T w.heap.size (t+2):=⟨_,rfl⟩;rw[<-hT1] at X1 F1 TG;have HZ:=Lib.hid hZ;have RS:=Lib.hid rs;have RC:=Lib.hid rc;have RR:=Lib.hid rr;have ht:=h.t0;have HK:=Lib.hid (And.intro h1 h2);clear h bw rs rc rr hT1 hZ h1 h2;go_enter Tryz.func42,Tryz.ntmps42;go_upto_region 1 with fail
 rw[<-hw1,<-HZ.out];clear hw1;refine flow_many [.inl [0,1,2,3,4,5,6],pS 12,pE 7,.inl [8,9,10,11],pU 12,pE 13,.inl [14,15]] (Bel w1) [] (by kernel_rfl) (by kernel_rfl) (fun _ _ _ _ _ h=>h) (fun _ _ _ _ _ h=>h) Bel.alloc (zQ (Below.refl _ _) 1) (fun k hk=>by cases hk) ?_
 have hne:Nonempty (In (Bel w1)):=⟨⟨w1,Below.refl _ _⟩⟩;have k0:∀ y:In (Bel w1),y.val.cell? ⟨Z,0,none⟩=some (.pointer (some ⟨B,0,none⟩)):=fun y=>zC (zD y.ok RS.out) 0
 have k1:∀ y:In (Bel w1),y.val.cell? ⟨Z+1,1,none⟩=some (.int .i64 c.s):=fun y=>(yB (zD y.ok RC.out)).2.1
 have k2:∀ y:In (Bel w1),y.val.cell? ⟨Z+1,2,none⟩=some (.int .i64 c.q):=fun y=>(yB (zD y.ok RC.out)).2.2.1
 refine wpM_q ?_;simp only[pk,List.getElem?_cons_zero,List.getElem?_cons_succ]
 repeat (go_big_quiet_step (fail))
 refine wpQuiet_nil ?_;clear k0 k1 k2 hne;refine wpM_s (fun p'=> .pointer (some ⟨p',0,none⟩)) (.cells #[.int .i64 0,.int .i64 0,.int .i64 0,zR] 33) _ rfl rfl (fun w=>by simp only[execOp,go_sem,Sem.run_bind,Result.andThen,rp_z w];rfl) ?_
 refine wpM_e _ rfl (fun y hy=>?_)
 have b2:=y.below;have X2:=X1.out.below hy;obtain ⟨R,mv,hpt,htab⟩:=X2.st.tab;have H2':=Lib.hid (pask_any (paint T1 w1.heap.size (t+2)) t B mv x.l x.g c.s c.q y.val hpt X2.st.ok.T (by unfold i64B;have:=chk_ok X1.out.chk;have:=(chk_s X1.out.chk).1;omega))
 have Y2:=Lib.hid hy;obtain ⟨w2,hw2⟩:∃ w2,w2=y.val:=⟨_,rfl⟩;rw[<-hw2] at H2' Y2 ⊢;clear hw2 b2 X2 hpt htab hy y;go_wp2_with fail;refine H2'.out.mono ?_;rintro e w3 ⟨A3,k3,rfl,ho3,hb3⟩;obtain ⟨S,hS⟩:∃ S,S=akS x.l c.s c.q:=⟨_,rfl⟩;obtain ⟨b,hbb⟩:∃ b,b=akB x.l c.s c.q:=⟨_,rfl⟩;obtain ⟨E,hE⟩:∃ E,E=akE x.l c.s c.q:=⟨_,rfl⟩;rw[<-hS] at ho3 ⊢;rw[<-hbb,<-hE];have HS:=Lib.hid hS;have HBB:=Lib.hid hbb;have HE:=Lib.hid hE;obtain ⟨zc,hzc⟩:∃ z,z=S.c:=⟨_,rfl⟩;obtain ⟨zn,hzn⟩:∃ z,z=S.n:=⟨_,rfl⟩;obtain ⟨zm,hzm⟩:∃ z,z=S.m:=⟨_,rfl⟩;obtain ⟨zT,hzT⟩:∃ z,z=S.T:=⟨_,rfl⟩;rw[<-hzT] at ho3;rw[<-hzc,<-hzn,<-hzm,<-hzT];have HSV:=Lib.hid (And.intro hzc (And.intro hzn (And.intro hzm hzT)));have O3w:=Lib.hid ho3;have O3:=Lib.hid (ho3.base (show w1.heap.size<=w2.heap.size from Y2.out.size))
 have Y3:=Lib.hid (show Bel w1 w3 from onto Y2.out Y2.out.size hb3)
 have hb3':=Lib.hid hb3;have hz3:w2.heap.size<=w3.heap.size:=hb3.size;clear hS hbb hE hzc hzn hzm hzT ho3 hb3 H2';go_wp2_with fail;refine same_class (Value.slice A3 zT k3).ownBlock.toList (Frm.of hb3'.out) (fun k hk=>?_) Y3.out Bel.alloc ?_
 ·have:=World.ownsRow.lt O3w.out k (by simpa using hk)
  exact ⟨.inr this.1,this.2⟩
 clear hb3' O3w;have hne:Nonempty (In (Bel w1)):=⟨⟨w3,Y3.out⟩⟩;refine wpM_q ?_;simp only[pk,List.getElem?_cons_zero,List.getElem?_cons_succ]
 repeat (go_big_quiet_step (fail))
 refine wpQuiet_nil ?_;clear hne;refine wpM_u _ _ _ 5 (.head _) rfl rfl (fun y hy p hp1 hp2 hp3 hp4=>?_)
 refine wpM_e _ rfl (fun y2 hy2=>?_)
 have rp:=zD y2.below (row_of hp4);have O4:=(O3.out.below y.below (Nat.le_refl _)).below y2.below (Nat.le_refl _);obtain ⟨w4,hw4⟩:∃ w4,w4=y2.val:=⟨_,rfl⟩;rw[<-hw4] at hy2 rp O4 ⊢;have Y4:=Lib.hid hy2;have O4:=Lib.hid O4;have hpne:(Value.slice A3 zT k3).ownBlock≠some p:=fun e=>hp3 (by simp[e])
 have hpl:=zK rp;clear hw4 hy hp2 hp3 hp4 O3 Y3 hz3 y2 y hy2;go_wp2_with fail;obtain ⟨C,hC⟩:∃ C:Array Value,C=#[.int .i64 zc,.int .i64 zn,.int .i64 zm,.slice A3 zT k3]:=⟨_,rfl⟩;rw[<-hC];have HC:=Lib.hid hC;have O5:=Lib.hid (O4.out.setRow p hpne C);have Y5:=Lib.hid (show Bel w1 (w4.setRow p C) from zG Y4.out hp1 C)
 have P5:=Lib.hid (zE rp C);have FM:=Lib.hid (show Frm (p::(Value.slice A3 zT k3).ownBlock.toList) w4 (w4.setRow p C) from ⟨by rw[setRow_sizeS];exact Nat.le_refl _,fun k hk hn=>setRow_other w4 p k C (fun e=>hn (by rw[e];simp))⟩)
 obtain ⟨w5,hw5⟩:∃ w5,w5=w4.setRow p C:=⟨_,rfl⟩;rw[<-hw5] at O5 Y5 P5 FM ⊢;clear hC rp O4 Y4 hw5;refine same_class [] FM.out hot_none Y5.out Bel.alloc ?_;have hne:Nonempty (In (Bel w1)):=⟨⟨w5,Y5.out⟩⟩;refine wpM_q ?_;simp only[pk,List.getElem?_cons_zero,List.getElem?_cons_succ]
 repeat (go_big_quiet_step (fail))
 refine wpQuiet_nil ?_;clear hne FM;refine wpM_nil (fun y=>?_)
 have Y6:=Lib.hid (show Bel w1 y.val from onto Y5.out Y5.out.size y.below)
 have O6:=Lib.hid (O5.out.below y.below (Nat.le_refl _));have P6:=Lib.hid (zD y.below P5.out);obtain ⟨w6,hw6⟩:∃ w6,w6=y.val:=⟨_,rfl⟩;rw[<-hw6] at Y6 O6 P6 ⊢;clear hw6 y Y5 O5 P5;rw[show Z+1+1=Z+2 from rfl]
 have FA:=Lib.hid (fun tn=>F1.out.trans (Fr.new (T:=T1) (H:=H2 t) Y6.out tn))
 have SA:=Lib.hid (fun tn=>X1.out.st.fr (Fr.new (T:=T1) (H:=fun _=>False) Y6.out tn) (fun h=>h) (fun h=>h) (fun h=>h))
 by_cases h0:E=0
 ·have E0:=Lib.hid (show akE x.l c.s c.q=0 by rw[<-HE.out];exact h0)
  subst h0;go_wp2_with fail;refine (yQ _).mono ?_;rintro e w7 ⟨rfl,rfl⟩
  cases b with
  |true=>
   have hX:=Lib.hid (show rqX x c=x/\rqR x c=seR S by
    unfold rqX rqR;rw[if_neg (fun h=>h E0.out),if_pos HBB.out.symm,if_neg (fun h=>h E0.out),if_pos HBB.out.symm,HS.out]
    exact ⟨rfl,rfl⟩)
   have r6:=P6.out;rw[HC.out] at r6;have q6:=zD Y6.out RR.out;go_wp2_with fail;have D6:=O6.out.rdS T1 0;have t2:paint T1 w1.heap.size 0 (Z+2)=t+2:=by rw[zH (by omega)];exact TG.out.2.2
   have G:=Fr.row (T:=paint T1 w1.heap.size 0) (H:=fun c=>c=t+2) (w:=w7) (B:=Z+2) t2 #[.int .i64 zc,.int .i64 zn,.int .i64 zm,.slice A3 zT k3]
   have ST:=(SA.out 0).fr G (by omega) (by omega) (by omega)
   have DD:=D6.fr G (by omega)
   have FF:=(FA.out 0).up (b:=Z+2) (by have:=HZ.out;omega) #[.int .i64 zc,.int .i64 zn,.int .i64 zm,.slice A3 zT k3]
   refine bodyPost_ret (v:=repV zc zn zm (.slice A3 zT k3)) (yV Tryz.results42 _ _ (Z+2) _ _ rfl (zE q6 _) Tryz.underlying33 rfl (by kernel_rfl)) rfl ?_
   rw[hX.out.1,hX.out.2];refine ⟨_,FF,ST,.inl ⟨A3,k3,?_,?_⟩⟩
   ·rw[HSV.out.1,HSV.out.2.1,HSV.out.2.2.1,HSV.out.2.2.2];rfl
   ·show RdS _ _ 0 A3 S.T k3 S.f
    rw[<-HSV.out.2.2.2];exact DD
  |false=>
   obtain ⟨hd1,hd2⟩:=dn_new (l:=x.l) (x:=exS x c) E0.out HBB.out.symm
   have hX:=Lib.hid (show rqX x c=⟨exD x c,exC x c,exK x c,dnL x.l (exS x c),x.g⟩/\rqR x c=exR x c by
    unfold rqX rqR;rw[if_neg (fun h=>h E0.out),if_neg (by rw[<-HBB.out];decide),if_neg (fun h=>h E0.out),if_neg (by rw[<-HBB.out];decide)]
    exact ⟨rfl,rfl⟩)
   have X7:=X1.out.below Y6.out;have F7:=FA.out (t+2);have TG7:=Lib.hid (show paint T1 w1.heap.size (t+2) Z=t+2/\paint T1 w1.heap.size (t+2) (Z+1)=t+2/\paint T1 w1.heap.size (t+2) (Z+2)=t+2 by rw[zH (by omega),zH (by omega),zH (by omega)];exact TG.out)
   obtain ⟨T7,hT7⟩:∃ T7,T7=paint T1 w1.heap.size (t+2):=⟨_,rfl⟩;rw[<-hT7] at X7 F7 TG7;have hz7:Z+3<=w7.heap.size:=by have:=Below.size Y6.out;omega
   have RS7:=Lib.hid (zD Y6.out RS.out);have RC7:=Lib.hid (zD Y6.out RC.out);have RR7:=Lib.hid (zD Y6.out RR.out)
   have H8:=Lib.hid (replyOf_any T7 t B ⟨exD x c,exC x c,exK x c,x.l,x.g⟩ (exR x c) ht 82 #[.pointer (some ⟨Z,0,none⟩),.pointer (some ⟨Z+1,0,none⟩)] w7 (entr (fn:=Tryz.f82) (by kernel_rfl) (by kernel_rfl) (by kernel_rfl)) fun W hW=>
    prq1_any (paint T7 w7.heap.size (t+2)) t B tc x c A A' a a' Z (Z+1) W (X7.below hW) HK.out.1 HK.out.2 (zD hW RS7.out) (zD hW RC7.out))
   have HF7:=Lib.hid F7;have HX7:=Lib.hid X7;have HD:=Lib.hid (And.intro hd1 hd2);have hmf:∀ (fn:Fn) (first cap:Array Value) (w:World),(Instr.makeFunc fn first cap).run Tryz.prog w=.ok (.func fn first cap) w:=fun _ _ _ _=>rfl
   clear hd1 hd2 X7 F7 hT7 FA SA P6 O6 Y6 X1 F1 TG RS RC RR HS HSV HC hpne;go_wp2_with fail;refine H8.out.mono ?_;rintro e w8 ⟨T8,hf8,hs8,A8,k8,rfl,hr8⟩;obtain ⟨r,hr⟩:∃ r,r=exR x c:=⟨_,rfl⟩;obtain ⟨C8,hC8⟩:∃ C:Array Value,C=#[.int .i64 r.c,.int .i64 r.n,.int .i64 r.m,.slice A8 r.T k8]:=⟨_,rfl⟩;have HRR:=Lib.hid hr;rw[<-hr] at hr8 ⊢;have hb9:=(Below.refl w8.heap.size w8).alloc (Nat.le_refl _) (.cells C8 33);obtain ⟨w9,hw9⟩:∃ w9,w9=w8.alloc (.cells C8 33):=⟨_,rfl⟩;have rG:=zA w8 C8 33 _ rfl;have hz9:w9.heap.size=w8.heap.size+1:=by rw[hw9];simp
   rw[<-hw9] at hb9 rG;have hz8:=hf8.size;have f9:=Fr.new (T:=T8) (H:=H2 t) hb9 (t+2);have f9':=Fr.new (T:=T8) (H:=fun _=>False) hb9 (t+2)
   have F9:=Lib.hid ((HF7.out.trans hf8).trans f9);have S9:=Lib.hid (hs8.fr f9' (fun h=>h) (fun h=>h) (fun h=>h))
   have D9:=Lib.hid (hr8.fr f9' (fun h=>h))
   have RS9:=Lib.hid (zD hb9 (hf8.rowAt RS7.out (by rw[TG7.out.1];exact h2_no)))
   have RC9:=Lib.hid (zD hb9 (hf8.rowAt RC7.out (by rw[TG7.out.2.1];exact h2_no)))
   have RR9:=Lib.hid (zD hb9 (hf8.rowAt RR7.out (by rw[TG7.out.2.2];exact h2_no)))
   have RG9:=Lib.hid rG
   have TG9:=Lib.hid (show paint T8 w8.heap.size (t+2) Z=t+2/\paint T8 w8.heap.size (t+2) (Z+1)=t+2/\paint T8 w8.heap.size (t+2) (Z+2)=t+2/\paint T8 w8.heap.size (t+2) w8.heap.size=t+2 by
    rw[zH (by omega),zH (by omega),zH (by omega),hf8.tag _ (by omega),hf8.tag _ (by omega),hf8.tag _ (by omega),zP (Nat.le_refl _)]
    exact ⟨TG7.out.1,TG7.out.2.1,TG7.out.2.2,rfl⟩)
   obtain ⟨T9,hT9⟩:∃ T9,T9=paint T8 w8.heap.size (t+2):=⟨_,rfl⟩;obtain ⟨G,hG⟩:∃ G,G=w8.heap.size:=⟨_,rfl⟩;rw[<-hT9] at F9 S9 D9 TG9;rw[<-hG] at RG9 TG9;have HG:=Lib.hid hG;have HC8:=Lib.hid hC8;rw[hC8] at hw9;clear hr hC8 hb9 rG f9 f9' hf8 hs8 hr8 hT9 hG RS7 RC7 RR7 TG7 H8;go_upto_region 6 with fail
   rw[<-hw9,<-HG.out];clear hw9;refine zY [([0,1,2,3,4,5,6,7],8,false),([],9,true)] [] (fun y=>row y Z=some #[.pointer (some ⟨B,0,none⟩)]/\row y (Z+1)=some (cmA c A a A' a')/\row y G=some C8) (by kernel_rfl) (by kernel_rfl) (fun _ _ _ _ _ h=>h) (by simp only[zS];exact ⟨RS9.out,RC9.out,RG9.out⟩) ?_
   have b10:=zQ (Below.refl w9.heap.size w9) 1;have f10:=Fr.new (T:=T9) (H:=H2 t) b10 (t+2);have f10':=Fr.new (T:=T9) (H:=fun _=>False) b10 (t+2)
   have F10:=Lib.hid (F9.out.trans f10);have S10:=Lib.hid (S9.out.fr f10' (fun h=>h) (fun h=>h) (fun h=>h))
   have D10:=Lib.hid (D9.out.fr f10' (fun h=>h))
   have RS10:=Lib.hid (zD b10 RS9.out);have RC10:=Lib.hid (zD b10 RC9.out);have RR10:=Lib.hid (zD b10 RR9.out);have RG10:=Lib.hid (zD b10 RG9.out);have hgl:=zK RG9.out
   have TG10:=Lib.hid (show paint T9 w9.heap.size (t+2) Z=t+2/\paint T9 w9.heap.size (t+2) (Z+1)=t+2/\paint T9 w9.heap.size (t+2) (Z+2)=t+2/\paint T9 w9.heap.size (t+2) G=t+2 by
    rw[zH (by omega),zH (by omega),zH (by omega),zH (by omega)]
    exact TG9.out)
   obtain ⟨T10,hT10⟩:∃ T10,T10=paint T9 w9.heap.size (t+2):=⟨_,rfl⟩;obtain ⟨w10,hw10⟩:∃ w10,w10=w9.drewN 1:=⟨_,rfl⟩;rw[<-hT10] at F10 S10 D10 TG10;rw[<-hw10] at F10 S10 D10 RS10 RC10 RR10 RG10 ⊢;have hz10:Z+3<=w10.heap.size/\G<w10.heap.size:=⟨by rw[hw10];show Z+3<=w9.heap.size;omega,zK RG10.out⟩
   clear hT10 hw10 b10 f10 f10' F9 S9 D9 RS9 RC9 RR9 RG9 TG9;have hne:Nonempty (In (fun y=>row y Z=some #[.pointer (some ⟨B,0,none⟩)]/\row y (Z+1)=some (cmA c A a A' a')/\row y G=some C8)):=⟨⟨w10,RS10.out,RC10.out,RG10.out⟩⟩
   have Q0:∀ y:In (fun y=>row y Z=some #[.pointer (some ⟨B,0,none⟩)]/\row y (Z+1)=some (cmA c A a A' a')/\row y G=some C8),y.val.cell? ⟨Z,0,none⟩=some (.pointer (some ⟨B,0,none⟩)):=fun y=>zC y.ok.1 0
   have Q1:∀ y:In (fun y=>row y Z=some #[.pointer (some ⟨B,0,none⟩)]/\row y (Z+1)=some (cmA c A a A' a')/\row y G=some C8),y.val.cell? ⟨Z+1,1,none⟩=some (.int .i64 c.s):=fun y=>(yB y.ok.2.1).2.1
   have Q2:∀ y:In (fun y=>row y Z=some #[.pointer (some ⟨B,0,none⟩)]/\row y (Z+1)=some (cmA c A a A' a')/\row y G=some C8),y.val.cell? ⟨Z+1,2,none⟩=some (.int .i64 c.q):=fun y=>(yB y.ok.2.1).2.2.1
   have Q3:∀ y:In (fun y=>row y Z=some #[.pointer (some ⟨B,0,none⟩)]/\row y (Z+1)=some (cmA c A a A' a')/\row y G=some C8),row y.val G=some #[.int .i64 r.c,.int .i64 r.n,.int .i64 r.m,.slice A8 r.T k8]:=fun y=>by rw[y.ok.2.2,HC8.out]
   simp only[wpFl,pk,List.getElem?_cons_zero,List.getElem?_cons_succ];refine zV ?_
   repeat (go_big_quiet_step (fail))
   refine wpQuiet_nil ?_;clear Q0 Q1 Q2 Q3 hne;obtain ⟨sx,hsx⟩:∃ sx:Se,sx=⟨c.s,c.q,r.c,r.n,r.m,r.T,r.f⟩:=⟨_,rfl⟩;have HSX:=Lib.hid (show exS x c=sx by rw[hsx,HRR.out];rfl)
   have hrT:r.T<=140737488355328:=by rw[HRR.out];have:=exR_T x c;omega
   obtain ⟨R10,mv10,hpt,htab⟩:=S10.out.tab;have HT:=Lib.hid htab;have H11:=pdone_any T10 t B mv10 x.l x.g sx A8 k8 w10 hpt ht S10.out.ok.T (by rw[hsx];unfold i64B;show-9223372036854775808<=c.s/\c.s<9223372036854775808;have:=chk_ok HX7.out.chk;have:=(chk_s HX7.out.chk).1;omega) (tx:=0) (by rw[hsx];exact D10.out) (h2_0 ht) (by rw[hsx];exact hrT)
   have HDN:=Lib.hid (show dnE x.l sx.id sx.q=0 by rw[<-HSX.out];exact HD.out.1)
   rw[HDN.out] at H11;have H11:=Lib.hid (show Calls Tryz.prog 84 #[.pointer (some ⟨B,1170,none⟩),.int .i64 c.s,.int .i64 c.q,repV r.c r.n r.m (.slice A8 r.T k8)] w10 _ by rw[hsx] at H11;exact H11)
   clear hpt htab;go_wp2_with fail;refine H11.out.mono ?_;rintro e w11 ⟨rfl,T11,mv11,hf11,hp11⟩;have ST11:=Lib.hid (HT.out T11 w11 mv11 (dnL x.l (exS x c)) x.g (by rw[HSX.out,hsx];exact hp11) (HX7.out.st.ok.T.dn _ (Nat.le_trans (exR_T x c) (by omega))))
   have D11:=Lib.hid (D10.out.fr hf11 (h2_0 ht));have F11:=Lib.hid (F10.out.trans hf11);have RS11:=Lib.hid (hf11.rowAt RS10.out (by rw[TG10.out.1];exact h2_no))
   have RC11:=Lib.hid (hf11.rowAt RC10.out (by rw[TG10.out.2.1];exact h2_no))
   have RR11:=Lib.hid (hf11.rowAt RR10.out (by rw[TG10.out.2.2.1];exact h2_no))
   have RG11:=Lib.hid (hf11.rowAt RG10.out (by rw[TG10.out.2.2.2];exact h2_no))
   have t11:T11 (Z+2)=t+2:=by rw[hf11.tag _ (by omega)];exact TG10.out.2.2.1
   have hsx':=Lib.hid hsx;clear hf11 hp11 H11 HT RS10 RC10 RR10 RG10 D10 S10 F10 hsx;go_wp2_with fail;refine ⟨(fun y=>row y Z=some #[.pointer (some ⟨B,0,none⟩)]/\row y (Z+1)=some (cmA c A a A' a')/\row y G=some C8),⟨RS11.out,RC11.out,RG11.out⟩,.inr ⟨⟨RS11.out,RC11.out,RG11.out⟩,fun _ h=>h⟩,?_⟩
   show wpQuiet _ _ _ _ _ _;refine wpQuiet_nil ?_;go_wp2_with fail;refine (yQ _).mono ?_;rintro e w12 ⟨rfl,rfl⟩;go_wp2_with fail
   first|refine ⟨(fun y=>row y Z=some #[.pointer (some ⟨B,0,none⟩)]/\row y (Z+1)=some (cmA c A a A' a')/\row y G=some C8),⟨RS11.out,RC11.out,RG11.out⟩,.inl trivial,?_⟩|refine ⟨(fun y=>row y Z=some #[.pointer (some ⟨B,0,none⟩)]/\row y (Z+1)=some (cmA c A a A' a')/\row y G=some C8),⟨RS11.out,RC11.out,RG11.out⟩,?_⟩
   show wpQuiet _ _ _ _ _ _;refine wpQuiet_nil ?_;have rg:=RG11.out;rw[HC8.out] at rg;have rr:=RR11.out;have G2:=Fr.row (T:=T11) (H:=fun c=>c=t+2) (w:=w12) (B:=Z+2) t11 #[.int .i64 r.c,.int .i64 r.n,.int .i64 r.m,.slice A8 r.T k8]
   have ST:=Lib.hid (ST11.out.fr G2 (by omega) (by omega) (by omega))
   have DD:=Lib.hid (D11.out.fr G2 (by omega))
   have FF:=Lib.hid (F11.out.up (b:=Z+2) (by have:=HZ.out;omega) #[.int .i64 r.c,.int .i64 r.n,.int .i64 r.m,.slice A8 r.T k8])
   clear G2;go_wp2_with fail;refine bodyPost_ret (v:=repV r.c r.n r.m (.slice A8 r.T k8)) (yV Tryz.results42 _ _ (Z+2) _ _ rfl (zE rr _) Tryz.underlying33 rfl (by kernel_rfl)) rfl ?_
   rw[hX.out.1,hX.out.2,<-HRR.out];exact ⟨_,FF.out,ST.out,.inl ⟨A8,k8,rfl,DD.out⟩⟩
 ·have hX:=Lib.hid (show rqX x c=x/\rqR x c=rpE E by
   unfold rqX rqR;rw[if_pos (by rw[<-HE.out];exact h0),if_pos (by rw[<-HE.out];exact h0),<-HE.out]
   exact ⟨rfl,rfl⟩)
  go_wp2_with fail;refine (yM E h0 _).mono ?_;rintro e w7 ⟨rfl,rfl⟩;go_wp2_with fail;rw[hX.out.1,hX.out.2];exact ⟨rfl,_,FA.out 0,SA.out 0,.inr ⟨h0,rfl,rfl⟩⟩
structure ApIn(T:Mk)(w:World)(t B tc:Nat)(x:Sx)(c:Cm)(A:Option Addr)(a:Nat)(A':Option Addr)(a':Nat):Prop where
 st:StAt T w t B x
 t0:0<t
 tab:Tab w
 m0:off3 t (T 0)
 cm:CmR T w tc c A a A' a'
 mc:off3 t tc
 n:x.n<=1048576
section
variable {T T':Mk} {w w':World} {t B tc:Nat} {x:Sx} {c:Cm} {A A':Option Addr} {a a':Nat}
theorem ApIn.ex(h:ApIn T w t B tc x c A a A' a')(hc:chkE c.k c.s c.q c.i c.n c.T c.U=0):ExIn T w t B tc x c A a A' a':=⟨h.st,h.t0,h.tab,h.m0,h.cm,h.mc,h.n,hc⟩
theorem ApIn.below(h:ApIn T w t B tc x c A a A' a')(hb:Below w.heap.size w w'):ApIn (paint T w.heap.size (t+2)) w' t B tc x c A a A' a':=by
 have hf:=Fr.new (T:=T) (H:=fun _=>False) hb (t+2)
 exact ⟨h.st.fr hf (fun h=>h) (fun h=>h) (fun h=>h),h.t0,h.tab.below hb h.tab.pos,by rw[zH h.tab.pos];exact h.m0,h.cm.fr hf (fun h=>h),h.mc,h.n⟩
end
theorem chk_01{k s q i n:Int}{T U:Nat}(h:chkE k s q i n T U≠0):chkE k s q i n T U=1:=by
 unfold chkE at h ⊢
 split
 ·rename_i h2;rw[if_pos h2] at h;exact absurd rfl h
 ·rfl
theorem rp_b1n(n:Int)(w:World):(Instr.build 33 #[(1,.int .i64 n)]).run Tryz.prog w=.ok (repV 0 n 0 (.slice none 0 0)) w:=by kernel_rfl
theorem op_bad{l:List Se}{g:Int}(h:opE l g≠0):opE l g=134/\opN l g=0:=by
 unfold opE opN at*
 split at h
 ·rename_i e;exact ⟨if_pos e,if_pos e⟩
 ·exact absurd rfl h
theorem pap1_any(T:Mk)(t B tc:Nat)(x:Sx)(c:Cm)(A A':Option Addr)(a a':Nat)(Zc Zs:Nat)(w:World)(h:ApIn T w t B tc x c A a A' a')
  (hc:row w Zc=some (cmA c A a A' a')) (hs:row w Zs=some #[.pointer (some ⟨B,0,none⟩)]) (mk1:off3 t (T Zc)\/T Zc=t+2) (mk2:off3 t (T Zs)\/T Zs=t+2):
  Calls Tryz.prog 36 #[.pointer (some ⟨Zc,0,none⟩),.pointer (some ⟨Zs,0,none⟩)] w (OutR t B (apX x c) (apR x c) T w):=by
 obtain ⟨w1,hw1⟩:∃ w1,w1=w.alloc (.cells #[.int .i64 0,.int .i64 0,.int .i64 0,zR] 33):=⟨_,rfl⟩;have bw:Below w.heap.size w w1:=by rw[hw1];exact (Below.refl _ _).alloc (Nat.le_refl _) _
 have r0:row w1 w.heap.size=some #[.int .i64 0,.int .i64 0,.int .i64 0,zR]:=by rw[hw1];exact zA _ _ _ _ rfl
 have hz1:w1.heap.size=w.heap.size+1:=by rw[hw1];simp
 have F1:=Lib.hid (show Fr T (paint T w.heap.size (t+2)) (H2 t) w w1 from Fr.new bw _)
 have TG:=Lib.hid (show paint T w.heap.size (t+2) w.heap.size=t+2 from zP (Nat.le_refl _))
 have X1:=Lib.hid (h.below bw);have ht:=h.t0;have RS:=Lib.hid (zD bw hs);have RC:=Lib.hid (zD bw hc);have R0:=Lib.hid r0;have r1:=zD bw hc;obtain ⟨T1,hT1⟩:∃ T1,T1=paint T w.heap.size (t+2):=⟨_,rfl⟩;rw[<-hT1] at X1 F1 TG;have H1:=Lib.hid (check_any c.k c.s c.q c.i c.n c.T c.U a a' A A' w1);have hTk:=Lib.hid hT1;have hl1:=zK hc;have hl2:=zK hs;clear h bw r0 hT1 hs hc;go_enter Tryz.func36,Tryz.ntmps36;go_upto_region 1 with fail
 rw[<-hw1];clear hw1;go_wp2_with fail;refine H1.out.mono ?_;rintro e w2 ⟨rfl,hb2⟩;have X2:=X1.out.below hb2;have F2:=F1.out.trans (Fr.new (T:=T1) (H:=H2 t) hb2 (t+2));have TG2:=Lib.hid (show paint T1 w1.heap.size (t+2) w.heap.size=t+2 by rw[zH (by omega)];exact TG.out)
 have RS2:=Lib.hid (zD hb2 RS.out);have RC2:=Lib.hid (zD hb2 RC.out);have RR2:=Lib.hid (zD hb2 R0.out);obtain ⟨T2,hT2⟩:∃ T2,T2=paint T1 w1.heap.size (t+2):=⟨_,rfl⟩;rw[<-hT2] at X2 F2 TG2;replace X2:=Lib.hid X2;replace F2:=Lib.hid F2;have hz2:=hb2.size
 have MK:=Lib.hid (show ¬ H2 t (T2 Zc)/\¬ H2 t (T2 Zs) by
  have l1:=zK RC.out;have l2:=zK RS.out;have e1:T2 Zc=T Zc:=by rw[hT2,zH l1,hTk.out,zH hl1]
  have e2:T2 Zs=T Zs:=by rw[hT2,zH l2,hTk.out,zH hl2]
  rw[e1,e2];unfold H2 off3 at*
  omega)
 clear hb2 hT2 H1 X1 F1 TG RS RC R0 r1 mk1 mk2 hTk hl1 hl2
 by_cases hck:chkE c.k c.s c.q c.i c.n c.T c.U=0
 ·have HC:=Lib.hid hck
  have EX:=Lib.hid (X2.out.ex hck);rw[hck];clear hck;go_wp2_with fail;refine (yQ _).mono ?_;rintro e w3 ⟨rfl,rfl⟩;obtain ⟨a0,a1,a2,a3,a4,a5,a6⟩:=yB RC2.out;have rs0:=zC RS2.out 0;have rs0:w3.cell? ⟨Zs,0,none⟩=some (.pointer (some ⟨B,0,none⟩)):=rs0
  by_cases hk1:c.k=1
  ·have HX:=Lib.hid (show apX x c=⟨x.d,x.n,x.K,opSe x.l x.g,opG x.l x.g⟩/\apR x c=⟨opE x.l x.g,opN x.l x.g,0,0,fun _=>0#8⟩ by
    unfold apX apR;rw[if_neg (fun h=>h HC.out),if_pos hk1,if_neg (fun h=>h HC.out),if_pos hk1]
    exact ⟨rfl,rfl⟩)
   rw[hk1] at a0;obtain ⟨R,mv,hpt,htab⟩:=X2.out.st.tab;have H3:=Lib.hid (popen_any T2 t B mv x.l x.g w3 hpt ht X2.out.st.ok.T);have HT:=Lib.hid htab;clear hpt htab hk1;go_wp2_with fail;refine H3.out.mono ?_;rintro e w4 ⟨rfl,T4,mv4,hf4,hp4⟩;have ST4:=Lib.hid (HT.out T4 w4 mv4 _ _ hp4 X2.out.st.ok.T.opn);have F4:=Lib.hid (F2.out.trans hf4);have RR4:=Lib.hid (hf4.rowAt RR2.out (by rw[TG2.out];exact h2_no))
   have t4:T4 w.heap.size=t+2:=by rw[hf4.tag _ (by omega)];exact TG2.out
   obtain ⟨N,hN⟩:∃ N,N=opN x.l x.g:=⟨_,rfl⟩;obtain ⟨E,hE⟩:∃ E,E=opE x.l x.g:=⟨_,rfl⟩;have HOB:=Lib.hid (op_bad (l:=x.l) (g:=x.g));rw[<-hN,<-hE] at HOB ⊢;have HN:=Lib.hid hN;have HE:=Lib.hid hE;clear hf4 hp4 hN hE H3 HT a0 a1 a2 a3 a4 a5 a6 rs0;have bd:=rp_b1n
   by_cases h0:E=0
   ·subst h0
    go_wp2_with fail;refine (musti_ok _ _).mono ?_;rintro e w5 ⟨rfl,rfl⟩;have rr:=RR4.out;go_wp2_with fail;have G:=Fr.row (T:=T4) (H:=fun c=>c=t+2) (w:=w5) (B:=w.heap.size) t4 #[.int .i64 0,.int .i64 N,.int .i64 0,zR]
    refine bodyPost_ret (v:=repV 0 N 0 zR) (yV Tryz.results36 _ _ w.heap.size _ _ rfl (zE rr _) Tryz.underlying33 rfl (by kernel_rfl)) rfl ?_
    rw[HX.out.1,HX.out.2,<-HN.out,<-HE.out];exact ⟨_,F4.out.up (Nat.le_refl _) _,ST4.out.fr G (by omega) (by omega) (by omega),.inl ⟨none,0,rfl,RdS.nil _ _ _ _⟩⟩
   ·go_wp2_with fail
    refine (musti_bad _ E h0 _).mono ?_;rintro e w5 ⟨rfl,rfl⟩;go_wp2_with fail;rw[HX.out.1,HX.out.2,<-HN.out,<-HE.out];obtain ⟨e1,e2⟩:=HOB.out h0;exact ⟨rfl,_,F4.out,ST4.out,.inr ⟨h0,by rw[e2];rfl,rfl⟩⟩
  ·by_cases hk2:c.k=2
   ·have HX:=Lib.hid (show apX x c=⟨x.d,x.n,x.K,ssX x.l c.i,x.g⟩/\apR x c=rpE (exE x.l c.i) by
     unfold apX apR;rw[if_neg (fun h=>h HC.out),if_neg hk1,if_pos hk2,if_neg (fun h=>h HC.out),if_neg hk1,if_pos hk2]
     exact ⟨rfl,rfl⟩)
    rw[hk2] at a0;have hib:i64B c.i:=by unfold i64B;have:=chk_ok EX.out.chk;have:=(chk_s EX.out.chk).2;omega
    have HIB:=Lib.hid hib;clear hk1 hk2 hib;go_upto_region 6 with fail
    refine zY [([0,1,2,3,4],5,false),([],6,true)] [] (fun y=>row y Zs=some #[.pointer (some ⟨B,0,none⟩)]/\row y Zc=some (cmA c A a A' a')) (by kernel_rfl) (by kernel_rfl) (fun _ _ _ _ _ h=>h) (by simp only[zS];exact ⟨RS2.out,RC2.out⟩) ?_
    clear a0 a1 a2 a3 a4 a5 a6 rs0;have b5:=zQ (Below.refl w3.heap.size w3) 1;have f5:=Fr.new (T:=T2) (H:=H2 t) b5 (t+2);have f5':=Fr.new (T:=T2) (H:=fun _=>False) b5 (t+2)
    have F5:=Lib.hid (F2.out.trans f5);have S5:=Lib.hid (X2.out.st.fr f5' (fun h=>h) (fun h=>h) (fun h=>h))
    have RS5:=Lib.hid (zD b5 RS2.out);have RC5:=Lib.hid (zD b5 RC2.out);have RR5:=Lib.hid (zD b5 RR2.out);have l1:=zK RC2.out;have l2:=zK RS2.out
    have TG5:=Lib.hid (show paint T2 w3.heap.size (t+2) w.heap.size=t+2/\¬ H2 t (paint T2 w3.heap.size (t+2) Zc)/\¬ H2 t (paint T2 w3.heap.size (t+2) Zs) by
     rw[zH (by omega),zH l1,zH l2];exact ⟨TG2.out,MK.out⟩)
    obtain ⟨T5,hT5⟩:∃ T5,T5=paint T2 w3.heap.size (t+2):=⟨_,rfl⟩;obtain ⟨w5,hw5⟩:∃ w5,w5=w3.drewN 1:=⟨_,rfl⟩;rw[<-hT5] at F5 S5 TG5;have hz5:(w3.drewN 1).heap.size=w3.heap.size:=rfl;rw[<-hw5] at F5 S5 RS5 RC5 RR5 hz5 ⊢;clear hT5 hw5 b5 f5 f5' l1 l2;have hne:Nonempty (In (fun y=>row y Zs=some #[.pointer (some ⟨B,0,none⟩)]/\row y Zc=some (cmA c A a A' a'))):=⟨⟨w5,RS5.out,RC5.out⟩⟩
    have Q0:∀ y:In (fun y=>row y Zs=some #[.pointer (some ⟨B,0,none⟩)]/\row y Zc=some (cmA c A a A' a')),y.val.cell? ⟨Zs,0,none⟩=some (.pointer (some ⟨B,0,none⟩)):=fun y=>zC y.ok.1 0
    have Q1:∀ y:In (fun y=>row y Zs=some #[.pointer (some ⟨B,0,none⟩)]/\row y Zc=some (cmA c A a A' a')),y.val.cell? ⟨Zc,3,none⟩=some (.int .i64 c.i):=fun y=>(yB y.ok.2).2.2.2.1
    simp only[wpFl,pk,List.getElem?_cons_zero,List.getElem?_cons_succ];refine zV ?_
    repeat (go_big_quiet_step (fail))
    refine wpQuiet_nil ?_;clear Q0 Q1 hne;obtain ⟨R,mv,hpt,htab⟩:=S5.out.tab;have H6:=Lib.hid (pexp_any T5 t B mv x.l x.g c.i w5 hpt ht S5.out.ok.T HIB.out);have HT:=Lib.hid htab;clear hpt htab;go_wp2_with fail;refine H6.out.mono ?_;rintro e w6 ⟨rfl,T6,mv6,hf6,hp6⟩;have ST6:=Lib.hid (HT.out T6 w6 mv6 _ _ hp6 (S5.out.ok.T.drop _));have F6:=Lib.hid (F5.out.trans hf6);have RR6:=Lib.hid (hf6.rowAt RR5.out (by rw[TG5.out.1];exact h2_no))
    have RS6:=Lib.hid (hf6.rowAt RS5.out TG5.out.2.2);have RC6:=Lib.hid (hf6.rowAt RC5.out TG5.out.2.1);have t6:T6 w.heap.size=t+2:=by rw[hf6.tag _ (by omega)];exact TG5.out.1
    obtain ⟨E,hE⟩:∃ E,E=exE x.l c.i:=⟨_,rfl⟩;rw[<-hE];have HE:=Lib.hid hE;clear hf6 hp6 hE H6 HT;have bd:=rp_b0'
    by_cases h0:E=0
    ·subst h0
     go_wp2_with fail;refine ⟨(fun y=>row y Zs=some #[.pointer (some ⟨B,0,none⟩)]/\row y Zc=some (cmA c A a A' a')),⟨RS6.out,RC6.out⟩,.inr ⟨⟨RS6.out,RC6.out⟩,fun _ h=>h⟩,?_⟩
     show wpQuiet _ _ _ _ _ _;refine wpQuiet_nil ?_;go_wp2_with fail;refine (yQ _).mono ?_;rintro e w7 ⟨rfl,rfl⟩;go_wp2_with fail
     first|refine ⟨(fun y=>row y Zs=some #[.pointer (some ⟨B,0,none⟩)]/\row y Zc=some (cmA c A a A' a')),⟨RS6.out,RC6.out⟩,.inl trivial,?_⟩|refine ⟨(fun y=>row y Zs=some #[.pointer (some ⟨B,0,none⟩)]/\row y Zc=some (cmA c A a A' a')),⟨RS6.out,RC6.out⟩,?_⟩
     show wpQuiet _ _ _ _ _ _;refine wpQuiet_nil ?_;have rr:=RR6.out;go_wp2_with fail;have G:=Fr.row (T:=T6) (H:=fun c=>c=t+2) (w:=w7) (B:=w.heap.size) t6 #[.int .i64 0,.int .i64 0,.int .i64 0,zR]
     refine bodyPost_ret (v:=repV 0 0 0 zR) (yV Tryz.results36 _ _ w.heap.size _ _ rfl (zE rr _) Tryz.underlying33 rfl (by kernel_rfl)) rfl ?_
     rw[HX.out.1,HX.out.2,<-HE.out];exact ⟨_,F6.out.up (Nat.le_refl _) _,ST6.out.fr G (by omega) (by omega) (by omega),.inl ⟨none,0,rfl,RdS.nil _ _ _ _⟩⟩
    ·go_wp2_with fail
     refine ⟨(fun y=>row y Zs=some #[.pointer (some ⟨B,0,none⟩)]/\row y Zc=some (cmA c A a A' a')),⟨RS6.out,RC6.out⟩,.inr ⟨⟨RS6.out,RC6.out⟩,fun _ h=>h⟩,?_⟩
     show wpQuiet _ _ _ _ _ _;refine wpQuiet_nil ?_;go_wp2_with fail;refine (yM E h0 _).mono ?_;rintro e w7 ⟨rfl,rfl⟩;go_wp2_with fail;rw[HX.out.1,HX.out.2,<-HE.out];exact ⟨rfl,_,F6.out,ST6.out,.inr ⟨h0,rfl,rfl⟩⟩
   ·have HX:=Lib.hid (show apX x c=rqX x c/\apR x c=rqR x c by
     refine ⟨?_,?_⟩
     ·unfold apX
      rw[if_neg (fun h=>h HC.out),if_neg hk1,if_neg hk2]
      rfl
     ·unfold apR
      rw[if_neg (fun h=>h HC.out),if_neg hk1,if_neg hk2]
      rfl)
    have d1:(c.k==1)=false:=by simpa using hk1
    have d2:(c.k==2)=false:=by simpa using hk2
    have H3:=Lib.hid (preq_any T2 t B tc x c A A' a a' w3 EX.out hk1 hk2);have rc:=RC2.out;clear hk1 hk2;go_wp2_with fail;refine H3.out.mono ?_;rintro e w4 ⟨T4,hf,hst,⟨A5,k5,rfl,hrd⟩|⟨hne,hrp,rfl⟩⟩
    ·have rr:=hf.rowAt RR2.out (by rw[TG2.out];exact h2_no)
     have t4:T4 w.heap.size=t+2:=by rw[hf.tag _ (by omega)];exact TG2.out
     obtain ⟨r,hr⟩:∃ r,r=rqR x c:=⟨_,rfl⟩;rw[<-hr] at hrd ⊢;have HRR:=Lib.hid hr;have HF:=Lib.hid (F2.out.trans hf);have HS:=Lib.hid hst;have HRD:=Lib.hid hrd;clear hf hst hrd hr a0 a1 a2 a3 a4 a5 a6 rs0 rc;go_wp2_with fail;have G:=Fr.row (T:=T4) (H:=fun c=>c=t+2) (w:=w4) (B:=w.heap.size) t4 #[.int .i64 r.c,.int .i64 r.n,.int .i64 r.m,.slice A5 r.T k5]
     refine bodyPost_ret (v:=rpV r A5 k5) (yV Tryz.results36 _ _ w.heap.size _ _ rfl (zE rr _) Tryz.underlying33 rfl (by kernel_rfl)) rfl ?_
     rw[HX.out.1,HX.out.2,<-HRR.out];exact ⟨_,HF.out.up (Nat.le_refl _) _,HS.out.fr G (by omega) (by omega) (by omega),.inl ⟨A5,k5,rfl,HRD.out.fr G (by omega)⟩⟩
    ·have HN:=Lib.hid (And.intro hne hrp)
     have HF:=Lib.hid (F2.out.trans hf);have HS:=Lib.hid hst;clear hne hrp hf hst;go_wp2_with fail;rw[HX.out.1,HX.out.2];exact ⟨rfl,_,HF.out,HS.out,.inr ⟨HN.out.1,HN.out.2,rfl⟩⟩
 ·have HX:=Lib.hid (show apX x c=x/\apR x c=rpE 1 by
   unfold apX apR;rw[if_pos hck,if_pos hck]
   exact ⟨rfl,rfl⟩)
  rw[chk_01 hck];clear hck;go_wp2_with fail;refine (yM 1 (by decide) _).mono ?_
  rintro e w3 ⟨rfl,rfl⟩;go_wp2_with fail;rw[HX.out.1,HX.out.2];exact ⟨rfl,_,F2.out,X2.out.st,.inr ⟨by decide,rfl,rfl⟩⟩
theorem papply_any(T:Mk)(t B tc:Nat)(x:Sx)(c:Cm)(A A':Option Addr)(a a':Nat)(w:World)(h:ApIn T w t B tc x c A a A' a'):
  Calls Tryz.prog 15 #[.pointer (some ⟨B,0,none⟩),cmV c A a A' a'] w (OutV t B (apX x c) (apR x c) T w):=by
 obtain ⟨Z,hZ⟩:∃ Z,Z=w.heap.size:=⟨_,rfl⟩;obtain ⟨w1,hw1⟩:∃ w1,w1=((w.alloc (.cells #[.pointer (some ⟨B,0,none⟩)] 25)).alloc (.cells (cmA c A a A' a') 36)).alloc (.cells #[.int .i64 0,.int .i64 0,.int .i64 0,zR] 33):=⟨_,rfl⟩;have bw:Below w.heap.size w w1:=by rw[hw1];exact (((Below.refl _ _).alloc (Nat.le_refl _) _).alloc (by simp) _).alloc (by simp;omega) _
 have rs:row w1 Z=some #[.pointer (some ⟨B,0,none⟩)]:=by rw[hw1,hZ];exact zN (zN (zA _ _ _ _ rfl) _) _
 have rc:row w1 (Z+1)=some (cmA c A a A' a'):=by rw[hw1,hZ];exact zN (zA _ _ _ _ (by simp)) _
 have rr:row w1 (Z+2)=some #[.int .i64 0,.int .i64 0,.int .i64 0,zR]:=by rw[hw1,hZ];exact zA _ _ _ _ (by simp)
 have hz1:w1.heap.size=Z+3:=by rw[hw1,hZ];simp
 have X1:=h.below bw;have F1:=Lib.hid (show Fr T (paint T w.heap.size (t+2)) (H2 t) w w1 from Fr.new bw _)
 have TG:=Lib.hid (show paint T w.heap.size (t+2) Z=t+2/\paint T w.heap.size (t+2) (Z+1)=t+2/\paint T w.heap.size (t+2) (Z+2)=t+2 from ⟨zP (by omega),zP (by omega),zP (by omega)⟩)
 obtain ⟨T1,hT1⟩:∃ T1,T1=paint T w.heap.size (t+2):=⟨_,rfl⟩;rw[<-hT1] at X1 F1 TG;have HZ:=Lib.hid hZ;have ht:=h.t0
 have H8:=Lib.hid (replyOf_any T1 t B (apX x c) (apR x c) ht 36 #[.pointer (some ⟨Z+1,0,none⟩),.pointer (some ⟨Z,0,none⟩)] w1 (entr (fn:=Tryz.f36) (by kernel_rfl) (by kernel_rfl) (by kernel_rfl)) fun W hW=>
  pap1_any (paint T1 w1.heap.size (t+2)) t B tc x c A A' a a' (Z+1) Z W (X1.below hW) (zD hW rc) (zD hW rs) (.inr (by rw[zH (by omega)];exact TG.out.2.1)) (.inr (by rw[zH (by omega)];exact TG.out.1)))
 have RR:=Lib.hid rr;have hmf:∀ (fn:Fn) (first cap:Array Value) (w:World),(Instr.makeFunc fn first cap).run Tryz.prog w=.ok (.func fn first cap) w:=fun _ _ _ _=>rfl
 clear h bw rs rc rr hT1 hZ X1;go_enter Tryz.func15,Tryz.ntmps15;go_upto_region 1 with fail
 rw[<-hw1,<-HZ.out];clear hw1;go_wp2_with fail;refine H8.out.mono ?_;rintro e w2 ⟨T2,hf,hst,A5,k5,rfl,hrd⟩;have r2:=hf.rowAt RR.out (by rw[TG.out.2.2];exact h2_no)
 have t2:T2 (Z+2)=t+2:=by rw[hf.tag _ (by omega)];exact TG.out.2.2
 obtain ⟨r,hr⟩:∃ r,r=apR x c:=⟨_,rfl⟩;rw[<-hr] at hrd ⊢;have HRR:=Lib.hid hr;have HF:=Lib.hid (F1.out.trans hf);have HS:=Lib.hid hst;have HRD:=Lib.hid hrd;clear hf hst hrd hr H8;rw[show Z+1+1=Z+2 from rfl]
 go_wp2_with fail;have G:=Fr.row (T:=T2) (H:=fun c=>c=t+2) (w:=w2) (B:=Z+2) t2 #[.int .i64 r.c,.int .i64 r.n,.int .i64 r.m,.slice A5 r.T k5]
 refine bodyPost_ret (v:=rpV r A5 k5) (yV Tryz.results15 _ _ (Z+2) _ _ rfl (zE r2 _) Tryz.underlying33 rfl (by kernel_rfl)) rfl ?_
 rw[<-HRR.out];exact ⟨_,HF.out.up (b:=Z+2) (by have:=HZ.out;omega) _,HS.out.fr G (by omega) (by omega) (by omega),A5,k5,rfl,HRD.out.fr G (by omega)⟩
end Go.Proofs.YteffjpdcghlnlaaGreatDoor.Oct
namespace Go.Proofs.YteffjpdcghlnlaaGreatDoor.Oct
open Go.ChangeShapes Go.WideShapes Go.ChangeAt Go.RowKit Go.Maps
section
variable {α:Type} {k:Nat} {E:Mk->World->α->List Value->Prop} (hE:ElOk k E) {T T' T2:Mk} {H:Nat->Prop} {w w':World} {t:Nat} {A:Option Addr} {c:Nat} {l:List α}
include hE
end
theorem run_appNo{P:Program}{ty u:TypeId}{tt:TypeId}{k:Nat}(ht:P.underlying tt=some (.slice u))(hi:(P.info? u).map (·.size)=some k)(q n c:Nat)(V:Option Addr)(cV:Nat)(hn:n<=c)(w:World):
  (Builtin.append_ #[tt,tt] ty #[.slice (some ⟨q,0,none⟩) n c,.slice V 0 cV]).run P w=.ok (.slice (some ⟨q,0,none⟩) n c) w:=by
 cases hq:P.info? u with
 |none=>rw[hq] at hi;cases hi
 |some i=>
  have hS:Src P i.size tt (.slice V 0 cV) 0 [] w:=by
   cases V with
   |none=>exact ⟨.inl ⟨u,ht⟩,fun w'=>rfl,run_firstCells_none w i.size 0 0 cV,run_firstCells_none w.drew i.size 0 0 cV,by simp,fun _ h=>by cases h⟩
   |some a=>exact Src.ofSlice w ht a 0 cV [] (by simp) (fun j y hy=>by simp at hy) (fun _ h=>by cases h)
  exact run_append_room_src (P:=P) w tt tt ty u i ht hq q 0 n c (.slice V 0 cV) 0 [] hS (by omega) (fun j hj=>absurd hj (by simp)) (fun j hj=>absurd hj (by simp))
theorem wpl_appNo{w:World}{P:Program}{ops:Array Oper}{rest:List Oper}{o:Oper}{a:Act}{Q:Exit->Act->World->Prop}(hgd:o.guard=none)(s y:Operand){t u:TypeId}{k:Nat}
  (ho:o.op=.call { callee:=.builtin .append,args:=#[s,y],argTypes:=#[t,t] }) (ht:P.underlying t=some (.slice u)) (hi:(P.info? u).map (·.size)=some k) {q n c cV:Nat} {V:Option Addr} (hn:n<=c)
  (hv:a.eval s=.slice (some ⟨q,0,none⟩) n c) (hy:a.eval y=.slice V 0 cV)
  (h:wpList P ops Q rest (a.put o.dst (.slice (some ⟨q,0,none⟩) n c)) w):wpList P ops Q (o::rest) a w:=by
 refine wpList_plain hgd fun K hK=>?_
 have a1:=run_appNo (P:=P) (ty:=o.type) ht hi q n c V cV hn w;unfold Oper.wp execOp;simp only[ho,resolve,invoke,builtin,Sem.run_bind,Sem.run_pure,Result.andThen_ok,List.map_toArray,List.map_cons,List.map_nil,hv,hy,a1];exact hK _ _ h
theorem ElAt.seat{T:Mk}{w:World}{t:Nat}{A:Option Addr}{c:Nat}{l:List Se}(h:ElAt 6 seEl T w t A c l){i:Nat}(hi:i<l.length):
  ∃ g o cur A' c',A=some ⟨g,o,none⟩/\Oct.row w g=some cur/\T g=t/\o+c*6<=cur.size/\RdS T w 0 A' (l[i]).T c' (l[i]).f/\w.cell? ⟨g,o+i*6,none⟩=some (.int .i64 (l[i]).id)/\w.cell? ⟨g,o+i*6+1,none⟩=some (.int .i64 (l[i]).q)/\
   (∀ P t,ldR P t 4 w g (o+i*6+2) (some cur)=.ok (repV (l[i]).c (l[i]).n (l[i]).m (.slice A' (l[i]).T c')) w)/\(∀ P t,ldR P t 6 w g (o+i*6) (some cur)=.ok (seV l[i] (.slice A' (l[i]).T c')) w):=by
 have hle:=h.le;obtain ⟨g,o,cur,e,hr,hs,hT,hel⟩:=h.at_ (by omega)
 obtain ⟨vs,⟨A',c',rfl,hrd⟩,hc⟩:=hel i hi;have hm:(i+1)*6<=c*6:=Nat.mul_le_mul_right 6 (by omega)
 have g0:=hc 0 (by omega)
 have g1:=hc 1 (by omega)
 have g2:=hc 2 (by omega)
 have g3:=hc 3 (by omega)
 have g4:=hc 4 (by omega)
 have g5:=hc 5 (by omega)
 rw[Nat.add_zero] at g0;refine ⟨g,o,cur,A',c',e,hr,hT,hs,hrd,by rw[zC hr];exact g0,by rw[zC hr];exact g1,fun P t=>?_,fun P t=>?_⟩
 ·unfold ldR
  simp only[if_pos (show o+i*6+2+4<=cur.size by omega)]
  congr 2;apply Array.ext_getElem?;intro j;rw[Array.getElem?_extract]
  match j with
  |0=>rw[if_pos (by omega)];exact g2
  |1=>rw[if_pos (by omega)];exact g3
  |2=>rw[if_pos (by omega)];exact g4
  |3=>rw[if_pos (by omega)];exact g5
  |j+4=>rw[if_neg (by omega)];rfl
 ·unfold ldR
  simp only[if_pos (show o+i*6+6<=cur.size by omega)]
  congr 2;apply Array.ext_getElem?;intro j;rw[Array.getElem?_extract]
  match j with
  |0=>rw[if_pos (by omega)];exact g0
  |1=>rw[if_pos (by omega)];exact g1
  |2=>rw[if_pos (by omega)];exact g2
  |3=>rw[if_pos (by omega)];exact g3
  |4=>rw[if_pos (by omega)];exact g4
  |5=>rw[if_pos (by omega)];exact g5
  |j+6=>rw[if_neg (by omega)];rfl
structure YtAt(T:Mk)(w:World)(t B:Nat)(A:Option Addr)(c:Nat)(l:List Se)(g:Int):Prop where
 row:Oct.row w B=some #[.slice A l.length c,.int .i64 (g+1)]
 tg:T B=t
 el:ElAt 6 seEl T w (t+1) A c l
theorem YtAt.fr{T T':Mk}{H:Nat->Prop}{w w':World}{t B:Nat}{A:Option Addr}{c:Nat}{l:List Se}{g:Int}(h:YtAt T w t B A c l g)(hf:Fr T T' H w w')(h1:¬ H t)(h2:¬ H (t+1))(h0:¬ H 0):YtAt T' w' t B A c l g:=
 ⟨hf.rowAt h.row (by rw[h.tg];exact h1),by rw[hf.tag B (zK h.row)];exact h.tg,h.el.fr yL hf h2 h0⟩
section
variable {H:Type} {enc:TypeId×Value->H} {P:Program} {w:World} {base:Nat} {spare:Nat->Bool} {held:Bool}
end
section
variable {H:Type} {enc:TypeId×Value->H} {w:World} {base:Nat} {spare:Nat->Bool} {held:Bool}
structure OpS where
 k:Int
 id:Int
 q:Int
 c:Int
 n:Int
 m:Int
 A:Option Addr
 T:Nat
 e:Nat
 f:Bf
end
instance:Inhabited Se:=⟨.new 0⟩
instance:Inhabited OpS:=⟨⟨0,0,0,0,0,0,none,0,0,nF⟩⟩
theorem teq_refl(T:Nat)(d:Bf):teqB T T d d=true:=teq_iff.2 ⟨rfl,fun _ _=>rfl⟩
theorem repS_refl(x n m:Int)(T:Nat)(d:Bf):repS x n m x n m T T d d=true:=by unfold repS;simp[teq_refl]
theorem repN_bd{c n m:Int}(h0:i64B c)(h1:i64B n)(h2:i64B m):∀ j,-9223372036854775808<=repN c n m j/\repN c n m j<9223372036854775808:=fun j=>by
 unfold repN
 repeat' split
 all_goals assumption
structure SeRd(w:World)(A:Option Addr)(c:Nat)(l:List Se):Prop where
 le:l.length<=c
 at_:∀ i (hi:i<l.length),∃ g o A' c',A=some ⟨g,o,none⟩/\g<w.heap.size/\(∀ j,j<6->w.cell? ⟨g,o+i*6+j,none⟩=([.int .i64 (l[i]).id,.int .i64 (l[i]).q,.int .i64 (l[i]).c,.int .i64 (l[i]).n,.int .i64 (l[i]).m,.slice A' (l[i]).T c']:List Value)[j]?)/\Sl w w.heap.size A' (l[i]).T c' (l[i]).f
theorem SeRd.below{w w':World}{A:Option Addr}{c:Nat}{l:List Se}(h:SeRd w A c l)(hb:Below w.heap.size w w'):SeRd w' A c l:=
 ⟨h.le,fun i hi=>by
  obtain ⟨g,o,A',c',e,hg,hc,hs⟩:=h.at_ i hi
  exact ⟨g,o,A',c',e,Nat.lt_of_lt_of_le hg hb.size,fun j hj=>by rw[hb.cell (p:=⟨g,o+i*6+j,none⟩) hg];exact hc j hj,(hs.below hb).more hb.size⟩⟩
theorem ElAt.serd{T:Mk}{w:World}{t:Nat}{A:Option Addr}{c:Nat}{l:List Se}(h:ElAt 6 seEl T w t A c l):SeRd w A c l:=
 ⟨h.le,fun i hi=>by
  have hle:=h.le;obtain ⟨g,o,cur,e,hr,hs,hT,hel⟩:=h.at_ (by omega)
  obtain ⟨vs,⟨A',c',rfl,hrd⟩,hc⟩:=hel i hi
  exact ⟨g,o,A',c',e,zK hr,fun j hj=>by rw[zC hr];exact hc j hj,hrd.sl⟩⟩
theorem rp_cells(w:World)(g o:Nat)(c n m:Int)(V:Value)(h0:w.cell? ⟨g,o,none⟩=some (.int .i64 c))(h1:w.cell? ⟨g,o+1,none⟩=some (.int .i64 n))(h2:w.cell? ⟨g,o+2,none⟩=some (.int .i64 m))(h3:w.cell? ⟨g,o+3,none⟩=some V):
  ldR Tryz.prog 33 4 w g o (row w g)=.ok (repV c n m V) w:=by
 rw[<-rp_ld]
 exact run_loadAt_mid (P:=Tryz.prog) w g o 33 [.int .i64 c,.int .i64 n,.int .i64 m,V] _ (fun j y hy=>by
  match j with
  |0=>cases hy;exact h0
  |1=>cases hy;exact h1
  |2=>cases hy;exact h2
  |3=>cases hy;exact h3
  |j+4=>cases hy) Tryz.underlying33 rfl (by rw[rp_i];rfl)
theorem SeRd.seat{w:World}{A:Option Addr}{c:Nat}{l:List Se}(h:SeRd w A c l){i:Nat}(hi:i<l.length):
  ∃ g o V k,A=some ⟨g,o,none⟩/\∀ w',Below w.heap.size w w'->w'.cell? ⟨g,o+i*6,none⟩=some (.int .i64 (l[i]).id)/\w'.cell? ⟨g,o+i*6+1,none⟩=some (.int .i64 (l[i]).q)/\
   ldR Tryz.prog 33 4 w' g (o+i*6+2) (row w' g)=.ok (repV (l[i]).c (l[i]).n (l[i]).m (.slice V (l[i]).T k)) w'/\
   ldR Tryz.prog 121 6 w' g (o+i*6) (row w' g)=.ok (seV l[i] (.slice V (l[i]).T k)) w'/\Sl w' w'.heap.size V (l[i]).T k (l[i]).f:=by
 obtain ⟨g,o,V,k,e,hg,hc,hs⟩:=h.at_ i hi;refine ⟨g,o,V,k,e,fun w' hb=>?_⟩
 have hc:∀ j,j<6->w'.cell? ⟨g,o+i*6+j,none⟩=([.int .i64 (l[i]).id,.int .i64 (l[i]).q,.int .i64 (l[i]).c,.int .i64 (l[i]).n,.int .i64 (l[i]).m,.slice V (l[i]).T k]:List Value)[j]? :=fun j hj=>by rw[hb.cell (p:=⟨g,o+i*6+j,none⟩) hg];exact hc j hj
 have g0:=hc 0 (by omega)
 rw[Nat.add_zero] at g0;refine ⟨g0,hc 1 (by omega),rp_cells w' g (o+i*6+2) _ _ _ _ (hc 2 (by omega)) (hc 3 (by omega)) (hc 4 (by omega)) (hc 5 (by omega)),?_,(hs.below hb).more hb.size⟩
 rw[<-se_ld]
 exact run_loadAt_mid (P:=Tryz.prog) w' g (o+i*6) 121 [.int .i64 (l[i]).id,.int .i64 (l[i]).q,.int .i64 (l[i]).c,.int .i64 (l[i]).n,.int .i64 (l[i]).m,.slice V (l[i]).T k] _ (fun j y hy=>by
  by_cases hj:j<6
  ·rw[hc j hj];exact hy
  ·rw[List.getElem?_eq_none (by show 6<=j;omega)] at hy;cases hy) Tryz.underlying121 rfl (by rw[se_i];rfl)
theorem rsame15_any(A A':Option Addr)(c c':Nat)(l:List Se)(w:World)(h:SeRd w A c l)(h':SeRd w A' c' l)(hl:l.length<1000):
  Calls Tryz.prog 51 #[.slice A l.length c,.slice A' l.length c'] w fun e w'=>e=.returned (.bool true)/\Below w.heap.size w w':=by
 have H1:=Lib.hid h;have H2':=Lib.hid h';have hle:=h.le;have hle':=h'.le;have hx:((l.length:Int) !=(l.length:Int))=false:=by simp
 clear h h';go_enter Tryz.func51,Tryz.ntmps51;go_wp2_with fail;go_loopw [5] (fun iv wr=>∃ j:Nat,j<=l.length/\iv=.int .i64 (j:Int)/\Below w.heap.size w wr) (fun iv _=>l.length-(intOf iv).toNat)
 case atStart=>exact ⟨0,by omega,rfl,Below.refl _ _⟩
 case round=>
  obtain ⟨j,hj,rfl,hb⟩:=hrel;obtain ⟨wo,rfl⟩:∃ wo:World,wo=wr:=⟨_,rfl⟩;have Bo:=Lib.hid hb;clear hb
  by_cases hlt:j<l.length
  ·have hd:decide ((j:Int)<(l.length:Int))=true:=by simp;omega
   have hw:IntKind.i64.wrap ((j:Int)+1)=(j:Int)+1:=IntWalk.i64_in _ (by omega)
   go_upto_region 6 with fail
   refine yE [([0,1,2,3,4,5,6,7,8,9,10,11,12,13,14,15,16,17,18,19,20,21,22,23,24,25,26,27,28,29,30,31,32,33,34],35,true)] [36,37] (by kernel_rfl) (by kernel_rfl) (fun _ _ _ _ _ h=>h) fun Z=>?_
   have Bz:=Lib.hid (onto Bo.out Bo.out.size Z.below);obtain ⟨wz,hwz⟩:∃ wz,wz=Z.val:=⟨_,rfl⟩;rw[<-hwz] at Bz ⊢;clear hwz Z Bo;obtain ⟨g1,o1,V1,k1,rfl,f1⟩:=H1.out.seat hlt;obtain ⟨g2,o2,V2,k2,rfl,f2⟩:=H2'.out.seat hlt;have B0 (y:After wz):Below w.heap.size w y.val:=onto Bz.out Bz.out.size y.below;have c1:=fun y:After wz=>(f1 y.val (B0 y)).1
   have c2:=fun y:After wz=>(f1 y.val (B0 y)).2.1
   have c3:=fun y:After wz=>(f1 y.val (B0 y)).2.2.1
   have d1:=fun y:After wz=>(f2 y.val (B0 y)).1
   have d2:=fun y:After wz=>(f2 y.val (B0 y)).2.1
   have d3:=fun y:After wz=>(f2 y.val (B0 y)).2.2.1
   have H5:=samerep_any (l[j]).c (l[j]).n (l[j]).m (l[j]).c (l[j]).n (l[j]).m (l[j]).T (l[j]).T k1 k2 V1 V2 (l[j]).f (l[j]).f wz (f1 wz Bz.out).2.2.2.2 (f2 wz Bz.out).2.2.2.2;rw[repS_refl] at H5;have H5':=Lib.hid H5;have n1:((l[j]).id !=(l[j]).id)=false:=by simp
   have n2:((l[j]).q !=(l[j]).q)=false:=by simp
   clear H5 f1 f2 B0;simp only[wpFs,pk,List.getElem?_cons_zero,List.getElem?_cons_succ]
   repeat (go_big_quiet_step (fail))
   refine wpQuiet_nil ?_;clear c1 c2 c3 d1 d2 d3;go_wp2_with fail;refine H5'.out.mono ?_;rintro e w6 ⟨rfl,hb⟩;have B6:=Lib.hid (onto Bz.out Bz.out.size hb);go_wp2_with fail;refine ⟨.inl trivial,?_⟩;clear hb H5' Bz;show wpQuiet _ _ _ _ _ _
   repeat (go_big_quiet_step (fail))
   refine wpQuiet_nil ?_;go_wp2_with fail;refine ⟨⟨j+1,by omega,by rw[Int.natCast_succ],B6.out⟩,?_⟩
   simp only[intOf];omega
  ·have hd:decide ((j:Int)<(l.length:Int))=false:=by simp;omega
   go_wp2_with fail;go_ret;exact ⟨rfl,Bo.out⟩
def zB(c n m:Int)(T:Nat):Bool:=(c==0)&&((n==0)&&((m==0)&&((T:Int)==0)))
def noB(s:Se):Bool:=decide (s.q<0)||(decide (1099511627776<s.q)||((((repE s.c s.n s.m s.T:Nat):Int) !=0)||((s.q==0)&&!zB s.c s.n s.m s.T)))
theorem pzero_any(c n m:Int)(T k:Nat)(A:Option Addr)(w:World):Calls Tryz.prog 205 #[repV c n m (.slice A T k)] w fun e w'=>e=.returned (.bool (zB c n m T))/\Below w.heap.size w w':=by
 have HB:=Lib.hid (show ∀ z,Below w.heap.size w (w.alloc z) from fun z=>(Below.refl w.heap.size w).alloc (by simp) z)
 have hV:zB c n m T=((c==0)&&((n==0)&&((m==0)&&((T:Int)==0)))):=rfl;cases h0:(c==0)<;>cases h1:(n==0)<;>cases h2:(m==0)<;>cases h3:((T:Int)==0)<;>rw[h0,h1,h2,h3] at hV<;>rw[hV]<;>clear hV<;>
 ·go_enter Tryz.func205,Tryz.ntmps205
  go_wp2_with fail;go_ret;exact ⟨rfl,HB.out _⟩
theorem pnone_any(s:Se)(c:Nat)(A:Option Addr)(w:World)(hs:Sl w w.heap.size A s.T c s.f)(hb:∀ j,-9223372036854775808<=repN s.c s.n s.m j/\repN s.c s.n s.m j<9223372036854775808):
  Calls Tryz.prog 166 #[seV s (.slice A s.T c)] w fun e w'=>e=.returned (.bool (noB s))/\Below w.heap.size w w':=by
 obtain ⟨w1,hw1⟩:∃ w1,w1=w.alloc (.cells #[.int .i64 s.id,.int .i64 s.q,.int .i64 s.c,.int .i64 s.n,.int .i64 s.m,.slice A s.T c] 121):=⟨_,rfl⟩;have bw:Below w.heap.size w w1:=by rw[hw1];exact (Below.refl _ _).alloc (by simp) _
 have B1:=Lib.hid bw;have R1:=Lib.hid (show row w1 w.heap.size=some #[.int .i64 s.id,.int .i64 s.q,.int .i64 s.c,.int .i64 s.n,.int .i64 s.m,.slice A s.T c] by rw[hw1];exact zA _ _ _ _ rfl)
 have H1:=Lib.hid (reply_any s.c s.n s.m s.T c A s.f w1 ((hs.below bw).more bw.size) hb);have HN:=Lib.hid (show noB s=(decide (s.q<0)||(decide (1099511627776<s.q)||((((repE s.c s.n s.m s.T:Nat):Int) !=0)||((s.q==0)&&!zB s.c s.n s.m s.T)))) from rfl)
 obtain ⟨N,hN⟩:∃ N,N=noB s:=⟨_,rfl⟩;obtain ⟨E,hE⟩:∃ E,E=repE s.c s.n s.m s.T:=⟨_,rfl⟩;rw[<-hE,<-hN] at HN;rw[<-hE] at H1;rw[<-hN];clear hs hb bw hE hN;go_enter Tryz.func166,Tryz.ntmps166;go_upto_region 1 with fail
 rw[<-hw1];clear hw1;have r1:=R1.out;obtain ⟨a0,a1,a2,a3,a4,a5⟩:=cells6 r1;go_wp2_with fail;refine H1.out.mono ?_;intro e w2 hp
 obtain ⟨V,rfl,hb2⟩:∃ V,e=.returned (.tuple #[V,.int .i64 ((E:Nat):Int)])/\Below w1.heap.size w1 w2:=by
  rcases hp with ⟨-,rfl,hb⟩|⟨rfl,v,rfl,-,hb⟩
  ·exact ⟨_,rfl,hb⟩
  ·exact ⟨v,rfl,hb⟩
 have R2:=Lib.hid (zD hb2 r1);have B2:=Lib.hid (onto B1.out B1.out.size hb2);clear hp hb2 a0 a1 a2 a3 a4 a5 r1 H1 R1 B1;obtain ⟨b1,hb1⟩:∃ b,b=decide (s.q<0):=⟨_,rfl⟩;obtain ⟨b2,hb2⟩:∃ b,b=decide (1099511627776<s.q):=⟨_,rfl⟩;obtain ⟨b3,hb3⟩:∃ b,b=((E:Int) !=0):=⟨_,rfl⟩;obtain ⟨b4,hb4⟩:∃ b,b=(s.q==0):=⟨_,rfl⟩;obtain ⟨b5,hb5⟩:∃ b,b=zB s.c s.n s.m s.T:=⟨_,rfl⟩;rw[<-hb1,<-hb2,<-hb3,<-hb4,<-hb5] at HN;have d1:=hb1.symm;have d2:=hb2.symm;have d3:=hb3.symm;have d4:=hb4.symm;have H5:=fun w=>pzero_any s.c s.n s.m s.T c A w
 rw[<-hb5] at H5;have H5':=Lib.hid H5;clear hb1 hb2 hb3 hb4 hb5 H5;have r2:=R2.out;obtain ⟨a0,a1,a2,a3,a4,a5⟩:=cells6 r2
 cases b1 with
 |true=>
  have HN2:=Lib.hid (show N=true by rw[HN.out];simp)
  clear HN;go_wp2_with fail;go_ret;exact ⟨by rw[HN2.out]<;>rfl,B2.out⟩
 |false=>
  cases b2 with
  |true=>
   have HN2:=Lib.hid (show N=true by rw[HN.out];simp)
   clear HN;go_wp2_with fail;go_ret;exact ⟨by rw[HN2.out]<;>rfl,B2.out⟩
  |false=>
   cases b3 with
   |true=>
    have HN2:=Lib.hid (show N=true by rw[HN.out];simp)
    clear HN;go_wp2_with fail;go_ret;exact ⟨by rw[HN2.out]<;>rfl,B2.out⟩
   |false=>
    cases b4 with
    |false=>
     have HN2:=Lib.hid (show N=false by rw[HN.out];simp)
     clear HN;go_wp2_with fail;go_ret;exact ⟨by rw[HN2.out]<;>rfl,B2.out⟩
    |true=>
     have HN2:=Lib.hid (show N=!b5 by rw[HN.out];simp)
     clear HN;go_wp2_with fail;refine (H5'.out w2).mono ?_;rintro e w4 ⟨rfl,hb⟩;have B4:=Lib.hid (onto B2.out B2.out.size hb);clear hb;go_wp2_with fail;go_ret;exact ⟨by rw[HN2.out]<;>rfl,B4.out⟩
theorem pixs_any(l:List Se)(A:Option Addr)(c:Nat)(w:World)(h:SeRd w A c l)(hl:l.length<=1000000)(hb:∀ s∈l,∀ j,-9223372036854775808<=repN s.c s.n s.m j/\repN s.c s.n s.m j<9223372036854775808):
  Calls Tryz.prog 204 #[.slice A l.length c,.func (.func 166) #[] #[]] w fun e w'=>∃ r:Int,e=.returned (.int .i64 r)/\(((∀ s∈l,noB s=false)/\r=-1)\/((∃ s∈l,noB s=true)/\0<=r))/\Below w.heap.size w w':=by
 have H1:=Lib.hid h;have HB:=Lib.hid hb;have hle:=h.le;obtain ⟨n,hn⟩:∃ n,n=l.length:=⟨_,rfl⟩;have HN:=Lib.hid hn;rw[<-hn] at hle hl ⊢;clear h hb hn;go_enter Tryz.func204,Tryz.ntmps204;go_wp2_with fail;go_loopw [8] (fun iv wr=>∃ i:Nat,i<=n/\iv=.int .i64 i/\Below w.heap.size w wr/\∀ j (hj:j<l.length),j<i->noB l[j]=false) (fun iv _=>n-(intOf iv).toNat)
 case atStart=>exact ⟨0,by omega,rfl,Below.refl _ _,fun j _ hj=>absurd hj (by omega)⟩
 case round=>
  obtain ⟨k,hk,rfl,hb,hall⟩:=hrel;obtain ⟨w1,rfl⟩:∃ w1:World,w1=wr:=⟨_,rfl⟩;have Bo:=Lib.hid hb;have HALL:=Lib.hid hall;clear hb hall
  by_cases hlk:k<n
  ·have hkl:k<l.length:=by have:=HN.out;omega
   have hd:decide ((k:Int)<(n:Int))=true:=by simp;omega
   obtain ⟨g2,o2,V,kk,rfl,f2⟩:=H1.out.seat hkl;obtain ⟨x,hx⟩:∃ x,x=l[k]:=⟨_,rfl⟩;have f3:=f2 w1 Bo.out;have hbx:=HB.out l[k] (List.getElem_mem hkl);rw[<-hx] at f3 hbx;have q2:=f3.2.2.2.1;have HC:=Lib.hid (pnone_any x kk V w1 f3.2.2.2.2 hbx);have HX:=Lib.hid hx;obtain ⟨b,hbv⟩:∃ b,b=noB x:=⟨_,rfl⟩;rw[<-hbv] at HC;have HV:=Lib.hid hbv;clear hx hbv f2 f3 hbx;go_wp2_with fail;refine HC.out.mono ?_;rintro e w2 ⟨rfl,hb2⟩;have B2:=Lib.hid (onto Bo.out Bo.out.size hb2);clear HC hb2 q2
   cases b with
   |false=>
    go_wp2_with fail;go_roundw
    case rel=>exact ⟨k+1,by omega,by go_num,B2.out,fun j hj hjk=>by
     by_cases hjk2:j<k
     ·exact HALL.out j hj hjk2
     ·obtain rfl:j=k:=by omega
      rw[<-HX.out];exact HV.out.symm⟩
    case measure=>simp[intOf];omega
   |true=>
    go_wp2_with fail;go_ret;exact ⟨_,rfl,.inr ⟨⟨l[k],List.getElem_mem hkl,by rw[<-HX.out];exact HV.out.symm⟩,by omega⟩,B2.out⟩
  ·obtain rfl:k=n:=by omega
   have hd:decide ((k:Int)<(k:Int))=false:=by simp
   go_wp2_with fail;go_ret
   exact ⟨_,rfl,.inl ⟨fun s hs=>by
    obtain ⟨i,hi,rfl⟩:=List.getElem_of_mem hs
    exact HALL.out i hi (by have:=HN.out;omega),rfl⟩,Bo.out⟩
theorem pcts_any(l:List Se)(A:Option Addr)(c:Nat)(w:World)(h:SeRd w A c l)(hl:l.length<=1000000)(hb:∀ s∈l,∀ j,-9223372036854775808<=repN s.c s.n s.m j/\repN s.c s.n s.m j<9223372036854775808):
  Calls Tryz.prog 165 #[.slice A l.length c,.func (.func 166) #[] #[]] w fun e w'=>∃ b:Bool,e=.returned (.bool b)/\(b=true↔∃ s∈l,noB s=true)/\Below w.heap.size w w':=by
 have H1:=Lib.hid (pixs_any l A c w h hl hb);clear h hb;go_enter Tryz.func165,Tryz.ntmps165;go_wp2_with fail;refine H1.out.mono ?_;rintro e w1 ⟨r,rfl,h,hb1⟩;have B1:=Lib.hid hb1;clear H1 hb1;rcases h with ⟨h1,rfl⟩|⟨h1,h2⟩
 ·have HQ:=Lib.hid h1
  clear h1;go_wp2_with fail;go_ret;exact ⟨_,rfl,⟨fun h=>(by simp at h),fun ⟨s,hs,e⟩=>(by rw[HQ.out s hs] at e;cases e)⟩,B1.out⟩
 ·have hd:decide (0<=r)=true:=by simp;omega
  have HQ:=Lib.hid h1;clear h1 h2;go_wp2_with fail;go_ret;exact ⟨_,rfl,⟨fun _=>HQ.out,fun _=>rfl⟩,B1.out⟩
def lst(l:List Se)(i:Nat):Int:=if h:0<i/\i-1<l.length then (l[i-1]).id else 0
theorem lst_0(l:List Se):lst l 0=0:=by unfold lst;rw[dif_neg (by omega)]
theorem lst_s(l:List Se)(i:Nat)(h:i<l.length):lst l (i+1)=(l[i]).id:=by unfold lst;rw[dif_pos ⟨by omega,by omega⟩];rfl
theorem pord_any(l:List Se)(A:Option Addr)(c:Nat)(next:Int)(w:World)(h:SeRd w A c l)(hl:l.length<=1000000):
  Calls Tryz.prog 164 #[.slice A l.length c,.int .i64 next] w fun e w'=>∃ b:Bool,e=.returned (.bool b)/\(b=true↔(∀ i,i<l.length->lst l i<lst l (i+1))/\lst l l.length<next)/\Below w.heap.size w w':=by
 have H1:=Lib.hid h;have hle:=h.le;obtain ⟨n,hn⟩:∃ n,n=l.length:=⟨_,rfl⟩;have HN:=Lib.hid hn;rw[<-hn] at hle hl ⊢;clear h hn;go_enter Tryz.func164,Tryz.ntmps164;go_wp2_with fail;go_loopw [5,10] (fun lv iv wr=>∃ i:Nat,i<=n/\iv=.int .i64 i/\lv=.int .i64 (lst l i)/\Below w.heap.size w wr/\∀ j,j<i->lst l j<lst l (j+1)) (fun _ iv _=>n-(intOf iv).toNat)
 case atStart=>exact ⟨0,by omega,rfl,by rw[lst_0],Below.refl _ _,fun j hj=>absurd hj (by omega)⟩
 case round=>
  obtain ⟨k,hk,rfl,rfl,hb,hall⟩:=hrel;obtain ⟨w1,rfl⟩:∃ w1:World,w1=wr:=⟨_,rfl⟩;have Bo:=Lib.hid hb;have HALL:=Lib.hid hall;clear hb hall;obtain ⟨la,hla⟩:∃ la,la=lst l k:=⟨_,rfl⟩;rw[<-hla];have HLA:=Lib.hid hla;clear hla
  by_cases hlk:k<n
  ·have hkl:k<l.length:=by have:=HN.out;omega
   have hd:decide ((k:Int)<(n:Int))=true:=by simp;omega
   have hw:IntKind.i64.wrap ((k:Int)+1)=(k:Int)+1:=IntWalk.i64_in _ (by omega)
   obtain ⟨g2,o2,V,kk,rfl,f2⟩:=H1.out.seat hkl;obtain ⟨x,hx⟩:∃ x,x=l[k]:=⟨_,rfl⟩;have f3:=f2 w1 Bo.out;rw[<-hx] at f3;have q2:=f3.2.2.2.1;have HX:=Lib.hid (show lst l (k+1)=x.id by rw[lst_s l k hkl,hx])
   obtain ⟨w2,hw2⟩:∃ w2,w2=w1.alloc (.cells #[.int .i64 x.id,.int .i64 x.q,.int .i64 x.c,.int .i64 x.n,.int .i64 x.m,.slice V x.T kk] 121):=⟨_,rfl⟩;have B2:=Lib.hid (show Below w.heap.size w w2 by rw[hw2];exact Bo.out.alloc Bo.out.size _)
   have R2:=Lib.hid (show row w2 w1.heap.size=some #[.int .i64 x.id,.int .i64 x.q,.int .i64 x.c,.int .i64 x.n,.int .i64 x.m,.slice V x.T kk] by rw[hw2];exact zA _ _ _ _ rfl)
   clear hx f2 f3;go_upto_region 5 with fail
   rw[<-hw2];clear hw2 q2;obtain ⟨a0,a1,a2,a3,a4,a5⟩:=cells6 R2.out
   by_cases hlt:x.id<=la
   ·have d2:decide (x.id<=la)=true:=decide_eq_true hlt
    have HF:=Lib.hid (show ¬ (∀ i,i<n->lst l i<lst l (i+1)) from fun h=>by have:=h k hlk;rw[HX.out,<-HLA.out] at this;omega)
    clear hlt;go_wp2_with fail;go_ret;exact ⟨_,rfl,⟨fun h=>(by cases h),fun h=>absurd h.1 HF.out⟩,B2.out⟩
   ·have d2:decide (x.id<=la)=false:=decide_eq_false hlt
    have HF:=Lib.hid (show lst l k<lst l (k+1) by rw[HX.out,<-HLA.out];omega)
    clear hlt;go_wp2_with fail;refine ⟨⟨k+1,by omega,by rw[Int.natCast_succ],by rw[HX.out],B2.out,fun j hj=>?_⟩,?_⟩
    ·by_cases hjk:j<k
     ·exact HALL.out j hjk
     ·obtain rfl:j=k:=by omega
      exact HF.out
    ·simp only[intOf]
     omega
  ·obtain rfl:k=n:=by omega
   have hd:decide ((k:Int)<(k:Int))=false:=by simp
   go_wp2_with fail;go_ret;exact ⟨_,rfl,⟨fun h=>⟨HALL.out,by rw[<-HLA.out];exact of_decide_eq_true h⟩,fun h=>decide_eq_true (by rw[HLA.out];exact h.2)⟩,Bo.out⟩
structure OfOk(l:List Se)(n:Int):Prop where
 n0:1<=n
 n1:n<=1099511627776
 len:l.length<=8
 up:∀ i,i<l.length->lst l i<lst l (i+1)
 last:lst l l.length<n
 no:∀ s∈l,noB s=false
theorem lst_mono{l:List Se}(h:∀ i,i<l.length->lst l i<lst l (i+1)):∀ d i,i+d<=l.length->lst l i<=lst l (i+d)
 |0,i,_=>Int.le_refl _
 |d+1,i,hd=>by
  have:=lst_mono h d i (by omega)
  have:=h (i+d) (by omega)
  rw[show i+(d+1)=i+d+1 by omega]
  omega
theorem OfOk.ok{l:List Se}{n:Int}(h:OfOk l n)(ht:∀ s∈l,s.T<=140737488355328):SsOk l (n-1):=by
 have:=h.n0;have:=h.n1;refine ⟨List.pairwise_iff_getElem.2 fun i j hi hj hij=>?_,fun s hs=>?_,h.len,by omega,by omega,ht⟩
 ·have a:=lst_mono h.up (j-(i+1)) (i+1) (by omega)
  have b:=h.up j hj;rw[show i+1+(j-(i+1))=j by omega,lst_s l i hi] at a
  rw[lst_s l j hj] at b;omega
 ·obtain ⟨i,hi,rfl⟩:=List.getElem_of_mem hs
  have a:=lst_mono h.up i 0 (by omega)
  have b:=h.up i hi;have c:=lst_mono h.up (l.length-(i+1)) (i+1) (by omega)
  have d:=h.last;rw[show i+1+(l.length-(i+1))=l.length by omega] at c
  rw[Nat.zero_add,lst_0] at a;rw[lst_s l i hi] at b c;omega
abbrev SeB(l:List Se):Prop:=∀ s∈l,i64B s.id/\i64B s.q/\i64B s.c/\i64B s.n/\i64B s.m/\s.T<=140737488351232
theorem st_b1(x:Int)(w:World):(Instr.build 81 #[(1,.int .i64 x)]).run Tryz.prog w=.ok (.agg #[.map none,.int .i64 x]) w:=by kernel_rfl
theorem pof15_any(T:Mk)(t tg:Nat)(A:Option Addr)(c:Nat)(l:List Se)(n:Int)(w:World)(hE:ElAt 6 seEl T w tg A c l)(ht:0<t)(h1:tg≠t)(h2:tg≠t+1)(hl:l.length<1000)(hb:SeB l):
  Calls Tryz.prog 117 #[.slice A l.length c,.int .i64 n] w fun e w'=>∃ T',Fr T T' (H2 t) w w'/\((OfOk l n/\∃ B mv,e=.returned (.tuple #[.pointer (some ⟨B,0,none⟩),.int .i64 0])/\PtAt T' w' t B 0 #[] mv l (n-1))\/(¬ OfOk l n/\e=.returned (.tuple #[.pointer none,.int .i64 1]))):=by
 have HE:=Lib.hid hE;have HB:=Lib.hid hb;have hle:=hE.le;have HR:=Lib.hid (show ∀ s∈l,∀ j,-9223372036854775808<=repN s.c s.n s.m j/\repN s.c s.n s.m j<9223372036854775808 from fun s hs=>repN_bd (hb s hs).2.2.1 (hb s hs).2.2.2.1 (hb s hs).2.2.2.2.1)
 have S0:=hE.serd;obtain ⟨P,hP⟩:∃ P:Ending->World->Prop,P=fun e w'=>∃ T',Fr T T' (H2 t) w w'/\((OfOk l n/\∃ B mv,e=.returned (.tuple #[.pointer (some ⟨B,0,none⟩),.int .i64 0])/\PtAt T' w' t B 0 #[] mv l (n-1))\/(¬ OfOk l n/\e=.returned (.tuple #[.pointer none,.int .i64 1]))):=⟨_,rfl⟩
 have HNO:=Lib.hid (show ¬ OfOk l n->∀ w2,Below w.heap.size w w2->P (.returned (.tuple #[.pointer none,.int .i64 1])) w2 from fun hk w2 hb2=>by rw[hP];exact ⟨paint T w.heap.size 0,Fr.new hb2 0,.inr ⟨hk,rfl⟩⟩)
 rw[<-hP];have HP:=Lib.hid hP;clear hE hb hP;go_enter Tryz.func117,Tryz.ntmps117;go_upto_region 1 with fail
 have B1:=Lib.hid (Below.refl w.heap.size w);have S1:=Lib.hid S0;clear S0;have HO:=Lib.hid (pord_any l A c n w S1.out (by omega))
 by_cases d1:n<1
 ·have e1:decide (n<1)=true:=decide_eq_true d1
  have HF:=Lib.hid (HNO.out (fun h=>by have:=h.n0;omega))
  clear d1;go_wp2_with fail;exact HF.out _ B1.out
 have e1:decide (n<1)=false:=decide_eq_false d1
 by_cases d2:1099511627776<n
 ·have e2:decide (1099511627776<n)=true:=decide_eq_true d2
  have HF:=Lib.hid (HNO.out (fun h=>by have:=h.n1;omega))
  clear d1 d2;go_wp2_with fail;exact HF.out _ B1.out
 have e2:decide (1099511627776<n)=false:=decide_eq_false d2
 by_cases d3:8<l.length
 ·have e3:decide (8<(l.length:Int))=true:=decide_eq_true (by omega)
  have HF:=Lib.hid (HNO.out (fun h=>by have:=h.len;omega))
  clear d1 d2 d3;go_wp2_with fail;exact HF.out _ B1.out
 have e3:decide (8<(l.length:Int))=false:=decide_eq_false (by omega)
 have HL:=Lib.hid (show 1<=n/\n<=1099511627776/\l.length<=8 from ⟨by omega,by omega,by omega⟩)
 clear d1 d2 d3;go_wp2_with fail;refine HO.out.mono ?_;rintro e w2 ⟨b,rfl,hbo,hb2⟩;have B2:=Lib.hid (onto B1.out B1.out.size hb2);have S2:=Lib.hid (S1.out.below hb2);have HBO:=Lib.hid hbo;have HC:=Lib.hid (pcts_any l A c w2 S2.out (by omega) HR.out)
 clear hbo HO S1 B1
 cases b with
 |false=>
  have HF:=Lib.hid (HNO.out (fun h=>by have:=HBO.out.2 ⟨h.up,h.last⟩;cases this))
  clear hb2;go_wp2_with fail;exact HF.out _ B2.out
 |true=>
  clear hb2;go_wp2_with fail;refine HC.out.mono ?_;rintro e w3 ⟨b,rfl,hbc,hb3⟩;have B3:=Lib.hid (onto B2.out B2.out.size hb3);have HBC:=Lib.hid hbc;clear hbc HC S2 B2
  cases b with
  |true=>
   have HF:=Lib.hid (HNO.out (fun h=>by obtain ⟨s,hs,e⟩:=HBC.out.1 rfl;rw[h.no s hs] at e;cases e))
   clear hb3;go_wp2_with fail;exact HF.out _ B3.out
  |false=>
   have HK:=Lib.hid (show OfOk l n from ⟨HL.out.1,HL.out.2.1,HL.out.2.2,(HBO.out.1 (by simp)).1,(HBO.out.1 (by simp)).2,fun s hs=>by
    cases e:noB s with
    |false=>rfl
    |true=>have:=HBC.out.2 ⟨s,hs,e⟩;cases this⟩)
   have hn0:=HL.out.1;have hn1:=HL.out.2.1;have hwn:IntKind.i64.wrap (n-1)=n-1:=IntWalk.i64_in _ (by omega)
   have bd1:=fun w=>st_b1 (n-1) w
   obtain ⟨w4,hw4⟩:∃ w4,w4=w3.alloc (.cells #[.map none,.int .i64 (n-1)] 81):=⟨_,rfl⟩;have b4:Below w3.heap.size w3 w4:=by rw[hw4];exact (Below.refl _ _).alloc (Nat.le_refl _) _
   have r4:row w4 w3.heap.size=some #[.map none,.int .i64 (n-1)]:=by rw[hw4];exact zA _ _ _ _ rfl
   have E3:=HE.out.fr yL (Fr.new (T:=T) (H:=fun _=>False) B3.out 0) (fun h=>h) (fun h=>h)
   have F3:=Fr.new (T:=T) (H:=H2 t) B3.out 0;obtain ⟨T3,hT3⟩:∃ T3,T3=paint T w.heap.size 0:=⟨_,rfl⟩;rw[<-hT3] at E3 F3;have E4:=Lib.hid (E3.fr yL (Fr.new (H:=fun _=>False) b4 t) (fun h=>h) (fun h=>h))
   have F4:=Lib.hid (F3.trans (Fr.new (T:=T3) (H:=H2 t) b4 t));have P4:=Lib.hid (show PtAt (paint T3 w3.heap.size t) w4 t w3.heap.size 0 #[] none [] (n-1) from ⟨by rw[mtC_nil];exact r4,zP (Nat.le_refl _),.inl ⟨rfl,rfl⟩,rfl⟩)
   obtain ⟨T4,hT4⟩:∃ T4,T4=paint T3 w3.heap.size t:=⟨_,rfl⟩;rw[<-hT4] at E4 F4 P4;obtain ⟨B,hBe⟩:∃ B,B=w3.heap.size:=⟨_,rfl⟩;rw[<-hBe] at P4;have HBE:=Lib.hid hBe;clear b4 r4 E3 F3 hT3 hT4 hBe HE HNO HBO HBC B3;clear hb3;go_upto_region 4 with fail
   rw[<-hw4,<-HBE.out];clear hw4;go_wp2_with fail;go_loopw [36] (fun iv wr=>∃ (j:Nat) (T1:Mk) (mv:Option Nat),j<=l.length/\iv=.int .i64 (j:Int)/\Fr T4 T1 (H2 t) w4 wr/\PtAt T1 wr t B 0 #[] mv (l.take j) (n-1)) (fun iv _=>l.length-(intOf iv).toNat)
   case atStart=>exact ⟨0,T4,none,by omega,rfl,Fr.refl _ _ _,P4.out⟩
   case round=>
    obtain ⟨j,T1,mv,hj,rfl,hf,hp⟩:=hrel;obtain ⟨wo,rfl⟩:∃ wo:World,wo=wr:=⟨_,rfl⟩;have HF:=Lib.hid hf;have HPT:=Lib.hid hp;have E5:=Lib.hid (E4.out.fr yL hf (by unfold H2;omega) (by unfold H2;omega))
    clear hf hp
    by_cases hlt:j<l.length
    ·have hd:decide ((j:Int)<(l.length:Int))=true:=by simp;omega
     have hw:IntKind.i64.wrap ((j:Int)+1)=(j:Int)+1:=IntWalk.i64_in _ (by omega)
     obtain ⟨gk,ok,cur,V,kk,rfl,hr,-,-,hrd,-,-,-,q⟩:=E5.out.seat hlt;have q2:=q Tryz.prog 121;rw[<-hr] at q2;obtain ⟨x,hx⟩:∃ x,x=l[j]:=⟨_,rfl⟩;rw[<-hx] at q2 hrd;have hmem:x∈l:=by rw[hx];exact List.getElem_mem hlt
     have hxb:=HB.out x hmem;obtain ⟨w5,hw5⟩:∃ w5,w5=wo.alloc (.cells #[.int .i64 x.id,.int .i64 x.q,.int .i64 x.c,.int .i64 x.n,.int .i64 x.m,.slice V x.T kk] 121):=⟨_,rfl⟩;have b5:Below wo.heap.size wo w5:=by rw[hw5];exact (Below.refl _ _).alloc (Nat.le_refl _) _
     have R5:=Lib.hid (show row w5 wo.heap.size=some #[.int .i64 x.id,.int .i64 x.q,.int .i64 x.c,.int .i64 x.n,.int .i64 x.m,.slice V x.T kk] by rw[hw5];exact zA _ _ _ _ rfl)
     have F5:=Lib.hid (HF.out.trans (Fr.new (T:=T1) (H:=H2 t) b5 0));have P5:=HPT.out.fr (Fr.new (H:=fun _=>False) b5 0) (fun h=>h) (fun h=>h) (fun h=>h)
     have D5:=hrd.fr (Fr.new (H:=fun _=>False) b5 0) (fun h=>h)
     have hno:ssH (l.take j) x.id=false:=by
      have hpw:=(HK.out.ok fun s hs=>by have:=(HB.out s hs).2.2.2.2.2;omega).up
      cases e:ssH (l.take j) x.id with
      |false=>rfl
      |true=>
       unfold ssH at e;obtain ⟨y,hy,he⟩:=List.any_eq_true.1 e;obtain ⟨i,hi,rfl⟩:=List.getElem_of_mem hy;have hij:i<j:=by rw[List.length_take] at hi;omega
       have h5:=List.pairwise_iff_getElem.1 hpw i j (by omega) hlt hij
       rw[List.getElem_take] at he;have h6:(l[i]).id=x.id:=by simpa using he
       rw[<-hx] at h5;omega
     have htk:l.take (j+1)=l.take j++[x]:=by rw[hx];exact (List.take_append_getElem hlt).symm
     have HC:=Lib.hid (keep_any (paint T1 wo.heap.size 0) t B mv (l.take j) (l.take (j+1)) (n-1) x V kk w5 P5 ht hxb.1 D5 (by unfold H2;omega) (by omega) (by rw[List.length_take];omega)
      (fun j2=>by rw[htk];exact ssH_app _ _ _) (fun j2 s2 hs2=>by rw[htk] at hs2;exact ssG_app hno hs2) (by rw[hno,htk];simp))
     clear hx hmem hxb b5 P5 D5 hno htk hrd hr q HPT HF;go_upto_region 7 with fail
     rw[<-hw5];clear hw5 q2;have r5:=R5.out;obtain ⟨a0,a1,a2,a3,a4,a5⟩:=cells6 r5;go_wp2_with fail;refine HC.out.mono ?_;rintro e w6 ⟨rfl,T6,mv6,hF6,hP6⟩;have F6:=Lib.hid (F5.out.trans hF6);have P6:=Lib.hid hP6;clear hF6 hP6 F5 HC a0 a1 a2 a3 a4 a5 r5 R5;go_wp2_with fail;refine ⟨⟨j+1,T6,mv6,by omega,by rw[Int.natCast_succ],F6.out,P6.out⟩,?_⟩
     simp only[intOf];omega
    ·obtain rfl:j=l.length:=by omega
     have hd:decide ((l.length:Int)<(l.length:Int))=false:=by simp
     have P9:=HPT.out;rw[List.take_length] at P9;have HP9:=Lib.hid P9;clear P9 HPT;go_wp2_with fail;rw[HP.out];exact ⟨T1,F4.out.trans HF.out,.inl ⟨HK.out,B,mv,rfl,HP9.out⟩⟩
theorem repS_zero(c n m:Int)(T:Nat)(f g:Bf):repS c n m 0 0 0 T 0 f g=zB c n m T:=by
 have h:teqB T 0 f g=((T:Int)==0):=by
  rw[Bool.eq_iff_iff,teq_iff,beq_iff_eq];exact ⟨fun h=>by omega,fun h=>⟨by omega,fun i hi=>by omega⟩⟩
 unfold repS zB;rw[h]
theorem rt_b2(A:Option Addr)(k c:Nat)(x:Int)(w:World):(Instr.build 111 #[(0,.slice A k c),(1,.int .i64 x)]).run Tryz.prog w=.ok (.agg #[.slice A k c,.int .i64 x]) w:=by kernel_rfl
end Go.Proofs.YteffjpdcghlnlaaGreatDoor.Oct
