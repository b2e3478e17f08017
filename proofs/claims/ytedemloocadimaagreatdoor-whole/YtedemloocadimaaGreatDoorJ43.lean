import Derived.Test.YtedemloocadimaaGreatDoorJ42
import Derived.Test.YtedemloocadimaaGreatDoorJ24
import Derived.Laws.CopyOwn
import Derived.WideShapes
namespace Go.Proofs.YtedemloocadimaaGreatDoor
open Go.RowKit
set_option maxHeartbeats 8000000
set_option maxRecDepth 100000
theorem Tryz.infoEv:(Tryz.prog.info? 363).map (fun i=>(i.zero,i.size,i.bytes))=some (some (.agg #[.int .i64 0,.slice none 0 0]),2,32):=by kernel_rfl
theorem Tryz.infoU64s:(Tryz.prog.info? 50).map (·.size)=some 1:=by kernel_rfl
theorem Zvn (sc:List Int)(n:Nat):splice (uC (List.replicate n 0)) 0 (uC (sc.take n))=uC (Lm sc n):=by
 refine List.ext_getElem (by simp [splice,uC,Lm]; omega) fun k h1 h2=>?_;have hk:k<n:=by simpa [uC,Lm] using h2
 by_cases hs:k<sc.length
 ·
  have hm:k<min n sc.length:=by omega
  simp [splice,uC,Lm,List.getD,hs,hm]
 ·
  have hm:¬ k<min n sc.length:=by omega
  simp [splice,uC,Lm,List.getElem_append,List.getD,hs,hm]
theorem Zzy {w:World}{x:Addr}{c m n:Nat}{sc:List Int}(h:Cg w (.slice (some x) sc.length c) sc)(hm:m=min n sc.length):Cg w (.slice (if c=m then some x else some (x.add m)) (sc.length-m) (c-m)) (sc.drop n):=by
 have hd:sc.drop n=sc.drop m:=by
  by_cases hn:n≤sc.length
  ·
   rw [hm,Nat.min_eq_left hn]
  ·
   rw [hm,Nat.min_eq_right (by omega),List.drop_of_length_le (by omega),List.drop_of_length_le (Nat.le_refl _)]
 rw [hd,← List.length_drop];by_cases h0:sc.length=0
 ·
  have hnil:sc=[]:=List.eq_nil_of_length_eq_zero h0;subst hnil;rw [List.drop_nil];exact⟨_,_,rfl,Nat.zero_le _,by decide,fun h=>absurd h (by decide)⟩
 ·
  have h':=h;obtain⟨p,c',e,-,-,h4⟩:=h';injection e with e1 e2 e3;obtain⟨sb,so,e4,-⟩:=h4 (by omega);rw [← e1] at e4;injection e4 with e4;subst e4;have:=Zdi h (j:=m) (by omega);rw [Go.WideShapes.add_plain];exact this
theorem Zvo (tr:List (Int×List Int))(es:List Value)(F:Int)(ws:List Int)(wv:Value)(h:es.length=tr.length):evC ((tr++[(F,ws)]).map (·.1)) (es++[wv])=evC (tr.map (·.1)) es++[.int .i64 F,wv]:=by
 unfold evC;rw [List.map_append,List.zip_append (by simp [h])];simp
theorem Ja.event {w0 V V2 V3:World}{rb b:Nat}{st:List Us}{frv tv tv' wv:Value}{tr:List (Int×List Int)}{es:List Value}{F:Int}{ws:List Int}(h:Ja w0 V rb b st frv tv tr es)(hrow:∃ cs,V.heap[rb]?=some (.cells cs 182 (0,0)))(hb:Below V.heap.size V V2)(hwv:V2.ownsRow V.heap.size 50 1 wv ws.length (uC ws))(hg:V2.grownBy V3 tv.ownBlock)
 (ho:V3.ownsRow b 363 2 tv' (tr.length+1) (evC (tr.map (·.1)) es++[.int .i64 F,wv])) (hblk:∀ g,tv'.ownBlock=some g→tv.ownBlock=some g∨V2.heap.size≤g) (j:Nat) (u:Value) :
 Ja w0 (V3.setCell ⟨rb,j,none⟩ u) rb b st frv tv' (tr++[(F,ws)]) (es++[wv])∧Below b V (V3.setCell ⟨rb,j,none⟩ u):=by
 obtain⟨cs,hrow⟩:=hrow;have hw:=h.w0b;have hr:=h.rbb;have hrl:=Zk hrow;have hz:=hb.size;have hgz:=hg.size;have hfb:∀ g,tv.ownBlock=some g→b≤g∧g<V.heap.size:=h.tr.row.lt;have hsame:∀ g,g<V2.heap.size→tv.ownBlock≠some g→g≠rb→(V3.setCell ⟨rb,j,none⟩ u).heap[g]?=V2.heap[g]?:=fun g h1 h2 h3=>(heap_setCell_other _ _ _ _ h3).trans (hg.block g h1 (fun e=>h2 e.symm));have hsame0:∀ g,g<V.heap.size→tv.ownBlock≠some g→g≠rb→(V3.setCell ⟨rb,j,none⟩ u).heap[g]?=V.heap[g]?:=fun g h1 h2 h3=>(hsame g (by omega) h2 h3).trans (hb.block g h1);have hsz:(V3.setCell ⟨rb,j,none⟩ u).heap.size=V3.heap.size:=by simp
 have hB:Below b V (V3.setCell ⟨rb,j,none⟩ u):=⟨hg.os.trans hb.os,hg.tape.trans hb.tape,hg.output.trans hb.output,by rw [hsz]; omega,fun g hg'=>hsame0 g (by omega) (fun e=>by have:=(hfb g e).1; omega) (by omega)⟩;have hnt:∀ g cs' t,V.heap[g]?=some (.cells cs' t (0,0))→t≠363→tv.ownBlock≠some g:=fun g cs' t hr' ht e=>by
  obtain⟨cs2,hr2⟩:=Dp h.tr.row e;exact Gx hr2 hr' (fun e=>ht e.symm) rfl
 refine⟨⟨⟨hB.os.trans h.low.os,hB.tape.trans h.low.tape,hB.output.trans h.low.output,Nat.le_trans h.low.size hB.size,fun g hg'=>(hB.block g (by omega)).trans (h.low.block g hg')⟩,hw,hr,fun v hv=>?_,h.ord,Lb h.fr fun g hg'=>?_,h.fro,⟨by simp [h.tr.len],?_,fun g hg'=>?_,fun k hk=>?_⟩⟩,hB⟩
 ·
  have k:=h.stk v hv;exact⟨Dm k.1 (fun g g1 g2=>hsame0 g (Nat.lt_of_lt_of_le g2 k.1.hs) (fun e=>by rcases(h.tr.out g e).1 v hv with h' | h' <;> omega) (by omega)) (by rw [hsz]; omega),k.2⟩
 ·
  obtain⟨cs2,hr2⟩:=Dp h.fr hg';exact hsame0 g (Zk hr2) (hnt g cs2 _ hr2 (by decide)) (Gx hr2 hrow (by decide))
 ·
  have ho2:=Lb (V':=V3.setCell ⟨rb,j,none⟩ u) ho fun g hg'=>heap_setCell_other _ _ _ _ (by
   rcases hblk g hg' with e | e
   ·
    exact(h.tr.out g e).2
   ·
    show g≠rb; omega)
  rw [Zvo _ _ _ _ _ h.tr.len,List.length_append];exact ho2
 ·
  rcases hblk g hg' with e | e
  ·
   exact h.tr.out g e
  ·
   exact⟨fun v hv=>Or.inr (by have:=(h.stk v hv).1.hs; omega),by omega⟩
 ·
  by_cases hk2:k<tr.length
  ·
   have e1:(es++[wv]).getD k .nilIface=es.getD k .nilIface:=by
    have:k<es.length:=by rw [h.tr.len]; exact hk2
    simp [List.getD,List.getElem?_append_left this]
   have e2:(tr++[(F,ws)]).getD k (0,[])=tr.getD k (0,[]):=by simp [List.getD,List.getElem?_append_left hk2]
   rw [e1,e2];refine⟨Lb (h.tr.each k hk2).1 fun g hg'=>?_,(h.tr.each k hk2).2⟩;obtain⟨cs2,hr2⟩:=Dp (h.tr.each k hk2).1 hg';exact hsame0 g (Zk hr2) (hnt g cs2 _ hr2 (by decide)) (Gx hr2 hrow (by decide))
  ·
   have hkk:k=tr.length:=by simp at hk; omega
   subst hkk;have e1:(es++[wv]).getD tr.length .nilIface=wv:=by rw [← h.tr.len]; simp [List.getD]
   have e2:(tr++[(F,ws)]).getD tr.length (0,[])=(F,ws):=by simp [List.getD]
   rw [e1,e2];have hlt:=hwv.lt;refine⟨Kt (B:=V.heap.size) (Lb hwv fun g hg'=>hsame g (hlt g hg').2 (fun e=>by have:=(hfb g e).2; have:=(hlt g hg').1; omega) (by have:=(hlt g hg').1; omega)) (by omega),fun g hg'=>⟨fun v hv=>Or.inr (by have:=(h.stk v hv).1.hs; have:=(hlt g hg').1; omega),by have:=(hlt g hg').1; omega⟩⟩
theorem Ygb (w0 w:World)(rb b:Nat)(f:Us)(R:List Us)(frv fv vv:Value)(tp sp ap op:Option Addr)(tc scc ac oc:Nat)(tr:List (Int×List Int))(es:List Value)(sc:List Int)(kind steps op_ d_ a_ b_ n_ F:Int)(args:List (Int×Int))(outs:List Int)(hS:Ja w0 w rb b (f :: R) frv (.slice tp tr.length tc) tr es)(hrow:Ni w rb fv (.slice sp sc.length scc) frv kind vv (.slice tp tr.length tc) steps)(hsc:Cg w0 (.slice sp sc.length scc) sc)
 (hok:IOk f.x) (hla:LS 2 w0 (.slice ap args.length ac) args.length (fun k=>Me (args.getD k (0,0)))) (hlo:Li w0 (.slice op outs.length oc) outs) (han:args.length≤100) (hA:∀ k,k<args.length→Zbx f.x (args.getD k (0,0))) (hsl:∀ l ∈ f.x.s,l.length≤65536) (hon:outs.length≤4) (hin:∀ k,k<outs.length→0≤outs.getD k 0∧outs.getD k 0<f.x.v.length) (htl:tr.length≤100000) :
 Calls Tryz.prog 169 #[.pointer (some ⟨rb,0,none⟩),.pointer (some ⟨f.q,0,none⟩),.agg #[.int .i64 op_,.int .i64 d_,.int .i64 a_,.int .i64 b_,.int .u64 n_,.int .i64 F,.slice ap args.length ac,.slice op outs.length oc]] w fun e w'=>(∃ v,e=.returned v)∧∃ tp' tc' sp' sc' wv,Ni w' rb fv (.slice sp' (sc.drop outs.length).length sc') frv kind vv (.slice tp' (tr.length+1) tc') steps∧Cg w0 (.slice sp' (sc.drop outs.length).length sc') (sc.drop outs.length)∧Ja w0 w' rb b ({ f with x:={ f.x with v:=Ot f.x.v outs (Lm sc outs.length) } } :: R) frv (.slice tp' (tr.length+1) tc') (tr++[(F,Xw f.x args)]) (es++[wv])∧Below b w w':=by
 obtain⟨ti,hti,hty0,hty1,hty2⟩:=Sh Tryz.infoEv;obtain⟨r0,hb0,hz0⟩:=Gk w (.cells #[.int .i64 op_,.int .i64 d_,.int .i64 a_,.int .i64 b_,.int .u64 n_,.int .i64 F,.slice ap args.length ac,.slice op outs.length oc] 89 (0,0));have hrl:=Zk hrow;have HROW:=Za ((hb0.block rb hrl).trans hrow);have HS:=Za (hS.grow hb0);have hrbb:=hS.rbb;have hbw:b≤w.heap.size:=by omega
 have HIR:=Za r0;have HB0:=Za hb0;have HSC:=Za hsc;have HLO:=Za hlo;have HIN:=Za hin;have HHI:=Za (hS.stk f List.mem_cons_self).1.hs;have HLA:=Za hla;have HA:=Za hA;have HMK:=fun V=>mkU outs.length (by omega) V;clear r0 hb0 hS hrow hsc hlo hin hla hA;go_enter Tryz.func169,Tryz.ntmps169
 go_upto_region 1 with fail
 generalize World.alloc w _=W at HROW HS HIR HB0 hz0 ⊢;have HCK:=Za (fun(V:World) (hb:Below W.heap.size W V)=>show(fun V=>V.cell? ⟨rb,6,none⟩=some (.slice tp tr.length tc)∧V.cell? ⟨w.heap.size,5,none⟩=some (.int .i64 F)∧V.cell? ⟨w.heap.size,6,none⟩=some (.slice ap args.length ac)) V from by
  have hr:=(hb.block rb (Zk (J HROW))).trans (J HROW);have hi:=(hb.block _ (Zk (J HIR))).trans (J HIR);exact⟨(cR hr 6),(cR hi 5),(cR hi 6)⟩)
 have HC0:=Za (J HCK W.drew (Below.refl _ _).drew);have HWD:=Za (Zgu w0 f.x f.q f.lo f.hi f.lg f.bp f.sp f.op f.bc f.sc f.oc f.gs f.B args ap ac W.drew (Yv ((J HS).stk f List.mem_cons_self).1 (Below.refl _ _).drew) hok (J HS).low.drew (J HLA) han (J HA) hsl);have hbW:b≤W.heap.size:=by omega
 clear HLA HA hok hsl;refine Rb (C:=fun V=>V.cell? ⟨rb,6,none⟩=some (.slice tp tr.length tc)∧V.cell? ⟨w.heap.size,5,none⟩=some (.int .i64 F)∧V.cell? ⟨w.heap.size,6,none⟩=some (.slice ap args.length ac)) (d:=18) (by kernel_rfl) ?_;refine uT 0 (J HC0) ?_;refine uT 1 (J HC0) ?_;refine uT 2 (J HC0) ?_;refine uT 3 (J HC0) ?_;refine uT 4 (J HC0) ?_;refine uT 5 (J HC0) ?_;refine uT 6 (J HC0) ?_;refine uT 7 (J HC0) ?_;refine uT 8 (J HC0) ?_;refine uT 9 (J HC0) ?_;refine uT 10 (J HC0) ?_;refine uO 11 fun K hK=>?_;go_simp;refine(J HWD).mono ?_;rintro e w1 ⟨wv,rfl,hwo,hb1⟩;obtain⟨wp,wc,rfl⟩:=Xk hwo;have hb1':Below W.heap.size W w1:=⟨hb1.os,hb1.tape,hb1.output,hb1.size,hb1.block⟩;have HC1:=Za (J HCK w1 hb1');have HB1:=Za hb1';have HWO:=Za hwo;clear hb1 hb1' hwo;refine kO hK (fun _=>J HC1) ?_;clear hK K;refine uT 12 (J HC1) ?_;refine uO 13 fun K hK=>?_;go_simp;obtain⟨r2,hb2,hz2⟩:=Gk w1 (.cells #[.int .i64 F,.slice wp (Xw f.x args).length wc] 363 (0,0));have HB2:=Za (show Below W.heap.size W (w1.alloc (.cells #[.int .i64 F,.slice wp (Xw f.x args).length wc] 363 (0,0))) from Zd (J HB1) hb2 (J HB1).size);have HW2:=Za (World.ownsRow.alloc (J HWO) (.cells #[.int .i64 F,.slice wp (Xw f.x args).length wc] 363 (0,0)));have HOW2:=Za ((J HS).grow (J HB2)).tr.row;have HC2:=Za (J HCK _ (J HB2));have HBB:=Za (show b≤(w1.alloc (.cells #[.int .i64 F,.slice wp (Xw f.x args).length wc] 363 (0,0))).heap.size by have:=(J HB2).size; omega)
 have c0:∀ j u,[Value.int .i64 F,.slice wp (Xw f.x args).length wc][j]?=some u→(w1.alloc (.cells #[.int .i64 F,.slice wp (Xw f.x args).length wc] 363 (0,0))).cell? ⟨w1.heap.size,j,none⟩=some u:=fun j u hj=>(Zr r2 j).trans (by simpa using hj);clear r2 hb2 hz2;refine kO hK (fun _=>J HC2) ?_;clear hK K;generalize World.alloc w1 _=W2 at HB2 HW2 HOW2 HC2 HBB c0 ⊢;refine uO 14 fun K hK=>?_;refine Zjq rfl (.tmp 13) (.tmp 21) 45 rfl b 363 ti _ 2 32 Tryz.underlying45 hti hty0 hty1 hty2 rfl (by decide) (.slice tp tr.length tc) tr.length (evC (tr.map (·.1)) es) (by simp [Act.eval]) (J HOW2) ⟨w1.heap.size,0,none⟩ 1 1 [.int .i64 F,.slice wp (Xw f.x args).length wc] (by simp [Act.eval]) rfl (by intro j u hj; match j,hj with | 0,hj=>exact c0 0 u hj | 1,hj=>exact c0 1 u hj) (by intro u hu; simp at hu; rcases hu with rfl | rfl <;> rfl) (by unfold maxLen; omega) (by omega) (J HBB) ?_;intro v7 w7 hown7 hgr7 hblk7;obtain⟨tp7,tc7,rfl⟩:=Xk hown7;have hP:=Ja.event (J HS) ⟨_,J HROW⟩ (J HB2) (J HW2) hgr7 hown7 hblk7 6 (.slice tp7 (tr.length+1) tc7);have hrw:Ni w7 rb fv (.slice sp sc.length scc) frv kind vv (.slice tp tr.length tc) steps:=by
  have h1:=((J HB2).block rb (Zk (J HROW))).trans (J HROW);exact(hgr7.block rb (Zk h1) (fun e=>Ub (J HOW2) h1 (by decide) e.symm)).trans h1
 have hib:w7.heap[w.heap.size]?=some (.cells #[.int .i64 op_,.int .i64 d_,.int .i64 a_,.int .i64 b_,.int .u64 n_,.int .i64 F,.slice ap args.length ac,.slice op outs.length oc] 89 (0,0)):=by
  have h1:=((J HB2).block w.heap.size (Zk (J HIR))).trans (J HIR);exact(hgr7.block _ (Zk h1) (fun e=>Ub (J HOW2) h1 (by decide) e.symm)).trans h1
 have hF7:(f :: R).Pairwise (fun u l=>l.hi≤u.lo):=(J HS).ord;have z6:=frozen_of_row _ _ 6 _ _ hrw;have c6:=cR hrw 6;have HC3:=Za (show(fun V=>V.cell? ⟨rb,6,none⟩=some (.slice tp tr.length tc)∧V.cell? ⟨w.heap.size,5,none⟩=some (.int .i64 F)∧V.cell? ⟨w.heap.size,6,none⟩=some (.slice ap args.length ac)) w7 from⟨c6,(cR hib 5),(cR hib 6)⟩);have HX:=Za (show Ni (w7.setCell ⟨rb,6,none⟩ (.slice tp7 (tr.length+1) tc7)) rb fv (.slice sp sc.length scc) frv kind vv (.slice tp7 (tr.length+1) tc7) steps from heap_setCell_same _ _ 6 _ _ _ hrw);have HI8:=Za (show(w7.setCell ⟨rb,6,none⟩ (.slice tp7 (tr.length+1) tc7)).heap[w.heap.size]?=some (.cells #[.int .i64 op_,.int .i64 d_,.int .i64 a_,.int .i64 b_,.int .u64 n_,.int .i64 F,.slice ap args.length ac,.slice op outs.length oc] 89 (0,0)) from(heap_setCell_other _ _ _ _ (by show w.heap.size≠rb; omega)).trans hib);have HP:=Za hP;clear hown7 hgr7 hblk7 hP hrw c0 hib hF7;refine kO hK (fun _=>J HC3) ?_;clear hK K;refine uO 15 fun K hK=>?_;go_simp;refine kO hK (fun _=>J HC3) ?_;clear hK K;refine uO 16 fun K hK=>?_;go_simp;refine kO hK (fun _=>J HC3) ?_;clear hK K;refine uO 17 fun K hK=>?_;go_simp;refine kO hK (fun _=>J HC3) ?_;clear hK K;refine uO 18 fun K hK=>?_;go_simp;refine kO hK (fun h=>(by cases h)) ?_;clear hK K;refine Cb (by kernel_rfl) ?_ _;clear z6 c6 HC0 HC1 HC2 HC3 HCK;generalize World.setCell w7 _ _=U at HX HI8 HP ⊢;have i7:=cR (J HI8) 7;have hu0:=(J HP).2.size
 obtain⟨r3,hb3,hz3⟩:=Gk U (.cells (uC (List.replicate outs.length 0)).toArray 50 (0,0));have HR3:=Za r3;have HB3:=Za hb3;have HZ3:=Za hz3;have c1:=cR ((hb3.block rb (Zk (J HX))).trans (J HX)) 1;clear r3 hb3 hz3;go_upto_region 3 with fail
 clear i7;generalize World.alloc U _=U2 at HR3 HB3 HZ3 c1 ⊢;go_wp2_with (refine wpList_copy_splice rfl _ _ 44 44 rfl 50 Tryz.underlying44 (Tryz.infoU64s.trans rfl) _ _ _ _ _ _ rfl rfl U.heap.size 0 (uC (List.replicate outs.length 0)) 50 ?k1 (uC (sc.take outs.length)) ?k2 ?k3 ?k4 ?k6 U.heap.size U ?k5 (Nat.le_refl _) ?_)
 case k1=>exact J HR3
 case k2=>rw [Zgt,List.length_take]; exact Nat.min_comm _ _
 case k3 =>
  intro h0;obtain⟨p',c',e,h2,h3,h4⟩:=J HSC;injection e with e1 e2 e3;obtain⟨sb,so,e4,hc⟩:=h4 (by simp [uC] at h0; omega);refine⟨⟨sb,so,none⟩,by rw [e1,e4],fun j v hj=>?_⟩;have hj2:j<sc.length∧j<outs.length:=by
   have:=(List.getElem?_eq_some_iff.1 hj).1;simp [uC] at this;omega
  have hv:v=.int .u64 (sc.getD j 0):=by
   simp [uC,hj2] at hj;rw [← hj];simp [List.getD,hj2]
  subst hv;have hcj:=hc j hj2.1;have hbk:=World.block_lt_of_cell? w0 _ hcj;simp only at hbk;show World.cell? _ (Addr.add ⟨sb,so,none⟩ j)=_;rw [Go.WideShapes.add_plain];have hz:=(J HP).1.low;exact(World.cell?_of_block ((J HB3).block sb (Nat.lt_of_lt_of_le hbk hz.size))).trans ((World.cell?_of_block (hz.block sb hbk)).trans hcj)
 case k4=>simp [uC]; omega
 case k6 =>
  intro v hv;obtain⟨x,-,rfl⟩:=List.mem_map.1 hv;rfl
 case k5=>exact J HB3
 intro w8 HG8 hB8;have hrow8:=HG8.out;rw [Zvn] at hrow8;have hX8:=(hB8.block rb (Zk (J HX))).trans (J HX);have hS8:=(J HP).1.grow hB8;have hI8:=(hB8.block w.heap.size (Zk (J HI8))).trans (J HI8);have HX8:=Za hX8;have HS8:=Za hS8;have HI9:=Za hI8;have HB8:=Za hB8;have HROW8:=Za hrow8;have e1:=cR hX8 1;have z1:=frozen_of_row _ _ 1 _ _ hX8;clear hX8 hS8 hI8 HG8 hB8 hrow8 c1 HR3 HB3 HZ3 HI8;generalize hm:(uC (sc.take outs.length)).length=m;rw [Zgt,List.length_take] at hm;have hms:(m:Int)≤sc.length:=by omega
 have hm0:(0:Int)≤(m:Int):=by omega
 have hmN:m≤sc.length:=by omega
 have hscl:sc.length<4611686018427387904:=by obtain⟨_,_,_,_,h3,_⟩:=J HSC; exact h3
 have HM:=Za hm;clear hm;have hcase:(sc.length=0∧sp=none)∨(∃ x,sp=some x):=by
  cases sp with
  | none =>
   refine Or.inl ⟨?_,rfl⟩;rcases Nat.eq_zero_or_pos sc.length with h | h
   ·
    exact h
   ·
    obtain⟨p1,c1,e,-,-,h4⟩:=J HSC;injection e with e1;obtain⟨q1,q2,e2,-⟩:=h4 h;rw [← e1] at e2;cases e2
  | some x=>exact Or.inr ⟨x,rfl⟩
 rcases hcase with⟨h0,rfl⟩ | ⟨x,rfl⟩
 ·
  go_upto_region 5 with fail
  have HL9:=Za (show Cg w0 (.slice none 0 (scc-m)) (sc.drop outs.length) from by
   have hnil:sc=[]:=List.eq_nil_of_length_eq_zero h0;rw [hnil,List.drop_nil];exact⟨none,scc-m,rfl,Nat.zero_le _,by decide,fun h=>absurd h (by decide)⟩)
  generalize hv9:(Value.slice none 0 (scc-m))=v9 at HL9 ⊢;obtain⟨p9,c9,e9,-⟩:=J HL9;have E9:=Za e9;clear e9;have hX9:Ni (w8.setCell ⟨rb,1,none⟩ v9) rb fv v9 frv kind vv (.slice tp7 (tr.length+1) tc7) steps:=heap_setCell_same _ _ 1 _ _ _ (J HX8);have hO9:One rb w8 (w8.setCell ⟨rb,1,none⟩ v9):=⟨rfl,rfl,rfl,by simp,fun q hq=>heap_setCell_other _ _ _ _ hq⟩;have hS9:=(J HS8).own ⟨_,J HX8⟩ hO9;have hi9:(w8.setCell ⟨rb,1,none⟩ v9).heap[w.heap.size]?=some (.cells #[.int .i64 op_,.int .i64 d_,.int .i64 a_,.int .i64 b_,.int .u64 n_,.int .i64 F,.slice ap args.length ac,.slice op outs.length oc] 89 (0,0)):=(hO9.oth _ (by omega)).trans (J HI9);have htd:(w8.setCell ⟨rb,1,none⟩ v9).ownsRow U.heap.size 50 1 (.slice (some ⟨U.heap.size,0,none⟩) (Lm sc outs.length).length outs.length) (Lm sc outs.length).length (uC (Lm sc outs.length)):=by
   have htl:(Lm sc outs.length).length=outs.length:=by simp [Lm]
   refine⟨by simp [uC],.inr ⟨U.heap.size,outs.length,_,rfl,Nat.le_refl _,(hO9.oth _ (by omega)).trans (J HROW8),by rw [htl]; exact Nat.le_refl _,by unfold maxLen; omega,by simp [uC,htl],by simp only [Nat.mul_one]; rw [← Zgt,List.take_length]⟩⟩
  have hset:=Zuy w0 f.x f.q f.lo f.hi f.lg f.bp f.sp f.op f.bc f.sc f.oc f.gs f.B outs (Lm sc outs.length) op (some ⟨U.heap.size,0,none⟩) oc outs.length U.heap.size _ (hS9.stk f List.mem_cons_self).1 hS9.low (by have:=hS9.w0b; have:=(hS9.stk f List.mem_cons_self).2; omega) (J HLO) (by omega) (J HIN) htd (by have:=J HHI; omega) (by simp [Lm]);rw [show(Lm sc outs.length).length=outs.length by simp [Lm]] at hset;have HSET:=Za hset;have i7:=cR hi9 7;have HX9:=Za hX9;have HS9:=Za hS9;have HB9:=Za (show Below b w (w8.setCell ⟨rb,1,none⟩ v9) from((Below.mono (J HB0) hbw).trans (J HP).2).trans ((Below.mono (J HB8) (by omega)).trans (Da hO9 hrbb)));clear hX9 hO9 hS9 hi9 htd hset e1 z1 hv9;generalize World.setCell w8 _ _=U9 at HSET i7 HX9 HS9 HB9 ⊢;go_wp2_with fail
  refine(J HSET).mono ?_;rintro e w5 ⟨⟨v5,rfl⟩,hF5,hO5⟩;have HF5:=Za hF5;have HO5:=Za hO5;clear hF5 hO5 HSET i7;go_wp2;go_returns;have hS9:=J HS9;have hO5:=J HO5;have hfl:=(hS9.stk f List.mem_cons_self).2;refine⟨⟨_,rfl⟩,tp7,tc7,p9,c9,_,?_,by rw [← J E9]; exact J HL9,hS9.top (J HF5) hO5,(J HB9).trans ⟨hO5.os,hO5.tape,hO5.output,hO5.size,fun k hk=>hO5.oth k (by have:=Zk (J HX9); omega) (Or.inl (by omega))⟩⟩;rw [← J E9];exact(hO5.oth rb (Zk (J HX9)) (Or.inl hfl)).trans (J HX9)
 ·
  go_upto_region 5 with fail
  have HL9:=Za (show Cg w0 (.slice (if scc=m then some x else some (x.add m)) (sc.length-m) (scc-m)) (sc.drop outs.length) from Zzy (J HSC) (J HM).symm);generalize hv9:(Value.slice (if scc=m then some x else some (x.add m)) (sc.length-m) (scc-m))=v9 at HL9 ⊢;obtain⟨p9,c9,e9,-⟩:=J HL9;have E9:=Za e9;clear e9;have hX9:Ni (w8.setCell ⟨rb,1,none⟩ v9) rb fv v9 frv kind vv (.slice tp7 (tr.length+1) tc7) steps:=heap_setCell_same _ _ 1 _ _ _ (J HX8);have hO9:One rb w8 (w8.setCell ⟨rb,1,none⟩ v9):=⟨rfl,rfl,rfl,by simp,fun q hq=>heap_setCell_other _ _ _ _ hq⟩;have hS9:=(J HS8).own ⟨_,J HX8⟩ hO9;have hi9:(w8.setCell ⟨rb,1,none⟩ v9).heap[w.heap.size]?=some (.cells #[.int .i64 op_,.int .i64 d_,.int .i64 a_,.int .i64 b_,.int .u64 n_,.int .i64 F,.slice ap args.length ac,.slice op outs.length oc] 89 (0,0)):=(hO9.oth _ (by omega)).trans (J HI9);have htd:(w8.setCell ⟨rb,1,none⟩ v9).ownsRow U.heap.size 50 1 (.slice (some ⟨U.heap.size,0,none⟩) (Lm sc outs.length).length outs.length) (Lm sc outs.length).length (uC (Lm sc outs.length)):=by
   have htl:(Lm sc outs.length).length=outs.length:=by simp [Lm]
   refine⟨by simp [uC],.inr ⟨U.heap.size,outs.length,_,rfl,Nat.le_refl _,(hO9.oth _ (by omega)).trans (J HROW8),by rw [htl]; exact Nat.le_refl _,by unfold maxLen; omega,by simp [uC,htl],by simp only [Nat.mul_one]; rw [← Zgt,List.take_length]⟩⟩
  have hset:=Zuy w0 f.x f.q f.lo f.hi f.lg f.bp f.sp f.op f.bc f.sc f.oc f.gs f.B outs (Lm sc outs.length) op (some ⟨U.heap.size,0,none⟩) oc outs.length U.heap.size _ (hS9.stk f List.mem_cons_self).1 hS9.low (by have:=hS9.w0b; have:=(hS9.stk f List.mem_cons_self).2; omega) (J HLO) (by omega) (J HIN) htd (by have:=J HHI; omega) (by simp [Lm]);rw [show(Lm sc outs.length).length=outs.length by simp [Lm]] at hset;have HSET:=Za hset;have i7:=cR hi9 7;have HX9:=Za hX9;have HS9:=Za hS9;have HB9:=Za (show Below b w (w8.setCell ⟨rb,1,none⟩ v9) from((Below.mono (J HB0) hbw).trans (J HP).2).trans ((Below.mono (J HB8) (by omega)).trans (Da hO9 hrbb)));clear hX9 hO9 hS9 hi9 htd hset e1 z1 hv9;generalize World.setCell w8 _ _=U9 at HSET i7 HX9 HS9 HB9 ⊢;go_wp2_with fail
  refine(J HSET).mono ?_;rintro e w5 ⟨⟨v5,rfl⟩,hF5,hO5⟩;have HF5:=Za hF5;have HO5:=Za hO5;clear hF5 hO5 HSET i7;go_wp2;go_returns;have hS9:=J HS9;have hO5:=J HO5;have hfl:=(hS9.stk f List.mem_cons_self).2;refine⟨⟨_,rfl⟩,tp7,tc7,p9,c9,_,?_,by rw [← J E9]; exact J HL9,hS9.top (J HF5) hO5,(J HB9).trans ⟨hO5.os,hO5.tape,hO5.output,hO5.size,fun k hk=>hO5.oth k (by have:=Zk (J HX9); omega) (Or.inl (by omega))⟩⟩;rw [← J E9];exact(hO5.oth rb (Zk (J HX9)) (Or.inl hfl)).trans (J HX9)
theorem Sc (w:World)(Z cs:Array Value)(T:TypeId):((w.alloc (.cells Z T)).setRow w.heap.size cs).heap[w.heap.size]?=some (.cells cs T (0,0))∧Below w.heap.size w ((w.alloc (.cells Z T)).setRow w.heap.size cs)∧(w.alloc (.cells Z T)).heap[w.heap.size]?=some (.cells Z T (0,0)):=by
 obtain⟨r,hb,-⟩:=Gk w (.cells Z T (0,0));exact⟨setRow_heap _ _ _ _ _ _ r,Zx hb (Nat.le_refl _),r⟩
theorem Ng {P:Zw}{w0 w:World}{rb b:Nat}{f:Us}{R:List Us}{frv tv:Value}{tr:List (Int×List Int)}{es:List Value}(hG:Gp P)(hW:Uj P f.x)(hS:Ja w0 w rb b (f :: R) frv tv tr es)(i:Zq)(hi:Yg f.x=i) :
 Calls Tryz.prog 165 #[.pointer (some ⟨f.q,0,none⟩)] w fun e w'=>∃ xap xac xop xoc,e=.returned (.agg #[.int .i64 i.op,.int .i64 i.d,.int .i64 i.a,.int .i64 i.bb,.int .u64 i.n,.int .i64 i.f,.slice xap i.args.length xac,.slice xop i.outs.length xoc])∧LS 2 w0 (.slice xap i.args.length xac) i.args.length (fun k=>Me (i.args.getD k (0,0)))∧Li w0 (.slice xop i.outs.length xoc) i.outs∧Na w0 w' (Yd f.x) f.q f.lo f.hi f.lg f.bp f.sp f.op f.bc f.sc f.oc f.gs f.B∧OnB f.lo f.hi w w':=by
 have hH:=hG.fnH hW.fn;have h1:=hW.b0;have h2:=hW.b1;have h3:=hW.i0;have h4:=hW.i1;obtain⟨bn,hb⟩:=Int.eq_ofNat_of_zero_le h1;obtain⟨nx,hn⟩:=Int.eq_ofNat_of_zero_le h3;rw [hb] at h2 h4;rw [hn] at h4;rw [Int.toNat_natCast] at h4;have:=Zzn w0 f.x f.q f.lo f.hi f.lg f.bp f.sp f.op f.bc f.sc f.oc f.gs f.B bn nx w (hS.stk f List.mem_cons_self).1 hS.low hb hn (by omega) (by omega) hH.b12 (hH.bk bn (by omega)).2;rw [hi] at this;exact this
set_option maxHeartbeats 4000000
set_option maxRecDepth 100000
structure PgI (w0:World)(P:Zw)(fb fo:Nat)(A:Nat→Array Value):Prop where
 fs:∀ i,i<P.funcs.length→w0.rangeAt fb (fo+i*5) (A i).toList
 lt:fb<w0.heap.size
 each:∀ k,k<P.funcs.length→Kh w0 (A k) (P.funcs.getD k Zp)
theorem Zpb {w:World}{B:Nat}{p:Option Addr}{c:Nat}{ws:List Int}(h:w.ownsRow B 50 1 (.slice p ws.length c) ws.length (uC ws))(hl:ws.length<4611686018427387904):Cg w (.slice p ws.length c) ws:=by
 have hc:ws.length≤c:=by
  rcases h.2 with⟨e,hn⟩ | ⟨g,cap,cur,e,-,-,hnc,-⟩
  ·
   omega
  ·
   injection e with e1 e2 e3;omega
 refine⟨p,c,rfl,hc,hl,fun h0=>?_⟩;obtain⟨g,e,-,-⟩:=Rz h (k:=0) h0;subst e;refine⟨g,0,rfl,fun i hi=>?_⟩;obtain⟨g',e,-,hcc⟩:=Rz h (k:=i) hi;injection e with e;injection e with e;subst e;rw [Nat.zero_add,hcc];simp [uC,List.getD,hi]
theorem Zdo:∀{l:List (Int×Int)},(∀ k,k<l.length→(l.getD k (0,0)).1≤8)→Mr l≤8*l.length
 | [],_=>Nat.le_refl _
 | a :: l,h=>by
  have h0:=h 0 (by simp);have ih:=Zdo (l:=l) fun k hk=>h (k+1) (by simpa using hk);show(if a.1=0 then 1 else a.1.toNat)+Mr l≤_;have h0':a.1≤8:=h0;simp only [List.length_cons];split <;> omega
theorem Zrq {P:Zw}{w0 w:World}{rb b fb fo fc:Nat}{A:Nat→Array Value}{f:Us}{R:List Us}{frv tv scv vv:Value}{tr:List (Int×List Int)}{es:List Value}{kind steps:Int}(hPg:PgI w0 P fb fo A)(hG:Gp P)(hW:Uj P f.x)(hS:Ja w0 w rb b (f :: R) frv tv tr es)(hrow:Ni w rb (.slice (some ⟨fb,fo,none⟩) P.funcs.length fc) scv frv kind vv tv steps){d a bb n F:Int}{args:List (Int×Int)}{outs:List Int}(hi:Yg f.x=⟨12,d,a,bb,n,F,args,outs⟩)(hst:R.length≤50000) :
 Calls Tryz.prog 113 #[.pointer (some ⟨rb,0,none⟩),.pointer (some ⟨f.q,0,none⟩)] w fun e w'=>(∃ v,e=.returned v)∧∃ f' frv',f'.x=Ka (P.funcs.getD F.toNat Zp) (Xw f.x args) outs∧Ni w' rb (.slice (some ⟨fb,fo,none⟩) P.funcs.length fc) scv frv' kind vv tv steps∧Ja w0 w' rb b (f' :: { f with x:=Yd f.x } :: R) frv' tv tr es∧Below b w w':=by
 obtain⟨fp,fcp,rfl⟩:=Xk hS.fr;have hwc:=Zoz hG hW (by rw [hi]);rw [hi] at hwc;dsimp only at hwc;obtain⟨hcf,-,-,hca,hcl,hcA,hF0,hF1⟩:=hwc;obtain⟨k,rfl⟩:=Int.eq_ofNat_of_zero_le hF0;rw [Int.toNat_natCast] at hcf hca ⊢;have hkN:k<P.funcs.length:=by omega
 have HH:=Za (hG.fnH hcf);have HFN:=Za (hPg.each k hkN);have HCA:=Za hcA;have HWL:=Za (show(Xw f.x args).length=Mr (P.funcs.getD k Zp).params from(Ij f.x args).trans (Zbf hca));have HWS:=Za (Zag hW.ok args);have HSM:=Za (hW.small hG);have HOK:=Za hW.ok;clear hcf hca hcA hF0 hF1;have HFE:=Za (Ng hG hW hS ⟨12,d,a,bb,n,(k:Int),args,outs⟩ hi);have hrlo:=(hS.stk f List.mem_cons_self).2;have hbrb:=hS.rbb;have HW:=Za hW;have HS:=Za hS;have HROW:=Za hrow;have hrl:=Zk hrow;have HI:=Za hi;clear hS hrow hi hW;go_enter Tryz.func113,Tryz.ntmps113
 go_wp2_with fail
 refine(J HFE).mono ?_;rintro e w1 ⟨xap,xac,xop,xoc,rfl,hxa,hxo,hF1,hO1⟩;have hBX:=Sc w1 #[.int .i64 0,.int .i64 0,.int .i64 0,.int .i64 0,.int .u64 0,.int .i64 0,.slice none 0 0,.slice none 0 0] #[.int .i64 12,.int .i64 d,.int .i64 a,.int .i64 bb,.int .u64 n,.int .i64 (k:Int),.slice xap args.length xac,.slice xop outs.length xoc] 89;have HR2:=Za hBX.2.2;have HX2:=Za hBX.1;have HB2:=Za hBX.2.1;have HS2:=Za (((J HS).top hF1 hO1).grow hBX.2.1);have HR:=Za (show Ni ((w1.alloc (.cells #[.int .i64 0,.int .i64 0,.int .i64 0,.int .i64 0,.int .u64 0,.int .i64 0,.slice none 0 0,.slice none 0 0] 89)).setRow w1.heap.size #[.int .i64 12,.int .i64 d,.int .i64 a,.int .i64 bb,.int .u64 n,.int .i64 (k:Int),.slice xap args.length xac,.slice xop outs.length xoc]) rb (.slice (some ⟨fb,fo,none⟩) P.funcs.length fc) scv (.slice fp (f :: R).length fcp) kind vv tv steps from(hBX.2.1.block rb (Nat.lt_of_lt_of_le hrl hO1.size)).trans ((hO1.oth rb hrl (Or.inl hrlo)).trans (J HROW)));have HBL:=Za (show Below b w ((w1.alloc (.cells #[.int .i64 0,.int .i64 0,.int .i64 0,.int .i64 0,.int .u64 0,.int .i64 0,.slice none 0 0,.slice none 0 0] 89)).setRow w1.heap.size #[.int .i64 12,.int .i64 d,.int .i64 a,.int .i64 bb,.int .u64 n,.int .i64 (k:Int),.slice xap args.length xac,.slice xop outs.length xoc]) from Below.trans (b:=w1) ⟨hO1.os,hO1.tape,hO1.output,hO1.size,fun k hk=>hO1.oth k (by omega) (Or.inl (by omega))⟩ (hBX.2.1.mono (by have:=hO1.size; omega)))
 have HIBW:=Za hO1.size;have HXA:=Za hxa;have HXO:=Za hxo;clear hBX hxa hxo hF1 hO1 HS HROW HFE;dsimp only;go_upto_region 1 with(refine wpList_store_row rfl 89 _ _ rfl w1.heap.size #[.int .i64 12,.int .i64 d,.int .i64 a,.int .i64 bb,.int .u64 n,.int .i64 (k:Int),.slice xap args.length xac,.slice xop outs.length xoc] rfl rfl 89 _ (J HR2) (Tryz.infInsI.trans rfl) rfl (by simp [Value.oneCell']) ?_)
 clear HR2;generalize hX:World.setRow (World.alloc w1 _) _ _=V2 at HX2 HB2 HS2 HR HBL ⊢;clear hX;generalize hib:w1.heap.size=ib at HX2 HB2 HIBW ⊢;clear hib;have o0:=cR (J HX2) 0;have hF2:Na w0 V2 (Yd f.x) f.q f.lo f.hi f.lg f.bp f.sp f.op f.bc f.sc f.oc f.gs f.B:=((J HS2).stk _ List.mem_cons_self).1;have HF2:=Za hF2;clear hF2;go_upto_region 12 with fail
 clear o0;have HSK:=Za (fun(V:World) (h:V.heap[ib]?=V2.heap[ib]?)=>show V.cell? ⟨ib,5,none⟩=some (.int .i64 (k:Int))∧V.cell? ⟨ib,6,none⟩=some (.slice xap args.length xac)∧V.cell? ⟨ib,7,none⟩=some (.slice xop outs.length xoc) from⟨(cR (h.trans (J HX2)) 5),(cR (h.trans (J HX2)) 6),(cR (h.trans (J HX2)) 7)⟩);have HWD:=Za (Zgu w0 (Yd f.x) f.q f.lo f.hi f.lg f.bp f.sp f.op f.bc f.sc f.oc f.gs f.B args xap xac V2.drew (Yv (J HF2) (Below.refl _ _).drew) ⟨(J HOK).v,(J HOK).s⟩ (J HS2).low.drew (J HXA) (by omega) (fun k hk=>⟨(J HCA k hk).w0,(J HCA k hk).w8,(J HCA k hk).f0,(J HCA k hk).v,(J HCA k hk).s⟩) (J HSM));rw [show Xw (Yd f.x) args=Xw f.x args from rfl] at HWD;have hwl8:(Xw f.x args).length≤100000:=by
  have h1:=J HWL;have h2:=Zdo (l:=(P.funcs.getD k Zp).params) (fun j hj=>((J HH).pw j hj).2.1);have h3:=(J HH).pl;omega
 have hibl:=Zk (J HX2);have hibrb:ib≠rb:=fun e=>Gx (J HX2) (J HR) (by decide) e;have HEN:=Za (fun(w5:World) (hb5:Below V2.heap.size V2 w5) (wp:Option Addr) (wc:Nat) (hwo:w5.ownsRow V2.heap.size 50 1 (.slice wp (Xw f.x args).length wc) (Xw f.x args).length (uC (Xw f.x args)))=>Zgy w0 w5 rb b ({ f with x:=Yd f.x } :: R) fp fcp tv vv scv tr es kind steps ((J HS2).grow hb5) (P.funcs.getD k Zp) k fb fo fc P.funcs.length A ((hb5.block rb (Zk (J HR))).trans (J HR)) hkN hPg.fs hPg.lt (J HFN) (J HH) (Xw f.x args) outs wp xop wc xoc (Zpb hwo (by omega)) (J HXO) (J HWL) (J HWS) (by simp; omega));clear HXA HXO HFN HH HWL HWS HCA HOK HSM hPg;go_region_held3 (fun V=>V.cell? ⟨ib,5,none⟩=some (.int .i64 (k:Int))∧V.cell? ⟨ib,6,none⟩=some (.slice xap args.length xac)∧V.cell? ⟨ib,7,none⟩=some (.slice xop outs.length xoc)) ((first | exact J HSK _ rfl | exact J HSK _ ((J HB5).block ib hibl) | exact J HSK _ (J HI6))) ((first | (go_at_call 168; refine(J HWD).mono ?_; rintro e w5 ⟨wv,rfl,hwo,hb5⟩; obtain⟨wp,wc,rfl⟩:=Xk hwo; have HB5:=Za (show Below V2.heap.size V2 w5 from⟨hb5.os,hb5.tape,hb5.output,hb5.size,hb5.block⟩); have HE5:=Za (J HEN w5 (J HB5) wp wc hwo); clear hwo hb5) | (go_at_call 73; refine(J HE5).mono ?_; rintro e w6 ⟨⟨v6,rfl⟩,f6,fp6,fc6,hx6,-,-,-,hR6,hS6,hB6,hK6⟩; have HI6:=Za (show w6.heap[ib]?=V2.heap[ib]? from(hK6 ib _ _ (((J HB5).block ib hibl).trans (J HX2)) (by decide) hibrb).trans ((J HB5).block ib hibl)); have HX6:=Za hx6; have HR6:=Za hR6; have HS6:=Za hS6; have HB6:=Za hB6; clear hx6 hR6 hS6 hB6 hK6)))
 all_goals
  go_wp2;go_returns;exact⟨⟨_,rfl⟩,f6,_,J HX6,J HR6,J HS6,(J HBL).trans (((J HB5).mono (by have:=Zk (J HR); omega)).trans (J HB6))⟩
end Go.Proofs.YtedemloocadimaaGreatDoor
