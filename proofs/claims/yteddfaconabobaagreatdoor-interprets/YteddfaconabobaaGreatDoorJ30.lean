import Derived.Test.YteddfaconabobaaGreatDoorJ29
import Derived.Test.YteddfaconabobaaGreatDoorJ17
import Derived.Test.YteddfaconabobaaGreatDoorPk
namespace Go.Proofs.YteddfaconabobaaGreatDoor
open Go.RowKit
structure Nt (w0 V:World)(pb b:Nat)(N:Nat→Prop)(fv ev:Value)(fuel steps:Int)(sv:Value)(sc:List Int)(kind code:Int)(tv:Value)(tr:List (Int×List Int))(es:List Value)(fnn:Int):Prop where
 low:Below w0.heap.size w0 V
 w0b:w0.heap.size≤b
 pbb:b≤pb
 row:Sm V pb fv ev fuel steps sv kind code tv fnn
 scl:Lv w0 sv sc
 scb:∀ n ∈ sc,0≤n∧n<18446744073709551616
 tri:TrI V b N tv tr es
 npb:∀ g,N g→g≠pb
structure Xj (b pb:Nat)(M:Nat→Prop)(w w':World):Prop where
 os:w'.os=w.os
 tape:w'.tape=w.tape
 output:w'.output=w.output
 size:w.heap.size≤w'.heap.size
 oth:∀ g,g<w.heap.size→g≠pb→¬ M g→(g<b∨∀ cs,w.heap[g]?≠some (.cells cs 82 (0,0)))→w'.heap[g]?=w.heap[g]?
theorem Xj.refl (b pb:Nat)(M:Nat→Prop)(w:World):Xj b pb M w w:=⟨rfl,rfl,rfl,Nat.le_refl _,fun _ _ _ _ _=>rfl⟩
theorem Xj.trans {b pb:Nat}{M:Nat→Prop}{u v w:World}(h:Xj b pb M u v)(k:Xj b pb M v w):Xj b pb M u w :=
 ⟨k.os.trans h.os,k.tape.trans h.tape,k.output.trans h.output,Nat.le_trans h.size k.size,fun g h1 h2 h3 h4=>by
  have e:=h.oth g h1 h2 h3 h4;exact(k.oth g (Nat.lt_of_lt_of_le h1 h.size) h2 h3 (by rw [e]; exact h4)).trans e⟩
theorem Xj.mono {b pb:Nat}{M M':Nat→Prop}{u v:World}(h:Xj b pb M u v)(hm:∀ g,g<u.heap.size→M g→M' g):Xj b pb M' u v:=⟨h.os,h.tape,h.output,h.size,fun g h1 h2 h3 h4=>h.oth g h1 h2 (fun e=>h3 (hm g h1 e)) h4⟩
theorem Gq {b pb:Nat}{M:Nat→Prop}{u v:World}(h:Below u.heap.size u v):Xj b pb M u v:=⟨h.os,h.tape,h.output,h.size,fun g h1 _ _ _=>h.block g h1⟩
theorem Uv {b pb:Nat}{M:Nat→Prop}{u v:World}(h:Oj pb u v):Xj b pb M u v:=⟨h.os,h.tape,h.output,Nat.le_of_eq h.size.symm,fun g _ h2 _ _=>h.oth g h2⟩
theorem Xj.row {b pb:Nat}{M:Nat→Prop}{u v:World}(h:Xj b pb M u v){g:Nat}{cs:Array Value}{t:TypeId}(hr:u.heap[g]?=some (.cells cs t (0,0)))(h1:g≠pb)(h2:¬ M g)(ht:t≠82):v.heap[g]?=some (.cells cs t (0,0)) :=
 (h.oth g (Zd hr) h1 h2 (Or.inr fun cs' e=>by rw [hr] at e; injection e with e; injection e with e1 e2; exact ht e2)).trans hr
section
variable {w0 V V':World} {pb b:Nat} {N:Nat→Prop} {fv ev sv tv:Value} {fuel steps kind code fnn:Int} {sc:List Int} {tr:List (Int×List Int)} {es:List Value}
theorem Nt.keep (h:Nt w0 V pb b N fv ev fuel steps sv sc kind code tv tr es fnn)(h1:V'.os=V.os)(h2:V'.tape=V.tape)(h3:V'.output=V.output)(h4:V.heap.size≤V'.heap.size)(hk:∀ g,g<b→V'.heap[g]?=V.heap[g]?)(hp:V'.heap[pb]?=V.heap[pb]?)(ht:∀ g cs t,V.heap[g]?=some (.cells cs t (0,0))→t=82∨t=62→b≤g→N g→V'.heap[g]?=V.heap[g]?):Nt w0 V' pb b N fv ev fuel steps sv sc kind code tv tr es fnn :=
 ⟨⟨h1.trans h.low.os,h2.trans h.low.tape,h3.trans h.low.output,Nat.le_trans h.low.size h4,fun g hg=>(hk g (Nat.lt_of_lt_of_le hg h.w0b)).trans (h.low.block g hg)⟩,h.w0b,h.pbb,hp.trans h.row,h.scl,h.scb,h.tri.keep ht (fun _ _ _ h=>h),h.npb⟩
theorem Nt.blt (h:Nt w0 V pb b N fv ev fuel steps sv sc kind code tv tr es fnn):b<V.heap.size:=Nat.lt_of_le_of_lt h.pbb (Zd h.row)
theorem Nt.grow (h:Nt w0 V pb b N fv ev fuel steps sv sc kind code tv tr es fnn)(hb:Below V.heap.size V V'):Nt w0 V' pb b N fv ev fuel steps sv sc kind code tv tr es fnn :=
 h.keep hb.os hb.tape hb.output hb.size (fun g hg=>hb.block g (by have:=h.blt; omega)) (hb.block pb (Zd h.row)) (fun g _ _ hr _ _ _=>hb.block g (Zd hr))
theorem Nt.own {sv':Value}{sc':List Int}{steps' kind' code' fnn':Int}(h:Nt w0 V pb b N fv ev fuel steps sv sc kind code tv tr es fnn)(hO:Oj pb V V')(hr:Sm V' pb fv ev fuel steps' sv' kind' code' tv fnn')(hs:Lv w0 sv' sc')(hb:∀ n ∈ sc',0≤n∧n<18446744073709551616):Nt w0 V' pb b N fv ev fuel steps' sv' sc' kind' code' tv tr es fnn' :=
 ⟨⟨hO.os.trans h.low.os,hO.tape.trans h.low.tape,hO.output.trans h.low.output,by rw [hO.size]; exact h.low.size,fun g hg=>(hO.oth g (by have:=h.w0b; have:=h.pbb; omega)).trans (h.low.block g hg)⟩,h.w0b,h.pbb,hr,hs,hb,h.tri.keep (fun g _ _ _ _ _ hN=>hO.oth g (h.npb g hN)) (fun _ _ _ h=>h),h.npb⟩
theorem Nt.vars {vb:Nat}{gs:List Nat}(h:Nt w0 V pb b N fv ev fuel steps sv sc kind code tv tr es fnn)(hv:∃ cs,V.heap[vb]?=some (.cells cs 62 (0,0)))(hg:∀ g ∈ gs,∃ cs,V.heap[g]?=some (.cells cs 5 (0,0)))(hvb:b≤vb)(hgb:∀ g ∈ gs,b≤g)(hN:¬ N vb)
 (h1:V'.os=V.os) (h2:V'.tape=V.tape) (h3:V'.output=V.output) (h4:V.heap.size≤V'.heap.size) (hk:∀ g,g<V.heap.size→g≠vb→g ∉ gs→V'.heap[g]?=V.heap[g]?):Nt w0 V' pb b N fv ev fuel steps sv sc kind code tv tr es fnn:=by
 have hb:=h.blt;obtain⟨cv,hv⟩:=hv;have hne:∀{g cs t},V.heap[g]?=some (.cells cs t (0,0))→t≠5→g ∉ gs:=fun{g cs t} hr ht hm=>by
  obtain⟨c,hc⟩:=hg g hm;exact Zs hr hc ht rfl
 refine h.keep h1 h2 h3 h4 (fun g hg'=>hk g (by omega) (by omega) (fun hm=>by have:=hgb g hm; omega)) (hk pb (Zd h.row) (Zs h.row hv (by decide)) (hne h.row (by decide))) (fun g cs t hr ht _ hNg=>hk g (Zd hr) (fun e=>hN (e ▸ hNg)) (hne hr (by rcases ht with rfl | rfl <;> decide)))
end
def Uw (w0 w':World)(pb b B:Nat)(N:Nat→Prop)(fv ev:Value)(F:Nat)(res:Int)(lv:Value):Ye→Prop
 | .done l m sc tr=>m≤F∧(l.length:Int)=res∧(∀ n ∈ l,0≤n∧n<18446744073709551616)∧w'.ownsRow B 62 1 lv l.length (uC l)∧∃ sp scc tp tc es fnn,Nt w0 w' pb b N fv ev F ((F-m:Nat):Int) (.slice sp sc.length scc) sc 0 0 (.slice tp tr.length tc) tr es fnn
 | .trap c m sc tr=>m≤F∧lv=.slice none 0 0∧∃ sp scc tp tc es fnn,Nt w0 w' pb b N fv ev F ((F-m:Nat):Int) (.slice sp sc.length scc) sc 2 c (.slice tp tr.length tc) tr es fnn
 | .spent sc tr=>lv=.slice none 0 0∧∃ sp scc tp tc es fnn,Nt w0 w' pb b N fv ev F (F:Int) (.slice sp sc.length scc) sc 3 0 (.slice tp tr.length tc) tr es fnn
theorem Znt {w0:World}{fn:Zn}{pv hv sv bv:Value}{B:Nat→Value}{P:Zl}{x:Xl}(hD:Nh w0 fn pv hv sv bv B)(hW:Lp P x)(hfn:x.fn=fn):∃ bb bo bc isb iso ic bn nx xap xac xop xoc,x.b=((bn:Nat):Int)∧x.i=((nx:Nat):Int)∧bn<fn.blocks.length∧nx<(fn.blocks.getD bn []).length∧bv=.slice (some ⟨bb,bo,none⟩) fn.blocks.length bc∧w0.cell? ⟨bb,bo+bn,none⟩=some (.slice (some ⟨isb,iso,none⟩) (fn.blocks.getD bn []).length ic)∧(∀ j y,#[Value.int .i64 (Zo x).op,.int .i64 (Zo x).d,.int .i64 (Zo x).a,.int .i64 (Zo x).bb,.int .u64 (Zo x).n,.int .i64 (Zo x).f,.slice xap (Zo x).args.length xac,.slice xop (Zo x).outs.length xoc][j]?=some y→w0.cell? ⟨isb,iso+nx*8+j,none⟩=some y)∧LS 2 w0 (.slice xap (Zo x).args.length xac) (Zo x).args.length (fun k=>Yz ((Zo x).args.getD k (0,0)))∧Li w0 (.slice xop (Zo x).outs.length xoc) (Zo x).outs:=by
 obtain⟨bn,hb⟩:=Int.eq_ofNat_of_zero_le hW.b0;obtain⟨nx,hn⟩:=Int.eq_ofNat_of_zero_le hW.i0;have hbl:=hW.b1;have hnl:=hW.i1;rw [hb,hfn] at hbl;rw [hb,hn,hfn,Int.toNat_natCast] at hnl;have hbl:bn<fn.blocks.length:=by omega
 have hnl:nx<(fn.blocks.getD bn []).length:=by omega
 have hins:Zo x=(fn.blocks.getD bn []).getD nx Lt:=by unfold Zo; rw [hb,hn,hfn]; rfl
 obtain⟨bp',bcap,hbe,-,-,hbc⟩:=hD.bs.ones;obtain⟨bb,bo,rfl,hbcell⟩:=hbc (by omega);obtain⟨IA,hIL,hIE⟩:=hD.each bn hbl;have hge:fn.blocks.getD bn []=fn.blocks[bn]:=Yu _ _ _ hbl;rw [hge] at hnl hins;obtain⟨ip,ic,hBk⟩:=hIL.shape;rw [hBk] at hIL;obtain⟨ip',ic',hie,-,-,hicell⟩:=hIL;injection hie with f1 f2 f3;subst f1 f3;obtain⟨isb,iso,rfl,-,hic2⟩:=hicell (by omega);have hrg:=hic2 nx hnl;obtain⟨av,ov,hIA,hxa,hxo⟩:=hIE nx hnl;have hgi:(fn.blocks[bn]).getD nx Lt=(fn.blocks[bn])[nx]:=Yu _ _ _ hnl;rw [hgi] at hins;have hc1:=hbcell bn hbl;rw [hBk] at hc1;rw [← hins] at hIA hxa hxo;obtain⟨xap,xac,rfl⟩:=hxa.shape;obtain⟨xop,xoc,rfl⟩:=hxo.shape;rw [hIA] at hrg;exact⟨bb,bo,bcap,isb,iso,ic,bn,nx,xap,xac,xop,xoc,hb,hn,hbl,by rw [hge]; exact hnl,hbe,by rw [hge]; exact hc1,fun j y hy=>hrg j y (by simpa using hy),hxa,hxo⟩
theorem Ng.setv {V:World}{x:Xl}{B vb sb:Nat}{gs:List Nat}(h:Ng V x B vb sb gs)(d:Nat)(n:Int):Ng (V.setCell ⟨vb,d,none⟩ (.int .u64 n)) { x with v:=x.v.set d n } B vb sb gs:=by
 have h1:(V.setCell ⟨vb,d,none⟩ (.int .u64 n)).heap[vb]?=some (.cells (uC (x.v.set d n)).toArray 62 (0,0)):=by
  rw [heap_setCell_same _ _ d _ _ (.int .u64 n) h.v,Zip]
 exact⟨h1,h.vB,(heap_setCell_other _ _ _ _ (Zs h.s h.v (by decide))).trans h.s,h.sB,h.len,fun k hk=>⟨(heap_setCell_other _ _ _ _ (Zs (h.each k hk).1 h.v (by decide))).trans (h.each k hk).1,(h.each k hk).2⟩,h.inj⟩
theorem Ng.mem {V:World}{x:Xl}{B vb sb:Nat}{gs:List Nat}(h:Ng V x B vb sb gs):∀ g ∈ gs,∃ cs,V.heap[g]?=some (.cells cs 5 (0,0)):=fun g hg=>by
 obtain⟨k,hk,rfl⟩:=List.getElem_of_mem hg;have:=(h.each k (by rw [← h.len]; exact hk)).1;rw [show gs.getD k 0=gs[k] by simp [List.getD,hk]] at this;exact⟨_,this⟩
theorem Ng.memB {V:World}{x:Xl}{B vb sb:Nat}{gs:List Nat}(h:Ng V x B vb sb gs):∀ g ∈ gs,B≤g:=fun g hg=>by
 obtain⟨k,hk,rfl⟩:=List.getElem_of_mem hg;have:=(h.each k (by rw [← h.len]; exact hk)).2;rwa [show gs.getD k 0=gs[k] by simp [List.getD,hk]] at this
theorem Ng.sets {V:World}{x:Xl}{B vb sb:Nat}{gs:List Nat}(h:Ng V x B vb sb gs)(k:Nat)(hk:k<x.s.length)(a kk:Nat)(v:Int):Ng (Ux V (gs.getD k 0) a v kk) { x with s:=x.s.set k (Sb (x.s.getD k []) a kk v) } B vb sb gs:=by
 have hg:=(h.each k hk).1;have hl:(Sb (x.s.getD k []) a kk v).length=(x.s.getD k []).length:=Ra _ _ _ _;refine⟨(Jc V _ a v vb (Zs h.v hg (by decide)) kk).trans h.v,h.vB,?_,h.sB,by simp [h.len],fun j hj=>?_,h.inj⟩
 ·
  show _=some (Obj.cells (Ib gs ((x.s.set k _).map List.length)).toArray _ (0,0));rw [Oo _ _ _ hl];exact(Jc V _ a v sb (Zs h.s hg (by decide)) kk).trans h.s
 ·
  have hj':j<x.s.length:=by simpa using hj
  show _=some (Obj.cells (yC ((x.s.set k _).getD j [])).toArray _ (0,0))∧_;rw [Rc _ _ _ _ hk];by_cases hjk:j=k
  ·
   subst hjk;rw [if_pos rfl];exact⟨Rb V _ a v _ hg kk,(h.each j hj').2⟩
  ·
   rw [if_neg hjk];have hne:gs.getD j 0≠gs.getD k 0:=by
    have hgl:=h.len;rcases Nat.lt_or_ge j k with h' | h'
    ·
     have:=h.inj j k h' (by omega); omega
    ·
     have:=h.inj k j (by omega) (by omega); omega
   exact⟨(Jc V _ a v _ hne kk).trans (h.each j hj').1,(h.each j hj').2⟩
theorem Ng.nx {V:World}{x:Xl}{B vb sb:Nat}{gs:List Nat}(h:Ng V x B vb sb gs)(b i:Int):Ng V { x with b:=b,i:=i } B vb sb gs:=⟨h.v,h.vB,h.s,h.sB,h.len,h.each,h.inj⟩
theorem Zjl (P:Zl):∀(n:Nat) (st:List Xl) (sc:List Int) (tr:List (Int×List Int)),(∀ l m sc' tr',ev P n st sc tr=.done l m sc' tr'→tr'.length+m≤tr.length+n∧m≤n)∧(∀ c m sc' tr',ev P n st sc tr=.trap c m sc' tr'→tr'.length+m≤tr.length+n∧m≤n)∧∀ sc' tr',ev P n st sc tr=.spent sc' tr'→tr'.length≤tr.length+n
 | 0,_,_,_=>⟨fun _ _ _ _ h=>(by cases h),fun _ _ _ _ h=>(by cases h),fun _ _ h=>(by cases h; omega)⟩
 | _+1,[],_,_=>⟨fun _ _ _ _ h=>(by cases h),fun _ _ _ _ h=>(by cases h),fun _ _ h=>(by cases h; omega)⟩
 | n+1,x :: R,sc,tr=>by
  rw [Ot];cases hs:Oq P x R sc tr with
  | go st sc' tr' =>
   have hl:=(Zfn hs).2;obtain⟨h1,h2,h3⟩:=Zjl P n st sc' tr';refine⟨fun l m a b h=>?_,fun c m a b h=>?_,fun a b h=>?_⟩
   ·
    have:=h1 l m a b h; omega
   ·
    have:=h2 c m a b h; omega
   ·
    have:=h3 a b h; omega
  | done l sc' tr' =>
   refine⟨fun l m a b h=>?_,fun c m a b h=>(by cases h),fun a b h=>(by cases h)⟩;cases h
   have:tr'=tr:=by
    unfold Oq at hs;repeat' split at hs
    all_goals cases hs
    rfl
   subst this;omega
  | trap c sc' tr' =>
   refine⟨fun l m a b h=>(by cases h),fun c m a b h=>?_,fun a b h=>(by cases h)⟩;cases h
   have:tr'=tr:=by
    unfold Oq at hs;repeat' split at hs
    all_goals cases hs
    rfl
   subst this;omega
def Sd (P:Zl)(w0:World)(pb b fb fo fc F:Nat)(xv:Value)(n:Nat):Prop :=
 ∀(N:Nat→Prop) (w:World) (k:Nat) (ws o:List Int) (wp sp tp:Option Addr) (wc scc tc:Nat) (sc:List Int) (tr:List (Int×List Int)) (es:List Value) (fnn:Int),Nt w0 w pb b N (.slice (some ⟨fb,fo,none⟩) P.funcs.length fc) xv F ((F-n:Nat):Int) (.slice sp sc.length scc) sc 0 0 (.slice tp tr.length tc) tr es fnn→(∀ g,w.heap.size≤g→N g)→n≤F→k<P.funcs.length→ws.length=Xe (P.funcs.getD k Ze).params→(∀ n ∈ ws,0≤n∧n<18446744073709551616)→Lv w (.slice wp ws.length wc) ws→tr.length≤F-n →
  Calls Tryz.prog 24 #[.pointer (some ⟨pb,0,none⟩),.int .i64 (k:Int),.slice wp ws.length wc] w fun e w'=>∃ lv,e=.returned lv∧Uw w0 w' pb b w.heap.size N (.slice (some ⟨fb,fo,none⟩) P.funcs.length fc) xv F (P.funcs.getD k Ze).results lv (ev P n [Jj (P.funcs.getD k Ze) ws o] sc tr)∧Xj b pb (fun _=>False) w w'
def Se (P:Zl)(w0 w V:World)(pb b vb sb fbx:Nat)(gs:List Nat)(N:Nat→Prop)(fv xv:Value)(F:Nat)(fn:Zn)(box:Array Value)(r0:Ye)(o:List Int)(m e:Nat)(x:Xl)(sc:List Int)(tr:List (Int×List Int))(es:List Value)(sp tp:Option Addr)(scc tc:Nat)(fnn:Int):Prop :=
 (x.fn=fn∧Lp P x∧x.o=o)∧Ng V x b vb sb gs∧V.heap[fbx]?=some (.cells box 60 (0,0))∧Xj b pb (fun g=>g=vb∨g ∈ gs) w V∧Nt w0 V pb b N fv xv F ((F-m:Nat):Int) (.slice sp sc.length scc) sc 0 0 (.slice tp tr.length tc) tr es fnn∧r0=ev P e [x] sc tr∧tr.length≤F-e∧e≤F
section
variable {P:Zl} {w0 w V V':World} {pb b vb sb fbx:Nat} {gs:List Nat} {N:Nat→Prop} {fv xv:Value} {F:Nat} {fn:Zn} {box:Array Value} {r0:Ye} {o:List Int} {m e:Nat} {x:Xl} {sc:List Int} {tr:List (Int×List Int)} {es:List Value} {sp tp:Option Addr} {scc tc:Nat} {fnn:Int}
theorem Se.grow (h:Se P w0 w V pb b vb sb fbx gs N fv xv F fn box r0 o m e x sc tr es sp tp scc tc fnn)(hb:Below V.heap.size V V'):Se P w0 w V' pb b vb sb fbx gs N fv xv F fn box r0 o m e x sc tr es sp tp scc tc fnn:=by
 obtain⟨h1,h2,h3,h4,h5,h6,h7⟩:=h;exact⟨h1,h2.below hb,(hb.block _ (Zd h3)).trans h3,h4.trans (Gq hb),h5.grow hb,h6,h7⟩
theorem Se.own {sp':Option Addr}{sc':List Int}{scc' m':Nat}{fnn':Int}(h:Se P w0 w V pb b vb sb fbx gs N fv xv F fn box r0 o m e x sc tr es sp tp scc tc fnn)(hO:Oj pb V V'):Ng V' x b vb sb gs∧V'.heap[fbx]?=some (.cells box 60 (0,0))∧Xj b pb (fun g=>g=vb∨g ∈ gs) w V'∧(Sm V' pb fv xv F ((F-m':Nat):Int) (.slice sp' sc'.length scc') 0 0 (.slice tp tr.length tc) fnn'→Lv w0 (.slice sp' sc'.length scc') sc'→(∀ n ∈ sc',0≤n∧n<18446744073709551616)→Nt w0 V' pb b N fv xv F ((F-m':Nat):Int) (.slice sp' sc'.length scc') sc' 0 0 (.slice tp tr.length tc) tr es fnn'):=by
 obtain⟨h1,h2,h3,h4,h5,-⟩:=h;have hr:=h5.row;exact⟨h2.keep (hO.oth _ (Zs h2.v hr (by decide))) (hO.oth _ (Zs h2.s hr (by decide))) (fun k hk=>hO.oth _ (Zs (h2.each k hk).1 hr (by decide))),(hO.oth _ (Zs h3 hr (by decide))).trans h3,h4.trans (Uv hO),fun a b c=>h5.own hO a b c⟩
theorem Se.loc (h:Se P w0 w V pb b vb sb fbx gs N fv xv F fn box r0 o m (m+1) x sc tr es sp tp scc tc fnn)(hG:Yp P)(hN:¬ N vb){X:Xl}(hX:Ld (Zp x) (Zo x)=X)(h12:(Zo x).op≠12)(h13:(Zo x).op≠13)(h16:(Zo x).op<16)(hR:Ng V' X b vb sb gs)(h1:V'.os=V.os)(h2:V'.tape=V.tape)(h3:V'.output=V.output)(h4:V.heap.size≤V'.heap.size)(hk:∀ g,g<V.heap.size→g≠vb→g ∉ gs→V'.heap[g]?=V.heap[g]?) :
 Se P w0 w V' pb b vb sb fbx gs N fv xv F fn box r0 o m m X sc tr es sp tp scc tc fnn:=by
 obtain⟨⟨f1,f2,f3⟩,k2,k3,k4,k5,k6,k7,k8⟩:=h;have hwf:=f2.loc hG h16;rw [hX] at hwf;refine⟨⟨by rw [← hX,Zfm]; exact f1,hwf,by rw [← hX,Zdy]; exact f3⟩,hR,(hk fbx (Zd k3) (Zs k3 k2.v (by decide)) (fun hm=>by obtain⟨c,hc⟩:=k2.mem fbx hm; exact Zs k3 hc (by decide) rfl)).trans k3,k4.trans ⟨h1,h2,h3,h4,fun g g1 _ g3 _=>hk g g1 (fun e=>g3 (Or.inl e)) (fun e=>g3 (Or.inr e))⟩,k5.vars ⟨_,k2.v⟩ k2.mem k2.vB k2.memB hN h1 h2 h3 h4 hk,?_,by omega,by omega⟩;rw [k6,Ot];unfold Oq;rw [if_neg h12,if_neg h13,if_neg (by omega),if_neg (by omega),if_neg (by omega),hX];rfl
end
def sU (s:Nat→Value):Nat→Value
 | 16=>undef
 | 19=>undef
 | i=>s i
def Fr (a0 a1 a2 a3 a4 a5 a6 a7 a8 a9 a10 a11 a12:Value)(s:Nat→Value):Act:=⟨List.toArray (a0 :: a1 :: a2 :: a3 :: a4 :: a5 :: a6 :: a7 :: a8 :: a9 :: a10 :: a11 :: a12 :: ((List.range 214).map fun i=>sU s (13+i))),[]⟩
set_option maxRecDepth 100000 in
theorem Xk (a0 a1 a2 a3 a4 a5 a6 a7 a8 a9 a10 a11 a12:Value)(s:Nat→Value):Fr a0 a1 a2 a3 a4 a5 a6 a7 a8 a9 a10 a11 a12 s=⟨List.toArray (a0 :: a1 :: a2 :: a3 :: a4 :: a5 :: a6 :: a7 :: a8 :: a9 :: a10 :: a11 :: a12 :: s 13 :: s 14 :: s 15 :: undef :: s 17 :: s 18 :: undef :: s 20 :: s 21 :: s 22 :: s 23 :: s 24 :: s 25 :: s 26 :: s 27 :: s 28 :: s 29 :: s 30 :: s 31 :: s 32 :: s 33 :: s 34 :: s 35 :: s 36 :: s 37 :: s 38 :: s 39 :: s 40 :: s 41 :: s 42 :: s 43 :: s 44 :: s 45 :: s 46 :: s 47 :: s 48 :: s 49 :: s 50 :: s 51 :: s 52 :: s 53 :: s 54 :: s 55 :: s 56 :: s 57 :: s 58 :: s 59 :: s 60 :: s 61 :: s 62 :: s 63 :: s 64 :: s 65 :: s 66 :: s 67 :: s 68 :: s 69 :: s 70 :: s 71 :: s 72 :: s 73 :: s 74 :: s 75 :: s 76 :: s 77 :: s 78 :: s 79 :: s 80 :: s 81 :: s 82 :: s 83 :: s 84 :: s 85 :: s 86 :: s 87 :: s 88 :: s 89 :: s 90 :: s 91 :: s 92 :: s 93 :: s 94 :: s 95 :: s 96 :: s 97 :: s 98 :: s 99 :: s 100 :: s 101 :: s 102 :: s 103 :: s 104 :: s 105 :: s 106 :: s 107 :: s 108 :: s 109 :: s 110 :: s 111 :: s 112 :: s 113 :: s 114 :: s 115 :: s 116 :: s 117 :: s 118 :: s 119 :: s 120 :: s 121 :: s 122 :: s 123 :: s 124 :: s 125 :: s 126 :: s 127 :: s 128 :: s 129 :: s 130 :: s 131 :: s 132 :: s 133 :: s 134 :: s 135 :: s 136 :: s 137 :: s 138 :: s 139 :: s 140 :: s 141 :: s 142 :: s 143 :: s 144 :: s 145 :: s 146 :: s 147 :: s 148 :: s 149 :: s 150 :: s 151 :: s 152 :: s 153 :: s 154 :: s 155 :: s 156 :: s 157 :: s 158 :: s 159 :: s 160 :: s 161 :: s 162 :: s 163 :: s 164 :: s 165 :: s 166 :: s 167 :: s 168 :: s 169 :: s 170 :: s 171 :: s 172 :: s 173 :: s 174 :: s 175 :: s 176 :: s 177 :: s 178 :: s 179 :: s 180 :: s 181 :: s 182 :: s 183 :: s 184 :: s 185 :: s 186 :: s 187 :: s 188 :: s 189 :: s 190 :: s 191 :: s 192 :: s 193 :: s 194 :: s 195 :: s 196 :: s 197 :: s 198 :: s 199 :: s 200 :: s 201 :: s 202 :: s 203 :: s 204 :: s 205 :: s 206 :: s 207 :: s 208 :: s 209 :: s 210 :: s 211 :: s 212 :: s 213 :: s 214 :: s 215 :: s 216 :: s 217 :: s 218 :: s 219 :: s 220 :: s 221 :: s 222 :: s 223 :: s 224 :: s 225 :: s 226 :: []),[]⟩:=rfl
theorem Zcy (l:List Value)(n:Nat)(h:(l.length,l.getD 3 undef,l.getD 6 undef)=(n,undef,undef)):l=(List.range n).map fun i=>sU (fun j=>l.getD (j-13) undef) (13+i):=by
 injection h with h1 h2;injection h2 with h2 h3;refine List.ext_getElem (by simp [h1]) fun k k1 k2=>?_;simp only [List.getElem_map,List.getElem_range];have hg:l.getD k undef=l[k]:=by simp [List.getD,k1]
 by_cases e3:k=3
 ·
  subst e3;rw [← hg,h2];rfl
 by_cases e6:k=6
 ·
  subst e6;rw [← hg,h3];rfl
 rw [← hg];unfold sU;split
 ·
  omega
 ·
  omega
 ·
  simp
theorem Yy {Q:Act→World→Prop}{a0 a1 a2 a3 a4 a5 a6 a7 a8 a9 a10 a11 a12:Value}{w:World}(h:∀ s,Q (Fr a0 a1 a2 a3 a4 a5 a6 a7 a8 a9 a10 a11 a12 s) w)(l:List Value)(hl:(l.length,l.getD 3 undef,l.getD 6 undef)=(214,undef,undef)):Q ⟨List.toArray (a0 :: a1 :: a2 :: a3 :: a4 :: a5 :: a6 :: a7 :: a8 :: a9 :: a10 :: a11 :: a12 :: l),[]⟩ w:=by
 have:=h (fun i=>l.getD (i-13) undef);unfold Fr at this;rw [← Zcy l 214 hl] at this;exact this
theorem Jf {Q:Act→World→Prop}{a0 a1 a2 a3 a4 a5 a6 a7 a8 a9 a10 a11 a12 v:Value}{w:World}(h:∀ s,s 35=v→Q (Fr a0 a1 a2 a3 a4 a5 a6 a7 a8 a9 a10 a11 a12 s) w)(l:List Value)(hl:(l.length,l.getD 3 undef,l.getD 6 undef)=(214,undef,undef))(hv:l.getD 22 undef=v):Q ⟨List.toArray (a0 :: a1 :: a2 :: a3 :: a4 :: a5 :: a6 :: a7 :: a8 :: a9 :: a10 :: a11 :: a12 :: l),[]⟩ w:=by
 have:=h (fun i=>l.getD (i-13) undef) hv;unfold Fr at this;rw [← Zcy l 214 hl] at this;exact this
def Zpj (n r:Act→World→Prop):Exit→Act→World→Prop
 | .normal,a,w=>n a w
 | .ret,a,w=>r a w
 | _,_,_=>False
theorem Js {P:Program}{c:Code}{Q0:Exit→Act→World→Prop}{a:Act}{w:World}(h:c.wp P (Zpj (Q0 .normal) (Q0 .ret)) a w):c.wp P Q0 a w:=wp_mono h (fun e a w hq=>by
 cases e <;> first | exact hq | exact hq.elim)
def Zcz:Code→Code
 | .seq _ b=>b
 | c=>c
def cIn:Code→Code
 | .block _ c=>c
 | .loop c=>c
 | c=>c
def Zpk:Code→Code
 | .cond _ a _=>a
 | c=>c
def Zpl:Code→Code
 | .cond _ _ b=>b
 | c=>c
noncomputable def swB:Code:=Zcz (Zcz (Zcz (Zcz (cIn (cIn (cIn (Zcz (Zcz (Tryz.f37.body.getD .skip)))))))))
noncomputable def Ml:Nat→Code
 | 0=>cIn swB
 | n+1=>Zpl (Zcz (Ml n))
noncomputable def Db (n:Nat):Code:=Zpk (Zcz (Ml n))
set_option maxHeartbeats 4000000 in
set_option maxRecDepth 100000 in
theorem Zqc {op:Int}{a0 a1 a2 a3 a4 a5 a6 a7 a8 a9 a10 a11 a12:Value}{s:Nat→Value}{w:World}{Q0:Exit→Act→World→Prop}(hs:s 35=.int .i64 op)(ho:(op==(1:Int))=false)(h:(∀ s',s' 35=.int .i64 op→Code.wp Tryz.prog (Ml 1) Q0 (Fr a0 a1 a2 a3 a4 a5 a6 a7 a8 a9 a10 a11 a12 s') w)):Code.wp Tryz.prog (Ml 0) Q0 (Fr a0 a1 a2 a3 a4 a5 a6 a7 a8 a9 a10 a11 a12 s) w:=by
 rw [Xk,hs];have H:=J h;clear h hs;conv=>arg 2; whnf
 refine wp_seq_k fun K hK=>?_;have HK:=J hK;clear hK;go_wp2_with fail
 refine G HK _ _ (wp_cond_false rfl ?_);refine Jf (Q:=fun a w=>Code.wp Tryz.prog (Ml 1) Q0 a w) (G H) _ ?_ ?_ <;> rfl
set_option maxHeartbeats 4000000 in
set_option maxRecDepth 100000 in
theorem Zqd {a0 a1 a2 a3 a4 a5 a6 a7 a8 a9 a10 a11 a12:Value}{s:Nat→Value}{w:World}{Q0:Exit→Act→World→Prop}(hs:s 35=.int .i64 1)  (h:(∀ s',Code.wp Tryz.prog (Db 0) Q0 (Fr a0 a1 a2 a3 a4 a5 a6 a7 a8 a9 a10 a11 a12 s') w)):Code.wp Tryz.prog (Ml 0) Q0 (Fr a0 a1 a2 a3 a4 a5 a6 a7 a8 a9 a10 a11 a12 s) w:=by
 rw [Xk,hs];have H:=J h;clear h hs;conv=>arg 2; whnf
 refine wp_seq_k fun K hK=>?_;have HK:=J hK;clear hK;go_wp2_with fail
 refine G HK _ _ (wp_cond_true rfl ?_);refine Yy (Q:=fun a w=>Code.wp Tryz.prog (Db 0) Q0 a w) (G H) _ ?_; rfl
set_option maxHeartbeats 4000000 in
set_option maxRecDepth 100000 in
theorem Zqe {op:Int}{a0 a1 a2 a3 a4 a5 a6 a7 a8 a9 a10 a11 a12:Value}{s:Nat→Value}{w:World}{Q0:Exit→Act→World→Prop}(hs:s 35=.int .i64 op)(ho:(op==(2:Int))=false)(h:(∀ s',s' 35=.int .i64 op→Code.wp Tryz.prog (Ml 2) Q0 (Fr a0 a1 a2 a3 a4 a5 a6 a7 a8 a9 a10 a11 a12 s') w)):Code.wp Tryz.prog (Ml 1) Q0 (Fr a0 a1 a2 a3 a4 a5 a6 a7 a8 a9 a10 a11 a12 s) w:=by
 rw [Xk,hs];have H:=J h;clear h hs;conv=>arg 2; whnf
 refine wp_seq_k fun K hK=>?_;have HK:=J hK;clear hK;go_wp2_with fail
 refine G HK _ _ (wp_cond_false rfl ?_);refine Jf (Q:=fun a w=>Code.wp Tryz.prog (Ml 2) Q0 a w) (G H) _ ?_ ?_ <;> rfl
set_option maxHeartbeats 4000000 in
set_option maxRecDepth 100000 in
theorem Zqf {a0 a1 a2 a3 a4 a5 a6 a7 a8 a9 a10 a11 a12:Value}{s:Nat→Value}{w:World}{Q0:Exit→Act→World→Prop}(hs:s 35=.int .i64 2)  (h:(∀ s',Code.wp Tryz.prog (Db 1) Q0 (Fr a0 a1 a2 a3 a4 a5 a6 a7 a8 a9 a10 a11 a12 s') w)):Code.wp Tryz.prog (Ml 1) Q0 (Fr a0 a1 a2 a3 a4 a5 a6 a7 a8 a9 a10 a11 a12 s) w:=by
 rw [Xk,hs];have H:=J h;clear h hs;conv=>arg 2; whnf
 refine wp_seq_k fun K hK=>?_;have HK:=J hK;clear hK;go_wp2_with fail
 refine G HK _ _ (wp_cond_true rfl ?_);refine Yy (Q:=fun a w=>Code.wp Tryz.prog (Db 1) Q0 a w) (G H) _ ?_; rfl
set_option maxHeartbeats 4000000 in
set_option maxRecDepth 100000 in
theorem Zqg {op:Int}{a0 a1 a2 a3 a4 a5 a6 a7 a8 a9 a10 a11 a12:Value}{s:Nat→Value}{w:World}{Q0:Exit→Act→World→Prop}(hs:s 35=.int .i64 op)(ho:(op==(10:Int))=false)(h:(∀ s',s' 35=.int .i64 op→Code.wp Tryz.prog (Ml 3) Q0 (Fr a0 a1 a2 a3 a4 a5 a6 a7 a8 a9 a10 a11 a12 s') w)):Code.wp Tryz.prog (Ml 2) Q0 (Fr a0 a1 a2 a3 a4 a5 a6 a7 a8 a9 a10 a11 a12 s) w:=by
 rw [Xk,hs];have H:=J h;clear h hs;conv=>arg 2; whnf
 refine wp_seq_k fun K hK=>?_;have HK:=J hK;clear hK;go_wp2_with fail
 refine G HK _ _ (wp_cond_false rfl ?_);refine Jf (Q:=fun a w=>Code.wp Tryz.prog (Ml 3) Q0 a w) (G H) _ ?_ ?_ <;> rfl
set_option maxHeartbeats 4000000 in
set_option maxRecDepth 100000 in
theorem Zqh {a0 a1 a2 a3 a4 a5 a6 a7 a8 a9 a10 a11 a12:Value}{s:Nat→Value}{w:World}{Q0:Exit→Act→World→Prop}(hs:s 35=.int .i64 10)  (h:(∀ s',Code.wp Tryz.prog (Db 2) Q0 (Fr a0 a1 a2 a3 a4 a5 a6 a7 a8 a9 a10 a11 a12 s') w)):Code.wp Tryz.prog (Ml 2) Q0 (Fr a0 a1 a2 a3 a4 a5 a6 a7 a8 a9 a10 a11 a12 s) w:=by
 rw [Xk,hs];have H:=J h;clear h hs;conv=>arg 2; whnf
 refine wp_seq_k fun K hK=>?_;have HK:=J hK;clear hK;go_wp2_with fail
 refine G HK _ _ (wp_cond_true rfl ?_);refine Yy (Q:=fun a w=>Code.wp Tryz.prog (Db 2) Q0 a w) (G H) _ ?_; rfl
set_option maxHeartbeats 4000000 in
set_option maxRecDepth 100000 in
theorem Zqi {op:Int}{a0 a1 a2 a3 a4 a5 a6 a7 a8 a9 a10 a11 a12:Value}{s:Nat→Value}{w:World}{Q0:Exit→Act→World→Prop}(hs:s 35=.int .i64 op)(ho:(op==(11:Int))=false)(h:(∀ s',s' 35=.int .i64 op→Code.wp Tryz.prog (Ml 4) Q0 (Fr a0 a1 a2 a3 a4 a5 a6 a7 a8 a9 a10 a11 a12 s') w)):Code.wp Tryz.prog (Ml 3) Q0 (Fr a0 a1 a2 a3 a4 a5 a6 a7 a8 a9 a10 a11 a12 s) w:=by
 rw [Xk,hs];have H:=J h;clear h hs;conv=>arg 2; whnf
 refine wp_seq_k fun K hK=>?_;have HK:=J hK;clear hK;go_wp2_with fail
 refine G HK _ _ (wp_cond_false rfl ?_);refine Jf (Q:=fun a w=>Code.wp Tryz.prog (Ml 4) Q0 a w) (G H) _ ?_ ?_ <;> rfl
set_option maxHeartbeats 4000000 in
set_option maxRecDepth 100000 in
theorem Zqj {a0 a1 a2 a3 a4 a5 a6 a7 a8 a9 a10 a11 a12:Value}{s:Nat→Value}{w:World}{Q0:Exit→Act→World→Prop}(hs:s 35=.int .i64 11)  (h:(∀ s',Code.wp Tryz.prog (Db 3) Q0 (Fr a0 a1 a2 a3 a4 a5 a6 a7 a8 a9 a10 a11 a12 s') w)):Code.wp Tryz.prog (Ml 3) Q0 (Fr a0 a1 a2 a3 a4 a5 a6 a7 a8 a9 a10 a11 a12 s) w:=by
 rw [Xk,hs];have H:=J h;clear h hs;conv=>arg 2; whnf
 refine wp_seq_k fun K hK=>?_;have HK:=J hK;clear hK;go_wp2_with fail
 refine G HK _ _ (wp_cond_true rfl ?_);refine Yy (Q:=fun a w=>Code.wp Tryz.prog (Db 3) Q0 a w) (G H) _ ?_; rfl
set_option maxHeartbeats 4000000 in
set_option maxRecDepth 100000 in
theorem Zqk {op:Int}{a0 a1 a2 a3 a4 a5 a6 a7 a8 a9 a10 a11 a12:Value}{s:Nat→Value}{w:World}{Q0:Exit→Act→World→Prop}(hs:s 35=.int .i64 op)(ho:(op==(12:Int))=false)(h:(∀ s',s' 35=.int .i64 op→Code.wp Tryz.prog (Ml 5) Q0 (Fr a0 a1 a2 a3 a4 a5 a6 a7 a8 a9 a10 a11 a12 s') w)):Code.wp Tryz.prog (Ml 4) Q0 (Fr a0 a1 a2 a3 a4 a5 a6 a7 a8 a9 a10 a11 a12 s) w:=by
 rw [Xk,hs];have H:=J h;clear h hs;conv=>arg 2; whnf
 refine wp_seq_k fun K hK=>?_;have HK:=J hK;clear hK;go_wp2_with fail
 refine G HK _ _ (wp_cond_false rfl ?_);refine Jf (Q:=fun a w=>Code.wp Tryz.prog (Ml 5) Q0 a w) (G H) _ ?_ ?_ <;> rfl
set_option maxHeartbeats 4000000 in
set_option maxRecDepth 100000 in
theorem Zql {a0 a1 a2 a3 a4 a5 a6 a7 a8 a9 a10 a11 a12:Value}{s:Nat→Value}{w:World}{Q0:Exit→Act→World→Prop}(hs:s 35=.int .i64 12)  (h:(∀ s',Code.wp Tryz.prog (Db 4) Q0 (Fr a0 a1 a2 a3 a4 a5 a6 a7 a8 a9 a10 a11 a12 s') w)):Code.wp Tryz.prog (Ml 4) Q0 (Fr a0 a1 a2 a3 a4 a5 a6 a7 a8 a9 a10 a11 a12 s) w:=by
 rw [Xk,hs];have H:=J h;clear h hs;conv=>arg 2; whnf
 refine wp_seq_k fun K hK=>?_;have HK:=J hK;clear hK;go_wp2_with fail
 refine G HK _ _ (wp_cond_true rfl ?_);refine Yy (Q:=fun a w=>Code.wp Tryz.prog (Db 4) Q0 a w) (G H) _ ?_; rfl
set_option maxHeartbeats 4000000 in
set_option maxRecDepth 100000 in
theorem Zqm {op:Int}{a0 a1 a2 a3 a4 a5 a6 a7 a8 a9 a10 a11 a12:Value}{s:Nat→Value}{w:World}{Q0:Exit→Act→World→Prop}(hs:s 35=.int .i64 op)(ho:(op==(13:Int))=false)(h:(∀ s',s' 35=.int .i64 op→Code.wp Tryz.prog (Ml 6) Q0 (Fr a0 a1 a2 a3 a4 a5 a6 a7 a8 a9 a10 a11 a12 s') w)):Code.wp Tryz.prog (Ml 5) Q0 (Fr a0 a1 a2 a3 a4 a5 a6 a7 a8 a9 a10 a11 a12 s) w:=by
 rw [Xk,hs];have H:=J h;clear h hs;conv=>arg 2; whnf
 refine wp_seq_k fun K hK=>?_;have HK:=J hK;clear hK;go_wp2_with fail
 refine G HK _ _ (wp_cond_false rfl ?_);refine Jf (Q:=fun a w=>Code.wp Tryz.prog (Ml 6) Q0 a w) (G H) _ ?_ ?_ <;> rfl
set_option maxHeartbeats 4000000 in
set_option maxRecDepth 100000 in
theorem Zqn {a0 a1 a2 a3 a4 a5 a6 a7 a8 a9 a10 a11 a12:Value}{s:Nat→Value}{w:World}{Q0:Exit→Act→World→Prop}(hs:s 35=.int .i64 13)  (h:(∀ s',Code.wp Tryz.prog (Db 5) Q0 (Fr a0 a1 a2 a3 a4 a5 a6 a7 a8 a9 a10 a11 a12 s') w)):Code.wp Tryz.prog (Ml 5) Q0 (Fr a0 a1 a2 a3 a4 a5 a6 a7 a8 a9 a10 a11 a12 s) w:=by
 rw [Xk,hs];have H:=J h;clear h hs;conv=>arg 2; whnf
 refine wp_seq_k fun K hK=>?_;have HK:=J hK;clear hK;go_wp2_with fail
 refine G HK _ _ (wp_cond_true rfl ?_);refine Yy (Q:=fun a w=>Code.wp Tryz.prog (Db 5) Q0 a w) (G H) _ ?_; rfl
set_option maxHeartbeats 4000000 in
set_option maxRecDepth 100000 in
theorem Zqo {op:Int}{a0 a1 a2 a3 a4 a5 a6 a7 a8 a9 a10 a11 a12:Value}{s:Nat→Value}{w:World}{Q0:Exit→Act→World→Prop}(hs:s 35=.int .i64 op)(ho:(op==(14:Int))=false)(h:(∀ s',s' 35=.int .i64 op→Code.wp Tryz.prog (Ml 7) Q0 (Fr a0 a1 a2 a3 a4 a5 a6 a7 a8 a9 a10 a11 a12 s') w)):Code.wp Tryz.prog (Ml 6) Q0 (Fr a0 a1 a2 a3 a4 a5 a6 a7 a8 a9 a10 a11 a12 s) w:=by
 rw [Xk,hs];have H:=J h;clear h hs;conv=>arg 2; whnf
 refine wp_seq_k fun K hK=>?_;have HK:=J hK;clear hK;go_wp2_with fail
 refine G HK _ _ (wp_cond_false rfl ?_);refine Jf (Q:=fun a w=>Code.wp Tryz.prog (Ml 7) Q0 a w) (G H) _ ?_ ?_ <;> rfl
set_option maxHeartbeats 4000000 in
set_option maxRecDepth 100000 in
theorem Zqp {a0 a1 a2 a3 a4 a5 a6 a7 a8 a9 a10 a11 a12:Value}{s:Nat→Value}{w:World}{Q0:Exit→Act→World→Prop}(hs:s 35=.int .i64 14)  (h:(∀ s',Code.wp Tryz.prog (Db 6) Q0 (Fr a0 a1 a2 a3 a4 a5 a6 a7 a8 a9 a10 a11 a12 s') w)):Code.wp Tryz.prog (Ml 6) Q0 (Fr a0 a1 a2 a3 a4 a5 a6 a7 a8 a9 a10 a11 a12 s) w:=by
 rw [Xk,hs];have H:=J h;clear h hs;conv=>arg 2; whnf
 refine wp_seq_k fun K hK=>?_;have HK:=J hK;clear hK;go_wp2_with fail
 refine G HK _ _ (wp_cond_true rfl ?_);refine Yy (Q:=fun a w=>Code.wp Tryz.prog (Db 6) Q0 a w) (G H) _ ?_; rfl
set_option maxHeartbeats 4000000 in
set_option maxRecDepth 100000 in
theorem Zqq {op:Int}{a0 a1 a2 a3 a4 a5 a6 a7 a8 a9 a10 a11 a12:Value}{s:Nat→Value}{w:World}{Q0:Exit→Act→World→Prop}(hs:s 35=.int .i64 op)(ho:(op==(15:Int))=false)(h:(∀ s',s' 35=.int .i64 op→Code.wp Tryz.prog (Ml 8) Q0 (Fr a0 a1 a2 a3 a4 a5 a6 a7 a8 a9 a10 a11 a12 s') w)):Code.wp Tryz.prog (Ml 7) Q0 (Fr a0 a1 a2 a3 a4 a5 a6 a7 a8 a9 a10 a11 a12 s) w:=by
 rw [Xk,hs];have H:=J h;clear h hs;conv=>arg 2; whnf
 refine wp_seq_k fun K hK=>?_;have HK:=J hK;clear hK;go_wp2_with fail
 refine G HK _ _ (wp_cond_false rfl ?_);refine Jf (Q:=fun a w=>Code.wp Tryz.prog (Ml 8) Q0 a w) (G H) _ ?_ ?_ <;> rfl
set_option maxHeartbeats 4000000 in
set_option maxRecDepth 100000 in
theorem Zqr {a0 a1 a2 a3 a4 a5 a6 a7 a8 a9 a10 a11 a12:Value}{s:Nat→Value}{w:World}{Q0:Exit→Act→World→Prop}(hs:s 35=.int .i64 15)  (h:(∀ s',Code.wp Tryz.prog (Db 7) Q0 (Fr a0 a1 a2 a3 a4 a5 a6 a7 a8 a9 a10 a11 a12 s') w)):Code.wp Tryz.prog (Ml 7) Q0 (Fr a0 a1 a2 a3 a4 a5 a6 a7 a8 a9 a10 a11 a12 s) w:=by
 rw [Xk,hs];have H:=J h;clear h hs;conv=>arg 2; whnf
 refine wp_seq_k fun K hK=>?_;have HK:=J hK;clear hK;go_wp2_with fail
 refine G HK _ _ (wp_cond_true rfl ?_);refine Yy (Q:=fun a w=>Code.wp Tryz.prog (Db 7) Q0 a w) (G H) _ ?_; rfl
set_option maxHeartbeats 4000000 in
set_option maxRecDepth 100000 in
theorem Zqs {op:Int}{a0 a1 a2 a3 a4 a5 a6 a7 a8 a9 a10 a11 a12:Value}{s:Nat→Value}{w:World}{Q0:Exit→Act→World→Prop}(hs:s 35=.int .i64 op)(ho:(op==(16:Int))=false)(h:(∀ s',s' 35=.int .i64 op→Code.wp Tryz.prog (Ml 9) Q0 (Fr a0 a1 a2 a3 a4 a5 a6 a7 a8 a9 a10 a11 a12 s') w)):Code.wp Tryz.prog (Ml 8) Q0 (Fr a0 a1 a2 a3 a4 a5 a6 a7 a8 a9 a10 a11 a12 s) w:=by
 rw [Xk,hs];have H:=J h;clear h hs;conv=>arg 2; whnf
 refine wp_seq_k fun K hK=>?_;have HK:=J hK;clear hK;go_wp2_with fail
 refine G HK _ _ (wp_cond_false rfl ?_);refine Jf (Q:=fun a w=>Code.wp Tryz.prog (Ml 9) Q0 a w) (G H) _ ?_ ?_ <;> rfl
set_option maxHeartbeats 4000000 in
set_option maxRecDepth 100000 in
theorem Zqt {a0 a1 a2 a3 a4 a5 a6 a7 a8 a9 a10 a11 a12:Value}{s:Nat→Value}{w:World}{Q0:Exit→Act→World→Prop}(hs:s 35=.int .i64 16)  (h:(∀ s',Code.wp Tryz.prog (Db 8) Q0 (Fr a0 a1 a2 a3 a4 a5 a6 a7 a8 a9 a10 a11 a12 s') w)):Code.wp Tryz.prog (Ml 8) Q0 (Fr a0 a1 a2 a3 a4 a5 a6 a7 a8 a9 a10 a11 a12 s) w:=by
 rw [Xk,hs];have H:=J h;clear h hs;conv=>arg 2; whnf
 refine wp_seq_k fun K hK=>?_;have HK:=J hK;clear hK;go_wp2_with fail
 refine G HK _ _ (wp_cond_true rfl ?_);refine Yy (Q:=fun a w=>Code.wp Tryz.prog (Db 8) Q0 a w) (G H) _ ?_; rfl
set_option maxHeartbeats 4000000 in
set_option maxRecDepth 100000 in
theorem Zqu {op:Int}{a0 a1 a2 a3 a4 a5 a6 a7 a8 a9 a10 a11 a12:Value}{s:Nat→Value}{w:World}{Q0:Exit→Act→World→Prop}(hs:s 35=.int .i64 op)(ho:(op==(17:Int))=false)(h:(∀ s',s' 35=.int .i64 op→Code.wp Tryz.prog (Ml 10) Q0 (Fr a0 a1 a2 a3 a4 a5 a6 a7 a8 a9 a10 a11 a12 s') w)):Code.wp Tryz.prog (Ml 9) Q0 (Fr a0 a1 a2 a3 a4 a5 a6 a7 a8 a9 a10 a11 a12 s) w:=by
 rw [Xk,hs];have H:=J h;clear h hs;conv=>arg 2; whnf
 refine wp_seq_k fun K hK=>?_;have HK:=J hK;clear hK;go_wp2_with fail
 refine G HK _ _ (wp_cond_false rfl ?_);refine Jf (Q:=fun a w=>Code.wp Tryz.prog (Ml 10) Q0 a w) (G H) _ ?_ ?_ <;> rfl
set_option maxHeartbeats 4000000 in
set_option maxRecDepth 100000 in
theorem Zqv {a0 a1 a2 a3 a4 a5 a6 a7 a8 a9 a10 a11 a12:Value}{s:Nat→Value}{w:World}{Q0:Exit→Act→World→Prop}(hs:s 35=.int .i64 17)  (h:(∀ s',Code.wp Tryz.prog (Db 9) Q0 (Fr a0 a1 a2 a3 a4 a5 a6 a7 a8 a9 a10 a11 a12 s') w)):Code.wp Tryz.prog (Ml 9) Q0 (Fr a0 a1 a2 a3 a4 a5 a6 a7 a8 a9 a10 a11 a12 s) w:=by
 rw [Xk,hs];have H:=J h;clear h hs;conv=>arg 2; whnf
 refine wp_seq_k fun K hK=>?_;have HK:=J hK;clear hK;go_wp2_with fail
 refine G HK _ _ (wp_cond_true rfl ?_);refine Yy (Q:=fun a w=>Code.wp Tryz.prog (Db 9) Q0 a w) (G H) _ ?_; rfl
set_option maxHeartbeats 4000000 in
set_option maxRecDepth 100000 in
theorem Zpm {op:Int}{a0 a1 a2 a3 a4 a5 a6 a7 a8 a9 a10 a11 a12:Value}{s:Nat→Value}{w:World}{Q0:Exit→Act→World→Prop}(hs:s 35=.int .i64 op)(ho:(op==(18:Int))=false)(h:(∀ s',s' 35=.int .i64 op→Code.wp Tryz.prog (Ml 11) Q0 (Fr a0 a1 a2 a3 a4 a5 a6 a7 a8 a9 a10 a11 a12 s') w)):Code.wp Tryz.prog (Ml 10) Q0 (Fr a0 a1 a2 a3 a4 a5 a6 a7 a8 a9 a10 a11 a12 s) w:=by
 rw [Xk,hs];have H:=J h;clear h hs;conv=>arg 2; whnf
 refine wp_seq_k fun K hK=>?_;have HK:=J hK;clear hK;go_wp2_with fail
 refine G HK _ _ (wp_cond_false rfl ?_);refine Jf (Q:=fun a w=>Code.wp Tryz.prog (Ml 11) Q0 a w) (G H) _ ?_ ?_ <;> rfl
set_option maxHeartbeats 4000000 in
set_option maxRecDepth 100000 in
theorem Zpn {a0 a1 a2 a3 a4 a5 a6 a7 a8 a9 a10 a11 a12:Value}{s:Nat→Value}{w:World}{Q0:Exit→Act→World→Prop}(hs:s 35=.int .i64 18)  (h:(∀ s',Code.wp Tryz.prog (Db 10) Q0 (Fr a0 a1 a2 a3 a4 a5 a6 a7 a8 a9 a10 a11 a12 s') w)):Code.wp Tryz.prog (Ml 10) Q0 (Fr a0 a1 a2 a3 a4 a5 a6 a7 a8 a9 a10 a11 a12 s) w:=by
 rw [Xk,hs];have H:=J h;clear h hs;conv=>arg 2; whnf
 refine wp_seq_k fun K hK=>?_;have HK:=J hK;clear hK;go_wp2_with fail
 refine G HK _ _ (wp_cond_true rfl ?_);refine Yy (Q:=fun a w=>Code.wp Tryz.prog (Db 10) Q0 a w) (G H) _ ?_; rfl
def ExN (P:Zl)(w0 W:World)(pb b vb sb fbx ib:Nat)(gs:List Nat)(N:Nat→Prop)(fv xv:Value)(F:Nat)(fn:Zn)(box:Array Value)(r0:Ye)(o:List Int)(m:Nat)(Q0:Exit→Act→World→Prop)(a1 a4 a6 a7 a8 a9:Value):Prop :=
 ∀(m':Nat) (X:Xl) (V5:World) (sc:List Int) (tr:List (Int×List Int)) (es:List Value) (sp tp:Option Addr) (scc tc:Nat) (fnn:Int) (s:Nat→Value),m'≤m→Se P w0 W V5 pb b vb sb fbx gs N fv xv F fn box r0 o m' m' X sc tr es sp tp scc tc fnn→Q0 .normal (Fr (.pointer (some ⟨pb,0,none⟩)) a1 (.slice (some ⟨vb,0,none⟩) fn.homes.length fn.homes.length) (.slice (some ⟨sb,0,none⟩) fn.slots.length fn.slots.length) a4 (.pointer (some ⟨fbx,0,none⟩)) a6 a7 a8 a9 (.int .i64 X.b) (.int .i64 X.i) (.pointer (some ⟨ib,0,none⟩)) s) V5
def Ow (P:Zl)(w0 w':World)(pb b B:Nat)(N:Nat→Prop)(fv xv:Value)(F n:Nat)(fn:Zn)(o:List Int)(lv:Value)(again:Bool)(r0:Ye):Prop :=
 (again=true∧∃(k m:Nat) (ws sc:List Int) (tr:List (Int×List Int)) (es:List Value) (sp tp:Option Addr) (scc tc:Nat),k<P.funcs.length∧m<n∧m≤F∧(P.funcs.getD k Ze).results=fn.results∧ws.length=Xe (P.funcs.getD k Ze).params∧(∀ n ∈ ws,0≤n∧n<18446744073709551616)∧w'.ownsRow B 62 1 lv ws.length (uC ws)∧r0=ev P m [Jj (P.funcs.getD k Ze) ws o] sc tr∧Nt w0 w' pb b N fv xv F ((F-m:Nat):Int) (.slice sp sc.length scc) sc 0 0 (.slice tp tr.length tc) tr es k∧tr.length≤F-m)∨(again=false∧Uw w0 w' pb b B N fv xv F fn.results lv r0)
def ExR (P:Zl)(w0 W:World)(pb b vb B:Nat)(gs:List Nat)(N:Nat→Prop)(fv xv:Value)(F n:Nat)(fn:Zn)(r0:Ye)(o:List Int)(Q0:Exit→Act→World→Prop):Prop :=
 ∀(lp:Option Addr) (ln lc:Nat) (again:Bool) (V5:World) (a0 a1 a2 a3 a4 a5 a6 a7 a10 a11 a12:Value) (s:Nat→Value),Ow P w0 V5 pb b B N fv xv F n fn o (.slice lp ln lc) again r0→Xj b pb (fun g=>g=vb∨g ∈ gs) W V5→Q0 .ret (Fr a0 a1 a2 a3 a4 a5 a6 a7 (.slice lp ln lc) (.bool again) a10 a11 a12 s) V5
set_option maxHeartbeats 4000000 in
set_option maxRecDepth 100000 in
theorem Zjm {P:Zl}{w0 W V:World}{pb b vb sb fbx ib:Nat}{gs:List Nat}{N:Nat→Prop}{fv xv:Value}{F:Nat}{fn:Zn}{box:Array Value}{r0:Ye}{o:List Int}{m:Nat}{x:Xl}{sc:List Int}{tr:List (Int×List Int)}{es:List Value}{sp tp:Option Addr}{scc tc:Nat}{fnn:Int}{Q0:Exit→Act→World→Prop}{a1 a4 a6 a7 a8 a9:Value}{s:Nat→Value}{d a bb n f_:Int}{args:List (Int×Int)}{outs:List Int}{xap xop:Option Addr}{xac xoc:Nat}(hG:Yp P)(hNv:¬ N vb)(hB:Se P w0 W V pb b vb sb fbx gs N fv xv F fn box r0 o m (m+1) x sc tr es sp tp scc tc fnn)(hi:Zo x=⟨1,d,a,bb,n,f_,args,outs⟩)(hX:V.heap[ib]?=some (.cells #[.int .i64 1,.int .i64 d,.int .i64 a,.int .i64 bb,.int .u64 n,.int .i64 f_,.slice xap args.length xac,.slice xop outs.length xoc] 65 (0,0)))(hex:ExN P w0 W pb b vb sb fbx ib gs N fv xv F fn box r0 o m Q0 a1 a4 a6 a7 a8 a9) :
 Code.wp Tryz.prog (Db 0) Q0 (Fr (.pointer (some ⟨pb,0,none⟩)) a1 (.slice (some ⟨vb,0,none⟩) fn.homes.length fn.homes.length) (.slice (some ⟨sb,0,none⟩) fn.slots.length fn.slots.length) a4 (.pointer (some ⟨fbx,0,none⟩)) a6 a7 a8 a9 (.int .i64 x.b) (.int .i64 (x.i+1)) (.pointer (some ⟨ib,0,none⟩)) s) V:=by
 have hfl:=(hB.1.2.1.insG hG).fld;have hfn:=hB.1.1;have hvl:x.v.length=fn.homes.length:=by rw [hB.1.2.1.v,hfn]
 have hsl:x.s.length=fn.slots.length:=by rw [hB.1.2.1.slen,hfn]
 have hRF:=hB.2.1;rw [hi] at hfl;rw [hfn] at hfl;have HEX:=J hex;have HX:=J hX;have hfd:=Ub hfl (Or.inl (by simp only; decide));simp only at hfd;obtain⟨dd,rfl⟩:=Int.eq_ofNat_of_zero_le hfd.1;have hdI:(dd:Int)<(fn.homes.length:Int):=hfd.2;have hdv:dd<x.v.length:=by rw [hvl]; omega
 have g0:=hRF.loc hdv;have z0:=frozen_of_row _ _ dd _ _ hRF.v;clear hfd;have o1:=cR (G HX) 1;have o4:=cR (G HX) 4;have HB5:=J (hB.loc hG hNv (X:={ Zp x with v:=x.v.set dd n }) (by rw [hi]; unfold Ld; simp [Zp]) (by rw [hi]; show(1:Int)≠12; decide) (by rw [hi]; show(1:Int)≠13; decide) (by rw [hi]; show(1:Int)<16; decide) (V':=V.setCell ⟨vb,dd,none⟩ (.int .u64 n)) ((hRF.nx x.b (x.i+1)).setv dd n) rfl rfl rfl (by simp) (fun q _ h1 _=>heap_setCell_other _ _ _ _ h1));generalize x.v.getD dd 0=yd at g0;clear hB hi hX hG hNv hRF hex hfl hfn;rw [Xk];refine Js ?_;conv=>arg 2; whnf
 go_wp2_with fail
 refine Yy (Q:=Q0 .normal) (fun s'=>G HEX m _ _ _ _ _ _ _ _ _ _ s' (Nat.le_refl _) (G HB5)) _ ?_;rfl
set_option maxHeartbeats 4000000 in
set_option maxRecDepth 100000 in
theorem Zlq {P:Zl}{w0 W V:World}{pb b vb sb fbx ib:Nat}{gs:List Nat}{N:Nat→Prop}{fv xv:Value}{F:Nat}{fn:Zn}{box:Array Value}{r0:Ye}{o:List Int}{m:Nat}{x:Xl}{sc:List Int}{tr:List (Int×List Int)}{es:List Value}{sp tp:Option Addr}{scc tc:Nat}{fnn:Int}{Q0:Exit→Act→World→Prop}{a1 a4 a6 a7 a8 a9:Value}{s:Nat→Value}{d a bb n f_:Int}{args:List (Int×Int)}{outs:List Int}{xap xop:Option Addr}{xac xoc:Nat}(hG:Yp P)(hNv:¬ N vb)(hB:Se P w0 W V pb b vb sb fbx gs N fv xv F fn box r0 o m (m+1) x sc tr es sp tp scc tc fnn)(hi:Zo x=⟨14,d,a,bb,n,f_,args,outs⟩)(hX:V.heap[ib]?=some (.cells #[.int .i64 14,.int .i64 d,.int .i64 a,.int .i64 bb,.int .u64 n,.int .i64 f_,.slice xap args.length xac,.slice xop outs.length xoc] 65 (0,0)))(hex:ExN P w0 W pb b vb sb fbx ib gs N fv xv F fn box r0 o m Q0 a1 a4 a6 a7 a8 a9) :
 Code.wp Tryz.prog (Db 6) Q0 (Fr (.pointer (some ⟨pb,0,none⟩)) a1 (.slice (some ⟨vb,0,none⟩) fn.homes.length fn.homes.length) (.slice (some ⟨sb,0,none⟩) fn.slots.length fn.slots.length) a4 (.pointer (some ⟨fbx,0,none⟩)) a6 a7 a8 a9 (.int .i64 x.b) (.int .i64 (x.i+1)) (.pointer (some ⟨ib,0,none⟩)) s) V:=by
 have hfl:=(hB.1.2.1.insG hG).fld;have hfn:=hB.1.1;have hvl:x.v.length=fn.homes.length:=by rw [hB.1.2.1.v,hfn]
 have hsl:x.s.length=fn.slots.length:=by rw [hB.1.2.1.slen,hfn]
 have hRF:=hB.2.1;rw [hi] at hfl;rw [hfn] at hfl;have HEX:=J hex;have HX:=J hX;have hfa:=Ky hfl (Or.inl rfl);simp only at hfa;have o2:=cR (G HX) 2;have HB5:=J (hB.loc hG hNv (X:={ x with b:=a,i:=0 }) (by rw [hi]; unfold Ld; simp [Zp]) (by rw [hi]; show(14:Int)≠12; decide) (by rw [hi]; show(14:Int)≠13; decide) (by rw [hi]; show(14:Int)<16; decide) (V':=V) (hRF.nx a 0) rfl rfl rfl (Nat.le_refl _) (fun _ _ _ _=>rfl));clear hB hi hX hG hNv hRF hex hfl hfa hfn;rw [Xk];refine Js ?_;conv=>arg 2; whnf
 go_wp2_with fail
 refine Yy (Q:=Q0 .normal) (fun s'=>G HEX m _ _ _ _ _ _ _ _ _ _ s' (Nat.le_refl _) (G HB5)) _ ?_;rfl
set_option maxHeartbeats 4000000 in
set_option maxRecDepth 100000 in
theorem Zlr {P:Zl}{w0 W V:World}{pb b vb sb fbx ib:Nat}{gs:List Nat}{N:Nat→Prop}{fv xv:Value}{F:Nat}{fn:Zn}{box:Array Value}{r0:Ye}{o:List Int}{m:Nat}{x:Xl}{sc:List Int}{tr:List (Int×List Int)}{es:List Value}{sp tp:Option Addr}{scc tc:Nat}{fnn:Int}{Q0:Exit→Act→World→Prop}{a1 a4 a6 a7 a8 a9:Value}{s:Nat→Value}{d a bb n f_:Int}{args:List (Int×Int)}{outs:List Int}{xap xop:Option Addr}{xac xoc:Nat}(hG:Yp P)(hNv:¬ N vb)(hB:Se P w0 W V pb b vb sb fbx gs N fv xv F fn box r0 o m (m+1) x sc tr es sp tp scc tc fnn)(hi:Zo x=⟨15,d,a,bb,n,f_,args,outs⟩)(hX:V.heap[ib]?=some (.cells #[.int .i64 15,.int .i64 d,.int .i64 a,.int .i64 bb,.int .u64 n,.int .i64 f_,.slice xap args.length xac,.slice xop outs.length xoc] 65 (0,0)))(hex:ExN P w0 W pb b vb sb fbx ib gs N fv xv F fn box r0 o m Q0 a1 a4 a6 a7 a8 a9) :
 Code.wp Tryz.prog (Db 7) Q0 (Fr (.pointer (some ⟨pb,0,none⟩)) a1 (.slice (some ⟨vb,0,none⟩) fn.homes.length fn.homes.length) (.slice (some ⟨sb,0,none⟩) fn.slots.length fn.slots.length) a4 (.pointer (some ⟨fbx,0,none⟩)) a6 a7 a8 a9 (.int .i64 x.b) (.int .i64 (x.i+1)) (.pointer (some ⟨ib,0,none⟩)) s) V:=by
 have hfl:=(hB.1.2.1.insG hG).fld;have hfn:=hB.1.1;have hvl:x.v.length=fn.homes.length:=by rw [hB.1.2.1.v,hfn]
 have hsl:x.s.length=fn.slots.length:=by rw [hB.1.2.1.slen,hfn]
 have hRF:=hB.2.1;rw [hi] at hfl;rw [hfn] at hfl;have HEX:=J hex;have HX:=J hX;have hfd:=Ub hfl (Or.inr rfl);simp only at hfd;obtain⟨dd,rfl⟩:=Int.eq_ofNat_of_zero_le hfd.1;have hdI:(dd:Int)<(fn.homes.length:Int):=hfd.2;have hdv:dd<x.v.length:=by rw [hvl]; omega
 have g0:=hRF.loc hdv;have z0:=frozen_of_row _ _ dd _ _ hRF.v;clear hfd;have o1:=cR (G HX) 1;have o2:=cR (G HX) 2;have o3:=cR (G HX) 3;by_cases hy:x.v.getD dd 0=0
 ·
  have HB5:=J (hB.loc hG hNv (X:={ x with b:=bb,i:=0 }) (by rw [hi]; unfold Ld; simp [Zp,List.getD] at hy ⊢; simp [hy]) (by rw [hi]; show(15:Int)≠12; decide) (by rw [hi]; show(15:Int)≠13; decide) (by rw [hi]; show(15:Int)<16; decide) (V':=V) (hRF.nx bb 0) rfl rfl rfl (Nat.le_refl _) (fun _ _ _ _=>rfl));rw [hy] at g0;clear hy;clear hB hi hX hG hNv hRF hex hfl hfn;rw [Xk];refine Js ?_;conv=>arg 2; whnf
  go_wp2_with fail
  refine Yy (Q:=Q0 .normal) (fun s'=>G HEX m _ _ _ _ _ _ _ _ _ _ s' (Nat.le_refl _) (G HB5)) _ ?_;rfl
 ·
  have HB5:=J (hB.loc hG hNv (X:={ x with b:=a,i:=0 }) (by rw [hi]; unfold Ld; simp [Zp,List.getD] at hy ⊢; simp [hy]) (by rw [hi]; show(15:Int)≠12; decide) (by rw [hi]; show(15:Int)≠13; decide) (by rw [hi]; show(15:Int)<16; decide) (V':=V) (hRF.nx a 0) rfl rfl rfl (Nat.le_refl _) (fun _ _ _ _=>rfl));have hz0:(x.v.getD dd 0 != 0)=true:=by simpa using hy
  generalize x.v.getD dd 0=yd at g0 hz0;clear hy;clear hB hi hX hG hNv hRF hex hfl hfn;rw [Xk];refine Js ?_;conv=>arg 2; whnf
  go_wp2_with fail
  refine Yy (Q:=Q0 .normal) (fun s'=>G HEX m _ _ _ _ _ _ _ _ _ _ s' (Nat.le_refl _) (G HB5)) _ ?_;rfl
set_option maxHeartbeats 4000000 in
set_option maxRecDepth 100000 in
theorem Zls {P:Zl}{w0 W V:World}{pb b vb sb fbx ib:Nat}{gs:List Nat}{N:Nat→Prop}{fv xv:Value}{F:Nat}{fn:Zn}{box:Array Value}{r0:Ye}{o:List Int}{m:Nat}{x:Xl}{sc:List Int}{tr:List (Int×List Int)}{es:List Value}{sp tp:Option Addr}{scc tc:Nat}{fnn:Int}{Q0:Exit→Act→World→Prop}{a1 a4 a6 a7 a8 a9:Value}{s:Nat→Value}{d a bb n f_:Int}{args:List (Int×Int)}{outs:List Int}{xap xop:Option Addr}{xac xoc:Nat}(hG:Yp P)(hNv:¬ N vb)(hB:Se P w0 W V pb b vb sb fbx gs N fv xv F fn box r0 o m (m+1) x sc tr es sp tp scc tc fnn)(hi:Zo x=⟨2,d,a,bb,n,f_,args,outs⟩)(hX:V.heap[ib]?=some (.cells #[.int .i64 2,.int .i64 d,.int .i64 a,.int .i64 bb,.int .u64 n,.int .i64 f_,.slice xap args.length xac,.slice xop outs.length xoc] 65 (0,0)))(hex:ExN P w0 W pb b vb sb fbx ib gs N fv xv F fn box r0 o m Q0 a1 a4 a6 a7 a8 a9) :
 Code.wp Tryz.prog (Db 1) Q0 (Fr (.pointer (some ⟨pb,0,none⟩)) a1 (.slice (some ⟨vb,0,none⟩) fn.homes.length fn.homes.length) (.slice (some ⟨sb,0,none⟩) fn.slots.length fn.slots.length) a4 (.pointer (some ⟨fbx,0,none⟩)) a6 a7 a8 a9 (.int .i64 x.b) (.int .i64 (x.i+1)) (.pointer (some ⟨ib,0,none⟩)) s) V:=by
 have hfl:=(hB.1.2.1.insG hG).fld;have hfn:=hB.1.1;have hvl:x.v.length=fn.homes.length:=by rw [hB.1.2.1.v,hfn]
 have hsl:x.s.length=fn.slots.length:=by rw [hB.1.2.1.slen,hfn]
 have hRF:=hB.2.1;rw [hi] at hfl;rw [hfn] at hfl;have HEX:=J hex;have HX:=J hX;have hfd:=Ub hfl (Or.inl (by simp only; decide));simp only at hfd;obtain⟨dd,rfl⟩:=Int.eq_ofNat_of_zero_le hfd.1;have hdI:(dd:Int)<(fn.homes.length:Int):=hfd.2;have hdv:dd<x.v.length:=by rw [hvl]; omega
 have g0:=hRF.loc hdv;have z0:=frozen_of_row _ _ dd _ _ hRF.v;clear hfd;have hfaa:=Zfj hfl (by simp only; decide);simp only at hfaa;obtain⟨aa,rfl⟩:=Int.eq_ofNat_of_zero_le hfaa.1;have haaI:(aa:Int)<(fn.homes.length:Int):=hfaa.2;have haav:aa<x.v.length:=by rw [hvl]; omega
 have gaa:=hRF.loc haav;clear hfaa;have o1:=cR (G HX) 1;have o2:=cR (G HX) 2;have p1:V.drew.cell? ⟨ib,1,none⟩=_:=o1;have p2:V.drew.cell? ⟨ib,2,none⟩=_:=o2;have y0:V.drew.cell? ⟨vb,dd,none⟩=_:=g0;have ya:V.drew.cell? ⟨vb,aa,none⟩=_:=gaa;have yz:V.drew.frozen? ⟨vb,dd,none⟩=false:=z0;have HB5:=J (hB.loc hG hNv (X:={ Zp x with v:=x.v.set dd (x.v.getD aa 0) }) (by rw [hi]; unfold Ld; simp [Zp]) (by rw [hi]; show(2:Int)≠12; decide) (by rw [hi]; show(2:Int)≠13; decide) (by rw [hi]; show(2:Int)<16; decide) (V':=V.drew.setCell ⟨vb,dd,none⟩ (.int .u64 (x.v.getD aa 0))) (((hRF.below (Below.refl _ _).drew).nx x.b (x.i+1)).setv dd _) rfl rfl rfl (by simp) (fun q _ h1 _=>heap_setCell_other _ _ _ _ h1));generalize x.v.getD aa 0=yaa at gaa ya HB5;generalize x.v.getD dd 0=yd at g0 y0;clear hB hi hX hG hNv hRF hex hfl hfn;rw [Xk];refine Js ?_;conv=>arg 2; whnf
 go_region
 all_goals
  try simp only [Act.put]
  refine Yy (Q:=Q0 .normal) (fun s'=>G HEX m _ _ _ _ _ _ _ _ _ _ s' (Nat.le_refl _) (G HB5)) _ ?_;rfl
end Go.Proofs.YteddfaconabobaaGreatDoor
