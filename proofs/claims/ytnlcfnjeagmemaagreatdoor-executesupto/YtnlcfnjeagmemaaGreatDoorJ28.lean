import Derived.Test.YtnlcfnjeagmemaaGreatDoorJ3
import Derived.Test.YtnlcfnjeagmemaaGreatDoorExAi
import Derived.Test.YtnlcfnjeagmemaaGreatDoorJ26
namespace Go.Proofs.YtnlcfnjeagmemaaGreatDoor
open Go.RowKit
set_option maxHeartbeats 4000000
set_option maxRecDepth 100000
theorem Nq {P:Program}{fn:Func}{p q:Tmp}{px uy:TypeId}(h:fn.results=#[.cell p px,.cell q uy])(tmps:Array Value)(w:World)(g:Nat)(t:TypeId)(cs:Array Value)(fr:Nat×Nat)(d:TypeDesc)(g':Nat)(t':TypeId)(cs':Array Value)(fr':Nat×Nat)(d':TypeDesc)
 (hp:tmps.getD p undef=.pointer (some ⟨g,0,none⟩)) (hg:w.heap[g]?=some (.cells cs t fr)) (hu:P.underlying px=some d) (hd:(match d with | .struct _ | .array _ _=>true | _=>false)=true) (hi:(P.info? px).map (·.size)=some cs.size)
 (hp':tmps.getD q undef=.pointer (some ⟨g',0,none⟩)) (hg':w.heap[g']?=some (.cells cs' t' fr')) (hu':P.underlying uy=some d') (hd':(match d' with | .struct _ | .array _ _=>true | _=>false)=true) (hi':(P.info? uy).map (·.size)=some cs'.size) :
 (results fn tmps).run P w=.ok (.tuple #[.agg cs,.agg cs']) w:=by
 have e1:tmps[p]?.getD undef=.pointer (some ⟨g,0,none⟩):=by simpa using hp
 have e2:tmps[q]?.getD undef=.pointer (some ⟨g',0,none⟩):=by simpa using hp'
 simp [results,h,e1,e2,asAddr,run_loadVar_row w g t px cs fr d hg hu hd hi,run_loadVar_row w g' t' uy cs' fr' d' hg' hu' hd' hi']
theorem Tryz.infPfX:(Tryz.prog.info? 43).map (·.size)=some 4:=by kernel_rfl
structure ExI (w:World)(A:Nat)(T:Zm)(C:Zk)(csp cfp cep:Option Addr)(csc cfc cec:Nat)(ap sp:Option Addr)(ac scc:Nat)(ws sc:List Int):Prop where
 tT:TbO w T
 tTs:Lj w A (.slice T.ps T.ss.length T.cs) T.ss
 tS:Na w A (.slice csp C.sigs.length csc) C.sigs
 tE_:Na w A (.slice cep C.externs.length cec) C.externs
 tC:Gi w A (.slice cfp C.funcs.length cfc) C.funcs
 tA:A≤w.heap.size
 tws:Lz w A (.slice ap ws.length ac) ws
 tsc:Lz w A (.slice sp sc.length scc) sc
 tbl:(Zg C).length≤1099511627776
 tel:C.externs.length≤1099511627776
 tga:1<A
 tgn:∀ k,k<22→w.cell? ⟨1,k,none⟩=some (.int .i64 (nmL.getD k 0))
 tu:∀ x ∈ ws,0≤x∧x<18446744073709551616
 tus:∀ x ∈ sc,0≤x∧x<18446744073709551616
theorem ExI.below {w w':World}{A:Nat}{T:Zm}{C:Zk}{csp cfp cep:Option Addr}{csc cfc cec:Nat}{ap sp:Option Addr}{ac scc:Nat}{ws sc:List Int}(h:ExI w A T C csp cfp cep csc cfc cec ap sp ac scc ws sc)(hb:Below w.heap.size w w'):ExI w' A T C csp cfp cep csc cfc cec ap sp ac scc ws sc:=by
 have hk:Kx w.heap.size A A w w':=Gh hb;have hA:=h.tA;have hz:=hb.size;exact⟨h.tT.below hb,Gy h.tTs hk hA (Nat.le_refl _) (Nat.le_refl _),h.tS.below hb hA,h.tE_.below hb hA,h.tC.kx hk hA (Nat.le_refl _) (Nat.le_refl _),by omega,h.tws.kx hk hA (Nat.le_refl _) (Nat.le_refl _),h.tsc.kx hk hA (Nat.le_refl _) (Nat.le_refl _),h.tbl,h.tel,h.tga,fun k hk=>(World.cell?_of_block (hb.block 1 (by have:=h.tga; omega))).trans (h.tgn k hk),h.tu,h.tus⟩
theorem Ck {V:World}{b b':Nat}{tv:Value}{tr:List (Int×List Int)}{es:List Value}(h:TrM V b tv tr es)(hb:b'≤b):TrM V b' tv tr es:=⟨h.len,Yh h.row hb,fun k hk=>Yh (h.each k hk) hb⟩
theorem Zcs {V V':World}{b:Nat}{tv:Value}{tr:List (Int×List Int)}{es:List Value}(h:TrM V b tv tr es)(hk:∀ q,b≤q→q<V.heap.size→V'.heap[q]?=V.heap[q]?):TrM V' b tv tr es:=⟨h.len,Yn h.row fun g hg=>hk g (h.row.lt g hg).1 (h.row.lt g hg).2,fun k hk2=>Yn (h.each k hk2) fun g hg=>hk g ((h.each k hk2).lt g hg).1 ((h.each k hk2).lt g hg).2⟩
theorem Zxt (T:Zm)(C:Zk)(w:World)(A:Nat)(csp cfp cep:Option Addr)(csc cfc cec:Nat)(f:Int)(ap sp:Option Addr)(ac scc:Nat)(ws sc:List Int)(n st:Int)(h:ExI w A T C csp cfp cep csc cfc cec ap sp ac scc ws sc) :
 Calls Tryz.prog 17 #[.agg #[.int .i64 T.r,.int .i64 T.sp,.int .i64 T.lk,.int .i64 T.t0,.int .i64 T.t1,.slice T.pa T.ag.length T.ca,.slice T.pr T.rs.length T.cr,.slice T.ps T.ss.length T.cs,.int .i64 T.al,.int .i64 T.sh,.int .i64 T.br,.bool T.pairs],.agg #[.slice csp C.sigs.length csc,.slice cfp C.funcs.length cfc,.slice cep C.externs.length cec],.int .i64 f,.slice ap ws.length ac,.slice sp sc.length scc,.int .i64 n,.int .i64 st] w (Zcr w T C f ws sc n st):=by
 obtain⟨r0,hb0,hz0⟩:=Zs w (.cells #[.int .i64 T.r,.int .i64 T.sp,.int .i64 T.lk,.int .i64 T.t0,.int .i64 T.t1,.slice T.pa T.ag.length T.ca,.slice T.pr T.rs.length T.cr,.slice T.ps T.ss.length T.cs,.int .i64 T.al,.int .i64 T.sh,.int .i64 T.br,.bool T.pairs] 25 (0,0));obtain⟨r1,hb1,hz1⟩:=Zs (w.alloc (.cells #[.int .i64 T.r,.int .i64 T.sp,.int .i64 T.lk,.int .i64 T.t0,.int .i64 T.t1,.slice T.pa T.ag.length T.ca,.slice T.pr T.rs.length T.cr,.slice T.ps T.ss.length T.cs,.int .i64 T.al,.int .i64 T.sh,.int .i64 T.br,.bool T.pairs] 25 (0,0))) (.cells #[.slice csp C.sigs.length csc,.slice cfp C.funcs.length cfc,.slice cep C.externs.length cec] 29 (0,0));obtain⟨r2,hb2,hz2⟩:=Zs ((w.alloc (.cells #[.int .i64 T.r,.int .i64 T.sp,.int .i64 T.lk,.int .i64 T.t0,.int .i64 T.t1,.slice T.pa T.ag.length T.ca,.slice T.pr T.rs.length T.cr,.slice T.ps T.ss.length T.cs,.int .i64 T.al,.int .i64 T.sh,.int .i64 T.br,.bool T.pairs] 25 (0,0))).alloc (.cells #[.slice csp C.sigs.length csc,.slice cfp C.funcs.length cfc,.slice cep C.externs.length cec] 29 (0,0))) (.cells #[.int .i64 0,.slice none 0 0,.int .i64 0,.slice none 0 0,.int .i64 0,.int .i64 0] 41 (0,0));have e1:=hz1.trans (congrArg (·+1) hz0);have e2:=hz2.trans (congrArg (·+1) e1);rw [e1] at r2;have hB:=Zb (Zb hb0 hb1 (by omega)) hb2 (by omega);have h':=h.below hB;have HC:=Y (Zve T C _ A csp cfp cep csc cfc cec f ap sp ac scc ws sc n st h'.tT h'.tTs h'.tS h'.tE_ h'.tC h'.tA h'.tws h'.tsc h'.tbl h'.tel h'.tga h'.tgn h'.tu h'.tus)
 have HR2:=Y r2;have HB:=Y hB;have HZ:=Y e2;clear r0 hb0 hz0 r1 hb1 hz1 r2 hb2 hz2 e1 e2 hB h h';go_enter Tryz.func17,Tryz.ntmps17
 go_wp2_with fail
 rw [show w.heap.size+1+1=w.heap.size+2 from rfl];generalize World.alloc (World.alloc (World.alloc w _) _) _=W at HC HR2 HB HZ ⊢;refine(O HC).mono ?_;rintro e w3 ⟨vv,tv,es,rfl,hv,ht,hb3⟩;obtain⟨vp,vc,rfl⟩:=Ze hv;obtain⟨tp,tc,rfl⟩:=Ze ht.row;have HEX:=Y (show Zcr w T C f ws sc n st=Zcr w T C f ws sc n st from rfl);have hzW:=O HZ;have hz3:=hb3.size;have HQ:=Y ((hb3.block (w.heap.size+2) (by omega)).trans (O HR2));have HB3:=Y (Zb (O HB) hb3 (by omega));have HV:=Y hv;have HTR:=Y ht;have HZW:=Y hzW;clear hb3 HC HR2 HB hv ht HZ hzW;obtain⟨o,ho⟩:∃ o,Lc T C f ws sc n st=o:=⟨_,rfl⟩;rw [ho] at HV HTR ⊢;obtain⟨er,her⟩:∃ er,Zlz (Lv T C f ws n st)=er:=⟨_,rfl⟩;rw [her];have HO:=Y ho;have HER:=Y her;clear ho her;go_wp2_with (refine wpList_store_row rfl 41 _ _ rfl (w.heap.size+2) #[.int .i64 o.kind,.slice vp o.vals.length vc,.int .i64 o.code,.slice tp o.tr.length tc,.int .i64 o.steps,.int .i64 o.pk] rfl rfl 41 _ (O HQ) (Tryz.infOutX.trans rfl) rfl (by simp [Value.oneCell']) ?_)
 refine bodyPost_ret (Jx (fn:=Tryz.f17) (p:=14) (q:=15) (px:=41) rfl _ _ (w.heap.size+2) 41 #[.int .i64 o.kind,.slice vp o.vals.length vc,.int .i64 o.code,.slice tp o.tr.length tc,.int .i64 o.steps,.int .i64 o.pk] (0,0) _ rfl (setRow_heap _ _ _ _ _ _ (O HQ)) Tryz.underlying41 rfl (Tryz.infOutX.trans rfl)) rfl ?_;unfold Zcr;rw [O HO,O HER];have hw:=O HZW;exact⟨_,_,es,rfl,Yh (Yn (O HV) fun g hg=>setRow_other _ _ _ _ (by have:=((O HV).lt g hg).1; omega)) (by omega),Ck (Zcs (O HTR) fun q hq _=>setRow_other _ _ _ _ (by omega)) (by omega),Zp (O HB3) (by omega)⟩
def Gc (w:World)(T:Zm)(C:Zk)(f:Int)(ws sc:List Int)(n st:Int)(e:Ending)(w':World):Prop:=∃ vv tv es,e=.returned (.tuple #[.agg #[.int .i64 (Lc T C f ws sc n st).kind,vv,.int .i64 (Lc T C f ws sc n st).code,tv,.int .i64 (Lc T C f ws sc n st).steps,.int .i64 (Lc T C f ws sc n st).pk],flt (Lv T C f ws n st) (-1) (-1) (-1)])∧w'.ownsRow w.heap.size 62 1 vv (Lc T C f ws sc n st).vals.length (uC (Lc T C f ws sc n st).vals)∧TrM w' w.heap.size tv (Lc T C f ws sc n st).tr es∧Below w.heap.size w w'
theorem Zxu (T:Zm)(C:Zk)(w:World)(A:Nat)(csp cfp cep:Option Addr)(csc cfc cec:Nat)(f:Int)(ap sp:Option Addr)(ac scc:Nat)(ws sc:List Int)(n st:Int)(h:ExI w A T C csp cfp cep csc cfc cec ap sp ac scc ws sc)(hE:Jk w) :
 Calls Tryz.prog 7 #[.agg #[.int .i64 T.r,.int .i64 T.sp,.int .i64 T.lk,.int .i64 T.t0,.int .i64 T.t1,.slice T.pa T.ag.length T.ca,.slice T.pr T.rs.length T.cr,.slice T.ps T.ss.length T.cs,.int .i64 T.al,.int .i64 T.sh,.int .i64 T.br,.bool T.pairs],.agg #[.slice csp C.sigs.length csc,.slice cfp C.funcs.length cfc,.slice cep C.externs.length cec],.int .i64 f,.slice ap ws.length ac,.slice sp sc.length scc,.int .i64 n,.int .i64 st] w (Gc w T C f ws sc n st):=by
 obtain⟨r0,hb0,hz0⟩:=Zs w (.cells #[.int .i64 T.r,.int .i64 T.sp,.int .i64 T.lk,.int .i64 T.t0,.int .i64 T.t1,.slice T.pa T.ag.length T.ca,.slice T.pr T.rs.length T.cr,.slice T.ps T.ss.length T.cs,.int .i64 T.al,.int .i64 T.sh,.int .i64 T.br,.bool T.pairs] 25 (0,0));obtain⟨r1,hb1,hz1⟩:=Zs (w.alloc (.cells #[.int .i64 T.r,.int .i64 T.sp,.int .i64 T.lk,.int .i64 T.t0,.int .i64 T.t1,.slice T.pa T.ag.length T.ca,.slice T.pr T.rs.length T.cr,.slice T.ps T.ss.length T.cs,.int .i64 T.al,.int .i64 T.sh,.int .i64 T.br,.bool T.pairs] 25 (0,0))) (.cells #[.slice csp C.sigs.length csc,.slice cfp C.funcs.length cfc,.slice cep C.externs.length cec] 29 (0,0));obtain⟨r2,hb2,hz2⟩:=Zs ((w.alloc (.cells #[.int .i64 T.r,.int .i64 T.sp,.int .i64 T.lk,.int .i64 T.t0,.int .i64 T.t1,.slice T.pa T.ag.length T.ca,.slice T.pr T.rs.length T.cr,.slice T.ps T.ss.length T.cs,.int .i64 T.al,.int .i64 T.sh,.int .i64 T.br,.bool T.pairs] 25 (0,0))).alloc (.cells #[.slice csp C.sigs.length csc,.slice cfp C.funcs.length cfc,.slice cep C.externs.length cec] 29 (0,0))) (.cells #[.int .i64 0,.slice none 0 0,.int .i64 0,.slice none 0 0,.int .i64 0,.int .i64 0] 41 (0,0));obtain⟨r3,hb3,hz3⟩:=Zs (((w.alloc (.cells #[.int .i64 T.r,.int .i64 T.sp,.int .i64 T.lk,.int .i64 T.t0,.int .i64 T.t1,.slice T.pa T.ag.length T.ca,.slice T.pr T.rs.length T.cr,.slice T.ps T.ss.length T.cs,.int .i64 T.al,.int .i64 T.sh,.int .i64 T.br,.bool T.pairs] 25 (0,0))).alloc (.cells #[.slice csp C.sigs.length csc,.slice cfp C.funcs.length cfc,.slice cep C.externs.length cec] 29 (0,0))).alloc (.cells #[.int .i64 0,.slice none 0 0,.int .i64 0,.slice none 0 0,.int .i64 0,.int .i64 0] 41 (0,0))) (.cells #[.int .i64 0,.int .i64 0,.int .i64 0,.int .i64 0] 43 (0,0))
 have e1:=hz1.trans (congrArg (·+1) hz0);have e2:=hz2.trans (congrArg (·+1) e1);have e3:=hz3.trans (congrArg (·+1) e2);rw [e1] at r2;rw [e2] at r3;have hB:=Zb (Zb (Zb hb0 hb1 (by omega)) hb2 (by omega)) hb3 (by omega);have HC:=Y (Zxt T C _ A csp cfp cep csc cfc cec f ap sp ac scc ws sc n st (h.below hB));have HR2:=Y ((hb3.block (w.heap.size+2) (by omega)).trans r2);have HR3:=Y r3;have HB:=Y hB;have HZ:=Y e3;have HE:=Y (fun V (hb:Below w.heap.size w V)=>hE.keep hb);clear r0 hb0 hz0 r1 hb1 hz1 r2 hb2 hz2 r3 hb3 hz3 e1 e2 e3 hB h hE;go_enter Tryz.func7,Tryz.ntmps7
 go_wp2_with fail
 rw [show w.heap.size+1+1=w.heap.size+2 from rfl];rw [show w.heap.size+2+1=w.heap.size+3 from rfl];generalize World.alloc (World.alloc (World.alloc (World.alloc w _) _) _) _=W at HC HR2 HR3 HB HZ ⊢;refine(O HC).mono ?_;rintro e w3 ⟨vv,tv,es,rfl,hv,ht,hb3⟩;obtain⟨vp,vc,rfl⟩:=Ze hv;obtain⟨tp,tc,rfl⟩:=Ze ht.row;have hzW:=O HZ;have hz3:=hb3.size;have HD2:=Y ((hb3.block (w.heap.size+2) (by omega)).trans (O HR2));have HD3:=Y ((hb3.block (w.heap.size+3) (by omega)).trans (O HR3));have HB3:=Y (Zb (O HB) hb3 (by omega));have HV:=Y (Yh hv (show w.heap.size+4≤W.heap.size by omega));have HTR:=Y (Ck ht (show w.heap.size+4≤W.heap.size by omega));have hw3:w.heap.size+4≤w3.heap.size:=by omega
 clear hb3 HC HR2 HR3 HB hv ht HZ hzW hz3;have HF:=Y (fun V (hb:Below w.heap.size w V)=>show Calls Tryz.prog 18 #[Zlz (Lv T C f ws n st)] V fun e w'=>e=.returned (flt (Lv T C f ws n st) (-1) (-1) (-1))∧Below V.heap.size V w' by
  unfold Zlz;split
  ·
   rename_i h;rw [h];exact Zmg V
  ·
   exact Zff _ V (O HE V hb))
 have HRQ:=Y (fun(e:Ending) (w':World) (h:∃ vv tv es,e=.returned (.tuple #[.agg #[.int .i64 (Lc T C f ws sc n st).kind,vv,.int .i64 (Lc T C f ws sc n st).code,tv,.int .i64 (Lc T C f ws sc n st).steps,.int .i64 (Lc T C f ws sc n st).pk],flt (Lv T C f ws n st) (-1) (-1) (-1)])∧w'.ownsRow w.heap.size 62 1 vv (Lc T C f ws sc n st).vals.length (uC (Lc T C f ws sc n st).vals)∧TrM w' w.heap.size tv (Lc T C f ws sc n st).tr es∧Below w.heap.size w w')=>show Gc w T C f ws sc n st e w' from h);generalize Lv T C f ws n st=en at HF HRQ ⊢;generalize Zlz en=ev at HF ⊢;generalize Lc T C f ws sc n st=o at HV HTR HRQ ⊢;obtain⟨hl1,hl2,hl3⟩:=Zs w3 (.cells #[.int .i64 o.kind,.slice vp o.vals.length vc,.int .i64 o.code,.slice tp o.tr.length tc,.int .i64 o.steps,.int .i64 o.pk] 41 (0,0));have HAL:=Y (Zs w3 (.cells #[.int .i64 0,.slice none 0 0,.int .i64 0,.slice none 0 0,.int .i64 0,.int .i64 0] 41 (0,0)));clear hl1 hl2 hl3;go_upto_region 2 with(refine wpList_store_row rfl 41 _ _ rfl (w3.heap.size) #[.int .i64 o.kind,.slice vp o.vals.length vc,.int .i64 o.code,.slice tp o.tr.length tc,.int .i64 o.steps,.int .i64 o.pk] rfl rfl 41 _ ((O HAL).1) (Tryz.infOutX.trans rfl) rfl (by simp [Value.oneCell']) ?_)
 have hrl:=setRow_heap _ _ _ #[.int .i64 o.kind,.slice vp o.vals.length vc,.int .i64 o.code,.slice tp o.tr.length tc,.int .i64 o.steps,.int .i64 o.pk] _ _ (O HAL).1;have hbl:=Zp (T:=w3.heap.size) (cs:=#[.int .i64 o.kind,.slice vp o.vals.length vc,.int .i64 o.code,.slice tp o.tr.length tc,.int .i64 o.steps,.int .i64 o.pk]) (O HAL).2.1 (Nat.le_refl _);have hlt:=Zc hrl;clear HAL;generalize World.setRow (World.alloc w3 _) _ _=U at hrl hbl hlt ⊢;have HRL:=Y hrl;have HE2:=Y ((hbl.block (w.heap.size+2) (by omega)).trans (O HD2));have HE3:=Y ((hbl.block (w.heap.size+3) (by omega)).trans (O HD3));have HB5:=Y (Zb (O HB3) hbl (by omega));have HV5:=Y (Yn (O HV) fun g hg=>hbl.block g ((O HV).lt g hg).2);have HT5:=Y (Zcs (O HTR) fun q _ hq=>hbl.block q hq);have HFC:=Y (O HF U.drew (O HB5).drew);have hTl:w.heap.size+3<w3.heap.size:=by omega
 clear hrl hbl HE HF HD2 HD3 HB3 HV HTR;generalize w3.heap.size=Tl at HRL hlt hTl hw3 ⊢;refine wp_region_held_drew (S:=fun V=>V.heap[Tl]?=some (.cells #[.int .i64 o.kind,.slice vp o.vals.length vc,.int .i64 o.code,.slice tp o.tr.length tc,.int .i64 o.steps,.int .i64 o.pk] 41 (0,0))) (by kernel_rfl) (O HRL) (fun hHeld=>?_);refine wpAnyH_take (i:=0) (v:=?v0) rfl (by kernel_rfl) (by kernel_rfl) (by kernel_rfl) (fun _ _ _ h=>h) (Or.inl ⟨by rfl,?hy0⟩) (by assumption) ?_;case hy0 =>
  intro V hV;have c0:V.cell? ⟨Tl,0,none⟩=some (.int .i64 o.kind):=(cR hV 0);have c1:V.cell? ⟨Tl,1,none⟩=some (.slice vp o.vals.length vc):=(cR hV 1);have c2:V.cell? ⟨Tl,2,none⟩=some (.int .i64 o.code):=(cR hV 2);have c3:V.cell? ⟨Tl,3,none⟩=some (.slice tp o.tr.length tc):=(cR hV 3);have c4:V.cell? ⟨Tl,4,none⟩=some (.int .i64 o.steps):=(cR hV 4);have c5:V.cell? ⟨Tl,5,none⟩=some (.int .i64 o.pk):=(cR hV 5);go_simp;all_goals (with_reducible rfl)
 simp only [Act.put,zA,zB,zC,zD,zE];refine tT 1 ?_;refine tO 2 fun K hK=>?_;go_simp;refine(O HFC).mono ?_;rintro e w5 ⟨rfl,hb5⟩;have HS2:=Y ((hb5.block (w.heap.size+2) (by show w.heap.size+2<U.heap.size; omega)).trans (O HE2));have HS3:=Y ((hb5.block (w.heap.size+3) (by show w.heap.size+3<U.heap.size; omega)).trans (O HE3));have HSL:=Y ((hb5.block Tl (by show Tl<U.heap.size; omega)).trans (O HRL));have HBU:=Y (Zb (Below.refl U.heap.size U).drew hb5 (Nat.le_refl _));have hz5:=hb5.size;clear hb5;unfold flt;go_wp2_with fail
 refine kO hK (O HSL) (fun hHeld2=>?_);clear hK K;refine tO 3 fun K hK=>?_;rw [if_pos (by rfl)];refine wp_store_row 41 _ _ rfl (w.heap.size+2) #[.int .i64 o.kind,.slice vp o.vals.length vc,.int .i64 o.code,.slice tp o.tr.length tc,.int .i64 o.steps,.int .i64 o.pk] rfl rfl 41 _ (O HS2) (Tryz.infOutX.trans rfl) rfl (by simp [Value.oneCell']) ?_;have HS4:=Y ((setRow_other w5 (w.heap.size+2) (w.heap.size+3) #[.int .i64 o.kind,.slice vp o.vals.length vc,.int .i64 o.code,.slice tp o.tr.length tc,.int .i64 o.steps,.int .i64 o.pk] (by omega)).trans (O HS3));have HSM:=Y ((setRow_other w5 (w.heap.size+2) Tl #[.int .i64 o.kind,.slice vp o.vals.length vc,.int .i64 o.code,.slice tp o.tr.length tc,.int .i64 o.steps,.int .i64 o.pk] (by omega)).trans (O HSL));refine hK.out _ _ (O HSM) (fun hHeld2=>?_);clear hK K;try simp only [Act.put]
 refine tO 4 fun K hK=>?_;rw [if_pos (by rfl)];refine wp_store_row 43 _ _ rfl (w.heap.size+3) #[.int .i64 en,.int .i64 (-1),.int .i64 (-1),.int .i64 (-1)] rfl rfl 43 _ (O HS4) (Tryz.infPfX.trans rfl) rfl (by simp [Value.oneCell']) ?_;refine hK.out _ _ ((setRow_other _ (w.heap.size+3) Tl _ (by omega)).trans (O HSM)) (fun hHeld2=>?_);clear hK K;try simp only [Act.put]
 refine wpAnyH_done (by kernel_rfl) ?_ _;have HZ2:=Y ((setRow_other (w5.setRow (w.heap.size+2) #[.int .i64 o.kind,.slice vp o.vals.length vc,.int .i64 o.code,.slice tp o.tr.length tc,.int .i64 o.steps,.int .i64 o.pk]) (w.heap.size+3) (w.heap.size+2) #[.int .i64 en,.int .i64 (-1),.int .i64 (-1),.int .i64 (-1)] (by omega)).trans (setRow_heap _ _ _ #[.int .i64 o.kind,.slice vp o.vals.length vc,.int .i64 o.code,.slice tp o.tr.length tc,.int .i64 o.steps,.int .i64 o.pk] _ _ (O HS2)));have HZ3:=Y (setRow_heap _ _ _ #[.int .i64 en,.int .i64 (-1),.int .i64 (-1),.int .i64 (-1)] _ _ (O HS4));go_wp2;refine bodyPost_ret (Nq (fn:=Tryz.f7) (p:=14) (q:=15) (px:=41) (uy:=43) rfl _ _ (w.heap.size+2) 41 #[.int .i64 o.kind,.slice vp o.vals.length vc,.int .i64 o.code,.slice tp o.tr.length tc,.int .i64 o.steps,.int .i64 o.pk] (0,0) _ (w.heap.size+3) 43 #[.int .i64 en,.int .i64 (-1),.int .i64 (-1),.int .i64 (-1)] (0,0) _ rfl (O HZ2) Tryz.underlying41 rfl (Tryz.infOutX.trans rfl) rfl (O HZ3) Tryz.underlying43 rfl (Tryz.infPfX.trans rfl)) rfl ?_;have h6:=Zb (O HB5) (O HBU) (by omega);refine O HRQ _ _ ⟨_,_,es,rfl,Yh (Yn (O HV5) fun g hg=>?_) (show w.heap.size≤w.heap.size+4 by omega),Ck (Zcs (O HT5) fun q hq hq2=>?_) (show w.heap.size≤w.heap.size+4 by omega),Zp (Zp h6 (by omega)) (by omega)⟩
 ·
  have:=(O HV5).lt g hg;exact(setRow_other _ _ _ _ (by omega)).trans ((setRow_other _ _ _ _ (by omega)).trans ((O HBU).block g this.2))
 ·
  exact(setRow_other _ _ _ _ (by omega)).trans ((setRow_other _ _ _ _ (by omega)).trans ((O HBU).block q hq2))
set_option maxHeartbeats 4000000
set_option maxRecDepth 100000
def LE (w:World)(B eb rb sb:Nat)(v:Value)(n:Nat)(V:Nat→Value):Prop:=∃ p c,v=.slice p n c∧n≤c∧n<4611686018427387904∧∀ k,k<n→∃ g so,p=some ⟨g,so,none⟩∧g<B∧g≠eb∧g≠rb∧g≠sb∧w.cell? ⟨g,so+k,none⟩=some (V k)
theorem LE.ke {w w':World}{B eb rb sb n:Nat}{v:Value}{V:Nat→Value}(h:LE w B eb rb sb v n V)(k:Ke B eb rb sb w w'):LE w' B eb rb sb v n V:=by
 obtain⟨p,c,h1,h2,h3,h4⟩:=h;refine⟨p,c,h1,h2,h3,fun i hi=>?_⟩;obtain⟨g,so,e,hg,g1,g2,g3,hc⟩:=h4 i hi;exact⟨g,so,e,hg,g1,g2,g3,(Yp (k.oth g hg g1 g2 g3)).trans hc⟩
structure EF (w:World)(B eb rb sb:Nat)(G:Ji)(C:Zk):Prop where
 bg:∃ V,LE w B eb rb sb G.bg C.funcs.length V∧∀ f,f<C.funcs.length→LE w B eb rb sb (V f) (C.funcs.getD f []).length (fun b=>.int .i64 (Ja C (f:Int) (b:Int) 0))
 bk:LE w B eb rb sb G.bk (Zg C).length (fun i=>.int .i64 ((Lg C).getD i 0))
 cf:∃ p c,G.cf=.slice p C.funcs.length c
theorem EF.ke {w w':World}{B eb rb sb:Nat}{G:Ji}{C:Zk}(h:EF w B eb rb sb G C)(k:Ke B eb rb sb w w'):EF w' B eb rb sb G C:=by
 obtain⟨⟨V,h1,h2⟩,h3,h4⟩:=h;exact⟨⟨V,h1.ke k,fun f hf=>(h2 f hf).ke k⟩,h3.ke k,h4⟩
section
variable {w:World} {A B N:Nat} {G:Ji} {eb rb sb:Nat} {a:Int} {m:Zf}
theorem ER.at_ (h:ER w A B N G eb rb sb a m)(v:Int):ER (w.setCell ⟨eb,22,none⟩ (.int .i64 v)) A B N G eb rb sb v m:=by
 obtain⟨P,es,h⟩:=h;exact h.own (P':=P) (m':=m) (Zl eb 22 w (.int .i64 v)) (Uf h.ei rfl) ⟨rfl,rfl,rfl,rfl,.inl ⟨rfl,rfl⟩⟩ rfl rfl rfl
theorem ER.goto (h:ER w A B N G eb rb sb a m)(f b c:Int):ER w A B N G eb rb sb a { m with f:=f,bk:=b,at_:=c }:=by
 obtain⟨P,es,h⟩:=h;exact⟨P,es,h.ei,h.rg,h.mem,h.rv,h.mv,h.len,h.byt,h.vv,h.sc,h.tr,h.rbd,h.pk,h.ae,h.ar,h.as_,h.be,h.br,h.bs,h.bn,h.nw,h.vn,h.tn,h.en,h.vz,h.tz⟩
theorem Zub (h:ER w A B N G eb rb sb a m)(hz:Q0 m)(hT:TK G.T) :
 Calls Tryz.prog 43 #[.pointer (some ⟨eb,0,none⟩)] w fun e w'=>e=.returned (.bool (m.aligned G.T).2)∧ER w' A B N G eb rb sb a (m.aligned G.T).1∧Ke w.heap.size eb rb sb w w':=by
 obtain⟨P,hei,-,-,-⟩:=h.regs;have c8:w.cell? ⟨eb,8,none⟩=some (.int .i64 G.T.al):=(cR hei 8);have hw:IntKind.u64.wrap G.T.al=G.T.al:=by rcases hT.al with e | e | e <;> rw [e] <;> decide
 have hz0:G.T.al≠0:=by have:=hT.al; omega
 have hb:=h.rgb G.T.spN;have hsp:m.sp G.T=m.rg G.T.spN:=rfl;rw [← hsp] at hb;have HE:=Y h;clear h hei hsp;go_enter Tryz.func43,Tryz.ntmps43
 go_upto_region 1 with fail
 refine wp_region_held_drew (S:=fun V=>∃ k,V=w.drewN k) (by kernel_rfl) ⟨1,rfl⟩ (fun _=>?_);change wpAnyH _ _ _ _ _ _ _ _ (w.drewN 1)
 refine tE 0 ?_;refine tE 2 ?_;refine tE 3 ?_;refine tE 4 ?_;refine tE 5 ?_;refine tE 6 ?_;refine tE 7 ?_;refine tO 1 fun K hK=>?_;go_simp;refine(Nh ((O HE).dr 1) hT).mono ?_;rintro e w1 ⟨rfl,k1,hw1⟩;subst w1;rw [World.drewN_drewN];refine hK.out _ _ ⟨1+k1,rfl⟩ (fun _=>?_);clear hK K;change wpAnyH _ _ _ _ _ _ _ _ (w.drewN (1+k1))
 try simp only [Act.put,zA,zB,zC,zD,zE,zF]
 refine tE 8 ?_;refine tE 9 ?_;refine wpAnyH_done (by kernel_rfl) ?_ _;have ht:(m.sp G.T).tmod G.T.al=m.sp G.T % G.T.al:=Int.tmod_eq_emod_of_nonneg hb.1;by_cases hx:m.sp G.T % G.T.al=0
 ·
  have HQ:=Y (show m.aligned G.T=(m,true) by unfold Zf.aligned; rw [if_pos hx]);have hb':((m.sp G.T).tmod G.T.al != 0)=false:=by rw [ht,hx]; rfl
  rw [hb'];clear hx ht hb' c8;go_wp2;go_ret;rw [O HQ];exact⟨rfl,(O HE).dr _,(Ke.rf _ _ _ _ _).dr _⟩
 ·
  have HQ:=Y (show m.aligned G.T=(m.fault 3,false) by unfold Zf.aligned; rw [if_neg hx]);have hb':((m.sp G.T).tmod G.T.al != 0)=true:=by rw [ht]; simpa using hx
  rw [hb'];clear hx ht hb' c8;go_wp2_with fail
  refine(Mg ((O HE).dr (1+k1)) hz 3).mono ?_;rintro e w2 ⟨rfl,h2,k2⟩;have H2:=Y h2;have K2:=Y (((Ke.rf w.heap.size eb rb sb w).dr (1+k1)).tr k2);clear h2 k2;go_wp2;go_ret;rw [O HQ];exact⟨rfl,O H2,O K2⟩
def isM (T:Zm)(ns:List Int)(m:Zf):Zf×Bool:=if (ns.all fun r=>decide (0≤r∧r<T.r))=true then (m,true) else (m.fault 1,false)
theorem Zyh (h:ER w A B N G eb rb sb a m)(hz:Q0 m)(hT:TK G.T)(ns:List Int)(v:Value)(hv:Rs w v ns)(hn:ns.length≤3) :
 Calls Tryz.prog 46 #[.pointer (some ⟨eb,0,none⟩),v] w fun e w'=>e=.returned (.bool (isM G.T ns m).2)∧ER w' A B N G eb rb sb a (isM G.T ns m).1∧Ke w.heap.size eb rb sb w w':=by
 obtain⟨q,cq,rfl⟩:∃ p c,v=.slice p ns.length c:=by
  rcases hv with⟨e,p,c,hv⟩ | ⟨g,so,c,hv,-⟩
  ·
   rw [e]; exact⟨p,c,hv⟩
  ·
   exact⟨_,c,hv⟩
 have HV:=Y hv;have HE:=Y h;obtain⟨P,hei,hrv,-,-⟩:=h.regs;have c19:w.cell? ⟨eb,19,none⟩=some (.slice (some ⟨rb,0,none⟩) G.T.r.toNat G.T.r.toNat):=by rw [← hrv]; exact(cR hei 19)
 have hr4:=hT.r4;have hr16:=hT.r16;obtain⟨rn,hrn⟩:∃ rn:Nat,G.T.r=rn:=⟨G.T.r.toNat,by omega⟩;rw [hrn,Int.toNat_natCast] at c19;have HRN:=Y hrn;have hrn4:4≤rn:=by omega
 have hrn16:rn≤16:=by omega
 clear h hei hrv hv hrn hr4 hr16;go_enter Tryz.func46,Tryz.ntmps46
 go_wp2_with fail
 go_loopw [9] (fun s9 w'=>∃ k:Nat,s9=.int .i64 k∧k≤ns.length∧w'=w∧(ns.take k).all (fun r=>decide (0≤r∧r<G.T.r))=true) (fun s9 _=>ns.length-(intOf s9).toNat)
 case atStart=>exact⟨0,rfl,by omega,rfl,by simp⟩
 case round =>
  obtain⟨k,rfl,hk,hww,hall⟩:=hrel;subst wr;by_cases hk2:k<ns.length
  ·
   obtain⟨g,so,cap,hp,hc⟩:∃ g so cap,Value.slice q ns.length cq=.slice (some ⟨g,so,none⟩) ns.length cap∧∀ i,i<ns.length→w.cell? ⟨g,so+i,none⟩=some (.int .i64 (ns.getD i 0)):=by
    rcases O HV with⟨e,-⟩ | h'
    ·
     rw [e] at hk2; cases hk2
    ·
     exact h'
   injection hp with hp1 hp2 hp3;subst hp1;have d:=hc k hk2;have HTK:=Y (show(ns.take (k+1)).all (fun r=>decide (0≤r∧r<G.T.r))=decide (0≤ns.getD k 0∧ns.getD k 0<G.T.r) by
    rw [List.take_succ_eq_append_getElem hk2,List.all_append,hall];simp [List.getD,hk2])
   have HBAD:=Y (fun hne:¬ (0≤ns.getD k 0∧ns.getD k 0<G.T.r)=>show isM G.T ns m=(m.fault 1,false) by
    unfold isM;rw [if_neg];intro hh;rw [List.all_eq_true] at hh;have:=hh (ns.getD k 0) (Rn hk2);exact hne (of_decide_eq_true this))
   generalize ns.getD k 0=y at d HTK HBAD;clear hc hp2 hp3 hall;go_wp2_with fail
   refine(Mq y 0 ((rn:Int)-1) w).mono ?_;rintro e w1 ⟨rfl,hw1⟩;subst w1;by_cases hy:0≤y∧y<(rn:Int)
   ·
    have hib:Nf y 0 ((rn:Int)-1)=true:=decide_eq_true (by omega);rw [hib];have HY:=Y hy;clear d hib hy;go_wp2;go_roundw
    case rel=>exact⟨k+1,by go_num,by omega,trivial,by rw [O HTK,O HRN]; exact decide_eq_true (O HY)⟩
    case measure=>simp [intOf]; omega
   ·
    have hib:Nf y 0 ((rn:Int)-1)=false:=decide_eq_false (by omega);rw [hib];have HQ:=Y (O HBAD (by rw [O HRN]; exact hy));clear d hib hy HBAD HTK;go_wp2_with fail
    refine(Mg (O HE) hz 1).mono ?_;rintro e w2 ⟨rfl,h2,k2⟩;have H2:=Y h2;have K2:=Y k2;clear h2 k2;go_wp2;go_ret;rw [O HQ];exact⟨rfl,O H2,O K2⟩
  ·
   have hkn:k=ns.length:=by omega
   subst hkn;rw [List.take_length] at hall;have HQ:=Y (show isM G.T ns m=(m,true) by unfold isM; rw [if_pos hall]);clear hall;go_wp2;go_ret;rw [O HQ];exact⟨rfl,O HE,Ke.rf _ _ _ _ _⟩
end
set_option maxHeartbeats 4000000
set_option maxRecDepth 100000
section
variable {w:World} {A B N:Nat} {G:Ji} {eb rb sb:Nat} {a:Int} {m:Zf}
theorem Zjz (h:ER w A B N G eb rb sb a m)(hz:Q0 m)(hT:TK G.T)(pa pb:Int)(hpa:pa=-1∨0≤pa∧pa<G.T.r) :
 Calls Tryz.prog 33 #[.pointer (some ⟨eb,0,none⟩),.agg #[.int .i64 pa,.int .i64 pb]] w fun e w'=>e=.returned (Ly (m.read G.T (pa,pb)).2)∧ER w' A B N G eb rb sb a (m.read G.T (pa,pb)).1∧Ke w.heap.size eb rb sb w w':=by
 have hbd:=h.bd;obtain⟨r0,hb0,hz0⟩:=Zs w (.cells #[.int .i64 pa,.int .i64 pb] 91 (0,0));have HE:=Y (h.al (.cells #[.int .i64 pa,.int .i64 pb] 91 (0,0)));have HK:=Y (show Ke w.heap.size eb rb sb w (w.alloc (.cells #[.int .i64 pa,.int .i64 pb] 91 (0,0))) from Dm hb0);have HZ:=Y hz0;have p0:=((cR r0 0):_=some (Value.int .i64 pa));have p1:=((cR r0 1):_=some (Value.int .i64 pb));have hspl:=hT.spl;clear r0 hb0 hz0 h;go_enter Tryz.func33,Tryz.ntmps33
 go_upto_region 1 with fail
 generalize World.alloc w _=W at HE HK HZ p0 p1 ⊢;rcases hpa with rfl | ⟨h0,h1⟩
 ·
  have HQ:=Y (show m.read G.T (-1,pb)=m.load (Xr (m.sp G.T) pb) 8 by unfold Zf.read; rw [if_pos rfl]; rfl);go_upto_region 3 with fail
  have HC0:=Y (show(fun V=>V.cell? ⟨w.heap.size,0,none⟩=some (.int .i64 (-1))∧V.cell? ⟨w.heap.size,1,none⟩=some (.int .i64 pb)) W.drew from⟨p0,p1⟩);clear p0 p1;refine Zh (C:=fun V=>V.cell? ⟨w.heap.size,0,none⟩=some (.int .i64 (-1))∧V.cell? ⟨w.heap.size,1,none⟩=some (.int .i64 pb)) (d:=9) (by kernel_rfl) ?_;refine vD 0 (O HC0) ?_;refine vD 1 (O HC0) ?_;refine vD 3 (O HC0) ?_;refine vD 4 (O HC0) ?_;refine vO 2 fun K hK=>?_;go_simp;refine(Nh ((O HE).dr 1) hT).mono ?_;rintro e w1 ⟨rfl,k1,hw1⟩;rw [World.drewN_drewN] at hw1;subst w1;refine kO hK (fun _=>O HC0) ?_;clear hK K;refine vO 5 fun K hK=>?_;go_simp;refine(Sc ((O HE).dr (1+k1)) hz (m.sp G.T) pb 8).mono ?_;rintro e w2 ⟨rfl,h2,k2⟩;have HC2:=Y (show(fun V=>V.cell? ⟨w.heap.size,0,none⟩=some (.int .i64 (-1))∧V.cell? ⟨w.heap.size,1,none⟩=some (.int .i64 pb)) w2 from by
   have hr:=k2.oth w.heap.size (show w.heap.size<W.heap.size by have:=O HZ; omega) (by omega) (by omega) (by omega);exact⟨(World.cell?_of_block hr).trans (O HC0).1,(World.cell?_of_block hr).trans (O HC0).2⟩)
  have H2:=Y h2;have K2:=Y (((O HK).dr (1+k1)).tr (k2.low (show w.heap.size≤W.heap.size by have:=O HZ; omega)));clear h2 k2;unfold Ly;refine kO hK (fun _=>O HC2) ?_;clear hK K;refine vD 6 (O HC2) ?_;refine vD 7 (O HC2) ?_;refine vD 8 (O HC2) ?_;refine vO 9 fun K hK=>?_;go_simp;refine kO hK (fun hx=>by cases hx) ?_;clear hK K;refine Zi (by kernel_rfl) ?_ _;go_wp2;go_ret2;rw [O HQ];exact⟨rfl,O H2,O K2⟩
 ·
  obtain⟨r,rfl⟩:∃ r:Nat,pa=r:=⟨pa.toNat,by omega⟩;have HQ:=Y (show m.read G.T ((r:Int),pb)=(m,some (m.rg r)) by unfold Zf.read; rw [if_neg (by omega)]; rfl);obtain⟨P,hei,hrv,-,hrg⟩:=(O HE).regs;have hr1:r<G.T.r.toNat:=by omega
  have c19:W.cell? ⟨eb,19,none⟩=some (.slice (some ⟨rb,0,none⟩) G.T.r.toNat G.T.r.toNat):=by rw [← hrv]; exact(cR hei 19)
  have cr:=hrg r hr1;have hr2:(r:Int)<(G.T.r.toNat:Int):=by omega
  generalize G.T.r.toNat=rn at c19 hr1 hr2;clear hei hrv hrg h1;go_wp2;go_quiet (fail)
  go_wp2;go_ret2;rw [O HQ];exact⟨rfl,(O HE).dr _,(O HK).dr _⟩
theorem Se (h:ER w A B N G eb rb sb a m)(hz:Q0 m)(hT:TK G.T)(pa pb v:Int)(hpa:pa=-1∨0≤pa∧pa<G.T.r∧pa≠G.T.sp)(hv:0≤v∧v<18446744073709551616) :
 Calls Tryz.prog 28 #[.pointer (some ⟨eb,0,none⟩),.agg #[.int .i64 pa,.int .i64 pb],.int .u64 v] w fun e w'=>e=.returned (.bool (m.write G.T (pa,pb) v).2)∧ER w' A B N G eb rb sb a (m.write G.T (pa,pb) v).1∧Ke w.heap.size eb rb sb w w':=by
 have hbd:=h.bd;obtain⟨r0,hb0,hz0⟩:=Zs w (.cells #[.int .i64 pa,.int .i64 pb] 91 (0,0));have HE:=Y (h.al (.cells #[.int .i64 pa,.int .i64 pb] 91 (0,0)));have HK:=Y (show Ke w.heap.size eb rb sb w (w.alloc (.cells #[.int .i64 pa,.int .i64 pb] 91 (0,0))) from Dm hb0);have HZ:=Y hz0;have p0:=((cR r0 0):_=some (Value.int .i64 pa));have p1:=((cR r0 1):_=some (Value.int .i64 pb));have hspl:=hT.spl;clear r0 hb0 hz0 h;go_enter Tryz.func28,Tryz.ntmps28
 go_upto_region 1 with fail
 generalize World.alloc w _=W at HE HK HZ p0 p1 ⊢;rcases hpa with rfl | ⟨h0,h1,hns⟩
 ·
  have HQ:=Y (show m.write G.T (-1,pb) v=m.store (Xr (m.sp G.T) pb) 8 v by unfold Zf.write; rw [if_pos rfl]; rfl);go_upto_region 4 with fail
  have HC0:=Y (show(fun V=>V.cell? ⟨w.heap.size,0,none⟩=some (.int .i64 (-1))∧V.cell? ⟨w.heap.size,1,none⟩=some (.int .i64 pb)) W.drew from⟨p0,p1⟩);clear p0 p1;refine Zh (C:=fun V=>V.cell? ⟨w.heap.size,0,none⟩=some (.int .i64 (-1))∧V.cell? ⟨w.heap.size,1,none⟩=some (.int .i64 pb)) (d:=7) (by kernel_rfl) ?_;refine vD 0 (O HC0) ?_;refine vD 1 (O HC0) ?_;refine vD 3 (O HC0) ?_;refine vD 4 (O HC0) ?_;refine vD 5 (O HC0) ?_;refine vO 2 fun K hK=>?_;go_simp;refine(Nh ((O HE).dr 1) hT).mono ?_;rintro e w1 ⟨rfl,k1,hw1⟩;rw [World.drewN_drewN] at hw1;subst w1;refine kO hK (fun _=>O HC0) ?_;clear hK K;refine vO 6 fun K hK=>?_;go_simp;refine(Uh ((O HE).dr (1+k1)) hz (m.sp G.T) pb 8 v hv).mono ?_;rintro e w2 ⟨rfl,h2,k2⟩;have HC2:=Y (show(fun V=>V.cell? ⟨w.heap.size,0,none⟩=some (.int .i64 (-1))∧V.cell? ⟨w.heap.size,1,none⟩=some (.int .i64 pb)) w2 from by
   have hr:=k2.oth w.heap.size (show w.heap.size<W.heap.size by have:=O HZ; omega) (by omega) (by omega) (by omega);exact⟨(World.cell?_of_block hr).trans (O HC0).1,(World.cell?_of_block hr).trans (O HC0).2⟩)
  have H2:=Y h2;have K2:=Y (((O HK).dr (1+k1)).tr (k2.low (show w.heap.size≤W.heap.size by have:=O HZ; omega)));clear h2 k2;refine kO hK (fun _=>O HC2) ?_;clear hK K;refine vO 7 fun K hK=>?_;go_simp;refine kO hK (fun hx=>by cases hx) ?_;clear hK K;refine Zi (by kernel_rfl) ?_ _;go_wp2;go_ret;rw [O HQ];exact⟨rfl,O H2,O K2⟩
 ·
  obtain⟨r,rfl⟩:∃ r:Nat,pa=r:=⟨pa.toNat,by omega⟩;have HQ:=Y (show m.write G.T ((r:Int),pb) v=({ m with rg:=Yy m.rg r v },true) by
   unfold Zf.write Zf.setR;rw [if_neg (by omega),if_neg (by have:=hT.sp; show(r:Int).toNat≠_; omega)];rfl)
  obtain⟨P,es,hP⟩:=O HE;have hr1:r<G.T.r.toNat:=by omega
  have c19:W.cell? ⟨eb,19,none⟩=some (.slice (some ⟨rb,0,none⟩) G.T.r.toNat G.T.r.toNat):=by rw [← hP.rv]; exact(cR hP.ei 19)
  have cr:W.cell? ⟨rb,r,none⟩=some (.int .u64 (m.rg r)):=(Zd hP.rg r).trans (Kb _ _ _ hr1);have zr:=frozen_of_row _ _ r _ _ hP.rg;have hr2:(r:Int)<(G.T.r.toNat:Int):=by omega
  have HP:=Y hP;generalize G.T.r.toNat=rn at c19 hr1 hr2;clear hP h1 hns;go_upto_region 2 with fail
  refine Zh (C:=fun V=>∃ k,V=W.drewN k) (d:=8) (by kernel_rfl) ?_;change Ye _ _ _ _ _ _ _ _ _ (W.drewN 1)
  refine vE 0 ?_;refine vE 1 ?_;refine vE 2 ?_;refine vE 3 ?_;refine vE 4 ?_;refine vE 5 ?_;refine vE 6 ?_;refine vE 7 ?_;refine vO 8 fun K hK=>?_;go_simp;refine kO hK (fun hx=>by cases hx) ?_;clear hK K;refine Zi (by kernel_rfl) ?_ _;have H2:=Y (show ER _ A B N G eb rb sb a { m with rg:=Yy m.rg r v } from⟨P,es,((O HP).dr 1).reg r v hv⟩);have K2:=Y (show Ke w.heap.size eb rb sb w _ from((O HK).dr 1).tr (Zax (Zl rb r (W.drewN 1) (.int .u64 v))));clear c19 cr zr p0 p1;generalize World.setCell (W.drewN 1) _ _=U at H2 K2 ⊢;go_wp2;go_ret;rw [O HQ];exact⟨rfl,O H2,O K2⟩
theorem Zka (h:ER w A B N G eb rb sb a m)(C:Zk)(hF:EF w B eb rb sb G C)(f b:Nat)(hf:f<C.funcs.length)(hb:b<(C.funcs.getD f []).length) :
 Calls Tryz.prog 66 #[.pointer (some ⟨eb,0,none⟩),.int .i64 (f:Int),.int .i64 (b:Int)] w fun e w'=>e=.returned (.bool true)∧ER w' A B N G eb rb sb (Ja C (f:Int) (b:Int) 0) m∧Ke w.heap.size eb rb sb w w':=by
 obtain⟨P,hei,-,-,-⟩:=h.regs;obtain⟨⟨V,⟨p,c,hv,hc1,hc2,hat⟩,hV⟩,-,-⟩:=hF;obtain⟨g,so,hp,hg,-,-,-,d0⟩:=hat f hf;obtain⟨p2,c2,hv2,hc3,hc4,hat2⟩:=hV f hf;obtain⟨g2,so2,hp2,hg2,-,-,-,d1⟩:=hat2 b hb;subst hp hp2;rw [hv2] at d0;have c16:w.cell? ⟨eb,16,none⟩=some (.slice (some ⟨g,so,none⟩) C.funcs.length c):=by rw [← hv]; exact(cR hei 16)
 have c22:w.cell? ⟨eb,22,none⟩=some (.int .i64 a):=(cR hei 22);have z22:=frozen_of_row _ _ 22 _ _ hei;have H2:=Y (h.at_ (Ja C (f:Int) (b:Int) 0));have K2:=Y (show Ke w.heap.size eb rb sb w _ from Sa (Zl eb 22 w (.int .i64 (Ja C (f:Int) (b:Int) 0))));have hi1:Nf (f:Int) 0 ((C.funcs.length:Int)-1)=true:=decide_eq_true (by omega);generalize (C.funcs.getD f []).length=nb at hb d0 hc3 hc4;have hi2:Nf (b:Int) 0 ((nb:Int)-1)=true:=decide_eq_true (by omega);clear h hei hv hat hV hv2 hat2;go_enter Tryz.func66,Tryz.ntmps66
 go_wp2_with fail
 refine(Mq (f:Int) 0 ((C.funcs.length:Int)-1) w).mono ?_;rintro e w1 ⟨rfl,hw1⟩;subst w1;rw [hi1];go_wp2_with fail
 refine(Mq (b:Int) 0 ((nb:Int)-1) w).mono ?_;rintro e w1 ⟨rfl,hw1⟩;subst w1;rw [hi2];go_wp2;go_ret;exact⟨rfl,O H2,O K2⟩
end
end Go.Proofs.YtnlcfnjeagmemaaGreatDoor
