import Derived.Test.YteddfaconabobaaGreatDoorPk
import Derived.Test.YteddfaconabobaaGreatDoorRfM
import Derived.Test.YteddfaconabobaaGreatDoorJ24
import Derived.Deep.LoopGhost
import Derived.Deep.RegionHeld3
namespace Go.Proofs.YteddfaconabobaaGreatDoor
open Go.RowKit
theorem Tryz.infoSl:(Tryz.prog.info? 101).map (fun i=>(i.zero,i.size,i.bytes))=some (some (.slice none 0 0),1,24):=by kernel_rfl
theorem Tryz.infFnR:(Tryz.prog.info? 60).map (·.size)=some 5:=by kernel_rfl
theorem Zqx (n:Nat)(hn:n≤1000000)(w:World):(Instr.makeSlice 100 (.int .i64 (n:Int)) (.int .i64 (n:Int))).run Tryz.prog w=.ok (.slice (some ⟨w.heap.size,0,none⟩) n n) (w.alloc (.cells (Array.replicate n (Value.slice none 0 0)) 101)):=by
 obtain⟨ti,hti,hz0,hz1,hz2⟩:=Xs Tryz.infoSl;have h:=run_make (P:=Tryz.prog) w 100 101 ti _ Tryz.underlying100 hti hz0 .i64 .i64 (n:Int) (n:Int) (by omega) (Int.le_refl _) (by rw [hz2]; omega) (by omega);rw [hz1,Int.toNat_natCast,Nat.mul_one,show(Value.slice none 0 0).cells=#[.slice none 0 0] from rfl,Ri,List.toArray_replicate] at h;exact h
theorem Zqy (n:Nat)(hn:n≤1000000)(w:World):(Instr.makeSlice 101 (.int .i64 (n:Int)) (.int .i64 (n:Int))).run Tryz.prog w=.ok (.slice (some ⟨w.heap.size,0,none⟩) n n) (w.alloc (.cells (yC (List.replicate n 0)).toArray 5)):=by
 obtain⟨ti,hti,hz0,hz1,hz2⟩:=Xs Tryz.infoU8;have h:=run_make (P:=Tryz.prog) w 101 5 ti _ Tryz.underlying101 hti hz0 .i64 .i64 (n:Int) (n:Int) (by omega) (Int.le_refl _) (by rw [hz2]; omega) (by omega);rw [hz1,Int.toNat_natCast,Nat.mul_one,show(Value.int IntKind.u8 0).cells=#[.int .u8 0] from rfl,Ri,show List.replicate n (Value.int IntKind.u8 0)=yC (List.replicate n 0) by simp [yC]] at h;exact h
theorem Zjp (gs:List Nat)(ls:List Nat)(n g l:Nat)(hg:gs.length=ls.length)(hn:0<n):((Ic gs ls++List.replicate n (Value.slice none 0 0)).toArray).setIfInBounds ls.length (.slice (some ⟨g,0,none⟩) l l)=(Ic (gs++[g]) (ls++[l])++List.replicate (n-1) (Value.slice none 0 0)).toArray:=by
 rw [Zcq gs ls g l hg,List.setIfInBounds_toArray];congr 1
 have hl:(Ic gs ls).length=ls.length:=by simp [Ic]
 rw [List.set_append_right _ _ (by omega),hl,Nat.sub_self];obtain⟨k,rfl⟩:∃ k,n=k+1:=⟨n-1,by omega⟩;rw [List.replicate_succ,List.set_cons_zero];simp
theorem Ch (bs ws:List Int)(k:Nat):∀ j,j≤k→Jz bs (ws.take k) j=Jz bs ws j
 | 0,_=>rfl
 | j+1,h=>by
  rw [Ly,Ly,Ch bs ws k j (by omega)];congr 1
  simp [List.getD,show j<k by omega]
theorem Nt.wk {w0 V:World}{pb b:Nat}{N N':Nat→Prop}{fv xv sv tv:Value}{fuel steps kind code fnn:Int}{sc:List Int}{tr:List (Int×List Int)}{es:List Value}(h:Nt w0 V pb b N fv xv fuel steps sv sc kind code tv tr es fnn)(hN:∀ g,b≤g→g<V.heap.size→N g→N' g)(hp:∀ g,N' g→g≠pb):Nt w0 V pb b N' fv xv fuel steps sv sc kind code tv tr es fnn:=⟨h.low,h.w0b,h.pbb,h.row,h.scl,h.scb,h.tri.keep (fun _ _ _ _ _ _ _=>rfl) hN,hp⟩
theorem Uy.wk {w0 w':World}{pb b B B':Nat}{N N':Nat→Prop}{fv xv lv:Value}{F:Nat}{res:Int}{r:Zy}(h:Uy w0 w' pb b B N fv xv F res lv r)(hB:B'≤B)(hN:∀ g,N g→N' g)(hp:∀ g,N' g→g≠pb):Uy w0 w' pb b B' N' fv xv F res lv r:=by
 cases r using Zy.el with
 | done l m sc tr =>
  obtain⟨h1,h2,h3,h4,sp,scc,tp,tc,es,fnn,h5⟩:=h;exact⟨h1,h2,h3,Gy h4 hB,sp,scc,tp,tc,es,fnn,h5.wk (fun g _ _=>hN g) hp⟩
 | trap c m sc tr =>
  obtain⟨h1,h2,sp,scc,tp,tc,es,fnn,h5⟩:=h;exact⟨h1,h2,sp,scc,tp,tc,es,fnn,h5.wk (fun g _ _=>hN g) hp⟩
 | spent sc tr =>
  obtain⟨h1,sp,scc,tp,tc,es,fnn,h5⟩:=h;exact⟨h1,sp,scc,tp,tc,es,fnn,h5.wk (fun g _ _=>hN g) hp⟩
set_option maxHeartbeats 16000000 in
set_option maxRecDepth 100000 in
theorem Zhc (P:Zl)(w0:World)(pb b fb fo fc F n:Nat)(xv:Value)(A:Nat→Array Value)(hG:Yp P)(hPg:PgI w0 P fb fo A)(hF:F≤20000)(ih:∀ m,m<n→Sf P w0 pb b fb fo fc F xv m):Sf P w0 pb b fb fo fc F xv n:=by
 intro N w k0 ws0 o wp0 sp0 tp0 wc0 scc0 tc0 sc0 tr0 es0 fnn0 hS0 hN hnF hk0 hwl0 hws0 hL0 htr0;obtain⟨r0,hr0⟩:∃ r,r=ev P n [Jj (P.funcs.getD k0 Ze) ws0 o] sc0 tr0:=⟨_,rfl⟩;obtain⟨res,hres⟩:∃ r,r=(P.funcs.getD k0 Ze).results:=⟨_,rfl⟩;rw [← hr0,← hres];have HG:=J hG;have HPG:=J hPg;have HIH:=J ih;have HN:=J hN;have HNP:=J hS0.npb;have H0:=J (show ∃(kk:Nat) (ws:List Int) (wp sp tp:Option Addr) (wc scc tc:Nat) (sc:List Int) (tr:List (Int×List Int)) (es:List Value) (fnn:Int),(Value.int .i64 (k0:Int))=.int .i64 (kk:Int)∧(Value.slice wp0 ws0.length wc0)=.slice wp ws.length wc∧kk<P.funcs.length∧ws.length=Xe (P.funcs.getD kk Ze).params∧(∀ n ∈ ws,0≤n∧n<18446744073709551616)∧Lv w (.slice wp ws.length wc) ws∧Nt w0 w pb b N (.slice (some ⟨fb,fo,none⟩) P.funcs.length fc) xv F ((F-n:Nat):Int) (.slice sp sc.length scc) sc 0 0 (.slice tp tr.length tc) tr es fnn∧n≤n∧r0=ev P n [Jj (P.funcs.getD kk Ze) ws o] sc tr∧tr.length≤F-n∧(P.funcs.getD kk Ze).results=res∧Xj b pb (fun _=>False) w w from⟨k0,ws0,wp0,sp0,tp0,wc0,scc0,tc0,sc0,tr0,es0,fnn0,rfl,rfl,hk0,hwl0,hws0,hL0,hS0,Nat.le_refl _,hr0,htr0,hres.symm,Xj.refl _ _ _ _⟩);clear hG hPg ih hN hS0 hk0 hwl0 hws0 hL0 htr0 hr0 hres;go_enter Tryz.func24,Tryz.ntmps24
 go_wp2_with fail
 go_loopg [1,2] n (fun k s1 s2 w'=>∃(kk:Nat) (ws:List Int) (wp sp tp:Option Addr) (wc scc tc:Nat) (sc:List Int) (tr:List (Int×List Int)) (es:List Value) (fnn:Int),s1=.int .i64 (kk:Int)∧s2=.slice wp ws.length wc∧kk<P.funcs.length∧ws.length=Xe (P.funcs.getD kk Ze).params∧(∀ n ∈ ws,0≤n∧n<18446744073709551616)∧Lv w' (.slice wp ws.length wc) ws∧Nt w0 w' pb b N (.slice (some ⟨fb,fo,none⟩) P.funcs.length fc) xv F ((F-k:Nat):Int) (.slice sp sc.length scc) sc 0 0 (.slice tp tr.length tc) tr es fnn∧k≤n∧r0=ev P k [Jj (P.funcs.getD kk Ze) ws o] sc tr∧tr.length≤F-k∧(P.funcs.getD kk Ze).results=res∧Xj b pb (fun _=>False) w w')
 case atStart=>exact G H0
 case round =>
  rename World=>u0
  obtain⟨kk,ws,wp,sp,tp,wc,scc,tc,sc,tr,es,fnn,rfl,rfl,hkk,hwl,hws,hL,hS,hkn,hr,htr,hre,hKP⟩:=hrel;clear H0;obtain⟨pv,hv,sv,bv,BB,hAk,hD⟩:=(G HPG).each kk hkk;have hrg:=(G HPG).fs kk hkk;rw [hAk] at hrg;have hH:=(G HG).fnH ⟨kk,hkk,rfl⟩;have HFG:=J (show FnG P (P.funcs.getD kk Ze) from⟨kk,hkk,rfl⟩);generalize P.funcs.getD kk Ze=fn at *;obtain⟨pp,pc,rfl⟩:=hD.ps.shape;obtain⟨qh,ch,rfl⟩:=hD.hs.shape;obtain⟨qs,cs,rfl⟩:=hD.ss.shape;obtain⟨qb,cb,rfl⟩:=hD.bs.shape;have hlow:=hS.low;have hpf:=(G HPG).lt;have c0:=cR hS.row 0;have hup:∀ j y,#[.slice pp fn.params.length pc,.int .i64 fn.results,.slice qh fn.homes.length ch,.slice qs fn.slots.length cs,.slice qb fn.blocks.length cb].toList[j]?=some y→u0.cell? ⟨fb,fo+kk*5+j,none⟩=some y:=fun j y hy=>(hlow.cell (p:=⟨fb,fo+kk*5+j,none⟩) hpf).trans (hrg j y hy);have i0:=hup 0 _ rfl;have i1:=hup 1 _ rfl;have i2:=hup 2 _ rfl;have i3:=hup 3 _ rfl;have i4:=hup 4 _ rfl;rw [Nat.add_zero] at i0;have hBX:=My u0 #[.slice none 0 0,.int .i64 0,.slice none 0 0,.slice none 0 0,.slice none 0 0] #[.slice pp fn.params.length pc,.int .i64 fn.results,.slice qh fn.homes.length ch,.slice qs fn.slots.length cs,.slice qb fn.blocks.length cb] 60;have HR2:=J hBX.2.2;have HX2:=J hBX.1;have HB2:=J hBX.2.1;have HS:=J hS;have HD:=J hD;have HH:=J hH;have HL:=J hL;have HWL:=J hwl;have HWS:=J hws;have HR:=J hr;have HTR:=J htr;have HRE:=J hre
  have HKP:=J hKP;have hkI:(kk:Int)<(P.funcs.length:Int):=by omega
  have hhl:=hH.hl;have hsl6:=hH.sl;have hpl8:=hH.pl;have HMV:=fun V=>mkU fn.homes.length (by omega) V;have HMS:=fun V=>Zqx fn.slots.length (by omega) V;clear hAk hrg hup hBX hS hD hH hL hwl hws hr htr hre hKP hlow;go_upto_region 2 with(refine wpList_store_row rfl 60 _ _ rfl u0.heap.size #[.slice pp fn.params.length pc,.int .i64 fn.results,.slice qh fn.homes.length ch,.slice qs fn.slots.length cs,.slice qb fn.blocks.length cb] rfl rfl 60 _ (G HR2) (Tryz.infFnR.trans rfl) rfl (by simp [Value.oneCell']) ?_)
  clear c0 i0 i1 i2 i3 i4 HR2;generalize World.setRow (World.alloc u0 _) _ _=V1 at HX2 HB2 ⊢;obtain⟨bx,hbx⟩:∃ g,g=u0.heap.size:=⟨_,rfl⟩;rw [← hbx] at HX2 ⊢;have HBX:=J hbx;clear hbx;obtain⟨r3,hb3,hz3⟩:=Yj V1 (.cells (uC (List.replicate fn.homes.length 0)).toArray 62 (0,0));obtain⟨r4,hb4,hz4⟩:=Yj (V1.alloc (.cells (uC (List.replicate fn.homes.length 0)).toArray 62 (0,0))) (.cells (Array.replicate fn.slots.length (Value.slice none 0 0)) 101 (0,0));have f2:=cR (G HX2) 2;have f3:=cR ((hb3.block bx (Zd (G HX2))).trans (G HX2)) 3;rw [hz3] at r4 hz4;have HX4:=J ((hb4.block bx (by have:=Zd (G HX2); omega)).trans ((hb3.block bx (Zd (G HX2))).trans (G HX2)));have HV4:=J ((hb4.block _ (Zd r3)).trans r3);have HS4:=J r4;have hz1:=(G HB2).size;have HB4:=J (Za (Za (G HB2) hb3 (by omega)) hb4 (by omega));have HZ4:=J hz4;clear r3 hb3 hz3 r4 hb4 hz4;go_upto_region 4 with fail
  clear f2 f3;generalize World.alloc (World.alloc V1 _) _=V4 at HX4 HV4 HS4 HB4 HZ4 ⊢;have f4:=cR (G HX4) 3;obtain⟨vb,hvb⟩:∃ g,g=V1.heap.size:=⟨_,rfl⟩;rw [← hvb] at HV4 HS4 HZ4 hz1 ⊢;have HVB:=J (show u0.heap.size≤vb by omega);obtain⟨sb,hsb⟩:∃ g,g=vb+1:=⟨_,rfl⟩;rw [← hsb] at HS4 HZ4 ⊢;have HSB:=J (show u0.heap.size≤sb∧vb<sb by omega);have HA0:=J (show V4.heap[vb]?=some (.cells (uC (List.replicate fn.homes.length 0)).toArray 62 (0,0))∧V4.heap[sb]?=some (.cells (Ic ([]:List Nat) (((fn.slots.take 0).map fun n=>List.replicate (8*n).toNat (0:Int)).map List.length)++List.replicate (fn.slots.length-0) (Value.slice none 0 0)).toArray 101 (0,0))∧V4.heap[bx]?=some (.cells #[.slice pp fn.params.length pc,.int .i64 fn.results,.slice qh fn.homes.length ch,.slice qs fn.slots.length cs,.slice qb fn.blocks.length cb] 60 (0,0))∧([]:List Nat).length=0∧(∀ j,j<0→V4.heap[([]:List Nat).getD j 0]?=some (.cells (yC (((fn.slots.take 0).map fun n=>List.replicate (8*n).toNat (0:Int)).getD j [])).toArray 5 (0,0))∧sb<([]:List Nat).getD j 0∧([]:List Nat).getD j 0<V4.heap.size)∧(∀ i j,i<j→j<([]:List Nat).length→([]:List Nat).getD i 0<([]:List Nat).getD j 0)∧Below u0.heap.size u0 V4∧sb<V4.heap.size from⟨G HV4,by simpa [Ic] using G HS4,G HX4,rfl,fun j hj=>absurd hj (Nat.not_lt_zero j),fun i j _ hj=>absurd hj (Nat.not_lt_zero j),G HB4,by have:=G HZ4; omega⟩);clear hvb hsb hz1 HV4 HS4 HX4 HB4 HX2 HB2 HZ4
  go_wp2_with fail
  clear f4;go_loopw [36] (fun sk w'=>∃(k:Nat) (gs:List Nat),sk=.int .i64 k∧k≤fn.slots.length∧w'.heap[vb]?=some (.cells (uC (List.replicate fn.homes.length 0)).toArray 62 (0,0))∧w'.heap[sb]?=some (.cells (Ic gs (((fn.slots.take k).map fun n=>List.replicate (8*n).toNat (0:Int)).map List.length)++List.replicate (fn.slots.length-k) (Value.slice none 0 0)).toArray 101 (0,0))∧w'.heap[bx]?=some (.cells #[.slice pp fn.params.length pc,.int .i64 fn.results,.slice qh fn.homes.length ch,.slice qs fn.slots.length cs,.slice qb fn.blocks.length cb] 60 (0,0))∧gs.length=k∧(∀ j,j<k→w'.heap[gs.getD j 0]?=some (.cells (yC (((fn.slots.take k).map fun n=>List.replicate (8*n).toNat (0:Int)).getD j [])).toArray 5 (0,0))∧sb<gs.getD j 0∧gs.getD j 0<w'.heap.size)∧(∀ i j,i<j→j<gs.length→gs.getD i 0<gs.getD j 0)∧Below u0.heap.size u0 w'∧sb<w'.heap.size) (fun sk _=>fn.slots.length-(intOf sk).toNat)
  case atStart=>exact⟨0,[],rfl,by omega,G HA0⟩
  case round =>
   obtain⟨k,gs,rfl,hk,hv,hs,hbx,hgl,heach,hinj,hbw,hsbl⟩:=hrel;by_cases hk2:k<fn.slots.length
   ·
    obtain⟨p',c',e1,-,-,hcc⟩:=(G HD).ss;injection e1 with f1 f2 f3;obtain⟨nb,no,hsp,hcell⟩:=hcc (by omega);rw [← f1] at hsp;subst hsp;have hd0:=hcell k hk2;have hd1:=((G HS).low.cell (World.block_lt_of_cell? _ _ hd0)).trans hd0;have d:=(hbw.cell (World.block_lt_of_cell? _ _ hd1)).trans hd1;obtain⟨hx0,hx1⟩:=(G HH).sw k hk2;obtain⟨nn,hn⟩:=Int.eq_ofNat_of_zero_le (show 0≤fn.slots.getD k 0 by omega);have HNX:=J (show((fn.slots.take (k+1)).map fun n=>List.replicate (8*n).toNat (0:Int))=((fn.slots.take k).map fun n=>List.replicate (8*n).toNat (0:Int))++[List.replicate (8*nn) 0] by
     have h8:(8*(nn:Int)).toNat=8*nn:=by omega
     rw [List.take_add_one,List.getElem?_eq_getElem hk2,List.map_append];have:=hn;rw [Yu fn.slots 0 k hk2] at this;simp [this,h8])
    rw [hn] at d hx1;have hn8:nn≤8:=by omega
    have HMK:=fun V=>Zqy (8*nn) (by omega) V;rw [show(((8*nn:Nat)):Int)=8*(nn:Int) by omega] at HMK;have hwk:IntKind.i64.wrap (8*(nn:Int))=8*(nn:Int):=by rw [IntKind.wrap_i64]; omega
    have hkI2:(k:Int)<(fn.slots.length:Int):=by omega
    obtain⟨ra,hba,hza⟩:=Yj wr (.cells (yC (List.replicate (8*nn) 0)).toArray 5 (0,0));have hsa:=(hba.block sb hsbl).trans hs;have hll:(((fn.slots.take k).map fun n=>List.replicate (8*n).toNat (0:Int)).map List.length).length=k:=by simp; omega
    have hsc:(wr.alloc (.cells (yC (List.replicate (8*nn) 0)).toArray 5 (0,0))).cell? ⟨sb,k,none⟩=some (.slice none 0 0):=by
     rw [Zi hsa k];have hl2:(Ic gs (((fn.slots.take k).map fun n=>List.replicate (8*n).toNat (0:Int)).map List.length)).length=k:=by unfold Ic; rw [List.length_map,List.length_range]; exact hll
     rw [List.getElem?_toArray,List.getElem?_append_right (by omega),hl2,Nat.sub_self,List.getElem?_replicate,if_pos (by omega)]
    have hsz:=frozen_of_row _ _ k _ _ hsa;have hs5:=heap_setCell_same _ _ k _ _ (.slice (some ⟨wr.heap.size,0,none⟩) (8*nn) (8*nn)) hsa;have HA5:=J (show((wr.alloc (.cells (yC (List.replicate (8*nn) 0)).toArray 5 (0,0))).setCell ⟨sb,k,none⟩ (.slice (some ⟨wr.heap.size,0,none⟩) (8*nn) (8*nn))).heap[vb]?=some (.cells (uC (List.replicate fn.homes.length 0)).toArray 62 (0,0))∧((wr.alloc (.cells (yC (List.replicate (8*nn) 0)).toArray 5 (0,0))).setCell ⟨sb,k,none⟩ (.slice (some ⟨wr.heap.size,0,none⟩) (8*nn) (8*nn))).heap[sb]?=some (.cells (Ic (gs++[wr.heap.size]) (((fn.slots.take (k+1)).map fun n=>List.replicate (8*n).toNat (0:Int)).map List.length)++List.replicate (fn.slots.length-(k+1)) (Value.slice none 0 0)).toArray 101 (0,0))∧((wr.alloc (.cells (yC (List.replicate (8*nn) 0)).toArray 5 (0,0))).setCell ⟨sb,k,none⟩ (.slice (some ⟨wr.heap.size,0,none⟩) (8*nn) (8*nn))).heap[bx]?=some (.cells #[.slice pp fn.params.length pc,.int .i64 fn.results,.slice qh fn.homes.length ch,.slice (some ⟨nb,no,none⟩) fn.slots.length cs,.slice qb fn.blocks.length cb] 60 (0,0))∧(gs++[wr.heap.size]).length=(k+1)∧(∀ j,j<(k+1)→((wr.alloc (.cells (yC (List.replicate (8*nn) 0)).toArray 5 (0,0))).setCell ⟨sb,k,none⟩ (.slice (some ⟨wr.heap.size,0,none⟩) (8*nn) (8*nn))).heap[(gs++[wr.heap.size]).getD j 0]?=some (.cells (yC (((fn.slots.take (k+1)).map fun n=>List.replicate (8*n).toNat (0:Int)).getD j [])).toArray 5 (0,0))∧sb<(gs++[wr.heap.size]).getD j 0∧(gs++[wr.heap.size]).getD j 0<((wr.alloc (.cells (yC (List.replicate (8*nn) 0)).toArray 5 (0,0))).setCell ⟨sb,k,none⟩ (.slice (some ⟨wr.heap.size,0,none⟩) (8*nn) (8*nn))).heap.size)∧(∀ i j,i<j→j<(gs++[wr.heap.size]).length→(gs++[wr.heap.size]).getD i 0<(gs++[wr.heap.size]).getD j 0)∧Below u0.heap.size u0 ((wr.alloc (.cells (yC (List.replicate (8*nn) 0)).toArray 5 (0,0))).setCell ⟨sb,k,none⟩ (.slice (some ⟨wr.heap.size,0,none⟩) (8*nn) (8*nn)))∧sb<((wr.alloc (.cells (yC (List.replicate (8*nn) 0)).toArray 5 (0,0))).setCell ⟨sb,k,none⟩ (.slice (some ⟨wr.heap.size,0,none⟩) (8*nn) (8*nn))).heap.size by
     have hvs:=(G HSB).2;have hoth:∀ q,q<wr.heap.size→q≠sb→((wr.alloc (.cells (yC (List.replicate (8*nn) 0)).toArray 5 (0,0))).setCell ⟨sb,k,none⟩ (.slice (some ⟨wr.heap.size,0,none⟩) (8*nn) (8*nn))).heap[q]?=wr.heap[q]?:=fun q h1 h2=>(heap_setCell_other _ _ _ _ h2).trans (hba.block q h1);have hzz:((wr.alloc (.cells (yC (List.replicate (8*nn) 0)).toArray 5 (0,0))).setCell ⟨sb,k,none⟩ (.slice (some ⟨wr.heap.size,0,none⟩) (8*nn) (8*nn))).heap.size=wr.heap.size+1:=by simp
     refine⟨(hoth vb (Zd hv) (by omega)).trans hv,?_,(hoth bx (Zd hbx) (Zs hbx hs (by decide))).trans hbx,by simp [hgl],fun j hj=>?_,fun i j hij hj=>?_,?_,by rw [hzz]; omega⟩
     ·
      rw [G HNX,List.map_append,show fn.slots.length-(k+1)=fn.slots.length-k-1 by omega];have hnx:=Zjp gs (((fn.slots.take k).map fun n=>List.replicate (8*n).toNat (0:Int)).map List.length) (fn.slots.length-k) wr.heap.size (8*nn) (by rw [hll,hgl]) (by omega);rw [hll] at hnx;rw [hs5,hnx];simp
     ·
      rw [G HNX,Oc,Zcr,hgl];have hl3:((fn.slots.take k).map fun n=>List.replicate (8*n).toNat (0:Int)).length=k:=by simp; omega
      rw [hl3];by_cases hjk:j=k
      ·
       rw [if_pos hjk,if_pos hjk];exact⟨(heap_setCell_other _ _ _ _ (by show wr.heap.size≠sb; omega)).trans ra,by omega,by rw [hzz]; omega⟩
      ·
       rw [if_neg hjk,if_neg hjk];have h:=heach j (by omega);exact⟨(hoth _ h.2.2 (by omega)).trans h.1,h.2.1,by rw [hzz]; omega⟩
     ·
      rw [Oc,Oc];simp only [List.length_append,List.length_cons,List.length_nil] at hj;by_cases hjk:j=gs.length
      ·
       rw [if_pos hjk,if_neg (by omega)];exact(heach i (by omega)).2.2
      ·
       rw [if_neg hjk,if_neg (by omega)];exact hinj i j hij (by omega)
     ·
      exact⟨hbw.os,hbw.tape,hbw.output,by rw [hzz]; have:=hbw.size; omega,fun q hq=>(hoth q (by have:=hbw.size; omega) (by have:=(G HSB).1; omega)).trans (hbw.block q hq)⟩)
    rw [show(wr.alloc (.cells (yC (List.replicate (8*nn) 0)).toArray 5 (0,0))).setCell ⟨sb,k,none⟩ (.slice (some ⟨wr.heap.size,0,none⟩) (8*nn) (8*nn))=(wr.setCell ⟨sb,k,none⟩ (.slice (some ⟨wr.heap.size,0,none⟩) (8*nn) (8*nn))).alloc (.cells (yC (List.replicate (8*nn) 0)).toArray 5 (0,0)) from World.setCell_alloc_past (w:=wr) _ _ _ _ hsbl] at HA5;clear f1 f2 f3 hcc hcell hd0 hd1 hx0 hx1 hn ra hba hza hsa hs5 hv hs hbx heach hinj hbw hll HNX;go_wp2;go_roundw
    case rel=>exact⟨k+1,_,by go_num,by omega,G HA5⟩
    case measure=>simp [intOf]; omega
   ·
    have hkn:k=fn.slots.length:=by omega
    subst hkn;rw [List.take_length] at heach hs;rw [Nat.sub_self,List.replicate_zero,List.append_nil] at hs;have hvbW:=G HVB;have hsbW:=(G HSB).1;have hbu0:=(G HS).blt;have hz00:((fn.slots.map fun n=>List.replicate (8*n).toNat (0:Int))).length=fn.slots.length:=by simp
    have hRF:Nf wr ⟨fn,0,0,List.replicate fn.homes.length 0,(fn.slots.map fun n=>List.replicate (8*n).toNat (0:Int)),o⟩ b vb sb gs:=⟨hv,by omega,hs,by omega,by rw [hgl]; exact hz00.symm,fun j hj=>⟨(heach j (by rw [hz00] at hj; exact hj)).1,by have:=(heach j (by rw [hz00] at hj; exact hj)).2.1; omega⟩,hinj⟩;have HGS:=J (fun g (hg:g ∈ gs)=>show u0.heap.size≤g from by
     obtain⟨j,hj,rfl⟩:=List.getElem_of_mem hg;have:=(heach j (by omega)).2.1;rw [show gs.getD j 0=gs[j] by simp [List.getD,hj]] at this;omega)
    have HB0:=J (show ∃(k:Nat) (v:List Int) (s:List (List Int)) (rem:List Int) (rp:Option Addr) (rc:Nat),(Value.int .i64 (0:Int))=.int .i64 k∧(Value.slice wp ws.length wc)=.slice rp rem.length rc∧k≤fn.params.length∧Lz fn.params (List.replicate fn.homes.length 0) (fn.slots.map fun n=>List.replicate (8*n).toNat (0:Int)) ws=Lz (fn.params.drop k) v s rem∧v.length=fn.homes.length∧s.map List.length=(fn.slots.map fun n=>List.replicate (8*n).toNat (0:Int)).map List.length∧rem.length=Xe (fn.params.drop k)∧(∀ n ∈ rem,0≤n∧n<18446744073709551616)∧Lv u0 (.slice rp rem.length rc) rem∧Nf wr (⟨fn,0,0,v,s,o⟩:Xk) b vb sb gs∧IOk (⟨fn,0,0,v,s,o⟩:Xk)∧wr.heap[bx]?=some (.cells #[.slice pp fn.params.length pc,.int .i64 fn.results,.slice qh fn.homes.length ch,.slice qs fn.slots.length cs,.slice qb fn.blocks.length cb] 60 (0,0))∧Below u0.heap.size u0 wr from⟨0,_,_,ws,wp,wc,rfl,rfl,Nat.zero_le _,rfl,by simp,rfl,G HWL,G HWS,G HL,hRF,⟨fun n hn=>by rw [List.eq_of_mem_replicate hn]; omega,fun l hl n hn=>by
     obtain⟨k,-,rfl⟩:=List.mem_map.1 hl;rw [List.eq_of_mem_replicate hn]; omega⟩,hbx,hbw⟩)
    have f0:=cR hbx 0;have HPO:=J (Zjf (G HH));clear hv hs hbx heach hinj hbw hRF hz00;go_wp2_with fail
    clear f0;go_loopw [51,2] (fun sk sw w'=>∃(k:Nat) (v:List Int) (s:List (List Int)) (rem:List Int) (rp:Option Addr) (rc:Nat),sk=.int .i64 k∧sw=.slice rp rem.length rc∧k≤fn.params.length∧Lz fn.params (List.replicate fn.homes.length 0) (fn.slots.map fun n=>List.replicate (8*n).toNat (0:Int)) ws=Lz (fn.params.drop k) v s rem∧v.length=fn.homes.length∧s.map List.length=(fn.slots.map fun n=>List.replicate (8*n).toNat (0:Int)).map List.length∧rem.length=Xe (fn.params.drop k)∧(∀ n ∈ rem,0≤n∧n<18446744073709551616)∧Lv u0 (.slice rp rem.length rc) rem∧Nf w' (⟨fn,0,0,v,s,o⟩:Xk) b vb sb gs∧IOk (⟨fn,0,0,v,s,o⟩:Xk)∧w'.heap[bx]?=some (.cells #[.slice pp fn.params.length pc,.int .i64 fn.results,.slice qh fn.homes.length ch,.slice qs fn.slots.length cs,.slice qb fn.blocks.length cb] 60 (0,0))∧Below u0.heap.size u0 w') (fun sk _ _=>fn.params.length-(intOf sk).toNat)
    case atStart=>exact G HB0
    case round =>
     obtain⟨k,v,s,rem,rp,rc,rfl,rfl,hk,hpar,hvl,hsl2,hrl,hrw,hrem,hRF,hok,hbx,hbw⟩:=hrel;clear HB0;by_cases hk2:k<fn.params.length
     ·
      obtain⟨p',c',e1,-,-,hcc⟩:=(G HD).ps;injection e1 with f1 f2 f3;obtain⟨nb,no,hsp,hnb,hcell⟩:=hcc (by omega);rw [← f1] at hsp;subst hsp;have hrg:=hcell k hk2;dsimp only at hrg;have ho:=G HPO k hk2;have hdr:fn.params.drop k=fn.params.getD k (0,0) :: fn.params.drop (k+1):=by rw [List.drop_eq_getElem_cons hk2,Yu fn.params (0,0) k hk2]
      rw [hdr] at hpar hrl;generalize fn.params.getD k (0,0)=a at hrg ho hpar hrl;obtain⟨x1,x2⟩:=a;have HPAR:=J hpar;have HRL:=J hrl;obtain⟨hw0,hw8,hf0,hov,hos⟩:=ho;simp only [List.length_replicate,List.length_map] at hw0 hw8 hf0 hov hos;obtain⟨nw,rfl⟩:=Int.eq_ofNat_of_zero_le hw0;obtain⟨m,rfl⟩:=Int.eq_ofNat_of_zero_le hf0;have hup:∀ j y,#[Value.int .i64 (nw:Int),.int .i64 (m:Int)].toList[j]?=some y→wr.cell? ⟨nb,no+k*2+j,none⟩=some y:=fun j y hy=>by
       have h1:=hrg j y hy;have h2:=((G HS).low.cell (p:=⟨nb,no+k*2+j,none⟩) hnb).trans h1;exact(hbw.cell (p:=⟨nb,no+k*2+j,none⟩) (World.block_lt_of_cell? _ _ h2)).trans h2
      have d0:=hup 0 _ rfl;have d1:=hup 1 _ rfl;rw [Nat.add_zero] at d0;have HVL:=J hvl;have HSL:=J hsl2;have HRW:=J hrw;have HRM:=J hrem;have HOK:=J hok;have HBX2:=J hbx;clear hpar hrl hcc hcell hrg f1 f2 f3 hup hdr hvl hsl2 hrw hrem hok hbx;obtain⟨hra,hba,-⟩:=Yj wr (.cells #[.int .i64 (nw:Int),.int .i64 (m:Int)] 99 (0,0));go_upto_region 12 with fail
      clear d0 d1;have HRF:=J (hRF.below hba);have HBX3:=J ((hba.block bx (Zd (G HBX2))).trans (G HBX2));have HBW:=J (Za hbw hba hbw.size);have hwz:=hbw.size;generalize World.alloc wr _=V1 at hra hba HRF HBX3 HBW ⊢;obtain⟨ba,hbaq⟩:∃ g,g=wr.heap.size:=⟨_,rfl⟩;rw [← hbaq] at hra ⊢;have HRA:=J hra;have HBAQ:=J (show u0.heap.size≤ba by omega);have q0:=cR hra 0;have q1:=cR hra 1;clear hra hba hbaq hRF hbw HBX2 hwz;by_cases hz:nw=0
      ·
       subst hz;have hml:m<v.length:=by rw [G HVL]; have:=hov rfl; omega
       have hmI:(m:Int)<(fn.homes.length:Int):=by have:=G HVL; omega
       have hr1:1≤rem.length:=by rw [G HRL]; simp [Xe]
       obtain⟨p2,c2,e2,hcap,hsh,hcells⟩:=G HRM;injection e2 with g1 g2 g3;obtain⟨wb,wo,hrp,hwc⟩:=hcells (by omega);rw [← g1] at hrp;subst hrp;have hy0:=hwc 0 (by omega);rw [Nat.add_zero] at hy0;have hyv:=((G HBW).cell (World.block_lt_of_cell? _ _ hy0)).trans hy0;have hwbb:wb<u0.heap.size:=World.block_lt_of_cell? _ _ hy0;have hrcN:rem.length≤rc:=by rw [g3]; exact hcap
       have HRD:=J (Od (G HRM) (show 1≤rem.length by omega));have HDL:=J (show(rem.drop 1).length=rem.length-1 by simp);have HY:=J (Mj (G HRW) 0);have g0:=(G HRF).loc (k:=m) hml;have z0:=frozen_of_row _ _ m _ _ (G HRF).v;obtain⟨y,hy⟩:∃ y,y=rem.getD 0 0:=⟨_,rfl⟩;rw [← hy] at hyv HY;have HPX:=J (show Lz fn.params (List.replicate fn.homes.length 0) (fn.slots.map fun n=>List.replicate (8*n).toNat (0:Int)) ws=Lz (fn.params.drop (k+1)) (v.set m y) s (rem.drop 1) by
        rw [G HPAR,hy];simp [Lz])
       have HRX:=J (show(rem.drop 1).length=Xe (fn.params.drop (k+1)) by
        have:=G HRL;simp [Xe] at this ⊢;omega)
       have y0:V1.drew.cell? ⟨vb,m,none⟩=_:=g0;have yz:V1.drew.frozen? ⟨vb,m,none⟩=false:=z0;have p1:V1.drew.cell? ⟨ba,1,none⟩=_:=q1;have yw:V1.drew.cell? ⟨wb,wo,none⟩=_:=hyv;have HRF5:=J (show Nf ((V1.setCell ⟨vb,m,none⟩ (.int .u64 y)).drew) ⟨fn,0,0,v.set m y,s,o⟩ b vb sb gs from((G HRF).setv m y).below (Below.refl _ _).drew);have hvne:∀ q,q≠vb→(V1.setCell ⟨vb,m,none⟩ (.int .u64 y)).drew.heap[q]?=V1.heap[q]?:=fun q hq=>heap_setCell_other _ _ _ _ hq;have e5:(V1.setCell ⟨vb,m,none⟩ (.int .u64 y)).drew.cell? ⟨ba,0,none⟩=some (.int .i64 0):=(World.cell?_of_block (hvne ba (Zs (G HRA) (G HRF).v (by decide)))).trans q0;have HBX5:=J ((hvne bx (Zs (G HBX3) (G HRF).v (by decide))).trans (G HBX3));have HBW5:=J (show Below u0.heap.size u0 ((V1.setCell ⟨vb,m,none⟩ (.int .u64 y)).drew) from⟨(G HBW).os,(G HBW).tape,(G HBW).output,by have:=(G HBW).size; simpa using this,fun q hq=>(hvne q (by omega)).trans ((G HBW).block q hq)⟩);have hrI:(1:Int)≤(rem.length:Int):=by omega
       have hr0:(0:Int)<(rem.length:Int):=by omega
       have hrl63:rem.length<4611686018427387904:=hsh;have HOK5:=J (show IOk (⟨fn,0,0,v.set m y,s,o⟩:Xk) from⟨fun n hn=>by
        rcases Rk hn with hn | rfl
        ·
         exact(G HOK).v n hn
        ·
         exact G HY,(G HOK).s⟩)
       dsimp only at g0 y0;generalize v.getD m 0=yd at g0 y0;clear hy hov hos hcells hwc hy0 g1 g2 g3 hvne HPAR HRL hcap hsh;go_upto_region 13 with fail
       go_region
       generalize World.drew (World.setCell V1 _ _)=V5 at HRF5 e5 HBX5 HBW5 ⊢;clear q0 q1 p1 y0 yz yw hyv g0 z0;go_wp2_with fail
       all_goals
        go_loopw [14,2] (fun si sw w'=>∃(i:Nat) (rp1:Option Addr) (rc1:Nat),si=.int .i64 i∧sw=.slice rp1 (rem.length-1) rc1∧w'=V5∧Lv u0 (.slice rp1 (rem.drop 1).length rc1) (rem.drop 1)) (fun _ _ _=>0)
        case atStart=>exact⟨0,_,_,rfl,rfl,rfl,by simpa [*] using G HRD⟩
        case round =>
         obtain⟨i,rp1,rc1,rfl,rfl,hw,hrd⟩:=hrel;subst wr;have hi0:¬ ((i:Int)<0):=by omega
         have HRE2:=J hrd;clear hrd;go_wp2;go_roundw
         case rel=>exact⟨k+1,v.set m y,s,rem.drop 1,_,_,by go_num,by rw [G HDL],by omega,G HPX,by rw [List.length_set]; exact G HVL,G HSL,G HRX,fun n hn=>G HRW n (List.mem_of_mem_drop hn),G HRE2,G HRF5,G HOK5,G HBX5,G HBW5⟩
         case measure=>simp [intOf]; omega
      ·
       have hzz:¬ ((nw:Int)=0):=by omega
       obtain⟨hsl,hs8⟩:=hos hzz;have zz:((nw:Int)==0)=false:=by simp; omega
       have hslen:s.length=fn.slots.length:=by have:=congrArg List.length (G HSL); simpa using this
       have hms:m<s.length:=by omega
       have hmI:(m:Int)<(fn.slots.length:Int):=hsl;obtain⟨bs,hbs⟩:∃ l,l=s.getD m []:=⟨_,rfl⟩;have hbl:bs.length=(((fn.slots.map fun n=>List.replicate (8*n).toNat (0:Int))).getD m []).length:=by
        have e:(s.map List.length).getD m 0=(((fn.slots.map fun n=>List.replicate (8*n).toNat (0:Int))).map List.length).getD m 0:=by rw [G HSL]
        rw [Gd s List.length [] 0 m hms,Gd (fn.slots.map fun n=>List.replicate (8*n).toNat (0:Int)) List.length [] 0 m (by simpa using hsl)] at e;rw [hbs]; exact e
       rw [Int.toNat_natCast,← hbl] at hs8;have hbl64:bs.length≤64:=by
        have h2:=(G HH).sw m (by omega);rw [hbl,Gd fn.slots (fun n=>List.replicate (8*n).toNat (0:Int)) 0 [] m (by omega),List.length_replicate];omega
       have hnr:nw≤rem.length:=by rw [G HRL]; simp [Xe]; rw [if_neg (by omega)]; omega
       have hrl63:rem.length<4611686018427387904:=by obtain⟨_,_,_,_,h,_⟩:=G HRM; exact h
       have HBS:=J hbs;have HJ0:=J (show s.set m (Jz bs rem 0)=s by show s.set m bs=s; rw [hbs,Yu _ _ _ hms]; simp);have HBY:=J (fun n (hn:n ∈ bs)=>(G HOK).s bs (by show bs ∈ s; rw [hbs,Yu _ _ _ hms]; exact List.getElem_mem _) n hn);have HPX:=J (show Lz fn.params (List.replicate fn.homes.length 0) (fn.slots.map fun n=>List.replicate (8*n).toNat (0:Int)) ws=Lz (fn.params.drop (k+1)) v (s.set m (Jz bs rem nw)) (rem.drop nw) by
        rw [G HPAR];have e:Rj (s.getD m []) (rem.take nw)=Jz bs rem nw:=by
         rw [← hbs];show Jz bs (rem.take nw) (rem.take nw).length=_;rw [List.length_take,Nat.min_eq_left hnr,Ch bs rem nw nw (Nat.le_refl _)]
        conv=>lhs; unfold Lz
        rw [if_neg hzz];simp only [Int.toNat_natCast];rw [e])
       have HRX:=J (show(rem.drop nw).length=Xe (fn.params.drop (k+1)) by
        have:=G HRL;simp [Xe] at this ⊢;rw [if_neg (by omega)] at this;omega)
       clear hov hos hbs hbl HPAR HRL hzz hsl q1;go_wp2_with fail
       clear q0;go_loopw [14,2] (fun si sw w'=>∃(j:Nat) (rp1:Option Addr) (rc1:Nat),si=.int .i64 j∧sw=.slice rp1 (rem.drop j).length rc1∧j≤nw∧Lv u0 (.slice rp1 (rem.drop j).length rc1) (rem.drop j)∧Nf w' (⟨fn,0,0,v,s.set m (Jz bs rem j),o⟩:Xk) b vb sb gs∧w'.heap[ba]?=some (.cells #[.int .i64 (nw:Int),.int .i64 (m:Int)] 99 (0,0))∧w'.heap[bx]?=some (.cells #[.slice (some ⟨nb,no,none⟩) fn.params.length pc,.int .i64 fn.results,.slice qh fn.homes.length ch,.slice qs fn.slots.length cs,.slice qb fn.blocks.length cb] 60 (0,0))∧Below u0.heap.size u0 w') (fun si _ _=>nw-(intOf si).toNat)
       case atStart=>exact⟨0,rp,rc,rfl,rfl,by omega,G HRM,by rw [G HJ0]; exact G HRF,G HRA,G HBX3,G HBW⟩
       case round =>
        obtain⟨j,rp1,rc1,rfl,rfl,hj,hrd,hRF,hra,hbx,hbw⟩:=hrel;have q0:=cR hra 0;by_cases hj2:j<nw
        ·
         have hrd0:=hrd;obtain⟨p2,c2,e2,hcap,hsh,hcells⟩:=hrd0;injection e2 with g1 g2 g3;have hdl:(rem.drop j).length=rem.length-j:=by simp
         obtain⟨wb,wo,hrp,hwc⟩:=hcells (by omega);rw [← g1] at hrp;subst hrp;have hy0:=hwc 0 (by omega);rw [Nat.add_zero,show(rem.drop j).getD 0 0=rem.getD j 0 by simp [List.getD]] at hy0;have hyv:=(hbw.cell (World.block_lt_of_cell? _ _ hy0)).trans hy0;have hwbb:wb<u0.heap.size:=World.block_lt_of_cell? _ _ hy0;obtain⟨y,hy⟩:∃ y,y=rem.getD j 0:=⟨_,rfl⟩;have hyb:=Mj (G HRW) j;rw [← hy] at hyv hyb;have hsm:m<(s.set m (Jz bs rem j)).length:=by simpa using hms
         have hgs:=hRF.slot (k:=m) hsm;have hgr:=(hRF.each m hsm).1;have hcs:(s.set m (Jz bs rem j)).getD m []=Jz bs rem j:=by rw [Re _ _ _ _ hms,if_pos rfl]
         dsimp only at hgs hgr;rw [hcs] at hgs hgr;have hfl:=Oa bs rem j;have HPUT:=J (Zis (Jz bs rem j) (gs.getD m 0) (8*j) 8 y wr.drew hgr (by omega) (by omega) hyb.1 hyb.2);have HRF5:=J (show Nf (Uz wr.drew (gs.getD m 0) (8*j) y 8) (⟨fn,0,0,v,s.set m (Jz bs rem (j+1)),o⟩:Xk) b vb sb gs by
          have h:=(hRF.below (Below.refl _ _).drew).sets m hsm (8*j) 8 y;dsimp only at h;rw [hcs] at h;rw [Ly,← hy];simpa using h)
         have hgae:=(hRF.each m hsm);have hgu:u0.heap.size≤gs.getD m 0:=G HGS _ (by rw [show gs.getD m 0=gs[m]'(by rw [hRF.len]; exact hsm) by simp [List.getD,hRF.len,hms]]; exact List.getElem_mem _);have hne1:ba≠gs.getD m 0:=Zs hra hgr (by decide);have hne2:sb≠gs.getD m 0:=Zs hRF.s hgr (by decide);have hne3:bx≠gs.getD m 0:=Zs hbx hgr (by decide);have hne4:wb≠gs.getD m 0:=by omega
         have hwr8:IntKind.i64.wrap (8*(j:Int))=8*(j:Int):=by rw [IntKind.wrap_i64]; omega
         rw [show((8*j:Nat):Int)=8*(j:Int) by omega,hfl] at HPUT;generalize gs.getD m 0=ga at hgs hgr HPUT HRF5 hgae hgu hne1 hne2 hne3 hne4;rw [hfl] at hgs;generalize bs.length=bl at hgs HPUT;have HCK:=J (fun(U:World) (h1:U.heap[ba]?=wr.heap[ba]?) (h2:U.heap[sb]?=wr.heap[sb]?) (h3:U.heap[wb]?=wr.heap[wb]?)=>show(fun V=>V.cell? ⟨ba,1,none⟩=some (.int .i64 (m:Int))∧V.cell? ⟨sb,m,none⟩=some (.slice (some ⟨ga,0,none⟩) bl bl)∧V.cell? ⟨wb,wo,none⟩=some (.int .u64 y)) U from⟨(cR (h1.trans hra) 1),(World.cell?_of_block h2).trans hgs,(World.cell?_of_block h3).trans hyv⟩);have HB5:=J (show(Uz wr.drew ga (8*j) y 8).heap[ba]?=some (.cells #[.int .i64 (nw:Int),.int .i64 (m:Int)] 99 (0,0))∧(Uz wr.drew ga (8*j) y 8).heap[bx]?=some (.cells #[.slice (some ⟨nb,no,none⟩) fn.params.length pc,.int .i64 fn.results,.slice qh fn.homes.length ch,.slice qs fn.slots.length cs,.slice qb fn.blocks.length cb] 60 (0,0))∧Below u0.heap.size u0 (Uz wr.drew ga (8*j) y 8) from⟨(Jc wr.drew _ _ _ ba hne1 8).trans hra,(Jc wr.drew _ _ _ bx hne3 8).trans hbx,⟨(Mt _ _ _ _ _).1.trans hbw.os,(Mt _ _ _ _ _).2.1.trans hbw.tape,(Mt _ _ _ _ _).2.2.trans hbw.output,by rw [Oj]; exact hbw.size,fun q hq=>(Jc wr.drew _ _ _ q (by omega) 8).trans (hbw.block q hq)⟩⟩);have HRD:=J (Od hrd (j:=1) (by omega));rw [List.drop_drop] at HRD;have hjI:(j:Int)<(nw:Int):=by omega
         have hdI:(0:Int)<((rem.drop j).length:Int):=by omega
         have hdN:0<(rem.drop j).length:=by omega
         have hdN1:1≤(rem.drop j).length:=by omega
         have hd1:(1:Int)≤((rem.drop j).length:Int):=by omega
         have hcc2:(rem.drop j).length≤rc1:=by rw [g3]; exact hcap
         have HL1:=J (show(rem.drop j).length-1=(rem.drop (j+1)).length by simp; omega);have hdl63:(rem.drop j).length<4611686018427387904:=hsh;generalize hdlq:(rem.drop j).length=dl at *;clear hcells hwc hy0 g1 g2 g3 hy hyb hgs hgr hcs hfl hgae hrd hRF hra hbx hbw hcap hsh hdl hdlq;go_upto_region 18 with fail
         clear q0;refine wp_region_held_drew (S:=fun V=>V.cell? ⟨ba,1,none⟩=some (.int .i64 (m:Int))∧V.cell? ⟨sb,m,none⟩=some (.slice (some ⟨ga,0,none⟩) bl bl)∧V.cell? ⟨wb,wo,none⟩=some (.int .u64 y)) (by kernel_rfl) (G HCK _ rfl rfl rfl) (fun hHeld=>?_);refine tT 0 ?_;try simp only [Act.put,zA,zB,zC,zD,zE]
         refine tT 1 ?_;try simp only [Act.put,zA,zB,zC,zD,zE,zF]
         refine tT 2 ?_;try simp only [Act.put,zA,zB,zC,zD,zE,zF]
         refine tT 3 ?_;try simp only [Act.put,zA,zB,zC,zD,zE,zF]
         refine tT 4 ?_;try simp only [Act.put,zA,zB,zC,zD,zE,zF]
         refine tT 5 ?_;try simp only [Act.put,zA,zB,zC,zD,zE,zF]
         refine tT 6 ?_;try simp only [Act.put,zA,zB,zC,zD,zE,zF]
         refine tT 7 ?_;try simp only [Act.put,zA,zB,zC,zD,zE,zF]
         refine tT 8 ?_;try simp only [Act.put,zA,zB,zC,zD,zE,zF]
         refine tT 9 ?_;try simp only [Act.put,zA,zB,zC,zD,zE,zF]
         refine tO 10 fun K hK=>?_;go_simp;refine(G HPUT).mono ?_;rintro e w5 ⟨⟨v5,rfl⟩,hw5⟩;subst w5;refine hK.out _ _ (G HCK _ (Jc wr.drew _ _ _ ba hne1 8) (Jc wr.drew _ _ _ sb hne2 8) (Jc wr.drew _ _ _ wb hne4 8)) (fun hHeld2=>?_);clear hK K;try simp only [Act.put,zA,zB,zC,zD,zE,zF]
         refine wpAnyH_done (by kernel_rfl) ?_ _;generalize Uz (World.drew wr) _ _ _ _=V5 at HRF5 HB5 ⊢;go_wp2_with fail
         all_goals
          go_roundw
          case rel=>exact⟨j+1,_,_,by go_num,by rw [G HL1],by omega,by simpa [*] using G HRD,G HRF5,(G HB5).1,(G HB5).2.1,(G HB5).2.2⟩
          case measure=>simp [intOf]; omega
        ·
         have hjn:j=nw:=by omega
         subst hjn;have HRF5:=J hRF;have HBX5:=J hbx;have HBW5:=J hbw;have HRE2:=J hrd;have HOK5:=J (show IOk (⟨fn,0,0,v,s.set m (Jz bs rem j),o⟩:Xk) from⟨(G HOK).v,fun l hl n hn=>by
          rcases List.mem_or_eq_of_mem_set hl with hl | rfl
          ·
           exact(G HOK).s l hl n hn
          ·
           exact Kz (G HBY) rem j n hn⟩)
         have HSL5:=J (show(s.set m (Jz bs rem j)).map List.length=((fn.slots.map fun n=>List.replicate (8*n).toNat (0:Int))).map List.length by rw [Oq _ _ _ (by rw [Oa,G HBS]),G HSL]);clear hRF hbx hbw hrd hra;go_wp2;go_roundw
         case rel=>exact⟨k+1,v,s.set m (Jz bs rem j),rem.drop j,_,_,by go_num,rfl,by omega,G HPX,G HVL,G HSL5,G HRX,fun n hn=>G HRW n (List.mem_of_mem_drop hn),G HRE2,G HRF5,G HOK5,G HBX5,G HBW5⟩
         case measure=>simp [intOf]; omega
     ·
      have hkq:k=fn.params.length:=by omega
      subst hkq;rw [List.drop_length] at hpar;have hnf:Jj fn ws o=⟨fn,0,0,v,s,o⟩:=by unfold Jj; rw [hpar]; rfl
      have hS:=G HS;have hwbl:=hbw.size;have hvbl:=Zd hRF.v;have hwf:Lp P ⟨fn,0,0,v,s,o⟩:=by rw [← hnf]; exact Cd (G HG) (G HFG) (G HWS) o
      have hslen:s.length=fn.slots.length:=by have:=congrArg List.length hsl2; simpa using this
      have hS':Nt w0 wr pb b (fun g=>N g∧g≠vb) (.slice (some ⟨fb,fo,none⟩) P.funcs.length fc) xv F ((F-gk:Nat):Int) (.slice sp sc.length scc) sc 0 0 (.slice tp tr.length tc) tr es fnn:=(hS.wk (N':=fun g=>N g∧g≠vb) (fun g _ hg hN=>⟨hN,by omega⟩) (fun g hg=>G HNP g hg.1)).grow hbw;have hkw:=(G HKP).size;have HBC:=J (Zny P w0 wr pb b fb fo fc F gk vb sb xv gs (fun g=>N g∧g≠vb) fn _ _ _ _ BB ⟨fn,0,0,v,s,o⟩ sc tr es sp tp scc tc fnn (G HG) (fun m hm=>G HIH m (by omega)) hS' hRF hwf ⟨rfl,rfl,rfl⟩ (G HD) (fun h=>h.2 rfl) (fun g hg=>⟨G HN g (by omega),by omega⟩) (by omega) hF (G HTR));have HR1:=J (show r0=ev P gk [⟨fn,0,0,v,s,o⟩] sc tr by rw [G HR,hnf]);have HKK:=J (fun(w5:World) (hkp:Xj b pb (fun g=>g=vb∨g ∈ gs) wr w5)=>show Xj b pb (fun _=>False) w w5 from(G HKP).trans (((Gq hbw).trans hkp).mono fun g hg hm=>by
       rcases hm with rfl | hm
       ·
        omega
       ·
        have:=G HGS g hm; omega))
      have hwz:w.heap.size≤wr.heap.size:=by omega
      have t0:=cR hbx 0;have t1:=cR hbx 1;have t2:=cR hbx 2;have t3:=cR hbx 3;have t4:=cR hbx 4;clear hpar hnf hS hwf hS' hRF hbw hbx hrem hok hsl2 hrl hrw hslen;go_wp2_with fail
      refine(G HBC).mono ?_;rintro e w5 ⟨lv,again,rfl,hbr,hkp⟩;have HK5:=J (G HKK w5 hkp);clear hkp HKK HBC t0 t1 t2 t3 t4;rw [← G HR1] at hbr;cases again with
      | true =>
       rcases hbr with⟨-,k',m',ws',sc',tr',es',sp',tp',scc',tc',hk',hm',hmF,hre',hwl',hws',how',hr0',hps',htl'⟩ | ⟨h,-⟩
       ·
        obtain⟨lp,lc,rfl⟩:=Zm how';have k5:=cR hps'.row 5;have k8:=cR hps'.row 8;have h8:ws'.length≤100:=by
         rw [hwl'];have hq:=(G HG).fnH ⟨k',hk',rfl⟩;have h2:=Uo (l:=(P.funcs.getD k' Ze).params) (fun j hj=>(hq.pw j hj).2.1);have h3:=hq.pl;omega
        have HNX:=J (show ∃(kk:Nat) (ws:List Int) (wp sp tp:Option Addr) (wc scc tc:Nat) (sc:List Int) (tr:List (Int×List Int)) (es:List Value) (fnn:Int),(Value.int .i64 (k':Int))=.int .i64 (kk:Int)∧(Value.slice lp ws'.length lc)=.slice wp ws.length wc∧kk<P.funcs.length∧ws.length=Xe (P.funcs.getD kk Ze).params∧(∀ n ∈ ws,0≤n∧n<18446744073709551616)∧Lv w5 (.slice wp ws.length wc) ws∧Nt w0 w5 pb b N (.slice (some ⟨fb,fo,none⟩) P.funcs.length fc) xv F ((F-m':Nat):Int) (.slice sp sc.length scc) sc 0 0 (.slice tp tr.length tc) tr es fnn∧m'≤n∧r0=ev P m' [Jj (P.funcs.getD kk Ze) ws o] sc tr∧tr.length≤F-m'∧(P.funcs.getD kk Ze).results=res∧Xj b pb (fun _=>False) w w5 from⟨k',ws',lp,sp',tp',lc,scc',tc',sc',tr',es',k',rfl,rfl,hk',hwl',hws',Ov how' (by omega),hps'.wk (fun g _ _ h=>h.1) (G HNP),by omega,hr0',htl',by rw [hre']; exact G HRE,G HK5⟩);clear hre' hwl' hws' how' hr0' hps' htl';go_wp2;go_roundg m'
        case measure=>omega
        case rel=>exact G HNX
       ·
        cases h
      | false =>
       rcases hbr with⟨h,-⟩ | ⟨-,hpr⟩
       ·
        cases h
       ·
        have HPR:=J (hpr.wk (B':=w.heap.size) hwz (N':=N) (fun g h=>h.1) (G HNP));rw [G HRE] at HPR;cases r0 using Zy.el with
        | done l m' sc' tr' =>
         obtain⟨-,-,-,how',sp',scc',tp',tc',es',fnn',hps'⟩:=hpr;obtain⟨lp,lc,rfl⟩:=Zm how';have k5:=cR hps'.row 5;clear how' hps';go_wp2;go_ret;exact⟨_,rfl,G HPR,G HK5⟩
        | trap c m' sc' tr' =>
         obtain⟨-,hlv,sp',scc',tp',tc',es',fnn',hps'⟩:=hpr;subst hlv;have k5:=cR hps'.row 5;clear hps';go_wp2;go_ret;exact⟨_,rfl,G HPR,G HK5⟩
        | spent sc' tr' =>
         obtain⟨hlv,sp',scc',tp',tc',es',fnn',hps'⟩:=hpr;subst hlv;have k5:=cR hps'.row 5;clear hps';go_wp2;go_ret;exact⟨_,rfl,G HPR,G HK5⟩
theorem Znz (P:Zl)(w0:World)(pb b fb fo fc F:Nat)(xv:Value)(A:Nat→Array Value)(hG:Yp P)(hPg:PgI w0 P fb fo A)(hF:F≤20000):∀ n,Sf P w0 pb b fb fo fc F xv n:=by
 intro n;induction n using Nat.strongRecOn with
 | _ n ih=>exact Zhc P w0 pb b fb fo fc F n xv A hG hPg hF ih
end Go.Proofs.YteddfaconabobaaGreatDoor
