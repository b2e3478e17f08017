import Derived.Test.YteddfaconabobaaGreatDoorPk
import Derived.Test.YteddfaconabobaaGreatDoorJ14
import Derived.Test.YteddfaconabobaaGreatDoorCkUh
namespace Go.Proofs.YteddfaconabobaaGreatDoor
open Go.RowKit
set_option maxHeartbeats 16000000 in
set_option maxRecDepth 100000 in
theorem Zgg (p:Zl)(f:Zn)(op d a bb n fx:Int)(gs:List (Int×Int))(os:List Int)(last:Bool)(fv ev pv hv sv bv av ov:Value)(A E:Nat→Array Value)(B:Nat→Value)(w:World)(hSC:ScD w p f fv ev pv hv sv bv A E B)(ha:LS 2 w av gs.length (fun k=>Yz (gs.getD k (0,0))))(ho:Li w ov os)(hF:Kh p f)(hn:0≤n∧n<18446744073709551616)(hg:op=17)(hel:decide (14≤op)=last)(hFS:Zhu p) :
 Calls Tryz.prog 35 #[.agg #[fv,ev],.agg #[pv,.int .i64 f.results,hv,sv,bv],.agg #[.int .i64 op,.int .i64 d,.int .i64 a,.int .i64 bb,.int .u64 n,.int .i64 fx,av,ov],.bool last] w fun e w'=>e=.returned (.bool (Xd p f ⟨op,d,a,bb,n,fx,gs,os⟩ last))∧Below w.heap.size w w':=by
 have HSC:=J hSC;have HA:=J ha;have HO:=J ho;have HF:=J hF;have HNN:=J hn;have hl1:f.homes.length<9223372036854775808:=hSC.func.hs.lt;have hl2:f.slots.length<9223372036854775808:=hSC.func.ss.lt;have hl3:f.blocks.length<9223372036854775808:=by obtain⟨_,_,_,_,h,_⟩:=hSC.func.bs; exact h
 have hl4:p.funcs.length<9223372036854775808:=by obtain⟨_,_,_,_,h,_⟩:=hSC.prog.fs; exact h
 have hl5:p.externs.length<9223372036854775808:=by obtain⟨_,_,_,_,h,_⟩:=hSC.prog.es; exact h
 have hl6:os.length<9223372036854775808:=ho.lt;have hl7:gs.length<9223372036854775808:=by obtain⟨_,_,_,_,h,_⟩:=ha; exact h
 obtain⟨pf,cf,rfl⟩:=hSC.prog.fs.shape;obtain⟨pe,ce,rfl⟩:=hSC.prog.es.shape;obtain⟨pp,cp,rfl⟩:=hSC.func.ps.shape;obtain⟨ph,ch,rfl⟩:=hSC.func.hs.shape;obtain⟨ps,cs,rfl⟩:=hSC.func.ss.shape;obtain⟨pb,cb,rfl⟩:=hSC.func.bs.shape;obtain⟨pa,ca,rfl⟩:=ha.shape;obtain⟨po,co,rfl⟩:=ho.shape;clear hSC ha ho hF hn;have HB3:=J (fun X Y Z:Obj=>show Below w.heap.size w (((w.alloc X).alloc Y).alloc Z) from(((Below.refl w.heap.size w).alloc (Nat.le_refl _) X).alloc (by simp) Y).alloc (by simp; omega) Z);have HB4:=J (fun X Y Z U:Obj=>show Below w.heap.size w ((((w.alloc X).alloc Y).alloc Z).alloc U) from(G HB3 X Y Z).alloc (by simp; omega) U);have hop:1≤op∧op≤18:=by omega
 have HG:=J hg;have HFS:=J hFS;clear hFS;clear hg
 ·
  skip
  ·
   have hin:Yi op 1 18=true:=by unfold Yi; exact decide_eq_true hop
   have hne:(last != last)=false:=by simp
   have HINS:=J (show Xd p f ⟨op,d,a,bb,n,fx,gs,os⟩ last=(!(Zw.spare ⟨op,d,a,bb,n,fx,gs,os⟩)&&Zf p f ⟨op,d,a,bb,n,fx,gs,os⟩) by
    unfold Xd;simp only [hin,hel,Bool.true_and];simp)
   obtain⟨hop1,hop2⟩:=hop;go_enter Tryz.func35,Tryz.ntmps35
   go_wp2_with fail
   refine(Jq op 1 18 _).mono ?_;rintro e w5 ⟨rfl,h5⟩;subst w5;rw [hin];go_upto_if 56 with fail
   clear hin hne hel;have hst:Jn (((((w.alloc (.cells #[.slice pf p.funcs.length cf,.slice pe p.externs.length ce] 29 (0,0))).alloc (.cells #[.slice pp f.params.length cp,.int .i64 f.results,.slice ph f.homes.length ch,.slice ps f.slots.length cs,.slice pb f.blocks.length cb] 60 (0,0))).alloc (.cells #[.int .i64 op,.int .i64 d,.int .i64 a,.int .i64 bb,.int .u64 n,.int .i64 fx,.slice pa gs.length ca,.slice po os.length co] 65 (0,0))).alloc (.cells #[.string ⟨#[]⟩,.bool false] 131 (0,0))).alloc (.cells #[.int .i64 op,.int .i64 (d.tmod 2),.int .i64 (a.tmod 2),.int .i64 (bb.tmod 2),.int .u64 n,.int .i64 (fx.tmod 2),.slice pa gs.length ca,.slice po os.length co] 65 (0,0))) (((((w.alloc (.cells #[.slice pf p.funcs.length cf,.slice pe p.externs.length ce] 29 (0,0))).alloc (.cells #[.slice pp f.params.length cp,.int .i64 f.results,.slice ph f.homes.length ch,.slice ps f.slots.length cs,.slice pb f.blocks.length cb] 60 (0,0))).alloc (.cells #[.int .i64 op,.int .i64 d,.int .i64 a,.int .i64 bb,.int .u64 n,.int .i64 fx,.slice pa gs.length ca,.slice po os.length co] 65 (0,0))).alloc (.cells #[.string ⟨#[]⟩,.bool false] 131 (0,0))).alloc (.cells #[.int .i64 op,.int .i64 (d.tmod 2),.int .i64 (a.tmod 2),.int .i64 (bb.tmod 2),.int .u64 n,.int .i64 (fx.tmod 2),.slice pa gs.length ca,.slice po os.length co] 65 (0,0))) (w.heap.size+1+1+1+1) #[.int .i64 op,.int .i64 (d.tmod 2),.int .i64 (a.tmod 2),.int .i64 (bb.tmod 2),.int .u64 n,.int .i64 (fx.tmod 2),.slice pa gs.length ca,.slice po os.length co]:=⟨Below.refl _ _,by have:=heap_alloc_new ((((w.alloc (.cells #[.slice pf p.funcs.length cf,.slice pe p.externs.length ce] 29 (0,0))).alloc (.cells #[.slice pp f.params.length cp,.int .i64 f.results,.slice ph f.homes.length ch,.slice ps f.slots.length cs,.slice pb f.blocks.length cb] 60 (0,0))).alloc (.cells #[.int .i64 op,.int .i64 d,.int .i64 a,.int .i64 bb,.int .u64 n,.int .i64 fx,.slice pa gs.length ca,.slice po os.length co] 65 (0,0))).alloc (.cells #[.string ⟨#[]⟩,.bool false] 131 (0,0))) (.cells #[.int .i64 op,.int .i64 (d.tmod 2),.int .i64 (a.tmod 2),.int .i64 (bb.tmod 2),.int .u64 n,.int .i64 (fx.tmod 2),.slice pa gs.length ca,.slice po os.length co] 65 (0,0)); simpa using this⟩
   have hW5:=G HB4 (.cells #[.slice pf p.funcs.length cf,.slice pe p.externs.length ce] 29 (0,0)) (.cells #[.slice pp f.params.length cp,.int .i64 f.results,.slice ph f.homes.length ch,.slice ps f.slots.length cs,.slice pb f.blocks.length cb] 60 (0,0)) (.cells #[.int .i64 op,.int .i64 d,.int .i64 a,.int .i64 bb,.int .u64 n,.int .i64 fx,.slice pa gs.length ca,.slice po os.length co] 65 (0,0)) (.cells #[.string ⟨#[]⟩,.bool false] 131 (0,0));have hrows:=Zet w (.cells #[.slice pf p.funcs.length cf,.slice pe p.externs.length ce] 29 (0,0)) (.cells #[.slice pp f.params.length cp,.int .i64 f.results,.slice ph f.homes.length ch,.slice ps f.slots.length cs,.slice pb f.blocks.length cb] 60 (0,0)) (.cells #[.int .i64 op,.int .i64 d,.int .i64 a,.int .i64 bb,.int .u64 n,.int .i64 fx,.slice pa gs.length ca,.slice po os.length co] 65 (0,0)) (.cells #[.string ⟨#[]⟩,.bool false] 131 (0,0)) (.cells #[.int .i64 op,.int .i64 (d.tmod 2),.int .i64 (a.tmod 2),.int .i64 (bb.tmod 2),.int .u64 n,.int .i64 (fx.tmod 2),.slice pa gs.length ca,.slice po os.length co] 65 (0,0));have hW:=hW5.alloc (by simp; omega) (.cells #[.int .i64 op,.int .i64 (d.tmod 2),.int .i64 (a.tmod 2),.int .i64 (bb.tmod 2),.int .u64 n,.int .i64 (fx.tmod 2),.slice pa gs.length ca,.slice po os.length co] 65 (0,0));generalize World.alloc (World.alloc (World.alloc (World.alloc (World.alloc w _) _) _) _) _=W at hst hrows hW ⊢;obtain⟨hR0,hR1,hR2,hR3,hZ⟩:=hrows;have HR0:=J hR0
   have HR1:=J hR1;have HR2:=J hR2;have HR3:=J hR3;have HZ:=J hZ;have HW:=J hW;have HST:=J hst;clear hR0 hR1 hR2 hR3 hZ hW hW5 hst HB3 HB4;go_cut [] from 54 to 57 (fun wc=>Jn W wc (w.heap.size+1+1+1+1) #[.int .i64 op,.int .i64 (nz d),.int .i64 (a.tmod 2),.int .i64 (bb.tmod 2),.int .u64 n,.int .i64 (fx.tmod 2),.slice pa gs.length ca,.slice po os.length co])
   case first =>
    have y0:=((G HST).cell 1).trans rfl;have y1:=(G HST).fz 1;by_cases hz:d=0
    ·
     have zz:(d != 0)=false:=by simp [hz]
     have HS2:=J (show Jn W _ (w.heap.size+1+1+1+1) #[.int .i64 op,.int .i64 (nz d),.int .i64 (a.tmod 2),.int .i64 (bb.tmod 2),.int .u64 n,.int .i64 (fx.tmod 2),.slice pa gs.length ca,.slice po os.length co] by have h:=G HST; rw [show(d.tmod 2)=nz d by unfold nz; rw [hz]; rfl] at h; exact h);clear y0 y1;go_wp2;go_meet
     case rel=>exact G HS2
    ·
     have zz:(d != 0)=true:=by simpa using hz
     have HS2:=J (show Jn W _ (w.heap.size+1+1+1+1) #[.int .i64 op,.int .i64 (nz d),.int .i64 (a.tmod 2),.int .i64 (bb.tmod 2),.int .u64 n,.int .i64 (fx.tmod 2),.slice pa gs.length ca,.slice po os.length co] by have h:=(G HST).set 1 (.int .i64 1); rw [show nz d=1 by unfold nz; rw [if_neg hz]]; exact h);clear hz;go_wp2;go_meet
     case rel=>exact G HS2
   case rest =>
    clear HST;have HST:=J hcut;clear hcut;have hlt4:w.heap.size+1+1<w.heap.size+1+1+1+1:=by omega
    clear hlt4;have xr:=(cR ((G HST).low_row (by omega) (G HR2)) 2);go_upto_if 60 with fail
    clear xr;go_cut [] from 58 to 61 (fun wc=>Jn W wc (w.heap.size+1+1+1+1) #[.int .i64 op,.int .i64 (nz d),.int .i64 (nz a),.int .i64 (bb.tmod 2),.int .u64 n,.int .i64 (fx.tmod 2),.slice pa gs.length ca,.slice po os.length co])
    case first =>
     have y0:=((G HST).cell 2).trans rfl;have y1:=(G HST).fz 2;by_cases hz:a=0
     ·
      have zz:(a != 0)=false:=by simp [hz]
      have HS2:=J (show Jn W _ (w.heap.size+1+1+1+1) #[.int .i64 op,.int .i64 (nz d),.int .i64 (nz a),.int .i64 (bb.tmod 2),.int .u64 n,.int .i64 (fx.tmod 2),.slice pa gs.length ca,.slice po os.length co] by have h:=G HST; rw [show(a.tmod 2)=nz a by unfold nz; rw [hz]; rfl] at h; exact h);clear y0 y1;go_wp2;go_meet
      case rel=>exact G HS2
     ·
      have zz:(a != 0)=true:=by simpa using hz
      have HS2:=J (show Jn W _ (w.heap.size+1+1+1+1) #[.int .i64 op,.int .i64 (nz d),.int .i64 (nz a),.int .i64 (bb.tmod 2),.int .u64 n,.int .i64 (fx.tmod 2),.slice pa gs.length ca,.slice po os.length co] by have h:=(G HST).set 2 (.int .i64 1); rw [show nz a=1 by unfold nz; rw [if_neg hz]]; exact h);clear hz;go_wp2;go_meet
      case rel=>exact G HS2
    case rest =>
     clear HST;have HST:=J hcut;clear hcut;have hlt4:w.heap.size+1+1<w.heap.size+1+1+1+1:=by omega
     clear hlt4;have xr:=(cR ((G HST).low_row (by omega) (G HR2)) 3);go_upto_if 64 with fail
     clear xr;go_cut [] from 62 to 65 (fun wc=>Jn W wc (w.heap.size+1+1+1+1) #[.int .i64 op,.int .i64 (nz d),.int .i64 (nz a),.int .i64 (nz bb),.int .u64 n,.int .i64 (fx.tmod 2),.slice pa gs.length ca,.slice po os.length co])
     case first =>
      have y0:=((G HST).cell 3).trans rfl;have y1:=(G HST).fz 3;by_cases hz:bb=0
      ·
       have zz:(bb != 0)=false:=by simp [hz]
       have HS2:=J (show Jn W _ (w.heap.size+1+1+1+1) #[.int .i64 op,.int .i64 (nz d),.int .i64 (nz a),.int .i64 (nz bb),.int .u64 n,.int .i64 (fx.tmod 2),.slice pa gs.length ca,.slice po os.length co] by have h:=G HST; rw [show(bb.tmod 2)=nz bb by unfold nz; rw [hz]; rfl] at h; exact h);clear y0 y1;go_wp2;go_meet
       case rel=>exact G HS2
      ·
       have zz:(bb != 0)=true:=by simpa using hz
       have HS2:=J (show Jn W _ (w.heap.size+1+1+1+1) #[.int .i64 op,.int .i64 (nz d),.int .i64 (nz a),.int .i64 (nz bb),.int .u64 n,.int .i64 (fx.tmod 2),.slice pa gs.length ca,.slice po os.length co] by have h:=(G HST).set 3 (.int .i64 1); rw [show nz bb=1 by unfold nz; rw [if_neg hz]]; exact h);clear hz;go_wp2;go_meet
       case rel=>exact G HS2
     case rest =>
      clear HST;have HST:=J hcut;clear hcut;have hlt4:w.heap.size+1+1<w.heap.size+1+1+1+1:=by omega
      clear hlt4;have xr:=(cR ((G HST).low_row (by omega) (G HR2)) 5);go_upto_if 68 with fail
      clear xr;go_cut [] from 66 to 69 (fun wc=>Jn W wc (w.heap.size+1+1+1+1) #[.int .i64 op,.int .i64 (nz d),.int .i64 (nz a),.int .i64 (nz bb),.int .u64 n,.int .i64 (nz fx),.slice pa gs.length ca,.slice po os.length co])
      case first =>
       have y0:=((G HST).cell 5).trans rfl;have y1:=(G HST).fz 5;by_cases hz:fx=0
       ·
        have zz:(fx != 0)=false:=by simp [hz]
        have HS2:=J (show Jn W _ (w.heap.size+1+1+1+1) #[.int .i64 op,.int .i64 (nz d),.int .i64 (nz a),.int .i64 (nz bb),.int .u64 n,.int .i64 (nz fx),.slice pa gs.length ca,.slice po os.length co] by have h:=G HST; rw [show(fx.tmod 2)=nz fx by unfold nz; rw [hz]; rfl] at h; exact h);clear y0 y1;go_wp2;go_meet
        case rel=>exact G HS2
       ·
        have zz:(fx != 0)=true:=by simpa using hz
        have HS2:=J (show Jn W _ (w.heap.size+1+1+1+1) #[.int .i64 op,.int .i64 (nz d),.int .i64 (nz a),.int .i64 (nz bb),.int .u64 n,.int .i64 (nz fx),.slice pa gs.length ca,.slice po os.length co] by have h:=(G HST).set 5 (.int .i64 1); rw [show nz fx=1 by unfold nz; rw [if_neg hz]]; exact h);clear hz;go_wp2;go_meet
        case rel=>exact G HS2
      case rest =>
       clear HST;have HST:=J hcut;clear hcut;have hlt4:w.heap.size+1+1<w.heap.size+1+1+1+1:=by omega
       clear hlt4;have y6:=((G HST).cell 6).trans rfl;have y7:=((G HST).cell 7).trans rfl;have g6:=(G HST).fz 6;have g7:=(G HST).fz 7;have hs2:=((G HST).set 6 (.slice none 0 0)).set 7 (.slice none 0 0);have x0:=(cR (hs2.low_row (by omega) (G HR2)) 0);have HS2:=J hs2;clear hs2;go_wp2_with fail
       clear y6 y7 g6 g7 x0;have hs3:Jn W _ (w.heap.size+1+1+1+1) #[.int .i64 op,.int .i64 (nz d),.int .i64 (nz a),.int .i64 (nz bb),.int .u64 n,.int .i64 (nz fx),.slice none 0 0,.slice none 0 0]:=G HS2;generalize World.setCell (World.setCell wc _ _) _ _=V1 at hs3 ⊢;have HST:=J hs3;clear hs3 HS2;refine(Ra op V1).mono ?_;rintro e w5 ⟨rfl,h5⟩;subst w5;obtain⟨s,hs⟩:∃ s,s=Me op:=⟨_,rfl⟩;rw [← hs];obtain⟨ls,hls⟩:∃ ls,ls=s.data.toList:=⟨_,rfl⟩;have HS:=J hs;have HLS:=J hls;have hsl:ls.length=s.size:=by rw [hls]; exact Array.length_toList
       have hs4:s.size≤4:=by have h:=Mr op; rw [← hsl,hls,hs]; exact h
       have HSL:=J hsl;clear hs hls hsl;go_wp2_with fail
       have hV1z:=(G HST).low.size;have hTI:w.heap.size+1+1+1+1<V1.heap.size:=Zd (G HST).row;have HIT:=J (show(V1.iter s 0).heap[V1.heap.size]?=some (.stringIter s 0) from heap_alloc_new V1 _);have HST1:=J (show Jn W (V1.iter s 0) (w.heap.size+1+1+1+1) #[.int .i64 op,.int .i64 (nz d),.int .i64 (nz a),.int .i64 (nz bb),.int .u64 (zn [] n),.int .i64 (nz fx),.slice none 0 0,.slice none 0 0] from⟨Za (G HST).low ((Yj V1 (.stringIter s 0)).2.1) (by omega),((Yj V1 (.stringIter s 0)).2.1.block _ hTI).trans (by have h:=(G HST).row; rw [show zn ([]:List UInt8) n=n from rfl]; exact h)⟩);clear HST hV1z;generalize hTT:V1.heap.size=TI at HIT hTI ⊢;clear hTT;go_loopw [] (fun wr=>∃ q:Nat,q≤s.size∧Jn W wr (w.heap.size+1+1+1+1) #[.int .i64 op,.int .i64 (nz d),.int .i64 (nz a),.int .i64 (nz bb),.int .u64 (zn (ls.take q) n),.int .i64 (nz fx),.slice none 0 0,.slice none 0 0]∧wr.heap[TI]?=some (.stringIter s q)) (fun wr=>s.size-wr.iterPos TI)
       case atStart=>exact⟨0,by omega,by rw [List.take_zero]; exact G HST1,G HIT⟩
       case round =>
        obtain⟨q,hq,hrs,hit⟩:=hrel;have hm:=iterPos_of hit;clear HST1 HIT;by_cases hp:q<s.size
        ·
         have hxl:q<ls.length:=by rw [G HSL]; exact hp
         have hmem:ls[q] ∈ Zu op:=by
          have h2:ls=Zu op:=by rw [G HLS,G HS]; rfl
          exact(show ∀ x,x ∈ ls→x ∈ Zu op from fun x hx=>h2 ▸ hx) _ (List.getElem_mem hxl)
         have hget:s[q]'hp=ls[q]:=by
          have:=G HLS;subst this;rfl
         have htk:ls.take (q+1)=ls.take q++[ls[q]]:=List.take_succ_eq_append_getElem hxl;have hlet:=Gx op _ hmem;generalize ls[q]=c at hget htk hlet;have hc128:c.toNat<128:=by rcases hlet with rfl | rfl | rfl | rfl | rfl | rfl | rfl | rfl | rfl <;> decide
         have hnx:∀ ty,(Instr.next (.pointer (some ⟨TI,0,none⟩)) true ty).run Tryz.prog wr=.ok (.tuple #[.bool true,.int .i64 q,.int .i32 c.toNat]) (wr.iterAt TI s (q+1)):=fun ty=>by
          have:=Lib.run_next_ascii_at (P:=Tryz.prog) wr TI s q ty hit hp (by rw [hget]; exact hc128);rw [hget] at this;exact this
         have hrs2:Jn W (wr.iterAt TI s (q+1)) (w.heap.size+1+1+1+1) #[.int .i64 op,.int .i64 (nz d),.int .i64 (nz a),.int .i64 (nz bb),.int .u64 (zn (ls.take q) n),.int .i64 (nz fx),.slice none 0 0,.slice none 0 0]:=⟨⟨hrs.low.os,hrs.low.tape,hrs.low.output,by rw [Lib.iterAt_size]; exact hrs.low.size,fun g hg=>(Lib.iterAt_other _ _ _ _ _ (by omega)).trans (hrs.low.block g hg)⟩,(Lib.iterAt_other _ _ _ _ _ (by omega)).trans hrs.row⟩;have hit2:=Lib.iterAt_heap wr TI s q (q+1) hit;obtain⟨u,hu⟩:∃ u,u=wr.iterAt TI s (q+1):=⟨_,rfl⟩;rw [← hu] at hnx hrs2 hit2;by_cases hcn:c=110
         ·
          subst hcn;have y4:=(hrs2.cell 4).trans rfl;have g4:=hrs2.fz 4;have HZ2:=J (show Jn W (u.setCell ⟨w.heap.size+1+1+1+1,4,none⟩ (.int .u64 0)) (w.heap.size+1+1+1+1) #[.int .i64 op,.int .i64 (nz d),.int .i64 (nz a),.int .i64 (nz bb),.int .u64 (zn (ls.take (q+1)) n),.int .i64 (nz fx),.slice none 0 0,.slice none 0 0] by have h:=hrs2.set 4 (.int .u64 0); rw [show zn (ls.take (q+1)) n=0 by rw [htk]; unfold zn; simp]; exact h);have HI2:=J (show(u.setCell ⟨w.heap.size+1+1+1+1,4,none⟩ (.int .u64 0)).heap[TI]?=some (.stringIter s (q+1)) from(heap_setCell_other _ _ _ _ (by show TI≠w.heap.size+1+1+1+1; omega)).trans hit2);clear hu hrs hrs2 hit hit2 htk hget hmem hlet;go_wp2;go_roundw
          case rel=>exact⟨q+1,hp,G HZ2,G HI2⟩
          case measure=>rw [hm,iterPos_of (G HI2)]; omega
         ·
          have z110:((c.toNat:Int)==110)=false:=by simp; intro h; exact hcn (UInt8.toNat_inj.1 (by rw [show(110:UInt8).toNat=110 from rfl]; omega))
          have HZ2:=J (show Jn W u (w.heap.size+1+1+1+1) #[.int .i64 op,.int .i64 (nz d),.int .i64 (nz a),.int .i64 (nz bb),.int .u64 (zn (ls.take (q+1)) n),.int .i64 (nz fx),.slice none 0 0,.slice none 0 0] by have h:=hrs2; rw [show zn (ls.take (q+1)) n=zn (ls.take q) n by rw [htk]; unfold zn; simp [Ne.symm hcn]]; exact h);have HI2:=J hit2;clear hu hrs hrs2 hit hit2 htk hget hmem hlet hcn;go_wp2;go_roundw
          case rel=>exact⟨q+1,hp,G HZ2,G HI2⟩
          case measure=>rw [hm,iterPos_of (G HI2)]; omega
        ·
         obtain rfl:q=s.size:=by omega
         have htl:ls.take s.size=ls:=by rw [← G HSL]; exact List.take_length
         rw [htl] at hrs;have hnx:∀ ty,(Instr.next (.pointer (some ⟨TI,0,none⟩)) true ty).run Tryz.prog wr=_:=fun ty=>Lib.run_next_end_at wr TI s _ ty hit hp;have y0:=(hrs.cell 0).trans rfl;have y1:=(hrs.cell 1).trans rfl;have y2:=(hrs.cell 2).trans rfl;have y3:=(hrs.cell 3).trans rfl;have y4:=(hrs.cell 4).trans rfl;have y5:=(hrs.cell 5).trans rfl;have y6:=(hrs.cell 6).trans rfl;have y7:=(hrs.cell 7).trans rfl;have HRS:=J hrs;clear hrs hm htl hit;have HN0:=J (show 0≤zn ls n∧zn ls n<18446744073709551616 by have h:=G HNN; unfold zn; split; exact⟨by omega,by omega⟩; exact h);generalize hn0:zn ls n=n0 at HRS y4 HN0;have HNE:=J hn0;clear hn0;go_wp2_with fail
         clear y0 y1 y2 y3 y4 y5 y6 y7 hnx;have hpen:=(G HRS).low_row (g:=w.heap.size+1+1+1) (by omega) (G HR3);have hPn:Pn wr (w.heap.size+1+1+1) [] false:=⟨(cR hpen 0),(cR hpen 1),frozen_of_row _ _ 0 _ _ hpen,frozen_of_row _ _ 1 _ _ hpen⟩;refine(Zav (w.heap.size+1+1+1) [] false ⟨op,nz d,nz a,nz bb,n0,nz fx,[],[]⟩ _ _ wr hPn (by have h:=Us ⟨op,nz d,nz a,nz bb,n0,nz fx,[],[]⟩; simp only [Zgi,List.length_nil] at h ⊢; omega) (G HN0) [] rfl (by simp) (Or.inl ⟨rfl,none,0,rfl⟩) (Or.inl ⟨rfl,none,0,rfl⟩)).mono ?_;rintro e w2 ⟨rfl,hpn,hgb⟩;have hz4:w.heap.size+1+1+1+1<wr.heap.size:=Zd (G HRS).row;have hgz:=hgb.size;have keep:∀ g o,g<w.heap.size+1+1+1→W.heap[g]?=some o→w2.heap[g]?=some o:=fun g o hg h=>(hgb.block g (by omega) (by intro e; injection e with e; omega)).trans ((G HRS).low_row (by omega) h);have HQ0:=J (keep _ _ (by omega) (G HR0));have HQ1:=J (keep _ _ (by omega) (G HR1));have HQ2:=J (keep _ _ (by omega) (G HR2));have HPN:=J hpn;have HZ4:=J (show w.heap.size+1+1+1+1<w2.heap.size by omega);have HBW:=J (show Below w.heap.size w w2 from⟨hgb.os.trans ((G HRS).low.os.trans (G HW).os),hgb.tape.trans ((G HRS).low.tape.trans (G HW).tape),hgb.output.trans ((G HRS).low.output.trans (G HW).output),by omega,fun g hg=>(hgb.block g (by omega) (by intro e; injection e with e; omega)).trans (((G HRS).low.block g (by omega)).trans ((G HW).block g hg))⟩);have x6:=(cR (G HQ2) 6)
         have x7:=(cR (G HQ2) 7);clear hpn hgb hpen hPn keep hgz hz4 HRS;go_wp2_with fail
         clear x6 x7;obtain⟨rB,bB,sB⟩:=Yj w2 (.cells #[.int .u8 82,.int .i64 gs.length,.int .u8 79,.int .i64 os.length] 134 (0,0));generalize World.alloc w2 _=W3 at rB bB sB ⊢;have HRB:=J rB;have HBB:=J bB;have hW3:w2.heap.size<W3.heap.size:=by omega
         generalize hTB:w2.heap.size=TB at HRB hW3 ⊢;have HTB:=J hTB;clear rB bB sB hTB;go_loopw [96] (fun j w'=>∃ k:Nat,j=.int .i64 k∧k≤2∧Below W3.heap.size W3 w'∧∀ q,q<k→Df ls gs.length os.length q=true) (fun j _=>2-(intOf j).toNat)
         case atStart=>exact⟨0,rfl,by omega,Below.refl _ _,fun q hq=>by omega⟩
         case round =>
          obtain⟨k,rfl,hk,hbw,hno⟩:=hrel;have HNO:=J hno;have HBK:=J hbw;have hkz:=hbw.size;clear hno;have hk3:k=0∨k=1∨k=2:=by omega
          rcases hk3 with rfl | rfl | rfl
          ·
           have hrow:=(hbw.block TB hW3).trans (G HRB);have k0:=(cR hrow 0);have k1:=(cR hrow 1);clear hbw hrow;go_wp2_with fail
           obtain⟨rE,bE,sE⟩:=Yj wr (.cells #[.int .u8 82,.int .i64 gs.length] 134 (0,0));generalize hTx:wr.heap.size=Tx at rE sE ⊢;generalize World.alloc wr _=U at rE bE sE ⊢;have q0:=(cR rE 0);have q1:=(cR rE 1);have HBE:=J (Za (G HBK) bE hkz);clear rE bE k0 k1 hTx sE;go_loopw [16,17] (fun t j w'=>∃ i m:Nat,j=.int .i64 i∧i≤s.size∧t=.bool ((ls.take i).contains 82)∧w'=U.drewN m) (fun _ j _=>s.size-(intOf j).toNat)
           case atStart=>exact⟨0,0,rfl,by omega,rfl,rfl⟩
           case round =>
            obtain⟨i,m,rfl,hi,rfl,hwm⟩:=hrel;subst hwm;by_cases hi2:i<s.size
            ·
             have hil:i<ls.length:=by rw [G HSL]; exact hi2
             have hget:s[i]'hi2=ls[i]:=by
              have:=G HLS;subst this;rfl
             have htk:ls.take (i+1)=ls.take i++[ls[i]]:=List.take_succ_eq_append_getElem hil;cases ht:(ls.take i).contains 82 with
             | true =>
              have HTK:=J (show(ls.take (i+1)).contains 82=true by rw [htk]; simp only [List.contains_eq_mem,List.mem_append,decide_eq_true_eq]; left; simpa using ht);clear htk hget ht;go_wp2_with fail
              go_quiet (fail)
              go_wp2;go_roundw
              case rel=>exact⟨i+1,_,by go_num,by omega,by rw [G HTK],rfl⟩
              case measure=>simp [intOf]; omega
             | false =>
              have HTK:=J (show((((s[i]'hi2).toNat:Int)==82)=(ls.take (i+1)).contains 82) by rw [htk,Lg _ _ _ ht,← hget]; exact(Sl _ 82).symm);clear htk hget ht;go_wp2_with fail
              go_quiet (fail)
              go_wp2;go_roundw
              case rel=>exact⟨i+1,_,by go_num,by omega,congrArg Value.bool (G HTK),rfl⟩
              case measure=>simp [intOf]; omega
            ·
             obtain rfl:i=s.size:=by omega
             have htl:ls.take s.size=ls:=by rw [← G HSL]; exact List.take_length
             rw [htl];clear htl;have HU:=J (Zk (G HBE) m);cases hct:ls.contains 82 with
             | true =>
              have hz:=J (Zq (q:=Df ls gs.length os.length) (G HNO) (Zal hct));clear hct;by_cases hcnt:0<gs.length
              ·
               go_wp2;go_roundw
               case rel=>exact⟨1,by go_num,by omega,G HU,G hz⟩
               case measure=>simp [intOf]
              ·
               go_wp2;go_roundw
               case rel=>exact⟨1,by go_num,by omega,G HU,G hz⟩
               case measure=>simp [intOf]
             | false =>
              by_cases hcnt:0<gs.length
              ·
               have HSPR:=J (Nh hop1 hop2 (show ls=Zu op by rw [G HLS,G HS]; rfl) hct hcnt:Zw.spare ⟨op,d,a,bb,n,fx,gs,os⟩=true);have hz:=J (show Xd p f ⟨op,d,a,bb,n,fx,gs,os⟩ last=false by rw [G HINS,G HSPR]; rfl);clear hct;go_wp2;go_ret;exact⟨by rw [G hz]; rfl,Za (G HBW) (Za (G HBB) (G HU) (by have:=G HTB; omega)) (by have:=G HZ4; omega)⟩
              ·
               have hz:=J (Zq (q:=Df ls gs.length os.length) (G HNO) (Zan hcnt));clear hct;go_wp2;go_roundw
               case rel=>exact⟨1,by go_num,by omega,G HU,G hz⟩
               case measure=>simp [intOf]
          ·
           have hrow:=(hbw.block TB hW3).trans (G HRB);have k0:=(cR hrow 2);have k1:=(cR hrow 3);clear hbw hrow;go_wp2_with fail
           obtain⟨rE,bE,sE⟩:=Yj wr (.cells #[.int .u8 79,.int .i64 os.length] 134 (0,0));generalize hTx:wr.heap.size=Tx at rE sE ⊢;generalize World.alloc wr _=U at rE bE sE ⊢;have q0:=(cR rE 0);have q1:=(cR rE 1);have HBE:=J (Za (G HBK) bE hkz);clear rE bE k0 k1 hTx sE;go_loopw [16,17] (fun t j w'=>∃ i m:Nat,j=.int .i64 i∧i≤s.size∧t=.bool ((ls.take i).contains 79)∧w'=U.drewN m) (fun _ j _=>s.size-(intOf j).toNat)
           case atStart=>exact⟨0,0,rfl,by omega,rfl,rfl⟩
           case round =>
            obtain⟨i,m,rfl,hi,rfl,hwm⟩:=hrel;subst hwm;by_cases hi2:i<s.size
            ·
             have hil:i<ls.length:=by rw [G HSL]; exact hi2
             have hget:s[i]'hi2=ls[i]:=by
              have:=G HLS;subst this;rfl
             have htk:ls.take (i+1)=ls.take i++[ls[i]]:=List.take_succ_eq_append_getElem hil;cases ht:(ls.take i).contains 79 with
             | true =>
              have HTK:=J (show(ls.take (i+1)).contains 79=true by rw [htk]; simp only [List.contains_eq_mem,List.mem_append,decide_eq_true_eq]; left; simpa using ht);clear htk hget ht;go_wp2_with fail
              go_quiet (fail)
              go_wp2;go_roundw
              case rel=>exact⟨i+1,_,by go_num,by omega,by rw [G HTK],rfl⟩
              case measure=>simp [intOf]; omega
             | false =>
              have HTK:=J (show((((s[i]'hi2).toNat:Int)==79)=(ls.take (i+1)).contains 79) by rw [htk,Lg _ _ _ ht,← hget]; exact(Sl _ 79).symm);clear htk hget ht;go_wp2_with fail
              go_quiet (fail)
              go_wp2;go_roundw
              case rel=>exact⟨i+1,_,by go_num,by omega,congrArg Value.bool (G HTK),rfl⟩
              case measure=>simp [intOf]; omega
            ·
             obtain rfl:i=s.size:=by omega
             have htl:ls.take s.size=ls:=by rw [← G HSL]; exact List.take_length
             rw [htl];clear htl;have HU:=J (Zk (G HBE) m);cases hct:ls.contains 79 with
             | true =>
              have hz:=J (Zq (q:=Df ls gs.length os.length) (G HNO) (Zam hct));clear hct;by_cases hcnt:0<os.length
              ·
               go_wp2;go_roundw
               case rel=>exact⟨2,by go_num,by omega,G HU,G hz⟩
               case measure=>simp [intOf]
              ·
               go_wp2;go_roundw
               case rel=>exact⟨2,by go_num,by omega,G HU,G hz⟩
               case measure=>simp [intOf]
             | false =>
              by_cases hcnt:0<os.length
              ·
               have HSPR:=J (Ni hop1 hop2 (show ls=Zu op by rw [G HLS,G HS]; rfl) hct hcnt:Zw.spare ⟨op,d,a,bb,n,fx,gs,os⟩=true);have hz:=J (show Xd p f ⟨op,d,a,bb,n,fx,gs,os⟩ last=false by rw [G HINS,G HSPR]; rfl);clear hct;go_wp2;go_ret;exact⟨by rw [G hz]; rfl,Za (G HBW) (Za (G HBB) (G HU) (by have:=G HTB; omega)) (by have:=G HZ4; omega)⟩
              ·
               have hz:=J (Zq (q:=Df ls gs.length os.length) (G HNO) (Zao hcnt));clear hct;go_wp2;go_roundw
               case rel=>exact⟨2,by go_num,by omega,G HU,G hz⟩
               case measure=>simp [intOf]
          ·
           have hpn:=(G HPN);have hp3:w.heap.size+1+1+1<W3.heap.size:=by have:=G HZ4; have:=G HTB; omega
           have hbW:Below w2.heap.size w2 wr:=Za (G HBB) hbw (by have:=G HTB; omega);have pc:=(hbW.cell (p:=⟨w.heap.size+1+1+1,1,none⟩) (by have:=G HZ4; show w.heap.size+1+1+1<w2.heap.size; omega)).trans hpn.c1;have HOKA:=J ((G HNO) 0 (by omega));have HOKB:=J ((G HNO) 1 (by omega));have HBV:=J hbW;have HVZ:=J (show w.heap.size+1+1+1+1<wr.heap.size by have:=G HZ4; have:=hbW.size; omega);clear hpn hbw hbW hp3;have HBAD:=J (Zak (d:=d) (a:=a) (bb:=bb) (n:=n) (fx:=fx) (gs:=gs) (os:=os) hop1 hop2 (show ls=Zu op by rw [G HLS,G HS]; rfl) (G HNE) (G HOKA) (G HOKB));rw [Bool.false_or,G HBAD] at pc;cases hsp:Zw.spare ⟨op,d,a,bb,n,fx,gs,os⟩ with
           | true =>
            rw [hsp] at pc;have hz:=J (show Xd p f ⟨op,d,a,bb,n,fx,gs,os⟩ last=false by rw [G HINS,hsp]; rfl);clear hsp;go_wp2;go_ret;exact⟨by rw [G hz]; rfl,Za (G HBW) (G HBV) (by have:=G HZ4; omega)⟩
           | false =>
            rw [hsp] at pc;have HFIN:=J (show Xd p f ⟨op,d,a,bb,n,fx,gs,os⟩ last=Zf p f ⟨op,d,a,bb,n,fx,gs,os⟩ by rw [G HINS,hsp]; rfl);clear hsp;have HQA:=J (((G HBV).block _ (by have:=G HZ4; omega)).trans (G HQ0));have HQB:=J (((G HBV).block _ (by have:=G HZ4; omega)).trans (G HQ1));have HQC:=J (((G HBV).block _ (by have:=G HZ4; omega)).trans (G HQ2));have HB9:=J (Za (G HBW) (G HBV) (by have:=G HZ4; omega));have HVW:=J (show w.heap.size<wr.heap.size by have:=G HVZ; omega);clear HQ0 HQ1 HQ2 HR0 HR1 HR2 HR3 HPN HBB HBK HNO HOKA HOKB HBAD HRB HTB;have x0:=(cR (G HQC) 0);have x1:=(cR (G HQC) 1);have x2:=(cR (G HQC) 2);have x3:=(cR (G HQC) 3);have x4:=(cR (G HQC) 4);have x5:=(cR (G HQC) 5);have x6:=(cR (G HQC) 6);have x7:=(cR (G HQC) 7);have f0:=(cR (G HQB) 0);have f1:=(cR (G HQB) 1);have f2:=(cR (G HQB) 2);have f3:=(cR (G HQB) 3);have f4:=(cR (G HQB) 4);have hg:=G HG;obtain rfl:=hg;skip
            have p0:=fun X:Obj=>(Yh (G HQA) 0 X).trans rfl;have y0:=fun X:Obj=>(Yh (G HQC) 0 X).trans rfl;have y5:=fun X:Obj=>(Yh (G HQC) 5 X).trans rfl;go_wp2_with fail
            clear p0 y0 y5 x0 x1 x2 x3 x4 x5 x6 x7 f0 f1 f2 f3 f4;obtain⟨rC,bC,sC⟩:=Yj wr (.cells #[.slice none 0 0,.int .i64 0] 56 (0,0));have HUA:=J ((bC.block _ (by have:=G HVZ; omega)).trans (G HQA));have HUB:=J ((bC.block _ (by have:=G HVZ; omega)).trans (G HQB));have HUC:=J ((bC.block _ (by have:=G HVZ; omega)).trans (G HQC));have HBU:=J (Za (G HB9) bC (by have:=G HVW; omega));have hTV:=G HVZ;generalize wr.heap.size=Tc at rC sC hTV ⊢;generalize World.alloc wr _=U at rC bC sC HUA HUB HUC HBU ⊢;have hCU:Tc<U.heap.size:=by omega
            have hWT:w.heap.size<Tc:=by omega
            have HRC:=J rC;clear rC bC sC HQA HQB HQC;refine(Jq fx 0 (p.funcs.length-1) _).mono ?_;rintro e w9 ⟨rfl,h9⟩;subst w9;cases hr:Yi fx 0 (p.funcs.length-1) with
            | false =>
             have hz:=J (show Zf p f ⟨17,d,a,bb,n,fx,gs,os⟩=false by unfold Zf; simp [hr]);clear hr;go_wp2;go_ret;exact⟨by rw [G HFIN,G hz]; rfl,G HBU⟩
            | true =>
             unfold Yi at hr;obtain⟨g0,g1⟩:=of_decide_eq_true hr;obtain⟨m,rfl⟩:∃ m:Nat,fx=m:=⟨fx.toNat,by omega⟩;have hm:m<p.funcs.length:=by omega
             have hin:Yi (m:Int) 0 (p.funcs.length-1)=true:=by unfold Yi; exact decide_eq_true ⟨by omega,by omega⟩
             have hPU:=(G HSC).prog.below (G HBU);obtain⟨p',cap',he,-,-,hcc⟩:=hPU.fs;injection he with j1 j2 j3;subst j1 j3;obtain⟨sb,so,rfl,hsbl,hc⟩:=hcc (by omega);have hel:=hc m hm;have hfc:=hPU.feach m hm;have hgd:p.funcs[m]=p.funcs.getD m Ze:=by simp [List.getD,hm]
             rw [hgd] at hfc;have hg8:=(G HF).funcs m hm;have hgs:=(G HFS).funcs m hm;have HX:=J (show Zf p f ⟨17,d,a,bb,n,m,gs,os⟩=Mp f ⟨17,d,a,bb,n,m,gs,os⟩ ((Xn (p.funcs.getD m Ze)).1,(p.funcs.getD m Ze).results) by unfold Zf; simp only [Int.toNat_natCast]; rw [hin]; rfl);generalize p.funcs.getD m Ze=g at hfc hg8 hgs HX;obtain⟨gv,hgv,sg,bg,Bg,hA,hfd⟩:=hfc;have HFD:=J hfd;obtain⟨gp,gc,rfl⟩:=hfd.ps.shape;obtain⟨gh,gch,rfl⟩:=hfd.hs.shape;obtain⟨gss,gcs,rfl⟩:=hfd.ss.shape;obtain⟨gb,gcb,rfl⟩:=hfd.bs.shape;rw [hA] at hel;have e0:=hel 0 _ rfl;have e1:=hel 1 _ rfl;have e2:=hel 2 _ rfl;have e3:=hel 3 _ rfl;have e4:=hel 4 _ rfl;rw [Nat.add_zero] at e0;have p0:=(cR (G HUA) 0);have x5:=(cR (G HUC) 5);clear hr hin hfd hel hcc hc hgd g0 g1 hA j2 hPU;go_wp2_with fail
             clear e0 e1 e2 e3 e4 p0 x5;refine(Ka g _ _ _ _ U (G HFD).ps (by omega)).mono ?_;rintro e w6 ⟨v6,rfl,hv6,hb6,hfr⟩;obtain⟨pq,cq,rfl⟩:=hv6.shape;have HFR:=J (fun sb so n c he=>Nat.lt_of_lt_of_le hCU (hfr sb so n c he));generalize (Xn g).1=sgl at hv6 hgs HX HFR ⊢;generalize hres:g.results=res at HX ⊢;clear hres hfr HFD hg8;have hrc:=(hb6.block Tc hCU).trans (G HRC);have hvB:=(setRow_other w6 Tc (w.heap.size+1) #[.slice pq sgl.length cq,.int .i64 res] (by omega)).trans ((hb6.block _ (by omega)).trans (G HUB));have hvC:=(setRow_other w6 Tc (w.heap.size+1+1) #[.slice pq sgl.length cq,.int .i64 res] (by omega)).trans ((hb6.block _ (by omega)).trans (G HUC));have hvS:=setRow_heap w6 Tc _ #[.slice pq sgl.length cq,.int .i64 res] _ _ hrc;have hLV:Li (w6.setRow Tc #[.slice pq sgl.length cq,.int .i64 res]) (.slice pq sgl.length cq) sgl:=hv6.setRow (fun sb so n c he h0=>by have:=G HFR sb so n c he; omega);have hBV:=Zh (cs:=#[.slice pq sgl.length cq,.int .i64 res]) (T:=Tc) (Za (G HBU) hb6 (by omega)) (by omega);have hVz:Tc<(w6.setRow Tc #[.slice pq sgl.length cq,.int .i64 res]).heap.size:=Zd hvS;have y6:=(cR hvC 6);have c0:=(cR hvS 0);have HRC6:=J hrc;have HVB:=J hvB;have HVC:=J hvC;have HVS:=J hvS;have HLV:=J hLV;have HBV:=J hBV;clear hrc hvB hvC hvS hLV hBV hb6 hv6 HFR HRC HUA HUB HUC;have hsl:sgl.length<9223372036854775808:=(G HLV).lt;by_cases hne:gs.length=sgl.length
             ·
              have zne:((gs.length:Int) != (sgl.length:Int))=false:=by simp [hne]
              go_wp2_with (refine wpList_store_row rfl 56 (.tmp 19) (.tmp 305) rfl Tc #[.slice pq sgl.length cq,.int .i64 res] rfl rfl 56 _ (G HRC6) (Tryz.infSigK.trans rfl) rfl (by simp [Value.oneCell']) ?_)
              clear y6 c0 HRC6;generalize hVV:w6.setRow Tc _=V at HVB HVC HVS HLV HBV hVz ⊢;clear hVV;have HAB:=J (show Ju f gs sgl=De gs.length (fun k=>(decide ((gs.getD k (0,0)).1=sgl.getD k 0)&&Ye f (gs.getD k (0,0)))) by unfold Ju; simp [hne]);have HNE:=J hne;clear hne zne;go_loopw [316] (fun j w'=>∃ k:Nat,j=.int .i64 k∧k≤gs.length∧Below V.heap.size V w'∧∀ q,q<k→(decide ((gs.getD q (0,0)).1=sgl.getD q 0)&&Ye f (gs.getD q (0,0)))=true) (fun j _=>gs.length-(intOf j).toNat)
              case atStart=>exact⟨0,rfl,by omega,Below.refl _ _,fun q hq=>by omega⟩
              case round =>
               obtain⟨k,rfl,hk,hbw,hno⟩:=hrel;have HN:=J hno;clear hno;have hws:=hbw.size;by_cases hk2:k<gs.length
               ·
                have hk3:k<sgl.length:=by have:=G HNE; omega
                obtain⟨p9,cap9,he,-,-,hac⟩:=((G HA).below (G HBV)).pairs;injection he with j1 j2 j3;subst j1 j3;obtain⟨sa,oa,rfl,hcc⟩:=hac (by omega);obtain⟨p8,cap8,he2,-,-,hqc⟩:=G HLV;injection he2 with i1 i2 i3;subst i1 i3;obtain⟨sq,oq,rfl,hqq⟩:=hqc (by omega);have hsa:sa<V.heap.size:=World.block_lt_of_cell? V _ (hcc k hk2).1;have c1:=(hbw.cell (p:=⟨sa,oa+k*2,none⟩) hsa).trans (hcc k hk2).1;have c2:=(hbw.cell (p:=⟨sa,oa+k*2+1,none⟩) hsa).trans (hcc k hk2).2;have hcq':=(hbw.cell (World.block_lt_of_cell? V _ (hqq k hk3))).trans (hqq k hk3);have hz0:0≤sgl.getD k 0:=by have:=Xt hgs hk3; unfold Yi at this; exact(of_decide_eq_true this).1
                have HROF:=J ((hbw.block (w.heap.size+1) (by omega)).trans (G HVB));have HROS:=J ((hbw.block Tc (by omega)).trans (G HVS));have HBAD:=J (fun hb:(decide ((gs.getD k (0,0)).1=sgl.getD k 0)&&Ye f (gs.getD k (0,0)))=false=>show Xd p f ⟨17,d,a,bb,n,m,gs,os⟩ last=false from(G HFIN).trans ((G HX).trans (by unfold Mp; simp only; rw [(G HAB).trans (Ya hk2 hb)]; rfl)));have HNX:=J (fun hb:(decide ((gs.getD k (0,0)).1=sgl.getD k 0)&&Ye f (gs.getD k (0,0)))=true=>Zq (q:=fun q=>(decide ((gs.getD q (0,0)).1=sgl.getD q 0)&&Ye f (gs.getD q (0,0)))) (G HN) hb);have HBW:=J hbw;clear hac hqc hcc hqq hbw j2 i2;generalize gs.getD k (0,0)=xy at c1 c2 HBAD HNX;obtain⟨x,y⟩:=xy;generalize sgl.getD k 0=z2 at hcq' HBAD HNX hz0;simp only at c1 c2 HBAD HNX;go_wp2_with fail
                have hy:=Yj wr (.cells #[.int .i64 x,.int .i64 y] 139 (0,0));have hrX:=hy.1;have hrF:=(hy.2.1.block (w.heap.size+1) (by omega)).trans (G HROF);have hrS:=(hy.2.1.block Tc (by omega)).trans (G HROS);have hcQ:=(hy.2.1.cell (World.block_lt_of_cell? wr _ hcq')).trans hcq';have hbU:Below V.heap.size V (wr.alloc (.cells #[.int .i64 x,.int .i64 y] 139 (0,0))):=Za (G HBW) hy.2.1 hws;have hUs:=hy.2.2;clear hy hcq' c1 c2 HROF HROS;generalize hTx:wr.heap.size=Tx at hrX hUs hws ⊢;generalize World.alloc wr _=U2 at hrX hrF hrS hcQ hbU hUs ⊢;have hTU:Tx<U2.heap.size:=by omega
                have HBU2:=J hbU;have HRX:=J hrX;have HRF:=J hrF;have HRS2:=J hrS;have HCQ:=J hcQ;have hU2V:=hbU.size;clear hTx hbU hUs;have q0:=(cR hrX 0);have q1:=(cR hrX 1);have f3:=(cR hrF 3);have cc:=(cR hrS 0);clear hrX hrF hrS;by_cases hxz:x=z2
                ·
                 subst hxz;have zz:(x != x)=false:=by simp
                 by_cases hx0:x=0
                 ·
                  subst hx0;have hUW:w.heap.size+1<U2.heap.size:=by omega
                  have hUT:Tc<U2.heap.size:=by omega
                  have HK:=J (fun(V:World) (h:Below U2.heap.size U2 V)=>show Below U2.heap.size U2 V∧V.cell? ⟨w.heap.size+1,0,none⟩=some (.slice pp f.params.length cp)∧V.cell? ⟨w.heap.size+1,1,none⟩=some (.int .i64 f.results)∧V.cell? ⟨w.heap.size+1,2,none⟩=some (.slice ph f.homes.length ch)∧V.cell? ⟨w.heap.size+1,3,none⟩=some (.slice ps f.slots.length cs)∧V.cell? ⟨w.heap.size+1,4,none⟩=some (.slice pb f.blocks.length cb)∧V.cell? ⟨Tx,0,none⟩=some (.int .i64 0)∧V.cell? ⟨Tx,1,none⟩=some (.int .i64 y)∧V.cell? ⟨Tc,0,none⟩=some (.slice (some ⟨sq,oq,none⟩) sgl.length cq)∧V.cell? ⟨sq,oq+k,none⟩=some (.int .i64 0) from⟨h,(cR ((h.block (w.heap.size+1) (by omega)).trans (G HRF)) 0),(cR ((h.block (w.heap.size+1) (by omega)).trans (G HRF)) 1),(cR ((h.block (w.heap.size+1) (by omega)).trans (G HRF)) 2),(cR ((h.block (w.heap.size+1) (by omega)).trans (G HRF)) 3),(cR ((h.block (w.heap.size+1) (by omega)).trans (G HRF)) 4),(cR ((h.block Tx (by omega)).trans (G HRX)) 0),(cR ((h.block Tx (by omega)).trans (G HRX)) 1),(cR ((h.block Tc (by omega)).trans (G HRS2)) 0),(h.cell (World.block_lt_of_cell? U2 _ (G HCQ))).trans (G HCQ)⟩);have HK0:=J (G HK U2.drew (Below.refl U2.heap.size U2).drew);have HBL:=J (((Below.refl U2.heap.size U2).alloc (Nat.le_refl _) (.cells #[.int .i64 y] 3 (0,0))).drew);have HLC:=J (Gi f (.slice pp f.params.length cp) (.slice ph f.homes.length ch) (.slice ps f.slots.length cs) (.slice pb f.blocks.length cb) (.slice (some ⟨U2.heap.size,0,none⟩) 1 1) f.results [y] (U2.alloc (.cells #[.int .i64 y] 3 (0,0))).drew ⟨_,_,rfl⟩ hl1 ((Li.list (w:=U2) [y] (by show 1<Xa; decide)).below (Below.refl _ _).drew))
                  rw [Gb] at HLC;have HSPT:=J (show Ye f (0,y)=Zr f y by unfold Ye Zr; simp);clear q0 q1 f3 cc hcQ;generalize Zr f y=b at HLC HSPT;refine wp_region_held_drew (S:=fun V=>Below U2.heap.size U2 V∧V.cell? ⟨w.heap.size+1,0,none⟩=some (.slice pp f.params.length cp)∧V.cell? ⟨w.heap.size+1,1,none⟩=some (.int .i64 f.results)∧V.cell? ⟨w.heap.size+1,2,none⟩=some (.slice ph f.homes.length ch)∧V.cell? ⟨w.heap.size+1,3,none⟩=some (.slice ps f.slots.length cs)∧V.cell? ⟨w.heap.size+1,4,none⟩=some (.slice pb f.blocks.length cb)∧V.cell? ⟨Tx,0,none⟩=some (.int .i64 0)∧V.cell? ⟨Tx,1,none⟩=some (.int .i64 y)∧V.cell? ⟨Tc,0,none⟩=some (.slice (some ⟨sq,oq,none⟩) sgl.length cq)∧V.cell? ⟨sq,oq+k,none⟩=some (.int .i64 0)) (by kernel_rfl) (G HK0) (fun hHeld=>?_);refine tT 0 ?_;simp only [Act.put,zA,zB,zC,zD,zE];refine tT 1 ?_;simp only [Act.put,zA,zB,zC,zD,zE,zF];refine tT 2 ?_;simp only [Act.put,zA,zB,zC,zD,zE,zF];refine tT 3 ?_;simp only [Act.put,zA,zB,zC,zD,zE,zF];refine tT 4 ?_;simp only [Act.put,zA,zB,zC,zD,zE,zF];refine tT 5 ?_;simp only [Act.put,zA,zB,zC,zD,zE,zF];refine tT 6 ?_;simp only [Act.put,zA,zB,zC,zD,zE,zF];refine tT 7 ?_;simp only [Act.put,zA,zB,zC,zD,zE,zF];refine tT 8 ?_;simp only [Act.put,zA,zB,zC,zD,zE,zF];refine tT 9 ?_;simp only [Act.put,zA,zB,zC,zD,zE,zF];refine tT 10 ?_;simp only [Act.put,zA,zB,zC,zD,zE,zF];refine tT 11 ?_;simp only [Act.put,zA,zB,zC,zD,zE,zF]
                  refine tT 12 ?_;simp only [Act.put,zA,zB,zC,zD,zE,zF];refine tT 13 ?_;simp only [Act.put,zA,zB,zC,zD,zE,zF];refine tT 14 ?_;simp only [Act.put,zA,zB,zC,zD,zE,zF];refine tT 15 ?_;simp only [Act.put,zA,zB,zC,zD,zE,zF];refine tO 16 fun K hK=>?_;go_simp;refine hK.out _ _ (G HK _ (G HBL)) (fun hHeld2=>?_);clear hK K;try simp only [Act.put,zA,zB,zC,zD,zE,zF]
                  refine tO 17 fun K hK=>?_;go_simp;refine(G HLC).mono ?_;rintro e w7 ⟨rfl,hb7⟩;have HB7:=J (Za (G HBL) hb7 (G HBL).size);clear hb7;go_wp2_with fail
                  refine hK.out _ _ (G HK _ (G HB7)) (fun hHeld2=>?_);clear hK K;try simp only [Act.put,zA,zB,zC,zD,zE,zF]
                  refine tT 18 ?_;simp only [Act.put,zA,zB,zC,zD,zE,zF];refine tT 19 ?_;simp only [Act.put,zA,zB,zC,zD,zE,zF];refine tT 20 ?_;simp only [Act.put,zA,zB,zC,zD,zE,zF];refine tT 21 ?_;simp only [Act.put,zA,zB,zC,zD,zE,zF];cases b with
                  | false =>
                   refine tS 22 ?_;simp only [Act.put,zA,zB,zC,zD,zE,zF];refine tS 23 ?_;simp only [Act.put,zA,zB,zC,zD,zE,zF];refine tS 24 ?_;simp only [Act.put,zA,zB,zC,zD,zE,zF];refine tS 25 ?_;simp only [Act.put,zA,zB,zC,zD,zE,zF];refine tS 26 ?_;simp only [Act.put,zA,zB,zC,zD,zE,zF];refine tS 27 ?_;simp only [Act.put,zA,zB,zC,zD,zE,zF];refine tS 28 ?_;simp only [Act.put,zA,zB,zC,zD,zE,zF];refine tS 29 ?_;simp only [Act.put,zA,zB,zC,zD,zE,zF];refine tS 30 ?_;simp only [Act.put,zA,zB,zC,zD,zE,zF];refine tS 31 ?_;simp only [Act.put,zA,zB,zC,zD,zE,zF];refine tS 32 ?_;simp only [Act.put,zA,zB,zC,zD,zE,zF];refine tS 33 ?_;simp only [Act.put,zA,zB,zC,zD,zE,zF];refine tS 34 ?_;simp only [Act.put,zA,zB,zC,zD,zE,zF];refine tS 35 ?_;simp only [Act.put,zA,zB,zC,zD,zE,zF];refine tS 36 ?_;simp only [Act.put,zA,zB,zC,zD,zE,zF];refine tS 37 ?_;simp only [Act.put,zA,zB,zC,zD,zE,zF];refine tS 38 ?_;simp only [Act.put,zA,zB,zC,zD,zE,zF];refine tS 39 ?_;simp only [Act.put,zA,zB,zC,zD,zE,zF];refine tS 40 ?_;simp only [Act.put,zA,zB,zC,zD,zE,zF];refine tS 41 ?_;simp only [Act.put,zA,zB,zC,zD,zE,zF];refine tS 42 ?_;simp only [Act.put,zA,zB,zC,zD,zE,zF];refine tS 43 ?_;simp only [Act.put,zA,zB,zC,zD,zE,zF];refine tS 44 ?_;simp only [Act.put,zA,zB,zC,zD,zE,zF];refine tS 45 ?_;simp only [Act.put,zA,zB,zC,zD,zE,zF];refine tT 46 ?_;simp only [Act.put,zA,zB,zC,zD,zE,zF];refine wpAnyH_done (by kernel_rfl) ?_ _
                   have hz:=J (G HBAD (by rw [G HSPT]; simp));go_wp2;go_ret;exact⟨by rw [G hz]; rfl,Za (G HBV) (Za (G HBU2) (G HB7) (by omega)) (by omega)⟩
                  | true =>
                   refine tT 22 ?_;simp only [Act.put,zA,zB,zC,zD,zE,zF];refine tT 23 ?_;simp only [Act.put,zA,zB,zC,zD,zE,zF];refine tT 24 ?_;simp only [Act.put,zA,zB,zC,zD,zE,zF];refine tT 25 ?_;simp only [Act.put,zA,zB,zC,zD,zE,zF];refine tS 26 ?_;simp only [Act.put,zA,zB,zC,zD,zE,zF];refine tS 27 ?_;simp only [Act.put,zA,zB,zC,zD,zE,zF];refine tS 28 ?_;simp only [Act.put,zA,zB,zC,zD,zE,zF];refine tS 29 ?_;simp only [Act.put,zA,zB,zC,zD,zE,zF];refine tS 30 ?_;simp only [Act.put,zA,zB,zC,zD,zE,zF];refine tS 31 ?_;simp only [Act.put,zA,zB,zC,zD,zE,zF];refine tS 32 ?_;simp only [Act.put,zA,zB,zC,zD,zE,zF];refine tS 33 ?_;simp only [Act.put,zA,zB,zC,zD,zE,zF];refine tS 34 ?_;simp only [Act.put,zA,zB,zC,zD,zE,zF];refine tS 35 ?_;simp only [Act.put,zA,zB,zC,zD,zE,zF];refine tS 36 ?_;simp only [Act.put,zA,zB,zC,zD,zE,zF];refine tS 37 ?_;simp only [Act.put,zA,zB,zC,zD,zE,zF];refine tS 38 ?_;simp only [Act.put,zA,zB,zC,zD,zE,zF];refine tS 39 ?_;simp only [Act.put,zA,zB,zC,zD,zE,zF];refine tS 40 ?_;simp only [Act.put,zA,zB,zC,zD,zE,zF];refine tS 41 ?_;simp only [Act.put,zA,zB,zC,zD,zE,zF];refine tS 42 ?_;simp only [Act.put,zA,zB,zC,zD,zE,zF];refine tS 43 ?_;simp only [Act.put,zA,zB,zC,zD,zE,zF];refine tS 44 ?_;simp only [Act.put,zA,zB,zC,zD,zE,zF];refine tT 45 ?_;simp only [Act.put,zA,zB,zC,zD,zE,zF];refine tT 46 ?_;simp only [Act.put,zA,zB,zC,zD,zE,zF];refine wpAnyH_done (by kernel_rfl) ?_ _
                   have hz:=J (G HNX (by rw [G HSPT]; simp));go_wp2;go_roundw
                   case rel=>exact⟨k+1,by go_num,by omega,Za (G HBU2) (G HB7) (by omega),G hz⟩
                   case measure=>simp [intOf]; omega
                 ·
                  have z0:(x==0)=false:=by simpa using hx0
                  have hx1:0<x:=by omega
                  have HWI:=J (fun V=>Jq y 0 (f.slots.length-1) V);cases hr:Yi y 0 (f.slots.length-1) with
                  | false =>
                   rw [hr] at HWI;have HSPT:=J (show Ye f (x,y)=false by unfold Ye; simp [hx0,hr]);clear hr;have hz:=J (G HBAD (by rw [G HSPT]; simp));go_quiet ((go_at_call 20; exact Calls.quiet_of_same (G HWI _)))
                   go_wp2;go_ret;exact⟨by rw [G hz]; rfl,Zk (Za (G HBV) (G HBU2) (by omega)) _⟩
                  | true =>
                   rw [hr] at HWI;have HSP0:=J (show Ye f (x,y)=decide (f.slots.getD y.toNat 0=x) by unfold Ye; simp [hx0,hr]);unfold Yi at hr;obtain⟨g0,g1⟩:=of_decide_eq_true hr;obtain⟨t,rfl⟩:∃ t:Nat,y=t:=⟨y.toNat,by omega⟩;have hn:t<f.slots.length:=by omega
                   obtain⟨p2,cap2,he2,-,-,hcc2⟩:=((G HSC).below (Za (G HBV) (G HBU2) (by omega))).func.ss;injection he2 with e1 e2 e3;subst e1 e3;obtain⟨sl,sx,rfl,hsc⟩:=hcc2 (by omega);have csl:=hsc t hn;rw [Int.toNat_natCast] at HSP0;clear hr g0 g1 e2 hcc2 hsc;generalize f.slots.getD t 0=sz at csl HSP0;by_cases hsx:sz=x
                   ·
                    have zs:(sz != x)=false:=by simp [hsx]
                    have HSPT:=J (show Ye f (x,(t:Int))=true by rw [G HSP0]; simp [hsx]);have hz:=J (G HNX (by rw [G HSPT]; simp));clear hsx;go_quiet ((go_at_call 20; exact Calls.quiet_of_same (G HWI _)))
                    go_wp2;go_roundw
                    case rel=>exact⟨k+1,by go_num,by omega,Zk (G HBU2) _,G hz⟩
                    case measure=>simp [intOf]; omega
                   ·
                    have zs:(sz != x)=true:=by simpa using hsx
                    have HSPT:=J (show Ye f (x,(t:Int))=false by rw [G HSP0]; simp [hsx]);clear hsx;have hz:=J (G HBAD (by rw [G HSPT]; simp));go_quiet ((go_at_call 20; exact Calls.quiet_of_same (G HWI _)))
                    go_wp2;go_ret;exact⟨by rw [G hz]; rfl,Zk (Za (G HBV) (G HBU2) (by omega)) _⟩
                ·
                 have zz:(x != z2)=true:=by simpa using hxz
                 have hz:=J (G HBAD (by simp [hxz]));go_quiet (fail)
                 go_wp2;go_ret;exact⟨by rw [G hz]; rfl,Zk (Za (G HBV) (G HBU2) (by omega)) _⟩
               ·
                have HARG:=J (show Ju f gs sgl=true by rw [G HAB]; exact Yn (fun q hq=>G HN q (by omega)));have hnl:¬ k<sgl.length:=by have:=G HNE; omega
                have HBW:=J hbw;have hrC:=(hbw.block (w.heap.size+1+1) (by omega)).trans (G HVC);have y0:=(cR hrC 0);have hrS:=(hbw.block Tc (by omega)).trans (G HVS);have hrF:=(hbw.block (w.heap.size+1) (by omega)).trans (G HVB);have c1:=(cR hrS 1);have f1:=(cR hrF 1);have hz:=J (show Xd p f ⟨17,d,a,bb,n,m,gs,os⟩ last=(res==f.results) from(G HFIN).trans ((G HX).trans (by unfold Mp; simp only; rw [G HARG]; rfl)));clear hbw hrC hrS hrF HN;go_wp2;go_ret;exact⟨by rw [G hz]; rfl,Za (G HBV) (G HBW) (by omega)⟩
             ·
              have zne:((gs.length:Int) != (sgl.length:Int))=true:=by simp; omega
              have hz:=J (show Xd p f ⟨17,d,a,bb,n,m,gs,os⟩ last=false from(G HFIN).trans ((G HX).trans (by unfold Mp Ju; simp [hne])));clear hne;go_wp2_with (refine wpList_store_row rfl 56 (.tmp 19) (.tmp 305) rfl Tc #[.slice pq sgl.length cq,.int .i64 res] rfl rfl 56 _ (G HRC6) (Tryz.infSigK.trans rfl) rfl (by simp [Value.oneCell']) ?_)
              go_ret;exact⟨by rw [G hz]; rfl,G HBV⟩
end Go.Proofs.YteddfaconabobaaGreatDoor
