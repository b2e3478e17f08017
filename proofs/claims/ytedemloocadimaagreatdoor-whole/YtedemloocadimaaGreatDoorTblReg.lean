import Derived.Test.YtedemloocadimaaGreatDoorJ9
import Derived.Test.YtedemloocadimaaGreatDoorJ13
namespace Go.Proofs.YtedemloocadimaaGreatDoor
open Go.RowKit
set_option maxHeartbeats 4000000
set_option maxRecDepth 100000
def Ma (r sp lk t0 t1:Int)(ag rs ss:List Int):Bool:=Rh (Jg sp lk t0 t1) r&&(Rh ag r&&!On ag (Jg sp lk t0 t1))&&(Rh rs r&&!On rs (Jg sp lk t0 t1))&&(Rh ss r&&!On ss (Jg sp lk t0 t1))&&!On ss ag&&!On ss rs
theorem Zei (r sp lk t0 t1:Int)(va vr vs:Value)(al sh by_:Int)(pr:Bool)(ag rs ss:List Int)(w:World)(ha:Rs w va ag)(hr:Rs w vr rs)(hs:Rs w vs ss)(ca:∀ a n cap,va=.slice a n cap→n≤cap)(cr:∀ a n cap,vr=.slice a n cap→n≤cap)(cs:∀ a n cap,vs=.slice a n cap→n≤cap)(la:ag.length≤8)(lr:rs.length≤4)(ls:ss.length≤12):Calls Tryz.prog 70 #[.agg (Yt r sp lk t0 t1 va vr vs al sh by_ pr)] w fun e w'=>e=.returned (.bool (Ma r sp lk t0 t1 ag rs ss))∧Below w.heap.size w w':=by
 obtain⟨pa,xa,rfl⟩:=ha.shape;obtain⟨pq,xr,rfl⟩:=hr.shape;obtain⟨ps,xs,rfl⟩:=hs.shape;have HA0:=Ze ha;have HR0:=Ze hr;have HS0:=Ze hs;have HAC:=Ze ca;have HRC:=Ze cr;have HSC:=Ze cs;clear ha hr hs ca cr cs;unfold Yt;go_enter Tryz.func70,Tryz.ntmps70
 go_wp2_with fail
 refine(Zef r sp lk t0 t1 _ _ _ al sh by_ pr _).mono ?_;rintro e w1 ⟨vo,rfl,hRo,hco,hb1⟩;have hz1:=hb1.size;simp only [World.size_alloc] at hz1;have q0:=(Xv ((hb1.block w.heap.size (by simp)).trans (heap_alloc_new w _))).1;have HB:=Ze (((Below.refl w.heap.size w).alloc (Nat.le_refl _) _).trans (hb1.mono (by simp)));have HO:=Ze (fun X:Obj=>hRo.below ((Below.refl w1.heap.size w1).alloc (Nat.le_refl _) X));have HA:=Ze (fun X:Obj=>((Zb HA0).below (Zb HB)).below ((Below.refl w1.heap.size w1).alloc (Nat.le_refl _) X));have HR:=Ze (fun X:Obj=>((Zb HR0).below (Zb HB)).below ((Below.refl w1.heap.size w1).alloc (Nat.le_refl _) X));have HS:=Ze (fun X:Obj=>((Zb HS0).below (Zb HB)).below ((Below.refl w1.heap.size w1).alloc (Nat.le_refl _) X));have hol:=Zwu sp lk t0 t1;have c0:=q0 0;have c5:=q0 5;have c6:=q0 6;have c7:=q0 7;simp at c0 c5 c6 c7;have d0:=fun X:Obj=>(World.cell?_alloc_lt w1 X ⟨w.heap.size,0,none⟩ (show w.heap.size<w1.heap.size by omega)).trans c0;have d5:=fun X:Obj=>(World.cell?_alloc_lt w1 X ⟨w.heap.size,5,none⟩ (show w.heap.size<w1.heap.size by omega)).trans c5;have d6:=fun X:Obj=>(World.cell?_alloc_lt w1 X ⟨w.heap.size,6,none⟩ (show w.heap.size<w1.heap.size by omega)).trans c6;have d7:=fun X:Obj=>(World.cell?_alloc_lt w1 X ⟨w.heap.size,7,none⟩ (show w.heap.size<w1.heap.size by omega)).trans c7;have HRO:=Ze hRo;have HCO:=Ze hco;clear hb1 q0 hRo hco HA0 HR0 HS0;go_wp2_with fail
 refine(Oo (Jg sp lk t0 t1) r vo w1 (Zb HRO) (by omega) (Zb HCO)).mono ?_;rintro e w2 ⟨rfl,h2⟩;subst w2;cases y0:Rh (Jg sp lk t0 t1) r with
 | false =>
  have HY:=Ze y0;clear y0;go_wp2;go_ret;exact⟨by simp [Ma,Zb HY],Zb HB⟩
 | true =>
  have HY0:=Ze y0;clear y0;go_wp2_with fail
  refine wp_loop_rounds 4 ?_;rw [rounds_succ];go_wp2_with fail
  refine(Oo ag r _ _ (Zb HA _) (by omega) (Zb HAC)).mono ?_;rintro e w2 ⟨rfl,h2⟩;subst w2;cases y1:Rh ag r with
  | false =>
   have HY:=Ze y1;clear y1;go_wp2;go_ret;exact⟨by simp [Ma,Zb HY],(Zb HB).alloc (by omega) _⟩
  | true =>
   have HY1:=Ze y1;clear y1;go_wp2_with fail
   refine(Zeg ag (Jg sp lk t0 t1) _ vo _ (Zb HA _) (Zb HO _) (by omega) (by omega)).mono ?_;rintro e w2 ⟨rfl,h2⟩;subst w2;cases z1:On ag (Jg sp lk t0 t1) with
   | true =>
    have HY:=Ze z1;clear z1;go_wp2;go_ret;exact⟨by simp [Ma,Zb HY],(Zb HB).alloc (by omega) _⟩
   | false =>
    have HZ1:=Ze z1;clear z1;go_wp2_with fail
    rw [rounds_succ];go_wp2_with fail
    refine(Oo rs r _ _ (Zb HR _) (by omega) (Zb HRC)).mono ?_;rintro e w2 ⟨rfl,h2⟩;subst w2;cases y2:Rh rs r with
    | false =>
     have HY:=Ze y2;clear y2;go_wp2;go_ret;exact⟨by simp [Ma,Zb HY],(Zb HB).alloc (by omega) _⟩
    | true =>
     have HY2:=Ze y2;clear y2;go_wp2_with fail
     refine(Zeg rs (Jg sp lk t0 t1) _ vo _ (Zb HR _) (Zb HO _) (by omega) (by omega)).mono ?_;rintro e w2 ⟨rfl,h2⟩;subst w2;cases z2:On rs (Jg sp lk t0 t1) with
     | true =>
      have HY:=Ze z2;clear z2;go_wp2;go_ret;exact⟨by simp [Ma,Zb HY],(Zb HB).alloc (by omega) _⟩
     | false =>
      have HZ2:=Ze z2;clear z2;go_wp2_with fail
      rw [rounds_succ];go_wp2_with fail
      refine(Oo ss r _ _ (Zb HS _) (by omega) (Zb HSC)).mono ?_;rintro e w2 ⟨rfl,h2⟩;subst w2;cases y3:Rh ss r with
      | false =>
       have HY:=Ze y3;clear y3;go_wp2;go_ret;exact⟨by simp [Ma,Zb HY],(Zb HB).alloc (by omega) _⟩
      | true =>
       have HY3:=Ze y3;clear y3;go_wp2_with fail
       refine(Zeg ss (Jg sp lk t0 t1) _ vo _ (Zb HS _) (Zb HO _) (by omega) (by omega)).mono ?_;rintro e w2 ⟨rfl,h2⟩;subst w2;cases z3:On ss (Jg sp lk t0 t1) with
       | true =>
        have HY:=Ze z3;clear z3;go_wp2;go_ret;exact⟨by simp [Ma,Zb HY],(Zb HB).alloc (by omega) _⟩
       | false =>
        have HZ3:=Ze z3;clear z3;go_wp2_with fail
        rw [rounds_succ];go_wp2_with fail
        refine(Zeg ss ag _ _ _ (Zb HS _) (Zb HA _) (by omega) (by omega)).mono ?_;rintro e w2 ⟨rfl,h2⟩;subst w2;cases x1:On ss ag with
        | true =>
         have HY:=Ze x1;clear x1;go_wp2;go_ret;exact⟨by simp [Ma,Zb HY],(Zb HB).alloc (by omega) _⟩
        | false =>
         have HX1:=Ze x1;clear x1;go_wp2_with fail
         refine(Zeg ss rs _ _ _ (Zb HS _) (Zb HR _) (by omega) (by omega)).mono ?_;rintro e w2 ⟨rfl,h2⟩;subst w2;cases x2:On ss rs with
         | true =>
          have HY:=Ze x2;clear x2;go_wp2;go_ret;exact⟨by simp [Ma,Zb HY,Zb HX1,Zb HZ1,Zb HZ2,Zb HZ3,Zb HY1,Zb HY2,Zb HY3,Zb HY0],(Zb HB).alloc (by omega) _⟩
         | false =>
          have HY:=Ze x2;clear x2;go_wp2;go_ret;exact⟨by simp [Ma,Zb HY,Zb HX1,Zb HZ1,Zb HZ2,Zb HZ3,Zb HY1,Zb HY2,Zb HY3,Zb HY0],(Zb HB).alloc (by omega) _⟩
def Zwv (b:Bool):Value:=match b with
 | true=>.nilIface
 | false=>.iface 111 (.int .i64 2)
def Lq (r sp lk t0 t1:Int)(ag rs ss:List Int)(al sh by_:Int):Bool:=Zfw r al sh by_&&Zpq ag rs ss&&Ma r sp lk t0 t1 ag rs ss
theorem Zpr (r sp lk t0 t1:Int)(va vr vs:Value)(al sh by_:Int)(pr:Bool)(ag rs ss:List Int)(w:World)(ha:Rs w va ag)(hr:Rs w vr rs)(hs:Rs w vs ss)(ca:∀ a n cap,va=.slice a n cap→n≤cap)(cr:∀ a n cap,vr=.slice a n cap→n≤cap)(cs:∀ a n cap,vs=.slice a n cap→n≤cap):Calls Tryz.prog 39 #[.agg (Yt r sp lk t0 t1 va vr vs al sh by_ pr)] w fun e w'=>e=.returned (Zwv (Lq r sp lk t0 t1 ag rs ss al sh by_))∧Below w.heap.size w w':=by
 have HA0:=Ze ha;have HR0:=Ze hr;have HS0:=Ze hs;have HAC:=Ze ca;have HRC:=Ze cr;have HSC:=Ze cs;have SA:=Ze ha.shape;have SR:=Ze hr.shape;have SS:=Ze hs.shape;clear ha hr hs ca cr cs;have HB0:=Ze (fun X:Obj=>(Below.refl w.heap.size w).alloc (Nat.le_refl _) X);have HD:=Ze (fun(u:World) (X:Obj) (cs:Array Value) (h:Below (w.alloc X).heap.size (w.alloc X) u) (hX:X=.cells cs 37 (0,0))=>(h.block w.heap.size (by simp)).trans ((heap_alloc_new w X).trans (congrArg some hX)));unfold Yt;go_enter Tryz.func39,Tryz.ntmps39
 go_wp2_with fail
 refine(Zhn r sp lk t0 t1 va vr vs al sh by_ pr _).mono ?_;rintro e w1 ⟨rfl,hb1⟩;have q1:=Xv (Zb HD _ _ _ hb1 rfl);have HB1:=Ze hb1;have hz1:=hb1.size;simp only [World.size_alloc] at hz1;have b1:=Zb HD _ _ _ hb1 rfl;clear hb1;cases y1:Zfw r al sh by_ with
 | false =>
  have HY:=Ze y1;clear y1 q1 b1;go_wp2;go_ret;exact⟨by rw [show Lq r sp lk t0 t1 ag rs ss al sh by_=false by simp [Lq,Zb HY]]; rfl,(Zb HB0 _).trans ((Zb HB1).mono (by simp))⟩
 | true =>
  have HY1:=Ze y1;clear y1;have k1:=q1.1;clear q1;go_wp2_with fail
  refine(Zny r sp lk t0 t1 va vr vs al sh by_ pr ag rs ss _ (Zb SA) (Zb SR) (Zb SS)).mono ?_;rintro e w2 ⟨rfl,hb2⟩;have hb2':=(Zb HB1).trans (hb2.mono (by simp; omega));have HB2:=Ze hb2';have hz2:=hb2.size;have k2:=(Xv (Zb HD _ _ _ hb2' rfl)).1;clear hb2 hb2' k1 b1;cases y2:Zpq ag rs ss with
  | false =>
   have HY:=Ze y2;clear y2 k2;go_wp2;go_ret;exact⟨by rw [show Lq r sp lk t0 t1 ag rs ss al sh by_=false by simp [Lq,Zb HY]]; rfl,(Zb HB0 _).trans ((Zb HB2).mono (by simp))⟩
  | true =>
   have hl:ag.length≤8∧rs.length≤4∧ss.length≤12:=of_decide_eq_true y2;have HY2:=Ze y2;have HL:=Ze hl;have HB3:=Ze ((Zb HB0 _).trans ((Zb HB2).mono (by simp)));clear y2 hl;go_wp2_with fail
   refine(Zei r sp lk t0 t1 va vr vs al sh by_ pr ag rs ss _ ((Zb HA0).below (Zb HB3)) ((Zb HR0).below (Zb HB3)) ((Zb HS0).below (Zb HB3)) (Zb HAC) (Zb HRC) (Zb HSC) (Zb HL).1 (Zb HL).2.1 (Zb HL).2.2).mono ?_;rintro e w3 ⟨rfl,hb3⟩;have HB4:=Ze ((Zb HB3).trans (hb3.mono (by omega)));clear hb3 k2;cases y3:Ma r sp lk t0 t1 ag rs ss with
   | false =>
    have HY:=Ze y3;clear y3;go_wp2;go_ret;exact⟨by rw [show Lq r sp lk t0 t1 ag rs ss al sh by_=false by simp [Lq,Zb HY]]; rfl,Zb HB4⟩
   | true =>
    have HY:=Ze y3;clear y3;go_wp2;go_ret;exact⟨by rw [show Lq r sp lk t0 t1 ag rs ss al sh by_=true by simp [Lq,Zb HY,Zb HY1,Zb HY2]]; rfl,Zb HB4⟩
end Go.Proofs.YtedemloocadimaaGreatDoor
