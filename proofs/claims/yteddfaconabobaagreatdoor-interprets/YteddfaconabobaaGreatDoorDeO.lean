import Derived.Test.YteddfaconabobaaGreatDoorPk
import Derived.Test.YteddfaconabobaaGreatDoorJ41
namespace Go.Proofs.YteddfaconabobaaGreatDoor
open Go.RowKit
theorem Zce {w:World}{b:Nat}{pb:List (Value×List Zw)}{blocks:List (List Zw)}{q:Option Addr}{c n:Nat}(h:VsB w b (.slice q n c) pb)(hm:pb.map (·.2)=blocks)(he:∀ q ∈ pb,Nj w b q)(k:Nat)(hk:k<blocks.length):∃ sb so p c' ps,q=some ⟨sb,so,none⟩∧sb<b∧w.cell? ⟨sb,so+k,none⟩=some (.slice p blocks[k].length c')∧ps.map (·.2)=blocks[k]∧Rx 8 w b (.slice p blocks[k].length c') ps∧(∀ q ∈ ps,Lu w b q)∧blocks[k].length<Xa:=by
 subst hm;have hk':k<pb.length:=by simpa using hk
 obtain⟨sb,so,cap,hv,hs,hc⟩:=h.resolve_left (fun c=>by rw [c.1] at hk'; simp at hk');injection hv with e1 e2 e3;obtain⟨ps,b1,b2,b3,b4⟩:=he pb[k] (List.getElem_mem hk');obtain⟨p,c',e4⟩:=b2.shape;have e0:(pb.map (fun x:Value×List Zw=>x.2))[k]=pb[k].2:=by simp
 have e5:ps.length=pb[k].2.length:=by rw [← b1]; simp
 rw [e5] at e4;refine⟨sb,so,p,c',ps,e1,hs,?_,?_,?_,b3,?_⟩
 ·
  rw [e0,hc k hk',e4]
 ·
  rw [e0]; exact b1
 ·
  rw [e0,← e4]; exact b2
 ·
  rw [e0,← e5]; exact b4
theorem Zcf {w:World}{b:Nat}{ps:List (Array Value×Zw)}{is:List Zw}{p:Option Addr}{c n:Nat}(h:Rx 8 w b (.slice p n c) ps)(hm:ps.map (·.2)=is)(he:∀ q ∈ ps,Lu w b q)(k:Nat)(hk:k<is.length):∃ sb so A,p=some ⟨sb,so,none⟩∧sb<b∧w.rangeAt sb (so+k*8) A.toList∧Lu w b (A,is[k]):=by
 subst hm;have hk':k<ps.length:=by simpa using hk
 obtain⟨sb,so,cap,hv,hs,hc⟩:=h.resolve_left (fun c=>by rw [c.1] at hk'; simp at hk');injection hv with e1 e2 e3;exact⟨sb,so,ps[k].1,e1,hs,hc k hk',by simpa using he ps[k] (List.getElem_mem hk')⟩
theorem Zcg {w:World}{b:Nat}{pp:List (Array Value×(Int×Int))}{xs:List (Int×Int)}{p:Option Addr}{c n:Nat}(h:Rx 2 w b (.slice p n c) pp)(hm:pp.map (·.2)=xs)(he:∀ q ∈ pp,q.1=#[.int .i64 q.2.1,.int .i64 q.2.2])(k:Nat)(hk:k<xs.length):∃ sb so,p=some ⟨sb,so,none⟩∧sb<b∧w.rangeAt sb (so+k*2) [.int .i64 xs[k].1,.int .i64 xs[k].2]:=by
 subst hm;have hk':k<pp.length:=by simpa using hk
 obtain⟨sb,so,cap,hv,hs,hc⟩:=h.resolve_left (fun c=>by rw [c.1] at hk'; simp at hk');injection hv with e1 e2 e3;have:=hc k hk';rw [he pp[k] (List.getElem_mem hk')] at this;exact⟨sb,so,e1,hs,by simpa using this⟩
set_option maxHeartbeats 8000000 in
set_option maxRecDepth 100000 in
theorem Zch (f:Zn)(A1 A2:Array Value)(b:Nat)(w:World)(h1:Gk w b (A1,f))(h2:Gk w b (A2,f))(hb:b≤w.heap.size):Calls Tryz.prog 28 #[.agg A1,.agg A2] w fun x w'=>x=.returned (.bool true)∧Below w.heap.size w w':=by
 obtain⟨pv1,hv1,sv1,bv1,pp1,pb1,e1,g1⟩:=h1;obtain⟨pv2,hv2,sv2,bv2,pp2,pb2,e2,g2⟩:=h2;simp only at e1 e2;subst e1 e2;obtain⟨q1,c1,z1⟩:=g1.pls.shape;obtain⟨q2,c2,z2⟩:=g2.pls.shape;obtain⟨q3,c3,z3⟩:=g1.hls.shape;obtain⟨q4,c4,z4⟩:=g2.hls.shape;obtain⟨q5,c5,z5⟩:=g1.sls.shape;obtain⟨q6,c6,z6⟩:=g2.sls.shape;obtain⟨q7,c7,z7⟩:=g1.bls.shape;obtain⟨q8,c8,z8⟩:=g2.bls.shape;obtain⟨t1,t2⟩:=Uj g1.params g2.params;have t3:pb1.length=f.blocks.length:=by rw [← g1.blocks]; simp
 have t4:pb2.length=f.blocks.length:=by rw [← g2.blocks]; simp
 rw [t1] at z1;rw [t2] at z2;rw [t3] at z7;rw [t4] at z8;have hs:=g1.lens;rw [t1,t3] at hs;obtain⟨hs1,hs2,hs3,hs4⟩:=hs;obtain⟨params,results,homes,slots,blocks⟩:=f;simp only at *;subst z1 z2 z3 z4 z5 z6 z7 z8;have n1:=La results;have n2:=La params.length;have n3:=La blocks.length;have hn':params.length<9223372036854775808:=hs1;have hn2:blocks.length<9223372036854775808:=hs4;have HQ1:=Zg (fun(V:World) (hV:∀ k,k<b→V.heap[k]?=w.heap[k]?)=>Zar homes (.slice q3 homes.length c3) (.slice q4 homes.length c4) b V (g1.hls.same hV) (g2.hls.same hV) hs2);have HQ2:=Zg (fun(V:World) (hV:∀ k,k<b→V.heap[k]?=w.heap[k]?)=>Zar slots (.slice q5 slots.length c5) (.slice q6 slots.length c6) b V (g1.sls.same hV) (g2.sls.same hV) hs3);have HG1:=Zg g1;have HG2:=Zg g2;have HT1:=Zg t1;have HT2:=Zg t2;have HT3:=Zg t3;have HT4:=Zg t4;clear g1 g2 hs1 hs2 hs3 hs4 t1 t2 t3 t4;go_enter Tryz.func28,Tryz.ntmps28
 go_wp2_with fail
 have hbl:Below w.heap.size w ((w.alloc (.cells #[.slice q1 params.length c1,.int .i64 results,.slice q3 homes.length c3,.slice q5 slots.length c5,.slice q7 blocks.length c7] 60)).alloc (.cells #[.slice q2 params.length c2,.int .i64 results,.slice q4 homes.length c4,.slice q6 slots.length c6,.slice q8 blocks.length c8] 60)):=by go_grown
 have hsz:((w.alloc (.cells #[.slice q1 params.length c1,.int .i64 results,.slice q3 homes.length c3,.slice q5 slots.length c5,.slice q7 blocks.length c7] 60)).alloc (.cells #[.slice q2 params.length c2,.int .i64 results,.slice q4 homes.length c4,.slice q6 slots.length c6,.slice q8 blocks.length c8] 60)).heap.size=w.heap.size+2:=by simp
 have hr0:((w.alloc (.cells #[.slice q1 params.length c1,.int .i64 results,.slice q3 homes.length c3,.slice q5 slots.length c5,.slice q7 blocks.length c7] 60)).alloc (.cells #[.slice q2 params.length c2,.int .i64 results,.slice q4 homes.length c4,.slice q6 slots.length c6,.slice q8 blocks.length c8] 60)).heap[w.heap.size]?=some (.cells #[.slice q1 params.length c1,.int .i64 results,.slice q3 homes.length c3,.slice q5 slots.length c5,.slice q7 blocks.length c7] 60 (0,0)):=heap_alloc2_old _ _ _;have hr1:((w.alloc (.cells #[.slice q1 params.length c1,.int .i64 results,.slice q3 homes.length c3,.slice q5 slots.length c5,.slice q7 blocks.length c7] 60)).alloc (.cells #[.slice q2 params.length c2,.int .i64 results,.slice q4 homes.length c4,.slice q6 slots.length c6,.slice q8 blocks.length c8] 60)).heap[w.heap.size+1]?=some (.cells #[.slice q2 params.length c2,.int .i64 results,.slice q4 homes.length c4,.slice q6 slots.length c6,.slice q8 blocks.length c8] 60 (0,0)):=heap_alloc2_new _ _ _;generalize (w.alloc _).alloc _=W at hbl hr0 hr1 hsz ⊢;have hlow:∀ k,k<b→W.heap[k]?=w.heap[k]?:=fun k hk=>hbl.block k (by omega);refine(Zb HQ1 W hlow).mono ?_;rintro e w0 ⟨rfl,m0,hw0⟩;have d3:=(World.cell?_of_block (w':=w0) (by rw [hw0]; rfl)).trans ((cR hr0 3));have d4:=(World.cell?_of_block (w':=w0) (by rw [hw0]; rfl)).trans ((cR hr1 3));have HW0:=Zg hw0;have HSZ:=Zg hsz;have HR0:=Zg hr0;have HR1:=Zg hr1;have HLOW:=Zg hlow;have HBL:=Zg hbl
 clear hw0 hsz hr0 hr1 hlow hbl;go_wp2_with fail
 refine(Zb HQ2 w0 (fun k hk=>by rw [Zb HW0]; exact Zb HLOW k hk)).mono ?_;rintro e w1 ⟨rfl,m1,hw1⟩;have hh1:w1.heap=W.heap:=by rw [hw1,Zb HW0]; rfl
 have hb1:Below w.heap.size w w1:=by rw [hw1,Zb HW0]; exact Lx (Lx (Zb HBL) _) _
 have d1:=(World.cell?_of_block (by rw [hh1])).trans ((cR (Zb HR0) 0));have d5:=(World.cell?_of_block (by rw [hh1])).trans ((cR (Zb HR0) 4));have d6:=(World.cell?_of_block (by rw [hh1])).trans ((cR (Zb HR1) 4));have HB1:=Zg hb1;have HS1:=Zg ((congrArg (·.size) hh1).trans (Zb HSZ));have HR0:=Zg ((congrArg (·[w.heap.size]?) hh1).trans (Zb HR0));have HR1:=Zg ((congrArg (·[w.heap.size+1]?) hh1).trans (Zb HR1));have HLOW:=Zg (fun k (hk:k<b)=>(congrArg (·[k]?) hh1).trans (Zb HLOW k hk));clear hw1 hh1 hb1 d3 d4;go_wp2;go_loopw [50] (fun j w'=>∃(k m:Nat),j=.int .i64 k∧k≤params.length∧w'=w1.drewN m) (fun j _=>params.length-(intOf j).toNat)
 case atStart=>exact⟨0,0,rfl,by omega,rfl⟩
 case round =>
  obtain⟨k,m,rfl,hk,hw⟩:=hrel;have hh:wr.heap=w1.heap:=by rw [hw]; rfl
  have HW:=Zg hw;have HH:=Zg hh;clear hw hh d1 d5 d6;by_cases hlt:k<params.length
  ·
   obtain⟨sa,oa,rfl,hsa,ra⟩:=Zcg (Zb HG1).pls (Zb HG1).params (Zb HG1).vals k hlt;obtain⟨sb,ob,rfl,hsb,rb⟩:=Zcg (Zb HG2).pls (Zb HG2).params (Zb HG2).vals k hlt;simp only at ra rb;generalize params[k]=y at ra rb;obtain⟨y1,y2⟩:=y;have lo:∀ s,s<b→wr.heap[s]?=w.heap[s]?:=fun s hs=>by rw [Zb HH]; exact Zb HLOW s hs
   have d1:=(World.cell?_of_block (by rw [Zb HH])).trans ((cR (Zb HR0) 0));have d2:=(World.cell?_of_block (by rw [Zb HH])).trans ((cR (Zb HR1) 0));have c3:=(World.cell?_of_block (lo sa hsa)).trans (ra 0 _ rfl);have c4:=(World.cell?_of_block (lo sa hsa)).trans (ra 1 _ rfl);have c5:=(World.cell?_of_block (lo sb hsb)).trans (rb 0 _ rfl);have c6:=(World.cell?_of_block (lo sb hsb)).trans (rb 1 _ rfl);rw [Nat.add_zero] at c3 c5;have hy1:(y1 != y1)=false:=by simp
   have hy2:(y2 != y2)=false:=by simp
   clear ra rb lo hsa hsb;go_wp2;go_quiet (fail)
   go_wp2;go_roundw
   case rel=>exact⟨k+1,_,by go_num,by omega,by rw [Zb HW]; exact World.drewN_drewN _ _ _⟩
   case measure=>simp [intOf]; omega
  ·
   obtain rfl:k=params.length:=by omega
   have hh:=Zb HH;have d5:=(World.cell?_of_block (by rw [hh])).trans ((cR (Zb HR0) 4));have HB2:=Zg (show Below w.heap.size w wr from by rw [Zb HW]; exact Lx (Zb HB1) _);have HS2:=Zg ((congrArg (·.size) hh).trans (Zb HS1));have HR0:=Zg ((congrArg (·[w.heap.size]?) hh).trans (Zb HR0));have HR1:=Zg ((congrArg (·[w.heap.size+1]?) hh).trans (Zb HR1));have HLOW:=Zg (fun k (hk:k<b)=>(congrArg (·[k]?) hh).trans (Zb HLOW k hk));clear hh HW HH HS1 HB1;generalize wr=w2 at *;go_wp2;go_loopw [68] (fun j w'=>∃(k:Nat),j=.int .i64 k∧k≤blocks.length∧Below (w.heap.size+2) w2 w') (fun j _=>blocks.length-(intOf j).toNat)
   case atStart=>exact⟨0,rfl,by omega,Below.refl _ _⟩
   case round =>
    obtain⟨k,rfl,hk,hw⟩:=hrel;have HW:=Zg hw;clear hw d5;by_cases hlt:k<blocks.length
    ·
     obtain⟨sa,oa,pa,ca,ps1,rfl,hsa,ra,ma,la,ea,hsl⟩:=Zce (Zb HG1).bls (Zb HG1).blocks (Zb HG1).each k hlt;obtain⟨sb,ob,pb,cb,ps2,rfl,hsb,rb,mb,lb,eb,-⟩:=Zce (Zb HG2).bls (Zb HG2).blocks (Zb HG2).each k hlt;simp only at ra rb ma mb la lb ea eb hsl;generalize blocks[k]=is at ra rb ma mb la lb hsl;have hsl':is.length<9223372036854775808:=hsl;have n4:=La is.length;have HC:=Zg (fun(V:World) (hV:Below (w.heap.size+2) w2 V)=>(⟨
      (World.cell?_of_block (hV.block w.heap.size (by omega))).trans ((cR (Zb HR0) 4)),
      (World.cell?_of_block (hV.block (w.heap.size+1) (by omega))).trans ((cR (Zb HR1) 4)),
      (World.cell?_of_block ((hV.block sa (by omega)).trans (Zb HLOW sa hsa))).trans ra,
      (World.cell?_of_block ((hV.block sb (by omega)).trans (Zb HLOW sb hsb))).trans rb⟩ :
      V.cell? ⟨w.heap.size,4,none⟩=some (.slice (some ⟨sa,oa,none⟩) blocks.length c7)∧V.cell? ⟨w.heap.size+1,4,none⟩=some (.slice (some ⟨sb,ob,none⟩) blocks.length c8)∧V.cell? ⟨sa,oa+k,none⟩=some (.slice pa is.length ca)∧V.cell? ⟨sb,ob+k,none⟩=some (.slice pb is.length cb)))
     obtain⟨c3,c4,c5,c6⟩:=Zb HC wr (Zb HW);have HRA:=Zg (And.intro ma (And.intro la ea));have HRB:=Zg (And.intro mb (And.intro lb eb));clear ra rb ma mb la lb ea eb hsl hsa hsb;go_wp2;go_quiet (fail)
     go_wp2;go_loopw [90] (fun j w'=>∃(m:Nat),j=.int .i64 m∧m≤is.length∧Below (w.heap.size+2) w2 w') (fun j _=>is.length-(intOf j).toNat)
     case atStart=>exact⟨0,rfl,by omega,Lx (Zb HW) _⟩
     case round =>
      obtain⟨m,rfl,hm,hw⟩:=hrel;obtain⟨c3,c4,c5,c6⟩:=Zb HC wr hw;have HW2:=Zg hw;clear hw;by_cases hlm:m<is.length
      ·
       obtain⟨sc,oc,A,rfl,hsc,rc,ic⟩:=Zcf (Zb HRA).2.1 (Zb HRA).1 (Zb HRA).2.2 m hlm;obtain⟨sd,od,B,rfl,hsd,rd,id⟩:=Zcf (Zb HRB).2.1 (Zb HRB).1 (Zb HRB).2.2 m hlm;generalize is[m]=y at ic id;have HI:=Zg (fun(V:World) (hV:Below (w.heap.size+2) w2 V)=>(Km y A B b V (ic.same (fun k hk=>(hV.block k (by omega)).trans (Zb HLOW k hk))) (id.same (fun k hk=>(hV.block k (by omega)).trans (Zb HLOW k hk))) (by have:=hV.size; have:=Zb HS2; omega)).mono (R':=fun x w'=>x=.returned (.bool true)∧Below (w.heap.size+2) w2 w') (fun x w' h=>⟨h.1,hV.trans (h.2.mono (by have:=hV.size; have:=Zb HS2; omega))⟩));obtain⟨av1,ov1,pa1,e1,-,-,l1,o1,-⟩:=ic;obtain⟨av2,ov2,pa2,e2,-,-,l2,o2,-⟩:=id;simp only at e1 e2;subst e1 e2;have lo:∀ s,s<b→wr.heap[s]?=w.heap[s]?:=fun s hs=>((Zb HW2).block s (by omega)).trans (Zb HLOW s hs);have k0:=(World.cell?_of_block (lo sc hsc)).trans (rc 0 _ rfl);have k1:=(World.cell?_of_block (lo sc hsc)).trans (rc 1 _ rfl);have k2:=(World.cell?_of_block (lo sc hsc)).trans (rc 2 _ rfl);have k3:=(World.cell?_of_block (lo sc hsc)).trans (rc 3 _ rfl);have k4:=(World.cell?_of_block (lo sc hsc)).trans (rc 4 _ rfl);have k5:=(World.cell?_of_block (lo sc hsc)).trans (rc 5 _ rfl);have k6:=(World.cell?_of_block (lo sc hsc)).trans (rc 6 _ rfl);have k7:=(World.cell?_of_block (lo sc hsc)).trans (rc 7 _ rfl);have j0:=(World.cell?_of_block (lo sd hsd)).trans (rd 0 _ rfl);have j1:=(World.cell?_of_block (lo sd hsd)).trans (rd 1 _ rfl)
       have j2:=(World.cell?_of_block (lo sd hsd)).trans (rd 2 _ rfl);have j3:=(World.cell?_of_block (lo sd hsd)).trans (rd 3 _ rfl);have j4:=(World.cell?_of_block (lo sd hsd)).trans (rd 4 _ rfl);have j5:=(World.cell?_of_block (lo sd hsd)).trans (rd 5 _ rfl);have j6:=(World.cell?_of_block (lo sd hsd)).trans (rd 6 _ rfl);have j7:=(World.cell?_of_block (lo sd hsd)).trans (rd 7 _ rfl);rw [Nat.add_zero] at k0 j0;clear rc rd lo hsc hsd l1 l2 o1 o2 pa1 pa2;go_wp2;go_region_with (go_at_call 38; refine(Zb HI _ (Below.drew (Zb HW2))).mono ?_; rintro e w5 ⟨rfl,hb5⟩; have HB5:=Zg hb5; clear hb5)
       go_wp2;all_goals exact⟨⟨m+1,by go_num,by omega,Zb HB5⟩,by simp [intOf]; omega⟩
      ·
       obtain rfl:m=is.length:=by omega
       go_wp2;go_roundw
       case rel=>exact⟨k+1,by go_num,by omega,Zb HW2⟩
       case measure=>simp [intOf]; omega
    ·
     obtain rfl:k=blocks.length:=by omega
     go_wp2;go_ret;exact⟨rfl,(Zb HB2).trans ((Zb HW).mono (by omega))⟩
end Go.Proofs.YteddfaconabobaaGreatDoor
