import Derived.Test.YteddfaconabobaaGreatDoorJ14
import Derived.Deep.OwnRows
import Derived.Deep.QuietTactic
import Derived.BigQuiet
import Derived.Test.YteddfaconabobaaGreatDoorPk
namespace Go.Proofs.YteddfaconabobaaGreatDoor
open Go.RowKit
def signed (lo n:Int):Int:=if lo=-1∧n=255 then -1 else n
section
variable (s:ByteArray)
end
section
variable {w w':World} {b:Nat} {s:ByteArray} {a:Nat}
end
theorem Dm.heap {w w':World}{b:Nat}{v:Value}{ns:List Int}(h:Dm w b v ns)(e:w'.heap=w.heap):Dm w' b v ns:=h.same (fun k _=>by rw [e])
set_option maxHeartbeats 2000000 in
set_option maxRecDepth 100000 in
theorem Zar (ns:List Int)(va vb:Value)(b:Nat)(w:World)(ha:Dm w b va ns)(hb:Dm w b vb ns)(hn:ns.length<Xa):Calls Tryz.prog 26 #[va,vb] w fun x w'=>x=.returned (.bool true)∧∃ m,w'=w.drewN m:=by
 obtain⟨pa,ca,rfl⟩:=ha.shape;obtain⟨pb,cb,rfl⟩:=hb.shape;have hn':ns.length<9223372036854775808:=hn;have hne:((ns.length:Int) != (ns.length:Int))=false:=by simp
 have HA:=Zg ha;have HB:=Zg hb;clear ha hb;go_enter Tryz.func26,Tryz.ntmps26
 go_wp2;go_loopw [13] (fun j w'=>∃(k m:Nat),j=.int .i64 k∧k≤ns.length∧w'=w.drewN m) (fun j _=>ns.length-(intOf j).toNat)
 case atStart=>exact⟨0,0,rfl,by omega,rfl⟩
 case round =>
  obtain⟨k,m,rfl,hk,hw⟩:=hrel;subst hw;by_cases hlt:k<ns.length
  ·
   obtain⟨sa,oa,ca',hva,-,hca⟩:=(Zb HA).resolve_left (fun c=>by rw [c.1] at hlt; simp at hlt);obtain⟨sb,ob,cb',hvb,-,hcb⟩:=(Zb HB).resolve_left (fun c=>by rw [c.1] at hlt; simp at hlt);injection hva with e1 e2 e3;injection hvb with e4 e5 e6;subst e1 e4;have c1:=hca k hlt;have c2:=hcb k hlt;have hxx:(ns.getD k 0 != ns.getD k 0)=false:=by simp
   clear hca hcb e2 e3 e5 e6;generalize ns.getD k 0=x at c1 c2 hxx;go_wp2;go_quiet (fail)
   go_wp2;go_roundw
   case rel=>exact⟨k+1,_,by go_num,by omega,rfl⟩
   case measure=>simp [intOf]; omega
  ·
   obtain rfl:k=ns.length:=by omega
   go_wp2;go_ret;exact⟨rfl,m,rfl⟩
theorem Uj {α:Type}{pa pb:List (Array Value×α)}{xs:List α}(ha:pa.map (·.2)=xs)(hb:pb.map (·.2)=xs):pa.length=xs.length∧pb.length=xs.length:=⟨by rw [← ha]; simp,by rw [← hb]; simp⟩
theorem Dx {α:Type}{pa:List (Array Value×α)}{xs:List α}(ha:pa.map (·.2)=xs)(k:Nat)(h1:k<pa.length)(h2:k<xs.length):pa[k].2=xs[k]:=by subst ha; simp
set_option maxHeartbeats 4000000 in
set_option maxRecDepth 100000 in
theorem Znk (xs:List (List Int×Int))(pa pb:List (Array Value×(List Int×Int)))(va vb:Value)(b:Nat)(w:World)(ha:Rx 2 w b va pa)(hb:Rx 2 w b vb pb)(ma:pa.map (·.2)=xs)(mb:pb.map (·.2)=xs)(ea:∀ q ∈ pa,Nk w b q)(eb:∀ q ∈ pb,Nk w b q)(hn:xs.length<Xa):Calls Tryz.prog 27 #[va,vb] w fun x w'=>x=.returned (.bool true)∧∃ m,w'=w.drewN m:=by
 obtain⟨l1,l2⟩:=Uj ma mb;obtain⟨qa,ca,hva⟩:=ha.shape;obtain⟨qb,cb,hvb⟩:=hb.shape;rw [l1] at hva;rw [l2] at hvb;subst hva hvb;have hn':xs.length<9223372036854775808:=hn;have hne:((xs.length:Int) != (xs.length:Int))=false:=by simp
 have HA:=Zg ha;have HB:=Zg hb;have HMA:=Zg ma;have HMB:=Zg mb;have HEA:=Zg ea;have HEB:=Zg eb;have HL1:=Zg l1;have HL2:=Zg l2;clear ha hb ma mb ea eb l1 l2;go_enter Tryz.func27,Tryz.ntmps27
 go_wp2;go_loopw [13] (fun j w'=>∃(k m:Nat),j=.int .i64 k∧k≤xs.length∧w'=w.drewN m) (fun j _=>xs.length-(intOf j).toNat)
 case atStart=>exact⟨0,0,rfl,by omega,rfl⟩
 case round =>
  obtain⟨k,m,rfl,hk,hw⟩:=hrel;have hh:wr.heap=w.heap:=by rw [hw]; rfl
  have HW:=Zg hw;have HH:=Zg hh;clear hw hh;by_cases hlt:k<xs.length
  ·
   have hka:k<pa.length:=by rw [Zb HL1]; exact hlt
   have hkb:k<pb.length:=by rw [Zb HL2]; exact hlt
   obtain⟨sa,oa,ca',hva,-,hca⟩:=(Zb HA).resolve_left (fun c=>by rw [c.1] at hka; simp at hka);obtain⟨sb,ob,cb',hvb,-,hcb⟩:=(Zb HB).resolve_left (fun c=>by rw [c.1] at hkb; simp at hkb);injection hva with e1 e2 e3;injection hvb with e4 e5 e6;subst e1 e4;have ra:=hca k hka;have rb:=hcb k hkb;obtain⟨lva,ha1,ha2,ha3⟩:=Zb HEA pa[k] (List.getElem_mem hka);obtain⟨lvb,hb1,hb2,hb3⟩:=Zb HEB pb[k] (List.getElem_mem hkb);rw [Dx (Zb HMA) k hka hlt] at ha1 ha2 ha3;rw [Dx (Zb HMB) k hkb hlt] at hb1 hb2 hb3;rw [ha1] at ra;rw [hb1] at rb;generalize xs[k]=y at ra rb ha2 ha3 hb2 hb3;obtain⟨y1,y2⟩:=y;simp only at ra rb ha2 ha3 hb2 hb3;have c1:=(World.cell?_of_block (by rw [Zb HH])).trans (ra 1 _ rfl);have c2:=(World.cell?_of_block (by rw [Zb HH])).trans (rb 1 _ rfl);have c3:=(World.cell?_of_block (by rw [Zb HH])).trans (ra 0 _ rfl);have c4:=(World.cell?_of_block (by rw [Zb HH])).trans (rb 0 _ rfl);rw [Nat.add_zero] at c3 c4;have hyy:(y2 != y2)=false:=by simp
   have HQ:=Zg (fun(V:World) (hV:V.heap=w.heap)=>Zar y1 lva lvb b V (ha2.heap hV) (hb2.heap hV) ha3);obtain⟨p1,c1',e7⟩:=ha2.shape;obtain⟨p2,c2',e8⟩:=hb2.shape;subst e7 e8;clear hca hcb e2 e3 e5 e6 ra rb ha1 hb1 ha2 hb2 ha3 hb3 hka hkb;go_wp2;go_quiet ((go_at_call 26; exact Calls.quiet_of (Zb HQ _ (Zb HH))))
   go_wp2;go_roundw
   case rel=>exact⟨k+1,_,by go_num,by omega,by rw [Zb HW]; exact World.drewN_drewN _ _ _⟩
   case measure=>simp [intOf]; omega
  ·
   obtain rfl:k=xs.length:=by omega
   go_wp2;go_ret;exact⟨rfl,m,Zb HW⟩
theorem Lx {B:Nat}{a w:World}(h:Below B a w)(n:Nat):Below B a (w.drewN n):=h.trans ⟨rfl,rfl,rfl,Nat.le_refl _,fun _ _=>rfl⟩
theorem La (x:Int):(x != x)=false:=by simp
set_option maxHeartbeats 4000000 in
set_option maxRecDepth 100000 in
theorem Km (i:Zw)(A1 A2:Array Value)(b:Nat)(w:World)(h1:Lu w b (A1,i))(h2:Lu w b (A2,i))(hb:b≤w.heap.size):Calls Tryz.prog 38 #[.agg A1,.agg A2] w fun x w'=>x=.returned (.bool true)∧Below w.heap.size w w':=by
 obtain⟨av1,ov1,pa1,e1,m1,v1,l1,o1,s1,s1'⟩:=h1;obtain⟨av2,ov2,pa2,e2,m2,v2,l2,o2,s2,s2'⟩:=h2;simp only at e1 e2 m1 m2 o1 o2 s1 s1' s2 s2';subst e1 e2;obtain⟨q1,c1,z1⟩:=l1.shape;obtain⟨q2,c2,z2⟩:=l2.shape;obtain⟨q3,c3,z3⟩:=o1.shape;obtain⟨q4,c4,z4⟩:=o2.shape;obtain⟨t1,t2⟩:=Uj m1 m2;rw [t1] at z1;rw [t2] at z2;obtain⟨op,d,a,bb,n,f,args,outs⟩:=i;simp only at *;subst z1 z2 z3 z4;have n1:=La op;have n2:=La d;have n3:=La a;have n4:=La bb;have n5:=La n;have n6:=La f;have n7:=La args.length;have hn':args.length<9223372036854775808:=s1;have HQ:=Zg (fun(V:World) (hV:∀ k,k<b→V.heap[k]?=w.heap[k]?)=>Zar outs (.slice q3 outs.length c3) (.slice q4 outs.length c4) b V (o1.same hV) (o2.same hV) s1');have HL1:=Zg l1;have HL2:=Zg l2;have HM1:=Zg m1;have HM2:=Zg m2;have HV1:=Zg v1;have HV2:=Zg v2;have HT1:=Zg t1;have HT2:=Zg t2;clear l1 l2 m1 m2 v1 v2 o1 o2 s1 s1' s2 s2' t1 t2;go_enter Tryz.func38,Tryz.ntmps38
 go_wp2_with fail
 have hbl:Below w.heap.size w ((w.alloc (.cells #[.int .i64 op,.int .i64 d,.int .i64 a,.int .i64 bb,.int .u64 n,.int .i64 f,.slice q1 args.length c1,.slice q3 outs.length c3] 65)).alloc (.cells #[.int .i64 op,.int .i64 d,.int .i64 a,.int .i64 bb,.int .u64 n,.int .i64 f,.slice q2 args.length c2,.slice q4 outs.length c4] 65)):=by go_grown
 have hr0:((w.alloc (.cells #[.int .i64 op,.int .i64 d,.int .i64 a,.int .i64 bb,.int .u64 n,.int .i64 f,.slice q1 args.length c1,.slice q3 outs.length c3] 65)).alloc (.cells #[.int .i64 op,.int .i64 d,.int .i64 a,.int .i64 bb,.int .u64 n,.int .i64 f,.slice q2 args.length c2,.slice q4 outs.length c4] 65)).heap[w.heap.size]?=some (.cells #[.int .i64 op,.int .i64 d,.int .i64 a,.int .i64 bb,.int .u64 n,.int .i64 f,.slice q1 args.length c1,.slice q3 outs.length c3] 65 (0,0)):=heap_alloc2_old _ _ _;have hr1:((w.alloc (.cells #[.int .i64 op,.int .i64 d,.int .i64 a,.int .i64 bb,.int .u64 n,.int .i64 f,.slice q1 args.length c1,.slice q3 outs.length c3] 65)).alloc (.cells #[.int .i64 op,.int .i64 d,.int .i64 a,.int .i64 bb,.int .u64 n,.int .i64 f,.slice q2 args.length c2,.slice q4 outs.length c4] 65)).heap[w.heap.size+1]?=some (.cells #[.int .i64 op,.int .i64 d,.int .i64 a,.int .i64 bb,.int .u64 n,.int .i64 f,.slice q2 args.length c2,.slice q4 outs.length c4] 65 (0,0)):=heap_alloc2_new _ _ _;generalize (w.alloc _).alloc _=W at hbl hr0 hr1 ⊢;have hlow:∀ k,k<b→W.heap[k]?=w.heap[k]?:=fun k hk=>hbl.block k (by omega);refine(Zb HQ W hlow).mono ?_;rintro e w1 ⟨rfl,m1,hw1⟩;have hh1:w1.heap=W.heap:=by rw [hw1]; rfl
 have hb1:Below w.heap.size w w1:=by rw [hw1]; exact Lx hbl _
 have d1:=(World.cell?_of_block (by rw [hh1])).trans ((cR hr0 6));have HB1:=Zg hb1;have HH1:=Zg hh1;have HR0:=Zg ((congrArg (·[w.heap.size]?) hh1).trans hr0);have HR1:=Zg ((congrArg (·[w.heap.size+1]?) hh1).trans hr1);have HLOW:=Zg hlow;clear hw1 hh1 hb1 hbl hr0 hr1 hlow;go_wp2;go_loopw [66] (fun j w'=>∃(k m:Nat),j=.int .i64 k∧k≤args.length∧w'=w1.drewN m) (fun j _=>args.length-(intOf j).toNat)
 case atStart=>exact⟨0,0,rfl,by omega,rfl⟩
 case round =>
  obtain⟨k,m,rfl,hk,hw⟩:=hrel;have hh:wr.heap=w1.heap:=by rw [hw]; rfl
  have HW:=Zg hw;have HH:=Zg hh;clear hw hh d1;by_cases hlt:k<args.length
  ·
   have hka:k<pa1.length:=by rw [Zb HT1]; exact hlt
   have hkb:k<pa2.length:=by rw [Zb HT2]; exact hlt
   obtain⟨sa,oa,ca',hva,hsa,hca⟩:=(Zb HL1).resolve_left (fun c=>by rw [c.1] at hka; simp at hka);obtain⟨sb,ob,cb',hvb,hsb,hcb⟩:=(Zb HL2).resolve_left (fun c=>by rw [c.1] at hkb; simp at hkb);injection hva with e1 e2 e3;injection hvb with e4 e5 e6;subst e1 e4;have ra:=hca k hka;have rb:=hcb k hkb;rw [Zb HV1 pa1[k] (List.getElem_mem hka),Dx (Zb HM1) k hka hlt] at ra;rw [Zb HV2 pa2[k] (List.getElem_mem hkb),Dx (Zb HM2) k hkb hlt] at rb;generalize args[k]=y at ra rb;obtain⟨y1,y2⟩:=y;have lo:∀ s,s<b→wr.heap[s]?=w.heap[s]?:=fun s hs=>by rw [Zb HH,Zb HH1]; exact Zb HLOW s hs
   have d1:=(World.cell?_of_block (by rw [Zb HH])).trans ((cR (Zb HR0) 6));have d2:=(World.cell?_of_block (by rw [Zb HH])).trans ((cR (Zb HR1) 6));have c3:=(World.cell?_of_block (lo sa hsa)).trans (ra 0 _ rfl);have c4:=(World.cell?_of_block (lo sa hsa)).trans (ra 1 _ rfl);have c5:=(World.cell?_of_block (lo sb hsb)).trans (rb 0 _ rfl);have c6:=(World.cell?_of_block (lo sb hsb)).trans (rb 1 _ rfl);rw [Nat.add_zero] at c3 c5;have hy1:(y1 != y1)=false:=by simp
   have hy2:(y2 != y2)=false:=by simp
   clear hca hcb e2 e3 e5 e6 ra rb hka hkb lo hsa hsb;go_wp2;go_quiet (fail)
   go_wp2;go_roundw
   case rel=>exact⟨k+1,_,by go_num,by omega,by rw [Zb HW]; exact World.drewN_drewN _ _ _⟩
   case measure=>simp [intOf]; omega
  ·
   obtain rfl:k=args.length:=by omega
   go_wp2;go_ret;exact⟨rfl,by rw [Zb HW]; exact Lx (Zb HB1) _⟩
end Go.Proofs.YteddfaconabobaaGreatDoor
