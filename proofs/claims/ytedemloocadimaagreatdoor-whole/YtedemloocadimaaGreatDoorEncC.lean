import Derived.Test.YtedemloocadimaaGreatDoorJ19
import Derived.Deep.RegionLaw
namespace Go.Proofs.YtedemloocadimaaGreatDoor
open Go.RowKit
set_option maxHeartbeats 4000000
set_option maxRecDepth 100000
def Dj (n:Int):Nat→List UInt8
 | 0=>[]
 | c+1=>Zj (n / 2 ^ (8*c)) :: Dj n c
theorem Zci (n:Int):∀ c,(Dj n c).length=c
 | 0=>rfl
 | c+1=>by simp [Dj,Zci n c]
def Mf (op n:Int):Option (List UInt8):=if Xp op=1∧n > 255 then none else some (Dj n (Xp op))
theorem Xf {P:Program}{ops:Array Oper}{o:Oper}{a:Act}{w:World}{K:Act→World→Prop}{Q:Exit→Act→World→Prop}{E:Prop}
 (hg:o.guard=none) (s x:Operand) (t:TypeId) (ho:o.op=.call { callee:=.builtin .append,args:=#[s,x],argTypes:=#[t,t] })
 (base:Nat) (e:TypeId) (i:TypeInfo) (z:Value) (size bytes:Nat) (ht:P.underlying t=some (.slice e)) (hi:P.info? e=some i) (hz:i.zero=some z)
 (hsize:i.size=size) (hby:i.bytes=bytes) (hzs:z.cells.size=size) (hsz:0<size)
 (v:Value) (n:Nat) (xs:List Value) (hs:a.eval s=v) (hown:w.ownsRow base e size v n xs)
 (ad:Addr) (m c:Nat) (news:List Value) (hx:a.eval x=.slice (some ad) m c) (hl:news.length=m*size) (hnews:∀ j u,news[j]?=some u→w.cell? (ad.add j)=some u) (h1:∀ u ∈ news,u.oneCell'=true)
 (h63:n+m≤maxLen) (hbytes:(n+m)*bytes≤140737488355328) (hbase:base≤w.heap.size)
 (h:∀ v' w',w'.ownsRow base e size v' (n+m) (xs++news)→w.grownBy w' v.ownBlock→K (a.put o.dst v') w') :
 if Region.wanted o (yielded ops a.tmps)=true then Oper.wp P o a w K Q else E:=by
 have hw:Region.wanted o (yielded ops a.tmps)=true:=by simp [Region.wanted,hg]
 rw [if_pos hw];exact wp_append_own w s x t ho base e i z size bytes ht hi hz hsize hby hzs hsz v n xs hs hown ad m c news hx hl hnews h1 h63 hbytes hbase (fun v' w' h2 h3 _=>h v' w' h2 h3)
theorem Sm (x:Int):IntKind.u8.wrap x=x % 256:=rfl
theorem Of {w2:World}{b g2 cap2:Nat}{v':Value}{l:List UInt8}{x:UInt8}{y:Int}(hc:w2.cell? ⟨b,0,none⟩=some v')(hf:w2.frozen? ⟨b,0,none⟩=false)(hown:w2.ownsRow (b+1) 5 1 (.slice (some ⟨g2,0,none⟩) (l.length+1) cap2) (l.length+1) (Gs l++[.int .u8 y]))(hy:(x.toNat:Int)=y) :
 Wt (w2.setCell ⟨b,0,none⟩ (.slice (some ⟨g2,0,none⟩) (l.length+1) cap2)) b (.slice (some ⟨g2,0,none⟩) (l.length+1) cap2) (l++[x]):=by
 refine⟨World.cell?_setCell_same _ _ _ hc,by rw [World.frozen?_setCell]; exact hf,?_⟩;have h1:=ownsRow_setCell_below hown (a:=⟨b,0,none⟩) (show b<b+1 by omega) (.slice (some ⟨g2,0,none⟩) (l.length+1) cap2);rw [show Gs (l++[x])=Gs l++[.int .u8 y] by simp [Gs,hy],show(l++[x]).length=l.length+1 by simp];exact h1
theorem Og {w wr w2:World}{b:Nat}{v':Value}{n:Nat}{xs:List Value}(h:Ws w wr b)(hb:b<wr.heap.size)(X:Obj)(hr:wr.ownsRow (b+1) 5 1 v' n xs)(hg:((wr.drew).alloc X).grownBy w2 v'.ownBlock)(u:Value):Ws w (w2.setCell ⟨b,0,none⟩ u) b:=by
 have h1:Ws wr (wr.alloc X) b:=Yy wr X b (by omega);have hr2:(wr.drew.alloc X).ownsRow (b+1) 5 1 v' n xs:=World.ownsRow.alloc (w:=wr.drew) hr X;refine h.trans ⟨?_,?_⟩
 ·
  refine(h1.low.trans ?_).trans (Zba w2 b 0 _);exact⟨hg.os,hg.tape,hg.output,hg.size,fun q hq=>hg.block q (by show q<(wr.drew.alloc X).heap.size; have:=h1.low.size; have e:(wr.drew.alloc X).heap.size=(wr.alloc X).heap.size:=rfl; omega) (by intro e; have:=(hr2.lt q e.symm).1; omega)⟩
 ·
  exact(h1.oth.trans (fun k o hk=>Ie (b:=b) hr2 hg k o hk)).trans (Zgo w2 b 0 _)
theorem Zmh (b:Nat)(v:Value)(l:List UInt8)(op n:Int)(w:World)(h:Wt w b v l)(hl:l.length≤99000000000)(hW:Xp op=8) :
 Calls Tryz.prog 281 #[.pointer (some ⟨b,0,none⟩),.int .i64 op,.int .u64 n] w (Mh b l (Mf op n) w):=by
 obtain⟨ti,hti,hz0,hz1,hz2⟩:=Gd Tryz.infoU;go_enter Tryz.func281,Tryz.ntmps281
 go_wp2_with fail
 refine(Cc _ _).mono ?_;rintro e w' ⟨rfl,rfl⟩;rw [hW];have HW:=Zc h;clear h;go_wp2_with fail
 go_loopw [7] (fun j wr=>∃(z:Int) (v':Value) (ds:List UInt8),j=.int .i64 z∧-1≤z∧z≤7∧ds++Dj n (z+1).toNat=Dj n 8∧Ws w' wr b∧Wt wr b v' (l++ds)) (fun j _=>(intOf j+1).toNat)
 case atStart=>exact⟨7,v,[],rfl,by omega,by omega,rfl,Ws.refl _ _,by simpa using O HW⟩
 case round =>
  obtain⟨z,v',ds,rfl,hz,hz7,hds,hws,hwt⟩:=hrel;have hbl:=hwt.lt;have hdl:ds.length≤8:=by
   have:=congrArg List.length hds;simp [Zci] at this;omega
  have hlen:(l++ds).length≤100000000000:=by simp; omega
  have cc:=hwt.cell;have cf:=hwt.fz;by_cases hz0':0≤z
  ·
   have hds2:(ds++[Zj (n / 2 ^ (8*z.toNat))])++Dj n z.toNat=Dj n 8:=by
    rw [← hds,show(z+1).toNat=z.toNat+1 by omega];simp [Dj]
   have HDS:=Zc hds2;have HWS:=Zc hws;have HWT:=Zc hwt;have HM:=Zc (show ∃ m,m=l++ds from⟨_,rfl⟩);clear hds hws hwt hds2;obtain⟨m,hm⟩:=O HM;rw [← hm] at HWT hlen;have HM2:=Zc hm;clear hm HM;have hzs:z=0∨z=1∨z=2∨z=3∨z=4∨z=5∨z=6∨z=7:=by omega
   clear hz hz7 hz0';rcases hzs with rfl | rfl | rfl | rfl | rfl | rfl | rfl | rfl
   ·
    have eb:((Zj (n / 2 ^ (8*Int.toNat 0))).toNat:Int)=IntKind.u8.wrap n:=by
     rw [Sm];unfold Zj;simp
     omega
    have HEB:=Zc eb;have cc2:(wr.drew.alloc (.cells #[.int .u8 (IntKind.u8.wrap n)] 5)).cell? ⟨b,0,none⟩=some v':=(World.cell?_alloc_lt _ _ ⟨b,0,none⟩ hbl).trans cc;have cf2:(wr.drew.alloc (.cells #[.int .u8 (IntKind.u8.wrap n)] 5)).frozen? ⟨b,0,none⟩=false:=(World.frozen?_alloc_old _ _ ⟨b,0,none⟩ (by show b≠_; exact Nat.ne_of_lt hbl)).trans cf;clear eb;have hwr:IntKind.i64.wrap 0=0:=by decide
    go_wp2;go_region_law (refine Xf rfl (.tmp 28) (.tmp 34) 126 rfl (b+1) 5 ti _ 1 1 Tryz.underlying126 hti hz0 hz1 hz2 rfl (by decide) v' m.length (Gs m) (by simp [Act.eval]) (World.ownsRow.alloc (w:=wr.drew) (O HWT).row _) ⟨wr.heap.size,0,none⟩ 1 1 [.int .u8 (IntKind.u8.wrap n)] (by simp [Act.eval]) rfl (by intro j u hj; match j,hj with | 0,hj=>simp at hj; subst hj; simp [Addr.add]) (by intro u hu; simp at hu; subst hu; rfl) (by unfold maxLen; omega) (by omega) (by simp; omega) ?_; intro v2 w2 hown hgr; obtain⟨g2,cap2,rfl⟩:=Lu hown; have hblk:=hgr.block b (by simp; omega) (by intro e; have:=((World.ownsRow.alloc (w:=wr.drew) (O HWT).row (.cells #[.int .u8 (IntKind.u8.wrap n)] 5)).lt b e.symm).1; omega); have cu3:w2.cell? ⟨b,0,none⟩=some v':=(World.cell?_of_block hblk).trans cc2; have cf3:w2.frozen? ⟨b,0,none⟩=false:=(World.frozen?_of_block (a:=⟨b,0,none⟩) hblk).trans cf2; have HOWN:=Zc hown; have HGR:=Zc hgr; clear hown hgr hblk)
    all_goals go_wp2
    all_goals
     go_roundw
     case rel =>
      refine⟨-1,.slice (some ⟨g2,0,none⟩) (m.length+1) cap2,ds++[Zj (n / 2 ^ (8*Int.toNat 0))],by first | rfl | go_num,by omega,by omega,O HDS,Og (O HWS) hbl _ (O HWT).row (O HGR) _,?_⟩;rw [← List.append_assoc,← O HM2];exact Of cu3 cf3 (O HOWN) (O HEB)
     case measure=>simp [intOf]
   ·
    have eb:((Zj (n / 2 ^ (8*Int.toNat 1))).toNat:Int)=IntKind.u8.wrap (n / 256):=by
     rw [Sm];unfold Zj;simp
     omega
    have HEB:=Zc eb;have cc2:(wr.drew.alloc (.cells #[.int .u8 (IntKind.u8.wrap (n / 256))] 5)).cell? ⟨b,0,none⟩=some v':=(World.cell?_alloc_lt _ _ ⟨b,0,none⟩ hbl).trans cc;have cf2:(wr.drew.alloc (.cells #[.int .u8 (IntKind.u8.wrap (n / 256))] 5)).frozen? ⟨b,0,none⟩=false:=(World.frozen?_alloc_old _ _ ⟨b,0,none⟩ (by show b≠_; exact Nat.ne_of_lt hbl)).trans cf;clear eb;have hwr:IntKind.i64.wrap 8=8:=by decide
    go_wp2;go_region_law (refine Xf rfl (.tmp 28) (.tmp 34) 126 rfl (b+1) 5 ti _ 1 1 Tryz.underlying126 hti hz0 hz1 hz2 rfl (by decide) v' m.length (Gs m) (by simp [Act.eval]) (World.ownsRow.alloc (w:=wr.drew) (O HWT).row _) ⟨wr.heap.size,0,none⟩ 1 1 [.int .u8 (IntKind.u8.wrap (n / 256))] (by simp [Act.eval]) rfl (by intro j u hj; match j,hj with | 0,hj=>simp at hj; subst hj; simp [Addr.add]) (by intro u hu; simp at hu; subst hu; rfl) (by unfold maxLen; omega) (by omega) (by simp; omega) ?_; intro v2 w2 hown hgr; obtain⟨g2,cap2,rfl⟩:=Lu hown; have hblk:=hgr.block b (by simp; omega) (by intro e; have:=((World.ownsRow.alloc (w:=wr.drew) (O HWT).row (.cells #[.int .u8 (IntKind.u8.wrap (n / 256))] 5)).lt b e.symm).1; omega); have cu3:w2.cell? ⟨b,0,none⟩=some v':=(World.cell?_of_block hblk).trans cc2; have cf3:w2.frozen? ⟨b,0,none⟩=false:=(World.frozen?_of_block (a:=⟨b,0,none⟩) hblk).trans cf2; have HOWN:=Zc hown; have HGR:=Zc hgr; clear hown hgr hblk)
    all_goals go_wp2
    all_goals
     go_roundw
     case rel =>
      refine⟨0,.slice (some ⟨g2,0,none⟩) (m.length+1) cap2,ds++[Zj (n / 2 ^ (8*Int.toNat 1))],by first | rfl | go_num,by omega,by omega,O HDS,Og (O HWS) hbl _ (O HWT).row (O HGR) _,?_⟩;rw [← List.append_assoc,← O HM2];exact Of cu3 cf3 (O HOWN) (O HEB)
     case measure=>simp [intOf]
   ·
    have eb:((Zj (n / 2 ^ (8*Int.toNat 2))).toNat:Int)=IntKind.u8.wrap (n / 65536):=by
     rw [Sm];unfold Zj;simp
     omega
    have HEB:=Zc eb;have cc2:(wr.drew.alloc (.cells #[.int .u8 (IntKind.u8.wrap (n / 65536))] 5)).cell? ⟨b,0,none⟩=some v':=(World.cell?_alloc_lt _ _ ⟨b,0,none⟩ hbl).trans cc;have cf2:(wr.drew.alloc (.cells #[.int .u8 (IntKind.u8.wrap (n / 65536))] 5)).frozen? ⟨b,0,none⟩=false:=(World.frozen?_alloc_old _ _ ⟨b,0,none⟩ (by show b≠_; exact Nat.ne_of_lt hbl)).trans cf;clear eb;have hwr:IntKind.i64.wrap 16=16:=by decide
    go_wp2;go_region_law (refine Xf rfl (.tmp 28) (.tmp 34) 126 rfl (b+1) 5 ti _ 1 1 Tryz.underlying126 hti hz0 hz1 hz2 rfl (by decide) v' m.length (Gs m) (by simp [Act.eval]) (World.ownsRow.alloc (w:=wr.drew) (O HWT).row _) ⟨wr.heap.size,0,none⟩ 1 1 [.int .u8 (IntKind.u8.wrap (n / 65536))] (by simp [Act.eval]) rfl (by intro j u hj; match j,hj with | 0,hj=>simp at hj; subst hj; simp [Addr.add]) (by intro u hu; simp at hu; subst hu; rfl) (by unfold maxLen; omega) (by omega) (by simp; omega) ?_; intro v2 w2 hown hgr; obtain⟨g2,cap2,rfl⟩:=Lu hown; have hblk:=hgr.block b (by simp; omega) (by intro e; have:=((World.ownsRow.alloc (w:=wr.drew) (O HWT).row (.cells #[.int .u8 (IntKind.u8.wrap (n / 65536))] 5)).lt b e.symm).1; omega); have cu3:w2.cell? ⟨b,0,none⟩=some v':=(World.cell?_of_block hblk).trans cc2; have cf3:w2.frozen? ⟨b,0,none⟩=false:=(World.frozen?_of_block (a:=⟨b,0,none⟩) hblk).trans cf2; have HOWN:=Zc hown; have HGR:=Zc hgr; clear hown hgr hblk)
    all_goals go_wp2
    all_goals
     go_roundw
     case rel =>
      refine⟨1,.slice (some ⟨g2,0,none⟩) (m.length+1) cap2,ds++[Zj (n / 2 ^ (8*Int.toNat 2))],by first | rfl | go_num,by omega,by omega,O HDS,Og (O HWS) hbl _ (O HWT).row (O HGR) _,?_⟩;rw [← List.append_assoc,← O HM2];exact Of cu3 cf3 (O HOWN) (O HEB)
     case measure=>simp [intOf]
   ·
    have eb:((Zj (n / 2 ^ (8*Int.toNat 3))).toNat:Int)=IntKind.u8.wrap (n / 16777216):=by
     rw [Sm];unfold Zj;simp
     omega
    have HEB:=Zc eb;have cc2:(wr.drew.alloc (.cells #[.int .u8 (IntKind.u8.wrap (n / 16777216))] 5)).cell? ⟨b,0,none⟩=some v':=(World.cell?_alloc_lt _ _ ⟨b,0,none⟩ hbl).trans cc;have cf2:(wr.drew.alloc (.cells #[.int .u8 (IntKind.u8.wrap (n / 16777216))] 5)).frozen? ⟨b,0,none⟩=false:=(World.frozen?_alloc_old _ _ ⟨b,0,none⟩ (by show b≠_; exact Nat.ne_of_lt hbl)).trans cf;clear eb;have hwr:IntKind.i64.wrap 24=24:=by decide
    go_wp2;go_region_law (refine Xf rfl (.tmp 28) (.tmp 34) 126 rfl (b+1) 5 ti _ 1 1 Tryz.underlying126 hti hz0 hz1 hz2 rfl (by decide) v' m.length (Gs m) (by simp [Act.eval]) (World.ownsRow.alloc (w:=wr.drew) (O HWT).row _) ⟨wr.heap.size,0,none⟩ 1 1 [.int .u8 (IntKind.u8.wrap (n / 16777216))] (by simp [Act.eval]) rfl (by intro j u hj; match j,hj with | 0,hj=>simp at hj; subst hj; simp [Addr.add]) (by intro u hu; simp at hu; subst hu; rfl) (by unfold maxLen; omega) (by omega) (by simp; omega) ?_; intro v2 w2 hown hgr; obtain⟨g2,cap2,rfl⟩:=Lu hown; have hblk:=hgr.block b (by simp; omega) (by intro e; have:=((World.ownsRow.alloc (w:=wr.drew) (O HWT).row (.cells #[.int .u8 (IntKind.u8.wrap (n / 16777216))] 5)).lt b e.symm).1; omega); have cu3:w2.cell? ⟨b,0,none⟩=some v':=(World.cell?_of_block hblk).trans cc2; have cf3:w2.frozen? ⟨b,0,none⟩=false:=(World.frozen?_of_block (a:=⟨b,0,none⟩) hblk).trans cf2; have HOWN:=Zc hown; have HGR:=Zc hgr; clear hown hgr hblk)
    all_goals go_wp2
    all_goals
     go_roundw
     case rel =>
      refine⟨2,.slice (some ⟨g2,0,none⟩) (m.length+1) cap2,ds++[Zj (n / 2 ^ (8*Int.toNat 3))],by first | rfl | go_num,by omega,by omega,O HDS,Og (O HWS) hbl _ (O HWT).row (O HGR) _,?_⟩;rw [← List.append_assoc,← O HM2];exact Of cu3 cf3 (O HOWN) (O HEB)
     case measure=>simp [intOf]
   ·
    have eb:((Zj (n / 2 ^ (8*Int.toNat 4))).toNat:Int)=IntKind.u8.wrap (n / 4294967296):=by
     rw [Sm];unfold Zj;simp
     omega
    have HEB:=Zc eb;have cc2:(wr.drew.alloc (.cells #[.int .u8 (IntKind.u8.wrap (n / 4294967296))] 5)).cell? ⟨b,0,none⟩=some v':=(World.cell?_alloc_lt _ _ ⟨b,0,none⟩ hbl).trans cc;have cf2:(wr.drew.alloc (.cells #[.int .u8 (IntKind.u8.wrap (n / 4294967296))] 5)).frozen? ⟨b,0,none⟩=false:=(World.frozen?_alloc_old _ _ ⟨b,0,none⟩ (by show b≠_; exact Nat.ne_of_lt hbl)).trans cf;clear eb;have hwr:IntKind.i64.wrap 32=32:=by decide
    go_wp2;go_region_law (refine Xf rfl (.tmp 28) (.tmp 34) 126 rfl (b+1) 5 ti _ 1 1 Tryz.underlying126 hti hz0 hz1 hz2 rfl (by decide) v' m.length (Gs m) (by simp [Act.eval]) (World.ownsRow.alloc (w:=wr.drew) (O HWT).row _) ⟨wr.heap.size,0,none⟩ 1 1 [.int .u8 (IntKind.u8.wrap (n / 4294967296))] (by simp [Act.eval]) rfl (by intro j u hj; match j,hj with | 0,hj=>simp at hj; subst hj; simp [Addr.add]) (by intro u hu; simp at hu; subst hu; rfl) (by unfold maxLen; omega) (by omega) (by simp; omega) ?_; intro v2 w2 hown hgr; obtain⟨g2,cap2,rfl⟩:=Lu hown; have hblk:=hgr.block b (by simp; omega) (by intro e; have:=((World.ownsRow.alloc (w:=wr.drew) (O HWT).row (.cells #[.int .u8 (IntKind.u8.wrap (n / 4294967296))] 5)).lt b e.symm).1; omega); have cu3:w2.cell? ⟨b,0,none⟩=some v':=(World.cell?_of_block hblk).trans cc2; have cf3:w2.frozen? ⟨b,0,none⟩=false:=(World.frozen?_of_block (a:=⟨b,0,none⟩) hblk).trans cf2; have HOWN:=Zc hown; have HGR:=Zc hgr; clear hown hgr hblk)
    all_goals go_wp2
    all_goals
     go_roundw
     case rel =>
      refine⟨3,.slice (some ⟨g2,0,none⟩) (m.length+1) cap2,ds++[Zj (n / 2 ^ (8*Int.toNat 4))],by first | rfl | go_num,by omega,by omega,O HDS,Og (O HWS) hbl _ (O HWT).row (O HGR) _,?_⟩;rw [← List.append_assoc,← O HM2];exact Of cu3 cf3 (O HOWN) (O HEB)
     case measure=>simp [intOf]
   ·
    have eb:((Zj (n / 2 ^ (8*Int.toNat 5))).toNat:Int)=IntKind.u8.wrap (n / 1099511627776):=by
     rw [Sm];unfold Zj;simp
     omega
    have HEB:=Zc eb;have cc2:(wr.drew.alloc (.cells #[.int .u8 (IntKind.u8.wrap (n / 1099511627776))] 5)).cell? ⟨b,0,none⟩=some v':=(World.cell?_alloc_lt _ _ ⟨b,0,none⟩ hbl).trans cc;have cf2:(wr.drew.alloc (.cells #[.int .u8 (IntKind.u8.wrap (n / 1099511627776))] 5)).frozen? ⟨b,0,none⟩=false:=(World.frozen?_alloc_old _ _ ⟨b,0,none⟩ (by show b≠_; exact Nat.ne_of_lt hbl)).trans cf;clear eb;have hwr:IntKind.i64.wrap 40=40:=by decide
    go_wp2;go_region_law (refine Xf rfl (.tmp 28) (.tmp 34) 126 rfl (b+1) 5 ti _ 1 1 Tryz.underlying126 hti hz0 hz1 hz2 rfl (by decide) v' m.length (Gs m) (by simp [Act.eval]) (World.ownsRow.alloc (w:=wr.drew) (O HWT).row _) ⟨wr.heap.size,0,none⟩ 1 1 [.int .u8 (IntKind.u8.wrap (n / 1099511627776))] (by simp [Act.eval]) rfl (by intro j u hj; match j,hj with | 0,hj=>simp at hj; subst hj; simp [Addr.add]) (by intro u hu; simp at hu; subst hu; rfl) (by unfold maxLen; omega) (by omega) (by simp; omega) ?_; intro v2 w2 hown hgr; obtain⟨g2,cap2,rfl⟩:=Lu hown; have hblk:=hgr.block b (by simp; omega) (by intro e; have:=((World.ownsRow.alloc (w:=wr.drew) (O HWT).row (.cells #[.int .u8 (IntKind.u8.wrap (n / 1099511627776))] 5)).lt b e.symm).1; omega); have cu3:w2.cell? ⟨b,0,none⟩=some v':=(World.cell?_of_block hblk).trans cc2; have cf3:w2.frozen? ⟨b,0,none⟩=false:=(World.frozen?_of_block (a:=⟨b,0,none⟩) hblk).trans cf2; have HOWN:=Zc hown; have HGR:=Zc hgr; clear hown hgr hblk)
    all_goals go_wp2
    all_goals
     go_roundw
     case rel =>
      refine⟨4,.slice (some ⟨g2,0,none⟩) (m.length+1) cap2,ds++[Zj (n / 2 ^ (8*Int.toNat 5))],by first | rfl | go_num,by omega,by omega,O HDS,Og (O HWS) hbl _ (O HWT).row (O HGR) _,?_⟩;rw [← List.append_assoc,← O HM2];exact Of cu3 cf3 (O HOWN) (O HEB)
     case measure=>simp [intOf]
   ·
    have eb:((Zj (n / 2 ^ (8*Int.toNat 6))).toNat:Int)=IntKind.u8.wrap (n / 281474976710656):=by
     rw [Sm];unfold Zj;simp
     omega
    have HEB:=Zc eb;have cc2:(wr.drew.alloc (.cells #[.int .u8 (IntKind.u8.wrap (n / 281474976710656))] 5)).cell? ⟨b,0,none⟩=some v':=(World.cell?_alloc_lt _ _ ⟨b,0,none⟩ hbl).trans cc;have cf2:(wr.drew.alloc (.cells #[.int .u8 (IntKind.u8.wrap (n / 281474976710656))] 5)).frozen? ⟨b,0,none⟩=false:=(World.frozen?_alloc_old _ _ ⟨b,0,none⟩ (by show b≠_; exact Nat.ne_of_lt hbl)).trans cf;clear eb;have hwr:IntKind.i64.wrap 48=48:=by decide
    go_wp2;go_region_law (refine Xf rfl (.tmp 28) (.tmp 34) 126 rfl (b+1) 5 ti _ 1 1 Tryz.underlying126 hti hz0 hz1 hz2 rfl (by decide) v' m.length (Gs m) (by simp [Act.eval]) (World.ownsRow.alloc (w:=wr.drew) (O HWT).row _) ⟨wr.heap.size,0,none⟩ 1 1 [.int .u8 (IntKind.u8.wrap (n / 281474976710656))] (by simp [Act.eval]) rfl (by intro j u hj; match j,hj with | 0,hj=>simp at hj; subst hj; simp [Addr.add]) (by intro u hu; simp at hu; subst hu; rfl) (by unfold maxLen; omega) (by omega) (by simp; omega) ?_; intro v2 w2 hown hgr; obtain⟨g2,cap2,rfl⟩:=Lu hown; have hblk:=hgr.block b (by simp; omega) (by intro e; have:=((World.ownsRow.alloc (w:=wr.drew) (O HWT).row (.cells #[.int .u8 (IntKind.u8.wrap (n / 281474976710656))] 5)).lt b e.symm).1; omega); have cu3:w2.cell? ⟨b,0,none⟩=some v':=(World.cell?_of_block hblk).trans cc2; have cf3:w2.frozen? ⟨b,0,none⟩=false:=(World.frozen?_of_block (a:=⟨b,0,none⟩) hblk).trans cf2; have HOWN:=Zc hown; have HGR:=Zc hgr; clear hown hgr hblk)
    all_goals go_wp2
    all_goals
     go_roundw
     case rel =>
      refine⟨5,.slice (some ⟨g2,0,none⟩) (m.length+1) cap2,ds++[Zj (n / 2 ^ (8*Int.toNat 6))],by first | rfl | go_num,by omega,by omega,O HDS,Og (O HWS) hbl _ (O HWT).row (O HGR) _,?_⟩;rw [← List.append_assoc,← O HM2];exact Of cu3 cf3 (O HOWN) (O HEB)
     case measure=>simp [intOf]
   ·
    have eb:((Zj (n / 2 ^ (8*Int.toNat 7))).toNat:Int)=IntKind.u8.wrap (n / 72057594037927936):=by
     rw [Sm];unfold Zj;simp
     omega
    have HEB:=Zc eb;have cc2:(wr.drew.alloc (.cells #[.int .u8 (IntKind.u8.wrap (n / 72057594037927936))] 5)).cell? ⟨b,0,none⟩=some v':=(World.cell?_alloc_lt _ _ ⟨b,0,none⟩ hbl).trans cc;have cf2:(wr.drew.alloc (.cells #[.int .u8 (IntKind.u8.wrap (n / 72057594037927936))] 5)).frozen? ⟨b,0,none⟩=false:=(World.frozen?_alloc_old _ _ ⟨b,0,none⟩ (by show b≠_; exact Nat.ne_of_lt hbl)).trans cf;clear eb;have hwr:IntKind.i64.wrap 56=56:=by decide
    go_wp2;go_region_law (refine Xf rfl (.tmp 28) (.tmp 34) 126 rfl (b+1) 5 ti _ 1 1 Tryz.underlying126 hti hz0 hz1 hz2 rfl (by decide) v' m.length (Gs m) (by simp [Act.eval]) (World.ownsRow.alloc (w:=wr.drew) (O HWT).row _) ⟨wr.heap.size,0,none⟩ 1 1 [.int .u8 (IntKind.u8.wrap (n / 72057594037927936))] (by simp [Act.eval]) rfl (by intro j u hj; match j,hj with | 0,hj=>simp at hj; subst hj; simp [Addr.add]) (by intro u hu; simp at hu; subst hu; rfl) (by unfold maxLen; omega) (by omega) (by simp; omega) ?_; intro v2 w2 hown hgr; obtain⟨g2,cap2,rfl⟩:=Lu hown; have hblk:=hgr.block b (by simp; omega) (by intro e; have:=((World.ownsRow.alloc (w:=wr.drew) (O HWT).row (.cells #[.int .u8 (IntKind.u8.wrap (n / 72057594037927936))] 5)).lt b e.symm).1; omega); have cu3:w2.cell? ⟨b,0,none⟩=some v':=(World.cell?_of_block hblk).trans cc2; have cf3:w2.frozen? ⟨b,0,none⟩=false:=(World.frozen?_of_block (a:=⟨b,0,none⟩) hblk).trans cf2; have HOWN:=Zc hown; have HGR:=Zc hgr; clear hown hgr hblk)
    all_goals go_wp2
    all_goals
     go_roundw
     case rel =>
      refine⟨6,.slice (some ⟨g2,0,none⟩) (m.length+1) cap2,ds++[Zj (n / 2 ^ (8*Int.toNat 7))],by first | rfl | go_num,by omega,by omega,O HDS,Og (O HWS) hbl _ (O HWT).row (O HGR) _,?_⟩;rw [← List.append_assoc,← O HM2];exact Of cu3 cf3 (O HOWN) (O HEB)
     case measure=>simp [intOf]
  ·
   obtain rfl:z=-1:=by omega
   have h1:ds=Dj n 8:=by simpa [Dj] using hds
   subst h1;have HR:=Zc (show Mf op n=some (Dj n 8) by unfold Mf; rw [hW]; rfl);go_wp2;refine bodyPost_end (results_none (fn:=Tryz.f281) rfl _ _ _) rfl ?_;refine⟨hws,?_⟩;rw [O HR];exact⟨rfl,v',hwt⟩
theorem Zmi (b:Nat)(v:Value)(l:List UInt8)(op n:Int)(w:World)(h:Wt w b v l)(hl:l.length≤99000000000)(hW:Xp op=1)(h255:n≤255) :
 Calls Tryz.prog 281 #[.pointer (some ⟨b,0,none⟩),.int .i64 op,.int .u64 n] w (Mh b l (Mf op n) w):=by
 obtain⟨ti,hti,hz0,hz1,hz2⟩:=Gd Tryz.infoU;go_enter Tryz.func281,Tryz.ntmps281
 go_wp2_with fail
 refine(Cc _ _).mono ?_;rintro e w' ⟨rfl,rfl⟩;rw [hW];have HW:=Zc h;clear h;go_wp2_with fail
 go_loopw [7] (fun j wr=>∃(z:Int) (v':Value) (ds:List UInt8),j=.int .i64 z∧-1≤z∧z≤0∧ds++Dj n (z+1).toNat=Dj n 1∧Ws w' wr b∧Wt wr b v' (l++ds)) (fun j _=>(intOf j+1).toNat)
 case atStart=>exact⟨0,v,[],rfl,by omega,by omega,rfl,Ws.refl _ _,by simpa using O HW⟩
 case round =>
  obtain⟨z,v',ds,rfl,hz,hz7,hds,hws,hwt⟩:=hrel;have hbl:=hwt.lt;have hdl:ds.length≤8:=by
   have:=congrArg List.length hds;simp [Zci] at this;omega
  have hlen:(l++ds).length≤100000000000:=by simp; omega
  have cc:=hwt.cell;have cf:=hwt.fz;by_cases hz0':0≤z
  ·
   have hds2:(ds++[Zj (n / 2 ^ (8*z.toNat))])++Dj n z.toNat=Dj n 1:=by
    rw [← hds,show(z+1).toNat=z.toNat+1 by omega];simp [Dj]
   have HDS:=Zc hds2;have HWS:=Zc hws;have HWT:=Zc hwt;have HM:=Zc (show ∃ m,m=l++ds from⟨_,rfl⟩);clear hds hws hwt hds2;obtain⟨m,hm⟩:=O HM;rw [← hm] at HWT hlen;have HM2:=Zc hm;clear hm HM;have hzs:z=0:=by omega
   clear hz hz7 hz0';subst hzs
   ·
    have eb:((Zj (n / 2 ^ (8*Int.toNat 0))).toNat:Int)=IntKind.u8.wrap n:=by
     rw [Sm];unfold Zj;simp
     omega
    have HEB:=Zc eb;have cc2:(wr.drew.alloc (.cells #[.int .u8 (IntKind.u8.wrap n)] 5)).cell? ⟨b,0,none⟩=some v':=(World.cell?_alloc_lt _ _ ⟨b,0,none⟩ hbl).trans cc;have cf2:(wr.drew.alloc (.cells #[.int .u8 (IntKind.u8.wrap n)] 5)).frozen? ⟨b,0,none⟩=false:=(World.frozen?_alloc_old _ _ ⟨b,0,none⟩ (by show b≠_; exact Nat.ne_of_lt hbl)).trans cf;clear eb;have hwr:IntKind.i64.wrap 0=0:=by decide
    go_wp2;go_region_law (refine Xf rfl (.tmp 28) (.tmp 34) 126 rfl (b+1) 5 ti _ 1 1 Tryz.underlying126 hti hz0 hz1 hz2 rfl (by decide) v' m.length (Gs m) (by simp [Act.eval]) (World.ownsRow.alloc (w:=wr.drew) (O HWT).row _) ⟨wr.heap.size,0,none⟩ 1 1 [.int .u8 (IntKind.u8.wrap n)] (by simp [Act.eval]) rfl (by intro j u hj; match j,hj with | 0,hj=>simp at hj; subst hj; simp [Addr.add]) (by intro u hu; simp at hu; subst hu; rfl) (by unfold maxLen; omega) (by omega) (by simp; omega) ?_; intro v2 w2 hown hgr; obtain⟨g2,cap2,rfl⟩:=Lu hown; have hblk:=hgr.block b (by simp; omega) (by intro e; have:=((World.ownsRow.alloc (w:=wr.drew) (O HWT).row (.cells #[.int .u8 (IntKind.u8.wrap n)] 5)).lt b e.symm).1; omega); have cu3:w2.cell? ⟨b,0,none⟩=some v':=(World.cell?_of_block hblk).trans cc2; have cf3:w2.frozen? ⟨b,0,none⟩=false:=(World.frozen?_of_block (a:=⟨b,0,none⟩) hblk).trans cf2; have HOWN:=Zc hown; have HGR:=Zc hgr; clear hown hgr hblk)
    all_goals go_wp2
    all_goals
     go_roundw
     case rel =>
      refine⟨-1,.slice (some ⟨g2,0,none⟩) (m.length+1) cap2,ds++[Zj (n / 2 ^ (8*Int.toNat 0))],by first | rfl | go_num,by omega,by omega,O HDS,Og (O HWS) hbl _ (O HWT).row (O HGR) _,?_⟩;rw [← List.append_assoc,← O HM2];exact Of cu3 cf3 (O HOWN) (O HEB)
     case measure=>simp [intOf]
  ·
   obtain rfl:z=-1:=by omega
   have h1:ds=Dj n 1:=by simpa [Dj] using hds
   subst h1;have HR:=Zc (show Mf op n=some (Dj n 1) by unfold Mf; rw [hW]; simp; omega);go_wp2;refine bodyPost_end (results_none (fn:=Tryz.f281) rfl _ _ _) rfl ?_;refine⟨hws,?_⟩;rw [O HR];exact⟨rfl,v',hwt⟩
theorem Zax (b:Nat)(v:Value)(l:List UInt8)(op n:Int)(w:World)(h:Wt w b v l)(hl:l.length≤99000000000) :
 Calls Tryz.prog 281 #[.pointer (some ⟨b,0,none⟩),.int .i64 op,.int .u64 n] w (Mh b l (Mf op n) w):=by
 by_cases hW:Xp op=1
 ·
  by_cases h255:n≤255
  ·
   exact Zmi b v l op n w h hl hW h255
  ·
   have HR:=Zc (show Mf op n=none by unfold Mf; rw [if_pos ⟨hW,by omega⟩]);clear h;go_enter Tryz.func281,Tryz.ntmps281
   go_wp2_with fail
   refine(Cc _ _).mono ?_;rintro e w' ⟨rfl,rfl⟩;rw [hW];go_wp2_with fail
   refine(Lt _ _).mono ?_;rintro e w'' ⟨rfl,hw⟩;subst w'';refine⟨rfl,Ws.refl _ _,?_⟩;rw [O HR]
 ·
  have h8:Xp op=8:=by unfold Xp at hW ⊢; split <;> simp_all
  exact Zmh b v l op n w h hl h8
end Go.Proofs.YtedemloocadimaaGreatDoor
