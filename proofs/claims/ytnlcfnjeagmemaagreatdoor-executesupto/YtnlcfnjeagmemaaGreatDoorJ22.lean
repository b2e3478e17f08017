import Derived.Test.YtnlcfnjeagmemaaGreatDoorExZ
import Derived.Test.YtnlcfnjeagmemaaGreatDoorJ19
import Derived.Test.YtnlcfnjeagmemaaGreatDoorJ20
import Derived.Test.YtnlcfnjeagmemaaGreatDoorJ3
namespace Go.Proofs.YtnlcfnjeagmemaaGreatDoor
open Go.RowKit
set_option maxHeartbeats 4000000
set_option maxRecDepth 100000
section
variable {w:World} {A B N:Nat} {G:Xn} {mb sb:Nat} {m:Zf}
theorem Zor (h:MR w A B N G mb sb m)(C:Zk)(hc:Gi w A G.cf C.funcs)(f at_:Nat)(o r a b n wd f9:Int)(hf:m.f=f)(ha:m.at_=at_)(hfl2:f<C.funcs.length)(hi:Zv C m=⟨o,r,a,b,n,wd,f9⟩)
 (hkn:∀ V,MR V A B N G mb sb m→Below w.heap.size w V→Calls Tryz.prog 114 #[.pointer (some ⟨mb,0,none⟩),.agg #[.int .i64 o,.int .i64 r,.int .i64 a,.int .i64 b,.int .i64 n,.int .i64 wd,.int .i64 f9]] V fun e w'=>e=.returned (.bool false)∧Below V.heap.size V w') :
 Calls Tryz.prog 82 #[.pointer (some ⟨mb,0,none⟩)] w fun e w'=>(∃ v,e=.returned v)∧MR w' A B N G mb sb (m.fault 1)∧Kx w.heap.size mb sb w w':=by
 have HM:=Y h;have HF:=Y (Zfc h C hc f at_ hf ha hfl2);rw [hi] at HF;have HF2:Hid (Calls Tryz.prog 113 #[.pointer (some ⟨mb,0,none⟩)] w fun e w'=>e=.returned (.agg #[.int .i64 o,.int .i64 r,.int .i64 a,.int .i64 b,.int .i64 n,.int .i64 wd,.int .i64 f9])∧Below w.heap.size w w'):=HF;have HK:=Y hkn;clear h hc HF hf ha hi hkn;go_enter Tryz.func82,Tryz.ntmps82
 go_wp2_with fail
 refine(O HF2).mono ?_;rintro e w1 ⟨rfl,hb1⟩;obtain⟨r2,hb2,hz2⟩:=Zs w1 (.cells #[.int .i64 o,.int .i64 r,.int .i64 a,.int .i64 b,.int .i64 n,.int .i64 wd,.int .i64 f9] 103 (0,0));have hb12:=Zb hb1 hb2 hb1.size;have HM2:=Y ((O HM).bel hb12);have HB2:=Y hb12;have HKN:=Y (O HK _ ((O HM).bel hb12) hb12);clear hb1 r2 hb2 hz2 hb12 HF2 HM HK;go_wp2_with fail
 generalize World.alloc w1 _=W2 at HM2 HB2 HKN ⊢;refine(O HKN).mono ?_;rintro e w3 ⟨rfl,hb3⟩;have HM3:=Y ((O HM2).bel hb3);have HB3:=Y (Zb (O HB2) hb3 (O HB2).size);clear hb3 HKN;go_wp2_with fail
 refine(Ri (O HM3) 1).mono ?_;rintro e w4 ⟨⟨v4,rfl⟩,h4,x4⟩;have H4:=Y h4;have X4:=Y ((Gh (a:=mb) (b:=sb) (O HB3)).tr (x4.low (O HB3).size));clear h4 x4;go_wp2;go_returns;exact⟨⟨_,rfl⟩,O H4,O X4⟩
end
set_option maxHeartbeats 4000000
set_option maxRecDepth 100000
structure FX (w0:World)(A B L:Nat)(G:Xn)(mb sb:Nat)(C:Zk)(own:Yc):Prop where
 z:w0.heap.size=B
 tk:TK G.T
 cod:Gi w0 A G.cf C.funcs
 dv:∀ k,k<22→G.D k=dVs.getD k .nilFunc
 gn:∀ k,k<22→w0.cell? ⟨1,k,none⟩=some (.int .i64 (nmL.getD k 0))
 ga:1<A
 ss:Lj w0 A (.slice G.T.ps G.T.ss.length G.T.cs) G.T.ss
 nu:∃ rr ck es,G.nu=.map (some rr)∧w0.heap[rr]?=some (.map es ck)∧MpE (Zg C) es.toList 1∧rr≠mb∧rr≠sb
 be:∃ LB,w0.ownsRow LB 138 3 G.be (Zg C).length (Nt (Zg C))
 bne:∀ g,G.be.ownBlock=some g→g≠mb∧g≠sb
 bl:(Zg C).length<4611686018427387904
 oth:Ca w0 L G.T G.oth C.externs
 ex:Na w0 A G.ce C.externs
 sg:∀ s ∈ C.externs,Mt s
 mL:mb<L
 sL:sb<L
 or_:Gt w0 L G.or_ own.res
 rs:∀ p ∈ own.res,PlK G.T own.size p
 r4:own.res.length≤4
structure SX (w0 w:World)(A B N L:Nat)(G:Xn)(mb sb:Nat)(C:Zk)(own:Yc)(q:Nat)(m:Zf):Prop where
 F:FX w0 A B L G mb sb C own
 h:MR w A B N G mb sb m
 k0:Kx B mb sb w0 w
 iv:Nm C q 1 m
 hq:q≤4194304
theorem Zrm {w:World}{A:Nat}{v:Value}{C:Zk}(h:Gi w A v C.funcs)(m:Zf):(Di C m).length<4611686018427387904:=by
 unfold Di;split
 ·
  obtain⟨V,⟨p,c,-,-,h3,h4⟩,h5⟩:=h;by_cases hf:m.f.toNat<C.funcs.length
  ·
   obtain⟨U,-,hU⟩:=h5 _ hf;by_cases hb:m.bk.toNat<(C.funcs.getD m.f.toNat []).length
   ·
    obtain⟨p',c',-,-,h6,-⟩:=hU _ hb;exact h6
   ·
    rw [show(C.funcs.getD m.f.toNat []).getD m.bk.toNat []=[] by rw [List.getD_eq_getElem?_getD,List.getElem?_eq_none (by omega)]; rfl];decide
  ·
   rw [show C.funcs.getD m.f.toNat []=[] by rw [List.getD_eq_getElem?_getD,List.getElem?_eq_none (by omega)]; rfl];simp
 ·
  decide
theorem Zls (T:Zm)(C:Zk)(own:Yc)(was:Nat→Int)(m:Zf)(i:Zt)(h1:3≤i.op)(h2:i.op≤9):Xo T C own was m i=(m.setR T i.r.toNat (Lr i.op (m.rg i.a.toNat) (m.rg i.b.toNat))).1:=by
 unfold Xo;rw [if_neg (by omega),if_neg (by omega),if_pos ⟨h1,h2⟩]
section
variable {w0 w:World} {A B N L:Nat} {G:Xn} {mb sb:Nat} {C:Zk} {own:Yc} {q:Nat} {m:Zf}
theorem SX.at_ (S:SX w0 w A B N L G mb sb C own q m):∃ f a:Nat,m.f=f∧m.at_=a∧f<C.funcs.length∧a<4611686018427387904:=by
 have h1:=S.iv.f;have h2:=S.iv.a;have h3:=Zrm S.F.cod m;exact⟨m.f.toNat,m.at_.toNat,by omega,by omega,by omega,by omega⟩
theorem SX.ab (S:SX w0 w A B N L G mb sb C own q m):A≤B∧A≤mb∧A≤sb∧B≤w.heap.size∧mb<B∧sb<B:=by
 have:=S.h.bd;omega
theorem SX.cod (S:SX w0 w A B N L G mb sb C own q m):Gi w A G.cf C.funcs:=S.F.cod.kx S.k0 S.ab.1 S.ab.2.1 S.ab.2.2.1
theorem SX.gn (S:SX w0 w A B N L G mb sb C own q m)(k:Nat)(hk:k<22):w.cell? ⟨1,k,none⟩=some (.int .i64 (nmL.getD k 0)):=by
 have:=S.ab;have:=S.F.ga;exact(Yp (S.k0.oth _ (by omega) (by omega) (by omega))).trans (S.F.gn k hk)
theorem SX.kv (S:SX w0 w A B N L G mb sb C own q m){V:World}(k:Kx w.heap.size mb sb w V):Kx B mb sb w0 V:=S.k0.tr (k.low S.ab.2.2.2.1)
theorem Ms (C:Zk)(own:Yc)(m:Zf)(i:Zt)(hi:Zv C m=i)(hk:Jq G.T i=true):Yb G.T C own G.Z m=Xo G.T C own G.Z { m with at_:=m.at_+1 } i:=by
 unfold Yb;rw [hi,if_pos hk]
theorem Mh (T:Zm)(k:Nat)(h1:1≤k)(h2:k≤21)(r a b n wd f9:Int)(nk:Nat)(hn:Xc (k:Int)=nk)(h:(([r,a,b].take nk).all fun x=>Gr x T.r)=true):Jq T ⟨k,r,a,b,n,wd,f9⟩=true:=by
 unfold Jq;simp only [hn];rw [Bool.and_eq_true];exact⟨decide_eq_true (by omega),h⟩
theorem ix1 {r n:Int}(h:Gr r n=true)(hn:n≤16):∃ k:Nat,r=k∧k<16:=by
 have:=of_decide_eq_true h;exact⟨r.toNat,by omega,by omega⟩
theorem Zxo (S:SX w0 w A B N L G mb sb C own q m)(r a b n wd f9:Int)(hi:Zv C m=⟨((1:Nat):Int),r,a,b,n,wd,f9⟩)(hkn:(([r,a,b].take 1).all fun x=>Gr x G.T.r)=true):Calls Tryz.prog 82 #[.pointer (some ⟨mb,0,none⟩)] w fun e w'=>(∃ v,e=.returned v)∧(∃ N',MR w' A B N' G mb sb (Yb G.T C own G.Z m))∧Kx B mb sb w w':=by
 obtain⟨f,at_,hf,ha9,hfl,hat⟩:=S.at_;have hnm:Xc ((1:Nat):Int)=1:=by decide
 have hst:=Ms (G:=G) C own m _ hi (Mh G.T 1 (by omega) (by omega) r a b n wd f9 1 hnm hkn);have hr16:=S.F.tk.r16;obtain⟨r',rfl,hr⟩:=ix1 (r:=r) (n:=G.T.r) (by simp at hkn; first | exact hkn | exact hkn.1) hr16;refine Xp 91 S.h C S.cod f at_ 1 1 _ _ _ n wd f9 hf ha9 hfl hat hi (by omega) (by rw [S.F.dv 1 (by omega)]; rfl) (by rw [S.gn 1 (by omega)]; rfl) (by decide) hkn (fun w'=>(∃ N',MR w' A B N' G mb sb (Yb G.T C own G.Z m))∧Kx B mb sb w w') (fun V hV kx=>?_);have hab:=S.ab;have kv:=S.kv kx;refine(Zzx hV S.F.tk _ a b n wd f9 r' hr).mono ?_;rintro e w' ⟨he,h',x'⟩;refine⟨he,?_,(kx.low hab.2.2.2.1).tr (x'.low (by have:=kx.size; omega))⟩;rw [hst];exact⟨_,h'⟩
theorem Zuu (S:SX w0 w A B N L G mb sb C own q m)(r a b n wd f9:Int)(hi:Zv C m=⟨((2:Nat):Int),r,a,b,n,wd,f9⟩)(hkn:(([r,a,b].take 2).all fun x=>Gr x G.T.r)=true):Calls Tryz.prog 82 #[.pointer (some ⟨mb,0,none⟩)] w fun e w'=>(∃ v,e=.returned v)∧(∃ N',MR w' A B N' G mb sb (Yb G.T C own G.Z m))∧Kx B mb sb w w':=by
 obtain⟨f,at_,hf,ha9,hfl,hat⟩:=S.at_;have hnm:Xc ((2:Nat):Int)=2:=by decide
 have hst:=Ms (G:=G) C own m _ hi (Mh G.T 2 (by omega) (by omega) r a b n wd f9 2 hnm hkn);have hr16:=S.F.tk.r16;obtain⟨r',rfl,hr⟩:=ix1 (r:=r) (n:=G.T.r) (by simp at hkn; first | exact hkn | exact hkn.1) hr16;obtain⟨a',rfl,ha⟩:=ix1 (r:=a) (n:=G.T.r) (by simp at hkn; exact hkn.2) hr16;refine Xp 92 S.h C S.cod f at_ 2 2 _ _ _ n wd f9 hf ha9 hfl hat hi (by omega) (by rw [S.F.dv 2 (by omega)]; rfl) (by rw [S.gn 2 (by omega)]; rfl) (by decide) hkn (fun w'=>(∃ N',MR w' A B N' G mb sb (Yb G.T C own G.Z m))∧Kx B mb sb w w') (fun V hV kx=>?_);have hab:=S.ab;have kv:=S.kv kx;refine(Zxx hV S.F.tk _ b n wd f9 r' hr a' ha).mono ?_;rintro e w' ⟨he,h',x'⟩;refine⟨he,?_,(kx.low hab.2.2.2.1).tr (x'.low (by have:=kx.size; omega))⟩;rw [hst];exact⟨_,h'⟩
theorem Lp (S:SX w0 w A B N L G mb sb C own q m)(k:Nat)(h3:3≤k)(h9:k≤9)(r a b n wd f9:Int)(hi:Zv C m=⟨((k:Nat):Int),r,a,b,n,wd,f9⟩)(hkn:(([r,a,b].take 3).all fun x=>Gr x G.T.r)=true):Calls Tryz.prog 82 #[.pointer (some ⟨mb,0,none⟩)] w fun e w'=>(∃ v,e=.returned v)∧(∃ N',MR w' A B N' G mb sb (Yb G.T C own G.Z m))∧Kx B mb sb w w':=by
 obtain⟨f,at_,hf,ha9,hfl,hat⟩:=S.at_;have hnm:Xc ((k:Nat):Int)=3:=by unfold Xc; rw [if_neg (by omega),if_neg (by omega),if_pos (by omega)]
 have hst:=Ms (G:=G) C own m _ hi (Mh G.T k (by omega) (by omega) r a b n wd f9 3 hnm hkn);have hr16:=S.F.tk.r16;obtain⟨r',rfl,hr⟩:=ix1 (r:=r) (n:=G.T.r) (by simp at hkn; first | exact hkn | exact hkn.1) hr16;obtain⟨a',rfl,ha⟩:=ix1 (r:=a) (n:=G.T.r) (by simp at hkn; exact hkn.2.1) hr16;obtain⟨b',rfl,hb⟩:=ix1 (r:=b) (n:=G.T.r) (by simp at hkn; exact hkn.2.2) hr16;refine Xp 93 S.h C S.cod f at_ k 3 _ _ _ n wd f9 hf ha9 hfl hat hi (by omega) (by rw [S.F.dv k (by omega)]; match k,h3,h9 with | 3,_,_=>rfl | 4,_,_=>rfl | 5,_,_=>rfl | 6,_,_=>rfl | 7,_,_=>rfl | 8,_,_=>rfl | 9,_,_=>rfl) (by rw [S.gn k (by omega)]; match k,h3,h9 with | 3,_,_=>rfl | 4,_,_=>rfl | 5,_,_=>rfl | 6,_,_=>rfl | 7,_,_=>rfl | 8,_,_=>rfl | 9,_,_=>rfl) (by decide) hkn (fun w'=>(∃ N',MR w' A B N' G mb sb (Yb G.T C own G.Z m))∧Kx B mb sb w w') (fun V hV kx=>?_);have hab:=S.ab;have kv:=S.kv kx;refine(Zof hV S.F.tk _ n wd f9 r' hr a' ha b' hb).mono ?_;rintro e w' ⟨he,h',x'⟩;refine⟨he,?_,(kx.low hab.2.2.2.1).tr (x'.low (by have:=kx.size; omega))⟩;rw [hst];rw [Zls _ _ _ _ _ _ (show 3≤((k:Nat):Int) by omega) (show((k:Nat):Int)≤9 by omega)];exact⟨_,h'⟩
theorem Zxp (S:SX w0 w A B N L G mb sb C own q m)(r a b n wd f9:Int)(hi:Zv C m=⟨((10:Nat):Int),r,a,b,n,wd,f9⟩)(hkn:(([r,a,b].take 1).all fun x=>Gr x G.T.r)=true):Calls Tryz.prog 82 #[.pointer (some ⟨mb,0,none⟩)] w fun e w'=>(∃ v,e=.returned v)∧(∃ N',MR w' A B N' G mb sb (Yb G.T C own G.Z m))∧Kx B mb sb w w':=by
 obtain⟨f,at_,hf,ha9,hfl,hat⟩:=S.at_;have hnm:Xc ((10:Nat):Int)=1:=by decide
 have hst:=Ms (G:=G) C own m _ hi (Mh G.T 10 (by omega) (by omega) r a b n wd f9 1 hnm hkn);have hr16:=S.F.tk.r16;obtain⟨r',rfl,hr⟩:=ix1 (r:=r) (n:=G.T.r) (by simp at hkn; first | exact hkn | exact hkn.1) hr16;refine Xp 94 S.h C S.cod f at_ 10 1 _ _ _ n wd f9 hf ha9 hfl hat hi (by omega) (by rw [S.F.dv 10 (by omega)]; rfl) (by rw [S.gn 10 (by omega)]; rfl) (by decide) hkn (fun w'=>(∃ N',MR w' A B N' G mb sb (Yb G.T C own G.Z m))∧Kx B mb sb w w') (fun V hV kx=>?_);have hab:=S.ab;have kv:=S.kv kx;refine(Zzy hV S.F.tk _ a b n wd f9 r' hr).mono ?_;rintro e w' ⟨he,h',x'⟩;refine⟨he,?_,(kx.low hab.2.2.2.1).tr (x'.low (by have:=kx.size; omega))⟩;rw [hst];exact⟨_,h'⟩
theorem Zxq (S:SX w0 w A B N L G mb sb C own q m)(r a b n wd f9:Int)(hi:Zv C m=⟨((11:Nat):Int),r,a,b,n,wd,f9⟩)(hkn:(([r,a,b].take 1).all fun x=>Gr x G.T.r)=true):Calls Tryz.prog 82 #[.pointer (some ⟨mb,0,none⟩)] w fun e w'=>(∃ v,e=.returned v)∧(∃ N',MR w' A B N' G mb sb (Yb G.T C own G.Z m))∧Kx B mb sb w w':=by
 obtain⟨f,at_,hf,ha9,hfl,hat⟩:=S.at_;have hnm:Xc ((11:Nat):Int)=1:=by decide
 have hst:=Ms (G:=G) C own m _ hi (Mh G.T 11 (by omega) (by omega) r a b n wd f9 1 hnm hkn);have hr16:=S.F.tk.r16;obtain⟨r',rfl,hr⟩:=ix1 (r:=r) (n:=G.T.r) (by simp at hkn; first | exact hkn | exact hkn.1) hr16;refine Xp 95 S.h C S.cod f at_ 11 1 _ _ _ n wd f9 hf ha9 hfl hat hi (by omega) (by rw [S.F.dv 11 (by omega)]; rfl) (by rw [S.gn 11 (by omega)]; rfl) (by decide) hkn (fun w'=>(∃ N',MR w' A B N' G mb sb (Yb G.T C own G.Z m))∧Kx B mb sb w w') (fun V hV kx=>?_);have hab:=S.ab;have kv:=S.kv kx;refine(Zzz hV S.F.tk _ a b n wd f9 r' hr).mono ?_;rintro e w' ⟨he,h',x'⟩;refine⟨he,?_,(kx.low hab.2.2.2.1).tr (x'.low (by have:=kx.size; omega))⟩;rw [hst];exact⟨_,h'⟩
theorem Zuv (S:SX w0 w A B N L G mb sb C own q m)(r a b n wd f9:Int)(hi:Zv C m=⟨((12:Nat):Int),r,a,b,n,wd,f9⟩)(hkn:(([r,a,b].take 2).all fun x=>Gr x G.T.r)=true):Calls Tryz.prog 82 #[.pointer (some ⟨mb,0,none⟩)] w fun e w'=>(∃ v,e=.returned v)∧(∃ N',MR w' A B N' G mb sb (Yb G.T C own G.Z m))∧Kx B mb sb w w':=by
 obtain⟨f,at_,hf,ha9,hfl,hat⟩:=S.at_;have hnm:Xc ((12:Nat):Int)=2:=by decide
 have hst:=Ms (G:=G) C own m _ hi (Mh G.T 12 (by omega) (by omega) r a b n wd f9 2 hnm hkn);have hr16:=S.F.tk.r16;obtain⟨r',rfl,hr⟩:=ix1 (r:=r) (n:=G.T.r) (by simp at hkn; first | exact hkn | exact hkn.1) hr16;obtain⟨a',rfl,ha⟩:=ix1 (r:=a) (n:=G.T.r) (by simp at hkn; exact hkn.2) hr16;refine Xp 96 S.h C S.cod f at_ 12 2 _ _ _ n wd f9 hf ha9 hfl hat hi (by omega) (by rw [S.F.dv 12 (by omega)]; rfl) (by rw [S.gn 12 (by omega)]; rfl) (by decide) hkn (fun w'=>(∃ N',MR w' A B N' G mb sb (Yb G.T C own G.Z m))∧Kx B mb sb w w') (fun V hV kx=>?_);have hab:=S.ab;have kv:=S.kv kx;refine(Zxy hV S.F.tk _ b n wd f9 r' hr a' ha).mono ?_;rintro e w' ⟨he,h',x'⟩;refine⟨he,?_,(kx.low hab.2.2.2.1).tr (x'.low (by have:=kx.size; omega))⟩;rw [hst];exact⟨_,h'⟩
theorem Zuw (S:SX w0 w A B N L G mb sb C own q m)(r a b n wd f9:Int)(hi:Zv C m=⟨((13:Nat):Int),r,a,b,n,wd,f9⟩)(hkn:(([r,a,b].take 1).all fun x=>Gr x G.T.r)=true):Calls Tryz.prog 82 #[.pointer (some ⟨mb,0,none⟩)] w fun e w'=>(∃ v,e=.returned v)∧(∃ N',MR w' A B N' G mb sb (Yb G.T C own G.Z m))∧Kx B mb sb w w':=by
 obtain⟨f,at_,hf,ha9,hfl,hat⟩:=S.at_;have hnm:Xc ((13:Nat):Int)=1:=by decide
 have hst:=Ms (G:=G) C own m _ hi (Mh G.T 13 (by omega) (by omega) r a b n wd f9 1 hnm hkn);have hr16:=S.F.tk.r16;obtain⟨r',rfl,hr⟩:=ix1 (r:=r) (n:=G.T.r) (by simp at hkn; first | exact hkn | exact hkn.1) hr16;refine Xp 97 S.h C S.cod f at_ 13 1 _ _ _ n wd f9 hf ha9 hfl hat hi (by omega) (by rw [S.F.dv 13 (by omega)]; rfl) (by rw [S.gn 13 (by omega)]; rfl) (by decide) hkn (fun w'=>(∃ N',MR w' A B N' G mb sb (Yb G.T C own G.Z m))∧Kx B mb sb w w') (fun V hV kx=>?_);have hab:=S.ab;have kv:=S.kv kx;refine(Zxz hV S.F.tk _ a b n wd f9 r' hr).mono ?_;rintro e w' ⟨he,h',x'⟩;refine⟨he,?_,(kx.low hab.2.2.2.1).tr (x'.low (by have:=kx.size; omega))⟩;rw [hst];exact⟨_,h'⟩
theorem Zlt (S:SX w0 w A B N L G mb sb C own q m)(r a b n wd f9:Int)(hi:Zv C m=⟨((14:Nat):Int),r,a,b,n,wd,f9⟩)(hkn:(([r,a,b].take 0).all fun x=>Gr x G.T.r)=true):Calls Tryz.prog 82 #[.pointer (some ⟨mb,0,none⟩)] w fun e w'=>(∃ v,e=.returned v)∧(∃ N',MR w' A B N' G mb sb (Yb G.T C own G.Z m))∧Kx B mb sb w w':=by
 obtain⟨f,at_,hf,ha9,hfl,hat⟩:=S.at_;have hnm:Xc ((14:Nat):Int)=0:=by decide
 have hst:=Ms (G:=G) C own m _ hi (Mh G.T 14 (by omega) (by omega) r a b n wd f9 0 hnm hkn);have hr16:=S.F.tk.r16;refine Xp 98 S.h C S.cod f at_ 14 0 _ _ _ n wd f9 hf ha9 hfl hat hi (by omega) (by rw [S.F.dv 14 (by omega)]; rfl) (by rw [S.gn 14 (by omega)]; rfl) (by decide) hkn (fun w'=>(∃ N',MR w' A B N' G mb sb (Yb G.T C own G.Z m))∧Kx B mb sb w w') (fun V hV kx=>?_);have hab:=S.ab;have kv:=S.kv kx;refine(Zog hV S.F.tk _ r a b n wd f9).mono ?_;rintro e w' ⟨he,h',x'⟩;refine⟨he,?_,(kx.low hab.2.2.2.1).tr (x'.low (by have:=kx.size; omega))⟩;rw [hst];exact⟨_,h'⟩
theorem Zep (S:SX w0 w A B N L G mb sb C own q m)(r a b n wd f9:Int)(hi:Zv C m=⟨((15:Nat):Int),r,a,b,n,wd,f9⟩)(hkn:(([r,a,b].take 0).all fun x=>Gr x G.T.r)=true):Calls Tryz.prog 82 #[.pointer (some ⟨mb,0,none⟩)] w fun e w'=>(∃ v,e=.returned v)∧(∃ N',MR w' A B N' G mb sb (Yb G.T C own G.Z m))∧Kx B mb sb w w':=by
 obtain⟨f,at_,hf,ha9,hfl,hat⟩:=S.at_;have hnm:Xc ((15:Nat):Int)=0:=by decide
 have hst:=Ms (G:=G) C own m _ hi (Mh G.T 15 (by omega) (by omega) r a b n wd f9 0 hnm hkn);have hr16:=S.F.tk.r16;refine Xp 99 S.h C S.cod f at_ 15 0 _ _ _ n wd f9 hf ha9 hfl hat hi (by omega) (by rw [S.F.dv 15 (by omega)]; rfl) (by rw [S.gn 15 (by omega)]; rfl) (by decide) hkn (fun w'=>(∃ N',MR w' A B N' G mb sb (Yb G.T C own G.Z m))∧Kx B mb sb w w') (fun V hV kx=>?_);have hab:=S.ab;have kv:=S.kv kx;obtain⟨V0,⟨fp,fc,hcf,-⟩,-⟩:=S.F.cod;obtain⟨rr,ck,es,hnu,hmp,hpe,hr1,hr2⟩:=S.F.nu;have hrl:rr<w0.heap.size:=by
  rcases Nat.lt_or_ge rr w0.heap.size with h | h
  ·
   exact h
  ·
   rw [Array.getElem?_eq_none h] at hmp; cases hmp
 refine(Zhw hV S.F.tk _ r a b n wd f9 C.funcs.length fc fp hcf rr ck es (Zg C) hnu ((kv.oth rr (by have:=S.F.z; omega) hr1 hr2).trans hmp) hpe S.F.bl).mono ?_;rintro e w' ⟨he,h',x'⟩;refine⟨he,?_,(kx.low hab.2.2.2.1).tr (x'.low (by have:=kx.size; omega))⟩;rw [hst];exact⟨_,h'⟩
theorem Zux (S:SX w0 w A B N L G mb sb C own q m)(r a b n wd f9:Int)(hi:Zv C m=⟨((16:Nat):Int),r,a,b,n,wd,f9⟩)(hkn:(([r,a,b].take 0).all fun x=>Gr x G.T.r)=true):Calls Tryz.prog 82 #[.pointer (some ⟨mb,0,none⟩)] w fun e w'=>(∃ v,e=.returned v)∧(∃ N',MR w' A B N' G mb sb (Yb G.T C own G.Z m))∧Kx B mb sb w w':=by
 obtain⟨f,at_,hf,ha9,hfl,hat⟩:=S.at_;have hnm:Xc ((16:Nat):Int)=0:=by decide
 have hst:=Ms (G:=G) C own m _ hi (Mh G.T 16 (by omega) (by omega) r a b n wd f9 0 hnm hkn);have hr16:=S.F.tk.r16;refine Xp 100 S.h C S.cod f at_ 16 0 _ _ _ n wd f9 hf ha9 hfl hat hi (by omega) (by rw [S.F.dv 16 (by omega)]; rfl) (by rw [S.gn 16 (by omega)]; rfl) (by decide) hkn (fun w'=>(∃ N',MR w' A B N' G mb sb (Yb G.T C own G.Z m))∧Kx B mb sb w w') (fun V hV kx=>?_);have hab:=S.ab;have kv:=S.kv kx;have hiv:=Zkn S.iv (T:=G.T) (by rw [hi]; exact Mh G.T 16 (by omega) (by omega) r a b n wd f9 0 hnm hkn);refine(Zvp hV S.F.tk (Gy S.F.ss kv (by omega) (by omega) (by omega)) C w0 S.F.z kv L S.F.mL S.F.sL S.F.oth S.F.ex S.F.sg q hiv S.hq _ r a b n wd f9).mono ?_;rintro e w' ⟨he,h',x'⟩;refine⟨he,?_,(kx.low hab.2.2.2.1).tr x'⟩;rw [hst];exact h'
theorem Zrn (S:SX w0 w A B N L G mb sb C own q m)(r a b n wd f9:Int)(hi:Zv C m=⟨((17:Nat):Int),r,a,b,n,wd,f9⟩)(hkn:(([r,a,b].take 0).all fun x=>Gr x G.T.r)=true):Calls Tryz.prog 82 #[.pointer (some ⟨mb,0,none⟩)] w fun e w'=>(∃ v,e=.returned v)∧(∃ N',MR w' A B N' G mb sb (Yb G.T C own G.Z m))∧Kx B mb sb w w':=by
 obtain⟨f,at_,hf,ha9,hfl,hat⟩:=S.at_;have hnm:Xc ((17:Nat):Int)=0:=by decide
 have hst:=Ms (G:=G) C own m _ hi (Mh G.T 17 (by omega) (by omega) r a b n wd f9 0 hnm hkn);have hr16:=S.F.tk.r16;refine Xp 101 S.h C S.cod f at_ 17 0 _ _ _ n wd f9 hf ha9 hfl hat hi (by omega) (by rw [S.F.dv 17 (by omega)]; rfl) (by rw [S.gn 17 (by omega)]; rfl) (by decide) hkn (fun w'=>(∃ N',MR w' A B N' G mb sb (Yb G.T C own G.Z m))∧Kx B mb sb w w') (fun V hV kx=>?_);have hab:=S.ab;have kv:=S.kv kx;refine(Zvj hV _ r a b n wd f9).mono ?_;rintro e w' ⟨he,h',x'⟩;refine⟨he,?_,(kx.low hab.2.2.2.1).tr (x'.low (by have:=kx.size; omega))⟩;rw [hst];exact⟨_,h'⟩
theorem Zro (S:SX w0 w A B N L G mb sb C own q m)(r a b n wd f9:Int)(hi:Zv C m=⟨((18:Nat):Int),r,a,b,n,wd,f9⟩)(hkn:(([r,a,b].take 1).all fun x=>Gr x G.T.r)=true):Calls Tryz.prog 82 #[.pointer (some ⟨mb,0,none⟩)] w fun e w'=>(∃ v,e=.returned v)∧(∃ N',MR w' A B N' G mb sb (Yb G.T C own G.Z m))∧Kx B mb sb w w':=by
 obtain⟨f,at_,hf,ha9,hfl,hat⟩:=S.at_;have hnm:Xc ((18:Nat):Int)=1:=by decide
 have hst:=Ms (G:=G) C own m _ hi (Mh G.T 18 (by omega) (by omega) r a b n wd f9 1 hnm hkn);have hr16:=S.F.tk.r16;obtain⟨r',rfl,hr⟩:=ix1 (r:=r) (n:=G.T.r) (by simp at hkn; first | exact hkn | exact hkn.1) hr16;refine Xp 102 S.h C S.cod f at_ 18 1 _ _ _ n wd f9 hf ha9 hfl hat hi (by omega) (by rw [S.F.dv 18 (by omega)]; rfl) (by rw [S.gn 18 (by omega)]; rfl) (by decide) hkn (fun w'=>(∃ N',MR w' A B N' G mb sb (Yb G.T C own G.Z m))∧Kx B mb sb w w') (fun V hV kx=>?_);have hab:=S.ab;have kv:=S.kv kx;refine(Zvk hV _ a b n wd f9 r' hr).mono ?_;rintro e w' ⟨he,h',x'⟩;refine⟨he,?_,(kx.low hab.2.2.2.1).tr (x'.low (by have:=kx.size; omega))⟩;rw [hst];exact⟨_,h'⟩
theorem Zuy (S:SX w0 w A B N L G mb sb C own q m)(r a b n wd f9:Int)(hi:Zv C m=⟨((19:Nat):Int),r,a,b,n,wd,f9⟩)(hkn:(([r,a,b].take 0).all fun x=>Gr x G.T.r)=true):Calls Tryz.prog 82 #[.pointer (some ⟨mb,0,none⟩)] w fun e w'=>(∃ v,e=.returned v)∧(∃ N',MR w' A B N' G mb sb (Yb G.T C own G.Z m))∧Kx B mb sb w w':=by
 obtain⟨f,at_,hf,ha9,hfl,hat⟩:=S.at_;have hnm:Xc ((19:Nat):Int)=0:=by decide
 have hst:=Ms (G:=G) C own m _ hi (Mh G.T 19 (by omega) (by omega) r a b n wd f9 0 hnm hkn);have hr16:=S.F.tk.r16;refine Xp 103 S.h C S.cod f at_ 19 0 _ _ _ n wd f9 hf ha9 hfl hat hi (by omega) (by rw [S.F.dv 19 (by omega)]; rfl) (by rw [S.gn 19 (by omega)]; rfl) (by decide) hkn (fun w'=>(∃ N',MR w' A B N' G mb sb (Yb G.T C own G.Z m))∧Kx B mb sb w w') (fun V hV kx=>?_);have hab:=S.ab;have kv:=S.kv kx;obtain⟨LB,hbe⟩:=S.F.be;have hzz:=S.F.z;refine(Zya hV S.F.tk (Gy S.F.ss kv (by omega) (by omega) (by omega)) own L (Xi S.F.or_ kv (fun g hg=>by have:=(S.F.or_.lt g hg).2; omega) S.F.mL S.F.sL) S.F.mL S.F.sL S.F.rs S.F.r4 C LB (Yn hbe fun g hg=>kv.oth g (by have:=(hbe.lt g hg).2; omega) (S.F.bne g hg).1 (S.F.bne g hg).2) S.F.bl _ r a b n wd f9).mono ?_;rintro e w' ⟨he,h',x'⟩;refine⟨he,?_,(kx.low hab.2.2.2.1).tr (x'.low (by have:=kx.size; omega))⟩;rw [hst];exact h'
theorem Zrp (S:SX w0 w A B N L G mb sb C own q m)(r a b n wd f9:Int)(hi:Zv C m=⟨((20:Nat):Int),r,a,b,n,wd,f9⟩)(hkn:(([r,a,b].take 0).all fun x=>Gr x G.T.r)=true):Calls Tryz.prog 82 #[.pointer (some ⟨mb,0,none⟩)] w fun e w'=>(∃ v,e=.returned v)∧(∃ N',MR w' A B N' G mb sb (Yb G.T C own G.Z m))∧Kx B mb sb w w':=by
 obtain⟨f,at_,hf,ha9,hfl,hat⟩:=S.at_;have hnm:Xc ((20:Nat):Int)=0:=by decide
 have hst:=Ms (G:=G) C own m _ hi (Mh G.T 20 (by omega) (by omega) r a b n wd f9 0 hnm hkn);have hr16:=S.F.tk.r16;refine Xp 104 S.h C S.cod f at_ 20 0 _ _ _ n wd f9 hf ha9 hfl hat hi (by omega) (by rw [S.F.dv 20 (by omega)]; rfl) (by rw [S.gn 20 (by omega)]; rfl) (by decide) hkn (fun w'=>(∃ N',MR w' A B N' G mb sb (Yb G.T C own G.Z m))∧Kx B mb sb w w') (fun V hV kx=>?_);have hab:=S.ab;have kv:=S.kv kx;obtain⟨V0,⟨fp,fc,hcf,-⟩,-⟩:=S.F.cod;refine(Zvl hV _ r a b n wd f9 C.funcs.length fc fp hcf).mono ?_;rintro e w' ⟨he,h',x'⟩;refine⟨he,?_,(kx.low hab.2.2.2.1).tr (x'.low (by have:=kx.size; omega))⟩;rw [hst];exact⟨_,h'⟩
theorem Zrq (S:SX w0 w A B N L G mb sb C own q m)(r a b n wd f9:Int)(hi:Zv C m=⟨((21:Nat):Int),r,a,b,n,wd,f9⟩)(hkn:(([r,a,b].take 0).all fun x=>Gr x G.T.r)=true):Calls Tryz.prog 82 #[.pointer (some ⟨mb,0,none⟩)] w fun e w'=>(∃ v,e=.returned v)∧(∃ N',MR w' A B N' G mb sb (Yb G.T C own G.Z m))∧Kx B mb sb w w':=by
 obtain⟨f,at_,hf,ha9,hfl,hat⟩:=S.at_;have hnm:Xc ((21:Nat):Int)=0:=by decide
 have hst:=Ms (G:=G) C own m _ hi (Mh G.T 21 (by omega) (by omega) r a b n wd f9 0 hnm hkn);have hr16:=S.F.tk.r16;refine Xp 105 S.h C S.cod f at_ 21 0 _ _ _ n wd f9 hf ha9 hfl hat hi (by omega) (by rw [S.F.dv 21 (by omega)]; rfl) (by rw [S.gn 21 (by omega)]; rfl) (by decide) hkn (fun w'=>(∃ N',MR w' A B N' G mb sb (Yb G.T C own G.Z m))∧Kx B mb sb w w') (fun V hV kx=>?_);have hab:=S.ab;have kv:=S.kv kx;refine(Zvm hV _ r a b n wd f9).mono ?_;rintro e w' ⟨he,h',x'⟩;refine⟨he,?_,(kx.low hab.2.2.2.1).tr (x'.low (by have:=kx.size; omega))⟩;rw [hst];exact h'
theorem Znr (S:SX w0 w A B N L G mb sb C own q m)(o r a b n wd f9:Int)(hi:Zv C m=⟨o,r,a,b,n,wd,f9⟩)(hk:∀ V,MR V A B N G mb sb m→Below w.heap.size w V→Calls Tryz.prog 114 #[.pointer (some ⟨mb,0,none⟩),.agg #[.int .i64 o,.int .i64 r,.int .i64 a,.int .i64 b,.int .i64 n,.int .i64 wd,.int .i64 f9]] V fun e w'=>e=.returned (.bool false)∧Below V.heap.size V w')(hn:Jq G.T ⟨o,r,a,b,n,wd,f9⟩=false):Calls Tryz.prog 82 #[.pointer (some ⟨mb,0,none⟩)] w fun e w'=>(∃ v,e=.returned v)∧(∃ N',MR w' A B N' G mb sb (Yb G.T C own G.Z m))∧Kx B mb sb w w':=by
 obtain⟨f,at_,hf,ha,hfl,hat⟩:=S.at_;have hab:=S.ab;refine(Zor S.h C S.cod f at_ o r a b n wd f9 hf ha hfl hi hk).mono ?_;rintro e w' ⟨he,h',x'⟩;refine⟨he,?_,x'.low hab.2.2.2.1⟩;have:Yb G.T C own G.Z m=m.fault 1:=by
  unfold Yb;rw [hi,if_neg (by rw [hn]; decide)]
 rw [this];exact⟨_,h'⟩
theorem Xz (S:SX w0 w A B N L G mb sb C own q m)(k nk:Nat)(hk:k<22)(hnk:Xc (k:Int)=nk)(hn3:nk≤3)(fn:Nat)(hfn:G.D k=.func (.func fn) #[] #[])(r a b n wd f9:Int)(hi:Zv C m=⟨(k:Int),r,a,b,n,wd,f9⟩)(hall:(([r,a,b].take nk).all fun x=>Gr x G.T.r)=false):Calls Tryz.prog 82 #[.pointer (some ⟨mb,0,none⟩)] w fun e w'=>(∃ v,e=.returned v)∧(∃ N',MR w' A B N' G mb sb (Yb G.T C own G.Z m))∧Kx B mb sb w w':=by
 have hgn:=S.gn k hk;have h1:=Zyb k hk;rw [hnk] at h1;rw [← h1] at hgn;refine Znr S k r a b n wd f9 hi (fun V hV hb=>?_) (by unfold Jq; simp only [hnk]; rw [Bool.and_eq_false_iff]; exact .inr hall);have:=Zfd hV k nk r a b n wd f9 hk (fun W=>by rw [hfn]; exact Zua _ W) (fun W=>by rw [hfn]; exact Zyd _ W) ((World.cell?_of_block (hb.block _ (World.block_lt_of_cell? w _ hgn))).trans hgn) hn3;rw [hall] at this;exact this
theorem Zuz (S:SX w0 w A B N L G mb sb C own q m):Calls Tryz.prog 82 #[.pointer (some ⟨mb,0,none⟩)] w fun e w'=>(∃ v,e=.returned v)∧(∃ N',MR w' A B N' G mb sb (Yb G.T C own G.Z m))∧Kx B mb sb w w':=by
 obtain⟨i,hi⟩:∃ i,Zv C m=i:=⟨_,rfl⟩;obtain⟨o,r,a,b,n,wd,f9⟩:=i;by_cases ho:0≤o∧o<22
 ·
  obtain⟨k,rfl⟩:∃ k:Nat,o=k:=⟨o.toNat,by omega⟩;have hk:k<22:=by omega
  have hdv:=S.F.dv k hk;have hcs:k=0∨k=1∨k=2∨k=3∨k=4∨k=5∨k=6∨k=7∨k=8∨k=9∨k=10∨k=11∨k=12∨k=13∨k=14∨k=15∨k=16∨k=17∨k=18∨k=19∨k=20∨k=21:=by omega
  clear ho;rcases hcs with rfl | rfl | rfl | rfl | rfl | rfl | rfl | rfl | rfl | rfl | rfl | rfl | rfl | rfl | rfl | rfl | rfl | rfl | rfl | rfl | rfl | rfl
  ·
   exact Znr S _ r a b n wd f9 hi (fun V hV hb=>Zop hV 0 r a b n wd f9 hk (fun W=>by rw [hdv]; exact Zvq W) (fun W=>by rw [hdv]; rfl)) (by unfold Jq; rw [Bool.and_eq_false_iff]; exact .inl rfl)
  ·
   cases hall:([r,a,b].take 1).all fun x=>Gr x G.T.r with
   | false=>exact Xz S 1 1 hk (by decide) (by decide) _ hdv r a b n wd f9 hi hall
   | true=>exact Zxo S r a b n wd f9 hi hall
  ·
   cases hall:([r,a,b].take 2).all fun x=>Gr x G.T.r with
   | false=>exact Xz S 2 2 hk (by decide) (by decide) _ hdv r a b n wd f9 hi hall
   | true=>exact Zuu S r a b n wd f9 hi hall
  ·
   cases hall:([r,a,b].take 3).all fun x=>Gr x G.T.r with
   | false=>exact Xz S 3 3 hk (by decide) (by decide) _ hdv r a b n wd f9 hi hall
   | true=>exact Lp S 3 (by decide) (by decide) r a b n wd f9 hi hall
  ·
   cases hall:([r,a,b].take 3).all fun x=>Gr x G.T.r with
   | false=>exact Xz S 4 3 hk (by decide) (by decide) _ hdv r a b n wd f9 hi hall
   | true=>exact Lp S 4 (by decide) (by decide) r a b n wd f9 hi hall
  ·
   cases hall:([r,a,b].take 3).all fun x=>Gr x G.T.r with
   | false=>exact Xz S 5 3 hk (by decide) (by decide) _ hdv r a b n wd f9 hi hall
   | true=>exact Lp S 5 (by decide) (by decide) r a b n wd f9 hi hall
  ·
   cases hall:([r,a,b].take 3).all fun x=>Gr x G.T.r with
   | false=>exact Xz S 6 3 hk (by decide) (by decide) _ hdv r a b n wd f9 hi hall
   | true=>exact Lp S 6 (by decide) (by decide) r a b n wd f9 hi hall
  ·
   cases hall:([r,a,b].take 3).all fun x=>Gr x G.T.r with
   | false=>exact Xz S 7 3 hk (by decide) (by decide) _ hdv r a b n wd f9 hi hall
   | true=>exact Lp S 7 (by decide) (by decide) r a b n wd f9 hi hall
  ·
   cases hall:([r,a,b].take 3).all fun x=>Gr x G.T.r with
   | false=>exact Xz S 8 3 hk (by decide) (by decide) _ hdv r a b n wd f9 hi hall
   | true=>exact Lp S 8 (by decide) (by decide) r a b n wd f9 hi hall
  ·
   cases hall:([r,a,b].take 3).all fun x=>Gr x G.T.r with
   | false=>exact Xz S 9 3 hk (by decide) (by decide) _ hdv r a b n wd f9 hi hall
   | true=>exact Lp S 9 (by decide) (by decide) r a b n wd f9 hi hall
  ·
   cases hall:([r,a,b].take 1).all fun x=>Gr x G.T.r with
   | false=>exact Xz S 10 1 hk (by decide) (by decide) _ hdv r a b n wd f9 hi hall
   | true=>exact Zxp S r a b n wd f9 hi hall
  ·
   cases hall:([r,a,b].take 1).all fun x=>Gr x G.T.r with
   | false=>exact Xz S 11 1 hk (by decide) (by decide) _ hdv r a b n wd f9 hi hall
   | true=>exact Zxq S r a b n wd f9 hi hall
  ·
   cases hall:([r,a,b].take 2).all fun x=>Gr x G.T.r with
   | false=>exact Xz S 12 2 hk (by decide) (by decide) _ hdv r a b n wd f9 hi hall
   | true=>exact Zuv S r a b n wd f9 hi hall
  ·
   cases hall:([r,a,b].take 1).all fun x=>Gr x G.T.r with
   | false=>exact Xz S 13 1 hk (by decide) (by decide) _ hdv r a b n wd f9 hi hall
   | true=>exact Zuw S r a b n wd f9 hi hall
  ·
   cases hall:([r,a,b].take 0).all fun x=>Gr x G.T.r with
   | false=>exact Xz S 14 0 hk (by decide) (by decide) _ hdv r a b n wd f9 hi hall
   | true=>exact Zlt S r a b n wd f9 hi hall
  ·
   cases hall:([r,a,b].take 0).all fun x=>Gr x G.T.r with
   | false=>exact Xz S 15 0 hk (by decide) (by decide) _ hdv r a b n wd f9 hi hall
   | true=>exact Zep S r a b n wd f9 hi hall
  ·
   cases hall:([r,a,b].take 0).all fun x=>Gr x G.T.r with
   | false=>exact Xz S 16 0 hk (by decide) (by decide) _ hdv r a b n wd f9 hi hall
   | true=>exact Zux S r a b n wd f9 hi hall
  ·
   cases hall:([r,a,b].take 0).all fun x=>Gr x G.T.r with
   | false=>exact Xz S 17 0 hk (by decide) (by decide) _ hdv r a b n wd f9 hi hall
   | true=>exact Zrn S r a b n wd f9 hi hall
  ·
   cases hall:([r,a,b].take 1).all fun x=>Gr x G.T.r with
   | false=>exact Xz S 18 1 hk (by decide) (by decide) _ hdv r a b n wd f9 hi hall
   | true=>exact Zro S r a b n wd f9 hi hall
  ·
   cases hall:([r,a,b].take 0).all fun x=>Gr x G.T.r with
   | false=>exact Xz S 19 0 hk (by decide) (by decide) _ hdv r a b n wd f9 hi hall
   | true=>exact Zuy S r a b n wd f9 hi hall
  ·
   cases hall:([r,a,b].take 0).all fun x=>Gr x G.T.r with
   | false=>exact Xz S 20 0 hk (by decide) (by decide) _ hdv r a b n wd f9 hi hall
   | true=>exact Zrp S r a b n wd f9 hi hall
  ·
   cases hall:([r,a,b].take 0).all fun x=>Gr x G.T.r with
   | false=>exact Xz S 21 0 hk (by decide) (by decide) _ hdv r a b n wd f9 hi hall
   | true=>exact Zrq S r a b n wd f9 hi hall
 ·
  exact Znr S o r a b n wd f9 hi (fun V hV _=>Zme hV o r a b n wd f9 ho) (by unfold Jq; rw [Bool.and_eq_false_iff]; exact .inl (decide_eq_false (by show ¬ (1≤o∧o≤21); omega)))
end
set_option maxHeartbeats 4000000
set_option maxRecDepth 100000
theorem Rf {n k:Nat}(h:k≤n):List.range n=List.range k++(List.range n).drop k:=by
 have:=(List.take_append_drop k (List.range n)).symm;rwa [List.take_range,Nat.min_eq_left h] at this
def bsK (f b:Nat)(l:List Zt)(k:Nat):List (Int×Int×Int):=(List.range k).filterMap fun k=>if (l.getD k Yz).op=15 then some ((f:Int),(b:Int),(k:Int)+1) else none
def bsB (f:Nat)(bs:List (List Zt))(b:Nat):List (Int×Int×Int):=(List.range b).flatMap fun b=>Mf f b (bs.getD b [])
def bsF (C:Zk)(f:Nat):List (Int×Int×Int):=(List.range f).flatMap fun f=>Lq f (C.funcs.getD f [])
def Kz (C:Zk)(f b k:Nat):List (Int×Int×Int):=bsF C f++(bsB f (C.funcs.getD f []) b++bsK f b ((C.funcs.getD f []).getD b []) k)
theorem Ih (C:Zk)(f b k:Nat):Kz C f b (k+1)=Kz C f b k++(if (((C.funcs.getD f []).getD b []).getD k Yz).op=15 then [((f:Int),(b:Int),(k:Int)+1)] else []):=by
 unfold Kz bsK;rw [List.range_succ,List.filterMap_append];simp only [List.append_assoc];congr 3
 by_cases h:(((C.funcs.getD f []).getD b []).getD k Yz).op=15
 ·
  simp only [List.filterMap_cons,if_pos h,List.filterMap_nil]
 ·
  simp only [List.filterMap_cons,if_neg h,List.filterMap_nil]
theorem Zjd (C:Zk)(f b:Nat):Kz C f b ((C.funcs.getD f []).getD b []).length=Kz C f (b+1) 0:=by
 unfold Kz bsB bsK;rw [List.range_succ,List.flatMap_append];simp [Mf]
theorem Zns (C:Zk)(f:Nat):Kz C f (C.funcs.getD f []).length 0=Kz C (f+1) 0 0:=by
 unfold Kz bsF bsB bsK;rw [List.range_succ,List.flatMap_append];simp [Lq]
theorem Zje (C:Zk):Kz C C.funcs.length 0 0=Zg C:=by
 unfold Kz bsF bsB bsK Zg;simp
theorem Zeq (C:Zk):Kz C 0 0 0=[]:=by
 simp [Kz,bsF,bsB,bsK]
theorem Zjf (C:Zk)(f b k:Nat):((f:Int),(b:Int),(k:Int)+1) ∉ Kz C f b k:=fun h=>by
 unfold Kz bsF bsB bsK Lq Mf at h;simp only [List.mem_append,List.mem_flatMap,List.mem_range,List.mem_filterMap] at h;rcases h with⟨f',hf,b',hb,k',hk,he⟩ | ⟨b',hb,k',hk,he⟩ | ⟨k',hk,he⟩;all_goals
  split at he
  ·
   injection he with he;injection he with e1 e2;injection e2 with e2 e3;omega
  ·
   cases he
theorem Zcp (C:Zk)(f b k:Nat)(hf:f<C.funcs.length)(hb:b<(C.funcs.getD f []).length)(hk:k≤((C.funcs.getD f []).getD b []).length):∃ t,Zg C=Kz C f b k++t:=by
 have h1:Zg C=bsF C f++(Lq f (C.funcs.getD f [])++((List.range C.funcs.length).drop (f+1)).flatMap fun f=>Lq f (C.funcs.getD f [])):=by
  unfold Zg bsF;rw [Rf (Nat.le_of_lt hf),List.flatMap_append,← Rf (Nat.le_of_lt hf),Ro hf,List.flatMap_cons]
 have h2:Lq f (C.funcs.getD f [])=bsB f (C.funcs.getD f []) b++(Mf f b ((C.funcs.getD f []).getD b [])++((List.range (C.funcs.getD f []).length).drop (b+1)).flatMap fun b=>Mf f b ((C.funcs.getD f []).getD b [])):=by
  unfold Lq bsB;rw [Rf (Nat.le_of_lt hb),List.flatMap_append,← Rf (Nat.le_of_lt hb),Ro hb,List.flatMap_cons]
 have h3:∃ t,Mf f b ((C.funcs.getD f []).getD b [])=bsK f b ((C.funcs.getD f []).getD b []) k++t:=by
  unfold Mf bsK;rw [Rf hk,List.filterMap_append];exact⟨_,rfl⟩
 obtain⟨t,h3⟩:=h3;rw [h1,h2,h3];unfold Kz;simp only [List.append_assoc];exact⟨_,rfl⟩
theorem Zlu (bs:List (Int×Int×Int))(p:Int×Int×Int):Nt (bs++[p])=Nt bs++[.int .i64 p.1,.int .i64 p.2.1,.int .i64 p.2.2]:=by
 simp [Nt]
theorem Tryz.infoPos:(Tryz.prog.info? 138).map (fun i=>(i.zero,i.size,i.bytes))=some (some (.agg #[.int .i64 0,.int .i64 0,.int .i64 0]),3,24):=by kernel_rfl
theorem Tryz.infCls:(Tryz.prog.info? 136).map (·.size)=some 2:=by kernel_rfl
theorem Zer {w V V':World}{g:Nat}(ho:Mc g V V')(hb:Below w.heap.size w V)(hg:w.heap.size≤g:=by omega):Below w.heap.size w V':=⟨ho.os.trans hb.os,ho.tape.trans hb.tape,ho.output.trans hb.output,by have:=hb.size; have:=ho.size; omega,fun q hq=>(ho.oth q (by omega)).trans (hb.block q hq)⟩
structure CoP (w:World)(cs cf ce:Value)(V:World)(bs:List (Int×Int×Int))(bv:Value)(es:Array MapEntry)(ck:Nat):Prop where
 low:Below w.heap.size w V
 cb:V.heap[w.heap.size]?=some (.cells #[cs,cf,ce] 29 (0,0))
 rs:V.heap[w.heap.size+1]?=some (.cells #[.slice none 0 0,.map none] 136 (0,0))
 mp:V.heap[w.heap.size+2]?=some (.map es ck)
 pe:MpE bs es.toList 1
 l:V.heap[w.heap.size+3]?=some (.cells #[bv,.map (some (w.heap.size+2))] 136 (0,0))
 own:V.ownsRow w.heap.size 138 3 bv bs.length (Nt bs)
def CoI (w:World)(cs cf ce:Value)(V:World)(bs:List (Int×Int×Int)):Prop:=∃ bv es ck,CoP w cs cf ce V bs bv es ck
theorem CoP.sz {w:World}{cs cf ce:Value}{V:World}{bs:List (Int×Int×Int)}{bv:Value}{es:Array MapEntry}{ck:Nat}(h:CoP w cs cf ce V bs bv es ck):w.heap.size+3<V.heap.size:=Zc h.l
theorem CoP.bel {w:World}{cs cf ce:Value}{V V':World}{bs:List (Int×Int×Int)}{bv:Value}{es:Array MapEntry}{ck:Nat}(h:CoP w cs cf ce V bs bv es ck)(hb:Below V.heap.size V V'):CoP w cs cf ce V' bs bv es ck:=by
 have hz:=h.sz;exact⟨Zb h.low hb h.low.size,(hb.block _ (by omega)).trans h.cb,(hb.block _ (by omega)).trans h.rs,(hb.block _ (by omega)).trans h.mp,h.pe,(hb.block _ (by omega)).trans h.l,Yn h.own fun g hg=>hb.block g (h.own.lt g hg).2⟩
theorem CoI.bel {w:World}{cs cf ce:Value}{V V':World}{bs:List (Int×Int×Int)}(h:CoI w cs cf ce V bs)(hb:Below V.heap.size V V'):CoI w cs cf ce V' bs:=by
 obtain⟨bv,es,ck,h⟩:=h;exact⟨bv,es,ck,h.bel hb⟩
theorem CoP.more {w:World}{cs cf ce:Value}{V V3:World}{bs:List (Int×Int×Int)}{bv bv':Value}{es:Array MapEntry}{ck:Nat}{p:Int×Int×Int}(h:CoP w cs cf ce V bs bv es ck)(hg:V.grownBy V3 bv.ownBlock)(ho:V3.ownsRow w.heap.size 138 3 bv' (bs.length+1) (Nt bs++[.int .i64 p.1,.int .i64 p.2.1,.int .i64 p.2.2])) :
 V3.heap[w.heap.size+3]?=some (.cells #[bv,.map (some (w.heap.size+2))] 136 (0,0))∧(V3.setCell ⟨w.heap.size+3,0,none⟩ bv').heap[w.heap.size+2]?=some (.map es ck)∧(V3.setCell ⟨w.heap.size+3,0,none⟩ bv').heap[w.heap.size+3]?=some (.cells #[bv',.map (some (w.heap.size+2))] 136 (0,0)) ∧
 CoP w cs cf ce { (V3.setCell ⟨w.heap.size+3,0,none⟩ bv') with heap:=(V3.setCell ⟨w.heap.size+3,0,none⟩ bv').heap.setIfInBounds (w.heap.size+2) (.map (es.push { key:=kA p,val:=.int .u64 ((bs.length+1:Nat):Int),born:=ck }) (ck+1)) } (bs++[p]) bv' (es.push { key:=kA p,val:=.int .u64 ((bs.length+1:Nat):Int),born:=ck }) (ck+1):=by
 have hz:=h.sz;have hz0:=h.low.size;have hgz:=hg.size;have hnb:∀ g,(∀ cs',V.heap[g]?≠some (.cells cs' 138 (0,0)))→bv.ownBlock≠some g:=fun g hn e=>by
  obtain⟨cs2,hr2⟩:=Jg h.own e;exact hn cs2 hr2
 have n0:bv.ownBlock≠some w.heap.size:=hnb _ fun cs' e=>Jf h.cb e (by decide) rfl;have n1:bv.ownBlock≠some (w.heap.size+1):=hnb _ fun cs' e=>Jf h.rs e (by decide) rfl;have n2:bv.ownBlock≠some (w.heap.size+2):=hnb _ fun cs' e=>by rw [h.mp] at e; cases e
 have n3:bv.ownBlock≠some (w.heap.size+3):=hnb _ fun cs' e=>Jf h.l e (by decide) rfl;have k:∀ g,g<V.heap.size→bv.ownBlock≠some g→V3.heap[g]?=V.heap[g]?:=fun g h1 h2=>hg.block g h1 (fun e=>h2 e.symm);have hl3:=(k _ (by omega) n3).trans h.l;have hm3:=(k _ (by omega) n2).trans h.mp;have hms:(V3.setCell ⟨w.heap.size+3,0,none⟩ bv').heap[w.heap.size+2]?=some (.map es ck):=(heap_setCell_other _ _ _ _ (by show w.heap.size+2≠w.heap.size+3; omega)).trans hm3;have hls:(V3.setCell ⟨w.heap.size+3,0,none⟩ bv').heap[w.heap.size+3]?=some (.cells #[bv',.map (some (w.heap.size+2))] 136 (0,0)):=heap_setCell_same _ _ 0 _ _ bv' hl3;have hh:=Go.MapKept.heap_set (o':=.map (es.push { key:=kA p,val:=.int .u64 ((bs.length+1:Nat):Int),born:=ck }) (ck+1)) hms;refine⟨hl3,hms,hls,⟨hg.os.trans h.low.os,hg.tape.trans h.low.tape,hg.output.trans h.low.output,?_,fun q hq=>?_⟩,?_,?_,hh.1,h.pe.snoc p ck,?_,?_⟩
 ·
  show _≤(Array.setIfInBounds _ _ _).size;simp
  omega
 ·
  refine(hh.2 q (by omega)).trans ((heap_setCell_other _ _ _ _ (by show q≠w.heap.size+3; omega)).trans ((k q (by omega) (fun e=>by have:=(h.own.lt q e).1; omega)).trans (h.low.block q hq)))
 ·
  exact(hh.2 _ (by omega)).trans ((heap_setCell_other _ _ _ _ (by show w.heap.size≠w.heap.size+3; omega)).trans ((k _ (by omega) n0).trans h.cb))
 ·
  exact(hh.2 _ (by omega)).trans ((heap_setCell_other _ _ _ _ (by show w.heap.size+1≠w.heap.size+3; omega)).trans ((k _ (by omega) n1).trans h.rs))
 ·
  exact(hh.2 _ (by omega)).trans hls
 ·
  rw [Zlu,List.length_append];refine Yn ho fun g hg'=>?_;obtain⟨cs2,hr2⟩:=Jg ho hg';have g2:g≠w.heap.size+2:=fun e=>by rw [e,hm3] at hr2; cases hr2
  have g3:g≠w.heap.size+3:=Jf hr2 hl3 (by decide);exact(hh.2 g g2).trans (heap_setCell_other _ _ _ _ g3)
theorem Zlv (C:Zk)(w:World)(A:Nat)(cs cf ce:Value)(hc:Gi w A cf C.funcs)(hA:A≤w.heap.size)(hbl:(Zg C).length≤1099511627776):Calls Tryz.prog 74 #[.agg #[cs,cf,ce]] w fun e w'=>∃ bv rr ck es,e=.returned (.agg #[bv,.map (some rr)])∧w'.ownsRow w.heap.size 138 3 bv (Zg C).length (Nt (Zg C))∧w'.heap[rr]?=some (.map es ck)∧MpE (Zg C) es.toList 1∧w.heap.size≤rr∧Below w.heap.size w w':=by
 obtain⟨ti,hti,hty0,hty1,hty2⟩:=Yr Tryz.infoPos;obtain⟨VF,⟨fp,fc,rfl,hfc,hfl,hfa⟩,hVF⟩:=hc;have HFA:=Y hfa;have HVF:=Y hVF;have HMM:∀ V,(Instr.makeMap 134 none).run Tryz.prog V=.ok (.map (some V.heap.size)) (V.alloc (.map #[] 0)):=fun V=>rfl;obtain⟨r0,hb0,hz0⟩:=Zs w (.cells #[cs,.slice fp C.funcs.length fc,ce] 29 (0,0));obtain⟨r1,hb1,hz1⟩:=Zs (w.alloc (.cells #[cs,.slice fp C.funcs.length fc,ce] 29 (0,0))) (.cells #[.slice none 0 0,.map none] 136 (0,0));obtain⟨r2,hb2,hz2⟩:=Zs ((w.alloc (.cells #[cs,.slice fp C.funcs.length fc,ce] 29 (0,0))).alloc (.cells #[.slice none 0 0,.map none] 136 (0,0))) (.map #[] 0);obtain⟨r3,hb3,hz3⟩:=Zs (((w.alloc (.cells #[cs,.slice fp C.funcs.length fc,ce] 29 (0,0))).alloc (.cells #[.slice none 0 0,.map none] 136 (0,0))).alloc (.map #[] 0)) (.cells #[.slice none 0 0,.map (some (w.heap.size+2))] 136 (0,0));have e1:=hz1.trans (congrArg (·+1) hz0);have e2:=hz2.trans (congrArg (·+1) e1);rw [hz0] at r1;rw [e1] at r2;rw [e2] at r3;have HI:=Y (show CoI w cs (.slice fp C.funcs.length fc) ce _ [] from⟨.slice none 0 0,#[],0,⟨Zb (Zb (Zb hb0 hb1 (by omega)) hb2 (by omega)) hb3 (by omega),(hb3.block _ (by omega)).trans ((hb2.block _ (by omega)).trans ((hb1.block _ (by omega)).trans r0)),(hb3.block _ (by omega)).trans ((hb2.block _ (by omega)).trans r1),(hb3.block _ (by omega)).trans r2,⟨rfl,fun i h=>absurd h (by simp)⟩,r3,World.ownsRow_nil _ _ _ _⟩⟩);clear r0 hb0 hz0 r1 hb1 hz1 r2 hb2 hz2 r3 hb3 hz3 e1 e2 hfa hVF
 go_enter Tryz.func74,Tryz.ntmps74
 go_upto_region 2 with fail
 rw [show w.heap.size+1+1=w.heap.size+2 from rfl];rw [show w.heap.size+2+1=w.heap.size+3 from rfl];generalize World.alloc _ _=W at HI ⊢;rw [← Zeq C] at HI;obtain⟨bv0,es0,ck0,hP0⟩:=O HI;have c1:=((cR hP0.cb 1):_=some (Value.slice fp C.funcs.length fc));clear hP0;go_wp2_with fail
 clear c1;go_loopw [16] (fun s16 V=>∃ f:Nat,s16=.int .i64 f∧f≤C.funcs.length∧CoI w cs (.slice fp C.funcs.length fc) ce V (Kz C f 0 0)) (fun s16 _=>C.funcs.length-(intOf s16).toNat)
 case atStart=>exact⟨0,rfl,by omega,O HI⟩
 case round =>
  obtain⟨f,rfl,hf,hco⟩:=hrel;by_cases hf2:f<C.funcs.length
  ·
   obtain⟨g,so,hfp,hgA,hcf⟩:=O HFA f hf2;subst hfp;obtain⟨UF,⟨up,uc,huv,huc,hul,hua⟩,hUF⟩:=O HVF f hf2;rw [huv] at hcf;have HUA:=Y hua;have HUF:=Y hUF;have HSP:=Y (Zns C f);have HCO:=Y hco;obtain⟨bv1,es1,ck1,hP1⟩:=hco;have d0:=(World.cell?_of_block (hP1.low.block g (by omega))).trans hcf;have HPRE:=Y (fun b k hb hk=>Zcp C f b k hf2 hb hk);have HSTP:=Y (fun b k=>Ih C f b k);have HBLK:=Y (fun b=>Zjd C f b);clear hP1 hcf huv hua hUF;generalize C.funcs.getD f []=bks at d0 huc hul HUA HUF HSP HPRE HSTP HBLK;go_wp2_with fail
   clear d0;go_loopw [23] (fun s23 V=>∃ b:Nat,s23=.int .i64 b∧b≤bks.length∧CoI w cs (.slice (some ⟨g,so,none⟩) C.funcs.length fc) ce V (Kz C f b 0)) (fun s23 _=>bks.length-(intOf s23).toNat)
   case atStart=>exact⟨0,rfl,by omega,O HCO⟩
   case round =>
    obtain⟨b,rfl,hb,hco⟩:=hrel;by_cases hb2:b<bks.length
    ·
     obtain⟨g2,so2,hup,hg2,hcu⟩:=O HUA b hb2;subst hup;obtain⟨mp,mc,hmv,hmc,hml,hma⟩:=O HUF b hb2;rw [hmv] at hcu;have HMA:=Y hma;have HBK:=Y (O HBLK b);have HST:=Y (fun k=>O HSTP b k);have HPR:=Y (fun k hk=>O HPRE b k hb2 hk);have HCO2:=Y hco;obtain⟨bv1,es1,ck1,hP1⟩:=hco;have d0:=(World.cell?_of_block (hP1.low.block g2 (by omega))).trans hcu;clear hP1 hcu hmv hma;generalize bks.getD b []=l at d0 hmc hml HMA HBK HST HPR;go_wp2_with fail
     clear d0;go_loopw [30] (fun s30 V=>∃ k:Nat,s30=.int .i64 k∧k≤l.length∧CoI w cs (.slice (some ⟨g,so,none⟩) C.funcs.length fc) ce V (Kz C f b k)) (fun s30 _=>l.length-(intOf s30).toNat)
     case atStart=>exact⟨0,rfl,by omega,O HCO2⟩
     case round =>
      obtain⟨k,rfl,hk,hco⟩:=hrel;by_cases hk2:k<l.length
      ·
       obtain⟨g3,so3,hmp,hg3,hmv⟩:=O HMA k hk2;subst hmp;have HS1:=Y (O HST k);obtain⟨tl,htl⟩:=O HPR (k+1) (by omega);have hco':=hco;obtain⟨bv1,es1,ck1,hP1⟩:=hco';have hlw:=hP1.low;have HNEW:=Y (Zjf C f b k);generalize hbs2:Kz C f b (k+1)=bs2 at HS1 htl;have HB2:=Y hbs2;clear hbs2;generalize Kz C f b k=bs at HS1 hco hP1 HNEW;obtain⟨i,hi⟩:∃ i,i=l.getD k Yz:=⟨_,rfl⟩;rw [← hi] at hmv HS1;have x0:=(World.cell?_of_block (hlw.block g3 (by omega))).trans (hmv 0 _ rfl);have x1:=(World.cell?_of_block (hlw.block g3 (by omega))).trans (hmv 1 _ rfl);have x2:=(World.cell?_of_block (hlw.block g3 (by omega))).trans (hmv 2 _ rfl);have x3:=(World.cell?_of_block (hlw.block g3 (by omega))).trans (hmv 3 _ rfl);have x4:=(World.cell?_of_block (hlw.block g3 (by omega))).trans (hmv 4 _ rfl);have x5:=(World.cell?_of_block (hlw.block g3 (by omega))).trans (hmv 5 _ rfl);have x6:=(World.cell?_of_block (hlw.block g3 (by omega))).trans (hmv 6 _ rfl);rw [Nat.add_zero] at x0;obtain⟨ra,hba,hza⟩:=Zs wr (.cells #[.int .i64 i.op,.int .i64 i.r,.int .i64 i.a,.int .i64 i.b,.int .i64 i.n,.int .i64 i.w,.int .i64 i.f] 103 (0,0));have HPA:=Y (hP1.bel hba);have HSZ:=Y hP1.sz;clear hmv hi hco hP1 hlw;by_cases ho:i.op=15
       ·
        rw [if_pos ho] at HS1;have hob:(i.op==15)=true:=by rw [ho]; rfl
        have hln:bs.length+1≤1099511627776:=by
         have e1:=congrArg List.length htl;have e2:=congrArg List.length (O HS1);simp only [List.length_append,List.length_cons,List.length_nil] at e1 e2;omega
        have hwU:IntKind.u64.wrap ((bs.length:Int)+1)=(bs.length:Int)+1:=by
         rw [show IntKind.u64.wrap ((bs.length:Int)+1)=((bs.length:Int)+1) % 18446744073709551616 by simp [IntKind.wrap,IntKind.bits,IntKind.signed]];omega
        obtain⟨bp,bc,rfl⟩:=Ze (O HPA).own;obtain⟨rp,hbp,hzp⟩:=Zs (wr.alloc (.cells #[.int .i64 i.op,.int .i64 i.r,.int .i64 i.a,.int .i64 i.b,.int .i64 i.n,.int .i64 i.w,.int .i64 i.f] 103 (0,0))) (.cells #[.int .i64 (f:Int),.int .i64 (b:Int),.int .i64 ((k:Int)+1)] 138 (0,0));have HPB:=Y ((O HPA).bel hbp);have y0:=((cR rp 0):_=some (Value.int .i64 (f:Int)));have y1:=((cR rp 1):_=some (Value.int .i64 (b:Int)));have y2:=((cR rp 2):_=some (Value.int .i64 ((k:Int)+1)));rw [hza] at y0 y1 y2 hzp;have HZP:=Y hzp;have HGP:=Y (fun g hg=>show g<wr.heap.size+1 by have:=((O HPA).own.lt g hg).2; omega);clear ra hba rp hbp hza ho htl hzp HPA;go_upto_region 13 with fail
        generalize World.alloc (World.alloc wr _) _=V2 at HPB y0 y1 y2 HZP ⊢;generalize hpb:wr.heap.size+1=pb at y0 y1 y2 HZP HGP ⊢;have c0:=((cR (O HPB).l 0):_=some (Value.slice bp bs.length bc));have hzB:=(O HPB).low.size;go_wp2_with (at_builtin; refine wpList_append_own _ rfl _ _ 133 rfl w.heap.size 138 ti _ 3 24 Tryz.underlying133 hti hty0 hty1 hty2 rfl (by decide) _ _ _ rfl (World.ownsRow.alloc (O HPB).own _) ⟨V2.heap.size,0,none⟩ 1 1 [.int .i64 (f:Int),.int .i64 (b:Int),.int .i64 ((k:Int)+1)] rfl rfl ?c1 ?c2 ?c3 ?c4 ?c5 ?_)
        case c1 =>
         intro j u hj;match j,hj with
         | 0,hj=>(simp at hj; subst hj; simp [Addr.add])
         | 1,hj=>(simp at hj; subst hj; simp [Addr.add])
         | 2,hj=>(simp at hj; subst hj; simp [Addr.add])
        case c2 =>
         intro u hu;simp at hu;rcases hu with rfl | rfl | rfl <;> rfl
        case c3=>unfold maxLen; omega
        case c4=>omega
        case c5=>first | omega | (simp; omega)
        intro v7 w7 hown7 hgr7 _;obtain⟨vp7,vc7,rfl⟩:=Ze hown7;obtain⟨rq,hbq,hzq⟩:=Zs V2 (.cells #[.int .i64 (f:Int),.int .i64 (b:Int),.int .i64 ((k:Int)+1)] 138 (0,0));have hP3:=(O HPB).bel hbq;obtain⟨q1,q2,q3,q4⟩:=hP3.more (p:=((f:Int),(b:Int),(k:Int)+1)) hgr7 hown7;have z0:=frozen_of_row _ _ 0 _ _ q1;have d0:=((cR q1 0):_=some (Value.slice bp bs.length bc));have HU:=Y (Zru ((f:Int),(b:Int),(k:Int)+1) (w7.setCell ⟨w.heap.size+3,0,none⟩ (.slice vp7 (bs.length+1) vc7)) (w.heap.size+2) _ _ bs q2 hP3.pe (O HNEW) (.int .u64 ((bs.length:Int)+1)));have d1:=((cR q3 0):_=some (Value.slice vp7 (bs.length+1) vc7));have d2:=((cR q3 1):_=some (Value.map (some (w.heap.size+2))));have hpk:∀ j,(w7.setCell ⟨w.heap.size+3,0,none⟩ (.slice vp7 (bs.length+1) vc7)).cell? ⟨pb,j,none⟩=V2.cell? ⟨pb,j,none⟩:=fun j=>by
         have hz:=O HZP;have hsz:=O HSZ;have h1:pb≠w.heap.size+3:=by omega
         exact World.cell?_of_block ((heap_setCell_other _ _ _ _ h1).trans ((hgr7.block pb (by omega) (fun e=>by have:=O HGP pb e.symm; omega)).trans (hbq.block pb (by omega))))
        have e0:=(hpk 0).trans y0;have e1:=(hpk 1).trans y1;have e2:=(hpk 2).trans y2;have HQ4:=Y q4;have hu:=O HU;simp only [kA] at hu;clear hpk q1 q2 q3 q4 hP3 rq hbq hzq hgr7 hown7 HU y0 y1 y2 c0;go_wp2;go_roundw
        case rel=>exact⟨k+1,by go_num,by omega,by rw [O HB2,O HS1]; exact⟨_,_,_,O HQ4⟩⟩
        case measure=>simp [intOf]; omega
       ·
        rw [if_neg ho,List.append_nil] at HS1;have hob:(i.op==15)=false:=by rw [beq_eq_false_iff_ne]; exact ho
        have HN:=Y (show CoI w cs (.slice (some ⟨g,so,none⟩) C.funcs.length fc) ce _ bs2 by rw [O HS1]; exact⟨_,_,_,O HPA⟩);clear ra hba hza HPA HNEW;go_wp2;go_roundw
        case rel=>exact⟨k+1,by go_num,by omega,by rw [O HB2]; exact O HN⟩
        case measure=>simp [intOf]; omega
      ·
       have hkl:k=l.length:=by omega
       subst hkl;have HN:=Y (show CoI w cs (.slice (some ⟨g,so,none⟩) C.funcs.length fc) ce wr (Kz C f (b+1) 0) by rw [← O HBK]; exact hco);clear hco;go_wp2;go_roundw
       case rel=>exact⟨b+1,by go_num,by omega,O HN⟩
       case measure=>simp [intOf]; omega
    ·
     have hbl2:b=bks.length:=by omega
     subst hbl2;have HN:=Y (show CoI w cs (.slice (some ⟨g,so,none⟩) C.funcs.length fc) ce wr (Kz C (f+1) 0 0) by rw [← O HSP]; exact hco);clear hco;go_wp2;go_roundw
     case rel=>exact⟨f+1,by go_num,by omega,O HN⟩
     case measure=>simp [intOf]; omega
  ·
   have hfl2:f=C.funcs.length:=by omega
   subst hfl2;rw [Zje] at hco;obtain⟨bv,es,ck,hP⟩:=hco;obtain⟨bp,bc,rfl⟩:=Ze hP.own;have d0:=((cR hP.l 0):_=some (Value.slice bp (Zg C).length bc));have d1:=((cR hP.l 1):_=some (Value.map (some (w.heap.size+2))));have x0:=((cR hP.rs 0):_=some (Value.slice none 0 0));have x1:=((cR hP.rs 1):_=some (Value.map none));have z0:=frozen_of_row _ _ 0 _ _ hP.rs;have z1:=frozen_of_row _ _ 1 _ _ hP.rs;have HRS:=Y (show((wr.setCell ⟨w.heap.size+1,0,none⟩ (.slice bp (Zg C).length bc)).setCell ⟨w.heap.size+1,1,none⟩ (.map (some (w.heap.size+2)))).heap[w.heap.size+1]?=some (.cells #[.slice bp (Zg C).length bc,.map (some (w.heap.size+2))] 136 (0,0)) from heap_setCell_same _ _ 1 _ _ _ (heap_setCell_same _ _ 0 _ _ _ hP.rs));have ho:Mc (w.heap.size+1) wr ((wr.setCell ⟨w.heap.size+1,0,none⟩ (.slice bp (Zg C).length bc)).setCell ⟨w.heap.size+1,1,none⟩ (.map (some (w.heap.size+2)))):=Zx (Zl _ _ _ _) (Zl _ _ _ _);have HX:=Y hP;have HO:=Y ho;clear hP ho;go_wp2;refine bodyPost_ret (Xu (fn:=Tryz.f74) (q:=2) (uy:=136) rfl _ _ (w.heap.size+1) 136 #[.slice bp (Zg C).length bc,.map (some (w.heap.size+2))] (0,0) _ rfl (O HRS) Tryz.underlying136 rfl (Tryz.infCls.trans rfl)) rfl ?_;have hP:=O HX;have ho:=O HO;refine⟨_,_,ck,es,rfl,Yn hP.own fun g hg=>ho.oth g ?_,(ho.oth _ (by omega)).trans hP.mp,hP.pe,by omega,Zer ho hP.low⟩;obtain⟨cs2,hr2⟩:=Jg hP.own hg;exact Jf hr2 hP.rs (by decide)
end Go.Proofs.YtnlcfnjeagmemaaGreatDoor
