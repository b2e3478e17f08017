import Derived.Test.YtnlcfnjeagmemaaGreatDoorJ11
import Derived.Test.YtnlcfnjeagmemaaGreatDoorJ31
import Derived.Test.YtnlcfnjeagmemaaGreatDoorJ8
import Derived.Test.YtnlcfnjeagmemaaGreatDoorJ3
import Derived.Deep.CutBlock
import Derived.Deep.DeepCutAuto
import Derived.Deep.RegionHeld3
import Derived.Test.YtnlcfnjeagmemaaGreatDoorJ13
import Derived.Test.YtnlcfnjeagmemaaGreatDoorJ4
import Derived.Test.YtnlcfnjeagmemaaGreatDoorJ12
import Derived.Test.YtnlcfnjeagmemaaGreatDoorClFc
namespace Go.Proofs.YtnlcfnjeagmemaaGreatDoor
open Go.RowKit
structure Sm (m m':Zf):Prop where
 f:m'.f=m.f
 bk:m'.bk=m.bk
 at_:m'.at_=m.at_
 tr:m'.tr=m.tr
 sc:m'.sc=m.sc
 steps:m'.steps=m.steps
 len:m'.me.length=m.me.length
theorem Sm.rf (m:Zf):Sm m m:=⟨rfl,rfl,rfl,rfl,rfl,rfl,rfl⟩
theorem Sm.tn {a b c:Zf}(h:Sm a b)(k:Sm b c):Sm a c:=⟨k.f.trans h.f,k.bk.trans h.bk,k.at_.trans h.at_,k.tr.trans h.tr,k.sc.trans h.sc,k.steps.trans h.steps,k.len.trans h.len⟩
theorem Ga (m:Zf)(c:Int):Sm m (m.fault c):=⟨rfl,rfl,rfl,rfl,rfl,rfl,rfl⟩
theorem Zii (m:Zf)(c:Int)(vs:List Int):Sm m (m.endK c vs):=⟨rfl,rfl,rfl,rfl,rfl,rfl,rfl⟩
theorem Gb (T:Zm)(m:Zf)(v:Int):Sm m (m.setSP T v).1:=by
 unfold Zf.setSP;repeat' split
 all_goals exact⟨rfl,rfl,rfl,rfl,rfl,rfl,rfl⟩
theorem Jc (T:Zm)(m:Zf)(r:Nat)(v:Int):Sm m (m.setR T r v).1:=by
 unfold Zf.setR;split
 ·
  exact Gb T m v
 ·
  exact⟨rfl,rfl,rfl,rfl,rfl,rfl,rfl⟩
theorem Zgb (m:Zf)(a k:Int):Sm m (m.reach a k).1:=by
 unfold Zf.reach;repeat' split
 all_goals exact⟨rfl,rfl,rfl,rfl,rfl,rfl,rfl⟩
theorem Da (m:Zf)(a k:Int):Sm m (m.load a k).1:=by
 unfold Zf.load;split
 ·
  exact Sm.rf m
 ·
  exact Zgb m a k
theorem Xx (m:Zf)(a k v:Int):Sm m (m.store a k v).1:=by
 unfold Zf.store;split
 ·
  exact⟨rfl,rfl,rfl,rfl,rfl,rfl,Ux _ _ _ _⟩
 ·
  exact Zgb m a k
theorem Cr (T:Zm)(m:Zf)(p:Int×Int):Sm m (m.read T p).1:=by
 unfold Zf.read;split
 ·
  exact Da _ _ _
 ·
  exact Sm.rf m
theorem Um (T:Zm)(m:Zf)(p:Int×Int)(v:Int):Sm m (m.write T p v).1:=by
 unfold Zf.write;split
 ·
  exact Xx _ _ _ _
 ·
  exact Jc _ _ _ _
theorem Sh (T:Zm)(m:Zf):Sm m (m.aligned T).1:=by
 unfold Zf.aligned;split
 ·
  exact Sm.rf m
 ·
  exact Ga m 3
theorem Mn (T:Zm)(m:Zf)(n:Int):Sm m (m.putN T n).1:=by
 unfold Zf.putN;split
 ·
  split
  ·
   exact(Gb T m _).tn (Xx _ _ _ _)
  ·
   exact Gb T m _
 ·
  exact Jc _ _ _ _
theorem Mu (T:Zm)(m:Zf):Sm m (m.takeN T).1:=by
 unfold Zf.takeN;split
 ·
  split
  ·
   exact(Da m _ _).tn (Gb T _ _)
  ·
   exact Da m _ _
 ·
  exact Sm.rf m
theorem Zkl (T:Zm)(m:Zf)(x:Xm)(n:Nat):Sm m (m.wordOf T x n).1:=by
 unfold Zf.wordOf;split
 ·
  exact Cr _ _ _
 ·
  split
  ·
   exact(Cr T m _).tn (Da _ _ _)
  ·
   exact Cr _ _ _
theorem Mv (T:Zm):∀(l:List (Xm×Nat)) (m:Zf) (acc:List Int),Sm m (Zo T m l acc).1
 | [],m,acc=>Sm.rf m
 | x :: r,m,acc=>by
  rw [Zo];split
  ·
   exact(Zkl T m _ _).tn (Mv T r _ _)
  ·
   exact Zkl T m _ _
theorem Zdh (T:Zm)(base:Int):∀(n k:Nat) (m:Zf),Sm m (Ys T base n k m).1
 | 0,k,m=>Sm.rf m
 | n+1,k,m=>by
  rw [Ys];split
  ·
   exact(Xx m _ _ _).tn (Zdh T base n (k+1) _)
  ·
   exact Xx m _ _ _
theorem Nk (T:Zm):∀(r:List (Int×Int)) (m:Zf) (sc:List Int),Sm m (Xa T m r sc)
 | [],m,sc=>Sm.rf m
 | p :: r,m,sc=>by
  rw [Xa];exact(Um T m _ _).tn (Nk T r _ _)
theorem Zgc (T:Zm):∀(r:List (Int×Int)) (m:Zf) (acc:List Int),Sm m (Ya T m r acc).1
 | [],m,acc=>Sm.rf m
 | p :: r,m,acc=>by
  rw [Ya];exact(Cr T m _).tn (Zgc T r _ _)
theorem Kf (T:Zm)(own:Yc)(was:Nat→Int)(m:Zf):Sm m (Yw T own was m):=by
 unfold Yw;split
 ·
  exact(Zgc T _ m _).tn (Zii _ _ _)
 ·
  exact Ga m 5
theorem Un (T:Zm)(m:Zf)(r a k:Int):Sm m (Jb T m r a k):=by
 unfold Jb;split
 ·
  exact(Da m _ _).tn (Jc _ _ _ _)
 ·
  exact Da m _ _
theorem Md (T:Zm)(m:Zf)(z:Int):Sm m (Zz T m z).1:=by
 unfold Zz;exact(show Sm m { m with rg:=Lk T m.rg (IntKind.u64.wrap (65536*m.tr.length)) } from⟨rfl,rfl,rfl,rfl,rfl,rfl,rfl⟩).tn (Zdh T _ _ _ _)
theorem Uo {Q:Zf→Prop}(T:Zm)(C:Zk)(own:Yc)(was:Nat→Int)(m:Zf)(i:Zt)(h1:∀ r v,Q (m.setR T r v).1)(h2:∀ r a k,Q (Jb T m r a k))(h3:∀ a k v,Q (m.store a k v).1)(h4:∀ v,Q (m.setSP T v).1)(h5:∀ f k,Q (m.call T C.funcs.length f k).1)(h6:∀ f,Q (Xk T C m f))(h7:∀ b,Q { m with bk:=b,at_:=0 })(h8:i.op=19→Q (Mz T C own was m))(h9:∀ f,Q (m.enter C.funcs.length f).1)(h10:∀ vs,Q (m.endK 2 vs)):Q (Xo T C own was m i):=by
 unfold Xo;refine iteInduction (motive:=Q) (fun _=>h1 _ _) fun _=>?_;refine iteInduction (motive:=Q) (fun _=>h1 _ _) fun _=>?_;refine iteInduction (motive:=Q) (fun _=>h1 _ _) fun _=>?_;refine iteInduction (motive:=Q) (fun _=>h2 _ _ _) fun _=>?_;refine iteInduction (motive:=Q) (fun _=>h3 _ _ _) fun _=>?_;refine iteInduction (motive:=Q) (fun _=>h2 _ _ _) fun _=>?_;refine iteInduction (motive:=Q) (fun _=>h1 _ _) fun _=>?_;refine iteInduction (motive:=Q) (fun _=>h4 _) fun _=>?_;refine iteInduction (motive:=Q) (fun _=>h5 _ _) fun _=>?_;refine iteInduction (motive:=Q) (fun _=>h6 _) fun _=>?_;refine iteInduction (motive:=Q) (fun _=>h7 _) fun _=>?_;refine iteInduction (motive:=Q) (fun _=>h7 _) fun _=>?_;refine iteInduction (motive:=Q) (fun h=>h8 h) fun _=>?_;exact iteInduction (motive:=Q) (fun _=>h9 _) fun _=>h10 _
def Di (C:Zk)(m:Zf):List Zt:=if 0≤m.bk then ((C.funcs.getD m.f.toNat []).getD m.bk.toNat []) else []
theorem Zmu (C:Zk)(m:Zf):Zv C m=(Di C m).getD m.at_.toNat Yz:=by
 unfold Zv Di;split
 ·
  rfl
 ·
  simp
structure Nm (C:Zk)(n:Nat)(q:Nat)(m:Zf):Prop where
 f:0≤m.f∧m.f<C.funcs.length
 a:0≤m.at_∧m.at_≤(Di C m).length
 tr:(m.tr.length:Int)+q≤m.steps
 st:m.steps≤n
 sc:∀ x ∈ m.sc,0≤x∧x<18446744073709551616
theorem Sm.iv {C:Zk}{n q:Nat}{m m':Zf}(h:Nm C n q m)(k:Sm m m'):Nm C n q m':=by
 have hb:Di C m'=Di C m:=by unfold Di; rw [k.f,k.bk]
 refine⟨by rw [k.f]; exact h.f,by rw [k.at_,hb]; exact h.a,by rw [k.tr,k.steps]; exact h.tr,by rw [k.steps]; exact h.st,by rw [k.sc]; exact h.sc⟩
theorem Nm.low {C:Zk}{n:Nat}{m:Zf}(h:Nm C n 1 m):Nm C n 0 m:=⟨h.f,h.a,by have:=h.tr; omega,h.st,h.sc⟩
theorem Si (C:Zk)(i:Nat)(hi:i<(Zg C).length):∃ f b k:Nat,(Zg C).getD i (0,0,0)=((f:Int),(b:Int),(k:Int)+1)∧f<C.funcs.length∧b<(C.funcs.getD f []).length∧k<((C.funcs.getD f []).getD b []).length:=by
 have hm:(Zg C).getD i (0,0,0) ∈ Zg C:=by
  rw [List.getD_eq_getElem?_getD,List.getElem?_eq_getElem hi];exact List.getElem_mem hi
 generalize (Zg C).getD i (0,0,0)=x at hm ⊢;unfold Zg Lq Mf at hm;simp only [List.mem_flatMap,List.mem_range,List.mem_filterMap] at hm;obtain⟨f,hf,b,hb,k,hk,he⟩:=hm;split at he
 ·
  injection he with he;exact⟨f,b,k,he.symm,hf,hb,hk⟩
 ·
  cases he
section
variable {C:Zk} {T:Zm} {n:Nat} {own:Yc} {was:Nat→Int}
theorem Zgd {m:Zf}{q:Nat}(h:Nm C n q m)(f:Int):Nm C n q (m.enter C.funcs.length f).1:=by
 unfold Zf.enter;split
 ·
  rename_i hf;exact⟨hf,⟨Int.le_refl _,Int.natCast_nonneg _⟩,h.tr,h.st,h.sc⟩
 ·
  exact(Ga m 1).iv h
theorem Zdi {m:Zf}{q:Nat}(h:Nm C n q m)(f k:Int):Nm C n q (m.call T C.funcs.length f k).1:=by
 unfold Zf.call;split
 ·
  split
  ·
   exact Zgd ((Mn T m k).iv h) f
  ·
   exact(Mn T m k).iv h
 ·
  exact(Sh T m).iv h
theorem Zwl {m:Zf}{q:Nat}(h:Nm C n q m):Nm C n q (Mz T C own was m):=by
 have hs:=Mu T m;unfold Mz;split
 ·
  rename_i m' he;rw [he] at hs;exact hs.iv h
 ·
  rename_i m' k he;rw [he] at hs;have h':=hs.iv h;split
  ·
   exact(Kf T own was m').iv h'
  ·
   split
   ·
    exact(Ga m' 4).iv h'
   ·
    rename_i h0 h1;by_cases hk:k.toNat-1<(Zg C).length
    ·
     obtain⟨f,b,i,e,hf,hb,hi⟩:=Si C _ hk;rw [e];refine⟨⟨Int.natCast_nonneg _,by simpa using hf⟩,⟨by simp only; omega,?_⟩,h'.tr,h'.st,h'.sc⟩;show(i:Int)+1≤((Di C _).length:Int);unfold Di;simp only [Int.natCast_nonneg,if_true,Int.toNat_natCast];omega
    ·
     have e:(Zg C).getD (k.toNat-1) (0,0,0)=(0,0,0):=by
      rw [List.getD_eq_getElem?_getD,List.getElem?_eq_none (by omega)];rfl
     rw [e];refine⟨⟨Int.le_refl _,show(0:Int)<_ by have:=h.f; omega⟩,⟨Int.le_refl _,Int.natCast_nonneg _⟩,h'.tr,h'.st,h'.sc⟩
theorem Zwm {m:Zf}(h:Nm C n 1 m)(f:Int):Nm C n 0 (Xk T C m f):=by
 unfold Xk;split
 ·
  exact((Sh T m).iv h).low
 ·
  split
  ·
   generalize Ng _ _=L;have hs:=Mv T L m [];split
   ·
    rename_i m' he;rw [he] at hs;exact(hs.iv h).low
   ·
    rename_i m' ws he;rw [he] at hs;have h':=hs.iv h;have h1:Nm C n 0 { m' with tr:=m'.tr++[(f,ws)] }:=⟨h'.f,h'.a,by have:=h'.tr; simp; omega,h'.st,h'.sc⟩;generalize ({ m' with tr:=m'.tr++[(f,ws)] }:Zf)=m2 at h1 ⊢;generalize (Zr T _).size=z;generalize (Zr T _).res=rs;have h2:=(Md T m2 z).iv h1;split
    ·
     generalize (Zz T m2 z).1=m3 at h2 ⊢;unfold Xw;have h3:Nm C n 0 ({ m3 with sc:=m3.sc.drop rs.length }:Zf):=⟨h2.f,h2.a,h2.tr,h2.st,fun x hx=>h2.sc x (List.mem_of_mem_drop (i:=rs.length) hx)⟩;exact(Nk T rs _ m3.sc).iv h3
    ·
     exact h2
  ·
   exact((Ga m 1).iv h).low
theorem Zzl {m:Zf}{q:Nat}(h:Nm C n q m)(b:Int):Nm C n q { m with bk:=b,at_:=0 }:=⟨h.f,⟨Int.le_refl _,Int.natCast_nonneg _⟩,h.tr,h.st,h.sc⟩
theorem Zkm {m:Zf}(h:Nm C n 1 m)(i:Zt):Nm C n 0 (Xo T C own was m i) :=
 Uo (Q:=Nm C n 0) T C own was m i (fun _ _=>((Jc _ _ _ _).iv h).low) (fun _ _ _=>((Un _ _ _ _ _).iv h).low) (fun _ _ _=>((Xx _ _ _ _).iv h).low) (fun _=>((Gb _ _ _).iv h).low) (fun _ _=>(Zdi h _ _).low) (fun _=>Zwm h _) (fun _=>(Zzl h _).low) (fun _=>(Zwl h).low) (fun _=>(Zgd h _).low) (fun _=>((Zii _ _ _).iv h).low)
theorem Zge {m:Zf}(h:Nm C n 1 m)(hk:Jq T (Zv C m)=true):m.at_<(Di C m).length:=by
 rw [Zmu] at hk;by_cases hc:m.at_<(Di C m).length
 ·
  exact hc
 ·
  rw [List.getD_eq_getElem?_getD,List.getElem?_eq_none (by have:=h.a; omega)] at hk;simp [Jq,Yz] at hk
theorem Zkn {m:Zf}(h:Nm C n 1 m)(hk:Jq T (Zv C m)=true):Nm C n 1 { m with at_:=m.at_+1 } :=
 ⟨h.f,⟨by have:=h.a; simp only; omega,by have:=Zge h hk; exact this⟩,h.tr,h.st,h.sc⟩
theorem Zsr {m:Zf}(h:Nm C n 1 m):Nm C n 0 (Yb T C own was m):=by
 unfold Yb;split
 ·
  rename_i hk;exact Zkm (Zkn h hk) _
 ·
  exact((Ga m 1).iv h).low
end
theorem Kt (F:Nat)(m:Zf)(f:Int):(m.enter F f).1.steps=m.steps:=by
 unfold Zf.enter;split <;> rfl
theorem Zmv (T:Zm)(C:Zk)(m:Zf)(f:Int):(Xk T C m f).steps=m.steps:=by
 unfold Xk;split
 ·
  exact(Sh T m).steps
 ·
  split
  ·
   generalize Ng _ _=L;have hs:=Mv T L m [];split
   ·
    rename_i m' he;rw [he] at hs;exact hs.steps
   ·
    rename_i m' ws he;rw [he] at hs;split
    ·
     unfold Xw;rw [(Nk T _ _ _).steps];exact(Md T _ _).steps.trans hs.steps
    ·
     exact(Md T _ _).steps.trans hs.steps
  ·
   rfl
theorem Zmw (T:Zm)(C:Zk)(own:Yc)(was:Nat→Int)(m:Zf):(Mz T C own was m).steps=m.steps:=by
 have hs:=Mu T m;unfold Mz;split
 ·
  rename_i m' he;rw [he] at hs;exact hs.steps
 ·
  rename_i m' k he;rw [he] at hs;split
  ·
   exact(Kf T own was m').steps.trans hs.steps
  ·
   split
   ·
    exact hs.steps
   ·
    exact hs.steps
theorem Dy (T:Zm)(F:Nat)(m:Zf)(f k:Int):(m.call T F f k).1.steps=m.steps:=by
 unfold Zf.call;split
 ·
  split
  ·
   rw [Kt]; exact(Mn T m k).steps
  ·
   exact(Mn T m k).steps
 ·
  exact(Sh T m).steps
theorem Zak (T:Zm)(C:Zk)(own:Yc)(was:Nat→Int)(m:Zf):(Yb T C own was m).steps=m.steps:=by
 unfold Yb;split
 ·
  exact Uo (Q:=fun x=>x.steps=m.steps) T C own was { m with at_:=m.at_+1 } _ (fun _ _=>(Jc _ _ _ _).steps) (fun _ _ _=>(Un _ _ _ _ _).steps) (fun _ _ _=>(Xx _ _ _ _).steps) (fun _=>(Gb _ _ _).steps) (fun _ _=>Dy _ _ _ _ _) (fun _=>Zmv _ _ _ _) (fun _=>rfl) (fun _=>Zmw _ _ _ _ _) (fun _=>Kt _ _ _) (fun _=>rfl)
 ·
  rfl
theorem Zrx {α:Type}(l:List α)(d:α)(k:Nat)(h:k<l.length):l.getD k d=l[k]:=by simp [List.getD,h]
theorem Ju {w:World}{B e size n:Nat}{v:Value}{xs:List Value}(h:w.ownsRow B e size v n xs)(hn:0<n):∃ g c,v=.slice (some ⟨g,0,none⟩) n c∧B≤g∧g<w.heap.size∧∀ j,j<n*size→w.cell? ⟨g,j,none⟩=xs[j]?:=by
 rcases h.2 with⟨-,e0⟩ | ⟨g,cap,cur,e,h2,h3,-⟩
 ·
  omega
 ·
  subst e;exact⟨g,cap,rfl,h2,Zc h3,fun j hj=>h.cellAt j hj⟩
theorem Gv {w:World}{B:Nat}{v:Value}{xs:List (Int×Int)}(h:Gt w B v xs){k:Nat}(hk:k<xs.length):∃ g c,v=.slice (some ⟨g,0,none⟩) xs.length c∧B≤g∧w.cell? ⟨g,k*2,none⟩=some (.int .i64 (xs.getD k (0,0)).1)∧w.cell? ⟨g,k*2+1,none⟩=some (.int .i64 (xs.getD k (0,0)).2):=by
 obtain⟨g,c,e,hB,-,hc⟩:=Ju h (by omega);exact⟨g,c,e,hB,(hc _ (by omega)).trans (Ch xs k hk).1,(hc _ (by omega)).trans (Ch xs k hk).2⟩
theorem Zei:∀(pvs:List Value) (sps:List Xm) (k:Nat),pvs.length=sps.length→k<sps.length→(Dg pvs sps)[k*3]?=some (pvs.getD k undef)∧(Dg pvs sps)[k*3+1]?=some (.bool (sps.getD k Xs).ref)∧(Dg pvs sps)[k*3+2]?=some (.int .i64 (sps.getD k Xs).at_)
 | [],[],_,_,hk=>absurd hk (by simp)
 | [],_ :: _,_,hl,_=>by simp at hl
 | _ :: _,[],_,hl,_=>by simp at hl
 | p :: pr,s :: sr,0,_,_=>⟨rfl,rfl,rfl⟩
 | p :: pr,s :: sr,k+1,hl,hk=>by
  have ih:=Zei pr sr k (by simpa using hl) (by simpa using hk);have e:Dg (p :: pr) (s :: sr)=[p,.bool s.ref,.int .i64 s.at_]++Dg pr sr:=rfl;rw [e];refine⟨?_,?_,?_⟩
  ·
   rw [List.getElem?_append_right (by simp; omega),show(k+1)*3-[p,Value.bool s.ref,.int .i64 s.at_].length=k*3 by simp; omega,ih.1];simp [List.getD]
  ·
   rw [List.getElem?_append_right (by simp; omega),show(k+1)*3+1-[p,Value.bool s.ref,.int .i64 s.at_].length=k*3+1 by simp; omega,ih.2.1];simp [List.getD]
  ·
   rw [List.getElem?_append_right (by simp; omega),show(k+1)*3+2-[p,Value.bool s.ref,.int .i64 s.at_].length=k*3+2 by simp; omega,ih.2.2];simp [List.getD]
theorem Zcl {w:World}{B:Nat}{av rv:Value}{l:Yc}{pvs:List Value}(h:Yo w B av rv l pvs){k:Nat}(hk:k<l.args.length):∃ g c,av=.slice (some ⟨g,0,none⟩) l.args.length c∧B≤g∧g<w.heap.size∧w.cell? ⟨g,k*3,none⟩=some (pvs.getD k undef)∧w.cell? ⟨g,k*3+1,none⟩=some (.bool (l.args.getD k Xs).ref)∧w.cell? ⟨g,k*3+2,none⟩=some (.int .i64 (l.args.getD k Xs).at_):=by
 obtain⟨g,c,e,hB,hlt,hc⟩:=Ju h.args (by omega);have hs:=Zei pvs l.args k h.len hk;exact⟨g,c,e,hB,hlt,(hc _ (by omega)).trans hs.1,(hc _ (by omega)).trans hs.2.1,(hc _ (by omega)).trans hs.2.2⟩
theorem Gt.below {w w':World}{B:Nat}{v:Value}{xs:List (Int×Int)}(h:Gt w B v xs)(hb:Below w.heap.size w w'):Gt w' B v xs:=Oy h (Me (o:=none) hb) (fun g _ e=>by cases e)
theorem Gt.heap {w w':World}{B:Nat}{v:Value}{xs:List (Int×Int)}(h:Gt w B v xs)(e:w'.heap=w.heap):Gt w' B v xs:=by
 unfold Gt World.ownsRow at h ⊢;rw [e];exact h
theorem Rv {l:List Int}{c:Int}(h:Jy l c=true):∀ x ∈ l,0≤x∧x<c:=fun x hx=>by
 obtain⟨i,hi,rfl⟩:=List.getElem_of_mem hx;unfold Jy at h;rw [List.all_eq_true] at h;have h2:=h i (List.mem_range.2 hi);unfold Dv at h2;have h3:=of_decide_eq_true h2;rw [Zrx _ _ _ hi] at h3;exact⟨h3.1,h3.2.1⟩
theorem Zjn {a b:List Int}(h:(!Xe a b)=true):∀ x ∈ a,x ∉ b:=fun x hx hb=>by
 have h2:Xe a b=false:=by simpa using h
 unfold Xe at h2;rw [List.any_eq_false] at h2;exact h2 x hx (decide_eq_true hb)
theorem Rn {l:List Int}{i:Nat}(h:i<l.length):l.getD i 0 ∈ l:=by
 rw [List.getD_eq_getElem?_getD,List.getElem?_eq_getElem h];exact List.getElem_mem h
theorem Zoi {T:Zm}(h:Ow T=true):TK T:=by
 unfold Ow Ls at h;simp only [Bool.and_eq_true] at h;obtain⟨⟨h1,h2⟩,h3⟩:=h;unfold Kr at h1;have h1:=of_decide_eq_true h1;unfold Dl at h2;have h2:=of_decide_eq_true h2;unfold Xf at h3;simp only [Bool.and_eq_true] at h3;obtain⟨⟨⟨⟨⟨k1,k2,k3⟩,k4,k5⟩,k6,k7⟩,-⟩,-⟩:=h3;have o:=Rv k1;have osp:=o T.sp (by unfold Yt; split <;> simp);have m1:T.sp ∈ Yt T.sp T.lk T.t0 T.t1:=by unfold Yt; split <;> simp
 have hsp:T.sp=(T.spN:Int):=by unfold Zm.spN; omega
 refine⟨hsp,by omega,h1.2.1,osp.2,h1.2.2.1,?_,fun x hx=>Rv k6 x hx,fun x hx=>?_,fun x hx=>?_,⟨h1.2.2.2.1,h1.2.2.2.2.1,h1.2.2.2.2.2.1⟩,⟨h1.2.2.2.2.2.2.1,h1.2.2.2.2.2.2.2⟩,h1.1,h2.2.2⟩
 ·
  by_cases hl:T.lk=-1
  ·
   exact .inl hl
  ·
   right
   have hm:T.lk ∈ Yt T.sp T.lk T.t0 T.t1:=by unfold Yt; rw [if_neg hl]; simp
   refine⟨(o _ hm).1,(o _ hm).2,fun e=>?_⟩;unfold Jy at k1;rw [List.all_eq_true] at k1;have h3:=k1 3 (List.mem_range.2 (by unfold Yt; rw [if_neg hl]; simp));unfold Dv at h3;have h3:=(of_decide_eq_true h3).2.2;apply h3
   unfold Yt;rw [if_neg hl,e];simp
 ·
  have:=Rv k2 x hx;exact⟨this.1,this.2,fun e=>Zjn k3 x hx (e ▸ m1)⟩
 ·
  have:=Rv k4 x hx;exact⟨this.1,this.2,fun e=>Zjn k5 x hx (e ▸ m1)⟩
def PlK (T:Zm)(size:Int)(p:Int×Int):Prop:=p.1=-1∧0≤p.2∧p.2+8≤size∧p.2 % 8=0∨0≤p.1∧p.1<T.r∧p.1≠T.sp
structure LyK (T:Zm)(ps:List Int)(n:Nat)(l:Yc):Prop where
 args:l.args.length=ps.length
 res:l.res.length=n
 pl:∀ k,k<ps.length→∀ p ∈ (l.args.getD k Xs).pl,PlK T l.size p
 rs:∀ p ∈ l.res,PlK T l.size p
 one:∀ k,k<ps.length→(l.args.getD k Xs).ref=true→(l.args.getD k Xs).pl.length=1∧0<ps.getD k 0∧0≤(l.args.getD k Xs).at_∧(l.args.getD k Xs).at_+8*ps.getD k 0≤l.copies
 all:∀ k,k<ps.length→(l.args.getD k Xs).ref=false→(l.args.getD k Xs).pl.length=(max (ps.getD k 0) 1).toNat
 s0:0≤l.size
 s1:l.size≤1000
 s8:l.size % 8=0
 c0:0≤l.copies
 c1:l.copies≤512
 p8:∀ k,k<ps.length→0≤ps.getD k 0∧ps.getD k 0≤8
theorem Ip {L:Nat}{br:Int}{pr:Bool}{ps:List Int}{sh:Int}(hps:Gu ps 0 8=true)(k:Nat):∀ j,k≤j→j≤ps.length→(Ln L br pr ps sh k).c≤(Ln L br pr ps sh j).c∧(Ln L br pr ps sh k).p≤(Ln L br pr ps sh j).p
 | 0,h,_=>by
  have:k=0:=by omega
  subst this; exact⟨Int.le_refl _,Int.le_refl _⟩
 | j+1,h,hj=>by
  by_cases e:k=j+1
  ·
   subst e; exact⟨Int.le_refl _,Int.le_refl _⟩
  ·
   have ih:=Ip (L:=L) (br:=br) (pr:=pr) (sh:=sh) hps k j (by omega) (by omega);have hk:=Ut hps (k:=j) (by omega);unfold Nf at hk;obtain⟨h0,h8⟩:=of_decide_eq_true hk;have hc:=Zjb (L:=L) (br:=br) (pr:=pr) (s:=Ln L br pr ps sh j) h8;have hp:=Zjc (L:=L) (br:=br) (pr:=pr) (s:=Ln L br pr ps sh j) h0 h8;simp only [Ln];omega
theorem Zoj {L:Nat}{br:Int}{pr:Bool}{ps:List Int}{sh:Int}(h:sh % 8=0):∀ k,(Ln L br pr ps sh k).c % 8=0
 | 0=>h
 | k+1=>by
  have ih:=Zoj (L:=L) (br:=br) (pr:=pr) (ps:=ps) h k;simp only [Ln,Jv];split <;> omega
theorem Of {T:Zm}(hT:TK T){s:List Int×Int}(hs:Mt s):LyK T s.1 s.2.toNat (Zr T s):=by
 obtain⟨ps,n⟩:=s;have hps:=hs.n;have hl:=hs.l;have r0:=hs.r0;have r4:=hs.r4;simp only at hps hl r0 r4;show LyK T ps n.toNat (Zr T (ps,n));have hok:=Zcn (L:=T.ag.length) (br:=T.br) (pr:=T.pairs) (sh:=T.sh) hps;have hnum:∀ k,k<ps.length→0≤ps.getD k 0∧ps.getD k 0≤8:=fun k hk=>by
  have h:=Ut hps (k:=k) hk;unfold Nf at h;exact of_decide_eq_true h
 have hend:=hok ps.length (Nat.le_refl _);have hsh:=hT.sh;have hbr:=hT.br;have e0:=hend.c0;have e1:=hend.c1;have e2:=hend.p0;have e3:=hend.p1;have e8:=Zoj (L:=T.ag.length) (br:=T.br) (pr:=T.pairs) (ps:=ps) hT.sh.2.2 ps.length;have harg:∀ k,k<ps.length→(Zr T (ps,n)).args.getD k Xs=Gx T.ag T.br T.pairs ps T.sh k:=fun k hk=>by simp [Zr,St,List.getD,hk]
 have hsz:(Zr T (ps,n)).size=Yj T.rs (Ln T.ag.length T.br T.pairs ps T.sh ps.length).c n.toNat:=rfl;have hsz1:(Ln T.ag.length T.br T.pairs ps T.sh ps.length).c≤(Zr T (ps,n)).size∧(Zr T (ps,n)).size≤(Ln T.ag.length T.br T.pairs ps T.sh ps.length).c+32∧(Zr T (ps,n)).size % 8=0:=by
  rw [hsz];unfold Yj;omega
 refine⟨by simp [Zr,St],by simp [Zr,St],fun k hk p hp=>?_,fun p hp=>?_,fun k hk hr=>?_,fun k hk hr=>?_,by omega,by omega,hsz1.2.2,e2,by show(Ln T.ag.length T.br T.pairs ps T.sh ps.length).p≤512; omega,hnum⟩
 ·
  rw [harg k hk] at hp;unfold Gx Lx at hp;simp only [List.mem_map,List.mem_range] at hp;obtain⟨i,hi,rfl⟩:=hp;unfold Rc;split
  ·
   rename_i hg;unfold Rb at hg;have hg:=of_decide_eq_true hg;have hx:T.ag.getD (Oq T.pairs (Ox T.br (ps.getD k 0)) (Ln T.ag.length T.br T.pairs ps T.sh k).u+i) 0 ∈ T.ag:=by
    have hlt:Oq T.pairs (Ox T.br (ps.getD k 0)) (Ln T.ag.length T.br T.pairs ps T.sh k).u+i<T.ag.length:=by omega
    exact Rn hlt
   exact .inr (hT.ag _ hx)
  ·
   rename_i hg;left
   have hm:=(Ip (L:=T.ag.length) (br:=T.br) (pr:=T.pairs) (sh:=T.sh) hps (k+1) ps.length (by omega) (Nat.le_refl _)).1;have hstep:(Ln T.ag.length T.br T.pairs ps T.sh (k+1)).c=(Ln T.ag.length T.br T.pairs ps T.sh k).c+8*Ox T.br (ps.getD k 0):=by
    simp only [Ln,Jv];rw [if_neg hg]
   have h8:=Zoj (L:=T.ag.length) (br:=T.br) (pr:=T.pairs) (ps:=ps) hT.sh.2.2 k;have hk0:=(hok k (by omega)).c0;refine⟨rfl,?_,?_,?_⟩ <;> simp only <;> omega
 ·
  simp only [Zr,St,List.mem_map,List.mem_range] at hp;obtain⟨i,hi,rfl⟩:=hp;unfold My;split
  ·
   rename_i hlt;have hx:T.rs.getD i 0 ∈ T.rs:=by
    exact Rn hlt
   exact .inr (hT.rs _ hx)
  ·
   left
   rw [hsz];unfold Yj;refine⟨rfl,?_,?_,?_⟩ <;> simp only <;> omega
 ·
  rw [harg k hk] at hr ⊢;have hlt:T.br<ps.getD k 0:=of_decide_eq_true hr;have hm:=(Ip (L:=T.ag.length) (br:=T.br) (pr:=T.pairs) (sh:=T.sh) hps (k+1) ps.length (by omega) (Nat.le_refl _)).2;have hstep:(Ln T.ag.length T.br T.pairs ps T.sh (k+1)).p=(Ln T.ag.length T.br T.pairs ps T.sh k).p+8*ps.getD k 0:=by
   simp only [Ln,Jv];rw [if_pos hlt]
  have hk0:=(hok k (by omega)).p0;refine⟨?_,by omega,?_,?_⟩
  ·
   simp only [Gx,Lx,List.length_map,List.length_range];unfold Ox;rw [if_pos (.inr hlt)]
  ·
   simp only [Gx,Lx];rw [if_pos hlt];exact hk0
  ·
   simp only [Gx,Lx];rw [if_pos hlt];show _≤(Ln T.ag.length T.br T.pairs ps T.sh ps.length).p;omega
 ·
  rw [harg k hk] at hr ⊢;have hlt:¬ T.br<ps.getD k 0:=of_decide_eq_false hr;have:=hnum k hk;simp only [Gx,Lx,List.length_map,List.length_range];unfold Ox;split <;> omega
theorem Znm (w:World):Calls Tryz.prog 25 #[] w fun e w'=>e=.returned (flt 0 (-1) (-1) (-1))∧Below w.heap.size w w':=by
 go_enter Tryz.func25,Tryz.ntmps25
 go_wp2;go_returns;exact⟨rfl,by go_grown⟩
theorem Znn (n:Int)(w:World):Calls Tryz.prog 20 #[.int .i64 n] w fun e w'=>e=.returned (flt n (-1) (-1) (-1))∧Below w.heap.size w w':=by
 go_enter Tryz.func20,Tryz.ntmps20
 go_wp2;go_returns;exact⟨rfl,by go_grown⟩
end Go.Proofs.YtnlcfnjeagmemaaGreatDoor
