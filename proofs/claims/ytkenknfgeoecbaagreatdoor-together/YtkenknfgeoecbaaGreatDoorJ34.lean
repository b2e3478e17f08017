import Derived.Test.YtkenknfgeoecbaaGreatDoorJ39
import Derived.Test.YtkenknfgeoecbaaGreatDoorJ33
import Derived.Maps.RangeRun
namespace Go.Proofs.YtkenknfgeoecbaaGreatDoor
open Go.RowKit
set_option maxHeartbeats 8000000
set_option maxRecDepth 100000
def Mj (T:Yh)(l:List Yx):Int:=if Ro T=false then 2 else if 64<l.length then 4 else if (Zgf T l&&Zml l)=true then 0 else 6
def Zzj (T:Yh)(l md:List Yx):Prop:=(Mj T l≠0->md=[])∧(Mj T l=0->Ml l T.t0 T.t1∧∃ k,(Ji T.t0 T.t1 k (Jb l)).left=[]∧OrS l T.t0 T.t1 (Ji T.t0 T.t1 k (Jb l))∧md=(Ji T.t0 T.t1 k (Jb l)).made)
theorem Zrf {T:Yh}(h:Ro T=true):0<=T.t0∧0<=T.t1∧T.t0≠T.t1:=by
 unfold Ro Jj at h;simp only [Bool.and_eq_true] at h;obtain⟨-,h3⟩:=h;unfold Gb at h3;simp only [Bool.and_eq_true] at h3;obtain⟨⟨⟨⟨⟨k1,-,-⟩,-,-⟩,-,-⟩,-⟩,-⟩:=h3;have hl:3<=(Yn T.sp T.lk T.t0 T.t1).length:=by unfold Yn; split <;> simp
 have e1:(Yn T.sp T.lk T.t0 T.t1).getD 1 0=T.t0:=by unfold Yn; split <;> rfl
 have e2:(Yn T.sp T.lk T.t0 T.t1).getD 2 0=T.t1:=by unfold Yn; split <;> rfl
 have a1:=Zcv k1 (i:=1) (by omega);have a2:=Zcv k1 (i:=2) (by omega);have a3:=Zux k1 (i:=1) (j:=2) (by omega) (by omega);rw [e1] at a1 a3;rw [e2] at a2 a3;exact⟨a1.1,a2.1,a3⟩
theorem Ydl {T:Yh}{l:List Yx}(ht:Ro T=true)(h1:Zgf T l=true)(h2:Zml l=true):Ml l T.t0 T.t1:=by
 obtain⟨a1,a2,a3⟩:=Zrf ht;unfold Zgf at h1;rw [List.all_eq_true] at h1;have hp:∀ q:Yp,Mi T q=true->q≠(T.t0,0)∧q≠(T.t1,0):=fun q hq=>by
  obtain⟨a,b⟩:=q;by_cases hc:a=-1
  ·subst hc;exact⟨fun e=>by injection e with e _; omega,fun e=>by injection e with e _; omega⟩
  ·rw [Na hc] at hq;have hq:=of_decide_eq_true hq;exact⟨fun e=>by injection e with e _; exact hq.2.2.2.2.1 e,fun e=>by injection e with e _; exact hq.2.2.2.2.2 e⟩
 exact⟨of_decide_eq_true h2,fun p hm=>hp p.1 (Bool.and_eq_true_iff.1 (h1 p hm)).1,fun p hm=>hp p.2 (Bool.and_eq_true_iff.1 (h1 p hm)).2,a3,by omega,by omega⟩
theorem Zzk (T:Yh)(l:List Yx)(lv:Value)(w:World)(hT:TbO w T)(hl:PrS w lv l):Calls Tryz.prog 40 #[.agg #[.int .i64 T.r,.int .i64 T.sp,.int .i64 T.lk,.int .i64 T.t0,.int .i64 T.t1,.slice T.pa T.ag.length T.ca,.slice T.pr T.rs.length T.cr,.slice T.ps T.ss.length T.cs,.int .i64 T.al,.int .i64 T.sh,.int .i64 T.br,.bool T.pairs],lv] w fun e w'=>∃ v md,e=.returned (.tuple #[v,Re (Mj T l)])∧w'.ownsRow w.heap.size 36 4 v md.length (Ri md)∧Zzj T l md∧Below w.heap.size w w':=by
 obtain⟨lp,lc,rfl,hn⟩:=hl.shape;obtain⟨r0,hb0,hz0⟩:=al0 w (.cells #[.int .i64 T.r,.int .i64 T.sp,.int .i64 T.lk,.int .i64 T.t0,.int .i64 T.t1,.slice T.pa T.ag.length T.ca,.slice T.pr T.rs.length T.cr,.slice T.ps T.ss.length T.cs,.int .i64 T.al,.int .i64 T.sh,.int .i64 T.br,.bool T.pairs] 25 (0,0));have HR:=Za r0;have HB:=Za hb0;have HT:=Za hT;have HL:=Za hl;clear r0 hb0 hz0 hT hl;have HNO:=Za (show ∀ V:World,V.ownsRow w.heap.size 36 4 (.slice none 0 0) ([]:List Yx).length (Ri []) from fun V=>World.ownsRow_nil _ _ _ _);go_enter Tryz.func40,Tryz.ntmps40
 go_wp2_with fail
 generalize World.alloc w _=W at HR HB ⊢;refine(Zbh T.r T.sp T.lk T.t0 T.t1 (.slice T.pa T.ag.length T.ca) (.slice T.pr T.rs.length T.cr) (.slice T.ps T.ss.length T.cs) T.al T.sh T.br T.pairs T.ag T.rs T.ss W ((J HT).below (J HB)).a.rs ((J HT).below (J HB)).r.rs ((J HT).below (J HB)).s.rs (J HT).a.cap (J HT).r.cap (J HT).s.cap).mono ?_;rintro e w2 ⟨rfl,hb2⟩;have HB2:=Za (Zd (J HB) hb2 (J HB).size);have HR2:=Za ((hb2.block w.heap.size (Zh (J HR))).trans (J HR));clear hb2 HR;cases ht:Jj T.r T.sp T.lk T.t0 T.t1 T.ag T.rs T.ss T.al T.sh T.br with
 | false=>have HN:=Za (show Mj T l=2 by unfold Mj Ro; rw [ht]; rfl);clear ht;unfold Zgw;go_wp2;go_returns;exact⟨_,[],by rw [J HN]; rfl,J HNO _,⟨fun _=>rfl,fun h=>by rw [J HN] at h; exact absurd h (by decide)⟩,J HB2⟩
 | true =>
  have HTT:=Za (show Ro T=true from ht);clear ht;unfold Zgw;by_cases h64:64<l.length
  ·have HN:=Za (show Mj T l=4 by unfold Mj; rw [J HTT]; simp only [Bool.true_eq_false,if_false]; rw [if_pos h64]);go_wp2;go_returns;exact⟨_,[],by rw [J HN]; rfl,J HNO _,⟨fun _=>rfl,fun h=>by rw [J HN] at h; exact absurd h (by decide)⟩,J HB2⟩
  ·have HN:=Za (show Mj T l=if (Zgf T l&&Zml l)=true then 0 else 6 by unfold Mj; rw [J HTT]; simp only [Bool.true_eq_false,if_false]; rw [if_neg h64]);obtain⟨t0,t1,t2,t3,t4,t5,t6,t7,t8,t9,t10,t11⟩:=cT12 (J HR2);go_wp2_with fail
   clear t0 t1 t2 t3 t4 t5 t6 t7 t8 t9 t10 t11;refine(Zjc T l _ w2 ((J HL).below (J HB2))).mono ?_;rintro e w3 ⟨rfl,hb3⟩;have HB3:=Za (Zd (J HB2) hb3 (J HB2).size);have HR3:=Za ((hb3.block w.heap.size (Zh (J HR2))).trans (J HR2));clear hb3 HR2;cases h1:Zgf T l with
   | false=>have HN2:=Za (show Mj T l=6 by rw [J HN,h1]; rfl);clear h1;go_wp2;go_returns;exact⟨_,[],by rw [J HN2]; rfl,J HNO _,⟨fun _=>rfl,fun h=>by rw [J HN2] at h; exact absurd h (by decide)⟩,J HB3⟩
   | true =>
    have H1:=Za h1;clear h1;go_wp2_with fail
    refine(Zmm l _ w3 ((J HL).below (J HB3)) (by omega)).mono ?_;rintro e w4 ⟨rfl,hb4⟩;have HB4:=Za (Zd (J HB3) hb4 (J HB3).size);have HR4:=Za ((hb4.block w.heap.size (Zh (J HR3))).trans (J HR3));clear hb4 HR3;cases h2:Zml l with
    | false=>have HN2:=Za (show Mj T l=6 by rw [J HN,J H1,h2]; rfl);clear h2;go_wp2;go_returns;exact⟨_,[],by rw [J HN2]; rfl,J HNO _,⟨fun _=>rfl,fun h=>by rw [J HN2] at h; exact absurd h (by decide)⟩,J HB4⟩
    | true =>
     have HN2:=Za (show Mj T l=0 by rw [J HN,J H1,h2]; rfl);have HOK:=Za (Ydl (J HTT) (J H1) h2);clear h2;obtain⟨t0,t1,t2,t3,t4,t5,t6,t7,t8,t9,t10,t11⟩:=cT12 (J HR4);go_wp2_with fail
     clear t0 t1 t2 t3 t4 t5 t6 t7 t8 t9 t10 t11;refine(Yfk T l _ w4 ((J HL).below (J HB4)) (by omega) (J HOK)).mono ?_;rintro e w5 ⟨v,k,rfl,g1,g2,g3,hb5⟩;have HB5:=Za (Zd (J HB4) hb5 (J HB4).size);have HX:=Za (show Zzj T l (Ji T.t0 T.t1 k (Jb l)).made from⟨fun h=>absurd (J HN2) h,fun _=>⟨J HOK,k,g1,g2,rfl⟩⟩);have HG:=Za (Xm g3 (show w.heap.size<=w4.heap.size from(J HB4).size));obtain⟨vp,vc,rfl⟩:=Zx g3;clear g1 g2 g3 hb5;go_wp2;go_returns;exact⟨_,_,by rw [J HN2]; rfl,J HG,J HX,J HB5⟩
theorem Zzl (T:Yh)(l:List Yx)(lv:Value)(w:World)(hT:TbO w T)(hl:PrS w lv l):Calls Tryz.prog 25 #[.agg #[.int .i64 T.r,.int .i64 T.sp,.int .i64 T.lk,.int .i64 T.t0,.int .i64 T.t1,.slice T.pa T.ag.length T.ca,.slice T.pr T.rs.length T.cr,.slice T.ps T.ss.length T.cs,.int .i64 T.al,.int .i64 T.sh,.int .i64 T.br,.bool T.pairs],lv] w fun e w'=>∃ v md,e=.returned (.tuple #[v,Re (Mj T l)])∧w'.ownsRow w.heap.size 36 4 v md.length (Ri md)∧Zzj T l md∧Below w.heap.size w w':=by
 obtain⟨lp,lc,rfl,hn⟩:=hl.shape;obtain⟨r0,hb0,hz0⟩:=al0 w (.cells #[.int .i64 T.r,.int .i64 T.sp,.int .i64 T.lk,.int .i64 T.t0,.int .i64 T.t1,.slice T.pa T.ag.length T.ca,.slice T.pr T.rs.length T.cr,.slice T.ps T.ss.length T.cs,.int .i64 T.al,.int .i64 T.sh,.int .i64 T.br,.bool T.pairs] 25 (0,0));have HB:=Za hb0;have HC:=Za (Zzk T l _ _ (hT.below hb0) (hl.below hb0));clear r0 hb0 hz0 hT hl;go_enter Tryz.func25,Tryz.ntmps25
 go_wp2_with fail
 generalize World.alloc w _=W at HB HC ⊢;refine(J HC).mono ?_;rintro e w2 ⟨v,md,rfl,g1,g2,hb2⟩;have HB2:=Za (Zd (J HB) hb2 (J HB).size);have HG:=Za (Xm g1 (show w.heap.size<=W.heap.size from(J HB).size));have HX:=Za g2;obtain⟨vp,vc,rfl⟩:=Zx g1;obtain⟨en,hen⟩:∃ en,en=Re (Mj T l):=⟨_,rfl⟩;rw [← hen];have HEN:=Za hen;clear g1 g2 hb2 HC hen;go_wp2;go_returns;exact⟨_,md,by rw [← J HEN]; rfl,J HG,J HX,J HB2⟩
theorem Zoq (T:Yh)(l:List Yx)(lv:Value)(w:World)(hE:Zz w)(hT:TbO w T)(hl:PrS w lv l):Calls Tryz.prog 7 #[.agg #[.int .i64 T.r,.int .i64 T.sp,.int .i64 T.lk,.int .i64 T.t0,.int .i64 T.t1,.slice T.pa T.ag.length T.ca,.slice T.pr T.rs.length T.cr,.slice T.ps T.ss.length T.cs,.int .i64 T.al,.int .i64 T.sh,.int .i64 T.br,.bool T.pairs],lv] w fun e w'=>∃ v md,e=.returned (.tuple #[v,Dt (Mj T l) (-1) (-1) (-1)])∧w'.ownsRow w.heap.size 36 4 v md.length (Ri md)∧Zzj T l md∧Below w.heap.size w w':=by
 obtain⟨lp,lc,rfl,hn⟩:=hl.shape;obtain⟨r0,r1,hb0,hz0⟩:=Np w (.cells #[.int .i64 T.r,.int .i64 T.sp,.int .i64 T.lk,.int .i64 T.t0,.int .i64 T.t1,.slice T.pa T.ag.length T.ca,.slice T.pr T.rs.length T.cr,.slice T.ps T.ss.length T.cs,.int .i64 T.al,.int .i64 T.sh,.int .i64 T.br,.bool T.pairs] 25 (0,0)) (.cells #[.int .i64 0,.int .i64 0,.int .i64 0,.int .i64 0] 29 (0,0));have HB:=Za hb0;have HR:=Za r1;have HC:=Za (Zzl T l _ _ (hT.below hb0) (hl.below hb0));have HE:=Za (fun V (hb:Below w.heap.size w V)=>hE.keep hb);clear r0 r1 hb0 hz0 hT hl hE;go_enter Tryz.func7,Tryz.ntmps7
 go_wp2_with fail
 generalize World.alloc (World.alloc w _) _=W at HB HC HR ⊢;refine(J HC).mono ?_;rintro e w2 ⟨v,md,rfl,g1,g2,hb2⟩;have HB2:=Za (Zd (J HB) hb2 (J HB).size);have HR2:=Za ((hb2.block (w.heap.size+1) (Zh (J HR))).trans (J HR));have HG:=Za g1;have HX:=Za g2;have HLT:=Za (Zh (J HR));obtain⟨vp,vc,rfl⟩:=Zx g1;have HF:=Za (show Calls Tryz.prog 26 #[Re (Mj T l)] w2 fun e w'=>e=.returned (Dt (Mj T l) (-1) (-1) (-1))∧Below w2.heap.size w2 w' by
  unfold Re;split
  ·rename_i h;rw [h];exact Ln w2
  ·exact Lo _ w2 (J HE w2 (J HB2)))
 obtain⟨cn,hcn⟩:∃ cn,cn=Mj T l:=⟨_,rfl⟩;rw [← hcn] at HF ⊢;have HCN:=Za hcn;clear g1 g2 hb2 HC hcn;generalize Re cn=en at HF ⊢;go_wp2_with fail
 refine(J HF).mono ?_;rintro e w3 ⟨rfl,hb3⟩;have HB3:=Za (Zd (J HB2) hb3 (J HB2).size);have HR3:=Za ((hb3.block (w.heap.size+1) (Zh (J HR2))).trans (J HR2));have HG3:=Za (Xh (J HG) (Jl (o:=none) hb3) (fun g _ e=>by cases e));clear hb3 HF;unfold Dt;go_wp2_with (refine wpList_store_row rfl 29 (.tmp 5) (.tmp 16) rfl (w.heap.size+1) #[.int .i64 cn,.int .i64 (-1),.int .i64 (-1),.int .i64 (-1)] rfl rfl 29 _ (J HR3) (Tryz.infFltE.trans rfl) rfl (by simp [Value.oneCell']) ?_)
 refine bodyPost_ret (Ni (fn:=Tryz.f7) (u:=4) (q:=5) (uy:=29) rfl _ _ (w.heap.size+1) 29 #[.int .i64 cn,.int .i64 (-1),.int .i64 (-1),.int .i64 (-1)] (0,0) _ rfl (setRow_heap _ _ _ _ _ _ (J HR3)) Tryz.underlying29 rfl (Tryz.infFltE.trans rfl)) rfl ?_;refine⟨_,md,by rw [← J HCN],?_,J HX,Zg (J HB3) (by omega)⟩;exact Xm (Zcb (J HG3) (J HLT) _) (J HB).size
end Go.Proofs.YtkenknfgeoecbaaGreatDoor
namespace Go.Proofs.YtkenknfgeoecbaaGreatDoor
open Go.RowKit Go.MapKept
def MpA {α:Type}(f:α->Value)(o:Obj)(m:List (Yp×α)):Prop:=∃ es ck,o=.map es ck∧MpG f m es.toList∧StE es ck
theorem MpA.new {α:Type}(f:α->Value):MpA f (.map #[] 0) []:=⟨#[],0,rfl,trivial,fun x hx=>(by simp at hx),by simp⟩
theorem Zwe {α:Type}(f:α->Value){t e:TypeId}(ht:Tryz.prog.underlying t=some (.map 34 e)){w:World}{r:Nat}{o:Obj}{m:List (Yp×α)}(hb:w.heap[r]?=some o)(h:MpA f o m)(p:Yp)(v:α) :
 ∃ o',(Instr.mapUpdate t (.map (some r)) (kP p) (f v)).run Tryz.prog w=.ok () { w with heap:=w.heap.setIfInBounds r o' }∧MpA f o' (Nb m p v):=by
 obtain⟨es,ck,rfl,hm,hs⟩:=h;obtain⟨o,h1,h2⟩:=Zbe f p w m es.toList hm;rcases h2 with⟨rfl,hgn,hput⟩ | ⟨j,u,rfl,hgv,hj,⟨x,hx,hk,hxv⟩,hput⟩
 ·refine⟨.map (es.push { key:=kP p,val:=f v,born:=ck }) (ck+1),?_,_,_,rfl,by rw [Array.toList_push]; exact hput v _ rfl rfl,Zcs hs _ _⟩;unfold Instr.mapUpdate;simp only [Sem.run_bind,run_underlying ht,Result.andThen_ok,Go.MapKept.run_getObj_map hb,Il,h1,Go.MapKept.run_setObj_map _ hb]
 ·have hx':es[j]?=some x:=by rw [← Array.getElem?_toList]; exact hx
  refine⟨.map (es.modify j fun e=>{ e with key:=kP p,val:=f v }) ck,?_,_,_,rfl,?_,Oq hs _ _ (fun _=>rfl)⟩
  ·unfold Instr.mapUpdate;simp only [Sem.run_bind,run_underlying ht,Result.andThen_ok,Go.MapKept.run_getObj_map hb,Il,h1,hx',Option.map_some,Option.getD_some,hk,Zjd,Go.MapKept.run_setObj_map _ hb]
  ·rw [Array.toList_modify];exact hput v
theorem Zwf {w:World}{r:Nat}{o:Obj}{m:List (Yp×Yp)}(hb:w.heap[r]?=some o)(h:MpA kP o m)(p:Yp) :
 (Instr.lookup 32 (.map (some r)) (kP p) true).run Tryz.prog w=.ok (.tuple #[kP ((Nw m p).getD (0,0)),.bool (Nw m p).isSome]) w:=by
 obtain⟨es,ck,rfl,hm,-⟩:=h;obtain⟨o,h1,h2⟩:=Zbe kP p w m es.toList hm;have hz:(zeroValue 34).run Tryz.prog w=.ok (kP (0,0)) w:=by kernel_rfl
 unfold Instr.lookup;simp only [Sem.run_bind,run_underlying Tryz.underlying32,Result.andThen_ok,Go.MapKept.run_getObj_map hb,Sem.run_pure,Il,h1];rcases h2 with⟨rfl,e,-⟩ | ⟨j,v,rfl,e,-⟩
 ·simp only [Sem.run_bind,hz,Result.andThen_ok];rw [e];rfl
 ·rw [e];rfl
def stF (m:List (Yp×Yp))(p:Yp):Yp:=(Nw m p).getD p
theorem Yal (m:List (Yp×Yp))(p q v:Yp):stF (Nb m p v) q=if q=p then v else stF m q:=by unfold stF;rw [Zor];split <;> rfl
theorem Yam (l:List Yx)(p:Yx)(m:List (Yp×Yp))(h:∀ q,stF m q=exF l q):∀ q,stF (Nb m p.1 (stF m p.2)) q=exF (l++[p]) q:=fun q=>by
 rw [Yal,Ul,h,h]
theorem Zpj {α:Type}{f:α->Value}:∀{m:List (Yp×α)}{l:List MapEntry},MpG f m l->∀ x ∈ l,∃ p v,(p,v) ∈ m∧x.key=kP p∧x.val=f v
 | [],[],_,x,hx=>by cases hx
 | [],_ :: _,h,_,_=>h.elim
 | _ :: _,[],h,_,_=>h.elim
 | (q,v) :: m,e :: l,h,x,hx=>by
  obtain⟨h1,h2,h3⟩:=h;rcases List.mem_cons.1 hx with rfl | hx
  ·exact⟨q,v,List.mem_cons_self,h1,h2⟩
  ·obtain⟨p,u,hm,a,b⟩:=Zpj h3 x hx;exact⟨p,u,List.mem_cons_of_mem _ hm,a,b⟩
def Zec {α:Type}(m:List (Yp×α)):Prop:=(m.map (·.1)).Nodup
theorem Zka {α:Type}:∀(m:List (Yp×α)) (p:Yp) (v:α),Zec m->Zec (Nb m p v)∧∀ q,q ∈ (Nb m p v).map (·.1)->q ∈ m.map (·.1)∨q=p
 | [],p,v,_=>⟨by simp [Nb,Zec],fun q hq=>by simp [Nb] at hq; exact Or.inr hq⟩
 | (b,u) :: r,p,v,h=>by
  unfold Zec at h;rw [List.map_cons,List.nodup_cons] at h;obtain⟨h1,h2⟩:=h;unfold Nb;by_cases hb:b=p
  ·rw [if_pos hb];refine⟨?_,fun q hq=>Or.inl hq⟩;unfold Zec;rw [List.map_cons,List.nodup_cons];exact⟨h1,h2⟩
  ·rw [if_neg hb];obtain⟨i1,i2⟩:=Zka r p v h2;refine⟨?_,fun q hq=>?_⟩
   ·unfold Zec;rw [List.map_cons,List.nodup_cons];refine⟨fun hm=>?_,i1⟩;rcases i2 b hm with h | h
    ·exact h1 h
    ·exact hb h
   ·rw [List.map_cons] at hq;rcases List.mem_cons.1 hq with rfl | hq
    ·exact Or.inl List.mem_cons_self
    ·rcases i2 q hq with h | h
     ·exact Or.inl (List.mem_cons_of_mem _ h)
     ·exact Or.inr h
theorem Zpk {α:Type}:∀{m:List (Yp×α)},Zec m->∀{p:Yp}{v:α},(p,v) ∈ m->Nw m p=some v
 | [],_,_,_,h=>by cases h
 | (b,u) :: r,hu,p,v,h=>by
  unfold Zec at hu;rw [List.map_cons,List.nodup_cons] at hu;unfold Nw;rcases List.mem_cons.1 h with h | h
  ·injection h with h1 h2;subst h1 h2;rw [if_pos rfl]
  ·rw [if_neg (fun e=>hu.1 (by rw [e]; exact List.mem_map.2 ⟨(p,v),h,rfl⟩))];exact Zpk hu.2 h
def tgK (l:List Yx)(k:Nat)(q:Yp):Int:=if (Mq l q:Int)<=k then Mq l q else 0
section
variable {l:List Yx} {t0 t1:Int}
theorem Zpl (l:List Yx)(q:Yp):Mq l q<=l.length:=by
 unfold Mq;split
 ·rename_i i h;have:=List.mem_range.1 (List.mem_of_find?_eq_some h);omega
 ·omega
theorem Yan (l:List Yx)(q:Yp):tgK l l.length q=Mq l q:=if_pos (by have:=Zpl l q; omega)
theorem Zwg (l:List Yx)(q:Yp):tgK l 0 q=0:=by
 unfold tgK;split
 ·omega
 ·rfl
theorem Zwh (h:Ml l t0 t1){k:Nat}(hk:k<l.length)(q:Yp):tgK l (k+1) q=if q=(l.getD k Yb).1 then (k:Int)+1 else tgK l k q:=by
 have ht:=h.tgt hk;by_cases hq:q=(l.getD k Yb).1
 ·rw [if_pos hq,hq];unfold tgK;rw [ht,if_pos (by omega)];omega
 ·rw [if_neg hq];have hne:Mq l q≠k+1:=fun e=>by
   refine hq ?_;unfold Mq at e;split at e
   ·rename_i i hf;obtain rfl:i=k:=by omega
    have h:=List.find?_some hf;simp only [decide_eq_true_eq] at h;exact h.symm
   ·omega
  unfold tgK;by_cases h1:(Mq l q:Int)<=k
  ·rw [if_pos h1,if_pos (by omega)]
  ·rw [if_neg h1,if_neg (by omega)]
theorem Yao (h:Ml l t0 t1){k:Nat}(hk:k<l.length):tgK l k (l.getD k Yb).1=0:=by unfold tgK;rw [h.tgt hk,if_neg (by omega)]
theorem Zru {k:Nat}(hk:k<l.length):Ot (l.take (k+1))=Ot (l.take k)+Kn (l.getD k Yb):=by unfold Ot;rw [Oo hk,List.map_append,List.sum_append];simp
theorem Zpm (l:List Yx):Ot l<=2*l.length:=by
 unfold Ot;induction l with
 | nil=>simp
 | cons p l ih =>
  rw [List.map_cons,List.sum_cons,List.length_cons];have:Kn p<=2:=by unfold Kn; split; omega; split <;> omega
  omega
theorem Yap {q:Yp}(h:∃ p ∈ l,p.1=q):0<Mq l q:=by
 obtain⟨p,hp,rfl⟩:=h;unfold Mq;split
 ·omega
 ·rename_i hn;rw [List.find?_eq_none] at hn;obtain⟨i,hi,rfl⟩:=List.getElem_of_mem hp;have:=hn i (List.mem_range.2 hi);rw [Mw _ hi] at this;simp at this
end
set_option maxHeartbeats 8000000
set_option maxRecDepth 100000
theorem Zdj {w:World}{r:Nat}{o:Obj}(h:w.heap[r]?=some o):r<w.heap.size:=by
 rcases Nat.lt_or_ge r w.heap.size with h' | h'
 ·exact h'
 ·rw [Array.getElem?_eq_none h'] at h; cases h
theorem Zpn (m:List (Yp×Yp))(p:Yp)(r:Nat)(o:Obj)(w:World)(hr:w.heap[r]?=some o)(hm:MpA kP o m) :
 Calls Tryz.prog 8 #[.map (some r),.agg #[.int .i64 p.1,.int .i64 p.2]] w fun e w'=>e=.returned (.agg #[.int .i64 (stF m p).1,.int .i64 (stF m p).2])∧Below w.heap.size w w':=by
 obtain⟨q0,q1,-,hB0⟩:=Zlu w (.cells #[.int .i64 p.1,.int .i64 p.2] 34 (0,0)) (.cells #[.int .i64 0,.int .i64 0] 34 (0,0));have hl:=Zwf ((hB0.block r (Zdj hr)).trans hr) hm p;unfold kP at hl;have c0:=(cR q0 0);have c1:=(cR q0 1);obtain⟨z,hz⟩:∃ z,z=(Nw m p).getD (0,0):=⟨_,rfl⟩;rw [← hz] at hl;have HST:=Za (show stF m p=if (Nw m p).isSome=true then z else p by unfold stF; rw [hz]; cases Nw m p <;> rfl);obtain⟨b,hb⟩:∃ b,b=(Nw m p).isSome:=⟨_,rfl⟩;rw [← hb] at hl HST;obtain⟨r0,r1,r2,hZ,hB⟩:=Sa w (.cells #[.int .i64 p.1,.int .i64 p.2] 34 (0,0)) (.cells #[.int .i64 0,.int .i64 0] 34 (0,0)) (.cells #[.int .i64 z.1,.int .i64 z.2] 34 (0,0));have HR0:=Za r0;have HR1:=Za r1;have HR2:=Za r2;have HB:=Za hB;clear r0 r1 r2 hB hr hm hz hb q0 q1 hB0 hZ;go_enter Tryz.func8,Tryz.ntmps8
 go_upto_region 2 with fail
 clear c0 c1 hl;generalize World.alloc (World.alloc (World.alloc w _) _) _=W at HR0 HR1 HR2 HB ⊢;have a0:=cR (J HR0) 0;have a1:=cR (J HR0) 1;have d0:=cR (J HR2) 0;have d1:=cR (J HR2) 1;cases b with
 | true =>
  rw [if_pos rfl] at HST;go_wp2_with (refine wpList_store_row rfl 34 _ _ rfl (w.heap.size+1) #[.int .i64 z.1,.int .i64 z.2] rfl rfl 34 _ (J HR1) (Tryz.infPlK.trans rfl) rfl (by simp [Value.oneCell']) ?_)
  refine bodyPost_ret (Jo (fn:=Tryz.f8) (q:=4) (uy:=34) rfl _ _ (w.heap.size+1) 34 #[.int .i64 z.1,.int .i64 z.2] (0,0) _ rfl (setRow_heap _ _ _ _ _ _ (J HR1)) Tryz.underlying34 rfl (Tryz.infPlK.trans rfl)) rfl ?_;exact⟨by rw [J HST],Zg (J HB) (by omega)⟩
 | false =>
  rw [if_neg (by decide)] at HST;go_wp2_with (refine wpList_store_row rfl 34 _ _ rfl (w.heap.size+1) #[.int .i64 p.1,.int .i64 p.2] rfl rfl 34 _ (J HR1) (Tryz.infPlK.trans rfl) rfl (by simp [Value.oneCell']) ?_)
  refine bodyPost_ret (Jo (fn:=Tryz.f8) (q:=4) (uy:=34) rfl _ _ (w.heap.size+1) 34 #[.int .i64 p.1,.int .i64 p.2] (0,0) _ rfl (setRow_heap _ _ _ _ _ _ (J HR1)) Tryz.underlying34 rfl (Tryz.infPlK.trans rfl)) rfl ?_;exact⟨by rw [J HST],Zg (J HB) (by omega)⟩
def rgC (l:List Yx)(k:Nat):Nat:=((List.range k).filter fun i=>rgA l i (l.length+1) i).length
theorem Zwi (l:List Yx)(k:Nat):rgC l (k+1)=rgC l k+(if rgA l k (l.length+1) k=true then 1 else 0):=by
 unfold rgC;rw [List.range_succ,List.filter_append,List.length_append];congr 1
 by_cases h:rgA l k (l.length+1) k=true <;> simp [h]
theorem Zni (l:List Yx)(k:Nat):rgC l k<=k:=by unfold rgC;have:=List.length_filter_le (fun i=>rgA l i (l.length+1) i) (List.range k);rwa [List.length_range] at this
theorem Zwj (p:Yx)(h:¬ p.1=p.2):¬ p.1.1=p.2.1∨(p.1.1=p.2.1∧¬ p.1.2=p.2.2):=by
 by_cases h1:p.1.1=p.2.1
 ·exact Or.inr ⟨h1,fun h2=>h (Prod.ext h1 h2)⟩
 ·exact Or.inl h1
theorem Yaq (l:List Yx)(lp:Option Addr)(lc r:Nat)(o:Obj)(m:List (Yp×Int))(w:World)(hl:PrS w (.slice lp l.length lc) l)(hn:l.length<=64)(hr:w.heap[r]?=some o)(hm:MpO o m)(hg:∀ q,Dc m q=Mq l q) :
 Calls Tryz.prog 10 #[.slice lp l.length lc,.map (some r)] w fun e w'=>e=.returned (.int .i64 (Im l:Nat))∧Below w.heap.size w w':=by
 have HL:=Za hl;have HR:=Za hr;have HM:=Za hm;have HG:=Za hg;clear hl hr hm hg;go_enter Tryz.func10,Tryz.ntmps10
 go_wp2_with fail
 go_loopw [12,5] (fun si sn w'=>∃(i n:Nat),si=.int .i64 i∧sn=.int .i64 (rgC l i:Nat)∧i<=l.length∧w'=w.drewN n) (fun si _ _=>l.length-(intOf si).toNat)
 case atStart=>exact⟨0,0,rfl,rfl,by omega,rfl⟩
 case round =>
  obtain⟨i,n0,rfl,rfl,hi,hw⟩:=hrel;subst hw;have hcl:=Zni l i;by_cases hlt:i<l.length
  ·have HNX:=Za (Zwi l i);obtain⟨cn,hcn⟩:∃ cn,cn=rgC l i:=⟨_,rfl⟩;rw [← hcn] at HNX hcl ⊢;clear hcn;go_wp2_with fail
   go_loopw [7,8,5] (fun sk sj sn w'=>∃(k j n:Nat),sk=.int .i64 k∧sj=.int .i64 j∧sn=.int .i64 (cn:Nat)∧k<l.length∧j<=l.length+1∧rgA l i (l.length+1-j) k=rgA l i (l.length+1) i∧w'=w.drewN n) (fun _ sj _ _=>l.length+1-(intOf sj).toNat)
   case atStart=>exact⟨i,0,n0,rfl,rfl,rfl,hlt,by omega,rfl,rfl⟩
   case round =>
    obtain⟨k,j,n1,rfl,rfl,rfl,hk,hj,hra,hw⟩:=hrel;subst hw;by_cases hjl:j<=l.length
    ·obtain⟨sb,so,rfl,hsb,d0,d1,d2,d3⟩:=(J HL).at hk;have HF:=Za (show rgA l i (l.length+1) i=(if (l.getD k Yb).1=(l.getD k Yb).2 then false else if Mq l (l.getD k Yb).2=i+1 then true else if Mq l (l.getD k Yb).2<=i then false else rgA l i (l.length-j) (Mq l (l.getD k Yb).2-1)) by rw [← hra,show l.length+1-j=(l.length-j)+1 by omega]; rfl);have hlk:∀ n:Nat,(Instr.lookup 38 (.map (some r)) (.agg #[.int .i64 (l.getD k Yb).2.1,.int .i64 (l.getD k Yb).2.2]) false).run Tryz.prog (w.drewN n)=.ok (.int .i64 (Mq l (l.getD k Yb).2)) (w.drewN n):=fun n=>by
      have:=Ga (w:=w.drewN n) (show w.heap[r]?=some o from J HR) (J HM) (l.getD k Yb).2;rw [J HG] at this;exact this
     have htl:=Zpl l (l.getD k Yb).2;clear hra;obtain⟨tg,htg⟩:∃ tg,tg=Mq l (l.getD k Yb).2:=⟨_,rfl⟩;rw [← htg] at HF hlk htl;clear htg;generalize l.getD k Yb=p at d0 d1 d2 d3 HF hlk;by_cases hpe:p.1=p.2
     ·have HX:=Za (show rgA l i (l.length+1) i=false by rw [J HF,if_pos hpe]);rw [← hpe] at d2 d3;clear hpe hlk;go_wp2;go_quiet (fail)
      go_wp2;go_roundw
      case rel=>exact⟨i+1,_,by go_num,by rw [J HNX,J HX]; rfl,by omega,rfl⟩
      case measure=>simp [intOf]; omega
     ·have HF2:=Za (show rgA l i (l.length+1) i=(if tg=i+1 then true else if tg<=i then false else rgA l i (l.length-j) (tg-1)) by rw [J HF,if_neg hpe]);have hor:=Zwj p hpe;clear hpe HF;rcases hor with h1 | ⟨h0,h1⟩;case' inr=>rw [← h0] at d2 hlk;clear h0
      all_goals
       go_wp2_with fail
       go_quiet (fail)
       clear h1;rcases(show tg=i+1∨tg<=i∨i+1<tg by omega) with ht | ht | ht
       ·have HX:=Za (show rgA l i (l.length+1) i=true by rw [J HF2,if_pos ht]);subst ht;have hq:(((i+1:Nat):Int)-1==(i:Int))=true:=by simp
        go_wp2;go_roundw
        case rel=>exact⟨i+1,_,by go_num,by rw [J HNX,J HX]; go_num,by omega,rfl⟩
        case measure=>simp [intOf]; omega
       ·have HX:=Za (show rgA l i (l.length+1) i=false by rw [J HF2,if_neg (by omega),if_pos ht]);have hq:((tg:Int)-1==(i:Int))=false:=by simp; omega
        have hle:(tg:Int)-1<=(i:Int):=by omega
        go_wp2;go_roundw
        case rel=>exact⟨i+1,_,by go_num,by rw [J HNX,J HX]; rfl,by omega,rfl⟩
        case measure=>simp [intOf]; omega
       ·have HX:=Za (show rgA l i (l.length+1) i=rgA l i (l.length-j) (tg-1) by rw [J HF2,if_neg (by omega),if_neg (by omega)]);have hq:((tg:Int)-1==(i:Int))=false:=by simp; omega
        have hle:¬ (tg:Int)-1<=(i:Int):=by omega
        go_wp2;go_roundw
        case rel=>exact⟨tg-1,j+1,_,by go_num,by go_num,rfl,by omega,by omega,by rw [J HX,show l.length+1-(j+1)=l.length-j by omega],rfl⟩
        case measure=>simp [intOf]; omega
    ·obtain rfl:j=l.length+1:=by omega
     have HX:=Za (show rgA l i (l.length+1) i=false by rw [← hra,Nat.sub_self]; rfl);clear hra;have g1:decide (((l.length+1:Nat):Int)<=(l.length:Int))=false:=decide_eq_false (by omega);have g2:decide (l.length+1<=l.length)=false:=decide_eq_false (by omega);have g3:decide (((l.length:Int))+1<=(l.length:Int))=false:=decide_eq_false (by omega);go_wp2;go_quiet (fail)
     go_wp2;go_roundw
     case rel=>exact⟨i+1,_,by go_num,by rw [J HNX,J HX]; rfl,by omega,rfl⟩
     case measure=>simp [intOf]; omega
  ·obtain rfl:i=l.length:=by omega
   go_wp2;go_ret;exact⟨rfl,⟨rfl,rfl,rfl,Nat.le_refl _,fun _ _=>rfl⟩⟩
end Go.Proofs.YtkenknfgeoecbaaGreatDoor
namespace Go.Proofs.YtkenknfgeoecbaaGreatDoor
open Go.RowKit
set_option maxHeartbeats 4000000
set_option maxRecDepth 100000
def Znj:Zm:=⟨[(0,0),(0,1)],1,[5,-1],[],[[⟨3,1,0,1,0,0,[],[]⟩,⟨16,0,0,0,0,0,[],[1]⟩]]⟩
def Yl:Zj:=⟨[Znj],[]⟩
theorem Zwv:∀ f ∈ Yl.funcs,∀ l ∈ f.blocks,∀ i ∈ l,i.op=3∨i.op=16:=by decide
theorem alK (w:World)(o:Obj)(g:Nat)(h:g<w.heap.size):(w.alloc o).heap[g]?=w.heap[g]?:=Gi _ _ _ h
theorem Zad {w:World}{g so:Nat}{cs:Array Value}{t:TypeId}{fr:Nat×Nat}{l:List Value}(h:w.heap[g]?=some (.cells cs t fr))(hl:(cs.toList.drop so).take l.length=l):w.rangeAt g so l:=by
 intro j x hx;rw [Zi h (so+j),← Array.getElem?_toList];have hj:j<l.length:=by
  rcases Nat.lt_or_ge j l.length with h' | h'
  ·exact h'
  ·rw [List.getElem?_eq_none h'] at hx; cases hx
 rw [← hx];conv=>rhs; rw [← hl]
 rw [List.getElem?_take_of_lt hj,List.getElem?_drop]
theorem alN {A:World}{o:Obj}{k:Nat}(h:k=A.heap.size):(A.alloc o).heap[k]?=some o:=h ▸ heap_alloc_new A o
theorem Yga (w:World)(o0 o1 o2 o3 o4 o5 o6:Obj)(V:World)(hV:V=((((((w.alloc o0).alloc o1).alloc o2).alloc o3).alloc o4).alloc o5).alloc o6):V.heap.size=w.heap.size+7∧V.heap[w.heap.size+1]?=some o1∧V.heap[w.heap.size+1+1]?=some o2∧V.heap[w.heap.size+1+1+1]?=some o3∧V.heap[w.heap.size+1+1+1+1]?=some o4∧V.heap[w.heap.size+1+1+1+1+1]?=some o5∧V.heap[w.heap.size+1+1+1+1+1+1]?=some o6:=by
 subst hV;refine⟨by simp,?_,?_,?_,?_,?_,?_⟩
 ·exact(alK _ _ _ (by simp <;> omega)).trans ((alK _ _ _ (by simp <;> omega)).trans ((alK _ _ _ (by simp <;> omega)).trans ((alK _ _ _ (by simp <;> omega)).trans ((alK _ _ _ (by simp <;> omega)).trans (alN (by simp))))))
 ·exact(alK _ _ _ (by simp <;> omega)).trans ((alK _ _ _ (by simp <;> omega)).trans ((alK _ _ _ (by simp <;> omega)).trans ((alK _ _ _ (by simp <;> omega)).trans (alN (by simp)))))
 ·exact(alK _ _ _ (by simp <;> omega)).trans ((alK _ _ _ (by simp <;> omega)).trans ((alK _ _ _ (by simp <;> omega)).trans (alN (by simp))))
 ·exact(alK _ _ _ (by simp <;> omega)).trans ((alK _ _ _ (by simp <;> omega)).trans (alN (by simp)))
 ·exact(alK _ _ _ (by simp <;> omega)).trans (alN (by simp))
 ·exact alN (by simp)
theorem ls0 (size:Nat)(w:World)(A:Nat->Array Value):LS size w (.slice none 0 0) 0 A:=⟨none,0,rfl,Nat.le_refl _,by decide,fun h=>absurd h (by decide)⟩
theorem Yau (w:World):Calls Tryz.prog 19 #[] w fun e w'=>(∃ b A E,e=.returned (.agg #[.slice (some ⟨b,0,none⟩) 1 1,.slice none 0 0])∧Mk w' (.slice (some ⟨b,0,none⟩) 1 1) (.slice none 0 0) Yl A E)∧Below w.heap.size w w':=by
 go_enter Tryz.func19,Tryz.ntmps19
 go_wp2;go_returns;refine⟨⟨_,fun _=>#[.slice (some ⟨w.heap.size+1,0,none⟩) 2 2,.int .i64 1,.slice (some ⟨w.heap.size+1+1,0,none⟩) 2 2,.slice none 0 0,.slice (some ⟨w.heap.size+1+1+1+1+1,0,none⟩) 1 1],fun _=>#[],rfl,?_⟩,by go_grown⟩;obtain⟨hz,r1,r2,r3,r4,r5,r6⟩:=Yga w _ _ _ _ _ _ _ _ rfl;generalize World.alloc _ _=V at hz r1 r2 r3 r4 r5 r6 ⊢;have k2:∀ i,i<2->i=0∨i=1:=fun i hi=>by omega
 have hblk:Zfn V (.slice (some ⟨w.heap.size+1+1+1+1,0,none⟩) 2 2) [⟨3,1,0,1,0,0,[],[]⟩,⟨16,0,0,0,0,0,[],[1]⟩]:=by
  refine⟨fun k=>if k=0 then #[.int .i64 3,.int .i64 1,.int .i64 0,.int .i64 1,.int .u64 0,.int .i64 0,.slice none 0 0,.slice none 0 0] else #[.int .i64 16,.int .i64 0,.int .i64 0,.int .i64 0,.int .u64 0,.int .i64 0,.slice none 0 0,.slice (some ⟨w.heap.size+1+1+1,0,none⟩) 1 1],⟨_,2,rfl,Nat.le_refl _,show(2:Nat)<Jw by decide,fun _=>⟨_,0,rfl,by omega,fun i hi=>?_⟩⟩,fun k hk=>?_⟩
  ·rcases k2 i hi with rfl | rfl
   ·exact Zad r4 rfl
   ·exact Zad r4 rfl
  ·rcases k2 k hk with rfl | rfl
   ·exact⟨_,_,rfl,ls0 _ _ _,Li.nil _⟩
   ·exact⟨_,_,rfl,ls0 _ _ _,Li.new (ns:=[1]) r3 (by decide)⟩
 refine⟨⟨_,1,rfl,Nat.le_refl _,show(1:Nat)<Jw by decide,fun _=>⟨_,0,rfl,by omega,fun i hi=>?_⟩⟩,fun k hk=>?_,ls0 _ _ _,fun k hk=>absurd hk (by simp [Yl])⟩
 ·obtain rfl:i=0:=by simp [Yl] at hi; exact hi
  exact Zad r6 rfl
 ·obtain rfl:k=0:=by simp [Yl] at hk; exact hk
  refine⟨_,_,_,_,fun _=>.slice (some ⟨w.heap.size+1+1+1+1,0,none⟩) 2 2,rfl,⟨_,2,rfl,Nat.le_refl _,show(2:Nat)<Jw by decide,fun _=>⟨_,0,rfl,by omega,fun i hi=>?_⟩⟩,Li.new (ns:=[5,-1]) r2 (by decide),Li.nil _,⟨_,1,rfl,Nat.le_refl _,show(1:Nat)<Jw by decide,fun _=>⟨_,0,rfl,by omega,fun i hi=>?_⟩⟩,fun k hk=>?_⟩
  ·rcases k2 i hi with rfl | rfl
   ·exact Zad r1 rfl
   ·exact Zad r1 rfl
  ·obtain rfl:i=0:=by simp [Yl,Znj] at hi; exact hi
   exact Zad r5 rfl
  ·obtain rfl:k=0:=by simp [Yl,Znj] at hk; exact hk
   exact hblk
theorem Ygw (n f b a:Int)(W:World):(Instr.field 29 (.agg #[.int .i64 n,.int .i64 f,.int .i64 b,.int .i64 a]) 0).run Tryz.prog W=.ok (.int .i64 n) W:=by kernel_rfl
end Go.Proofs.YtkenknfgeoecbaaGreatDoor
