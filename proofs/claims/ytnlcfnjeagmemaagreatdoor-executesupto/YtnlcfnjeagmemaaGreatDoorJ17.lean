import Derived.Test.YtnlcfnjeagmemaaGreatDoorJ12
import Derived.Laws.StructEq
import Derived.Laws.Entries
import Derived.Laws.Sem
import Derived.MapKept
import Derived.Test.YtnlcfnjeagmemaaGreatDoorJ3
import Derived.Test.YtnlcfnjeagmemaaGreatDoorExH
import Derived.Test.YtnlcfnjeagmemaaGreatDoorJ15
import Derived.Test.YtnlcfnjeagmemaaGreatDoorJ31
namespace Go.Proofs.YtnlcfnjeagmemaaGreatDoor
open Go.RowKit Go.MapKept
set_option maxRecDepth 100000
def kA (p:Int×Int×Int):Value:=.agg #[.int .i64 p.1,.int .i64 p.2.1,.int .i64 p.2.2]
theorem Zok (p q:Int×Int×Int)(w:World):(Op.equal 138 (kA p) (kA q)).run Tryz.prog w=.ok (decide (p=q)) w:=by
 obtain⟨a,b,c⟩:=p;obtain⟨a',b',c'⟩:=q;have u3:=Tryz.underlying3;have a3:=Tryz.isAgg3;have z3:=Tryz.sizeOf3;have hS:Tryz.prog.underlying 138=some (.struct (Tryz.prog.fieldsOf 138)):=by kernel_rfl
 have hp:Tryz.prog.stoodInHeld 138=false:=by kernel_rfl
 show(Op.equalIn 10000 _ _ _).run _ _=_;unfold kA;rw [show(10000:Nat)=9999+1 from rfl,run_equalIn_agg w 9999 138 _ _ hS hp];simp only [Program.fieldsOf,Tryz.underlying138];go_simp;by_cases h1:a=a' <;> by_cases h2:b=b' <;> by_cases h3:c=c' <;> simp [h1,h2,h3]
theorem Zjo (p:Int×Int×Int)(e:Bool)(w:World):(Instr.checkKey e 10000 138 (kA p)).run Tryz.prog w=.ok () w:=by
 have u3:=Tryz.underlying3;have a3:=Tryz.isAgg3;have z3:=Tryz.sizeOf3;have hk:∀(v:Int) (n:Nat) (w:World),(Instr.checkKey e (n+1) 3 (.int .i64 v)).run Tryz.prog w=.ok () w:=fun v n w=>by
  unfold Instr.checkKey;simp only [Sem.run_bind,run_underlying u3,Result.andThen];rfl
 unfold kA;rw [show(10000:Nat)=9998+1+1 from rfl,Instr.checkKey];simp only [Sem.run_bind,run_underlying Tryz.underlying138,Result.andThen_ok];go_simp
def MpE (bs:List (Int×Int×Int))(l:List MapEntry)(k:Nat):Prop:=l.length=bs.length∧∀ i (h:i<l.length),l[i].key=kA (bs.getD i (0,0,0))∧l[i].val=.int .u64 ((k+i:Nat):Int)
theorem Zjp (p:Int×Int×Int)(w:World):∀(bs:List (Int×Int×Int)) (l:List MapEntry) (k i:Nat),MpE bs l k→∃ o,(Instr.findAsking 138 (kA p) l i).run Tryz.prog w=.ok o w∧(o=none∧Jh p bs k=0∧p ∉ bs∨∃ j,o=some (j,.int .u64 (Jh p bs k))∧p ∈ bs)
 | [],[],k,i,_=>⟨none,by simp [Instr.findAsking],.inl ⟨rfl,rfl,by simp⟩⟩
 | [],e :: l,k,i,h=>absurd h.1 (by simp)
 | q :: bs,[],k,i,h=>absurd h.1 (by simp)
 | q :: bs,e :: l,k,i,h=>by
  obtain⟨h1,h2⟩:=h;have h0:=h2 0 (by simp);simp only [List.getElem_cons_zero,List.getD_cons_zero,Nat.add_zero] at h0;by_cases hq:q=p
  ·
   refine⟨some (i,e.val),?_,.inr ⟨i,?_,by simp [hq]⟩⟩
   ·
    rw [Instr.findAsking];simp only [Sem.run_bind,h0.1,Zok,Result.andThen_ok];rw [decide_eq_true hq.symm];simp
   ·
    rw [h0.2];unfold Jh;rw [if_pos hq]
  ·
   have ih:=Zjp p w bs l (k+1) (i+1) ⟨by simpa using h1,fun j hj=>by
    have:=h2 (j+1) (by simp; omega);simp only [List.getElem_cons_succ,List.getD_cons_succ] at this;rw [show k+1+j=k+(j+1) by omega];exact this⟩
   obtain⟨o,r1,r2⟩:=ih;refine⟨o,?_,?_⟩
   ·
    rw [Instr.findAsking];simp only [Sem.run_bind,h0.1,Zok,Result.andThen_ok];rw [decide_eq_false (fun e=>hq e.symm)];simpa using r1
   ·
    have e1:Jh p (q :: bs) k=Jh p bs (k+1):=by rw [Jh,if_neg hq]
    rw [e1,show((k:Int)+1)=((k+1:Nat):Int) by omega];rcases r2 with⟨a,b,c⟩ | ⟨j,a,b⟩
    ·
     exact .inl ⟨a,b,by simp; exact⟨fun e=>hq e.symm,c⟩⟩
    ·
     exact .inr ⟨j,a,by simp [b]⟩
theorem Zew (p:Int×Int×Int)(w:World)(bs:List (Int×Int×Int))(l:List MapEntry)(h:MpE bs l 1):∃ o,(Instr.findKey 138 (kA p) l).run Tryz.prog w=.ok o w∧(o=none∧Jh p bs 1=0∧p ∉ bs∨∃ j,o=some (j,.int .u64 (Jh p bs 1))∧p ∈ bs):=by
 obtain⟨o,h1,h2⟩:=Zjp p w bs l 1 0 h;refine⟨o,?_,h2⟩;unfold Instr.findKey;simp only [Sem.run_bind,run_underlying Tryz.underlying138,Result.andThen_ok];cases l with
 | nil =>
  simp only [Instr.findNow];rw [Instr.findAsking] at h1;exact h1
 | cons e l =>
  have:Instr.sameNow (.struct (Tryz.prog.fieldsOf 138)) (kA p) e.key=none:=by
   unfold Instr.sameNow kA;rfl
  simp only [Instr.findNow];exact h1
theorem Zol (p:Int×Int×Int)(w:World)(r ck:Nat)(es:Array MapEntry)(bs:List (Int×Int×Int))(hb:w.heap[r]?=some (.map es ck))(h:MpE bs es.toList 1) :
 (Instr.lookup 134 (.map (some r)) (kA p) false).run Tryz.prog w=.ok (.int .u64 (Jh p bs 1)) w:=by
 obtain⟨o,h1,h2⟩:=Zew p w bs es.toList h;have hz:(zeroValue 62).run Tryz.prog w=.ok (.int .u64 0) w:=by kernel_rfl
 unfold Instr.lookup;simp only [Sem.run_bind,run_underlying Tryz.underlying134,Result.andThen_ok,Go.MapKept.run_getObj_map hb,Sem.run_pure,Zjo,h1];rcases h2 with⟨rfl,e,-⟩ | ⟨j,rfl,-⟩
 ·
  simp only [Sem.run_bind,hz,Result.andThen_ok];rw [e];rfl
 ·
  rfl
theorem Zru (p:Int×Int×Int)(w:World)(r ck:Nat)(es:Array MapEntry)(bs:List (Int×Int×Int))(hb:w.heap[r]?=some (.map es ck))(h:MpE bs es.toList 1)(hp:p ∉ bs)(v:Value) :
 (Instr.mapUpdate 134 (.map (some r)) (kA p) v).run Tryz.prog w=.ok () { w with heap:=w.heap.setIfInBounds r (.map (es.push { key:=kA p,val:=v,born:=ck }) (ck+1)) }:=by
 obtain⟨o,h1,h2⟩:=Zew p w bs es.toList h;rcases h2 with⟨rfl,e,-⟩ | ⟨j,rfl,hh⟩
 ·
  unfold Instr.mapUpdate;simp only [Sem.run_bind,run_underlying Tryz.underlying134,Result.andThen_ok,Go.MapKept.run_getObj_map hb,Zjo,h1,Go.MapKept.run_setObj_map _ hb]
 ·
  exact absurd hh hp
theorem MpE.snoc {bs:List (Int×Int×Int)}{es:Array MapEntry}(h:MpE bs es.toList 1)(p:Int×Int×Int)(ck:Nat):MpE (bs++[p]) (es.push { key:=kA p,val:=.int .u64 ((bs.length+1:Nat):Int),born:=ck }).toList 1:=by
 obtain⟨h1,h2⟩:=h;refine⟨by simp at h1 ⊢; omega,fun i hi=>?_⟩;have h1':es.size=bs.length:=by simpa using h1
 by_cases hk:i<es.size
 ·
  have h3:=h2 i (by simpa using hk);have e1:(es.push { key:=kA p,val:=.int .u64 ((bs.length+1:Nat):Int),born:=ck }).toList[i]=es.toList[i]'(by simpa using hk):=by
   simp [hk]
  rw [e1];have e2:(bs++[p]).getD i (0,0,0)=bs.getD i (0,0,0):=by
   simp [List.getD,List.getElem?_append_left (show i<bs.length by omega)]
  rw [e2];exact h3
 ·
  have hi':i=es.size:=by simp at hi; omega
  subst hi';have e1:(es.push { key:=kA p,val:=.int .u64 ((bs.length+1:Nat):Int),born:=ck }).toList[es.size]={ key:=kA p,val:=.int .u64 ((bs.length+1:Nat):Int),born:=ck }:=by simp
  rw [e1];refine⟨?_,?_⟩
  ·
   rw [h1']; simp [List.getD]
  ·
   rw [h1',Nat.add_comm]
end Go.Proofs.YtnlcfnjeagmemaaGreatDoor
namespace Go.Proofs.YtnlcfnjeagmemaaGreatDoor
open Go.RowKit
set_option maxHeartbeats 4000000
set_option maxRecDepth 100000
theorem Zoh (p:Int×Int×Int):∀(bs:List (Int×Int×Int)) (k:Nat),0≤Jh p bs k∧Jh p bs k≤k+bs.length
 | [],k=>by simp [Jh]
 | q :: r,k=>by
  have:=Zoh p r (k+1);unfold Jh;simp only [List.length_cons];split
  ·
   omega
  ·
   rw [show((k:Int)+1)=((k+1:Nat):Int) by omega];omega
theorem Zvi (p:Int×Int×Int)(bs:List (Int×Int×Int))(h:bs.length<4611686018427387904):0≤Jh p bs 1∧Jh p bs 1<18446744073709551616:=by
 have h2:0≤Jh p bs 1∧Jh p bs 1≤1+bs.length:=Zoh p bs 1;omega
theorem Zjm (W:World){W':World}{B:Nat}{v:Int}(h:W'.heap[W.heap.size]?=some (.cells #[.int .u64 v] 62 (0,0)))(hb:B≤W.heap.size):W'.ownsRow B 62 1 (.slice (some ⟨W.heap.size,0,none⟩) [v].length 1) [v].length (uC [v]):=by
 refine⟨rfl,.inr ⟨W.heap.size,1,#[.int .u64 v],rfl,hb,h,Nat.le_refl _,?_,rfl,rfl⟩⟩;unfold maxLen;omega
section
variable {w:World} {A B N:Nat} {G:Xn} {mb sb:Nat} {m:Zf}
theorem Zcu (h:MR w A B N G mb sb m)(b:Int) :
 Calls Tryz.prog 122 #[.pointer (some ⟨mb,0,none⟩),.int .i64 b] w fun e w'=>(∃ v,e=.returned v)∧MR w' A B N G mb sb ({ m with bk:=b,at_:=0 })∧Kx w.heap.size mb sb w w':=by
 obtain⟨P,es,k⟩:=h;have d1:w.cell? ⟨mb,40,none⟩=some (.int .i64 m.bk):=(cR k.mm.mi 40);have d2:w.cell? ⟨mb,41,none⟩=some (.int .i64 m.at_):=(cR k.mm.mi 41);have z1:=frozen_of_row _ _ 40 _ _ k.mm.mi;have z2:=frozen_of_row _ _ 41 _ _ k.mm.mi;have HM:=Y (Yg (k:=41) (v:=.int .i64 0) (m':=toC G P { m with bk:=b,at_:=0 }) (Yg (k:=40) (v:=.int .i64 b) (m':=toC G P { m with bk:=b }) k.mm.mi rfl) rfl);have HO:=Y (Zx (Zl mb 40 w (.int .i64 b)) (Zl mb 41 _ (.int .i64 0)));have HK:=Y k;clear k;go_enter Tryz.func122,Tryz.ntmps122
 go_wp2;go_returns;exact⟨⟨_,rfl⟩,(O HK).lf (P':=P) (O HO) (O HM) ⟨rfl,rfl,rfl,rfl,.inl ⟨rfl,rfl⟩⟩ rfl (O HK).rb,(O HO).kx⟩
theorem Zvj (h:MR w A B N G mb sb m)(op r a b n wd f:Int) :
 Calls Tryz.prog 101 #[.pointer (some ⟨mb,0,none⟩),.agg #[.int .i64 op,.int .i64 r,.int .i64 a,.int .i64 b,.int .i64 n,.int .i64 wd,.int .i64 f]] w fun e w'=>(∃ v,e=.returned v)∧MR w' A B N G mb sb ({ m with bk:=a,at_:=0 })∧Kx w.heap.size mb sb w w':=by
 obtain⟨r0,hb0,hz0⟩:=Zs w (.cells #[.int .i64 op,.int .i64 r,.int .i64 a,.int .i64 b,.int .i64 n,.int .i64 wd,.int .i64 f] 103 (0,0));have HM:=Y (h.al (.cells #[.int .i64 op,.int .i64 r,.int .i64 a,.int .i64 b,.int .i64 n,.int .i64 wd,.int .i64 f] 103 (0,0)));have HR:=Y r0;have HK:=Y (Gh (a:=mb) (b:=sb) hb0);clear r0 hb0 h;go_enter Tryz.func101,Tryz.ntmps101
 go_upto_region 1 with fail
 generalize World.alloc w _=W at HM HR HK hz0 ⊢;have ca:W.cell? ⟨w.heap.size,2,none⟩=some (.int .i64 a):=(cR (O HR) 2);go_wp2_with fail
 refine(Zcu (O HM) a).mono ?_;rintro e w2 ⟨⟨v2,rfl⟩,h2,x2⟩;have H2:=Y h2;have X2:=Y x2;clear h2 x2;go_wp2;go_returns;exact⟨⟨_,rfl⟩,O H2,(O HK).tr ((O X2).low (show w.heap.size≤W.heap.size by omega))⟩
theorem Zvk (h:MR w A B N G mb sb m)(op a b n wd f:Int)(r:Nat)(hr:r<16) :
 Calls Tryz.prog 102 #[.pointer (some ⟨mb,0,none⟩),.agg #[.int .i64 op,.int .i64 (r:Int),.int .i64 a,.int .i64 b,.int .i64 n,.int .i64 wd,.int .i64 f]] w fun e w'=>(∃ v,e=.returned v)∧MR w' A B N G mb sb ({ m with bk:=if m.rg r=0 then b else a,at_:=0 })∧Kx w.heap.size mb sb w w':=by
 obtain⟨r0,hb0,hz0⟩:=Zs w (.cells #[.int .i64 op,.int .i64 (r:Int),.int .i64 a,.int .i64 b,.int .i64 n,.int .i64 wd,.int .i64 f] 103 (0,0));have HM:=Y (h.al (.cells #[.int .i64 op,.int .i64 (r:Int),.int .i64 a,.int .i64 b,.int .i64 n,.int .i64 wd,.int .i64 f] 103 (0,0)));have HR:=Y r0;have HK:=Y (Gh (a:=mb) (b:=sb) hb0);obtain⟨P,hmi⟩:=(O HM).row;have qr:=((Zd hmi (42+r)).trans (Js _ r hr):_=some (Value.int .u64 (m.rg r)));have ur:(r:Int)<16:=by omega
 clear r0 hb0 h hmi;go_enter Tryz.func102,Tryz.ntmps102
 go_upto_region 1 with fail
 generalize World.alloc w _=W at HM HR HK hz0 qr ⊢;have cr:W.cell? ⟨w.heap.size,1,none⟩=some (.int .i64 (r:Int)):=(cR (O HR) 1);have ca:W.cell? ⟨w.heap.size,2,none⟩=some (.int .i64 a):=(cR (O HR) 2);have cb:W.cell? ⟨w.heap.size,3,none⟩=some (.int .i64 b):=(cR (O HR) 3);go_quiet (fail)
 by_cases hz:m.rg r=0
 ·
  have hb:(m.rg r != (0:Int))=false:=by simpa using hz
  go_wp2_with fail
  refine(Zcu ((O HM).dr _) b).mono ?_;rintro e w2 ⟨⟨v2,rfl⟩,h2,x2⟩;have H2:=Y h2;have X2:=Y x2;clear h2 x2;go_wp2;go_returns;try rw [if_pos hz]
  exact⟨⟨_,rfl⟩,O H2,((O HK).dr _).tr ((O X2).low (show w.heap.size≤W.heap.size by omega))⟩
 ·
  have hb:(m.rg r != (0:Int))=true:=by simpa using hz
  go_wp2_with fail
  refine(Zcu ((O HM).dr _) a).mono ?_;rintro e w2 ⟨⟨v2,rfl⟩,h2,x2⟩;have H2:=Y h2;have X2:=Y x2;clear h2 x2;go_wp2;go_returns;try rw [if_neg hz]
  exact⟨⟨_,rfl⟩,O H2,((O HK).dr _).tr ((O X2).low (show w.heap.size≤W.heap.size by omega))⟩
theorem Zvl (h:MR w A B N G mb sb m)(op r a b n wd f:Int)(F fc:Nat)(fp:Option Addr)(hf:G.cf=.slice fp F fc) :
 Calls Tryz.prog 104 #[.pointer (some ⟨mb,0,none⟩),.agg #[.int .i64 op,.int .i64 r,.int .i64 a,.int .i64 b,.int .i64 n,.int .i64 wd,.int .i64 f]] w fun e w'=>(∃ v,e=.returned v)∧MR w' A B N G mb sb ((m.enter F f).1)∧Kx w.heap.size mb sb w w':=by
 obtain⟨r0,hb0,hz0⟩:=Zs w (.cells #[.int .i64 op,.int .i64 r,.int .i64 a,.int .i64 b,.int .i64 n,.int .i64 wd,.int .i64 f] 103 (0,0));have HM:=Y (h.al (.cells #[.int .i64 op,.int .i64 r,.int .i64 a,.int .i64 b,.int .i64 n,.int .i64 wd,.int .i64 f] 103 (0,0)));have HR:=Y r0;have HK:=Y (Gh (a:=mb) (b:=sb) hb0);clear r0 hb0 h;go_enter Tryz.func104,Tryz.ntmps104
 go_upto_region 1 with fail
 generalize World.alloc w _=W at HM HR HK hz0 ⊢;have cf:W.cell? ⟨w.heap.size,6,none⟩=some (.int .i64 f):=(cR (O HR) 6);go_wp2_with fail
 refine(Zev (O HM) F fc fp hf f).mono ?_;rintro e w2 ⟨rfl,h2,x2⟩;have H2:=Y h2;have X2:=Y x2;clear h2 x2;go_wp2;go_returns;exact⟨⟨_,rfl⟩,O H2,(O HK).tr ((O X2).low (show w.heap.size≤W.heap.size by omega))⟩
theorem Zvm (h:MR w A B N G mb sb m)(op r a b n wd f:Int) :
 Calls Tryz.prog 105 #[.pointer (some ⟨mb,0,none⟩),.agg #[.int .i64 op,.int .i64 r,.int .i64 a,.int .i64 b,.int .i64 n,.int .i64 wd,.int .i64 f]] w fun e w'=>(∃ v,e=.returned v)∧(∃ N',MR w' A B N' G mb sb (m.endK 2 [IntKind.u64.wrap n]))∧Kx w.heap.size mb sb w w':=by
 obtain⟨r0,hb0,hz0⟩:=Zs w (.cells #[.int .i64 op,.int .i64 r,.int .i64 a,.int .i64 b,.int .i64 n,.int .i64 wd,.int .i64 f] 103 (0,0));have HM:=Y (h.al (.cells #[.int .i64 op,.int .i64 r,.int .i64 a,.int .i64 b,.int .i64 n,.int .i64 wd,.int .i64 f] 103 (0,0)));have HR:=Y r0;have HK:=Y (Gh (a:=mb) (b:=sb) hb0);clear r0 hb0 h;go_enter Tryz.func105,Tryz.ntmps105
 go_upto_region 1 with fail
 generalize World.alloc w _=W at HM HR HK hz0 ⊢;have cn:W.cell? ⟨w.heap.size,4,none⟩=some (.int .i64 n):=(cR (O HR) 4);have HZ:=Y hz0;clear hz0;have HB:=Y (show B≤W.heap.size from(O HM).bd.2.2.2.2);obtain⟨r1,hb1,hz1⟩:=Zs W (.cells #[.int .u64 (IntKind.u64.wrap n)] 62 (0,0));have HX:=Y (Gh (a:=mb) (b:=sb) hb1);have HE:=Y (Zjk ((O HM).al (.cells #[.int .u64 (IntKind.u64.wrap n)] 62 (0,0))) 2 (some ⟨W.heap.size,0,none⟩) 1 [IntKind.u64.wrap n] (Zjm W r1 (O HB)));clear r1 hb1 hz1;go_wp2_with fail
 refine(O HE).mono ?_;rintro e w2 ⟨⟨v2,rfl⟩,h2,x2⟩;have H2:=Y h2;have X2:=Y ((O HX).tw x2);clear h2 x2;go_wp2;go_returns;have hz0:=O HZ;exact⟨⟨_,rfl⟩,⟨_,O H2⟩,(O HK).tr ((O X2).low (show w.heap.size≤W.heap.size by omega))⟩
end
set_option maxHeartbeats 4000000
set_option maxRecDepth 100000
section
variable {w:World} {A B N:Nat} {G:Xn} {mb sb:Nat} {m:Zf}
theorem Zhw (h:MR w A B N G mb sb m)(hT:TK G.T)(op r a b n wd f:Int)(F fc:Nat)(fp:Option Addr)(hf:G.cf=.slice fp F fc)(rr ck:Nat)(es:Array MapEntry)(bs:List (Int×Int×Int))(hnu:G.nu=.map (some rr))(hmp:w.heap[rr]?=some (.map es ck))(hpe:MpE bs es.toList 1)(hbl:bs.length<4611686018427387904) :
 Calls Tryz.prog 99 #[.pointer (some ⟨mb,0,none⟩),.agg #[.int .i64 op,.int .i64 r,.int .i64 a,.int .i64 b,.int .i64 n,.int .i64 wd,.int .i64 f]] w fun e w'=>(∃ v,e=.returned v)∧MR w' A B N G mb sb ((m.call G.T F f (Jh (m.f,m.bk,m.at_) bs 1)).1)∧Kx w.heap.size mb sb w w':=by
 obtain⟨r0,hb0,hz0⟩:=Zs w (.cells #[.int .i64 op,.int .i64 r,.int .i64 a,.int .i64 b,.int .i64 n,.int .i64 wd,.int .i64 f] 103 (0,0));have HM:=Y (h.al (.cells #[.int .i64 op,.int .i64 r,.int .i64 a,.int .i64 b,.int .i64 n,.int .i64 wd,.int .i64 f] 103 (0,0)));have HR:=Y r0;have HK:=Y (Gh (a:=mb) (b:=sb) hb0);obtain⟨P,hmi⟩:=(O HM).row;have CN:=Y (((Zd hmi 38).trans (congrArg some hnu)):_=some (Value.map (some rr)));have P0:=Y (((cR hmi 39)):_=some (Value.int .i64 m.f));have P1:=Y (((cR hmi 40)):_=some (Value.int .i64 m.bk));have P2:=Y (((cR hmi 41)):_=some (Value.int .i64 m.at_));have HMP:=Y ((hb0.block rr (Zc hmp)).trans hmp);have HPE:=Y hpe;have HNB:=Y (Zvi (m.f,m.bk,m.at_) bs hbl);clear hnu hmp hpe;clear r0 hb0 h hmi;go_enter Tryz.func99,Tryz.ntmps99
 go_upto_region 1 with fail
 generalize World.alloc w _=W at HM HR HK hz0 CN P0 P1 P2 HMP ⊢;have cf:W.cell? ⟨w.heap.size,6,none⟩=some (.int .i64 f):=(cR (O HR) 6);have cn:W.cell? ⟨mb,38,none⟩=some (Value.map (some rr)):=O CN;have p0:W.cell? ⟨mb,39,none⟩=some (.int .i64 m.f):=O P0;have p1:W.cell? ⟨mb,40,none⟩=some (.int .i64 m.bk):=O P1;have p2:W.cell? ⟨mb,41,none⟩=some (.int .i64 m.at_):=O P2;have HLK:∀ k,(Instr.lookup 134 (.map (some rr)) (.agg #[.int .i64 m.f,.int .i64 m.bk,.int .i64 m.at_]) false).run Tryz.prog (W.drewN k)=.ok (.int .u64 (Jh (m.f,m.bk,m.at_) bs 1)) (W.drewN k):=fun k=>Zol (m.f,m.bk,m.at_) (W.drewN k) rr ck es bs (O HMP) (O HPE);refine Zh (C:=fun V=>∃ k,V=W.drewN k) (d:=13) (by kernel_rfl) ?_;change Ye _ _ _ _ _ _ _ _ _ (W.drewN 1)
 refine vE 0 ?_;refine vE 1 ?_;refine vE 2 ?_;refine vE 3 ?_;refine vE 4 ?_;refine vE 5 ?_;refine vE 6 ?_;refine vE 7 ?_;refine vE 8 ?_;refine vE 9 ?_;refine vE 10 ?_;refine vE 11 ?_;refine vE 12 ?_;refine vO 13 fun K hK=>?_;go_simp;refine(Zjl ((O HM).dr 1) hT F fc fp hf f _ (O HNB)).mono ?_;rintro e w2 ⟨rfl,h2,x2⟩;have H2:=Y h2;have X2:=Y x2;clear h2 x2;refine kO hK (fun hx=>by cases hx) ?_;clear hK K;refine Zi (by kernel_rfl) ?_ _;go_returns;exact⟨⟨_,rfl⟩,O H2,((O HK).dr _).tr ((O X2).low (show w.heap.size≤W.heap.size by omega))⟩
end
set_option maxHeartbeats 4000000
set_option maxRecDepth 100000
theorem Zty (m:Xn):∀ i,i<16→m.row[63+i]?=some (.int .u64 (m.Z i))
 | 0,_=>rfl
 | 1,_=>rfl
 | 2,_=>rfl
 | 3,_=>rfl
 | 4,_=>rfl
 | 5,_=>rfl
 | 6,_=>rfl
 | 7,_=>rfl
 | 8,_=>rfl
 | 9,_=>rfl
 | 10,_=>rfl
 | 11,_=>rfl
 | 12,_=>rfl
 | 13,_=>rfl
 | 14,_=>rfl
 | 15,_=>rfl
 | n+16,h=>absurd h (by omega)
section
variable {w:World} {A B N:Nat} {G:Xn} {mb sb:Nat} {m:Zf}
theorem Zma (h:MR w A B N G mb sb m)(hT:TK G.T)(hS:Lj w A (.slice G.T.ps G.T.ss.length G.T.cs) G.T.ss) :
 Calls Tryz.prog 135 #[.pointer (some ⟨mb,0,none⟩)] w fun e w'=>e=.returned (.bool (Ma G.T G.Z m))∧∃ k,w'=w.drewN k:=by
 obtain⟨P,hmi⟩:=h.row;have c7:w.cell? ⟨mb,7,none⟩=some (.slice G.T.ps G.T.ss.length G.T.cs):=(cR hmi 7);have HM:=Y h;have HMI:=Y hmi;have HS:=Y hS;have hls:=hT.ls;have hSS:=Y hT.ss;have r16:=hT.r16;clear h hmi hS;go_enter Tryz.func135,Tryz.ntmps135
 go_wp2;go_loopw [11] (fun s11 w'=>∃ k:Nat,s11=.int .i64 k∧k≤G.T.ss.length∧(∃ j,w'=w.drewN j)∧(G.T.ss.take k).all (fun r=>decide (m.rg r.toNat=G.Z r.toNat))=true) (fun s11 _=>G.T.ss.length-(intOf s11).toNat)
 case atStart=>exact⟨0,rfl,by omega,⟨0,rfl⟩,by simp⟩
 case round =>
  obtain⟨k,rfl,hk,⟨j,hj⟩,hall⟩:=hrel;subst hj;have HA:=Y hall;clear hall;by_cases hlt:k<G.T.ss.length
  ·
   obtain⟨g,so,hp,hgA,hc⟩:=(O HS).at hlt;rw [hp];have hck:=hc k hlt;have hin:=O hSS _ (Rn hlt);obtain⟨r,hr⟩:∃ r:Nat,G.T.ss.getD k 0=r:=⟨(G.T.ss.getD k 0).toNat,by omega⟩;have HTK:=Y (show(G.T.ss.take (k+1)).all (fun r=>decide (m.rg r.toNat=G.Z r.toNat))=decide (m.rg r=G.Z r) by
    rw [List.take_succ_eq_append_getElem hlt,List.all_append,O HA];have hg:G.T.ss[k]=r:=by rw [← hr]; simp [List.getD,hlt]
    simp [hg])
   have HF:=Y (fun(hne:¬ m.rg r=G.Z r)=>show Ma G.T G.Z m=false by
    unfold Ma;rw [show G.T.ss.all (fun r=>decide (m.rg r.toNat=G.Z r.toNat))=false from by
     rw [List.all_eq_false];refine⟨G.T.ss.getD k 0,Rn hlt,?_⟩;rw [hr];simpa using hne]
    rfl)
   rw [hr] at hck hin;have hr16:r<16:=by omega
   have hr1:(r:Int)<16:=by omega
   have q1:w.cell? ⟨mb,42+r,none⟩=some (.int .u64 (m.rg r)):=(Zd (O HMI) (42+r)).trans (Js _ r hr16);have q2:w.cell? ⟨mb,63+r,none⟩=some (.int .u64 (G.Z r)):=(Zd (O HMI) (63+r)).trans (Zty _ r hr16);clear hc hr hin hp c7;go_upto_region 4 with fail
   go_quiet (fail)
   by_cases hne:m.rg r=G.Z r
   ·
    have hb:(m.rg r != G.Z r)=false:=by simpa using hne
    go_wp2;go_roundw
    case rel=>exact⟨k+1,by go_num,by omega,⟨_,rfl⟩,by rw [O HTK]; exact decide_eq_true hne⟩
    case measure=>simp [intOf]; omega
   ·
    have hb:(m.rg r != G.Z r)=true:=by simpa using hne
    go_wp2;go_ret;rw [O HF hne];exact⟨rfl,j+nq,by rw [World.drewN_drewN]⟩
  ·
   have hkn:k=G.T.ss.length:=by omega
   subst hkn;have HQ:=Y (show Ma G.T G.Z m=decide (m.sp G.T=G.Z G.T.spN) by
    unfold Ma;have:=O HA;rw [List.take_length] at this;rw [this];rfl)
   have hs16:=hT.s16;have hs1:(G.T.spN:Int)<16:=by omega
   have e1:w.cell? ⟨mb,1,none⟩=some (.int .i64 (G.T.spN:Int)):=by rw [← hT.sp]; exact(cR (O HMI) 1)
   have q2:w.cell? ⟨mb,63+G.T.spN,none⟩=some (.int .u64 (G.Z G.T.spN)):=(Zd (O HMI) (63+G.T.spN)).trans (Zty _ _ hs16);clear c7;go_upto_region 7 with fail
   have e1':(w.drewN j).cell? ⟨mb,1,none⟩=some (.int .i64 (G.T.spN:Int)):=e1;have q2':(w.drewN j).cell? ⟨mb,63+G.T.spN,none⟩=some (.int .u64 (G.Z G.T.spN)):=q2;clear e1 q2;have HMU:=Y ((O HM).dr j);generalize hU:w.drewN j=U at HMU e1' q2' ⊢;have HU:=Y hU;clear hU;refine wp_region_held_drew (S:=fun V=>∃ k,V=U.drewN k) (by kernel_rfl) ⟨1,rfl⟩ (fun _=>?_);change wpAnyH _ _ _ _ _ _ _ _ (U.drewN 1)
   refine tE 0 ?_;refine tE 2 ?_;refine tE 3 ?_;refine tE 4 ?_;refine tE 5 ?_;refine tE 6 ?_;refine tE 7 ?_;refine tE 8 ?_;refine tE 9 ?_;refine tE 10 ?_;refine tE 11 ?_;refine tO 1 fun K hK=>?_;go_simp;refine(Ns ((O HMU).dr 1) hT).mono ?_;rintro e w1 ⟨rfl,k1,hw1⟩;subst w1;rw [World.drewN_drewN];refine hK.out _ _ ⟨1+k1,rfl⟩ (fun _=>?_);clear hK K;change wpAnyH _ _ _ _ _ _ _ _ (U.drewN (1+k1))
   try simp only [Act.put,zA,zB,zC,zD,zE,zF]
   refine tE 12 ?_;refine tE 13 ?_;refine wpAnyH_done (by kernel_rfl) ?_ _;go_wp2;go_ret;rw [O HQ];refine⟨?_,j+(1+k1),?_⟩
   ·
    rfl
   ·
    rw [← O HU,World.drewN_drewN]
end
theorem Rm {w2 w7:World}{N:Nat}{v:Value}{X:Obj}(hN:N≤w2.heap.size)(how:∀ g,v.ownBlock=some g→N≤g)(hg:(w2.alloc X).grownBy w7 v.ownBlock):Below N w2 w7:=by
 obtain⟨-,hb,hz⟩:=Zs w2 X;exact⟨hg.os.trans hb.os,hg.tape.trans hb.tape,hg.output.trans hb.output,Nat.le_trans hb.size hg.size,fun q hq=>(hg.block q (by omega) (fun e=>by have:=how q e.symm; omega)).trans (hb.block q (by omega))⟩
theorem Yh {w:World}{B B' e size n:Nat}{v:Value}{xs:List Value}(h:w.ownsRow B e size v n xs)(hB:B'≤B):w.ownsRow B' e size v n xs:=by
 refine⟨h.1,?_⟩;rcases h.2 with hn | ⟨g,cap,cur,hv,hb,rest⟩
 ·
  exact .inl hn
 ·
  exact .inr ⟨g,cap,cur,hv,Nat.le_trans hB hb,rest⟩
theorem Je {l:List (Int×Int)}{i:Nat}(h:i<l.length):l.getD i (0,0) ∈ l:=by
 rw [List.getD_eq_getElem?_getD,List.getElem?_eq_getElem h];exact List.getElem_mem h
theorem Io (T:Zm):∀(ps:List (Int×Int)) (m:Zf) (acc:List Int) (k:Nat),k<ps.length→Ya T m (ps.take (k+1)) acc=(((Ya T m (ps.take k) acc).1.read T (ps.getD k (0,0))).1,(Ya T m (ps.take k) acc).2++[((Ya T m (ps.take k) acc).1.read T (ps.getD k (0,0))).2.getD 0])
 | p :: r,m,acc,0,_=>by simp [Ya]
 | p :: r,m,acc,k+1,h=>by
  have:=Io T r (m.read T p).1 (acc++[(m.read T p).2.getD 0]) k (by simpa using h);simpa [Ya] using this
theorem Uw (T:Zm):∀(ps:List (Int×Int)) (m:Zf) (acc:List Int),(Ya T m ps acc).2.length=acc.length+ps.length
 | [],m,acc=>by simp [Ya]
 | p :: r,m,acc=>by
  rw [Ya,Uw T r];simp
  omega
section
variable {w:World} {A B N:Nat} {G:Xn} {mb sb:Nat} {m:Zf}
theorem Zmb (h:MR w A B N G mb sb m)(hT:TK G.T)(hS:Lj w A (.slice G.T.ps G.T.ss.length G.T.cs) G.T.ss)(own:Yc)(L:Nat)(hR:Gt w L G.or_ own.res)(hmL:mb<L)(hsL:sb<L)(hpl:∀ p ∈ own.res,PlK G.T own.size p)(hn:own.res.length≤4) :
 Calls Tryz.prog 124 #[.pointer (some ⟨mb,0,none⟩)] w fun e w'=>(∃ v,e=.returned v)∧(∃ N',MR w' A B N' G mb sb (Yw G.T own G.Z m))∧Kx w.heap.size mb sb w w':=by
 obtain⟨ti,hti,hty0,hty1,hty2⟩:=Yr Tryz.infoU64;have HK:=Y (Zma h hT hS);have HM:=Y h;have hnb:=h.nb;have hbd:=h.bd;clear hS h;go_enter Tryz.func124,Tryz.ntmps124
 go_wp2_with fail
 refine(O HK).mono ?_;rintro e w1 ⟨rfl,k1,hw1⟩;subst w1;clear HK;cases hk:Ma G.T G.Z m with
 | false =>
  have HQ:=Y (show Yw G.T own G.Z m=m.fault 5 by unfold Yw; rw [if_neg (by rw [hk]; decide)]);go_wp2_with fail
  refine(Ri ((O HM).dr k1) 5).mono ?_;rintro e w2 ⟨⟨v2,rfl⟩,h2,x2⟩;have H2:=Y h2;have X2:=Y x2;clear h2 x2;go_wp2;go_returns;rw [O HQ];exact⟨⟨_,rfl⟩,⟨_,O H2⟩,((Kx.rf _ _ _ w).dr k1).tr (O X2)⟩
 | true =>
  have HQ:=Y (show Yw G.T own G.Z m=(Ya G.T m own.res []).1.endK 1 (Ya G.T m own.res []).2 by unfold Yw; rw [if_pos hk]);have HR:=Y hR;obtain⟨P,hmi⟩:=(O HM).row;obtain⟨rp,rc,hrv⟩:=Ze hR;have c60:w.cell? ⟨mb,60,none⟩=some (.slice rp own.res.length rc):=by rw [← hrv]; exact(cR hmi 60)
  have HV:=Y hrv;have HPL:=Y hpl;clear hmi hk hR hrv hpl;go_wp2_with fail
  go_loopw [18,2] (fun s18 s2 V=>∃(k:Nat) (v:Value),s18=.int .i64 k∧s2=v∧k≤own.res.length∧V.ownsRow w.heap.size 62 1 v k (uC (Ya G.T m (own.res.take k) []).2)∧MR V A B w.heap.size G mb sb (Ya G.T m (own.res.take k) []).1∧Kx w.heap.size mb sb w V) (fun s18 _ _=>own.res.length-(intOf s18).toNat)
  case atStart=>exact⟨0,_,rfl,rfl,by omega,World.ownsRow_nil _ _ _ _,((O HM).dr k1).up hnb.2 (Nat.le_refl _),(Kx.rf _ _ _ w).dr k1⟩
  case round =>
   obtain⟨k,v0,rfl,rfl,hk,how,hmr,hkx⟩:=hrel;obtain⟨vp,vc,rfl⟩:=Ze how;by_cases hk2:k<own.res.length
   ·
    have hR2:Gt wr L G.or_ own.res:=Xi (O HR) hkx (fun g hg=>((O HR).lt g hg).2) hmL hsL;obtain⟨g,cg,e1,hLg,d0,d1⟩:=Gv hR2 hk2;rw [O HV] at e1;injection e1 with f1 f2 f3;subst f1;have hpk:=O HPL _ (Je hk2);have HNX:=Y (Io G.T own.res m [] k hk2);have hln:(Ya G.T m (own.res.take k) []).2.length=k:=by rw [Uw]; simp; omega
    generalize own.res.getD k (0,0)=p at d0 d1 hpk HNX;obtain⟨pa,pb⟩:=p;simp only at d0 d1;have hpa:pa=-1∨0≤pa∧pa<16:=by
     have:=hT.r16;rcases hpk with h | h <;> simp only at h <;> omega
    obtain⟨acc,hacc⟩:∃ l,l=(Ya G.T m (own.res.take k) []).2:=⟨_,rfl⟩;obtain⟨ms,hms⟩:∃ s,s=(Ya G.T m (own.res.take k) []).1:=⟨_,rfl⟩;rw [← hacc] at how hln HNX;rw [← hms] at hmr HNX;have HOW:=Y how;have HMR:=Y hmr;have HKX:=Y hkx;have hzr:=hkx.size;clear how hmr hkx f2 f3 hR2 hacc hms hpk c60;obtain⟨hra,hba,hsa⟩:=Zs wr (.cells #[.int .i64 pa,.int .i64 pb] 91 (0,0));have HMA:=Y ((O HMR).al (.cells #[.int .i64 pa,.int .i64 pb] 91 (0,0)));have HRA:=Y hra;have HBA:=Y hba;have HSA:=Y hsa;clear hra hba hsa;go_wp2_with fail
    refine(Zct (O HMA) hT pa pb hpa).mono ?_;rintro e w2 ⟨rfl,h2,x2⟩;have HM2:=Y h2;have HOW2:=Y (Xi (Xi (O HOW) (Gh (a:=mb) (b:=sb) (O HBA)) (fun g hg=>((O HOW).lt g hg).2) (by omega) (by omega)) x2 (fun g hg=>by have:=((O HOW).lt g hg).2; have:=O HSA; omega) (by omega) (by omega));have hz2:=x2.size;have hz2':wr.heap.size≤w2.heap.size:=by have:=O HSA; omega
    have HK2:=Y ((O HKX).tr (((Gh (a:=mb) (b:=sb) (O HBA)).low hzr).tr (x2.low (by have:=O HSA; omega))));clear h2 x2 hz2 HOW HMA HRA HBA HSA d0 d1;obtain⟨y,hy⟩:∃ y,y=(ms.read G.T (pa,pb)).2.getD 0:=⟨_,rfl⟩;unfold Ly;rw [← hy] at HNX ⊢;clear hy;go_wp2_with (at_builtin; refine wpList_append_own _ rfl _ _ 33 rfl w.heap.size 62 ti _ 1 8 Tryz.underlying33 hti hty0 hty1 hty2 rfl (by decide) _ _ _ rfl (World.ownsRow.alloc (O HOW2) _) ⟨w2.heap.size,0,none⟩ 1 1 [.int .u64 y] rfl rfl (by intro j u hj; match j,hj with | 0,hj=>(simp at hj; subst hj; simp [Addr.add])) (by intro u hu; simp at hu; subst hu; rfl) ?c3 ?c4 ?c5 ?_)
    case c3=>unfold maxLen; omega
    case c4=>omega
    case c5=>first | omega | (simp; omega)
    intro v7 w7 hown7 hgr7 _;have hb7:Below w.heap.size w2 w7:=Rm (by omega) (fun g hg=>((O HOW2).lt g hg).1) hgr7;have HX:=Y (show w7.ownsRow w.heap.size 62 1 v7 (k+1) (uC (Ya G.T m (own.res.take (k+1)) []).2) by rw [O HNX,Rx]; exact hown7);have HM7:=Y (show MR w7 A B w.heap.size G mb sb (Ya G.T m (own.res.take (k+1)) []).1 by rw [O HNX]; exact(O HM2).kn (Gh hb7) (hb7.block mb (by omega)) (hb7.block sb (by omega)));have HK7:=Y ((O HK2).tr (Gh (a:=mb) (b:=sb) hb7));clear hown7 hgr7 hb7 HOW2 HM2 HK2 HNX;go_wp2;go_roundw
    case rel=>exact⟨k+1,_,by go_num,rfl,by omega,O HX,O HM7,O HK7⟩
    case measure=>simp [intOf]; omega
   ·
    have hkn:k=own.res.length:=by omega
    subst hkn;rw [List.take_length] at how hmr;have hln:(Ya G.T m own.res []).2.length=own.res.length:=by rw [Uw]; simp
    rw [← hln] at how;have HOW:=Y how;have HE:=Y (Zjk (hmr.up (hkx.size) (Nat.le_refl _)) 1 vp vc (Ya G.T m own.res []).2 (Yh (by rw [hln] at how ⊢; exact how) hbd.2.2.2.2));have HK2:=Y hkx;rw [hln] at HE;clear how hmr hkx c60;go_wp2_with fail
    refine(O HE).mono ?_;rintro e w2 ⟨⟨v2,rfl⟩,h2,x2⟩;have H2:=Y h2;have X2:=Y ((O HK2).tr (x2.low (O HK2).size));clear h2 x2;go_wp2;go_returns;rw [O HQ];exact⟨⟨_,rfl⟩,⟨_,O H2⟩,O X2⟩
end
set_option maxHeartbeats 4000000
set_option maxRecDepth 100000
def Nt (bs:List (Int×Int×Int)):List Value:=bs.flatMap fun p=>[.int .i64 p.1,.int .i64 p.2.1,.int .i64 p.2.2]
theorem Zex:∀(bs:List (Int×Int×Int)) (k:Nat),k<bs.length→(Nt bs)[k*3]?=some (.int .i64 (bs.getD k (0,0,0)).1)∧(Nt bs)[k*3+1]?=some (.int .i64 (bs.getD k (0,0,0)).2.1)∧(Nt bs)[k*3+2]?=some (.int .i64 (bs.getD k (0,0,0)).2.2)
 | a :: r,0,_=>⟨rfl,rfl,rfl⟩
 | a :: r,k+1,h=>by
  have ih:=Zex r k (by simpa using h);have e:Nt (a :: r)=[.int .i64 a.1,.int .i64 a.2.1,.int .i64 a.2.2]++Nt r:=rfl;have q:∀ i,(Nt (a :: r))[(k+1)*3+i]?=(Nt r)[k*3+i]?:=fun i=>by
   rw [e,List.getElem?_append_right (by simp; omega)];congr 1
   simp
   omega
  refine⟨?_,?_,?_⟩
  ·
   have:=q 0;simp only [Nat.add_zero] at this;rw [this,ih.1];simp [List.getD]
  ·
   rw [q 1,ih.2.1];simp [List.getD]
  ·
   rw [q 2,ih.2.2];simp [List.getD]
theorem Zvn {w:World}{B:Nat}{v:Value}{bs:List (Int×Int×Int)}(h:w.ownsRow B 138 3 v bs.length (Nt bs)){k:Nat}(hk:k<bs.length):∃ g c,v=.slice (some ⟨g,0,none⟩) bs.length c∧v.ownBlock=some g∧w.cell? ⟨g,k*3,none⟩=some (.int .i64 (bs.getD k (0,0,0)).1)∧w.cell? ⟨g,k*3+1,none⟩=some (.int .i64 (bs.getD k (0,0,0)).2.1)∧w.cell? ⟨g,k*3+2,none⟩=some (.int .i64 (bs.getD k (0,0,0)).2.2):=by
 rcases h.2 with⟨-,e0⟩ | ⟨g,cap,cur,hv,-⟩
 ·
  rw [e0] at hk; cases hk
 ·
  subst hv;have hc:=h.cells (g:=g) rfl;obtain⟨p0,p1,p2⟩:=Zex bs k hk;have c0:=hc _ _ p0;have c1:=hc _ _ p1;have c2:=hc _ _ p2;simp only [Addr.add_mid,Nat.zero_add] at c0 c1 c2;exact⟨g,cap,rfl,rfl,c0,c1,c2⟩
theorem Zvo {w w':World}{B N a b e size n:Nat}{v:Value}{xs:List Value}{s t:TypeId}{c d:Array Value}(h:w.ownsRow B e size v n xs)(k:Kx N a b w w')(hn:∀ g,v.ownBlock=some g→g<N)(ha:w.heap[a]?=some (.cells c s (0,0)))(hb:w.heap[b]?=some (.cells d t (0,0)))(h1:e≠s)(h2:e≠t):w'.ownsRow B e size v n xs :=
 Yn h fun g hg=>by
  obtain⟨cs,hr⟩:=Jg h hg;exact k.oth g (hn g hg) (Jf hr ha h1) (Jf hr hb h2)
theorem MR.stk {w:World}{A B N:Nat}{G:Xn}{mb sb:Nat}{m:Zf}(h:MR w A B N G mb sb m):∃ cs,w.heap[sb]?=some (.cells cs 5 (0,0)):=by
 obtain⟨P,es,k⟩:=h;exact⟨_,k.mm.mem⟩
theorem Gy {w w':World}{A N a b:Nat}{v:Value}{ns:List Int}(h:Lj w A v ns)(k:Kx N a b w w')(hN:A≤N)(ha:A≤a)(hb:A≤b):Lj w' A v ns:=by
 rcases h with h | ⟨g,so,cap,hv,hg,hc⟩
 ·
  exact .inl h
 ·
  exact .inr ⟨g,so,cap,hv,hg,fun i hi=>(Yp (k.oth g (by omega) (by omega) (by omega))).trans (hc i hi)⟩
theorem Zrv {w:World}{A B N:Nat}{G:Xn}{mb sb:Nat}{m:Zf}(h:MR w A B N G mb sb m):∀ n,(m.takeN G.T).2=some n→0≤n∧n<18446744073709551616:=fun n hn=>by
 unfold Zf.takeN at hn;split at hn
 ·
  split at hn
  ·
   simp only at hn;split at hn
   ·
    unfold Zf.load at hn;split at hn
    ·
     simp only [Option.some.injEq] at hn;rw [← hn];exact ldX h.byt _ _ (by decide)
    ·
     cases hn
   ·
    cases hn
  ·
   cases hn
 ·
  simp only [Option.some.injEq] at hn;rw [← hn];exact h.rb _
section
variable {w:World} {A B N:Nat} {G:Xn} {mb sb:Nat} {m:Zf}
theorem Zya (h:MR w A B N G mb sb m)(hT:TK G.T)(hS:Lj w A (.slice G.T.ps G.T.ss.length G.T.cs) G.T.ss)(own:Yc)(L:Nat)(hR:Gt w L G.or_ own.res)(hmL:mb<L)(hsL:sb<L)(hpl:∀ p ∈ own.res,PlK G.T own.size p)(hn4:own.res.length≤4)(C:Zk)(LB:Nat)(hbe:w.ownsRow LB 138 3 G.be (Zg C).length (Nt (Zg C)))(hbl:(Zg C).length<4611686018427387904)(op r a b n wd f:Int) :
 Calls Tryz.prog 103 #[.pointer (some ⟨mb,0,none⟩),.agg #[.int .i64 op,.int .i64 r,.int .i64 a,.int .i64 b,.int .i64 n,.int .i64 wd,.int .i64 f]] w fun e w'=>(∃ v,e=.returned v)∧(∃ N',MR w' A B N' G mb sb (Mz G.T C own G.Z m))∧Kx w.heap.size mb sb w w':=by
 obtain⟨r0,hb0,hz0⟩:=Zs w (.cells #[.int .i64 op,.int .i64 r,.int .i64 a,.int .i64 b,.int .i64 n,.int .i64 wd,.int .i64 f] 103 (0,0));have HK:=Y (Gh (a:=mb) (b:=sb) hb0);have HT:=Y (Zoe (h.al (.cells #[.int .i64 op,.int .i64 r,.int .i64 a,.int .i64 b,.int .i64 n,.int .i64 wd,.int .i64 f] 103 (0,0))) hT);have HRB:=Y h.rb;have hbd:=h.bd;obtain⟨P,hmi⟩:=h.row;obtain⟨sc0,hsi⟩:=h.stk;have HBE:=Y (fun(V:World) (k:Kx w.heap.size mb sb w V)=>Zvo hbe k (fun g hg=>(hbe.lt g hg).2) hmi hsi (by decide) (by decide));have HS:=Y (fun(V:World) (k:Kx w.heap.size mb sb w V)=>show Lj V A (.slice G.T.ps G.T.ss.length G.T.cs) G.T.ss from Gy hS k (by omega) hbd.1 hbd.2.1);have HR:=Y (fun(V:World) (k:Kx w.heap.size mb sb w V)=>show Gt V L G.or_ own.res from Xi hR k (fun g hg=>(hR.lt g hg).2) hmL hsL);have HTB:=Y (Zrv h);obtain⟨bp,bc,hbv⟩:=Ze hbe;have HBV:=Y hbv;clear r0 hb0 h hmi hsi hbe hS hR hbv;go_enter Tryz.func103,Tryz.ntmps103
 go_wp2_with fail
 generalize World.alloc w _=W at HK HT hz0 ⊢;refine(O HT).mono ?_;rintro e w1 ⟨⟨v1,rfl,n1,rfl,hn1⟩,h1,x1⟩;have HM1:=Y h1;have HK1:=Y ((O HK).tr (x1.low (by omega)));clear h1 x1 HT HK;generalize W.heap.size=ws at hz0;cases ht:(m.takeN G.T).2 with
 | none =>
  have HQ:=Y (show Mz G.T C own G.Z m=(m.takeN G.T).1 by unfold Mz; rw [show m.takeN G.T=((m.takeN G.T).1,none) from by rw [← ht]]);simp only [Option.isSome_none];go_wp2;go_returns;rw [O HQ];exact⟨⟨_,rfl⟩,⟨_,O HM1⟩,O HK1⟩
 | some x =>
  have hn1:=hn1 x ht;subst hn1;have hxb:=O HTB n1 ht;simp only [Option.isSome_some];by_cases h0:n1=0
  ·
   subst h0;have HQ:=Y (show Mz G.T C own G.Z m=Yw G.T own G.Z (m.takeN G.T).1 by unfold Mz; rw [show m.takeN G.T=((m.takeN G.T).1,some 0) from by rw [← ht]]; rfl);go_wp2_with fail
   refine(Zmb (O HM1) hT (O HS _ (O HK1)) own L (O HR _ (O HK1)) hmL hsL hpl hn4).mono ?_;rintro e w2 ⟨⟨v2,rfl⟩,h2,x2⟩;have H2:=Y h2;have X2:=Y ((O HK1).tr (x2.low (O HK1).size));clear h2 x2;go_wp2;go_returns;rw [O HQ];exact⟨⟨_,rfl⟩,O H2,O X2⟩
  ·
   have hb0:(n1==(0:Int))=false:=by simpa using h0
   obtain⟨P1,es1,k1⟩:=O HM1;have c37:w1.cell? ⟨mb,37,none⟩=some (.slice bp (Zg C).length bc):=by rw [← O HBV]; exact(cR k1.mm.mi 37)
   have hwl:IntKind.u64.wrap ((Zg C).length:Int)=(Zg C).length:=by
    have:IntKind.u64.wrap ((Zg C).length:Int)=((Zg C).length:Int) % 18446744073709551616:=by simp [IntKind.wrap,IntKind.bits,IntKind.signed]
    omega
   by_cases hg:((Zg C).length:Int)<n1
   ·
    have HQ:=Y (show Mz G.T C own G.Z m=(m.takeN G.T).1.fault 4 by unfold Mz; rw [show m.takeN G.T=((m.takeN G.T).1,some n1) from by rw [← ht]]; simp only; rw [if_neg h0,if_pos hg]);clear k1;go_wp2_with fail
    refine(Ri (O HM1) 4).mono ?_;rintro e w2 ⟨⟨v2,rfl⟩,h2,x2⟩;have H2:=Y h2;have X2:=Y ((O HK1).tr (x2.low (O HK1).size));clear h2 x2;go_wp2;go_returns;rw [O HQ];exact⟨⟨_,rfl⟩,⟨_,O H2⟩,O X2⟩
   ·
    have HQ:=Y (show Mz G.T C own G.Z m={ (m.takeN G.T).1 with f:=((Zg C).getD (n1.toNat-1) (0,0,0)).1,bk:=((Zg C).getD (n1.toNat-1) (0,0,0)).2.1,at_:=((Zg C).getD (n1.toNat-1) (0,0,0)).2.2 } by unfold Mz; rw [show m.takeN G.T=((m.takeN G.T).1,some n1) from by rw [← ht]]; simp only; rw [if_neg h0,if_neg hg]);obtain⟨j,hj⟩:∃ j:Nat,n1=(j:Int)+1:=⟨n1.toNat-1,by omega⟩;subst hj;have hjl:j<(Zg C).length:=by omega
    obtain⟨g,gc,hv,-,d0,d1,d2⟩:=Zvn (O HBE _ (O HK1)) hjl;rw [O HBV] at hv;injection hv with f1 f2 f3;subst f1;rw [show((j:Int)+1).toNat-1=j by omega] at HQ;generalize (Zg C).getD j (0,0,0)=p at d0 d1 d2 HQ;obtain⟨pf,pb,pa⟩:=p;simp only at d0 d1 d2;have hw1:IntKind.u64.wrap ((j:Int)+1-1)=j:=by
     have:IntKind.u64.wrap ((j:Int)+1-1)=((j:Int)+1-1) % 18446744073709551616:=by simp [IntKind.wrap,IntKind.bits,IntKind.signed]
     omega
    have b0:w1.cell? ⟨mb,39,none⟩=some (.int .i64 (m.takeN G.T).1.f):=(cR k1.mm.mi 39);have b1:w1.cell? ⟨mb,40,none⟩=some (.int .i64 (m.takeN G.T).1.bk):=(cR k1.mm.mi 40);have b2:w1.cell? ⟨mb,41,none⟩=some (.int .i64 (m.takeN G.T).1.at_):=(cR k1.mm.mi 41);have z0:=frozen_of_row _ _ 39 _ _ k1.mm.mi;have z1:=frozen_of_row _ _ 40 _ _ k1.mm.mi;have z2:=frozen_of_row _ _ 41 _ _ k1.mm.mi;have HMI:=Y (Yg (k:=41) (v:=.int .i64 pa) (m':=toC G P1 { (m.takeN G.T).1 with f:=pf,bk:=pb,at_:=pa }) (Yg (k:=40) (v:=.int .i64 pb) (m':=toC G P1 { (m.takeN G.T).1 with f:=pf,bk:=pb }) (Yg (k:=39) (v:=.int .i64 pf) (m':=toC G P1 { (m.takeN G.T).1 with f:=pf }) k1.mm.mi rfl) rfl) rfl);have HO:=Y (Zx (Zx (Zl mb 39 w1 (.int .i64 pf)) (Zl mb 40 _ (.int .i64 pb))) (Zl mb 41 _ (.int .i64 pa)));have HKP:=Y k1;clear k1 f2 f3 ht hg h0;go_wp2;go_returns;rw [O HQ];exact⟨⟨_,rfl⟩,⟨_,(O HKP).lf (P':=P1) (O HO) (O HMI) ⟨rfl,rfl,rfl,rfl,.inl ⟨rfl,rfl⟩⟩ rfl (O HKP).rb⟩,(O HK1).tr (O HO).kx⟩
end
set_option maxHeartbeats 4000000
set_option maxRecDepth 100000
theorem Zbq (m:Zf)(a k:Int)(h:(m.load a k).2.isSome=true):(m.load a k).1=m:=by
 unfold Zf.load at h ⊢;split
 ·
  rfl
 ·
  rename_i hx;rw [if_neg hx] at h;cases h
theorem Zbr (T:Zm)(m:Zf)(p:Int×Int)(h:(m.read T p).2.isSome=true):(m.read T p).1=m:=by
 unfold Zf.read at h ⊢;split
 ·
  rename_i hx;rw [if_pos hx] at h;exact Zbq _ _ _ h
 ·
  rfl
theorem Sw (T:Zm)(m:Zf)(x:Xm)(n:Nat)(h:(m.wordOf T x n).2.isSome=true):(m.wordOf T x n).1=m:=by
 unfold Zf.wordOf at h ⊢;split
 ·
  rename_i hx;rw [if_pos hx] at h;exact Zbr _ _ _ h
 ·
  rename_i hx;rw [if_neg hx] at h;split
  ·
   rename_i hy;rw [if_pos hy] at h;rw [Zbr _ _ _ hy] at h ⊢;exact Zbq _ _ _ h
  ·
   rename_i hy;rw [if_neg hy] at h;cases h
section
variable {w:World} {A B N:Nat} {G:Xn} {mb sb:Nat} {m:Zf}
theorem Zmc (h:MR w A B N G mb sb m)(hT:TK G.T)(x:Xm)(pv:Value)(L:Nat)(size:Int)(hP:Gt w L pv x.pl)(hmL:mb<L)(hsL:sb<L)(hpl:∀ p ∈ x.pl,PlK G.T size p)(n:Nat)(hn:x.ref=false→n<x.pl.length)(hr:x.ref=true→0<x.pl.length)(hn8:n≤8) :
 Calls Tryz.prog 134 #[.pointer (some ⟨mb,0,none⟩),.agg #[pv,.bool x.ref,.int .i64 x.at_],.int .i64 (n:Int)] w fun e w'=>e=.returned (Ly (m.wordOf G.T x n).2)∧MR w' A B N G mb sb (m.wordOf G.T x n).1∧Kx w.heap.size mb sb w w':=by
 obtain⟨xp,xr,xa⟩:=x;simp only at hP hpl hn hr ⊢;have hbd:=h.bd;obtain⟨r0,hb0,hz0⟩:=Zs w (.cells #[pv,.bool xr,.int .i64 xa] 87 (0,0));have HM:=Y (h.al (.cells #[pv,.bool xr,.int .i64 xa] 87 (0,0)));have HK:=Y (Gh (a:=mb) (b:=sb) hb0);have HP:=Y (Xi hP (Gh (a:=mb) (b:=sb) hb0) (fun g hg=>(hP.lt g hg).2) hmL hsL);obtain⟨pp,pc,rfl⟩:=Ze hP;have HPL:=Y (fun(k:Nat) (hk:k<xp.length)=>show(xp.getD k (0,0)).1=-1∨0≤(xp.getD k (0,0)).1∧(xp.getD k (0,0)).1<16 by
  have h1:=hpl _ (Je hk);have:=hT.r16;rcases h1 with h | h <;> omega)
 have c0:=((cR r0 0):_=some (Value.slice pp xp.length pc));have c1:=((cR r0 1):_=some (Value.bool xr));clear r0 hb0 h hP hpl;cases xr with
 | false =>
  have hk:=hn rfl;have HQ:=Y (show m.wordOf G.T ⟨xp,false,xa⟩ n=m.read G.T (xp.getD n (0,0)) from rfl);have hpk:=O HPL n hk;obtain⟨g,cg,e1,hLg,d0,d1⟩:=Gv (O HP) hk;injection e1 with f1 f2 f3;subst f1;generalize xp.getD n (0,0)=p at d0 d1 hpk HQ;obtain⟨pa,pb⟩:=p;simp only at d0 d1 hpk;clear hn hr f2 f3;go_enter Tryz.func134,Tryz.ntmps134
  go_upto_region 1 with fail
  generalize World.alloc w _=W at HM HK HP hz0 c0 c1 d0 d1 ⊢;go_wp2_with fail
  refine(Zct (O HM) hT pa pb hpk).mono ?_;rintro e w2 ⟨rfl,h2,x2⟩;have H2:=Y h2;have X2:=Y ((O HK).tr (x2.low (by omega)));clear h2 x2;unfold Ly;go_wp2;go_ret2;rw [O HQ];exact⟨rfl,O H2,O X2⟩
 | true =>
  have hk:=hr rfl;have hpk:=O HPL 0 hk;have HQ:=Y (show m.wordOf G.T ⟨xp,true,xa⟩ n=(if (m.read G.T (xp.getD 0 (0,0))).2.isSome=true then (m.read G.T (xp.getD 0 (0,0))).1.load (IntKind.u64.wrap ((m.read G.T (xp.getD 0 (0,0))).2.getD 0+8*n)) 8 else ((m.read G.T (xp.getD 0 (0,0))).1,none)) from rfl);obtain⟨g,cg,e1,hLg,d0,d1⟩:=Gv (O HP) hk;injection e1 with f1 f2 f3;subst f1;generalize xp.getD 0 (0,0)=p at d0 d1 hpk HQ;obtain⟨pa,pb⟩:=p;simp only [Nat.zero_mul,Nat.zero_add] at d0 d1 hpk;clear hn hr f2 f3;go_enter Tryz.func134,Tryz.ntmps134
  go_upto_region 1 with fail
  generalize World.alloc w _=W at HM HK HP hz0 c0 c1 d0 d1 ⊢;go_wp2_with fail
  refine(Zct (O HM) hT pa pb hpk).mono ?_;rintro e w2 ⟨rfl,h2,x2⟩;have H2:=Y h2;have X2:=Y ((O HK).tr (x2.low (by omega)));clear h2 x2 c0 c1 d0 d1;unfold Ly;cases hz:(m.read G.T (pa,pb)).2 with
  | none =>
   simp only [Option.isSome_none,Option.getD_none];go_wp2;go_ret2;rw [O HQ,if_neg (by rw [hz]; decide)];exact⟨rfl,O H2,O X2⟩
  | some y =>
   simp only [Option.isSome_some,Option.getD_some];have hwk:IntKind.i64.wrap (8*(n:Int))=8*(n:Int):=by rw [IntKind.wrap_i64]; omega
   have hwu:IntKind.u64.wrap (8*(n:Int))=8*(n:Int):=by
    have:IntKind.u64.wrap (8*(n:Int))=(8*(n:Int)) % 18446744073709551616:=by simp [IntKind.wrap,IntKind.bits,IntKind.signed]
    omega
   go_wp2_with fail
   refine(Cl (O H2) _ 8).mono ?_;rintro e w3 ⟨rfl,h3,x3⟩;have H3:=Y h3;have X3:=Y ((O X2).tr (x3.low (O X2).size));clear h3 x3;unfold Ly;go_wp2;go_ret2;rw [O HQ,if_pos (by rw [hz]; rfl),hz];exact⟨rfl,O H3,O X3⟩
end
end Go.Proofs.YtnlcfnjeagmemaaGreatDoor
