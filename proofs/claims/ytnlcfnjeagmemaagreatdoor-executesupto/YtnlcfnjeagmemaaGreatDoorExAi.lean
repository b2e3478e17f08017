import Derived.Test.YtnlcfnjeagmemaaGreatDoorJ3
import Derived.Test.YtnlcfnjeagmemaaGreatDoorJ26
namespace Go.Proofs.YtnlcfnjeagmemaaGreatDoor
open Go.RowKit
set_option maxHeartbeats 4000000
set_option maxRecDepth 100000
theorem Tryz.infOutX:(Tryz.prog.info? 41).map (·.size)=some 6:=by kernel_rfl
theorem Jx {P:Program}{fn:Func}{p q:Tmp}{px:TypeId}(h:fn.results=#[.cell p px,.tmp q])(tmps:Array Value)(w:World)(g:Nat)(t:TypeId)(cs:Array Value)(fr:Nat×Nat)(d:TypeDesc)
 (hp:tmps.getD p undef=.pointer (some ⟨g,0,none⟩)) (hg:w.heap[g]?=some (.cells cs t fr)) (hu:P.underlying px=some d) (hd:(match d with | .struct _ | .array _ _=>true | _=>false)=true) (hi:(P.info? px).map (·.size)=some cs.size) :
 (results fn tmps).run P w=.ok (.tuple #[.agg cs,tmps.getD q undef]) w:=by
 have e1:tmps[p]?.getD undef=.pointer (some ⟨g,0,none⟩):=by simpa using hp
 simp [results,h,e1,asAddr,run_loadVar_row w g t px cs fr d hg hu hd hi]
def Zlz (n:Int):Value:=if n=0 then .nilIface else .iface 105 (.int .i64 n)
def Zhq (C:Zk)(f:Int)(ws:List Int):Bool:=decide (0≤f∧f<C.funcs.length)&&decide (ws.length=Yl (C.sigs.getD f.toNat ([],0)).1)
def Lv (T:Zm)(C:Zk)(f:Int)(ws:List Int)(n st:Int):Int:=if Ow T=false then 2 else if (Sv C&&(Zhq C f ws&&(Zaw n&&decide (0≤st∧st≤4194304))))=false then 6 else 0
def exG (T:Zm)(C:Zk)(f:Int)(ws sc:List Int)(n st:Nat):Zf :=
 if (Gf T (Zr T (C.sigs.getD f.toNat ([],0))) (C.sigs.getD f.toNat ([],0)).1 ws (Mk n sc)).2=true then
  (if ((Gf T (Zr T (C.sigs.getD f.toNat ([],0))) (C.sigs.getD f.toNat ([],0)).1 ws (Mk n sc)).1.call T C.funcs.length f 0).2=true then
   On T C (Zr T (C.sigs.getD f.toNat ([],0))) (Gf T (Zr T (C.sigs.getD f.toNat ([],0))) (C.sigs.getD f.toNat ([],0)).1 ws (Mk n sc)).1.rg st ((Gf T (Zr T (C.sigs.getD f.toNat ([],0))) (C.sigs.getD f.toNat ([],0)).1 ws (Mk n sc)).1.call T C.funcs.length f 0).1
  else ((Gf T (Zr T (C.sigs.getD f.toNat ([],0))) (C.sigs.getD f.toNat ([],0)).1 ws (Mk n sc)).1.call T C.funcs.length f 0).1)
 else (Gf T (Zr T (C.sigs.getD f.toNat ([],0))) (C.sigs.getD f.toNat ([],0)).1 ws (Mk n sc)).1
def zM:Zf:=⟨0,0,0,fun _=>0,[],[],[],0,0,0,0,[]⟩
def Lc (T:Zm)(C:Zk)(f:Int)(ws sc:List Int)(n st:Int):Zf:=if Lv T C f ws n st=0 then exG T C f ws sc n.toNat st.toNat else zM
def Zcr (w:World)(T:Zm)(C:Zk)(f:Int)(ws sc:List Int)(n st:Int)(e:Ending)(w':World):Prop:=∃ vv tv es,e=.returned (.tuple #[.agg #[.int .i64 (Lc T C f ws sc n st).kind,vv,.int .i64 (Lc T C f ws sc n st).code,tv,.int .i64 (Lc T C f ws sc n st).steps,.int .i64 (Lc T C f ws sc n st).pk],Zlz (Lv T C f ws n st)])∧w'.ownsRow w.heap.size 62 1 vv (Lc T C f ws sc n st).vals.length (uC (Lc T C f ws sc n st).vals)∧TrM w' w.heap.size tv (Lc T C f ws sc n st).tr es∧Below w.heap.size w w'
theorem Ij {w w':World}{T:Zm}{C:Zk}{f:Int}{ws sc:List Int}{n st:Int}{k:Int}(h:Lv T C f ws n st=k)(hk:k≠0)(hb:Below w.heap.size w w'):Zcr w T C f ws sc n st (.returned (.tuple #[.agg #[.int .i64 0,.slice none 0 0,.int .i64 0,.slice none 0 0,.int .i64 0,.int .i64 0],.iface 105 (.int .i64 k)])) w':=by
 have ho:Lc T C f ws sc n st=zM:=by unfold Lc; rw [if_neg (by rw [h]; exact hk)]
 unfold Zcr;rw [ho,h];exact⟨_,_,[],by unfold Zlz; rw [if_neg hk]; rfl,World.ownsRow_nil _ _ _ _,⟨rfl,World.ownsRow_nil _ _ _ _,fun k hk=>absurd hk (by simp [zM])⟩,hb⟩
theorem Ik {s:List Int×Int}(h:Xy s=true):Mt s:=by
 obtain⟨ps,n⟩:=s;obtain⟨h1,h2,h3,h4⟩:=Zlr h;exact⟨h4,h1,h2,h3⟩
theorem tbX {T:Zm}(h:Ow T=true):T.ag.length≤100∧T.rs.length≤100:=by
 unfold Ow Ls at h;simp only [Bool.and_eq_true] at h;obtain⟨⟨-,h2⟩,-⟩:=h;unfold Dl at h2;have h2:=of_decide_eq_true h2;omega
theorem Zny {w0 w:World}{A B N L:Nat}{G:Xn}{mb sb:Nat}{C:Zk}{own:Yc}{m:Zf}(hF:FX w0 A B L G mb sb C own)(h:MR w A B N G mb sb m)(hk0:Kx B mb sb w0 w)(n:Nat)(hn:n≤4194304)(hiv:Nm C n 0 m)(hm:m.steps=0) :
 Calls Tryz.prog 61 #[.pointer (some ⟨mb,0,none⟩),.int .i64 (n:Int)] w fun e w'=>(∃ v,e=.returned v)∧(∃ N,MR w' A B N G mb sb (On G.T C own G.Z n m))∧Kx B mb sb w w':=by
 refine Zoq (fun V s=>(∃ N,MR V A B N G mb sb s)∧Kx B mb sb w0 V∧Nm C n 0 s) (fun V s=>(∃ N,MR V A B N G mb sb s)∧Kx B mb sb w0 V∧Nm C n 1 s) C own n hn (fun V s hI=>hI.1) (fun V s hI hk hlt=>?_) (fun V s hJ hk=>?_) (fun s=>Zak _ _ _ _ _) ⟨⟨N,h⟩,hk0,hiv⟩ hm
 ·
  obtain⟨⟨N',P,es,hP⟩,h2,h3⟩:=hI;refine⟨⟨N',hP.lf (P':=P) (m':={ s with steps:=s.steps+1 }) (Zl mb 85 V _) (Yg hP.mm.mi rfl) ⟨rfl,rfl,rfl,rfl,.inl ⟨rfl,rfl⟩⟩ rfl hP.rb⟩,h2.tr (Mc.kx (Zl mb 85 V _)),h3.f,h3.a,?_,?_,h3.sc⟩
  ·
   have:=h3.tr;show(s.tr.length:Int)+(1:Nat)≤s.steps+1;omega
  ·
   show s.steps+1≤(n:Int);omega
 ·
  obtain⟨⟨N',hN⟩,h2,h3⟩:=hJ;refine(Zuz ⟨hF,hN,h2,h3,hn⟩).mono ?_;rintro e w' ⟨he,h',x'⟩;exact⟨he,⟨h',h2.tr x',Zsr h3⟩,x'⟩
theorem Znz {w w9 w':World}{A B N:Nat}{G:Xn}{mb sb:Nat}{P:PV}{es:List Value}{T:Zm}{C:Zk}{f:Int}{ws sc:List Int}{n st:Int}{M:Zf}{vp tp:Option Addr}{vc tc:Nat}(hO:Lc T C f ws sc n st=M)(h0:Lv T C f ws n st=0)(hP:MP w9 A B N G mb sb P es M)(hv:P.vv=.slice vp M.vals.length vc)(ht:P.tv=.slice tp M.tr.length tc)(hB:w.heap.size+3≤B)(hb:Below w.heap.size w w')(ho:∀ q,w.heap.size+3≤q→w'.heap[q]?=w9.heap[q]?):Zcr w T C f ws sc n st (.returned (.tuple #[.agg #[.int .i64 M.kind,.slice vp M.vals.length vc,.int .i64 M.code,.slice tp M.tr.length tc,.int .i64 M.steps,.int .i64 M.pk],.nilIface])) w':=by
 unfold Zcr;rw [hO,h0];refine⟨_,_,es,rfl,?_,⟨hP.tr.len,?_,fun k hk=>?_⟩,hb⟩
 ·
  rw [← hv];exact Yh (Yn hP.vv fun g hg=>ho g (by have:=(hP.vv.lt g hg).1; omega)) (by omega)
 ·
  rw [← ht];exact Yh (Yn hP.tr.row fun g hg=>ho g (by have:=(hP.tr.row.lt g hg).1; omega)) (by omega)
 ·
  exact Yh (Yn (hP.tr.each k hk) fun g hg=>ho g (by have:=((hP.tr.each k hk).lt g hg).1; omega)) (by omega)
theorem Zbo (a:Int):∀(ws:List Int) (m:Zf) (k:Nat),Sm m (Yq a m k ws)
 | [],m,k=>Sm.rf m
 | v :: r,m,k=>by
  rw [Yq];exact(Xx m _ _ _).tn (Zbo a r _ _)
theorem Zbp (T:Zm)(size:Int)(m:Zf)(x:Xm)(ws:List Int):Sm m (Xb T size m x ws):=by
 unfold Xb;split
 ·
  exact(Zbo _ _ _ _).tn (Nk T _ _ _)
 ·
  exact Nk T _ _ _
theorem Dq (T:Zm)(size:Int):∀(xs:List Xm) (m:Zf) (ps ws:List Int),Sm m (Zu T size m xs ps ws)
 | [],m,ps,ws=>Sm.rf m
 | x :: r,m,ps,ws=>by
  rw [Zu];exact(Zbp T size m _ _).tn (Dq T size r _ _ _)
theorem Zji (T:Zm)(own:Yc)(ps ws:List Int)(m:Zf):Sm m (Gf T own ps ws m).1:=by
 unfold Gf;split
 ·
  exact(Gb T m _).tn (Dq T _ _ _ _ _)
 ·
  exact Gb T m _
theorem Ca.lowx {w:World}{L L':Nat}{T:Zm}{v:Value}{ss:List (List Int×Int)}(h:Ca w L T v ss)(hL:L'≤L):Ca w L' T v ss:=by
 obtain⟨p,c,e,h⟩:=h;refine⟨p,c,e,fun k hk=>?_⟩;obtain⟨g,av,rv,pvs,e1,h1,h2,d0,d1,d2,d3,hl⟩:=h k hk;exact⟨g,av,rv,pvs,e1,by omega,h2,d0,d1,d2,d3,hl.lowx hL⟩
theorem Ca.kx {w w':World}{L a b:Nat}{T:Zm}{v:Value}{ss:List (List Int×Int)}(h:Ca w L T v ss)(kx:Kx w.heap.size a b w w')(ha:a<L)(hb:b<L):Ca w' L T v ss:=by
 obtain⟨p,c,e,h⟩:=h;refine⟨p,c,e,fun k hk=>?_⟩;obtain⟨g,av,rv,pvs,e1,h1,h2,d0,d1,d2,d3,hl⟩:=h k hk;have hr:=kx.oth g h2 (by omega) (by omega);exact⟨g,av,rv,pvs,e1,h1,Nat.lt_of_lt_of_le h2 kx.size,(Yp hr).trans d0,(Yp hr).trans d1,(Yp hr).trans d2,(Yp hr).trans d3,Rt hl rfl kx ha hb⟩
theorem Zve (T:Zm)(C:Zk)(w:World)(A:Nat)(csp cfp cep:Option Addr)(csc cfc cec:Nat)(f:Int)(ap sp:Option Addr)(ac scc:Nat)(ws sc:List Int)(n st:Int)(hT:TbO w T)(hTs:Lj w A (.slice T.ps T.ss.length T.cs) T.ss)(hS:Na w A (.slice csp C.sigs.length csc) C.sigs)(hE:Na w A (.slice cep C.externs.length cec) C.externs)(hC:Gi w A (.slice cfp C.funcs.length cfc) C.funcs)(hA:A≤w.heap.size)(hws:Lz w A (.slice ap ws.length ac) ws)(hsc:Lz w A (.slice sp sc.length scc) sc)(hbl:(Zg C).length≤1099511627776)(hel:C.externs.length≤1099511627776)(hga:1<A)(hgn:∀ k,k<22→w.cell? ⟨1,k,none⟩=some (.int .i64 (nmL.getD k 0)))(hu:∀ x ∈ ws,0≤x∧x<18446744073709551616)(hus:∀ x ∈ sc,0≤x∧x<18446744073709551616) :
 Calls Tryz.prog 37 #[.agg #[.int .i64 T.r,.int .i64 T.sp,.int .i64 T.lk,.int .i64 T.t0,.int .i64 T.t1,.slice T.pa T.ag.length T.ca,.slice T.pr T.rs.length T.cr,.slice T.ps T.ss.length T.cs,.int .i64 T.al,.int .i64 T.sh,.int .i64 T.br,.bool T.pairs],.agg #[.slice csp C.sigs.length csc,.slice cfp C.funcs.length cfc,.slice cep C.externs.length cec],.int .i64 f,.slice ap ws.length ac,.slice sp sc.length scc,.int .i64 n,.int .i64 st] w (Zcr w T C f ws sc n st):=by
 obtain⟨r0,hb0,hz0⟩:=Zs w (.cells #[.int .i64 T.r,.int .i64 T.sp,.int .i64 T.lk,.int .i64 T.t0,.int .i64 T.t1,.slice T.pa T.ag.length T.ca,.slice T.pr T.rs.length T.cr,.slice T.ps T.ss.length T.cs,.int .i64 T.al,.int .i64 T.sh,.int .i64 T.br,.bool T.pairs] 25 (0,0));obtain⟨r1,hb1,hz1⟩:=Zs (w.alloc (.cells #[.int .i64 T.r,.int .i64 T.sp,.int .i64 T.lk,.int .i64 T.t0,.int .i64 T.t1,.slice T.pa T.ag.length T.ca,.slice T.pr T.rs.length T.cr,.slice T.ps T.ss.length T.cs,.int .i64 T.al,.int .i64 T.sh,.int .i64 T.br,.bool T.pairs] 25 (0,0))) (.cells #[.slice csp C.sigs.length csc,.slice cfp C.funcs.length cfc,.slice cep C.externs.length cec] 29 (0,0));obtain⟨r2,hb2,hz2⟩:=Zs ((w.alloc (.cells #[.int .i64 T.r,.int .i64 T.sp,.int .i64 T.lk,.int .i64 T.t0,.int .i64 T.t1,.slice T.pa T.ag.length T.ca,.slice T.pr T.rs.length T.cr,.slice T.ps T.ss.length T.cs,.int .i64 T.al,.int .i64 T.sh,.int .i64 T.br,.bool T.pairs] 25 (0,0))).alloc (.cells #[.slice csp C.sigs.length csc,.slice cfp C.funcs.length cfc,.slice cep C.externs.length cec] 29 (0,0))) (.cells #[.int .i64 0,.slice none 0 0,.int .i64 0,.slice none 0 0,.int .i64 0,.int .i64 0] 41 (0,0));have e1:=hz1.trans (congrArg (·+1) hz0);have e2:=hz2.trans (congrArg (·+1) e1);rw [hz0] at r1;rw [e1] at r2;have hB:=Zb (Zb hb0 hb1 (by omega)) hb2 (by omega);have HR0:=Y ((hb2.block w.heap.size (by omega)).trans ((hb1.block w.heap.size (by omega)).trans r0));have HR1:=Y ((hb2.block (w.heap.size+1) (by omega)).trans r1)
 have HR2:=Y r2;have HB:=Y hB;have HZ:=Y e2;have HT:=Y hT;have HTS:=Y hTs;have HS:=Y hS;have HE:=Y hE;have HC:=Y hC;have HWS:=Y hws;have HSC:=Y hsc;have HGN:=Y hgn;have HU:=Y hu;have HUS:=Y hus;clear r0 hb0 hz0 r1 hb1 hz1 r2 hb2 hz2 e1 e2 hB hT hTs hS hE hC hws hsc hgn hu hus;go_enter Tryz.func37,Tryz.ntmps37
 go_wp2_with fail
 rw [show w.heap.size+1+1=w.heap.size+2 from rfl];generalize World.alloc (World.alloc (World.alloc w _) _) _=W at HR0 HR1 HR2 HB HZ ⊢;have hT2:=(O HT).below (O HB);refine(Zsd T.r T.sp T.lk T.t0 T.t1 (.slice T.pa T.ag.length T.ca) (.slice T.pr T.rs.length T.cr) (.slice T.ps T.ss.length T.cs) T.al T.sh T.br T.pairs T.ag T.rs T.ss W hT2.a.rs hT2.r.rs hT2.s.rs (O HT).a.cap (O HT).r.cap (O HT).s.cap).mono ?_;rintro e w2 ⟨rfl,hb2⟩;have hzW:=O HZ;have hs2:=hb2.size;have HBX:=Y (Zb (O HB) hb2 (by omega));have HA0:=Y ((hb2.block w.heap.size (by omega)).trans (O HR0));have HA1:=Y ((hb2.block (w.heap.size+1) (by omega)).trans (O HR1));have HA2:=Y ((hb2.block (w.heap.size+2) (by omega)).trans (O HR2));have hz2:w.heap.size+3≤w2.heap.size:=by omega
 clear hb2 hT2 HR0 HR1 HR2 HB HZ hzW hs2;cases ht:Ls T.r T.sp T.lk T.t0 T.t1 T.ag T.rs T.ss T.al T.sh T.br with
 | false =>
  have HN:=Y (show Lv T C f ws n st=2 by unfold Lv Ow; rw [ht]; rfl);clear ht;unfold Zvu;go_wp2_with (refine wpList_store_row rfl 41 _ _ rfl (w.heap.size+2) #[.int .i64 0,.slice none 0 0,.int .i64 0,.slice none 0 0,.int .i64 0,.int .i64 0] rfl rfl 41 _ (O HA2) (Tryz.infOutX.trans rfl) rfl (by simp [Value.oneCell']) ?_)
  refine bodyPost_ret (Jx (fn:=Tryz.f37) (p:=14) (q:=15) (px:=41) rfl _ _ (w.heap.size+2) 41 #[.int .i64 0,.slice none 0 0,.int .i64 0,.slice none 0 0,.int .i64 0,.int .i64 0] (0,0) _ rfl (setRow_heap _ _ _ _ _ _ (O HA2)) Tryz.underlying41 rfl (Tryz.infOutX.trans rfl)) rfl ?_;exact Ij (O HN) (by decide) (Zp (O HBX) (by omega))
 | true =>
  have HTT:=Y (show Ow T=true from ht);have HX:=Y (show Lv T C f ws n st=if (Sv C&&(Zhq C f ws&&(Zaw n&&decide (0≤st∧st≤4194304))))=false then 6 else 0 by unfold Lv; rw [O HTT,if_neg (by decide)]);have hTK:=Zoi (O HTT);clear ht;unfold Zvu;have a0:=((cR (O HA1) 0):_=some (Value.slice csp C.sigs.length csc));have a1:=((cR (O HA1) 1):_=some (Value.slice cfp C.funcs.length cfc));have a2:=((cR (O HA1) 2):_=some (Value.slice cep C.externs.length cec));go_wp2_with fail
  refine(Zly C w2 A csp cfp cep csc cfc cec ((O HS).below (O HBX) hA) ((O HE).below (O HBX) hA) (by omega)).mono ?_;rintro e w3 ⟨rfl,hb3⟩;have hs3:=hb3.size;have HB3:=Y (Zb (O HBX) hb3 (by omega));have HC0:=Y ((hb3.block w.heap.size (by omega)).trans (O HA0));have HC1:=Y ((hb3.block (w.heap.size+1) (by omega)).trans (O HA1));have HC2:=Y ((hb3.block (w.heap.size+2) (by omega)).trans (O HA2));have hz3:w.heap.size+3≤w3.heap.size:=by omega
  clear hb3 hs3 HBX HA0 HA1 HA2 a0 a1 a2;cases hsg:Sv C with
  | false =>
   have HN:=Y (show Lv T C f ws n st=6 by rw [O HX,hsg]; rfl);have HA2:=HC2;have HBX:=HB3;clear hsg HX;go_wp2_with (refine wpList_store_row rfl 41 _ _ rfl (w.heap.size+2) #[.int .i64 0,.slice none 0 0,.int .i64 0,.slice none 0 0,.int .i64 0,.int .i64 0] rfl rfl 41 _ (O HA2) (Tryz.infOutX.trans rfl) rfl (by simp [Value.oneCell']) ?_)
   refine bodyPost_ret (Jx (fn:=Tryz.f37) (p:=14) (q:=15) (px:=41) rfl _ _ (w.heap.size+2) 41 #[.int .i64 0,.slice none 0 0,.int .i64 0,.slice none 0 0,.int .i64 0,.int .i64 0] (0,0) _ rfl (setRow_heap _ _ _ _ _ _ (O HA2)) Tryz.underlying41 rfl (Tryz.infOutX.trans rfl)) rfl ?_;exact Ij (O HN) (by decide) (Zp (O HBX) (by omega))
  | true =>
   rw [hsg,Bool.true_and] at HX;have hsl:C.sigs.length=C.funcs.length∧(∀ s ∈ C.sigs,Xy s=true)∧∀ s ∈ C.externs,Xy s=true:=by
    unfold Sv at hsg;simp only [Bool.and_eq_true,decide_eq_true_eq,List.all_eq_true] at hsg;exact⟨hsg.1,hsg.2.1,hsg.2.2⟩
   have HSL:=Y hsl;clear hsg hsl;have a1:=((cR (O HC1) 1):_=some (Value.slice cfp C.funcs.length cfc));go_wp2_with fail
   refine(Xh f C.funcs.length w3).mono ?_;rintro e w4 ⟨rfl,hw4⟩;subst w4;cases hix:Gr f (C.funcs.length:Int) with
   | false =>
    have HN:=Y (show Lv T C f ws n st=6 by rw [O HX]; unfold Zhq; rw [show decide (0≤f∧f<(C.funcs.length:Int))=false from hix]; rfl);have HA2:=HC2;have HBX:=HB3;clear hix HX a1;go_wp2_with (refine wpList_store_row rfl 41 _ _ rfl (w.heap.size+2) #[.int .i64 0,.slice none 0 0,.int .i64 0,.slice none 0 0,.int .i64 0,.int .i64 0] rfl rfl 41 _ (O HA2) (Tryz.infOutX.trans rfl) rfl (by simp [Value.oneCell']) ?_)
    refine bodyPost_ret (Jx (fn:=Tryz.f37) (p:=14) (q:=15) (px:=41) rfl _ _ (w.heap.size+2) 41 #[.int .i64 0,.slice none 0 0,.int .i64 0,.slice none 0 0,.int .i64 0,.int .i64 0] (0,0) _ rfl (setRow_heap _ _ _ _ _ _ (O HA2)) Tryz.underlying41 rfl (Tryz.infOutX.trans rfl)) rfl ?_;exact Ij (O HN) (by decide) (Zp (O HBX) (by omega))
   | true =>
    have hin:=of_decide_eq_true hix;obtain⟨k,hk⟩:∃ k:Nat,f=k:=⟨f.toNat,by omega⟩;subst hk;have hkl:k<C.sigs.length:=by rw [(O HSL).1]; omega
    obtain⟨g,so,lv,hp,hgA,f0,f1,hli,hrs⟩:=(O HS).cells k hkl;subst hp;have hsb:=(O HSL).2.1 (C.sigs.getD k ([],0)) (by rw [List.getD_eq_getElem?_getD,List.getElem?_eq_getElem hkl]; exact List.getElem_mem hkl);obtain⟨sg,hsgE⟩:∃ s,s=C.sigs.getD k ([],0):=⟨_,rfl⟩;have HSGE:=Y hsgE;rw [← hsgE] at f1 hli hrs hsb;clear hsgE;obtain⟨ps,nr⟩:=sg;simp only at f1 hli hrs;have hsok:=Ik hsb;obtain⟨lp,lc,rfl⟩:=hli.shape;have HD00:=Y f0;have d0:=(World.cell?_of_block ((O HB3).block g (by omega))).trans f0;have d1:=(World.cell?_of_block ((O HB3).block g (by omega))).trans f1;have a0:=((cR (O HC1) 0):_=some (Value.slice (some ⟨g,so,none⟩) C.sigs.length csc));have hwsl:ws.length<4611686018427387904:=by obtain⟨_,_,_,_,h,_⟩:=O HWS; exact h
    have HWC:=Y (Zhk (.slice lp ps.length lc) ps nr w3 (hli.below (O HB3)) hsok.l (Of hTK hsok).p8);have hfl:Yl ps≤64:=by have:=Ss ps (Of hTK hsok).p8 ps.length (Nat.le_refl _); rw [List.take_length] at this; have:=hsok.l; simp only at this; omega
    have HLI:=Y hli;have HRSx:=Y hrs;have HIN:=Y hin;have HIX:=Y (show Zhq C (k:Int) ws=decide (ws.length=Yl ps) by unfold Zhq; rw [show decide (0≤(k:Int)∧(k:Int)<(C.funcs.length:Int))=true from hix,Int.toNat_natCast,← O HSGE]; rfl);clear hix hin hli hrs f0 f1;go_wp2_with fail
    refine(O HWC).mono ?_;rintro e w4 ⟨rfl,hb4⟩;have hs4:=hb4.size;have HB4:=Y (Zb (O HB3) hb4 (by omega));have HD0:=Y ((hb4.block w.heap.size (by omega)).trans (O HC0));have HD1:=Y ((hb4.block (w.heap.size+1) (by omega)).trans (O HC1));have HD2:=Y ((hb4.block (w.heap.size+2) (by omega)).trans (O HC2));have hz4:w.heap.size+3≤w4.heap.size:=by omega
    clear hb4 hs4 HWC d0 d1 a0 a1 HC0 HC1 HC2 HB3;by_cases hlw:ws.length=Yl ps
    ·
     have hb:(((ws.length:Nat):Int) != ((Yl ps:Nat):Int))=false:=by rw [hlw]; simp
     have HLW:=Y hlw;rw [O HIX,decide_eq_true hlw,Bool.true_and] at HX;clear hlw;go_wp2_with fail
     refine(Zmf n w4).mono ?_;rintro e w5 ⟨rfl,hw5⟩;subst w5;cases hsk:Zaw n with
     | false =>
      have HN:=Y (show Lv T C (k:Int) ws n st=6 by rw [O HX,hsk]; rfl);have HA2:=HD2;have HBX:=HB4;clear hsk HX;go_wp2_with (refine wpList_store_row rfl 41 _ _ rfl (w.heap.size+2) #[.int .i64 0,.slice none 0 0,.int .i64 0,.slice none 0 0,.int .i64 0,.int .i64 0] rfl rfl 41 _ (O HA2) (Tryz.infOutX.trans rfl) rfl (by simp [Value.oneCell']) ?_)
      refine bodyPost_ret (Jx (fn:=Tryz.f37) (p:=14) (q:=15) (px:=41) rfl _ _ (w.heap.size+2) 41 #[.int .i64 0,.slice none 0 0,.int .i64 0,.slice none 0 0,.int .i64 0,.int .i64 0] (0,0) _ rfl (setRow_heap _ _ _ _ _ _ (O HA2)) Tryz.underlying41 rfl (Tryz.infOutX.trans rfl)) rfl ?_;exact Ij (O HN) (by decide) (Zp (O HBX) (by omega))
     | true =>
      rw [hsk,Bool.true_and] at HX;by_cases hst0:st<0
      ·
       have HN:=Y (show Lv T C (k:Int) ws n st=6 by rw [O HX,if_pos (decide_eq_false (by omega))]);have HA2:=HD2;have HBX:=HB4;clear hsk HX;go_wp2_with (refine wpList_store_row rfl 41 _ _ rfl (w.heap.size+2) #[.int .i64 0,.slice none 0 0,.int .i64 0,.slice none 0 0,.int .i64 0,.int .i64 0] rfl rfl 41 _ (O HA2) (Tryz.infOutX.trans rfl) rfl (by simp [Value.oneCell']) ?_)
       refine bodyPost_ret (Jx (fn:=Tryz.f37) (p:=14) (q:=15) (px:=41) rfl _ _ (w.heap.size+2) 41 #[.int .i64 0,.slice none 0 0,.int .i64 0,.slice none 0 0,.int .i64 0,.int .i64 0] (0,0) _ rfl (setRow_heap _ _ _ _ _ _ (O HA2)) Tryz.underlying41 rfl (Tryz.infOutX.trans rfl)) rfl ?_;exact Ij (O HN) (by decide) (Zp (O HBX) (by omega))
      ·
       by_cases hst1:(4194304:Int)<st
       ·
        have HN:=Y (show Lv T C (k:Int) ws n st=6 by rw [O HX,if_pos (decide_eq_false (by omega))]);have HA2:=HD2;have HBX:=HB4;clear hsk HX;go_wp2_with (refine wpList_store_row rfl 41 _ _ rfl (w.heap.size+2) #[.int .i64 0,.slice none 0 0,.int .i64 0,.slice none 0 0,.int .i64 0,.int .i64 0] rfl rfl 41 _ (O HA2) (Tryz.infOutX.trans rfl) rfl (by simp [Value.oneCell']) ?_)
        refine bodyPost_ret (Jx (fn:=Tryz.f37) (p:=14) (q:=15) (px:=41) rfl _ _ (w.heap.size+2) 41 #[.int .i64 0,.slice none 0 0,.int .i64 0,.slice none 0 0,.int .i64 0,.int .i64 0] (0,0) _ rfl (setRow_heap _ _ _ _ _ _ (O HA2)) Tryz.underlying41 rfl (Tryz.infOutX.trans rfl)) rfl ?_;exact Ij (O HN) (by decide) (Zp (O HBX) (by omega))
       ·
        have HN0:=Y (show Lv T C (k:Int) ws n st=0 by rw [O HX,if_neg (by rw [decide_eq_true (by omega)]; decide)]);have hn2:0≤n∧n≤65536:=by
         have:=of_decide_eq_true hsk;omega
        obtain⟨nn,hnn⟩:∃ nn:Nat,n=nn:=⟨n.toNat,by omega⟩;obtain⟨sn,hsn⟩:∃ sn:Nat,st=sn:=⟨st.toNat,by omega⟩;subst hnn hsn;have HO:=Y (show Lc T C (k:Int) ws sc nn sn=exG T C (k:Int) ws sc nn sn by unfold Lc; rw [if_pos (O HN0),Int.toNat_natCast,Int.toNat_natCast]);have HEG:=Y (show exG T C (k:Int) ws sc nn sn=if (Gf T (Zr T (ps,nr)) ps ws (Mk nn sc)).2=true then (if ((Gf T (Zr T (ps,nr)) ps ws (Mk nn sc)).1.call T C.funcs.length (k:Int) 0).2=true then On T C (Zr T (ps,nr)) (Gf T (Zr T (ps,nr)) ps ws (Mk nn sc)).1.rg sn ((Gf T (Zr T (ps,nr)) ps ws (Mk nn sc)).1.call T C.funcs.length (k:Int) 0).1 else ((Gf T (Zr T (ps,nr)) ps ws (Mk nn sc)).1.call T C.funcs.length (k:Int) 0).1) else (Gf T (Zr T (ps,nr)) ps ws (Mk nn sc)).1 by
         unfold exG;rw [Int.toNat_natCast,← O HSGE])
        obtain⟨hag,hrs9⟩:=tbX (O HTT);have hSG:∀ s ∈ C.externs,Mt s:=fun s hs=>Ik ((O HSL).2.2 s hs);have hAw4:A≤w4.heap.size:=by omega
        have hkx4:Kx w.heap.size A A w w4:=Gh (O HB4);have HNM:=Y (Zcq T C w4 A (some ⟨g,so,none⟩) cfp cep C.sigs.length csc C.funcs.length cfc cec sp sc.length scc nn ((O HC).kx hkx4 hA (Nat.le_refl _) (Nat.le_refl _)) hAw4 hbl (by omega) ((O HE).below (O HB4) hA) hSG ((O HT).below (O HB4)) hTK hag hrs9 hel);rw [show T.box=#[.int .i64 T.r,.int .i64 T.sp,.int .i64 T.lk,.int .i64 T.t0,.int .i64 T.t1,.slice T.pa T.ag.length T.ca,.slice T.pr T.rs.length T.cr,.slice T.ps T.ss.length T.cs,.int .i64 T.al,.int .i64 T.sh,.int .i64 T.br,.bool T.pairs] from rfl] at HNM;have b0:=((cR (O HD0) 0):_=some (Value.int .i64 T.r));have b1:=((cR (O HD0) 1):_=some (Value.int .i64 T.sp));have b2:=((cR (O HD0) 2):_=some (Value.int .i64 T.lk));have b3:=((cR (O HD0) 3):_=some (Value.int .i64 T.t0));have b4:=((cR (O HD0) 4):_=some (Value.int .i64 T.t1));have b5:=((cR (O HD0) 5):_=some (Value.slice T.pa T.ag.length T.ca));have b6:=((cR (O HD0) 6):_=some (Value.slice T.pr T.rs.length T.cr));have b7:=((cR (O HD0) 7):_=some (Value.slice T.ps T.ss.length T.cs));have b8:=((cR (O HD0) 8):_=some (Value.int .i64 T.al));have b9:=((cR (O HD0) 9):_=some (Value.int .i64 T.sh));have b10:=((cR (O HD0) 10):_=some (Value.int .i64 T.br));have b11:=((cR (O HD0) 11):_=some (Value.bool T.pairs));have a0:=((cR (O HD1) 0):_=some (Value.slice (some ⟨g,so,none⟩) C.sigs.length csc));have a1:=((cR (O HD1) 1):_=some (Value.slice cfp C.funcs.length cfc))
        have a2:=((cR (O HD1) 2):_=some (Value.slice cep C.externs.length cec));clear hsk HX;go_wp2_with fail
        refine(O HNM).mono ?_;rintro e w5 ⟨mb,rfl,sb,rr,ck,bv,ov,es,L,hNF⟩;clear HNM b0 b1 b2 b3 b4 b5 b6 b7 b8 b9 b10 b11 a0 a1 a2;have hlow:=hNF.low;have hz5:=hlow.size;have hb5:=Zb (O HB4) hlow (by omega);have hr5:=(hlow.block (w.heap.size+1) (by omega)).trans (O HD1);have a0:=((cR hr5 0):_=some (Value.slice (some ⟨g,so,none⟩) C.sigs.length csc));obtain⟨g',so',lv',hp',hgA',f0,f1,hli5,hrs5⟩:=((O HS).below hb5 hA).cells k hkl;injection hp' with hp';injection hp' with hp1 hp2;subst hp1 hp2;rw [← O HSGE] at f1 hli5 hrs5;have hlv:lv'=.slice lp ps.length lc:=by
         obtain⟨g2,so2,lv2,hq,-,q0,-,-⟩:=(O HS).cells k hkl;injection hq with hq;injection hq with hq1 hq2;subst hq1 hq2;have e1:=(World.cell?_of_block (hb5.block g (by omega))).trans q0;have e2:=O HD00;rw [e1] at f0;rw [q0] at e2;injection f0 with f0;injection e2 with e2;rw [← f0,e2]
        subst hlv;have hAmb:A≤mb:=by have:=hNF.b0; omega
        have hAsb:A≤sb:=by have:=hNF.b1; omega
        have hkA:Kx w.heap.size A A w w5:=Gh hb5;have HLAY:=Y (Zvd w5 A T (.slice (some ⟨g,so,none⟩) C.sigs.length csc) (.slice cfp C.funcs.length cfc) (.slice cep C.externs.length cec) (.slice sp sc.length scc) nn mb sb rr bv ov sc hNF.mi hNF.mem (by omega) hAmb hAsb ((O HSC).kx hkA hA (Nat.le_refl _) (Nat.le_refl _)) ps nr lp lc hsok hli5 hrs5 ((O HT).below hb5) hTK hag hrs9 ws ap ac ((O HWS).kx hkA hA (Nat.le_refl _) (Nat.le_refl _)) (fun i=>by
         by_cases hi:i<ws.length
         ·
          exact O HU _ (Iw hi 0)
         ·
          simp [List.getD,hi]) (O HLW))
        have HFIN:=Y (fun V (kx:Kx w5.heap.size mb sb w5 V)=>show Below w.heap.size w V∧V.heap[w.heap.size+2]?=some (.cells #[.int .i64 0,.slice none 0 0,.int .i64 0,.slice none 0 0,.int .i64 0,.int .i64 0] 41 (0,0)) from by
         have h0:=hNF.b0;have h1:=hNF.b1;refine⟨⟨kx.os.trans hb5.os,kx.tape.trans hb5.tape,kx.output.trans hb5.output,Nat.le_trans hb5.size kx.size,fun q hq=>(kx.oth q (by omega) (by omega) (by omega)).trans (hb5.block q hq)⟩,?_⟩;exact(kx.oth _ (by omega) (by omega) (by omega)).trans ((hlow.block _ (by omega)).trans (O HD2)))
        have HNF:=Y hNF;have HB5:=Y hb5;have HLI5:=Y hli5;clear hNF hlow hb5 hr5 hli5 hrs5 hkA;go_wp2_with fail
        refine(O HLAY).mono ?_;rintro e w6 ⟨rfl,hkx6,av,rv,pvs,Lo,U,hmLo,hsLo,hlyU,hkU,hkU6,Z,hmr6,hZ⟩;have HKX6:=Y hkx6;have HMR6:=Y hmr6;have hBU:w.heap.size+3≤U.heap.size:=by have:=hkU.size; omega
        have HKU:=Y hkU;have HKU6:=Y hkU6;have HLYU:=Y hlyU;have HZZ:=Y hZ;clear hkx6 hmr6 hkU hkU6 hlyU hZ HLAY a0 f0 f1;have HSM:=Y (Zji T (Zr T (ps,nr)) ps ws (Mk nn sc));generalize hlm:Gf T (Zr T (ps,nr)) ps ws (Mk nn sc)=lm at HMR6 HZZ HEG HSM;clear hlm;obtain⟨M6,b6⟩:=lm;cases b6 with
        | false =>
         have HO9:=Y (show Lc T C (k:Int) ws sc nn sn=M6 by rw [O HO,O HEG]; rfl);clear HO HEG;obtain⟨P9,es9,hP9⟩:=O HMR6;obtain⟨vp9,vc9,hvv⟩:=Ze hP9.vv;obtain⟨tp9,tc9,htv⟩:=Ze hP9.tr.row;have hmi9:=hP9.mm.mi;have o0:=((cR hmi9 81):_=some (Value.int .i64 M6.kind));have o1:_=some (Value.slice vp9 M6.vals.length vc9):=((cR hmi9 82):_=some P9.vv).trans (congrArg some hvv);have o2:=((cR hmi9 83):_=some (Value.int .i64 M6.code));have o3:_=some (Value.slice tp9 M6.tr.length tc9):=((cR hmi9 84):_=some P9.tv).trans (congrArg some htv);have o4:=((cR hmi9 85):_=some (Value.int .i64 M6.steps));have o5:=((cR hmi9 86):_=some (Value.int .i64 M6.pk));have HP9:=Y hP9;have HVV:=Y hvv;have HTV:=Y htv;obtain⟨hbF,hrF⟩:=O HFIN w6 (O HKX6);have HBF:=Y hbF;have HRF:=Y hrF;clear hP9 hmi9 hvv htv hbF hrF;go_wp2_with (refine wpList_store_row rfl 41 _ _ rfl (w.heap.size+2) #[.int .i64 M6.kind,.slice vp9 M6.vals.length vc9,.int .i64 M6.code,.slice tp9 M6.tr.length tc9,.int .i64 M6.steps,.int .i64 M6.pk] rfl rfl 41 _ (O HRF) (Tryz.infOutX.trans rfl) rfl (by simp [Value.oneCell']) ?_)
         refine bodyPost_ret (Jx (fn:=Tryz.f37) (p:=14) (q:=15) (px:=41) rfl _ _ (w.heap.size+2) 41 #[.int .i64 M6.kind,.slice vp9 M6.vals.length vc9,.int .i64 M6.code,.slice tp9 M6.tr.length tc9,.int .i64 M6.steps,.int .i64 M6.pk] (0,0) _ rfl (setRow_heap _ _ _ _ _ _ (O HRF)) Tryz.underlying41 rfl (Tryz.infOutX.trans rfl)) rfl ?_;exact Znz (O HO9) (O HN0) (O HP9) (O HVV) (O HTV) hBU (Zp (O HBF) (by omega)) (fun q hq=>setRow_other _ _ _ _ (by omega))
        | true =>
         have hz:=O HZZ rfl;simp only at hz;subst hz;have HEG2:=Y (show exG T C (k:Int) ws sc nn sn=if (M6.call T C.funcs.length (k:Int) 0).2=true then On T C (Zr T (ps,nr)) M6.rg sn (M6.call T C.funcs.length (k:Int) 0).1 else (M6.call T C.funcs.length (k:Int) 0).1 by rw [O HEG]; rfl);clear HEG HZZ;have HCL:=Y (show Calls Tryz.prog 60 #[.pointer (some ⟨mb,0,none⟩),.int .i64 (k:Int),.int .u64 0] w6 (fun e w'=>e=.returned (.bool (M6.call T C.funcs.length (k:Int) 0).2)∧MR w' A U.heap.size w6.heap.size ({ Ii (nmG T (.slice (some ⟨g,so,none⟩) C.sigs.length csc) (.slice cfp C.funcs.length cfc) (.slice cep C.externs.length cec) (.slice sp sc.length scc) bv rr sb nn (Mj 16) ov) av rv (Zr T (ps,nr)) with Z:=M6.rg }) mb sb (M6.call T C.funcs.length (k:Int) 0).1∧Kx w6.heap.size mb sb w6 w') from Zjl (O HMR6) hTK C.funcs.length cfc cfp rfl (k:Int) 0 (by decide));go_wp2_with fail
         refine(O HCL).mono ?_;rintro e w7 ⟨rfl,h7,x7⟩;have hUz:=(O HKU).size;have hz6:=(O HKX6).size;have HKX7:=Y ((O HKX6).tr (x7.low hz6));have HKU7:=Y ((O HKU6).tr (x7.low (O HKU6).size));have HMR7:=Y h7;clear h7 x7 HCL;have HSM7:=Y (fun q (h:Nm C q 0 M6)=>Zdi (T:=T) h (k:Int) 0);have HST7:=Y (Dy T C.funcs.length M6 (k:Int) 0);generalize hcm:M6.call T C.funcs.length (k:Int) 0=cm at HMR7 HEG2 HSM7 HST7;clear hcm;obtain⟨M7,b7⟩:=cm;cases b7 with
         | false =>
          have HO9:=Y (show Lc T C (k:Int) ws sc nn sn=M7 by rw [O HO,O HEG2]; rfl);clear HO HEG2;obtain⟨P9,es9,hP9⟩:=O HMR7;obtain⟨vp9,vc9,hvv⟩:=Ze hP9.vv;obtain⟨tp9,tc9,htv⟩:=Ze hP9.tr.row;have hmi9:=hP9.mm.mi;have o0:=((cR hmi9 81):_=some (Value.int .i64 M7.kind));have o1:_=some (Value.slice vp9 M7.vals.length vc9):=((cR hmi9 82):_=some P9.vv).trans (congrArg some hvv);have o2:=((cR hmi9 83):_=some (Value.int .i64 M7.code));have o3:_=some (Value.slice tp9 M7.tr.length tc9):=((cR hmi9 84):_=some P9.tv).trans (congrArg some htv);have o4:=((cR hmi9 85):_=some (Value.int .i64 M7.steps));have o5:=((cR hmi9 86):_=some (Value.int .i64 M7.pk));have HP9:=Y hP9;have HVV:=Y hvv;have HTV:=Y htv;obtain⟨hbF,hrF⟩:=O HFIN w7 (O HKX7);have HBF:=Y hbF;have HRF:=Y hrF;clear hP9 hmi9 hvv htv hbF hrF;go_wp2_with (refine wpList_store_row rfl 41 _ _ rfl (w.heap.size+2) #[.int .i64 M7.kind,.slice vp9 M7.vals.length vc9,.int .i64 M7.code,.slice tp9 M7.tr.length tc9,.int .i64 M7.steps,.int .i64 M7.pk] rfl rfl 41 _ (O HRF) (Tryz.infOutX.trans rfl) rfl (by simp [Value.oneCell']) ?_)
          refine bodyPost_ret (Jx (fn:=Tryz.f37) (p:=14) (q:=15) (px:=41) rfl _ _ (w.heap.size+2) 41 #[.int .i64 M7.kind,.slice vp9 M7.vals.length vc9,.int .i64 M7.code,.slice tp9 M7.tr.length tc9,.int .i64 M7.steps,.int .i64 M7.pk] (0,0) _ rfl (setRow_heap _ _ _ _ _ _ (O HRF)) Tryz.underlying41 rfl (Tryz.infOutX.trans rfl)) rfl ?_;exact Znz (O HO9) (O HN0) (O HP9) (O HVV) (O HTV) hBU (Zp (O HBF) (by omega)) (fun q hq=>setRow_other _ _ _ _ (by omega))
         | true =>
          have HO9:=Y (show Lc T C (k:Int) ws sc nn sn=On T C (Zr T (ps,nr)) M6.rg sn M7 by rw [O HO,O HEG2]; rfl);clear HO HEG2;have hNF:=O HNF;have hbU:=(O HFIN U (O HKU)).1;have hkAU:Kx w.heap.size A A w U:=Gh hbU;have hsm:=O HSM;have hlyk:=Of hTK hsok;have hmL0:mb<min L Lo:=by have:=hNF.mL; omega
          have hsL0:sb<min L Lo:=by have:=hNF.sL; omega
          have hFX:FX U A U.heap.size (min L Lo) ({ Ii (nmG T (.slice (some ⟨g,so,none⟩) C.sigs.length csc) (.slice cfp C.funcs.length cfc) (.slice cep C.externs.length cec) (.slice sp sc.length scc) bv rr sb nn (Mj 16) ov) av rv (Zr T (ps,nr)) with Z:=M6.rg }) mb sb C (Zr T (ps,nr)):=⟨rfl,hTK,(O HC).kx hkAU hA (Nat.le_refl _) (Nat.le_refl _),fun _ _=>rfl,fun j hj=>(World.cell?_of_block (hbU.block 1 (by omega))).trans (O HGN j hj),hga,Gy (O HTS) hkAU hA (Nat.le_refl _) (Nat.le_refl _),⟨rr,ck,es,rfl,((O HKU).oth rr (Su hNF.mp) (fun e=>by have h1:=hNF.mp; rw [e,hNF.mi] at h1; cases h1) (fun e=>by have h1:=hNF.mp; rw [e,hNF.mem] at h1; cases h1)).trans hNF.mp,hNF.pe,(fun e=>by have h1:=hNF.mp; rw [e,hNF.mi] at h1; cases h1),(fun e=>by have h1:=hNF.mp; rw [e,hNF.mem] at h1; cases h1)⟩,⟨w4.heap.size,Yn hNF.own fun g hg=>by
           obtain⟨cs2,hr2⟩:=Jg hNF.own hg;exact(O HKU).oth g (hNF.own.lt g hg).2 (Jf hr2 hNF.mi (by decide)) (Jf hr2 hNF.mem (by decide))⟩,(fun g hg=>by
           obtain⟨cs2,hr2⟩:=Jg hNF.own hg;exact⟨Jf hr2 hNF.mi (by decide),Jf hr2 hNF.mem (by decide)⟩),by omega,Ca.lowx (Ca.kx hNF.oth (O HKU) hNF.mL hNF.sL) (Nat.min_le_left _ _),(O HE).below hbU hA,hSG,hmL0,hsL0,Yh (O HLYU).res (Nat.min_le_right _ _),hlyk.rs,by rw [hlyk.res]; have:=hsok.r4; simp only at this; omega⟩
          have hiv6:Nm C sn 0 M6:=⟨by rw [show M6.f=0 from hsm.f]; have:=(O HIN).2; omega,by rw [show M6.at_=0 from hsm.at_]; exact⟨Int.le_refl _,Int.natCast_nonneg _⟩,by rw [show M6.tr=[] from hsm.tr,show M6.steps=0 from hsm.steps]; decide,by rw [show M6.steps=0 from hsm.steps]; omega,by rw [show M6.sc=sc from hsm.sc]; exact O HUS⟩;have HRUN:=Y (show Calls Tryz.prog 61 #[.pointer (some ⟨mb,0,none⟩),.int .i64 (sn:Int)] w7 (fun e w'=>(∃ v,e=.returned v)∧(∃ N,MR w' A U.heap.size N ({ Ii (nmG T (.slice (some ⟨g,so,none⟩) C.sigs.length csc) (.slice cfp C.funcs.length cfc) (.slice cep C.externs.length cec) (.slice sp sc.length scc) bv rr sb nn (Mj 16) ov) av rv (Zr T (ps,nr)) with Z:=M6.rg }) mb sb (On T C (Zr T (ps,nr)) M6.rg sn M7))∧Kx U.heap.size mb sb w7 w') from Zny hFX (O HMR7) (O HKU7) sn (by omega) (O HSM7 sn hiv6) (by rw [show M7.steps=M6.steps from O HST7]; exact hsm.steps));clear hFX hiv6 hNF hbU hkAU hsm hlyk;go_wp2_with fail
          refine(O HRUN).mono ?_;rintro e w8 ⟨⟨v8,rfl⟩,⟨N8,h8⟩,x8⟩;have HKX8:=Y ((O HKX7).tr (x8.low hUz));have HMR8:=Y h8;clear h8 x8 HRUN;generalize On T C (Zr T (ps,nr)) M6.rg sn M7=M8 at HMR8 HO9;obtain⟨P9,es9,hP9⟩:=O HMR8;obtain⟨vp9,vc9,hvv⟩:=Ze hP9.vv;obtain⟨tp9,tc9,htv⟩:=Ze hP9.tr.row;have hmi9:=hP9.mm.mi;have o0:=((cR hmi9 81):_=some (Value.int .i64 M8.kind));have o1:_=some (Value.slice vp9 M8.vals.length vc9):=((cR hmi9 82):_=some P9.vv).trans (congrArg some hvv);have o2:=((cR hmi9 83):_=some (Value.int .i64 M8.code));have o3:_=some (Value.slice tp9 M8.tr.length tc9):=((cR hmi9 84):_=some P9.tv).trans (congrArg some htv);have o4:=((cR hmi9 85):_=some (Value.int .i64 M8.steps));have o5:=((cR hmi9 86):_=some (Value.int .i64 M8.pk));have HP9:=Y hP9;have HVV:=Y hvv;have HTV:=Y htv;obtain⟨hbF,hrF⟩:=O HFIN w8 (O HKX8);have HBF:=Y hbF;have HRF:=Y hrF;clear hP9 hmi9 hvv htv hbF hrF;go_wp2_with (refine wpList_store_row rfl 41 _ _ rfl (w.heap.size+2) #[.int .i64 M8.kind,.slice vp9 M8.vals.length vc9,.int .i64 M8.code,.slice tp9 M8.tr.length tc9,.int .i64 M8.steps,.int .i64 M8.pk] rfl rfl 41 _ (O HRF) (Tryz.infOutX.trans rfl) rfl (by simp [Value.oneCell']) ?_)
          refine bodyPost_ret (Jx (fn:=Tryz.f37) (p:=14) (q:=15) (px:=41) rfl _ _ (w.heap.size+2) 41 #[.int .i64 M8.kind,.slice vp9 M8.vals.length vc9,.int .i64 M8.code,.slice tp9 M8.tr.length tc9,.int .i64 M8.steps,.int .i64 M8.pk] (0,0) _ rfl (setRow_heap _ _ _ _ _ _ (O HRF)) Tryz.underlying41 rfl (Tryz.infOutX.trans rfl)) rfl ?_;exact Znz (O HO9) (O HN0) (O HP9) (O HVV) (O HTV) hBU (Zp (O HBF) (by omega)) (fun q hq=>setRow_other _ _ _ _ (by omega))
    ·
     have hb:(((ws.length:Nat):Int) != ((Yl ps:Nat):Int))=true:=by simp; omega
     have HN:=Y (show Lv T C (k:Int) ws n st=6 by rw [O HX,O HIX,decide_eq_false hlw]; rfl);have HA2:=HD2;have HBX:=HB4;clear hlw HX;go_wp2_with (refine wpList_store_row rfl 41 _ _ rfl (w.heap.size+2) #[.int .i64 0,.slice none 0 0,.int .i64 0,.slice none 0 0,.int .i64 0,.int .i64 0] rfl rfl 41 _ (O HA2) (Tryz.infOutX.trans rfl) rfl (by simp [Value.oneCell']) ?_)
     refine bodyPost_ret (Jx (fn:=Tryz.f37) (p:=14) (q:=15) (px:=41) rfl _ _ (w.heap.size+2) 41 #[.int .i64 0,.slice none 0 0,.int .i64 0,.slice none 0 0,.int .i64 0,.int .i64 0] (0,0) _ rfl (setRow_heap _ _ _ _ _ _ (O HA2)) Tryz.underlying41 rfl (Tryz.infOutX.trans rfl)) rfl ?_;exact Ij (O HN) (by decide) (Zp (O HBX) (by omega))
end Go.Proofs.YtnlcfnjeagmemaaGreatDoor
