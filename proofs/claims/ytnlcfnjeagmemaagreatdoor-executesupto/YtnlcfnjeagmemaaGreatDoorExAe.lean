import Derived.Test.YtnlcfnjeagmemaaGreatDoorJ3
import Derived.Test.YtnlcfnjeagmemaaGreatDoorJ22
namespace Go.Proofs.YtnlcfnjeagmemaaGreatDoor
open Go.RowKit
set_option maxHeartbeats 4000000
set_option maxRecDepth 100000
theorem Tryz.infoU8x:(Tryz.prog.info? 5).map (fun i=>(i.zero,i.size,i.bytes))=some (some (.int .u8 0),1,1):=by kernel_rfl
theorem Zzu (n:Nat)(hn:n≤1000000)(w:World):(Instr.makeSlice 140 (.int .i64 (n:Int)) (.int .i64 (n:Int))).run Tryz.prog w=.ok (.slice (some ⟨w.heap.size,0,none⟩) n n) (w.alloc (.cells (yC (List.replicate n 0)).toArray 5)):=by
 obtain⟨ti,hti,hz0,hz1,hz2⟩:=Yr Tryz.infoU8x;have h:=run_make (P:=Tryz.prog) w 140 5 ti _ Tryz.underlying140 hti hz0 .i64 .i64 (n:Int) (n:Int) (by omega) (Int.le_refl _) (by rw [hz2]; omega) (by omega);rw [hz1,Int.toNat_natCast,Nat.mul_one,show(Value.int IntKind.u8 0).cells=#[.int .u8 0] from rfl,Zjr,show List.replicate n (Value.int IntKind.u8 0)=yC (List.replicate n 0) by simp [yC]] at h;exact h
section
variable {P:Program} {ops:Array Oper} {Q:Exit→Act→World→Prop} {md:Region.Mode} {C:World→Prop} {d:Nat}
theorem Oz (i j:Nat){oi oj:Oper}{n:Nat}{L:Array Bool}{a:Act}{w:World}
 (h1:∀ K':Act→World→Prop,_root_.Go.Shut (∀ a w,((L.setIfInBounds i true).getD d true=false→C w)→Ye P md ops Q C d n (L.setIfInBounds i true) a w→K' a w)→if Region.wanted oi (yielded ops a.tmps)=true then Oper.wp P oi a w K' Q else K' (a.put oi.dst undef) w)
 (h2:∀ K':Act→World→Prop,_root_.Go.Shut (∀ a w,((L.setIfInBounds j true).getD d true=false→C w)→Ye P md ops Q C d n (L.setIfInBounds j true) a w→K' a w)→if Region.wanted oj (yielded ops a.tmps)=true then Oper.wp P oj a w K' Q else K' (a.put oj.dst undef) w)
 (hr:Region.ready md ops L=[i,j]:=by kernel_rfl) (hi:ops[i]?=some oi:=by rfl) (hj:ops[j]?=some oj:=by rfl):Ye P md ops Q C d (n+1) L a w:=by
 refine⟨fun h0=>(by rw [hr] at h0; cases h0),fun k hk=>?_⟩;rw [hr] at hk;have hk:k=i∨k=j:=by simpa using hk
 rcases hk with rfl | rfl
 ·
  exact wpOp_step hi (fun K' hK=>h1 K' (fun a w h1 h2=>hK a w ⟨h1,h2⟩))
 ·
  exact wpOp_step hj (fun K' hK=>h2 K' (fun a w h1 h2=>hK a w ⟨h1,h2⟩))
end
structure NmI (w W:World)(T:Zm)(C:Zk)(cs cf ce sv:Value)(n mb sb rr ck:Nat)(bv:Value)(es:Array MapEntry):Prop where
 low:Below w.heap.size w W
 mi:W.heap[mb]?=some (.cells (Xn.row ⟨T,cs,cf,ce,fun k=>dVs.getD k .nilFunc,bv,.map (some rr),0,0,0,fun _=>0,.slice (some ⟨sb,0,none⟩) n n,.slice none 0 0,.slice none 0 0,0,0,fun _=>0,.slice none 0 0,sv,0,.slice none 0 0,0,.slice none 0 0,0,0⟩) 143 (0,0))
 mem:W.heap[sb]?=some (.cells (yC (List.replicate n 0)).toArray 5 (0,0))
 own:W.ownsRow w.heap.size 138 3 bv (Zg C).length (Nt (Zg C))
 mp:W.heap[rr]?=some (.map es ck)
 pe:MpE (Zg C) es.toList 1
 tb:W.heap[w.heap.size]?=some (.cells T.box 25 (0,0))
 cb:W.heap[w.heap.size+1]?=some (.cells #[cs,cf,ce] 29 (0,0))
 b0:w.heap.size≤mb
 b1:w.heap.size≤sb
 b2:w.heap.size≤rr
theorem Na.cells {w:World}{A:Nat}{p:Option Addr}{c:Nat}{ss:List (List Int×Int)}(h:Na w A (.slice p ss.length c) ss):∀ k,k<ss.length→∃ g so lv,p=some ⟨g,so,none⟩∧g<A∧w.cell? ⟨g,so+k*2,none⟩=some lv∧w.cell? ⟨g,so+k*2+1,none⟩=some (.int .i64 (ss.getD k ([],0)).2)∧Li w lv (ss.getD k ([],0)).1∧Lj w A lv (ss.getD k ([],0)).1:=by
 obtain⟨p',c',e,-,-,h⟩:=h;injection e with e1 e2 e3;subst e1;exact h
theorem Yo.kpx {V V':World}{L:Nat}{av rv:Value}{l:Yc}{pvs:List Value}(h:Yo V L av rv l pvs)(hk:∀(g:Nat) (cs:Array Value) (t:TypeId),L≤g→V.heap[g]?=some (Obj.cells cs t (0,0))→t≠76→V'.heap[g]?=V.heap[g]?):Yo V' L av rv l pvs :=
 ⟨h.len,Yn h.args fun g hg=>by
  obtain⟨cs,hr⟩:=Jg h.args hg;exact hk g cs _ (h.args.lt g hg).1 hr (by decide),fun k hk2=>Yn (h.each k hk2) fun g hg=>by
  obtain⟨cs,hr⟩:=Jg (h.each k hk2) hg;exact hk g cs _ ((h.each k hk2).lt g hg).1 hr (by decide),Yn h.res fun g hg=>by
  obtain⟨cs,hr⟩:=Jg h.res hg;exact hk g cs _ (h.res.lt g hg).1 hr (by decide)⟩
theorem Tryz.infoLyX:(Tryz.prog.info? 76).map (fun i=>(i.zero,i.size,i.bytes))=some (some (.agg #[.slice none 0 0,.slice none 0 0,.int .i64 0,.int .i64 0]),4,64):=by kernel_rfl
theorem Zxr {T:Zm}{w V:World}(hT:TbO w T)(ha:T.ag.length≤100)(hr:T.rs.length≤100)(h0:0≤T.sh)(h1:T.sh≤100)(hV:Below w.heap.size w V){ps:List Int}{nr:Int}{lp:Option Addr}{lc:Nat}(hs:Mt (ps,nr))(hl:Li V (.slice lp ps.length lc) ps):Calls Tryz.prog 75 #[.agg #[.int .i64 T.r,.int .i64 T.sp,.int .i64 T.lk,.int .i64 T.t0,.int .i64 T.t1,.slice T.pa T.ag.length T.ca,.slice T.pr T.rs.length T.cr,.slice T.ps T.ss.length T.cs,.int .i64 T.al,.int .i64 T.sh,.int .i64 T.br,.bool T.pairs],.agg #[.slice lp ps.length lc,.int .i64 nr]] V (fun e w'=>∃ av rv pvs,e=.returned (.agg #[av,rv,.int .i64 (Zr T (ps,nr)).size,.int .i64 (Zr T (ps,nr)).copies])∧Yo w' V.heap.size av rv (Zr T (ps,nr)) pvs∧Below V.heap.size V w') :=
 Zxg T ps lp lc nr V (hT.below hV).low hl hs.n hs.l hs.r0 hs.r4 ha hr h0 h1
def Ld (n k:Nat):List Int:=(List.range n).map fun i:Nat=>if i<k then (7*(i:Int)+3) % 256 else 0
theorem Jw (n k:Nat):(Ld n k).length=n:=by simp [Ld]
theorem Zbm (n:Nat):Ld n 0=List.replicate n 0:=by
 refine List.ext_getElem (by simp [Ld]) fun i h1 h2=>?_;simp [Ld]
theorem Zes (n k:Nat):(Ld n k).set k ((7*(k:Int)+3) % 256)=Ld n (k+1):=by
 refine List.ext_getElem (by simp [Ld]) fun i h1 h2=>?_;simp only [Ld,List.getElem_set,List.getElem_map,List.getElem_range];by_cases hi:k=i
 ·
  subst hi; simp
 ·
  rw [if_neg hi];by_cases hl:i<k
  ·
   rw [if_pos hl,if_pos (by omega)]
  ·
   rw [if_neg hl,if_neg (by omega)]
def Znt (V:World)(sb n k:Nat):Prop:=V.heap[sb]?=some (.cells (yC (Ld n k)).toArray 5 (0,0))
theorem Two.kx' {N a:Nat}{w w':World}(b:Nat)(h:Two a a w w'):Kx N b a w w':=⟨h.os,h.tape,h.output,Nat.le_of_eq h.size.symm,fun q _ _ h2=>h.oth q h2 h2⟩
theorem Yo.lowx {V:World}{L M:Nat}{av rv:Value}{l:Yc}{pvs:List Value}(h:Yo V M av rv l pvs)(hM:L≤M):Yo V L av rv l pvs :=
 ⟨h.len,Yh h.args hM,fun k hk=>Yh (h.each k hk) hM,Yh h.res hM⟩
def nmG (T:Zm)(cs cf ce sv bv:Value)(rr sb n:Nat)(R:Nat→Int)(ov:Value):Xn:=⟨T,cs,cf,ce,fun k=>dVs.getD k .nilFunc,bv,.map (some rr),0,0,0,R,.slice (some ⟨sb,0,none⟩) n n,.slice none 0 0,.slice none 0 0,0,0,fun _=>0,ov,sv,0,.slice none 0 0,0,.slice none 0 0,0,0⟩
def Mj (k:Nat):Nat→Int:=fun r=>if r<k then 7000+(r:Int) else 0
theorem Zjg (k:Nat):Yy (Mj k) k (7000+(k:Int))=Mj (k+1):=by
 funext r
 unfold Yy Mj;by_cases h:r=k
 ·
  subst h; rw [if_pos rfl,if_pos (by omega)]
 ·
  rw [if_neg h];by_cases h2:r<k
  ·
   rw [if_pos h2,if_pos (by omega)]
  ·
   rw [if_neg h2,if_neg (by omega)]
theorem Znu {x:Int}(h:0≤x)(h2:x<18446744073709551616):IntKind.u64.wrap x=x:=by
 rw [show IntKind.u64.wrap x=x % 18446744073709551616 by simp [IntKind.wrap,IntKind.bits,IntKind.signed]];omega
def Dp (vs:List (Value×Value))(ls:List Yc):List Value:=(vs.zip ls).flatMap fun x=>[x.1.1,x.1.2,.int .i64 x.2.size,.int .i64 x.2.copies]
theorem Zlw (vs:List (Value×Value))(ls:List Yc)(x:Value×Value)(l:Yc)(h:vs.length=ls.length):Dp (vs++[x]) (ls++[l])=Dp vs ls++[x.1,x.2,.int .i64 l.size,.int .i64 l.copies]:=by
 unfold Dp;rw [List.zip_append h];simp
theorem Zet:∀(vs:List (Value×Value)) (ls:List Yc) (k:Nat),vs.length=ls.length→k<ls.length→(Dp vs ls)[k*4]?=some (vs.getD k (undef,undef)).1∧(Dp vs ls)[k*4+1]?=some (vs.getD k (undef,undef)).2∧(Dp vs ls)[k*4+2]?=some (.int .i64 (ls.getD k ⟨[],[],0,0⟩).size)∧(Dp vs ls)[k*4+3]?=some (.int .i64 (ls.getD k ⟨[],[],0,0⟩).copies)
 | [],l :: ls,_,h,_=>by simp at h
 | v :: vs,[],_,h,_=>by simp at h
 | [],[],k,_,h=>by simp at h
 | v :: vs,l :: ls,0,_,_=>⟨rfl,rfl,rfl,rfl⟩
 | v :: vs,l :: ls,k+1,h,hk=>by
  have ih:=Zet vs ls k (by simpa using h) (by simpa using hk);have e:Dp (v :: vs) (l :: ls)=[v.1,v.2,.int .i64 l.size,.int .i64 l.copies]++Dp vs ls:=rfl;have q:∀ i,(Dp (v :: vs) (l :: ls))[(k+1)*4+i]?=(Dp vs ls)[k*4+i]?:=fun i=>by
   rw [e,List.getElem?_append_right (by simp; omega)];congr 1
   simp
   omega
  refine⟨?_,?_,?_,?_⟩
  ·
   have:=q 0;simp only [Nat.add_zero] at this;rw [this,ih.1]; simp [List.getD]
  ·
   rw [q 1,ih.2.1]; simp [List.getD]
  ·
   rw [q 2,ih.2.2.1]; simp [List.getD]
  ·
   rw [q 3,ih.2.2.2]; simp [List.getD]
theorem Zva {V:World}{L:Nat}{T:Zm}{ov:Value}{ss:List (List Int×Int)}{avs:List (Value×Value)}{pv:Nat→List Value}(h:V.ownsRow L 76 4 ov ss.length (Dp avs (ss.map (Zr T))))(hl:avs.length=ss.length)(hy:∀ i,i<ss.length→Yo V L (avs.getD i (undef,undef)).1 (avs.getD i (undef,undef)).2 (Zr T (ss.getD i ([],0))) (pv i)):Ca V L T ov ss:=by
 obtain⟨p,c,rfl⟩:=Ze h;refine⟨p,c,rfl,fun k hk=>?_⟩;obtain⟨g,c',e,hB,hlt,hc⟩:=Ju h (by omega);injection e with e1 e2 e3;have ho:=Zet avs (ss.map (Zr T)) k (by simp [hl]) (by simpa using hk);have hm:(ss.map (Zr T)).getD k ⟨[],[],0,0⟩=Zr T (ss.getD k ([],0)):=by simp [List.getD,hk]
 rw [hm] at ho;exact⟨g,_,_,_,e1,hB,hlt,(hc _ (by omega)).trans ho.1,(hc _ (by omega)).trans ho.2.1,(hc _ (by omega)).trans ho.2.2.1,(hc _ (by omega)).trans ho.2.2.2,hy k hk⟩
theorem Yo.belx {w w':World}{B:Nat}{av rv:Value}{l:Yc}{pvs:List Value}(h:Yo w B av rv l pvs)(hb:Below w.heap.size w w'):Yo w' B av rv l pvs :=
 ⟨h.len,Yn h.args fun g hg=>hb.block g (h.args.lt g hg).2,fun k hk=>Yn (h.each k hk) fun g hg=>hb.block g ((h.each k hk).lt g hg).2,Yn h.res fun g hg=>hb.block g (h.res.lt g hg).2⟩
structure NmF (w V:World)(T:Zm)(C:Zk)(cs cf ce sv:Value)(n mb sb rr ck:Nat)(bv ov:Value)(es:Array MapEntry)(L:Nat):Prop where
 low:Below w.heap.size w V
 mi:MI V mb (nmG T cs cf ce sv bv rr sb n (Mj 16) ov)
 mem:Znt V sb n n
 own:V.ownsRow w.heap.size 138 3 bv (Zg C).length (Nt (Zg C))
 mp:V.heap[rr]?=some (.map es ck)
 pe:MpE (Zg C) es.toList 1
 oth:Ca V L T ov C.externs
 b0:w.heap.size≤mb
 b1:w.heap.size≤sb
 b2:w.heap.size≤rr
 mL:mb<L
 sL:sb<L
 zL:L≤V.heap.size
theorem Su {w:World}{r ck:Nat}{es:Array MapEntry}(h:w.heap[r]?=some (.map es ck)):r<w.heap.size:=by
 rcases Nat.lt_or_ge r w.heap.size with h' | h'
 ·
  exact h'
 ·
  rw [Array.getElem?_eq_none h'] at h; cases h
theorem Zzv {w U:World}{T:Zm}{C:Zk}{cs cf ce sv:Value}{n sb rr ck:Nat}{bv:Value}{es:Array MapEntry}(hb:Below w.heap.size w U)(hm:U.heap[sb]?=some (.cells (yC (List.replicate n 0)).toArray 5 (0,0)))(ho:U.ownsRow w.heap.size 138 3 bv (Zg C).length (Nt (Zg C)))(hp:U.heap[rr]?=some (.map es ck))(he:MpE (Zg C) es.toList 1)(h1:w.heap.size≤sb)(h2:w.heap.size≤rr)(h3:U.heap[w.heap.size]?=some (.cells T.box 25 (0,0)))(h4:U.heap[w.heap.size+1]?=some (.cells #[cs,cf,ce] 29 (0,0))) :
 NmI w (U.alloc (.cells (Xn.row ⟨T,cs,cf,ce,fun k=>dVs.getD k .nilFunc,bv,.map (some rr),0,0,0,fun _=>0,.slice (some ⟨sb,0,none⟩) n n,.slice none 0 0,.slice none 0 0,0,0,fun _=>0,.slice none 0 0,sv,0,.slice none 0 0,0,.slice none 0 0,0,0⟩) 143 (0,0))) T C cs cf ce sv n U.heap.size sb rr ck bv es:=by
 obtain⟨r,hb1,hz⟩:=Zs U (.cells (Xn.row ⟨T,cs,cf,ce,fun k=>dVs.getD k .nilFunc,bv,.map (some rr),0,0,0,fun _=>0,.slice (some ⟨sb,0,none⟩) n n,.slice none 0 0,.slice none 0 0,0,0,fun _=>0,.slice none 0 0,sv,0,.slice none 0 0,0,.slice none 0 0,0,0⟩) 143 (0,0));exact⟨Zb hb hb1 hb.size,r,(hb1.block sb (Zc hm)).trans hm,Yn ho fun g hg=>hb1.block g (ho.lt g hg).2,(hb1.block rr (Su hp)).trans hp,he,(hb1.block _ (Zc h3)).trans h3,(hb1.block _ (Zc h4)).trans h4,hb.size,h1,h2⟩
theorem Zvb {w U:World}{T:Zm}{C:Zk}{cs cf ce sv:Value}{n sb rr ck k:Nat}{bv:Value}{es:Array MapEntry}(hk:U.heap.size=k)(hb:Below w.heap.size w U)(hm:U.heap[sb]?=some (.cells (yC (List.replicate n 0)).toArray 5 (0,0)))(ho:U.ownsRow w.heap.size 138 3 bv (Zg C).length (Nt (Zg C)))(hp:U.heap[rr]?=some (.map es ck))(he:MpE (Zg C) es.toList 1)(h1:w.heap.size≤sb)(h2:w.heap.size≤rr)(h3:U.heap[w.heap.size]?=some (.cells T.box 25 (0,0)))(h4:U.heap[w.heap.size+1]?=some (.cells #[cs,cf,ce] 29 (0,0))) :
 NmI w (U.alloc (.cells (Xn.row ⟨T,cs,cf,ce,fun k=>dVs.getD k .nilFunc,bv,.map (some rr),0,0,0,fun _=>0,.slice (some ⟨sb,0,none⟩) n n,.slice none 0 0,.slice none 0 0,0,0,fun _=>0,.slice none 0 0,sv,0,.slice none 0 0,0,.slice none 0 0,0,0⟩) 143 (0,0))) T C cs cf ce sv n k sb rr ck bv es:=by
 subst hk;exact Zzv hb hm ho hp he h1 h2 h3 h4
theorem Zcq (T:Zm)(C:Zk)(w:World)(A:Nat)(csp cfp cep:Option Addr)(csn csc cfn cfc cec:Nat)(sp:Option Addr)(sn sc n:Nat)(hc:Gi w A (.slice cfp cfn cfc) C.funcs)(hA:A≤w.heap.size)(hbl:(Zg C).length≤1099511627776)(hn:n≤65536)(hE:Na w A (.slice cep C.externs.length cec) C.externs)(hSG:∀ s ∈ C.externs,Mt s)(hT:TbO w T)(hTK:TK T)(hag:T.ag.length≤100)(hrs:T.rs.length≤100)(hel:C.externs.length≤1099511627776) :
 Calls Tryz.prog 58 #[.agg T.box,.agg #[.slice csp csn csc,.slice cfp cfn cfc,.slice cep C.externs.length cec],.slice sp sn sc,.int .i64 (n:Int)] w fun e w'=>∃ mb,e=.returned (.pointer (some ⟨mb,0,none⟩))∧∃ sb rr ck bv ov es L,NmF w w' T C (.slice csp csn csc) (.slice cfp cfn cfc) (.slice cep C.externs.length cec) (.slice sp sn sc) n mb sb rr ck bv ov es L:=by
 obtain⟨r0,hb0,hz0⟩:=Zs w (.cells T.box 25 (0,0));obtain⟨r1,hb1,hz1⟩:=Zs (w.alloc (.cells T.box 25 (0,0))) (.cells #[.slice csp csn csc,.slice cfp cfn cfc,.slice cep C.externs.length cec] 29 (0,0));rw [hz0] at r1 hz1;have HZ:=Y hz1;have HB:=Y (Zb hb0 hb1 (by omega));have HC:=Y (fun V (hb:Below (w.heap.size+2) ((w.alloc (.cells T.box 25 (0,0))).alloc (.cells #[.slice csp csn csc,.slice cfp cfn cfc,.slice cep C.externs.length cec] 29 (0,0))) V)=>show(fun V=>V.cell? ⟨w.heap.size,0,none⟩=some (.int .i64 T.r)∧V.cell? ⟨w.heap.size,1,none⟩=some (.int .i64 T.sp)∧V.cell? ⟨w.heap.size,2,none⟩=some (.int .i64 T.lk)∧V.cell? ⟨w.heap.size,3,none⟩=some (.int .i64 T.t0)∧V.cell? ⟨w.heap.size,4,none⟩=some (.int .i64 T.t1)∧V.cell? ⟨w.heap.size,5,none⟩=some (.slice T.pa T.ag.length T.ca)∧V.cell? ⟨w.heap.size,6,none⟩=some (.slice T.pr T.rs.length T.cr)∧V.cell? ⟨w.heap.size,7,none⟩=some (.slice T.ps T.ss.length T.cs)∧V.cell? ⟨w.heap.size,8,none⟩=some (.int .i64 T.al)∧V.cell? ⟨w.heap.size,9,none⟩=some (.int .i64 T.sh)∧V.cell? ⟨w.heap.size,10,none⟩=some (.int .i64 T.br)∧V.cell? ⟨w.heap.size,11,none⟩=some (.bool T.pairs)∧V.cell? ⟨w.heap.size+1,0,none⟩=some (.slice csp csn csc)∧V.cell? ⟨w.heap.size+1,1,none⟩=some (.slice cfp cfn cfc)∧V.cell? ⟨w.heap.size+1,2,none⟩=some (.slice cep C.externs.length cec)) V from by
  have q0:=(hb.block w.heap.size (by omega)).trans ((hb1.block _ (by omega)).trans r0);have q1:=(hb.block (w.heap.size+1) (by omega)).trans r1;exact⟨(cR q0 0),(cR q0 1),(cR q0 2),(cR q0 3),(cR q0 4),(cR q0 5),(cR q0 6),(cR q0 7),(cR q0 8),(cR q0 9),(cR q0 10),(cR q0 11),(cR q1 0),(cR q1 1),(cR q1 2)⟩)
 have HCR:=Y (fun V (hb:Below (w.heap.size+2) ((w.alloc (.cells T.box 25 (0,0))).alloc (.cells #[.slice csp csn csc,.slice cfp cfn cfc,.slice cep C.externs.length cec] 29 (0,0))) V)=>And.intro ((hb.block w.heap.size (by omega)).trans ((hb1.block _ (by omega)).trans r0)) ((hb.block (w.heap.size+1) (by omega)).trans r1));have HEA:=Y hE.cells;have HSG:=Y hSG;have HTT:=Y hT;have HMK:=fun V=>Zzu n (by omega) V;clear r0 hb0 hz0 r1 hb1 hz1 hE hSG hT;rw [show T.box=#[.int .i64 T.r,.int .i64 T.sp,.int .i64 T.lk,.int .i64 T.t0,.int .i64 T.t1,.slice T.pa T.ag.length T.ca,.slice T.pr T.rs.length T.cr,.slice T.ps T.ss.length T.cs,.int .i64 T.al,.int .i64 T.sh,.int .i64 T.br,.bool T.pairs] from rfl] at HC HB HZ HCR ⊢;go_enter Tryz.func58,Tryz.ntmps58
 go_upto_region 1 with fail
 generalize World.alloc (World.alloc w _) _=W at HC HB HZ HCR ⊢;have HC0:=Y (O HC W.drew (Below.refl _ _).drew);have HCA:=Y (fun V (hb:Below (w.heap.size+2) W V)=>Zlv C V A (.slice csp csn csc) (.slice cfp cfn cfc) (.slice cep C.externs.length cec) (hc.kx (N:=A) (a:=A) (b:=A) (Gh (Below.mono (Zb (O HB) (show Below W.heap.size W V by rw [O HZ]; exact hb) (O HB).size) hA)) (Nat.le_refl _) (Nat.le_refl _) (Nat.le_refl _)) (by have:=hb.size; have:=O HZ; omega) hbl);refine Code.wp_mono (Q:=fun e a W'=>e=.normal∧∃ mb sb rr ck bv es x14 x15 x16 x17 x18 x19 x20 x21 x22 x23,a={ tmps:=#[.agg #[.int .i64 T.r,.int .i64 T.sp,.int .i64 T.lk,.int .i64 T.t0,.int .i64 T.t1,.slice T.pa T.ag.length T.ca,.slice T.pr T.rs.length T.cr,.slice T.ps T.ss.length T.cs,.int .i64 T.al,.int .i64 T.sh,.int .i64 T.br,.bool T.pairs],.agg #[.slice csp csn csc,.slice cfp cfn cfc,.slice cep C.externs.length cec],.slice sp sn sc,.int .i64 (n:Int),.pointer (some ⟨w.heap.size,0,none⟩),.pointer (some ⟨w.heap.size+1,0,none⟩),undef,undef,.pointer none,.pointer (some ⟨mb,0,none⟩),undef,undef,undef,undef,x14,x15,x16,x17,x18,x19,x20,x21,x22,x23,undef,undef,undef,undef,undef,undef,undef,undef,undef,undef,undef,undef,undef,undef,undef,undef,undef,undef,undef,undef,undef,undef,undef,undef,undef,undef,undef,undef,undef,undef,undef,undef,undef,undef,undef,undef,undef,undef,undef,undef,undef,undef,undef,undef,undef,undef,undef,undef,undef,undef,undef,undef],defers:=[] }∧NmI w W' T C (.slice csp csn csc) (.slice cfp cfn cfc) (.slice cep C.externs.length cec) (.slice sp sn sc) n mb sb rr ck bv es) ?cont ?reg
 case reg =>
  refine Zh (C:=fun V=>V.cell? ⟨w.heap.size,0,none⟩=some (.int .i64 T.r)∧V.cell? ⟨w.heap.size,1,none⟩=some (.int .i64 T.sp)∧V.cell? ⟨w.heap.size,2,none⟩=some (.int .i64 T.lk)∧V.cell? ⟨w.heap.size,3,none⟩=some (.int .i64 T.t0)∧V.cell? ⟨w.heap.size,4,none⟩=some (.int .i64 T.t1)∧V.cell? ⟨w.heap.size,5,none⟩=some (.slice T.pa T.ag.length T.ca)∧V.cell? ⟨w.heap.size,6,none⟩=some (.slice T.pr T.rs.length T.cr)∧V.cell? ⟨w.heap.size,7,none⟩=some (.slice T.ps T.ss.length T.cs)∧V.cell? ⟨w.heap.size,8,none⟩=some (.int .i64 T.al)∧V.cell? ⟨w.heap.size,9,none⟩=some (.int .i64 T.sh)∧V.cell? ⟨w.heap.size,10,none⟩=some (.int .i64 T.br)∧V.cell? ⟨w.heap.size,11,none⟩=some (.bool T.pairs)∧V.cell? ⟨w.heap.size+1,0,none⟩=some (.slice csp csn csc)∧V.cell? ⟨w.heap.size+1,1,none⟩=some (.slice cfp cfn cfc)∧V.cell? ⟨w.heap.size+1,2,none⟩=some (.slice cep C.externs.length cec)) (d:=10) (by kernel_rfl) ?_;refine vD 0 (O HC0) ?_ (hQ:=fun _ _ _ h=>nomatch h.1);refine vD 1 (O HC0) ?_ (hQ:=fun _ _ _ h=>nomatch h.1);refine vD 3 (O HC0) ?_ (hQ:=fun _ _ _ h=>nomatch h.1);refine vD 5 (O HC0) ?_ (hQ:=fun _ _ _ h=>nomatch h.1);refine vD 6 (O HC0) ?_ (hQ:=fun _ _ _ h=>nomatch h.1);refine Oz 2 7 (fun K hK=>?_) (fun K hK=>?_)
  ·
   go_simp;refine(Iv _).mono ?_;rintro e w1 ⟨rfl,hb1⟩;have Hw1:=Y (show Below (w.heap.size+2) W w1 from Zb (show Below (w.heap.size+2) W W.drew from(Below.refl _ _).drew) hb1 (show w.heap.size+2≤W.heap.size by rw [O HZ]; exact Nat.le_refl _));clear hb1;refine kO hK (fun _=>O HC w1 (O Hw1)) ?_;clear hK K;refine Oz 4 7 (fun K hK=>?_) (fun K hK=>?_)
   ·
    go_simp;refine(O HCA _ (O Hw1)).mono ?_;rintro e w2 ⟨bv,rr,ck,es,rfl,how,hmp,hpe,hrr,hb2⟩;obtain⟨bp,bc,rfl⟩:=Ze how;have Hw2:=Y (show Below (w.heap.size+2) W w2 from Zb (O Hw1) hb2 (by have:=(O Hw1).size; have:=O HZ; omega));have hzz:w.heap.size≤w1.heap.size:=by have:=(O Hw1).size; have:=O HZ; omega
    have HX:=Y (And.intro how (And.intro hmp (And.intro hpe hrr)));clear how hmp hpe hrr hb2;refine kO hK (fun _=>O HC w2 (O Hw2)) ?_;clear hK K;have H3:=Y (show Below (w.heap.size+2) W (w2.alloc (.cells (yC (List.replicate n 0)).toArray 5 (0,0))) from Zb (O Hw2) (Zs w2 _).2.1 (by have:=(O Hw2).size; have:=O HZ; omega));refine vO 7 fun K hK=>?_;go_simp;refine kO hK (fun _=>O HC _ (O H3)) ?_;clear hK K;obtain⟨RW,hRW⟩:∃ R,(Xn.row ⟨T,.slice csp csn csc,.slice cfp cfn cfc,.slice cep C.externs.length cec,fun k=>dVs.getD k .nilFunc,.slice bp (Zg C).length bc,.map (some rr),0,0,0,fun _=>0,.slice (some ⟨w2.heap.size,0,none⟩) n n,.slice none 0 0,.slice none 0 0,0,0,fun _=>0,.slice none 0 0,.slice sp sn sc,0,.slice none 0 0,0,.slice none 0 0,0,0⟩)=R:=⟨_,rfl⟩;refine vT (v:=.agg (Xn.row ⟨T,.slice csp csn csc,.slice cfp cfn cfc,.slice cep C.externs.length cec,fun k=>dVs.getD k .nilFunc,.slice bp (Zg C).length bc,.map (some rr),0,0,0,fun _=>0,.slice (some ⟨w2.heap.size,0,none⟩) n n,.slice none 0 0,.slice none 0 0,0,0,fun _=>0,.slice none 0 0,.slice sp sn sc,0,.slice none 0 0,0,.slice none 0 0,0,0⟩)) 8 (O HC _ (O H3)) ?_ (hQ:=fun _ _ _ h=>nomatch h.1) (hy:=fun V _=>by kernel_rfl);rw [hRW];refine vO 9 fun K hK=>?_;go_simp;refine kO hK (fun _=>O HC _ (Zb (O H3) (Zs (w2.alloc (.cells (yC (List.replicate n 0)).toArray 5 (0,0))) (.cells RW 143 (0,0))).2.1 (by have:=(O H3).size; have:=O HZ; omega))) ?_
    clear hK K;refine vO 10 fun K hK=>?_;go_simp;refine kO hK (fun hx=>by cases hx) ?_;clear hK K;refine Zi (by kernel_rfl) ?_ _;obtain⟨how,hmp,hpe,hrr⟩:=O HX;subst hRW;exact⟨rfl,_,_,rr,ck,_,es,_,_,_,_,_,_,_,_,_,_,rfl,Zvb (Zs w2 (.cells (yC (List.replicate n 0)).toArray 5 (0,0))).2.2 (Zb (O HB) (show Below W.heap.size W (w2.alloc (.cells (yC (List.replicate n 0)).toArray 5 (0,0))) by rw [O HZ]; exact O H3) (O HB).size) ((Zs w2 (.cells (yC (List.replicate n 0)).toArray 5 (0,0))).1) (Yh (Yn how fun g hg=>(Zs w2 (.cells (yC (List.replicate n 0)).toArray 5 (0,0))).2.1.block g (how.lt g hg).2) hzz) (((Zs w2 (.cells (yC (List.replicate n 0)).toArray 5 (0,0))).2.1.block rr (Su hmp)).trans hmp) hpe (by have:=(O Hw2).size; have:=O HZ; omega) (by omega) (O HCR _ (O H3)).1 (O HCR _ (O H3)).2⟩
   ·
    have H3:=Y (show Below (w.heap.size+2) W (w1.alloc (.cells (yC (List.replicate n 0)).toArray 5 (0,0))) from Zb (O Hw1) (Zs w1 _).2.1 (by have:=(O Hw1).size; have:=O HZ; omega));go_simp;refine kO hK (fun _=>O HC _ (O H3)) ?_;clear hK K;refine vO 4 fun K hK=>?_;go_simp;refine(O HCA _ (O H3)).mono ?_;rintro e w2 ⟨bv,rr,ck,es,rfl,how,hmp,hpe,hrr,hb2⟩;obtain⟨bp,bc,rfl⟩:=Ze how;have Hw2:=Y (show Below (w.heap.size+2) W w2 from Zb (O H3) hb2 (by have:=(O H3).size; have:=O HZ; omega));have hzz:w.heap.size≤(w1.alloc (.cells (yC (List.replicate n 0)).toArray 5 (0,0))).heap.size:=by have:=(O H3).size; have:=O HZ; omega
    have HY:=Y ((hb2.block w1.heap.size (by have:=(Zs w1 (.cells (yC (List.replicate n 0)).toArray 5 (0,0))).2.2; omega)).trans (Zs w1 (.cells (yC (List.replicate n 0)).toArray 5 (0,0))).1);have HX:=Y (And.intro how (And.intro hmp (And.intro hpe hrr)));clear how hmp hpe hrr hb2;refine kO hK (fun _=>O HC w2 (O Hw2)) ?_;clear hK K;obtain⟨RW,hRW⟩:∃ R,(Xn.row ⟨T,.slice csp csn csc,.slice cfp cfn cfc,.slice cep C.externs.length cec,fun k=>dVs.getD k .nilFunc,.slice bp (Zg C).length bc,.map (some rr),0,0,0,fun _=>0,.slice (some ⟨w1.heap.size,0,none⟩) n n,.slice none 0 0,.slice none 0 0,0,0,fun _=>0,.slice none 0 0,.slice sp sn sc,0,.slice none 0 0,0,.slice none 0 0,0,0⟩)=R:=⟨_,rfl⟩;refine vT (v:=.agg (Xn.row ⟨T,.slice csp csn csc,.slice cfp cfn cfc,.slice cep C.externs.length cec,fun k=>dVs.getD k .nilFunc,.slice bp (Zg C).length bc,.map (some rr),0,0,0,fun _=>0,.slice (some ⟨w1.heap.size,0,none⟩) n n,.slice none 0 0,.slice none 0 0,0,0,fun _=>0,.slice none 0 0,.slice sp sn sc,0,.slice none 0 0,0,.slice none 0 0,0,0⟩)) 8 (O HC _ (O Hw2)) ?_ (hQ:=fun _ _ _ h=>nomatch h.1) (hy:=fun V _=>by kernel_rfl);rw [hRW];refine vO 9 fun K hK=>?_;go_simp;refine kO hK (fun _=>O HC _ (Zb (O Hw2) (Zs w2 (.cells RW 143 (0,0))).2.1 (by have:=(O Hw2).size; have:=O HZ; omega))) ?_;clear hK K;refine vO 10 fun K hK=>?_;go_simp;refine kO hK (fun hx=>by cases hx) ?_;clear hK K;refine Zi (by kernel_rfl) ?_ _
    obtain⟨how,hmp,hpe,hrr⟩:=O HX;subst hRW;exact⟨rfl,_,_,rr,ck,_,es,_,_,_,_,_,_,_,_,_,_,rfl,Zvb rfl (Zb (O HB) (show Below W.heap.size W w2 by rw [O HZ]; exact O Hw2) (O HB).size) (O HY) (Yh how hzz) hmp hpe (by have:=(O Hw1).size; have:=O HZ; omega) (by omega) (O HCR _ (O Hw2)).1 (O HCR _ (O Hw2)).2⟩
  ·
   have H0:=Y (show Below (w.heap.size+2) W (W.alloc (.cells (yC (List.replicate n 0)).toArray 5 (0,0))).drew from by
    have:=(Zs W (.cells (yC (List.replicate n 0)).toArray 5 (0,0))).2.1.drew;rw [O HZ] at this;exact this)
   go_simp;refine kO hK (fun _=>O HC _ (O H0)) ?_;clear hK K;have HY0:=Y (show(W.alloc (.cells (yC (List.replicate n 0)).toArray 5 (0,0))).drew.heap[W.heap.size]?=_ from(Zs W (.cells (yC (List.replicate n 0)).toArray 5 (0,0))).1);have HSB:=Y (show W.heap.size<(W.alloc (.cells (yC (List.replicate n 0)).toArray 5 (0,0))).drew.heap.size by have:=(Zs W (.cells (yC (List.replicate n 0)).toArray 5 (0,0))).2.2; show W.heap.size<(W.alloc (.cells (yC (List.replicate n 0)).toArray 5 (0,0))).heap.size; omega);generalize World.drew (World.alloc W _)=W1 at H0 HY0 HSB ⊢;refine vO 2 fun K hK=>?_;go_simp;refine(Iv _).mono ?_;rintro e w1 ⟨rfl,hb1⟩;have Hw1:=Y (show Below (w.heap.size+2) W w1 from Zb (O H0) hb1 (by have:=(O H0).size; have:=O HZ; omega));have HY1:=Y ((hb1.block W.heap.size (O HSB)).trans (O HY0));have HSB1:=Y (show W.heap.size<w1.heap.size by have:=hb1.size; have:=O HSB; omega);clear hb1;refine kO hK (fun _=>O HC w1 (O Hw1)) ?_;clear hK K;refine vO 4 fun K hK=>?_;go_simp;refine(O HCA _ (O Hw1)).mono ?_;rintro e w2 ⟨bv,rr,ck,es,rfl,how,hmp,hpe,hrr,hb2⟩;obtain⟨bp,bc,rfl⟩:=Ze how;have Hw2:=Y (show Below (w.heap.size+2) W w2 from Zb (O Hw1) hb2 (by have:=(O Hw1).size; have:=O HZ; omega));have hzz:w.heap.size≤w1.heap.size:=by have:=(O Hw1).size; have:=O HZ; omega
   have HY:=Y ((hb2.block W.heap.size (O HSB1)).trans (O HY1));have HX:=Y (And.intro how (And.intro hmp (And.intro hpe hrr)));clear how hmp hpe hrr hb2;refine kO hK (fun _=>O HC w2 (O Hw2)) ?_;clear hK K;obtain⟨RW,hRW⟩:∃ R,(Xn.row ⟨T,.slice csp csn csc,.slice cfp cfn cfc,.slice cep C.externs.length cec,fun k=>dVs.getD k .nilFunc,.slice bp (Zg C).length bc,.map (some rr),0,0,0,fun _=>0,.slice (some ⟨W.heap.size,0,none⟩) n n,.slice none 0 0,.slice none 0 0,0,0,fun _=>0,.slice none 0 0,.slice sp sn sc,0,.slice none 0 0,0,.slice none 0 0,0,0⟩)=R:=⟨_,rfl⟩;refine vT (v:=.agg (Xn.row ⟨T,.slice csp csn csc,.slice cfp cfn cfc,.slice cep C.externs.length cec,fun k=>dVs.getD k .nilFunc,.slice bp (Zg C).length bc,.map (some rr),0,0,0,fun _=>0,.slice (some ⟨W.heap.size,0,none⟩) n n,.slice none 0 0,.slice none 0 0,0,0,fun _=>0,.slice none 0 0,.slice sp sn sc,0,.slice none 0 0,0,.slice none 0 0,0,0⟩)) 8 (O HC _ (O Hw2)) ?_ (hQ:=fun _ _ _ h=>nomatch h.1) (hy:=fun V _=>by kernel_rfl);rw [hRW];refine vO 9 fun K hK=>?_;go_simp;refine kO hK (fun _=>O HC _ (Zb (O Hw2) (Zs w2 (.cells RW 143 (0,0))).2.1 (by have:=(O Hw2).size; have:=O HZ; omega))) ?_;clear hK K;refine vO 10 fun K hK=>?_;go_simp;refine kO hK (fun hx=>by cases hx) ?_;clear hK K;refine Zi (by kernel_rfl) ?_ _;obtain⟨how,hmp,hpe,hrr⟩:=O HX;subst hRW;exact⟨rfl,_,_,rr,ck,_,es,_,_,_,_,_,_,_,_,_,_,rfl,Zvb rfl (Zb (O HB) (show Below W.heap.size W w2 by rw [O HZ]; exact O Hw2) (O HB).size) (O HY) (Yh how hzz) hmp hpe (by have:=O HZ; omega) (by omega) (O HCR _ (O Hw2)).1 (O HCR _ (O Hw2)).2⟩
 case cont =>
  rintro e a W' ⟨rfl,mb,sb,rr,ck,bv,es,x14,x15,x16,x17,x18,x19,x20,x21,x22,x23,rfl,hN⟩;clear HC HCR HCA HB HZ HMK HC0;have HN:=Y hN;have HMI:=Y (show MI W' mb (nmG T (.slice csp csn csc) (.slice cfp cfn cfc) (.slice cep C.externs.length cec) (.slice sp sn sc) bv rr sb n (Mj 0) (.slice none 0 0)) from hN.mi);have hb0:=hN.b0;have hmz:=Zc hN.mi;clear hN;go_wp2_with fail
  go_loopw [24] (fun s24 V=>∃ k:Nat,s24=.int .i64 k∧k≤16∧Mc mb W' V∧MI V mb (nmG T (.slice csp csn csc) (.slice cfp cfn cfc) (.slice cep C.externs.length cec) (.slice sp sn sc) bv rr sb n (Mj k) (.slice none 0 0))) (fun s24 _=>16-(intOf s24).toNat)
  case atStart=>exact⟨0,rfl,by omega,Ub mb 0 W',O HMI⟩
  case round =>
   obtain⟨k,rfl,hk,ho,hmi⟩:=hrel;by_cases hk2:k<16
   ·
    have hk1:(k:Int)<16:=by omega
    have c:=(Zd hmi (42+k)).trans (Js _ k hk2);have z:=frozen_of_row _ _ (42+k) _ _ hmi;have hw:IntKind.u64.wrap (7000+(k:Int))=7000+(k:Int):=Znu (by omega) (by omega);have HM2:=Y (Yg hmi (Cj _ (7000+(k:Int)) k hk2));have HO2:=Y (Zx ho (Zl mb (42+k) wr (.int .u64 (7000+(k:Int)))));clear hmi ho;go_wp2;go_roundw
    case rel=>exact⟨k+1,by go_num,by omega,O HO2,by rw [← Zjg]; exact O HM2⟩
    case measure=>simp [intOf]; omega
   ·
    have hk16:k=16:=by omega
    subst hk16;rw [show((16:Nat):Int)=(16:Int) from rfl];have HO1:=Y ho;have HM1:=Y hmi;have e2:=((cR ((ho.oth (w.heap.size+1) (by have:=O HN; exact Jf this.cb this.mi (by decide))).trans (O HN).cb) 2):_=some (Value.slice cep C.externs.length cec));have HKX1:=Y (show Kx W'.heap.size mb sb W' wr from Mc.kx ho);have HSB1:=Y (ho.oth sb (by have:=O HN; exact Jf this.mem this.mi (by decide)));clear ho hmi;have HLOW:=Y (fun V (k:Kx W'.heap.size mb sb W' V)=>show Below w.heap.size w V from by
     have hN:=O HN;have hlo:=hN.low;exact⟨k.os.trans hlo.os,k.tape.trans hlo.tape,k.output.trans hlo.output,Nat.le_trans hlo.size k.size,fun q hq=>(k.oth q (by have:=hlo.size; omega) (by have:=hN.b0; omega) (by have:=hN.b1; omega)).trans (hlo.block q hq)⟩)
    have HTB:=Y (fun V (k:Kx W'.heap.size mb sb W' V)=>show V.heap[w.heap.size]?=some (.cells T.box 25 (0,0)) from by
     have hN:=O HN;exact(k.oth _ (Zc hN.tb) (Jf hN.tb hN.mi (by decide)) (Jf hN.tb hN.mem (by decide))).trans hN.tb)
    obtain⟨L,hL⟩:∃ L,L=W'.heap.size:=⟨_,rfl⟩;go_wp2_with fail
    clear e2;go_loopw [39] (fun s39 V=>∃(k:Nat) (ov:Value) (avs:List (Value×Value)) (pv:Nat→List Value),s39=.int .i64 k∧k≤C.externs.length∧avs.length=k∧MI V mb (nmG T (.slice csp csn csc) (.slice cfp cfn cfc) (.slice cep C.externs.length cec) (.slice sp sn sc) bv rr sb n (Mj 16) ov)∧Kx W'.heap.size mb sb W' V∧V.heap[sb]?=W'.heap[sb]?∧V.ownsRow W'.heap.size 76 4 ov k (Dp avs ((C.externs.take k).map (Zr T)))∧(∀ i,i<k→Yo V W'.heap.size (avs.getD i (undef,undef)).1 (avs.getD i (undef,undef)).2 (Zr T (C.externs.getD i ([],0))) (pv i))) (fun s39 _=>C.externs.length-(intOf s39).toNat)
    case atStart=>exact⟨0,.slice none 0 0,[],fun _=>[],rfl,by omega,rfl,O HM1,O HKX1,O HSB1,World.ownsRow_nil _ _ _ _,fun i hi=>absurd hi (by omega)⟩
    case round =>
     obtain⟨k,ov,avs,pv,rfl,hk,hal,hmi,hkx,hsb,how,hly⟩:=hrel;obtain⟨op_,oc,rfl⟩:=Ze how;by_cases hk2:k<C.externs.length
     ·
      obtain⟨g,so,lv,hp,hgA,f0,f1,hli,-⟩:=O HEA k hk2;subst hp;have hsg:=O HSG (C.externs.getD k ([],0)) (by rw [List.getD_eq_getElem?_getD,List.getElem?_eq_getElem hk2]; exact List.getElem_mem hk2);have hlo:=O HLOW wr hkx;have HTK:=Y (show(C.externs.take (k+1)).map (Zr T)=(C.externs.take k).map (Zr T)++[Zr T (C.externs.getD k ([],0))] by
       rw [List.take_succ_eq_append_getElem hk2,List.map_append];simp [List.getD,hk2])
      have HLK:=Y (hly);generalize hs:C.externs.getD k ([],0)=s0 at f0 f1 hli hsg HTK;have HS0:=Y hs;obtain⟨ps,nr⟩:=s0;obtain⟨lp,lc,rfl⟩:=hli.shape;have d0:=(World.cell?_of_block (hlo.block g (by omega))).trans f0;have d1:=(World.cell?_of_block (hlo.block g (by omega))).trans f1;obtain⟨rx,hbx,hzx⟩:=Zs wr (.cells #[.slice lp ps.length lc,.int .i64 nr] 59 (0,0));have hloX:=Zb hlo hbx hlo.size;have HOF:=Y (Zxr (O HTT) hag hrs hTK.sh.1 (show T.sh≤100 by have:=hTK.sh.2.1; omega) (show Below w.heap.size w (wr.alloc (.cells #[.slice lp ps.length lc,.int .i64 nr] 59 (0,0))).drew from hloX.drew) hsg (hli.below hloX.drew));have htb:=O HTB wr hkx;have hN:=O HN;have HX:=Y (show MI (wr.alloc (.cells #[.slice lp ps.length lc,.int .i64 nr] 59 (0,0))) mb _∧(wr.alloc (.cells #[.slice lp ps.length lc,.int .i64 nr] 59 (0,0))).heap[w.heap.size]?=some (.cells T.box 25 (0,0))∧(wr.alloc (.cells #[.slice lp ps.length lc,.int .i64 nr] 59 (0,0))).heap[wr.heap.size]?=some (.cells #[.slice lp ps.length lc,.int .i64 nr] 59 (0,0))∧(wr.alloc (.cells #[.slice lp ps.length lc,.int .i64 nr] 59 (0,0))).heap[sb]?=some (.cells (yC (List.replicate n 0)).toArray 5 (0,0))∧sb≠mb from⟨(hbx.block mb (Zc hmi)).trans hmi,(hbx.block _ (Zc htb)).trans htb,rx,(hbx.block sb (by have:=Zc hN.mem; have:=hkx.size; omega)).trans (hsb.trans hN.mem),Jf hN.mem hN.mi (by decide)⟩);have HOW:=Y (World.ownsRow.alloc how (.cells #[.slice lp ps.length lc,.int .i64 nr] 59 (0,0)))
      have HBX:=Y hbx;have hLX:W'.heap.size≤(wr.alloc (.cells #[.slice lp ps.length lc,.int .i64 nr] 59 (0,0))).heap.size:=by have:=hkx.size; omega
      have HKX:=Y (hkx.tr (Gh (a:=mb) (b:=sb) (Below.mono hbx hkx.size)));have HLYX:=Y (fun i hi=>Yo.belx (hly i hi) hbx);have HSBX:=Y ((hbx.block sb (by have:=Zc hN.mem; have:=hkx.size; omega)).trans hsb);clear hly hmi hkx hsb how hlo hloX f0 f1 hli hsg rx hbx hzx htb hN HLK hs;go_upto_region 10 with fail
      generalize hxb:wr.heap.size=xb at HX ⊢;clear hxb d0 d1;generalize World.alloc wr _=X at HOF HX HOW HLYX HKX HSBX hLX ⊢;clear HBX;rw [← hL] at HOW hLX HKX HLYX;have hmbL:mb<L:=by omega
      have HLL:=Y hL;have HAL:=Y hal;clear hL hal;have HCF:=Y (fun V (hb:Below X.heap.size X V)=>show(fun V=>V.cell? ⟨mb,79,none⟩=some (.slice op_ k oc)∧V.cell? ⟨w.heap.size,0,none⟩=some (.int .i64 T.r)∧V.cell? ⟨w.heap.size,1,none⟩=some (.int .i64 T.sp)∧V.cell? ⟨w.heap.size,2,none⟩=some (.int .i64 T.lk)∧V.cell? ⟨w.heap.size,3,none⟩=some (.int .i64 T.t0)∧V.cell? ⟨w.heap.size,4,none⟩=some (.int .i64 T.t1)∧V.cell? ⟨w.heap.size,5,none⟩=some (.slice T.pa T.ag.length T.ca)∧V.cell? ⟨w.heap.size,6,none⟩=some (.slice T.pr T.rs.length T.cr)∧V.cell? ⟨w.heap.size,7,none⟩=some (.slice T.ps T.ss.length T.cs)∧V.cell? ⟨w.heap.size,8,none⟩=some (.int .i64 T.al)∧V.cell? ⟨w.heap.size,9,none⟩=some (.int .i64 T.sh)∧V.cell? ⟨w.heap.size,10,none⟩=some (.int .i64 T.br)∧V.cell? ⟨w.heap.size,11,none⟩=some (.bool T.pairs)∧V.cell? ⟨xb,0,none⟩=some (.slice lp ps.length lc)∧V.cell? ⟨xb,1,none⟩=some (.int .i64 nr)) V from by
       have hX:=O HX;have q0:=(hb.block _ (Zc hX.2.1)).trans hX.2.1;have q1:=(hb.block _ (Zc hX.2.2.1)).trans hX.2.2.1;exact⟨(cR ((hb.block mb (Zc hX.1)).trans hX.1) 79),(cR q0 0),(cR q0 1),(cR q0 2),(cR q0 3),(cR q0 4),(cR q0 5),(cR q0 6),(cR q0 7),(cR q0 8),(cR q0 9),(cR q0 10),(cR q0 11),(cR q1 0),(cR q1 1)⟩)
      have HC0:=Y (O HCF X.drew (Below.refl _ _).drew);have HOWL:=Y (fun g hg=>((O HOW).lt g hg).2);obtain⟨tl,htl,hly0,hly1,hly2⟩:=Yr Tryz.infoLyX;generalize hlE:Zr T (ps,nr)=l at HOF HTK;generalize hlsE:(C.externs.take k).map (Zr T)=ls at HOW HTK;have HLE:=Y hlE;clear hlE hlsE;refine Zh (C:=fun V=>V.cell? ⟨mb,79,none⟩=some (.slice op_ k oc)∧V.cell? ⟨w.heap.size,0,none⟩=some (.int .i64 T.r)∧V.cell? ⟨w.heap.size,1,none⟩=some (.int .i64 T.sp)∧V.cell? ⟨w.heap.size,2,none⟩=some (.int .i64 T.lk)∧V.cell? ⟨w.heap.size,3,none⟩=some (.int .i64 T.t0)∧V.cell? ⟨w.heap.size,4,none⟩=some (.int .i64 T.t1)∧V.cell? ⟨w.heap.size,5,none⟩=some (.slice T.pa T.ag.length T.ca)∧V.cell? ⟨w.heap.size,6,none⟩=some (.slice T.pr T.rs.length T.cr)∧V.cell? ⟨w.heap.size,7,none⟩=some (.slice T.ps T.ss.length T.cs)∧V.cell? ⟨w.heap.size,8,none⟩=some (.int .i64 T.al)∧V.cell? ⟨w.heap.size,9,none⟩=some (.int .i64 T.sh)∧V.cell? ⟨w.heap.size,10,none⟩=some (.int .i64 T.br)∧V.cell? ⟨w.heap.size,11,none⟩=some (.bool T.pairs)∧V.cell? ⟨xb,0,none⟩=some (.slice lp ps.length lc)∧V.cell? ⟨xb,1,none⟩=some (.int .i64 nr)) (d:=12) (by kernel_rfl) ?_;refine vD 0 (O HC0) ?_;refine vD 1 (O HC0) ?_;refine vD 2 (O HC0) ?_;refine vD 3 (O HC0) ?_;refine vD 4 (O HC0) ?_;refine vD 5 (O HC0) ?_;refine vD 6 (O HC0) ?_;refine vO 7 fun K hK=>?_;go_simp;refine(O HOF).mono ?_;rintro e w2 ⟨av,rv,pvs,rfl,hly,hb2⟩;obtain⟨ap,ac,rfl⟩:=Ze hly.args
      obtain⟨rp,rc,rfl⟩:=Ze hly.res;have HB2:=Y (show Below X.heap.size X w2 from Zb (show Below X.heap.size X X.drew from(Below.refl _ _).drew) hb2 (Nat.le_refl _));have HLY:=Y hly;have HC2:=Y (O HCF w2 (O HB2));clear hly hb2;refine kO hK (fun _=>O HC2) ?_;clear hK K;refine vO 8 fun K hK=>?_;go_simp;obtain⟨r3,hb3,hz3⟩:=Zs w2 (.cells #[.slice ap l.args.length ac,.slice rp l.res.length rc,.int .i64 l.size,.int .i64 l.copies] 76 (0,0));have HB3:=Y (Zb (O HB2) hb3 (O HB2).size);have HC3:=Y (O HCF _ (O HB3));have HOW3:=Y (Yn (O HOW) fun g hg=>(O HB3).block g (O HOWL g hg));have HLY3:=Y (Yo.belx (O HLY) hb3);have HBB:=Y (show L≤(w2.alloc (.cells #[.slice ap l.args.length ac,.slice rp l.res.length rc,.int .i64 l.size,.int .i64 l.copies] 76 (0,0))).heap.size by have:=(O HB3).size; omega);have c0:∀ j u,[.slice ap l.args.length ac,.slice rp l.res.length rc,.int .i64 l.size,.int .i64 l.copies][j]?=some u→(w2.alloc (.cells #[.slice ap l.args.length ac,.slice rp l.res.length rc,.int .i64 l.size,.int .i64 l.copies] 76 (0,0))).cell? ⟨w2.heap.size,j,none⟩=some u:=fun j u hj=>(Zd r3 j).trans (by simpa using hj);clear r3 hb3 hz3;refine kO hK (fun _=>O HC3) ?_;clear hK K;generalize World.alloc w2 _=W3 at HB3 HC3 HOW3 HLY3 HBB c0 ⊢;refine vO 9 fun K hK=>?_;refine Zbu rfl (.tmp 47) (.tmp 51) 141 rfl L 76 tl _ 4 64 Tryz.underlying141 htl hly0 hly1 hly2 rfl (by decide) (.slice op_ k oc) k (Dp avs ls) (by simp [Act.eval]) (O HOW3) ⟨w2.heap.size,0,none⟩ 1 1 [.slice ap l.args.length ac,.slice rp l.res.length rc,.int .i64 l.size,.int .i64 l.copies] (by simp [Act.eval]) rfl (by intro j u hj; match j,hj with | 0,hj=>exact c0 0 u hj | 1,hj=>exact c0 1 u hj | 2,hj=>exact c0 2 u hj | 3,hj=>exact c0 3 u hj) (by intro u hu; simp at hu; rcases hu with rfl | rfl | rfl | rfl <;> rfl) (by unfold maxLen; omega) (by omega) (O HBB) ?_
      intro v7 w7 hown7 hgr7;obtain⟨tp7,tc7,rfl⟩:=Ze hown7;have hrt:∀(g:Nat) (cs:Array Value) (t:TypeId),X.heap[g]?=some (Obj.cells cs t (0,0))→t≠76→w7.heap[g]?=X.heap[g]?:=fun g cs t hr ht=>by
       have h3:=(O HB3).block g (Zc hr);exact(hgr7.block g (Zc (h3.trans hr)) (fun e=>by
        obtain⟨cs2,hr2⟩:=Jg (O HOW3) e.symm;exact Jf hr2 (h3.trans hr) (fun e=>ht e.symm) rfl)).trans h3
      have hX:=O HX;have hm7:=(hrt _ _ _ hX.1 (by decide)).trans hX.1;have z79:=frozen_of_row _ _ 79 _ _ hm7;have HC4:=Y (show(fun V=>V.cell? ⟨mb,79,none⟩=some (.slice op_ k oc)∧V.cell? ⟨w.heap.size,0,none⟩=some (.int .i64 T.r)∧V.cell? ⟨w.heap.size,1,none⟩=some (.int .i64 T.sp)∧V.cell? ⟨w.heap.size,2,none⟩=some (.int .i64 T.lk)∧V.cell? ⟨w.heap.size,3,none⟩=some (.int .i64 T.t0)∧V.cell? ⟨w.heap.size,4,none⟩=some (.int .i64 T.t1)∧V.cell? ⟨w.heap.size,5,none⟩=some (.slice T.pa T.ag.length T.ca)∧V.cell? ⟨w.heap.size,6,none⟩=some (.slice T.pr T.rs.length T.cr)∧V.cell? ⟨w.heap.size,7,none⟩=some (.slice T.ps T.ss.length T.cs)∧V.cell? ⟨w.heap.size,8,none⟩=some (.int .i64 T.al)∧V.cell? ⟨w.heap.size,9,none⟩=some (.int .i64 T.sh)∧V.cell? ⟨w.heap.size,10,none⟩=some (.int .i64 T.br)∧V.cell? ⟨w.heap.size,11,none⟩=some (.bool T.pairs)∧V.cell? ⟨xb,0,none⟩=some (.slice lp ps.length lc)∧V.cell? ⟨xb,1,none⟩=some (.int .i64 nr)) w7 from by
       have q0:=(hrt _ _ _ hX.2.1 (by decide)).trans hX.2.1;have q1:=(hrt _ _ _ hX.2.2.1 (by decide)).trans hX.2.2.1;exact⟨(cR hm7 79),(cR q0 0),(cR q0 1),(cR q0 2),(cR q0 3),(cR q0 4),(cR q0 5),(cR q0 6),(cR q0 7),(cR q0 8),(cR q0 9),(cR q0 10),(cR q0 11),(cR q1 0),(cR q1 1)⟩)
      have c79:=(O HC4).1;have HM8:=Y (Yg (v:=.slice tp7 (k+1) tc7) (k:=79) (m':=nmG T (.slice csp csn csc) (.slice cfp cfn cfc) (.slice (some ⟨g,so,none⟩) C.externs.length cec) (.slice sp sn sc) bv rr sb n (Mj 16) (.slice tp7 (k+1) tc7)) hm7 rfl);have hne8:∀ g,L≤g→g≠mb:=fun g hg=>by omega
      have HK8:=Y (show Kx L mb sb X (w7.setCell ⟨mb,79,none⟩ (.slice tp7 (k+1) tc7)) from⟨hgr7.os.trans (O HB3).os,hgr7.tape.trans (O HB3).tape,hgr7.output.trans (O HB3).output,by have:=(O HB3).size; have:=hgr7.size; simp; omega,fun q h1 h2 _=>(heap_setCell_other _ _ _ _ h2).trans ((hgr7.block q (by have:=(O HB3).size; omega) (fun e=>by have:=((O HOW3).lt q e.symm).1; omega)).trans ((O HB3).block q (by omega)))⟩);have HS8:=Y ((heap_setCell_other w7 ⟨mb,79,none⟩ sb (.slice tp7 (k+1) tc7) (by show sb≠mb; exact hX.2.2.2.2)).trans (hrt _ _ _ hX.2.2.2.1 (by decide)));have HOW8:=Y (show(w7.setCell ⟨mb,79,none⟩ (.slice tp7 (k+1) tc7)).ownsRow L 76 4 (.slice tp7 (k+1) tc7) (k+1) (Dp avs ls++[.slice ap l.args.length ac,.slice rp l.res.length rc,.int .i64 l.size,.int .i64 l.copies]) from Yn hown7 fun g hg=>heap_setCell_other _ _ _ _ (hne8 g (hown7.lt g hg).1));have HT8:=Y (show ∀(g:Nat) (cs:Array Value) (t:TypeId),L≤g→X.heap[g]?=some (Obj.cells cs t (0,0))→t≠76→(w7.setCell ⟨mb,79,none⟩ (.slice tp7 (k+1) tc7)).heap[g]?=X.heap[g]? from fun g cs t hg hr ht=>(heap_setCell_other _ _ _ _ (hne8 g hg)).trans (hrt g cs t hr ht));have HL8:=Y (show Yo (w7.setCell ⟨mb,79,none⟩ (.slice tp7 (k+1) tc7)) L (.slice ap l.args.length ac) (.slice rp l.res.length rc) l pvs from Yo.kpx (Yo.lowx (O HLY3) (show L≤X.heap.size from hLX)) fun g cs t hg hr ht=>(heap_setCell_other _ _ _ _ (hne8 g hg)).trans (hgr7.block g (Zc hr) (fun e=>by
       obtain⟨cs2,hr2⟩:=Jg (O HOW3) e.symm;exact Jf hr2 hr (fun e=>ht e.symm) rfl)))
      clear hrt hX hm7 hne8 hown7 hgr7 c0;refine kO hK (fun _=>O HC4) ?_;clear hK K;refine vD 10 (O HC4) ?_;refine vD 11 (O HC4) ?_;refine vO 12 fun K hK=>?_;go_simp;refine kO hK (fun hx=>by cases hx) ?_;clear hK K;refine Zi (by kernel_rfl) ?_ _;clear HC0 HC2 HC3 HC4 HCF c79 z79 HOF;generalize World.setCell w7 _ _=X8 at HM8 HK8 HS8 HOW8 HT8 HL8 ⊢;go_wp2;go_roundw
      case rel =>
       refine⟨k+1,.slice tp7 (k+1) tc7,avs++[(.slice ap l.args.length ac,.slice rp l.res.length rc)],fun i=>if i=k then pvs else pv i,by go_num,by omega,by simp [O HAL],O HM8,by rw [← O HLL]; exact(O HKX).tr (O HK8),(O HS8).trans (O HSBX),?_,fun i hi=>?_⟩
       ·
        rw [O HTK,Zlw _ _ _ _ (by have:=congrArg List.length (O HTK); simp at this; rw [O HAL]; omega),← O HLL];exact O HOW8
       ·
        rw [← O HLL];show Yo _ _ _ _ _ (if i=k then pvs else pv i);by_cases hik:i=k
        ·
         subst hik;rw [if_pos rfl,O HS0,O HLE,show(avs++[(Value.slice ap l.args.length ac,Value.slice rp l.res.length rc)]).getD i (undef,undef)=(.slice ap l.args.length ac,.slice rp l.res.length rc) by rw [← O HAL]; simp [List.getD]];exact O HL8
        ·
         have hik2:i<k:=by omega
         rw [if_neg hik,show(avs++[(Value.slice ap l.args.length ac,Value.slice rp l.res.length rc)]).getD i (undef,undef)=avs.getD i (undef,undef) by simp [List.getD,List.getElem?_append_left (show i<avs.length by rw [O HAL]; omega)]];exact Yo.kpx (O HLYX i hik2) fun g cs t hg hr ht=>O HT8 g cs t hg hr ht
      case measure=>simp [intOf]; omega
     ·
      have hkn:k=C.externs.length:=by omega
      subst hkn;rw [List.take_length] at how;have HAL2:=Y hal;clear hal hL;have HMI2:=Y hmi;have HKX2:=Y hkx;have HOW2:=Y how;have HLY2:=Y hly;have hN:=O HN;have HMEM:=Y (show Znt wr sb n 0 from hsb.trans (hN.mem.trans (by rw [Zbm])));have c58:=((cR hmi 58):_=some (Value.slice (some ⟨sb,0,none⟩) n n));have hnes:sb≠mb:=Jf hN.mem hN.mi (by decide);clear hmi hkx how hly hsb hN;go_wp2_with fail
      clear c58;generalize hVE:wr=V2 at HMI2 HKX2 HOW2 HLY2 HMEM ⊢;clear hVE;go_loopw [61] (fun s61 V=>∃ i:Nat,s61=.int .i64 i∧i≤n∧Mc sb V2 V∧Znt V sb n i) (fun s61 _=>n-(intOf s61).toNat)
      case atStart=>exact⟨0,rfl,by omega,Ub sb 0 V2,O HMEM⟩
      case round =>
       obtain⟨i,rfl,hi,ho,hme⟩:=hrel;by_cases hi2:i<n
       ·
        have c58:=((cR ((ho.oth mb hnes.symm).trans (O HMI2)) 58):_=some (Value.slice (some ⟨sb,0,none⟩) n n));have ci:=(Zd hme i).trans (Sy (bs:=Ld n i) (k:=i) (by rw [Jw]; exact hi2));have zi:=frozen_of_row _ _ i _ _ hme;have hiI:(i:Int)<(n:Int):=by omega
        have hw8:IntKind.u8.wrap (7*(i:Int)+3)=(7*(i:Int)+3) % 256:=rfl;have HM2:=Y (show Znt (wr.setCell ⟨sb,i,none⟩ (.int .u8 ((7*(i:Int)+3) % 256))) sb n (i+1) from by
         have:=heap_setCell_same _ _ i _ _ (.int .u8 ((7*(i:Int)+3) % 256)) hme;rw [Zhy,Zes n i] at this;exact this)
        have HO2:=Y (Zx ho (Zl sb i wr (.int .u8 ((7*(i:Int)+3) % 256))));clear hme ho;go_wp2;go_roundw
        case rel=>exact⟨i+1,by go_num,by omega,O HO2,O HM2⟩
        case measure=>simp [intOf]; omega
       ·
        have hin:i=n:=by omega
        subst hin;have HO3:=Y ho;have HME3:=Y hme;clear ho hme;go_wp2;go_ret;have hN:=O HN;have ho:=O HO3;have hkx:=O HKX2;have how:=O HOW2;have hly:=O HLY2;have hk3:Kx W'.heap.size mb sb W' wr:=hkx.tr ((ho.two (b:=sb)).kx' mb);have hlo:=O HLOW wr hk3;have hsbL:sb<W'.heap.size:=Zc hN.mem;have hkeep:∀ g,W'.heap.size≤g→wr.heap[g]?=V2.heap[g]?:=fun g hg=>ho.oth g (by omega);refine⟨mb,rfl,sb,rr,ck,bv,_,es,W'.heap.size,hlo,(ho.oth mb hnes.symm).trans (O HMI2),O HME3,Yn hN.own fun g hg=>?_,?_,hN.pe,?_,hN.b0,hN.b1,hN.b2,hmz,hsbL,hk3.size⟩
        ·
         obtain⟨cs2,hr2⟩:=Jg hN.own hg;exact hk3.oth g (hN.own.lt g hg).2 (Jf hr2 hN.mi (by decide)) (Jf hr2 hN.mem (by decide))
        ·
         exact(hk3.oth rr (Su hN.mp) (fun e=>by have h1:=hN.mp; rw [e,hN.mi] at h1; cases h1) (fun e=>by have h1:=hN.mp; rw [e,hN.mem] at h1; cases h1)).trans hN.mp
        ·
         exact Zva (Yn how fun g hg=>hkeep g (how.lt g hg).1) (O HAL2) (fun i hi=>Yo.kpx (hly i hi) fun g cs t hg _ _=>hkeep g hg)
end Go.Proofs.YtnlcfnjeagmemaaGreatDoor
