import Derived.Test.YtedemloocadimaaGreatDoorJ8
import Derived.Deep.RegionLaw
import Derived.Test.YtedemloocadimaaGreatDoorJ7
namespace Go.Proofs.YtedemloocadimaaGreatDoor
open Go.RowKit
set_option maxHeartbeats 4000000
set_option maxRecDepth 100000
theorem Zdx {P:Program}{ops:Array Oper}{o:Oper}{a:Act}{w:World}{K:Act→World→Prop}{Q:Exit→Act→World→Prop}{E:Prop}
 (hg:o.guard=none) (s x:Operand) (t:TypeId) (ho:o.op=.call { callee:=.builtin .append,args:=#[s,x],argTypes:=#[t,t] })
 (base:Nat) (e:TypeId) (i:TypeInfo) (z:Value) (size bytes:Nat) (ht:P.underlying t=some (.slice e)) (hi:P.info? e=some i) (hz:i.zero=some z)
 (hsize:i.size=size) (hby:i.bytes=bytes) (hzs:z.cells.size=size) (hsz:0<size)
 (v:Value) (n:Nat) (xs:List Value) (hs:a.eval s=v) (hown:w.ownsRow base e size v n xs)
 (ad:Addr) (m c:Nat) (news:List Value) (hx:a.eval x=.slice (some ad) m c) (hl:news.length=m*size) (hnews:∀ j u,news[j]?=some u→w.cell? (ad.add j)=some u) (h1:∀ u ∈ news,u.oneCell'=true)
 (h63:n+m≤maxLen) (hbytes:(n+m)*bytes≤140737488355328) (hbase:base≤w.heap.size)
 (h:∀ v' w',w'.ownsRow base e size v' (n+m) (xs++news)→w.grownBy w' v.ownBlock→K (a.put o.dst v') w') :
 if Region.wanted o (yielded ops a.tmps)=true then Oper.wp P o a w K Q else E:=by
 have hw:Region.wanted o (yielded ops a.tmps)=true:=by simp [Region.wanted,hg]
 rw [if_pos hw];exact wp_append_own w s x t ho base e i z size bytes ht hi hz hsize hby hzs hsz v n xs hs hown ad m c news hx hl hnews h1 h63 hbytes hbase (fun v' w' h2 h3 _=>h v' w' h2 h3)
theorem Tryz.infoI:(Tryz.prog.info? 3).map (fun i=>(i.zero,i.size,i.bytes))=some (some (.int .i64 0),1,8):=by kernel_rfl
def loK (k:Nat):Nat:=([1,1,1,2,0,0,0,1,1,1,0]:List Nat).getD k 0
def hiK (k:Nat):Nat:=([1,1,1,2,8,4,12,1,1,1,0]:List Nat).getD k 0
theorem Zwd (k:Nat):hiK k≤12:=by
 unfold hiK;match k with
 | 0 | 1 | 2 | 3 | 4 | 5 | 6 | 7 | 8 | 9 | 10=>decide
 | k+11=>simp
structure Itm (w:World):Prop where
 items:Zkb w
 lo:∀ k,k<11→w.cell? ⟨1,k*5+1,none⟩=some (.int .i64 (loK k))
 hi:∀ k,k<11→w.cell? ⟨1,k*5+2,none⟩=some (.int .i64 (hiK k))
 spare:∀ k,k<11→w.cell? ⟨1,k*5+4,none⟩=some (.bool (decide (k=10)))
theorem Itm.lt {w:World}(h:Itm w):1<w.heap.size:=World.block_lt_of_cell? w _ (h.lo 0 (by decide))
theorem Itm.grown {w w':World}{b:Nat}(h:Itm w)(hg:w.grownBy w' (some b))(hb:1≠b):Itm w':=by
 have e:∀ o,w'.cell? ⟨1,o,none⟩=w.cell? ⟨1,o,none⟩:=fun o=>World.cell?_of_block (hg.block _ h.lt (by simpa using hb));exact⟨fun k hk=>⟨(e _).trans (h.items k hk).1,(e _).trans (h.items k hk).2⟩,fun k hk=>(e _).trans (h.lo k hk),fun k hk=>(e _).trans (h.hi k hk),fun k hk=>(e _).trans (h.spare k hk)⟩
def Jo (ns:List Int):List Value:=ns.map fun n=>.int .i64 n
def Ln (s:ByteArray)(l:List Tk)(k:Nat):Nat→Nat→List Int→Nat×List Int
 | 0,i,ns=>(i,ns)
 | f+1,i,ns=>if ns.length<hiK k then (match Kv s l i (decide (k=2)) with | some n=>Ln s l k f (i+1) (ns++[n]) | none=>(i,ns)) else (i,ns)
def Rl (vs:Nat→Value)(k:Nat)(u:Value):Nat→Value:=fun j=>if j=k then u else vs j
def Ygp:Option Value→Nat
 | some (.slice _ n _)=>n
 | _=>0
theorem Zpm {a c d:World}{b:Nat}{row:Option Nat}(h:a.grownBy c (some b))(k:c.grownBy d row)(hr:∀ q,row=some q→a.heap.size≤q):a.grownBy d (some b) :=
 ⟨k.os.trans h.os,k.tape.trans h.tape,k.output.trans h.output,Nat.le_trans h.size k.size,fun q hq hne=>(k.block q (Nat.lt_of_lt_of_le hq h.size) (fun e=>by have:=hr q e.symm; omega)).trans (h.block q hq hne)⟩
structure Zko (s:ByteArray)(l:List Tk)(w wr:World)(b:Nat)(v:Value)(sn:Nat→Bool)(vs:Nat→Value)(k i0:Nat)(f i:Nat)(ns:List Int)(u:Value):Prop where
 rdr:Ck wr b s v i sn (Rl vs k u)
 row:wr.ownsRow w.heap.size 3 1 u ns.length (Jo ns)
 gb:w.grownBy wr (some b)
 eq:Ln s l k f i ns=Ln s l k 13 i0 []
 fuel:13≤ns.length+f
 len:ns.length≤12
 fit:i≤l.length
theorem Zko.below {s:ByteArray}{l:List Tk}{w wr wr':World}{b:Nat}{v:Value}{sn:Nat→Bool}{vs:Nat→Value}{k i0 f i:Nat}{ns:List Int}{u:Value}(h:Zko s l w wr b v sn vs k i0 f i ns u)(hb:Below wr.heap.size wr wr'):Zko s l w wr' b v sn vs k i0 f i ns u :=
 ⟨h.rdr.below hb,World.ownsRow.kept h.row (Ya (row:=none) hb) (by cases u.ownBlock <;> simp),Xr h.gb (Ya hb),h.eq,h.fuel,h.len,h.fit⟩
theorem Zko.next {s:ByteArray}{l:List Tk}{w wr w1:World}{b:Nat}{v:Value}{sn:Nat→Bool}{vs:Nat→Value}{k i0 f i:Nat}{ns:List Int}{u:Value}(h:Zko s l w wr b v sn vs k i0 f i ns u)(hg:wr.grownBy w1 (some b))(hb:b<w.heap.size):w1.ownsRow w.heap.size 3 1 u ns.length (Jo ns)∧w.grownBy w1 (some b) :=
 ⟨World.ownsRow.kept h.row hg (Or.inr (fun e=>by have:=(h.row.lt b e).1; omega)),Xr h.gb hg⟩
theorem Zwe {s:ByteArray}{l:List Tk}{i:Nat}{d:Bool}{n:Int}(h:Kv s l i d=some n):i<l.length:=by
 unfold Kv at h;have:Ix l i≠0:=fun e=>by simp [e] at h
 unfold Ix at this;split at this
 ·
  rename_i t ht; exact(List.getElem?_eq_some_iff.1 ht).1
 ·
  simp at this
theorem Zbl {w:World}{base n:Nat}{v:Value}{xs:List Value}(h:w.ownsRow base 3 1 v (n+1) xs):∃ g cap,v=.slice (some ⟨g,0,none⟩) (n+1) cap:=by
 rcases h.2 with⟨_,e⟩ | ⟨g,cap,cur,e,-⟩
 ·
  omega
 ·
  exact⟨g,cap,e⟩
theorem Ck.set_val {w:World}{b:Nat}{s:ByteArray}{v:Value}{i:Nat}{sn:Nat→Bool}{vs:Nat→Value}{u:Value}(h:Ck w b s v i sn vs)(k:Nat)(hk:k<11):Ck (w.setCell ⟨b,14+k,none⟩ u) b s v i sn (Rl vs k u):=by
 have e:∀ o,o≠14+k→(w.setCell ⟨b,14+k,none⟩ u).cell? ⟨b,o,none⟩=w.cell? ⟨b,o,none⟩:=fun o ho=>World.cell?_setCell_other _ _ _ _ (by intro e; simp at e; first | done | omega);refine⟨(e _ (by omega)).trans h.txt,(e _ (by omega)).trans h.pcs,(e _ (by omega)).trans h.nxt,fun j hj=>(e _ (by omega)).trans (h.seen j hj),fun j hj=>?_,fun j=>by rw [World.frozen?_setCell]; exact h.frz j⟩;by_cases hjk:j=k
 ·
  subst hjk; simp only [Rl,if_true]; exact World.cell?_setCell_same _ _ _ (h.vals j hj)
 ·
  simp only [Rl,hjk,if_false]; exact(e _ (by omega)).trans (h.vals j hj)
theorem Ck.of_block {w w':World}{b:Nat}{s:ByteArray}{v:Value}{i:Nat}{sn:Nat→Bool}{vs:Nat→Value}(h:Ck w b s v i sn vs)(hb:w'.heap[b]?=w.heap[b]?):Ck w' b s v i sn vs:=by
 have e:∀ o,w'.cell? ⟨b,o,none⟩=w.cell? ⟨b,o,none⟩:=fun o=>World.cell?_of_block hb;exact⟨(e _).trans h.txt,(e _).trans h.pcs,(e _).trans h.nxt,fun k hk=>(e _).trans (h.seen k hk),fun k hk=>(e _).trans (h.vals k hk),fun j=>(World.frozen?_of_block (a:=⟨b,j,none⟩) hb).trans (h.frz j)⟩
theorem Zse (vs:Nat→Value)(k:Nat)(u u':Value):Rl (Rl vs k u) k u'=Rl vs k u':=funext fun j=>by unfold Rl; split <;> rfl
theorem Zew (k:Nat)(hk:k<11)(w:World)(b base:Nat)(s:ByteArray)(v:Value)(i:Nat)(sn:Nat→Bool)(vs:Nat→Value)(l:List Tk)(h:Ck w b s v i sn vs)(hv:vs k=.slice none 0 0)(ho:Jf w base v l)(hvb:v.ownBlock≠some b)(hl:l.length≤400)(hi:i≤l.length)(hw:WfT s l)(hI:Itm w)(hbI:1≠b) :
 Calls Tryz.prog 159 #[.pointer (some ⟨b,0,none⟩),.int .i64 k] w fun e w'=>∃ f i' ns u,Zko s l w w' b v sn vs k i f i' ns u∧(i',ns)=Ln s l k 13 i []∧e=.returned (.bool (decide (loK k≤ns.length))):=by
 obtain⟨ti,hti,hz0,hz1,hz2⟩:=Gv Tryz.infoI;have hb0:b<w.heap.size:=World.block_lt_of_cell? w _ h.txt;have HH:=Ze (show Ck w b s v i sn (Rl vs k (.slice none 0 0)) by
  have e:Rl vs k (.slice none 0 0)=vs:=funext fun j=>by
   unfold Rl;split
   ·
    rename_i hj; rw [hj,hv]
   ·
    rfl
  rw [e]; exact h)
 have HO:=Ze ho;have HW:=Ze hw;have HIt:=Ze hI;clear h hv ho hw hI;go_enter Tryz.func159,Tryz.ntmps159
 go_wp2_with fail
 go_loopw [5] (fun _ wr=>∃ f i' ns u,Zko s l w wr b v sn vs k i f i' ns u) (fun _ wr=>13-Ygp (wr.cell? ⟨b,14+k,none⟩))
 case atStart=>exact⟨13,i,[],_,⟨Zb HH,World.ownsRow_nil _ _ _ _,⟨rfl,rfl,rfl,Nat.le_refl _,fun _ _ _=>rfl⟩,rfl,by simp,by simp,hi⟩⟩
 case round =>
  obtain⟨f,i',ns,u,hN⟩:=hrel;have cu:_=some u:=(hN.rdr.vals k hk).trans (by simp [Rl]);have It:=(Zb HIt).grown hN.gb hbI;have ch:=It.hi k hk;have cl:=It.lo k hk;have cd:=(It.items k hk).2;obtain⟨ua,ucap,rfl⟩:∃ ua ucap,u=.slice ua ns.length ucap:=by
   rcases hN.row.2 with⟨e1,e2⟩ | ⟨g,cap,cur,e1,-⟩
   ·
    rw [e2]; exact⟨_,_,e1⟩
   ·
    exact⟨_,_,e1⟩
  have h12:=Zwd k;have hlen:=hN.len;have HN:=Ze hN;clear hN It;by_cases hlt:ns.length<hiK k
  ·
   have HC:=Ze (Zhl (decide (k=2)) wr.drew b base s v i' sn _ l ((Zb HN).below (by go_grown)).rdr ((Zb HO).grown ((Zb HN).below (wr':=wr.drew) (by go_grown)).gb hvb) hl (Zb HN).fit (Zb HW));cases hnf:Kv s l i' (decide (k=2)) with
   | none =>
    have hE:(i',ns)=Ln s l k 13 i []:=by
     rw [←(Zb HN).eq];cases f <;> simp [Ln,hnf]
    rw [hnf] at HC;simp only [Option.getD_none,Option.isSome_none,Bool.false_eq_true,if_false] at HC;generalize hn:ns.length=n at *;generalize hiK k=hh at *;generalize decide (k=2)=dd at *;go_wp2;go_region
    all_goals go_wp2_with fail
    all_goals refine(Zb HC).mono ?_
    all_goals rintro e w1 ⟨rfl,hg1,hr1⟩
    all_goals
     have hx:=((Zb HN).below (wr':=wr.drew) (by go_grown)).next hg1 hb0;have N1:Zko s l w w1 b v sn vs k i f i' ns (.slice ua n ucap):=⟨hr1,hx.1,hx.2,(Zb HN).eq,(Zb HN).fuel,(Zb HN).len,(Zb HN).fit⟩;have It1:=(Zb HIt).grown hx.2 hbI;have cl1:=It1.lo k hk;have cu1:w1.cell? ⟨b,14+k,none⟩=some (.slice ua n ucap):=(hr1.vals k hk).trans (by simp [Rl]);have HN1:=Ze N1;clear hx N1 It1 hg1 hr1;go_wp2;go_region
     all_goals go_wp2
     all_goals go_ret
     all_goals exact⟨f,i',ns,_,(Zb HN1).below (by go_grown),hE,by simp [hn]⟩
   | some z =>
    rw [hnf] at HC;simp only [Option.getD_some,Option.isSome_some,if_true] at HC;obtain⟨f,rfl⟩:∃ f',f=f'+1:=⟨f-1,by have:=(Zb HN).fuel; omega⟩;have hE:Ln s l k f (i'+1) (ns++[z])=Ln s l k 13 i []:=by
     rw [←(Zb HN).eq];simp [Ln,hlt,hnf]
    have hfit:=Zwe hnf;have HE:=Ze hE;clear hE hnf;generalize hn:ns.length=n at *;generalize hiK k=hh at *;generalize decide (k=2)=dd at *;go_wp2;go_region
    all_goals go_wp2_with fail
    all_goals refine(Zb HC).mono ?_
    all_goals rintro e w1 ⟨rfl,hg1,hr1⟩
    all_goals
     have hx:=((Zb HN).below (wr':=wr.drew) (by go_grown)).next hg1 hb0;rw [hn] at hx;have HROW:=Ze hx.1;have HGB:=Ze hx.2;have hsz1:=hx.2.size;have cu1:w1.cell? ⟨b,14+k,none⟩=some (.slice ua n ucap):=(hr1.vals k hk).trans (by simp [Rl]);have hb1:b<w1.heap.size:=World.block_lt_of_cell? w1 _ cu1;have cu2:(w1.alloc (.cells #[.int .i64 z] 3)).cell? ⟨b,14+k,none⟩=some (.slice ua n ucap):=(World.cell?_alloc_lt _ _ ⟨b,14+k,none⟩ hb1).trans cu1;have cf2:(w1.alloc (.cells #[.int .i64 z] 3)).frozen? ⟨b,14+k,none⟩=false:=(World.frozen?_alloc_old _ _ ⟨b,14+k,none⟩ (by show b≠_; omega)).trans (hr1.frz (14+k));have hkI:(k:Int)<11:=by omega
     have HR1:=Ze hr1;clear hx hg1 hr1;go_wp2;go_region_law (refine Zdx rfl (.tmp 37) (.tmp 39) 35 rfl w.heap.size 3 ti _ 1 8 Tryz.underlying35 hti hz0 hz1 hz2 rfl (by decide) (.slice ua n ucap) n (Jo ns) (by simp [Act.eval]) ((Zb HROW).alloc _) ⟨w1.heap.size,0,none⟩ 1 1 [.int .i64 z] (by simp [Act.eval]) rfl (by intro j u hj; match j,hj with | 0,hj=>simp at hj; subst hj; simp [Addr.add]) (by intro u hu; simp at hu; subst hu; rfl) (by unfold maxLen; omega) (by omega) (by simp; omega) ?_; intro v' w2 hown hgr; obtain⟨g2,cap2,rfl⟩:=Zbl hown; have hblk:=hgr.block b (by simp; omega) (by intro e; have:=((Zb HROW).lt b e.symm).1; omega); have cu3:w2.cell? ⟨b,14+k,none⟩=some (.slice ua n ucap):=(World.cell?_of_block hblk).trans cu2; have cf3:w2.frozen? ⟨b,14+k,none⟩=false:=(World.frozen?_of_block (a:=⟨b,14+k,none⟩) hblk).trans cf2; have HBK:=Ze hblk; have HOWN:=Ze hown; have HGR:=Ze hgr; clear hown hgr hblk)
     all_goals go_wp2
     all_goals
      go_roundw
      case rel =>
       refine⟨f,i'+1,ns++[z],.slice (some ⟨g2,0,none⟩) (n+1) cap2,⟨?_,?_,Xr (Zpm (Xr (Zb HGB) (Ya (show Below w1.heap.size w1 (w1.alloc (.cells #[.int .i64 z] 3)).drew by go_grown))) (Zb HGR) (fun q hq=>((Zb HROW).lt q hq).1)) (Up _ _ _ _),Zb HE,by have:=(Zb HN).fuel; simp; omega,by simp; omega,by omega⟩⟩
       ·
        have h1:=((Zb HR1).of_block ((Zb HBK).trans (Lib.alloc_old w1 _ b hb1))).set_val (u:=.slice (some ⟨g2,0,none⟩) (n+1) cap2) k hk;rw [Zse] at h1;exact h1
       ·
        have h1:=ownsRow_setCell_below (Zb HOWN) (a:=⟨b,14+k,none⟩) hb0 (.slice (some ⟨g2,0,none⟩) (n+1) cap2);have e1:Jo (ns++[z])=Jo ns++[.int .i64 z]:=by simp [Jo]
        have e2:(ns++[z]).length=n+1:=by simp [hn]
        rw [e1,e2];exact h1
      case measure =>
       rw [World.cell?_setCell_same _ _ _ cu3,cu];simp only [Ygp];omega
  ·
   have hE:(i',ns)=Ln s l k 13 i []:=by
    rw [←(Zb HN).eq];cases f <;> simp [Ln,hlt]
   generalize hn:ns.length=n at *;generalize hiK k=hh at *;go_wp2;go_region
   all_goals go_wp2
   all_goals go_region
   all_goals go_wp2
   all_goals go_ret
   all_goals exact⟨f,i',ns,_,(Zb HN).below (by go_grown),hE,by simp [hn]⟩
set_option maxHeartbeats 2000000
set_option maxRecDepth 100000
theorem Yau {s:ByteArray}{l:List Tk}{k p:Nat}(h:WfT s l)(hp:p<s.size)(hk:Jc (s.get! p).toNat=k)(h3:3≤k∧k≤6):WfT s (Se l k p):=by
 have hnew:WfT s (l++[⟨k,p,p+1⟩]):=fun t ht=>by
  rcases List.mem_append.1 ht with h1 | h1
  ·
   exact h t h1
  ·
   simp at h1;subst h1;exact⟨by simp,hp,h3.1,h3.2,fun i h4 h5=>by
    have h4':p≤i:=h4;have h5':i<p+1:=h5;have:i=p:=by omega
    subst this; exact hk⟩
 unfold Se;split
 ·
  rename_i t ht;split
  ·
   rename_i hc;obtain⟨hc1,hc2,hc3⟩:=hc;have hl:t ∈ l:=List.mem_of_getLast? ht;obtain⟨a1,a2,a3,a4,a5⟩:=h t hl;intro u hu;rcases List.mem_append.1 hu with h1 | h1
   ·
    exact h u (List.dropLast_subset l h1)
   ·
    simp at h1;subst h1;refine⟨show t.a<p+1 by omega,hp,a3,a4,fun i h4 h5=>?_⟩;have h4':t.a≤i:=h4;have h5':i<p+1:=h5;show _=t.k;by_cases hi:i=p
    ·
     subst hi; rw [hk,hc2]
    ·
     exact a5 i h4' (by omega)
  ·
   exact hnew
 ·
  exact hnew
theorem Zao {s:ByteArray}:∀(f p:Nat) (c:Bool) (acc l:List Tk),Ga s f p c acc=.inr l→WfT s acc→WfT s l∧l.length+p≤acc.length+max p s.size
 | 0,p,c,acc,l,h,hw=>by
  simp only [Ga,Sum.inr.injEq] at h;subst h;exact⟨hw,by omega⟩
 | f+1,p,c,acc,l,h,hw=>by
  have hd:=Zpn s p;by_cases hp:p<s.size
  ·
   have hfit:=Yat s p hp;cases c with
   | true =>
    simp only [Ga,hp,if_true] at h;split at h
    ·
     cases h
    ·
     have:=Zao f _ _ acc l h hw;exact⟨this.1,by have:=this.2; omega⟩
   | false =>
    simp only [Ga,hp,if_true,Bool.false_eq_true,if_false] at h;split at h
    ·
     cases h
    ·
     rename_i h0;split at h
     ·
      have:=Zao f _ _ acc l h hw;exact⟨this.1,by have:=this.2; omega⟩
     ·
      split at h
      ·
       have:=Zao f _ _ acc l h hw;exact⟨this.1,by have:=this.2; omega⟩
      ·
       have h6:=Zkj (Utf8.decode s p).1;have:=Zao f _ _ _ l h (Yau hw hp (Zdy s p).symm ⟨by omega,h6⟩);have h7:=Zkg acc (Jc (Utf8.decode s p).1) p;exact⟨this.1,by have:=this.2; omega⟩
  ·
   simp only [Ga,hp,if_false,Sum.inr.injEq] at h;subst h;exact⟨hw,by omega⟩
theorem Yen {s:ByteArray}{l:List Tk}(h:Ga s s.size 0 false []=.inr l):WfT s l∧l.length≤s.size:=by
 have:=Zao _ _ _ _ _ h (fun t ht=>by cases ht);exact⟨this.1,by have:=this.2; simp at this; omega⟩
def Zch (sn:Nat→Bool):Bool:=(List.range 10).all sn
theorem Zwr (w:World)(b:Nat)(s:ByteArray)(v:Value)(i:Nat)(sn:Nat→Bool)(vs:Nat→Value)(h:Ck w b s v i sn vs)(hI:Itm w) :
 Calls Tryz.prog 63 #[.pointer (some ⟨b,0,none⟩)] w fun e w'=>e=.returned (.bool (Zch sn))∧w'=w:=by
 have HR:=Ze h;have HI:=Ze hI;clear h hI;go_enter Tryz.func63,Tryz.ntmps63
 go_wp2_with fail
 go_loopw [4] (fun j w2=>∃ k:Nat,j=.int .i64 k∧w2=w∧k≤11∧∀ q,q<k→q<10→sn q=true) (fun j _=>11-(intOf j).toNat)
 case atStart=>exact⟨0,rfl,rfl,by omega,fun i hi=>by omega⟩
 case round =>
  obtain⟨k,rfl,rfl,hk,hall⟩:=hrel;by_cases hk2:k<11
  ·
   have cs:=(Zb HR).seen k hk2;have cp:=(Zb HI).spare k hk2;have HA:=Ze hall;clear hall;cases hsn:sn k with
   | true =>
    rw [hsn] at cs;go_wp2;go_roundw
    case rel=>exact⟨k+1,by go_num,by trivial,by omega,fun q hq hq2=>by
     rcases Nat.lt_succ_iff_lt_or_eq.1 hq with h | h
     ·
      exact Zb HA q h hq2
     ·
      subst h; exact hsn⟩
    case measure=>simp [intOf]; omega
   | false =>
    rw [hsn] at cs;by_cases h10:k=10
    ·
     subst h10;simp only [decide_true] at cp;go_wp2;go_roundw
     case rel=>exact⟨11,by go_num,by trivial,by omega,fun q hq hq2=>Zb HA q (by omega) hq2⟩
     case measure=>simp [intOf]
    ·
     have hno:Zch sn=false:=by
      unfold Zch;rw [List.all_eq_false];exact⟨k,List.mem_range.2 (by omega),by simp [hsn]⟩
     simp only [h10,decide_false] at cp;go_wp2;go_ret;exact⟨by rw [hno]; rfl,rfl⟩
  ·
   have hk3:k=11:=by omega
   subst hk3;have hyes:Zch sn=true:=by
    unfold Zch;rw [List.all_eq_true];exact fun q hq=>hall q (by have:=List.mem_range.1 hq; omega) (List.mem_range.1 hq)
   clear hall;go_wp2;go_ret;exact⟨by rw [hyes]; rfl,rfl⟩
set_option maxHeartbeats 4000000
set_option maxRecDepth 100000
structure Rg where
 i:Nat
 sn:Nat→Bool
 vals:Nat→List Int
def Im (sn:Nat→Bool)(k:Nat):Nat→Bool:=fun j=>if j=k then true else sn j
def Zaj (vals:Nat→List Int)(k:Nat)(ns:List Int):Nat→List Int:=fun j=>if j=k then ns else vals j
def Zcb (s:ByteArray)(l:List Tk)(i:Nat)(sn:Nat→Bool):Option Nat:=(List.range 11).find? fun k=>decide (nm k=(tAt s l i).data.toList)&&!sn k
theorem Znp {s:ByteArray}{l:List Tk}{i:Nat}{sn:Nat→Bool}(h:∀ k,¬ Zbn s l i sn k):Zcb s l i sn=none:=by
 unfold Zcb;rw [List.find?_eq_none];intro k hk hc;simp at hc;exact h k ⟨List.mem_range.1 hk,hc.1,hc.2⟩
theorem Zdw {s:ByteArray}{l:List Tk}{i:Nat}{sn:Nat→Bool}{k:Nat}(h:Zbn s l i sn k):Zcb s l i sn=some k:=by
 cases hf:Zcb s l i sn with
 | none =>
  unfold Zcb at hf;rw [List.find?_eq_none] at hf;have:=hf k (List.mem_range.2 h.1);simp [h.2.1,h.2.2] at this
 | some j =>
  unfold Zcb at hf;have h1:=List.find?_some hf;have h2:=List.mem_of_find?_eq_some hf;simp at h1;exact congrArg some (Zwo (List.mem_range.1 h2) h.1 (h1.1.trans h.2.1.symm))
def Ms (s:ByteArray)(l:List Tk)(S:Rg):Bool×Rg :=
 match Zcb s l S.i S.sn with
 | none=>(false,S)
 | some k =>
  if loK k≤(Ln s l k 13 (S.i+1) []).2.length then
   (if Ix l (Ln s l k 13 (S.i+1) []).1=6 then (true,⟨(Ln s l k 13 (S.i+1) []).1+1,Im S.sn k,Zaj S.vals k (Ln s l k 13 (S.i+1) []).2⟩)
   else (false,⟨(Ln s l k 13 (S.i+1) []).1,Im S.sn k,Zaj S.vals k (Ln s l k 13 (S.i+1) []).2⟩))
  else (false,⟨(Ln s l k 13 (S.i+1) []).1,Im S.sn k,Zaj S.vals k (Ln s l k 13 (S.i+1) []).2⟩)
def Zpk (vs:Nat→Value):Prop:=∀ j k,j<11→k<11→j≠k→∀ g,(vs j).ownBlock=some g→(vs k).ownBlock≠some g
theorem Zpk.upd {vs:Nat→Value}{k N:Nat}{u:Value}(h:Zpk vs)(hu:∀ g,u.ownBlock=some g→N≤g)(ho:∀ j,j<11→∀ g,(vs j).ownBlock=some g→g<N):Zpk (Rl vs k u):=by
 intro i j hi hj hij g h1 h2;unfold Rl at h1 h2;split at h1
 ·
  split at h2
  ·
   omega
  ·
   have:=hu g h1; have:=ho j hj g h2; omega
 ·
  split at h2
  ·
   have:=hu g h2; have:=ho i hi g h1; omega
  ·
   exact h i j hi hj hij g h1 h2
structure RS (s:ByteArray)(l:List Tk)(W0:Nat)(w:World)(b:Nat)(v:Value)(S:Rg)(vs:Nat→Value):Prop where
 rdr:Ck w b s v S.i S.sn vs
 row:∀ k,k<11→w.ownsRow W0 3 1 (vs k) (S.vals k).length (Jo (S.vals k))
 new:∀ k,k<11→S.sn k=false→vs k=.slice none 0 0
 fit:S.i≤l.length
 apart:Zpk vs
theorem Nb {w w':World}{W0 b n:Nat}{u:Value}{xs:List Value}(h:w.ownsRow W0 3 1 u n xs)(hg:w.grownBy w' (some b))(hb:b<W0):w'.ownsRow W0 3 1 u n xs :=
 World.ownsRow.kept h hg (Or.inr (fun e=>by have:=(h.lt b e).1; omega))
theorem Gy {w:World}{b c n:Nat}{u:Value}{xs:List Value}(h:w.ownsRow b 3 1 u n xs)(hc:c≤b):w.ownsRow c 3 1 u n xs:=by
 refine⟨h.1,?_⟩;rcases h.2 with h' | ⟨g,cap,cur,h1,h2,h3⟩
 ·
  exact Or.inl h'
 ·
  exact Or.inr ⟨g,cap,cur,h1,by omega,h3⟩
theorem Ygn {l:List Tk}{i:Nat}(h:Ix l i=6):i<l.length:=by
 unfold Ix at h;split at h
 ·
  rename_i t ht; exact(List.getElem?_eq_some_iff.1 ht).1
 ·
  simp at h
theorem Znq (w:World)(b base W0:Nat)(s:ByteArray)(v:Value)(S:Rg)(vs:Nat→Value)(l:List Tk)(h:RS s l W0 w b v S vs)(hb:b<W0)(hW:W0≤w.heap.size)(ho:Jf w base v l)(hvb:v.ownBlock≠some b)(hl:l.length≤400)(hw:WfT s l)(hI:Itm w)(hbI:1≠b)(hlt:S.i<l.length) :
 Calls Tryz.prog 105 #[.pointer (some ⟨b,0,none⟩)] w fun e w'=>e=.returned (.bool (Ms s l S).1)∧w.grownBy w' (some b)∧∃ vs',RS s l W0 w' b v (Ms s l S).2 vs':=by
 have HC:=Ze (Znw w b base s v S.i S.sn vs l h.rdr ho hl h.fit hw hI.items hI.lt);have HS:=Ze h;have HO:=Ze ho;have HW:=Ze hw;have HI:=Ze hI;clear h ho hw hI;go_enter Tryz.func105,Tryz.ntmps105
 go_wp2_with fail
 refine(Zb HC).mono ?_;clear HC;rintro e w1 (⟨k,hn,rfl,hg1,hr1⟩ | ⟨hno,rfl,hg1,hr1⟩)
 ·
  have hk:=hn.1;have HN:=Ze (Zew k hk w1 b base s v (S.i+1) (Im S.sn k) vs l hr1 ((Zb HS).new k hk hn.2.2) ((Zb HO).grown hg1 hvb) hvb hl (by omega) (Zb HW) ((Zb HI).grown hg1 hbI) hbI);have HK:=Ze (Zdw hn);have G1:=Ze hg1;clear hn hg1 hr1;go_wp2_with fail
  refine(Zb HN).mono ?_;clear HN;rintro e w2 ⟨f,i',ns,u,hNI,hE,rfl⟩;have hrows:∀ j,j<11→w2.ownsRow W0 3 1 (Rl vs k u j) (Zaj S.vals k ns j).length (Jo (Zaj S.vals k ns j)):=fun j hj=>by
   by_cases hjk:j=k
   ·
    subst hjk;simp only [Rl,Zaj,if_true];exact Gy hNI.row (Nat.le_trans hW (Zb G1).size)
   ·
    simp only [Rl,Zaj,hjk,if_false];exact Nb (Nb ((Zb HS).row j hj) (Zb G1) hb) hNI.gb hb
  have hnew:∀ j,j<11→Im S.sn k j=false→Rl vs k u j=.slice none 0 0:=fun j hj hs=>by
   by_cases hjk:j=k
   ·
    subst hjk; simp [Im] at hs
   ·
    simp only [Im,Rl,hjk,if_false] at hs ⊢;exact(Zb HS).new j hj hs
  have HAP:=Ze ((Zb HS).apart.upd (k:=k) (fun g hg=>(hNI.row.lt g hg).1) (fun j hj g hg=>Nat.lt_of_lt_of_le ((Zb HS).row j hj |>.lt g hg).2 (Zb G1).size));have G2:=Ze (Xr (Zb G1) hNI.gb);have hN1:(Ln s l k 13 (S.i+1) []).1=i':=by rw [← hE]
  have hN2:(Ln s l k 13 (S.i+1) []).2=ns:=by rw [← hE]
  by_cases hlo:loK k≤ns.length
  ·
   have HT:=Ze (Znv w2 b base s v i' (Im S.sn k) _ l hNI.rdr ((Zb HO).grown (Zb G2) hvb) hl hNI.fit (Zb HW));have hfit:=hNI.fit;have hF:Ms s l S=(decide (Ix l i'=6),⟨if Ix l i'=6 then i'+1 else i',Im S.sn k,Zaj S.vals k ns⟩):=by
    unfold Ms;rw [Zb HK];simp only [hN1,hN2,hlo,if_true];by_cases h6:Ix l i'=6 <;> simp [h6]
   have HR:=Ze hrows;have HNW:=Ze hnew;have HF:=Ze hF;clear hNI hE hrows hnew hN1 hN2 hF;simp only [hlo,decide_true];go_wp2_with fail
   refine(Zb HT).mono ?_;rintro e w3 ⟨rfl,hg3,hr3⟩;have G3:=Ze (Xr (Zb G2) hg3);have HR3:=Ze (fun j hj=>Nb (Zb HR j hj) hg3 hb);have H3:=Ze hr3;have hf3:(if Ix l i'=6 then i'+1 else i')≤l.length:=by
    split
    ·
     rename_i h6; have:=Ygn h6; omega
    ·
     exact hfit
   clear hg3 hr3;go_wp2;go_ret;rw [Zb HF];exact⟨rfl,Zb G3,_,⟨Zb H3,Zb HR3,Zb HNW,hf3,Zb HAP⟩⟩
  ·
   have hF:Ms s l S=(false,⟨i',Im S.sn k,Zaj S.vals k ns⟩):=by
    unfold Ms;rw [Zb HK];simp only [hN1,hN2,hlo,if_false]
   have HR:=Ze hrows;have HNW:=Ze hnew;have HD:=Ze hNI.rdr;have hfit:=hNI.fit;have HF:=Ze hF;clear hNI hE hrows hnew hN1 hN2 hF;simp only [hlo,decide_false];go_wp2;go_ret;rw [Zb HF];exact⟨rfl,Zb G2,_,⟨Zb HD,Zb HR,Zb HNW,hfit,Zb HAP⟩⟩
 ·
  have hF:Ms s l S=(false,S):=by
   unfold Ms;rw [Znp hno]
  have HF:=Ze hF;clear hF;have H1:=Ze hr1;have G1:=Ze hg1;clear hno hr1 hg1;go_wp2;go_ret;rw [Zb HF];exact⟨rfl,Zb G1,vs,⟨Zb H1,fun k hk=>Nb ((Zb HS).row k hk) (Zb G1) hb,(Zb HS).new,(Zb HS).fit,(Zb HS).apart⟩⟩
set_option maxHeartbeats 2000000
set_option maxRecDepth 100000
def Jg (sp lk t0 t1:Int):List Int:=if lk=-1 then [sp,t0,t1] else [sp,t0,t1,lk]
theorem Zwu (sp lk t0 t1:Int):(Jg sp lk t0 t1).length≤4:=by unfold Jg; split <;> simp
theorem Oa {w:World}{base:Nat}{v:Value}{ns:List Int}(h:w.ownsRow base 3 1 v ns.length (Jo ns)):Rs w v ns:=by
 rcases h.2 with⟨e,e0⟩ | ⟨g,cap,cur,e,-⟩
 ·
  exact Or.inl ⟨List.eq_nil_of_length_eq_zero e0,none,0,by rw [e]⟩
 ·
  refine Or.inr ⟨g,0,cap,e,fun i hi=>?_⟩;subst e;have:=h.cellAt i (by omega);simp only [Nat.zero_add] at this ⊢;rw [this];simp [Jo,hi]
theorem Nc {w:World}{base n:Nat}{v:Value}{xs:List Value}(h:w.ownsRow base 3 1 v n xs):∀ a n cap,v=.slice a n cap→n≤cap:=by
 intro a m cap e;rcases h.2 with⟨e1,e0⟩ | ⟨g,cap',cur,e1,_,_,hc,_⟩
 ·
  rw [e1] at e; injection e with _ h2 h3; omega
 ·
  rw [e1] at e; injection e with _ h2 h3; omega
theorem Zef (r sp lk t0 t1:Int)(va vr vs:Value)(al sh by_:Int)(pr:Bool)(w:World):Calls Tryz.prog 109 #[.agg (Yt r sp lk t0 t1 va vr vs al sh by_ pr)] w fun e w'=>∃ v,e=.returned v∧Rs w' v (Jg sp lk t0 t1)∧(∀ a n cap,v=.slice a n cap→n≤cap)∧Below w.heap.size w w':=by
 obtain⟨ti,hti,hz0,hz1,hz2⟩:=Gv Tryz.infoI;unfold Yt;have HOW:=Ze (fun X:Obj=>show((w.alloc X).alloc (.cells #[.int .i64 sp,.int .i64 t0,.int .i64 t1] 3)).ownsRow w.heap.size 3 1 (.slice (some ⟨w.heap.size+1,0,none⟩) 3 3) ([sp,t0,t1]:List Int).length (Jo [sp,t0,t1]) from
  ⟨rfl,Or.inr ⟨w.heap.size+1,3,#[.int .i64 sp,.int .i64 t0,.int .i64 t1],rfl,by omega,by have:=heap_alloc_new (w.alloc X) (.cells #[.int .i64 sp,.int .i64 t0,.int .i64 t1] 3); simpa using this,by simp,by unfold maxLen; omega,rfl,rfl⟩⟩)
 by_cases hk:lk=-1
 ·
  have hO:Jg sp lk t0 t1=[sp,t0,t1]:=by unfold Jg; rw [if_pos hk]
  rw [hO];clear hO;subst hk;go_enter Tryz.func109,Tryz.ntmps109
  go_wp2;go_ret;exact⟨_,rfl,Oa (Zb HOW _),Nc (Zb HOW (.cells #[] 3)),by go_grown⟩
 ·
  have hO:Jg sp lk t0 t1=[sp,t0,t1]++[lk]:=by unfold Jg; rw [if_neg hk]; rfl
  rw [hO];clear hO;have zk:(lk==-1)=false:=by simpa using hk
  go_enter Tryz.func109,Tryz.ntmps109
  go_wp2_with (at_builtin; refine wpList_append_own _ rfl _ _ 35 rfl w.heap.size 3 ti _ 1 8 Tryz.underlying35 hti hz0 hz1 hz2 rfl (by decide) _ _ _ rfl ((Zb HOW _).alloc _) ⟨w.heap.size+2,0,none⟩ 1 1 [.int .i64 lk] rfl rfl (by intro j u hj; match j,hj with | 0,hj=>(simp at hj; subst hj; exact(World.cell?_alloc_at _ _ _ _ (by simp)).trans rfl)) (by intro u hu; simp at hu; subst hu; rfl) ?c3 ?c4 ?c5 ?_)
  case c3=>unfold maxLen; simp
  case c4=>simp
  case c5=>simp; omega
  intro v' w7 hown hgr _;have HOWN:=Ze hown;have HB:=Ze (show Below w.heap.size w w7 from((((Below.refl w.heap.size w).alloc (Nat.le_refl _) _).alloc (by simp) _).alloc (by simp; omega) _).trans ⟨hgr.os,hgr.tape,hgr.output,hgr.size,fun q hq=>hgr.block q (by simp; omega) (fun e=>by simp [Value.ownBlock] at e; omega)⟩);clear hown hgr;go_wp2;go_ret;have h1:w7.ownsRow w.heap.size 3 1 v' ([sp,t0,t1]++[lk]:List Int).length (Jo ([sp,t0,t1]++[lk])):=Zb HOWN;exact⟨_,rfl,Oa h1,Nc h1,Zb HB⟩
end Go.Proofs.YtedemloocadimaaGreatDoor
