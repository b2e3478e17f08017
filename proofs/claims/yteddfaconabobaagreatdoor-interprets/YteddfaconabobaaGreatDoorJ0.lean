import Derived.Test.YteddfaconabobaaGreatDoorProg
import Derived.WalkKit
import Derived.Handy
import Derived.Lib.OthersKept
import Derived.Recover
import Derived.WalkLawsBesides
import Derived.Laws.AppendOwn
import Derived.Deep.MidRow
import Derived.Laws.Tables
import Derived.Laws.Rows
import Derived.Deep.RegionWith
import Derived.Deep.Onto
import Derived.Deep.RegionLaw
import Derived.Test.YteddfaconabobaaGreatDoorRows
import Derived.WideShapes
import Derived.SizedLaws
import Derived.ChangeSlices
import Derived.Deep.Slices
import Derived.Lib.ItoaNum
import Derived.Lib.LaidTab
import Derived.Lib.AppendIntMem
import Derived.Test.YteddfaconabobaaGreatDoorShelf
import Derived.WalkSmall
import Derived.Lib.DecodeN
import Derived.Shelf.Unicode.DecodeAny
import Derived.Laws.OwnMore
import Derived.Laws.Strings2
namespace Go.Proofs.YteddfaconabobaaGreatDoor
open Go.RowKit
theorem Zg {p:Prop}(h:p):Hid p:=h
theorem Zb {p:Prop}(h:Hid p):p:=h
structure Ws (w w':World)(b:Nat):Prop where
 low:Below b w w'
 oth:Lib.OthersKept 5 (some b) w w'
theorem Ws.refl (w:World)(b:Nat):Ws w w b:=⟨Below.refl _ _,Lib.OthersKept.refl _ _ _⟩
theorem Ws.trans {a c d:World}{b:Nat}(h:Ws a c b)(k:Ws c d b):Ws a d b:=⟨h.low.trans k.low,h.oth.trans k.oth⟩
def Zx (v:Int):UInt8:=UInt8.ofNat (v % 256).toNat
def Dm (w:World)(b:Nat)(v:Value)(ns:List Int):Prop:=(ns=[]∧∃ p cap,v=.slice p 0 cap)∨∃ sb so cap,v=.slice (some ⟨sb,so,none⟩) ns.length cap∧sb<b∧∀ i,i<ns.length→w.cell? ⟨sb,so+i,none⟩=some (.int .i64 (ns.getD i 0))
theorem Dm.ws {w w':World}{b:Nat}{v:Value}{ns:List Int}(h:Dm w b v ns)(hw:Ws w w' b):Dm w' b v ns:=by
 rcases h with h | ⟨sb,so,cap,h1,h2,h3⟩
 ·
  exact Or.inl h
 ·
  exact Or.inr ⟨sb,so,cap,h1,h2,fun i hi=>(hw.low.cell (p:=⟨sb,so+i,none⟩) h2).trans (h3 i hi)⟩
theorem Dm.shape {w:World}{b:Nat}{v:Value}{ns:List Int}(h:Dm w b v ns):∃ p cap,v=.slice p ns.length cap:=by
 rcases h with⟨rfl,p,cap,e⟩ | ⟨sb,so,cap,e,_⟩
 ·
  exact⟨p,cap,e⟩
 ·
  exact⟨_,_,e⟩
theorem Zid {ns:List Int}{k:Nat}(hk:k<ns.length):ns.take (k+1)=ns.take k++[ns.getD k 0]:=by
 rw [List.take_succ_eq_append_getElem hk];simp [List.getD,hk]
def Rx {α:Type}(size:Nat)(w:World)(b:Nat)(v:Value)(ps:List (Array Value×α)):Prop:=(ps=[]∧∃ p cap,v=.slice p 0 cap)∨∃ sb so cap,v=.slice (some ⟨sb,so,none⟩) ps.length cap∧sb<b∧∀ i (hi:i<ps.length),w.rangeAt sb (so+i*size) ps[i].1.toList
theorem Rx.ws {α:Type}{size:Nat}{w w':World}{b:Nat}{v:Value}{ps:List (Array Value×α)}(h:Rx size w b v ps)(hw:Ws w w' b):Rx size w' b v ps:=by
 rcases h with h | ⟨sb,so,cap,h1,h2,h3⟩
 ·
  exact Or.inl h
 ·
  exact Or.inr ⟨sb,so,cap,h1,h2,fun i hi j x hx=>(hw.low.cell (p:=⟨sb,so+i*size+j,none⟩) h2).trans (h3 i hi j x hx)⟩
theorem Rx.shape {α:Type}{size:Nat}{w:World}{b:Nat}{v:Value}{ps:List (Array Value×α)}(h:Rx size w b v ps):∃ p cap,v=.slice p ps.length cap:=by
 rcases h with⟨rfl,p,cap,e⟩ | ⟨sb,so,cap,e,_⟩
 ·
  exact⟨p,cap,e⟩
 ·
  exact⟨_,_,e⟩
theorem Zci {α:Type}{ps:List α}{k:Nat}(hk:k<ps.length):ps.take (k+1)=ps.take k++[ps[k]]:=List.take_succ_eq_append_getElem hk
theorem Tryz.infArgs:(Tryz.prog.info? 139).map (·.size)=some 2:=by kernel_rfl
theorem Tryz.infInss:(Tryz.prog.info? 65).map (·.size)=some 8:=by kernel_rfl
theorem Zi {w:World}{T:Nat}{t:TypeId}{cs:Array Value}{fr:Nat×Nat}(h:w.heap[T]?=some (.cells cs t fr))(j:Nat):w.cell? ⟨T,j,none⟩=cs[j]?:=cell_of_row w T j cs t fr h
def Dy:List Int:=[0,9,3,7,7,7,7,7,7,7,15,15,112,112,2,7,64,48,8]
def Kn (op:Int):Int:=Dy.getD op.toNat 0
def Jb (w:World):Prop:=∀ k:Nat,k<19→w.cell? ⟨1,k,none⟩=some (.int .u8 (Dy.getD k 0))
theorem Jb.ws {w w':World}{b:Nat}(h:Jb w)(hb:1<b)(hw:Ws w w' b):Jb w':=fun k hk=>(hw.low.cell (p:=⟨1,k,none⟩) hb).trans (h k hk)
set_option maxRecDepth 100000 in
theorem Zex (op:Int)(h:1≤op)(h2:op≤18)(w:World)(hg:Jb w):Calls Tryz.prog 99 #[.int .i64 op] w fun e w'=>e=.returned (.int .u8 (Kn op))∧w'=w:=by
 have cc:w.cell? ⟨1,op.toNat,none⟩=some (.int .u8 (Kn op)):=hg op.toNat (by omega);clear hg;go_enter Tryz.func99,Tryz.ntmps99
 go_wp2;go_ret;exact⟨rfl,rfl⟩
def Jm (bs:List Bool):Nat→Int
 | 0=>0
 | k+1=>if bs.getD k false then bits .or .u8 (Jm bs k) ((2:Int) ^ k) else Jm bs k
theorem Tryz.idx0 (v0 v1 v2 v3 v4 v5 v6:Value)(w:World):Sem.run Tryz.prog (Instr.index 203 (.agg #[v0,v1,v2,v3,v4,v5,v6]) (.int .i64 0)) w=.ok v0 w:=by kernel_rfl
theorem Tryz.idx1 (v0 v1 v2 v3 v4 v5 v6:Value)(w:World):Sem.run Tryz.prog (Instr.index 203 (.agg #[v0,v1,v2,v3,v4,v5,v6]) (.int .i64 1)) w=.ok v1 w:=by kernel_rfl
theorem Tryz.idx2 (v0 v1 v2 v3 v4 v5 v6:Value)(w:World):Sem.run Tryz.prog (Instr.index 203 (.agg #[v0,v1,v2,v3,v4,v5,v6]) (.int .i64 2)) w=.ok v2 w:=by kernel_rfl
theorem Tryz.idx3 (v0 v1 v2 v3 v4 v5 v6:Value)(w:World):Sem.run Tryz.prog (Instr.index 203 (.agg #[v0,v1,v2,v3,v4,v5,v6]) (.int .i64 3)) w=.ok v3 w:=by kernel_rfl
theorem Tryz.idx4 (v0 v1 v2 v3 v4 v5 v6:Value)(w:World):Sem.run Tryz.prog (Instr.index 203 (.agg #[v0,v1,v2,v3,v4,v5,v6]) (.int .i64 4)) w=.ok v4 w:=by kernel_rfl
theorem Tryz.idx5 (v0 v1 v2 v3 v4 v5 v6:Value)(w:World):Sem.run Tryz.prog (Instr.index 203 (.agg #[v0,v1,v2,v3,v4,v5,v6]) (.int .i64 5)) w=.ok v5 w:=by kernel_rfl
theorem Tryz.idx6 (v0 v1 v2 v3 v4 v5 v6:Value)(w:World):Sem.run Tryz.prog (Instr.index 203 (.agg #[v0,v1,v2,v3,v4,v5,v6]) (.int .i64 6)) w=.ok v6 w:=by kernel_rfl
set_option maxHeartbeats 2000000 in
set_option maxRecDepth 100000 in
theorem Zic (op d a bb n f:Int)(pa po:Option Addr)(na no ca co:Nat)(w:World)(b0 b1 b2 b3 b4 b5 b6:Bool)(h0:(d != 0)=b0)(h1:(a != 0)=b1)(h2:(bb != 0)=b2)(h3:(n != 0)=b3)(h4:(f != 0)=b4)(h5:((na:Int) != 0)=b5)(h6:((no:Int) != 0)=b6):Calls Tryz.prog 108 #[.agg #[.int .i64 op,.int .i64 d,.int .i64 a,.int .i64 bb,.int .u64 n,.int .i64 f,.slice pa na ca,.slice po no co]] w fun e w'=>e=.returned (.int .u8 (Jm [b0,b1,b2,b3,b4,b5,b6] 7))∧∃ X Y,w'=(w.alloc X).alloc Y:=by
 go_enter Tryz.func108,Tryz.ntmps108
 go_wp2;generalize hW:(w.alloc _).alloc _=W;have HW:=Zg (show ∃ X Y,W=(w.alloc X).alloc Y from⟨_,_,hW.symm⟩);clear hW;try simp only [h0,h1,h2,h3,h4,h5,h6]
 clear h0 h1 h2 h3 h4 h5 h6;go_loopw [32,4] (fun j s w'=>∃ k:Nat,j=.int .i64 k∧k≤7∧s=.int .u8 (Jm [b0,b1,b2,b3,b4,b5,b6] k)∧w'=W) (fun j _ _=>7-(intOf j).toNat)
 case atStart=>exact⟨0,rfl,by omega,rfl,rfl⟩
 case round =>
  obtain⟨k,rfl,hk,rfl,rfl⟩:=hrel;match k,hk with
  | 0,_ =>
   cases h0:b0 with
   | true =>
    have HF:=Zg (show Jm [b0,b1,b2,b3,b4,b5,b6] 1=bits .or .u8 (Jm [b0,b1,b2,b3,b4,b5,b6] 0) 1 from by rw [h0]; rfl);rw [h0] at HF;generalize Jm [b0,b1,b2,b3,b4,b5,b6] 0=z at HF;go_wp2;rw [Tryz.idx0];go_wp2;go_roundw
    case rel=>exact⟨1,rfl,by omega,by rw [Zb HF],trivial⟩
    case measure=>simp [intOf]
   | false =>
    go_wp2;rw [Tryz.idx0];go_wp2;go_roundw
    case rel=>exact⟨1,rfl,by omega,rfl,trivial⟩
    case measure=>simp [intOf]
  | 1,_ =>
   cases h1:b1 with
   | true =>
    have HF:=Zg (show Jm [b0,b1,b2,b3,b4,b5,b6] 2=bits .or .u8 (Jm [b0,b1,b2,b3,b4,b5,b6] 1) 2 from by rw [h1]; rfl);rw [h1] at HF;generalize Jm [b0,b1,b2,b3,b4,b5,b6] 1=z at HF;go_wp2;rw [Tryz.idx1];go_wp2;go_roundw
    case rel=>exact⟨2,rfl,by omega,by rw [Zb HF],trivial⟩
    case measure=>simp [intOf]
   | false =>
    go_wp2;rw [Tryz.idx1];go_wp2;go_roundw
    case rel=>exact⟨2,rfl,by omega,rfl,trivial⟩
    case measure=>simp [intOf]
  | 2,_ =>
   cases h2:b2 with
   | true =>
    have HF:=Zg (show Jm [b0,b1,b2,b3,b4,b5,b6] 3=bits .or .u8 (Jm [b0,b1,b2,b3,b4,b5,b6] 2) 4 from by rw [h2]; rfl);rw [h2] at HF;generalize Jm [b0,b1,b2,b3,b4,b5,b6] 2=z at HF;go_wp2;rw [Tryz.idx2];go_wp2;go_roundw
    case rel=>exact⟨3,rfl,by omega,by rw [Zb HF],trivial⟩
    case measure=>simp [intOf]
   | false =>
    go_wp2;rw [Tryz.idx2];go_wp2;go_roundw
    case rel=>exact⟨3,rfl,by omega,rfl,trivial⟩
    case measure=>simp [intOf]
  | 3,_ =>
   cases h3:b3 with
   | true =>
    have HF:=Zg (show Jm [b0,b1,b2,b3,b4,b5,b6] 4=bits .or .u8 (Jm [b0,b1,b2,b3,b4,b5,b6] 3) 8 from by rw [h3]; rfl);rw [h3] at HF;generalize Jm [b0,b1,b2,b3,b4,b5,b6] 3=z at HF;go_wp2;rw [Tryz.idx3];go_wp2;go_roundw
    case rel=>exact⟨4,rfl,by omega,by rw [Zb HF],trivial⟩
    case measure=>simp [intOf]
   | false =>
    go_wp2;rw [Tryz.idx3];go_wp2;go_roundw
    case rel=>exact⟨4,rfl,by omega,rfl,trivial⟩
    case measure=>simp [intOf]
  | 4,_ =>
   cases h4:b4 with
   | true =>
    have HF:=Zg (show Jm [b0,b1,b2,b3,b4,b5,b6] 5=bits .or .u8 (Jm [b0,b1,b2,b3,b4,b5,b6] 4) 16 from by rw [h4]; rfl);rw [h4] at HF;generalize Jm [b0,b1,b2,b3,b4,b5,b6] 4=z at HF;go_wp2;rw [Tryz.idx4];go_wp2;go_roundw
    case rel=>exact⟨5,rfl,by omega,by rw [Zb HF],trivial⟩
    case measure=>simp [intOf]
   | false =>
    go_wp2;rw [Tryz.idx4];go_wp2;go_roundw
    case rel=>exact⟨5,rfl,by omega,rfl,trivial⟩
    case measure=>simp [intOf]
  | 5,_ =>
   cases h5:b5 with
   | true =>
    have HF:=Zg (show Jm [b0,b1,b2,b3,b4,b5,b6] 6=bits .or .u8 (Jm [b0,b1,b2,b3,b4,b5,b6] 5) 32 from by rw [h5]; rfl);rw [h5] at HF;generalize Jm [b0,b1,b2,b3,b4,b5,b6] 5=z at HF;go_wp2;rw [Tryz.idx5];go_wp2;go_roundw
    case rel=>exact⟨6,rfl,by omega,by rw [Zb HF],trivial⟩
    case measure=>simp [intOf]
   | false =>
    go_wp2;rw [Tryz.idx5];go_wp2;go_roundw
    case rel=>exact⟨6,rfl,by omega,rfl,trivial⟩
    case measure=>simp [intOf]
  | 6,_ =>
   cases h6:b6 with
   | true =>
    have HF:=Zg (show Jm [b0,b1,b2,b3,b4,b5,b6] 7=bits .or .u8 (Jm [b0,b1,b2,b3,b4,b5,b6] 6) 64 from by rw [h6]; rfl);rw [h6] at HF;generalize Jm [b0,b1,b2,b3,b4,b5,b6] 6=z at HF;go_wp2;rw [Tryz.idx6];go_wp2;go_roundw
    case rel=>exact⟨7,rfl,by omega,by rw [Zb HF],trivial⟩
    case measure=>simp [intOf]
   | false =>
    go_wp2;rw [Tryz.idx6];go_wp2;go_roundw
    case rel=>exact⟨7,rfl,by omega,rfl,trivial⟩
    case measure=>simp [intOf]
  | 7,_ =>
   go_wp2;go_ret;exact⟨rfl,Zb HW⟩
  | k+8,hk=>omega
def Dz (op d a bb n f:Int)(na no:Nat):Bool:=bits .andNot .u8 (Jm [d != 0,a != 0,bb != 0,n != 0,f != 0,(na:Int) != 0,(no:Int) != 0] 7) (Kn op) != 0
theorem Jb.below {w w':World}(h:Jb w)(hb:1<w.heap.size)(hw:Below w.heap.size w w'):Jb w':=fun k hk=>(hw.cell (p:=⟨1,k,none⟩) hb).trans (h k hk)
set_option maxHeartbeats 4000000 in
set_option maxRecDepth 100000 in
theorem Zdt (op d a bb n f:Int)(pa po:Option Addr)(na no ca co:Nat)(w:World)(h:1≤op)(h2:op≤18)(hg:Jb w)(hb:1<w.heap.size):Calls Tryz.prog 101 #[.agg #[.int .i64 op,.int .i64 d,.int .i64 a,.int .i64 bb,.int .u64 n,.int .i64 f,.slice pa na ca,.slice po no co]] w fun e w'=>e=.returned (.bool (Dz op d a bb n f na no))∧Below w.heap.size w w':=by
 have HG:=Zg hg;clear hg;unfold Dz;go_enter Tryz.func101,Tryz.ntmps101
 go_wp2_with fail
 go_region_with (first
  | (go_at_call 108; refine(Zic _ _ _ _ _ _ _ _ _ _ _ _ _ _ _ _ _ _ _ _ rfl rfl rfl rfl rfl rfl rfl).mono ?_; rintro e w' ⟨rfl,X,Y,rfl⟩)
  | (go_at_call 99; refine(Zex op h h2 _ ((Zb HG).below hb (by go_grown))).mono ?_; rintro e w' ⟨rfl,rfl⟩))
 all_goals go_wp2
 all_goals go_ret
 all_goals exact⟨rfl,by go_grown⟩
def opB (n:Int):Nat→List UInt8
 | 0=>[]
 | c+1=>Zx (n / 2 ^ (8*c)) :: opB n c
theorem Zas (n:Int):∀ c,(opB n c).length=c
 | 0=>rfl
 | c+1=>by simp [opB,Zas n c]
theorem Ua {P:Program}{ops:Array Oper}{o:Oper}{a:Act}{w:World}{K:Act→World→Prop}{Q:Exit→Act→World→Prop}{E:Prop}
 (hg:o.guard=none) (s x:Operand) (t:TypeId) (ho:o.op=.call { callee:=.builtin .append,args:=#[s,x],argTypes:=#[t,t] })
 (base:Nat) (e:TypeId) (i:TypeInfo) (z:Value) (size bytes:Nat) (ht:P.underlying t=some (.slice e)) (hi:P.info? e=some i) (hz:i.zero=some z)
 (hsize:i.size=size) (hby:i.bytes=bytes) (hzs:z.cells.size=size) (hsz:0<size)
 (v:Value) (n:Nat) (xs:List Value) (hs:a.eval s=v) (hown:w.ownsRow base e size v n xs)
 (ad:Addr) (m c:Nat) (news:List Value) (hx:a.eval x=.slice (some ad) m c) (hl:news.length=m*size) (hnews:∀ j u,news[j]?=some u→w.cell? (ad.add j)=some u) (h1:∀ u ∈ news,u.oneCell'=true)
 (h63:n+m≤maxLen) (hbytes:(n+m)*bytes≤140737488355328) (hbase:base≤w.heap.size)
 (h:∀ v' w',w'.ownsRow base e size v' (n+m) (xs++news)→w.grownBy w' v.ownBlock→K (a.put o.dst v') w') :
 if Region.wanted o (yielded ops a.tmps)=true then Oper.wp P o a w K Q else E:=by
 have hw:Region.wanted o (yielded ops a.tmps)=true:=by simp [Region.wanted,hg]
 rw [if_pos hw];exact wp_append_own w s x t ho base e i z size bytes ht hi hz hsize hby hzs hsz v n xs hs hown ad m c news hx hl hnews h1 h63 hbytes hbase (fun v' w' h2 h3 _=>h v' w' h2 h3)
structure Zw where
 op:Int
 d:Int
 a:Int
 bb:Int
 n:Int
 f:Int
 args:List (Int×Int)
 outs:List Int
def Zw.spare (i:Zw):Bool:=Dz i.op i.d i.a i.bb i.n i.f i.args.length i.outs.length
def VsB {α:Type}(w:World)(b:Nat)(v:Value)(ps:List (Value×α)):Prop:=(ps=[]∧∃ p cap,v=.slice p 0 cap)∨∃ sb so cap,v=.slice (some ⟨sb,so,none⟩) ps.length cap∧sb<b∧∀ i (hi:i<ps.length),w.cell? ⟨sb,so+i,none⟩=some ps[i].1
theorem VsB.ws {α:Type}{w w':World}{b:Nat}{v:Value}{ps:List (Value×α)}(h:VsB w b v ps)(hw:Ws w w' b):VsB w' b v ps:=by
 rcases h with h | ⟨sb,so,cap,h1,h2,h3⟩
 ·
  exact Or.inl h
 ·
  exact Or.inr ⟨sb,so,cap,h1,h2,fun i hi=>(hw.low.cell (p:=⟨sb,so+i,none⟩) h2).trans (h3 i hi)⟩
theorem VsB.shape {α:Type}{w:World}{b:Nat}{v:Value}{ps:List (Value×α)}(h:VsB w b v ps):∃ p cap,v=.slice p ps.length cap:=by
 rcases h with⟨rfl,p,cap,e⟩ | ⟨sb,so,cap,e,_⟩
 ·
  exact⟨p,cap,e⟩
 ·
  exact⟨_,_,e⟩
abbrev Xa:Nat:=9223372036854775808
def Lu (w:World)(b:Nat)(p:Array Value×Zw):Prop:=∃(av ov:Value) (pa:List (Array Value×(Int×Int))),p.1=#[.int .i64 p.2.op,.int .i64 p.2.d,.int .i64 p.2.a,.int .i64 p.2.bb,.int .u64 p.2.n,.int .i64 p.2.f,av,ov]∧pa.map (·.2)=p.2.args∧(∀ q ∈ pa,q.1=#[.int .i64 q.2.1,.int .i64 q.2.2])∧Rx 2 w b av pa∧Dm w b ov p.2.outs∧p.2.args.length<Xa∧p.2.outs.length<Xa
theorem Lu.ws {w w':World}{b:Nat}{p:Array Value×Zw}(h:Lu w b p)(hw:Ws w w' b):Lu w' b p:=by
 obtain⟨av,ov,pa,h1,h2,h3,h4,h5,h6⟩:=h;exact⟨av,ov,pa,h1,h2,h3,h4.ws hw,h5.ws hw,h6⟩
theorem Lu.size {w:World}{b:Nat}{p:Array Value×Zw}(h:Lu w b p):p.1.size=8∧p.1.all (·.oneCell')=true:=by
 obtain⟨av,ov,pa,h1,h2,h3,h4,h5,h6⟩:=h;obtain⟨q,c,e⟩:=h4.shape;obtain⟨q',c',e'⟩:=h5.shape;rw [h1,e,e'];exact⟨rfl,by simp [Value.oneCell']⟩
def Nj (w:World)(b:Nat)(p:Value×List Zw):Prop:=∃ ps:List (Array Value×Zw),ps.map (·.2)=p.2∧Rx 8 w b p.1 ps∧(∀ q ∈ ps,Lu w b q)∧ps.length<Xa
theorem Nj.ws {w w':World}{b:Nat}{p:Value×List Zw}(h:Nj w b p)(hw:Ws w w' b):Nj w' b p:=by
 obtain⟨ps,h1,h2,h3,h4⟩:=h;exact⟨ps,h1,h2.ws hw,fun q hq=>(h3 q hq).ws hw,h4⟩
theorem Nj.shape {w:World}{b:Nat}{p:Value×List Zw}(h:Nj w b p):∃ q n cap,p.1=.slice q n cap:=by
 obtain⟨ps,h1,h2,h3,h4⟩:=h;obtain⟨q,c,e⟩:=h2.shape;exact⟨q,_,c,e⟩
structure Zn where
 params:List (Int×Int)
 results:Int
 homes:List Int
 slots:List Int
 blocks:List (List Zw)
structure Dg (w:World)(b:Nat)(f:Zn)(pv hv sv bv:Value)(pp:List (Array Value×(Int×Int)))(pb:List (Value×List Zw)):Prop where
 params:pp.map (·.2)=f.params
 vals:∀ q ∈ pp,q.1=#[.int .i64 q.2.1,.int .i64 q.2.2]
 pls:Rx 2 w b pv pp
 hls:Dm w b hv f.homes
 sls:Dm w b sv f.slots
 bls:VsB w b bv pb
 blocks:pb.map (·.2)=f.blocks
 each:∀ q ∈ pb,Nj w b q
 lens:pp.length<Xa∧f.homes.length<Xa∧f.slots.length<Xa∧pb.length<Xa
theorem Dg.ws {w w':World}{b:Nat}{f:Zn}{pv hv sv bv:Value}{pp:List (Array Value×(Int×Int))}{pb:List (Value×List Zw)}(h:Dg w b f pv hv sv bv pp pb)(hw:Ws w w' b):Dg w' b f pv hv sv bv pp pb :=
 ⟨h.params,h.vals,h.pls.ws hw,h.hls.ws hw,h.sls.ws hw,h.bls.ws hw,h.blocks,fun q hq=>(h.each q hq).ws hw,h.lens⟩
def Nk (w:World)(b:Nat)(p:Array Value×(List Int×Int)):Prop:=∃ lv,p.1=#[lv,.int .i64 p.2.2]∧Dm w b lv p.2.1∧p.2.1.length<Xa
theorem Nk.ws {w w':World}{b:Nat}{p:Array Value×(List Int×Int)}(h:Nk w b p)(hw:Ws w w' b):Nk w' b p:=by
 obtain⟨lv,h1,h2,h3⟩:=h;exact⟨lv,h1,h2.ws hw,h3⟩
theorem Nk.size {w:World}{b:Nat}{p:Array Value×(List Int×Int)}(h:Nk w b p):p.1.size=2∧p.1.all (·.oneCell')=true:=by
 obtain⟨lv,h1,h2,h3⟩:=h;obtain⟨q,c,e⟩:=h2.shape;rw [h1,e];exact⟨rfl,by simp [Value.oneCell']⟩
def Gk (w:World)(b:Nat)(p:Array Value×Zn):Prop:=∃ pv hv sv bv pp pb,p.1=#[pv,.int .i64 p.2.results,hv,sv,bv]∧Dg w b p.2 pv hv sv bv pp pb
theorem Gk.ws {w w':World}{b:Nat}{p:Array Value×Zn}(h:Gk w b p)(hw:Ws w w' b):Gk w' b p:=by
 obtain⟨pv,hv,sv,bv,pp,pb,h1,h2⟩:=h;exact⟨pv,hv,sv,bv,pp,pb,h1,h2.ws hw⟩
theorem Gk.size {w:World}{b:Nat}{p:Array Value×Zn}(h:Gk w b p):p.1.size=5∧p.1.all (·.oneCell')=true:=by
 obtain⟨pv,hv,sv,bv,pp,pb,h1,h2⟩:=h;obtain⟨q,c,e⟩:=h2.pls.shape;obtain⟨q2,c2,e2⟩:=h2.hls.shape;obtain⟨q3,c3,e3⟩:=h2.sls.shape;obtain⟨q4,c4,e4⟩:=h2.bls.shape;rw [h1,e,e2,e3,e4];exact⟨rfl,by simp [Value.oneCell']⟩
structure Zl where
 funcs:List Zn
 externs:List (List Int×Int)
structure Ub (w:World)(b:Nat)(p:Zl)(fv ev:Value)(pf:List (Array Value×Zn))(pe:List (Array Value×(List Int×Int))):Prop where
 fls:Rx 5 w b fv pf
 els:Rx 2 w b ev pe
 funcs:pf.map (·.2)=p.funcs
 externs:pe.map (·.2)=p.externs
 feach:∀ q ∈ pf,Gk w b q
 eeach:∀ q ∈ pe,Nk w b q
 lens:pf.length<Xa∧pe.length<Xa
theorem Ub.ws {w w':World}{b:Nat}{p:Zl}{fv ev:Value}{pf:List (Array Value×Zn)}{pe:List (Array Value×(List Int×Int))}(h:Ub w b p fv ev pf pe)(hw:Ws w w' b):Ub w' b p fv ev pf pe :=
 ⟨h.fls.ws hw,h.els.ws hw,h.funcs,h.externs,fun q hq=>(h.feach q hq).ws hw,fun q hq=>(h.eeach q hq).ws hw,h.lens⟩
end Go.Proofs.YteddfaconabobaaGreatDoor
namespace Go.Proofs.YteddfaconabobaaGreatDoor
open Go.ChangeShapes Go.WideShapes Go.ChangeAt Go.RowKit Go.Deep
def Zez (n:Int):Prop:=-9223372036854775808≤n∧n≤9223372036854775807
def Zgi (i:Zw):Nat:=8+i.args.length+i.outs.length
namespace bulkE
theorem one_le {H:Type}(d:DataW H):1≤Rows.uptoBulk d:=by
 cases d with
 | lit l=>cases l <;> simp [Rows.uptoBulk]
 | _=>simp [Rows.uptoBulk]
end bulkE
theorem Tryz.cellsIntE:Tryz.prog.cellsOf 3=1:=by kernel_rfl
theorem Tryz.cellsU64E:Tryz.prog.cellsOf 62=1:=by kernel_rfl
theorem Tryz.cellsIntsE:Tryz.prog.cellsOf 23=1:=by kernel_rfl
theorem Tryz.cellsArgE:Tryz.prog.cellsOf 139=2:=by kernel_rfl
theorem Tryz.cellsArgsE:Tryz.prog.cellsOf 63=1:=by kernel_rfl
theorem Tryz.cellsParamE:Tryz.prog.cellsOf 99=2:=by kernel_rfl
theorem Tryz.cellsParamsE:Tryz.prog.cellsOf 57=1:=by kernel_rfl
theorem Tryz.cellsInsE:Tryz.prog.cellsOf 65=8:=by kernel_rfl
theorem Tryz.cellsInssE:Tryz.prog.cellsOf 61=1:=by kernel_rfl
theorem Tryz.cellsBlocksE:Tryz.prog.cellsOf 58=1:=by kernel_rfl
theorem Tryz.cellsSigE:Tryz.prog.cellsOf 56=2:=by kernel_rfl
theorem Tryz.cellsSigsE:Tryz.prog.cellsOf 27=1:=by kernel_rfl
theorem Tryz.cellsFuncE:Tryz.prog.cellsOf 60=5:=by kernel_rfl
theorem Tryz.cellsFuncsE:Tryz.prog.cellsOf 26=1:=by kernel_rfl
theorem Ym {α:Type}{tr:TypeId→List Value→Option α}{fs:Array Field}{cs:List Value}{xs:List α}{c:Nat}{i:Nat}{f:Field}{y:α}
 (hf:∀(i:Nat) (f:Field),fs[i]?=some f→tr f.type ((cs.drop f.offset).take (Tryz.prog.cellsOf f.type))=xs[i]?) (hi:fs[i]?=some f) (hc:Tryz.prog.cellsOf f.type=c) (hy:xs[i]?=some y):tr f.type ((cs.drop f.offset).take c)=some y:=by
 rw [← hy,← hf i f hi,hc]
theorem Kp {α:Type}{l:List α}(h:l.length=2):∃ a0 a1,l=[a0,a1]:=by
 match l,h with
 | [a0,a1],_=>exact⟨_,_,rfl⟩
theorem Zif {α:Type}{l:List α}(h:l.length=5):∃ a0 a1 a2 a3 a4,l=[a0,a1,a2,a3,a4]:=by
 match l,h with
 | [a0,a1,a2,a3,a4],_=>exact⟨_,_,_,_,_,rfl⟩
theorem Zdv {α:Type}{l:List α}(h:l.length=8):∃ a0 a1 a2 a3 a4 a5 a6 a7,l=[a0,a1,a2,a3,a4,a5,a6,a7]:=by
 match l,h with
 | [a0,a1,a2,a3,a4,a5,a6,a7],_=>exact⟨_,_,_,_,_,_,_,_,rfl⟩
theorem Zau {n:Nat}(h:n≤maxLen):n<Xa:=by unfold maxLen at h; unfold Xa; omega
section
variable {H:Type} {enc:TypeId×Value→H} {w:World} {held:Bool}
abbrev Mc (enc:TypeId×Value→H)(w:World)(held:Bool)(n:Nat)(t:TypeId)(cs:List Value)(y:DataW H×List MemPlace):Prop:=DataW.trod enc Tryz.prog w 0 (fun _=>true) held n t cs=some y
theorem Xq {n:Nat}{v:Value}{y:DataW H×List MemPlace}(h:Mc enc w held n 3 [v] y):∃ x:Int,v=.int .i64 x∧Zez x:=by
 obtain⟨x,e,-,hw⟩:=DataW.trod_int Tryz.underlying3 h;have hb:=bounds_i64 hw;exact⟨x,List.head_eq_of_cons_eq e,by unfold Zez; omega⟩
theorem Iy {n:Nat}{v:Value}{y:DataW H×List MemPlace}(h:Mc enc w held n 62 [v] y):∃ x:Int,v=.int .u64 x∧0≤x∧x<18446744073709551616:=by
 obtain⟨x,e,-,hw⟩:=DataW.trod_int Tryz.underlying62 h;refine⟨x,List.head_eq_of_cons_eq e,?_⟩;have hb:=bounds_u64 hw;omega
theorem Iz {t:TypeId}{fs:Array Field}{f0 f1:Field}(ht:Tryz.prog.underlying t=some (.struct fs))(hf:fs=#[f0,f1])(t0:f0.type=3)(t1:f1.type=3)(o0:f0.offset=0)(o1:f1.offset=1)
 {n:Nat} {cs:List Value} {y:DataW H×List MemPlace} (hl:cs.length=2) (h:Mc enc w held n t cs y):∃ x:Int×Int,(cs.toArray=#[.int .i64 x.1,.int .i64 x.2]∧Zez x.1∧Zez x.2)∧3≤Rows.uptoBulk y.1:=by
 obtain⟨c0,c1,rfl⟩:=Kp hl;obtain⟨xs,k,-,hx,-,hxl,hall⟩:=DataW.trod_struct ht h;subst hf;obtain⟨y0,y1,rfl⟩:=Kp hxl;have g0:=hall 0 f0 rfl;have g1:=hall 1 f1 rfl;rw [t0,o0,Tryz.cellsIntE] at g0;rw [t1,o1,Tryz.cellsIntE] at g1;obtain⟨x0,rfl,b0⟩:=Xq (v:=c0) (y:=y0) g0;obtain⟨x1,rfl,b1⟩:=Xq (v:=c1) (y:=y1) g1;refine⟨(x0,x1),⟨rfl,b0,b1⟩,?_⟩;rw [congrArg Prod.fst hx];have:=bulkE.one_le y0.1;have:=bulkE.one_le y1.1;simp only [List.map_cons,List.map_nil,Rows.uptoBulk,Rows.uptoBulkAll];omega
end
end Go.Proofs.YteddfaconabobaaGreatDoor
namespace Go.Proofs.YteddfaconabobaaGreatDoor
open Go.RowKit
def Zlq (k:Nat)(n:Int):List UInt8:=if k=2∧n=-1 then [45] else Lib.itoa n
def Zjk (k:Nat)(ns:List Int):List UInt8:=ns.flatMap fun n=>32 :: Zlq k n
def nm (k:Nat):List UInt8:=([[114,101,103,115],[115,112],[108,105,110,107],[116,101,109,112,115],[97,114,103,115],[114,101,115,117,108,116,115],[115,97,118,101,115],[97,108,105,103,110],[115,104,97,100,111,119],[98,121,114,101,102],[112,97,105,114,115]]:List (List UInt8)).getD k []
def Zjl (k:Nat)(ns:List Int):List UInt8:=nm k++Zjk k ns++[59,10]
theorem ltc {w:World}{b o:Nat}{v:Value}(h:w.cell? ⟨b,o,none⟩=some v):b<w.heap.size:=by
 rcases Nat.lt_or_ge b w.heap.size with h' | h'
 ·
  exact h'
 ·
  simp [World.cell?,Array.getElem?_eq_none h'] at h
def Yv (r sp lk t0 t1:Int)(va vr vs:Value)(al sh by_:Int)(pr:Bool):Array Value :=
 #[.int .i64 r,.int .i64 sp,.int .i64 lk,.int .i64 t0,.int .i64 t1,va,vr,vs,.int .i64 al,.int .i64 sh,.int .i64 by_,.bool pr]
theorem Zj {p:Prop}(h:p):Hid p:=h
theorem Zc {p:Prop}(h:Hid p):p:=h
theorem Sp {P:Program}{t:TypeId}{z:Value}{n b:Nat}(h:(P.info? t).map (fun i=>(i.zero,i.size,i.bytes))=some (some z,n,b)):∃ i,P.info? t=some i∧i.zero=some z∧i.size=n∧i.bytes=b:=by
 obtain⟨i,hi,e⟩:=Option.map_eq_some_iff.1 h;simp only [Prod.mk.injEq] at e;exact⟨i,hi,e.1,e.2.1,e.2.2⟩
theorem Tryz.infoI:(Tryz.prog.info? 3).map (fun i=>(i.zero,i.size,i.bytes))=some (some (.int .i64 0),1,8):=by kernel_rfl
def Se (ns:List Int):List Value:=ns.map fun n=>.int .i64 n
theorem Zhb {w:World}{base n:Nat}{v:Value}{xs:List Value}(h:w.ownsRow base 3 1 v (n+1) xs):∃ g cap,v=.slice (some ⟨g,0,none⟩) (n+1) cap:=by
 rcases h.2 with⟨_,e⟩ | ⟨g,cap,cur,e,-⟩
 ·
  omega
 ·
  exact⟨g,cap,e⟩
end Go.Proofs.YteddfaconabobaaGreatDoor
