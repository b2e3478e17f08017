import Derived.Test.YtkenknfgeoecbaaGreatDoorJ34
import Derived.Test.YtkenknfgeoecbaaGreatDoorJ36
import Derived.Laws.AppendOwnNone
namespace Go.Proofs.YtkenknfgeoecbaaGreatDoor
open Go.RowKit
def Sq (pa pr ps:Option Addr)(ca cr cs:Nat):Yh:=⟨12,11,-1,9,10,pa,[0,1,2,3],ca,pr,[0,1],cr,ps,[5,6,7],cs,16,0,2,false⟩
theorem Zwo {w:World}{p:Option Addr}{n c:Nat}{ns:List Int}(h:Rs w (.slice p n c) ns)(hc:∀ a n' cap,Value.slice p n c=.slice a n' cap->n'<=cap)(hs:ns.length<Jw):n=ns.length∧Li w (.slice p ns.length c) ns:=by
 have hn:=hc _ _ _ rfl;rcases h with⟨rfl,p',c',e⟩ | ⟨sb,so,c',e,hh⟩
 ·injection e with e1 e2 e3;subst e1 e2 e3;exact⟨rfl,_,_,rfl,hn,hs,fun h=>absurd h (by simp)⟩
 ·injection e with e1 e2 e3;subst e1 e2 e3;exact⟨rfl,_,_,rfl,hn,hs,fun _=>⟨sb,so,rfl,hh⟩⟩
theorem Yec {w:World}{pa pr ps:Option Addr}{na nr ns ca cr cs:Nat}(h:L3 w (.slice pa na ca) (.slice pr nr cr) (.slice ps ns cs) [0,1,2,3] [0,1] [5,6,7]):na=4∧nr=2∧ns=3∧TbO w (Sq pa pr ps ca cr cs):=by have h1:=Zwo h.a h.ca (by decide);have h2:=Zwo h.r h.cr (by decide);have h3:=Zwo h.s h.cs (by decide);exact⟨h1.1,h2.1,h3.1,h1.2,h2.2,h3.2⟩
def Ow:List UInt8:=[70,49,0,1,2,0,0,0,1,1,2,5,255,0,1,2,3,1,0,1,16,1,1]
theorem Zrz:Mo Yl=some Ow:=by kernel_rfl
theorem Zac:Ng ⟨Ow.toArray⟩=.ok Yl:=by kernel_rfl
theorem Yat {s:ByteArray}{q q1:Nat}{op:Int}(h:Zw s 1 18 q=.ok (op,q1)):q<s.size∧op=bAt s q∧1<=op∧op<=18:=by
 unfold Zw at h;split at h
 ·rename_i hq;unfold Lm at h;split at h
  ·rename_i hb;injection h with h;injection h with h1 h2;have e:signed 1 (bAt s q)=bAt s q:=if_neg (fun h=>absurd h.1 (by decide));rw [e] at h1 hb;subst h1;exact⟨hq,rfl,hb⟩
  ·cases h
 ·cases h
theorem Zwp:∀ q:Fin 23,(1<=bAt ⟨Ow.toArray⟩ q.val∧bAt ⟨Ow.toArray⟩ q.val<=18)->bAt ⟨Ow.toArray⟩ q.val=1∨bAt ⟨Ow.toArray⟩ q.val=2∨bAt ⟨Ow.toArray⟩ q.val=3∨bAt ⟨Ow.toArray⟩ q.val=5∨bAt ⟨Ow.toArray⟩ q.val=16:=by decide
theorem Zsa:OnD ⟨Ow.toArray⟩:=fun q op q1 h=>by
 obtain⟨h1,h2,h3,h4⟩:=Yat h;rw [h2] at h3 h4 ⊢;exact Zwp ⟨q,h1⟩ ⟨h3,h4⟩
theorem Zfj (pa pr ps:Option Addr)(ca cr cs:Nat):Sb (Sq pa pr ps ca cr cs) Yl=⟨0,-1,-1,-1⟩:=by kernel_rfl
theorem Zsb:Cc Yl 0 [40,2] 10:=by unfold Cc;decide
theorem Zsc:Su Yl 0 [40,2] [] 10=.done [42] 8 [] []:=by kernel_rfl
theorem Zpp (pa pr ps:Option Addr)(ca cr cs:Nat):Up (Sq pa pr ps ca cr cs) Yl 0 [40,2] [] 10=⟨1,[42],[],2⟩∧Cd (Sq pa pr ps ca cr cs) Yl 0 [40,2] 10=⟨0,-1,-1,-1⟩:=by have h:=Zuf [] (show(Sb (Sq pa pr ps ca cr cs) Yl).e=0 by rw [Zfj]) Zsb;rw [Zsc] at h;exact h
theorem Zfk:Zpu Yl:=by
 intro k a b;match k with
 | 0=>match a with
  | 0=>match b with
   | 0=>exact⟨⟨by decide,by decide⟩,by decide⟩
   | 1=>exact⟨⟨by decide,by decide⟩,by decide⟩
   | b+2=>exact(show((0:Int)<=0∧(0:Int)<18446744073709551616)∧((0:Int)=3∨(0:Int)=16∨(0:Int)=0) by decide)
  | a+1=>exact(show((0:Int)<=0∧(0:Int)<18446744073709551616)∧((0:Int)=3∨(0:Int)=16∨(0:Int)=0) by decide)
 | k+1=>exact(show((0:Int)<=0∧(0:Int)<18446744073709551616)∧((0:Int)=3∨(0:Int)=16∨(0:Int)=0) by decide)
theorem Zwq (k:Nat):(Yl.funcs.getD k Zk).params.length<=8796093022208:=by
 match k with
 | 0=>decide
 | k+1=>exact Nat.zero_le _
theorem Zwr:WdP Yl:=⟨fun k hk=>by
 match k,hk with
 | 0,_=>exact⟨rfl,fun j hj=>by
  match j,hj with
  | 0,_=>rfl
  | 1,_=>rfl⟩,by decide⟩
theorem Zws:∀ k,(Yl.funcs.getD k Zk).slots.length=0:=by
 intro k;match k with
 | 0=>rfl
 | k+1=>rfl
theorem Zwt (pa pr ps:Option Addr)(ca cr cs:Nat):∀ k,(Zca (Sq pa pr ps ca cr cs) Yl k).size<=1024:=by
 intro k;match k with
 | 0=>exact of_decide_eq_true (by kernel_rfl)
 | k+1=>exact of_decide_eq_true (show decide ((Nk (Sq pa pr ps ca cr cs) Zk (Ss (Sq pa pr ps ca cr cs) Yl (Le Zk) Zk.blocks Zk.blocks.length)).size<=1024)=true by kernel_rfl)
theorem Zfl {V:World}{pa pr ps:Option Addr}{ca cr cs:Nat}{fv ev:Value}{A E:Nat->Array Value}(hT:TbO V (Sq pa pr ps ca cr cs))(hP:Mk V fv ev Yl A E)(hN:Zo V)(hE:Zz V):Zfw V (Sq pa pr ps ca cr cs) Yl fv ev A E :=
 ⟨hT,hP,Zfk,hN,World.block_lt_of_cell? V _ (hN 0 (by decide)),hE,Zwq,by kernel_rfl,Zws,Zwt pa pr ps ca cr cs⟩
theorem Zsd {V:World}{pa pr ps:Option Addr}{ca cr cs g:Nat}{fv ev:Value}{A E:Nat->Array Value}(hT:TbO V (Sq pa pr ps ca cr cs))(hP:Mk V fv ev Yl A E)(hN:Zo V)(hE:Zz V)(hr:V.heap[g]?=some (.cells #[.int .u64 40,.int .u64 2] 90 (0,0))) :
 Calls Tryz.prog 22 #[.agg (Sq pa pr ps ca cr cs).box,.agg #[fv,ev],.int .i64 0,.slice (some ⟨g,0,none⟩) 2 2,.slice none 0 0,.int .i64 10] V fun e w'=>∃ b c tv,e=.returned (.tuple #[.agg #[.int .i64 1,.slice (some ⟨b,0,none⟩) 1 c,.int .i64 0,tv,.int .i64 2,.int .i64 0],.agg #[.int .i64 0,.int .i64 (-1),.int .i64 (-1),.int .i64 (-1)]])∧(∃ p n k,tv=.slice p n k)∧w'.cell? ⟨b,0,none⟩=some (.int .u64 42)∧V.heap.size<=b∧Below V.heap.size V w':=by
 have hA:LiU V (.slice (some ⟨g,0,none⟩) [40,2].length 2) [40,2]:=⟨_,2,rfl,Nat.le_refl _,by decide,fun _=>⟨g,0,rfl,fun i hi=>by
  have:i=0∨i=1:=by simp at hi; omega
  rcases this with rfl | rfl
  ·exact(cR hr 0)
  ·exact(cR hr 1)⟩⟩
 have hS:LiU V (.slice none ([]:List Int).length 0) []:=⟨_,0,rfl,Nat.le_refl _,by decide,fun h=>absurd h (by decide)⟩;have h:=Yfg (Sq pa pr ps ca cr cs) Yl 0 10 [40,2] [] (some ⟨g,0,none⟩) none 2 0 fv ev A E V (Zfl hT hP hN hE) Zwr hA hS (fun n hn=>by
  simp only [List.mem_cons,List.not_mem_nil,or_false] at hn;rcases hn with rfl | rfl <;> exact⟨by decide,by decide⟩) (fun n hn=>by cases hn) (by kernel_rfl) ⟨by decide,by decide,by decide,by decide,by decide⟩
 rw [(Zpp pa pr ps ca cr cs).1,(Zpp pa pr ps ca cr cs).2] at h;refine h.mono ?_;rintro e w' ⟨vv,tv,rfl,⟨h1,es,h2⟩,hb⟩;obtain⟨p,c,rfl⟩:=Js h1;obtain⟨b,rfl,hbb,hc⟩:=Zis h1 (k:=0) (by decide);obtain⟨tp,tc,rfl⟩:=Js h2.row;exact⟨b,c,_,rfl,⟨_,_,_,rfl⟩,hc.trans rfl,hbb,hb⟩
theorem Zwu {V:World}{pa pr ps:Option Addr}{ca cr cs:Nat}{fv ev:Value}{A E:Nat->Array Value}(hT:TbO V (Sq pa pr ps ca cr cs))(hP:Mk V fv ev Yl A E)(hN:Zo V)(hE:Zz V) :
 Calls Tryz.prog 23 #[.agg (Sq pa pr ps ca cr cs).box,.agg #[fv,ev]] V fun e w'=>e=.returned (.agg #[.int .i64 0,.int .i64 (-1),.int .i64 (-1),.int .i64 (-1)])∧Below V.heap.size V w':=by
 have h:=Zxb 12 11 (-1) 9 10 (.slice pa 4 ca) (.slice pr 2 cr) (.slice ps 3 cs) 16 0 2 false [0,1,2,3] [0,1] [5,6,7] Yl fv ev A E V (Zfx hT) hP Zfk hN (World.block_lt_of_cell? V _ (hN 0 (by decide))) hE;have e:Od (Jj 12 11 (-1) 9 10 [0,1,2,3] [0,1] [5,6,7] 16 0 2) 12 (Yn 11 (-1) 9 10) Yl=⟨0,-1,-1,-1⟩:=Zfj pa pr ps ca cr cs;rw [e] at h;exact h
theorem Zhi {s:ByteArray}{p:Zj}(h:Ng s=.ok p):Zfs s=0∧dAt s=-1∧Cx s=p:=by unfold Zfs dAt Cx;rw [h];exact⟨rfl,rfl,rfl⟩
theorem Ygt {s:ByteArray}(hs:s.size<=4000)(hon:OnD s)(V:World)(hE:Zz V)(hN:Zo V):Calls Tryz.prog 21 #[.string s] V fun e w'=>(∃ fp ep fc ec,e=.returned (.tuple #[.agg #[.slice fp (Cx s).funcs.length fc,.slice ep (Cx s).externs.length ec],.agg #[.int .i64 (Zfs s),.int .i64 (-1),.int .i64 (-1),.int .i64 (dAt s)]]))∧Below V.heap.size V w':=by refine(Zll s hs hon V hE hN (World.block_lt_of_cell? V _ (hN 0 (by decide)))).mono ?_;rintro e w' ⟨hb,fv,ev,rfl,fv',ev',e0,h2,h3⟩;obtain⟨fp,fc,e1⟩:=h2.shape;obtain⟨ep,ec,e2⟩:=h3.shape;subst e1 e2;injection e0 with e0;injection e0 with e0;injection e0 with e1 e2;injection e2 with e2 _;subst e1 e2;exact⟨⟨fp,ep,fc,ec,rfl⟩,hb⟩
theorem Ygu {p:Zj}{l:List UInt8}{fv ev:Value}{pf:List (Array Value×Zm)}{pe:List (Array Value×(List Int×Int))}(V:World)(hE:Zz V)(hN:Zo V)(hV:Oi V V.heap.size p fv ev pf pe)(h:Mo p=some l):Calls Tryz.prog 20 #[.agg #[fv,ev]] V fun e w'=>e=.returned (.tuple #[.string ⟨l.toArray⟩,.agg #[.int .i64 0,.int .i64 (-1),.int .i64 (-1),.int .i64 (-1)]])∧Below V.heap.size V w':=by have:=Zls p fv ev pf pe V hE hN (World.block_lt_of_cell? V _ (hN 0 (by decide))) hV;rw [h] at this;exact this
theorem Zry (pa pr ps:Option Addr)(ca cr cs:Nat):(Ut (Sq pa pr ps ca cr cs) [0,0,2,3,0] 3).size=24∧(Ut (Sq pa pr ps ca cr cs) [0,0,2,3,0] 3).copies=24∧(Ut (Sq pa pr ps ca cr cs) [0,0,2,3,0] 3).args.length=5∧Kf (Sq pa pr ps ca cr cs) [0,0,2,3,0] 3=0 :=
 ⟨by kernel_rfl,by kernel_rfl,by kernel_rfl,by kernel_rfl⟩
theorem Zwn (pa pr ps:Option Addr)(ca cr cs:Nat):(Jr (Sq pa pr ps ca cr cs) Yl 0).size=24∧(Jr (Sq pa pr ps ca cr cs) Yl 0).in_=32∧Ic (Sq pa pr ps ca cr cs) Yl 0=⟨0,-1,-1,-1⟩ :=
 ⟨by kernel_rfl,by kernel_rfl,by kernel_rfl⟩
def Sh:List Yx:=[((0,0),(1,0)),((1,0),(0,0))]
theorem Zku (pa pr ps:Option Addr)(ca cr cs:Nat):Mj (Sq pa pr ps ca cr cs) Sh=0:=by kernel_rfl
theorem Zdl:(Ji 9 10 3 (Jb Sh)).left=[]∧(Ji 9 10 3 (Jb Sh)).made.length=3:=by decide
theorem Ygs {V:World}{pa pr ps:Option Addr}{ca cr cs g:Nat}{ty:TypeId}(hT:TbO V (Sq pa pr ps ca cr cs))(hE:Zz V)(hr:V.heap[g]?=some (.cells #[.int .i64 0,.int .i64 0,.int .i64 2,.int .i64 3,.int .i64 0] ty (0,0))) :
 Calls Tryz.prog 11 #[.agg (Sq pa pr ps ca cr cs).box,.agg #[.slice (some ⟨g,0,none⟩) 5 5,.int .i64 3]] V fun e w'=>∃ ap ac rp rn rc,e=.returned (.tuple #[.agg #[.slice ap 5 ac,.slice rp rn rc,.int .i64 24,.int .i64 24],.agg #[.int .i64 0,.int .i64 (-1),.int .i64 (-1),.int .i64 (-1)]])∧Below V.heap.size V w':=by
 have hps:Li V (.slice (some ⟨g,0,none⟩) [(0:Int),0,2,3,0].length 5) [0,0,2,3,0]:=⟨_,5,rfl,Nat.le_refl _,by decide,fun _=>⟨g,0,rfl,fun i hi=>by
  have:i=0∨i=1∨i=2∨i=3∨i=4:=by simp at hi; omega
  rcases this with rfl | rfl | rfl | rfl | rfl
  ·exact(cR hr 0)
  ·exact(cR hr 1)
  ·exact(cR hr 2)
  ·exact(cR hr 3)
  ·exact(cR hr 4)⟩⟩
 refine(Zxh (Sq pa pr ps ca cr cs) [0,0,2,3,0] (some ⟨g,0,none⟩) 5 3 V hE hT hps).mono ?_;rintro e w' ⟨av,rv,pvs,rfl,hL,hb⟩;obtain⟨h1,h2,h3,h4⟩:=Zry pa pr ps ca cr cs;rw [h1,h2,h4];have ha:=hL.args;rw [h3] at ha;obtain⟨ap,ac,rfl⟩:=Zx ha;obtain⟨rp,rc,rfl⟩:=Zx hL.res;exact⟨ap,ac,rp,_,rc,rfl,hb⟩
theorem fr3 {V:World}{pa pr ps:Option Addr}{ca cr cs:Nat}{fv ev:Value}{A E:Nat->Array Value}(hT:TbO V (Sq pa pr ps ca cr cs))(hP:Mk V fv ev Yl A E)(hN:Zo V)(hE:Zz V) :
 Calls Tryz.prog 14 #[.agg (Sq pa pr ps ca cr cs).box,.agg #[fv,ev],.int .i64 0] V fun e w'=>∃ a b c sp sn sc kp kn kc l,e=.returned (.tuple #[.agg #[.int .i64 a,.int .i64 b,.int .i64 c,.slice sp sn sc,.slice kp kn kc,.int .i64 l,.int .i64 24,.int .i64 32],.agg #[.int .i64 0,.int .i64 (-1),.int .i64 (-1),.int .i64 (-1)]])∧Below V.heap.size V w':=by
 refine(Ycr (Sq pa pr ps ca cr cs) Yl 0 fv ev A E V (Zfl hT hP hN hE) (by decide)).mono ?_;rintro e w' ⟨slv,kv,rfl,hL,hb⟩;obtain⟨h1,h2,h3⟩:=Zwn pa pr ps ca cr cs;rw [h1,h2,h3];obtain⟨sp,sc,rfl⟩:=Zx hL.1;obtain⟨kp,kc,rfl⟩:=Zx hL.2;exact⟨_,_,_,sp,_,sc,kp,_,kc,_,rfl,hb⟩
theorem or3 {V:World}{pa pr ps:Option Addr}{ca cr cs g:Nat}{ty:TypeId}(hT:TbO V (Sq pa pr ps ca cr cs))(hE:Zz V)(hr:V.heap[g]?=some (.cells #[.int .i64 0,.int .i64 0,.int .i64 1,.int .i64 0,.int .i64 1,.int .i64 0,.int .i64 0,.int .i64 0] ty (0,0))) :
 Calls Tryz.prog 7 #[.agg (Sq pa pr ps ca cr cs).box,.slice (some ⟨g,0,none⟩) 2 2] V fun e w'=>∃ p c,e=.returned (.tuple #[.slice p 3 c,.agg #[.int .i64 0,.int .i64 (-1),.int .i64 (-1),.int .i64 (-1)]])∧Below V.heap.size V w':=by
 have hl:PrS V (.slice (some ⟨g,0,none⟩) 2 2) Sh:=⟨_,2,rfl,Nat.le_refl _,by decide,fun _=>⟨g,0,rfl,Zh hr,fun i hi j x hx=>by
  have:i=0∨i=1:=by simp [Sh] at hi; omega
  rcases this with rfl | rfl
  ·exact(Zi hr (0+0*4+j)).trans (by
    match j,hx with
    | 0,hx=>exact hx
    | 1,hx=>exact hx
    | 2,hx=>exact hx
    | 3,hx=>exact hx
    | j+4,hx=>cases hx)
  ·exact(Zi hr (0+1*4+j)).trans (by
    match j,hx with
    | 0,hx=>exact hx
    | 1,hx=>exact hx
    | 2,hx=>exact hx
    | 3,hx=>exact hx
    | j+4,hx=>cases hx)⟩⟩
 refine(Zoq (Sq pa pr ps ca cr cs) Sh _ V hE hT hl).mono ?_;rintro e w' ⟨v,md,rfl,ho,hR,hb⟩;obtain⟨-,k,hk,-,rfl⟩:=hR.2 (Zku pa pr ps ca cr cs);have e1:Ji (Sq pa pr ps ca cr cs).t0 (Sq pa pr ps ca cr cs).t1 k (Jb Sh)=Ji 9 10 3 (Jb Sh):=Zjb k 3 hk Zdl.1;rw [e1,Zdl.2] at ho;rw [Zku];obtain⟨p,c,rfl⟩:=Zx ho;exact⟨p,c,rfl,hb⟩
set_option maxHeartbeats 16000000
set_option maxRecDepth 100000
theorem Zwm (w:World)(hE:Env w)(hN:Zo w):Calls Tryz.prog 6 #[.int .i64 3] w fun e w'=>e=.returned (.bool true)∧Below w.heap.size w w':=by
 have HE:=Ze hE;have HN:=Ze hN;have hf0:=Ygw;clear hE hN;go_enter Tryz.func6,Tryz.ntmps6
 go_wp2_with fail
 refine(Zse w (Zb HE)).mono ?_;rintro e w1 ⟨hb1,xa4,xn4,xp4,xa5,xn5,xp5,xa6,xn6,xp6,rfl,hL1⟩;obtain⟨rfl,rfl,rfl,hTO⟩:=Yec hL1;have HTO:=Ze hTO;clear hTO;have hz1:=hb1.size;have HB1:=Ze hb1;have HL1:=Ze hL1;clear hb1 hL1;unfold Zt;have hx1:=Np w1 (.cells #[.int .i64 12,.int .i64 11,.int .i64 (-1),.int .i64 9,.int .i64 10,.slice xa4 4 xp4,.slice xa5 2 xp5,.slice xa6 3 xp6,.int .i64 16,.int .i64 0,.int .i64 2,.bool false] 25) (.cells #[.int .i64 0,.int .i64 (-1),.int .i64 (-1),.int .i64 (-1)] 29);have HX1:=Ze hx1;clear hx1;go_wp2_with fail
 have hx1:=Zb HX1;clear HX1;generalize World.alloc (World.alloc w1 _) _=V1 at hx1 ⊢;obtain⟨pA1,pF1,hbV1,hzV1⟩:=hx1;have HBV1:=Ze ((Zb HB1).trans (hbV1.mono (by omega)));have HPR:=Ze (Ygo (w:=V1) false (Ygb ((Zb HE).below (Zb HBV1)) Yav ((Zb HL1).below hbV1)));unfold Zt at HPR;have HPA1:=Ze pA1;have HPF1:=Ze pF1;have HV1:=Ze hbV1;clear pA1 pF1 hbV1;refine(Zb HPR).mono ?_;rintro e w2 ⟨rfl,hb2⟩;have hz2:=hb2.size;have HB2:=Ze hb2;have HBW2:=Ze ((Zb HBV1).trans (hb2.mono (by omega)));clear hb2 HPR;go_wp2_with fail
 refine(Znl w2 ((Zb HE).below (Zb HBW2))).mono ?_;rintro e w3 ⟨hb3,ya4,yn4,yp4,ya5,yn5,yp5,ya6,yn6,yp6,rfl⟩;have hz3:=hb3.size;have HB3:=Ze hb3;have HBW3:=Ze ((Zb HBW2).trans (hb3.mono (by omega)));clear hb3;unfold Zt;have hx3:=Np w3 (.cells #[.int .i64 12,.int .i64 11,.int .i64 (-1),.int .i64 9,.int .i64 10,.slice ya4 yn4 yp4,.slice ya5 yn5 yp5,.slice ya6 yn6 yp6,.int .i64 16,.int .i64 0,.int .i64 2,.bool false] 25) (.cells #[.int .i64 0,.int .i64 (-1),.int .i64 (-1),.int .i64 (-1)] 29);have HX3:=Ze hx3;clear hx3;go_wp2_with fail
 have hx3:=Zb HX3;clear HX3;generalize World.alloc (World.alloc w3 _) _=V3 at hx3 ⊢;obtain⟨pA3,pF3,hbV3,hzV3⟩:=hx3;have HBV3:=Ze ((Zb HBW3).trans (hbV3.mono (by omega)));have HPA3:=Ze pA3;have HPF3:=Ze pF3;have HB3V:=Ze hbV3;clear pA3 pF3 hbV3;refine(Zhj V3 ((Zb HE).below (Zb HBV3))).mono ?_;rintro e w4 ⟨rfl,hb4⟩;have hz4:=hb4.size;have HB4:=Ze hb4;have HBW4:=Ze ((Zb HBV3).trans (hb4.mono (by omega)));clear hb4;unfold Cn Zt;have hx4:=Np w4 (.cells #[.int .i64 0,.int .i64 0,.int .i64 0,.int .i64 0,.int .i64 0,.slice none 0 0,.slice none 0 0,.slice none 0 0,.int .i64 0,.int .i64 0,.int .i64 0,.bool false] 25) (.cells #[.int .i64 1,.int .i64 (-1),.int .i64 (-1),.int .i64 0] 29);have HX4:=Ze hx4;clear hx4;have hbq:=(Zb HX4).2.2.1;have q1:=fun q (h:q<V1.heap.size)=>(hbq.block q (by omega)).trans (((Zb HB4).block q (by omega)).trans (((Zb HB3V).block q (by omega)).trans (((Zb HB3).block q (by omega)).trans ((Zb HB2).block q h))));have q3:=fun q (h:q<V3.heap.size)=>(hbq.block q (by omega)).trans ((Zb HB4).block q h);have d0:=(Yk ((q1 (w1.heap.size+1) (by omega)).trans (Zb HPF1))).1 0;have d1:=(Yk ((q3 (w3.heap.size+1) (by omega)).trans (Zb HPF3))).1 0;have d2:=(Yk ((q1 w1.heap.size (by omega)).trans (Zb HPA1))).1 0;have d3:=(Yk ((q3 w3.heap.size (by omega)).trans (Zb HPA3))).1 0;simp at d0 d1 d2 d3;have HVq:=Ze (Zd (Zd (Zd (Zd (Zb HB2) (Zb HB3) (by omega)) (Zb HB3V) (by omega)) (Zb HB4) (by omega)) hbq (by omega))
 clear q1 q3 hbq;have HCK:=Ze (fun V h=>Ygc (r:=0) (sp:=0) (lk:=0) (t0:=0) (t1:=0) (al:=0) (sh:=0) (by_:=0) false V h (Ygv V));rw [Yaw] at HCK;unfold Zt Zwa at HCK;simp only at HCK;have HBV4:=Ze (fun X Y=>(Zb HBW4).trans ((((Below.refl w4.heap.size w4).alloc (Nat.le_refl _) X).alloc (by simp) Y).mono (by omega)));clear HX4;go_wp2_with fail
 refine(Zb HCK _ ((Zb HE).below (Zb HBV4 _ _))).mono ?_;rintro e w5 ⟨rfl,hb5⟩;have HBW5:=Ze ((Zb HBV4 _ _).trans (hb5.mono (by simp; omega)));have hz5:=(Zb HBW5).size;have HV5:=Ze (Zd (Zb HVq) hb5 (by have:=(Zb HVq).size; omega));clear hb5 d0 d1 d2 d3;go_wp2_with fail
 refine(Yau w5).mono ?_;rintro e w6 ⟨⟨b6,A6,E6,rfl,hP6⟩,hb6⟩;have HBW6:=Ze ((Zb HBW5).trans (hb6.mono (by omega)));have HV6:=Ze (Zd (Zb HV5) hb6 (by have:=(Zb HV5).size; omega));have hz6:=hb6.size;have hx6:=al0 w6 (.cells #[.slice (some ⟨b6,0,none⟩) 1 1,.slice none 0 0] 62 (0,0));have HX6:=Ze hx6;have HP6:=Ze hP6;clear hb6 hx6 hP6;go_wp2_with fail
 have hx6:=Zb HX6;clear HX6;generalize World.alloc w6 _=V6 at hx6 ⊢;obtain⟨q6,hbV6,hzV6'⟩:=hx6;have hzV6:=Nat.le_of_eq hzV6'.symm;clear hzV6';have HBV6:=Ze ((Zb HBW6).trans (hbV6.mono (by omega)));have HVV6:=Ze (Zd (Zb HV6) hbV6 (by have:=(Zb HV6).size; omega));have HPV6:=Ze ((Zb HP6).below hbV6);have HQ6:=Ze q6;clear q6 hbV6 HP6;refine(Ygu V6 ((Zb HE).er.keep (Zb HBV6)) ((Zb HN).keep (Zb HBV6)) (Zvy Zwv (Zb HPV6)) Zrz).mono ?_;rintro e w7 ⟨rfl,hb7⟩;have hz7:=hb7.size;have hx7:=al0 w7 (.cells #[.int .i64 0,.int .i64 (-1),.int .i64 (-1),.int .i64 (-1)] 29 (0,0));have HU7:=Ze (Zd hb7 hx7.2.1 hb7.size);have HR7:=Ze hx7.1;have hzu7:=Nat.le_of_eq hx7.2.2.symm;clear hb7 hx7;go_wp2_with fail
 generalize World.alloc w7 _=V7 at HU7 HR7 hzu7 ⊢;have HBV7:=Ze (Zd (Zb HBV6) (Zb HU7) (by have:=(Zb HBV6).size; omega));refine(Ygt (s:=⟨Ow.toArray⟩) (by decide) Zsa V7 ((Zb HE).er.keep (Zb HBV7)) ((Zb HN).keep (Zb HBV7))).mono ?_;rintro e w8 ⟨⟨fp,ep,fc,ec,rfl⟩,hb8⟩;rw [(Zhi Zac).1,(Zhi Zac).2.1,(Zhi Zac).2.2,show Yl.funcs.length=1 from rfl,show Yl.externs.length=0 from rfl];have hz8:=hb8.size;have hx8:=Np w8 (.cells #[.slice fp 1 fc,.slice ep 0 ec] 62 (0,0)) (.cells #[.int .i64 0,.int .i64 (-1),.int .i64 (-1),.int .i64 (-1)] 29 (0,0));have HU8:=Ze (Zd hb8 hx8.2.2.1 hb8.size);have HA8:=Ze hx8.1;have HF8:=Ze hx8.2.1;have hzu8:=Nat.le_of_eq hx8.2.2.2.symm;clear hb8 hx8;go_upto_region 9 with fail
 generalize World.alloc (World.alloc w8 _) _=V8 at HU8 HA8 HF8 hzu8 ⊢;have HW8:=Ze (Zd (Zb HU7) (Zb HU8) (by omega));have HV8:=Ze (Zd (Zb HVV6) (Zb HW8) (by have:=(Zb HVV6).size; omega));have HBV8:=Ze (Zd (Zb HBV6) (Zb HW8) (by have:=(Zb HBV6).size; omega));have rt:=((Zb HV8).block w1.heap.size (by omega)).trans (Zb HPA1);have rp:=((Zb HW8).block w6.heap.size (by omega)).trans (Zb HQ6);obtain⟨t0,t1,t2,t3,t4,t5,t6,t7,t8,t9,t10,t11⟩:=cT12 rt;have p0:=cR rp 0;have p1:=cR rp 1;have hx9:=al0 V8 (.cells #[.int .u64 40,.int .u64 2] 90 (0,0));have HU9:=Ze hx9.2.1;have HR9:=Ze hx9.1;have hzu9:=Nat.le_of_eq hx9.2.2.symm;clear rt rp hx9;go_wp2_with fail
 clear t0 t1 t2 t3 t4 t5 t6 t7 t8 t9 t10 t11 p0 p1;generalize World.alloc V8 _=V9 at HU9 HR9 hzu9 ⊢;have HW9:=Ze (Zd (Zb HW8) (Zb HU9) (by have:=(Zb HW8).size; omega));have HV9:=Ze (Zd (Zb HVV6) (Zb HW9) (by have:=(Zb HVV6).size; omega));have HBV9:=Ze (Zd (Zb HBV6) (Zb HW9) (by have:=(Zb HBV6).size; omega));have HTO9:=Ze ((Zb HTO).below (Zd (Zb HV1) (Zb HV9) (by omega)));have HP9:=Ze ((Zb HPV6).below (Zb HW9));have HIN:=Ze (show Calls Tryz.prog 22 #[.agg #[.int .i64 12,.int .i64 11,.int .i64 (-1),.int .i64 9,.int .i64 10,.slice xa4 4 xp4,.slice xa5 2 xp5,.slice xa6 3 xp6,.int .i64 16,.int .i64 0,.int .i64 2,.bool false],.agg #[.slice (some ⟨b6,0,none⟩) 1 1,.slice none 0 0],.int .i64 0,.slice (some ⟨V8.heap.size,0,none⟩) 2 2,.slice none 0 0,.int .i64 10] V9 _ from Zsd (Zb HTO9) (Zb HP9) ((Zb HN).keep (Zb HBV9)) ((Zb HE).er.keep (Zb HBV9)) (Zb HR9));refine(Zb HIN).mono ?_;rintro e w10 ⟨vb,vc,tv,rfl,⟨tp,tn,tc,rfl⟩,hc42,hvb,hb10⟩;have hz10:=hb10.size;have hx10:=Np w10 (.cells #[.int .i64 1,.slice (some ⟨vb,0,none⟩) 1 vc,.int .i64 0,.slice tp tn tc,.int .i64 2,.int .i64 0] 87 (0,0)) (.cells #[.int .i64 0,.int .i64 (-1),.int .i64 (-1),.int .i64 (-1)] 29 (0,0));have HU10:=Ze (Zd hb10 hx10.2.2.1 hb10.size);have HA10:=Ze hx10.1;have HF10:=Ze hx10.2.1;have HC42:=Ze ((hx10.2.2.1.cell (p:=⟨vb,0,none⟩) (World.block_lt_of_cell? w10 _ hc42)).trans hc42);have hzu10:=Nat.le_of_eq hx10.2.2.2.symm;clear hb10 hx10 hc42 HIN
 go_upto_region 10 with fail
 generalize World.alloc (World.alloc w10 _) _=V10 at HU10 HA10 HF10 HC42 hzu10 ⊢;have HW10:=Ze (Zd (Zb HW9) (Zb HU10) (by have:=(Zb HW9).size; omega));have HV10:=Ze (Zd (Zb HVV6) (Zb HW10) (by have:=(Zb HVV6).size; omega));have HBV10:=Ze (Zd (Zb HBV6) (Zb HW10) (by have:=(Zb HBV6).size; omega));have HY8:=Ze (Zd (Zb HU9) (Zb HU10) (by have:=(Zb HU9).size; omega));have rt:=((Zb HV10).block w1.heap.size (by omega)).trans (Zb HPA1);have rp:=((Zb HW10).block w6.heap.size (by omega)).trans (Zb HQ6);have r7:=((Zd (Zb HU8) (Zb HY8) (Zb HU8).size).block w7.heap.size (by omega)).trans (Zb HR7);have ra:=((Zb HY8).block w8.heap.size (by omega)).trans (Zb HA8);have rf:=((Zb HY8).block (w8.heap.size+1) (by omega)).trans (Zb HF8);obtain⟨t0,t1,t2,t3,t4,t5,t6,t7,t8,t9,t10,t11⟩:=cT12 rt;have p0:=cR rp 0;have p1:=cR rp 1;have f7:=cR r7 0;have f8:=cR rf 0;have a8:=cR ra 0;have f10:=cR (Zb HF10) 0;have a10:=cR (Zb HA10) 0;have b10:=cR (Zb HA10) 1;have c42:=Zb HC42;clear rt rp r7 ra rf;go_wp2_with fail
 clear t0 t1 t2 t3 t4 t5 t6 t7 t8 t9 t10 t11 p0 p1 f7 f8 a8 f10 a10 b10 c42;have HTO10:=Ze ((Zb HTO).below (Zd (Zb HV1) (Zb HV10) (by omega)));have HP10:=Ze ((Zb HPV6).below (Zb HW10));have HCK2:=Ze (show Calls Tryz.prog 23 #[.agg #[.int .i64 12,.int .i64 11,.int .i64 (-1),.int .i64 9,.int .i64 10,.slice xa4 4 xp4,.slice xa5 2 xp5,.slice xa6 3 xp6,.int .i64 16,.int .i64 0,.int .i64 2,.bool false],.agg #[.slice (some ⟨b6,0,none⟩) 1 1,.slice none 0 0]] V10 _ from Zwu (Zb HTO10) (Zb HP10) ((Zb HN).keep (Zb HBV10)) ((Zb HE).er.keep (Zb HBV10)));refine(Zb HCK2).mono ?_;rintro e w11 ⟨rfl,hb11⟩;have HZ11:=Ze hb11;have HW11:=Ze (Zd (Zb HW10) (Zb HZ11) (by have:=(Zb HW10).size; omega));have HV11:=Ze (Zd (Zb HVV6) (Zb HW11) (by have:=(Zb HVV6).size; omega));have HBV11:=Ze (Zd (Zb HBV6) (Zb HW11) (by have:=(Zb HBV6).size; omega));have HTO11:=Ze ((Zb HTO).below (Zd (Zb HV1) (Zb HV11) (by omega)));have hz11:=(Zb HW11).size;clear hb11 HCK2;go_upto_region 12 with fail
 have rt:=((Zb HV11).block w1.heap.size (by omega)).trans (Zb HPA1);obtain⟨t0,t1,t2,t3,t4,t5,t6,t7,t8,t9,t10,t11⟩:=cT12 rt;clear rt;have hx11:=al0 w11 (.cells #[.int .i64 0,.int .i64 0,.int .i64 2,.int .i64 3,.int .i64 0] 3 (0,0));have HU11:=Ze hx11.2.1;have HR11:=Ze hx11.1;have hzu11:=Nat.le_of_eq hx11.2.2.symm;clear hx11;go_wp2_with fail
 clear t0 t1 t2 t3 t4 t5 t6 t7 t8 t9 t10 t11;generalize World.alloc w11 _=V11 at HU11 HR11 hzu11 ⊢;have HW11b:=Ze (Zd (Zb HW11) (Zb HU11) (by have:=(Zb HW11).size; omega));have HV11b:=Ze (Zd (Zb HVV6) (Zb HW11b) (by have:=(Zb HVV6).size; omega));have HBV11b:=Ze (Zd (Zb HBV6) (Zb HW11b) (by have:=(Zb HBV6).size; omega));have HTO11b:=Ze ((Zb HTO).below (Zd (Zb HV1) (Zb HV11b) (by omega)));have HCL:=Ze (show Calls Tryz.prog 11 #[.agg #[.int .i64 12,.int .i64 11,.int .i64 (-1),.int .i64 9,.int .i64 10,.slice xa4 4 xp4,.slice xa5 2 xp5,.slice xa6 3 xp6,.int .i64 16,.int .i64 0,.int .i64 2,.bool false],.agg #[.slice (some ⟨w11.heap.size,0,none⟩) 5 5,.int .i64 3]] V11 _ from Ygs (Zb HTO11b) ((Zb HE).er.keep (Zb HBV11b)) (Zb HR11));refine(Zb HCL).mono ?_;rintro e w12 ⟨ap,ac,rp,rn,rc,rfl,hb12⟩;have hz12:=hb12.size;have hx12:=Np w12 (.cells #[.slice ap 5 ac,.slice rp rn rc,.int .i64 24,.int .i64 24] 47 (0,0)) (.cells #[.int .i64 0,.int .i64 (-1),.int .i64 (-1),.int .i64 (-1)] 29 (0,0));have HU12:=Ze (Zd hb12 hx12.2.2.1 hb12.size);have HA12:=Ze hx12.1;have HF12:=Ze hx12.2.1;have hzu12:=Nat.le_of_eq hx12.2.2.2.symm;clear hb12 hx12;clear HCL;go_upto_region 13 with fail
 generalize World.alloc (World.alloc w12 _) _=V12 at HU12 HA12 HF12 hzu12 ⊢;have HW12:=Ze (Zd (Zb HW11b) (Zb HU12) (by have:=(Zb HW11b).size; omega));have HV12:=Ze (Zd (Zb HVV6) (Zb HW12) (by have:=(Zb HVV6).size; omega));have HBV12:=Ze (Zd (Zb HBV6) (Zb HW12) (by have:=(Zb HBV6).size; omega));have HTO12:=Ze ((Zb HTO).below (Zd (Zb HV1) (Zb HV12) (by omega)));have rt:=((Zb HV12).block w1.heap.size (by omega)).trans (Zb HPA1);obtain⟨t0,t1,t2,t3,t4,t5,t6,t7,t8,t9,t10,t11⟩:=cT12 rt;have rp:=((Zb HW12).block w6.heap.size (by omega)).trans (Zb HQ6);have p0:=cR rp 0;have p1:=cR rp 1;clear rp;clear rt;go_wp2_with fail
 clear t0 t1 t2 t3 t4 t5 t6 t7 t8 t9 t10 t11 p0 p1;have HP12:=Ze ((Zb HPV6).below (Zb HW12));have HFR:=Ze (show Calls Tryz.prog 14 #[.agg #[.int .i64 12,.int .i64 11,.int .i64 (-1),.int .i64 9,.int .i64 10,.slice xa4 4 xp4,.slice xa5 2 xp5,.slice xa6 3 xp6,.int .i64 16,.int .i64 0,.int .i64 2,.bool false],.agg #[.slice (some ⟨b6,0,none⟩) 1 1,.slice none 0 0],.int .i64 0] V12 _ from fr3 (Zb HTO12) (Zb HP12) ((Zb HN).keep (Zb HBV12)) ((Zb HE).er.keep (Zb HBV12)));refine(Zb HFR).mono ?_;rintro e w13 ⟨fa,fb,fcc,sp,sn,sc,kp,kn,kc,fl,rfl,hb13⟩;have hz13:=hb13.size;have hx13:=Np w13 (.cells #[.int .i64 fa,.int .i64 fb,.int .i64 fcc,.slice sp sn sc,.slice kp kn kc,.int .i64 fl,.int .i64 24,.int .i64 32] 65 (0,0)) (.cells #[.int .i64 0,.int .i64 (-1),.int .i64 (-1),.int .i64 (-1)] 29 (0,0));have HU13:=Ze (Zd hb13 hx13.2.2.1 hb13.size);have HA13:=Ze hx13.1;have HF13:=Ze hx13.2.1;have hzu13:=Nat.le_of_eq hx13.2.2.2.symm;clear hb13 hx13;clear HFR;go_upto_region 14 with fail
 generalize World.alloc (World.alloc w13 _) _=V13 at HU13 HA13 HF13 hzu13 ⊢;have HW13:=Ze (Zd (Zb HW12) (Zb HU13) (by have:=(Zb HW12).size; omega));have HV13:=Ze (Zd (Zb HVV6) (Zb HW13) (by have:=(Zb HVV6).size; omega));have HBV13:=Ze (Zd (Zb HBV6) (Zb HW13) (by have:=(Zb HBV6).size; omega));have HTO13:=Ze ((Zb HTO).below (Zd (Zb HV1) (Zb HV13) (by omega)));have rt:=((Zb HV13).block w1.heap.size (by omega)).trans (Zb HPA1);obtain⟨t0,t1,t2,t3,t4,t5,t6,t7,t8,t9,t10,t11⟩:=cT12 rt;clear rt;have hx14:=al0 V13 (.cells #[.int .i64 0,.int .i64 0,.int .i64 1,.int .i64 0,.int .i64 1,.int .i64 0,.int .i64 0,.int .i64 0] 36 (0,0));have HU14:=Ze hx14.2.1;have HR14:=Ze hx14.1;have hzu14:=Nat.le_of_eq hx14.2.2.symm;clear hx14;go_wp2_with fail
 clear t0 t1 t2 t3 t4 t5 t6 t7 t8 t9 t10 t11;generalize World.alloc V13 _=V14 at HU14 HR14 hzu14 ⊢;have HW14:=Ze (Zd (Zb HW13) (Zb HU14) (by have:=(Zb HW13).size; omega));have HV14:=Ze (Zd (Zb HVV6) (Zb HW14) (by have:=(Zb HVV6).size; omega));have HBV14:=Ze (Zd (Zb HBV6) (Zb HW14) (by have:=(Zb HBV6).size; omega));have HTO14:=Ze ((Zb HTO).below (Zd (Zb HV1) (Zb HV14) (by omega)));have HOR:=Ze (show Calls Tryz.prog 7 #[.agg #[.int .i64 12,.int .i64 11,.int .i64 (-1),.int .i64 9,.int .i64 10,.slice xa4 4 xp4,.slice xa5 2 xp5,.slice xa6 3 xp6,.int .i64 16,.int .i64 0,.int .i64 2,.bool false],.slice (some ⟨V13.heap.size,0,none⟩) 2 2] V14 _ from or3 (Zb HTO14) ((Zb HE).er.keep (Zb HBV14)) (Zb HR14));refine(Zb HOR).mono ?_;rintro e w15 ⟨op,oc,rfl,hb15⟩;have hz15:=hb15.size;have hx15:=al0 w15 (.cells #[.int .i64 0,.int .i64 (-1),.int .i64 (-1),.int .i64 (-1)] 29 (0,0));have HU15:=Ze (Zd hb15 hx15.2.1 hb15.size);have HR15:=Ze hx15.1;have hzu15:=Nat.le_of_eq hx15.2.2.symm;clear hb15 hx15 HOR;go_upto_region 15 with fail
 generalize World.alloc w15 _=V15 at HU15 HR15 hzu15 ⊢;have HW15:=Ze (Zd (Zb HW14) (Zb HU15) (by have:=(Zb HW14).size; omega));have HV15:=Ze (Zd (Zb HVV6) (Zb HW15) (by have:=(Zb HVV6).size; omega));have HBV15:=Ze (Zd (Zb HBV6) (Zb HW15) (by have:=(Zb HBV6).size; omega));have HTO15:=Ze ((Zb HTO).below (Zd (Zb HV1) (Zb HV15) (by omega)));have HY14:=Ze (Zd (Zb HU14) (Zb HU15) (Zb HU14).size);have HY13:=Ze (Zd (Zb HU13) (Zb HY14) (Zb HU13).size);have ra:=((Zb HY13).block w12.heap.size (by omega)).trans (Zb HA12);have rf:=((Zb HY13).block (w12.heap.size+1) (by omega)).trans (Zb HF12);have rg:=((Zb HY14).block w13.heap.size (by omega)).trans (Zb HA13);have rh:=((Zb HY14).block (w13.heap.size+1) (by omega)).trans (Zb HF13);have f18:=cR rf 0;have f20:=cR rh 0;have f22:=cR (Zb HR15) 0;have a0:=cR ra 0;have a2:=cR ra 2;have a3:=cR ra 3;have g6:=cR rg 6;have g7:=cR rg 7;clear ra rf rg rh;go_wp2;go_ret;exact⟨rfl,Zb HBV15⟩
end Go.Proofs.YtkenknfgeoecbaaGreatDoor
namespace Go.Proofs.YtkenknfgeoecbaaGreatDoor
open Go.RowKit Go.MapKept
set_option maxHeartbeats 32000000
set_option maxRecDepth 100000
open Go.ChangeMaps (setBlock)
theorem Zdk {a w:World}{n r:Nat}{o:Obj}(h:Below n a w)(hr:n<=r):Below n a (setBlock w r o):=⟨h.os,h.tape,h.output,by have:=h.size; simpa [setBlock] using this,fun k hk=>(show(w.heap.setIfInBounds r o)[k]?=_ by rw [Array.getElem?_setIfInBounds_ne (by omega)]; exact h.block k hk)⟩
theorem Zwl {w:World}{r:Nat}{o:Obj}(h:r<w.heap.size):(setBlock w r o).heap[r]?=some o:=by show(w.heap.setIfInBounds r o)[r]?=_;rw [Array.getElem?_setIfInBounds_self,if_pos h]
theorem Yfz {w:World}{r g:Nat}{o:Obj}(h:r≠g):(setBlock w r o).heap[g]?=w.heap[g]?:=Array.getElem?_setIfInBounds_ne h
theorem Sp {w:World}{r b s c:Nat}{a:Array Nat}(h:w.heap[r]?=some (.mapIter (some b) s a c)):w.iterSeen r=a:=by unfold World.iterSeen;rw [h]
theorem Yas {T:Yh}{l:List Yx}(h:Mj T l=0):l.length<=64:=by
 unfold Mj at h;split at h
 ·cases h
 ·split at h
  ·cases h
  ·omega
theorem Yeb {T:Yh}{l:List Yx}(h:¬ Mj T l=0):Mj T l=2∨Mj T l=4∨Mj T l=6:=by
 unfold Mj at h ⊢;split
 ·exact .inl rfl
 ·split
  ·exact .inr (.inl rfl)
  ·split
   ·rename_i h1 h2 h3;rw [if_neg h1,if_neg h2,if_pos h3] at h;exact absurd rfl h
   ·exact .inr (.inr rfl)
theorem stv (T:Yh)(W:World)(b:Nat)(h3:W.cell? ⟨b,3,none⟩=some (.int .i64 T.t0))(h4:W.cell? ⟨b,4,none⟩=some (.int .i64 T.t1)):Rs W (.slice (some ⟨b,3,none⟩) 2 2) [T.t0,T.t1]:=.inr ⟨b,3,2,rfl,fun i hi=>by
 rcases(show i=0∨i=1 by simp at hi; omega) with rfl | rfl
 ·exact h3
 ·exact h4⟩
theorem Zed (T:Yh)(l:List Yx)(lp:Option Addr)(lc:Nat)(w:World)(hE:Env w)(hN:Zo w)(hT:TbO w T)(hl:PrS w (.slice lp l.length lc) l) :
 Calls Tryz.prog 3 #[.agg T.box,.slice lp l.length lc] w fun e w'=>e=.returned (.bool true)∧Below w.heap.size w w':=by
 obtain⟨r0,hB,hZ⟩:=al0 w (.cells T.box 25 (0,0));have HM1:∀ V,(Instr.makeMap 32 none).run Tryz.prog V=.ok (.map (some V.heap.size)) (V.alloc (.map #[] 0)):=fun V=>rfl;have HM2:∀ V,(Instr.makeMap 38 none).run Tryz.prog V=.ok (.map (some V.heap.size)) (V.alloc (.map #[] 0)):=fun V=>rfl;have HR0:=Za r0;have HB:=Za hB;have HZ:=Za hZ;have HE:=Za hE;have HN:=Za hN;have HT:=Za hT;have HL:=Za hl;clear r0 hB hZ hE hN hT hl;unfold Yh.box at HR0 HB HZ ⊢;go_enter Tryz.func3,Tryz.ntmps3
 go_wp2_with fail
 generalize World.alloc w _=W at HR0 HB HZ ⊢;refine(Zwm W ((J HE).below (J HB)) ((J HN).keep (J HB))).mono ?_;rintro e w1 ⟨rfl,hb1⟩;have hz1:w.heap.size+1<=w1.heap.size:=by have:=hb1.size; have:=J HZ; omega
 have HB1:=Za (Zd (J HB) hb1 (by have:=J HZ; omega));have HQ0:=Za ((hb1.block w.heap.size (by have:=J HZ; omega)).trans (J HR0));clear hb1 HR0 HB HZ;obtain⟨t0,t1,t2,t3,t4,t5,t6,t7,t8,t9,t10,t11⟩:=cT12 (J HQ0);have HCL:=Za (show Calls Tryz.prog 7 #[.agg #[.int .i64 T.r,.int .i64 T.sp,.int .i64 T.lk,.int .i64 T.t0,.int .i64 T.t1,.slice T.pa T.ag.length T.ca,.slice T.pr T.rs.length T.cr,.slice T.ps T.ss.length T.cs,.int .i64 T.al,.int .i64 T.sh,.int .i64 T.br,.bool T.pairs],.slice lp l.length lc] w1 _ from Zoq T l (.slice lp l.length lc) w1 ((J HE).er.keep (J HB1)) ((J HT).below (J HB1)) ((J HL).below (J HB1)));go_wp2_with fail
 clear t0 t1 t2 t3 t4 t5 t6 t7 t8 t9 t10 t11;refine(J HCL).mono ?_;rintro e w2 ⟨v,md,rfl,hO,hR,hb2⟩;obtain⟨vp,vc,rfl⟩:=Zx hO;clear HCL;have hz2:=hb2.size;have hx:=al0 w2 (.cells #[.int .i64 (Mj T l),.int .i64 (-1),.int .i64 (-1),.int .i64 (-1)] 29 (0,0));have HV1:=Za (Zd hb2 hx.2.1 hb2.size);have HO:=Za hO;have HOB:=Za hx.2.1;have HRF:=Za hx.1;have HOR:=Za hR;have hz3:=Nat.le_of_eq hx.2.2.symm;clear hx hb2 hO hR;unfold Dt;obtain⟨cn,hcn⟩:∃ cn,cn=Mj T l:=⟨_,rfl⟩;rw [← hcn] at HRF HV1 HOB hz3 ⊢;have HCN:=Za hcn;clear hcn;go_upto_region 4 with fail
 generalize World.alloc w2 _=V at HV1 HRF HOB hz3 ⊢;have HBV:=Za (Zd (J HB1) (J HV1) (by omega));have f0:=cR (J HRF) 0;by_cases hc:cn=0
 ·obtain⟨hok,kr,hr1,hr2,hr3⟩:=(J HOR).2 (by rw [← J HCN]; exact hc);obtain⟨e1,e2,e3,e4⟩:=Ydn hr2 hr1;rw [← hr3] at e1 e2 e3 e4;have hl64:=Yas (T:=T) (l:=l) (by rw [← J HCN]; exact hc);have hmo:=Zpm l;have hri:Im l<=l.length:=Zni l l.length;have hml:md.length<=192:=by omega
  have HOK:=Za hok;have E1:=Za e1;have E2:=Za e2;have E3:=Za e3;have E4:=Za e4;subst hc;clear hr1 hr2 hr3 e1 e2 e3 e4 hok HCN HOR hmo hri;have HX1:=Za (al0 V (.map #[] 0));go_wp2_with fail
  clear f0 HM1;have HXA:=Za (J HX1).1;have HXB:=Za (J HX1).2.1;have hzx:=Nat.le_of_eq (J HX1).2.2.symm;clear HX1;generalize World.alloc V _=V1 at HXA HXB hzx ⊢;go_loopw [48] (fun j w'=>∃(k:Nat) (m:List (Yp×Yp)) (o:Obj),j=.int .i64 k∧k<=md.length∧w'.heap[V.heap.size]?=some o∧MpA kP o m∧Zec m∧(∀ q,stF m q=exF (md.take k) q)∧Below V.heap.size V w') (fun j _=>md.length-(intOf j).toNat)
  case atStart=>exact⟨0,[],_,rfl,by omega,J HXA,MpA.new _,by simp [Zec],fun q=>rfl,J HXB⟩
  case round =>
   clear HXA HXB;obtain⟨k,m,o,rfl,hk,hro,hmo,hku,hst,hb⟩:=hrel;have hz:=hb.size;have hltm:=Zdj hro;have HRO:=Za hro;have HMO:=Za hmo;have HKU:=Za hku;have HST:=Za hst;have HBR:=Za hb;clear hro hmo hku hst hb;by_cases hlt:k<md.length
   ·obtain⟨gs,gc,e1,-,-,hgs,d0,d1,d2,d3⟩:=Cf (J HO) hlt;injection e1 with e1 _ e3;subst e1 e3;have HBO:=Za (Zd (J HOB) ((J HBR).mono (show _<=_ by omega)) (by omega));have d0:=((J HBO).cell (p:=⟨gs,k*4,none⟩) hgs).trans d0;have d1:=((J HBO).cell (p:=⟨gs,k*4+1,none⟩) hgs).trans d1;have d2:=((J HBO).cell (p:=⟨gs,k*4+2,none⟩) hgs).trans d2;have d3:=((J HBO).cell (p:=⟨gs,k*4+3,none⟩) hgs).trans d3;have HNX:=Za (Yam (md.take k) (md.getD k Yb) m (J HST));rw [← Oo hlt] at HNX;have hne:=(J E3) (md.getD k Yb) (Me Yb hlt);generalize md.getD k Yb=p at d0 d1 d2 d3 HNX hne;have HX:=Za (al0 wr (.cells #[.int .i64 p.1.1,.int .i64 p.1.2,.int .i64 p.2.1,.int .i64 p.2.2] 36 (0,0)));go_upto_region 10 with fail
    clear d0 d1 d2 d3;have HX2:=Za (J HX).1;have HX3:=Za (show Below V.heap.size V _ from Zd (J HBR) (J HX).2.1 hz);have HRO1:=Za (((J HX).2.1.block V.heap.size hltm).trans (J HRO));have hzw:=Nat.le_of_eq (J HX).2.2.symm;clear HX;generalize World.alloc wr _=W1 at HX2 HX3 HRO1 hzw ⊢;obtain⟨x0,x1,x2,x3⟩:=cT4 (J HX2);have HC:=Za (show(fun U:World=>U.cell? ⟨wr.heap.size,0,none⟩=some (.int .i64 p.1.1)∧U.cell? ⟨wr.heap.size,1,none⟩=some (.int .i64 p.1.2)∧U.cell? ⟨wr.heap.size,2,none⟩=some (.int .i64 p.2.1)∧U.cell? ⟨wr.heap.size,3,none⟩=some (.int .i64 p.2.2)) W1.drew from⟨x0,x1,x2,x3⟩);have HCN:=Za (show ∀ U:World,Below W1.heap.size W1 U->(fun U:World=>U.cell? ⟨wr.heap.size,0,none⟩=some (.int .i64 p.1.1)∧U.cell? ⟨wr.heap.size,1,none⟩=some (.int .i64 p.1.2)∧U.cell? ⟨wr.heap.size,2,none⟩=some (.int .i64 p.2.1)∧U.cell? ⟨wr.heap.size,3,none⟩=some (.int .i64 p.2.2)) U from fun U hU=>⟨(hU.cell (p:=⟨wr.heap.size,0,none⟩) (Zh (J HX2))).trans x0,(hU.cell (p:=⟨wr.heap.size,1,none⟩) (Zh (J HX2))).trans x1,(hU.cell (p:=⟨wr.heap.size,2,none⟩) (Zh (J HX2))).trans x2,(hU.cell (p:=⟨wr.heap.size,3,none⟩) (Zh (J HX2))).trans x3⟩);have hor:¬ p.1.1=-1∨(p.1.1=-1∧¬ p.2.1=-1):=by
     by_cases h1:p.1.1=-1
     ·exact Or.inr ⟨h1,fun h2=>hne ⟨h1,h2⟩⟩
     ·exact Or.inl h1
    clear hne;rcases hor with h1 | ⟨h0,h1⟩;case' inr=>rw [h0] at x0;clear h0
    all_goals
     go_upto_region 12 with fail
     clear x0 x1 x2 x3 h1;refine Yc (C:=fun U:World=>U.cell? ⟨wr.heap.size,0,none⟩=some (.int .i64 p.1.1)∧U.cell? ⟨wr.heap.size,1,none⟩=some (.int .i64 p.1.2)∧U.cell? ⟨wr.heap.size,2,none⟩=some (.int .i64 p.2.1)∧U.cell? ⟨wr.heap.size,3,none⟩=some (.int .i64 p.2.2)) (d:=7) (by kernel_rfl) ?_;refine vD 0 (J HC) ?_;refine vD 1 (J HC) ?_;refine vD 2 (J HC) ?_;refine vD 3 (J HC) ?_;refine vD 4 (J HC) ?_;refine vD 5 (J HC) ?_;refine vO 6 fun K hK=>?_;go_simp;refine(Zpn m p.2 V.heap.size o W1.drew (J HRO1) (J HMO)).mono ?_;rintro e w4 ⟨rfl,hb4⟩;have HB4:=Za (show Below W1.heap.size W1 w4 from⟨hb4.os,hb4.tape,hb4.output,hb4.size,hb4.block⟩);clear hb4;refine kO hK (fun _=>J HCN w4 (J HB4)) ?_;clear hK K;obtain⟨o',hu,hmo'⟩:=Zwe kP Tryz.underlying32 (((J HB4).block V.heap.size (by omega)).trans (J HRO1)) (J HMO) p.1 (stF m p.2);have HMO':=Za hmo';unfold kP at hu;have HBS:=Za (show Below V.heap.size V _ from Zdk (o:=o') (Zd (J HX3) (J HB4) (J HX3).size) (Nat.le_refl _));have HRS:=Za (Zwl (o:=o') (show V.heap.size<w4.heap.size by have:=(J HB4).size; omega));rw [show({ w4 with heap:=w4.heap.setIfInBounds V.heap.size o' }:World)=setBlock w4 V.heap.size o' from rfl] at hu;clear hmo';refine vO 7 fun K hK=>?_;go_simp;refine kO hK (fun h=>(by cases h)) ?_;clear hK K hu;refine Yw (by kernel_rfl) ?_ _;generalize setBlock w4 V.heap.size o'=w5 at HBS HRS ⊢;go_wp2;go_roundw
     case rel=>exact⟨k+1,_,o',by go_num,by omega,J HRS,J HMO',(Zka _ _ _ (J HKU)).1,J HNX,J HBS⟩
     case measure=>simp [intOf]; omega
   ·obtain rfl:k=md.length:=by omega
    rw [List.take_length] at HST;obtain⟨es,ck,rfl,hmg,hse⟩:=J HMO;have HMG:=Za hmg;have HSE:=Za hse;have HX1:=Za (al0 wr (.map #[] 0));clear hmg hse hzx;go_wp2_with fail
    clear HM2;have HXA:=Za (J HX1).1;have HXB:=Za (J HX1).2.1;clear HX1;generalize World.alloc wr _=V2 at HXA HXB ⊢;obtain⟨U,hU⟩:∃ U,U=wr:=⟨_,rfl⟩;rw [← hU] at HXA HXB HRO HBR hz hltm ⊢;clear hU;go_loopw [73,11] (fun j mo w'=>∃(k:Nat) (m2:List (Yp×Int)) (o2:Obj),j=.int .i64 k∧mo=.int .i64 (Ot (l.take k):Nat)∧k<=l.length∧w'.heap[U.heap.size]?=some o2∧MpO o2 m2∧(∀ q,Dc m2 q=tgK l k q)∧Below U.heap.size U w') (fun j _ _=>l.length-(intOf j).toNat)
    case atStart=>exact⟨0,[],_,rfl,rfl,by omega,J HXA,MpO.new,fun q=>(Zwg l q).symm,J HXB⟩
    case round =>
     clear HXA HXB;obtain⟨k,m2,o2,rfl,rfl,hk,hro,hmo,hgt,hb⟩:=hrel;have hzu:=hb.size;have hlt2:=Zdj hro;have HRO2:=Za hro;have HMO2:=Za hmo;have HGT:=Za hgt;have HBU:=Za hb;have hmk:Ot (l.take k)<=128:=by have:=Zpm (l.take k); rw [List.length_take] at this; omega
     clear hro hmo hgt hb;by_cases hlt:k<l.length
     ·obtain⟨gs,go,rfl,hgs,d0,d1,d2,d3⟩:=(J HL).at hlt;have HBO:=Za (Zd (J HBV) (Zd (J HBR) (J HBU) hz) (J HBV).size);have d0:=((J HBO).cell (p:=⟨gs,go+k*4,none⟩) hgs).trans d0;have d1:=((J HBO).cell (p:=⟨gs,go+k*4+1,none⟩) hgs).trans d1;have d2:=((J HBO).cell (p:=⟨gs,go+k*4+2,none⟩) hgs).trans d2;have d3:=((J HBO).cell (p:=⟨gs,go+k*4+3,none⟩) hgs).trans d3;have HNX:=Za (Zwh (J HOK) hlt);have HZR:=Za ((J HGT _).trans (Yao (J HOK) hlt));have HMN:=Za (Zru hlt);have HSP:=Za ((J HST _).trans ((J E1) (l.getD k Yb) (Me Yb hlt)));generalize l.getD k Yb=p at d0 d1 d2 d3 HNX HZR HMN HSP;obtain⟨mk,hmk'⟩:∃ mk,mk=Ot (l.take k):=⟨_,rfl⟩;rw [← hmk'] at hmk HMN ⊢;clear hmk';have HX:=Za (al0 wr (.cells #[.int .i64 p.1.1,.int .i64 p.1.2,.int .i64 p.2.1,.int .i64 p.2.2] 36 (0,0)));go_upto_region 19 with fail
      clear d0 d1 d2 d3;have HX2:=Za (J HX).1;have HX3:=Za (show Below U.heap.size U _ from Zd (J HBU) (J HX).2.1 hzu);have HRO1:=Za (((J HX).2.1.block U.heap.size hlt2).trans (J HRO2));have hzw:=Nat.le_of_eq (J HX).2.2.symm;clear HX;generalize World.alloc wr _=W1 at HX2 HX3 HRO1 hzw ⊢;obtain⟨x0,x1,x2,x3⟩:=cT4 (J HX2);have HC:=Za (show(fun U:World=>U.cell? ⟨wr.heap.size,0,none⟩=some (.int .i64 p.1.1)∧U.cell? ⟨wr.heap.size,1,none⟩=some (.int .i64 p.1.2)∧U.cell? ⟨wr.heap.size,2,none⟩=some (.int .i64 p.2.1)∧U.cell? ⟨wr.heap.size,3,none⟩=some (.int .i64 p.2.2)) W1.drew from⟨x0,x1,x2,x3⟩);have HCN:=Za (show ∀ U:World,Below W1.heap.size W1 U->(fun U:World=>U.cell? ⟨wr.heap.size,0,none⟩=some (.int .i64 p.1.1)∧U.cell? ⟨wr.heap.size,1,none⟩=some (.int .i64 p.1.2)∧U.cell? ⟨wr.heap.size,2,none⟩=some (.int .i64 p.2.1)∧U.cell? ⟨wr.heap.size,3,none⟩=some (.int .i64 p.2.2)) U from fun U hU=>⟨(hU.cell (p:=⟨wr.heap.size,0,none⟩) (Zh (J HX2))).trans x0,(hU.cell (p:=⟨wr.heap.size,1,none⟩) (Zh (J HX2))).trans x1,(hU.cell (p:=⟨wr.heap.size,2,none⟩) (Zh (J HX2))).trans x2,(hU.cell (p:=⟨wr.heap.size,3,none⟩) (Zh (J HX2))).trans x3⟩);have HSD:=Za (Zpn m p.1 V.heap.size (.map es ck) W1.drew (((J HX3).block V.heap.size hltm).trans (J HRO)) (J HMO));rw [J HSP] at HSD;clear x0 x1 x2 x3;refine Yc (C:=fun U:World=>U.cell? ⟨wr.heap.size,0,none⟩=some (.int .i64 p.1.1)∧U.cell? ⟨wr.heap.size,1,none⟩=some (.int .i64 p.1.2)∧U.cell? ⟨wr.heap.size,2,none⟩=some (.int .i64 p.2.1)∧U.cell? ⟨wr.heap.size,3,none⟩=some (.int .i64 p.2.2)) (d:=13) (by kernel_rfl) ?_
      refine vD 0 (J HC) ?_;refine vD 1 (J HC) ?_;refine vD 2 (J HC) ?_;refine vD 4 (J HC) ?_;refine vD 5 (J HC) ?_;refine vO 3 fun K hK=>?_;go_simp;refine(J HSD).mono ?_;rintro e w4 ⟨rfl,hb4⟩;have HB4:=Za (show Below W1.heap.size W1 w4 from⟨hb4.os,hb4.tape,hb4.output,hb4.size,hb4.block⟩);have HC4:=Za (J HCN w4 (J HB4));have HRO4:=Za ((hb4.block U.heap.size (by show _<W1.heap.size; omega)).trans (J HRO1));clear hb4 HSD HC;refine kO hK (fun _=>J HC4) ?_;clear hK K;refine vO 6 fun K hK=>?_;go_simp;refine kO hK (fun _=>J HC4) ?_;clear hK K;refine vO 7 fun K hK=>?_;go_simp;refine kO hK (fun _=>J HC4) ?_;clear hK K;refine vD 8 (J HC4) ?_;refine vD 9 (J HC4) ?_;refine vD 10 (J HC4) ?_;have hlk:=Ga (w:=w4) (J HRO4) (J HMO2) p.1;rw [J HZR] at hlk;unfold kP at hlk;refine vO 11 fun K hK=>?_;go_simp;refine kO hK (fun _=>J HC4) ?_;clear hK K hlk;refine vO 12 fun K hK=>?_;go_simp;refine kO hK (fun _=>J HC4) ?_;clear hK K;refine vO 13 fun K hK=>?_;go_simp;refine kO hK (fun h=>(by cases h)) ?_;clear hK K;refine Yw (by kernel_rfl) ?_ _;obtain⟨o',hu,hmo'⟩:=Zwe iV Tryz.underlying38 (J HRO4) (J HMO2) p.1 ((k:Int)+1);have HMO':=Za (show MpO o' _ from hmo');unfold kP iV at hu;have HBS:=Za (show Below U.heap.size U _ from Zdk (o:=o') (Zd (J HX3) (J HB4) (J HX3).size) (Nat.le_refl _));have HRS:=Za (Zwl (o:=o') (show U.heap.size<w4.heap.size by have:=(J HB4).size; omega));have HXS:=Za ((Yfz (w:=w4) (o:=o') (show U.heap.size≠wr.heap.size by omega)).trans (((J HB4).block wr.heap.size (by omega)).trans (J HX2)))
      rw [show({ w4 with heap:=w4.heap.setIfInBounds U.heap.size o' }:World)=setBlock w4 U.heap.size o' from rfl] at hu;obtain⟨x0,x1,x2,x3⟩:=J HC4;clear hmo';go_upto_region 22 with fail
      clear hu x0 x1 x2 x3;generalize setBlock w4 U.heap.size o'=w5 at HBS HRS HXS ⊢;obtain⟨x0,x1,x2,x3⟩:=cT4 (J HXS);have HGN:=Za (show ∀ q,Dc (Nb m2 p.1 ((k:Int)+1)) q=tgK l (k+1) q from fun q=>by rw [Md,J HNX,J HGT]);clear HNX HGT HZR HSP HX2 HX3 HRO1 HB4 HC4 HRO4 HCN HXS HBO HMO2 HRO2;by_cases hpe:p.1=p.2
      ·have HM0:=Za (show Ot (l.take (k+1))=mk+0 by rw [J HMN]; unfold Kn; rw [if_pos hpe]);rw [← hpe] at x2 x3;clear hpe;go_wp2;go_roundw
       case rel=>exact⟨k+1,_,o',by go_num,by rw [J HM0]; go_num,by omega,J HRS,J HMO',J HGN,J HBS⟩
       case measure=>simp [intOf]; omega
      ·have hor:=Zwj p hpe;by_cases hb:p.1.1=-1∧p.2.1=-1
       ·have HM0:=Za (show Ot (l.take (k+1))=mk+1+1 by rw [J HMN]; unfold Kn Oy; rw [if_neg hpe,decide_eq_true hb.1,decide_eq_true hb.2]; rfl);have h3:¬ p.1.2=p.2.2:=by
         rcases hor with h | h
         ·exact absurd (hb.1.trans hb.2.symm) h
         ·exact h.2
        rw [hb.1] at x0;rw [hb.2] at x2;clear hb hor hpe;go_wp2;go_roundw
        case rel=>exact⟨k+1,_,o',by go_num,by rw [J HM0]; go_num,by omega,J HRS,J HMO',J HGN,J HBS⟩
        case measure=>simp [intOf]; omega
       ·have HM0:=Za (show Ot (l.take (k+1))=mk+1 by rw [J HMN];unfold Kn Oy;rw [if_neg hpe,if_neg (fun h=>hb (by simpa using h))])
        have hor:(¬ p.1.1=p.2.1∧¬ p.1.1=-1)∨(p.1.1=p.2.1∧¬ p.1.2=p.2.2∧¬ p.1.1=-1)∨(p.1.1=-1∧¬ -1=p.2.1∧¬ p.2.1=-1):=by
         rcases hor with h | h
         ·by_cases h1:p.1.1=-1
          ·exact .inr (.inr ⟨h1,fun e=>hb ⟨h1,e.symm⟩,fun e=>hb ⟨h1,e⟩⟩)
          ·exact .inl ⟨h,h1⟩
         ·exact .inr (.inl ⟨h.1,h.2,fun e=>hb ⟨e,h.1 ▸ e⟩⟩)
        clear hb hpe;rcases hor with⟨h1,h2⟩ | ⟨h0,h1,h2⟩ | ⟨h0,h1,h2⟩;case' inr.inl=>rw [← h0] at x2;clear h0
        case' inr.inr=>rw [h0] at x0;clear h0
        all_goals
         go_wp2;go_roundw
         case rel=>exact⟨k+1,_,o',by go_num,by rw [J HM0]; go_num,by omega,J HRS,J HMO',J HGN,J HBS⟩
         case measure=>simp [intOf]; omega
     ·obtain rfl:k=l.length:=by omega
      have HG2:=Za (fun q=>(J HGT q).trans (Yan l q));rw [List.take_length] at hmk ⊢;have HRU:=Za (((J HBU).block V.heap.size hltm).trans (J HRO));have hrg:=run_range_map (P:=Tryz.prog) wr 32 _ _ V.heap.size es ck Tryz.underlying32 (J HRU);have HX1:=Za (al0 wr (.mapIter (some V.heap.size) ck #[] ck));obtain⟨mf,hmf⟩:∃ mf,mf=Ot l:=⟨_,rfl⟩;rw [← hmf] at hmk E4 ⊢;clear hmf HGT;go_wp2_with fail
      have HXA:=Za (J HX1).1;have HXB:=Za (J HX1).2.1;clear HX1 hrg;generalize World.alloc wr _=V3 at HXA HXB ⊢;obtain⟨S,hS⟩:∃ S,S=wr:=⟨_,rfl⟩;rw [← hS] at HXA HXB HRO2 HBU hzu hlt2 HRU ⊢;clear hS;go_loopw [] (fun w'=>∃(seen:Array Nat),w'.heap[S.heap.size]?=some (.mapIter (some V.heap.size) ck seen ck)∧Below S.heap.size S w') (fun w'=>(leftOf es (w'.iterSeen S.heap.size)).size)
      case atStart=>exact⟨#[],J HXA,J HXB⟩
      case round =>
       clear HXA HXB;obtain⟨seen,hs3,hb3⟩:=hrel;have HS3:=Za hs3;have HB3:=Za hb3;have hvs:V.heap.size<S.heap.size:=by omega
       have HM3:=Za ((hb3.block V.heap.size hvs).trans (J HRU));clear hs3 hb3;rcases run_next_at (P:=Tryz.prog) wr 0 S.heap.size V.heap.size ck ck seen es ck (J HS3) (J HM3) (J HSE).1 (Nat.le_refl _) with⟨-,hrun⟩ | ⟨e,he,w1,hw1,hrun⟩
       ·have HBE:=Za (Zd (J HBV) (Zd (J HBR) (Zd (J HBU) (J HB3) hzu) hz) (J HBV).size);have HRN:=Za (Yaq l lp lc U.heap.size o2 m2 wr ((J HL).below (J HBE)) hl64 (((J HB3).block U.heap.size hlt2).trans (J HRO2)) (J HMO2) (J HG2));obtain⟨rn,hrn⟩:∃ rn,rn=Im l:=⟨_,rfl⟩;have hr64:rn<=64:=by have:Im l<=l.length:=Zni l l.length; omega
        rw [← hrn] at HRN;have hle:decide ((md.length:Int)<=(mf:Int)+(rn:Int))=true:=decide_eq_true (by have:=J E4; omega);clear hrn;go_wp2_with fail
        refine(J HRN).mono ?_;rintro e w9 ⟨rfl,hb9⟩;have HBF:=Za (Zd (J HBE) hb9 (J HBE).size);clear hb9 HRN;go_wp2;go_ret;exact⟨rfl,J HBF⟩
       ·obtain⟨hee,-⟩:=mem_left he;obtain⟨p,v,hpm,hkey,hval⟩:=Zpj (J HMG) e hee;have hpv:exF md p=v:=by rw [← J HST]; unfold stF; rw [Zpk (J HKU) hpm]; rfl
        have hh:w1.heap=wr.heap:=by rcases hw1 with rfl | rfl <;> rfl
        have hb1:Below S.heap.size S w1:=by
         rcases hw1 with rfl | rfl
         ·exact J HB3
         ·exact⟨(J HB3).os,(J HB3).tape,(J HB3).output,(J HB3).size,(J HB3).block⟩
        obtain⟨X,hX⟩:∃ X,X=setBlock w1 S.heap.size (.mapIter (some V.heap.size) ck (seen.push e.born) ck):=⟨_,rfl⟩;rw [← hX] at hrun;have hXr:X.heap[S.heap.size]?=some (.mapIter (some V.heap.size) ck (seen.push e.born) ck):=by rw [hX]; exact Zwl (by rw [hh]; exact Zdj (J HS3))
        have hXb:Below S.heap.size S X:=by rw [hX]; exact Zdk hb1 (Nat.le_refl _)
        have hen:=run_entry_at (P:=Tryz.prog) X S.heap.size V.heap.size ck seen es ck e hXr ((hXb.block V.heap.size hvs).trans (J HRU)) hee (J HSE).2;rw [hkey,hval] at hrun hen;unfold kP at hrun hen;have HSH:=Za (left_shrinks es seen e he);have HRW:=Za (Np X (.cells #[.int .i64 p.1,.int .i64 p.2] 34 (0,0)) (.cells #[.int .i64 v.1,.int .i64 v.2] 34 (0,0)));have HXR:=Za hXr;have HXB:=Za hXb;have HPV:=Za hpv;clear hX hXr hXb hb1 hh hw1 hkey hval hpm hee hpv he;go_upto_region 30 with fail
        clear hrun hen;have HY0:=Za (J HRW).1;have HY1:=Za (J HRW).2.1;have HYB:=Za (show Below S.heap.size S _ from Zd (J HXB) (J HRW).2.2.1 (J HXB).size);have HYR:=Za (((J HRW).2.2.1.block S.heap.size (Zdj (J HXR))).trans (J HXR));clear HRW HXR HXB;generalize World.alloc (World.alloc X _) _=W1 at HY0 HY1 HYB HYR ⊢;have x0:=cR (J HY0) 0;have x1:=cR (J HY0) 1;have x2:=cR (J HY1) 0;have x3:=cR (J HY1) 1;by_cases hvp:p=v
        ·subst hvp;go_quiet (fail)
         go_wp2;go_roundw
         case rel=>exact⟨_,J HYR,Gl (J HYB) _⟩
         case measure=>rw [Sp (J HS3),Sp (show(W1.drewN nq).heap[S.heap.size]?=_ from J HYR)];exact J HSH
        ·have hq:=(J E2) p (fun e=>hvp (e.symm.trans (J HPV)));have hlk:∀ n:Nat,(Instr.lookup 38 (.map (some U.heap.size)) (.agg #[.int .i64 p.1,.int .i64 p.2]) false).run Tryz.prog (W1.drewN n)=.ok (.int .i64 (Mq l p)) (W1.drewN n):=fun n=>by
          have:=Ga (w:=W1.drewN n) (((J HYB).block U.heap.size hlt2).trans (J HRO2)) (J HMO2) p;rw [J HG2] at this;exact this
         have hor:=Zwj (p,v) hvp;simp only at hor;by_cases htg:Mq l p=0
         ·have hq:p=(T.t0,0)∨p=(T.t1,0):=by
           rcases hq with h | h
           ·have:=Yap h; omega
           ·exact h
          have HTR:=Za (((Zd (J HV1) (Zd (J HBR) (Zd (J HBU) (J HYB) hzu) hz) (by omega)).block w.heap.size (by omega)).trans (J HQ0));have HKH:=Za (fun n:Nat=>Yfh [T.t0,T.t1] p.1 (.slice (some ⟨w.heap.size,3,none⟩) 2 2) (W1.drewN n) (stv T _ _ ((cR (show(W1.drewN n).heap[w.heap.size]?=_ from J HTR) 3)) ((cR (show(W1.drewN n).heap[w.heap.size]?=_ from J HTR) 4))) (by simp));have hp2:p.2=0:=by rcases hq with rfl | rfl <;> rfl
          rw [decide_eq_true (show p.1 ∈ [T.t0,T.t1] by rcases hq with rfl | rfl <;> simp)] at HKH;rw [htg] at hlk;rw [hp2] at x1 hlk hor;clear hp2 hq htg hvp;rcases hor with h1 | ⟨h0,h1⟩;case' inr=>rw [← h0] at x2;clear h0
          all_goals
           go_quiet (exact Calls.quiet_of_same (J HKH _))
           go_wp2;go_roundw
           case rel=>exact⟨_,J HYR,Gl (J HYB) _⟩
           case measure=>rw [Sp (J HS3),Sp (show(W1.drewN nq).heap[S.heap.size]?=_ from J HYR)];exact J HSH
         ·obtain⟨tg,htg'⟩:∃ tg,tg=Mq l p:=⟨_,rfl⟩;rw [← htg'] at hlk htg;clear htg' hq hvp;rcases hor with h1 | ⟨h0,h1⟩;case' inr=>rw [← h0] at x2;clear h0
          all_goals
           go_quiet (fail)
           go_wp2;go_roundw
           case rel=>exact⟨_,J HYR,Gl (J HYB) _⟩
           case measure=>rw [Sp (J HS3),Sp (show(W1.drewN nq).heap[S.heap.size]?=_ from J HYR)];exact J HSH
 ·have hmd:md=[]:=(J HOR).1 (by rw [← J HCN]; exact hc);have hno:=Yeb (T:=T) (l:=l) (by rw [← J HCN]; exact hc);rw [← J HCN] at hno;subst hmd;rw [List.length_nil];clear hc HCN HOR HM1 HM2;rcases hno with h | h | h;all_goals
   subst h;go_wp2;go_ret;exact⟨rfl,J HBV⟩
end Go.Proofs.YtkenknfgeoecbaaGreatDoor
