import Derived.Test.YtedemloocadimaaGreatDoorFrF
import Derived.Test.YtedemloocadimaaGreatDoorJ18
import Derived.Test.YtedemloocadimaaGreatDoorJ40
namespace Go.Proofs.YtedemloocadimaaGreatDoor
open Go.RowKit
theorem Zbw {n:Nat}{ok:Nat→Bool}(h:Nk n ok=none):∀ k,k<n→ok k=true:=fun k hk=>by
 unfold Nk at h;rw [List.find?_eq_none] at h;have:=h k (List.mem_range.2 hk);simpa using this
theorem Zuq {tab:Bool}{r:Int}{own:List Int}{p:Zw}(h:(Dw tab r own p).e=0):tab=true∧Ld p=true∧(∀ k,k<p.funcs.length→Jr r own (p.funcs.getD k Zp)=true)∧∀ k,k<p.funcs.length→De p (p.funcs.getD k Zp)=true:=by
 unfold Dw at h;cases tab with
 | false=>simp at h
 | true =>
  cases hc:Ld p with
  | false=>rw [hc] at h; simp at h
  | true =>
   rw [hc] at h;simp only [Bool.true_eq_false,if_false] at h;cases h1:Nk p.funcs.length (fun k=>Jr r own (p.funcs.getD k Zp)) with
   | some k=>rw [h1] at h; simp at h
   | none =>
    rw [h1] at h;cases h2:Nk p.funcs.length (fun k=>De p (p.funcs.getD k Zp)) with
    | some k=>rw [h2] at h; simp at h
    | none=>exact⟨rfl,rfl,Zbw h1,Zbw h2⟩
structure Zrf (w:World)(T:TbE)(P:Zw)(fv ev:Value)(A E:Nat→Array Value):Prop where
 t:TbO w T
 p:Ov w fv ev P A E
 nn:Zif P
 na:Zs w
 one:2<w.heap.size
 er:Xj w
 pl:∀ k,(P.funcs.getD k Zp).params.length≤8796093022208
theorem Ua {w w':World}{T:TbE}{P:Zw}{fv ev:Value}{A E:Nat→Array Value}(h:Zrf w T P fv ev A E)(hb:Below w.heap.size w w'):Zrf w' T P fv ev A E:=⟨h.t.below hb,h.p.below hb,h.nn,h.na.keep hb,by have:=hb.size; have:=h.one; omega,h.er.keep hb,h.pl⟩
theorem Zou {w:World}{T:TbE}(h:TbO w T):Zlr w (.slice T.pa T.ag.length T.ca) (.slice T.pr T.rs.length T.cr) (.slice T.ps T.ss.length T.cs) T.ag T.rs T.ss:=⟨h.a.rs,h.r.rs,h.s.rs,h.a.cap,h.r.cap,h.s.cap⟩
theorem Zfl {w:World}{v:Value}{x:Zel}{g:Nat}{z:Int}{cs:Array Value}{t:TypeId}{f:Nat×Nat}(h:Ur w v x)(hr:w.heap[g]?=some (.cells cs t f))(h0:cs[0]?=some (.int .i64 z))(cs':Array Value):Ur (w.setRow g cs') v x:=by
 rcases h with h | h | ⟨q,hx,hv,hb⟩
 ·
  exact Or.inl h
 ·
  exact Or.inr (Or.inl h)
 ·
  have hq:q≠g:=fun e=>by
   subst e;have h1:=hb.c0;rw [Zr hr 0,h0] at h1;injection h1 with h1;cases h1
  have e:∀ o,(w.setRow g cs').cell? ⟨q,o,none⟩=w.cell? ⟨q,o,none⟩:=fun o=>World.cell?_of_block (setRow_other _ _ _ _ hq);exact Or.inr (Or.inr ⟨q,hx,hv,⟨(e _).trans hb.c0,(e _).trans hb.c1,(e _).trans hb.c2,(e _).trans hb.c3⟩⟩)
theorem Zjh {w w':World}{v:Value}{x:Zel}(h:Ur w v x)(hb:Below w.heap.size w w'):Ur w' v x:=by
 rcases h with h | h | ⟨q,hx,hv,h⟩
 ·
  exact Or.inl h
 ·
  exact Or.inr (Or.inl h)
 ·
  exact Or.inr (Or.inr ⟨q,hx,hv,h.below hb⟩)
theorem Zrg {w:World}{v:Value}{x:Zel}(h:Ur w v x)(hx:x.e=0):v=.nilIface:=by
 rcases h with⟨h,-⟩ | ⟨n,hn,-,h⟩ | ⟨q,h,-⟩
 ·
  exact h
 ·
  rw [h] at hx; exact absurd hx hn
 ·
  exact absurd hx h
theorem Zrh {w:World}{v:Value}{x:Zel}(h:Ur w v x)(hx:¬ x.e=0):∃ t u,v=.iface t u:=by
 rcases h with⟨-,h⟩ | ⟨n,-,h,-⟩ | ⟨q,-,h,-⟩
 ·
  rw [h] at hx; exact absurd rfl hx
 ·
  exact⟨_,_,h⟩
 ·
  exact⟨_,_,h⟩
def Zcf (T:TbE)(P:Zw):Zel:=Dw (Yfo T) T.r (Jg T.sp T.lk T.t0 T.t1) P
end Go.Proofs.YtedemloocadimaaGreatDoor
