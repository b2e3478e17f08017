import Derived.Test.YteddfaconabobaaGreatDoorJ18
import Derived.Test.YteddfaconabobaaGreatDoorJ12
namespace Go.Proofs.YteddfaconabobaaGreatDoor
open Go.RowKit
structure Zdw (w:World)(T:Lr)(P:Zl)(fv ev:Value)(A E:Nat→Array Value):Prop where
 t:TbO w T
 p:Lm w fv ev P A E
 nn:Zkh P
 na:Jb w
 one:1<w.heap.size
 er:Xx w
 pl:∀ k,(P.funcs.getD k Ze).params.length≤8796093022208
theorem Jy {w w':World}{T:Lr}{P:Zl}{fv ev:Value}{A E:Nat→Array Value}(h:Zdw w T P fv ev A E)(hb:Below w.heap.size w w'):Zdw w' T P fv ev A E:=⟨h.t.below hb,h.p.below hb,h.nn,h.na.keep hb,by have:=hb.size; have:=h.one; omega,h.er.keep hb,h.pl⟩
theorem Zfi {w:World}{T:Lr}(h:TbO w T):Zga w (.slice T.pa T.ag.length T.ca) (.slice T.pr T.rs.length T.cr) (.slice T.ps T.ss.length T.cs) T.ag T.rs T.ss:=⟨h.a.rs,h.r.rs,h.s.rs,h.a.cap,h.r.cap,h.s.cap⟩
theorem Zac {w:World}{v:Value}{x:Ia}{g:Nat}{z:Int}{cs:Array Value}{t:TypeId}{f:Nat×Nat}(h:Mq w v x)(hr:w.heap[g]?=some (.cells cs t f))(h0:cs[0]?=some (.int .i64 z))(cs':Array Value):Mq (w.setRow g cs') v x:=by
 rcases h with h | h | ⟨q,hx,hv,hb⟩
 ·
  exact Or.inl h
 ·
  exact Or.inr (Or.inl h)
 ·
  have hq:q≠g:=fun e=>by
   subst e;have h1:=hb.c0;rw [Zi hr 0,h0] at h1;injection h1 with h1;cases h1
  have e:∀ o,(w.setRow g cs').cell? ⟨q,o,none⟩=w.cell? ⟨q,o,none⟩:=fun o=>World.cell?_of_block (setRow_other _ _ _ _ hq);exact Or.inr (Or.inr ⟨q,hx,hv,⟨(e _).trans hb.c0,(e _).trans hb.c1,(e _).trans hb.c2,(e _).trans hb.c3⟩⟩)
theorem Zcm {w w':World}{v:Value}{x:Ia}(h:Mq w v x)(hb:Below w.heap.size w w'):Mq w' v x:=by
 rcases h with h | h | ⟨q,hx,hv,h⟩
 ·
  exact Or.inl h
 ·
  exact Or.inr (Or.inl h)
 ·
  exact Or.inr (Or.inr ⟨q,hx,hv,h.below hb⟩)
theorem Zgm {w:World}{v:Value}{x:Ia}(h:Mq w v x)(hx:x.e=0):v=.nilIface:=by
 rcases h with⟨h,-⟩ | ⟨n,hn,-,h⟩ | ⟨q,h,-⟩
 ·
  exact h
 ·
  rw [h] at hx; exact absurd hx hn
 ·
  exact absurd hx h
theorem Zgn {w:World}{v:Value}{x:Ia}(h:Mq w v x)(hx:¬ x.e=0):∃ t u,v=.iface t u:=by
 rcases h with⟨-,h⟩ | ⟨n,-,h,-⟩ | ⟨q,-,h,-⟩
 ·
  rw [h] at hx; exact absurd rfl hx
 ·
  exact⟨_,_,h⟩
 ·
  exact⟨_,_,h⟩
def Um (T:Lr)(P:Zl):Ia:=Gr (Zpa T) T.r (Zt T.sp T.lk T.t0 T.t1) P
end Go.Proofs.YteddfaconabobaaGreatDoor
