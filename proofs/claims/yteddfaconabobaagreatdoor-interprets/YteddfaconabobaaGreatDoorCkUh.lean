import Derived.Test.YteddfaconabobaaGreatDoorJ14
namespace Go.Proofs.YteddfaconabobaaGreatDoor
open Go.RowKit
set_option maxHeartbeats 1000000 in
set_option maxRecDepth 100000 in
theorem Zhv (ns:List Int)(x:Int)(v:Value)(w:World)(h:Rs w v ns)(hn:ns.length<9223372036854775808):Calls Tryz.prog 48 #[v,.int .i64 x] w fun e w'=>e=.returned (.bool (decide (x ∈ ns)))∧w'=w:=by
 by_cases hne:ns=[]
 ·
  obtain⟨p,cap,rfl⟩:∃ p cap,v=.slice p 0 cap:=by
   rcases h with⟨_,p,cap,e⟩ | ⟨sb,so,cap,e,_⟩
   ·
    exact⟨p,cap,e⟩
   ·
    rw [hne] at e; exact⟨_,_,e⟩
  subst hne;clear h;go_enter Tryz.func48,Tryz.ntmps48
  go_wp2_with fail
  refine wp_loop_rounds 1 ?_;rw [rounds_succ];go_wp2;go_ret;exact⟨by simp,rfl⟩
 ·
  obtain⟨sb,so,cap,rfl,hc⟩:=h.get hne;have HC:=J hc;clear h hc;go_enter Tryz.func48,Tryz.ntmps48
  go_wp2_with fail
  go_loopw [9] (fun j w'=>∃ k:Nat,j=.int .i64 k∧k≤ns.length∧w'=w∧¬ x ∈ ns.take k) (fun j _=>ns.length-(intOf j).toNat)
  case atStart=>exact⟨0,rfl,by omega,rfl,by simp⟩
  case round =>
   obtain⟨k,rfl,hk,rfl,hno⟩:=hrel;have HN:=J hno;clear hno;by_cases hlt:k<ns.length
   ·
    have c:=G HC k hlt;by_cases hx:ns.getD k 0=x
    ·
     rw [hx] at c;have hm:=J (Su hlt hx);clear hx;go_wp2;go_ret;exact⟨by simp [G hm],rfl⟩
    ·
     have HT:=J (Rt hlt (G HN) hx);generalize hy:ns.getD k 0=y at c hx;have z:(y==x)=false:=by simpa using hx
     clear hy;go_wp2;go_roundw
     case rel=>exact⟨k+1,by go_num,by omega,trivial,G HT⟩
     case measure=>simp [intOf]; omega
   ·
    obtain rfl:k=ns.length:=by omega
    have HT:=J (show ¬ x ∈ ns by have:=G HN; rwa [List.take_length] at this);go_wp2;go_ret;exact⟨by simp [G HT],rfl⟩
end Go.Proofs.YteddfaconabobaaGreatDoor
