import Derived.Test.YteddfaconabobaaGreatDoorJ28
import Derived.Test.YteddfaconabobaaGreatDoorCkVa
import Derived.Test.YteddfaconabobaaGreatDoorCkV12
import Derived.Test.YteddfaconabobaaGreatDoorCkV13
import Derived.Test.YteddfaconabobaaGreatDoorCkV17
namespace Go.Proofs.YteddfaconabobaaGreatDoor
open Go.RowKit
theorem Zkl (p:Zl)(f:Zn)(op d a bb n fx:Int)(gs:List (Int×Int))(os:List Int)(last:Bool)(fv ev pv hv sv bv av ov:Value)(A E:Nat→Array Value)(B:Nat→Value)(w:World)(hSC:ScD w p f fv ev pv hv sv bv A E B)(ha:LS 2 w av gs.length (fun k=>Yz (gs.getD k (0,0))))(ho:Li w ov os)(hF:Kh p f)(hFS:Zhu p)(hn:0≤n∧n<18446744073709551616) :
 Calls Tryz.prog 35 #[.agg #[fv,ev],.agg #[pv,.int .i64 f.results,hv,sv,bv],.agg #[.int .i64 op,.int .i64 d,.int .i64 a,.int .i64 bb,.int .u64 n,.int .i64 fx,av,ov],.bool last] w fun e w'=>e=.returned (.bool (Xd p f ⟨op,d,a,bb,n,fx,gs,os⟩ last))∧Below w.heap.size w w':=by
 by_cases h:1≤op∧op≤18∧decide (14≤op)=last
 ·
  obtain⟨h1,h2,hel⟩:=h;by_cases g12:op=12
  ·
   exact Zge p f op d a bb n fx gs os last fv ev pv hv sv bv av ov A E B w hSC ha ho hF hn g12 hel hFS
  by_cases g13:op=13
  ·
   exact Zgf p f op d a bb n fx gs os last fv ev pv hv sv bv av ov A E B w hSC ha ho hF hn g13 hel hFS
  by_cases g17:op=17
  ·
   exact Zgg p f op d a bb n fx gs os last fv ev pv hv sv bv av ov A E B w hSC ha ho hF hn g17 hel hFS
  exact Zhx p f op d a bb n fx gs os last fv ev pv hv sv bv av ov A E B w hSC ha ho hF hn (by omega) hel
 ·
  exact Zhw p f op d a bb n fx gs os last fv ev pv hv sv bv av ov A E B w hSC ha ho hF hn h
end Go.Proofs.YteddfaconabobaaGreatDoor
