import Derived.Test.YtkenknfgeoecbaaGreatDoorJ21
namespace Go.Proofs.YtkenknfgeoecbaaGreatDoor
open Go.RowKit
structure Yey (x:Ol)(a:Int×Int):Prop where
 w0:0<=a.1
 w8:a.1<=8
 f0:0<=a.2
 v:a.1=0->a.2<x.v.length
 s:a.1≠0->a.2<x.s.length∧8*a.1<=(x.s.getD a.2.toNat []).length
end Go.Proofs.YtkenknfgeoecbaaGreatDoor
