import Derived.Test.YteddfaconabobaaGreatDoorJ24
import Derived.Test.YteddfaconabobaaGreatDoorJ16
import Derived.Test.YteddfaconabobaaGreatDoorPk
import Derived.Test.YteddfaconabobaaGreatDoorPkU
import Derived.Deep.RegionHeld3
import Derived.Test.YteddfaconabobaaGreatDoorJ23
namespace Go.Proofs.YteddfaconabobaaGreatDoor
open Go.RowKit
def sU (s:Nat→Value):Nat→Value
 | 16=>undef
 | 19=>undef
 | i=>s i
def Fr (a0 a1 a2 a3 a4 a5 a6 a7 a8 a9 a10 a11 a12:Value)(s:Nat→Value):Act:=⟨List.toArray (a0 :: a1 :: a2 :: a3 :: a4 :: a5 :: a6 :: a7 :: a8 :: a9 :: a10 :: a11 :: a12 :: ((List.range 214).map fun i=>sU s (13+i))),[]⟩
set_option maxRecDepth 100000 in
theorem Xl (a0 a1 a2 a3 a4 a5 a6 a7 a8 a9 a10 a11 a12:Value)(s:Nat→Value):Fr a0 a1 a2 a3 a4 a5 a6 a7 a8 a9 a10 a11 a12 s=⟨List.toArray (a0 :: a1 :: a2 :: a3 :: a4 :: a5 :: a6 :: a7 :: a8 :: a9 :: a10 :: a11 :: a12 :: s 13 :: s 14 :: s 15 :: undef :: s 17 :: s 18 :: undef :: s 20 :: s 21 :: s 22 :: s 23 :: s 24 :: s 25 :: s 26 :: s 27 :: s 28 :: s 29 :: s 30 :: s 31 :: s 32 :: s 33 :: s 34 :: s 35 :: s 36 :: s 37 :: s 38 :: s 39 :: s 40 :: s 41 :: s 42 :: s 43 :: s 44 :: s 45 :: s 46 :: s 47 :: s 48 :: s 49 :: s 50 :: s 51 :: s 52 :: s 53 :: s 54 :: s 55 :: s 56 :: s 57 :: s 58 :: s 59 :: s 60 :: s 61 :: s 62 :: s 63 :: s 64 :: s 65 :: s 66 :: s 67 :: s 68 :: s 69 :: s 70 :: s 71 :: s 72 :: s 73 :: s 74 :: s 75 :: s 76 :: s 77 :: s 78 :: s 79 :: s 80 :: s 81 :: s 82 :: s 83 :: s 84 :: s 85 :: s 86 :: s 87 :: s 88 :: s 89 :: s 90 :: s 91 :: s 92 :: s 93 :: s 94 :: s 95 :: s 96 :: s 97 :: s 98 :: s 99 :: s 100 :: s 101 :: s 102 :: s 103 :: s 104 :: s 105 :: s 106 :: s 107 :: s 108 :: s 109 :: s 110 :: s 111 :: s 112 :: s 113 :: s 114 :: s 115 :: s 116 :: s 117 :: s 118 :: s 119 :: s 120 :: s 121 :: s 122 :: s 123 :: s 124 :: s 125 :: s 126 :: s 127 :: s 128 :: s 129 :: s 130 :: s 131 :: s 132 :: s 133 :: s 134 :: s 135 :: s 136 :: s 137 :: s 138 :: s 139 :: s 140 :: s 141 :: s 142 :: s 143 :: s 144 :: s 145 :: s 146 :: s 147 :: s 148 :: s 149 :: s 150 :: s 151 :: s 152 :: s 153 :: s 154 :: s 155 :: s 156 :: s 157 :: s 158 :: s 159 :: s 160 :: s 161 :: s 162 :: s 163 :: s 164 :: s 165 :: s 166 :: s 167 :: s 168 :: s 169 :: s 170 :: s 171 :: s 172 :: s 173 :: s 174 :: s 175 :: s 176 :: s 177 :: s 178 :: s 179 :: s 180 :: s 181 :: s 182 :: s 183 :: s 184 :: s 185 :: s 186 :: s 187 :: s 188 :: s 189 :: s 190 :: s 191 :: s 192 :: s 193 :: s 194 :: s 195 :: s 196 :: s 197 :: s 198 :: s 199 :: s 200 :: s 201 :: s 202 :: s 203 :: s 204 :: s 205 :: s 206 :: s 207 :: s 208 :: s 209 :: s 210 :: s 211 :: s 212 :: s 213 :: s 214 :: s 215 :: s 216 :: s 217 :: s 218 :: s 219 :: s 220 :: s 221 :: s 222 :: s 223 :: s 224 :: s 225 :: s 226 :: []),[]⟩:=rfl
theorem Zcz (l:List Value)(n:Nat)(h:(l.length,l.getD 3 undef,l.getD 6 undef)=(n,undef,undef)):l=(List.range n).map fun i=>sU (fun j=>l.getD (j-13) undef) (13+i):=by
 injection h with h1 h2;injection h2 with h2 h3;refine List.ext_getElem (by simp [h1]) fun k k1 k2=>?_;simp only [List.getElem_map,List.getElem_range];have hg:l.getD k undef=l[k]:=by simp [List.getD,k1]
 by_cases e3:k=3
 ·
  subst e3;rw [← hg,h2];rfl
 by_cases e6:k=6
 ·
  subst e6;rw [← hg,h3];rfl
 rw [← hg];unfold sU;split
 ·
  omega
 ·
  omega
 ·
  simp
theorem Yy {Q:Act→World→Prop}{a0 a1 a2 a3 a4 a5 a6 a7 a8 a9 a10 a11 a12:Value}{w:World}(h:∀ s,Q (Fr a0 a1 a2 a3 a4 a5 a6 a7 a8 a9 a10 a11 a12 s) w)(l:List Value)(hl:(l.length,l.getD 3 undef,l.getD 6 undef)=(214,undef,undef)):Q ⟨List.toArray (a0 :: a1 :: a2 :: a3 :: a4 :: a5 :: a6 :: a7 :: a8 :: a9 :: a10 :: a11 :: a12 :: l),[]⟩ w:=by
 have:=h (fun i=>l.getD (i-13) undef);unfold Fr at this;rw [← Zcz l 214 hl] at this;exact this
theorem Jf {Q:Act→World→Prop}{a0 a1 a2 a3 a4 a5 a6 a7 a8 a9 a10 a11 a12 v:Value}{w:World}(h:∀ s,s 35=v→Q (Fr a0 a1 a2 a3 a4 a5 a6 a7 a8 a9 a10 a11 a12 s) w)(l:List Value)(hl:(l.length,l.getD 3 undef,l.getD 6 undef)=(214,undef,undef))(hv:l.getD 22 undef=v):Q ⟨List.toArray (a0 :: a1 :: a2 :: a3 :: a4 :: a5 :: a6 :: a7 :: a8 :: a9 :: a10 :: a11 :: a12 :: l),[]⟩ w:=by
 have:=h (fun i=>l.getD (i-13) undef) hv;unfold Fr at this;rw [← Zcz l 214 hl] at this;exact this
def Zpk (n r:Act→World→Prop):Exit→Act→World→Prop
 | .normal,a,w=>n a w
 | .ret,a,w=>r a w
 | _,_,_=>False
theorem Js {P:Program}{c:Code}{Q0:Exit→Act→World→Prop}{a:Act}{w:World}(h:c.wp P (Zpk (Q0 .normal) (Q0 .ret)) a w):c.wp P Q0 a w:=wp_mono h (fun e a w hq=>by
 cases e <;> first | exact hq | exact hq.elim)
def Zda:Code→Code
 | .seq _ b=>b
 | c=>c
def cIn:Code→Code
 | .block _ c=>c
 | .loop c=>c
 | c=>c
def Zpl:Code→Code
 | .cond _ a _=>a
 | c=>c
def Zpm:Code→Code
 | .cond _ _ b=>b
 | c=>c
def swB (f:Func):Code:=Zda (Zda (Zda (Zda (cIn (cIn (cIn (Zda (Zda (f.body.getD .skip)))))))))
def Ml (f:Func):Nat→Code
 | 0=>cIn (swB f)
 | n+1=>Zpm (Zda (Ml f n))
def Dd (f:Func)(n:Nat):Code:=Zpl (Zda (Ml f n))
set_option maxHeartbeats 4000000 in
set_option maxRecDepth 100000 in
theorem Zqd {op:Int}{a0 a1 a2 a3 a4 a5 a6 a7 a8 a9 a10 a11 a12:Value}{s:Nat→Value}{w:World}{Q0:Exit→Act→World→Prop}(hs:s 35=.int .i64 op)(ho:(op==(1:Int))=false)(h:(∀ s',s' 35=.int .i64 op→Code.wp Tryz.prog (Ml Tryz.f37 1) Q0 (Fr a0 a1 a2 a3 a4 a5 a6 a7 a8 a9 a10 a11 a12 s') w)):Code.wp Tryz.prog (Ml Tryz.f37 0) Q0 (Fr a0 a1 a2 a3 a4 a5 a6 a7 a8 a9 a10 a11 a12 s) w:=by
 rw [Xl,hs];have H:=J h;clear h hs;conv=>arg 2; whnf
 refine wp_seq_k fun K hK=>?_;have HK:=J hK;clear hK;go_wp2_with fail
 refine G HK _ _ (wp_cond_false rfl ?_);refine Jf (Q:=fun a w=>Code.wp Tryz.prog (Ml Tryz.f37 1) Q0 a w) (G H) _ ?_ ?_ <;> rfl
set_option maxHeartbeats 4000000 in
set_option maxRecDepth 100000 in
theorem Zqe {a0 a1 a2 a3 a4 a5 a6 a7 a8 a9 a10 a11 a12:Value}{s:Nat→Value}{w:World}{Q0:Exit→Act→World→Prop}(hs:s 35=.int .i64 1)  (h:(∀ s',Code.wp Tryz.prog (Dd Tryz.f37 0) Q0 (Fr a0 a1 a2 a3 a4 a5 a6 a7 a8 a9 a10 a11 a12 s') w)):Code.wp Tryz.prog (Ml Tryz.f37 0) Q0 (Fr a0 a1 a2 a3 a4 a5 a6 a7 a8 a9 a10 a11 a12 s) w:=by
 rw [Xl,hs];have H:=J h;clear h hs;conv=>arg 2; whnf
 refine wp_seq_k fun K hK=>?_;have HK:=J hK;clear hK;go_wp2_with fail
 refine G HK _ _ (wp_cond_true rfl ?_);refine Yy (Q:=fun a w=>Code.wp Tryz.prog (Dd Tryz.f37 0) Q0 a w) (G H) _ ?_; rfl
set_option maxHeartbeats 4000000 in
set_option maxRecDepth 100000 in
theorem Zqf {op:Int}{a0 a1 a2 a3 a4 a5 a6 a7 a8 a9 a10 a11 a12:Value}{s:Nat→Value}{w:World}{Q0:Exit→Act→World→Prop}(hs:s 35=.int .i64 op)(ho:(op==(2:Int))=false)(h:(∀ s',s' 35=.int .i64 op→Code.wp Tryz.prog (Ml Tryz.f37 2) Q0 (Fr a0 a1 a2 a3 a4 a5 a6 a7 a8 a9 a10 a11 a12 s') w)):Code.wp Tryz.prog (Ml Tryz.f37 1) Q0 (Fr a0 a1 a2 a3 a4 a5 a6 a7 a8 a9 a10 a11 a12 s) w:=by
 rw [Xl,hs];have H:=J h;clear h hs;conv=>arg 2; whnf
 refine wp_seq_k fun K hK=>?_;have HK:=J hK;clear hK;go_wp2_with fail
 refine G HK _ _ (wp_cond_false rfl ?_);refine Jf (Q:=fun a w=>Code.wp Tryz.prog (Ml Tryz.f37 2) Q0 a w) (G H) _ ?_ ?_ <;> rfl
set_option maxHeartbeats 4000000 in
set_option maxRecDepth 100000 in
theorem Zqg {a0 a1 a2 a3 a4 a5 a6 a7 a8 a9 a10 a11 a12:Value}{s:Nat→Value}{w:World}{Q0:Exit→Act→World→Prop}(hs:s 35=.int .i64 2)  (h:(∀ s',Code.wp Tryz.prog (Dd Tryz.f37 1) Q0 (Fr a0 a1 a2 a3 a4 a5 a6 a7 a8 a9 a10 a11 a12 s') w)):Code.wp Tryz.prog (Ml Tryz.f37 1) Q0 (Fr a0 a1 a2 a3 a4 a5 a6 a7 a8 a9 a10 a11 a12 s) w:=by
 rw [Xl,hs];have H:=J h;clear h hs;conv=>arg 2; whnf
 refine wp_seq_k fun K hK=>?_;have HK:=J hK;clear hK;go_wp2_with fail
 refine G HK _ _ (wp_cond_true rfl ?_);refine Yy (Q:=fun a w=>Code.wp Tryz.prog (Dd Tryz.f37 1) Q0 a w) (G H) _ ?_; rfl
set_option maxHeartbeats 4000000 in
set_option maxRecDepth 100000 in
theorem Zqh {op:Int}{a0 a1 a2 a3 a4 a5 a6 a7 a8 a9 a10 a11 a12:Value}{s:Nat→Value}{w:World}{Q0:Exit→Act→World→Prop}(hs:s 35=.int .i64 op)(ho:(op==(10:Int))=false)(h:(∀ s',s' 35=.int .i64 op→Code.wp Tryz.prog (Ml Tryz.f37 3) Q0 (Fr a0 a1 a2 a3 a4 a5 a6 a7 a8 a9 a10 a11 a12 s') w)):Code.wp Tryz.prog (Ml Tryz.f37 2) Q0 (Fr a0 a1 a2 a3 a4 a5 a6 a7 a8 a9 a10 a11 a12 s) w:=by
 rw [Xl,hs];have H:=J h;clear h hs;conv=>arg 2; whnf
 refine wp_seq_k fun K hK=>?_;have HK:=J hK;clear hK;go_wp2_with fail
 refine G HK _ _ (wp_cond_false rfl ?_);refine Jf (Q:=fun a w=>Code.wp Tryz.prog (Ml Tryz.f37 3) Q0 a w) (G H) _ ?_ ?_ <;> rfl
set_option maxHeartbeats 4000000 in
set_option maxRecDepth 100000 in
theorem Zqi {a0 a1 a2 a3 a4 a5 a6 a7 a8 a9 a10 a11 a12:Value}{s:Nat→Value}{w:World}{Q0:Exit→Act→World→Prop}(hs:s 35=.int .i64 10)  (h:(∀ s',Code.wp Tryz.prog (Dd Tryz.f37 2) Q0 (Fr a0 a1 a2 a3 a4 a5 a6 a7 a8 a9 a10 a11 a12 s') w)):Code.wp Tryz.prog (Ml Tryz.f37 2) Q0 (Fr a0 a1 a2 a3 a4 a5 a6 a7 a8 a9 a10 a11 a12 s) w:=by
 rw [Xl,hs];have H:=J h;clear h hs;conv=>arg 2; whnf
 refine wp_seq_k fun K hK=>?_;have HK:=J hK;clear hK;go_wp2_with fail
 refine G HK _ _ (wp_cond_true rfl ?_);refine Yy (Q:=fun a w=>Code.wp Tryz.prog (Dd Tryz.f37 2) Q0 a w) (G H) _ ?_; rfl
set_option maxHeartbeats 4000000 in
set_option maxRecDepth 100000 in
theorem Zqj {op:Int}{a0 a1 a2 a3 a4 a5 a6 a7 a8 a9 a10 a11 a12:Value}{s:Nat→Value}{w:World}{Q0:Exit→Act→World→Prop}(hs:s 35=.int .i64 op)(ho:(op==(11:Int))=false)(h:(∀ s',s' 35=.int .i64 op→Code.wp Tryz.prog (Ml Tryz.f37 4) Q0 (Fr a0 a1 a2 a3 a4 a5 a6 a7 a8 a9 a10 a11 a12 s') w)):Code.wp Tryz.prog (Ml Tryz.f37 3) Q0 (Fr a0 a1 a2 a3 a4 a5 a6 a7 a8 a9 a10 a11 a12 s) w:=by
 rw [Xl,hs];have H:=J h;clear h hs;conv=>arg 2; whnf
 refine wp_seq_k fun K hK=>?_;have HK:=J hK;clear hK;go_wp2_with fail
 refine G HK _ _ (wp_cond_false rfl ?_);refine Jf (Q:=fun a w=>Code.wp Tryz.prog (Ml Tryz.f37 4) Q0 a w) (G H) _ ?_ ?_ <;> rfl
set_option maxHeartbeats 4000000 in
set_option maxRecDepth 100000 in
theorem Zqk {a0 a1 a2 a3 a4 a5 a6 a7 a8 a9 a10 a11 a12:Value}{s:Nat→Value}{w:World}{Q0:Exit→Act→World→Prop}(hs:s 35=.int .i64 11)  (h:(∀ s',Code.wp Tryz.prog (Dd Tryz.f37 3) Q0 (Fr a0 a1 a2 a3 a4 a5 a6 a7 a8 a9 a10 a11 a12 s') w)):Code.wp Tryz.prog (Ml Tryz.f37 3) Q0 (Fr a0 a1 a2 a3 a4 a5 a6 a7 a8 a9 a10 a11 a12 s) w:=by
 rw [Xl,hs];have H:=J h;clear h hs;conv=>arg 2; whnf
 refine wp_seq_k fun K hK=>?_;have HK:=J hK;clear hK;go_wp2_with fail
 refine G HK _ _ (wp_cond_true rfl ?_);refine Yy (Q:=fun a w=>Code.wp Tryz.prog (Dd Tryz.f37 3) Q0 a w) (G H) _ ?_; rfl
set_option maxHeartbeats 4000000 in
set_option maxRecDepth 100000 in
theorem Zql {op:Int}{a0 a1 a2 a3 a4 a5 a6 a7 a8 a9 a10 a11 a12:Value}{s:Nat→Value}{w:World}{Q0:Exit→Act→World→Prop}(hs:s 35=.int .i64 op)(ho:(op==(12:Int))=false)(h:(∀ s',s' 35=.int .i64 op→Code.wp Tryz.prog (Ml Tryz.f37 5) Q0 (Fr a0 a1 a2 a3 a4 a5 a6 a7 a8 a9 a10 a11 a12 s') w)):Code.wp Tryz.prog (Ml Tryz.f37 4) Q0 (Fr a0 a1 a2 a3 a4 a5 a6 a7 a8 a9 a10 a11 a12 s) w:=by
 rw [Xl,hs];have H:=J h;clear h hs;conv=>arg 2; whnf
 refine wp_seq_k fun K hK=>?_;have HK:=J hK;clear hK;go_wp2_with fail
 refine G HK _ _ (wp_cond_false rfl ?_);refine Jf (Q:=fun a w=>Code.wp Tryz.prog (Ml Tryz.f37 5) Q0 a w) (G H) _ ?_ ?_ <;> rfl
set_option maxHeartbeats 4000000 in
set_option maxRecDepth 100000 in
theorem Zqm {a0 a1 a2 a3 a4 a5 a6 a7 a8 a9 a10 a11 a12:Value}{s:Nat→Value}{w:World}{Q0:Exit→Act→World→Prop}(hs:s 35=.int .i64 12)  (h:(∀ s',Code.wp Tryz.prog (Dd Tryz.f37 4) Q0 (Fr a0 a1 a2 a3 a4 a5 a6 a7 a8 a9 a10 a11 a12 s') w)):Code.wp Tryz.prog (Ml Tryz.f37 4) Q0 (Fr a0 a1 a2 a3 a4 a5 a6 a7 a8 a9 a10 a11 a12 s) w:=by
 rw [Xl,hs];have H:=J h;clear h hs;conv=>arg 2; whnf
 refine wp_seq_k fun K hK=>?_;have HK:=J hK;clear hK;go_wp2_with fail
 refine G HK _ _ (wp_cond_true rfl ?_);refine Yy (Q:=fun a w=>Code.wp Tryz.prog (Dd Tryz.f37 4) Q0 a w) (G H) _ ?_; rfl
set_option maxHeartbeats 4000000 in
set_option maxRecDepth 100000 in
theorem Zqn {op:Int}{a0 a1 a2 a3 a4 a5 a6 a7 a8 a9 a10 a11 a12:Value}{s:Nat→Value}{w:World}{Q0:Exit→Act→World→Prop}(hs:s 35=.int .i64 op)(ho:(op==(13:Int))=false)(h:(∀ s',s' 35=.int .i64 op→Code.wp Tryz.prog (Ml Tryz.f37 6) Q0 (Fr a0 a1 a2 a3 a4 a5 a6 a7 a8 a9 a10 a11 a12 s') w)):Code.wp Tryz.prog (Ml Tryz.f37 5) Q0 (Fr a0 a1 a2 a3 a4 a5 a6 a7 a8 a9 a10 a11 a12 s) w:=by
 rw [Xl,hs];have H:=J h;clear h hs;conv=>arg 2; whnf
 refine wp_seq_k fun K hK=>?_;have HK:=J hK;clear hK;go_wp2_with fail
 refine G HK _ _ (wp_cond_false rfl ?_);refine Jf (Q:=fun a w=>Code.wp Tryz.prog (Ml Tryz.f37 6) Q0 a w) (G H) _ ?_ ?_ <;> rfl
set_option maxHeartbeats 4000000 in
set_option maxRecDepth 100000 in
theorem Zqo {a0 a1 a2 a3 a4 a5 a6 a7 a8 a9 a10 a11 a12:Value}{s:Nat→Value}{w:World}{Q0:Exit→Act→World→Prop}(hs:s 35=.int .i64 13)  (h:(∀ s',Code.wp Tryz.prog (Dd Tryz.f37 5) Q0 (Fr a0 a1 a2 a3 a4 a5 a6 a7 a8 a9 a10 a11 a12 s') w)):Code.wp Tryz.prog (Ml Tryz.f37 5) Q0 (Fr a0 a1 a2 a3 a4 a5 a6 a7 a8 a9 a10 a11 a12 s) w:=by
 rw [Xl,hs];have H:=J h;clear h hs;conv=>arg 2; whnf
 refine wp_seq_k fun K hK=>?_;have HK:=J hK;clear hK;go_wp2_with fail
 refine G HK _ _ (wp_cond_true rfl ?_);refine Yy (Q:=fun a w=>Code.wp Tryz.prog (Dd Tryz.f37 5) Q0 a w) (G H) _ ?_; rfl
set_option maxHeartbeats 4000000 in
set_option maxRecDepth 100000 in
theorem Zqp {op:Int}{a0 a1 a2 a3 a4 a5 a6 a7 a8 a9 a10 a11 a12:Value}{s:Nat→Value}{w:World}{Q0:Exit→Act→World→Prop}(hs:s 35=.int .i64 op)(ho:(op==(14:Int))=false)(h:(∀ s',s' 35=.int .i64 op→Code.wp Tryz.prog (Ml Tryz.f37 7) Q0 (Fr a0 a1 a2 a3 a4 a5 a6 a7 a8 a9 a10 a11 a12 s') w)):Code.wp Tryz.prog (Ml Tryz.f37 6) Q0 (Fr a0 a1 a2 a3 a4 a5 a6 a7 a8 a9 a10 a11 a12 s) w:=by
 rw [Xl,hs];have H:=J h;clear h hs;conv=>arg 2; whnf
 refine wp_seq_k fun K hK=>?_;have HK:=J hK;clear hK;go_wp2_with fail
 refine G HK _ _ (wp_cond_false rfl ?_);refine Jf (Q:=fun a w=>Code.wp Tryz.prog (Ml Tryz.f37 7) Q0 a w) (G H) _ ?_ ?_ <;> rfl
set_option maxHeartbeats 4000000 in
set_option maxRecDepth 100000 in
theorem Zqq {a0 a1 a2 a3 a4 a5 a6 a7 a8 a9 a10 a11 a12:Value}{s:Nat→Value}{w:World}{Q0:Exit→Act→World→Prop}(hs:s 35=.int .i64 14)  (h:(∀ s',Code.wp Tryz.prog (Dd Tryz.f37 6) Q0 (Fr a0 a1 a2 a3 a4 a5 a6 a7 a8 a9 a10 a11 a12 s') w)):Code.wp Tryz.prog (Ml Tryz.f37 6) Q0 (Fr a0 a1 a2 a3 a4 a5 a6 a7 a8 a9 a10 a11 a12 s) w:=by
 rw [Xl,hs];have H:=J h;clear h hs;conv=>arg 2; whnf
 refine wp_seq_k fun K hK=>?_;have HK:=J hK;clear hK;go_wp2_with fail
 refine G HK _ _ (wp_cond_true rfl ?_);refine Yy (Q:=fun a w=>Code.wp Tryz.prog (Dd Tryz.f37 6) Q0 a w) (G H) _ ?_; rfl
set_option maxHeartbeats 4000000 in
set_option maxRecDepth 100000 in
theorem Zqr {op:Int}{a0 a1 a2 a3 a4 a5 a6 a7 a8 a9 a10 a11 a12:Value}{s:Nat→Value}{w:World}{Q0:Exit→Act→World→Prop}(hs:s 35=.int .i64 op)(ho:(op==(15:Int))=false)(h:(∀ s',s' 35=.int .i64 op→Code.wp Tryz.prog (Ml Tryz.f37 8) Q0 (Fr a0 a1 a2 a3 a4 a5 a6 a7 a8 a9 a10 a11 a12 s') w)):Code.wp Tryz.prog (Ml Tryz.f37 7) Q0 (Fr a0 a1 a2 a3 a4 a5 a6 a7 a8 a9 a10 a11 a12 s) w:=by
 rw [Xl,hs];have H:=J h;clear h hs;conv=>arg 2; whnf
 refine wp_seq_k fun K hK=>?_;have HK:=J hK;clear hK;go_wp2_with fail
 refine G HK _ _ (wp_cond_false rfl ?_);refine Jf (Q:=fun a w=>Code.wp Tryz.prog (Ml Tryz.f37 8) Q0 a w) (G H) _ ?_ ?_ <;> rfl
set_option maxHeartbeats 4000000 in
set_option maxRecDepth 100000 in
theorem Zqs {a0 a1 a2 a3 a4 a5 a6 a7 a8 a9 a10 a11 a12:Value}{s:Nat→Value}{w:World}{Q0:Exit→Act→World→Prop}(hs:s 35=.int .i64 15)  (h:(∀ s',Code.wp Tryz.prog (Dd Tryz.f37 7) Q0 (Fr a0 a1 a2 a3 a4 a5 a6 a7 a8 a9 a10 a11 a12 s') w)):Code.wp Tryz.prog (Ml Tryz.f37 7) Q0 (Fr a0 a1 a2 a3 a4 a5 a6 a7 a8 a9 a10 a11 a12 s) w:=by
 rw [Xl,hs];have H:=J h;clear h hs;conv=>arg 2; whnf
 refine wp_seq_k fun K hK=>?_;have HK:=J hK;clear hK;go_wp2_with fail
 refine G HK _ _ (wp_cond_true rfl ?_);refine Yy (Q:=fun a w=>Code.wp Tryz.prog (Dd Tryz.f37 7) Q0 a w) (G H) _ ?_; rfl
set_option maxHeartbeats 4000000 in
set_option maxRecDepth 100000 in
theorem Zqt {op:Int}{a0 a1 a2 a3 a4 a5 a6 a7 a8 a9 a10 a11 a12:Value}{s:Nat→Value}{w:World}{Q0:Exit→Act→World→Prop}(hs:s 35=.int .i64 op)(ho:(op==(16:Int))=false)(h:(∀ s',s' 35=.int .i64 op→Code.wp Tryz.prog (Ml Tryz.f37 9) Q0 (Fr a0 a1 a2 a3 a4 a5 a6 a7 a8 a9 a10 a11 a12 s') w)):Code.wp Tryz.prog (Ml Tryz.f37 8) Q0 (Fr a0 a1 a2 a3 a4 a5 a6 a7 a8 a9 a10 a11 a12 s) w:=by
 rw [Xl,hs];have H:=J h;clear h hs;conv=>arg 2; whnf
 refine wp_seq_k fun K hK=>?_;have HK:=J hK;clear hK;go_wp2_with fail
 refine G HK _ _ (wp_cond_false rfl ?_);refine Jf (Q:=fun a w=>Code.wp Tryz.prog (Ml Tryz.f37 9) Q0 a w) (G H) _ ?_ ?_ <;> rfl
set_option maxHeartbeats 4000000 in
set_option maxRecDepth 100000 in
theorem Zqu {a0 a1 a2 a3 a4 a5 a6 a7 a8 a9 a10 a11 a12:Value}{s:Nat→Value}{w:World}{Q0:Exit→Act→World→Prop}(hs:s 35=.int .i64 16)  (h:(∀ s',Code.wp Tryz.prog (Dd Tryz.f37 8) Q0 (Fr a0 a1 a2 a3 a4 a5 a6 a7 a8 a9 a10 a11 a12 s') w)):Code.wp Tryz.prog (Ml Tryz.f37 8) Q0 (Fr a0 a1 a2 a3 a4 a5 a6 a7 a8 a9 a10 a11 a12 s) w:=by
 rw [Xl,hs];have H:=J h;clear h hs;conv=>arg 2; whnf
 refine wp_seq_k fun K hK=>?_;have HK:=J hK;clear hK;go_wp2_with fail
 refine G HK _ _ (wp_cond_true rfl ?_);refine Yy (Q:=fun a w=>Code.wp Tryz.prog (Dd Tryz.f37 8) Q0 a w) (G H) _ ?_; rfl
set_option maxHeartbeats 4000000 in
set_option maxRecDepth 100000 in
theorem Zqv {op:Int}{a0 a1 a2 a3 a4 a5 a6 a7 a8 a9 a10 a11 a12:Value}{s:Nat→Value}{w:World}{Q0:Exit→Act→World→Prop}(hs:s 35=.int .i64 op)(ho:(op==(17:Int))=false)(h:(∀ s',s' 35=.int .i64 op→Code.wp Tryz.prog (Ml Tryz.f37 10) Q0 (Fr a0 a1 a2 a3 a4 a5 a6 a7 a8 a9 a10 a11 a12 s') w)):Code.wp Tryz.prog (Ml Tryz.f37 9) Q0 (Fr a0 a1 a2 a3 a4 a5 a6 a7 a8 a9 a10 a11 a12 s) w:=by
 rw [Xl,hs];have H:=J h;clear h hs;conv=>arg 2; whnf
 refine wp_seq_k fun K hK=>?_;have HK:=J hK;clear hK;go_wp2_with fail
 refine G HK _ _ (wp_cond_false rfl ?_);refine Jf (Q:=fun a w=>Code.wp Tryz.prog (Ml Tryz.f37 10) Q0 a w) (G H) _ ?_ ?_ <;> rfl
set_option maxHeartbeats 4000000 in
set_option maxRecDepth 100000 in
theorem Zqw {a0 a1 a2 a3 a4 a5 a6 a7 a8 a9 a10 a11 a12:Value}{s:Nat→Value}{w:World}{Q0:Exit→Act→World→Prop}(hs:s 35=.int .i64 17)  (h:(∀ s',Code.wp Tryz.prog (Dd Tryz.f37 9) Q0 (Fr a0 a1 a2 a3 a4 a5 a6 a7 a8 a9 a10 a11 a12 s') w)):Code.wp Tryz.prog (Ml Tryz.f37 9) Q0 (Fr a0 a1 a2 a3 a4 a5 a6 a7 a8 a9 a10 a11 a12 s) w:=by
 rw [Xl,hs];have H:=J h;clear h hs;conv=>arg 2; whnf
 refine wp_seq_k fun K hK=>?_;have HK:=J hK;clear hK;go_wp2_with fail
 refine G HK _ _ (wp_cond_true rfl ?_);refine Yy (Q:=fun a w=>Code.wp Tryz.prog (Dd Tryz.f37 9) Q0 a w) (G H) _ ?_; rfl
set_option maxHeartbeats 4000000 in
set_option maxRecDepth 100000 in
theorem Zpn {op:Int}{a0 a1 a2 a3 a4 a5 a6 a7 a8 a9 a10 a11 a12:Value}{s:Nat→Value}{w:World}{Q0:Exit→Act→World→Prop}(hs:s 35=.int .i64 op)(ho:(op==(18:Int))=false)(h:(∀ s',s' 35=.int .i64 op→Code.wp Tryz.prog (Ml Tryz.f37 11) Q0 (Fr a0 a1 a2 a3 a4 a5 a6 a7 a8 a9 a10 a11 a12 s') w)):Code.wp Tryz.prog (Ml Tryz.f37 10) Q0 (Fr a0 a1 a2 a3 a4 a5 a6 a7 a8 a9 a10 a11 a12 s) w:=by
 rw [Xl,hs];have H:=J h;clear h hs;conv=>arg 2; whnf
 refine wp_seq_k fun K hK=>?_;have HK:=J hK;clear hK;go_wp2_with fail
 refine G HK _ _ (wp_cond_false rfl ?_);refine Jf (Q:=fun a w=>Code.wp Tryz.prog (Ml Tryz.f37 11) Q0 a w) (G H) _ ?_ ?_ <;> rfl
set_option maxHeartbeats 4000000 in
set_option maxRecDepth 100000 in
theorem Zpo {a0 a1 a2 a3 a4 a5 a6 a7 a8 a9 a10 a11 a12:Value}{s:Nat→Value}{w:World}{Q0:Exit→Act→World→Prop}(hs:s 35=.int .i64 18)  (h:(∀ s',Code.wp Tryz.prog (Dd Tryz.f37 10) Q0 (Fr a0 a1 a2 a3 a4 a5 a6 a7 a8 a9 a10 a11 a12 s') w)):Code.wp Tryz.prog (Ml Tryz.f37 10) Q0 (Fr a0 a1 a2 a3 a4 a5 a6 a7 a8 a9 a10 a11 a12 s) w:=by
 rw [Xl,hs];have H:=J h;clear h hs;conv=>arg 2; whnf
 refine wp_seq_k fun K hK=>?_;have HK:=J hK;clear hK;go_wp2_with fail
 refine G HK _ _ (wp_cond_true rfl ?_);refine Yy (Q:=fun a w=>Code.wp Tryz.prog (Dd Tryz.f37 10) Q0 a w) (G H) _ ?_; rfl
def ExN (P:Zl)(w0 W:World)(pb b vb sb fbx ib:Nat)(gs:List Nat)(N:Nat→Prop)(fv xv:Value)(F:Nat)(fn:Zn)(box:Array Value)(r0:Zy)(o:List Int)(m:Nat)(Q0:Exit→Act→World→Prop)(a1 a4 a6 a7 a8 a9:Value):Prop :=
 ∀(m':Nat) (X:Xk) (V5:World) (sc:List Int) (tr:List (Int×List Int)) (es:List Value) (sp tp:Option Addr) (scc tc:Nat) (fnn:Int) (s:Nat→Value),m'≤m→Sg P w0 W V5 pb b vb sb fbx gs N fv xv F fn box r0 o m' m' X sc tr es sp tp scc tc fnn→Q0 .normal (Fr (.pointer (some ⟨pb,0,none⟩)) a1 (.slice (some ⟨vb,0,none⟩) fn.homes.length fn.homes.length) (.slice (some ⟨sb,0,none⟩) fn.slots.length fn.slots.length) a4 (.pointer (some ⟨fbx,0,none⟩)) a6 a7 a8 a9 (.int .i64 X.b) (.int .i64 X.i) (.pointer (some ⟨ib,0,none⟩)) s) V5
def Ox (P:Zl)(w0 w':World)(pb b B:Nat)(N:Nat→Prop)(fv xv:Value)(F n:Nat)(fn:Zn)(o:List Int)(lv:Value)(again:Bool)(r0:Zy):Prop :=
 (again=true∧∃(k m:Nat) (ws sc:List Int) (tr:List (Int×List Int)) (es:List Value) (sp tp:Option Addr) (scc tc:Nat),k<P.funcs.length∧m<n∧m≤F∧(P.funcs.getD k Ze).results=fn.results∧ws.length=Xe (P.funcs.getD k Ze).params∧(∀ n ∈ ws,0≤n∧n<18446744073709551616)∧w'.ownsRow B 62 1 lv ws.length (uC ws)∧r0=ev P m [Jj (P.funcs.getD k Ze) ws o] sc tr∧Nt w0 w' pb b N fv xv F ((F-m:Nat):Int) (.slice sp sc.length scc) sc 0 0 (.slice tp tr.length tc) tr es k∧tr.length≤F-m)∨(again=false∧Uy w0 w' pb b B N fv xv F fn.results lv r0)
def ExR (P:Zl)(w0 W:World)(pb b vb B:Nat)(gs:List Nat)(N:Nat→Prop)(fv xv:Value)(F n:Nat)(fn:Zn)(r0:Zy)(o:List Int)(Q0:Exit→Act→World→Prop):Prop :=
 ∀(lp:Option Addr) (ln lc:Nat) (again:Bool) (V5:World) (a0 a1 a2 a3 a4 a5 a6 a7 a10 a11 a12:Value) (s:Nat→Value),Ox P w0 V5 pb b B N fv xv F n fn o (.slice lp ln lc) again r0→Xj b pb (fun g=>g=vb∨g ∈ gs) W V5→Q0 .ret (Fr a0 a1 a2 a3 a4 a5 a6 a7 (.slice lp ln lc) (.bool again) a10 a11 a12 s) V5
set_option maxHeartbeats 4000000 in
set_option maxRecDepth 100000 in
theorem Zjn {P:Zl}{w0 W V:World}{pb b vb sb fbx ib:Nat}{gs:List Nat}{N:Nat→Prop}{fv xv:Value}{F:Nat}{fn:Zn}{box:Array Value}{r0:Zy}{o:List Int}{m:Nat}{x:Xk}{sc:List Int}{tr:List (Int×List Int)}{es:List Value}{sp tp:Option Addr}{scc tc:Nat}{fnn:Int}{Q0:Exit→Act→World→Prop}{a1 a4 a6 a7 a8 a9:Value}{s:Nat→Value}{d a bb n f_:Int}{args:List (Int×Int)}{outs:List Int}{xap xop:Option Addr}{xac xoc:Nat}(hG:Yp P)(hNv:¬ N vb)(hB:Sg P w0 W V pb b vb sb fbx gs N fv xv F fn box r0 o m (m+1) x sc tr es sp tp scc tc fnn)(hi:Zo x=⟨1,d,a,bb,n,f_,args,outs⟩)(hX:V.heap[ib]?=some (.cells #[.int .i64 1,.int .i64 d,.int .i64 a,.int .i64 bb,.int .u64 n,.int .i64 f_,.slice xap args.length xac,.slice xop outs.length xoc] 65 (0,0)))(hex:ExN P w0 W pb b vb sb fbx ib gs N fv xv F fn box r0 o m Q0 a1 a4 a6 a7 a8 a9) :
 Code.wp Tryz.prog (Dd Tryz.f37 0) Q0 (Fr (.pointer (some ⟨pb,0,none⟩)) a1 (.slice (some ⟨vb,0,none⟩) fn.homes.length fn.homes.length) (.slice (some ⟨sb,0,none⟩) fn.slots.length fn.slots.length) a4 (.pointer (some ⟨fbx,0,none⟩)) a6 a7 a8 a9 (.int .i64 x.b) (.int .i64 (x.i+1)) (.pointer (some ⟨ib,0,none⟩)) s) V:=by
 have hfl:=(hB.1.2.1.insG hG).fld;have hfn:=hB.1.1;have hvl:x.v.length=fn.homes.length:=by rw [hB.1.2.1.v,hfn]
 have hsl:x.s.length=fn.slots.length:=by rw [hB.1.2.1.slen,hfn]
 have hRF:=hB.2.1;rw [hi] at hfl;rw [hfn] at hfl;have HEX:=J hex;have HX:=J hX;have hfd:=Uc hfl (Or.inl (by simp only; decide));simp only at hfd;obtain⟨dd,rfl⟩:=Int.eq_ofNat_of_zero_le hfd.1;have hdI:(dd:Int)<(fn.homes.length:Int):=hfd.2;have hdv:dd<x.v.length:=by rw [hvl]; omega
 have g0:=hRF.loc hdv;have z0:=frozen_of_row _ _ dd _ _ hRF.v;clear hfd;have o1:=cR (G HX) 1;have o4:=cR (G HX) 4;have HB5:=J (hB.loc hG hNv (X:={ Zp x with v:=x.v.set dd n }) (by rw [hi]; unfold Ld; simp [Zp]) (by rw [hi]; show(1:Int)≠12; decide) (by rw [hi]; show(1:Int)≠13; decide) (by rw [hi]; show(1:Int)<16; decide) (V':=V.setCell ⟨vb,dd,none⟩ (.int .u64 n)) ((hRF.nx x.b (x.i+1)).setv dd n) rfl rfl rfl (by simp) (fun q _ h1 _=>heap_setCell_other _ _ _ _ h1));generalize x.v.getD dd 0=yd at g0;clear hB hi hX hG hNv hRF hex hfl hfn;rw [Xl];refine Js ?_;conv=>arg 2; whnf
 go_wp2_with fail
 refine Yy (Q:=Q0 .normal) (fun s'=>G HEX m _ _ _ _ _ _ _ _ _ _ s' (Nat.le_refl _) (G HB5)) _ ?_;rfl
set_option maxHeartbeats 4000000 in
set_option maxRecDepth 100000 in
theorem Zlr {P:Zl}{w0 W V:World}{pb b vb sb fbx ib:Nat}{gs:List Nat}{N:Nat→Prop}{fv xv:Value}{F:Nat}{fn:Zn}{box:Array Value}{r0:Zy}{o:List Int}{m:Nat}{x:Xk}{sc:List Int}{tr:List (Int×List Int)}{es:List Value}{sp tp:Option Addr}{scc tc:Nat}{fnn:Int}{Q0:Exit→Act→World→Prop}{a1 a4 a6 a7 a8 a9:Value}{s:Nat→Value}{d a bb n f_:Int}{args:List (Int×Int)}{outs:List Int}{xap xop:Option Addr}{xac xoc:Nat}(hG:Yp P)(hNv:¬ N vb)(hB:Sg P w0 W V pb b vb sb fbx gs N fv xv F fn box r0 o m (m+1) x sc tr es sp tp scc tc fnn)(hi:Zo x=⟨14,d,a,bb,n,f_,args,outs⟩)(hX:V.heap[ib]?=some (.cells #[.int .i64 14,.int .i64 d,.int .i64 a,.int .i64 bb,.int .u64 n,.int .i64 f_,.slice xap args.length xac,.slice xop outs.length xoc] 65 (0,0)))(hex:ExN P w0 W pb b vb sb fbx ib gs N fv xv F fn box r0 o m Q0 a1 a4 a6 a7 a8 a9) :
 Code.wp Tryz.prog (Dd Tryz.f37 6) Q0 (Fr (.pointer (some ⟨pb,0,none⟩)) a1 (.slice (some ⟨vb,0,none⟩) fn.homes.length fn.homes.length) (.slice (some ⟨sb,0,none⟩) fn.slots.length fn.slots.length) a4 (.pointer (some ⟨fbx,0,none⟩)) a6 a7 a8 a9 (.int .i64 x.b) (.int .i64 (x.i+1)) (.pointer (some ⟨ib,0,none⟩)) s) V:=by
 have hfl:=(hB.1.2.1.insG hG).fld;have hfn:=hB.1.1;have hvl:x.v.length=fn.homes.length:=by rw [hB.1.2.1.v,hfn]
 have hsl:x.s.length=fn.slots.length:=by rw [hB.1.2.1.slen,hfn]
 have hRF:=hB.2.1;rw [hi] at hfl;rw [hfn] at hfl;have HEX:=J hex;have HX:=J hX;have hfa:=Ca hfl (Or.inl rfl);simp only at hfa;have o2:=cR (G HX) 2;have HB5:=J (hB.loc hG hNv (X:={ x with b:=a,i:=0 }) (by rw [hi]; unfold Ld; simp [Zp]) (by rw [hi]; show(14:Int)≠12; decide) (by rw [hi]; show(14:Int)≠13; decide) (by rw [hi]; show(14:Int)<16; decide) (V':=V) (hRF.nx a 0) rfl rfl rfl (Nat.le_refl _) (fun _ _ _ _=>rfl));clear hB hi hX hG hNv hRF hex hfl hfa hfn;rw [Xl];refine Js ?_;conv=>arg 2; whnf
 go_wp2_with fail
 refine Yy (Q:=Q0 .normal) (fun s'=>G HEX m _ _ _ _ _ _ _ _ _ _ s' (Nat.le_refl _) (G HB5)) _ ?_;rfl
set_option maxHeartbeats 4000000 in
set_option maxRecDepth 100000 in
theorem Zls {P:Zl}{w0 W V:World}{pb b vb sb fbx ib:Nat}{gs:List Nat}{N:Nat→Prop}{fv xv:Value}{F:Nat}{fn:Zn}{box:Array Value}{r0:Zy}{o:List Int}{m:Nat}{x:Xk}{sc:List Int}{tr:List (Int×List Int)}{es:List Value}{sp tp:Option Addr}{scc tc:Nat}{fnn:Int}{Q0:Exit→Act→World→Prop}{a1 a4 a6 a7 a8 a9:Value}{s:Nat→Value}{d a bb n f_:Int}{args:List (Int×Int)}{outs:List Int}{xap xop:Option Addr}{xac xoc:Nat}(hG:Yp P)(hNv:¬ N vb)(hB:Sg P w0 W V pb b vb sb fbx gs N fv xv F fn box r0 o m (m+1) x sc tr es sp tp scc tc fnn)(hi:Zo x=⟨15,d,a,bb,n,f_,args,outs⟩)(hX:V.heap[ib]?=some (.cells #[.int .i64 15,.int .i64 d,.int .i64 a,.int .i64 bb,.int .u64 n,.int .i64 f_,.slice xap args.length xac,.slice xop outs.length xoc] 65 (0,0)))(hex:ExN P w0 W pb b vb sb fbx ib gs N fv xv F fn box r0 o m Q0 a1 a4 a6 a7 a8 a9) :
 Code.wp Tryz.prog (Dd Tryz.f37 7) Q0 (Fr (.pointer (some ⟨pb,0,none⟩)) a1 (.slice (some ⟨vb,0,none⟩) fn.homes.length fn.homes.length) (.slice (some ⟨sb,0,none⟩) fn.slots.length fn.slots.length) a4 (.pointer (some ⟨fbx,0,none⟩)) a6 a7 a8 a9 (.int .i64 x.b) (.int .i64 (x.i+1)) (.pointer (some ⟨ib,0,none⟩)) s) V:=by
 have hfl:=(hB.1.2.1.insG hG).fld;have hfn:=hB.1.1;have hvl:x.v.length=fn.homes.length:=by rw [hB.1.2.1.v,hfn]
 have hsl:x.s.length=fn.slots.length:=by rw [hB.1.2.1.slen,hfn]
 have hRF:=hB.2.1;rw [hi] at hfl;rw [hfn] at hfl;have HEX:=J hex;have HX:=J hX;have hfd:=Uc hfl (Or.inr rfl);simp only at hfd;obtain⟨dd,rfl⟩:=Int.eq_ofNat_of_zero_le hfd.1;have hdI:(dd:Int)<(fn.homes.length:Int):=hfd.2;have hdv:dd<x.v.length:=by rw [hvl]; omega
 have g0:=hRF.loc hdv;have z0:=frozen_of_row _ _ dd _ _ hRF.v;clear hfd;have o1:=cR (G HX) 1;have o2:=cR (G HX) 2;have o3:=cR (G HX) 3;by_cases hy:x.v.getD dd 0=0
 ·
  have HB5:=J (hB.loc hG hNv (X:={ x with b:=bb,i:=0 }) (by rw [hi]; unfold Ld; simp [Zp,List.getD] at hy ⊢; simp [hy]) (by rw [hi]; show(15:Int)≠12; decide) (by rw [hi]; show(15:Int)≠13; decide) (by rw [hi]; show(15:Int)<16; decide) (V':=V) (hRF.nx bb 0) rfl rfl rfl (Nat.le_refl _) (fun _ _ _ _=>rfl));rw [hy] at g0;clear hy;clear hB hi hX hG hNv hRF hex hfl hfn;rw [Xl];refine Js ?_;conv=>arg 2; whnf
  go_wp2_with fail
  refine Yy (Q:=Q0 .normal) (fun s'=>G HEX m _ _ _ _ _ _ _ _ _ _ s' (Nat.le_refl _) (G HB5)) _ ?_;rfl
 ·
  have HB5:=J (hB.loc hG hNv (X:={ x with b:=a,i:=0 }) (by rw [hi]; unfold Ld; simp [Zp,List.getD] at hy ⊢; simp [hy]) (by rw [hi]; show(15:Int)≠12; decide) (by rw [hi]; show(15:Int)≠13; decide) (by rw [hi]; show(15:Int)<16; decide) (V':=V) (hRF.nx a 0) rfl rfl rfl (Nat.le_refl _) (fun _ _ _ _=>rfl));have hz0:(x.v.getD dd 0 != 0)=true:=by simpa using hy
  generalize x.v.getD dd 0=yd at g0 hz0;clear hy;clear hB hi hX hG hNv hRF hex hfl hfn;rw [Xl];refine Js ?_;conv=>arg 2; whnf
  go_wp2_with fail
  refine Yy (Q:=Q0 .normal) (fun s'=>G HEX m _ _ _ _ _ _ _ _ _ _ s' (Nat.le_refl _) (G HB5)) _ ?_;rfl
set_option maxHeartbeats 4000000 in
set_option maxRecDepth 100000 in
theorem Zlt {P:Zl}{w0 W V:World}{pb b vb sb fbx ib:Nat}{gs:List Nat}{N:Nat→Prop}{fv xv:Value}{F:Nat}{fn:Zn}{box:Array Value}{r0:Zy}{o:List Int}{m:Nat}{x:Xk}{sc:List Int}{tr:List (Int×List Int)}{es:List Value}{sp tp:Option Addr}{scc tc:Nat}{fnn:Int}{Q0:Exit→Act→World→Prop}{a1 a4 a6 a7 a8 a9:Value}{s:Nat→Value}{d a bb n f_:Int}{args:List (Int×Int)}{outs:List Int}{xap xop:Option Addr}{xac xoc:Nat}(hG:Yp P)(hNv:¬ N vb)(hB:Sg P w0 W V pb b vb sb fbx gs N fv xv F fn box r0 o m (m+1) x sc tr es sp tp scc tc fnn)(hi:Zo x=⟨2,d,a,bb,n,f_,args,outs⟩)(hX:V.heap[ib]?=some (.cells #[.int .i64 2,.int .i64 d,.int .i64 a,.int .i64 bb,.int .u64 n,.int .i64 f_,.slice xap args.length xac,.slice xop outs.length xoc] 65 (0,0)))(hex:ExN P w0 W pb b vb sb fbx ib gs N fv xv F fn box r0 o m Q0 a1 a4 a6 a7 a8 a9) :
 Code.wp Tryz.prog (Dd Tryz.f37 1) Q0 (Fr (.pointer (some ⟨pb,0,none⟩)) a1 (.slice (some ⟨vb,0,none⟩) fn.homes.length fn.homes.length) (.slice (some ⟨sb,0,none⟩) fn.slots.length fn.slots.length) a4 (.pointer (some ⟨fbx,0,none⟩)) a6 a7 a8 a9 (.int .i64 x.b) (.int .i64 (x.i+1)) (.pointer (some ⟨ib,0,none⟩)) s) V:=by
 have hfl:=(hB.1.2.1.insG hG).fld;have hfn:=hB.1.1;have hvl:x.v.length=fn.homes.length:=by rw [hB.1.2.1.v,hfn]
 have hsl:x.s.length=fn.slots.length:=by rw [hB.1.2.1.slen,hfn]
 have hRF:=hB.2.1;rw [hi] at hfl;rw [hfn] at hfl;have HEX:=J hex;have HX:=J hX;have hfd:=Uc hfl (Or.inl (by simp only; decide));simp only at hfd;obtain⟨dd,rfl⟩:=Int.eq_ofNat_of_zero_le hfd.1;have hdI:(dd:Int)<(fn.homes.length:Int):=hfd.2;have hdv:dd<x.v.length:=by rw [hvl]; omega
 have g0:=hRF.loc hdv;have z0:=frozen_of_row _ _ dd _ _ hRF.v;clear hfd;have hfaa:=Zfk hfl (by simp only; decide);simp only at hfaa;obtain⟨aa,rfl⟩:=Int.eq_ofNat_of_zero_le hfaa.1;have haaI:(aa:Int)<(fn.homes.length:Int):=hfaa.2;have haav:aa<x.v.length:=by rw [hvl]; omega
 have gaa:=hRF.loc haav;clear hfaa;have o1:=cR (G HX) 1;have o2:=cR (G HX) 2;have p1:V.drew.cell? ⟨ib,1,none⟩=_:=o1;have p2:V.drew.cell? ⟨ib,2,none⟩=_:=o2;have y0:V.drew.cell? ⟨vb,dd,none⟩=_:=g0;have ya:V.drew.cell? ⟨vb,aa,none⟩=_:=gaa;have yz:V.drew.frozen? ⟨vb,dd,none⟩=false:=z0;have HB5:=J (hB.loc hG hNv (X:={ Zp x with v:=x.v.set dd (x.v.getD aa 0) }) (by rw [hi]; unfold Ld; simp [Zp]) (by rw [hi]; show(2:Int)≠12; decide) (by rw [hi]; show(2:Int)≠13; decide) (by rw [hi]; show(2:Int)<16; decide) (V':=V.drew.setCell ⟨vb,dd,none⟩ (.int .u64 (x.v.getD aa 0))) (((hRF.below (Below.refl _ _).drew).nx x.b (x.i+1)).setv dd _) rfl rfl rfl (by simp) (fun q _ h1 _=>heap_setCell_other _ _ _ _ h1));generalize x.v.getD aa 0=yaa at gaa ya HB5;generalize x.v.getD dd 0=yd at g0 y0;clear hB hi hX hG hNv hRF hex hfl hfn;rw [Xl];refine Js ?_;conv=>arg 2; whnf
 go_region
 all_goals
  try simp only [Act.put]
  refine Yy (Q:=Q0 .normal) (fun s'=>G HEX m _ _ _ _ _ _ _ _ _ _ s' (Nat.le_refl _) (G HB5)) _ ?_;rfl
set_option maxHeartbeats 4000000 in
set_option maxRecDepth 100000 in
theorem Zlu {P:Zl}{w0 W V:World}{pb b vb sb fbx ib:Nat}{gs:List Nat}{N:Nat→Prop}{fv xv:Value}{F:Nat}{fn:Zn}{box:Array Value}{r0:Zy}{o:List Int}{m:Nat}{x:Xk}{sc:List Int}{tr:List (Int×List Int)}{es:List Value}{sp tp:Option Addr}{scc tc:Nat}{fnn:Int}{Q0:Exit→Act→World→Prop}{a1 a4 a6 a7 a8 a9:Value}{s:Nat→Value}{d a bb n f_:Int}{args:List (Int×Int)}{outs:List Int}{xap xop:Option Addr}{xac xoc:Nat}{op:Int}(hG:Yp P)(hNv:¬ N vb)(hB:Sg P w0 W V pb b vb sb fbx gs N fv xv F fn box r0 o m (m+1) x sc tr es sp tp scc tc fnn)(hi:Zo x=⟨op,d,a,bb,n,f_,args,outs⟩)(hX:V.heap[ib]?=some (.cells #[.int .i64 op,.int .i64 d,.int .i64 a,.int .i64 bb,.int .u64 n,.int .i64 f_,.slice xap args.length xac,.slice xop outs.length xoc] 65 (0,0)))(hex:ExN P w0 W pb b vb sb fbx ib gs N fv xv F fn box r0 o m Q0 a1 a4 a6 a7 a8 a9)(h3:3≤op)(h9:op≤9) :
 Code.wp Tryz.prog (Ml Tryz.f37 11) Q0 (Fr (.pointer (some ⟨pb,0,none⟩)) a1 (.slice (some ⟨vb,0,none⟩) fn.homes.length fn.homes.length) (.slice (some ⟨sb,0,none⟩) fn.slots.length fn.slots.length) a4 (.pointer (some ⟨fbx,0,none⟩)) a6 a7 a8 a9 (.int .i64 x.b) (.int .i64 (x.i+1)) (.pointer (some ⟨ib,0,none⟩)) s) V:=by
 have hfl:=(hB.1.2.1.insG hG).fld;have hfn:=hB.1.1;have hvl:x.v.length=fn.homes.length:=by rw [hB.1.2.1.v,hfn]
 have hsl:x.s.length=fn.slots.length:=by rw [hB.1.2.1.slen,hfn]
 have hRF:=hB.2.1;rw [hi] at hfl;rw [hfn] at hfl;have HEX:=J hex;have HX:=J hX;have hfd:=Uc hfl (Or.inl (by simp only; omega));simp only at hfd;obtain⟨dd,rfl⟩:=Int.eq_ofNat_of_zero_le hfd.1;have hdI:(dd:Int)<(fn.homes.length:Int):=hfd.2;have hdv:dd<x.v.length:=by rw [hvl]; omega
 have g0:=hRF.loc hdv;have z0:=frozen_of_row _ _ dd _ _ hRF.v;clear hfd;have hfaa:=Zfk hfl (by simp only; omega);simp only at hfaa;obtain⟨aa,rfl⟩:=Int.eq_ofNat_of_zero_le hfaa.1;have haaI:(aa:Int)<(fn.homes.length:Int):=hfaa.2;have haav:aa<x.v.length:=by rw [hvl]; omega
 have gaa:=hRF.loc haav;clear hfaa;have hfcc:=Zmu hfl (by simp only; omega);simp only at hfcc;obtain⟨cc,rfl⟩:=Int.eq_ofNat_of_zero_le hfcc.1;have hccI:(cc:Int)<(fn.homes.length:Int):=hfcc.2;have hccv:cc<x.v.length:=by rw [hvl]; omega
 have gcc:=hRF.loc hccv;clear hfcc;have HB5:=J (hB.loc hG hNv (X:={ Zp x with v:=x.v.set dd (Mv op (x.v.getD aa 0) (x.v.getD cc 0)) }) (by rw [hi]; unfold Ld; rw [if_neg (by show op≠1; omega),if_neg (by show op≠2; omega),if_neg (by show op≠10; omega),if_neg (by show op≠11; omega),if_neg (by show op≠14; omega),if_neg (by show op≠15; omega)]; simp [Zp]) (by rw [hi]; show op≠12; omega) (by rw [hi]; show op≠13; omega) (by rw [hi]; show op<16; omega) (V':=V.drew.setCell ⟨vb,dd,none⟩ (.int .u64 (Mv op (x.v.getD aa 0) (x.v.getD cc 0)))) (((hRF.below (Below.refl _ _).drew).nx x.b (x.i+1)).setv dd _) rfl rfl rfl (by simp) (fun q _ h1 _=>heap_setCell_other _ _ _ _ h1));generalize x.v.getD dd 0=yd at g0;generalize x.v.getD aa 0=ya at gaa HB5;generalize x.v.getD cc 0=yb at gcc HB5;have HC:=J (Zpc op ya yb V.drew);have HC0:=J (show(fun V=>V.cell? ⟨ib,0,none⟩=some (.int .i64 op)∧V.cell? ⟨ib,1,none⟩=some (.int .i64 (dd:Int))∧V.cell? ⟨ib,2,none⟩=some (.int .i64 (aa:Int))∧V.cell? ⟨ib,3,none⟩=some (.int .i64 (cc:Int))∧V.cell? ⟨vb,aa,none⟩=some (.int .u64 ya)∧V.cell? ⟨vb,cc,none⟩=some (.int .u64 yb)) V.drew from⟨(cR hX 0),(cR hX 1),(cR hX 2),(cR hX 3),gaa,gcc⟩);have y0:V.drew.cell? ⟨vb,dd,none⟩=some (.int .u64 yd):=g0;have yz:V.drew.frozen? ⟨vb,dd,none⟩=false:=z0;generalize Mv op ya yb=y at HC HB5;clear gaa gcc g0 z0;clear hB hi hX hG hNv hRF hex hfl hfn;rw [Xl];refine Js ?_;conv=>arg 2; whnf
 refine Xw (C:=fun V=>V.cell? ⟨ib,0,none⟩=some (.int .i64 op)∧V.cell? ⟨ib,1,none⟩=some (.int .i64 (dd:Int))∧V.cell? ⟨ib,2,none⟩=some (.int .i64 (aa:Int))∧V.cell? ⟨ib,3,none⟩=some (.int .i64 (cc:Int))∧V.cell? ⟨vb,aa,none⟩=some (.int .u64 ya)∧V.cell? ⟨vb,cc,none⟩=some (.int .u64 yb)) (d:=17) (by kernel_rfl) ?_;refine uT 0 (G HC0) ?_;try simp only [Act.put,zA,zB,zC,zD,zE]
 refine uT 1 (G HC0) ?_;try simp only [Act.put,zA,zB,zC,zD,zE,zF]
 refine uT 2 (G HC0) ?_;try simp only [Act.put,zA,zB,zC,zD,zE,zF]
 refine uT 3 (G HC0) ?_;try simp only [Act.put,zA,zB,zC,zD,zE,zF]
 refine uT 4 (G HC0) ?_;try simp only [Act.put,zA,zB,zC,zD,zE,zF]
 refine uT 5 (G HC0) ?_;try simp only [Act.put,zA,zB,zC,zD,zE,zF]
 refine uT 6 (G HC0) ?_;try simp only [Act.put,zA,zB,zC,zD,zE,zF]
 refine uT 7 (G HC0) ?_;try simp only [Act.put,zA,zB,zC,zD,zE,zF]
 refine uT 8 (G HC0) ?_;try simp only [Act.put,zA,zB,zC,zD,zE,zF]
 refine uT 9 (G HC0) ?_;try simp only [Act.put,zA,zB,zC,zD,zE,zF]
 refine uT 10 (G HC0) ?_;try simp only [Act.put,zA,zB,zC,zD,zE,zF]
 refine uT 11 (G HC0) ?_;try simp only [Act.put,zA,zB,zC,zD,zE,zF]
 refine uT 12 (G HC0) ?_;try simp only [Act.put,zA,zB,zC,zD,zE,zF]
 refine uT 13 (G HC0) ?_;try simp only [Act.put,zA,zB,zC,zD,zE,zF]
 refine uT 14 (G HC0) ?_;try simp only [Act.put,zA,zB,zC,zD,zE,zF]
 refine uO 15 fun K hK=>?_;go_simp;refine(G HC).mono ?_;rintro e w5 ⟨rfl,hw5⟩;subst w5;refine hK.out _ _ (fun _=>G HC0) ?_;clear hK K;try simp only [Act.put,zA,zB,zC,zD,zE,zF]
 refine uO 16 fun K hK=>?_;go_simp;refine hK.out _ _ (fun _=>G HC0) ?_;clear hK K;try simp only [Act.put,zA,zB,zC,zD,zE,zF]
 refine uO 17 fun K hK=>?_;go_simp;refine hK.out _ _ (fun h=>(by cases h)) ?_;clear hK K;try simp only [Act.put,zA,zB,zC,zD,zE,zF]
 refine Gc (by kernel_rfl) ?_ _;refine Yy (Q:=Q0 .normal) (fun s'=>G HEX m _ _ _ _ _ _ _ _ _ _ s' (Nat.le_refl _) (G HB5)) _ ?_;rfl
set_option maxHeartbeats 4000000 in
set_option maxRecDepth 100000 in
theorem Zlv {P:Zl}{w0 W V:World}{pb b vb sb fbx ib:Nat}{gs:List Nat}{N:Nat→Prop}{fv xv:Value}{F:Nat}{fn:Zn}{box:Array Value}{r0:Zy}{o:List Int}{m:Nat}{x:Xk}{sc:List Int}{tr:List (Int×List Int)}{es:List Value}{sp tp:Option Addr}{scc tc:Nat}{fnn:Int}{Q0:Exit→Act→World→Prop}{a1 a4 a6 a7 a8 a9:Value}{s:Nat→Value}{d a bb n f_:Int}{args:List (Int×Int)}{outs:List Int}{xap xop:Option Addr}{xac xoc:Nat}(hG:Yp P)(hNv:¬ N vb)(hB:Sg P w0 W V pb b vb sb fbx gs N fv xv F fn box r0 o m (m+1) x sc tr es sp tp scc tc fnn)(hi:Zo x=⟨10,d,a,bb,n,f_,args,outs⟩)(hX:V.heap[ib]?=some (.cells #[.int .i64 10,.int .i64 d,.int .i64 a,.int .i64 bb,.int .u64 n,.int .i64 f_,.slice xap args.length xac,.slice xop outs.length xoc] 65 (0,0)))(hex:ExN P w0 W pb b vb sb fbx ib gs N fv xv F fn box r0 o m Q0 a1 a4 a6 a7 a8 a9) :
 Code.wp Tryz.prog (Dd Tryz.f37 2) Q0 (Fr (.pointer (some ⟨pb,0,none⟩)) a1 (.slice (some ⟨vb,0,none⟩) fn.homes.length fn.homes.length) (.slice (some ⟨sb,0,none⟩) fn.slots.length fn.slots.length) a4 (.pointer (some ⟨fbx,0,none⟩)) a6 a7 a8 a9 (.int .i64 x.b) (.int .i64 (x.i+1)) (.pointer (some ⟨ib,0,none⟩)) s) V:=by
 have hfl:=(hB.1.2.1.insG hG).fld;have hfn:=hB.1.1;have hvl:x.v.length=fn.homes.length:=by rw [hB.1.2.1.v,hfn]
 have hsl:x.s.length=fn.slots.length:=by rw [hB.1.2.1.slen,hfn]
 have hRF:=hB.2.1;rw [hi] at hfl;rw [hfn] at hfl;have HEX:=J hex;have HX:=J hX;have hfd:=Uc hfl (Or.inl (by simp only; decide));simp only at hfd;obtain⟨dd,rfl⟩:=Int.eq_ofNat_of_zero_le hfd.1;have hdI:(dd:Int)<(fn.homes.length:Int):=hfd.2;have hdv:dd<x.v.length:=by rw [hvl]; omega
 have g0:=hRF.loc hdv;have z0:=frozen_of_row _ _ dd _ _ hRF.v;clear hfd;have hfs:=Un hfl (by simp only; decide);simp only at hfs;obtain⟨a0,a1',aw,b0,b1⟩:=hfs;obtain⟨aa,rfl⟩:=Int.eq_ofNat_of_zero_le a0;obtain⟨cc,rfl⟩:=Int.eq_ofNat_of_zero_le b0;have hnn:0≤n:=by omega
 obtain⟨nn,rfl⟩:=Int.eq_ofNat_of_zero_le hnn;rw [Int.toNat_natCast] at b1;have has:aa<x.s.length:=by rw [hsl]; omega
 have haI:(aa:Int)<(fn.slots.length:Int):=a1';have hnw:IntKind.i64.wrap (nn:Int)=(nn:Int):=IntKind.wrap_of_boundsK (by omega) (by omega);have hsz:=hB.1.2.1.slot has;rw [hfn] at hsz;have hss:=hB.1.2.1.small hG (x.s.getD aa []) (by rw [Yu _ _ _ has]; exact List.getElem_mem _);have gs0:=hRF.slot has;have hrw:=(hRF.each aa has).1;have HB5:=J (hB.loc hG hNv (X:={ Zp x with v:=x.v.set dd (Ns (x.s.getD aa []) cc nn) }) (by rw [hi]; unfold Ld; simp [Zp]) (by rw [hi]; show(10:Int)≠12; decide) (by rw [hi]; show(10:Int)≠13; decide) (by rw [hi]; show(10:Int)<16; decide) (V':=V.drew.setCell ⟨vb,dd,none⟩ (.int .u64 (Ns (x.s.getD aa []) cc nn))) (((hRF.below (Below.refl _ _).drew).nx x.b (x.i+1)).setv dd _) rfl rfl rfl (by simp) (fun q _ h1 _=>heap_setCell_other _ _ _ _ h1));have HC:=J (Zin (x.s.getD aa []) (gs.getD aa 0) cc nn V.drew hrw (hB.1.2.1.bytes aa) (by omega) (by omega) hss);generalize x.v.getD dd 0=yd at g0;generalize Ns (x.s.getD aa []) cc nn=y at HC HB5;generalize gs.getD aa 0=ga at gs0 HC;generalize (x.s.getD aa []).length=bl at gs0 HC;have HC0:=J (show(fun V=>V.cell? ⟨ib,1,none⟩=some (.int .i64 (dd:Int))∧V.cell? ⟨ib,2,none⟩=some (.int .i64 (aa:Int))∧V.cell? ⟨ib,3,none⟩=some (.int .i64 (cc:Int))∧V.cell? ⟨ib,4,none⟩=some (.int .u64 (nn:Int))∧V.cell? ⟨sb,aa,none⟩=some (.slice (some ⟨ga,0,none⟩) bl bl)) V.drew from⟨(cR hX 1),(cR hX 2),(cR hX 3),(cR hX 4),gs0⟩);have y0:V.drew.cell? ⟨vb,dd,none⟩=some (.int .u64 yd):=g0
 have yz:V.drew.frozen? ⟨vb,dd,none⟩=false:=z0;clear gs0 g0 z0 hrw hss hsz a0 a1' aw b0 b1 hnn;clear hB hi hX hG hNv hRF hex hfl hfn;rw [Xl];refine Js ?_;conv=>arg 2; whnf
 refine Xw (C:=fun V=>V.cell? ⟨ib,1,none⟩=some (.int .i64 (dd:Int))∧V.cell? ⟨ib,2,none⟩=some (.int .i64 (aa:Int))∧V.cell? ⟨ib,3,none⟩=some (.int .i64 (cc:Int))∧V.cell? ⟨ib,4,none⟩=some (.int .u64 (nn:Int))∧V.cell? ⟨sb,aa,none⟩=some (.slice (some ⟨ga,0,none⟩) bl bl)) (d:=15) (by kernel_rfl) ?_;refine uT 0 (G HC0) ?_;try simp only [Act.put,zA,zB,zC,zD,zE]
 refine uT 1 (G HC0) ?_;try simp only [Act.put,zA,zB,zC,zD,zE,zF]
 refine uT 2 (G HC0) ?_;try simp only [Act.put,zA,zB,zC,zD,zE,zF]
 refine uT 3 (G HC0) ?_;try simp only [Act.put,zA,zB,zC,zD,zE,zF]
 refine uT 4 (G HC0) ?_;try simp only [Act.put,zA,zB,zC,zD,zE,zF]
 refine uT 5 (G HC0) ?_;try simp only [Act.put,zA,zB,zC,zD,zE,zF]
 refine uT 6 (G HC0) ?_;try simp only [Act.put,zA,zB,zC,zD,zE,zF]
 refine uT 7 (G HC0) ?_;try simp only [Act.put,zA,zB,zC,zD,zE,zF]
 refine uT 8 (G HC0) ?_;try simp only [Act.put,zA,zB,zC,zD,zE,zF]
 refine uT 9 (G HC0) ?_;try simp only [Act.put,zA,zB,zC,zD,zE,zF]
 refine uT 10 (G HC0) ?_;try simp only [Act.put,zA,zB,zC,zD,zE,zF]
 refine uT 11 (G HC0) ?_;try simp only [Act.put,zA,zB,zC,zD,zE,zF]
 refine uT 12 (G HC0) ?_;try simp only [Act.put,zA,zB,zC,zD,zE,zF]
 refine uO 13 fun K hK=>?_;go_simp;refine(G HC).mono ?_;rintro e w5 ⟨rfl,hw5⟩;subst w5;refine hK.out _ _ (fun _=>G HC0) ?_;clear hK K;try simp only [Act.put,zA,zB,zC,zD,zE,zF]
 refine uO 14 fun K hK=>?_;go_simp;refine hK.out _ _ (fun _=>G HC0) ?_;clear hK K;try simp only [Act.put,zA,zB,zC,zD,zE,zF]
 refine uO 15 fun K hK=>?_;go_simp;refine hK.out _ _ (fun h=>(by cases h)) ?_;clear hK K;try simp only [Act.put,zA,zB,zC,zD,zE,zF]
 refine Gc (by kernel_rfl) ?_ _;refine Yy (Q:=Q0 .normal) (fun s'=>G HEX m _ _ _ _ _ _ _ _ _ _ s' (Nat.le_refl _) (G HB5)) _ ?_;rfl
set_option maxHeartbeats 4000000 in
set_option maxRecDepth 100000 in
theorem Zjo {P:Zl}{w0 W V:World}{pb b vb sb fbx ib:Nat}{gs:List Nat}{N:Nat→Prop}{fv xv:Value}{F:Nat}{fn:Zn}{box:Array Value}{r0:Zy}{o:List Int}{m:Nat}{x:Xk}{sc:List Int}{tr:List (Int×List Int)}{es:List Value}{sp tp:Option Addr}{scc tc:Nat}{fnn:Int}{Q0:Exit→Act→World→Prop}{a1 a4 a6 a7 a8 a9:Value}{s:Nat→Value}{d a bb n f_:Int}{args:List (Int×Int)}{outs:List Int}{xap xop:Option Addr}{xac xoc:Nat}(hG:Yp P)(hNv:¬ N vb)(hB:Sg P w0 W V pb b vb sb fbx gs N fv xv F fn box r0 o m (m+1) x sc tr es sp tp scc tc fnn)(hi:Zo x=⟨11,d,a,bb,n,f_,args,outs⟩)(hX:V.heap[ib]?=some (.cells #[.int .i64 11,.int .i64 d,.int .i64 a,.int .i64 bb,.int .u64 n,.int .i64 f_,.slice xap args.length xac,.slice xop outs.length xoc] 65 (0,0)))(hex:ExN P w0 W pb b vb sb fbx ib gs N fv xv F fn box r0 o m Q0 a1 a4 a6 a7 a8 a9) :
 Code.wp Tryz.prog (Dd Tryz.f37 3) Q0 (Fr (.pointer (some ⟨pb,0,none⟩)) a1 (.slice (some ⟨vb,0,none⟩) fn.homes.length fn.homes.length) (.slice (some ⟨sb,0,none⟩) fn.slots.length fn.slots.length) a4 (.pointer (some ⟨fbx,0,none⟩)) a6 a7 a8 a9 (.int .i64 x.b) (.int .i64 (x.i+1)) (.pointer (some ⟨ib,0,none⟩)) s) V:=by
 have hfl:=(hB.1.2.1.insG hG).fld;have hfn:=hB.1.1;have hvl:x.v.length=fn.homes.length:=by rw [hB.1.2.1.v,hfn]
 have hsl:x.s.length=fn.slots.length:=by rw [hB.1.2.1.slen,hfn]
 have hRF:=hB.2.1;rw [hi] at hfl;rw [hfn] at hfl;have HEX:=J hex;have HX:=J hX;have hfd:=Uc hfl (Or.inl (by simp only; decide));simp only at hfd;obtain⟨dd,rfl⟩:=Int.eq_ofNat_of_zero_le hfd.1;have hdI:(dd:Int)<(fn.homes.length:Int):=hfd.2;have hdv:dd<x.v.length:=by rw [hvl]; omega
 have g0:=hRF.loc hdv;have z0:=frozen_of_row _ _ dd _ _ hRF.v;clear hfd;have hfs:=Un hfl (by simp only; decide);simp only at hfs;obtain⟨a0,a1',aw,b0,b1⟩:=hfs;obtain⟨aa,rfl⟩:=Int.eq_ofNat_of_zero_le a0;obtain⟨cc,rfl⟩:=Int.eq_ofNat_of_zero_le b0;have hnn:0≤n:=by omega
 obtain⟨nn,rfl⟩:=Int.eq_ofNat_of_zero_le hnn;rw [Int.toNat_natCast] at b1;have has:aa<x.s.length:=by rw [hsl]; omega
 have haI:(aa:Int)<(fn.slots.length:Int):=a1';have hnw:IntKind.i64.wrap (nn:Int)=(nn:Int):=IntKind.wrap_of_boundsK (by omega) (by omega);have hsz:=hB.1.2.1.slot has;rw [hfn] at hsz;have hss:=hB.1.2.1.small hG (x.s.getD aa []) (by rw [Yu _ _ _ has]; exact List.getElem_mem _);have gs0:=hRF.slot has;have hrw:=(hRF.each aa has).1;have hu:=Mj hB.1.2.1.ok.v dd;have HPUT:=J (Zis (x.s.getD aa []) (gs.getD aa 0) cc nn (x.v.getD dd 0) V.drew hrw (by omega) hss hu.1 hu.2);have HB5:=J (hB.loc hG hNv (X:={ Zp x with s:=x.s.set aa (Sd (x.s.getD aa []) cc nn (x.v.getD dd 0)) }) (by rw [hi]; unfold Ld; simp [Zp]) (by rw [hi]; show(11:Int)≠12; decide) (by rw [hi]; show(11:Int)≠13; decide) (by rw [hi]; show(11:Int)<16; decide) (V':=Uz V.drew (gs.getD aa 0) cc (x.v.getD dd 0) nn) (((hRF.below (Below.refl _ _).drew).nx x.b (x.i+1)).sets aa has cc nn _) (Mt _ _ _ _ _).1 (Mt _ _ _ _ _).2.1 (Mt _ _ _ _ _).2.2 (Nat.le_of_eq (Oj V.drew (gs.getD aa 0) cc (x.v.getD dd 0) nn).symm) (fun q _ _ h2=>Jc V.drew _ _ _ q (fun e=>h2 (by rw [e,show gs.getD aa 0=gs[aa]'(by rw [hRF.len]; exact has) by simp [List.getD,hRF.len,has]]; exact List.getElem_mem _)) nn));have hne1:ib≠gs.getD aa 0:=Zs hX hrw (by decide);have hne2:sb≠gs.getD aa 0:=Zs hRF.s hrw (by decide);have hne3:vb≠gs.getD aa 0:=Zs hRF.v hrw (by decide);generalize x.v.getD dd 0=yd at g0 HPUT HB5;generalize gs.getD aa 0=ga at gs0 HPUT HB5 hne1 hne2 hne3;generalize (x.s.getD aa []).length=bl at gs0 HPUT
 have HCK:=J (fun(U:World) (h1:U.heap[ib]?=V.heap[ib]?) (h2:U.heap[sb]?=V.heap[sb]?) (h3:U.heap[vb]?=V.heap[vb]?)=>show(fun V=>V.cell? ⟨ib,1,none⟩=some (.int .i64 (dd:Int))∧V.cell? ⟨ib,2,none⟩=some (.int .i64 (aa:Int))∧V.cell? ⟨ib,3,none⟩=some (.int .i64 (cc:Int))∧V.cell? ⟨ib,4,none⟩=some (.int .u64 (nn:Int))∧V.cell? ⟨sb,aa,none⟩=some (.slice (some ⟨ga,0,none⟩) bl bl)∧V.cell? ⟨vb,dd,none⟩=some (.int .u64 yd)) U from⟨(cR (h1.trans hX) 1),(cR (h1.trans hX) 2),(cR (h1.trans hX) 3),(cR (h1.trans hX) 4),(World.cell?_of_block h2).trans gs0,(World.cell?_of_block h3).trans g0⟩);clear gs0 g0 z0 hrw hss hsz a0 a1' aw b0 b1 hnn hu;clear hB hi hX hG hNv hRF hex hfl hfn;rw [Xl];refine Js ?_;conv=>arg 2; whnf
 refine wp_region_held_drew (S:=fun V=>V.cell? ⟨ib,1,none⟩=some (.int .i64 (dd:Int))∧V.cell? ⟨ib,2,none⟩=some (.int .i64 (aa:Int))∧V.cell? ⟨ib,3,none⟩=some (.int .i64 (cc:Int))∧V.cell? ⟨ib,4,none⟩=some (.int .u64 (nn:Int))∧V.cell? ⟨sb,aa,none⟩=some (.slice (some ⟨ga,0,none⟩) bl bl)∧V.cell? ⟨vb,dd,none⟩=some (.int .u64 yd)) (by kernel_rfl) (G HCK _ rfl rfl rfl) (fun hHeld=>?_);refine tT 0 ?_;try simp only [Act.put,zA,zB,zC,zD,zE]
 refine tT 1 ?_;try simp only [Act.put,zA,zB,zC,zD,zE,zF]
 refine tT 2 ?_;try simp only [Act.put,zA,zB,zC,zD,zE,zF]
 refine tT 3 ?_;try simp only [Act.put,zA,zB,zC,zD,zE,zF]
 refine tT 4 ?_;try simp only [Act.put,zA,zB,zC,zD,zE,zF]
 refine tT 5 ?_;try simp only [Act.put,zA,zB,zC,zD,zE,zF]
 refine tT 6 ?_;try simp only [Act.put,zA,zB,zC,zD,zE,zF]
 refine tT 7 ?_;try simp only [Act.put,zA,zB,zC,zD,zE,zF]
 refine tT 8 ?_;try simp only [Act.put,zA,zB,zC,zD,zE,zF]
 refine tT 9 ?_;try simp only [Act.put,zA,zB,zC,zD,zE,zF]
 refine tT 10 ?_;try simp only [Act.put,zA,zB,zC,zD,zE,zF]
 refine tT 11 ?_;try simp only [Act.put,zA,zB,zC,zD,zE,zF]
 refine tT 12 ?_;try simp only [Act.put,zA,zB,zC,zD,zE,zF]
 refine tT 13 ?_;try simp only [Act.put,zA,zB,zC,zD,zE,zF]
 refine tT 14 ?_;try simp only [Act.put,zA,zB,zC,zD,zE,zF]
 refine tO 15 fun K hK=>?_;go_simp;refine(G HPUT).mono ?_;rintro e w5 ⟨⟨v5,rfl⟩,hw5⟩;subst w5;refine hK.out _ _ (G HCK _ (Jc V.drew _ _ _ ib hne1 nn) (Jc V.drew _ _ _ sb hne2 nn) (Jc V.drew _ _ _ vb hne3 nn)) (fun hHeld2=>?_);clear hK K;try simp only [Act.put,zA,zB,zC,zD,zE,zF]
 refine wpAnyH_done (by kernel_rfl) ?_ _;refine Yy (Q:=Q0 .normal) (fun s'=>G HEX m _ _ _ _ _ _ _ _ _ _ s' (Nat.le_refl _) (G HB5)) _ ?_;rfl
set_option maxHeartbeats 4000000 in
set_option maxRecDepth 100000 in
theorem Zlw {P:Zl}{w0 W V:World}{pb b vb sb fbx ib:Nat}{gs:List Nat}{N:Nat→Prop}{fv xv:Value}{F:Nat}{fn:Zn}{box:Array Value}{r0:Zy}{o:List Int}{m:Nat}{x:Xk}{sc:List Int}{tr:List (Int×List Int)}{es:List Value}{sp tp:Option Addr}{scc tc:Nat}{fnn:Int}{Q0:Exit→Act→World→Prop}{a1 a4 a6 a7 a8 a9:Value}{s:Nat→Value}{d a bb n f_:Int}{args:List (Int×Int)}{outs:List Int}{xap xop:Option Addr}{xac xoc:Nat}{B n0:Nat}(hG:Yp P)(hB:Sg P w0 W V pb b vb sb fbx gs N fv xv F fn box r0 o m (m+1) x sc tr es sp tp scc tc fnn)(hi:Zo x=⟨18,d,a,bb,n,f_,args,outs⟩)(hX:V.heap[ib]?=some (.cells #[.int .i64 18,.int .i64 d,.int .i64 a,.int .i64 bb,.int .u64 n,.int .i64 f_,.slice xap args.length xac,.slice xop outs.length xoc] 65 (0,0)))(hret:ExR P w0 W pb b vb B gs N fv xv F n0 fn r0 o Q0) :
 Code.wp Tryz.prog (Dd Tryz.f37 10) Q0 (Fr (.pointer (some ⟨pb,0,none⟩)) a1 (.slice (some ⟨vb,0,none⟩) fn.homes.length fn.homes.length) (.slice (some ⟨sb,0,none⟩) fn.slots.length fn.slots.length) a4 (.pointer (some ⟨fbx,0,none⟩)) a6 a7 a8 a9 (.int .i64 x.b) (.int .i64 (x.i+1)) (.pointer (some ⟨ib,0,none⟩)) s) V:=by
 have hfl:=(hB.1.2.1.insG hG).fld;have hfn:=hB.1.1;have hvl:x.v.length=fn.homes.length:=by rw [hB.1.2.1.v,hfn]
 have hsl:x.s.length=fn.slots.length:=by rw [hB.1.2.1.slen,hfn]
 have hRF:=hB.2.1;rw [hi] at hfl;rw [hfn] at hfl;have HRET:=J hret;have HX:=J hX;have hS:=hB.2.2.2.2.1;have hrow:=hS.row;have o4:=cR hX 4;have c5:=cR hrow 5;have c6:=cR hrow 6;have z5:V.frozen? ⟨pb,5,none⟩=false:=frozen_of_row _ _ 5 _ _ hrow;have z6:V.frozen? ⟨pb,6,none⟩=false:=frozen_of_row _ _ 6 _ _ hrow;have hrd:So V pb fv xv F ((F-m:Nat):Int) (.slice sp sc.length scc) 0 0 (.slice tp tr.length tc) fnn:=hrow;have k1:So (V.setCell ⟨pb,5,none⟩ (.int .i64 2)) pb fv xv F ((F-m:Nat):Int) (.slice sp sc.length scc) 2 0 (.slice tp tr.length tc) fnn:=heap_setCell_same _ _ 5 _ _ _ hrd;have k2:So ((V.setCell ⟨pb,5,none⟩ (.int .i64 2)).setCell ⟨pb,6,none⟩ (.int .u64 n)) pb fv xv F ((F-m:Nat):Int) (.slice sp sc.length scc) 2 n (.slice tp tr.length tc) fnn:=heap_setCell_same _ _ 6 _ _ _ k1;have j1:So (V.setCell ⟨pb,6,none⟩ (.int .u64 n)) pb fv xv F ((F-m:Nat):Int) (.slice sp sc.length scc) 0 n (.slice tp tr.length tc) fnn:=heap_setCell_same _ _ 6 _ _ _ hrd;have j2:So ((V.setCell ⟨pb,6,none⟩ (.int .u64 n)).setCell ⟨pb,5,none⟩ (.int .i64 2)) pb fv xv F ((F-m:Nat):Int) (.slice sp sc.length scc) 2 n (.slice tp tr.length tc) fnn:=heap_setCell_same _ _ 5 _ _ _ j1;have m6:=cR k1 6;have m5:=cR j1 5;have n6:(V.setCell ⟨pb,5,none⟩ (.int .i64 2)).frozen? ⟨pb,6,none⟩=false:=frozen_of_row _ _ 6 _ _ k1;have n5:(V.setCell ⟨pb,6,none⟩ (.int .u64 n)).frozen? ⟨pb,5,none⟩=false:=frozen_of_row _ _ 5 _ _ j1
 have hne:=Zs hX hrow (by decide);have q4:(V.setCell ⟨pb,5,none⟩ (.int .i64 2)).cell? ⟨ib,4,none⟩=some (.int .u64 n):=(World.cell?_of_block (heap_setCell_other _ _ _ _ hne)).trans o4;have HALL:=J (fun(U:World) (hO:Ok pb V U) (hr:So U pb fv xv F ((F-m:Nat):Int) (.slice sp sc.length scc) 2 n (.slice tp tr.length tc) fnn)=>show Ox P w0 U pb b B N fv xv F n0 fn o (.slice none 0 0) false r0∧Xj b pb (fun g=>g=vb∨g ∈ gs) W U from⟨Or.inr ⟨rfl,by
  rw [hB.2.2.2.2.2.1,Ou,show Ot P x [] sc tr=.trap n sc tr by unfold Ot; simp [hi]];exact⟨by have:=hB.2.2.2.2.2.2.2; omega,rfl,sp,scc,tp,tc,es,fnn,hS.own hO hr hS.scl hS.scb⟩⟩,hB.2.2.2.1.trans (Ux hO)⟩)
 have HA1:=J (G HALL ((V.setCell ⟨pb,5,none⟩ (.int .i64 2)).setCell ⟨pb,6,none⟩ (.int .u64 n)).drew ⟨rfl,rfl,rfl,by simp,fun q hq=>(heap_setCell_other _ _ _ _ hq).trans (heap_setCell_other _ _ _ _ hq)⟩ k2);have HA2:=J (G HALL ((V.setCell ⟨pb,6,none⟩ (.int .u64 n)).setCell ⟨pb,5,none⟩ (.int .i64 2)).drew ⟨rfl,rfl,rfl,by simp,fun q hq=>(heap_setCell_other _ _ _ _ hq).trans (heap_setCell_other _ _ _ _ hq)⟩ j2);have q5:(V.setCell ⟨pb,6,none⟩ (.int .u64 n)).cell? ⟨ib,4,none⟩=some (.int .u64 n):=(World.cell?_of_block (heap_setCell_other _ _ _ _ hne)).trans o4;clear hS hrow hrd k1 k2 j1 j2 HALL hne;clear hB hi hX hG hRF hret hfl hfn;rw [Xl];refine Js ?_;conv=>arg 2; whnf
 refine wp_seq_k fun K hK=>?_;have HK:=J hK;clear hK;go_region
 all_goals
  refine G HK _ _ ?_;clear HK;go_wp2_with fail
  first
  | (refine Yy (Q:=Q0 .ret) (fun s'=>G HRET _ _ _ _ _ _ _ _ _ _ _ _ _ _ _ _ s' (G HA1).1 (G HA1).2) _ ?_; rfl)
  | (refine Yy (Q:=Q0 .ret) (fun s'=>G HRET _ _ _ _ _ _ _ _ _ _ _ _ _ _ _ _ s' (G HA2).1 (G HA2).2) _ ?_; rfl)
set_option maxHeartbeats 4000000 in
set_option maxRecDepth 100000 in
theorem Zlx {P:Zl}{w0 W V:World}{pb b vb sb fbx ib:Nat}{gs:List Nat}{N:Nat→Prop}{fv xv:Value}{F:Nat}{fn:Zn}{box:Array Value}{r0:Zy}{o:List Int}{m:Nat}{x:Xk}{sc:List Int}{tr:List (Int×List Int)}{es:List Value}{sp tp:Option Addr}{scc tc:Nat}{fnn:Int}{Q0:Exit→Act→World→Prop}{a1 a4 a6 a7 a8 a9:Value}{s:Nat→Value}{d a bb n f_:Int}{args:List (Int×Int)}{outs:List Int}{xap xop:Option Addr}{xac xoc:Nat}{B n0:Nat}(hG:Yp P)(hB:Sg P w0 W V pb b vb sb fbx gs N fv xv F fn box r0 o m (m+1) x sc tr es sp tp scc tc fnn)(hi:Zo x=⟨17,d,a,bb,n,f_,args,outs⟩)(hX:V.heap[ib]?=some (.cells #[.int .i64 17,.int .i64 d,.int .i64 a,.int .i64 bb,.int .u64 n,.int .i64 f_,.slice xap args.length xac,.slice xop outs.length xoc] 65 (0,0)))(hret:ExR P w0 W pb b vb B gs N fv xv F n0 fn r0 o Q0)(hxa:LS 2 w0 (.slice xap args.length xac) args.length (fun k=>Yz (args.getD k (0,0))))(hBW:B≤W.heap.size)(hmn:m<n0) :
 Code.wp Tryz.prog (Dd Tryz.f37 9) Q0 (Fr (.pointer (some ⟨pb,0,none⟩)) a1 (.slice (some ⟨vb,0,none⟩) fn.homes.length fn.homes.length) (.slice (some ⟨sb,0,none⟩) fn.slots.length fn.slots.length) a4 (.pointer (some ⟨fbx,0,none⟩)) a6 a7 a8 a9 (.int .i64 x.b) (.int .i64 (x.i+1)) (.pointer (some ⟨ib,0,none⟩)) s) V:=by
 have hfl:=(hB.1.2.1.insG hG).fld;have hfn:=hB.1.1;have hvl:x.v.length=fn.homes.length:=by rw [hB.1.2.1.v,hfn]
 have hsl:x.s.length=fn.slots.length:=by rw [hB.1.2.1.slen,hfn]
 have hRF:=hB.2.1;rw [hi] at hfl;rw [hfn] at hfl;have HRET:=J hret;have HX:=J hX;have hS:=hB.2.2.2.2.1;have hrow:=hS.row;have hwt:=Zbg hG hB.1.2.1 (by rw [hi]);rw [hi] at hwt;dsimp only at hwt;obtain⟨hcf,hcr,hca,hcl,hcA,hF0,hF1⟩:=hwt;obtain⟨k,rfl⟩:=Int.eq_ofNat_of_zero_le hF0;rw [Int.toNat_natCast] at hcf hcr hca;have o5:=cR hX 5;have c8:=cR hrow 8;have z8:=frozen_of_row _ _ 8 _ _ hrow;have k1:So (V.setCell ⟨pb,8,none⟩ (.int .i64 (k:Int))) pb fv xv F ((F-m:Nat):Int) (.slice sp sc.length scc) 0 0 (.slice tp tr.length tc) k:=heap_setCell_same _ _ 8 _ _ _ hrow;have hO:Ok pb V (V.setCell ⟨pb,8,none⟩ (.int .i64 (k:Int))):=⟨rfl,rfl,rfl,by simp,fun q hq=>heap_setCell_other _ _ _ _ hq⟩;have hne:=Zs hX hrow (by decide);have o6:(V.setCell ⟨pb,8,none⟩ (.int .i64 (k:Int))).cell? ⟨ib,6,none⟩=some (.slice xap args.length xac):=(World.cell?_of_block (hO.oth ib hne)).trans ((cR hX 6));have hown:=hB.own (m':=m) (sp':=sp) (sc':=sc) (scc':=scc) (fnn':=k) hO;have hS1:=hown.2.2.2 k1 hS.scl hS.scb;have HFC:=J (Zbm x b vb sb gs args xap xac _ hown.1 hB.1.2.1.ok (hxa.below hS1.low) (by omega) hcA (hB.1.2.1.small hG));rw [hvl,hsl] at HFC;have HALL:=J (fun(U:World) (lv:Value) (hb:Below (V.setCell ⟨pb,8,none⟩ (.int .i64 (k:Int))).heap.size (V.setCell ⟨pb,8,none⟩ (.int .i64 (k:Int))) U) (ho:U.ownsRow (V.setCell ⟨pb,8,none⟩ (.int .i64 (k:Int))).heap.size 62 1 lv (Zv x args).length (uC (Zv x args)))=>show Ox P w0 U pb b B N fv xv F n0 fn o lv true r0∧Xj b pb (fun g=>g=vb∨g ∈ gs) W U from⟨Or.inl ⟨rfl,k,m,Zv x args,sc,tr,es,sp,tp,scc,tc,by omega,hmn,by have:=hB.2.2.2.2.2.2.2; omega,by rw [hcr,hfn],(Mx x args).trans (Of hca),Og hB.1.2.1.ok args,Gy ho (by rw [hO.size]; have:=hB.2.2.2.1.size; omega),by
  rw [hB.2.2.2.2.2.1,Ou,show Ot P x [] sc tr=.go [Jj (P.funcs.getD k Ze) (Zv (Zp x) args) x.o] sc tr by unfold Ot; simp [hi,Ma],hB.1.2.2];rfl,hS1.grow hb,by have:=hB.2.2.2.2.2.2.1; omega⟩,hown.2.2.1.trans (Gq hb)⟩)
 have hkI:(k:Int)<(P.funcs.length:Int):=hF1;clear hS hrow k1 hO hne hown hS1 hcf hcr hca hcA hF0 hF1 hxa;clear hB hi hX hG hRF hret hfl hfn;rw [Xl];refine Js ?_;conv=>arg 2; whnf
 go_wp2_with fail
 refine(G HFC).mono ?_;rintro e w5 ⟨lv,rfl,ho5,hb5⟩;obtain⟨lp,lc,rfl⟩:=Zm ho5;have HA:=J (G HALL w5 _ hb5 ho5);clear ho5 hb5 HALL HFC;go_wp2_with fail
 refine Yy (Q:=Q0 .ret) (fun s'=>G HRET _ _ _ _ _ _ _ _ _ _ _ _ _ _ _ _ s' (G HA).1 (G HA).2) _ ?_;rfl
set_option maxHeartbeats 4000000 in
set_option maxRecDepth 100000 in
theorem Znv {P:Zl}{w0 W V:World}{pb b vb sb fbx ib:Nat}{gs:List Nat}{N:Nat→Prop}{fv xv:Value}{F:Nat}{fn:Zn}{box:Array Value}{r0:Zy}{o:List Int}{m:Nat}{x:Xk}{sc:List Int}{tr:List (Int×List Int)}{es:List Value}{sp tp:Option Addr}{scc tc:Nat}{fnn:Int}{Q0:Exit→Act→World→Prop}{a1 a4 a6 a7 a8 a9:Value}{s:Nat→Value}{d a bb n f_:Int}{args:List (Int×Int)}{outs:List Int}{xap xop:Option Addr}{xac xoc:Nat}{B n0:Nat}(hG:Yp P)(hB:Sg P w0 W V pb b vb sb fbx gs N fv xv F fn box r0 o m (m+1) x sc tr es sp tp scc tc fnn)(hi:Zo x=⟨16,d,a,bb,n,f_,args,outs⟩)(hX:V.heap[ib]?=some (.cells #[.int .i64 16,.int .i64 d,.int .i64 a,.int .i64 bb,.int .u64 n,.int .i64 f_,.slice xap args.length xac,.slice xop outs.length xoc] 65 (0,0)))(hret:ExR P w0 W pb b vb B gs N fv xv F n0 fn r0 o Q0)(hxo:Li w0 (.slice xop outs.length xoc) outs)(hBW:B≤W.heap.size) :
 Code.wp Tryz.prog (Dd Tryz.f37 8) Q0 (Fr (.pointer (some ⟨pb,0,none⟩)) a1 (.slice (some ⟨vb,0,none⟩) fn.homes.length fn.homes.length) (.slice (some ⟨sb,0,none⟩) fn.slots.length fn.slots.length) a4 (.pointer (some ⟨fbx,0,none⟩)) a6 a7 a8 a9 (.int .i64 x.b) (.int .i64 (x.i+1)) (.pointer (some ⟨ib,0,none⟩)) s) V:=by
 have hfl:=(hB.1.2.1.insG hG).fld;have hfn:=hB.1.1;have hvl:x.v.length=fn.homes.length:=by rw [hB.1.2.1.v,hfn]
 have hsl:x.s.length=fn.slots.length:=by rw [hB.1.2.1.slen,hfn]
 have hRF:=hB.2.1;rw [hi] at hfl;rw [hfn] at hfl;have HRET:=J hret;have HX:=J hX;obtain⟨ti,hti,hty0,hty1,hty2⟩:=Xs Tryz.infoU64;have hwr:=Zbf hG hB.1.2.1 (by rw [hi]);rw [hi] at hwr;dsimp only at hwr;obtain⟨hres,hol,hin⟩:=hwr;have o7:=cR hX 7;have HXO:=J (hxo.below hB.2.2.2.2.1.low);have HRF:=J hRF;have HIN:=J hin;have HVL:=J hvl;have HALL:=J (fun(U:World) (lv:Value) (hb:Below V.heap.size V U) (ho:U.ownsRow V.heap.size 62 1 lv outs.length (uC (Xf x.v outs)))=>show Ox P w0 U pb b B N fv xv F n0 fn o lv false r0∧Xj b pb (fun g=>g=vb∨g ∈ gs) W U from⟨Or.inr ⟨rfl,by
  have hl:(Xf x.v outs).length=outs.length:=by simp [Xf]
  rw [hB.2.2.2.2.2.1,Ou,show Ot P x [] sc tr=.done (Xf x.v outs) sc tr by unfold Ot; simp [hi]];exact⟨by have:=hB.2.2.2.2.2.2.2; omega,by rw [hl,hres,hfn],Zcu hB.1.2.1.ok outs,by rw [hl]; exact Gy ho (by have:=hB.2.2.2.1.size; omega),sp,scc,tp,tc,es,fnn,hB.2.2.2.2.1.grow hb⟩⟩,hB.2.2.2.1.trans (Gq hb)⟩)
 clear hin hres hxo hvl;clear hB hi hX hG hRF hret hfl hfn;rw [Xl];refine Js ?_;conv=>arg 2; whnf
 go_wp2_with fail
 clear o7;go_loopw [192,18] (fun sk sv w'=>∃(k:Nat) (v:Value),sk=.int .i64 k∧sv=v∧k≤outs.length∧w'.ownsRow V.heap.size 62 1 v k (uC (Xf x.v (outs.take k)))∧Below V.heap.size V w') (fun sk _ _=>outs.length-(intOf sk).toNat)
 case atStart=>exact⟨0,_,rfl,rfl,by omega,World.ownsRow_nil _ _ _ _,Below.refl _ _⟩
 case round =>
  obtain⟨k,v0,rfl,rfl,hk,how,hbw⟩:=hrel;obtain⟨vp,vc,rfl⟩:=Zm how;by_cases hk2:k<outs.length
  ·
   obtain⟨p',c',e1,-,-,hcc⟩:=(G HXO).below hbw;injection e1 with f1 f2 f3;obtain⟨ob,oo,hsp,hcell⟩:=hcc (by omega);rw [← f1] at hsp;subst hsp;have dd:=hcell k hk2;obtain⟨hx0,hx1⟩:=G HIN k hk2;obtain⟨mm,hm⟩:∃ mm:Nat,outs.getD k 0=mm:=⟨(outs.getD k 0).toNat,by omega⟩;have HNX:=J (show Xf x.v (outs.take (k+1))=Xf x.v (outs.take k)++[x.v.getD mm 0] by rw [Ky _ _ _ hk2,hm,Int.toNat_natCast]);rw [hm] at dd hx1;have hml:mm<x.v.length:=by omega
   have hmI:(mm:Int)<(fn.homes.length:Int):=by rw [← G HVL]; omega
   have g0:=((G HRF).below hbw).loc hml;have hwz:=hbw.size;have HOW:=J how;have HBW:=J hbw;clear f1 f2 f3 hcc hcell hx0 hx1 hm how hbw;generalize x.v.getD mm 0=y at g0 HNX;go_wp2_with (at_builtin; refine wpList_append_own _ rfl _ _ 30 rfl V.heap.size 62 ti _ 1 8 Tryz.underlying30 hti hty0 hty1 hty2 rfl (by decide) _ _ _ rfl (World.ownsRow.alloc (G HOW) _) ⟨wr.heap.size,0,none⟩ 1 1 [.int .u64 y] rfl rfl (by intro j u hj; match j,hj with | 0,hj=>(simp at hj; subst hj; simp [Addr.add])) (by intro u hu; simp at hu; subst hu; rfl) ?c3 ?c4 ?c5 ?_)
   case c3=>unfold maxLen; omega
   case c4=>omega
   case c5=>first | omega | (simp; omega)
   intro v7 w7 hown7 hgr7 _;have HX7:=J (show w7.ownsRow V.heap.size 62 1 v7 (k+1) (uC (Xf x.v (outs.take (k+1)))) by rw [G HNX,Uu]; exact hown7);have HB7:=J (Rg (G HBW) (G HOW) hgr7);clear hown7 hgr7 dd g0 HOW HBW HNX;go_wp2;go_roundw
   case rel=>exact⟨k+1,_,by go_num,rfl,by omega,G HX7,G HB7⟩
   case measure=>simp [intOf]; omega
  ·
   have hkn:k=outs.length:=by omega
   subst hkn;rw [List.take_length] at how;have HA:=J (G HALL wr _ hbw how);clear how hbw;go_wp2_with fail
   refine Yy (Q:=Q0 .ret) (fun s'=>G HRET _ _ _ _ _ _ _ _ _ _ _ _ _ _ _ _ s' (G HA).1 (G HA).2) _ ?_;rfl
theorem Nt.event {w0 V V2 V3:World}{pb b:Nat}{N:Nat→Prop}{fv xv sv wv:Value}{fuel steps fnn F:Int}{sc ws:List Int}{tr:List (Int×List Int)}{es:List Value}{tp tp':Option Addr}{tc tc':Nat}(h:Nt w0 V pb b N fv xv fuel steps sv sc 0 0 (.slice tp tr.length tc) tr es fnn)(hb:Below V.heap.size V V2)(hwv:V2.ownsRow V.heap.size 62 1 wv ws.length (uC ws))(hN:∀ g,V.heap.size≤g→N g)(hg:V2.grownBy V3 (Value.slice tp tr.length tc).ownBlock)
 (ho:V3.ownsRow b 82 2 (.slice tp' (tr.length+1) tc') (tr.length+1) (evC (tr.map (·.1)) es++[.int .i64 F,wv])) (hblk:∀ g,(Value.slice tp' (tr.length+1) tc').ownBlock=some g→(Value.slice tp tr.length tc).ownBlock=some g∨V2.heap.size≤g) :
 Nt w0 (V3.setCell ⟨pb,7,none⟩ (.slice tp' (tr.length+1) tc')) pb b N fv xv fuel steps sv sc 0 0 (.slice tp' (tr.length+1) tc') (tr++[(F,ws)]) (es++[wv]) fnn∧Xj b pb (fun _=>False) V (V3.setCell ⟨pb,7,none⟩ (.slice tp' (tr.length+1) tc')):=by
 have hrl:=Zd h.row;have hz:=hb.size;have hgz:=hg.size;have hpb:=h.pbb;have hfb:∀ g,(Value.slice tp tr.length tc).ownBlock=some g→b≤g∧g<V.heap.size:=h.tri.row.lt;have hsame:∀ g,g<V2.heap.size→(Value.slice tp tr.length tc).ownBlock≠some g→g≠pb→(V3.setCell ⟨pb,7,none⟩ (.slice tp' (tr.length+1) tc')).heap[g]?=V2.heap[g]?:=fun g h1 h2 h3=>(heap_setCell_other _ _ _ _ h3).trans (hg.block g h1 (fun e=>h2 e.symm));have hsame0:∀ g,g<V.heap.size→(Value.slice tp tr.length tc).ownBlock≠some g→g≠pb→(V3.setCell ⟨pb,7,none⟩ (.slice tp' (tr.length+1) tc')).heap[g]?=V.heap[g]?:=fun g h1 h2 h3=>(hsame g (by omega) h2 h3).trans (hb.block g h1);have hsz:(V3.setCell ⟨pb,7,none⟩ (.slice tp' (tr.length+1) tc')).heap.size=V3.heap.size:=by simp
 have hnt:∀ g cs' t,V.heap[g]?=some (.cells cs' t (0,0))→t≠82→(Value.slice tp tr.length tc).ownBlock≠some g:=fun g cs' t hr' ht e=>by
  obtain⟨cs2,hr2⟩:=own_row h.tri.row e;exact Zs hr2 hr' (fun e=>ht e.symm) rfl
 have hK:Xj b pb (fun _=>False) V (V3.setCell ⟨pb,7,none⟩ (.slice tp' (tr.length+1) tc')):=⟨hg.os.trans hb.os,hg.tape.trans hb.tape,hg.output.trans hb.output,by rw [hsz]; omega,fun g h1 h2 _ h4=>hsame0 g h1 (fun e=>by
  rcases h4 with h4 | h4
  ·
   have:=(hfb g e).1; omega
  ·
   obtain⟨cs2,hr2⟩:=own_row h.tri.row e;exact h4 cs2 hr2) h2⟩
 have hrow3:V3.heap[pb]?=some (.cells #[fv,xv,.int .i64 fuel,.int .i64 steps,sv,.int .i64 0,.int .u64 0,.slice tp tr.length tc,.int .i64 fnn] 78 (0,0)):=(hg.block pb (by omega) (fun e=>hnt pb _ _ h.row (by decide) e.symm)).trans ((hb.block pb hrl).trans h.row);refine⟨⟨⟨hK.os.trans h.low.os,hK.tape.trans h.low.tape,hK.output.trans h.low.output,Nat.le_trans h.low.size hK.size,fun g hg'=>(hK.oth g (by have:=h.low.size; omega) (by have:=h.w0b; omega) id (Or.inl (by have:=h.w0b; omega))).trans (h.low.block g hg')⟩,h.w0b,h.pbb,heap_setCell_same _ _ 7 _ _ _ hrow3,h.scl,h.scb,⟨by simp [h.tri.len],?_,fun g hg'=>?_,fun k hk=>?_⟩,h.npb⟩,hK⟩
 ·
  have ho2:=Yq (V':=V3.setCell ⟨pb,7,none⟩ (.slice tp' (tr.length+1) tc')) ho fun g hg'=>heap_setCell_other _ _ _ _ (by
   rcases hblk g hg' with e | e
   ·
    exact h.npb g (h.tri.out g e)
   ·
    show g≠pb; omega)
  rw [Zcx _ _ _ _ _ h.tri.len,List.length_append];exact ho2
 ·
  rcases hblk g hg' with e | e
  ·
   exact h.tri.out g e
  ·
   exact hN g (by omega)
 ·
  by_cases hk2:k<tr.length
  ·
   have e1:(es++[wv]).getD k .nilIface=es.getD k .nilIface:=by
    have:k<es.length:=by rw [h.tri.len]; exact hk2
    simp [List.getD,List.getElem?_append_left this]
   have e2:(tr++[(F,ws)]).getD k (0,[])=tr.getD k (0,[]):=by simp [List.getD,List.getElem?_append_left hk2]
   rw [e1,e2];refine⟨Yq (h.tri.each k hk2).1 fun g hg'=>?_,(h.tri.each k hk2).2⟩;obtain⟨cs2,hr2⟩:=own_row (h.tri.each k hk2).1 hg';exact hsame0 g (Zd hr2) (hnt g cs2 _ hr2 (by decide)) (Zs hr2 h.row (by decide))
  ·
   have hkk:k=tr.length:=by simp at hk; omega
   subst hkk;have e1:(es++[wv]).getD tr.length .nilIface=wv:=by rw [← h.tri.len]; simp [List.getD]
   have e2:(tr++[(F,ws)]).getD tr.length (0,[])=(F,ws):=by simp [List.getD]
   rw [e1,e2];have hlt:=hwv.lt;refine⟨Gy (B:=V.heap.size) (Yq hwv fun g hg'=>hsame g (hlt g hg').2 (fun e=>by have:=(hfb g e).2; have:=(hlt g hg').1; omega) (by have:=(hlt g hg').1; omega)) (by omega),fun g hg'=>hN g (hlt g hg').1⟩
theorem Nf.kept {V V':World}{x:Xk}{B vb sb b pb:Nat}{gs:List Nat}(h:Nf V x B vb sb gs)(hr:∃ cs,V.heap[pb]?=some (.cells cs 78 (0,0)))(hK:Xj b pb (fun _=>False) V V'):Nf V' x B vb sb gs:=by
 obtain⟨cs,hr⟩:=hr;exact h.keep ((hK.row h.v (Zs h.v hr (by decide)) id (by decide)).trans h.v.symm) ((hK.row h.s (Zs h.s hr (by decide)) id (by decide)).trans h.s.symm) fun k hk=>(hK.row (h.each k hk).1 (Zs (h.each k hk).1 hr (by decide)) id (by decide)).trans (h.each k hk).1.symm
set_option maxHeartbeats 4000000 in
set_option maxRecDepth 100000 in
theorem Znw {P:Zl}{w0 W V:World}{pb b vb sb fbx ib:Nat}{gs:List Nat}{N:Nat→Prop}{fv xv:Value}{F:Nat}{fn:Zn}{box:Array Value}{r0:Zy}{o:List Int}{m:Nat}{x:Xk}{sc:List Int}{tr:List (Int×List Int)}{es:List Value}{sp tp:Option Addr}{scc tc:Nat}{fnn:Int}{Q0:Exit→Act→World→Prop}{a1 a4 a6 a7 a8 a9:Value}{s:Nat→Value}{d a bb n f_:Int}{args:List (Int×Int)}{outs:List Int}{xap xop:Option Addr}{xac xoc:Nat}(hG:Yp P)(hNv:¬ N vb)(hB:Sg P w0 W V pb b vb sb fbx gs N fv xv F fn box r0 o m (m+1) x sc tr es sp tp scc tc fnn)(hi:Zo x=⟨13,d,a,bb,n,f_,args,outs⟩)(hX:V.heap[ib]?=some (.cells #[.int .i64 13,.int .i64 d,.int .i64 a,.int .i64 bb,.int .u64 n,.int .i64 f_,.slice xap args.length xac,.slice xop outs.length xoc] 65 (0,0)))(hex:ExN P w0 W pb b vb sb fbx ib gs N fv xv F fn box r0 o m Q0 a1 a4 a6 a7 a8 a9)(hxa:LS 2 w0 (.slice xap args.length xac) args.length (fun k=>Yz (args.getD k (0,0))))(hxo:Li w0 (.slice xop outs.length xoc) outs)(hN:∀ g,W.heap.size≤g→N g)(hF:F≤20000) :
 Code.wp Tryz.prog (Dd Tryz.f37 5) Q0 (Fr (.pointer (some ⟨pb,0,none⟩)) a1 (.slice (some ⟨vb,0,none⟩) fn.homes.length fn.homes.length) (.slice (some ⟨sb,0,none⟩) fn.slots.length fn.slots.length) a4 (.pointer (some ⟨fbx,0,none⟩)) a6 a7 a8 a9 (.int .i64 x.b) (.int .i64 (x.i+1)) (.pointer (some ⟨ib,0,none⟩)) s) V:=by
 have hfl:=(hB.1.2.1.insG hG).fld;have hfn:=hB.1.1;have hvl:x.v.length=fn.homes.length:=by rw [hB.1.2.1.v,hfn]
 have hsl:x.s.length=fn.slots.length:=by rw [hB.1.2.1.slen,hfn]
 have hRF:=hB.2.1;rw [hi] at hfl;rw [hfn] at hfl;have HEX:=J hex;have HX:=J hX;obtain⟨ti,hti,hty0,hty1,hty2⟩:=Xs Tryz.infoEv;have hwe:=Zea hG hB.1.2.1 (by rw [hi]);rw [hi] at hwe;dsimp only at hwe;obtain⟨hin,hol,hcl,hcA⟩:=hwe;have hS:=hB.2.2.2.2.1;have htl:=hB.2.2.2.2.2.2.1;have hF1:=hB.2.2.2.2.2.2.2;have HNN:=J (fun(g:Nat) (hg:V.heap.size≤g)=>hN g (Nat.le_trans hB.2.2.2.1.size hg));have HFC:=J (Zbm x b vb sb gs args xap xac V.drew (hRF.below (Below.refl _ _).drew) hB.1.2.1.ok (hxa.below hS.low.drew) (by omega) hcA (hB.1.2.1.small hG));rw [hvl,hsl] at HFC;have HCK:=J (fun(U:World) (hb:Below V.heap.size V U)=>show(fun V=>V.cell? ⟨pb,7,none⟩=some (.slice tp tr.length tc)∧V.cell? ⟨ib,5,none⟩=some (.int .i64 f_)∧V.cell? ⟨ib,6,none⟩=some (.slice xap args.length xac)) U from⟨(cR ((hb.block pb (Zd hS.row)).trans hS.row) 7),(cR ((hb.block ib (Zd hX)).trans hX) 5),(cR ((hb.block ib (Zd hX)).trans hX) 6)⟩);have HC0:=J (G HCK V.drew (Below.refl _ _).drew);have HS:=J hS;have HB:=J hB;have HIN:=J hin;have HXO:=J hxo;have HVL:=J hvl;have HI:=J hi;have HG:=J hG;have HNV:=J hNv;clear hin hcA hS hxa hxo hN hvl;clear hB hi hX hG hNv hRF hex hfl hfn;rw [Xl];refine Js ?_;conv=>arg 2; whnf
 refine wp_seq_k fun K hK=>?_;have HK:=J hK;clear hK;refine Xw (C:=fun V=>V.cell? ⟨pb,7,none⟩=some (.slice tp tr.length tc)∧V.cell? ⟨ib,5,none⟩=some (.int .i64 f_)∧V.cell? ⟨ib,6,none⟩=some (.slice xap args.length xac)) (d:=17) (by kernel_rfl) ?_;refine uT 0 (G HC0) ?_;try simp only [Act.put,zA,zB,zC,zD,zE]
 refine uT 1 (G HC0) ?_;try simp only [Act.put,zA,zB,zC,zD,zE,zF]
 refine uT 2 (G HC0) ?_;try simp only [Act.put,zA,zB,zC,zD,zE,zF]
 refine uT 3 (G HC0) ?_;try simp only [Act.put,zA,zB,zC,zD,zE,zF]
 refine uT 4 (G HC0) ?_;try simp only [Act.put,zA,zB,zC,zD,zE,zF]
 refine uT 5 (G HC0) ?_;try simp only [Act.put,zA,zB,zC,zD,zE,zF]
 refine uT 6 (G HC0) ?_;try simp only [Act.put,zA,zB,zC,zD,zE,zF]
 refine uT 7 (G HC0) ?_;try simp only [Act.put,zA,zB,zC,zD,zE,zF]
 refine uT 8 (G HC0) ?_;try simp only [Act.put,zA,zB,zC,zD,zE,zF]
 refine uT 9 (G HC0) ?_;try simp only [Act.put,zA,zB,zC,zD,zE,zF]
 refine uT 10 (G HC0) ?_;try simp only [Act.put,zA,zB,zC,zD,zE,zF]
 refine uO 11 fun K hK=>?_;go_simp;refine(G HFC).mono ?_;rintro e w1 ⟨wv,rfl,hwo,hb1⟩;obtain⟨wp,wc,rfl⟩:=Zm hwo;have hb1':Below V.heap.size V w1:=⟨hb1.os,hb1.tape,hb1.output,hb1.size,hb1.block⟩;have HC1:=J (G HCK w1 hb1');have HB1:=J hb1';have HWO:=J hwo;clear hb1 hb1' hwo;refine hK.out _ _ (fun _=>G HC1) ?_;clear hK K;try simp only [Act.put,zA,zB,zC,zD,zE,zF]
 refine uT 12 (G HC1) ?_;try simp only [Act.put,zA,zB,zC,zD,zE,zF]
 refine uO 13 fun K hK=>?_;go_simp;obtain⟨r2,hb2,hz2⟩:=Yj w1 (.cells #[.int .i64 f_,.slice wp (Zv x args).length wc] 82 (0,0));have HB2:=J (show Below V.heap.size V (w1.alloc (.cells #[.int .i64 f_,.slice wp (Zv x args).length wc] 82 (0,0))) from Za (G HB1) hb2 (G HB1).size);have HW2:=J (World.ownsRow.alloc (G HWO) (.cells #[.int .i64 f_,.slice wp (Zv x args).length wc] 82 (0,0)));have HOW2:=J ((G HS).grow (G HB2)).tri.row;have HC2:=J (G HCK _ (G HB2));have HBB:=J (show b≤(w1.alloc (.cells #[.int .i64 f_,.slice wp (Zv x args).length wc] 82 (0,0))).heap.size by have:=(G HB2).size; have:=(G HS).blt; omega);have c0:∀ j u,[Value.int .i64 f_,.slice wp (Zv x args).length wc][j]?=some u→(w1.alloc (.cells #[.int .i64 f_,.slice wp (Zv x args).length wc] 82 (0,0))).cell? ⟨w1.heap.size,j,none⟩=some u:=fun j u hj=>(Zi r2 j).trans (by simpa using hj);clear r2 hb2 hz2;refine hK.out _ _ (fun _=>G HC2) ?_;clear hK K;try simp only [Act.put,zA,zB,zC,zD,zE,zF]
 generalize World.alloc w1 _=W2 at HB2 HW2 HOW2 HC2 HBB c0 ⊢;refine uO 14 fun K hK=>?_;refine Rl rfl (.tmp 145) (.tmp 154) 36 rfl b 82 ti _ 2 32 Tryz.underlying36 hti hty0 hty1 hty2 rfl (by decide) (.slice tp tr.length tc) tr.length (evC (tr.map (·.1)) es) (by simp [Act.eval]) (G HOW2) ⟨w1.heap.size,0,none⟩ 1 1 [.int .i64 f_,.slice wp (Zv x args).length wc] (by simp [Act.eval]) rfl (by intro j u hj; match j,hj with | 0,hj=>exact c0 0 u hj | 1,hj=>exact c0 1 u hj) (by intro u hu; simp at hu; rcases hu with rfl | rfl <;> rfl) (by unfold maxLen; omega) (by omega) (G HBB) ?_;intro v7 w7 hown7 hgr7 hblk7;obtain⟨tp7,tc7,rfl⟩:=Zm hown7;have hP:=Nt.event (G HS) (G HB2) (G HW2) (G HNN) hgr7 hown7 hblk7;have hrw:So w7 pb fv xv F ((F-m:Nat):Int) (.slice sp sc.length scc) 0 0 (.slice tp tr.length tc) fnn:=by
  have h1:=((G HB2).block pb (Zd (G HS).row)).trans (G HS).row;exact(hgr7.block pb (Zd h1) (fun e=>Xu (G HOW2) h1 (by decide) e.symm)).trans h1
 have hib:w7.heap[ib]?=some (.cells #[.int .i64 13,.int .i64 d,.int .i64 a,.int .i64 bb,.int .u64 n,.int .i64 f_,.slice xap args.length xac,.slice xop outs.length xoc] 65 (0,0)):=by
  have h1:=((G HB2).block ib (Zd (G HX))).trans (G HX);exact(hgr7.block _ (Zd h1) (fun e=>Xu (G HOW2) h1 (by decide) e.symm)).trans h1
 have z7:=frozen_of_row _ _ 7 _ _ hrw;have c7:=cR hrw 7;have HC3:=J (show(fun V=>V.cell? ⟨pb,7,none⟩=some (.slice tp tr.length tc)∧V.cell? ⟨ib,5,none⟩=some (.int .i64 f_)∧V.cell? ⟨ib,6,none⟩=some (.slice xap args.length xac)) w7 from⟨c7,(cR hib 5),(cR hib 6)⟩);have HI8:=J (show(w7.setCell ⟨pb,7,none⟩ (.slice tp7 (tr.length+1) tc7)).heap[ib]?=some (.cells #[.int .i64 13,.int .i64 d,.int .i64 a,.int .i64 bb,.int .u64 n,.int .i64 f_,.slice xap args.length xac,.slice xop outs.length xoc] 65 (0,0)) from(heap_setCell_other _ _ _ _ (show ib≠pb from Zs (G HX) (show V.heap[pb]?=some (.cells _ 78 (0,0)) from(G HS).row) (by decide))).trans hib);have HP:=J hP;clear hown7 hgr7 hblk7 hP hrw c0 hib;refine hK.out _ _ (fun _=>G HC3) ?_;clear hK K;try simp only [Act.put,zA,zB,zC,zD,zE,zF]
 refine uO 15 fun K hK=>?_;go_simp;refine hK.out _ _ (fun _=>G HC3) ?_;clear hK K;try simp only [Act.put,zA,zB,zC,zD,zE,zF]
 refine uO 16 fun K hK=>?_;go_simp;refine hK.out _ _ (fun _=>G HC3) ?_;clear hK K;try simp only [Act.put,zA,zB,zC,zD,zE,zF]
 refine uO 17 fun K hK=>?_;go_simp;refine hK.out _ _ (fun h=>(by cases h)) ?_;clear hK K;try simp only [Act.put,zA,zB,zC,zD,zE,zF]
 refine Gc (by kernel_rfl) ?_ _;clear z7 c7 HC0 HC1 HC2 HC3 HCK;generalize World.setCell w7 _ _=U at HI8 HP ⊢;refine G HK _ _ ?_;clear HK;have hib8:=G HI8;have i7:=cR hib8 7;have HU:=J (show Nf U { x with b:=x.b,i:=x.i+1,v:=Xp x.v (outs.take 0) ((Yt sc outs.length).take 0) } b vb sb gs∧U.heap[fbx]?=some (.cells box 60 (0,0))∧Xj b pb (fun g=>g=vb∨g ∈ gs) W U∧Nt w0 U pb b N fv xv F ((F-m:Nat):Int) (.slice sp (sc.drop 0).length scc) (sc.drop 0) 0 0 (.slice tp7 (tr.length+1) tc7) (tr++[(f_,Zv x args)]) (es++[.slice wp (Zv x args).length wc]) fnn by
  have hB:=G HB;have hP:=G HP;have hrf:=hB.2.1.kept ⟨_,hB.2.2.2.2.1.row⟩ hP.2;refine⟨hrf.nx x.b (x.i+1),hP.2.row hB.2.2.1 (Zs hB.2.2.1 hB.2.2.2.2.1.row (by decide)) id (by decide),hB.2.2.2.1.trans (hP.2.mono fun _ _ h=>h.elim),?_⟩;exact hP.1)
 clear hib8 HI8 HP HS;go_wp2_with fail
 clear i7;go_loopw [161] (fun sk w'=>∃(k:Nat) (spk:Option Addr) (sck:Nat),sk=.int .i64 k∧k≤outs.length∧Nf w' { x with b:=x.b,i:=x.i+1,v:=Xp x.v (outs.take k) ((Yt sc outs.length).take k) } b vb sb gs∧w'.heap[fbx]?=some (.cells box 60 (0,0))∧Xj b pb (fun g=>g=vb∨g ∈ gs) W w'∧Nt w0 w' pb b N fv xv F ((F-m:Nat):Int) (.slice spk (sc.drop k).length sck) (sc.drop k) 0 0 (.slice tp7 (tr.length+1) tc7) (tr++[(f_,Zv x args)]) (es++[.slice wp (Zv x args).length wc]) fnn) (fun sk _=>outs.length-(intOf sk).toNat)
 case atStart=>exact⟨0,sp,scc,rfl,by omega,G HU⟩
 case round =>
  obtain⟨k,spk,sck,rfl,hk,hinv⟩:=hrel;by_cases hk2:k<outs.length
  ·
   clear HEX HU;obtain⟨p',c',e1,-,-,hcc⟩:=(G HXO).below hinv.2.2.2.low;injection e1 with f1 f2 f3;obtain⟨ob,oo,hsp,hcell⟩:=hcc (by omega);rw [← f1] at hsp;subst hsp;have dd:=hcell k hk2;obtain⟨hx0,hx1⟩:=G HIN k hk2;obtain⟨mm,hm⟩:∃ mm:Nat,outs.getD k 0=mm:=⟨(outs.getD k 0).toNat,by omega⟩;have HNX:=J (show Xp x.v (outs.take (k+1)) ((Yt sc outs.length).take (k+1))=(Xp x.v (outs.take k) ((Yt sc outs.length).take k)).set mm (sc.getD k 0) by rw [Sb _ _ _ _ hk2 (by simp [Yt]; exact hk2),hm,Int.toNat_natCast]; congr 1; simp [Yt,List.getD,hk2]);rw [hm] at dd hx1;have hmI:(mm:Int)<(fn.homes.length:Int):=by rw [← G HVL]; exact hx1
   have hml:mm<(Xp x.v (outs.take k) ((Yt sc outs.length).take k)).length:=by rw [Rf]; omega
   have HNXT:=J (fun(U5:World) (spq:Option Addr) (scq:Nat) (hr:Nf U5 { x with b:=x.b,i:=x.i+1,v:=Xp x.v (outs.take k) ((Yt sc outs.length).take k) } b vb sb gs) (hbx:U5.heap[fbx]?=some (.cells box 60 (0,0))) (hkp:Xj b pb (fun g=>g=vb∨g ∈ gs) W U5) (hps:Nt w0 U5 pb b N fv xv F ((F-m:Nat):Int) (.slice spq (sc.drop (k+1)).length scq) (sc.drop (k+1)) 0 0 (.slice tp7 (tr.length+1) tc7) (tr++[(f_,Zv x args)]) (es++[.slice wp (Zv x args).length wc]) fnn)=>show(Nf (U5.setCell ⟨vb,mm,none⟩ (.int .u64 (sc.getD k 0))) { x with b:=x.b,i:=x.i+1,v:=Xp x.v (outs.take (k+1)) ((Yt sc outs.length).take (k+1)) } b vb sb gs∧(U5.setCell ⟨vb,mm,none⟩ (.int .u64 (sc.getD k 0))).heap[fbx]?=some (.cells box 60 (0,0))∧Xj b pb (fun g=>g=vb∨g ∈ gs) W (U5.setCell ⟨vb,mm,none⟩ (.int .u64 (sc.getD k 0)))∧Nt w0 (U5.setCell ⟨vb,mm,none⟩ (.int .u64 (sc.getD k 0))) pb b N fv xv F ((F-m:Nat):Int) (.slice spq (sc.drop (k+1)).length scq) (sc.drop (k+1)) 0 0 (.slice tp7 (tr.length+1) tc7) (tr++[(f_,Zv x args)]) (es++[.slice wp (Zv x args).length wc]) fnn) by
    have hvs:∀ q,q<U5.heap.size→q≠vb→q ∉ gs→(U5.setCell ⟨vb,mm,none⟩ (.int .u64 (sc.getD k 0))).heap[q]?=U5.heap[q]?:=fun q _ h1 _=>heap_setCell_other _ _ _ _ h1;refine⟨?_,(hvs fbx (Zd hbx) (Zs hbx hr.v (by decide)) (fun hm=>by obtain⟨c,hc⟩:=hr.mem fbx hm; exact Zs hbx hc (by decide) rfl)).trans hbx,hkp.trans ⟨rfl,rfl,rfl,by simp,fun g g1 _ g3 _=>hvs g g1 (fun e=>g3 (Or.inl e)) (fun e=>g3 (Or.inr e))⟩,hps.vars ⟨_,hr.v⟩ hr.mem hr.vB hr.memB (G HNV) rfl rfl rfl (by simp) hvs⟩;rw [G HNX];exact hr.setv mm (sc.getD k 0))
   clear f1 f2 f3 hcc hcell hx0 hx1 hm;have HINV:=J hinv;cases hsd:sc.drop k with
   | nil =>
    rw [hsd] at hinv;have hg0:sc.getD k 0=0:=by
     have:sc.length≤k:=by simpa using hsd
     simp [List.getD,this]
    have hs1:sc.drop (k+1)=[]:=by
     have:sc.length≤k:=by simpa using hsd
     exact List.drop_of_length_le (by omega)
    have HAN:=J (Zct pb fv xv (.slice tp7 (tr.length+1) tc7) spk sck F ((F-m:Nat):Int) 0 0 fnn wr hinv.2.2.2.row);have g0:=hinv.1.loc hml;have z0:=frozen_of_row _ _ mm _ _ hinv.1.v;have HF5:=J (G HNXT wr spk sck hinv.1 hinv.2.1 hinv.2.2.1 (by rw [hs1]; exact hinv.2.2.2));rw [hg0] at HF5;generalize (Xp x.v (outs.take k) ((Yt sc outs.length).take k)).getD mm 0=yd at g0;clear hinv HNXT HINV hsd hg0 hs1;go_wp2_with fail
    refine(G HAN).mono ?_;rintro e w5 ⟨rfl,hw5⟩;subst w5;clear HAN;go_wp2;go_roundw
    case rel=>exact⟨k+1,spk,sck,by go_num,by omega,G HF5⟩
    case measure=>simp [intOf]; omega
   | cons y rest =>
    have hkl:k<sc.length:=by
     rcases Nat.lt_or_ge k sc.length with h | h
     ·
      exact h
     ·
      rw [List.drop_of_length_le h] at hsd; cases hsd
    have hgy:sc.getD k 0=y:=by
     rw [List.drop_eq_getElem_cons hkl] at hsd;injection hsd with h1 h2;rw [Yu _ _ _ hkl,h1]
    have hs1:sc.drop (k+1)=rest:=by
     rw [List.drop_eq_getElem_cons hkl] at hsd;injection hsd
    have hps:=hinv.2.2.2;have hsl:=hps.scl;rw [hsd] at hsl;have hrow:=hps.row;rw [hsd] at hrow;obtain⟨pq,cq,eq,hq1,hq2,hq3⟩:=hsl;injection eq with eq1 eq2 eq3;obtain⟨ab,ao,eq4,hcl⟩:=hq3 (by simp);rw [← eq1] at eq4;subst eq4;have hc0:=hcl 0 (by simp);have hcy:wr.cell? ⟨ab,ao,none⟩=some (.int .u64 y):=(hps.low.cell (World.block_lt_of_cell? _ _ hc0)).trans hc0;have hsck:rest.length+1≤sck:=by rw [eq3]; simpa using hq1
    have hrl:rest.length<4611686018427387904:=by simp at hq2; omega
    have HAN:=J (Zei pb fv xv (.slice tp7 (tr.length+1) tc7) ab ao sck (if sck=1 then some ⟨ab,ao,none⟩ else some ⟨ab,ao+1,none⟩) F ((F-m:Nat):Int) 0 0 fnn y rest.length wr hrow hcy hrl hsck rfl);have hLD:Lv w0 (.slice (if sck=1 then some ⟨ab,ao,none⟩ else some ⟨ab,ao+1,none⟩) rest.length (sck-1)) rest:=by
     have h0:=hps.scl;rw [hsd] at h0;have:=Od (ws:=y :: rest) h0 (j:=1) (by simp);simpa using this
    have HALL:=J (fun(U5:World) (hO:Ok pb wr U5) (hr:So U5 pb fv xv F ((F-m:Nat):Int) (.slice (if sck=1 then some ⟨ab,ao,none⟩ else some ⟨ab,ao+1,none⟩) rest.length (sck-1)) 0 0 (.slice tp7 (tr.length+1) tc7) fnn)=>(show(Nf U5 { x with b:=x.b,i:=x.i+1,v:=Xp x.v (outs.take k) ((Yt sc outs.length).take k) } b vb sb gs)∧_ from⟨hinv.1.keep (hO.oth _ (Zs hinv.1.v hps.row (by decide))) (hO.oth _ (Zs hinv.1.s hps.row (by decide))) (fun k hk=>hO.oth _ (Zs (hinv.1.each k hk).1 hps.row (by decide))),G HNXT U5 (if sck=1 then some ⟨ab,ao,none⟩ else some ⟨ab,ao+1,none⟩) (sck-1) (hinv.1.keep (hO.oth _ (Zs hinv.1.v hps.row (by decide))) (hO.oth _ (Zs hinv.1.s hps.row (by decide))) (fun k hk=>hO.oth _ (Zs (hinv.1.each k hk).1 hps.row (by decide)))) ((hO.oth _ (Zs hinv.2.1 hps.row (by decide))).trans hinv.2.1) (hinv.2.2.1.trans (Ux hO)) (by
     rw [hs1];exact hps.own hO hr hLD (fun n hn=>hps.scb n (by rw [hsd]; exact List.mem_cons_of_mem _ hn)))⟩))
    rw [hgy] at HALL;clear hinv HNXT HINV hsd hs1 hps hrow hq1 hq2 hq3 eq1 eq2 eq3 hcl hc0 hLD hgy hsl;go_wp2_with fail
    refine(G HAN).mono ?_;rintro e w5 ⟨rfl,hO5,hR5⟩;have hA5:=G HALL w5 hO5 hR5;have g0:=hA5.1.loc hml;have z0:=frozen_of_row _ _ mm _ _ hA5.1.v;have HF5:=J hA5.2;generalize (Xp x.v (outs.take k) ((Yt sc outs.length).take k)).getD mm 0=yd at g0;clear hO5 hR5 hA5 HALL HAN hcy;go_wp2;go_roundw
    case rel=>exact⟨k+1,_,_,by go_num,by omega,G HF5⟩
    case measure=>simp [intOf]; omega
  ·
   have hkn:k=outs.length:=by omega
   subst hkn;have hto:(Yt sc outs.length).take outs.length=Yt sc outs.length:=List.take_of_length_le (by simp [Yt]);rw [List.take_length,hto] at hinv;have HB5:=J (show Sg P w0 W wr pb b vb sb fbx gs N fv xv F fn box r0 o m m { Zp x with v:=Xp x.v outs (Yt sc outs.length) } (sc.drop outs.length) (tr++[(f_,Zv x args)]) (es++[.slice wp (Zv x args).length wc]) spk tp7 sck tc7 fnn by
    have hB:=G HB;have hi:=G HI;have h5:=hinv.2.2.2;refine⟨⟨hB.1.1,((hB.1.2.1.next (G HG) (by rw [hi]; show(13:Int)<14; decide)).setVs _ (Zcv hB.2.2.2.2.1.scb _)),hB.1.2.2⟩,hinv.1,hinv.2.1,hinv.2.2.1,by rw [List.length_append]; exact h5,?_,by rw [List.length_append]; simp only [List.length_cons,List.length_nil]; omega,by omega⟩;rw [hB.2.2.2.2.2.1,Ou,show Ot P x [] sc tr=.go [{ Zp x with v:=Xp x.v outs (Yt sc outs.length) }] (sc.drop outs.length) (tr++[(f_,Zv x args)]) by unfold Ot; simp [hi]];rfl)
   clear hinv hto;go_wp2_with fail
   refine Yy (Q:=Q0 .normal) (fun s'=>G HEX m _ _ _ _ _ _ _ _ _ _ s' (Nat.le_refl _) (G HB5)) _ ?_;rfl
set_option maxHeartbeats 4000000 in
set_option maxRecDepth 100000 in
theorem Zly {P:Zl}{w0 W V:World}{pb b vb sb fbx ib:Nat}{gs:List Nat}{N:Nat→Prop}{fv xv:Value}{F:Nat}{fn:Zn}{box:Array Value}{r0:Zy}{o:List Int}{m:Nat}{x:Xk}{sc:List Int}{tr:List (Int×List Int)}{es:List Value}{sp tp:Option Addr}{scc tc:Nat}{fnn:Int}{Q0:Exit→Act→World→Prop}{a1 a4 a6 a7 a8 a9:Value}{s:Nat→Value}{d a bb n f_:Int}{args:List (Int×Int)}{outs:List Int}{xap xop:Option Addr}{xac xoc:Nat}{B n0 fb fo fc:Nat}(hG:Yp P)(hNv:¬ N vb)(hB:Sg P w0 W V pb b vb sb fbx gs N fv xv F fn box r0 o m (m+1) x sc tr es sp tp scc tc fnn)(hi:Zo x=⟨12,d,a,bb,n,f_,args,outs⟩)(hX:V.heap[ib]?=some (.cells #[.int .i64 12,.int .i64 d,.int .i64 a,.int .i64 bb,.int .u64 n,.int .i64 f_,.slice xap args.length xac,.slice xop outs.length xoc] 65 (0,0)))(hfv:fv=(.slice (some ⟨fb,fo,none⟩) P.funcs.length fc))(hex:ExN P w0 W pb b vb sb fbx ib gs N fv xv F fn box r0 o m Q0 a1 a4 a6 a7 a8 a9)(hret:ExR P w0 W pb b vb B gs N fv xv F n0 fn r0 o Q0)(hxa:LS 2 w0 (.slice xap args.length xac) args.length (fun k=>Yz (args.getD k (0,0))))(hxo:Li w0 (.slice xop outs.length xoc) outs)(hN:∀ g,W.heap.size≤g→N g)(hcall:Sf P w0 pb b fb fo fc F xv m) :
 Code.wp Tryz.prog (Dd Tryz.f37 4) Q0 (Fr (.pointer (some ⟨pb,0,none⟩)) a1 (.slice (some ⟨vb,0,none⟩) fn.homes.length fn.homes.length) (.slice (some ⟨sb,0,none⟩) fn.slots.length fn.slots.length) a4 (.pointer (some ⟨fbx,0,none⟩)) a6 a7 a8 a9 (.int .i64 x.b) (.int .i64 (x.i+1)) (.pointer (some ⟨ib,0,none⟩)) s) V:=by
 have hfl:=(hB.1.2.1.insG hG).fld;have hfn:=hB.1.1;have hvl:x.v.length=fn.homes.length:=by rw [hB.1.2.1.v,hfn]
 have hsl:x.s.length=fn.slots.length:=by rw [hB.1.2.1.slen,hfn]
 have hRF:=hB.2.1;rw [hi] at hfl;rw [hfn] at hfl;have HEX:=J hex;have HRET:=J hret;have HX:=J hX;subst hfv;have hwc:=Zbe hG hB.1.2.1 (by rw [hi]);rw [hi] at hwc;dsimp only at hwc;obtain⟨hcf,hol,hin,hca,hcl,hcA,hF0,hF1⟩:=hwc;obtain⟨k,rfl⟩:=Int.eq_ofNat_of_zero_le hF0;rw [Int.toNat_natCast] at hcf hol hca;have hS:=hB.2.2.2.2.1;have htl:=hB.2.2.2.2.2.2.1;have hFm:=hB.2.2.2.2.2.2.2;have hH:=hG.fnH hcf;have hr4:=hH.r1;have hwl:(Zv x args).length=Xe (P.funcs.getD k Ze).params:=(Mx x args).trans (Of hca);have hw8:(Zv x args).length≤100000:=by
  have h2:=Uo (l:=(P.funcs.getD k Ze).params) (fun j hj=>(hH.pw j hj).2.1);have h3:=hH.pl;omega
 have HFC:=J (Zbm x b vb sb gs args xap xac V.drew (hRF.below (Below.refl _ _).drew) hB.1.2.1.ok (hxa.below hS.low.drew) (by omega) hcA (hB.1.2.1.small hG));rw [hvl,hsl] at HFC;have HCK:=J (fun(U:World) (h1:U.heap[ib]?=some (.cells #[.int .i64 12,.int .i64 d,.int .i64 a,.int .i64 bb,.int .u64 n,.int .i64 (k:Int),.slice xap args.length xac,.slice xop outs.length xoc] 65 (0,0)))=>show(fun V=>V.cell? ⟨ib,5,none⟩=some (.int .i64 (k:Int))∧V.cell? ⟨ib,6,none⟩=some (.slice xap args.length xac)) U from⟨(cR h1 5),(cR h1 6)⟩);have HCALL:=J (fun(w1:World) (hb:Below V.heap.size V w1) (wp:Option Addr) (wc:Nat) (ho:w1.ownsRow V.heap.size 62 1 (.slice wp (Zv x args).length wc) (Zv x args).length (uC (Zv x args)))=>hcall N w1 k (Zv x args) outs wp sp tp wc scc tc sc tr es fnn (hS.grow hb) (fun g hg=>hN g (Nat.le_trans hB.2.2.2.1.size (Nat.le_trans hb.size hg))) (by omega) (by omega) hwl (Og hB.1.2.1.ok args) (Ov ho (by omega)) (by omega));have HR0:=J (show r0=(ev P m [Jj (P.funcs.getD k Ze) (Zv x args) outs] sc tr).bind (Zmt P outs [Zp x]) by
  rw [hB.2.2.2.2.2.1,Ou,show Ot P x [] sc tr=.go [Jj (P.funcs.getD k Ze) (Zv (Zp x) args) outs,Zp x] sc tr by unfold Ot; simp [hi,Ma]];exact Uw P m (Jj (P.funcs.getD k Ze) (Zv x args) outs) [] [Zp x] sc tr)
 have HEL:=J (Zjm P m [Jj (P.funcs.getD k Ze) (Zv x args) outs] sc tr);have hibpb:ib≠pb:=Zs hX (show V.heap[pb]?=some (.cells _ 78 (0,0)) from hS.row) (by decide);have HB:=J hB;have HIN:=J hin;have HXO:=J hxo;have HVL:=J hvl;have HI:=J hi;have HG:=J hG;have HNV:=J hNv;have HOL:=J hol;clear hin hcA hS hxa hxo hN hvl hcall hcf hca hH hwl hol hNv hex;clear hB hi hX hG hRF hret hfl hfn;rw [Xl];refine Js ?_;conv=>arg 2; whnf
 refine wp_seq_k fun K hK=>?_;have HK:=J hK;clear hK;refine wp_region_held_drew (S:=fun V=>V.cell? ⟨ib,5,none⟩=some (.int .i64 (k:Int))∧V.cell? ⟨ib,6,none⟩=some (.slice xap args.length xac)) (by kernel_rfl) (G HCK _ (G HX)) (fun hHeld=>?_);refine tT 0 ?_;try simp only [Act.put,zA,zB,zC,zD,zE]
 refine tT 1 ?_;try simp only [Act.put,zA,zB,zC,zD,zE,zF]
 refine tT 2 ?_;try simp only [Act.put,zA,zB,zC,zD,zE,zF]
 refine tT 3 ?_;try simp only [Act.put,zA,zB,zC,zD,zE,zF]
 refine tT 4 ?_;try simp only [Act.put,zA,zB,zC,zD,zE,zF]
 refine tT 5 ?_;try simp only [Act.put,zA,zB,zC,zD,zE,zF]
 refine tT 6 ?_;try simp only [Act.put,zA,zB,zC,zD,zE,zF]
 refine tO 7 fun K hK=>?_;go_simp;refine(G HFC).mono ?_;rintro e w1 ⟨wv,rfl,hwo,hb1⟩;obtain⟨wp,wc,rfl⟩:=Zm hwo;have hb1':Below V.heap.size V w1:=⟨hb1.os,hb1.tape,hb1.output,hb1.size,hb1.block⟩;have HB1:=J hb1';have HX1:=J ((hb1'.block ib (Zd (G HX))).trans (G HX));have HC1:=J (G HCALL w1 hb1' wp wc hwo);clear hb1 hb1' hwo HFC HCALL;refine hK.out _ _ (G HCK _ (G HX1)) (fun hHeld2=>?_);clear hK K;try simp only [Act.put,zA,zB,zC,zD,zE,zF]
 refine tO 8 fun K hK=>?_;go_simp;refine(G HC1).mono ?_;rintro e w2 ⟨lv,rfl,hres,hkp⟩;obtain⟨lp,ln,lc,rfl⟩:∃ lp ln lc,lv=.slice lp ln lc:=by
  revert hres
  cases ev P m [Jj (P.funcs.getD k Ze) (Zv x args) outs] sc tr using Zy.el with
  | done l m' sc' tr'=>intro h; obtain⟨p,c,e⟩:=Zm h.2.2.2.1; exact⟨p,_,c,e⟩
  | trap c m' sc' tr'=>intro h; exact⟨_,_,_,h.2.1⟩
  | spent sc' tr'=>intro h; exact⟨_,_,_,h.1⟩
 have HRES:=J hres;have HKP:=J hkp;have HX2:=J (hkp.row (G HX1) hibpb id (by decide));clear hres hkp HC1;refine hK.out _ _ (G HCK _ (G HX2)) (fun hHeld2=>?_);clear hK K;try simp only [Act.put,zA,zB,zC,zD,zE,zF]
 refine tT 9 ?_;try simp only [Act.put,zA,zB,zC,zD,zE,zF]
 refine wpAnyH_done (by kernel_rfl) ?_ _;refine G HK _ _ ?_;clear HK HCK;have HKW:=J ((G HB).2.2.2.1.trans ((Gq (G HB1)).trans ((G HKP).mono fun _ _ h=>h.elim)));have hres:=G HRES;cases hev:ev P m [Jj (P.funcs.getD k Ze) (Zv x args) outs] sc tr using Zy.el with
 | trap c m' sc' tr' =>
  rw [hev] at hres;obtain⟨hm',hlv,sp',scc',tp',tc',es',fnn',hps⟩:=hres;clear hlv HRES;have o5:=cR hps.row 5;have HA:=J (show Ox P w0 w2 pb b B N (.slice (some ⟨fb,fo,none⟩) P.funcs.length fc) xv F n0 fn o (.slice none 0 0) false r0 from Or.inr ⟨rfl,by
   rw [G HR0,hev];exact⟨hm',rfl,sp',scc',tp',tc',es',fnn',hps⟩⟩)
  clear hps hev;go_wp2_with fail
  refine Yy (Q:=Q0 .ret) (fun s'=>G HRET _ _ _ _ _ _ _ _ _ _ _ _ _ _ _ _ s' (G HA) (G HKW)) _ ?_;rfl
 | spent sc' tr' =>
  rw [hev] at hres;obtain⟨hlv,sp',scc',tp',tc',es',fnn',hps⟩:=hres;clear hlv HRES;have o5:=cR hps.row 5;have HA:=J (show Ox P w0 w2 pb b B N (.slice (some ⟨fb,fo,none⟩) P.funcs.length fc) xv F n0 fn o (.slice none 0 0) false r0 from Or.inr ⟨rfl,by
   rw [G HR0,hev];exact⟨rfl,sp',scc',tp',tc',es',fnn',hps⟩⟩)
  clear hps hev;go_wp2_with fail
  refine Yy (Q:=Q0 .ret) (fun s'=>G HRET _ _ _ _ _ _ _ _ _ _ _ _ _ _ _ _ s' (G HA) (G HKW)) _ ?_;rfl
 | done l m' sc' tr' =>
  rw [hev] at hres;obtain⟨hm',hll,hlb,how,sp',scc',tp',tc',es',fnn',hps⟩:=hres;have hel:=(G HEL).1 l m' sc' tr' hev;obtain⟨lp',lc',elv⟩:=Zm how;injection elv with el1 el2 el3;subst el1 el3;have HLL:=J (show outs.length=l.length by have:=G HOL; omega);have o5:=cR hps.row 5;have i7:=cR (G HX2) 7;have HU:=J (show Nf w2 { x with b:=x.b,i:=x.i+1,v:=Xp x.v (outs.take 0) (l.take 0) } b vb sb gs∧w2.heap[fbx]?=some (.cells box 60 (0,0))∧Xj b pb (fun g=>g=vb∨g ∈ gs) W w2∧w2.ownsRow w1.heap.size 62 1 (.slice lp l.length lc) l.length (uC l)∧Nt w0 w2 pb b N (.slice (some ⟨fb,fo,none⟩) P.funcs.length fc) xv F ((F-m':Nat):Int) (.slice sp' sc'.length scc') sc' 0 0 (.slice tp' tr'.length tc') tr' es' fnn' by
   have hB:=G HB;rw [el2] at how;have hrf:=(hB.2.1.below (G HB1)).kept ⟨_,(hB.2.2.2.2.1.grow (G HB1)).row⟩ (G HKP);refine⟨hrf.nx x.b (x.i+1),(G HKP).row (((G HB1).block fbx (Zd hB.2.2.1)).trans hB.2.2.1) (Zs hB.2.2.1 hB.2.2.2.2.1.row (by decide)) id (by decide),G HKW,how,hps⟩)
  have HLB:=J hlb;have HEV:=J hev;have HEN:=J el2;have hvw1:vb<w1.heap.size:=Nat.lt_of_lt_of_le (Zd (G HB).2.1.v) (G HB1).size;have hl4:l.length≤100000:=by have:=G HOL; have:=hr4; omega
  clear how hps hlb hll hev HRES;rw [el2];clear el2;go_wp2_with fail
  clear i7 o5;go_loopw [126] (fun sk w'=>∃(k:Nat),sk=.int .i64 k∧k≤outs.length∧Nf w' { x with b:=x.b,i:=x.i+1,v:=Xp x.v (outs.take k) (l.take k) } b vb sb gs∧w'.heap[fbx]?=some (.cells box 60 (0,0))∧Xj b pb (fun g=>g=vb∨g ∈ gs) W w'∧w'.ownsRow w1.heap.size 62 1 (.slice lp l.length lc) l.length (uC l)∧Nt w0 w' pb b N (.slice (some ⟨fb,fo,none⟩) P.funcs.length fc) xv F ((F-m':Nat):Int) (.slice sp' sc'.length scc') sc' 0 0 (.slice tp' tr'.length tc') tr' es' fnn') (fun sk _=>outs.length-(intOf sk).toNat)
  case atStart=>exact⟨0,rfl,by omega,G HU⟩
  case round =>
   obtain⟨j,rfl,hj,hinv⟩:=hrel;have hll:=G HLL;by_cases hj2:j<outs.length
   ·
    clear HEX HU HRET;obtain⟨p',c',e1,-,-,hcc⟩:=(G HXO).below hinv.2.2.2.2.low;injection e1 with f1 f2 f3;obtain⟨ob,oo,hsp,hcell⟩:=hcc (by omega);rw [← f1] at hsp;subst hsp;have dd:=hcell j hj2;obtain⟨hx0,hx1⟩:=G HIN j hj2;obtain⟨mm,hm⟩:∃ mm:Nat,outs.getD j 0=mm:=⟨(outs.getD j 0).toNat,by omega⟩;have HNX:=J (show Xp x.v (outs.take (j+1)) (l.take (j+1))=(Xp x.v (outs.take j) (l.take j)).set mm (l.getD j 0) by rw [Sb _ _ _ _ hj2 (by omega),hm,Int.toNat_natCast]);rw [hm] at dd hx1;have hmI:(mm:Int)<(fn.homes.length:Int):=by rw [← G HVL]; exact hx1
    have hml:mm<(Xp x.v (outs.take j) (l.take j)).length:=by rw [Rf]; omega
    have hjl:j<l.length:=by omega
    have hjI:(j:Int)<(l.length:Int):=by omega
    obtain⟨gl,hgl,hglw,hlc⟩:=Nz hinv.2.2.2.1 hjl;subst hgl;have gl0:wr.cell? ⟨gl,j,none⟩=some (.int .u64 (l.getD j 0)):=by rw [hlc]; simp [uC,List.getD,hjl]
    have g0:=hinv.1.loc hml;have z0:=frozen_of_row _ _ mm _ _ hinv.1.v;have HF5:=J (show(Nf (wr.setCell ⟨vb,mm,none⟩ (.int .u64 (l.getD j 0))) { x with b:=x.b,i:=x.i+1,v:=Xp x.v (outs.take (j+1)) (l.take (j+1)) } b vb sb gs∧(wr.setCell ⟨vb,mm,none⟩ (.int .u64 (l.getD j 0))).heap[fbx]?=some (.cells box 60 (0,0))∧Xj b pb (fun g=>g=vb∨g ∈ gs) W (wr.setCell ⟨vb,mm,none⟩ (.int .u64 (l.getD j 0)))∧(wr.setCell ⟨vb,mm,none⟩ (.int .u64 (l.getD j 0))).ownsRow w1.heap.size 62 1 (.slice (some ⟨gl,0,none⟩) l.length lc) l.length (uC l)∧Nt w0 (wr.setCell ⟨vb,mm,none⟩ (.int .u64 (l.getD j 0))) pb b N (.slice (some ⟨fb,fo,none⟩) P.funcs.length fc) xv F ((F-m':Nat):Int) (.slice sp' sc'.length scc') sc' 0 0 (.slice tp' tr'.length tc') tr' es' fnn') by
     have hvs:∀ q,q<wr.heap.size→q≠vb→q ∉ gs→(wr.setCell ⟨vb,mm,none⟩ (.int .u64 (l.getD j 0))).heap[q]?=wr.heap[q]?:=fun q _ h1 _=>heap_setCell_other _ _ _ _ h1;refine⟨?_,(hvs fbx (Zd hinv.2.1) (Zs hinv.2.1 hinv.1.v (by decide)) (fun hm=>by obtain⟨c,hc⟩:=hinv.1.mem fbx hm; exact Zs hinv.2.1 hc (by decide) rfl)).trans hinv.2.1,hinv.2.2.1.trans ⟨rfl,rfl,rfl,by simp,fun g g1 _ g3 _=>hvs g g1 (fun e=>g3 (Or.inl e)) (fun e=>g3 (Or.inr e))⟩,Yq hinv.2.2.2.1 (fun g hg=>heap_setCell_other _ _ _ _ (by show g≠vb; have:=(hinv.2.2.2.1.lt g hg).1; omega)),hinv.2.2.2.2.vars ⟨_,hinv.1.v⟩ hinv.1.mem hinv.1.vB hinv.1.memB (G HNV) rfl rfl rfl (by simp) hvs⟩;rw [G HNX];exact hinv.1.setv mm (l.getD j 0))
    generalize (Xp x.v (outs.take j) (l.take j)).getD mm 0=yd at g0;generalize l.getD j 0=yl at gl0 HF5 HNX;clear f1 f2 f3 hcc hcell hx0 hx1 hm hinv hlc hll HNX;go_wp2;go_roundw
    case rel=>exact⟨j+1,by go_num,by omega,G HF5⟩
    case measure=>simp [intOf]; omega
   ·
    have hjn:j=outs.length:=by omega
    subst hjn;have hto:l.take outs.length=l:=List.take_of_length_le (by omega);rw [List.take_length,hto] at hinv;have HB5:=J (show Sg P w0 W wr pb b vb sb fbx gs N (.slice (some ⟨fb,fo,none⟩) P.funcs.length fc) xv F fn box r0 o m' m' { Zp x with v:=Xp x.v outs l } sc' tr' es' sp' tp' scc' tc' fnn' by
     have hB:=G HB;have hi:=G HI;refine⟨⟨hB.1.1,((hB.1.2.1.next (G HG) (by rw [hi]; show(12:Int)<14; decide)).setVs _ (G HLB)),hB.1.2.2⟩,hinv.1,hinv.2.1,hinv.2.2.1,hinv.2.2.2.2,?_,by omega,hm'⟩;rw [G HR0,G HEV];rfl)
    clear hinv hto;go_wp2_with fail
    refine Yy (Q:=Q0 .normal) (fun s'=>G HEX m' _ _ _ _ _ _ _ _ _ _ s' (by omega) (G HB5)) _ ?_;rfl
end Go.Proofs.YteddfaconabobaaGreatDoor
