import Derived.Test.YtedemloocadimaaGreatDoorJ24
import Derived.Test.YtedemloocadimaaGreatDoorJ39
namespace Go.Proofs.YtedemloocadimaaGreatDoor
open Go.RowKit
set_option maxHeartbeats 8000000
set_option maxRecDepth 100000
theorem Zdi {w:World}{wb wo c j:Nat}{ws:List Int}(h:Cg w (.slice (some ⟨wb,wo,none⟩) ws.length c) ws)(hj:j≤ws.length):Cg w (.slice (if c=j then some ⟨wb,wo,none⟩ else some ⟨wb,wo+j,none⟩) (ws.drop j).length (c-j)) (ws.drop j):=by
 obtain⟨p,cap,e,h2,h3,h4⟩:=h;injection e with e1 e2 e3;subst e1 e3;refine⟨_,_,rfl,by simp; omega,by simp; omega,fun h0=>?_⟩;rw [List.length_drop] at h0;rw [if_neg (by omega)];refine⟨wb,wo+j,rfl,fun i hi=>?_⟩;rw [List.length_drop] at hi;obtain⟨sb,so,e,hc⟩:=h4 (by omega);injection e with e;injection e with e5 e6;subst e5 e6;have:=hc (j+i) (by omega);rw [← Nat.add_assoc] at this;rw [this];simp [List.getD]
def Mr (l:List (Int×Int)):Nat:=(l.map fun p=>if p.1=0 then 1 else p.1.toNat).foldr (·+·) 0
def Zvc (v:List Int)(s:List (List Int))(p:Int×Int):Prop:=0≤p.1∧p.1≤8∧0≤p.2∧(p.1=0→p.2<v.length)∧(p.1≠0→p.2<s.length∧8*p.1≤(s.getD p.2.toNat []).length)
theorem Zvd {bs:List Int}(h:∀ n ∈ bs,0≤n∧n<256)(a k:Nat)(v:Int):∀ n ∈ stB bs a k v,0≤n∧n<256:=fun n hn=>by
 unfold stB at hn;obtain⟨i,-,rfl⟩:=List.mem_map.1 hn;unfold upd;split
 ·
  unfold byt; omega
 ·
  exact Zgp h i
theorem Zjn {bs:List Int}(h:∀ n ∈ bs,0≤n∧n<256)(ws:List Int):∀ k,∀ n ∈ Cu bs ws k,0≤n∧n<256
 | 0=>h
 | k+1=>by rw [Ih]; exact Zvd (Zjn h ws k) _ _ _
theorem Zjo {bs:List Int}(h:∀ n ∈ bs,0≤n∧n<256)(ws:List Int):∀ n ∈ Zby bs ws,0≤n∧n<256:=Zjn h ws ws.length
theorem Zbd (bs ws:List Int):(Zby bs ws).length=bs.length:=Zbc bs ws ws.length
theorem Zzq {g lo hi:Nat}{w w':World}(h:One g w w')(h1:lo≤g)(h2:g<hi):OnB lo hi w w':=⟨h.os,h.tape,h.output,Nat.le_of_eq h.size.symm,fun q _ hd=>h.oth q (by omega)⟩
theorem Zzr {w0 V V':World}{x:Nl}{q lo hi lg bc sc oc:Nat}{bp sp op:Option Addr}{gs:List Nat}{B:Nat→Value}(h:Na w0 V x q lo hi lg bp sp op bc sc oc gs B){k:Nat}(hk:k<x.s.length){l:List Int}(hl:l.length=(x.s.getD k []).length)(hg:V'.heap[gs.getD k 0]?=some (.cells (yC l).toArray 5 (0,0)))(hO:One (gs.getD k 0) V V'):Na w0 V' { x with s:=x.s.set k l } q lo hi lg bp sp op bc sc oc gs B:=by
 have hr:=(h.each k hk).1;have hl2:({ x with s:=x.s.set k l }:Nl).s.length=x.s.length:=by simp
 refine⟨h.ql,h.qh,h.gl,h.gh,h.gq,by rw [hO.size]; exact h.hs,?_,(hO.oth _ (Gx h.loc hr (by decide))).trans h.loc,?_,by rw [hl2]; exact h.sb,by rw [hl2]; exact h.len,fun j hj=>?_,h.inj,h.bls,h.blk,h.ous⟩
 ·
  rw [hl2];exact(hO.oth _ (Gx h.row hr (by decide))).trans h.row
 ·
  rw [hl2,show({ x with s:=x.s.set k l }:Nl).s.map List.length=x.s.map List.length from Zaf _ _ _ hl];exact Lb h.slo (fun g e=>hO.oth g (Lk h hr (by decide) g e))
 ·
  rw [hl2] at hj;show V'.heap[gs.getD j 0]?=some (.cells (yC ((x.s.set k l).getD j [])).toArray _ _)∧_;rw [Zjj _ _ _ _ hk];by_cases he:j=k
  ·
   subst he;rw [if_pos rfl];exact⟨hg,(h.each j hj).2⟩
  ·
   rw [if_neg he];exact⟨(hO.oth _ (Ybp h (by rw [h.len]; exact hj) (by rw [h.len]; exact hk) he)).trans (h.each j hj).1,(h.each j hj).2⟩
theorem Yhi (w0 w u:World)(x:Nl)(q lo hi lg:Nat)(bp sp op pp wp:Option Addr)(bc sc oc pc wc:Nat)(gs:List Nat)(B:Nat→Value)(ps:List (Int×Int))(ws v0:List Int)(z0:List (List Int))(Q0:Exit→Act→World→Prop)(s0 s2 s3 s4 s5 s6 s8 s9 s10 s11 s12 s13 s14 s15 s16 s17 s18 s19 s20 s21 s22 s23 s24 s25 s26 s27 s28 s29 s30 s31 s32 s33 s34 s35 s36 s37 s38 s39 s40 s41 s45 s46 s47 s48 s49 s50 s51 s52 s53 s54 s55 s56 s57 s58 s59 s60 s61 s62 s63 s64 s65 s66 s67 s68 s69 s70 s71 s72 s73 s74 s75 s76 s77 s78 s79 s80 s81 s82:Value)
 (hlo:w.heap.size≤lo) (hbw0:Below w0.heap.size w0 w) (hS:LS 2 w0 (.slice pp ps.length pc) ps.length (fun k=>Me (ps.getD k (0,0)))) (hnl:ps.length≤8)
 (hP:∀ k,k<ps.length→Zvc v0 z0 (ps.getD k (0,0))) (hW:Cg w (.slice wp ws.length wc) ws) (hwl:ws.length=Mr ps) (hws:∀ n ∈ ws,0≤n∧n<18446744073709551616) (hsl:∀ l ∈ z0,l.length≤65536)
 (hu:Na w0 u { x with v:=v0,s:=z0 } q lo hi lg bp sp op bc sc oc gs B) (hbu:Below w.heap.size w u) (hok:IOk { x with v:=v0,s:=z0 })
 (hexit:∀(w':World),Na w0 w' { x with v:=(Ks ps v0 z0 ws).1,s:=(Ks ps v0 z0 ws).2 } q lo hi lg bp sp op bc sc oc gs B→OnB lo hi u w'→IOk { x with v:=(Ks ps v0 z0 ws).1,s:=(Ks ps v0 z0 ws).2 }→∀(u1 u11 u44 u45 u46 u47 u48 u49 u50 u51 u52 u53 u54 u55 u56 u57 u58 u59 u60 u61 u62 u63 u64 u65 u66 u67 u68 u69 u70 u71 u72 u73 u74 u75 u76 u77 u78 u79 u80 u81:Value),Q0 (.exit 2) ⟨List.toArray (s0 :: u1 :: s2 :: s3 :: s4 :: s5 :: s6 :: .pointer (some ⟨q,0,none⟩) :: s8 :: s9 :: s10 :: u11 :: s12 :: s13 :: s14 :: s15 :: s16 :: s17 :: s18 :: s19 :: s20 :: s21 :: s22 :: s23 :: s24 :: s25 :: s26 :: s27 :: s28 :: s29 :: s30 :: s31 :: s32 :: s33 :: s34 :: s35 :: s36 :: s37 :: s38 :: s39 :: s40 :: s41 :: .slice pp ps.length pc :: .int .i64 ps.length :: u44 :: u45 :: u46 :: u47 :: u48 :: u49 :: u50 :: u51 :: u52 :: u53 :: u54 :: u55 :: u56 :: u57 :: u58 :: u59 :: u60 :: u61 :: u62 :: u63 :: u64 :: u65 :: u66 :: u67 :: u68 :: u69 :: u70 :: u71 :: u72 :: u73 :: u74 :: u75 :: u76 :: u77 :: u78 :: u79 :: u80 :: u81 :: s82 :: []),[]⟩ w') :
 Code.wp Tryz.prog (Zvb Tryz.f112 1) Q0 ⟨List.toArray (s0 :: .slice wp ws.length wc :: s2 :: s3 :: s4 :: s5 :: s6 :: .pointer (some ⟨q,0,none⟩) :: s8 :: s9 :: s10 :: s11 :: s12 :: s13 :: s14 :: s15 :: s16 :: s17 :: s18 :: s19 :: s20 :: s21 :: s22 :: s23 :: s24 :: s25 :: s26 :: s27 :: s28 :: s29 :: s30 :: s31 :: s32 :: s33 :: s34 :: s35 :: s36 :: s37 :: s38 :: s39 :: s40 :: s41 :: .slice pp ps.length pc :: .int .i64 ps.length :: .int .i64 0 :: s45 :: s46 :: s47 :: s48 :: s49 :: s50 :: s51 :: s52 :: s53 :: s54 :: s55 :: s56 :: s57 :: s58 :: s59 :: s60 :: s61 :: s62 :: s63 :: s64 :: s65 :: s66 :: s67 :: s68 :: s69 :: s70 :: s71 :: s72 :: s73 :: s74 :: s75 :: s76 :: s77 :: s78 :: s79 :: s80 :: s81 :: s82 :: []),[]⟩ u:=by
 have HS0:=Za hS;have HP:=Za hP;have HW:=Za hW;have HWS:=Za hws;have HSL:=Za hsl;have HU:=Za hu;have HBU:=Za hbu;have HOK:=Za hok;have HEX:=Za hexit;have HB0:=Za hbw0;have HWL:=Za hwl;clear hS hP hW hws hsl hu hbu hok hexit hbw0 hwl;refine Zij (id:=2) ?_;conv=>arg 2; whnf
 go_loopw [44,1] (fun sk sw w'=>∃(k:Nat) (v:List Int) (s:List (List Int)) (rem:List Int) (rp:Option Addr) (rc:Nat),sk=.int .i64 k∧sw=.slice rp rem.length rc∧k≤ps.length∧Ks ps v0 z0 ws=Ks (ps.drop k) v s rem∧v.length=v0.length∧s.map List.length=z0.map List.length∧Cg w (.slice rp rem.length rc) rem∧rem.length=Mr (ps.drop k)∧(∀ n ∈ rem,0≤n∧n<18446744073709551616)∧Na w0 w' { x with v:=v,s:=s } q lo hi lg bp sp op bc sc oc gs B∧OnB lo hi u w'∧IOk { x with v:=v,s:=s }) (fun sk _ _=>ps.length-(intOf sk).toNat)
 case atStart=>exact⟨0,v0,z0,ws,wp,wc,rfl,rfl,by omega,rfl,rfl,rfl,J HW,J HWL,J HWS,J HU,Zde _ _ _,J HOK⟩
 case round =>
  obtain⟨k,v,s,rem,rp,rc,rfl,rfl,hk,hpar,hvl,hsl2,hrem,hrl,hrw,hF,hO,hok⟩:=hrel;by_cases hk2:k<ps.length
  ·
   clear HEX HU HW HWS HWL HOK;have hsz:=hO.size;obtain⟨p',c',e1,-,-,hcc⟩:=J HS0;injection e1 with f1 f2 f3;obtain⟨sb,so,hsp,hsb,hcell⟩:=hcc (by omega);rw [← f1] at hsp;subst hsp;have hrg:=hcell k hk2;dsimp only at hrg;have ho:=J HP k hk2;have hdr:ps.drop k=ps.getD k (0,0) :: ps.drop (k+1):=by rw [List.drop_eq_getElem_cons hk2,Gt ps (0,0) k hk2]
   rw [hdr] at hpar hrl;generalize ps.getD k (0,0)=a at hrg ho hpar hrl;obtain⟨a1,a2⟩:=a;have HPAR:=Za hpar;have HRL:=Za hrl;have HVL:=Za hvl;have HSL2:=Za hsl2;clear hpar hrl;obtain⟨hw0,hw8,hf0,hov,hos⟩:=ho;simp only at hw0 hw8 hf0 hov hos;obtain⟨nw,rfl⟩:=Int.eq_ofNat_of_zero_le hw0;obtain⟨m,rfl⟩:=Int.eq_ofNat_of_zero_le hf0;have hup:∀ j y,#[Value.int .i64 (nw:Int),.int .i64 (m:Int)].toList[j]?=some y→wr.cell? ⟨sb,so+k*2+j,none⟩=some y:=fun j y hy=>by
    have h1:=hrg j y hy;have h2:=((J HB0).cell (p:=⟨sb,so+k*2+j,none⟩) hsb).trans h1;have h3:=((J HBU).cell (p:=⟨sb,so+k*2+j,none⟩) (World.block_lt_of_cell? _ _ h2)).trans h2;have hb1:=(J HB0).size;have hb2:=(J HBU).size;exact(World.cell?_of_block (hO.oth sb (by omega) (Or.inl (by omega)))).trans h3
   have d0:=hup 0 _ rfl;have d1:=hup 1 _ rfl;rw [Nat.add_zero] at d0;clear hcc hcell hrg f1 f2 f3 hup hdr;obtain⟨hra,hba,-⟩:=Gk wr (.cells #[.int .i64 (nw:Int),.int .i64 (m:Int)] 85 (0,0));have HFR:=Za hF;have HO:=Za hO;have hhs:=hF.hs;clear hF hO;go_upto_region 10 with fail
   clear d0 d1;generalize World.alloc wr _=V1 at hra hba ⊢;have HF1:=Za (Yv (J HFR) hba);have HBA:=Za hba;generalize wr.heap.size=ba at hra hhs ⊢;clear hba;by_cases hz:nw=0
   ·
    subst hz;have hml:m<v.length:=by have:=hov rfl; omega
    have hr1:1≤rem.length:=by rw [J HRL]; simp [Mr]
    have hr0:0<rem.length:=hr1;clear hvl hsl2;obtain⟨p2,c2,e2,hcap,hsh,hcells⟩:=hrem;injection e2 with g1 g2 g3;subst g1 g3;obtain⟨wb,wo,hrp,hwc⟩:=hcells (by omega);subst hrp;have hy0:=hwc 0 (by omega);rw [Nat.add_zero] at hy0;obtain⟨y,hy⟩:∃ y,y=rem.getD 0 0:=⟨_,rfl⟩;rw [← hy] at hy0;have HY:=Za hy;have HYM:=Za (show y ∈ rem by rw [hy]; exact Zdd (by omega) 0);have HRD:=Za (Zdi (show Cg w (.slice (some ⟨wb,wo,none⟩) rem.length rc) rem from⟨_,_,rfl,hcap,hsh,fun _=>⟨wb,wo,rfl,hwc⟩⟩) (show 1≤rem.length by omega));have hwbl:wb<w.heap.size:=World.block_lt_of_cell? _ _ hy0;have hbz:=(J HBU).size;have hyr:wr.cell? ⟨wb,wo,none⟩=some (.int .u64 y):=(World.cell?_of_block ((J HO).oth wb (by omega) (Or.inl (by omega)))).trans (((J HBU).cell (p:=⟨wb,wo,none⟩) hwbl).trans hy0);have hyv:V1.cell? ⟨wb,wo,none⟩=some (.int .u64 y):=((J HBA).cell (p:=⟨wb,wo,none⟩) (World.block_lt_of_cell? _ _ hyr)).trans hyr;have a0:=cR hra 0;have HSA:=Za (show(fun V=>V.heap[q]?=some (.cells #[.slice bp x.fn.blocks.length bc,.int .i64 x.b,.int .i64 x.i,.slice (some ⟨lg,0,none⟩) v.length v.length,.slice sp s.length sc,.slice op x.o.length oc] 309 (0,0))∧V.heap[ba]?=some (.cells #[.int .i64 0,.int .i64 (m:Int)] 85 (0,0))∧V.cell? ⟨wb,wo,none⟩=some (.int .u64 y)) V1.drew from⟨(J HF1).row,hra,hyv⟩);clear hra hov hos hy hcells hwc hy0 hyr hyv g2;go_upto_region 11 with fail
    clear a0;refine wp_region_held_drew (S:=fun V=>V.heap[q]?=some (.cells #[.slice bp x.fn.blocks.length bc,.int .i64 x.b,.int .i64 x.i,.slice (some ⟨lg,0,none⟩) v.length v.length,.slice sp s.length sc,.slice op x.o.length oc] 309 (0,0))∧V.heap[ba]?=some (.cells #[.int .i64 0,.int .i64 (m:Int)] 85 (0,0))∧V.cell? ⟨wb,wo,none⟩=some (.int .u64 y)) (by kernel_rfl) (J HSA) (fun hHeld=>?_);refine tX 0 ?_;refine tX 1 ?_;refine tX 2 ?_;refine wpAnyH_take (i:=3) (v:=?va3) rfl (by kernel_rfl) (by kernel_rfl) (by kernel_rfl) (fun _ _ _ h=>h) (Or.inl ⟨by rfl,?hya3⟩) (by assumption) ?_;case hya3 =>
     intro V hV;obtain⟨g0,g1,g2⟩:=hV;have c:=cR g0 3;clear g0 g1;go_simp;all_goals (with_reducible rfl)
    simp only [Act.put,zA,zB,zC,zD,zE,zF];refine tX 4 ?_;refine wpAnyH_take (i:=5) (v:=?va5) rfl (by kernel_rfl) (by kernel_rfl) (by kernel_rfl) (fun _ _ _ h=>h) (Or.inl ⟨by rfl,?hya5⟩) (by assumption) ?_;case hya5 =>
     intro V hV;obtain⟨g0,g1,g2⟩:=hV;have c:=cR g1 1;clear g0 g1;go_simp;all_goals (with_reducible rfl)
    simp only [Act.put,zA,zB,zC,zD,zE,zF];refine tX 6 ?_;refine tX 7 ?_;refine tX 8 ?_;refine tX 9 ?_;have hF1:=J HF1;have c9:V1.drew.cell? ⟨lg,m,none⟩=some (.int .u64 (v.getD m 0)):=(Zr hF1.loc m).trans (by simp [uC,List.getD,hml]);have z9:=frozen_of_row _ _ m _ _ hF1.loc;have HX:=Za (Zfm (Yv hF1 (Below.refl V1.heap.size V1).drew) m y);have HO1:=Za (Jq (J HO) (Jq (Lv (lo:=lo) (hi:=hi) (Zd (J HBA) (Below.refl V1.heap.size V1).drew (J HBA).size)) (Cf V1.drew m (.int .u64 y) hF1.gl hF1.gh)));have hgq:=hF1.gq;have hgh:=hF1.gh;have hgl:=hF1.gl;clear hF1;refine tO 10 fun K hK=>?_;go_simp;refine hK.out _ _ (show _ from⟨(heap_setCell_other _ _ _ _ (Ne.symm hgq)).trans (J HSA).1,(heap_setCell_other _ _ _ _ (by show ba≠lg; omega)).trans (J HSA).2.1,(World.cell?_of_block (heap_setCell_other _ _ _ _ (by show wb≠lg; omega))).trans (J HSA).2.2⟩) (fun hHeld2=>?_);clear hK K hHeld hHeld2;try simp only [Act.put]
    refine wpAnyH_done (by kernel_rfl) ?_ _;clear c9 z9;go_wp2;go_roundw
    case rel =>
     refine⟨k+1,v.set m y,s,rem.drop 1,if rc=1 then some ⟨wb,wo,none⟩ else some ⟨wb,wo+1,none⟩,rc-1,by go_num,by rw [List.length_drop],by omega,?_,by simpa using J HVL,J HSL2,J HRD,?_,fun n hn=>hrw n (List.mem_of_mem_drop hn),J HX,J HO1,?_⟩
     ·
      rw [J HPAR,J HY];rfl
     ·
      rw [List.length_drop,J HRL];simp [Mr]
     ·
      exact⟨fun n hn=>by
       rcases List.mem_or_eq_of_mem_set hn with h | h
       ·
        exact hok.v n h
       ·
        rw [h]; exact hrw y (J HYM),hok.s⟩
    case measure=>simp [intOf]; omega
   ·
    have hzz:¬ ((nw:Int)=0):=by omega
    have zz:((nw:Int)==0)=false:=by simp; omega
    obtain⟨hsl1,hs8⟩:=hos hzz;have hsll:s.length=z0.length:=by have:=congrArg List.length hsl2; simpa using this
    have hml:m<s.length:=by omega
    obtain⟨s1,hsp1,hsc⟩:=Uz (J HF1) hml;subst hsp1;obtain⟨ga,hga⟩:∃ g,g=gs.getD m 0:=⟨_,rfl⟩;obtain⟨bs,hbs⟩:∃ l,l=s.getD m []:=⟨_,rfl⟩;have hgr:=((J HF1).each m hml).1;have hlo2:=((J HF1).each m hml).2;dsimp only at hsc hgr;have hbl:bs.length=(z0.getD m []).length:=by
     have:=congrArg (fun l=>l.getD m 0) hsl2;simp [List.getD,hml,show m<z0.length by omega] at this;rw [hbs];simp [List.getD,hml,show m<z0.length by omega,this]
    have hb65:bs.length≤65536:=by rw [hbl]; exact J HSL _ (by simp [List.getD,show m<z0.length by omega])
    rw [Int.toNat_natCast,← hbl] at hs8;rw [← hga,← hbs] at hsc hgr;rw [← hga] at hlo2;have HNE:=Za (show q≠ga∧ba≠ga∧s1≠ga from⟨Gx (J HF1).row hgr (by decide),Gx hra hgr (by decide),Lk (J HF1) hgr (by decide) s1 rfl⟩);have hrn:nw≤rem.length:=by rw [J HRL]; simp [Mr,hz]
    obtain⟨p2,c2,e2,hcap,hsh,hcells⟩:=hrem;injection e2 with g1 g2 g3;subst g1 g3;obtain⟨wb,wo,hrp,hwc⟩:=hcells (by omega);subst hrp;have hrem2:Cg w (.slice (some ⟨wb,wo,none⟩) rem.length rc) rem:=⟨_,_,rfl,hcap,hsh,fun _=>⟨wb,wo,rfl,hwc⟩⟩;have HRD:=Za (Zdi hrem2 hrn);have hnrc:nw≤rc:=by omega
    have htk:(rem.take nw).length=nw:=by simp; omega
    have hbz:=(J HBU).size;have hLV:Cg V1.drew (.slice (some ⟨wb,wo,none⟩) nw rc) (rem.take nw):=by
     refine⟨_,_,by rw [htk],by omega,by omega,fun _=>⟨wb,wo,rfl,fun i hi=>?_⟩⟩;rw [htk] at hi;have h1:=hwc i (by omega);have hwbl:wb<w.heap.size:=World.block_lt_of_cell? _ _ h1;have h2:wr.cell? ⟨wb,wo+i,none⟩=some (.int .u64 (rem.getD i 0)):=(World.cell?_of_block ((J HO).oth wb (by omega) (Or.inl (by omega)))).trans (((J HBU).cell (p:=⟨wb,wo+i,none⟩) hwbl).trans h1);have h3:V1.cell? ⟨wb,wo+i,none⟩=some (.int .u64 (rem.getD i 0)):=((J HBA).cell (p:=⟨wb,wo+i,none⟩) (World.block_lt_of_cell? _ _ h2)).trans h2;refine h3.trans ?_;simp [List.getD,hi]
    have HFC:=Za (show Calls Tryz.prog 164 #[.pointer (some ⟨q,0,none⟩),.slice (some ⟨ga,0,none⟩) bs.length bs.length,.slice (some ⟨wb,wo,none⟩) nw rc] V1.drew (fun e w'=>(∃ v,e=.returned v)∧w'.heap[ga]?=some (.cells (yC (Zby bs (rem.take nw))).toArray 5 (0,0))∧One ga V1.drew w') from by
     have h:=Ydw q ga bs (rem.take nw) (some ⟨wb,wo,none⟩) rc V1.drew hgr (by rw [htk]; exact hLV) (by rw [htk]; omega) hb65;rw [htk] at h;exact h)
    have a0:=cR hra 0;have HSB:=Za (show(fun V=>V.heap[q]?=some (.cells #[.slice bp x.fn.blocks.length bc,.int .i64 x.b,.int .i64 x.i,.slice (some ⟨lg,0,none⟩) v.length v.length,.slice (some ⟨s1,0,none⟩) s.length sc,.slice op x.o.length oc] 309 (0,0))∧V.heap[ba]?=some (.cells #[.int .i64 (nw:Int),.int .i64 (m:Int)] 85 (0,0))∧V.cell? ⟨s1,m,none⟩=some (.slice (some ⟨ga,0,none⟩) bs.length bs.length)) V1.drew from⟨(J HF1).row,hra,hsc⟩);have HGA:=Za hga;have HBS:=Za hbs.symm;have HGL:=Za hlo2;have HBY:=Za (show ∀ n ∈ bs,0≤n∧n<256 from fun n hn=>hok.s bs (by show bs ∈ s; rw [hbs]; simp [List.getD,hml]) n hn);clear hra hov hos hcells hwc g2 hrem2 htk hLV hgr hsc hga hbs hlo2 hbl hsll hsl1 hsl2 hvl;go_upto_region 13 with fail
    clear a0;refine wp_region_held_drew (S:=fun V=>V.heap[q]?=some (.cells #[.slice bp x.fn.blocks.length bc,.int .i64 x.b,.int .i64 x.i,.slice (some ⟨lg,0,none⟩) v.length v.length,.slice (some ⟨s1,0,none⟩) s.length sc,.slice op x.o.length oc] 309 (0,0))∧V.heap[ba]?=some (.cells #[.int .i64 (nw:Int),.int .i64 (m:Int)] 85 (0,0))∧V.cell? ⟨s1,m,none⟩=some (.slice (some ⟨ga,0,none⟩) bs.length bs.length)) (by kernel_rfl) (J HSB) (fun hHeld=>?_);refine tX 0 ?_;refine tX 1 ?_;refine tX 2 ?_;refine tX 3 ?_;refine wpAnyH_take (i:=4) (v:=?vb4) rfl (by kernel_rfl) (by kernel_rfl) (by kernel_rfl) (fun _ _ _ h=>h) (Or.inl ⟨by rfl,?hyb4⟩) (by assumption) ?_;case hyb4 =>
     intro V hV;obtain⟨g0,g1,g2⟩:=hV;have c:=cR g0 4;clear g0 g1;go_simp;all_goals (with_reducible rfl)
    simp only [Act.put,zA,zB,zC,zD,zE,zF];refine tX 5 ?_;refine wpAnyH_take (i:=6) (v:=?vb6) rfl (by kernel_rfl) (by kernel_rfl) (by kernel_rfl) (fun _ _ _ h=>h) (Or.inl ⟨by rfl,?hyb6⟩) (by assumption) ?_;case hyb6 =>
     intro V hV;obtain⟨g0,g1,g2⟩:=hV;have c:=cR g1 1;clear g0 g1;go_simp;all_goals (with_reducible rfl)
    simp only [Act.put,zA,zB,zC,zD,zE,zF];refine tX 7 ?_;refine tX 8 ?_;refine tX 9 ?_;refine tX 10 ?_;refine wpAnyH_take (i:=11) (v:=?vb11) rfl (by kernel_rfl) (by kernel_rfl) (by kernel_rfl) (fun _ _ _ h=>h) (Or.inl ⟨by rfl,?hyb11⟩) (by assumption) ?_;case hyb11 =>
     intro V hV;obtain⟨g0,g1,g2⟩:=hV;have c:=cR g1 0;clear g0 g1;go_simp;all_goals (with_reducible rfl)
    simp only [Act.put,zA,zB,zC,zD,zE,zF];refine tX 12 ?_;refine tO 13 fun K hK=>?_;go_simp;refine(J HFC).mono ?_;rintro e w5 ⟨⟨xv,rfl⟩,hg5,hO5⟩;have hne:=J HNE;have HX:=Za (show Na w0 w5 { x with v:=v,s:=s.set m (Zby bs (rem.take nw)) } q lo hi lg bp (some ⟨s1,0,none⟩) op bc sc oc gs B from Zzr (Yv (J HF1) (Below.refl V1.heap.size V1).drew) hml (by rw [J HBS]; exact Zbd _ _) (by rw [← J HGA]; exact hg5) (by rw [← J HGA]; exact hO5));have HO1:=Za (Jq (J HO) (Jq (Lv (lo:=lo) (hi:=hi) (Zd (J HBA) (Below.refl V1.heap.size V1).drew (J HBA).size)) (Zzq hO5 (J HGL).1 (J HGL).2)));have hS5:(fun V=>V.heap[q]?=some (.cells #[.slice bp x.fn.blocks.length bc,.int .i64 x.b,.int .i64 x.i,.slice (some ⟨lg,0,none⟩) v.length v.length,.slice (some ⟨s1,0,none⟩) s.length sc,.slice op x.o.length oc] 309 (0,0))∧V.heap[ba]?=some (.cells #[.int .i64 (nw:Int),.int .i64 (m:Int)] 85 (0,0))∧V.cell? ⟨s1,m,none⟩=some (.slice (some ⟨ga,0,none⟩) bs.length bs.length)) w5:=⟨(hO5.oth q hne.1).trans (J HSB).1,(hO5.oth ba hne.2.1).trans (J HSB).2.1,(World.cell?_of_block (hO5.oth s1 hne.2.2)).trans (J HSB).2.2⟩;have b0:=cR hS5.2.1 0;refine kO hK hS5 (fun hHeld2=>?_);clear hK K hHeld hHeld2 hS5 hg5 hO5 hne;refine wpAnyH_done (by kernel_rfl) ?_ _;go_wp2;go_roundw
    case rel =>
     refine⟨k+1,v,s.set m (Zby bs (rem.take nw)),rem.drop nw,if rc=nw then some ⟨wb,wo,none⟩ else some ⟨wb,wo+nw,none⟩,rc-nw,by go_num,by rw [List.length_drop],by omega,?_,J HVL,?_,J HRD,?_,fun n hn=>hrw n (List.mem_of_mem_drop hn),J HX,J HO1,?_⟩
     ·
      rw [J HPAR,← J HBS];show(if (nw:Int)=0 then _ else _)=_;rw [if_neg (by omega)];simp
     ·
      rw [Zaf _ _ _ (by rw [J HBS]; exact Zbd _ _)]; exact J HSL2
     ·
      rw [List.length_drop,J HRL];simp [Mr,hz]
     ·
      exact⟨hok.v,fun l hl n hn=>by
       rcases List.mem_or_eq_of_mem_set hl with h | h
       ·
        exact hok.s l h n hn
       ·
        rw [h] at hn; exact Zjo (J HBY) _ n hn⟩
    case measure=>simp [intOf]; omega
  ·
   have hkn:k=ps.length:=by omega
   subst hkn;rw [List.drop_length] at hpar;have HX:=Za (J HEX wr (by rw [hpar]; exact hF) hO (by rw [hpar]; exact hok));clear hF hO;go_wp2_with fail
   exact⟨rfl,J HX _ _ _ _ _ _ _ _ _ _ _ _ _ _ _ _ _ _ _ _ _ _ _ _ _ _ _ _ _ _ _ _ _ _ _ _ _ _ _ _⟩
end Go.Proofs.YtedemloocadimaaGreatDoor
