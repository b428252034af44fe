/- Parsing: the reference's reader: a call of a definition. (and what follows from it) -/
import Derived.Test.YtmnbheplkidfaaaGreatDoorPw17
set_option maxHeartbeats 16000000
set_option maxRecDepth 100000
namespace Go.Proofs.YtmnbheplkidfaaaGreatDoor
open Go.Lib (hid)
open Go.RowKit Go.Deep Go.Shelf
theorem Wo(E:Int)(g:Nat)(c:ByteArray)(st:RS):Qa E (ZE Qb g c) st=Qa E (Qq (pval Qb) ZX g) (Qa E (need Yp) st)/\
 ∀y,Qj (ZE Qb g c) st=some y->∃l,Qj (Qq (pval Qb) ZX g) (Qa E (need Yp) st)=some l/\Pr.mk 8 c ⟨#[]⟩ [] l zT []=y:=by
 constructor
 ·exact Qg (X:=fun s=>Qa E (Qq (pval Qb) ZX g) s) (fun _=>Qg (X:=fun s=>s) (fun _=>QU _ _ _) (fun _=>rfl)) (fun _=>rfl)
 ·intro y hy
  obtain⟨_,_,h2⟩:=Qh E hy
  obtain⟨l,h3,h4⟩:=Qh E h2
  exact⟨l,h3,Jq h4⟩
theorem Vq{α:Type}(E:Int)(F:List Tk->PR α)(s:ByteArray)(g:Nat){st:RS}(h:stHd s st=true):Qa E (Qq F s g) st=Qa E (need s) st/\∀l,Qj (Qq F s g) st=some l->l=[]:=by
 constructor
 ·exact(Xc (P:=fun r=> .ok [] r) h).trans (QU _ _ _)
 ·intro l hl
  exact(Jq ((Vg E (P:=fun r=> .ok [] r) h).symm.trans hl)).symm
theorem Xb{α:Type}(E:Int)(F:List Tk->PR α)(s:ByteArray)(g:Nat){st:RS}(h:stHd s st=false):Qa E (Qq F s g) st=Qa E (need s) (Qa E (QP F g) st)/\∀l,Qj (Qq F s g) st=some l->Qj (QP F g) st=some l:=by
 constructor
 ·exact(Xd (P:=fun ts=> .ok [] ts.tail) h).trans (Qg (X:=fun s'=>Qa E (need s) s') (fun _=>Qg (X:=fun s=>s) (fun _=>QU _ _ _) (fun _=>rfl)) (fun _=>rfl))
 ·intro l hl
  have hl:=(Vh (P:=fun ts=> .ok [] ts.tail) h).symm.trans hl
  obtain⟨m,h1,h2⟩:=Qh E hl
  obtain⟨_,_,h4⟩:=Qh E h2
  rw[h1,Jq h4]
structure VLeft{α:Type}(E:Int)(F:List Tk->PR α)(g:Nat)(st:RS)(us:List α)(g2:Nat)(st1:RS):Prop where
 fuel:st1.len<g2
 step:Qa E (QP F g) st=Qa E (QP F g2) st1
 val:∀l,Qj (QP F g) st=some l->∃m,Qj (QP F g2) st1=some m/\l=us++m
theorem VLeft.start{α:Type}(E:Int)(F:List Tk->PR α)(g:Nat)(st:RS)(h:st.len<g):VLeft E F g st [] g st:=⟨h,rfl,fun l hl=>⟨l,hl,rfl⟩⟩
theorem VLeft.more{α:Type}{E:Int}{F:List Tk->PR α}{g g2:Nat}{st st1:RS}{us:List α}(h:VLeft E F g st us (g2+1) st1){u:α}(hu:∀y,Qj F st1=some y->u=y)
 (hc:stHd QG (Qa E F st1)=true) (hl:(Qa E (need QG) (Qa E F st1)).len<g2):VLeft E F g st (us++[u]) g2 (Qa E (need QG) (Qa E F st1)):=by
 obtain⟨h1,h2⟩:=Mh E F g2 st1 hc
 refine⟨hl,h.step.trans h1,fun l hl=>?_⟩
 obtain⟨m,hm,rfl⟩:=h.val l hl
 obtain⟨x,m2,h3,h4,rfl⟩:=h2 m hm
 exact⟨m2,h4,by rw[hu x h3];simp⟩
theorem VLeft.last{α:Type}{E:Int}{F:List Tk->PR α}{g g2:Nat}{st st1:RS}{us:List α}(h:VLeft E F g st us (g2+1) st1){u:α}(hu:∀y,Qj F st1=some y->u=y)
 (hc:stHd QG (Qa E F st1)=false):Qa E (QP F g) st=Qa E F st1/\∀l,Qj (QP F g) st=some l->l=us++[u]:=by
 obtain⟨h1,h2⟩:=Mi E F g2 st1 hc
 refine⟨h.step.trans h1,fun l hl=>?_⟩
 obtain⟨m,hm,rfl⟩:=h.val l hl
 obtain⟨x,h3,rfl⟩:=h2 m hm
 rw[hu x h3]
abbrev Ni:List (Nat×Option Tmp):=[(0,some 102),(1,some 103),(2,some 104),(3,some 105),(4,some 106),(5,some 107),(6,some 108),(7,none)]
theorem Dp(R:Nat)(la:Option Addr)(all:List Tk)(E:Int)(hall:UA all)(c:ByteArray)(hc:c.size<=maxLen)(st:RS)(w:World)(h:RdIs R la all E st w)(g:Nat)(hg:st.len<=g)(q0:stHd sBang st=false)(q1:stHd sAsk st=false)(q2:stHd sDot st=false)(q3:stHd sAnd st=false)(q4:stHd Yp st=true):
 Calls Tryz.prog 92 #[.pointer (some ⟨R,0,none⟩),.string c] w (Red R la all E w (ZE Qb g c) (st) (GPk w.heap.size)):=by
 have HALL:=hid hall
 have HCZ:=hid hc
 obtain⟨t1,ht1⟩:∃t1,Qi st=t1:=⟨_,rfl⟩
 have k0:(t1.toList==[33])=false:=by rw[<-ht1];exact Qt q0
 have k1:(t1.toList==[63])=false:=by rw[<-ht1];exact Qt q1
 have k2:(t1.toList==[46])=false:=by rw[<-ht1];exact Qt q2
 have k3:(t1.toList==[38])=false:=by rw[<-ht1];exact Qt q3
 have k4:(t1.toList==[60])=true:=by rw[<-ht1];exact Qt q4
 have HT1:=hid ht1
 have htw:=Zt w (cN 0 ⟨#[]⟩ ⟨#[]⟩ sN sN sN) (cN 0 c ⟨#[]⟩ sN sN sN) 31 31
 obtain⟨W3,hW3⟩:∃W3,(w.alloc (.cells z12 31)).alloc (.cells (cN 0 c ⟨#[]⟩ sN sN sN) 31)=W3:=⟨_,rfl⟩
 rw[hW3] at htw
 have hR:R<w.heap.size:=h.lt
 have HLA:=hid h.la
 have hs3:w.heap.size+1<W3.heap.size:=(Array.getElem?_eq_some_iff.1 htw.2.1).1
 have HP:Hid (RdIs R la all E st W3):=hid (h.to htw.2.2)
 have HB:Hid (But R W3 W3):=hid (But.refl _ _)
 have HD:Hid (But R w W3):=hid (But.of htw.2.2)
 have HX:Hid (∀W,But R W3 W->Blk W w.heap.size z12 31/\Blk W (w.heap.size+1) (cN 0 c ⟨#[]⟩ sN sN sN) 31):=hid (fun W hW=>⟨(hW.block _ (by omega) (by omega)).trans htw.1,(hW.block _ (by omega) (by omega)).trans htw.2.1⟩)
 have HW3:=hid hW3
 obtain⟨hm1,hm2⟩:=Wo E g c st
 unfold Red
 rw[hm1]
 obtain⟨st0,hst0⟩:∃st0,Qa E (need Yp) st=st0:=⟨_,rfl⟩
 have hl0:st0.len<g:=by rw[<-hst0];have a:=JQ E q4;omega
 rw[hst0] at hm2 |-
 have HE:Hid (∀y,Qj (ZE Qb g c) st=some y->∃l,Qj (Qq (pval Qb) ZX g) st0=some l/\Pr.mk 8 c ⟨#[]⟩ [] l zT []=y):=hid hm2
 have HL0:=hid hl0
 have HST0:=hid hst0
 clear hall hc hg h htw ht1 q0 q1 q2 q3 q4 hW3 hm1 hm2 hst0 hl0
 go_enter Tryz.func92,Tryz.ntmps92
 go_upto_region 2 with fail
 rw[HW3.out]
 go_upto_region 34 with(first|(go_at_call 58;refine(Xz HP HB HT1.out).mono ?_;rintro _ wn⟨rfl,HP,HB⟩)|(go_at_call 59;refine(Zs HP HB).mono ?_;rintro _ wn⟨rfl,HP,HB⟩))
 have hx:=(HX.out wn HB.out)
 have dc:=(c12p hx.2).1.1
 have dz:=(c12p hx.2).2.1
 go_upto_region 35 with fail
 obtain⟨W4,hW4⟩:∃W,wn.setCell ⟨w.heap.size+1,0,none⟩ (.int .i64 8)=W:=⟨_,rfl⟩
 rw[hW4]
 have hx:=HX.out wn HB.out
 have hsz:W3.heap.size<=wn.heap.size:=HB.out.size
 have hlt:w.heap.size+1<wn.heap.size:=lL hs3 hsz
 have hxn:Blk W4 w.heap.size z12 31/\W4.heap[w.heap.size+1]? =some (.cells (cN 8 c ⟨#[]⟩ sN sN sN) 31 (0,0)):=by
  rw[<-hW4]
  exact⟨(oth1 _ _ _ (by omega)).trans (hx.1),Qd (hx.2) 0 _⟩
 have hs4:w.heap.size+1<W4.heap.size:=gl0 hxn.2
 have hw34:W3.heap.size<=W4.heap.size:=by rw[<-hW4];simp only[World.setCell,Array.size_modify];omega
 have HPn:=hid (by rw[<-hW4];exact HP.out.set (X:=w.heap.size+1) (by omega) HLA.out (by omega) 0 (.int .i64 8):RdIs R la all E _ W4)
 have HDn:Hid (But R w W4):=hid (by rw[<-hW4];exact(HD.out.trans HB.out).setX (by omega) 0 _)
 have HXn:Hid (∀W,But R W4 W->Blk W w.heap.size z12 31/\Blk W (w.heap.size+1) (cN 8 c ⟨#[]⟩ sN sN sN) 31):=hid (fun W hW=>⟨(hW.block _ (gl0 hxn.1) (by omega)).trans hxn.1,(hW.block _ (gl0 hxn.2) (by omega)).trans hxn.2⟩)
 clear HP HB HD HX hW4 hx dc dz
 have HP:=HPn
 have HD:=HDn
 have HX:=HXn
 have HB:Hid (But R W4 W4):=hid (But.refl _ _)
 clear HPn HDn HXn hxn
 have HPn:Hid (RdIs R la all E st0 W4):=hid (by rw[<-HST0.out];exact HP.out)
 clear HP
 have HP:=HPn
 clear HPn HST0 HT1
 have hR3:R<W4.heap.size:=by omega
 have hXR:w.heap.size+1≠R:=by omega
 have hXW:w.heap.size<=w.heap.size+1:=by omega
 have hWR:w.heap.size≠R:=by omega
 have HW14:Hid (w.heap.size<=W4.heap.size/\w.heap.size<=W4.heap.size):=hid (by omega)
 clear k0 k1 k2 k3 k4
 obtain⟨t2,ht2⟩:∃t2,Qi st0=t2:=⟨_,rfl⟩
 have HT1:=hid ht2
 cases hq0:stHd ZX st0 with
 |true=>
  have k0:(t2.toList==[62])=true:=by rw[<-ht2];exact Qt hq0
  have HEND:=hid (Vq E (pval Qb) ZX g hq0).1
  have HVL:=hid (Vq E (pval Qb) ZX g hq0).2
  clear ht2 hq0
  go_upto_region 36 with(go_at_call 58;refine(Xz HP HB HT1.out).mono ?_;rintro _ V0⟨rfl,HPa,HBv⟩;have HBo:=hid (HD.out.trans HBv.out);have HBOX:=hid (HX.out V0 HBv.out).2;have HZ0:=hid (HX.out V0 HBv.out).1)
  have hsv:W4.heap.size<=V0.heap.size:=HBv.out.size
  clear HP HB HD HX HBv
  go_upto_region 37 with(go_at_call 59;refine(QD R _ all E _ (by decide+kernel) _ _ HPa.out).mono ?_;rintro en wz⟨rfl,hp,hb⟩;have HP:=hid hp;have HC:=hid hb;clear hp hb)
  have hx3:=(HC.out.block (w.heap.size+1) (gl0 HBOX.out) hXR).trans HBOX.out
  obtain⟨⟨d0,d1,d2,d3,d4,d5,d6,d7,d8,d9,d10,d11⟩,-⟩:=c12p hx3
  clear hx3
  have hx9:=(HC.out.block w.heap.size (gl0 HZ0.out) hWR).trans HZ0.out
  obtain⟨⟨q0,q1,q2,q3,q4,q5,q6,q7,q8,q9,q10,q11⟩,z0,z1,z2,z3,z4,z5,z6,z7,z8,z9,z10,z11⟩:=c12p hx9
  have HX9:=hid hx9
  clear hx9
  go_wp2_with fail
  have hvs:=JK (fun k=>W4.heap.size<=k/\k<wz.heap.size) wz
  have hnode:GPr W4.heap.size wz (.mk 8 c ⟨#[]⟩ [] ([]) zT []) (.agg (cN 8 c ⟨#[]⟩ sN sN sN)):=GPr.node (t:=zT) HCZ.out (Nat.zero_le _) (Jv _ _) hvs (YF _ _) (XQ _ _)
  have HPn:Hid (RdIs R la all E (Qa E (Qq (pval Qb) ZX g) st0) wz):=hid (by rw[HEND.out];exact HP.out)
  have hx8:=JZ HX9.out (.int .i64 8) (.string c) tE sN sN iZ iZ tE iZ sN sN sN
  obtain⟨⟨y0,y1,y2,y3,y4,y5,y6,y7,y8,y9,y10,y11⟩,-⟩:=c12p hx8
  refine bodyPost_ret (v:= .agg (cN 8 c ⟨#[]⟩ sN sN sN)) (by simp[results,Tryz.results92,go_sem,y0,y1,y2,y3,y4,y5,y6,y7,y8,y9,y10,y11]) rfl ?_
  refine⟨⟨_,.mk 8 c ⟨#[]⟩ [] ([]) zT [],rfl,⟨(hnode.put12 (by omega) (.int .i64 8) (.string c) tE sN sN iZ iZ tE iZ sN sN sN).mono (by omega),by intro h;cases h⟩,fun y hy=>by obtain⟨l,h2,rfl⟩:=HE.out y hy;rw[HVL.out l h2]⟩,HPn.out.oth (X:=w.heap.size) (fun j hj=>QN hj (.int .i64 8) (.string c) tE sN sN iZ iZ tE iZ sN sN sN) (QF _ _ (.int .i64 8) (.string c) tE sN sN iZ iZ tE iZ sN sN sN) hR HLA.out,(HBo.out.trans HC.out).put12 lR (.int .i64 8) (.string c) tE sN sN iZ iZ tE iZ sN sN sN⟩
 |false=>
  have k0:(t2.toList==[62])=false:=by rw[<-ht2];exact Qt hq0
  obtain⟨hu1,hu2⟩:=Xb E (pval Qb) ZX g hq0
  have HU1:=hid hu1
  have HUP:=hid hu2
  clear hu1 hu2 ht2 hq0
  go_upto_region 38 with(go_at_call 58;refine(Xz HP HB HT1.out).mono ?_;rintro _ wn⟨rfl,HP,HB⟩)
  clear HT1 k0
  go_upto_region 39 with(go_at_call 119;refine(valH HALL.out HP HB).mono ?_;rintro _ wv⟨a,rfl,HAZ,HAV,HP,HB⟩;have hx:=HX.out wv HB.out;have dc:=Yj (gl0 hx.2) (c12p hx.2).1.2.2.2.2.1;have dz:=ZI (gl0 hx.2) (c12p hx.2).2.2.2.2.2.1;clear hx)
  obtain⟨W5,hW5⟩:∃W,(wv.alloc (.cells #[.int .i64 a.k,.string a.n,.int .i64 a.x] 82)).setCell ⟨w.heap.size+1,4,none⟩ (.slice (some ⟨wv.heap.size,0,none⟩) 1 1)=W:=⟨_,rfl⟩
  rw[hW5]
  have hx:=HX.out wv HB.out
  have hsz:W4.heap.size<=wv.heap.size:=HB.out.size
  have hlt:w.heap.size+1<wv.heap.size:=lL hs4 hsz
  have hb0:Below wv.heap.size wv (wv.alloc (.cells #[.int .i64 a.k,.string a.n,.int .i64 a.x] 82)):=bR.alloc lR _
  have xb0:(wv.alloc (.cells #[.int .i64 a.k,.string a.n,.int .i64 a.x] 82)).heap[wv.heap.size]? =some (.cells #[.int .i64 a.k,.string a.n,.int .i64 a.x] 82 (0,0)):=World.alloc_heap_new _ _
  obtain⟨vb5,hvb5⟩:∃b,wv.heap.size=b:=⟨_,rfl⟩
  have HK5:Hid (But (w.heap.size+1) wv W5):=hid (by rw[<-hW5];exact((But.refl _ _).to hb0).set 4 _)
  have HROW:Hid (LRow 82 3 W4.heap.size XL (fun j=>j=w.heap.size+1) W5 (.slice (some ⟨vb5,0,none⟩) 1 1) [.agg #[.int .i64 a.k,.string a.n,.int .i64 a.x]] [a]):=hid (by rw[<-hW5,<-hvb5];exact(LRow.one lyVl (O:=fun j=>j=w.heap.size+1) (u:= .agg #[.int .i64 a.k,.string a.n,.int .i64 a.x]) (x:=a) ⟨rfl,HAZ.out⟩ (fun k hk=>by rw[hk];omega) (by omega)).frame lyVl (ButO.setC (O:=fun j=>j=w.heap.size+1) (ButO.refl R _ _) rfl 4 _) hR3 (fun k hk=> .inl hk))
  have hxn:Blk W5 w.heap.size z12 31/\Blk W5 (w.heap.size+1) (cN 8 c ⟨#[]⟩ sN (.slice (some ⟨vb5,0,none⟩) 1 1) sN) 31/\W5.heap[vb5]? =some (.cells #[.int .i64 a.k,.string a.n,.int .i64 a.x] 82 (0,0)):=by
   rw[<-hW5,hvb5]
   exact⟨(oth1 _ _ _ (by omega)).trans ((hb0.block _ (gl0 hx.1)).trans hx.1),Qd ((hb0.block _ (gl0 hx.2)).trans hx.2) 4 _,(oth1 _ _ _ (by omega)).trans (by rw[<-hvb5];exact xb0)⟩
  have hvvb5:W3.heap.size<=vb5/\vb5<W5.heap.size:=⟨by rw[<-hvb5];omega,gl0 hxn.2.2⟩
  have hs5:w.heap.size+1<W5.heap.size:=gl0 hxn.2.1
  have hw35:W3.heap.size<=W5.heap.size:=by rw[<-hW5];simp only[World.setCell,Array.size_modify];rw[World.size_alloc];omega
  have HPn:=hid (by rw[<-hW5];exact(HP.out.to hb0).set (X:=w.heap.size+1) (by omega) HLA.out (by omega) 4 (.slice (some ⟨wv.heap.size,0,none⟩) 1 1):RdIs R la all E _ W5)
  have HDn:Hid (But R w W5):=hid (by rw[<-hW5];exact((HD.out.trans HB.out).to hb0).setX (by omega) 4 _)
  have HXn:Hid (∀W,But R W5 W->Blk W w.heap.size z12 31/\Blk W (w.heap.size+1) (cN 8 c ⟨#[]⟩ sN (.slice (some ⟨vb5,0,none⟩) 1 1) sN) 31/\Blk W vb5 #[.int .i64 a.k,.string a.n,.int .i64 a.x] 82):=hid (fun W hW=>⟨(hW.block _ (gl0 hxn.1) (by omega)).trans hxn.1,(hW.block _ (gl0 hxn.2.1) (by omega)).trans hxn.2.1,(hW.block _ (gl0 hxn.2.2) (by omega)).trans hxn.2.2⟩)
  rw[hvb5]
  clear HP HB HD HX hW5 hx dc dz hb0 xb0 hvb5
  have HP:=HPn
  have HD:=HDn
  have HX:=HXn
  have HB:Hid (But R W5 W5):=hid (But.refl _ _)
  clear HPn HDn HXn hxn
  have HX4:=hid (HX.out W5 (But.refl _ _))
  have HLW:Hid (W4.heap.size<=W5.heap.size):=hid (by have:=HROW.out.row.lt vb5 rfl;omega)
  clear HX
  go_loopw [] (fun wr=>∃(us:List Vl) (a:Vl) (vs:List Value) (ya:Option Addr) (yn yc:Nat) (g2:Nat) (st1 st2:RS),Hid (Qa E (pval Qb) st1=st2)/\Hid (Blk wr ((w.heap.size+1)) (cN 8 c ⟨#[]⟩ sN (.slice ya yn yc) sN) 31)/\Hid (LRow 82 3 W4.heap.size XL (fun j=>j=w.heap.size+1) wr (.slice ya yn yc) vs (us++[a]))/\Hid (RdIs R la all E st2 wr)/\Hid (But R w wr)/\Hid (VLeft E (pval Qb) g st0 us (g2+1) st1)/\Hid (∀y,Qj (pval Qb) st1=some y->a=y)/\Hid (us.length+st2.len<=1000001)/\Hid (W4.heap.size<=wr.heap.size)/\Hid (Blk wr w.heap.size z12 31)) (fun wr=>lenW R all wr)
  case atStart=>
   obtain⟨g1,hg1⟩:∃g1,g=g1+1:=⟨g-1,by have:=HL0.out;omega⟩
   exact⟨[],a,_,_,_,_,g1,st0,_,hid rfl,hid HX4.out.2.1,HROW,HP,HD,hid (by rw[<-hg1];exact VLeft.start E _ g st0 HL0.out),HAV,hid (by have:=HP.out.len_le;show 0+_<=_;omega),HLW,hid HX4.out.1⟩
  case round=>
   clear HAV HAZ HROW
   rename Vl=>a0
   obtain⟨us,a,vs,ya,yn,yc,g2,st1,st2,HST,HBOX,HLR,HPa,HBo,HVF,HAV,HLN,HWV,HZ0⟩:=hrel
   rename World=>V0
   clear HP HB HD HX4
   have hlv:(w.heap.size+1)<V0.heap.size:=gl0 HBOX.out
   have hsv:=HWV.out
   have hls:=HLN.out
   have HVSZ:Hid (vs.length<=1000002):=hid (by have h:=HLR.out.len;have h2:(us++[a]).length=us.length+1:=(by simp);omega)
   have HUSZ:Hid ((us++[a]).length<=1000002):=hid (by rw[List.length_append,List.length_singleton];omega)
   clear hls
   have HLENV:=hid HPa.out.lenW
   obtain⟨t3,ht3⟩:∃t3,Qi st2=t3:=⟨_,rfl⟩
   have HT3:=hid ht3
   cases hq:stHd QG st2 with
   |true=>
    have k0:(t3.toList==[44])=true:=by rw[<-ht3];exact Qt hq
    have hnl:=JQ E hq
    have HFU:=hid (show 0<g2 by have h:=HVF.out.fuel;have h2:st2.len<=st1.len:=(by rw[<-HST.out];exact GX E st1);have:0<st2.len:=(by omega);omega)
    have hmore:=HVF.out.more HAV.out (by rw[HST.out];exact hq) (by rw[HST.out];have h:=HVF.out.fuel;have h2:st2.len<=st1.len:=(by rw[<-HST.out];exact GX E st1);omega)
    rw[HST.out] at hmore
    obtain⟨st4,hst4⟩:∃st4,Qa E (need QG) st2=st4:=⟨_,rfl⟩
    rw[hst4] at hmore hnl
    have HST4:=hid hst4
    have HMORE:=hid hmore
    have HNL:=hid hnl
    clear hmore hnl ht3 hq hst4
    go_upto_region 40 with(go_at_call 58;refine(Qw R _ all E _ _ HPa.out).mono ?_;rw[HT3.out];rintro en w7⟨rfl,hb⟩;have HB7:=hid hb;have HP7:=hid (HPa.out.to hb);clear hb)
    go_upto_region 41 with(go_at_call 59;refine(QD R _ all E _ (by decide+kernel) _ _ HP7.out).mono ?_;rw[HST4.out];rintro en V5⟨rfl,hp,hb⟩;have HPa5:=hid hp;have HB5:=hid ((But.of HB7.out).trans hb);clear hp hb)
    clear HPa HP7 HB7
    have hl5:(w.heap.size+1)<V5.heap.size:=lL hlv HB5.out.size
    have HBX5:=hid ((HB5.out.block (w.heap.size+1) hlv hXR).trans HBOX.out)
    have HZ5:=hid ((HB5.out.block w.heap.size (gl0 HZ0.out) hWR).trans HZ0.out)
    have HBo5:=hid (HBo.out.trans HB5.out)
    have HLR5:Hid (LRow 82 3 W4.heap.size XL (fun j=>j=w.heap.size+1) V5 (.slice ya yn yc) vs (us++[a])):=hid (HLR.out.frame lyVl (HB5.out.o _) hR3 (fun k hk=> .inl hk))
    have HW4V5:Hid (W4.heap.size<=V5.heap.size):=hid (lT hsv HB5.out.size)
    clear HB5 HBo HBOX HLR HZ0
    have HBXF:Hid (∀W,But R V5 W->Blk W ((w.heap.size+1)) (cN 8 c ⟨#[]⟩ sN (.slice ya yn yc) sN) 31):=hid (fun W hW=>(hW.block (w.heap.size+1) hl5 hXR).trans HBX5.out)
    have HLRL:Hid (∀k,(Value.slice ya yn yc).ownBlock=some k->W4.heap.size<=k/\k<V5.heap.size):=hid (fun k hk=>HLR5.out.row.lt k hk)
    have HLRF:Hid (∀W,But R V5 W->LRow 82 3 W4.heap.size XL (fun j=>j=w.heap.size+1) W (.slice ya yn yc) vs (us++[a])):=hid (fun W hW=>HLR5.out.frame lyVl (hW.o _) hR3 (fun k hk=> .inl hk))
    have HBXO:Hid (∀W,ButO R (fun j=>some j=(Value.slice ya yn yc).ownBlock) V5 W->Blk W ((w.heap.size+1)) (cN 8 c ⟨#[]⟩ sN (.slice ya yn yc) sN) 31):=hid (fun W hW=>(hW.block (w.heap.size+1) hl5 hXR (fun e=>by have:=(HLRL.out _ e.symm).1;omega)).trans HBX5.out)
    refine wp_region_held_drew (S:=fun _=>True) (by kernel_rfl) trivial (fun hHeld=>?_)
    refine QY [0,1,2,3,4,5,6,7] (Rail [(5,1)] [(0,.pointer (some ⟨(w.heap.size+1),4,none⟩)),(1,.slice ya yn yc),(2,.pointer (some ⟨R,0,none⟩)),(6,.pointer (some ⟨(w.heap.size+1),4,none⟩))] [(3,fun v W=>∃u:Vl,v= .agg #[.int .i64 u.k,.string u.n,.int .i64 u.x]/\u.n.size<=maxLen/\(∀y,Qj (pval Qb) st4=some y->u=y)/\RdIs R la all E (Qa E (pval Qb) st4) W/\But R V5 W),(4,fun v W=>∃(u:Vl) (nb:Nat),v= .slice (some ⟨nb,0,none⟩) 1 1/\u.n.size<=maxLen/\(∀y,Qj (pval Qb) st4=some y->u=y)/\RdIs R la all E (Qa E (pval Qb) st4) W/\But R V5 W/\V5.heap.size<=nb/\Blk W nb #[.int .i64 u.k,.string u.n,.int .i64 u.x] 82),(5,fun v W=>∃(u:Vl) (ha:Option Addr) (hn hc:Nat) (vs':List Value),v= .slice ha hn hc/\(∀y,Qj (pval Qb) st4=some y->u=y)/\RdIs R la all E (Qa E (pval Qb) st4) W/\ButO R (fun j=>some j=(Value.slice ya yn yc).ownBlock) V5 W/\LRow 82 3 W4.heap.size XL (fun j=>j=w.heap.size+1) W (.slice ha hn hc) vs' (us++[a]++[u])),(7,fun _ W=>∃(u:Vl) (ha:Option Addr) (hn hc:Nat) (vs':List Value),(∀y,Qj (pval Qb) st4=some y->u=y)/\RdIs R la all E (Qa E (pval Qb) st4) W/\ButO R (Jt (w.heap.size+1) (.slice ya yn yc)) V5 W/\Blk W ((w.heap.size+1)) (cN 8 c ⟨#[]⟩ sN (.slice ha hn hc) sN) 31/\LRow 82 3 W4.heap.size XL (fun j=>j=w.heap.size+1) W (.slice ha hn hc) vs' (us++[a]++[u]))] (fun W=>W=V5.drew)) (by kernel_rfl) (by kernel_rfl) (fun _ _ _ _=>trivial) (Rail.start (S0:=fun W=>W=V5.drew) rfl _) ?stepsK ?stopK
    case stepsK=>
     refine fC ⟨?_,fC ⟨?_,fC ⟨?_,fC ⟨?_,fC ⟨?_,fC ⟨?_,fC ⟨?_,fC ⟨?_,fN⟩⟩⟩⟩⟩⟩⟩⟩
     ·refine InvStep.lst 0 [] Ni (fun L vals olds wx hLk hdeps hRl K hK2=>?_)
      simp only[Qs,setD,sS,sZ] at hK2 |-
      clear hdeps
      go_simp
      exact hK2 _ _ (hRl.pure 0 _ rfl fN (fC ⟨rfl,fN⟩))
     ·refine InvStep.lst 1 [0] Ni (fun L vals olds wx hLk hdeps hRl K hK2=>?_)
      simp only[Qs,setD,sS,sZ] at hK2 |-
      simp only[List.all_cons,List.all_nil,Bool.and_true] at hdeps
      have es:=(Qe (vals:=vals) (olds:=olds) hdeps).trans (hRl.val 0 rfl hdeps)
      simp only[es] at hK2 |-
      clear es
      have hbx:Blk wx ((w.heap.size+1)) (cN 8 c ⟨#[]⟩ sN (.slice ya yn yc) sN) 31:=hRl.before 2 1 (I:=fun W=>Blk W ((w.heap.size+1)) (cN 8 c ⟨#[]⟩ sN (.slice ya yn yc) sN) 31) rfl rfl hLk (fun e=>by rw[e];exact HBXF.out _ (But.refl _ _).drew) (fC ⟨fun v h=>HBXF.out _ (by obtain⟨_,_,_,_,_,h⟩:=h;exact h),fC ⟨fun v h=>HBXF.out _ (by obtain⟨_,_,_,_,_,_,h,_⟩:=h;exact h),fN⟩⟩)
      have cl:=(c12p hbx).1.2.2.2.2.1
      clear hbx
      go_simp
      clear cl
      exact hK2 _ _ (hRl.pure 1 _ rfl fN (fC ⟨rfl,fN⟩))
     ·refine InvStep.lst 2 [] Ni (fun L vals olds wx hLk hdeps hRl K hK2=>?_)
      simp only[Qs,setD,sS,sZ] at hK2 |-
      clear hdeps
      go_simp
      exact hK2 _ _ (hRl.pure 2 _ rfl fN (fC ⟨rfl,fN⟩))
     ·refine InvStep.lst 3 [2] Ni (fun L vals olds wx hLk hdeps hRl K hK2=>?_)
      simp only[Qs,setD,sS,sZ] at hK2 |-
      simp only[List.all_cons,List.all_nil,Bool.and_true] at hdeps
      have es:=(Qe (vals:=vals) (olds:=olds) hdeps).trans (hRl.val 2 rfl hdeps)
      simp only[es] at hK2 |-
      clear es
      obtain⟨hc,hn⟩:=hRl.stat 0 rfl hLk trivial rfl fN rfl
      dsimp only[QR,List.take] at hc
      subst hc
      go_simp
      refine(NE R la all E HALL.out _ _ (HPa5.out.to bR.drew)).mono ?_
      rintro en w9⟨⟨_,u,rfl,⟨rfl,hz⟩,hv⟩,hp,hb⟩
      dsimp only
      exact hK2 _ _ (hn _ _ ⟨u,rfl,hz,hv,hp,(But.refl R V5).drew.trans hb⟩)
     ·refine InvStep.lst 4 [3] Ni (fun L vals olds wx hLk hdeps hRl K hK2=>?_)
      simp only[Qs,setD,sS,sZ] at hK2 |-
      simp only[List.all_cons,List.all_nil,Bool.and_true] at hdeps
      obtain⟨hc,hn⟩:=hRl.stat 1 rfl hLk hdeps rfl fN rfl
      dsimp only[QR,List.take] at hc
      obtain⟨u,e3,hz,hv,hp,hb⟩:=hc
      have es:=(Qe (vals:=vals) (olds:=olds) hdeps).trans e3
      simp only[es] at hK2 |-
      clear es e3
      go_simp
      obtain⟨Wa,hWa⟩:∃Wa,wx.alloc (.cells #[.int .i64 u.k,.string u.n,.int .i64 u.x] 82)=Wa:=⟨_,rfl⟩
      have hbl:=(made hWa).1
      have xx:=(made hWa).2
      rw[hWa]
      exact hK2 _ _ (hn _ _ ⟨u,wx.heap.size,rfl,hz,hv,hp.to hbl,hb.to hbl,hb.size,xx⟩)
     ·refine InvStep.lst 5 [1,4] Ni (fun L vals olds wx hLk hdeps hRl K hK2=>?_)
      simp only[Qs,setD,sS,sZ] at hK2 |-
      simp only[List.all_cons,List.all_nil,Bool.and_true,Bool.and_eq_true] at hdeps
      obtain⟨hc,hn⟩:=hRl.stat 2 rfl hLk hdeps.2 rfl (fC ⟨hdeps.1,fN⟩) rfl
      dsimp only[QR,List.take] at hc
      have e1:=(Qe (vals:=vals) (olds:=olds) hdeps.1).trans (hRl.val 1 rfl hdeps.1)
      obtain⟨u,nb,e4,hz,hv,hp,hb,hnb,hx4⟩:=hc
      have e4':=(Qe (vals:=vals) (olds:=olds) hdeps.2).trans e4
      have hrow:=HLRF.out _ hb
      have hg:XL (fun k=>W4.heap.size<=k/\k<wx.heap.size/\¬(fun j=>j=w.heap.size+1) k/\some k≠(Value.slice ya yn yc).ownBlock) wx (.agg #[.int .i64 u.k,.string u.n,.int .i64 u.x]) u:=⟨rfl,hz⟩
      have hone:=lyVl.one hg
      refine Za (ops:=#[]) rfl (Zb KT (by rfl) _ _ (by rfl) (by exact e1) hrow.row (some ⟨nb,0,none⟩) 1 1 [cl (.agg #[.int .i64 u.k,.string u.n,.int .i64 u.x])] (by exact e4') rfl (fun e he=>by rw[mS he];rfl) (JY hx4) (fun e he x hx=>hone x (by rw[mS he] at hx;exact hx)) (by have:=HVSZ.out;rw[List.length_map,List.length_singleton];omega) (lT HW4V5.out hb.size) (vs.map cl++[cl (.agg #[.int .i64 u.k,.string u.n,.int .i64 u.x])]) rfl (fun ha hn' hc' w4 hr4 hg4 hq4=>?_))
      have hgrow:=hrow.grow lyVl (x:=u) hg hr4 hg4 hq4 (fun k hk=>by rw[hk];exact lL hl5 hb.size)
      exact hK2 _ _ (hn _ _ ⟨u,ha,hn',hc',_,rfl,hv,hp.grown hg4 HLA.out hR (fun k hk=>lT HW14.out.1 (hrow.row.lt k hk).1),(hb.o _).trans (ButO.grown hg4 R) (fun j h=> .inl h),hgrow⟩)
     ·refine InvStep.lst 6 [] Ni (fun L vals olds wx hLk hdeps hRl K hK2=>?_)
      simp only[Qs,setD,sS,sZ] at hK2 |-
      clear hdeps
      go_simp
      exact hK2 _ _ (hRl.pure 6 _ rfl fN (fC ⟨rfl,fN⟩))
     ·refine InvStep.lst 7 [5,6] Ni (fun L vals olds wx hLk hdeps hRl K hK2=>?_)
      simp only[Qs,setD,sS,sZ] at hK2 |-
      simp only[List.all_cons,List.all_nil,Bool.and_true,Bool.and_eq_true] at hdeps
      obtain⟨hc,hn⟩:=hRl.stat 3 rfl hLk hdeps.1 rfl fN rfl
      dsimp only[QR,List.take] at hc
      have e6:=(Qe (vals:=vals) (olds:=olds) hdeps.2).trans (hRl.val 3 rfl hdeps.2)
      obtain⟨u,ha,hn',hc',vs',e5,hv,hp,hbo,hlr⟩:=hc
      have e5':=(Qe (vals:=vals) (olds:=olds) hdeps.1).trans e5
      have hbx:=HBXO.out _ hbo
      have cl:=(c12p hbx).1.2.2.2.2.1
      have fz:=(c12p hbx).2.2.2.2.2.1
      simp only[e5',e6] at hK2 |-
      have HH:=hid hlr
      have HPP:=hid hp
      have HBB:=hid hbo
      have HXX:=hid hbx
      clear e5 e5' e6 hlr hp hbo hbx
      go_simp
      clear cl fz
      exact hK2 undef _ (hn _ _ ⟨u,ha,hn',hc',vs',hv,HPP.out.set (by omega) HLA.out (by omega) 4 _,(HBB.out.mono (O':=Jt (w.heap.size+1) (.slice ya yn yc)) (fun k _ h=> .inr h)).setC (.inl rfl) 4 _,Qd HXX.out 4 _,HH.out.frame lyVl (ButO.setC (O:=fun j=>j=w.heap.size+1) (ButO.refl R _ _) rfl 4 _) hR3 (fun k hk=> .inl hk)⟩)
    case stopK=>
     refine JI [(0,some 102),(1,some 103),(2,some 104),(3,some 105),(4,some 106),(5,some 107),(6,some 108),(7,none)] (by kernel_rfl) (by decide) (fun L vals olds wK hall hRl=>?_)
     have hfin:=hRl.fin (by simp at hall |-;simp[hall])
     dsimp only[QR] at hfin
     clear hRl hall hHeld
     simp only[Qs,sS,sZ]
     obtain⟨s0,hs0⟩:∃s,QA L vals olds 0=s:=⟨_,rfl⟩
     rw[hs0]
     clear hs0
     obtain⟨s1,hs1⟩:∃s,QA L vals olds 1=s:=⟨_,rfl⟩
     rw[hs1]
     clear hs1
     obtain⟨s2,hs2⟩:∃s,QA L vals olds 2=s:=⟨_,rfl⟩
     rw[hs2]
     clear hs2
     obtain⟨s3,hs3⟩:∃s,QA L vals olds 3=s:=⟨_,rfl⟩
     rw[hs3]
     clear hs3
     obtain⟨s4,hs4⟩:∃s,QA L vals olds 4=s:=⟨_,rfl⟩
     rw[hs4]
     clear hs4
     obtain⟨s5,hs5⟩:∃s,QA L vals olds 5=s:=⟨_,rfl⟩
     rw[hs5]
     clear hs5
     obtain⟨s6,hs6⟩:∃s,QA L vals olds 6=s:=⟨_,rfl⟩
     rw[hs6]
     clear hs6
     obtain⟨u,ha,hn',hc',vs',hv,hp,hbo,hbx,hlr⟩:=hfin
     have hb1:But R w wK:=((HBo5.out.o (fun _=>False)).trans hbo (fun j hj=> .inr (by
      rcases hj with rfl|hj
      ·exact hXW
      ·have:=(HLRL.out j hj.symm).1;have:=HW14.out.2;omega))).but (fun _ _ h=>h)
     have HZK:=hid ((hbo.block w.heap.size (gl0 HZ5.out) hWR (fun e=>by
      rcases e with e|e
      ·omega
      ·have:=(HLRL.out _ e.symm).1;omega)).trans HZ5.out)
     have hle:(Qa E (pval Qb) st4).len<=st4.len:=GX E st4
     have HVU:=hid hv
     have HPaK:=hid hp
     have HBoK:=hid hb1
     have HBXK:=hid hbx
     have HLRK:=hid hlr
     have HSZK:Hid (W4.heap.size<=wK.heap.size):=hid (lT HW4V5.out hbo.size)
     have HLE:=hid hle
     obtain⟨g3,rfl⟩:∃g3,g2=g3+1:=⟨g2-1,by have:=HFU.out;omega⟩
     clear hv hp hbo hbx hlr hb1 hle HBXF HLRF HBXO HLR5 HBX5 HBo5 HPa5 HLRL HZ5
     go_wp2_with fail
     go_roundw
     ·exact⟨us++[a],u,vs',ha,hn',hc',g3,st4,_,hid rfl,HBXK,HLRK,HPaK,HBoK,HMORE,HVU,hid (by have:=HLN.out;have:=HLE.out;have:=HNL.out;rw[List.length_append,List.length_singleton];omega),HSZK,HZK⟩
     ·rw[HPaK.out.lenW,HLENV.out]
      have:=HLE.out
      have:=HNL.out
      omega
   |false=>
    have k0:(t3.toList==[44])=false:=by rw[<-ht3];exact Qt hq
    have hlast:=HVF.out.last HAV.out (by rw[HST.out];exact hq)
    rw[HST.out] at hlast
    have HEND:Hid (Qa E (Qq (pval Qb) ZX g) st0=Qa E (need ZX) st2):=hid (by rw[HU1.out,hlast.1])
    have HVL:=hid hlast.2
    clear hlast ht3 hq HLN
    go_upto_region 42 with(go_at_call 58;refine(Qw R _ all E _ _ HPa.out).mono ?_;rw[HT3.out];rintro en w7⟨rfl,hb⟩;have HPc:=hid (HPa.out.to hb);have HBc:=hid (HBo.out.to hb);have HBX7:=hid ((hb.block (w.heap.size+1) hlv).trans HBOX.out);have HLR7:=hid (HLR.out.frame lyVl ((But.of (P:=R) hb).o _) hR3 (O':=fun j=>j=w.heap.size+1) (fun k hk=> .inl hk));have HZ7:=hid ((hb.block w.heap.size (gl0 HZ0.out)).trans HZ0.out);have hsv7:=hb.size;clear hb)
    clear HPa HBo HBOX HLR HZ0 hlv
    have HPa:=HPc
    have HBo:=HBc
    have HBOX:=HBX7
    have HLR:=HLR7
    have HZ0:=HZ7
    clear HPc HBc HBX7 HLR7 HZ7
    go_upto_region 43 with(go_at_call 59;refine(QD R _ all E _ (by decide+kernel) _ _ HPa.out).mono ?_;rintro en wz⟨rfl,hp,hb⟩;have HP:=hid hp;have HC:=hid hb;clear hp hb)
    have hx3:=(HC.out.block (w.heap.size+1) (gl0 HBOX.out) hXR).trans HBOX.out
    obtain⟨⟨d0,d1,d2,d3,d4,d5,d6,d7,d8,d9,d10,d11⟩,-⟩:=c12p hx3
    clear hx3
    have hx9:=(HC.out.block w.heap.size (gl0 HZ0.out) hWR).trans HZ0.out
    obtain⟨⟨q0,q1,q2,q3,q4,q5,q6,q7,q8,q9,q10,q11⟩,z0,z1,z2,z3,z4,z5,z6,z7,z8,z9,z10,z11⟩:=c12p hx9
    have HX9:=hid hx9
    clear hx9
    go_wp2_with fail
    have hlr:=HLR.out.frame lyVl (HC.out.o _) hR3 (O':=fun j=>j=w.heap.size+1) (fun k hk=> .inl hk)
    have hlu:=HUSZ.out
    have hvs:VlSl (fun k=>W4.heap.size<=k/\k<wz.heap.size) wz (.slice ya yn yc) (us++[a]):=VlSl.mono (fun j hj=>⟨hj.1,hj.2.1⟩) (hlr.vls (by unfold maxLen;omega))
    have hnode:GPr W4.heap.size wz (.mk 8 c ⟨#[]⟩ [] (us++[a]) zT []) (.agg (cN 8 c ⟨#[]⟩ sN (.slice ya yn yc) sN)):=GPr.node (t:=zT) HCZ.out (Nat.zero_le _) (Jv _ _) hvs (YF _ _) (XQ _ _)
    have HPn:Hid (RdIs R la all E (Qa E (Qq (pval Qb) ZX g) st0) wz):=hid (by rw[HEND.out];exact HP.out)
    have hx8:=JZ HX9.out (.int .i64 8) (.string c) tE sN (.slice ya yn yc) iZ iZ tE iZ sN sN sN
    obtain⟨⟨y0,y1,y2,y3,y4,y5,y6,y7,y8,y9,y10,y11⟩,-⟩:=c12p hx8
    refine bodyPost_ret (v:= .agg (cN 8 c ⟨#[]⟩ sN (.slice ya yn yc) sN)) (by simp[results,Tryz.results92,go_sem,y0,y1,y2,y3,y4,y5,y6,y7,y8,y9,y10,y11]) rfl ?_
    refine⟨⟨_,.mk 8 c ⟨#[]⟩ [] (us++[a]) zT [],rfl,⟨(hnode.put12 (by omega) (.int .i64 8) (.string c) tE sN (.slice ya yn yc) iZ iZ tE iZ sN sN sN).mono (by omega),by intro h;cases h⟩,fun y hy=>by obtain⟨l,h2,rfl⟩:=HE.out y hy;rw[HVL.out l (HUP.out l h2)]⟩,HPn.out.oth (X:=w.heap.size) (fun j hj=>QN hj (.int .i64 8) (.string c) tE sN (.slice ya yn yc) iZ iZ tE iZ sN sN sN) (QF _ _ (.int .i64 8) (.string c) tE sN (.slice ya yn yc) iZ iZ tE iZ sN sN sN) hR HLA.out,(HBo.out.trans HC.out).put12 lR (.int .i64 8) (.string c) tE sN (.slice ya yn yc) iZ iZ tE iZ sN sN sN⟩
end Go.Proofs.YtmnbheplkidfaaaGreatDoor
namespace Go.Proofs.YtmnbheplkidfaaaGreatDoor
open Go.RowKit Go.Deep Go.Shelf
theorem Gt(R:Nat)(la:Option Addr)(all:List Tk)(E:Int)(hall:UA all)(P S:List Tk->PR Pr)(n g:Nat)(hS:ProR R la all E 66 S n)(hPr:ProR R la all E 33 P n)(hP:Qr P)
 (c:ByteArray) (hc:c.size<=maxLen) (st:RS) (w:World) (h:RdIs R la all E st w) (hn:st.len<=n) (hn0:0<n) (hg:st.len<=g):
 Calls Tryz.prog 92 #[.pointer (some ⟨R,0,none⟩),.string c] w (Red R la all E w (QZ Qb P S g c) st (GPk w.heap.size)):=by
 cases q0:stHd sBang st with
 |true=>
  obtain⟨e1,e2⟩:=QC E (F:=QZ Qb P S g c) (G:=fun ts=>ZC Qb S c ts.tail) (st:=st) (fun ts e=>if_pos (by rw[e] at q0;exact q0))
  obtain⟨e3,e4⟩:=JH E (P:=ZC Qb S c) q0
  unfold Red
  rw[e1,e2,e3,e4]
  exact Dq R la all E hall c hc st w h S n hS hn q0
 |false=>
  cases q1:stHd sAsk st with
  |true=>
   obtain⟨e1,e2⟩:=QC E (F:=QZ Qb P S g c) (G:=fun ts=>Yh Qb S c ts.tail) (st:=st) (fun ts e=>(if_neg (by rw[show hd sBang ts=false by rw[e] at q0;exact q0];simp)).trans (if_pos (by rw[e] at q1;exact q1)))
   obtain⟨e3,e4⟩:=JH E (P:=Yh Qb S c) q1
   unfold Red
   rw[e1,e2,e3,e4]
   exact Th R la all E c hc st w h S n hS hn q0 q1
  |false=>
   cases q2:stHd sDot st with
   |true=>
    obtain⟨e1,e2⟩:=QC E (F:=QZ Qb P S g c) (G:=fun ts=>VG Qb S c ts.tail) (st:=st) (fun ts e=>(if_neg (by rw[show hd sBang ts=false by rw[e] at q0;exact q0];simp)).trans ((if_neg (by rw[show hd sAsk ts=false by rw[e] at q1;exact q1];simp)).trans (if_pos (by rw[e] at q2;exact q2))))
    obtain⟨e3,e4⟩:=JH E (P:=VG Qb S c) q2
    unfold Red
    rw[e1,e2,e3,e4]
    exact Tg R la all E c hc st w h S n hS hn q0 q1 q2
   |false=>
    cases q3:stHd sAnd st with
    |true=>
     obtain⟨e1,e2⟩:=QC E (F:=QZ Qb P S g c) (G:=fun ts=>VI Qb P g c ts.tail) (st:=st) (fun ts e=>(if_neg (by rw[show hd sBang ts=false by rw[e] at q0;exact q0];simp)).trans ((if_neg (by rw[show hd sAsk ts=false by rw[e] at q1;exact q1];simp)).trans ((if_neg (by rw[show hd sDot ts=false by rw[e] at q2;exact q2];simp)).trans (if_pos (by rw[e] at q3;exact q3)))))
     obtain⟨e3,e4⟩:=JH E (P:=VI Qb P g c) q3
     unfold Red
     rw[e1,e2,e3,e4]
     exact Ti R la all E c hc st w h P n g hPr hP hg hn q0 q1 q2 q3
    |false=>
     obtain⟨e1,e2⟩:=QC E (F:=QZ Qb P S g c) (G:=ZE Qb g c) (st:=st) (fun ts e=>(if_neg (by rw[show hd sBang ts=false by rw[e] at q0;exact q0];simp)).trans ((if_neg (by rw[show hd sAsk ts=false by rw[e] at q1;exact q1];simp)).trans ((if_neg (by rw[show hd sDot ts=false by rw[e] at q2;exact q2];simp)).trans (if_neg (by rw[show hd sAnd ts=false by rw[e] at q3;exact q3];simp)))))
     unfold Red
     rw[e1,e2]
     cases q4:stHd Yp st with
     |true=>exact Dp R la all E hall c hc st w h g hg q0 q1 q2 q3 q4
     |false=>exact WY R la all E g c hc st w h S n hS hn0 q0 q1 q2 q3 q4
end Go.Proofs.YtmnbheplkidfaaaGreatDoor
namespace Go.Proofs.YtmnbheplkidfaaaGreatDoor
open Go.Lib (hid)
open Go.RowKit Go.Deep Go.Shelf
theorem RQ{f:Nat}{ts:List Tk}(h:hd Mx ts=true):QV Qb (f+1) ts= .ok (.mk 1 ⟨#[]⟩ ⟨#[]⟩ [] [] zT []) ts.tail:=by
 rw[Vj,Yr,if_pos h]
theorem Ny{f:Nat}{ts:List Tk}(h:hd QI ts=true):QV Qb (f+1) ts=(QT Qb f ts.tail).bind fun p r=>(need Qy r).bind fun _ r=> .ok p r:=by
 rw[Vj,Yr,if_neg (by rw[Qx h (by decide+kernel)];simp),if_pos h]
theorem WG{f:Nat}{ts:List Tk}(h:hd sNew ts=true):QV Qb (f+1) ts=YV Qb (Ql Qb f) (QV Qb f) ts.tail:=by
 rw[Vj,Yr,if_neg (by rw[Qx h (by decide+kernel)];simp),if_neg (by rw[Qx h (by decide+kernel)];simp),if_pos h]
theorem RR{f:Nat}{ts:List Tk}(h0:hd Mx ts=false)(h1:hd QI ts=false)(h2:hd sNew ts=false):QV Qb (f+1) ts=(Qk Qb ts).bind fun c r=>QZ Qb (QT Qb f) (QV Qb f) f c r:=by
 rw[Vj,Yr,if_neg (by rw[h0];simp),if_neg (by rw[h1];simp),if_neg (by rw[h2];simp)]
theorem TJ(E:Int)(S:List Tk->PR Pr)(st:RS):Qa E (fun ts=>(S ts).bind fun t r=>(need Qy r).bind fun _ r=> .ok t r) st=Qa E (need Qy) (Qa E S st)/\
 ∀y,Qj (fun ts=>(S ts).bind fun t r=>(need Qy r).bind fun _ r=> .ok t r) st=some y->Qj S st=some y:=by
 constructor
 ·exact Qg (X:=fun s=>Qa E (need Qy) s) (fun t=>Qg (X:=fun s=>s) (fun u=>QU _ _ _) (fun _=>rfl)) (fun _=>rfl)
 ·intro y hy
  obtain⟨t,h1,h2⟩:=Qh E hy
  obtain⟨_,_,h4⟩:=Qh E h2
  rw[<-Jq h4];exact h1
theorem TO(E:Int)(NF:ByteArray->List Tk->PR Pr)(st:RS)(nm:ByteArray)(h:∀y,Qj (Qk Qb) st=some y->nm=y):Qa E (fun ts=>(Qk Qb ts).bind fun c r=>NF c r) st=Qa E (NF nm) (Qa E (Qk Qb) st)/\
 ∀y,Qj (fun ts=>(Qk Qb ts).bind fun c r=>NF c r) st=some y->Qj (NF nm) (Qa E (Qk Qb) st)=some y:=by
 constructor
 ·match st with
  | .inr z=>rfl
  | .inl ts=>
   cases hA:Qk Qb ts with
   |ok c r=>
    have e:=h c (JP hA)
    subst e
    rw[QM E hA]
    show Qa E (fun ts=>(Qk Qb ts).bind fun c r=>NF c r) (.inl ts)=_
    unfold Qa
    simp only[hA,PR.bind]
   |bad e r=>
    rw[QE E hA]
    refine QE E ?_
    rw[hA];rfl
 ·intro y hy
  obtain⟨c,h1,h2⟩:=Qh E hy
  rw[h c h1];exact h2
theorem VO(R:Nat)(la:Option Addr)(all:List Tk)(E:Int)(z:Int×Int)(w:World)(h:RdIs R la all E (.inr z) w)(S:List Tk->PR Pr):
 Calls Tryz.prog 66 #[.pointer (some ⟨R,0,none⟩)] w (Red R la all E w (S) (.inr z) (GPn w.heap.size (RS.len (.inr z)))):=by
 obtain⟨W1,hW1⟩:∃W1,w.alloc (.cells z12 31)=W1:=⟨_,rfl⟩
 have hb1:=(made hW1).1
 have x1:=(made hW1).2
 have hs1:w.heap.size<W1.heap.size:=gl0 x1
 have hR:R<w.heap.size:=h.lt
 have HLA:=hid h.la
 have HP:Hid (RdIs R la all E (.inr z) W1):=hid (h.to hb1)
 have HB:Hid (But R W1 W1):=hid (But.refl _ _)
 have HD:Hid (But R w W1):=hid (But.of hb1)
 have HW1:=hid hW1
 have HX1:=hid x1
 clear hW1 hb1 x1
 obtain⟨er,y3,hne⟩:∃er:Int,W1.cell? ⟨R,3,none⟩=some (.int .i64 er)/\(er != 0)=true:=by
  obtain⟨e0,p0⟩:=z
  obtain⟨cap,a,p,e,hx,_,_,he,_,hn⟩:=HP.out
  exact⟨e,(c5 hx).1.2.2.2.1,by rw[he];simpa using hn⟩
 clear h
 go_enter Tryz.func66,Tryz.ntmps66
 go_upto_region 1 with fail
 rw[HW1.out]
 have hx9:Blk W1 w.heap.size z12 31:=(HB.out.block w.heap.size hs1 (Nat.ne_of_gt hR)).trans HX1.out
 obtain⟨⟨q0,q1,q2,q3,q4,q5,q6,q7,q8,q9,q10,q11⟩,z0,z1,z2,z3,z4,z5,z6,z7,z8,z9,z10,z11⟩:=c12p hx9
 have HX9:=hid hx9
 clear hx9
 go_wp2_with fail
 have hx8:=LV HX9.out
 obtain⟨⟨y0,y1,y2,y3,y4,y5,y6,y7,y8,y9,y10,y11⟩,-⟩:=c12p hx8
 refine bodyPost_ret (v:= .agg (cN 0 ⟨#[]⟩ ⟨#[]⟩ sN sN sN)) (by simp[results,Tryz.results66,go_sem,y0,y1,y2,y3,y4,y5,y6,y7,y8,y9,y10,y11]) rfl ?_
 refine⟨⟨_,Pr.mk 0 ⟨#[]⟩ ⟨#[]⟩ [] [] zT [],rfl,⟨(((GPr.node (t:=zT) (Nat.zero_le _) (Nat.zero_le _) (Jv _ _) (JK _ _) (YF _ _) (XQ _ _):GPr W1.heap.size W1 _ _)).put12 hs1 iZ tE tE sN sN iZ iZ tE iZ sN sN sN).mono (Nat.le_of_lt hs1),Vy (by intro h;cases h) _⟩,fun y hy=>by cases hy⟩,(HP.out).oth (X:=w.heap.size) (fun j hj=>Dt hj) (Gu _ _) hR HLA.out,(HD.out).put12 lR iZ tE tE sN sN iZ iZ tE iZ sN sN sN⟩
theorem Gq(R:Nat)(la:Option Addr)(all:List Tk)(E:Int)(ts:List Tk)(w:World)(h:RdIs R la all E (.inl ts) w)(f:Nat)(q0:stHd Mx (.inl ts)=true):
 Calls Tryz.prog 66 #[.pointer (some ⟨R,0,none⟩)] w (Red R la all E w (QV Qb (f+1)) (.inl ts) (GPn w.heap.size (RS.len (.inl ts)))):=by
 obtain⟨W1,hW1⟩:∃W1,w.alloc (.cells z12 31)=W1:=⟨_,rfl⟩
 have hb1:=(made hW1).1
 have x1:=(made hW1).2
 have hs1:w.heap.size<W1.heap.size:=gl0 x1
 have hR:R<w.heap.size:=h.lt
 have HLA:=hid h.la
 have HP:Hid (RdIs R la all E (.inl ts) W1):=hid (h.to hb1)
 have HB:Hid (But R W1 W1):=hid (But.refl _ _)
 have HD:Hid (But R w W1):=hid (But.of hb1)
 have HW1:=hid hW1
 have HX1:=hid x1
 clear hW1 hb1 x1
 obtain⟨y3,y4⟩:W1.cell? ⟨R,3,none⟩=some iZ/\True:=by
  obtain⟨cap,a,p,e,hx,_,_,rfl,_⟩:=HP.out
  exact⟨(c5 hx).1.2.2.2.1,trivial⟩
 clear y4
 have hlen:1<=RS.len (.inl ts):=Nat.le_add_left _ _
 obtain⟨st,hst⟩:∃st:RS,(Sum.inl ts:RS)=st:=⟨_,rfl⟩
 rw[hst] at HP hlen |-
 rw[hst] at q0
 obtain⟨t1,ht1⟩:∃t1,Qi st=t1:=⟨_,rfl⟩
 have k0:(t1.toList==[115,116,111,112])=true:=by rw[<-ht1];exact Qt q0
 have HT1:=hid ht1
 clear ht1 h
 obtain⟨he1,he2⟩:=QC (F:=QV Qb (f+1)) (G:=fun ts=> .ok (.mk 1 ⟨#[]⟩ ⟨#[]⟩ [] [] zT []) ts.tail) E (st:=st) (fun t e=>RQ (by rw[e] at q0;exact q0))
 obtain⟨hl1,hl2⟩:=Yb E (Pr.mk 1 ⟨#[]⟩ ⟨#[]⟩ [] [] zT []) q0
 unfold Red
 rw[he1,he2,hl1]
 have HE:=hid hl2
 clear he1 he2 hl1 hl2 q0 hst hlen
 go_enter Tryz.func66,Tryz.ntmps66
 go_upto_region 1 with fail
 rw[HW1.out]
 go_upto_region 6 with(first|(go_at_call 58;refine(Xz HP HB HT1.out).mono ?_;rintro _ wn⟨rfl,HP,HB⟩)|(go_at_call 59;refine(Zs HP HB).mono ?_;rintro _ wn⟨rfl,HP,HB⟩))
 have hx9:Blk wn w.heap.size z12 31:=(HB.out.block w.heap.size hs1 (Nat.ne_of_gt hR)).trans HX1.out
 obtain⟨⟨q0,q1,q2,q3,q4,q5,q6,q7,q8,q9,q10,q11⟩,z0,z1,z2,z3,z4,z5,z6,z7,z8,z9,z10,z11⟩:=c12p hx9
 have HX9:=hid hx9
 clear hx9
 go_wp2_with fail
 have hsn:W1.heap.size<=wn.heap.size:=HB.out.size
 have hx8:=JZ HX9.out (.int .i64 1) tE tE sN sN iZ iZ tE iZ sN sN sN
 obtain⟨⟨y0,y1,y2,y3,y4,y5,y6,y7,y8,y9,y10,y11⟩,-⟩:=c12p hx8
 refine bodyPost_ret (v:= .agg (cN 1 ⟨#[]⟩ ⟨#[]⟩ sN sN sN)) (by simp[results,Tryz.results66,go_sem,y0,y1,y2,y3,y4,y5,y6,y7,y8,y9,y10,y11]) rfl ?_
 refine⟨⟨_,Pr.mk 1 ⟨#[]⟩ ⟨#[]⟩ [] [] zT [],rfl,⟨(((GPr.node (t:=zT) (Nat.zero_le _) (Nat.zero_le _) (Jv _ _) (JK _ _) (YF _ _) (XQ _ _):GPr W1.heap.size wn _ _)).put12 hs1 (.int .i64 1) tE tE sN sN iZ iZ tE iZ sN sN sN).mono (Nat.le_of_lt hs1),Vy (by intro h;cases h) _⟩,HE.out⟩,(HP.out).oth (X:=w.heap.size) (fun j hj=>QN hj (.int .i64 1) tE tE sN sN iZ iZ tE iZ sN sN sN) (QF _ _ (.int .i64 1) tE tE sN sN iZ iZ tE iZ sN sN sN) hR HLA.out,((HD.out.trans HB.out)).put12 lR (.int .i64 1) tE tE sN sN iZ iZ tE iZ sN sN sN⟩
theorem Dj(R:Nat)(la:Option Addr)(all:List Tk)(E:Int)(ts:List Tk)(w:World)(h:RdIs R la all E (.inl ts) w)(f n:Nat)(hPr:ProR R la all E 33 (QT Qb f) n)(hn:RS.len (.inl ts)<=n)(q0:stHd Mx (.inl ts)=false)(q1:stHd QI (.inl ts)=true):
 Calls Tryz.prog 66 #[.pointer (some ⟨R,0,none⟩)] w (Red R la all E w (QV Qb (f+1)) (.inl ts) (GPn w.heap.size (RS.len (.inl ts)))):=by
 obtain⟨W1,hW1⟩:∃W1,w.alloc (.cells z12 31)=W1:=⟨_,rfl⟩
 have hb1:=(made hW1).1
 have x1:=(made hW1).2
 have hs1:w.heap.size<W1.heap.size:=gl0 x1
 have hR:R<w.heap.size:=h.lt
 have HLA:=hid h.la
 have HP:Hid (RdIs R la all E (.inl ts) W1):=hid (h.to hb1)
 have HB:Hid (But R W1 W1):=hid (But.refl _ _)
 have HD:Hid (But R w W1):=hid (But.of hb1)
 have HW1:=hid hW1
 have HX1:=hid x1
 clear hW1 hb1 x1
 obtain⟨y3,y4⟩:W1.cell? ⟨R,3,none⟩=some iZ/\True:=by
  obtain⟨cap,a,p,e,hx,_,_,rfl,_⟩:=HP.out
  exact⟨(c5 hx).1.2.2.2.1,trivial⟩
 clear y4
 have hlen:1<=RS.len (.inl ts):=Nat.le_add_left _ _
 obtain⟨st,hst⟩:∃st:RS,(Sum.inl ts:RS)=st:=⟨_,rfl⟩
 rw[hst] at HP hlen |-
 rw[hst] at q0 q1
 obtain⟨t1,ht1⟩:∃t1,Qi st=t1:=⟨_,rfl⟩
 have k0:(t1.toList==[115,116,111,112])=false:=by rw[<-ht1];exact Qt q0
 have k1:(t1.toList==[40])=true:=by rw[<-ht1];exact Qt q1
 have HT1:=hid ht1
 clear ht1 h
 rw[hst] at hn
 have HPR:=hid hPr
 have HLS:Hid ((Qa E (need QI) st).len<n):=hid (by have a:=JQ E q1;omega)
 have HLO:Hid ((Qa E (need QI) st).len<=st.len):=hid (Jr E QI st)
 obtain⟨he1,he2⟩:=QC (F:=QV Qb (f+1)) (G:=fun ts=>(QT Qb f ts.tail).bind fun p r=>(need Qy r).bind fun _ r=> .ok p r) E (st:=st) (fun t e=>Ny (by rw[e] at q1;exact q1))
 obtain⟨hl1,hl2⟩:=JH (P:=fun ts=>(QT Qb f ts).bind fun p r=>(need Qy r).bind fun _ r=> .ok p r) E q1
 obtain⟨hm1,hm2⟩:=TJ E (QT Qb f) (Qa E (need QI) st)
 unfold Red
 rw[he1,he2,hl1,hl2,hm1]
 have HE:=hid hm2
 clear he1 he2 hl1 hl2 hm1 hm2 q0 q1 hst hlen hn hPr
 go_enter Tryz.func66,Tryz.ntmps66
 go_upto_region 1 with fail
 rw[HW1.out]
 go_upto_region 9 with(first|(go_at_call 58;refine(Xz HP HB HT1.out).mono ?_;rintro _ wn⟨rfl,HP,HB⟩)|(go_at_call 59;refine(Zs HP HB).mono ?_;rintro _ wn⟨rfl,HP,HB⟩))
 have hwn:W1.heap.size<=wn.heap.size:=HB.out.size
 go_upto_region 10 with(go_at_call 33;refine(Er HPR.out HLS.out HP HB).mono ?_;rintro _ ws⟨p,la',ln,lc,aa,an,ac,ta,tn,tc,ua,un,uc,ka,kn,kc,rfl,HG,HKN,HVp,HP,HB⟩)
 have hws:W1.heap.size<=ws.heap.size:=HB.out.size
 obtain⟨W4,hW4⟩:∃W4,ws.alloc (.cells (gP p la' ln lc aa an ac ta tn tc ua un uc ka kn kc) 31)=W4:=⟨_,rfl⟩
 rw[hW4]
 have hb4:=(made hW4).1
 have x4:=(made hW4).2
 have HGn:=hid ((GPr.mono HG.out hwn).but (But.of (P:=R) hb4) (by omega))
 have HPn:=hid (HP.out.to hb4)
 have HDn:=hid ((HD.out.trans HB.out).to hb4)
 have HZ4:Hid (Blk W4 w.heap.size z12 31):=hid ((hb4.block _ (by omega)).trans ((HB.out.block w.heap.size hs1 (Nat.ne_of_gt hR)).trans HX1.out))
 have HX4:=hid x4
 obtain⟨b4,hb4'⟩:∃b,ws.heap.size=b:=⟨_,rfl⟩
 rw[hb4'] at HX4 hws |-
 clear hb4 x4 hW4 HP HB HG HD hb4'
 have HP:=HPn
 have HG:=HGn
 have HD:=HDn
 have HB:Hid (But R W4 W4):=hid (But.refl _ _)
 clear HPn HGn HDn
 go_upto_region 11 with(go_at_call 59;refine(Zs HP HB).mono ?_;rintro _ wq⟨rfl,HP,HB⟩)
 have hx3:=(HB.out.block b4 (gl0 HX4.out) (by omega)).trans HX4.out
 obtain⟨⟨d0,d1,d2,d3,d4,d5,d6,d7,d8,d9,d10,d11⟩,-⟩:=c12p hx3
 clear hx3
 have hx9:=(HB.out.block w.heap.size (gl0 HZ4.out) (Nat.ne_of_gt hR)).trans HZ4.out
 obtain⟨⟨q0,q1,q2,q3,q4,q5,q6,q7,q8,q9,q10,q11⟩,z0,z1,z2,z3,z4,z5,z6,z7,z8,z9,z10,z11⟩:=c12p hx9
 have HX9:=hid hx9
 clear hx9
 go_wp2_with fail
 have hx8:=JZ HX9.out (.int .i64 p.k) (.string p.c) (.string p.x) (.slice la' ln lc) (.slice aa an ac) (.int .i64 p.t.k) (.int .i64 p.t.p) (.string p.t.n) (.int .i64 p.t.s) (.slice ta tn tc) (.slice ua un uc) (.slice ka kn kc)
 obtain⟨⟨y0,y1,y2,y3,y4,y5,y6,y7,y8,y9,y10,y11⟩,-⟩:=c12p hx8
 refine bodyPost_ret (v:= .agg (gP p la' ln lc aa an ac ta tn tc ua un uc ka kn kc)) (by simp[results,Tryz.results66,go_sem,y0,y1,y2,y3,y4,y5,y6,y7,y8,y9,y10,y11]) rfl ?_
 refine⟨⟨_,p,rfl,⟨((HG.out.but HB.out (by omega)).put12 hs1 (.int .i64 p.k) (.string p.c) (.string p.x) (.slice la' ln lc) (.slice aa an ac) (.int .i64 p.t.k) (.int .i64 p.t.p) (.string p.t.n) (.int .i64 p.t.s) (.slice ta tn tc) (.slice ua un uc) (.slice ka kn kc)).mono (Nat.le_of_lt hs1),lT HKN.out (by have:=HLO.out;omega)⟩,fun y hy=>HVp.out y (HE.out y hy)⟩,(HP.out).oth (X:=w.heap.size) (fun j hj=>QN hj (.int .i64 p.k) (.string p.c) (.string p.x) (.slice la' ln lc) (.slice aa an ac) (.int .i64 p.t.k) (.int .i64 p.t.p) (.string p.t.n) (.int .i64 p.t.s) (.slice ta tn tc) (.slice ua un uc) (.slice ka kn kc)) (QF _ _ (.int .i64 p.k) (.string p.c) (.string p.x) (.slice la' ln lc) (.slice aa an ac) (.int .i64 p.t.k) (.int .i64 p.t.p) (.string p.t.n) (.int .i64 p.t.s) (.slice ta tn tc) (.slice ua un uc) (.slice ka kn kc)) hR HLA.out,((HD.out.trans HB.out)).put12 lR (.int .i64 p.k) (.string p.c) (.string p.x) (.slice la' ln lc) (.slice aa an ac) (.int .i64 p.t.k) (.int .i64 p.t.p) (.string p.t.n) (.int .i64 p.t.s) (.slice ta tn tc) (.slice ua un uc) (.slice ka kn kc)⟩
theorem Gr(R:Nat)(la:Option Addr)(all:List Tk)(E:Int)(ts:List Tk)(w:World)(h:RdIs R la all E (.inl ts) w)(hall:UA all)(f n:Nat)(hPr:ProR R la all E 33 (QT Qb f) n)(hS:ProR R la all E 66 (QV Qb f) n)(hn:RS.len (.inl ts)<=n)(hf:RS.len (.inl ts)<=f+1)(q0:stHd Mx (.inl ts)=false)(q1:stHd QI (.inl ts)=false)(q2:stHd sNew (.inl ts)=false):
 Calls Tryz.prog 66 #[.pointer (some ⟨R,0,none⟩)] w (Red R la all E w (QV Qb (f+1)) (.inl ts) (GPn w.heap.size (RS.len (.inl ts)))):=by
 obtain⟨W1,hW1⟩:∃W1,w.alloc (.cells z12 31)=W1:=⟨_,rfl⟩
 have hb1:=(made hW1).1
 have x1:=(made hW1).2
 have hs1:w.heap.size<W1.heap.size:=gl0 x1
 have hR:R<w.heap.size:=h.lt
 have HLA:=hid h.la
 have HP:Hid (RdIs R la all E (.inl ts) W1):=hid (h.to hb1)
 have HB:Hid (But R W1 W1):=hid (But.refl _ _)
 have HD:Hid (But R w W1):=hid (But.of hb1)
 have HW1:=hid hW1
 have HX1:=hid x1
 clear hW1 hb1 x1
 obtain⟨y3,y4⟩:W1.cell? ⟨R,3,none⟩=some iZ/\True:=by
  obtain⟨cap,a,p,e,hx,_,_,rfl,_⟩:=HP.out
  exact⟨(c5 hx).1.2.2.2.1,trivial⟩
 clear y4
 have hlen:1<=RS.len (.inl ts):=Nat.le_add_left _ _
 obtain⟨st,hst⟩:∃st:RS,(Sum.inl ts:RS)=st:=⟨_,rfl⟩
 rw[hst] at HP hlen |-
 rw[hst] at q0 q1 q2
 obtain⟨t1,ht1⟩:∃t1,Qi st=t1:=⟨_,rfl⟩
 have k0:(t1.toList==[115,116,111,112])=false:=by rw[<-ht1];exact Qt q0
 have k1:(t1.toList==[40])=false:=by rw[<-ht1];exact Qt q1
 have k2:(t1.toList==[110,101,119])=false:=by rw[<-ht1];exact Qt q2
 have HT1:=hid ht1
 clear ht1 h
 rw[hst] at hn hf
 have HALL:=hid hall
 have HPR:=hid hPr
 have HS:=hid hS
 have HLN:Hid ((Qa E (Qk Qb) st).len<=n/\0<n):=hid ⟨lT (Xa E st) hn,by omega⟩
 have HLF:Hid ((Qa E (Qk Qb) st).len<=f):=hid (by
  match st,hlen,hf with
  | .inl ts,hlen,hf=>
   cases hp:Qk Qb ts with
   |ok c r=>
    rw[QM E hp]
    have:=QJ hp
    have hf:ts.length+1<=f+1:=hf
    show r.length+1<=f
    omega
   |bad e r=>rw[QE E hp];exact Nat.zero_le _)
 obtain⟨he1,he2⟩:=QC (F:=QV Qb (f+1)) (G:=fun ts=>(Qk Qb ts).bind fun c r=>QZ Qb (QT Qb f) (QV Qb f) f c r) E (st:=st) (fun t e=>RR (by rw[e] at q0;exact q0) (by rw[e] at q1;exact q1) (by rw[e] at q2;exact q2))
 unfold Red
 rw[he1,he2]
 have HNS:=hid (TO E (fun c r=>QZ Qb (QT Qb f) (QV Qb f) f c r) st)
 clear he1 he2 q0 q1 q2 hst hlen hn hf hPr hS hall
 go_enter Tryz.func66,Tryz.ntmps66
 go_upto_region 1 with fail
 rw[HW1.out]
 go_upto_region 24 with(go_at_call 58;refine(Xz HP HB HT1.out).mono ?_;rintro _ wn⟨rfl,HP,HB⟩)
 go_wp2_with (first|(go_at_call 60;refine(Ht HP HB).mono ?_;rintro _ wm⟨nm,rfl,HNZ,HNV,HP,HB⟩;have hwm:W1.heap.size<=wm.heap.size:=HB.out.size)|(go_at_call 92;refine(Gt R la all E HALL.out (QT Qb f) (QV Qb f) n f HS.out HPR.out (Uw f) nm HNZ.out _ _ HP.out HLN.out.1 HLN.out.2 HLF.out).mono ?_;rintro _ ws⟨⟨_,p,rfl,⟨hg,hk⟩,hv⟩,hp,hb⟩;have HK:=hid hk;clear hk;obtain⟨la',ln,lc,aa,an,ac,ta,tn,tc,ua,un,uc,ka,kn,kc,rfl⟩:=PrVal.open hg;have HG:=hid hg;have HVp:=hid hv;have HPn:=hid hp;have HBn:=hid (HB.out.trans hb);clear hg hv hp hb;have hx9:Blk ws w.heap.size z12 31:=(HBn.out.block w.heap.size hs1 (Nat.ne_of_gt hR)).trans HX1.out;obtain⟨⟨q0,q1,q2,q3,q4,q5,q6,q7,q8,q9,q10,q11⟩,z0,z1,z2,z3,z4,z5,z6,z7,z8,z9,z10,z11⟩:=c12p hx9;have HX9:=hid hx9;clear hx9))
 obtain⟨hn1,hn2⟩:=HNS.out nm HNV.out
 have hx8:=JZ HX9.out (.int .i64 p.k) (.string p.c) (.string p.x) (.slice la' ln lc) (.slice aa an ac) (.int .i64 p.t.k) (.int .i64 p.t.p) (.string p.t.n) (.int .i64 p.t.s) (.slice ta tn tc) (.slice ua un uc) (.slice ka kn kc)
 obtain⟨⟨y0,y1,y2,y3,y4,y5,y6,y7,y8,y9,y10,y11⟩,-⟩:=c12p hx8
 refine bodyPost_ret (v:= .agg (gP p la' ln lc aa an ac ta tn tc ua un uc ka kn kc)) (by simp[results,Tryz.results66,go_sem,y0,y1,y2,y3,y4,y5,y6,y7,y8,y9,y10,y11]) rfl ?_
 refine⟨⟨_,p,rfl,⟨(((GPr.mono HG.out hwm)).put12 hs1 (.int .i64 p.k) (.string p.c) (.string p.x) (.slice la' ln lc) (.slice aa an ac) (.int .i64 p.t.k) (.int .i64 p.t.p) (.string p.t.n) (.int .i64 p.t.s) (.slice ta tn tc) (.slice ua un uc) (.slice ka kn kc)).mono (Nat.le_of_lt hs1),Vy HK.out _⟩,fun y hy=>HVp.out y (hn2 y hy)⟩,((by rw[hn1];exact HPn.out:RdIs R la all E _ ws)).oth (X:=w.heap.size) (fun j hj=>QN hj (.int .i64 p.k) (.string p.c) (.string p.x) (.slice la' ln lc) (.slice aa an ac) (.int .i64 p.t.k) (.int .i64 p.t.p) (.string p.t.n) (.int .i64 p.t.s) (.slice ta tn tc) (.slice ua un uc) (.slice ka kn kc)) (QF _ _ (.int .i64 p.k) (.string p.c) (.string p.x) (.slice la' ln lc) (.slice aa an ac) (.int .i64 p.t.k) (.int .i64 p.t.p) (.string p.t.n) (.int .i64 p.t.s) (.slice ta tn tc) (.slice ua un uc) (.slice ka kn kc)) hR HLA.out,(HD.out.trans HBn.out).put12 lR (.int .i64 p.k) (.string p.c) (.string p.x) (.slice la' ln lc) (.slice aa an ac) (.int .i64 p.t.k) (.int .i64 p.t.p) (.string p.t.n) (.int .i64 p.t.s) (.slice ta tn tc) (.slice ua un uc) (.slice ka kn kc)⟩
theorem Sw(E:Int)(F:List Tk->PR Ty)(S:List Tk->PR Pr)(st:RS):Qa E (YV Qb F S) st=Qa E S (Qa E (need Qy) (Qa E F (Qa E (need QB) (Qa E (Qk Qb) (Qa E (need QG) (Qa E (Qk Qb) (Qa E (need QI) st)))))))/\
 ∀y,Qj (YV Qb F S) st=some y->∃a b t p,Qj (Qk Qb) (Qa E (need QI) st)=some a/\Qj (Qk Qb) (Qa E (need QG) (Qa E (Qk Qb) (Qa E (need QI) st)))=some b/\
  Qj F (Qa E (need QB) (Qa E (Qk Qb) (Qa E (need QG) (Qa E (Qk Qb) (Qa E (need QI) st)))))=some t/\
  Qj S (Qa E (need Qy) (Qa E F (Qa E (need QB) (Qa E (Qk Qb) (Qa E (need QG) (Qa E (Qk Qb) (Qa E (need QI) st)))))))=some p/\Pr.mk 6 a b [] [] t [p]=y:=by
 constructor
 ·exact Qg (X:=fun s=>Qa E S (Qa E (need Qy) (Qa E F (Qa E (need QB) (Qa E (Qk Qb) (Qa E (need QG) (Qa E (Qk Qb) s))))))) (fun _=>Qg (X:=fun s=>Qa E S (Qa E (need Qy) (Qa E F (Qa E (need QB) (Qa E (Qk Qb) (Qa E (need QG) s)))))) (fun _=>Qg (X:=fun s=>Qa E S (Qa E (need Qy) (Qa E F (Qa E (need QB) (Qa E (Qk Qb) s))))) (fun _=>Qg (X:=fun s=>Qa E S (Qa E (need Qy) (Qa E F (Qa E (need QB) s)))) (fun _=>Qg (X:=fun s=>Qa E S (Qa E (need Qy) (Qa E F s))) (fun _=>Qg (X:=fun s=>Qa E S (Qa E (need Qy) s)) (fun _=>Qg (X:=fun s=>Qa E S s) (fun _=>Qg (X:=fun s=>s) (fun _=>QU _ _ _) (fun _=>rfl)) (fun _=>rfl)) (fun _=>rfl)) (fun _=>rfl)) (fun _=>rfl)) (fun _=>rfl)) (fun _=>rfl)) (fun _=>rfl)
 ·intro y hy
  obtain⟨_,_,h2⟩:=Qh E hy
  obtain⟨a,h3,h4⟩:=Qh E h2
  obtain⟨_,_,h6⟩:=Qh E h4
  obtain⟨b,h7,h8⟩:=Qh E h6
  obtain⟨_,_,h10⟩:=Qh E h8
  obtain⟨t,h11,h12⟩:=Qh E h10
  obtain⟨_,_,h14⟩:=Qh E h12
  obtain⟨p,h15,h16⟩:=Qh E h14
  exact⟨a,b,t,p,h3,h7,h11,h15,Jq h16⟩
theorem Dk(R:Nat)(la:Option Addr)(all:List Tk)(E:Int)(ts:List Tk)(w:World)(h:RdIs R la all E (.inl ts) w)(f n:Nat)(hT:KG R la all E (Ql Qb f) f)(hS:ProR R la all E 66 (QV Qb f) n)(hn:RS.len (.inl ts)<=n)(hf:RS.len (.inl ts)<=f)(q0:stHd Mx (.inl ts)=false)(q1:stHd QI (.inl ts)=false)(q2:stHd sNew (.inl ts)=true):
 Calls Tryz.prog 66 #[.pointer (some ⟨R,0,none⟩)] w (Red R la all E w (QV Qb (f+1)) (.inl ts) (GPn w.heap.size (RS.len (.inl ts)))):=by
 obtain⟨W1,hW1⟩:∃W1,w.alloc (.cells z12 31)=W1:=⟨_,rfl⟩
 have hb1:=(made hW1).1
 have x1:=(made hW1).2
 have hs1:w.heap.size<W1.heap.size:=gl0 x1
 have hR:R<w.heap.size:=h.lt
 have HLA:=hid h.la
 have HP:Hid (RdIs R la all E (.inl ts) W1):=hid (h.to hb1)
 have HB:Hid (But R W1 W1):=hid (But.refl _ _)
 have HD:Hid (But R w W1):=hid (But.of hb1)
 have HW1:=hid hW1
 have HX1:=hid x1
 clear hW1 hb1 x1
 obtain⟨y3,y4⟩:W1.cell? ⟨R,3,none⟩=some iZ/\True:=by
  obtain⟨cap,a,p,e,hx,_,_,rfl,_⟩:=HP.out
  exact⟨(c5 hx).1.2.2.2.1,trivial⟩
 clear y4
 have hlen:1<=RS.len (.inl ts):=Nat.le_add_left _ _
 obtain⟨st,hst⟩:∃st:RS,(Sum.inl ts:RS)=st:=⟨_,rfl⟩
 rw[hst] at HP hlen |-
 rw[hst] at q0 q1 q2
 obtain⟨t1,ht1⟩:∃t1,Qi st=t1:=⟨_,rfl⟩
 have k0:(t1.toList==[115,116,111,112])=false:=by rw[<-ht1];exact Qt q0
 have k1:(t1.toList==[40])=false:=by rw[<-ht1];exact Qt q1
 have k2:(t1.toList==[110,101,119])=true:=by rw[<-ht1];exact Qt q2
 have HT1:=hid ht1
 clear ht1 h
 rw[hst] at hn hf
 have HS:=hid hS
 have HSE:=hid hT
 have a0:=JQ E q2
 have a1:(Qa E (need QI) (Qa E (need sNew) st)).len<=(Qa E (need sNew) st).len:=Jr E QI _
 have a2:(Qa E (Qk Qb) (Qa E (need QI) (Qa E (need sNew) st))).len<=(Qa E (need QI) (Qa E (need sNew) st)).len:=Xa E _
 have a3:(Qa E (need QG) (Qa E (Qk Qb) (Qa E (need QI) (Qa E (need sNew) st)))).len<=(Qa E (Qk Qb) (Qa E (need QI) (Qa E (need sNew) st))).len:=Jr E QG _
 have a4:(Qa E (Qk Qb) (Qa E (need QG) (Qa E (Qk Qb) (Qa E (need QI) (Qa E (need sNew) st))))).len<=(Qa E (need QG) (Qa E (Qk Qb) (Qa E (need QI) (Qa E (need sNew) st)))).len:=Xa E _
 have a5:(Qa E (need QB) (Qa E (Qk Qb) (Qa E (need QG) (Qa E (Qk Qb) (Qa E (need QI) (Qa E (need sNew) st)))))).len<=(Qa E (Qk Qb) (Qa E (need QG) (Qa E (Qk Qb) (Qa E (need QI) (Qa E (need sNew) st))))).len:=Jr E QB _
 have a6:(Qa E (Ql Qb f) (Qa E (need QB) (Qa E (Qk Qb) (Qa E (need QG) (Qa E (Qk Qb) (Qa E (need QI) (Qa E (need sNew) st))))))).len<=(Qa E (need QB) (Qa E (Qk Qb) (Qa E (need QG) (Qa E (Qk Qb) (Qa E (need QI) (Qa E (need sNew) st)))))).len:=len_le E (fun _ _ _ h=>Nat.le_of_lt (ZT f _ _ _ h)) _
 have a7:(Qa E (need Qy) (Qa E (Ql Qb f) (Qa E (need QB) (Qa E (Qk Qb) (Qa E (need QG) (Qa E (Qk Qb) (Qa E (need QI) (Qa E (need sNew) st)))))))).len<=(Qa E (Ql Qb f) (Qa E (need QB) (Qa E (Qk Qb) (Qa E (need QG) (Qa E (Qk Qb) (Qa E (need QI) (Qa E (need sNew) st))))))).len:=Jr E Qy _
 have HLT:Hid ((Qa E (need QB) (Qa E (Qk Qb) (Qa E (need QG) (Qa E (Qk Qb) (Qa E (need QI) (Qa E (need sNew) st)))))).len<f):=hid (by omega)
 have HLS:Hid ((Qa E (need Qy) (Qa E (Ql Qb f) (Qa E (need QB) (Qa E (Qk Qb) (Qa E (need QG) (Qa E (Qk Qb) (Qa E (need QI) (Qa E (need sNew) st)))))))).len<n):=hid (by omega)
 obtain⟨he1,he2⟩:=QC (F:=QV Qb (f+1)) (G:=fun ts=>YV Qb (Ql Qb f) (QV Qb f) ts.tail) E (st:=st) (fun t e=>WG (by rw[e] at q2;exact q2))
 obtain⟨hl1,hl2⟩:=JH (P:=YV Qb (Ql Qb f) (QV Qb f)) E q2
 obtain⟨hm1,hm2⟩:=Sw E (Ql Qb f) (QV Qb f) (Qa E (need sNew) st)
 unfold Red
 rw[he1,he2,hl1,hl2,hm1]
 have HE:=hid hm2
 clear he1 he2 hl1 hl2 hm1 hm2 q0 q1 q2 hst hlen hn hf hS hT a0 a1 a2 a3 a4 a5 a6 a7
 go_enter Tryz.func66,Tryz.ntmps66
 go_upto_region 1 with fail
 rw[HW1.out]
 go_upto_region 14 with(first|(go_at_call 58;refine(Xz HP HB HT1.out).mono ?_;rintro _ wn⟨rfl,HP,HB⟩)|(go_at_call 59;refine(Zs HP HB).mono ?_;rintro _ wn⟨rfl,HP,HB⟩))
 go_upto_region 15 with(go_at_call 59;refine(Zs HP HB).mono ?_;rintro _ wn⟨rfl,HP,HB⟩)
 go_upto_region 16 with fail
 have hws:W1.heap.size<=wn.heap.size:=HB.out.size
 obtain⟨W3,hW3⟩:∃W3,wn.alloc (.cells (cN 6 ⟨#[]⟩ ⟨#[]⟩ sN sN sN) 31)=W3:=⟨_,rfl⟩
 rw[hW3]
 have hb3:=(made hW3).1
 have x3:=(made hW3).2
 have HPn:=hid (HP.out.to hb3)
 have HDn:=hid ((HD.out.trans HB.out).to hb3)
 have z3:Blk W3 w.heap.size z12 31:=(hb3.block _ (by omega)).trans ((HB.out.block w.heap.size hs1 (Nat.ne_of_gt hR)).trans HX1.out)
 obtain⟨xb,hxb⟩:∃b,wn.heap.size=b:=⟨_,rfl⟩
 rw[hxb] at x3 hws |-
 have hs3:xb<W3.heap.size:=gl0 x3
 have hxw:w.heap.size<xb:=by omega
 have HX:Hid (∀W,But R W3 W->Blk W w.heap.size z12 31/\Blk W xb (cN 6 ⟨#[]⟩ ⟨#[]⟩ sN sN sN) 31):=hid (fun W hW=>⟨(hW.block _ (by omega) (by omega)).trans z3,(hW.block _ (by omega) (by omega)).trans x3⟩)
 have HX3:=hid (And.intro z3 x3)
 clear hb3 x3 z3 hW3 HP HB HD hxb HX1 HW1
 have HP:=HPn
 have HD:=HDn
 have HB:Hid (But R W3 W3):=hid (But.refl _ _)
 clear HPn HDn
 go_upto_region 17 with(go_at_call 60;refine(Ht HP HB).mono ?_;rintro _ wv⟨na,rfl,HNZ,HNV,HP,HB⟩;have hx:=HX.out wv HB.out;have dc:=(c12p hx.2).1.2.1;have dz:=(c12p hx.2).2.2.1;clear hx)
 obtain⟨W4,hW4⟩:∃W,wv.setCell ⟨xb,1,none⟩ (.string na)=W:=⟨_,rfl⟩
 rw[hW4]
 have hx:=HX.out wv HB.out
 have hsz:W3.heap.size<=wv.heap.size:=HB.out.size
 have hlt:xb<wv.heap.size:=lL hs3 hsz
 have hxn:Blk W4 w.heap.size z12 31/\W4.heap[xb]? =some (.cells (cN 6 na ⟨#[]⟩ sN sN sN) 31 (0,0)):=by
  rw[<-hW4]
  exact⟨(oth1 _ _ _ (by omega)).trans (hx.1),Qd (hx.2) 1 _⟩
 have hs4:xb<W4.heap.size:=gl0 hxn.2
 have hw34:W3.heap.size<=W4.heap.size:=by rw[<-hW4];simp only[World.setCell,Array.size_modify];omega
 have HPn:=hid (by rw[<-hW4];exact HP.out.set (X:=xb) (by omega) HLA.out (by omega) 1 (.string na):RdIs R la all E _ W4)
 have HDn:Hid (But R w W4):=hid (by rw[<-hW4];exact(HD.out.trans HB.out).setX (by omega) 1 _)
 have HXn:Hid (∀W,But R W4 W->Blk W w.heap.size z12 31/\Blk W xb (cN 6 na ⟨#[]⟩ sN sN sN) 31):=hid (fun W hW=>⟨(hW.block _ (gl0 hxn.1) (by omega)).trans hxn.1,(hW.block _ (gl0 hxn.2) (by omega)).trans hxn.2⟩)
 clear HP HB HD HX hW4 hx dc dz
 have HP:=HPn
 have HD:=HDn
 have HX:=HXn
 have HB:Hid (But R W4 W4):=hid (But.refl _ _)
 clear HPn HDn HXn hxn
 go_upto_region 18 with(go_at_call 59;refine(Zs HP HB).mono ?_;rintro _ wn⟨rfl,HP,HB⟩)
 go_upto_region 19 with(go_at_call 60;refine(Ht HP HB).mono ?_;rintro _ wv⟨nb,rfl,HNZ2,HNV2,HP,HB⟩;have hx:=HX.out wv HB.out;have dc:=(c12p hx.2).1.2.2.1;have dz:=(c12p hx.2).2.2.2.1;clear hx)
 obtain⟨W5,hW5⟩:∃W,wv.setCell ⟨xb,2,none⟩ (.string nb)=W:=⟨_,rfl⟩
 rw[hW5]
 have hx:=HX.out wv HB.out
 have hsz:W4.heap.size<=wv.heap.size:=HB.out.size
 have hlt:xb<wv.heap.size:=lL hs4 hsz
 have hxn:Blk W5 w.heap.size z12 31/\W5.heap[xb]? =some (.cells (cN 6 na nb sN sN sN) 31 (0,0)):=by
  rw[<-hW5]
  exact⟨(oth1 _ _ _ (by omega)).trans (hx.1),Qd (hx.2) 2 _⟩
 have hs5:xb<W5.heap.size:=gl0 hxn.2
 have hw35:W3.heap.size<=W5.heap.size:=by rw[<-hW5];simp only[World.setCell,Array.size_modify];omega
 have HPn:=hid (by rw[<-hW5];exact HP.out.set (X:=xb) (by omega) HLA.out (by omega) 2 (.string nb):RdIs R la all E _ W5)
 have HDn:Hid (But R w W5):=hid (by rw[<-hW5];exact(HD.out.trans HB.out).setX (by omega) 2 _)
 have HXn:Hid (∀W,But R W5 W->Blk W w.heap.size z12 31/\Blk W xb (cN 6 na nb sN sN sN) 31):=hid (fun W hW=>⟨(hW.block _ (gl0 hxn.1) (by omega)).trans hxn.1,(hW.block _ (gl0 hxn.2) (by omega)).trans hxn.2⟩)
 clear HP HB HD HX hW5 hx dc dz
 have HP:=HPn
 have HD:=HDn
 have HX:=HXn
 have HB:Hid (But R W5 W5):=hid (But.refl _ _)
 clear HPn HDn HXn hxn
 go_upto_region 20 with(go_at_call 59;refine(Zs HP HB).mono ?_;rintro _ wn⟨rfl,HP,HB⟩)
 have hwn5:W5.heap.size<=wn.heap.size:=HB.out.size
 go_upto_region 21 with(go_at_call 72;refine(HSE.out _ _ HP.out HLT.out).mono ?_;rintro _ wv⟨⟨_,tt,rfl,hg,hv⟩,hp,hb⟩;obtain⟨sa,sn,sc,va,vn,vc,rfl⟩:=hg.open;have HVt:=hid hv;have HGt:=hid hg;replace HP:=hid hp;replace HB:=hid (HB.out.trans hb);clear hg hv hp hb;have hx:=(HX.out wv HB.out).2;obtain⟨⟨d0,d1,d2,d3,d4,d5,d6,d7,d8,d9,d10,d11⟩,e0,e1,e2,e3,e4,e5,e6,e7,e8,e9,e10,e11⟩:=c12p hx;clear hx)
 obtain⟨W6,hW6⟩:∃W,((((((wv.setCell ⟨xb,5,none⟩ (.int .i64 tt.k)).setCell ⟨xb,6,none⟩ (.int .i64 tt.p)).setCell ⟨xb,7,none⟩ (.string tt.n)).setCell ⟨xb,8,none⟩ (.int .i64 tt.s)).setCell ⟨xb,9,none⟩ (.slice sa sn sc)).setCell ⟨xb,10,none⟩ (.slice va vn vc))=W:=⟨_,rfl⟩
 rw[hW6]
 have hx:=HX.out wv HB.out
 have hsz:W5.heap.size<=wv.heap.size:=HB.out.size
 have hk6:But xb wv W6:=by rw[<-hW6];exact(((((((But.refl xb wv).set 5 (.int .i64 tt.k)).set 6 (.int .i64 tt.p)).set 7 (.string tt.n)).set 8 (.int .i64 tt.s)).set 9 (.slice sa sn sc)).set 10 (.slice va vn vc))
 have hxn:Blk W6 w.heap.size z12 31/\Blk W6 xb #[.int .i64 6,.string na,.string nb,.slice none 0 0,.slice none 0 0,.int .i64 tt.k,.int .i64 tt.p,.string tt.n,.int .i64 tt.s,.slice sa sn sc,.slice va vn vc,.slice none 0 0] 31:=⟨(hk6.block w.heap.size (by omega) (by omega)).trans hx.1,by rw[<-hW6];exact(Qd (Qd (Qd (Qd (Qd (Qd hx.2 5 (.int .i64 tt.k)) 6 (.int .i64 tt.p)) 7 (.string tt.n)) 8 (.int .i64 tt.s)) 9 (.slice sa sn sc)) 10 (.slice va vn vc))⟩
 have hs6:xb<W6.heap.size:=gl0 hxn.2
 have hw36:W3.heap.size<=W6.heap.size:=lT (by omega) hk6.size
 have HPn:Hid (RdIs R la all E (Qa E (Ql Qb f) (Qa E (need QB) (Qa E (Qk Qb) (Qa E (need QG) (Qa E (Qk Qb) (Qa E (need QI) (Qa E (need sNew) st))))))) W6):=hid (by rw[<-hW6];exact((((((HP.out.set (X:=xb) (by omega) HLA.out (by omega) 5 (.int .i64 tt.k)).set (X:=xb) (by omega) HLA.out (by omega) 6 (.int .i64 tt.p)).set (X:=xb) (by omega) HLA.out (by omega) 7 (.string tt.n)).set (X:=xb) (by omega) HLA.out (by omega) 8 (.int .i64 tt.s)).set (X:=xb) (by omega) HLA.out (by omega) 9 (.slice sa sn sc)).set (X:=xb) (by omega) HLA.out (by omega) 10 (.slice va vn vc)))
 have HDn:Hid (But R w W6):=hid (by rw[<-hW6];exact(((((((HD.out.trans HB.out).setX (by omega) 5 (.int .i64 tt.k)).setX (by omega) 6 (.int .i64 tt.p)).setX (by omega) 7 (.string tt.n)).setX (by omega) 8 (.int .i64 tt.s)).setX (by omega) 9 (.slice sa sn sc)).setX (by omega) 10 (.slice va vn vc)))
 have HXn:Hid (∀W,But R W6 W->Blk W w.heap.size z12 31/\Blk W xb #[.int .i64 6,.string na,.string nb,.slice none 0 0,.slice none 0 0,.int .i64 tt.k,.int .i64 tt.p,.string tt.n,.int .i64 tt.s,.slice sa sn sc,.slice va vn vc,.slice none 0 0] 31):=hid (fun W hW=>⟨(hW.block _ (gl0 hxn.1) (by omega)).trans hxn.1,(hW.block _ (gl0 hxn.2) (by omega)).trans hxn.2⟩)
 have HTF:Hid (∀W,But R W6 W->GTy W3.heap.size W tt (.agg (cT tt sa sn sc va vn vc))):=hid (fun W hW=>(((GTy.mono HGt.out (show W3.heap.size<=wn.heap.size by omega)).but hk6 hs3).but hW (by omega)))
 clear HP HB HD HX hW6 hx hk6 HGt d0 d1 d2 d3 d4 d5 d6 d7 d8 d9 d10 d11 e0 e1 e2 e3 e4 e5 e6 e7 e8 e9 e10 e11
 have HP:=HPn
 have HD:=HDn
 have HX:=HXn
 have HB:Hid (But R W6 W6):=hid (But.refl _ _)
 clear HPn HDn HXn hxn
 go_upto_region 22 with(go_at_call 59;refine(Zs HP HB).mono ?_;rintro _ wn⟨rfl,HP,HB⟩)
 go_upto_region 23 with(go_at_call 66;have hwn:W6.heap.size<=wn.heap.size:=HB.out.size;refine(Ri HS.out HLS.out HP HB).mono ?_;rintro _ ws⟨p,la',ln,lc,aa,an,ac,ta,tn,tc,ua,un,uc,ka,kn,kc,rfl,HG,HVp,HP,HB⟩;have hx:=HX.out ws HB.out;have dc:=Yj (gl0 hx.2) (c12p hx.2).1.2.2.2.2.2.2.2.2.2.2.2;have dz:=ZI (gl0 hx.2) (c12p hx.2).2.2.2.2.2.2.2.2.2.2.2.2;clear hx)
 obtain⟨W7,hW7⟩:∃W,(ws.alloc (.cells (gP p la' ln lc aa an ac ta tn tc ua un uc ka kn kc) 31)).setCell ⟨xb,11,none⟩ (.slice (some ⟨ws.heap.size,0,none⟩) 1 1)=W:=⟨_,rfl⟩
 rw[hW7]
 have hx:=HX.out ws HB.out
 have hsz:W6.heap.size<=ws.heap.size:=HB.out.size
 have hlt:xb<ws.heap.size:=lL hs6 hsz
 have hb0:Below ws.heap.size ws (ws.alloc (.cells (gP p la' ln lc aa an ac ta tn tc ua un uc ka kn kc) 31)):=bR.alloc lR _
 have xb0:(ws.alloc (.cells (gP p la' ln lc aa an ac ta tn tc ua un uc ka kn kc) 31)).heap[ws.heap.size]? =some (.cells (gP p la' ln lc aa an ac ta tn tc ua un uc ka kn kc) 31 (0,0)):=World.alloc_heap_new _ _
 obtain⟨vb7,hvb7⟩:∃b,ws.heap.size=b:=⟨_,rfl⟩
 have HK7:Hid (But xb ws W7):=hid (by rw[<-hW7];exact((But.refl _ _).to hb0).set 11 _)
 have HTn:Hid (GTy W3.heap.size W7 tt (.agg (cT tt sa sn sc va vn vc))):=hid ((HTF.out ws HB.out).but HK7.out (by omega))
 have hxn:Blk W7 w.heap.size z12 31/\Blk W7 xb #[.int .i64 6,.string na,.string nb,.slice none 0 0,.slice none 0 0,.int .i64 tt.k,.int .i64 tt.p,.string tt.n,.int .i64 tt.s,.slice sa sn sc,.slice va vn vc,.slice (some ⟨vb7,0,none⟩) 1 1] 31/\W7.heap[vb7]? =some (.cells (gP p la' ln lc aa an ac ta tn tc ua un uc ka kn kc) 31 (0,0)):=by
  rw[<-hW7,hvb7]
  exact⟨(oth1 _ _ _ (by omega)).trans ((hb0.block _ (gl0 hx.1)).trans hx.1),Qd ((hb0.block _ (gl0 hx.2)).trans hx.2) 11 _,(oth1 _ _ _ (by omega)).trans (by rw[<-hvb7];exact xb0)⟩
 have hvvb7:W3.heap.size<=vb7/\vb7<W7.heap.size:=⟨by rw[<-hvb7];omega,gl0 hxn.2.2⟩
 have hs7:xb<W7.heap.size:=gl0 hxn.2.1
 have hw37:W3.heap.size<=W7.heap.size:=by rw[<-hW7];simp only[World.setCell,Array.size_modify];rw[World.size_alloc];omega
 have HPn:=hid (by rw[<-hW7];exact(HP.out.to hb0).set (X:=xb) (by omega) HLA.out (by omega) 11 (.slice (some ⟨ws.heap.size,0,none⟩) 1 1):RdIs R la all E _ W7)
 have HDn:Hid (But R w W7):=hid (by rw[<-hW7];exact((HD.out.trans HB.out).to hb0).setX (by omega) 11 _)
 have HXn:Hid (∀W,But R W7 W->Blk W w.heap.size z12 31/\Blk W xb #[.int .i64 6,.string na,.string nb,.slice none 0 0,.slice none 0 0,.int .i64 tt.k,.int .i64 tt.p,.string tt.n,.int .i64 tt.s,.slice sa sn sc,.slice va vn vc,.slice (some ⟨vb7,0,none⟩) 1 1] 31/\W.heap[vb7]? =some (.cells (gP p la' ln lc aa an ac ta tn tc ua un uc ka kn kc) 31 (0,0))):=hid (fun W hW=>⟨(hW.block _ (gl0 hxn.1) (by omega)).trans hxn.1,(hW.block _ (gl0 hxn.2.1) (by omega)).trans hxn.2.1,(hW.block _ (gl0 hxn.2.2) (by omega)).trans hxn.2.2⟩)
 rw[hvb7]
 clear HP HB HD HX hW7 hx dc dz hb0 xb0 hvb7
 have HP:=HPn
 have HD:=HDn
 have HX:=HXn
 have HB:Hid (But R W7 W7):=hid (But.refl _ _)
 clear HPn HDn HXn hxn
 have hx:=HX.out W7 (But.refl _ _)
 obtain⟨⟨q0,q1,q2,q3,q4,q5,q6,q7,q8,q9,q10,q11⟩,z0,z1,z2,z3,z4,z5,z6,z7,z8,z9,z10,z11⟩:=c12p hx.1
 obtain⟨⟨d0,d1,d2,d3,d4,d5,d6,d7,d8,d9,d10,d11⟩,-⟩:=c12p hx.2.1
 have HXX:=hid hx
 clear hx
 go_wp2_with fail
 have hx8:=JZ HXX.out.1 (.int .i64 6) (.string na) (.string nb) sN sN (.int .i64 tt.k) (.int .i64 tt.p) (.string tt.n) (.int .i64 tt.s) (.slice sa sn sc) (.slice va vn vc) (.slice (some ⟨vb7,0,none⟩) 1 1)
 obtain⟨⟨y0,y1,y2,y3,y4,y5,y6,y7,y8,y9,y10,y11⟩,-⟩:=c12p hx8
 refine bodyPost_ret (v:= .agg #[.int .i64 6,.string na,.string nb,.slice none 0 0,.slice none 0 0,.int .i64 tt.k,.int .i64 tt.p,.string tt.n,.int .i64 tt.s,.slice sa sn sc,.slice va vn vc,.slice (some ⟨vb7,0,none⟩) 1 1]) (by simp[results,Tryz.results66,go_sem,y0,y1,y2,y3,y4,y5,y6,y7,y8,y9,y10,y11]) rfl ?_
 have hgp:=(GPr.mono HG.out (show W3.heap.size<=wn.heap.size by omega)).but HK7.out (by omega)
 have hnode:GPr W3.heap.size W7 (Pr.mk 6 na nb [] [] tt [p]) (.agg #[.int .i64 6,.string na,.string nb,.slice none 0 0,.slice none 0 0,.int .i64 tt.k,.int .i64 tt.p,.string tt.n,.int .i64 tt.s,.slice sa sn sc,.slice va vn vc,.slice (some ⟨vb7,0,none⟩) 1 1]):=GPr.node (t:=tt) HNZ.out HNZ2.out (Jv _ _) (JK _ _) HTn.out (UH hvvb7 HXX.out.2.2 hgp)
 refine⟨⟨_,Pr.mk 6 na nb [] [] tt [p],rfl,⟨(hnode.put12 (by omega) (.int .i64 6) (.string na) (.string nb) sN sN (.int .i64 tt.k) (.int .i64 tt.p) (.string tt.n) (.int .i64 tt.s) (.slice sa sn sc) (.slice va vn vc) (.slice (some ⟨vb7,0,none⟩) 1 1)).mono (by omega),Vy (by intro h;cases h) _⟩,fun y hy=>by obtain⟨a',b',t',p',h1,h2,h3,h4,rfl⟩:=HE.out y hy;rw[HNV.out a' h1,HNV2.out b' h2,HVt.out t' h3,HVp.out p' h4]⟩,HP.out.oth (X:=w.heap.size) (fun j hj=>QN hj (.int .i64 6) (.string na) (.string nb) sN sN (.int .i64 tt.k) (.int .i64 tt.p) (.string tt.n) (.int .i64 tt.s) (.slice sa sn sc) (.slice va vn vc) (.slice (some ⟨vb7,0,none⟩) 1 1)) (QF _ _ (.int .i64 6) (.string na) (.string nb) sN sN (.int .i64 tt.k) (.int .i64 tt.p) (.string tt.n) (.int .i64 tt.s) (.slice sa sn sc) (.slice va vn vc) (.slice (some ⟨vb7,0,none⟩) 1 1)) hR HLA.out,HD.out.put12 lR (.int .i64 6) (.string na) (.string nb) sN sN (.int .i64 tt.k) (.int .i64 tt.p) (.string tt.n) (.int .i64 tt.s) (.slice sa sn sc) (.slice va vn vc) (.slice (some ⟨vb7,0,none⟩) 1 1)⟩
end Go.Proofs.YtmnbheplkidfaaaGreatDoor
namespace Go.Proofs.YtmnbheplkidfaaaGreatDoor
open Go.RowKit Go.Deep Go.Shelf
theorem Dl(R:Nat)(la:Option Addr)(all:List Tk)(E:Int)(hall:UA all)(f n:Nat)(hT:KG R la all E (Ql Qb f) f)(hPr:ProR R la all E 33 (QT Qb f) n)(hS:ProR R la all E 66 (QV Qb f) n)
 (st:RS) (w:World) (h:RdIs R la all E st w) (hn:st.len<=n) (hf:2*st.len<=f+2):
 Calls Tryz.prog 66 #[.pointer (some ⟨R,0,none⟩)] w (Red R la all E w (QV Qb (f+1)) st (GPn w.heap.size st.len)):=by
 match st,h,hn,hf with
 | .inr z,h,_,_=>exact VO R la all E z w h _
 | .inl ts,h,hn,hf=>
  have hl:RS.len (.inl ts)=ts.length+1:=rfl
  cases q0:stHd Mx (.inl ts) with
  |true=>exact Gq R la all E ts w h f q0
  |false=>
   cases q1:stHd QI (.inl ts) with
   |true=>exact Dj R la all E ts w h f n hPr hn q0 q1
   |false=>
    cases q2:stHd sNew (.inl ts) with
    |true=>
     have:=QH (show hd sNew ts=true from q2)
     exact Dk R la all E ts w h f n hT hS hn (by omega) q0 q1 q2
    |false=>exact Gr R la all E ts w h hall f n hPr hS hn (by omega) q0 q1 q2
theorem Eo{S:List Tk->PR Pr}{c:ByteArray}{ts:List Tk}{p:Pr}{r:List Tk}(h:ZC Qb S c ts= .ok p r):p.k≠7:=by
 obtain⟨_,_,_,h⟩:=PR.bind_ok h
 obtain⟨_,_,_,h⟩:=PR.bind_ok h
 obtain⟨_,_,_,h⟩:=PR.bind_ok h
 obtain⟨_,_,_,h⟩:=PR.bind_ok h
 cases h;exact(by decide:(2:Int)≠7)
theorem Eq{S:List Tk->PR Pr}{c:ByteArray}{ts:List Tk}{p:Pr}{r:List Tk}(h:Yh Qb S c ts= .ok p r):p.k≠7:=by
 obtain⟨_,_,_,h⟩:=PR.bind_ok h
 obtain⟨_,_,_,h⟩:=PR.bind_ok h
 obtain⟨_,_,_,h⟩:=PR.bind_ok h
 obtain⟨_,_,_,h⟩:=PR.bind_ok h
 cases h;exact(by decide:(3:Int)≠7)
theorem sel_k{S:List Tk->PR Pr}{c:ByteArray}{ts:List Tk}{p:Pr}{r:List Tk}(h:VG Qb S c ts= .ok p r):p.k≠7:=by
 obtain⟨_,_,_,h⟩:=PR.bind_ok h
 obtain⟨_,_,_,h⟩:=PR.bind_ok h
 cases h;exact(by decide:(4:Int)≠7)
theorem bra_k{P:List Tk->PR Pr}{g:Nat}{c:ByteArray}{ts:List Tk}{p:Pr}{r:List Tk}(h:VI Qb P g c ts= .ok p r):p.k≠7:=by
 obtain⟨_,_,_,h⟩:=PR.bind_ok h
 cases h;exact(by decide:(5:Int)≠7)
theorem EA{g:Nat}{c:ByteArray}{ts:List Tk}{p:Pr}{r:List Tk}(h:ZE Qb g c ts= .ok p r):p.k≠7:=by
 obtain⟨_,_,_,h⟩:=PR.bind_ok h
 obtain⟨_,_,_,h⟩:=PR.bind_ok h
 cases h;exact(by decide:(8:Int)≠7)
theorem new_k{F:List Tk->PR Ty}{S:List Tk->PR Pr}{ts:List Tk}{p:Pr}{r:List Tk}(h:YV Qb F S ts= .ok p r):p.k≠7:=by
 obtain⟨_,_,_,h⟩:=PR.bind_ok h
 obtain⟨_,_,_,h⟩:=PR.bind_ok h
 obtain⟨_,_,_,h⟩:=PR.bind_ok h
 obtain⟨_,_,_,h⟩:=PR.bind_ok h
 obtain⟨_,_,_,h⟩:=PR.bind_ok h
 obtain⟨_,_,_,h⟩:=PR.bind_ok h
 obtain⟨_,_,_,h⟩:=PR.bind_ok h
 obtain⟨_,_,_,h⟩:=PR.bind_ok h
 cases h;exact(by decide:(6:Int)≠7)
theorem LO{P S:List Tk->PR Pr}{g:Nat}{c:ByteArray}{ts:List Tk}{p:Pr}{r:List Tk}(h:QZ Qb P S g c ts= .ok p r):p.k≠7:=by
 unfold QZ at h
 split at h
 ·exact Eo h
 split at h
 ·exact Eq h
 split at h
 ·exact sel_k h
 split at h
 ·exact bra_k h
 ·exact EA h
theorem Vm:∀(f:Nat) (b:Bool) (ts:List Tk) (l:List Pr) (r:List Tk),Qo Qb f b ts= .ok l r->l≠[]/\((b=true\/hd QI ts=false)->∀p∈l,p.k≠7)
 |0,_,_,_,_,h=>by rw[Qo] at h;cases h
 |f+1,false,ts,l,r,h=>by
  rw[Qo] at h
  split at h
  ·cases h
   exact⟨List.cons_ne_nil _ _,fun _ p hp=>by rw[mS hp];exact(by decide:(1:Int)≠7)⟩
  split at h
  ·next ho=>
   obtain⟨_,_,_,h⟩:=PR.bind_ok h
   obtain⟨_,_,_,h⟩:=PR.bind_ok h
   cases h
   refine⟨List.cons_ne_nil _ _,fun hb=>?_⟩
   rcases hb with hb|hb
   ·cases hb
   ·rw[ho] at hb;cases hb
  split at h
  ·obtain⟨p,_,h1,h⟩:=PR.bind_ok h
   cases h
   exact⟨List.cons_ne_nil _ _,fun _ q hq=>by rw[mS hq];exact new_k h1⟩
  ·obtain⟨c,_,_,h⟩:=PR.bind_ok h
   obtain⟨p,_,h1,h⟩:=PR.bind_ok h
   cases h
   exact⟨List.cons_ne_nil _ _,fun _ q hq=>by rw[mS hq];exact LO h1⟩
 |f+1,true,ts,l,r,h=>by
  rw[Qo] at h
  obtain⟨l1,r1,h1,h⟩:=PR.bind_ok h
  have k1:l1≠[]/\∀p∈l1,p.k≠7:=by
   split at h1
   ·obtain⟨l2,r2,h2,h3⟩:=PR.bind_ok h1
    obtain⟨_,_,_,h4⟩:=PR.bind_ok h3
    cases h4
    have:=Vm f true _ _ _ h2
    exact⟨this.1,this.2 (.inl rfl)⟩
   ·next ho=>
    have:=Vm f false _ _ _ h1
    exact⟨this.1,this.2 (.inr (by simpa using ho))⟩
  split at h
  ·obtain⟨m,r2,h2,h3⟩:=PR.bind_ok h
   cases h3
   have:=Vm f true _ _ _ h2
   exact⟨fun e=>k1.1 (List.append_eq_nil_iff.1 e).1,fun _ p hp=>(List.mem_append.1 hp).elim (k1.2 p) (this.2 (.inl rfl) p)⟩
  ·cases h
   exact⟨k1.1,fun _=>k1.2⟩
theorem XZ{l:List Pr}(h0:l≠[])(h:∀p∈l,p.k≠7):Ju (ZQ l)=l:=by
 match l with
 |[]=>exact absurd rfl h0
 |[p]=>exact if_neg (h p (List.mem_cons_self ..))
 |p::q::l=>rfl
def Zr(f:Nat)(ts:List Tk):PR (List Pr):=if hd QI ts=true then (Qo Qb f true ts.tail).bind fun l r=>(need Qy r).bind fun _ r=> .ok l r else Qo Qb f false ts
theorem Kq(f:Nat)(ts:List Tk):Qo Qb (f+1) true ts=(Zr f ts).bind fun l r=>if hd sBar r=true then (Qo Qb f true r.tail).bind fun m r=> .ok (l++m) r else .ok l r:=by
 rw[Qo];rfl
def fitF(f:Nat)(st:RS):Nat:=if stHd QI st=true then f+1 else f
theorem Mf(E:Int)(f:Nat)(st:RS):Qa E (Zr f) st=Qa E (QV Qb (fitF f st)) st/\
 ∀l,Qj (Zr f) st=some l->Qj (QV Qb (fitF f st)) st=some (ZQ l)/\l≠[]/\∀p∈l,p.k≠7:=by
 match st with
 | .inr z=>exact⟨rfl,fun l h=>by cases h⟩
 | .inl ts=>
  cases q:hd QI ts with
  |true=>
   have e:fitF f (.inl ts)=f+1:=if_pos q
   have eu:Zr f ts=(Qo Qb f true ts.tail).bind fun l r=>(need Qy r).bind fun _ r=> .ok l r:=if_pos q
   have es:=Ny (f:=f) q
   rw[e]
   cases hp:Qo Qb f true ts.tail with
   |bad er r=>
    have e1:Zr f ts= .bad er r:=by rw[eu,hp];rfl
    have e2:QV Qb (f+1) ts= .bad er r:=by rw[es];unfold QT;rw[hp];rfl
    exact⟨by rw[QE E e1,QE E e2],fun l h=>by rw[JM e1] at h;cases h⟩
   |ok l r=>
    have hk:=Vm f true _ _ _ hp
    cases hn:need Qy r with
    |bad er r2=>
     have e1:Zr f ts= .bad er r2:=by rw[eu,hp];show PR.bind (need Qy r) _=_;rw[hn];rfl
     have e2:QV Qb (f+1) ts= .bad er r2:=by rw[es];unfold QT;rw[hp];show PR.bind (need Qy r) _=_;rw[hn];rfl
     exact⟨by rw[QE E e1,QE E e2],fun l h=>by rw[JM e1] at h;cases h⟩
    |ok x r2=>
     have e1:Zr f ts= .ok l r2:=by rw[eu,hp];show PR.bind (need Qy r) _=_;rw[hn];rfl
     have e2:QV Qb (f+1) ts= .ok (ZQ l) r2:=by rw[es];unfold QT;rw[hp];show PR.bind (need Qy r) _=_;rw[hn];rfl
     refine⟨by rw[QM E e1,QM E e2],fun m h=>?_⟩
     rw[JP e1] at h
     injection h with h
     subst h
     exact⟨JP e2,hk.1,hk.2 (.inl rfl)⟩
  |false=>
   have e:fitF f (.inl ts)=f:=if_neg (by show ¬hd QI ts=true;rw[q];simp)
   have eu:Zr f ts=Qo Qb f false ts:=if_neg (by rw[q];simp)
   rw[e]
   cases hp:Qo Qb f false ts with
   |bad er r=>
    have e1:Zr f ts= .bad er r:=by rw[eu,hp]
    have e2:QV Qb f ts= .bad er r:=by unfold QV;rw[hp];rfl
    exact⟨by rw[QE E e1,QE E e2],fun l h=>by rw[JM e1] at h;cases h⟩
   |ok l r=>
    have hk:=Vm f false _ _ _ hp
    have e1:Zr f ts= .ok l r:=by rw[eu,hp]
    have e2:QV Qb f ts= .ok (ZQ l) r:=by unfold QV;rw[hp];rfl
    refine⟨by rw[QM E e1,QM E e2],fun m h=>?_⟩
    rw[JP e1] at h
    injection h with h
    subst h
    exact⟨JP e2,hk.1,hk.2 (.inr q)⟩
theorem DO(E:Int)(g:Nat)(st:RS)(h:stHd sBar (Qa E (Zr g) st)=true):Qa E (Qo Qb (g+1) true) st=Qa E (Qo Qb g true) (Qa E (need sBar) (Qa E (Zr g) st))/\
 ∀l,Qj (Qo Qb (g+1) true) st=some l->∃x m,Qj (Zr g) st=some x/\Qj (Qo Qb g true) (Qa E (need sBar) (Qa E (Zr g) st))=some m/\l=x++m:=by
 obtain⟨c1,c2⟩:=QC E (F:=Qo Qb (g+1) true) (G:=fun ts=>(Zr g ts).bind fun l r=>if hd sBar r=true then (Qo Qb g true r.tail).bind fun m r=> .ok (l++m) r else .ok l r) (st:=st) (fun ts _=>Kq g ts)
 rw[c1,c2]
 constructor
 ·exact Qg (X:=fun s=>Qa E (Qo Qb g true) (Qa E (need sBar) s)) (fun a=>(Xc (P:=fun ts=>(Qo Qb g true ts).bind _) h).trans (Qg (X:=fun s=>s) (fun _=>QU _ _ _) (fun _=>rfl))) (fun _=>rfl)
 ·intro l hl
  obtain⟨x,h1,h2⟩:=Qh E hl
  rw[Vg (P:=fun ts=>(Qo Qb g true ts).bind _) E h] at h2
  obtain⟨m,h3,h4⟩:=Qh E h2
  exact⟨x,m,h1,h3,(Jq h4).symm⟩
theorem DP(E:Int)(g:Nat)(st:RS)(h:stHd sBar (Qa E (Zr g) st)=false):Qa E (Qo Qb (g+1) true) st=Qa E (Zr g) st/\
 ∀l,Qj (Qo Qb (g+1) true) st=some l->Qj (Zr g) st=some l:=by
 obtain⟨c1,c2⟩:=QC E (F:=Qo Qb (g+1) true) (G:=fun ts=>(Zr g ts).bind fun l r=>if hd sBar r=true then (Qo Qb g true r.tail).bind fun m r=> .ok (l++m) r else .ok l r) (st:=st) (fun ts _=>Kq g ts)
 rw[c1,c2]
 constructor
 ·exact Qg (X:=fun s=>s) (fun a=>(Xd (P:=fun ts=>(Qo Qb g true ts.tail).bind _) h).trans (QU _ _ _)) (fun _=>rfl)
 ·intro l hl
  obtain⟨x,h1,h2⟩:=Qh E hl
  rw[Vh (P:=fun ts=>(Qo Qb g true ts.tail).bind _) h] at h2
  rw[h1,Jq h2]
theorem Tq{f:Nat}{ts:List Tk}{l:List Pr}{r:List Tk}(h:Zr f ts= .ok l r):l.length+r.length<=ts.length:=by
 unfold Zr at h
 split at h
 ·next ho=>
  obtain⟨l1,r1,h1,h2⟩:=PR.bind_ok h
  obtain⟨_,r2,h3,h4⟩:=PR.bind_ok h2
  cases h4
  have a:=(JU _ _ _ _ _ h1).2
  have b:=Qp h3
  have c:=QH ho
  omega
 ·exact(JU _ _ _ _ _ h).2
theorem Du{E:Int}{f:Nat}{st:RS}{s:ByteArray}(h:stHd s (Qa E (Zr f) st)=true):∃l,Qj (Zr f) st=some l/\l.length+(Qa E (Zr f) st).len<=st.len:=by
 match st with
 | .inr z=>cases h
 | .inl ts=>
  cases hp:Zr f ts with
  |bad e r=>rw[QE E hp] at h;cases h
  |ok l r=>
   refine⟨l,JP hp,?_⟩
   rw[QM E hp]
   have:=Tq hp
   show l.length+(r.length+1)<=ts.length+1
   omega
structure PLeft(E:Int)(F:Nat)(st:RS)(us:List Pr)(g:Nat)(st1:RS):Prop where
 fuel:2*st1.len<=g+1
 step:Qa E (Qo Qb F true) st=Qa E (Qo Qb (g+1) true) st1
 cnt:(us.flatMap Ju).length+st1.len<=st.len
 val:∀l,Qj (Qo Qb F true) st=some l->(∃m,Qj (Qo Qb (g+1) true) st1=some m/\l=us.flatMap Ju++m)/\∀u∈us,Ju u≠[]
theorem PLeft.start(E:Int)(g:Nat)(st:RS)(h:2*st.len<=g+1):PLeft E (g+1) st [] g st:=⟨h,rfl,by show 0+_<=_;omega,fun l hl=>⟨⟨l,hl,rfl⟩,fun u hu=>by cases hu⟩⟩
theorem PLeft.more{E:Int}{F g:Nat}{st st1:RS}{us:List Pr}(h:PLeft E F st us (g+1) st1){x:Pr}(hx:∀y,Qj (QV Qb (fitF (g+1) st1)) st1=some y->x=y)
 (hc:stHd sBar (Qa E (QV Qb (fitF (g+1) st1)) st1)=true) (hl:2*(Qa E (need sBar) (Qa E (QV Qb (fitF (g+1) st1)) st1)).len<=g+1):
 PLeft E F st (us++[x]) g (Qa E (need sBar) (Qa E (QV Qb (fitF (g+1) st1)) st1)):=by
 obtain⟨u1,u2⟩:=Mf E (g+1) st1
 rw[<-u1] at hc hl |-
 obtain⟨h1,h2⟩:=DO E (g+1) st1 hc
 have hcnt:((us++[x]).flatMap Ju).length+(Qa E (need sBar) (Qa E (Zr (g+1)) st1)).len<=st.len:=by
  obtain⟨l,k1,k2⟩:=Du hc
  obtain⟨v1,v2,v3⟩:=u2 l k1
  have e:=hx _ v1
  subst e
  have k3:=h.cnt
  have k4:=Jr E sBar (Qa E (Zr (g+1)) st1)
  rw[List.flatMap_append,List.flatMap_singleton,XZ v2 v3,List.length_append]
  omega
 refine⟨hl,h.step.trans h1,hcnt,fun l hv=>?_⟩
 obtain⟨⟨m,hm,rfl⟩,hu⟩:=h.val l hv
 obtain⟨y,m2,h3,h4,rfl⟩:=h2 m hm
 obtain⟨v1,v2,v3⟩:=u2 y h3
 have e:=hx _ v1
 subst e
 have ef:=XZ v2 v3
 refine⟨⟨m2,h4,?_⟩,fun u hm=>?_⟩
 ·rw[List.flatMap_append,List.flatMap_singleton,ef,List.append_assoc]
 ·rcases List.mem_append.1 hm with hm|hm
  ·exact hu u hm
  ·rw[mS hm,ef];exact v2
theorem DQ{l m:List Pr}(hl:l≠[])(hm:m≠[]):ZQ (l++m)= .mk 7 ⟨#[]⟩ ⟨#[]⟩ [] [] zT (l++m):=by
 match l,m with
 |[],_=>exact absurd rfl hl
 |_,[]=>exact absurd rfl hm
 |[a],b::m=>rfl
 |a::b::l,c::m=>rfl
theorem PLeft.last{E:Int}{F g:Nat}{st st1:RS}{us:List Pr}(h:PLeft E F st us g st1){x:Pr}(hx:∀y,Qj (QV Qb (fitF g st1)) st1=some y->x=y)
 (hc:stHd sBar (Qa E (QV Qb (fitF g st1)) st1)=false):
 Qa E (QT Qb F) st=Qa E (QV Qb (fitF g st1)) st1/\∀y,Qj (QT Qb F) st=some y->y=if us=[] then x else .mk 7 ⟨#[]⟩ ⟨#[]⟩ [] [] zT ((us++[x]).flatMap Ju):=by
 obtain⟨u1,u2⟩:=Mf E g st1
 rw[<-u1] at hc |-
 obtain⟨h1,h2⟩:=DP E g st1 hc
 have hp:Qa E (QT Qb F) st=Qa E (Qo Qb F true) st:=Qg (X:=fun s=>s) (fun _=>QU _ _ _) (fun _=>rfl)
 refine⟨hp.trans (h.step.trans h1),fun y hy=>?_⟩
 obtain⟨l,h3,h4⟩:=Qh E hy
 have e4:=Jq h4
 subst e4
 obtain⟨⟨m,hm,rfl⟩,hu⟩:=h.val l h3
 obtain⟨v1,v2,v3⟩:=u2 m (h2 m hm)
 have e:=hx _ v1
 subst e
 split
 ·next he=>subst he;rfl
 ·next he=>
  rw[List.flatMap_append,List.flatMap_singleton,XZ v2 v3]
  refine DQ ?_ v2
  match us,he,hu with
  |[],he,_=>exact absurd rfl he
  |u::us,_,hu=>
   intro e
   rw[List.flatMap_cons] at e
   exact hu u (List.mem_cons_self ..) (List.append_eq_nil_iff.1 e).1
end Go.Proofs.YtmnbheplkidfaaaGreatDoor
namespace Go.Proofs.YtmnbheplkidfaaaGreatDoor
open Go.RowKit Go.Deep Go.Shelf
section
variable {α:Type} {el:TypeId} {sz base P:Nat} {V:(Nat->Prop)->World->Value->α->Prop} {O O':Nat->Prop} {w w':World} {l:Value} {vs:List Value} {xs:List α}
theorem LRow.growAll{l':Value}{us:List Value}{ys:List α}(L:Lyer V sz)(h:LRow el sz base V O w l vs xs)(hlen:us.length=ys.length)(hu:∀(j:Nat) (u:Value) (y:α),us[j]? =some u->ys[j]? =some y->V (fun k=>base<=k/\k<w.heap.size/\¬O k/\some k≠l.ownBlock) w u y)(hr:GRow el sz base w' l' (vs.map cl++us.map cl))(hg:w.grownBy w' l.ownBlock)(hl:l'.ownBlock=l.ownBlock\/l'.ownBlock=some w.heap.size)(hO:∀k,O k->k<w.heap.size):LRow el sz base V O w' l' (vs++us) (xs++ys):=by
 have hk:Keeps (fun k=>base<=k/\k<w.heap.size/\¬O k/\some k≠l.ownBlock) w w':=fun k o hk ho _=>(hg.block k hk.2.1 hk.2.2.2).trans ho
 have hm:∀k,(base<=k/\k<w.heap.size/\¬O k/\some k≠l.ownBlock)->base<=k/\k<w'.heap.size/\¬O k/\some k≠l'.ownBlock:=fun k hk=>⟨hk.1,lL hk.2.1 hg.size,hk.2.2.1,fun e=>by
  rcases hl with hl|hl
  ·exact hk.2.2.2 (e.trans hl)
  ·have:=Option.some.inj (e.trans hl);have:=hk.2.1;omega⟩
 refine⟨by rw[List.map_append];exact hr,by simp[h.len,hlen],fun j v y hv hy=>?_,fun k hk e=>?_⟩
 ·rcases Nat.lt_or_ge j vs.length with hj|hj
  ·rw[List.getElem?_append_left hj] at hv
   rw[List.getElem?_append_left (by rw[<-h.len];exact hj)] at hy
   exact L.mono hm (L.keep hk (h.val j v y hv hy))
  ·rw[List.getElem?_append_right hj] at hv
   rw[List.getElem?_append_right (by rw[<-h.len];exact hj),<-h.len] at hy
   exact L.mono hm (L.keep hk (hu _ v y hv hy))
 ·rcases hl with hl|hl
  ·exact h.out k (hl▸hk) e
  ·have:=Option.some.inj (hl.symm.trans hk);have:=hO k e;omega
end
theorem Es{B:Nat->Prop}{w:World}{p:Pr}{b o:Nat}(h:PrAt B w p b o):∃u,PrVal B w u p/\∀(i:Nat) (z:Value),(cl u)[i]? =some z->w.cell? ⟨b,o+i,none⟩=some z:=by
 obtain⟨la,ln,lc,aa,an,ac,ta,tn,tc,ua,un,uc,ka,kn,kc,⟨c0,c1,c2,c3,c4,c5,c6,c7,c8,c9,c10,c11⟩,hv⟩:=h.load'
 refine⟨_,hv,fun i z hz=>?_⟩
 simp only[cl,Value.cells] at hz
 match i,hz with
 |0,hz=>injection hz with hz;subst hz;exact c0
 |1,hz=>injection hz with hz;subst hz;exact c1
 |2,hz=>injection hz with hz;subst hz;exact c2
 |3,hz=>injection hz with hz;subst hz;exact c3
 |4,hz=>injection hz with hz;subst hz;exact c4
 |5,hz=>injection hz with hz;subst hz;exact c5
 |6,hz=>injection hz with hz;subst hz;exact c6
 |7,hz=>injection hz with hz;subst hz;exact c7
 |8,hz=>injection hz with hz;subst hz;exact c8
 |9,hz=>injection hz with hz;subst hz;exact c9
 |10,hz=>injection hz with hz;subst hz;exact c10
 |11,hz=>injection hz with hz;subst hz;exact c11
 |i+12,hz=>simp at hz
theorem Fs{B:Nat->Prop}{w:World}{b:Nat}:∀(ps:List Pr) (o:Nat),PrsAt B w ps b o->∃us:List Value,us.length=ps.length/\(∀(j:Nat) (u:Value) (p:Pr),us[j]? =some u->ps[j]? =some p->PrVal B w u p)/\∀(j:Nat) (u:Value),us[j]? =some u->∀(i:Nat) (z:Value),(cl u)[i]? =some z->w.cell? ⟨b,o+(j*12+i),none⟩=some z
 |[],_,_=>⟨[],rfl,fun j u p h=>by simp at h,fun j u h=>by simp at h⟩
 |p::ps,o,h=>by
  simp only[PrsAt] at h
  obtain⟨u,h1,h2⟩:=Es h.1
  obtain⟨us,k1,k2,k3⟩:=Fs ps (o+12) h.2
  refine⟨u::us,by simp[k1],fun j v q hv hq=>?_,fun j v hv i z hz=>?_⟩
  ·cases j with
   |zero=>
    simp only[List.getElem?_cons_zero,Option.some.injEq] at hv hq
    subst hv hq
    exact h1
   |succ j=>exact k2 j v q (by simpa using hv) (by simpa using hq)
  ·cases j with
   |zero=>
    simp only[List.getElem?_cons_zero,Option.some.injEq] at hv
    subst hv
    rw[show o+(0*12+i)=o+i by omega]
    exact h2 i z hz
   |succ j=>
    have:=k3 j v (by simpa using hv) i z hz
    rw[show o+((j+1)*12+i)=o+12+(j*12+i) by omega]
    exact this
theorem LC{B:Nat->Prop}{w:World}{kv:Value}{ps:List Pr}(h:PrSl B w kv ps):∃(us:List Value) (a:Option Addr) (c:Nat),kv= .slice a ps.length c/\us.length=ps.length/\(∀(j:Nat) (u:Value) (p:Pr),us[j]? =some u->ps[j]? =some p->PrVal B w u p)/\KR 12 w a (us.map cl):=by
 rcases h.1 with⟨⟨a,c,rfl⟩,rfl⟩|⟨kb,ko,c,rfl,_,hp⟩
 ·exact⟨[],a,c,rfl,rfl,fun j u p h=>by simp at h,.inl rfl⟩
 ·obtain⟨us,k1,k2,k3⟩:=Fs ps ko hp
  refine⟨us,_,c,rfl,k1,k2,.inr ⟨kb,ko,rfl,fun j e i z hj hi=>?_⟩⟩
  rw[List.getElem?_map] at hj
  cases hu:us[j]? with
  |none=>rw[hu] at hj;cases hj
  |some u=>
   rw[hu] at hj
   injection hj with hj
   subst hj
   exact k3 j u hu i z hi
theorem PrVal.kids{B:Nat->Prop}{w:World}{p:Pr}{a b c d e f g h i j k kv:Value}(hp:PrVal B w (.agg #[a,b,c,d,e,f,g,h,i,j,k,kv]) p):PrSl B w kv p.ps:=by
 obtain⟨lv,av,tl,tk,kv2,e,_,_,_,_,h⟩:=hp
 have e':some kv=some kv2:=congrArg (fun v:Value=>match v with | .agg a=>a[11]? |_=>none) e
 injection e' with e'
 rw[e'];exact h
theorem WT{B:Nat->Prop}{w:World}{us:List Value}{ps:List Pr}(hl:us.length=ps.length)(hv:∀(j:Nat) (u:Value) (p:Pr),us[j]? =some u->ps[j]? =some p->PrVal B w u p):∀u∈us,∃p,PrVal B w u p:=by
 intro u hu
 obtain⟨j,hj⟩:=List.mem_iff_getElem?.1 hu
 have hlt:j<us.length:=(List.getElem?_eq_some_iff.1 hj).1
 exact⟨_,hv j u _ hj (List.getElem?_eq_getElem (by rw[<-hl];exact hlt))⟩
theorem Vx{xs:List Pr}{k:Nat}{p:Pr}(h:xs[k]? =some p):(xs.take (k+1)).flatMap Ju=(xs.take k).flatMap Ju++Ju p/\((xs.take k).flatMap Ju).length+(Ju p).length<=(xs.flatMap Ju).length:=by
 have e:xs.take (k+1)=xs.take k++[p]:=by rw[List.take_add_one,h];rfl
 have e1:(xs.take (k+1)).flatMap Ju=(xs.take k).flatMap Ju++Ju p:=by rw[e,List.flatMap_append,List.flatMap_singleton]
 refine⟨e1,?_⟩
 have e2:xs.flatMap Ju=(xs.take (k+1)).flatMap Ju++(xs.drop (k+1)).flatMap Ju:=by rw[<-List.flatMap_append,List.take_append_drop]
 rw[e2,List.length_append,e1,List.length_append]
 omega
end Go.Proofs.YtmnbheplkidfaaaGreatDoor
