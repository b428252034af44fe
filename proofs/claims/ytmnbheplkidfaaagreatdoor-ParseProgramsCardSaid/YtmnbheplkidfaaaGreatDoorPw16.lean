/- Parsing: the reference's labels. (and what follows from it) -/
import Derived.Test.YtmnbheplkidfaaaGreatDoorPw15
set_option maxHeartbeats 16000000
set_option maxRecDepth 100000
namespace Go.Proofs.YtmnbheplkidfaaaGreatDoor
open Go.Lib (hid)
open Go.RowKit Go.Deep Go.Shelf
def lenW(R:Nat)(all:List Tk)(w:World):Nat:=match w.cell? ⟨R,1,none⟩,w.cell? ⟨R,3,none⟩ with
 |some (.int _ a),some (.int _ e)=>if e=0 then all.length+1-a.toNat else 0
 |_,_=>0
theorem RdIs.lenW{R:Nat}{la:Option Addr}{all:List Tk}{E:Int}{st:RS}{w:World}(h:RdIs R la all E st w):lenW R all w=st.len:=by
 obtain⟨cap,a,p,e,hx,_,_,hs⟩:=h
 obtain⟨⟨_,q1,_,q3,_⟩,-⟩:=c5 hx
 unfold Go.Proofs.YtmnbheplkidfaaaGreatDoor.lenW
 rw[q1,q3]
 match st with
 | .inr (er,pos)=>
  obtain⟨rfl,_,hn⟩:=hs
  show(if e=0 then _ else 0)=0
  exact if_neg hn
 | .inl ts=>
  obtain⟨rfl,n,rfl,hn,hd⟩:=hs
  show(if (0:Int)=0 then all.length+1-((n:Nat):Int).toNat else 0)=ts.length+1
  rw[if_pos rfl,Int.toNat_natCast]
  rw[<-hd,List.length_drop]
  omega
theorem RdIs.len_le{R:Nat}{la:Option Addr}{all:List Tk}{E:Int}{st:RS}{w:World}(h:RdIs R la all E st w):st.len<=1000001:=by
 obtain⟨cap,a,p,e,hx,hl,_,hs⟩:=h
 match st with
 | .inr z=>exact Nat.zero_le _
 | .inl ts=>
  obtain⟨rfl,n,rfl,hn,hd⟩:=hs
  show ts.length+1<=_
  rw[<-hd,List.length_drop]
  omega
theorem RdIs.grown{R b0:Nat}{la:Option Addr}{all:List Tk}{E:Int}{st:RS}{w w':World}{own:Option Nat}(h:RdIs R la all E st w)(hg:w.grownBy w' own)(hne:LaLt la all b0)(hR:R<b0)(ho:∀k,own=some k->b0<=k):RdIs R la all E st w':=by
 obtain⟨cap,a,p,e,h1,h2,h3,h4⟩:=h
 refine⟨cap,a,p,e,(hg.block R (gl h1) (fun e=>by have:=ho R e.symm;omega)).trans h1,h2,fun j x hj=>?_,h4⟩
 obtain⟨h0,g,o,e0,e1,e2,c0,c1,c2,c3⟩:=h3 j x hj
 have hb:=hg.block g e1 (fun e=>by have:=ho g e.symm;have:=hne j x hj g o e0;omega)
 exact⟨h0,g,o,e0,lL e1 hg.size,e2,by simpa only[World.cell?,hb] using c0,by simpa only[World.cell?,hb] using c1,by simpa only[World.cell?,hb] using c2,by simpa only[World.cell?,hb] using c3⟩
theorem RdIs.set{R X b0:Nat}{la:Option Addr}{all:List Tk}{E:Int}{st:RS}{w:World}(h:RdIs R la all E st w)(hR:R<X)(hne:LaLt la all b0)(hb:b0<=X)(i:Nat)(v:Value):RdIs R la all E st (w.setCell ⟨X,i,none⟩ v):=
 h.oth (X:=X) (fun j hj=>oth1 _ _ _ hj) (by simp[World.setCell]) hR (hne.mono hb)
theorem ButO.setC{P X:Nat}{O:Nat->Prop}{w w':World}(h:ButO P O w w')(hX:O X)(i:Nat)(v:Value):ButO P O w (w'.setCell ⟨X,i,none⟩ v):=
 ⟨h.os,h.tape,h.output,by simpa [World.setCell] using h.size,fun j hj hn ho=>(Below.heap_setCell _ _ _ j (show j≠X from fun e=>ho (e▸hX))).trans (h.block j hj hn ho)⟩
theorem JQ{s:ByteArray}{st:RS}(E:Int)(h:stHd s st=true):(Qa E (need s) st).len<st.len:=by
 match st with
 | .inr z=>cases h
 | .inl ts=>
  rw[QM E (show need s ts= .ok () ts.tail from if_pos h)]
  have:=QH (show hd s ts=true from h)
  show ts.tail.length+1<ts.length+1
  omega
def Jt(XA:Nat)(v:Value):Nat->Prop:=fun j=>j=XA\/some j=v.ownBlock
abbrev Nm:List (Nat×Option Tmp):=[(0,some 17),(1,some 18),(2,some 19),(3,some 20),(4,some 21),(5,some 22),(6,some 23),(7,none)]
abbrev Nl:List (Nat×Option Tmp):=[(0,some 26),(1,some 27),(2,some 28),(3,some 29),(4,some 30),(5,some 31),(6,some 32),(7,none)]
theorem Td(R:Nat)(la:Option Addr)(all:List Tk)(E:Int)(g:Nat)(hS:KG R la all E (Ql Qb g) g):LabR R la all E (Ql Qb g) g g:=by
 intro k st w h hn
 obtain⟨he1,he2⟩:=GQ E (Ql Qb g) g k st
 have hn1:(Qa E (need sBra) (Qa E Zj st)).len<g:=Nat.lt_of_le_of_lt (lT (len_le E (F:=need sBra) (fun _ _ _ h=>Nat.le_of_lt (Qp h)) _) (len_le E (F:=Zj) (fun _ _ _ h=>Yi h) st)) hn
 unfold Red
 rw[he1]
 obtain⟨st0,hst0⟩:∃st0,Qa E (need sBra) (Qa E Zj st)=st0:=⟨_,rfl⟩
 rw[hst0] at hn1 he2 |-
 have HST0:=hid hst0
 have HE:=hid he2
 have HN1:=hid hn1
 have HS:=hid hS
 clear he1 he2 hn1 hn hS hst0
 obtain⟨W1,hW1⟩:∃W1,w.alloc (.cells z6 28)=W1:=⟨_,rfl⟩
 have hb1:=(made hW1).1
 have x1:=(made hW1).2
 have hs1:w.heap.size<W1.heap.size:=(gl x1)
 have hR:R<w.heap.size:=h.lt
 have HLA:=hid h.la
 have HP:Hid (RdIs R la all E st W1):=hid (h.to hb1)
 have HB:Hid (But R W1 W1):=hid (But.refl _ _)
 have HW1:=hid hW1
 have HB1:=hid hb1
 have HX1:=hid x1
 clear hW1 hb1 x1 h
 go_enter Tryz.func102,Tryz.ntmps102
 go_upto_region 1 with fail
 rw[HW1.out]
 go_upto_region 2 with(go_at_call 128;refine(Mb R _ all E _ _ HP.out).mono ?_;rintro en wn⟨⟨_,pr,rfl,rfl,hv⟩,hp,hb⟩;have HVpr:=hid hv;clear hv;replace HP:=hid hp;replace HB:=hid (HB.out.trans hb);clear hp hb)
 obtain⟨W3,hW3⟩:∃W3,wn.alloc (.cells #[.int .i64 k,.int .i64 pr,.string ⟨#[]⟩,.int .i64 0,.slice none 0 0,.slice none 0 0] 28)=W3:=⟨_,rfl⟩
 have hbx:=(made hW3).1
 have xx:=(made hW3).2
 have hlA:wn.heap.size<W3.heap.size:=(gl xx)
 have hsA:W1.heap.size<=wn.heap.size:=HB.out.size
 have hnA:wn.heap.size≠R:=by omega
 rw[hW3]
 have HPn:=hid (HP.out.to hbx)
 have HBn:=hid (HB.out.to hbx)
 have HXA:=hid xx
 have HAB:=hid hbx
 clear HP HB hW3 hbx xx
 have HP:=HPn
 have HB:=HBn
 clear HPn HBn
 obtain⟨XA,hXA⟩:∃XA,wn.heap.size=XA:=⟨_,rfl⟩
 rw[hXA] at HXA hlA hsA hnA |-
 have HWN:=hid hXA
 clear hXA HAB
 have HC:Hid (But R W3 W3):=hid (But.refl _ _)
 have HLEN:=hid HP.out.lenW
 go_upto_region 3 with(go_at_call 59;refine(QD R _ all E _ (by decide+kernel) _ _ HP.out).mono ?_;rintro en wq⟨rfl,hp,hb⟩;replace HP:=hid hp;replace HB:=hid (HB.out.trans hb);replace HC:=hid (HC.out.trans hb);clear hp hb)
 rw[HST0.out] at HP
 clear HLEN
 go_loopw [] (fun wr=>∃(ls:List ByteArray) (us:List Ty) (vs:List Value) (xa:Option Addr) (xn xc:Nat) (ya:Option Addr) (yn yc:Nat) (g2:Nat) (st2:RS),Hid (Blk wr XA #[.int .i64 k,.int .i64 pr,.string ⟨#[]⟩,.int .i64 0,.slice xa xn xc,.slice ya yn yc] 28)/\Hid (GRow 9 1 W3.heap.size wr (.slice xa xn xc) (ls.map Jc))/\Hid (LRow 28 6 W3.heap.size (fun B w v t=>TyVal B w v t) (Jt XA (.slice xa xn xc)) wr (.slice ya yn yc) vs us)/\Hid (RdIs R la all E st2 wr)/\Hid (But R W1 wr)/\Hid (LabLeft E (Ql Qb g) g st0 ls us g2 st2)/\Hid (∀s∈ls,s.size<=maxLen)/\Hid (ls.length+st2.len<=1000001)/\Hid (st2.len<g)/\Hid (W3.heap.size<=wr.heap.size)) (fun wr=>lenW R all wr)
 case atStart=>
  exact⟨[],[],[],_,_,_,_,_,_,g,st0,hid ((HC.out.block XA hlA hnA).trans HXA.out),hid (GRow.nil _ _ _ _),hid (LRow.nil _ _ _ _ _ _),HP,HB,hid (LabLeft.start E _ g st0 HN1.out),hid (fun s hs=>by cases hs),hid (by have:=HP.out.len_le;show 0+st0.len<=_;omega),HN1,hid HC.out.size⟩
 case round=>
  obtain⟨ls,us,vs,xa,xn,xc,ya,yn,yc,g2,st2,HBOX,HGR,HLR,HPa,HBo,HLL,HLZ,HLN,HLG,HWV⟩:=hrel
  rename World=>V0
  clear HP HB HC
  have hzv:W1.heap.size<=V0.heap.size:=HBo.out.size
  have hlv:XA<V0.heap.size:=(gl HBOX.out)
  have hR3:R<W3.heap.size:=by omega
  have HW13:Hid (w.heap.size<=W3.heap.size/\W1.heap.size<=W3.heap.size):=hid ⟨by omega,by omega⟩
  have hls:=HLN.out
  have HLSZ:Hid (ls.length<=1000001):=hid (by omega)
  clear hls
  match st2,HPa,HLL,HLN,HLG with
  | .inr z,HPa,HLL,HLN,HLG=>
   obtain⟨er,y3,hne⟩:∃er:Int,V0.cell? ⟨R,3,none⟩=some (.int .i64 er)/\(er==0)=false:=by
    obtain⟨e0,p0⟩:=z
    obtain⟨cap,a,p,e,hx,_,_,he,_,hn⟩:=HPa.out
    exact⟨e,(c5 hx).1.2.2.2.1,by rw[he];simpa using hn⟩
   have HEND:=hid HLL.out.err.1
   have HVL:=hid HLL.out.err.2
   have HUS:=hid HLL.out.len
   go_upto_region 10 with(go_at_call 59;refine(QD R _ all E _ (by decide+kernel) _ _ HPa.out).mono ?_;rintro en wz⟨rfl,hp,hb⟩;have HP:=hid hp;have HD:=hid hb;have HB:=hid (HBo.out.trans hb);clear hp hb)
   have hx3:=(HD.out.block XA hlv hnA).trans HBOX.out
   obtain⟨⟨d0,d1,d2,d3,d4,d5⟩,-⟩:=c6 hx3
   clear hx3
   have hx9:Blk wz w.heap.size z6 28:=(HB.out.block w.heap.size hs1 (Nat.ne_of_gt hR)).trans HX1.out
   obtain⟨⟨q0,q1,q2,q3,q4,q5⟩,z0,z1,z2,z3,z4,z5⟩:=c6 hx9
   have HX9:=hid hx9
   clear hx9
   go_wp2_with fail
   have hgr:GRow 9 1 W3.heap.size wz (.slice xa xn xc) ((ls).map Jc):=HGR.out.kept (fun j hj=>HD.out.block j (HGR.out.lt j hj).2 (by have:=(HGR.out.lt j hj).1;omega))
   have hlr:=HLR.out.frame lyTy (HD.out.o _) hR3 (O':=fun _=>False) (fun _ h=>h.elim)
   have hlen:=HLSZ.out
   have hlus:=HUS.out
   have hty:GTy W3.heap.size wz (.mk k pr ⟨#[]⟩ 0 (ls) (us)) (.agg #[.int .i64 k,.int .i64 pr,.string ⟨#[]⟩,.int .i64 0,.slice xa xn xc,.slice ya yn yc]):=GTy.node (Nat.zero_le _) (StrSl.mono (fun j hj=>⟨hj.1,hj.2.1⟩) (hgr.texts (by unfold maxLen;omega) HLZ.out)) (TySl.mono (fun j hj=>⟨hj.1,hj.2.1⟩) (hlr.tys (by unfold maxLen;omega)))
   have HPn:Hid (RdIs R la all E (Qa E (need sKet) (Qa E (QP (QX Qb (Ql Qb g)) g) st0)) wz):=hid (by rw[HEND.out];exact HP.out)
   clear HP
   have HP:=HPn
   have hx8:=ZB HX9.out (.int .i64 k) (.int .i64 pr) tE iZ (.slice xa xn xc) (.slice ya yn yc)
   obtain⟨⟨y0,y1,y2,y3,y4,y5⟩,-⟩:=c6 hx8
   refine bodyPost_ret (v:= .agg #[.int .i64 k,.int .i64 pr,.string ⟨#[]⟩,.int .i64 0,.slice xa xn xc,.slice ya yn yc]) (by simp[results,Tryz.results102,go_sem,y0,y1,y2,y3,y4,y5]) rfl ?_
   refine⟨⟨_,Ty.mk k pr ⟨#[]⟩ 0 (ls) (us),rfl,(hty.put6 (by omega) (.int .i64 k) (.int .i64 pr) tE iZ (.slice xa xn xc) (.slice ya yn yc)).mono (by omega),fun y hy=>by obtain⟨p',l,h1,h2,rfl⟩:=HE.out y hy;rw[HVpr.out p' h1,(HVL.out l h2).1,(HVL.out l h2).2]⟩,HP.out.put6 hR HLA.out (.int .i64 k) (.int .i64 pr) tE iZ (.slice xa xn xc) (.slice ya yn yc),((But.of HB1.out).trans HB.out).put6 lR (.int .i64 k) (.int .i64 pr) tE iZ (.slice xa xn xc) (.slice ya yn yc)⟩
  | .inl ts2,HPa,HLL,HLN,HLG=>
   obtain⟨y3,y4⟩:V0.cell? ⟨R,3,none⟩=some iZ/\True:=by
    obtain⟨cap,a,p,e,hx,_,_,rfl,_⟩:=HPa.out
    exact⟨(c5 hx).1.2.2.2.1,trivial⟩
   clear y4
   obtain⟨st2,hst2⟩:∃st2:RS,(Sum.inl ts2:RS)=st2:=⟨_,rfl⟩
   rw[hst2] at HPa HLL HLN HLG
   have HST2:=hid hst2
   have HLENV:=hid HPa.out.lenW
   clear hst2
   have HBXF:Hid (∀W,But R V0 W->Blk W XA #[.int .i64 k,.int .i64 pr,.string ⟨#[]⟩,.int .i64 0,.slice xa xn xc,.slice ya yn yc] 28):=hid (fun W hW=>(hW.block XA hlv hnA).trans HBOX.out)
   have HGRL:Hid (∀k,(Value.slice xa xn xc).ownBlock=some k->W3.heap.size<=k/\k<V0.heap.size):=hid (fun k hk=>HGR.out.lt k hk)
   have HGRF:Hid (∀W,But R V0 W->GRow 9 1 W3.heap.size W (.slice xa xn xc) (ls.map Jc)):=hid (fun W hW=>HGR.out.kept (fun j hj=>hW.block j (HGR.out.lt j hj).2 (by have:=(HGR.out.lt j hj).1;omega)))
   have HBXO:Hid (∀W,ButO R (fun j=>some j=(Value.slice xa xn xc).ownBlock) V0 W->Blk W XA #[.int .i64 k,.int .i64 pr,.string ⟨#[]⟩,.int .i64 0,.slice xa xn xc,.slice ya yn yc] 28):=hid (fun W hW=>(hW.block XA hlv hnA (fun e=>by have:=(HGRL.out XA e.symm).1;omega)).trans HBOX.out)
   have HW3V:Hid (W3.heap.size<=V0.heap.size):=hid (by have:=HWV.out;omega)
   go_upto_region 4 with fail
   clear y3
   refine wp_region_held_drew (S:=fun _=>True) (by kernel_rfl) trivial (fun hHeld=>?_)
   refine QY [0,1,2,3,4,5,6,7] (Rail [(5,1)] [(0,.pointer (some ⟨XA,4,none⟩)),(1,.slice xa xn xc),(2,.pointer (some ⟨R,0,none⟩)),(6,.pointer (some ⟨XA,4,none⟩))] [(3,fun v W=>∃nm:ByteArray,v= .string nm/\nm.size<=maxLen/\(∀y,Qj (Qk Qb) st2=some y->nm=y)/\RdIs R la all E (Qa E (Qk Qb) st2) W/\But R V0 W),(4,fun v W=>∃(nm:ByteArray) (nb:Nat),v= .slice (some ⟨nb,0,none⟩) 1 1/\nm.size<=maxLen/\(∀y,Qj (Qk Qb) st2=some y->nm=y)/\RdIs R la all E (Qa E (Qk Qb) st2) W/\But R V0 W/\V0.heap.size<=nb/\Blk W nb #[.string nm] 9),(5,fun v W=>∃(nm:ByteArray) (ga:Option Addr) (gn gc:Nat),v= .slice ga gn gc/\nm.size<=maxLen/\(∀y,Qj (Qk Qb) st2=some y->nm=y)/\RdIs R la all E (Qa E (Qk Qb) st2) W/\ButO R (fun j=>some j=(Value.slice xa xn xc).ownBlock) V0 W/\GRow 9 1 W3.heap.size W (.slice ga gn gc) ((ls++[nm]).map Jc)/\(∀k,(Value.slice ga gn gc).ownBlock=some k->(Value.slice xa xn xc).ownBlock=some k\/V0.heap.size<=k)),(7,fun _ W=>∃(nm:ByteArray) (ga:Option Addr) (gn gc:Nat),nm.size<=maxLen/\(∀y,Qj (Qk Qb) st2=some y->nm=y)/\RdIs R la all E (Qa E (Qk Qb) st2) W/\ButO R (Jt XA (.slice xa xn xc)) V0 W/\Blk W XA #[.int .i64 k,.int .i64 pr,.string ⟨#[]⟩,.int .i64 0,.slice ga gn gc,.slice ya yn yc] 28/\GRow 9 1 W3.heap.size W (.slice ga gn gc) ((ls++[nm]).map Jc)/\(∀k,(Value.slice ga gn gc).ownBlock=some k->(Value.slice xa xn xc).ownBlock=some k\/V0.heap.size<=k))] (fun W=>W=V0.drew)) (by kernel_rfl) (by kernel_rfl) (fun _ _ _ _=>trivial) (Rail.start (S0:=fun W=>W=V0.drew) rfl _) ?stepsQ ?stopQ
   case stepsQ=>
    refine fC ⟨?_,fC ⟨?_,fC ⟨?_,fC ⟨?_,fC ⟨?_,fC ⟨?_,fC ⟨?_,fC ⟨?_,fN⟩⟩⟩⟩⟩⟩⟩⟩
    ·refine InvStep.lst 0 [] Nm (fun L vals olds wx hLk hdeps hRl K hK2=>?_)
     simp only[Qs,setD,sS,sZ] at hK2 |-
     clear hdeps
     go_simp
     exact hK2 _ _ (hRl.pure 0 _ rfl fN (fC ⟨rfl,fN⟩))
    ·refine InvStep.lst 1 [0] Nm (fun L vals olds wx hLk hdeps hRl K hK2=>?_)
     simp only[Qs,setD,sS,sZ] at hK2 |-
     simp only[List.all_cons,List.all_nil,Bool.and_true] at hdeps
     have es:=(Qe (vals:=vals) (olds:=olds) hdeps).trans (hRl.val 0 rfl hdeps)
     simp only[es] at hK2 |-
     clear es
     have hbx:Blk wx XA #[.int .i64 k,.int .i64 pr,.string ⟨#[]⟩,.int .i64 0,.slice xa xn xc,.slice ya yn yc] 28:=hRl.before 2 1 (I:=fun W=>Blk W XA #[.int .i64 k,.int .i64 pr,.string ⟨#[]⟩,.int .i64 0,.slice xa xn xc,.slice ya yn yc] 28) rfl rfl hLk (fun e=>by rw[e];exact HBXF.out _ (But.refl _ _).drew) (fC ⟨fun v h=>HBXF.out _ (by obtain⟨_,_,_,_,_,h⟩:=h;exact h),fC ⟨fun v h=>HBXF.out _ (by obtain⟨_,_,_,_,_,_,h,_⟩:=h;exact h),fN⟩⟩)
     have cl:=(c6 hbx).1.2.2.2.2.1
     clear hbx
     go_simp
     clear cl
     exact hK2 _ _ (hRl.pure 1 _ rfl fN (fC ⟨rfl,fN⟩))
    ·refine InvStep.lst 2 [] Nm (fun L vals olds wx hLk hdeps hRl K hK2=>?_)
     simp only[Qs,setD,sS,sZ] at hK2 |-
     clear hdeps
     go_simp
     exact hK2 _ _ (hRl.pure 2 _ rfl fN (fC ⟨rfl,fN⟩))
    ·refine InvStep.lst 3 [2] Nm (fun L vals olds wx hLk hdeps hRl K hK2=>?_)
     simp only[Qs,setD,sS,sZ] at hK2 |-
     simp only[List.all_cons,List.all_nil,Bool.and_true] at hdeps
     have es:=(Qe (vals:=vals) (olds:=olds) hdeps).trans (hRl.val 2 rfl hdeps)
     simp only[es] at hK2 |-
     clear es
     obtain⟨hc,hn⟩:=hRl.stat 0 rfl hLk trivial rfl fN rfl
     dsimp only[QR,List.take] at hc
     subst hc
     go_simp
     refine(Zv R _ all E _ _ (HPa.out.to bR.drew)).mono ?_
     rintro en w9⟨⟨_,nm,rfl,⟨rfl,hnz⟩,hv⟩,hp,hb⟩
     dsimp only
     exact hK2 _ _ (hn _ _ ⟨nm,rfl,hnz,hv,hp,(But.refl R V0).drew.trans hb⟩)
    ·refine InvStep.lst 4 [3] Nm (fun L vals olds wx hLk hdeps hRl K hK2=>?_)
     simp only[Qs,setD,sS,sZ] at hK2 |-
     simp only[List.all_cons,List.all_nil,Bool.and_true] at hdeps
     obtain⟨hc,hn⟩:=hRl.stat 1 rfl hLk hdeps rfl fN rfl
     dsimp only[QR,List.take] at hc
     obtain⟨nm,e3,hnz,hv,hp,hb⟩:=hc
     have es:=(Qe (vals:=vals) (olds:=olds) hdeps).trans e3
     simp only[es] at hK2 |-
     clear es e3
     go_simp
     obtain⟨Wa,hWa⟩:∃Wa,wx.alloc (.cells #[.string nm] 9)=Wa:=⟨_,rfl⟩
     have hbl:=(made hWa).1
     have xx:=(made hWa).2
     rw[hWa]
     exact hK2 _ _ (hn _ _ ⟨nm,wx.heap.size,rfl,hnz,hv,hp.to hbl,hb.to hbl,hb.size,xx⟩)
    ·refine InvStep.lst 5 [1,4] Nm (fun L vals olds wx hLk hdeps hRl K hK2=>?_)
     simp only[Qs,setD,sS,sZ] at hK2 |-
     simp only[List.all_cons,List.all_nil,Bool.and_true,Bool.and_eq_true] at hdeps
     obtain⟨hc,hn⟩:=hRl.stat 2 rfl hLk hdeps.2 rfl (fC ⟨hdeps.1,fN⟩) rfl
     dsimp only[QR,List.take] at hc
     have e1:=(Qe (vals:=vals) (olds:=olds) hdeps.1).trans (hRl.val 1 rfl hdeps.1)
     obtain⟨nm,nb,e4,hnz,hv,hp,hb,hnb,hx4⟩:=hc
     have e4':=(Qe (vals:=vals) (olds:=olds) hdeps.2).trans e4
     have hrow:=HGRF.out _ hb
     refine Za (ops:=#[]) rfl (Zb Uv (by rfl) _ _ (by rfl) (by exact e1) hrow (some ⟨nb,0,none⟩) 1 1 [Jc nm] (by exact e4') rfl (fun e he=>by rw[mS he];rfl) (JY hx4) (fun e he u hu=>by rw[mS he] at hu;rw[mS hu];rfl) (by have:=HLSZ.out;rw[List.length_map,List.length_singleton];omega) (lT HW3V.out hb.size) ((ls++[nm]).map Jc) (by rw[List.map_append];rfl) (fun ga gn gc w4 hr4 hg4 hq4=>?_))
     refine hK2 _ _ (hn _ _ ⟨nm,ga,gn,gc,rfl,hnz,hv,hp.grown hg4 HLA.out hR (fun k hk=>lT HW13.out.1 (hrow.lt k hk).1),(hb.o _).trans (ButO.grown hg4 R) (fun j h=> .inl h),hr4,fun k hk=>?_⟩)
     rcases hq4 with e|e
     ·exact .inl (e.symm.trans hk)
     ·refine .inr ?_
      have e':=Option.some.inj (e.symm.trans hk)
      have:=hb.size
      omega
    ·refine InvStep.lst 6 [] Nm (fun L vals olds wx hLk hdeps hRl K hK2=>?_)
     simp only[Qs,setD,sS,sZ] at hK2 |-
     clear hdeps
     go_simp
     exact hK2 _ _ (hRl.pure 6 _ rfl fN (fC ⟨rfl,fN⟩))
    ·refine InvStep.lst 7 [5,6] Nm (fun L vals olds wx hLk hdeps hRl K hK2=>?_)
     simp only[Qs,setD,sS,sZ] at hK2 |-
     simp only[List.all_cons,List.all_nil,Bool.and_true,Bool.and_eq_true] at hdeps
     obtain⟨hc,hn⟩:=hRl.stat 3 rfl hLk hdeps.1 rfl fN rfl
     dsimp only[QR,List.take] at hc
     have e6:=(Qe (vals:=vals) (olds:=olds) hdeps.2).trans (hRl.val 3 rfl hdeps.2)
     obtain⟨nm,ga,gn,gc,e5,hnz,hv,hp,hbo,hgr,how⟩:=hc
     have e5':=(Qe (vals:=vals) (olds:=olds) hdeps.1).trans e5
     have hbx:=HBXO.out _ hbo
     have cl:=(c6 hbx).1.2.2.2.2.1
     have fz:=(c6 hbx).2.2.2.2.2.1
     simp only[e5',e6] at hK2 |-
     have HH:=hid (And.intro hgr how)
     have HPP:=hid hp
     have HBB:=hid hbo
     have HXX:=hid hbx
     clear e5 e5' e6 hgr how hp hbo hbx
     go_simp
     clear cl fz
     exact hK2 undef _ (hn _ _ ⟨nm,ga,gn,gc,hnz,hv,HPP.out.set (by omega) HLA.out (by omega) 4 _,(HBB.out.mono (O':=Jt XA (.slice xa xn xc)) (fun k _ h=> .inr h)).setC (.inl rfl) 4 _,Qd HXX.out 4 _,HH.out.1.kept (fun k hk=>oth1 _ _ _ (by have:=(HH.out.1.lt k hk).1;omega)),HH.out.2⟩)
   case stopQ=>
    refine JI [(0,some 17),(1,some 18),(2,some 19),(3,some 20),(4,some 21),(5,some 22),(6,some 23),(7,none)] (by kernel_rfl) (by decide) (fun L vals olds wQ hall hRl=>?_)
    have hfin:=hRl.fin (by simp at hall |-;simp[hall])
    dsimp only[QR] at hfin
    clear hRl hall hHeld
    simp only[Qs,sS,sZ]
    obtain⟨s0,hs0⟩:∃s,QA L vals olds 0=s:=⟨_,rfl⟩
    rw[hs0]
    clear hs0
    obtain⟨s1,hs1⟩:∃s,QA L vals olds 1=s:=⟨_,rfl⟩
    rw[hs1]
    clear hs1
    obtain⟨s2,hs2⟩:∃s,QA L vals olds 2=s:=⟨_,rfl⟩
    rw[hs2]
    clear hs2
    obtain⟨s3,hs3⟩:∃s,QA L vals olds 3=s:=⟨_,rfl⟩
    rw[hs3]
    clear hs3
    obtain⟨s4,hs4⟩:∃s,QA L vals olds 4=s:=⟨_,rfl⟩
    rw[hs4]
    clear hs4
    obtain⟨s5,hs5⟩:∃s,QA L vals olds 5=s:=⟨_,rfl⟩
    rw[hs5]
    clear hs5
    obtain⟨s6,hs6⟩:∃s,QA L vals olds 6=s:=⟨_,rfl⟩
    rw[hs6]
    clear hs6
    obtain⟨nm,ga,gn,gc,hnz,hv,hp,hbo,hbx,hgr,how⟩:=hfin
    have hlr:=HLR.out.frame lyTy hbo hR3 (O':=Jt XA (.slice ga gn gc)) (fun k hk=>by
     rcases hk with rfl|hk
     ·exact .inl (.inl rfl)
     ·rcases how k hk.symm with e|e
      ·exact .inl (.inr e.symm)
      ·exact .inr e)
    have hb1:But R W1 wQ:=((HBo.out.o (fun _=>False)).trans hbo (fun j hj=> .inr (by
     rcases hj with rfl|hj
     ·exact hsA
     ·have:=(HGRL.out j hj.symm).1;have:=HW13.out.2;omega))).but (fun _ _ h=>h)
    have HNM:=hid (And.intro hnz hv)
    have HPa4:=hid hp
    have HBo4:=hid hb1
    have HBX4:=hid hbx
    have HGR4:=hid hgr
    have HLR4:=hid hlr
    have hl4:XA<wQ.heap.size:=(gl hbx)
    have HSZ4:=hid (show V0.heap.size<=wQ.heap.size from hbo.size)
    clear hnz hv hp hbo hbx hgr how hlr hb1
    go_upto_region 6 with(go_at_call 59;refine(QD R _ all E _ (by decide+kernel) _ _ HPa4.out).mono ?_;rintro en V5⟨rfl,hp,hb⟩;have HPa5:=hid hp;have HB5:=hid hb;clear hp hb)
    have hl5:XA<V5.heap.size:=lL hl4 HB5.out.size
    have HBX5:=hid ((HB5.out.block XA hl4 hnA).trans HBX4.out)
    have HBo5:=hid (HBo4.out.trans HB5.out)
    have HGR5:Hid (GRow 9 1 W3.heap.size V5 (.slice ga gn gc) ((ls++[nm]).map Jc)):=hid (HGR4.out.kept (fun j hj=>HB5.out.block j (HGR4.out.lt j hj).2 (by have:=(HGR4.out.lt j hj).1;omega)))
    have HLR5:=hid (HLR4.out.frame lyTy (HB5.out.o _) hR3 (O':=Jt XA (.slice ga gn gc)) (fun k hk=> .inl hk))
    have HW3V5:Hid (W3.heap.size<=V5.heap.size):=hid (lT HW3V.out (lT HSZ4.out HB5.out.size))
    have HLE5:Hid ((Qa E (need QB) (Qa E (Qk Qb) st2)).len<=st2.len):=hid (lT (len_le E (F:=need QB) (fun _ _ _ h=>Nat.le_of_lt (Qp h)) _) (len_le E (F:=Qk Qb) (fun _ _ _ h=>Nat.le_of_lt (QJ h)) st2))
    clear HLR4 HGR4 HBX4 HPa4 HBo4 HB5 HPa HBXF HGRF HBXO HBOX HGR HLR HBo HGRL hl4
    have HN5:Hid ((Qa E (need QB) (Qa E (Qk Qb) st2)).len<g):=hid (Nat.lt_of_le_of_lt HLE5.out HLG.out)
    obtain⟨st4,hst4⟩:∃st4,Qa E (need QB) (Qa E (Qk Qb) st2)=st4:=⟨_,rfl⟩
    rw[hst4] at HPa5 HLE5 HN5
    have HST4:=hid hst4
    clear hst4
    have HBXF:Hid (∀W,But R V5 W->Blk W XA #[.int .i64 k,.int .i64 pr,.string ⟨#[]⟩,.int .i64 0,.slice ga gn gc,.slice ya yn yc] 28):=hid (fun W hW=>(hW.block XA hl5 hnA).trans HBX5.out)
    have HLRL:Hid (∀k,(Value.slice ya yn yc).ownBlock=some k->W3.heap.size<=k/\k<V5.heap.size):=hid (fun k hk=>HLR5.out.row.lt k hk)
    have HGRL:Hid (∀k,(Value.slice ga gn gc).ownBlock=some k->W3.heap.size<=k/\k<V5.heap.size):=hid (fun k hk=>HGR5.out.lt k hk)
    have HLRF:Hid (∀W,But R V5 W->LRow 28 6 W3.heap.size (fun B w v t=>TyVal B w v t) (Jt XA (.slice ga gn gc)) W (.slice ya yn yc) vs us):=hid (fun W hW=>HLR5.out.frame lyTy (hW.o _) hR3 (fun k hk=> .inl hk))
    have HBXO:Hid (∀W,ButO R (fun j=>some j=(Value.slice ya yn yc).ownBlock) V5 W->Blk W XA #[.int .i64 k,.int .i64 pr,.string ⟨#[]⟩,.int .i64 0,.slice ga gn gc,.slice ya yn yc] 28):=hid (fun W hW=>(hW.block XA hl5 hnA (fun e=>by have:=(HLRL.out XA e.symm).1;omega)).trans HBX5.out)
    have HVSZ:Hid (vs.length<=1000001):=hid (by have h1:=HLR5.out.len;have h2:=HLL.out.len;have h3:=HLSZ.out;omega)
    refine wp_region_held_drew (S:=fun _=>True) (by kernel_rfl) trivial (fun hHeld=>?_)
    refine QY [0,1,2,3,4,5,6,7] (Rail [(5,1)] [(0,.pointer (some ⟨XA,5,none⟩)),(1,.slice ya yn yc),(2,.pointer (some ⟨R,0,none⟩)),(6,.pointer (some ⟨XA,5,none⟩))] [(3,fun v W=>∃(u:Ty) (lb:Option Addr) (mn mc:Nat) (kb:Option Addr) (jn jc:Nat),v= .agg (cT u lb mn mc kb jn jc)/\GTy V5.heap.size W u (.agg (cT u lb mn mc kb jn jc))/\(∀y,Qj (Ql Qb g) st4=some y->u=y)/\RdIs R la all E (Qa E (Ql Qb g) st4) W/\But R V5 W),(4,fun v W=>∃(u:Ty) (lb:Option Addr) (mn mc:Nat) (kb:Option Addr) (jn jc:Nat) (nb:Nat),v= .slice (some ⟨nb,0,none⟩) 1 1/\GTy V5.heap.size W u (.agg (cT u lb mn mc kb jn jc))/\(∀y,Qj (Ql Qb g) st4=some y->u=y)/\RdIs R la all E (Qa E (Ql Qb g) st4) W/\But R V5 W/\V5.heap.size<=nb/\Blk W nb (cT u lb mn mc kb jn jc) 28),(5,fun v W=>∃(u:Ty) (ha:Option Addr) (hn hc:Nat) (vs':List Value),v= .slice ha hn hc/\(∀y,Qj (Ql Qb g) st4=some y->u=y)/\RdIs R la all E (Qa E (Ql Qb g) st4) W/\ButO R (fun j=>some j=(Value.slice ya yn yc).ownBlock) V5 W/\LRow 28 6 W3.heap.size (fun B w v t=>TyVal B w v t) (Jt XA (.slice ga gn gc)) W (.slice ha hn hc) vs' (us++[u])),(7,fun _ W=>∃(u:Ty) (ha:Option Addr) (hn hc:Nat) (vs':List Value),(∀y,Qj (Ql Qb g) st4=some y->u=y)/\RdIs R la all E (Qa E (Ql Qb g) st4) W/\ButO R (Jt XA (.slice ya yn yc)) V5 W/\Blk W XA #[.int .i64 k,.int .i64 pr,.string ⟨#[]⟩,.int .i64 0,.slice ga gn gc,.slice ha hn hc] 28/\LRow 28 6 W3.heap.size (fun B w v t=>TyVal B w v t) (Jt XA (.slice ga gn gc)) W (.slice ha hn hc) vs' (us++[u]))] (fun W=>W=V5.drew)) (by kernel_rfl) (by kernel_rfl) (fun _ _ _ _=>trivial) (Rail.start (S0:=fun W=>W=V5.drew) rfl _) ?stepsK ?stopK
    case stepsK=>
     refine fC ⟨?_,fC ⟨?_,fC ⟨?_,fC ⟨?_,fC ⟨?_,fC ⟨?_,fC ⟨?_,fC ⟨?_,fN⟩⟩⟩⟩⟩⟩⟩⟩
     ·refine InvStep.lst 0 [] Nl (fun L vals olds wx hLk hdeps hRl K hK2=>?_)
      simp only[Qs,setD,sS,sZ] at hK2 |-
      clear hdeps
      go_simp
      exact hK2 _ _ (hRl.pure 0 _ rfl fN (fC ⟨rfl,fN⟩))
     ·refine InvStep.lst 1 [0] Nl (fun L vals olds wx hLk hdeps hRl K hK2=>?_)
      simp only[Qs,setD,sS,sZ] at hK2 |-
      simp only[List.all_cons,List.all_nil,Bool.and_true] at hdeps
      have es:=(Qe (vals:=vals) (olds:=olds) hdeps).trans (hRl.val 0 rfl hdeps)
      simp only[es] at hK2 |-
      clear es
      have hbx:Blk wx XA #[.int .i64 k,.int .i64 pr,.string ⟨#[]⟩,.int .i64 0,.slice ga gn gc,.slice ya yn yc] 28:=hRl.before 2 1 (I:=fun W=>Blk W XA #[.int .i64 k,.int .i64 pr,.string ⟨#[]⟩,.int .i64 0,.slice ga gn gc,.slice ya yn yc] 28) rfl rfl hLk (fun e=>by rw[e];exact HBXF.out _ (But.refl _ _).drew) (fC ⟨fun v h=>HBXF.out _ (by obtain⟨_,_,_,_,_,_,_,_,_,_,_,h⟩:=h;exact h),fC ⟨fun v h=>HBXF.out _ (by obtain⟨_,_,_,_,_,_,_,_,_,_,_,_,h,_⟩:=h;exact h),fN⟩⟩)
      have cl:=(c6 hbx).1.2.2.2.2.2
      clear hbx
      go_simp
      clear cl
      exact hK2 _ _ (hRl.pure 1 _ rfl fN (fC ⟨rfl,fN⟩))
     ·refine InvStep.lst 2 [] Nl (fun L vals olds wx hLk hdeps hRl K hK2=>?_)
      simp only[Qs,setD,sS,sZ] at hK2 |-
      clear hdeps
      go_simp
      exact hK2 _ _ (hRl.pure 2 _ rfl fN (fC ⟨rfl,fN⟩))
     ·refine InvStep.lst 3 [2] Nl (fun L vals olds wx hLk hdeps hRl K hK2=>?_)
      simp only[Qs,setD,sS,sZ] at hK2 |-
      simp only[List.all_cons,List.all_nil,Bool.and_true] at hdeps
      have es:=(Qe (vals:=vals) (olds:=olds) hdeps).trans (hRl.val 2 rfl hdeps)
      simp only[es] at hK2 |-
      clear es
      obtain⟨hc,hn⟩:=hRl.stat 0 rfl hLk trivial rfl fN rfl
      dsimp only[QR,List.take] at hc
      subst hc
      go_simp
      refine(HS.out _ _ (HPa5.out.to bR.drew) HN5.out).mono ?_
      rintro en w9⟨⟨_,u,rfl,hg,hv⟩,hp,hb⟩
      obtain⟨lb,mn,mc,kb,jn,jc,rfl⟩:=hg.open
      dsimp only
      exact hK2 _ _ (hn _ _ ⟨u,lb,mn,mc,kb,jn,jc,rfl,hg,hv,hp,(But.refl R V5).drew.trans hb⟩)
     ·refine InvStep.lst 4 [3] Nl (fun L vals olds wx hLk hdeps hRl K hK2=>?_)
      simp only[Qs,setD,sS,sZ] at hK2 |-
      simp only[List.all_cons,List.all_nil,Bool.and_true] at hdeps
      obtain⟨hc,hn⟩:=hRl.stat 1 rfl hLk hdeps rfl fN rfl
      dsimp only[QR,List.take] at hc
      obtain⟨u,lb,mn,mc,kb,jn,jc,e3,hg,hv,hp,hb⟩:=hc
      have es:=(Qe (vals:=vals) (olds:=olds) hdeps).trans e3
      simp only[es] at hK2 |-
      clear es e3
      go_simp
      obtain⟨Wa,hWa⟩:∃Wa,wx.alloc (.cells (cT u lb mn mc kb jn jc) 28)=Wa:=⟨_,rfl⟩
      have hbl:=(made hWa).1
      have xx:=(made hWa).2
      rw[hWa]
      exact hK2 _ _ (hn _ _ ⟨u,lb,mn,mc,kb,jn,jc,wx.heap.size,rfl,hg.but (But.of (P:=R) hbl) (lL hR3 HW3V5.out),hv,hp.to hbl,hb.to hbl,hb.size,xx⟩)
     ·refine InvStep.lst 5 [1,4] Nl (fun L vals olds wx hLk hdeps hRl K hK2=>?_)
      simp only[Qs,setD,sS,sZ] at hK2 |-
      simp only[List.all_cons,List.all_nil,Bool.and_true,Bool.and_eq_true] at hdeps
      obtain⟨hc,hn⟩:=hRl.stat 2 rfl hLk hdeps.2 rfl (fC ⟨hdeps.1,fN⟩) rfl
      dsimp only[QR,List.take] at hc
      have e1:=(Qe (vals:=vals) (olds:=olds) hdeps.1).trans (hRl.val 1 rfl hdeps.1)
      obtain⟨u,lb,mn,mc,kb,jn,jc,nb,e4,hg,hv,hp,hb,hnb,hx4⟩:=hc
      have e4':=(Qe (vals:=vals) (olds:=olds) hdeps.2).trans e4
      have hrow:=HLRF.out _ hb
      have hone:=lyTy.one hg
      refine Za (ops:=#[]) rfl (Zb Nw (by rfl) _ _ (by rfl) (by exact e1) hrow.row (some ⟨nb,0,none⟩) 1 1 [cl (.agg (cT u lb mn mc kb jn jc))] (by exact e4') rfl (fun e he=>by rw[mS he];rfl) (JY hx4) (fun e he x hx=>hone x (by rw[mS he] at hx;exact hx)) (by have:=HVSZ.out;rw[List.length_map,List.length_singleton];omega) (lT HW3V5.out hb.size) (vs.map cl++[cl (.agg (cT u lb mn mc kb jn jc))]) rfl (fun ha hn' hc' w4 hr4 hg4 hq4=>?_))
      have hOL:∀k,Jt XA (.slice ga gn gc) k->k<V5.heap.size:=fun k hk=>hk.elim (fun e=>e▸hl5) (fun e=>(HGRL.out k e.symm).2)
      have hgrow:=hrow.grow lyTy (x:=u) (lyTy.mono (fun k hk=>⟨lT HW3V5.out hk.1,hk.2,fun e=>by have:=hOL k e;have:=hk.1;omega,fun e=>by have:=(HLRL.out k e.symm).2;have:=hk.1;omega⟩) hg) hr4 hg4 hq4 (fun k hk=>lL (hOL k hk) hb.size)
      exact hK2 _ _ (hn _ _ ⟨u,ha,hn',hc',_,rfl,hv,hp.grown hg4 HLA.out hR (fun k hk=>lT HW13.out.1 (hrow.row.lt k hk).1),(hb.o _).trans (ButO.grown hg4 R) (fun j h=> .inl h),hgrow⟩)
     ·refine InvStep.lst 6 [] Nl (fun L vals olds wx hLk hdeps hRl K hK2=>?_)
      simp only[Qs,setD,sS,sZ] at hK2 |-
      clear hdeps
      go_simp
      exact hK2 _ _ (hRl.pure 6 _ rfl fN (fC ⟨rfl,fN⟩))
     ·refine InvStep.lst 7 [5,6] Nl (fun L vals olds wx hLk hdeps hRl K hK2=>?_)
      simp only[Qs,setD,sS,sZ] at hK2 |-
      simp only[List.all_cons,List.all_nil,Bool.and_true,Bool.and_eq_true] at hdeps
      obtain⟨hc,hn⟩:=hRl.stat 3 rfl hLk hdeps.1 rfl fN rfl
      dsimp only[QR,List.take] at hc
      have e6:=(Qe (vals:=vals) (olds:=olds) hdeps.2).trans (hRl.val 3 rfl hdeps.2)
      obtain⟨u,ha,hn',hc',vs',e5,hv,hp,hbo,hlr⟩:=hc
      have e5':=(Qe (vals:=vals) (olds:=olds) hdeps.1).trans e5
      have hbx:=HBXO.out _ hbo
      have cl:=(c6 hbx).1.2.2.2.2.2
      have fz:=(c6 hbx).2.2.2.2.2.2
      simp only[e5',e6] at hK2 |-
      have HH:=hid hlr
      have HPP:=hid hp
      have HBB:=hid hbo
      have HXX:=hid hbx
      clear e5 e5' e6 hlr hp hbo hbx
      go_simp
      clear cl fz
      exact hK2 undef _ (hn _ _ ⟨u,ha,hn',hc',vs',hv,HPP.out.set (by omega) HLA.out (by omega) 5 _,(HBB.out.mono (O':=Jt XA (.slice ya yn yc)) (fun k _ h=> .inr h)).setC (.inl rfl) 5 _,Qd HXX.out 5 _,HH.out.frame lyTy ((ButO.refl R _ _).setC (.inl rfl) 5 _) hR3 (fun k hk=> .inl hk)⟩)
    case stopK=>
     refine JI [(0,some 26),(1,some 27),(2,some 28),(3,some 29),(4,some 30),(5,some 31),(6,some 32),(7,none)] (by kernel_rfl) (by decide) (fun L vals olds wK hall hRl=>?_)
     have hfin:=hRl.fin (by simp at hall |-;simp[hall])
     dsimp only[QR] at hfin
     clear hRl hall hHeld
     simp only[Qs,sS,sZ]
     obtain⟨s0,hs0⟩:∃s,QA L vals olds 0=s:=⟨_,rfl⟩
     rw[hs0]
     clear hs0
     obtain⟨s1,hs1⟩:∃s,QA L vals olds 1=s:=⟨_,rfl⟩
     rw[hs1]
     clear hs1
     obtain⟨s2,hs2⟩:∃s,QA L vals olds 2=s:=⟨_,rfl⟩
     rw[hs2]
     clear hs2
     obtain⟨s3,hs3⟩:∃s,QA L vals olds 3=s:=⟨_,rfl⟩
     rw[hs3]
     clear hs3
     obtain⟨s4,hs4⟩:∃s,QA L vals olds 4=s:=⟨_,rfl⟩
     rw[hs4]
     clear hs4
     obtain⟨s5,hs5⟩:∃s,QA L vals olds 5=s:=⟨_,rfl⟩
     rw[hs5]
     clear hs5
     obtain⟨s6,hs6⟩:∃s,QA L vals olds 6=s:=⟨_,rfl⟩
     rw[hs6]
     clear hs6
     obtain⟨u,ha,hn',hc',vs',hv,hp,hbo,hbx,hlr⟩:=hfin
     have hgr:GRow 9 1 W3.heap.size wK (.slice ga gn gc) ((ls++[nm]).map Jc):=HGR5.out.kept (fun j hj=>hbo.block j (HGR5.out.lt j hj).2 (by have:=(HGR5.out.lt j hj).1;omega) (fun e=>by
      rcases e with rfl|e
      ·have:=(HGR5.out.lt _ hj).1;omega
      ·exact HLR5.out.out j e.symm (.inr hj.symm)))
     have hb1:But R W1 wK:=((HBo5.out.o (fun _=>False)).trans hbo (fun j hj=> .inr (by
      rcases hj with rfl|hj
      ·exact hsA
      ·have:=(HLRL.out j hj.symm).1;have:=HW13.out.2;omega))).but (fun _ _ h=>h)
     have hlK:XA<wK.heap.size:=(gl hbx)
     have HVU:=hid hv
     have HPaK:=hid hp
     have HBoK:=hid hb1
     have HBXK:=hid hbx
     have HGRK:=hid hgr
     have HLRK:=hid hlr
     have HSZK:Hid (W3.heap.size<=wK.heap.size):=hid (lT HW3V5.out hbo.size)
     have hle:(Qa E (Ql Qb g) st4).len<=st2.len:=lT (len_le E (F:=Ql Qb g) (fun _ _ _ h=>Nat.le_of_lt (ZT g _ _ _ h)) st4) HLE5.out
     have HPC:Hid (Qa E (QX Qb (Ql Qb g)) st2=Qa E (Ql Qb g) st4):=hid (by rw[(Xx E (Ql Qb g) st2).1,HST4.out])
     obtain⟨st5,hst5⟩:∃st5,Qa E (Ql Qb g) st4=st5:=⟨_,rfl⟩
     rw[hst5] at HPaK HPC hle
     have HLE:=hid hle
     clear hv hp hbo hbx hgr hlr hb1 hle hst5 HBXF HLRF HBXO HLR5 HGR5 HBX5 HBo5 HPa5 HGRL HLRL
     have hg2:0<g2:=Nat.lt_of_le_of_lt (Nat.zero_le _) HLL.out.fuel
     obtain⟨g3,rfl⟩:∃g3,g2=g3+1:=⟨g2-1,by omega⟩
     have HNMV:Hid (∀y,Qj (Qk Qb) st2=some y->nm=y):=hid HNM.out.2
     have HUV:Hid (∀y,Qj (Ql Qb g) (Qa E (need QB) (Qa E (Qk Qb) st2))=some y->u=y):=hid (by rw[HST4.out];exact HVU.out)
     have HLZ':Hid (∀s∈ls++[nm],s.size<=maxLen):=hid (fun s hs=>by
      rcases List.mem_append.1 hs with h|h
      ·exact HLZ.out s h
      ·rw[mS h];exact HNM.out.1)
     obtain⟨t1,ht1⟩:∃t1,Qi st5=t1:=⟨_,rfl⟩
     have HT1:=hid ht1
     cases hq:stHd QG st5 with
     |true=>
      have k0:(t1.toList==[44])=true:=by rw[<-ht1];exact Qt hq
      have k1:(t1.toList != [44])=false:=by rw[bne,k0];rfl
      have hnl:=JQ E hq
      have hmore:=HLL.out.more HNMV.out HUV.out (by rw[HPC.out];exact hq) (by rw[HPC.out];have:=HLE.out;have:=HLL.out.fuel;omega)
      rw[HPC.out] at hmore
      have HMORE:=hid hmore
      have HNL:=hid hnl
      clear hmore hnl ht1 hq
      go_wp2_with (first|(go_at_call 58;refine(Qw R _ all E _ _ HPaK.out).mono ?_;rw[HT1.out];rintro en w7⟨rfl,hb⟩;have HB7:=hid hb;have HP7:=hid (HPaK.out.to hb);clear hb)|(go_at_call 59;refine(QD R _ all E _ (by decide+kernel) _ _ HP7.out).mono ?_;rintro en w8⟨rfl,hp,hb⟩;have HP8:Hid (RdIs R la all E (Qa E (need QG) st5) w8):=hid hp;have HB8:=hid ((But.of HB7.out).trans hb);clear hp hb))
      go_roundw
      ·exact⟨ls++[nm],us++[u],vs',ga,gn,gc,ha,hn',hc',g3,_,hid ((HB8.out.block XA hlK hnA).trans HBXK.out),hid (HGRK.out.kept (fun j hj=>HB8.out.block j (HGRK.out.lt j hj).2 (by have:=(HGRK.out.lt j hj).1;omega))),hid (HLRK.out.frame lyTy (HB8.out.o _) hR3 (fun k hk=> .inl hk)),HP8,hid (HBoK.out.trans HB8.out),HMORE,HLZ',hid (by have:=HLN.out;have:=HLE.out;have:=HNL.out;rw[List.length_append,List.length_singleton];omega),hid (by have:=HLG.out;have:=HLE.out;have:=HNL.out;omega),hid (lT HSZK.out HB8.out.size)⟩
      ·rw[HP8.out.lenW,HLENV.out]
       have:=HLE.out
       have:=HNL.out
       omega
     |false=>
      have k0:(t1.toList==[44])=false:=by rw[<-ht1];exact Qt hq
      have k1:(t1.toList != [44])=true:=by rw[bne,k0];rfl
      have hlast:=HLL.out.last HNMV.out HUV.out (by rw[HPC.out];exact hq)
      have HEND:=hid (hlast.1.trans HPC.out)
      have HVL:=hid hlast.2
      have HUS:Hid ((ls++[nm]).length=(us++[u]).length):=hid (by simp[HLL.out.len])
      have HLSZn:Hid ((ls++[nm]).length<=1000002):=hid (by have:=HLSZ.out;rw[List.length_append,List.length_singleton];omega)
      clear hlast ht1 hq HLSZ HLZ hlv
      have HLSZ:=HLSZn
      have HLZ:=HLZ'
      go_upto_region 9 with(go_at_call 58;refine(Qw R _ all E _ _ HPaK.out).mono ?_;rw[HT1.out];rintro en w7⟨rfl,hb⟩;have HPa:=hid (HPaK.out.to hb);have HBo:=hid (HBoK.out.to hb);have HBOX:=hid ((hb.block XA hlK).trans HBXK.out);have HGR:=hid (HGRK.out.to hb);have HLR:=hid (HLRK.out.frame lyTy ((But.of (P:=R) hb).o _) hR3 (O':=Jt XA (.slice ga gn gc)) (fun k hk=> .inl hk));have hlv:=lL hlK hb.size;clear hb)
      go_upto_region 10 with(go_at_call 59;refine(QD R _ all E _ (by decide+kernel) _ _ HPa.out).mono ?_;rintro en wz⟨rfl,hp,hb⟩;have HP:=hid hp;have HD:=hid hb;have HB:=hid (HBo.out.trans hb);clear hp hb)
      have hx3:=(HD.out.block XA hlv hnA).trans HBOX.out
      obtain⟨⟨d0,d1,d2,d3,d4,d5⟩,-⟩:=c6 hx3
      clear hx3
      have hx9:Blk wz w.heap.size z6 28:=(HB.out.block w.heap.size hs1 (Nat.ne_of_gt hR)).trans HX1.out
      obtain⟨⟨q0,q1,q2,q3,q4,q5⟩,z0,z1,z2,z3,z4,z5⟩:=c6 hx9
      have HX9:=hid hx9
      clear hx9
      go_wp2_with fail
      have hgr:GRow 9 1 W3.heap.size wz (.slice ga gn gc) ((ls++[nm]).map Jc):=HGR.out.kept (fun j hj=>HD.out.block j (HGR.out.lt j hj).2 (by have:=(HGR.out.lt j hj).1;omega))
      have hlr:=HLR.out.frame lyTy (HD.out.o _) hR3 (O':=fun _=>False) (fun _ h=>h.elim)
      have hlen:=HLSZ.out
      have hlus:=HUS.out
      have hty:GTy W3.heap.size wz (.mk k pr ⟨#[]⟩ 0 (ls++[nm]) (us++[u])) (.agg #[.int .i64 k,.int .i64 pr,.string ⟨#[]⟩,.int .i64 0,.slice ga gn gc,.slice ha hn' hc']):=GTy.node (Nat.zero_le _) (StrSl.mono (fun j hj=>⟨hj.1,hj.2.1⟩) (hgr.texts (by unfold maxLen;omega) HLZ.out)) (TySl.mono (fun j hj=>⟨hj.1,hj.2.1⟩) (hlr.tys (by unfold maxLen;omega)))
      have HPn:Hid (RdIs R la all E (Qa E (need sKet) (Qa E (QP (QX Qb (Ql Qb g)) g) st0)) wz):=hid (by rw[HEND.out];exact HP.out)
      clear HP
      have HP:=HPn
      have hx8:=ZB HX9.out (.int .i64 k) (.int .i64 pr) tE iZ (.slice ga gn gc) (.slice ha hn' hc')
      obtain⟨⟨y0,y1,y2,y3,y4,y5⟩,-⟩:=c6 hx8
      refine bodyPost_ret (v:= .agg #[.int .i64 k,.int .i64 pr,.string ⟨#[]⟩,.int .i64 0,.slice ga gn gc,.slice ha hn' hc']) (by simp[results,Tryz.results102,go_sem,y0,y1,y2,y3,y4,y5]) rfl ?_
      refine⟨⟨_,Ty.mk k pr ⟨#[]⟩ 0 (ls++[nm]) (us++[u]),rfl,(hty.put6 (by omega) (.int .i64 k) (.int .i64 pr) tE iZ (.slice ga gn gc) (.slice ha hn' hc')).mono (by omega),fun y hy=>by obtain⟨p',l,h1,h2,rfl⟩:=HE.out y hy;rw[HVpr.out p' h1,(HVL.out l h2).1,(HVL.out l h2).2]⟩,HP.out.put6 hR HLA.out (.int .i64 k) (.int .i64 pr) tE iZ (.slice ga gn gc) (.slice ha hn' hc'),((But.of HB1.out).trans HB.out).put6 lR (.int .i64 k) (.int .i64 pr) tE iZ (.slice ga gn gc) (.slice ha hn' hc')⟩
end Go.Proofs.YtmnbheplkidfaaaGreatDoor
