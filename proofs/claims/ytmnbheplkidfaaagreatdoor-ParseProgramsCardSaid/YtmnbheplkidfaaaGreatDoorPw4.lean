/- Parsing: lists of elements. (and what follows from it) -/
import Derived.Test.YtmnbheplkidfaaaGreatDoorPw3
set_option maxHeartbeats 16000000
set_option maxRecDepth 100000
namespace Go.Proofs.YtmnbheplkidfaaaGreatDoor
open Go.Lib (hid)
open Go.RowKit Go.Deep Go.Shelf
theorem TyVal.open6{B:Nat->Prop}{w:World}{t:Ty}{v:Value}(h:TyVal B w v t):∃la ln lc ka kn kc,v= .agg (cT t la ln lc ka kn kc):=by
 obtain⟨lv,kv,rfl,_,hl,hk⟩:=h
 obtain⟨la,ln,lc,rfl,_⟩:=hl.open
 obtain⟨ka,kn,kc,rfl,_⟩:=hk.open
 exact⟨_,_,_,_,_,_,rfl⟩
theorem PmVal.open7{B:Nat->Prop}{w:World}{t:Pm}{v:Value}(h:PmVal B w v t):∃la ln lc ka kn kc,v= .agg #[.string t.n,.int .i64 t.t.k,.int .i64 t.t.p,.string t.t.n,.int .i64 t.t.s,.slice la ln lc,.slice ka kn kc]:=by
 obtain⟨tl,tk,rfl,_,ht⟩:=h
 obtain⟨la,ln,lc,ka,kn,kc,rfl,rfl⟩:=ht.slices
 exact⟨_,_,_,_,_,_,rfl⟩
theorem Nw:Yt 26 28 6:=UD Tryz.underlying26 (z:= .agg z6) (bytes:=88) (by kernel_rfl) (by decide) rfl (by decide)
theorem VU{γ:Type}(P tb:Nat)(E:Int)(ts:List Tk)(B:Nat)(w:World)(he:Env B w)(hBP:B<=P)(h:PaIs P tb E ts w)(f:Nat)(bs cs:Array Value)(eg:∀args w,(callFunc f args).run Tryz.prog w= .ok (.enter f args) w)
 (Fg:List Tk->PR γ) (pr:γ->Ty) (St:List γ->World->Prop) (Ow:World->Nat->Prop) (n:Nat) (hn:ts.length<n) (hF:XG P tb E B f bs cs Fg pr (fun B w v t=>TyVal B w v t) St Ow n) (hN:Noted St Ow P) (hS:Qr Fg) (g:Nat) (hg:ts.length<g) (hst:St [] w) (hOB:∀k,Ow w k->B<=k):
 Calls Tryz.prog 144 #[.pointer (some ⟨P,0,none⟩),.func (.func f) bs cs] w (ZL P tb E w (QP Fg g ts) (fun w' xs v=>TySl (fun k=>w.heap.size<=k/\k<w'.heap.size/\¬Ow w' k) w' v (xs.map pr)) St Ow):=by
 obtain⟨g,rfl⟩:∃g',g=g'+1:=⟨g-1,by omega⟩
 have hP:P<w.heap.size:=h.lt
 have htl:tb<w.heap.size:=h.tlt
 have hlen:ts.length<=1000000:=h.choose_spec.choose_spec.2.2.2.2.1
 have HF:=hid hF
 have HN:=hid hN
 have HS:=hid hS
 have HE:=hid he
 have HP:=hid h
 have HST:=hid hst
 have HOB:=hid hOB
 rw[Zh]
 clear hF hN hS he h hst hOB
 cases h1:Fg ts with
 |bad er r=>
  show Calls _ _ _ _ (ZL P tb E w (PR.bad er r) _ St Ow)
  go_enter Tryz.func144,Tryz.ntmps144
  go_wp2_with fail
  refine(HF.out [] ts w hn (Nat.zero_le _) HE.out HP.out HST.out).mono ?_
  rw[h1]
  rintro e w1⟨rfl,hb1⟩
  exact⟨rfl,rfl,hb1⟩
 |ok x r=>
  have hlr:r.length<ts.length:=HS.out _ _ _ h1
  show Calls _ _ _ _ (ZL P tb E w ((Jk Fg g r).bind fun l r=> .ok (x::l) r) _ St Ow)
  go_enter Tryz.func144,Tryz.ntmps144
  go_wp2_with fail
  refine(HF.out [] ts w hn (Nat.zero_le _) HE.out HP.out HST.out).mono ?_
  rw[h1]
  rintro e w1⟨⟨v,rfl,hv⟩,hp1,hs1,hb1,ho1⟩
  obtain⟨t,ht⟩:∃t,pr x=t:=⟨_,rfl⟩
  rw[ht] at hv
  obtain⟨la,ln,lc,ka,kn,kc,rfl⟩:=TyVal.open6 hv
  have HV:=hid hv
  have HP1:=hid hp1
  have HS1:=hid hs1
  have HB1:=hid hb1
  have HO1:=hid ho1
  have HT:=hid ht
  clear hv hp1 hs1 hb1 ho1 ht h1
  go_wp2_with fail
  obtain⟨W2,hW2⟩:∃W2,w1.alloc (.cells (cT t la ln lc ka kn kc) 28)=W2:=⟨_,rfl⟩
  have hb2:=(made hW2).1
  have hst2:=HN.out.to HS1.out hb2
  have hrow:LRow 28 6 w.heap.size (fun B w v t=>TyVal B w v t) (Ow W2) W2 (.slice (some ⟨w1.heap.size,0,none⟩) 1 1) [.agg (cT t la ln lc ka kn kc)] [pr x]:=by
   have h:=LRow.one (el:=28) lyTy (x:=pr x) (O:=Ow w1) (by rw[HT.out];exact HV.out) (fun k hk=>(HN.out.lt HS1.out hk).1) HB1.out.size
   have e:w1.alloc (.cells (cl (.agg (cT t la ln lc ka kn kc))).toArray 28)=W2:=hW2
   rw[e] at h
   exact LRow.reO lyTy h (fun k hk=>(hst2.2 k).1 hk)
  rw[hW2]
  have HR2:=hid hrow
  have HST2:=hid hst2
  have HB2:=hid hb2
  clear hrow hst2 hb2 hW2
  go_loopw [5] (fun l wr=>∃(xs:List γ) (rs:List Tk) (vs:List Value) (la:Option Addr) (ln lc:Nat) (g2:Nat),l= .slice la ln lc/\Hid (LRow 28 6 w.heap.size (fun B w v t=>TyVal B w v t) (Ow wr) wr (.slice la ln lc) vs (xs.map pr))/\Hid (PaIs P tb E rs wr)/\Hid (St xs wr)/\Hid (ButO P (Ow w) w wr)/\Hid (∀k,Ow wr k->Ow w k\/w.heap.size<=k)/\Hid (((Jk Fg g r).bind fun l r=> .ok (x::l) r)=(Jk Fg g2 rs).bind fun l r=> .ok (xs++l) r)/\Hid (rs.length<g2)/\Hid (xs.length+rs.length<=1000000)/\Hid (rs.length<n)) (fun _ wr=>Nh P wr)
  case atStart=>
   refine⟨[x],r,_,_,_,_,g,rfl,HR2,hid (HP1.out.to HB2.out),hid HST2.out.1,hid (HB1.out.to HB2.out),hid (fun k hk=>HO1.out k ((HST2.out.2 k).1 hk)),hid ?_,hid (by omega),hid (by simp;omega),hid (by omega)⟩
   rfl
  case round=>
   obtain⟨xs,rs,vs,ra,rn,rc,g2,rfl,HR,HPa,HSt,HBo,HOw,HEq,HG2,HLn,HLt⟩:=hrel
   clear HR2 HST2 HB2 HP1 HS1 HB1 HO1
   rename World=>V0
   cases hc:hd QG rs with
   |false=>
    go_wp2_with (go_at_call 50;refine(Zm P tb E _ (by decide+kernel) _ _ (by assumption) HPa.out).mono ?_;rintro en w3⟨rfl,hp3,hb3⟩;have HP3:=hid hp3;have HB3:=hid hb3;clear hp3 hb3)
    go_ret
    have hfin:((Jk Fg g r).bind fun l r=> .ok (x::l) r)= .ok xs rs:=by
     rw[HEq.out,Jk,if_neg (by rw[hc];simp)]
     show PR.ok (xs++[]) rs=_
     rw[List.append_nil]
    rw[hfin]
    have hst:=HN.out.but HSt.out HB3.out
    have hrow:=HR.out.frame lyTy (O':=Ow w3) (HB3.out.o _) hP (fun k hk=> .inl ((hst.2 k).1 hk))
    have hml:=HLn.out
    refine⟨⟨_,rfl,hrow.tys (by rw[List.length_map];unfold maxLen;omega)⟩,HP3.out,hst.1,HBo.out.trans (HB3.out.o (fun _=>False)) (fun _ h=>h.elim),fun k hk=>HOw.out k ((hst.2 k).1 hk)⟩
   |true=>
    have hrt:rs.tail.length<rs.length:=QH hc
    have hg2:=HG2.out
    obtain⟨g3,rfl⟩:∃g',g2=g'+1:=⟨g2-1,by omega⟩
    have heq:((Jk Fg g r).bind fun l r=> .ok (x::l) r)=((Fg rs.tail).bind fun x r=>(Jk Fg g3 r).bind fun l r=> .ok (x::l) r).bind fun l r=> .ok (xs++l) r:=by
     rw[HEq.out,Jk,if_pos hc,Zh]
    have HEQ2:=hid heq
    have HLEFT:=hid HPa.out.left
    clear heq
    go_wp2_with (go_at_call 50;refine(JJ P tb E _ (by decide+kernel) _ _ (by assumption) HPa.out).mono ?_;rintro en w3⟨rfl,hp3,hb3⟩;have HP3:=hid hp3;have HB3:=hid hb3;clear hp3 hb3)
    have hst3:=HN.out.but HSt.out HB3.out
    have hrow3:=HR.out.frame lyTy (O':=Ow w3) (HB3.out.o _) hP (fun k hk=> .inl ((hst3.2 k).1 hk))
    have hbo3:ButO P (Ow w) w w3:=HBo.out.trans (HB3.out.o (fun _=>False)) (fun _ h=>h.elim)
    have how3:∀k,Ow w3 k->Ow w k\/w.heap.size<=k:=fun k hk=>HOw.out k ((hst3.2 k).1 hk)
    have henv3:Env B w3:=HE.out.below (hbo3.below hBP (fun k hk=>HOB.out k hk) (lT hBP (Nat.le_of_lt hP)))
    have hln3:=HLn.out
    have hlt3:=HLt.out
    refine(HF.out xs rs.tail w3 (by omega) (by omega) henv3 HP3.out hst3.1).mono ?_
    cases h4:Fg rs.tail with
    |bad er r4=>
     rintro e w4⟨rfl,hb4⟩
     dsimp only
     have e5:((Jk Fg g r).bind fun l r=> .ok (x::l) r)=PR.bad er r4:=by rw[HEQ2.out,h4];rfl
     exact⟨rfl,by rw[e5];exact⟨rfl,hbo3.trans hb4 (fun k hk=>how3 k hk)⟩⟩
    |ok x4 r4=>
     have hl4:r4.length<rs.tail.length:=HS.out _ _ _ h4
     rintro e w4⟨⟨v,rfl,hv⟩,hp4,hs4,hb4,ho4⟩
     obtain⟨t,ht⟩:∃t,pr x4=t:=⟨_,rfl⟩
     rw[ht] at hv
     obtain⟨la,ln,lc,ka,kn,kc,rfl⟩:=TyVal.open6 hv
     have hrow4:=hrow3.frame lyTy (O':=Ow w4) hb4 hP ho4
     have hbo4:ButO P (Ow w) w w4:=hbo3.trans hb4 (fun k hk=>how3 k hk)
     have how4:∀k,Ow w4 k->Ow w k\/w.heap.size<=k:=fun k hk=>(ho4 k hk).elim (how3 k) (fun h=> .inr (lT hbo3.size h))
     obtain⟨W5,hW5⟩:∃W5,w4.alloc (.cells (cT t la ln lc ka kn kc) 28)=W5:=⟨_,rfl⟩
     have hb5:=(made hW5).1
     have x5:=(made hW5).2
     have hst5:=HN.out.to hs4 hb5
     have hrow5:=hrow4.frame lyTy (O':=Ow W5) ((But.of (P:=P) hb5).o _) hP (fun k hk=> .inl ((hst5.2 k).1 hk))
     have hv5:(fun B w v t=>TyVal B w v t) (fun k=>w.heap.size<=k/\k<W5.heap.size/\¬Ow W5 k/\some k≠(Value.slice ra rn rc).ownBlock) W5 (.agg (cT t la ln lc ka kn kc)) (pr x4):=by
      rw[ht]
      refine lyTy.mono (fun k hk=>?_) (lyTy.keep (w':=W5) (fun k o hk ho _=>(hb5.block k hk.2.1).trans ho) hv)
      have hq:=fun j hj=>(hrow3.row.lt j hj).2
      exact⟨lT hbo3.size hk.1,lL hk.2.1 hb5.size,fun e=>hk.2.2 ((hst5.2 k).1 e),fun e=>by have:=hq k e.symm;have:=hk.1;omega⟩
     have hvl:vs.length<=1000000:=by have:=hrow3.len;rw[List.length_map] at this;omega
     have HR5:=hid hrow5
     have HV5:=hid hv5
     have HST5:=hid hst5
     have HBO5:=hid (hbo4.to hb5)
     have HOW5:Hid (∀k,Ow W5 k->Ow w k\/w.heap.size<=k):=hid (fun k hk=>how4 k ((hst5.2 k).1 hk))
     have HP5:=hid (hp4.to hb5)
     have HX5:=hid x5
     have HW5:=hid hW5
     have H4:=hid h4
     have HVL:=hid hvl
     have HZ5:Hid (w.heap.size<=W5.heap.size):=hid HBO5.out.size
     clear hv hp4 hs4 hb4 ho4 ht h4 hrow3 hrow4 hrow5 hst3 hst5 hbo3 hbo4 how3 how4 hb5 x5 hv5 henv3 hln3 hlt3 hW5 hvl HR HPa HSt HBo HOw HEq HP3 HB3
     go_wp2_with (rw[HW5.out];at_builtin;refine Ji Nw rfl _ _ rfl rfl HR5.out.row (some ⟨w4.heap.size,0,none⟩) 1 1 [[.int .i64 t.k,.int .i64 t.p,.string t.n,.int .i64 t.s,.slice la ln lc,.slice ka kn kc]] rfl rfl ?_ (JY HX5.out) ?_ ?_ HZ5.out ?_)
     ·intro e he;rw[mS he];rfl
     ·intro e he u hu;rw[mS he] at hu;exact lyTy.one HV5.out u hu
     ·rw[List.length_map,List.length_singleton];have:=HVL.out;omega
     intro ga gn gc w6 hr6 hg6 hq6
     have hst6:=HN.out.grown HST5.out.1 hg6 (fun k hk e=>HR5.out.out k e.symm hk)
     have hrow6:=HR5.out.grow lyTy HV5.out hr6 hg6 hq6 (fun k hk=>(HN.out.lt HST5.out.1 hk).1)
     have hbo6:ButO P (Ow w) w w6:=HBO5.out.trans (ButO.grown hg6 P) (fun k hk=> .inr (HR5.out.row.lt k hk.symm).1)
     have hp6:PaIs P tb E r4 w6:=HP5.out.grown hg6 (fun e=>by have:=(HR5.out.row.lt P e.symm).1;omega) (fun e=>by have:=(HR5.out.row.lt tb e.symm).1;omega)
     have HR6:=hid hrow6
     have HST6:=hid hst6
     have HBO6:=hid hbo6
     have HP6:=hid hp6
     clear hr6 hg6 hq6 hst6 hrow6 hbo6 hp6
     go_wp2_with fail
     go_roundw
     case rel=>
      have h1:=HG2.out
      have h2:=HLn.out
      have h3:=HLt.out
      refine⟨xs++[x4],r4,vs++[.agg (cT t la ln lc ka kn kc)],_,_,_,g3,rfl,hid ?_,HP6,hid HST6.out.1,HBO6,hid (fun k hk=>HOW5.out k ((HST6.out.2 k).1 hk)),hid ?_,hid (by omega),hid (by simp;omega),hid (by omega)⟩
      ·rw[List.map_append];exact LRow.reO lyTy HR6.out (fun k hk=>(HST6.out.2 k).1 hk)
      ·rw[HEQ2.out,H4.out]
       show PR.bind (PR.bind (Jk Fg g3 r4) _) _=_
       cases Jk Fg g3 r4 with
       |bad e r=>rfl
       |ok l r=>show PR.ok (xs++(x4::l)) r=PR.ok (xs++[x4]++l) r;simp
     case measure=>
      rw[HP6.out.left,HLEFT.out];omega
theorem Yv:Yt 29 31 12:=UD Tryz.underlying29 (z:= .agg (cN 0 ⟨#[]⟩ ⟨#[]⟩ sN sN sN)) (bytes:=200) (by kernel_rfl) (by decide) rfl (by decide)
theorem VV{γ:Type}(P tb:Nat)(E:Int)(ts:List Tk)(B:Nat)(w:World)(he:Env B w)(hBP:B<=P)(h:PaIs P tb E ts w)(f:Nat)(bs cs:Array Value)(eg:∀args w,(callFunc f args).run Tryz.prog w= .ok (.enter f args) w)
 (Fg:List Tk->PR γ) (pr:γ->Pr) (St:List γ->World->Prop) (Ow:World->Nat->Prop) (n:Nat) (hn:ts.length<n) (hF:XG P tb E B f bs cs Fg pr (fun B w v p=>PrVal B w v p) St Ow n) (hN:Noted St Ow P) (hS:Qr Fg) (g:Nat) (hg:ts.length<g) (hst:St [] w) (hOB:∀k,Ow w k->B<=k):
 Calls Tryz.prog 151 #[.pointer (some ⟨P,0,none⟩),.func (.func f) bs cs] w (ZL P tb E w (QP Fg g ts) (fun w' xs v=>PrSl (fun k=>w.heap.size<=k/\k<w'.heap.size/\¬Ow w' k) w' v (xs.map pr)) St Ow):=by
 obtain⟨g,rfl⟩:∃g',g=g'+1:=⟨g-1,by omega⟩
 have hP:P<w.heap.size:=h.lt
 have htl:tb<w.heap.size:=h.tlt
 have hlen:ts.length<=1000000:=h.choose_spec.choose_spec.2.2.2.2.1
 have HF:=hid hF
 have HN:=hid hN
 have HS:=hid hS
 have HE:=hid he
 have HP:=hid h
 have HST:=hid hst
 have HOB:=hid hOB
 rw[Zh]
 clear hF hN hS he h hst hOB
 cases h1:Fg ts with
 |bad er r=>
  show Calls _ _ _ _ (ZL P tb E w (PR.bad er r) _ St Ow)
  go_enter Tryz.func151,Tryz.ntmps151
  go_wp2_with fail
  refine(HF.out [] ts w hn (Nat.zero_le _) HE.out HP.out HST.out).mono ?_
  rw[h1]
  rintro e w1⟨rfl,hb1⟩
  exact⟨rfl,rfl,hb1⟩
 |ok x r=>
  have hlr:r.length<ts.length:=HS.out _ _ _ h1
  show Calls _ _ _ _ (ZL P tb E w ((Jk Fg g r).bind fun l r=> .ok (x::l) r) _ St Ow)
  go_enter Tryz.func151,Tryz.ntmps151
  go_wp2_with fail
  refine(HF.out [] ts w hn (Nat.zero_le _) HE.out HP.out HST.out).mono ?_
  rw[h1]
  rintro e w1⟨⟨v,rfl,hv⟩,hp1,hs1,hb1,ho1⟩
  obtain⟨t,ht⟩:∃t,pr x=t:=⟨_,rfl⟩
  rw[ht] at hv
  obtain⟨la,ln,lc,aa,an,ac,ta,tn,tc,ua,un,uc,ka,kn,kc,rfl⟩:=PrVal.open hv
  have HV:=hid hv
  have HP1:=hid hp1
  have HS1:=hid hs1
  have HB1:=hid hb1
  have HO1:=hid ho1
  have HT:=hid ht
  clear hv hp1 hs1 hb1 ho1 ht h1
  go_wp2_with fail
  obtain⟨W2,hW2⟩:∃W2,w1.alloc (.cells (gP t la ln lc aa an ac ta tn tc ua un uc ka kn kc) 31)=W2:=⟨_,rfl⟩
  have hb2:=(made hW2).1
  have hst2:=HN.out.to HS1.out hb2
  have hrow:LRow 31 12 w.heap.size (fun B w v p=>PrVal B w v p) (Ow W2) W2 (.slice (some ⟨w1.heap.size,0,none⟩) 1 1) [.agg (gP t la ln lc aa an ac ta tn tc ua un uc ka kn kc)] [pr x]:=by
   have h:=LRow.one (el:=31) lyPr (x:=pr x) (O:=Ow w1) (by rw[HT.out];exact HV.out) (fun k hk=>(HN.out.lt HS1.out hk).1) HB1.out.size
   have e:w1.alloc (.cells (cl (.agg (gP t la ln lc aa an ac ta tn tc ua un uc ka kn kc))).toArray 31)=W2:=hW2
   rw[e] at h
   exact LRow.reO lyPr h (fun k hk=>(hst2.2 k).1 hk)
  rw[hW2]
  have HR2:=hid hrow
  have HST2:=hid hst2
  have HB2:=hid hb2
  clear hrow hst2 hb2 hW2
  go_loopw [5] (fun l wr=>∃(xs:List γ) (rs:List Tk) (vs:List Value) (la:Option Addr) (ln lc:Nat) (g2:Nat),l= .slice la ln lc/\Hid (LRow 31 12 w.heap.size (fun B w v p=>PrVal B w v p) (Ow wr) wr (.slice la ln lc) vs (xs.map pr))/\Hid (PaIs P tb E rs wr)/\Hid (St xs wr)/\Hid (ButO P (Ow w) w wr)/\Hid (∀k,Ow wr k->Ow w k\/w.heap.size<=k)/\Hid (((Jk Fg g r).bind fun l r=> .ok (x::l) r)=(Jk Fg g2 rs).bind fun l r=> .ok (xs++l) r)/\Hid (rs.length<g2)/\Hid (xs.length+rs.length<=1000000)/\Hid (rs.length<n)) (fun _ wr=>Nh P wr)
  case atStart=>
   refine⟨[x],r,_,_,_,_,g,rfl,HR2,hid (HP1.out.to HB2.out),hid HST2.out.1,hid (HB1.out.to HB2.out),hid (fun k hk=>HO1.out k ((HST2.out.2 k).1 hk)),hid ?_,hid (by omega),hid (by simp;omega),hid (by omega)⟩
   rfl
  case round=>
   obtain⟨xs,rs,vs,ra,rn,rc,g2,rfl,HR,HPa,HSt,HBo,HOw,HEq,HG2,HLn,HLt⟩:=hrel
   clear HR2 HST2 HB2 HP1 HS1 HB1 HO1
   rename World=>V0
   cases hc:hd QG rs with
   |false=>
    go_wp2_with (go_at_call 50;refine(Zm P tb E _ (by decide+kernel) _ _ (by assumption) HPa.out).mono ?_;rintro en w3⟨rfl,hp3,hb3⟩;have HP3:=hid hp3;have HB3:=hid hb3;clear hp3 hb3)
    go_ret
    have hfin:((Jk Fg g r).bind fun l r=> .ok (x::l) r)= .ok xs rs:=by
     rw[HEq.out,Jk,if_neg (by rw[hc];simp)]
     show PR.ok (xs++[]) rs=_
     rw[List.append_nil]
    rw[hfin]
    have hst:=HN.out.but HSt.out HB3.out
    have hrow:=HR.out.frame lyPr (O':=Ow w3) (HB3.out.o _) hP (fun k hk=> .inl ((hst.2 k).1 hk))
    have hml:=HLn.out
    refine⟨⟨_,rfl,hrow.prs (by rw[List.length_map];unfold maxLen;omega)⟩,HP3.out,hst.1,HBo.out.trans (HB3.out.o (fun _=>False)) (fun _ h=>h.elim),fun k hk=>HOw.out k ((hst.2 k).1 hk)⟩
   |true=>
    have hrt:rs.tail.length<rs.length:=QH hc
    have hg2:=HG2.out
    obtain⟨g3,rfl⟩:∃g',g2=g'+1:=⟨g2-1,by omega⟩
    have heq:((Jk Fg g r).bind fun l r=> .ok (x::l) r)=((Fg rs.tail).bind fun x r=>(Jk Fg g3 r).bind fun l r=> .ok (x::l) r).bind fun l r=> .ok (xs++l) r:=by
     rw[HEq.out,Jk,if_pos hc,Zh]
    have HEQ2:=hid heq
    have HLEFT:=hid HPa.out.left
    clear heq
    go_wp2_with (go_at_call 50;refine(JJ P tb E _ (by decide+kernel) _ _ (by assumption) HPa.out).mono ?_;rintro en w3⟨rfl,hp3,hb3⟩;have HP3:=hid hp3;have HB3:=hid hb3;clear hp3 hb3)
    have hst3:=HN.out.but HSt.out HB3.out
    have hrow3:=HR.out.frame lyPr (O':=Ow w3) (HB3.out.o _) hP (fun k hk=> .inl ((hst3.2 k).1 hk))
    have hbo3:ButO P (Ow w) w w3:=HBo.out.trans (HB3.out.o (fun _=>False)) (fun _ h=>h.elim)
    have how3:∀k,Ow w3 k->Ow w k\/w.heap.size<=k:=fun k hk=>HOw.out k ((hst3.2 k).1 hk)
    have henv3:Env B w3:=HE.out.below (hbo3.below hBP (fun k hk=>HOB.out k hk) (lT hBP (Nat.le_of_lt hP)))
    have hln3:=HLn.out
    have hlt3:=HLt.out
    refine(HF.out xs rs.tail w3 (by omega) (by omega) henv3 HP3.out hst3.1).mono ?_
    cases h4:Fg rs.tail with
    |bad er r4=>
     rintro e w4⟨rfl,hb4⟩
     dsimp only
     have e5:((Jk Fg g r).bind fun l r=> .ok (x::l) r)=PR.bad er r4:=by rw[HEQ2.out,h4];rfl
     exact⟨rfl,by rw[e5];exact⟨rfl,hbo3.trans hb4 (fun k hk=>how3 k hk)⟩⟩
    |ok x4 r4=>
     have hl4:r4.length<rs.tail.length:=HS.out _ _ _ h4
     rintro e w4⟨⟨v,rfl,hv⟩,hp4,hs4,hb4,ho4⟩
     obtain⟨t,ht⟩:∃t,pr x4=t:=⟨_,rfl⟩
     rw[ht] at hv
     obtain⟨la,ln,lc,aa,an,ac,ta,tn,tc,ua,un,uc,ka,kn,kc,rfl⟩:=PrVal.open hv
     have hrow4:=hrow3.frame lyPr (O':=Ow w4) hb4 hP ho4
     have hbo4:ButO P (Ow w) w w4:=hbo3.trans hb4 (fun k hk=>how3 k hk)
     have how4:∀k,Ow w4 k->Ow w k\/w.heap.size<=k:=fun k hk=>(ho4 k hk).elim (how3 k) (fun h=> .inr (lT hbo3.size h))
     obtain⟨W5,hW5⟩:∃W5,w4.alloc (.cells (gP t la ln lc aa an ac ta tn tc ua un uc ka kn kc) 31)=W5:=⟨_,rfl⟩
     have hb5:=(made hW5).1
     have x5:=(made hW5).2
     have hst5:=HN.out.to hs4 hb5
     have hrow5:=hrow4.frame lyPr (O':=Ow W5) ((But.of (P:=P) hb5).o _) hP (fun k hk=> .inl ((hst5.2 k).1 hk))
     have hv5:(fun B w v p=>PrVal B w v p) (fun k=>w.heap.size<=k/\k<W5.heap.size/\¬Ow W5 k/\some k≠(Value.slice ra rn rc).ownBlock) W5 (.agg (gP t la ln lc aa an ac ta tn tc ua un uc ka kn kc)) (pr x4):=by
      rw[ht]
      refine lyPr.mono (fun k hk=>?_) (lyPr.keep (w':=W5) (fun k o hk ho _=>(hb5.block k hk.2.1).trans ho) hv)
      have hq:=fun j hj=>(hrow3.row.lt j hj).2
      exact⟨lT hbo3.size hk.1,lL hk.2.1 hb5.size,fun e=>hk.2.2 ((hst5.2 k).1 e),fun e=>by have:=hq k e.symm;have:=hk.1;omega⟩
     have hvl:vs.length<=1000000:=by have:=hrow3.len;rw[List.length_map] at this;omega
     have HR5:=hid hrow5
     have HV5:=hid hv5
     have HST5:=hid hst5
     have HBO5:=hid (hbo4.to hb5)
     have HOW5:Hid (∀k,Ow W5 k->Ow w k\/w.heap.size<=k):=hid (fun k hk=>how4 k ((hst5.2 k).1 hk))
     have HP5:=hid (hp4.to hb5)
     have HX5:=hid x5
     have HW5:=hid hW5
     have H4:=hid h4
     have HVL:=hid hvl
     have HZ5:Hid (w.heap.size<=W5.heap.size):=hid HBO5.out.size
     clear hv hp4 hs4 hb4 ho4 ht h4 hrow3 hrow4 hrow5 hst3 hst5 hbo3 hbo4 how3 how4 hb5 x5 hv5 henv3 hln3 hlt3 hW5 hvl HR HPa HSt HBo HOw HEq HP3 HB3
     go_wp2_with (rw[HW5.out];at_builtin;refine Ji Yv rfl _ _ rfl rfl HR5.out.row (some ⟨w4.heap.size,0,none⟩) 1 1 [[.int .i64 t.k,.string t.c,.string t.x,.slice la ln lc,.slice aa an ac,.int .i64 t.t.k,.int .i64 t.t.p,.string t.t.n,.int .i64 t.t.s,.slice ta tn tc,.slice ua un uc,.slice ka kn kc]] rfl rfl ?_ (JY HX5.out) ?_ ?_ HZ5.out ?_)
     ·intro e he;rw[mS he];rfl
     ·intro e he u hu;rw[mS he] at hu;exact lyPr.one HV5.out u hu
     ·rw[List.length_map,List.length_singleton];have:=HVL.out;omega
     intro ga gn gc w6 hr6 hg6 hq6
     have hst6:=HN.out.grown HST5.out.1 hg6 (fun k hk e=>HR5.out.out k e.symm hk)
     have hrow6:=HR5.out.grow lyPr HV5.out hr6 hg6 hq6 (fun k hk=>(HN.out.lt HST5.out.1 hk).1)
     have hbo6:ButO P (Ow w) w w6:=HBO5.out.trans (ButO.grown hg6 P) (fun k hk=> .inr (HR5.out.row.lt k hk.symm).1)
     have hp6:PaIs P tb E r4 w6:=HP5.out.grown hg6 (fun e=>by have:=(HR5.out.row.lt P e.symm).1;omega) (fun e=>by have:=(HR5.out.row.lt tb e.symm).1;omega)
     have HR6:=hid hrow6
     have HST6:=hid hst6
     have HBO6:=hid hbo6
     have HP6:=hid hp6
     clear hr6 hg6 hq6 hst6 hrow6 hbo6 hp6
     go_wp2_with fail
     go_roundw
     case rel=>
      have h1:=HG2.out
      have h2:=HLn.out
      have h3:=HLt.out
      refine⟨xs++[x4],r4,vs++[.agg (gP t la ln lc aa an ac ta tn tc ua un uc ka kn kc)],_,_,_,g3,rfl,hid ?_,HP6,hid HST6.out.1,HBO6,hid (fun k hk=>HOW5.out k ((HST6.out.2 k).1 hk)),hid ?_,hid (by omega),hid (by simp;omega),hid (by omega)⟩
      ·rw[List.map_append];exact LRow.reO lyPr HR6.out (fun k hk=>(HST6.out.2 k).1 hk)
      ·rw[HEQ2.out,H4.out]
       show PR.bind (PR.bind (Jk Fg g3 r4) _) _=_
       cases Jk Fg g3 r4 with
       |bad e r=>rfl
       |ok l r=>show PR.ok (xs++(x4::l)) r=PR.ok (xs++[x4]++l) r;simp
     case measure=>
      rw[HP6.out.left,HLEFT.out];omega
theorem KT:Yt 25 82 3:=UD Tryz.underlying25 (z:= .agg #[.int .i64 0,.string ⟨#[]⟩,.int .i64 0]) (bytes:=32) (by kernel_rfl) (by decide) rfl (by decide)
theorem DI{γ:Type}(P tb:Nat)(E:Int)(ts:List Tk)(B:Nat)(w:World)(he:Env B w)(hBP:B<=P)(h:PaIs P tb E ts w)(f:Nat)(bs cs:Array Value)(eg:∀args w,(callFunc f args).run Tryz.prog w= .ok (.enter f args) w)
 (Fg:List Tk->PR γ) (pr:γ->Vl) (St:List γ->World->Prop) (Ow:World->Nat->Prop) (n:Nat) (hn:ts.length<n) (hF:XG P tb E B f bs cs Fg pr XL St Ow n) (hN:Noted St Ow P) (hS:Qr Fg) (g:Nat) (hg:ts.length<g) (hst:St [] w) (hOB:∀k,Ow w k->B<=k):
 Calls Tryz.prog 153 #[.pointer (some ⟨P,0,none⟩),.func (.func f) bs cs] w (ZL P tb E w (QP Fg g ts) (fun w' xs v=>VlSl (fun k=>w.heap.size<=k/\k<w'.heap.size/\¬Ow w' k) w' v (xs.map pr)) St Ow):=by
 obtain⟨g,rfl⟩:∃g',g=g'+1:=⟨g-1,by omega⟩
 have hP:P<w.heap.size:=h.lt
 have htl:tb<w.heap.size:=h.tlt
 have hlen:ts.length<=1000000:=h.choose_spec.choose_spec.2.2.2.2.1
 have HF:=hid hF
 have HN:=hid hN
 have HS:=hid hS
 have HE:=hid he
 have HP:=hid h
 have HST:=hid hst
 have HOB:=hid hOB
 rw[Zh]
 clear hF hN hS he h hst hOB
 cases h1:Fg ts with
 |bad er r=>
  show Calls _ _ _ _ (ZL P tb E w (PR.bad er r) _ St Ow)
  go_enter Tryz.func153,Tryz.ntmps153
  go_wp2_with fail
  refine(HF.out [] ts w hn (Nat.zero_le _) HE.out HP.out HST.out).mono ?_
  rw[h1]
  rintro e w1⟨rfl,hb1⟩
  exact⟨rfl,rfl,hb1⟩
 |ok x r=>
  have hlr:r.length<ts.length:=HS.out _ _ _ h1
  show Calls _ _ _ _ (ZL P tb E w ((Jk Fg g r).bind fun l r=> .ok (x::l) r) _ St Ow)
  go_enter Tryz.func153,Tryz.ntmps153
  go_wp2_with fail
  refine(HF.out [] ts w hn (Nat.zero_le _) HE.out HP.out HST.out).mono ?_
  rw[h1]
  rintro e w1⟨⟨v,rfl,hv⟩,hp1,hs1,hb1,ho1⟩
  obtain⟨t,ht⟩:∃t,pr x=t:=⟨_,rfl⟩
  rw[ht] at hv
  obtain⟨rfl,-⟩:=id hv
  have HV:=hid hv
  have HP1:=hid hp1
  have HS1:=hid hs1
  have HB1:=hid hb1
  have HO1:=hid ho1
  have HT:=hid ht
  clear hv hp1 hs1 hb1 ho1 ht h1
  go_wp2_with fail
  obtain⟨W2,hW2⟩:∃W2,w1.alloc (.cells #[.int .i64 t.k,.string t.n,.int .i64 t.x] 82)=W2:=⟨_,rfl⟩
  have hb2:=(made hW2).1
  have hst2:=HN.out.to HS1.out hb2
  have hrow:LRow 82 3 w.heap.size XL (Ow W2) W2 (.slice (some ⟨w1.heap.size,0,none⟩) 1 1) [.agg #[.int .i64 t.k,.string t.n,.int .i64 t.x]] [pr x]:=by
   have h:=LRow.one (el:=82) lyVl (x:=pr x) (O:=Ow w1) (by rw[HT.out];exact HV.out) (fun k hk=>(HN.out.lt HS1.out hk).1) HB1.out.size
   have e:w1.alloc (.cells (cl (.agg #[.int .i64 t.k,.string t.n,.int .i64 t.x])).toArray 82)=W2:=hW2
   rw[e] at h
   exact LRow.reO lyVl h (fun k hk=>(hst2.2 k).1 hk)
  rw[hW2]
  have HR2:=hid hrow
  have HST2:=hid hst2
  have HB2:=hid hb2
  clear hrow hst2 hb2 hW2
  go_loopw [5] (fun l wr=>∃(xs:List γ) (rs:List Tk) (vs:List Value) (la:Option Addr) (ln lc:Nat) (g2:Nat),l= .slice la ln lc/\Hid (LRow 82 3 w.heap.size XL (Ow wr) wr (.slice la ln lc) vs (xs.map pr))/\Hid (PaIs P tb E rs wr)/\Hid (St xs wr)/\Hid (ButO P (Ow w) w wr)/\Hid (∀k,Ow wr k->Ow w k\/w.heap.size<=k)/\Hid (((Jk Fg g r).bind fun l r=> .ok (x::l) r)=(Jk Fg g2 rs).bind fun l r=> .ok (xs++l) r)/\Hid (rs.length<g2)/\Hid (xs.length+rs.length<=1000000)/\Hid (rs.length<n)) (fun _ wr=>Nh P wr)
  case atStart=>
   refine⟨[x],r,_,_,_,_,g,rfl,HR2,hid (HP1.out.to HB2.out),hid HST2.out.1,hid (HB1.out.to HB2.out),hid (fun k hk=>HO1.out k ((HST2.out.2 k).1 hk)),hid ?_,hid (by omega),hid (by simp;omega),hid (by omega)⟩
   rfl
  case round=>
   obtain⟨xs,rs,vs,ra,rn,rc,g2,rfl,HR,HPa,HSt,HBo,HOw,HEq,HG2,HLn,HLt⟩:=hrel
   clear HR2 HST2 HB2 HP1 HS1 HB1 HO1
   rename World=>V0
   cases hc:hd QG rs with
   |false=>
    go_wp2_with (go_at_call 50;refine(Zm P tb E _ (by decide+kernel) _ _ (by assumption) HPa.out).mono ?_;rintro en w3⟨rfl,hp3,hb3⟩;have HP3:=hid hp3;have HB3:=hid hb3;clear hp3 hb3)
    go_ret
    have hfin:((Jk Fg g r).bind fun l r=> .ok (x::l) r)= .ok xs rs:=by
     rw[HEq.out,Jk,if_neg (by rw[hc];simp)]
     show PR.ok (xs++[]) rs=_
     rw[List.append_nil]
    rw[hfin]
    have hst:=HN.out.but HSt.out HB3.out
    have hrow:=HR.out.frame lyVl (O':=Ow w3) (HB3.out.o _) hP (fun k hk=> .inl ((hst.2 k).1 hk))
    have hml:=HLn.out
    refine⟨⟨_,rfl,hrow.vls (by rw[List.length_map];unfold maxLen;omega)⟩,HP3.out,hst.1,HBo.out.trans (HB3.out.o (fun _=>False)) (fun _ h=>h.elim),fun k hk=>HOw.out k ((hst.2 k).1 hk)⟩
   |true=>
    have hrt:rs.tail.length<rs.length:=QH hc
    have hg2:=HG2.out
    obtain⟨g3,rfl⟩:∃g',g2=g'+1:=⟨g2-1,by omega⟩
    have heq:((Jk Fg g r).bind fun l r=> .ok (x::l) r)=((Fg rs.tail).bind fun x r=>(Jk Fg g3 r).bind fun l r=> .ok (x::l) r).bind fun l r=> .ok (xs++l) r:=by
     rw[HEq.out,Jk,if_pos hc,Zh]
    have HEQ2:=hid heq
    have HLEFT:=hid HPa.out.left
    clear heq
    go_wp2_with (go_at_call 50;refine(JJ P tb E _ (by decide+kernel) _ _ (by assumption) HPa.out).mono ?_;rintro en w3⟨rfl,hp3,hb3⟩;have HP3:=hid hp3;have HB3:=hid hb3;clear hp3 hb3)
    have hst3:=HN.out.but HSt.out HB3.out
    have hrow3:=HR.out.frame lyVl (O':=Ow w3) (HB3.out.o _) hP (fun k hk=> .inl ((hst3.2 k).1 hk))
    have hbo3:ButO P (Ow w) w w3:=HBo.out.trans (HB3.out.o (fun _=>False)) (fun _ h=>h.elim)
    have how3:∀k,Ow w3 k->Ow w k\/w.heap.size<=k:=fun k hk=>HOw.out k ((hst3.2 k).1 hk)
    have henv3:Env B w3:=HE.out.below (hbo3.below hBP (fun k hk=>HOB.out k hk) (lT hBP (Nat.le_of_lt hP)))
    have hln3:=HLn.out
    have hlt3:=HLt.out
    refine(HF.out xs rs.tail w3 (by omega) (by omega) henv3 HP3.out hst3.1).mono ?_
    cases h4:Fg rs.tail with
    |bad er r4=>
     rintro e w4⟨rfl,hb4⟩
     dsimp only
     have e5:((Jk Fg g r).bind fun l r=> .ok (x::l) r)=PR.bad er r4:=by rw[HEQ2.out,h4];rfl
     exact⟨rfl,by rw[e5];exact⟨rfl,hbo3.trans hb4 (fun k hk=>how3 k hk)⟩⟩
    |ok x4 r4=>
     have hl4:r4.length<rs.tail.length:=HS.out _ _ _ h4
     rintro e w4⟨⟨v,rfl,hv⟩,hp4,hs4,hb4,ho4⟩
     obtain⟨t,ht⟩:∃t,pr x4=t:=⟨_,rfl⟩
     rw[ht] at hv
     obtain⟨rfl,-⟩:=id hv
     have hrow4:=hrow3.frame lyVl (O':=Ow w4) hb4 hP ho4
     have hbo4:ButO P (Ow w) w w4:=hbo3.trans hb4 (fun k hk=>how3 k hk)
     have how4:∀k,Ow w4 k->Ow w k\/w.heap.size<=k:=fun k hk=>(ho4 k hk).elim (how3 k) (fun h=> .inr (lT hbo3.size h))
     obtain⟨W5,hW5⟩:∃W5,w4.alloc (.cells #[.int .i64 t.k,.string t.n,.int .i64 t.x] 82)=W5:=⟨_,rfl⟩
     have hb5:=(made hW5).1
     have x5:=(made hW5).2
     have hst5:=HN.out.to hs4 hb5
     have hrow5:=hrow4.frame lyVl (O':=Ow W5) ((But.of (P:=P) hb5).o _) hP (fun k hk=> .inl ((hst5.2 k).1 hk))
     have hv5:XL (fun k=>w.heap.size<=k/\k<W5.heap.size/\¬Ow W5 k/\some k≠(Value.slice ra rn rc).ownBlock) W5 (.agg #[.int .i64 t.k,.string t.n,.int .i64 t.x]) (pr x4):=by
      rw[ht]
      refine lyVl.mono (fun k hk=>?_) (lyVl.keep (w':=W5) (fun k o hk ho _=>(hb5.block k hk.2.1).trans ho) hv)
      have hq:=fun j hj=>(hrow3.row.lt j hj).2
      exact⟨lT hbo3.size hk.1,lL hk.2.1 hb5.size,fun e=>hk.2.2 ((hst5.2 k).1 e),fun e=>by have:=hq k e.symm;have:=hk.1;omega⟩
     have hvl:vs.length<=1000000:=by have:=hrow3.len;rw[List.length_map] at this;omega
     have HR5:=hid hrow5
     have HV5:=hid hv5
     have HST5:=hid hst5
     have HBO5:=hid (hbo4.to hb5)
     have HOW5:Hid (∀k,Ow W5 k->Ow w k\/w.heap.size<=k):=hid (fun k hk=>how4 k ((hst5.2 k).1 hk))
     have HP5:=hid (hp4.to hb5)
     have HX5:=hid x5
     have HW5:=hid hW5
     have H4:=hid h4
     have HVL:=hid hvl
     have HZ5:Hid (w.heap.size<=W5.heap.size):=hid HBO5.out.size
     clear hv hp4 hs4 hb4 ho4 ht h4 hrow3 hrow4 hrow5 hst3 hst5 hbo3 hbo4 how3 how4 hb5 x5 hv5 henv3 hln3 hlt3 hW5 hvl HR HPa HSt HBo HOw HEq HP3 HB3
     go_wp2_with (rw[HW5.out];at_builtin;refine Ji KT rfl _ _ rfl rfl HR5.out.row (some ⟨w4.heap.size,0,none⟩) 1 1 [[.int .i64 t.k,.string t.n,.int .i64 t.x]] rfl rfl ?_ (JY HX5.out) ?_ ?_ HZ5.out ?_)
     ·intro e he;rw[mS he];rfl
     ·intro e he u hu;rw[mS he] at hu;exact lyVl.one HV5.out u hu
     ·rw[List.length_map,List.length_singleton];have:=HVL.out;omega
     intro ga gn gc w6 hr6 hg6 hq6
     have hst6:=HN.out.grown HST5.out.1 hg6 (fun k hk e=>HR5.out.out k e.symm hk)
     have hrow6:=HR5.out.grow lyVl HV5.out hr6 hg6 hq6 (fun k hk=>(HN.out.lt HST5.out.1 hk).1)
     have hbo6:ButO P (Ow w) w w6:=HBO5.out.trans (ButO.grown hg6 P) (fun k hk=> .inr (HR5.out.row.lt k hk.symm).1)
     have hp6:PaIs P tb E r4 w6:=HP5.out.grown hg6 (fun e=>by have:=(HR5.out.row.lt P e.symm).1;omega) (fun e=>by have:=(HR5.out.row.lt tb e.symm).1;omega)
     have HR6:=hid hrow6
     have HST6:=hid hst6
     have HBO6:=hid hbo6
     have HP6:=hid hp6
     clear hr6 hg6 hq6 hst6 hrow6 hbo6 hp6
     go_wp2_with fail
     go_roundw
     case rel=>
      have h1:=HG2.out
      have h2:=HLn.out
      have h3:=HLt.out
      refine⟨xs++[x4],r4,vs++[.agg #[.int .i64 t.k,.string t.n,.int .i64 t.x]],_,_,_,g3,rfl,hid ?_,HP6,hid HST6.out.1,HBO6,hid (fun k hk=>HOW5.out k ((HST6.out.2 k).1 hk)),hid ?_,hid (by omega),hid (by simp;omega),hid (by omega)⟩
      ·rw[List.map_append];exact LRow.reO lyVl HR6.out (fun k hk=>(HST6.out.2 k).1 hk)
      ·rw[HEQ2.out,H4.out]
       show PR.bind (PR.bind (Jk Fg g3 r4) _) _=_
       cases Jk Fg g3 r4 with
       |bad e r=>rfl
       |ok l r=>show PR.ok (xs++(x4::l)) r=PR.ok (xs++[x4]++l) r;simp
     case measure=>
      rw[HP6.out.left,HLEFT.out];omega
theorem Mo:Yt 59 63 7:=UD Tryz.underlying59 (z:= .agg #[.string ⟨#[]⟩,.int .i64 0,.int .i64 0,.string ⟨#[]⟩,.int .i64 0,.slice none 0 0,.slice none 0 0]) (bytes:=104) (by kernel_rfl) (by decide) rfl (by decide)
theorem DJ{γ:Type}(P tb:Nat)(E:Int)(ts:List Tk)(B:Nat)(w:World)(he:Env B w)(hBP:B<=P)(h:PaIs P tb E ts w)(f:Nat)(bs cs:Array Value)(eg:∀args w,(callFunc f args).run Tryz.prog w= .ok (.enter f args) w)
 (Fg:List Tk->PR γ) (pr:γ->Pm) (St:List γ->World->Prop) (Ow:World->Nat->Prop) (n:Nat) (hn:ts.length<n) (hF:XG P tb E B f bs cs Fg pr PmVal St Ow n) (hN:Noted St Ow P) (hS:Qr Fg) (g:Nat) (hg:ts.length<g) (hst:St [] w) (hOB:∀k,Ow w k->B<=k):
 Calls Tryz.prog 109 #[.pointer (some ⟨P,0,none⟩),.func (.func f) bs cs] w (ZL P tb E w (QP Fg g ts) (fun w' xs v=>PmSl (fun k=>w.heap.size<=k/\k<w'.heap.size/\¬Ow w' k) w' v (xs.map pr)) St Ow):=by
 obtain⟨g,rfl⟩:∃g',g=g'+1:=⟨g-1,by omega⟩
 have hP:P<w.heap.size:=h.lt
 have htl:tb<w.heap.size:=h.tlt
 have hlen:ts.length<=1000000:=h.choose_spec.choose_spec.2.2.2.2.1
 have HF:=hid hF
 have HN:=hid hN
 have HS:=hid hS
 have HE:=hid he
 have HP:=hid h
 have HST:=hid hst
 have HOB:=hid hOB
 rw[Zh]
 clear hF hN hS he h hst hOB
 cases h1:Fg ts with
 |bad er r=>
  show Calls _ _ _ _ (ZL P tb E w (PR.bad er r) _ St Ow)
  go_enter Tryz.func109,Tryz.ntmps109
  go_wp2_with fail
  refine(HF.out [] ts w hn (Nat.zero_le _) HE.out HP.out HST.out).mono ?_
  rw[h1]
  rintro e w1⟨rfl,hb1⟩
  exact⟨rfl,rfl,hb1⟩
 |ok x r=>
  have hlr:r.length<ts.length:=HS.out _ _ _ h1
  show Calls _ _ _ _ (ZL P tb E w ((Jk Fg g r).bind fun l r=> .ok (x::l) r) _ St Ow)
  go_enter Tryz.func109,Tryz.ntmps109
  go_wp2_with fail
  refine(HF.out [] ts w hn (Nat.zero_le _) HE.out HP.out HST.out).mono ?_
  rw[h1]
  rintro e w1⟨⟨v,rfl,hv⟩,hp1,hs1,hb1,ho1⟩
  obtain⟨t,ht⟩:∃t,pr x=t:=⟨_,rfl⟩
  rw[ht] at hv
  obtain⟨la,ln,lc,ka,kn,kc,rfl⟩:=PmVal.open7 hv
  have HV:=hid hv
  have HP1:=hid hp1
  have HS1:=hid hs1
  have HB1:=hid hb1
  have HO1:=hid ho1
  have HT:=hid ht
  clear hv hp1 hs1 hb1 ho1 ht h1
  go_wp2_with fail
  obtain⟨W2,hW2⟩:∃W2,w1.alloc (.cells #[.string t.n,.int .i64 t.t.k,.int .i64 t.t.p,.string t.t.n,.int .i64 t.t.s,.slice la ln lc,.slice ka kn kc] 63)=W2:=⟨_,rfl⟩
  have hb2:=(made hW2).1
  have hst2:=HN.out.to HS1.out hb2
  have hrow:LRow 63 7 w.heap.size PmVal (Ow W2) W2 (.slice (some ⟨w1.heap.size,0,none⟩) 1 1) [.agg #[.string t.n,.int .i64 t.t.k,.int .i64 t.t.p,.string t.t.n,.int .i64 t.t.s,.slice la ln lc,.slice ka kn kc]] [pr x]:=by
   have h:=LRow.one (el:=63) lyPm (x:=pr x) (O:=Ow w1) (by rw[HT.out];exact HV.out) (fun k hk=>(HN.out.lt HS1.out hk).1) HB1.out.size
   have e:w1.alloc (.cells (cl (.agg #[.string t.n,.int .i64 t.t.k,.int .i64 t.t.p,.string t.t.n,.int .i64 t.t.s,.slice la ln lc,.slice ka kn kc])).toArray 63)=W2:=hW2
   rw[e] at h
   exact LRow.reO lyPm h (fun k hk=>(hst2.2 k).1 hk)
  rw[hW2]
  have HR2:=hid hrow
  have HST2:=hid hst2
  have HB2:=hid hb2
  clear hrow hst2 hb2 hW2
  go_loopw [5] (fun l wr=>∃(xs:List γ) (rs:List Tk) (vs:List Value) (la:Option Addr) (ln lc:Nat) (g2:Nat),l= .slice la ln lc/\Hid (LRow 63 7 w.heap.size PmVal (Ow wr) wr (.slice la ln lc) vs (xs.map pr))/\Hid (PaIs P tb E rs wr)/\Hid (St xs wr)/\Hid (ButO P (Ow w) w wr)/\Hid (∀k,Ow wr k->Ow w k\/w.heap.size<=k)/\Hid (((Jk Fg g r).bind fun l r=> .ok (x::l) r)=(Jk Fg g2 rs).bind fun l r=> .ok (xs++l) r)/\Hid (rs.length<g2)/\Hid (xs.length+rs.length<=1000000)/\Hid (rs.length<n)) (fun _ wr=>Nh P wr)
  case atStart=>
   refine⟨[x],r,_,_,_,_,g,rfl,HR2,hid (HP1.out.to HB2.out),hid HST2.out.1,hid (HB1.out.to HB2.out),hid (fun k hk=>HO1.out k ((HST2.out.2 k).1 hk)),hid ?_,hid (by omega),hid (by simp;omega),hid (by omega)⟩
   rfl
  case round=>
   obtain⟨xs,rs,vs,ra,rn,rc,g2,rfl,HR,HPa,HSt,HBo,HOw,HEq,HG2,HLn,HLt⟩:=hrel
   clear HR2 HST2 HB2 HP1 HS1 HB1 HO1
   rename World=>V0
   cases hc:hd QG rs with
   |false=>
    go_wp2_with (go_at_call 50;refine(Zm P tb E _ (by decide+kernel) _ _ (by assumption) HPa.out).mono ?_;rintro en w3⟨rfl,hp3,hb3⟩;have HP3:=hid hp3;have HB3:=hid hb3;clear hp3 hb3)
    go_ret
    have hfin:((Jk Fg g r).bind fun l r=> .ok (x::l) r)= .ok xs rs:=by
     rw[HEq.out,Jk,if_neg (by rw[hc];simp)]
     show PR.ok (xs++[]) rs=_
     rw[List.append_nil]
    rw[hfin]
    have hst:=HN.out.but HSt.out HB3.out
    have hrow:=HR.out.frame lyPm (O':=Ow w3) (HB3.out.o _) hP (fun k hk=> .inl ((hst.2 k).1 hk))
    have hml:=HLn.out
    refine⟨⟨_,rfl,hrow.pms (by rw[List.length_map];unfold maxLen;omega)⟩,HP3.out,hst.1,HBo.out.trans (HB3.out.o (fun _=>False)) (fun _ h=>h.elim),fun k hk=>HOw.out k ((hst.2 k).1 hk)⟩
   |true=>
    have hrt:rs.tail.length<rs.length:=QH hc
    have hg2:=HG2.out
    obtain⟨g3,rfl⟩:∃g',g2=g'+1:=⟨g2-1,by omega⟩
    have heq:((Jk Fg g r).bind fun l r=> .ok (x::l) r)=((Fg rs.tail).bind fun x r=>(Jk Fg g3 r).bind fun l r=> .ok (x::l) r).bind fun l r=> .ok (xs++l) r:=by
     rw[HEq.out,Jk,if_pos hc,Zh]
    have HEQ2:=hid heq
    have HLEFT:=hid HPa.out.left
    clear heq
    go_wp2_with (go_at_call 50;refine(JJ P tb E _ (by decide+kernel) _ _ (by assumption) HPa.out).mono ?_;rintro en w3⟨rfl,hp3,hb3⟩;have HP3:=hid hp3;have HB3:=hid hb3;clear hp3 hb3)
    have hst3:=HN.out.but HSt.out HB3.out
    have hrow3:=HR.out.frame lyPm (O':=Ow w3) (HB3.out.o _) hP (fun k hk=> .inl ((hst3.2 k).1 hk))
    have hbo3:ButO P (Ow w) w w3:=HBo.out.trans (HB3.out.o (fun _=>False)) (fun _ h=>h.elim)
    have how3:∀k,Ow w3 k->Ow w k\/w.heap.size<=k:=fun k hk=>HOw.out k ((hst3.2 k).1 hk)
    have henv3:Env B w3:=HE.out.below (hbo3.below hBP (fun k hk=>HOB.out k hk) (lT hBP (Nat.le_of_lt hP)))
    have hln3:=HLn.out
    have hlt3:=HLt.out
    refine(HF.out xs rs.tail w3 (by omega) (by omega) henv3 HP3.out hst3.1).mono ?_
    cases h4:Fg rs.tail with
    |bad er r4=>
     rintro e w4⟨rfl,hb4⟩
     dsimp only
     have e5:((Jk Fg g r).bind fun l r=> .ok (x::l) r)=PR.bad er r4:=by rw[HEQ2.out,h4];rfl
     exact⟨rfl,by rw[e5];exact⟨rfl,hbo3.trans hb4 (fun k hk=>how3 k hk)⟩⟩
    |ok x4 r4=>
     have hl4:r4.length<rs.tail.length:=HS.out _ _ _ h4
     rintro e w4⟨⟨v,rfl,hv⟩,hp4,hs4,hb4,ho4⟩
     obtain⟨t,ht⟩:∃t,pr x4=t:=⟨_,rfl⟩
     rw[ht] at hv
     obtain⟨la,ln,lc,ka,kn,kc,rfl⟩:=PmVal.open7 hv
     have hrow4:=hrow3.frame lyPm (O':=Ow w4) hb4 hP ho4
     have hbo4:ButO P (Ow w) w w4:=hbo3.trans hb4 (fun k hk=>how3 k hk)
     have how4:∀k,Ow w4 k->Ow w k\/w.heap.size<=k:=fun k hk=>(ho4 k hk).elim (how3 k) (fun h=> .inr (lT hbo3.size h))
     obtain⟨W5,hW5⟩:∃W5,w4.alloc (.cells #[.string t.n,.int .i64 t.t.k,.int .i64 t.t.p,.string t.t.n,.int .i64 t.t.s,.slice la ln lc,.slice ka kn kc] 63)=W5:=⟨_,rfl⟩
     have hb5:=(made hW5).1
     have x5:=(made hW5).2
     have hst5:=HN.out.to hs4 hb5
     have hrow5:=hrow4.frame lyPm (O':=Ow W5) ((But.of (P:=P) hb5).o _) hP (fun k hk=> .inl ((hst5.2 k).1 hk))
     have hv5:PmVal (fun k=>w.heap.size<=k/\k<W5.heap.size/\¬Ow W5 k/\some k≠(Value.slice ra rn rc).ownBlock) W5 (.agg #[.string t.n,.int .i64 t.t.k,.int .i64 t.t.p,.string t.t.n,.int .i64 t.t.s,.slice la ln lc,.slice ka kn kc]) (pr x4):=by
      rw[ht]
      refine lyPm.mono (fun k hk=>?_) (lyPm.keep (w':=W5) (fun k o hk ho _=>(hb5.block k hk.2.1).trans ho) hv)
      have hq:=fun j hj=>(hrow3.row.lt j hj).2
      exact⟨lT hbo3.size hk.1,lL hk.2.1 hb5.size,fun e=>hk.2.2 ((hst5.2 k).1 e),fun e=>by have:=hq k e.symm;have:=hk.1;omega⟩
     have hvl:vs.length<=1000000:=by have:=hrow3.len;rw[List.length_map] at this;omega
     have HR5:=hid hrow5
     have HV5:=hid hv5
     have HST5:=hid hst5
     have HBO5:=hid (hbo4.to hb5)
     have HOW5:Hid (∀k,Ow W5 k->Ow w k\/w.heap.size<=k):=hid (fun k hk=>how4 k ((hst5.2 k).1 hk))
     have HP5:=hid (hp4.to hb5)
     have HX5:=hid x5
     have HW5:=hid hW5
     have H4:=hid h4
     have HVL:=hid hvl
     have HZ5:Hid (w.heap.size<=W5.heap.size):=hid HBO5.out.size
     clear hv hp4 hs4 hb4 ho4 ht h4 hrow3 hrow4 hrow5 hst3 hst5 hbo3 hbo4 how3 how4 hb5 x5 hv5 henv3 hln3 hlt3 hW5 hvl HR HPa HSt HBo HOw HEq HP3 HB3
     go_wp2_with (rw[HW5.out];at_builtin;refine Ji Mo rfl _ _ rfl rfl HR5.out.row (some ⟨w4.heap.size,0,none⟩) 1 1 [[.string t.n,.int .i64 t.t.k,.int .i64 t.t.p,.string t.t.n,.int .i64 t.t.s,.slice la ln lc,.slice ka kn kc]] rfl rfl ?_ (JY HX5.out) ?_ ?_ HZ5.out ?_)
     ·intro e he;rw[mS he];rfl
     ·intro e he u hu;rw[mS he] at hu;exact lyPm.one HV5.out u hu
     ·rw[List.length_map,List.length_singleton];have:=HVL.out;omega
     intro ga gn gc w6 hr6 hg6 hq6
     have hst6:=HN.out.grown HST5.out.1 hg6 (fun k hk e=>HR5.out.out k e.symm hk)
     have hrow6:=HR5.out.grow lyPm HV5.out hr6 hg6 hq6 (fun k hk=>(HN.out.lt HST5.out.1 hk).1)
     have hbo6:ButO P (Ow w) w w6:=HBO5.out.trans (ButO.grown hg6 P) (fun k hk=> .inr (HR5.out.row.lt k hk.symm).1)
     have hp6:PaIs P tb E r4 w6:=HP5.out.grown hg6 (fun e=>by have:=(HR5.out.row.lt P e.symm).1;omega) (fun e=>by have:=(HR5.out.row.lt tb e.symm).1;omega)
     have HR6:=hid hrow6
     have HST6:=hid hst6
     have HBO6:=hid hbo6
     have HP6:=hid hp6
     clear hr6 hg6 hq6 hst6 hrow6 hbo6 hp6
     go_wp2_with fail
     go_roundw
     case rel=>
      have h1:=HG2.out
      have h2:=HLn.out
      have h3:=HLt.out
      refine⟨xs++[x4],r4,vs++[.agg #[.string t.n,.int .i64 t.t.k,.int .i64 t.t.p,.string t.t.n,.int .i64 t.t.s,.slice la ln lc,.slice ka kn kc]],_,_,_,g3,rfl,hid ?_,HP6,hid HST6.out.1,HBO6,hid (fun k hk=>HOW5.out k ((HST6.out.2 k).1 hk)),hid ?_,hid (by omega),hid (by simp;omega),hid (by omega)⟩
      ·rw[List.map_append];exact LRow.reO lyPm HR6.out (fun k hk=>(HST6.out.2 k).1 hk)
      ·rw[HEQ2.out,H4.out]
       show PR.bind (PR.bind (Jk Fg g3 r4) _) _=_
       cases Jk Fg g3 r4 with
       |bad e r=>rfl
       |ok l r=>show PR.ok (xs++(x4::l)) r=PR.ok (xs++[x4]++l) r;simp
     case measure=>
      rw[HP6.out.left,HLEFT.out];omega
end Go.Proofs.YtmnbheplkidfaaaGreatDoor
