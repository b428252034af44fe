/- Parsing: labels and what stands behind each of them. (and what follows from it) -/
import Derived.Test.YtmnbheplkidfaaaGreatDoorPw4
import Derived.Test.YtmnbheplkidfaaaGreatDoorPw5
set_option maxHeartbeats 16000000
set_option maxRecDepth 100000
namespace Go.Proofs.YtmnbheplkidfaaaGreatDoor
open Go.Lib (hid)
open Go.RowKit Go.Deep Go.Shelf
theorem Uv:Yt 24 9 1:=UD Tryz.underlying24 (z:= .string ⟨#[]⟩) (bytes:=16) (by kernel_rfl) (by decide) rfl (by decide)
abbrev Jc(s:ByteArray):List Value:=[.string s]
theorem GRow.texts{base:Nat}{W:World}{v:Value}{ls:List ByteArray}(h:GRow 9 1 base W v (ls.map Jc))(hl:ls.length<=maxLen)(hz:∀s∈ls,s.size<=maxLen):StrSl (fun k=>base<=k/\k<W.heap.size/\v.ownBlock=some k) W v ls:=by
 rcases h.parts with⟨rfl,e⟩|⟨g,cap,e,h1,h2,h3,_⟩
 ·exact⟨.inl ⟨⟨_,_,rfl⟩,by simpa using e⟩,hl,hz⟩
 ·rw[List.length_map] at e h3
  refine⟨.inr ⟨g,0,cap,e,⟨h1,h2,by rw[e];rfl⟩,h3,fun j s hj=>?_⟩,hl,hz⟩
  obtain⟨g',cap',e2,hc⟩:=h.cell (j:=j) (i:=0) (e:=Jc s) (u:= .string s) (by rw[List.getElem?_map,hj];rfl) rfl
  rw[e] at e2
  simp only[Value.slice.injEq,Option.some.injEq,Addr.mk.injEq,and_true] at e2
  rw[<-e2.1] at hc
  rw[show 0+j=j*1+0 by omega];exact hc
def XC{α:Type}(P Pb Rb Lb base:Nat)(TR:TypeId)(FR:Value)(xs:List (ByteArray×α))(W:World):Prop:=
 base<=W.heap.size/\Blk W Pb #[.pointer (some ⟨P,0,none⟩)] 67/\W.heap[Rb]? =some (.cells #[FR] TR (0,0))/\∃la ln lc,Blk W Lb #[.slice la ln lc] 24/\GRow 9 1 base W (.slice la ln lc) ((xs.map (·.1)).map Jc)/\∀x∈xs,x.1.size<=maxLen
def Jf(Pb Rb Lb:Nat)(W:World)(k:Nat):Prop:=k=Pb\/k=Rb\/k=Lb\/∃v,W.cell? ⟨Lb,0,none⟩=some v/\v.ownBlock=some k
theorem ButO.setX{P X:Nat}{O:Nat->Prop}{w w':World}(h:ButO P O w w')(hX:w.heap.size<=X)(i:Nat)(v:Value):ButO P O w (w'.setCell ⟨X,i,none⟩ v):=
 ⟨h.os,h.tape,h.output,by simpa [World.setCell] using h.size,fun j hj hn ho=>(Below.heap_setCell _ _ _ j (show j≠X by omega)).trans (h.block j hj hn ho)⟩
theorem Qu{W:World}{b:Nat}{v:Value}{t:TypeId}{fr:Nat×Nat}(h:W.heap[b]? =some (.cells #[v] t fr)):W.cell? ⟨b,0,none⟩=some v:=by simp[World.cell?,h]
theorem ZA{α:Type}{P Pb Rb Lb base:Nat}{TR:TypeId}{FR:Value}(h1:P<Pb)(h2:P<Rb)(h3:P<Lb)(hb:P<base):Noted (XC (α:=α) P Pb Rb Lb base TR FR) (Jf Pb Rb Lb) P:=by
 refine⟨?_,?_⟩
 ·rintro xs W k⟨hz0,a,b,la,ln,lc,c,hr,_⟩ hk
  rcases hk with rfl|rfl|rfl|⟨v,hv,hk⟩
  ·exact⟨(gl a),by omega⟩
  ·exact⟨(gl b),by omega⟩
  ·exact⟨(gl c),by omega⟩
  ·rw[Qu c] at hv
   obtain rfl:=Option.some.inj hv
   have:=hr.lt k hk
   exact⟨this.2,by omega⟩
 ·rintro xs W W'⟨hz0,a,b,la,ln,lc,c,hr,hz⟩ hs hk
  have cL:=Qu c
  have c':W'.heap[Lb]? =some (.cells #[.slice la ln lc] 24 (0,0)):=(hk Lb (.inr (.inr (.inl rfl)))).trans c
  refine⟨⟨lT hz0 hs,(hk Pb (.inl rfl)).trans a,(hk Rb (.inr (.inl rfl))).trans b,la,ln,lc,c',hr.kept (fun k hk2=>hk k (.inr (.inr (.inr ⟨_,cL,hk2⟩)))),hz⟩,fun k=>?_⟩
  simp only[Jf,cL,Qu c']
theorem Vv{α:Type}{P Pb Rb Lb base:Nat}{TR:TypeId}{FR:Value}{xs:List (ByteArray×α)}{W:World}{v:Value}(h:W.cell? ⟨Lb,0,none⟩=some v)(k:Nat)(_:XC (α:=α) P Pb Rb Lb base TR FR xs W):Jf Pb Rb Lb W k↔k=Pb\/k=Rb\/k=Lb\/v.ownBlock=some k:=by
 simp only[Jf,h,Option.some.injEq,exists_eq_left']
def YO(P tb:Nat)(E:Int)(Pb Rb Lb base:Nat)(TR:TypeId)(FR:Value)(xs:List (ByteArray×Ty))(w:World)(r:PR (ByteArray×Ty))(e:Ending)(w':World):Prop:=match r with
 | .ok x r=>(∃v,e= .returned v/\(fun B w v t=>TyVal B w v t) (fun k=>w.heap.size<=k/\k<w'.heap.size/\¬Jf Pb Rb Lb w' k) w' v x.2)/\PaIs P tb E r w'/\XC P Pb Rb Lb base TR FR (xs++[x]) w'/\ButO P (Jf Pb Rb Lb w) w w'/\∀k,Jf Pb Rb Lb w' k->Jf Pb Rb Lb w k\/w.heap.size<=k
 | .bad err r=>e= .panicked (YT err (posE E r))/\ButO P (Jf Pb Rb Lb w) w w'
abbrev ZR:List (Nat×Option Tmp):=[(0,some 4),(1,some 5),(2,some 6),(3,some 7),(4,some 8),(5,none)]
theorem Wm(P tb:Nat)(E:Int)(B:Nat)(hBP:B<=P)(Pb Rb Lb base:Nat)(TR:TypeId)(h1b:P<Pb)(h2b:P<Rb)(h3b:P<Lb)(h12:Pb≠Lb)(h23:Rb≠Lb)(hbb:Lb<base/\Pb<base/\Rb<base)(htb:tb<base)(ht1:tb≠Lb)(fr:Nat)(bs cs:Array Value)(eg:∀args w,(callFunc fr args).run Tryz.prog w= .ok (.enter fr args) w)(FR:Value)(hFR:FR= .func (.func fr) bs cs)
 (S:List Tk->PR Ty) (n:Nat) (hS:∀(ts:List Tk) (W:World),ts.length<n->Env B W->PaIs P tb E ts W->Calls Tryz.prog fr (bs++cs) W (Parsed P tb E W (S ts) (GTy W.heap.size)))
 (xs:List (ByteArray×Ty)) (ts:List Tk) (w:World) (hn:ts.length<n) (hxl:xs.length<=1000000) (he:Env B w) (h:PaIs P tb E ts w) (hst:XC P Pb Rb Lb base TR FR xs w):
 Calls Tryz.prog 145 #[.pointer (some ⟨Lb,0,none⟩),.pointer (some ⟨Pb,0,none⟩),.pointer (some ⟨Rb,0,none⟩)] w (YO P tb E Pb Rb Lb base TR FR xs w (QX Qb S ts)):=by
 subst hFR
 obtain⟨W1,hW1⟩:∃W1,w.alloc (.cells z6 28)=W1:=⟨_,rfl⟩
 have hb1:=(made hW1).1
 have x1:=(made hW1).2
 have hs1:w.heap.size<W1.heap.size:=(gl x1)
 have hP:P<w.heap.size:=h.lt
 have htb0:tb≠w.heap.size:=Nat.ne_of_lt h.tlt
 have HTB:=hid h.tlt
 have HP:Hid (PaIs P tb E ts W1):=hid (h.to hb1)
 have HB:Hid (But P W1 W1):=hid (But.refl _ _)
 have HW1:=hid hW1
 have HB1:=hid hb1
 have HX1:=hid x1
 have HE:=hid (he.to hb1)
 have hst0:=hst
 obtain⟨hbw,xPb,xRb,la,ln,lc,xLb,hrow,hsz⟩:=hst
 have HPL:=(gl xPb)
 have HRL:=(gl xRb)
 have HLL:=(gl xLb)
 have HXL:=hid ((hb1.block Lb HLL).trans xLb)
 have HLBL:Hid (Lb<W1.heap.size):=hid (by omega)
 have HLAB:Hid (∀W,But P W1 W->W.cell? ⟨Lb,0,none⟩=some (.slice la ln lc)/\W.cell? ⟨Pb,0,none⟩=some (.pointer (some ⟨P,0,none⟩))/\W.cell? ⟨Rb,0,none⟩=some (.func (.func fr) bs cs)):=hid (fun W hW=>⟨Qu ((hW.block Lb (by omega) (by omega)).trans ((hb1.block Lb HLL).trans xLb)),Qu ((hW.block Pb (by omega) (by omega)).trans ((hb1.block Pb HPL).trans xPb)),Qu ((hW.block Rb (by omega) (by omega)).trans ((hb1.block Rb HRL).trans xRb))⟩)
 have HROW:Hid (∀W,But P W1 W->GRow 9 1 base W (.slice la ln lc) ((xs.map (·.1)).map Jc)):=hid (fun W hW=>(hrow.to hb1).kept (fun k hk=>hW.block k ((hrow.to hb1).lt k hk).2 (by have:=(hrow.lt k hk).1;omega)))
 have HBASE:Hid (base<=W1.heap.size):=hid (by omega)
 have HST0:=hid hst0
 have HSZ:=hid hsz
 have HS:=hid hS
 have hcl:=Qu xLb
 have HOW:Hid (∀k,Jf Pb Rb Lb w k↔k=Pb\/k=Rb\/k=Lb\/(Value.slice la ln lc).ownBlock=some k):=hid (fun k=>Vv hcl k hst0)
 clear hW1 hb1 x1 he h hst0 xPb xRb xLb hrow hsz hS hcl
 unfold QX
 cases h1:Qk Qb ts with
 |bad er r=>
  have FIN:∀ {wn:World},But P W1 wn->ButO P (Jf Pb Rb Lb w) w wn:=fun {wn} hb=>((But.of HB1.out).trans hb).o _
  show Calls _ _ _ _ (YO P tb E Pb Rb Lb base TR _ xs w (PR.bad er r))
  go_enter Tryz.func145,Tryz.ntmps145
  go_upto_region 1 with fail
  rw[HW1.out]
  refine wp_region_held_drew (S:=fun _=>True) (by kernel_rfl) trivial (fun hHeld=>?_)
  refine QY [0,1,2,3,4,5] (Rail [(4,0),(2,1)] [(0,.slice la ln lc),(1,.pointer (some ⟨P,0,none⟩))] [(2,fun _ _=>False),(3,fun _ _=>False),(4,fun _ _=>False),(5,fun _ _=>False)] (fun W=>W=W1.drew)) (by kernel_rfl) (by kernel_rfl) (fun _ _ _ _=>trivial) (Rail.start (S0:=fun W=>W=W1.drew) rfl _) ?stepsb ?stopb
  case stepsb=>
   refine fC ⟨?_,fC ⟨?_,fC ⟨?_,fC ⟨?_,fC ⟨?_,fC ⟨?_,fN⟩⟩⟩⟩⟩⟩
   ·refine InvStep.lst 0 [] ZR (fun L vals olds wx hLk hdeps hRl K hK2=>?_)
    simp only[Qs,setD,sS,sZ] at hK2 |-
    clear hdeps
    have cl:=(HLAB.out wx (hRl.before 2 0 (I:=fun W=>But P W1 W) rfl rfl hLk (fun e=>by rw[e];exact(But.refl P W1).drew) (fC ⟨fun v h=>(by exact h.elim),fC ⟨fun v h=>(by exact h.elim),fN⟩⟩))).1
    go_simp
    clear cl
    exact hK2 _ _ (hRl.pure 0 _ rfl fN (fC ⟨rfl,fN⟩))
   ·refine InvStep.lst 1 [] ZR (fun L vals olds wx hLk hdeps hRl K hK2=>?_)
    simp only[Qs,setD,sS,sZ] at hK2 |-
    clear hdeps
    have cl:=(HLAB.out wx (hRl.before 0 1 (I:=fun W=>But P W1 W) rfl rfl hLk (fun e=>by rw[e];exact(But.refl P W1).drew) fN)).2.1
    go_simp
    clear cl
    exact hK2 _ _ (hRl.pure 1 _ rfl fN (fC ⟨rfl,fN⟩))
   ·refine InvStep.lst 2 [1] ZR (fun L vals olds wx hLk hdeps hRl K hK2=>?_)
    simp only[Qs,setD,sS,sZ] at hK2 |-
    simp only[List.all_cons,List.all_nil,Bool.and_true] at hdeps
    have es:=(Qe (vals:=vals) (olds:=olds) hdeps).trans (hRl.val 1 rfl hdeps)
    simp only[es] at hK2 |-
    clear es
    obtain⟨hc,hn⟩:=hRl.stat 0 rfl hLk trivial rfl (fC ⟨hdeps,fN⟩) rfl
    dsimp only[QR,List.take] at hc
    subst hc
    go_simp
    refine(Ya P tb E _ B _ (HE.out.but (But.refl P W1).drew hBP) (HP.out.to bR.drew)).mono ?_
    rw[h1]
    rintro en wn⟨rfl,hb⟩
    dsimp only
    exact⟨rfl,rfl,FIN ((But.refl P W1).drew.trans hb)⟩
   ·refine InvStep.lst 3 [2] ZR (fun L vals olds wx hLk hdeps hRl K hK2=>?_)
    simp only[Qs,setD,sS,sZ] at hK2 |-
    simp only[List.all_cons,List.all_nil,Bool.and_true] at hdeps
    obtain⟨hc,hn⟩:=hRl.stat 1 rfl hLk hdeps rfl fN rfl
    dsimp only[QR,List.take] at hc
   ·refine InvStep.lst 4 [0,3] ZR (fun L vals olds wx hLk hdeps hRl K hK2=>?_)
    simp only[Qs,setD,sS,sZ] at hK2 |-
    simp only[List.all_cons,List.all_nil,Bool.and_true,Bool.and_eq_true] at hdeps
    obtain⟨hc,hn⟩:=hRl.stat 2 rfl hLk hdeps.2 rfl (fC ⟨hdeps.1,fN⟩) rfl
    dsimp only[QR,List.take] at hc
   ·refine InvStep.lst 5 [4] ZR (fun L vals olds wx hLk hdeps hRl K hK2=>?_)
    simp only[Qs,setD,sS,sZ] at hK2 |-
    simp only[List.all_cons,List.all_nil,Bool.and_true] at hdeps
    obtain⟨hc,hn⟩:=hRl.stat 3 rfl hLk hdeps rfl fN rfl
    dsimp only[QR,List.take] at hc
  case stopb=>
   refine JI [(0,some 4),(1,some 5),(2,some 6),(3,some 7),(4,some 8),(5,none)] (by kernel_rfl) (by decide) (fun L vals olds W5 hall hRl=>?_)
   have hfin:=hRl.fin (by simp at hall |-;simp[hall])
   dsimp only[QR] at hfin
 |ok nm r1=>
  have hl1:r1.length<n:=by have:=QJ h1;omega
  have POST:∀(W3 w4 W5:World) (ga:Option Addr) (gn gc:Nat),PaIs P tb E r1 W3->But P W1 W3->GRow 9 1 base w4 (.slice ga gn gc) ((xs.map (·.1)).map Jc++[Jc nm])->W3.grownBy w4 (Value.slice la ln lc).ownBlock->((Value.slice ga gn gc).ownBlock=(Value.slice la ln lc).ownBlock\/(Value.slice ga gn gc).ownBlock=some W3.heap.size)->w4.setCell ⟨Lb,0,none⟩ (.slice ga gn gc)=W5->nm.size<=maxLen->
   PaIs P tb E r1 W5/\(∀x:Ty,XC P Pb Rb Lb base TR (.func (.func fr) bs cs) (xs++[(nm,x)]) W5)/\ButO P (Jf Pb Rb Lb w) W1 W5/\(∀k,Jf Pb Rb Lb W5 k->Jf Pb Rb Lb w k\/W1.heap.size<=k):=by
   intro W3 w4 W5 ga gn gc hp3 hb3 hr4 hg4 hq4 hW5 hnz
   subst hW5
   have hown:∀k,(Value.slice la ln lc).ownBlock=some k->base<=k/\k<W3.heap.size:=fun k hk=>(HROW.out W3 hb3).lt k hk
   have hown2:∀k,(Value.slice ga gn gc).ownBlock=some k->base<=k:=fun k hk=>(hr4.lt k hk).1
   have hoth:∀k,k≠Lb->(w4.setCell ⟨Lb,0,none⟩ (.slice ga gn gc)).heap[k]? =w4.heap[k]? :=fun k hk=>Below.heap_setCell _ _ _ k hk
   have hsz5:(w4.setCell ⟨Lb,0,none⟩ (.slice ga gn gc)).heap.size=w4.heap.size:=by simp[World.setCell]
   have blk:∀k,k<W1.heap.size->k≠P->some k≠(Value.slice la ln lc).ownBlock->w4.heap[k]? =W1.heap[k]? :=fun k hk hp hr=>(hg4.block k (lL hk hb3.size) hr).trans (hb3.block k hk hp)
   obtain⟨_,xPb,xRb,la',ln',lc',xLb,_,hsz⟩:=HST0.out
   have xP5:(w4.setCell ⟨Lb,0,none⟩ (.slice ga gn gc)).heap[Pb]? =_:=(hoth Pb h12).trans ((blk Pb (by omega) (by omega) (fun e=>by have:=hown Pb e.symm;omega)).trans ((HB1.out.block Pb HPL).trans xPb))
   have xR5:(w4.setCell ⟨Lb,0,none⟩ (.slice ga gn gc)).heap[Rb]? =_:=(hoth Rb h23).trans ((blk Rb (by omega) (by omega) (fun e=>by have:=hown Rb e.symm;omega)).trans ((HB1.out.block Rb HRL).trans xRb))
   have xL4:Blk w4 Lb #[.slice la ln lc] 24:=(blk Lb HLBL.out (by omega) (fun e=>by have:=hown Lb e.symm;omega)).trans HXL.out
   have xL5:=Qd xL4 0 (.slice ga gn gc)
   have hz:base<=w4.heap.size:=lT HBASE.out (lT hb3.size hg4.size)
   refine⟨(hp3.grown hg4 (fun e=>by have:=hown P e.symm;omega) (fun e=>by have:=hown tb e.symm;omega)).oth (X:=Lb) hoth hsz5 (by omega) ht1,fun x=>⟨by omega,xP5,xR5,ga,gn,gc,xL5,?_,?_⟩,⟨?_,?_,?_,?_,?_⟩,?_⟩
   ·rw[List.map_append,List.map_append]
    exact hr4.kept (fun k hk=>hoth k (fun e=>by have:=hown2 k hk;omega))
   ·intro y hy
    rcases List.mem_append.1 hy with hy|hy
    ·exact hsz y hy
    ·rw[mS hy];exact hnz
   ·exact hg4.os.trans hb3.os
   ·exact hg4.tape.trans hb3.tape
   ·exact hg4.output.trans hb3.output
   ·have:=hb3.size;have:=hg4.size;omega
   ·intro k hk hp ho
    refine(hoth k (fun e=>ho ((HOW.out k).2 (.inr (.inr (.inl e)))))).trans (blk k hk hp (fun e=>ho ((HOW.out k).2 (.inr (.inr (.inr e.symm))))))
   ·intro k hk
    have hcl:=Qu xL5
    simp only[Jf,hcl,Option.some.injEq,exists_eq_left'] at hk
    rcases hk with rfl|rfl|rfl|hk
    ·exact .inl ((HOW.out _).2 (.inl rfl))
    ·exact .inl ((HOW.out _).2 (.inr (.inl rfl)))
    ·exact .inl ((HOW.out _).2 (.inr (.inr (.inl rfl))))
    ·rcases hq4 with hq|hq
     ·exact .inl ((HOW.out _).2 (.inr (.inr (.inr (hq.symm.trans hk)))))
     ·rw[hq] at hk
      obtain rfl:=Option.some.inj hk
      exact .inr hb3.size
  show Calls _ _ _ _ (YO P tb E Pb Rb Lb base TR _ xs w ((need QB r1).bind fun _ r=>(S r).bind fun x r=> .ok (nm,x) r))
  have HPW:=hid hP
  go_enter Tryz.func145,Tryz.ntmps145
  go_upto_region 1 with fail
  rw[HW1.out]
  refine wp_region_held_drew (S:=fun _=>True) (by kernel_rfl) trivial (fun hHeld=>?_)
  refine QY [0,1,2,3,4,5] (Rail [(4,0),(2,1)] [(0,.slice la ln lc),(1,.pointer (some ⟨P,0,none⟩))] [(2,fun v W=>v= .string nm/\nm.size<=maxLen/\PaIs P tb E r1 W/\But P W1 W),(3,fun v W=>∃nb:Nat,v= .slice (some ⟨nb,0,none⟩) 1 1/\nm.size<=maxLen/\PaIs P tb E r1 W/\But P W1 W/\Blk W nb #[.string nm] 9),(4,fun v W=>∃(ga:Option Addr) (gn gc:Nat) (W3:World),v= .slice ga gn gc/\nm.size<=maxLen/\PaIs P tb E r1 W3/\But P W1 W3/\GRow 9 1 base W (.slice ga gn gc) ((xs.map (·.1)).map Jc++[Jc nm])/\W3.grownBy W (Value.slice la ln lc).ownBlock/\((Value.slice ga gn gc).ownBlock=(Value.slice la ln lc).ownBlock\/(Value.slice ga gn gc).ownBlock=some W3.heap.size)),(5,fun _ W=>(PaIs P tb E r1 W/\(∀x:Ty,XC P Pb Rb Lb base TR (.func (.func fr) bs cs) (xs++[(nm,x)]) W)/\ButO P (Jf Pb Rb Lb w) W1 W/\(∀k,Jf Pb Rb Lb W k->Jf Pb Rb Lb w k\/W1.heap.size<=k)))] (fun W=>W=W1.drew)) (by kernel_rfl) (by kernel_rfl) (fun _ _ _ _=>trivial) (Rail.start (S0:=fun W=>W=W1.drew) rfl _) ?stepsk ?stopk
  case stepsk=>
   refine fC ⟨?_,fC ⟨?_,fC ⟨?_,fC ⟨?_,fC ⟨?_,fC ⟨?_,fN⟩⟩⟩⟩⟩⟩
   ·refine InvStep.lst 0 [] ZR (fun L vals olds wx hLk hdeps hRl K hK2=>?_)
    simp only[Qs,setD,sS,sZ] at hK2 |-
    clear hdeps
    have cl:=(HLAB.out wx (hRl.before 2 0 (I:=fun W=>But P W1 W) rfl rfl hLk (fun e=>by rw[e];exact(But.refl P W1).drew) (fC ⟨fun v h=>(by obtain⟨_,_,_,h⟩:=h;exact h),fC ⟨fun v h=>(by obtain⟨_,_,_,_,h,_⟩:=h;exact h),fN⟩⟩))).1
    go_simp
    clear cl
    exact hK2 _ _ (hRl.pure 0 _ rfl fN (fC ⟨rfl,fN⟩))
   ·refine InvStep.lst 1 [] ZR (fun L vals olds wx hLk hdeps hRl K hK2=>?_)
    simp only[Qs,setD,sS,sZ] at hK2 |-
    clear hdeps
    have cl:=(HLAB.out wx (hRl.before 0 1 (I:=fun W=>But P W1 W) rfl rfl hLk (fun e=>by rw[e];exact(But.refl P W1).drew) fN)).2.1
    go_simp
    clear cl
    exact hK2 _ _ (hRl.pure 1 _ rfl fN (fC ⟨rfl,fN⟩))
   ·refine InvStep.lst 2 [1] ZR (fun L vals olds wx hLk hdeps hRl K hK2=>?_)
    simp only[Qs,setD,sS,sZ] at hK2 |-
    simp only[List.all_cons,List.all_nil,Bool.and_true] at hdeps
    have es:=(Qe (vals:=vals) (olds:=olds) hdeps).trans (hRl.val 1 rfl hdeps)
    simp only[es] at hK2 |-
    clear es
    obtain⟨hc,hn⟩:=hRl.stat 0 rfl hLk trivial rfl (fC ⟨hdeps,fN⟩) rfl
    dsimp only[QR,List.take] at hc
    subst hc
    go_simp
    refine(Ya P tb E _ B _ (HE.out.but (But.refl P W1).drew hBP) (HP.out.to bR.drew)).mono ?_
    rw[h1]
    rintro en wn⟨⟨_,rfl,rfl,hnz⟩,hp,hb⟩
    dsimp only
    exact hK2 _ _ (hn _ _ ⟨rfl,hnz,hp,(But.refl P W1).drew.trans hb⟩)
   ·refine InvStep.lst 3 [2] ZR (fun L vals olds wx hLk hdeps hRl K hK2=>?_)
    simp only[Qs,setD,sS,sZ] at hK2 |-
    simp only[List.all_cons,List.all_nil,Bool.and_true] at hdeps
    obtain⟨hc,hn⟩:=hRl.stat 1 rfl hLk hdeps rfl fN rfl
    dsimp only[QR,List.take] at hc
    obtain⟨e3,hnz,hp,hb⟩:=hc
    have es:=(Qe (vals:=vals) (olds:=olds) hdeps).trans e3
    simp only[es] at hK2 |-
    clear es e3
    go_simp
    obtain⟨W3,hW3⟩:∃W3,wx.alloc (.cells #[.string nm] 9)=W3:=⟨_,rfl⟩
    have hb3:=(made hW3).1
    have x3:=(made hW3).2
    rw[hW3]
    exact hK2 _ _ (hn _ _ ⟨wx.heap.size,rfl,hnz,hp.to hb3,hb.to hb3,x3⟩)
   ·refine InvStep.lst 4 [0,3] ZR (fun L vals olds wx hLk hdeps hRl K hK2=>?_)
    simp only[Qs,setD,sS,sZ] at hK2 |-
    simp only[List.all_cons,List.all_nil,Bool.and_true,Bool.and_eq_true] at hdeps
    obtain⟨hc,hn⟩:=hRl.stat 2 rfl hLk hdeps.2 rfl (fC ⟨hdeps.1,fN⟩) rfl
    dsimp only[QR,List.take] at hc
    obtain⟨nb,e3,hnz,hp,hb,x3⟩:=hc
    refine Za (ops:=#[]) rfl (Zb Uv (by rfl) _ _ (by rfl) (by exact(Qe (vals:=vals) (olds:=olds) hdeps.1).trans (hRl.val 0 rfl hdeps.1)) (HROW.out wx hb) (some ⟨nb,0,none⟩) 1 1 [Jc nm] (by exact(Qe (vals:=vals) (olds:=olds) hdeps.2).trans e3) rfl (fun e he=>by rw[mS he];rfl) (JY x3) (fun e he u hu=>by rw[mS he] at hu;rw[mS hu];rfl) (by rw[List.length_map,List.length_map,List.length_singleton];omega) (lT HBASE.out hb.size) _ rfl (fun ga gn gc w4 hr4 hg4 hq4=>?_))
    exact hK2 _ _ (hn _ _ ⟨ga,gn,gc,wx,rfl,hnz,hp,hb,hr4,hg4,hq4⟩)
   ·refine InvStep.lst 5 [4] ZR (fun L vals olds wx hLk hdeps hRl K hK2=>?_)
    simp only[Qs,setD,sS,sZ] at hK2 |-
    simp only[List.all_cons,List.all_nil,Bool.and_true] at hdeps
    obtain⟨hc,hn⟩:=hRl.stat 3 rfl hLk hdeps rfl fN rfl
    dsimp only[QR,List.take] at hc
    obtain⟨ga,gn,gc,W3,e4,hnz,hp3,hb3,hr4,hg4,hq4⟩:=hc
    have es:=(Qe (vals:=vals) (olds:=olds) hdeps).trans e4
    have x4:Blk wx Lb #[.slice la ln lc] 24:=(hg4.block Lb (lL HLBL.out hb3.size) (fun e=>by have:=((HROW.out W3 hb3).lt Lb e.symm).1;omega)).trans ((hb3.block Lb HLBL.out (by omega)).trans HXL.out)
    have cl:=Qu x4
    have fz:=Qc x4 0
    simp only[es] at hK2 |-
    have HH:=hid (POST W3 wx _ ga gn gc hp3 hb3 hr4 hg4 hq4 rfl hnz)
    clear es e4 x4 hp3 hb3 hr4 hg4 hq4
    go_simp
    clear cl fz
    exact hK2 undef _ (hn _ _ HH.out)
  case stopk=>
   refine JI [(0,some 4),(1,some 5),(2,some 6),(3,some 7),(4,some 8),(5,none)] (by kernel_rfl) (by decide) (fun L vals olds W5 hall hRl=>?_)
   have hfin:=hRl.fin (by simp at hall |-;simp[hall])
   dsimp only[QR] at hfin
   clear hRl hall hHeld
   simp only[Qs,sS,sZ]
   obtain⟨s0,hs0⟩:∃s,QA L vals olds 0=s:=⟨_,rfl⟩
   rw[hs0]
   clear hs0
   obtain⟨s1,hs1⟩:∃s,QA L vals olds 1=s:=⟨_,rfl⟩
   rw[hs1]
   clear hs1
   obtain⟨s2,hs2⟩:∃s,QA L vals olds 2=s:=⟨_,rfl⟩
   rw[hs2]
   clear hs2
   obtain⟨s3,hs3⟩:∃s,QA L vals olds 3=s:=⟨_,rfl⟩
   rw[hs3]
   clear hs3
   obtain⟨s4,hs4⟩:∃s,QA L vals olds 4=s:=⟨_,rfl⟩
   rw[hs4]
   clear hs4
   obtain⟨hp5,hst5,hb5,ho5⟩:=hfin
   have hb1n:=HB1.out
   have hbw5:ButO P (Jf Pb Rb Lb w) w W5:=(But.of (P:=P) hb1n).o (Jf Pb Rb Lb w) |>.trans hb5 (fun k hk=> .inl hk)
   have cP:=Qu (hst5 default).2.1
   have HP5:=hid hp5
   have HST5:=hid hst5
   have HBW5:=hid hbw5
   have HB5:=hid hb5
   have HO5:=hid ho5
   have HLT5:Hid (∀k,Jf Pb Rb Lb W5 k->k<W5.heap.size/\k≠P):=hid (fun k hk=>(ZA h1b h2b h3b (by omega)).lt (hst5 default) hk)
   clear hp5 hst5 hbw5 hb5 ho5 hb1n
   cases h2:need QB r1 with
   |bad er r2=>
    have e5:((need QB r1).bind fun _ r=>(S r).bind fun x r=>PR.ok (nm,x) r)=PR.bad er r2:=by rw[h2];rfl
    go_wp2_with (go_at_call 52;refine(Qv P tb E _ (by decide+kernel) _ _ HP5.out).mono ?_;rw[h2];rintro en w6⟨rfl,hb⟩;have HB6:=hid hb;clear hb)
    exact⟨rfl,by rw[e5];exact⟨rfl,HBW5.out.trans (HB6.out.o (fun _=>False)) (fun _ h=>h.elim)⟩⟩
   |ok un2 r2=>
    have hl2:r2.length<n:=by have:=Qp h2;omega
    go_wp2_with (go_at_call 52;refine(Qv P tb E _ (by decide+kernel) _ _ HP5.out).mono ?_;rw[h2];rintro en w6⟨⟨_,rfl,_⟩,hp,hb⟩;have HP6:=hid hp;have HB6:=hid hb;have cR:=Qu ((ZA h1b h2b h3b (by omega)).but (HST5.out default) hb).1.2.2.1;clear hp hb)
    have henv6:Env B w6:=HE.out.below ((HB5.out.trans (HB6.out.o (fun _=>False)) (fun _ h=>h.elim)).below hBP (fun k hk=>by
     have:=(HOW.out k).1 hk
     rcases this with h|h|h|h
     ·omega
     ·omega
     ·omega
     ·have:=(HROW.out W1 (But.refl _ _)).lt k h;omega) HE.out.size)
    refine(HS.out r2 w6 hl2 henv6 HP6.out).mono ?_
    cases h3:S r2 with
    |bad er r3=>
     have e5:((need QB r1).bind fun _ r=>(S r).bind fun x r=>PR.ok (nm,x) r)=PR.bad er r3:=by rw[h2];show(S r2).bind _=_;rw[h3];rfl
     rintro e w7⟨rfl,hb7⟩
     exact⟨rfl,by rw[e5];exact⟨rfl,HBW5.out.trans ((HB6.out.trans hb7).o (fun _=>False)) (fun _ h=>h.elim)⟩⟩
    |ok t r3=>
     have e5:((need QB r1).bind fun _ r=>(S r).bind fun x r=>PR.ok (nm,x) r)=PR.ok (nm,t) r3:=by rw[h2];show(S r2).bind _=_;rw[h3];rfl
     rintro e w7⟨⟨v,rfl,hv⟩,hp7,hb7⟩
     obtain⟨la9,ln9,lc9,ka,kn,kc,rfl⟩:=TyVal.open6 hv
     have hb57:But P W5 w7:=HB6.out.trans hb7
     have hx9:Blk w7 w.heap.size z6 28:=(hb57.block _ (lL hs1 HB5.out.size) (Nat.ne_of_gt HPW.out)).trans ((HB5.out.block _ hs1 (Nat.ne_of_gt HPW.out) (fun e=>by
      have:=(HOW.out _).1 e
      rcases this with h|h|h|h
      ·omega
      ·omega
      ·omega
      ·obtain⟨_,_,_,la',ln',lc',xLb,hrow,_⟩:=HST0.out
       have e2:=(Qu xLb).symm.trans ((HB1.out.cell (p:=⟨Lb,0,none⟩) HLL).symm.trans (Qu HXL.out))
       rw[<-Option.some.inj e2] at h
       have:=hrow.lt _ h;omega)).trans HX1.out)
     obtain⟨⟨q0,q1,q2,q3,q4,q5⟩,z0,z1,z2,z3,z4,z5⟩:=c6 hx9
     have HX9:=hid hx9
     have HV:=hid hv
     have HP7:=hid hp7
     have HB57:=hid hb57
     have HZ6:=hid HB6.out.size
     clear hx9 hv hp7 hb7 hb57 henv6
     go_wp2_with fail
     have hx8:=ZB HX9.out (.int .i64 t.k) (.int .i64 t.p) (.string t.n) (.int .i64 t.s) (.slice la9 ln9 lc9) (.slice ka kn kc)
     obtain⟨⟨y0,y1,y2,y3,y4,y5⟩,-⟩:=c6 hx8
     refine bodyPost_ret (v:= .agg (cT t la9 ln9 lc9 ka kn kc)) (by simp[results,Tryz.results145,go_sem,y0,y1,y2,y3,y4,y5]) rfl ?_
     have hX:w.heap.size<W5.heap.size:=lL hs1 HB5.out.size
     have hnX:∀k,Jf Pb Rb Lb W5 k->k≠w.heap.size:=fun k hk e=>by
      rcases HO5.out k hk with h|h
      ·have:=(ZA h1b h2b h3b (by omega)).lt HST0.out h;omega
      ·omega
     have hoth:∀k,k≠w.heap.size->(put6 w7 w.heap.size (.int .i64 t.k) (.int .i64 t.p) (.string t.n) (.int .i64 t.s) (.slice la9 ln9 lc9) (.slice ka kn kc)).heap[k]? =w7.heap[k]? :=fun k hk=>ZS hk (.int .i64 t.k) (.int .i64 t.p) (.string t.n) (.int .i64 t.s) (.slice la9 ln9 lc9) (.slice ka kn kc)
     have hsz:(put6 w7 w.heap.size (.int .i64 t.k) (.int .i64 t.p) (.string t.n) (.int .i64 t.s) (.slice la9 ln9 lc9) (.slice ka kn kc)).heap.size=w7.heap.size:=Yu _ _ (.int .i64 t.k) (.int .i64 t.p) (.string t.n) (.int .i64 t.s) (.slice la9 ln9 lc9) (.slice ka kn kc)
     have hst9:=(ZA h1b h2b h3b (by omega)).keep (HST5.out t) (W':=put6 w7 w.heap.size (.int .i64 t.k) (.int .i64 t.p) (.string t.n) (.int .i64 t.s) (.slice la9 ln9 lc9) (.slice ka kn kc)) (by rw[hsz];exact HB57.out.size) (fun k hk=>(hoth k (hnX k hk)).trans (HB57.out.block k (HLT5.out k hk).1 (HLT5.out k hk).2))
     rw[e5]
     refine⟨⟨_,rfl,?_⟩,HP7.out.oth (X:=w.heap.size) hoth hsz (Nat.ne_of_gt HPW.out) htb0,hst9.1,?_,?_⟩
     ·refine lyTy.mono (fun j hj=>?_) (GTy.put6 HV.out (show w.heap.size<w6.heap.size by have:=HB6.out.size;omega) (.int .i64 t.k) (.int .i64 t.p) (.string t.n) (.int .i64 t.s) (.slice la9 ln9 lc9) (.slice ka kn kc))
      have:=HBW5.out.size
      refine⟨by have:=HB6.out.size;omega,hj.2,fun e=>?_⟩
      have:=HLT5.out j ((hst9.2 j).1 e)
      have:=HB6.out.size
      omega
     ·exact(((((((HBW5.out.trans (HB57.out.o (fun _=>False)) (fun _ h=>h.elim)).setX lR 0 _).setX lR 1 _).setX lR 2 _).setX lR 3 _).setX lR 4 _).setX lR 5 _)
     ·intro k hk
      exact(HO5.out k ((hst9.2 k).1 hk)).imp_right (fun h=>by omega)
def YP(P tb:Nat)(E:Int)(Pb Rb Lb base:Nat)(TR:TypeId)(FR:Value)(xs:List (ByteArray×Pr))(w:World)(r:PR (ByteArray×Pr))(e:Ending)(w':World):Prop:=match r with
 | .ok x r=>(∃v,e= .returned v/\(fun B w v p=>PrVal B w v p) (fun k=>w.heap.size<=k/\k<w'.heap.size/\¬Jf Pb Rb Lb w' k) w' v x.2)/\PaIs P tb E r w'/\XC P Pb Rb Lb base TR FR (xs++[x]) w'/\ButO P (Jf Pb Rb Lb w) w w'/\∀k,Jf Pb Rb Lb w' k->Jf Pb Rb Lb w k\/w.heap.size<=k
 | .bad err r=>e= .panicked (YT err (posE E r))/\ButO P (Jf Pb Rb Lb w) w w'
theorem Wn(P tb:Nat)(E:Int)(B:Nat)(hBP:B<=P)(Pb Rb Lb base:Nat)(TR:TypeId)(h1b:P<Pb)(h2b:P<Rb)(h3b:P<Lb)(h12:Pb≠Lb)(h23:Rb≠Lb)(hbb:Lb<base/\Pb<base/\Rb<base)(htb:tb<base)(ht1:tb≠Lb)(fr:Nat)(bs cs:Array Value)(eg:∀args w,(callFunc fr args).run Tryz.prog w= .ok (.enter fr args) w)(FR:Value)(hFR:FR= .func (.func fr) bs cs)
 (S:List Tk->PR Pr) (n:Nat) (hS:∀(ts:List Tk) (W:World),ts.length<n->Env B W->PaIs P tb E ts W->Calls Tryz.prog fr (bs++cs) W (Parsed P tb E W (S ts) (GPr W.heap.size)))
 (xs:List (ByteArray×Pr)) (ts:List Tk) (w:World) (hn:ts.length<n) (hxl:xs.length<=1000000) (he:Env B w) (h:PaIs P tb E ts w) (hst:XC P Pb Rb Lb base TR FR xs w):
 Calls Tryz.prog 152 #[.pointer (some ⟨Lb,0,none⟩),.pointer (some ⟨Pb,0,none⟩),.pointer (some ⟨Rb,0,none⟩)] w (YP P tb E Pb Rb Lb base TR FR xs w (QX Qb S ts)):=by
 subst hFR
 obtain⟨W1,hW1⟩:∃W1,w.alloc (.cells z12 31)=W1:=⟨_,rfl⟩
 have hb1:=(made hW1).1
 have x1:=(made hW1).2
 have hs1:w.heap.size<W1.heap.size:=(gl x1)
 have hP:P<w.heap.size:=h.lt
 have htb0:tb≠w.heap.size:=Nat.ne_of_lt h.tlt
 have HTB:=hid h.tlt
 have HP:Hid (PaIs P tb E ts W1):=hid (h.to hb1)
 have HB:Hid (But P W1 W1):=hid (But.refl _ _)
 have HW1:=hid hW1
 have HB1:=hid hb1
 have HX1:=hid x1
 have HE:=hid (he.to hb1)
 have hst0:=hst
 obtain⟨hbw,xPb,xRb,la,ln,lc,xLb,hrow,hsz⟩:=hst
 have HPL:=(gl xPb)
 have HRL:=(gl xRb)
 have HLL:=(gl xLb)
 have HXL:=hid ((hb1.block Lb HLL).trans xLb)
 have HLBL:Hid (Lb<W1.heap.size):=hid (by omega)
 have HLAB:Hid (∀W,But P W1 W->W.cell? ⟨Lb,0,none⟩=some (.slice la ln lc)/\W.cell? ⟨Pb,0,none⟩=some (.pointer (some ⟨P,0,none⟩))/\W.cell? ⟨Rb,0,none⟩=some (.func (.func fr) bs cs)):=hid (fun W hW=>⟨Qu ((hW.block Lb (by omega) (by omega)).trans ((hb1.block Lb HLL).trans xLb)),Qu ((hW.block Pb (by omega) (by omega)).trans ((hb1.block Pb HPL).trans xPb)),Qu ((hW.block Rb (by omega) (by omega)).trans ((hb1.block Rb HRL).trans xRb))⟩)
 have HROW:Hid (∀W,But P W1 W->GRow 9 1 base W (.slice la ln lc) ((xs.map (·.1)).map Jc)):=hid (fun W hW=>(hrow.to hb1).kept (fun k hk=>hW.block k ((hrow.to hb1).lt k hk).2 (by have:=(hrow.lt k hk).1;omega)))
 have HBASE:Hid (base<=W1.heap.size):=hid (by omega)
 have HST0:=hid hst0
 have HSZ:=hid hsz
 have HS:=hid hS
 have hcl:=Qu xLb
 have HOW:Hid (∀k,Jf Pb Rb Lb w k↔k=Pb\/k=Rb\/k=Lb\/(Value.slice la ln lc).ownBlock=some k):=hid (fun k=>Vv hcl k hst0)
 clear hW1 hb1 x1 he h hst0 xPb xRb xLb hrow hsz hS hcl
 unfold QX
 cases h1:Qk Qb ts with
 |bad er r=>
  have FIN:∀ {wn:World},But P W1 wn->ButO P (Jf Pb Rb Lb w) w wn:=fun {wn} hb=>((But.of HB1.out).trans hb).o _
  show Calls _ _ _ _ (YP P tb E Pb Rb Lb base TR _ xs w (PR.bad er r))
  go_enter Tryz.func152,Tryz.ntmps152
  go_upto_region 1 with fail
  rw[HW1.out]
  refine wp_region_held_drew (S:=fun _=>True) (by kernel_rfl) trivial (fun hHeld=>?_)
  refine QY [0,1,2,3,4,5] (Rail [(4,0),(2,1)] [(0,.slice la ln lc),(1,.pointer (some ⟨P,0,none⟩))] [(2,fun _ _=>False),(3,fun _ _=>False),(4,fun _ _=>False),(5,fun _ _=>False)] (fun W=>W=W1.drew)) (by kernel_rfl) (by kernel_rfl) (fun _ _ _ _=>trivial) (Rail.start (S0:=fun W=>W=W1.drew) rfl _) ?stepsb ?stopb
  case stepsb=>
   refine fC ⟨?_,fC ⟨?_,fC ⟨?_,fC ⟨?_,fC ⟨?_,fC ⟨?_,fN⟩⟩⟩⟩⟩⟩
   ·refine InvStep.lst 0 [] ZR (fun L vals olds wx hLk hdeps hRl K hK2=>?_)
    simp only[Qs,setD,sS,sZ] at hK2 |-
    clear hdeps
    have cl:=(HLAB.out wx (hRl.before 2 0 (I:=fun W=>But P W1 W) rfl rfl hLk (fun e=>by rw[e];exact(But.refl P W1).drew) (fC ⟨fun v h=>(by exact h.elim),fC ⟨fun v h=>(by exact h.elim),fN⟩⟩))).1
    go_simp
    clear cl
    exact hK2 _ _ (hRl.pure 0 _ rfl fN (fC ⟨rfl,fN⟩))
   ·refine InvStep.lst 1 [] ZR (fun L vals olds wx hLk hdeps hRl K hK2=>?_)
    simp only[Qs,setD,sS,sZ] at hK2 |-
    clear hdeps
    have cl:=(HLAB.out wx (hRl.before 0 1 (I:=fun W=>But P W1 W) rfl rfl hLk (fun e=>by rw[e];exact(But.refl P W1).drew) fN)).2.1
    go_simp
    clear cl
    exact hK2 _ _ (hRl.pure 1 _ rfl fN (fC ⟨rfl,fN⟩))
   ·refine InvStep.lst 2 [1] ZR (fun L vals olds wx hLk hdeps hRl K hK2=>?_)
    simp only[Qs,setD,sS,sZ] at hK2 |-
    simp only[List.all_cons,List.all_nil,Bool.and_true] at hdeps
    have es:=(Qe (vals:=vals) (olds:=olds) hdeps).trans (hRl.val 1 rfl hdeps)
    simp only[es] at hK2 |-
    clear es
    obtain⟨hc,hn⟩:=hRl.stat 0 rfl hLk trivial rfl (fC ⟨hdeps,fN⟩) rfl
    dsimp only[QR,List.take] at hc
    subst hc
    go_simp
    refine(Ya P tb E _ B _ (HE.out.but (But.refl P W1).drew hBP) (HP.out.to bR.drew)).mono ?_
    rw[h1]
    rintro en wn⟨rfl,hb⟩
    dsimp only
    exact⟨rfl,rfl,FIN ((But.refl P W1).drew.trans hb)⟩
   ·refine InvStep.lst 3 [2] ZR (fun L vals olds wx hLk hdeps hRl K hK2=>?_)
    simp only[Qs,setD,sS,sZ] at hK2 |-
    simp only[List.all_cons,List.all_nil,Bool.and_true] at hdeps
    obtain⟨hc,hn⟩:=hRl.stat 1 rfl hLk hdeps rfl fN rfl
    dsimp only[QR,List.take] at hc
   ·refine InvStep.lst 4 [0,3] ZR (fun L vals olds wx hLk hdeps hRl K hK2=>?_)
    simp only[Qs,setD,sS,sZ] at hK2 |-
    simp only[List.all_cons,List.all_nil,Bool.and_true,Bool.and_eq_true] at hdeps
    obtain⟨hc,hn⟩:=hRl.stat 2 rfl hLk hdeps.2 rfl (fC ⟨hdeps.1,fN⟩) rfl
    dsimp only[QR,List.take] at hc
   ·refine InvStep.lst 5 [4] ZR (fun L vals olds wx hLk hdeps hRl K hK2=>?_)
    simp only[Qs,setD,sS,sZ] at hK2 |-
    simp only[List.all_cons,List.all_nil,Bool.and_true] at hdeps
    obtain⟨hc,hn⟩:=hRl.stat 3 rfl hLk hdeps rfl fN rfl
    dsimp only[QR,List.take] at hc
  case stopb=>
   refine JI [(0,some 4),(1,some 5),(2,some 6),(3,some 7),(4,some 8),(5,none)] (by kernel_rfl) (by decide) (fun L vals olds W5 hall hRl=>?_)
   have hfin:=hRl.fin (by simp at hall |-;simp[hall])
   dsimp only[QR] at hfin
 |ok nm r1=>
  have hl1:r1.length<n:=by have:=QJ h1;omega
  have POST:∀(W3 w4 W5:World) (ga:Option Addr) (gn gc:Nat),PaIs P tb E r1 W3->But P W1 W3->GRow 9 1 base w4 (.slice ga gn gc) ((xs.map (·.1)).map Jc++[Jc nm])->W3.grownBy w4 (Value.slice la ln lc).ownBlock->((Value.slice ga gn gc).ownBlock=(Value.slice la ln lc).ownBlock\/(Value.slice ga gn gc).ownBlock=some W3.heap.size)->w4.setCell ⟨Lb,0,none⟩ (.slice ga gn gc)=W5->nm.size<=maxLen->
   PaIs P tb E r1 W5/\(∀x:Pr,XC P Pb Rb Lb base TR (.func (.func fr) bs cs) (xs++[(nm,x)]) W5)/\ButO P (Jf Pb Rb Lb w) W1 W5/\(∀k,Jf Pb Rb Lb W5 k->Jf Pb Rb Lb w k\/W1.heap.size<=k):=by
   intro W3 w4 W5 ga gn gc hp3 hb3 hr4 hg4 hq4 hW5 hnz
   subst hW5
   have hown:∀k,(Value.slice la ln lc).ownBlock=some k->base<=k/\k<W3.heap.size:=fun k hk=>(HROW.out W3 hb3).lt k hk
   have hown2:∀k,(Value.slice ga gn gc).ownBlock=some k->base<=k:=fun k hk=>(hr4.lt k hk).1
   have hoth:∀k,k≠Lb->(w4.setCell ⟨Lb,0,none⟩ (.slice ga gn gc)).heap[k]? =w4.heap[k]? :=fun k hk=>Below.heap_setCell _ _ _ k hk
   have hsz5:(w4.setCell ⟨Lb,0,none⟩ (.slice ga gn gc)).heap.size=w4.heap.size:=by simp[World.setCell]
   have blk:∀k,k<W1.heap.size->k≠P->some k≠(Value.slice la ln lc).ownBlock->w4.heap[k]? =W1.heap[k]? :=fun k hk hp hr=>(hg4.block k (lL hk hb3.size) hr).trans (hb3.block k hk hp)
   obtain⟨_,xPb,xRb,la',ln',lc',xLb,_,hsz⟩:=HST0.out
   have xP5:(w4.setCell ⟨Lb,0,none⟩ (.slice ga gn gc)).heap[Pb]? =_:=(hoth Pb h12).trans ((blk Pb (by omega) (by omega) (fun e=>by have:=hown Pb e.symm;omega)).trans ((HB1.out.block Pb HPL).trans xPb))
   have xR5:(w4.setCell ⟨Lb,0,none⟩ (.slice ga gn gc)).heap[Rb]? =_:=(hoth Rb h23).trans ((blk Rb (by omega) (by omega) (fun e=>by have:=hown Rb e.symm;omega)).trans ((HB1.out.block Rb HRL).trans xRb))
   have xL4:Blk w4 Lb #[.slice la ln lc] 24:=(blk Lb HLBL.out (by omega) (fun e=>by have:=hown Lb e.symm;omega)).trans HXL.out
   have xL5:=Qd xL4 0 (.slice ga gn gc)
   have hz:base<=w4.heap.size:=lT HBASE.out (lT hb3.size hg4.size)
   refine⟨(hp3.grown hg4 (fun e=>by have:=hown P e.symm;omega) (fun e=>by have:=hown tb e.symm;omega)).oth (X:=Lb) hoth hsz5 (by omega) ht1,fun x=>⟨by omega,xP5,xR5,ga,gn,gc,xL5,?_,?_⟩,⟨?_,?_,?_,?_,?_⟩,?_⟩
   ·rw[List.map_append,List.map_append]
    exact hr4.kept (fun k hk=>hoth k (fun e=>by have:=hown2 k hk;omega))
   ·intro y hy
    rcases List.mem_append.1 hy with hy|hy
    ·exact hsz y hy
    ·rw[mS hy];exact hnz
   ·exact hg4.os.trans hb3.os
   ·exact hg4.tape.trans hb3.tape
   ·exact hg4.output.trans hb3.output
   ·have:=hb3.size;have:=hg4.size;omega
   ·intro k hk hp ho
    refine(hoth k (fun e=>ho ((HOW.out k).2 (.inr (.inr (.inl e)))))).trans (blk k hk hp (fun e=>ho ((HOW.out k).2 (.inr (.inr (.inr e.symm))))))
   ·intro k hk
    have hcl:=Qu xL5
    simp only[Jf,hcl,Option.some.injEq,exists_eq_left'] at hk
    rcases hk with rfl|rfl|rfl|hk
    ·exact .inl ((HOW.out _).2 (.inl rfl))
    ·exact .inl ((HOW.out _).2 (.inr (.inl rfl)))
    ·exact .inl ((HOW.out _).2 (.inr (.inr (.inl rfl))))
    ·rcases hq4 with hq|hq
     ·exact .inl ((HOW.out _).2 (.inr (.inr (.inr (hq.symm.trans hk)))))
     ·rw[hq] at hk
      obtain rfl:=Option.some.inj hk
      exact .inr hb3.size
  show Calls _ _ _ _ (YP P tb E Pb Rb Lb base TR _ xs w ((need QB r1).bind fun _ r=>(S r).bind fun x r=> .ok (nm,x) r))
  have HPW:=hid hP
  go_enter Tryz.func152,Tryz.ntmps152
  go_upto_region 1 with fail
  rw[HW1.out]
  refine wp_region_held_drew (S:=fun _=>True) (by kernel_rfl) trivial (fun hHeld=>?_)
  refine QY [0,1,2,3,4,5] (Rail [(4,0),(2,1)] [(0,.slice la ln lc),(1,.pointer (some ⟨P,0,none⟩))] [(2,fun v W=>v= .string nm/\nm.size<=maxLen/\PaIs P tb E r1 W/\But P W1 W),(3,fun v W=>∃nb:Nat,v= .slice (some ⟨nb,0,none⟩) 1 1/\nm.size<=maxLen/\PaIs P tb E r1 W/\But P W1 W/\Blk W nb #[.string nm] 9),(4,fun v W=>∃(ga:Option Addr) (gn gc:Nat) (W3:World),v= .slice ga gn gc/\nm.size<=maxLen/\PaIs P tb E r1 W3/\But P W1 W3/\GRow 9 1 base W (.slice ga gn gc) ((xs.map (·.1)).map Jc++[Jc nm])/\W3.grownBy W (Value.slice la ln lc).ownBlock/\((Value.slice ga gn gc).ownBlock=(Value.slice la ln lc).ownBlock\/(Value.slice ga gn gc).ownBlock=some W3.heap.size)),(5,fun _ W=>(PaIs P tb E r1 W/\(∀x:Pr,XC P Pb Rb Lb base TR (.func (.func fr) bs cs) (xs++[(nm,x)]) W)/\ButO P (Jf Pb Rb Lb w) W1 W/\(∀k,Jf Pb Rb Lb W k->Jf Pb Rb Lb w k\/W1.heap.size<=k)))] (fun W=>W=W1.drew)) (by kernel_rfl) (by kernel_rfl) (fun _ _ _ _=>trivial) (Rail.start (S0:=fun W=>W=W1.drew) rfl _) ?stepsk ?stopk
  case stepsk=>
   refine fC ⟨?_,fC ⟨?_,fC ⟨?_,fC ⟨?_,fC ⟨?_,fC ⟨?_,fN⟩⟩⟩⟩⟩⟩
   ·refine InvStep.lst 0 [] ZR (fun L vals olds wx hLk hdeps hRl K hK2=>?_)
    simp only[Qs,setD,sS,sZ] at hK2 |-
    clear hdeps
    have cl:=(HLAB.out wx (hRl.before 2 0 (I:=fun W=>But P W1 W) rfl rfl hLk (fun e=>by rw[e];exact(But.refl P W1).drew) (fC ⟨fun v h=>(by obtain⟨_,_,_,h⟩:=h;exact h),fC ⟨fun v h=>(by obtain⟨_,_,_,_,h,_⟩:=h;exact h),fN⟩⟩))).1
    go_simp
    clear cl
    exact hK2 _ _ (hRl.pure 0 _ rfl fN (fC ⟨rfl,fN⟩))
   ·refine InvStep.lst 1 [] ZR (fun L vals olds wx hLk hdeps hRl K hK2=>?_)
    simp only[Qs,setD,sS,sZ] at hK2 |-
    clear hdeps
    have cl:=(HLAB.out wx (hRl.before 0 1 (I:=fun W=>But P W1 W) rfl rfl hLk (fun e=>by rw[e];exact(But.refl P W1).drew) fN)).2.1
    go_simp
    clear cl
    exact hK2 _ _ (hRl.pure 1 _ rfl fN (fC ⟨rfl,fN⟩))
   ·refine InvStep.lst 2 [1] ZR (fun L vals olds wx hLk hdeps hRl K hK2=>?_)
    simp only[Qs,setD,sS,sZ] at hK2 |-
    simp only[List.all_cons,List.all_nil,Bool.and_true] at hdeps
    have es:=(Qe (vals:=vals) (olds:=olds) hdeps).trans (hRl.val 1 rfl hdeps)
    simp only[es] at hK2 |-
    clear es
    obtain⟨hc,hn⟩:=hRl.stat 0 rfl hLk trivial rfl (fC ⟨hdeps,fN⟩) rfl
    dsimp only[QR,List.take] at hc
    subst hc
    go_simp
    refine(Ya P tb E _ B _ (HE.out.but (But.refl P W1).drew hBP) (HP.out.to bR.drew)).mono ?_
    rw[h1]
    rintro en wn⟨⟨_,rfl,rfl,hnz⟩,hp,hb⟩
    dsimp only
    exact hK2 _ _ (hn _ _ ⟨rfl,hnz,hp,(But.refl P W1).drew.trans hb⟩)
   ·refine InvStep.lst 3 [2] ZR (fun L vals olds wx hLk hdeps hRl K hK2=>?_)
    simp only[Qs,setD,sS,sZ] at hK2 |-
    simp only[List.all_cons,List.all_nil,Bool.and_true] at hdeps
    obtain⟨hc,hn⟩:=hRl.stat 1 rfl hLk hdeps rfl fN rfl
    dsimp only[QR,List.take] at hc
    obtain⟨e3,hnz,hp,hb⟩:=hc
    have es:=(Qe (vals:=vals) (olds:=olds) hdeps).trans e3
    simp only[es] at hK2 |-
    clear es e3
    go_simp
    obtain⟨W3,hW3⟩:∃W3,wx.alloc (.cells #[.string nm] 9)=W3:=⟨_,rfl⟩
    have hb3:=(made hW3).1
    have x3:=(made hW3).2
    rw[hW3]
    exact hK2 _ _ (hn _ _ ⟨wx.heap.size,rfl,hnz,hp.to hb3,hb.to hb3,x3⟩)
   ·refine InvStep.lst 4 [0,3] ZR (fun L vals olds wx hLk hdeps hRl K hK2=>?_)
    simp only[Qs,setD,sS,sZ] at hK2 |-
    simp only[List.all_cons,List.all_nil,Bool.and_true,Bool.and_eq_true] at hdeps
    obtain⟨hc,hn⟩:=hRl.stat 2 rfl hLk hdeps.2 rfl (fC ⟨hdeps.1,fN⟩) rfl
    dsimp only[QR,List.take] at hc
    obtain⟨nb,e3,hnz,hp,hb,x3⟩:=hc
    refine Za (ops:=#[]) rfl (Zb Uv (by rfl) _ _ (by rfl) (by exact(Qe (vals:=vals) (olds:=olds) hdeps.1).trans (hRl.val 0 rfl hdeps.1)) (HROW.out wx hb) (some ⟨nb,0,none⟩) 1 1 [Jc nm] (by exact(Qe (vals:=vals) (olds:=olds) hdeps.2).trans e3) rfl (fun e he=>by rw[mS he];rfl) (JY x3) (fun e he u hu=>by rw[mS he] at hu;rw[mS hu];rfl) (by rw[List.length_map,List.length_map,List.length_singleton];omega) (lT HBASE.out hb.size) _ rfl (fun ga gn gc w4 hr4 hg4 hq4=>?_))
    exact hK2 _ _ (hn _ _ ⟨ga,gn,gc,wx,rfl,hnz,hp,hb,hr4,hg4,hq4⟩)
   ·refine InvStep.lst 5 [4] ZR (fun L vals olds wx hLk hdeps hRl K hK2=>?_)
    simp only[Qs,setD,sS,sZ] at hK2 |-
    simp only[List.all_cons,List.all_nil,Bool.and_true] at hdeps
    obtain⟨hc,hn⟩:=hRl.stat 3 rfl hLk hdeps rfl fN rfl
    dsimp only[QR,List.take] at hc
    obtain⟨ga,gn,gc,W3,e4,hnz,hp3,hb3,hr4,hg4,hq4⟩:=hc
    have es:=(Qe (vals:=vals) (olds:=olds) hdeps).trans e4
    have x4:Blk wx Lb #[.slice la ln lc] 24:=(hg4.block Lb (lL HLBL.out hb3.size) (fun e=>by have:=((HROW.out W3 hb3).lt Lb e.symm).1;omega)).trans ((hb3.block Lb HLBL.out (by omega)).trans HXL.out)
    have cl:=Qu x4
    have fz:=Qc x4 0
    simp only[es] at hK2 |-
    have HH:=hid (POST W3 wx _ ga gn gc hp3 hb3 hr4 hg4 hq4 rfl hnz)
    clear es e4 x4 hp3 hb3 hr4 hg4 hq4
    go_simp
    clear cl fz
    exact hK2 undef _ (hn _ _ HH.out)
  case stopk=>
   refine JI [(0,some 4),(1,some 5),(2,some 6),(3,some 7),(4,some 8),(5,none)] (by kernel_rfl) (by decide) (fun L vals olds W5 hall hRl=>?_)
   have hfin:=hRl.fin (by simp at hall |-;simp[hall])
   dsimp only[QR] at hfin
   clear hRl hall hHeld
   simp only[Qs,sS,sZ]
   obtain⟨s0,hs0⟩:∃s,QA L vals olds 0=s:=⟨_,rfl⟩
   rw[hs0]
   clear hs0
   obtain⟨s1,hs1⟩:∃s,QA L vals olds 1=s:=⟨_,rfl⟩
   rw[hs1]
   clear hs1
   obtain⟨s2,hs2⟩:∃s,QA L vals olds 2=s:=⟨_,rfl⟩
   rw[hs2]
   clear hs2
   obtain⟨s3,hs3⟩:∃s,QA L vals olds 3=s:=⟨_,rfl⟩
   rw[hs3]
   clear hs3
   obtain⟨s4,hs4⟩:∃s,QA L vals olds 4=s:=⟨_,rfl⟩
   rw[hs4]
   clear hs4
   obtain⟨hp5,hst5,hb5,ho5⟩:=hfin
   have hb1n:=HB1.out
   have hbw5:ButO P (Jf Pb Rb Lb w) w W5:=(But.of (P:=P) hb1n).o (Jf Pb Rb Lb w) |>.trans hb5 (fun k hk=> .inl hk)
   have cP:=Qu (hst5 default).2.1
   have HP5:=hid hp5
   have HST5:=hid hst5
   have HBW5:=hid hbw5
   have HB5:=hid hb5
   have HO5:=hid ho5
   have HLT5:Hid (∀k,Jf Pb Rb Lb W5 k->k<W5.heap.size/\k≠P):=hid (fun k hk=>(ZA h1b h2b h3b (by omega)).lt (hst5 default) hk)
   clear hp5 hst5 hbw5 hb5 ho5 hb1n
   cases h2:need QB r1 with
   |bad er r2=>
    have e5:((need QB r1).bind fun _ r=>(S r).bind fun x r=>PR.ok (nm,x) r)=PR.bad er r2:=by rw[h2];rfl
    go_wp2_with (go_at_call 52;refine(Qv P tb E _ (by decide+kernel) _ _ HP5.out).mono ?_;rw[h2];rintro en w6⟨rfl,hb⟩;have HB6:=hid hb;clear hb)
    exact⟨rfl,by rw[e5];exact⟨rfl,HBW5.out.trans (HB6.out.o (fun _=>False)) (fun _ h=>h.elim)⟩⟩
   |ok un2 r2=>
    have hl2:r2.length<n:=by have:=Qp h2;omega
    go_wp2_with (go_at_call 52;refine(Qv P tb E _ (by decide+kernel) _ _ HP5.out).mono ?_;rw[h2];rintro en w6⟨⟨_,rfl,_⟩,hp,hb⟩;have HP6:=hid hp;have HB6:=hid hb;have cR:=Qu ((ZA h1b h2b h3b (by omega)).but (HST5.out default) hb).1.2.2.1;clear hp hb)
    have henv6:Env B w6:=HE.out.below ((HB5.out.trans (HB6.out.o (fun _=>False)) (fun _ h=>h.elim)).below hBP (fun k hk=>by
     have:=(HOW.out k).1 hk
     rcases this with h|h|h|h
     ·omega
     ·omega
     ·omega
     ·have:=(HROW.out W1 (But.refl _ _)).lt k h;omega) HE.out.size)
    refine(HS.out r2 w6 hl2 henv6 HP6.out).mono ?_
    cases h3:S r2 with
    |bad er r3=>
     have e5:((need QB r1).bind fun _ r=>(S r).bind fun x r=>PR.ok (nm,x) r)=PR.bad er r3:=by rw[h2];show(S r2).bind _=_;rw[h3];rfl
     rintro e w7⟨rfl,hb7⟩
     exact⟨rfl,by rw[e5];exact⟨rfl,HBW5.out.trans ((HB6.out.trans hb7).o (fun _=>False)) (fun _ h=>h.elim)⟩⟩
    |ok t r3=>
     have e5:((need QB r1).bind fun _ r=>(S r).bind fun x r=>PR.ok (nm,x) r)=PR.ok (nm,t) r3:=by rw[h2];show(S r2).bind _=_;rw[h3];rfl
     rintro e w7⟨⟨v,rfl,hv⟩,hp7,hb7⟩
     obtain⟨la9,ln9,lc9,aa,an,ac,ta,tn,tc,ua,un,uc,ka,kn,kc,rfl⟩:=PrVal.open hv
     have hb57:But P W5 w7:=HB6.out.trans hb7
     have hx9:Blk w7 w.heap.size z12 31:=(hb57.block _ (lL hs1 HB5.out.size) (Nat.ne_of_gt HPW.out)).trans ((HB5.out.block _ hs1 (Nat.ne_of_gt HPW.out) (fun e=>by
      have:=(HOW.out _).1 e
      rcases this with h|h|h|h
      ·omega
      ·omega
      ·omega
      ·obtain⟨_,_,_,la',ln',lc',xLb,hrow,_⟩:=HST0.out
       have e2:=(Qu xLb).symm.trans ((HB1.out.cell (p:=⟨Lb,0,none⟩) HLL).symm.trans (Qu HXL.out))
       rw[<-Option.some.inj e2] at h
       have:=hrow.lt _ h;omega)).trans HX1.out)
     obtain⟨⟨q0,q1,q2,q3,q4,q5,q6,q7,q8,q9,q10,q11⟩,z0,z1,z2,z3,z4,z5,z6,z7,z8,z9,z10,z11⟩:=c12p hx9
     have HX9:=hid hx9
     have HV:=hid hv
     have HP7:=hid hp7
     have HB57:=hid hb57
     have HZ6:=hid HB6.out.size
     clear hx9 hv hp7 hb7 hb57 henv6
     go_wp2_with fail
     have hx8:=JZ HX9.out (.int .i64 t.k) (.string t.c) (.string t.x) (.slice la9 ln9 lc9) (.slice aa an ac) (.int .i64 t.t.k) (.int .i64 t.t.p) (.string t.t.n) (.int .i64 t.t.s) (.slice ta tn tc) (.slice ua un uc) (.slice ka kn kc)
     obtain⟨⟨y0,y1,y2,y3,y4,y5,y6,y7,y8,y9,y10,y11⟩,-⟩:=c12p hx8
     refine bodyPost_ret (v:= .agg (gP t la9 ln9 lc9 aa an ac ta tn tc ua un uc ka kn kc)) (by simp[results,Tryz.results152,go_sem,y0,y1,y2,y3,y4,y5,y6,y7,y8,y9,y10,y11]) rfl ?_
     have hX:w.heap.size<W5.heap.size:=lL hs1 HB5.out.size
     have hnX:∀k,Jf Pb Rb Lb W5 k->k≠w.heap.size:=fun k hk e=>by
      rcases HO5.out k hk with h|h
      ·have:=(ZA h1b h2b h3b (by omega)).lt HST0.out h;omega
      ·omega
     have hoth:∀k,k≠w.heap.size->(put12 w7 w.heap.size (.int .i64 t.k) (.string t.c) (.string t.x) (.slice la9 ln9 lc9) (.slice aa an ac) (.int .i64 t.t.k) (.int .i64 t.t.p) (.string t.t.n) (.int .i64 t.t.s) (.slice ta tn tc) (.slice ua un uc) (.slice ka kn kc)).heap[k]? =w7.heap[k]? :=fun k hk=>QN hk (.int .i64 t.k) (.string t.c) (.string t.x) (.slice la9 ln9 lc9) (.slice aa an ac) (.int .i64 t.t.k) (.int .i64 t.t.p) (.string t.t.n) (.int .i64 t.t.s) (.slice ta tn tc) (.slice ua un uc) (.slice ka kn kc)
     have hsz:(put12 w7 w.heap.size (.int .i64 t.k) (.string t.c) (.string t.x) (.slice la9 ln9 lc9) (.slice aa an ac) (.int .i64 t.t.k) (.int .i64 t.t.p) (.string t.t.n) (.int .i64 t.t.s) (.slice ta tn tc) (.slice ua un uc) (.slice ka kn kc)).heap.size=w7.heap.size:=QF _ _ (.int .i64 t.k) (.string t.c) (.string t.x) (.slice la9 ln9 lc9) (.slice aa an ac) (.int .i64 t.t.k) (.int .i64 t.t.p) (.string t.t.n) (.int .i64 t.t.s) (.slice ta tn tc) (.slice ua un uc) (.slice ka kn kc)
     have hst9:=(ZA h1b h2b h3b (by omega)).keep (HST5.out t) (W':=put12 w7 w.heap.size (.int .i64 t.k) (.string t.c) (.string t.x) (.slice la9 ln9 lc9) (.slice aa an ac) (.int .i64 t.t.k) (.int .i64 t.t.p) (.string t.t.n) (.int .i64 t.t.s) (.slice ta tn tc) (.slice ua un uc) (.slice ka kn kc)) (by rw[hsz];exact HB57.out.size) (fun k hk=>(hoth k (hnX k hk)).trans (HB57.out.block k (HLT5.out k hk).1 (HLT5.out k hk).2))
     rw[e5]
     refine⟨⟨_,rfl,?_⟩,HP7.out.oth (X:=w.heap.size) hoth hsz (Nat.ne_of_gt HPW.out) htb0,hst9.1,?_,?_⟩
     ·refine lyPr.mono (fun j hj=>?_) (GPr.put12 HV.out (show w.heap.size<w6.heap.size by have:=HB6.out.size;omega) (.int .i64 t.k) (.string t.c) (.string t.x) (.slice la9 ln9 lc9) (.slice aa an ac) (.int .i64 t.t.k) (.int .i64 t.t.p) (.string t.t.n) (.int .i64 t.t.s) (.slice ta tn tc) (.slice ua un uc) (.slice ka kn kc))
      have:=HBW5.out.size
      refine⟨by have:=HB6.out.size;omega,hj.2,fun e=>?_⟩
      have:=HLT5.out j ((hst9.2 j).1 e)
      have:=HB6.out.size
      omega
     ·exact(((((((((((((HBW5.out.trans (HB57.out.o (fun _=>False)) (fun _ h=>h.elim)).setX lR 0 _).setX lR 1 _).setX lR 2 _).setX lR 3 _).setX lR 4 _).setX lR 5 _).setX lR 6 _).setX lR 7 _).setX lR 8 _).setX lR 9 _).setX lR 10 _).setX lR 11 _)
     ·intro k hk
      exact(HO5.out k ((hst9.2 k).1 hk)).imp_right (fun h=>by omega)
end Go.Proofs.YtmnbheplkidfaaaGreatDoor
